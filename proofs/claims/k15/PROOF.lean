import PyProof.Rows.All
import Wide.All
import OpenK.AllK
import Wide.FinOn
import HandS.ForMost
import HandS.Star
import HandS.NoneIn
import HandS.Property
import HandS.IsInst
import HandS.StrMore
import HandS.FStr
import HandS.DictComp
import HandS.Conv
import HandS.Evl
import HandS.Walk
import HandS.SortRule
import PyProof.Rows.SortKeyStr
import KE.GoesEnumKw
import HandS.Iter
import HandS.Strs
import HandS.SetFor
import KE.DatumOrd
import KE.KRevSl
import HandS.Style
import PyProof.Rows.StrRev
import KE.GoesMore
import PyProof.EnumMake
import HandS.TupAny
import HandS.OwnEq
import HandS.SetKeys
import HandS.TupLen
import HandS.ExcInit
import HandS.ExcOwn
import HandS.WordsExc
import HandS.TryOnly
import HandS.ExcIs
import HandS.ExcField
import HandS.Zip
import KE.KItemsList
import KE.KStar
import HandS.Flt
import HandS.ClsMeth
import HandS.TupLe
import HandS.TryMany
import PyProof.Rows.StrSplitJoin
import HandS.SetBool
import HandS.WideBits
import PySem.Challenge.RW_enoughpaid_k15_whole_rows_above
set_option Elab.async false
set_option linter.all false
set_option maxRecDepth 100000
set_option maxHeartbeats 4000000
namespace Bz
open PySem PySem.Spec PyProof.Rows L2
/-! ### a def that keeps its promise, with all that a caller asks -/
structure DefAt (K : PySem.W.Frag) (mg : PySem.Str → Option Value) (x : PySem.Str) (st : Stmt) (ps : List PySem.Str) : Prop where
  ex : ∃ f fd, Fun K x x st f fd ∧ mg x = some (.ref f) ∧ Binds K fd ps []
structure Keeps (P : Program) (w : World) (K : PySem.W.Frag) (mg : PySem.Str → Option Value) (base : Heap) (CX : CXT) (k : Nat) (x : PySem.Str) (ps : List PySem.Str) (sp : Sp) : Prop where
  ex : ∃ f fd, FnOk P w K mg base CX k f fd ps sp ∧ mg x = some (.ref f) ∧ PySem.W.keepIn K (.ref f) = true ∧ Binds K fd ps []
section
variable {P : Program} {w : World} {K : PySem.W.Frag} {mg : PySem.Str → Option Value} {base : Heap} {CX : CXT} {k : Nat} {x : PySem.Str} {st : Stmt} {ps : List PySem.Str} {sp : Sp}
theorem keeps_of (D : DefAt K mg x st ps) (h : ∀ f fd, Fun K x x st f fd → FnOk P w K mg base CX k f fd ps sp) : Keeps P w K mg base CX k x ps sp := by
  obtain ⟨f, fd, F, m, b⟩ := D.ex
  exact ⟨f, fd, h f fd F, m, F.kp, b⟩
/-- the plain way: no error leaves the def -/
theorem keeps0 {N : List PySem.Str} (D : DefAt K mg x st ps) (S : FnScope N ps (defScope st)) (len : ∀ vs H Q E, sp vs H Q E → vs.length = ps.length)
    (hbody : ∀ (f : Addr) (cdv : Value) (A : Around) (outer : List Env) (s : Shared) (H : Hp) (vs : List V) (Q : VK) (E : XK), Room k (A.deeper (envOfC x (defScope st) s.heap.objs.size f cdv)) → sp vs H Q E →
      ∃ t, PSs (cxOf CX0 P w K mg base N x (defScope st) f cdv A outer s H E).nox (defBody st) t ∧ t { nx := fun _ H' => Q .non H', rt := Q } (start N vs) H) : Keeps P w K mg base CX0 (k + 1) x ps sp :=
  keeps_of D fun f fd F => F.ok S len (hbody f)
end
section
variable {X : Cx} {k : Nat} {x : PySem.Str} {ps : List PySem.Str} {sp : Sp} {e : Expr} {es : List Expr} {p pos : Pos} {t : TA}
theorem pe_own {j : Nat} (F : Keeps X.prog X.w X.K X.mg X.base CX0 k x ps sp) (hr : Room j X.A) (ha : PA X (e :: es) t) (hj : k ≤ j := by decide) (hg : Gl X x := by rfl)
    (hdb : (x == ("__debug__" : PySem.Str)) = false := by decide) (he : starEach (e :: es) X.env = (false, eval e X.env) :: starEach es X.env := by rfl) (hpl : (backTo pos (starEach es X.env)).any (·.1) = false := by rfl) :
    PE X (.Call (.Name x p) (e :: es) [] pos) (tCall sp [] E0 t) := by
  obtain ⟨f, fd, G, m, kp, b⟩ := F.ex
  exact pe_call G (hr.mono hj) hg m kp b .nil pass0 ha hdb he hpl
end
/-! ### the rules that speak of the written part, with it told -/
section
variable (K : PySem.W.Frag) {X : Cx}
theorem kix_list (h : X.K = K := by rfl) : IxR X (rIxL K) := by subst h; exact ix_list
theorem kix_tup (h : X.K = K := by rfl) : IxR X (rIxT K) := by subst h; exact ix_tup
theorem kin_seq (h : X.K = K := by rfl) : OpR X (compareOp .In) (rIn K false) := by subst h; exact op_in_seq
theorem knotIn_seq (h : X.K = K := by rfl) : OpR X (compareOp .NotIn) (rIn K true) := by subst h; exact op_notIn_seq
theorem keqD (hu : X.A.units + 64 < cLine) (h : X.K = K := by rfl) : OpR X (compareOp .Eq) (rEqD K) := by subst h; exact op_eqD hu
theorem kneD (hu : X.A.units + 64 < cLine) (h : X.K = K := by rfl) : OpR X (compareOp .NotEq) (rNeD K) := by subst h; exact op_neD hu
theorem kcatT (h : X.K = K := by rfl) : OpR X (binaryOp .Add) (rCatT K) := by subst h; exact op_catT
theorem ksl_list (h : X.K = K := by rfl) : SlR X (rSlL K) := by subst h; exact sl_list
theorem ksl_tup (h : X.K = K := by rfl) : SlR X (rSlT K) := by subst h; exact sl_tup
def rLenK : List V → Hp → VK → Prop := fun xs H Q => ∃ x n, xs = [x] ∧ LenV K x H n ∧ Q (.int n) H
theorem kcall_len (h : X.K = K := by rfl) : CallR X (.builtin "len") (rLenK K) := by subst h; exact call_len
theorem kisi (h : X.K = K := by rfl) : CallR X (.builtin "isinstance") (rIsi K) := by subst h; exact call_isi
theorem kisiT (h : X.K = K := by rfl) : CallR X (.builtin "isinstance") (rIsiT K) := by subst h; exact call_isiT
def rTupOf : List V → Hp → VK → Prop := fun xs H Q => ∃ p ys, xs = [.ref p] ∧ ((SqL K H p ys ∧ ∀ l, H l = none → Q (.ref l) (upd H l (.tup ys))) ∨ (SqT K H p ys ∧ Q (.ref p) H))
theorem ktuple_of (h : X.K = K := by rfl) : CallR X (.type "tuple") (rTupOf K) := by subst h; exact call_tuple_of
def rListOf : List V → Hp → VK → Prop := fun xs H Q => ∃ p ys, xs = [.ref p] ∧ (SqL K H p ys ∨ SqT K H p ys) ∧ ∀ l, H l = none → Q (.ref l) (upd H l (.lst ys))
theorem klist_of (h : X.K = K := by rfl) : CallR X (.type "list") (rListOf K) := by subst h; exact call_list_of
theorem ksortedS (h : X.K = K := by rfl) : CallR X (.builtin "sorted") (rSortedS K) := by subst h; exact cr_sortedS
theorem kpi_list {tg l : Expr} {tl : TE} (hl : PE X l tl) (h : X.K = K := by rfl) : PI X tg l (iList K tl) := by subst h; exact pi_list hl
theorem kpi_tup {tg l : Expr} {tl : TE} (hl : PE X l tl) (h : X.K = K := by rfl) : PI X tg l (iTup K tl) := by subst h; exact pi_tup hl
theorem kpg_tup {pos : Pos} {es : List Expr} {k : Nat} {t : TGs} {n : Nat} (hc : X.calm = true) (hp : PGs X es t)
    (hn : (assignEach es X.env).length = n := by rfl) (hst : (assignEach es X.env).findIdx? (·.1) = none := by rfl) (h : X.K = K := by rfl) : PG X (.Tuple es k pos) (gTup K n t) := by
  subst h
  exact pg_tup hc hp hn hst
theorem kpa_star {e : Expr} {te : TE} {es : List Expr} {t : TA} {p : Pos} (he : PE X e te) (hr : PA X es t) (hs : starEach (.Starred e p :: es) X.env = (true, eval e X.env) :: starEach es X.env := by rfl) (h : X.K = K := by rfl) :
    PA X (.Starred e p :: es) (StX.tStar K te t) := by
  subst h
  exact StX.pa_star he hr hs
def rJoin : V → List V → Hp → VK → Prop := fun x xs H Q => ∃ a p, ∃ ys : List PySem.Str, x = .str a ∧ xs = [.ref p] ∧ (SqL K H p (ys.map V.str) ∨ SqT K H p (ys.map V.str)) ∧ (ys.map (·.length)).sum + ys.length * a.length ≤ 16777216 ∧ Q (.str (Txt.join a ys)) H
theorem kjoin {o e : Expr} {to te : TE} {apos pos : Pos} (ho : PE X o to) (he : PE X e te) (hs : starEach [e] X.env = [(false, eval e X.env)] := by rfl) (hbase : attributeBase o "join" X.env (eval o X.env) = eval o X.env := by rfl) (hline : (apos.endLine == pos.line) = true := by rfl)
    (h : X.K = K := by rfl) : PE X (.Call (.Attribute o "join" apos) [e] [] pos) (tM1 (rJoin K) to te) := by
  subst h
  exact pe_join ho he hs hbase hline
theorem kbm {o e : Expr} {es : List Expr} {to : TE} {t : TA} {name : PySem.Str} {apos cpos : Pos} {T id : String} {r : V → List V → Hp → VK → Prop} (pa : PlainAttrs T) (slot : Slot T name id) (hty : typeOf (.builtin id) = pure (.type "method_descriptor")) (hm : MtR X id r) (ho : PE X o to) (ha : PA X (e :: es) t)
    (hbase : attributeBase o name X.env (eval o X.env) = eval o X.env := by rfl)
    (hfew : ((backTo cpos (starEach (e :: es) X.env)).all (fun x => !x.1) && (backToKw cpos (keywordEach [] X.env)).all (fun x => x.1.isSome)
      && decide ((e :: es).length + ([] : List Keyword).length + (if ([] : List Keyword).isEmpty then 0 else 1) < 30)) = true := by rfl)
    (hline : (apos.endLine == cpos.line) = true := by rfl) (hs : starEach (e :: es) X.env = (false, eval e X.env) :: starEach es X.env := by rfl) (hplain : (backTo cpos (starEach es X.env)).any (·.1) = false := by rfl) (h : X.K = K := by rfl) :
    PE X (.Call (.Attribute o name apos) (e :: es) [] cpos) (tBM K T r to t) := by
  subst h
  exact pe_bm pa slot hty hm ho ha hbase hfew hline hs hplain
theorem kbm0 {o : Expr} {to : TE} {name : PySem.Str} {apos cpos : Pos} {T id : String} {r : V → List V → Hp → VK → Prop} (pa : PlainAttrs T) (slot : Slot T name id) (hty : typeOf (.builtin id) = pure (.type "method_descriptor")) (hm : MtR X id r) (ho : PE X o to)
    (hbase : attributeBase o name X.env (eval o X.env) = eval o X.env := by rfl) (hline : (apos.endLine == cpos.line) = true := by rfl) (h : X.K = K := by rfl) : PE X (.Call (.Attribute o name apos) [] [] cpos) (tBM0 K T r to) := by
  subst h
  exact pe_bm0 pa slot hty hm ho hbase hline
theorem pe_cst {x : PySem.Str} {n : Int} {pos : Pos} (hm : ∃ t, X.mg x = some (.int n t)) (hg : Gl X x := by rfl) (hdb : (x == ("__debug__" : PySem.Str)) = false := by decide) : PE X (.Name x pos) (tC (.int n)) := by
  obtain ⟨t, hm⟩ := hm
  exact pe_glob hg hm ⟨_, rfl⟩ hdb
end
/-! ### heaps -/
/-- only p may differ -/
def But (p : Addr) (H H' : Hp) : Prop := ∀ b, b ≠ p → H' b = H b
theorem But.refl (p : Addr) (H : Hp) : But p H H := fun _ _ => rfl
theorem But.trans {p : Addr} {H H1 H2 : Hp} (a : But p H H1) (b : But p H1 H2) : But p H H2 := fun x n => (b x n).trans (a x n)
theorem But.upd {p : Addr} {H : Hp} {o : HO} : But p H (upd H p o) := fun b h => upd_ne h
/-- what stood apart from p stands: new objects may have come -/
def Ext (p : Addr) (H H' : Hp) : Prop := ∀ b o, b ≠ p → H b = some o → H' b = some o
theorem Ext.refl (p : Addr) (H : Hp) : Ext p H H := fun _ _ _ h => h
theorem Ext.trans {p : Addr} {H H1 H2 : Hp} (a : Ext p H H1) (b : Ext p H1 H2) : Ext p H H2 := fun x o n h => b x o n (a x o n h)
theorem But.ext {p : Addr} {H H' : Hp} (h : But p H H') : Ext p H H' := fun b o n e => (h b n).trans e
theorem Ext.new {p q : Addr} {H : Hp} {o : HO} (h : H q = none) : Ext p H (L2.upd H q o) := fun b u _ e => by
  rw [upd_ne (ne_of_none e h)]
  exact e
/-- an object that H does not know may change -/
theorem Ext.mut {p q : Addr} {H H' : Hp} {o : HO} (e : Ext p H H') (h : H q = none) : Ext p H (L2.upd H' q o) := fun b u n eb => by
  rw [upd_ne (ne_of_none eb h)]
  exact e b u n eb
theorem Ext.sq {p : Addr} {K : PySem.W.Frag} {H H' : Hp} (e : Ext p H H') {a : Addr} {xs : List V} (n : a ≠ p) (h : SqL K H a xs) : SqL K H' a xs := by
  rcases h with (h | ⟨o, h⟩) | h
  · exact .inl (.inl (e _ _ n h))
  · exact .inl (.inr ⟨o, e _ _ n h⟩)
  · exact .inr h
theorem Ext.free {p : Addr} {H H' : Hp} (e : Ext p H H') {l : Addr} (n : l ≠ p) (h : H' l = Option.none) : H l = Option.none := by
  cases q : H l with
  | none => rfl
  | some o =>
    rw [e l o n q] at h
    cases h
theorem same_new {H : Hp} {q : Addr} {o : HO} (h : H q = none) : Same H (L2.upd H q o) := fun b u e => by
  rw [upd_ne (ne_of_none e h)]
  exact e
theorem same_mut {H H' : Hp} {q : Addr} {o : HO} (e : Same H H') (h : H q = none) : Same H (L2.upd H' q o) := fun b u eb => by
  rw [upd_ne (ne_of_none eb h)]
  exact e b u eb
theorem Same.ext {p : Addr} {H H' : Hp} (e : Same H H') : Ext p H H' := fun b o _ h => e b o h
theorem map_int {ns : List Int} {i : Nat} {y : V} (hi : (ns.map V.int)[i]? = some y) : ∃ u, y = V.int u ∧ ns[i]? = some u := by
  rw [List.getElem?_map] at hi
  cases e : ns[i]? with
  | none => rw [e] at hi; cases hi
  | some u => rw [e] at hi; exact ⟨u, (Option.some.inj hi).symm, rfl⟩
theorem map_str {ns : List PySem.Str} {i : Nat} {y : V} (hi : (ns.map V.str)[i]? = some y) : ∃ u, y = V.str u ∧ ns[i]? = some u := by
  rw [List.getElem?_map] at hi
  cases e : ns[i]? with
  | none => rw [e] at hi; cases hi
  | some u => rw [e] at hi; exact ⟨u, (Option.some.inj hi).symm, rfl⟩
/-! ### the source of the draws -/
/-- at p the law's source, with at most c draws so far -/
def Src (H : Hp) (p : Addr) (c : Nat) : Prop := ∃ g s k : Int, H p = some (.lst [.int g, .int s, .int k]) ∧ 0 ≤ s ∧ s < 2147483647 ∧ 0 ≤ k ∧ k ≤ (c : Int)
theorem Src.mono {H : Hp} {p : Addr} {c d : Nat} (h : Src H p c) (hc : c ≤ d) : Src H p d := by
  obtain ⟨g, s, k, e, h1, h2, h3, h4⟩ := h
  exact ⟨g, s, k, e, h1, h2, h3, by omega⟩
theorem Src.here {H : Hp} {p : Addr} {c : Nat} (h : Src H p c) : ∃ o, H p = some o := by
  obtain ⟨g, s, k, e, _⟩ := h
  exact ⟨_, e⟩
theorem Src.ne {H : Hp} {p q : Addr} {c : Nat} (h : Src H p c) (n : H q = none) : q ≠ p := fun z => by
  obtain ⟨g, s, k, e, _⟩ := h
  rw [z, e] at n
  cases n
theorem Src.new {H : Hp} {p q : Addr} {c : Nat} {o : HO} (h : Src H p c) (n : q ≠ p) : Src (upd H q o) p c := by
  obtain ⟨g, s, k, e, h1, h2, h3, h4⟩ := h
  exact ⟨g, s, k, by rw [upd_ne n.symm]; exact e, h1, h2, h3, h4⟩
def spSource (K : PySem.W.Frag) : Sp := fun vs H Q _ => ∃ (a : Addr) (ns : List Int), vs = [.ref a] ∧ SqL K H a (ns.map V.int) ∧ ∀ p H', H p = none → Src H' p 0 → Same H H' → Q (.ref p) H'
def spDraw : Sp := fun vs H Q _ => ∃ (p : Addr) (n : Int) (c : Nat), vs = [.ref p, .int n] ∧ Src H p c ∧ c ≤ 1000000 ∧ 0 < n ∧ n < 1073741824 ∧
  ∀ (r : Int) H', 0 ≤ r → r < n → Src H' p (c + 1) → But p H H' → Q (.int r) H'
def spPick (K : PySem.W.Frag) : Sp := fun vs H Q _ => ∃ (p a : Addr) (xs : List V) (c : Nat), vs = [.ref p, .ref a] ∧ Src H p c ∧ c ≤ 1000000 ∧ SqL K H a xs ∧ a ≠ p ∧ xs ≠ [] ∧ xs.length ≤ 1000000 ∧
  ∀ v H', v ∈ xs → Src H' p (c + 1) → But p H H' → Q v H'
theorem draw_pow {m x : Int} (h1 : 0 ≤ x) (h2 : x ≤ 1000001) : CPow (Int.fmod m 2147483629 * 48271 + 16807 * x * x + 11) 3 := by
  have e1 := Int.fmod_nonneg_of_pos m (b := 2147483629) (by decide)
  have e2 := Int.fmod_lt_of_pos m (b := 2147483629) (by decide)
  have e3 : 16807 * x * x ≤ 16807 * 1000001 * 1000001 := Int.mul_le_mul (by omega) h2 h1 (by omega)
  have e4 : 0 ≤ 16807 * x * x := Int.mul_nonneg (by omega) h1
  exact ⟨by omega, by omega, by omega⟩
/-- slots known by name of the goal's parts -/
theorem atI_of {α : Type} {xs : List α} {r : Int} (h0 : 0 ≤ r) (h1 : r < xs.length) : ∃ v, v ∈ xs ∧ atI xs r = some v := by
  have hlt : r.toNat < xs.length := by omega
  have e : r = ((r.toNat : Nat) : Int) := by omega
  have q : ∀ z : Int, z = ((r.toNat : Nat) : Int) → atI xs z = some xs[r.toNat] := fun z hz => by
    rw [hz]
    exact atI_nat (List.getElem?_eq_getElem hlt)
  exact ⟨xs[r.toNat], List.getElem_mem hlt, q r e⟩
/-! ### tuples that are known to have no attributes of their own -/
def IsFz (u : HO) (xs : List V) : Prop := ∃ o : Obj, u = .frz o (.tup xs) ∧ o.dict = none ∧ o.cls = .type "tuple"
def FzT (H : Hp) (a : Addr) (xs : List V) : Prop := ∃ u, H a = some u ∧ IsFz u xs
theorem FzT.sq {K : PySem.W.Frag} {H : Hp} {a : Addr} {xs : List V} (h : FzT H a xs) : SqT K H a xs := by
  obtain ⟨u, e, o, rfl, _⟩ := h
  exact .inl (.inr ⟨o, e⟩)
theorem FzT.on {H H' : Hp} {a : Addr} {xs : List V} (h : FzT H a xs) (s : Same H H') : FzT H' a xs := by
  obtain ⟨u, e, q⟩ := h
  exact ⟨u, s _ _ e, q⟩
theorem IsFz.nlst {u : HO} {xs : List V} (h : IsFz u xs) : ∀ ys, u ≠ .lst ys := by
  obtain ⟨o, rfl, _⟩ := h
  intro ys z
  cases z
theorem IsFz.nins {u : HO} {xs : List V} (h : IsFz u xs) : ∀ C d fs, u ≠ .ins C d fs := by
  obtain ⟨o, rfl, _⟩ := h
  intro C d fs z
  cases z
/-- tuple(l), l a list -/
def rTupOfF (K : PySem.W.Frag) : List V → Hp → VK → Prop := fun xs H Q => ∃ p ys, xs = [.ref p] ∧ SqL K H p ys ∧ ∀ l u, H l = none → IsFz u ys → Q (.ref l) (upd H l u)
theorem call_tuple_F {X : Cx} : CallR X (.type "tuple") (rTupOfF X.K) := by
  intro pins s σ H xs us Q I r h
  obtain ⟨p, ys, rfl, hq, q⟩ := h
  rw [Vals.ref1 r]
  obtain ⟨its, r', pl, hz⟩ := I.list hq
  have hlen := r'.length
  refine call_tuple_list pl.isList (fun h' kp => ?_) (by simp only [List.size_toArray] <;> omega)
  have I1 : Inv X pins σ H { s with heap := h' } := I.kept (t' := s.toks) kp
  have I2 : Inv X pins σ (upd H h'.objs.size (.frz { cls := .type "tuple", data := .seq its.toArray } (.tup ys))) { s with heap := h'.push { cls := .type "tuple", data := .seq its.toArray } } :=
    I1.laid (t' := s.toks) (fun b o e => Heap.get?_push_of_some _ e) (Nat.le_refl _) (show ObjOk X.prog X.w _ _ _ (.frz _ (.tup ys)) from ⟨Heap.get?_push_size _ rfl, hz, its, r', IsTup.new _ _⟩)
  exact ⟨.ref h'.objs.size, _, I2, rfl, q _ _ (I1.hok.fresh (Nat.le_refl _)) ⟨_, rfl, rfl, rfl⟩⟩
theorem ktuple_F (K : PySem.W.Frag) {X : Cx} (h : X.K = K := by rfl) : CallR X (.type "tuple") (rTupOfF K) := by subst h; exact call_tuple_F
/-- o.m(e, ..), o such a tuple -/
def tBMF (r : V → List V → Hp → VK → Prop) (to : TE) (t : TA) : TE := fun σ H Q => to σ H fun x H1 => (∃ p xs, x = .ref p ∧ FzT H1 p xs) ∧ t σ H1 fun xs H2 => r x xs H2 Q
theorem pe_bmF {X : Cx} {o e : Expr} {es : List Expr} {to : TE} {t : TA} {name : PySem.Str} {apos cpos : Pos} {id : String} {r : V → List V → Hp → VK → Prop} (pa : PlainAttrs "tuple") (slot : Slot "tuple" name id) (hty : typeOf (.builtin id) = pure (.type "method_descriptor")) (hm : MtR X id r) (ho : PE X o to) (ha : PA X (e :: es) t)
    (hbase : attributeBase o name X.env (eval o X.env) = eval o X.env := by rfl)
    (hfew : ((backTo cpos (starEach (e :: es) X.env)).all (fun x => !x.1) && (backToKw cpos (keywordEach [] X.env)).all (fun x => x.1.isSome)
      && decide ((e :: es).length + ([] : List Keyword).length + (if ([] : List Keyword).isEmpty then 0 else 1) < 30)) = true := by rfl)
    (hline : (apos.endLine == cpos.line) = true := by rfl) (hs : starEach (e :: es) X.env = (false, eval e X.env) :: starEach es X.env := by rfl) (hplain : (backTo cpos (starEach es X.env)).any (·.1) = false := by rfl) :
    PE X (.Call (.Attribute o name apos) (e :: es) [] cpos) (tBMF r to t) := by
  refine ⟨fun pins s σ H Q I h => ?_⟩
  refine wpAny_Call_method_late hbase hfew hline rfl (thn (ho.run pins s σ H _ I h) fun v s1 ⟨x, H1, I1, r1, ty, q1⟩ => ?_)
  obtain ⟨p, xs, rfl, u, hu, ob, rfl, dn, cl⟩ := ty
  have hp : s1.heap.get? p = some ob := (I1.hok p _ hu).1
  obtain rfl : v = Value.ref p := r1
  refine ⟨"tuple", id, pa, slot, hty, ⟨ob, hp, cl⟩, fun a ea => ?_, ?_⟩
  · cases ea
    exact ⟨ob, hp, dn⟩
  have hA := ha.run cpos pins s1 σ H1 _ I1 q1
  rw [hs] at hA ⊢
  refine Calls.callWith_builtin (by show (false || (backTo cpos (starEach es X.env)).any (·.1)) = false; rw [hplain] <;> rfl) (Calls.evalArgs_plain ?_)
  exact thn hA fun us s2 ⟨vs, H2, I2, r2, q2⟩ => hm pins s2 σ H2 (.ref p) vs (.ref p) us Q I2 rfl r2 q2
end Bz
namespace Bz
open PySem PySem.Spec PyProof.Rows L2
/-! ### how the heap goes on while draws are made -/
structure Go (p : Addr) (c : Nat) (H0 H : Hp) : Prop where
  src : Src H p c
  ext : Ext p H0 H
  old : ∃ o, H0 p = some o
section
variable {p q : Addr} {c d : Nat} {H0 H H1 H2 : Hp} {o : HO} {K : PySem.W.Frag}
theorem Go.start (h : Src H p c) : Go p c H H := ⟨h, .refl p H, h.here⟩
theorem Go.mono (g : Go p c H0 H) (h : c ≤ d) : Go p d H0 H := ⟨g.src.mono h, g.ext, g.old⟩
theorem Go.trans (a : Go p c H0 H1) (b : Go p d H1 H2) : Go p d H0 H2 := ⟨b.src, a.ext.trans b.ext, a.old⟩
theorem Go.nep (g : Go p c H0 H) (n : H0 q = none) : q ≠ p := fun z => by
  obtain ⟨o, e⟩ := g.old
  rw [z, e] at n
  cases n
theorem Go.ne (g : Go p c H0 H) (n : H q = none) : q ≠ p := g.src.ne n
theorem Go.new (g : Go p c H0 H) (n : H q = none) : Go p c H0 (upd H q o) := ⟨g.src.new (g.ne n), g.ext.trans (Ext.new n), g.old⟩
theorem Go.mut (g : Go p c H0 H) (n : H0 q = none) : Go p c H0 (upd H q o) := ⟨g.src.new (g.nep n), g.ext.mut n, g.old⟩
theorem Go.but (g : Go p c H0 H) (s : Src H1 p d) (b : But p H H1) : Go p d H0 H1 := ⟨s, g.ext.trans b.ext, g.old⟩
theorem Go.same (g : Go p c H0 H) (b : Same H H1) : Go p c H0 H1 := by
  obtain ⟨g', s, k, e, r⟩ := g.src
  exact ⟨⟨g', s, k, b _ _ e, r⟩, g.ext.trans (Same.ext b), g.old⟩
theorem Go.get (g : Go p c H0 H) (n : q ≠ p) (e : H0 q = some o) : H q = some o := g.ext q o n e
theorem Go.seq {xs : List V} (g : Go p c H0 H) (n : q ≠ p) (h : SqL K H0 q xs) : SqL K H q xs := g.ext.sq n h
theorem Go.free (g : Go p c H0 H) (h : H q = none) : H0 q = none := g.ext.free (g.ne h) h
end
/-- a comprehension's list at D so far: I by the turn, the list and the heap (whatever D holds) -/
def LcP (D : Addr) (I : Nat → List V → Hp → Prop) (i : Nat) (H : Hp) : Prop := ∃ acc, H D = some (.lst acc) ∧ acc.length ≤ i ∧ I i acc H
section
variable {D : Addr} {I : Nat → List V → Hp → Prop} {i : Nat} {H : Hp} {acc : List V} {y : V}
theorem LcP.put (hst : ∀ i acc H o, I i acc H → I i acc (upd H D o)) (h : H D = some (.lst acc)) (hl : acc.length ≤ i) (hi : i < 1000000) (hI : I (i + 1) (acc ++ [y]) H) :
    ∃ acc, H D = some (.lst acc) ∧ acc.length < sizeLine ∧ LcP D I (i + 1) (upd H D (.lst (acc ++ [y]))) :=
  ⟨acc, h, Nat.lt_of_le_of_lt hl (Nat.lt_of_lt_of_le hi (by decide)), acc ++ [y], upd_same, by rw [List.length_append, List.length_singleton]; omega, hst _ _ _ _ hI⟩
theorem LcP.skip (h : H D = some (.lst acc)) (hl : acc.length ≤ i) (hI : I (i + 1) acc H) : LcP D I (i + 1) H := ⟨acc, h, by omega, hI⟩
end
theorem lcA {J : It} {n : Nat} {G : Hp → Prop} {Y : Nat → Hp → V → Hp → Prop} (w : Walk J n G Y) {g : TG} {tt : TT} {te : TE} {vs : List Nat} {σ : L2.St} {H1 : Hp} {D : Addr} {Qd : Hp → Prop} (I : Nat → List V → Hp → Prop) (h0 : I 0 [] H1)
    (hst : ∀ i acc H o, I i acc H → I i acc (upd H D o)) (hG : ∀ i acc H, i ≤ n → I i acc H → G H)
    (hs : ∀ i x acc H H', i < n → I i acc H → H D = some (.lst acc) → acc.length ≤ i → Y i H x H' → g x (wipe σ vs) H' fun σ2 H2 => wipe σ2 vs = wipe σ vs ∧ tt σ2 H2 fun b H3 =>
      if b = true then te σ2 H3 fun y H4 => ∃ acc, H4 D = some (.lst acc) ∧ acc.length < sizeLine ∧ LcP D I (i + 1) (upd H4 D (.lst (acc ++ [y]))) else LcP D I (i + 1) H3)
    (hd : ∀ acc H, I n acc H → H D = some (.lst acc) → acc.length ≤ n → Qd H) :
    ∃ W : Nat → Nat → Hp → Prop, (∃ m, W 0 m (upd H1 D (.lst []))) ∧ ∀ i m H, W i m H →
      (J.stop i H ∧ Qd H) ∨ (J.go i H ∧ ∃ Nx : Hp → Prop, (∀ H', Nx H' → ∃ m', m' < m ∧ W (i + 1) m' H') ∧ ∀ x H', J.yld i H x H' → g x (wipe σ vs) H' fun σ2 H2 => wipe σ2 vs = wipe σ vs ∧ tt σ2 H2 fun b H3 =>
        if b = true then te σ2 H3 fun y H4 => ∃ acc, H4 D = some (.lst acc) ∧ acc.length < sizeLine ∧ Nx (upd H4 D (.lst (acc ++ [y]))) else Nx H3) :=
  lc_it w (LcP D I) ⟨[], upd_same, Nat.le_refl _, hst _ _ _ _ h0⟩ (fun i H hi ⟨acc, _, _, hI⟩ => hG i acc H hi hI) (fun i x H H' hi ⟨acc, hA, hl, hI⟩ hy => hs i x acc H H' hi hI hA hl hy) (fun H ⟨acc, hA, hl, hI⟩ => hd acc H hI hA hl)
/-! ### names -/
def Sg (c : Nat) : Prop := 97 ≤ c ∧ c ≤ 122
def Nm (s : PySem.Str) : Prop := 1 ≤ s.length ∧ s.length ≤ 8 ∧ ∀ c ∈ TL.tl s, Sg c
def nmB (s : PySem.Str) : Bool := decide (1 ≤ s.length) && decide (s.length ≤ 8) && (TL.tl s).all fun c => decide (97 ≤ c) && decide (c ≤ 122)
theorem nmB_iff {s : PySem.Str} : nmB s = true ↔ Nm s := by
  unfold nmB Nm Sg
  simp only [Bool.and_eq_true, decide_eq_true_eq, List.all_eq_true]
  exact ⟨fun ⟨⟨a, b⟩, c⟩ => ⟨a, b, c⟩, fun ⟨a, b, c⟩ => ⟨⟨a, b⟩, c⟩⟩
theorem len_tl (s : PySem.Str) : s.length = (TL.tl s).length := by
  show s.cps.size = s.cps.toList.length
  rw [Array.length_toList]
theorem ext_tl {x y : PySem.Str} (h : TL.tl x = TL.tl y) : x = y := by
  obtain ⟨a⟩ := x
  obtain ⟨b⟩ := y
  have e : a = b := Array.toList_inj.mp h
  rw [e]
theorem joinL_nil : ∀ ls : List (List Nat), TL.joinL [] ls = ls.flatten
  | [] => rfl
  | [p] => by show p = [p].flatten; simp
  | p :: q :: r => by
    show p ++ ([] ++ TL.joinL [] (q :: r)) = _
    rw [joinL_nil (q :: r)]
    simp
theorem tl_join0 (ys : List PySem.Str) : TL.tl (Txt.join "" ys) = (ys.map TL.tl).flatten := by
  rw [TL.join_eq, TL.tl_join]
  exact joinL_nil _
theorem inV_str {x : PySem.Str} {ys : List PySem.Str} : inV (.str x) (ys.map V.str) = decide (x ∈ ys) := by
  unfold inV
  rw [List.any_map]
  rw [Bool.eq_iff_iff, decide_eq_true_eq, List.any_eq_true]
  constructor
  · rintro ⟨y, hy, e⟩
    have e' : y = x := by
      first
      | exact of_decide_eq_true e
      | exact eq_of_beq e
      | (simp [eqV] at e; exact e)
    rw [← e']
    exact hy
  · intro h
    refine ⟨x, h, ?_⟩
    first
    | exact decide_eq_true rfl
    | (simp [eqV])
theorem flat_str (ys : List PySem.Str) : (ys.map V.str).all flatV = true := by
  rw [List.all_eq_true]
  intro v hv
  obtain ⟨y, _, rfl⟩ := List.mem_map.mp hv
  rfl
theorem join_signs {ys : List PySem.Str} (h : ∀ y ∈ ys, ∃ ch, TL.tl y = [ch] ∧ Sg ch) : (Txt.join "" ys).length = ys.length ∧ ∀ c ∈ TL.tl (Txt.join "" ys), Sg c := by
  rw [len_tl, tl_join0]
  induction ys with
  | nil => exact ⟨rfl, fun c hc => by cases hc⟩
  | cons y ys ih =>
    obtain ⟨ch, e, hs⟩ := h y (List.mem_cons_self ..)
    obtain ⟨i1, i2⟩ := ih fun z hz => h z (List.mem_cons_of_mem _ hz)
    rw [List.map_cons, List.flatten_cons, e]
    refine ⟨by simp only [List.singleton_append, List.length_cons, i1], fun c hc => ?_⟩
    rcases List.mem_append.mp hc with hc | hc
    · rw [List.mem_singleton.mp hc]; exact hs
    · exact i2 c hc
theorem nm_lit {s : PySem.Str} (h : nmB s = true) : Nm s := nmB_iff.mp h
theorem sIx_nat {n d k : Nat} (h : k ≤ n) : HT.sIx n d (some (k : Int)) = k := by
  unfold HT.sIx
  simp only
  split <;> omega
theorem tl_cut1 (z : PySem.Str) (h : 1 ≤ z.length) : TL.tl (cutS z (some 1) none) = (TL.tl z).drop 1 := by
  have e1 : HT.sIx z.length 0 (some 1) = 1 := sIx_nat (k := 1) h
  have e2 : HT.sIx z.length z.length none = z.length := rfl
  unfold cutS
  show (List.take (HT.sIx z.length z.length none - HT.sIx z.length 0 (some 1)) (List.drop (HT.sIx z.length 0 (some 1)) z.cps.toList)).toArray.toList = _
  rw [e1, e2]
  show List.take (z.length - 1) (List.drop 1 z.cps.toList) = List.drop 1 z.cps.toList
  have el := len_tl z
  have el' : z.length = z.cps.toList.length := el
  exact List.take_of_length_le (by rw [List.length_drop, el']; omega)
theorem nm_q {s : PySem.Str} (h : Nm s) (h4 : 2 ≤ s.length) (h8 : s.length ≤ 8) : Nm ("q" ++ cutS s (some 1) none) := by
  have e : TL.tl ("q" ++ cutS s (some 1) none) = 113 :: (TL.tl s).drop 1 := by
    rw [TL.tl_append, tl_cut1 s (by omega)]
    rfl
  have el := len_tl s
  refine ⟨?_, ?_, ?_⟩
  · rw [len_tl, e, List.length_cons]; omega
  · rw [len_tl, e, List.length_cons, List.length_drop]; omega
  · rw [e]
    intro c hc
    rcases List.mem_cons.mp hc with rfl | hc
    · exact ⟨by omega, by omega⟩
    · exact h.2.2 c (List.mem_of_mem_drop hc)
theorem nodup_le {α : Type} [DecidableEq α] : ∀ {L ts : List α}, L.Nodup → (∀ s ∈ L, s ∈ ts) → L.length ≤ ts.length
  | [], _, _, _ => Nat.zero_le _
  | a :: L, ts, hn, hs => by
    have ha := hs a (List.mem_cons_self ..)
    obtain ⟨h1, h2⟩ := List.nodup_cons.mp hn
    have ih := nodup_le (ts := ts.erase a) h2 fun s hsL => by
      have ne : s ≠ a := fun e => h1 (e ▸ hsL)
      exact (List.mem_erase_of_ne ne).mpr (hs s (List.mem_cons_of_mem _ hsL))
    rw [List.length_erase_of_mem ha] at ih
    have := List.length_pos_of_mem ha
    rw [List.length_cons]
    omega
theorem z_names {ts L : List PySem.Str} (h : ts.length ≤ 16) (hl : L.length = 17) (hn : L.Nodup) : ∃ s ∈ L, s ∉ ts := by
  refine Classical.byContradiction fun c => ?_
  have q := nodup_le hn fun s hs => Classical.byContradiction fun q => c ⟨s, hs, q⟩
  omega
theorem ab_sg {ch : Nat} (h : ch ∈ (("abcdefghijklmnopqrstuvwxyz" : PySem.Str)).cps.toList) : Sg ch := by
  have q : ((("abcdefghijklmnopqrstuvwxyz" : PySem.Str)).cps.toList.all fun c => decide (97 ≤ c) && decide (c ≤ 122)) = true := by decide +kernel
  have z := List.all_eq_true.mp q ch h
  simp only [Bool.and_eq_true, decide_eq_true_eq] at z
  exact z
/-- a name of a law's own choice where a drawn one is taken -/
def zNames : List PySem.Str := (("abcdefghijklmnopq" : PySem.Str)).cps.toList.map fun ch => "z" ++ (⟨#[ch]⟩ : PySem.Str)
theorem zNames_len : zNames.length = 17 := by decide +kernel
theorem zNames_nd : zNames.Nodup := by decide +kernel
theorem zNames_nm : ∀ s ∈ zNames, Nm s := by
  have q : (zNames.all fun s => nmB s) = true := by decide +kernel
  exact fun s hs => nm_lit (List.all_eq_true.mp q s hs)
theorem az_size : ((("abcdefghijklmnopq" : PySem.Str)).cps).size = 17 := by decide +kernel
theorem zNames_step {i : Nat} {ch : Nat} (h : ((("abcdefghijklmnopq" : PySem.Str)).cps)[i]? = some ch) : zNames.take (i + 1) = zNames.take i ++ ["z" ++ (⟨#[ch]⟩ : PySem.Str)] := by
  have e : zNames[i]? = some ("z" ++ (⟨#[ch]⟩ : PySem.Str)) := by
    unfold zNames
    rw [List.getElem?_map, Array.getElem?_toList, h]
    rfl
  rw [List.take_add_one, e]
  rfl
theorem z_size (ch : Nat) : (("z" : PySem.Str)).length + ((⟨#[ch]⟩ : PySem.Str)).length ≤ sizeLine := by
  have e : (("z" : PySem.Str)).length = 1 := by decide +kernel
  have e2 : ((⟨#[ch]⟩ : PySem.Str)).length = 1 := rfl
  rw [e, e2]
  exact Evl.sz_of (by omega)
theorem letters_of {ys : List PySem.Str} (h : ∀ y ∈ ys, ∃ ch, TL.tl y = [ch] ∧ Sg ch) : (ys.map (·.length)).sum = ys.length := by
  induction ys with
  | nil => rfl
  | cons y ys ih =>
    obtain ⟨ch, e, _⟩ := h y (List.mem_cons_self ..)
    have e1 : y.length = 1 := by rw [len_tl, e]; rfl
    rw [List.map_cons, List.sum_cons, ih fun z hz => h z (List.mem_cons_of_mem _ hz), e1, List.length_cons]
    omega
/-! ### promises of the drawing helpers -/
def spSubset (K : PySem.W.Frag) : Sp := fun vs H Q _ => ∃ (p a : Addr) (xs : List V) (c : Nat), vs = [.ref p, .ref a] ∧ Src H p c ∧ c + xs.length ≤ 1000000 ∧ SqL K H a xs ∧ a ≠ p ∧
  ∀ (q : Addr) (ys : List V) (H' : Hp), H q = none → H' q = some (.lst ys) → (∀ y ∈ ys, y ∈ xs) → ys.length ≤ xs.length → Go p (c + xs.length) H H' → Q (.ref q) H'
def spName (K : PySem.W.Frag) : Sp := fun vs H Q _ => ∃ (p a : Addr) (ts : List PySem.Str) (c : Nat), vs = [.ref p, .ref a] ∧ Src H p c ∧ c ≤ 900000 ∧ SqL K H a (ts.map V.str) ∧ a ≠ p ∧ ts.length ≤ 16 ∧
  ∀ (s : PySem.Str) (H' : Hp), Nm s → s ∉ ts → Go p (c + 12) H H' → Q (.str s) H'
def spNames : Sp := fun vs H Q _ => ∃ (p : Addr) (n : Int) (c : Nat), vs = [.ref p, .int n] ∧ Src H p c ∧ c ≤ 800000 ∧ 0 ≤ n ∧ n ≤ 16 ∧
  ∀ (q : Addr) (ns : List PySem.Str) (H' : Hp), H q = none → H' q = some (.lst (ns.map V.str)) → (∀ s ∈ ns, Nm s) → (ns.length : Int) = n → ns.Nodup → Go p (c + 12 * n.toNat) H H' → Q (.ref q) H'
/-! ### arrows -/
structure Arw where
  s : PySem.Str
  l : PySem.Str
  t : PySem.Str
  c : Int
  deriving DecidableEq
abbrev Arw.vals (x : Arw) : List V := [.str x.s, .str x.l, .str x.t, .int x.c]
/-- a list of arrows, tuples all: none of them at p -/
def ArTs (K : PySem.W.Frag) (p : Addr) (H : Hp) (vs : List V) (xs : List Arw) : Prop := Paired (fun v x => ∃ q, v = V.ref q ∧ q ≠ p ∧ H q = some (.tup x.vals)) vs xs
theorem ArTs.ext {K : PySem.W.Frag} {p : Addr} {H H' : Hp} {vs : List V} {xs : List Arw} (h : ArTs K p H vs xs) (e : Ext p H H') : ArTs K p H' vs xs :=
  Paired.mapP h fun v x ⟨q, ev, n, hq⟩ => ⟨q, ev, n, e q _ n hq⟩
theorem ArTs.snoc {K : PySem.W.Frag} {p : Addr} {H : Hp} {vs : List V} {xs : List Arw} {q : Addr} {x : Arw} (h : ArTs K p H vs xs) (n : q ≠ p) (hq : H q = some (.tup x.vals)) : ArTs K p H (vs ++ [.ref q]) (xs ++ [x]) := by
  induction h with
  | nil => exact .cons ⟨q, rfl, n, hq⟩ .nil
  | cons a r ih => exact .cons a ih
/-- well made: names, a letter, a price -/
def Lt (s : PySem.Str) : Prop := s.length = 1 ∧ ∀ c ∈ TL.tl s, Sg c
structure Arw.Ok (x : Arw) : Prop where
  s : Nm x.s
  l : Lt x.l
  t : Nm x.t
  c0 : 0 ≤ x.c
  c1 : x.c ≤ 99
def spArrows (K : PySem.W.Frag) : Sp := fun vs H Q _ => ∃ (p a b : Addr) (ss ls : List PySem.Str) (n : Int) (c : Nat), vs = [.ref p, .ref a, .ref b, .int n] ∧ Src H p c ∧ c ≤ 500000 ∧ a ≠ p ∧ b ≠ p ∧
  SqL K H a (ss.map V.str) ∧ SqL K H b (ls.map V.str) ∧ ss ≠ [] ∧ ls ≠ [] ∧ ss.length ≤ 100 ∧ ls.length ≤ 100 ∧ 0 < n ∧ n ≤ 100 ∧
  ∀ (q : Addr) (vs : List V) (xs : List Arw) (H' : Hp), H q = none → H' q = some (.lst vs) → ArTs K p H' vs xs → (∀ x ∈ xs, x.s ∈ ss ∧ x.l ∈ ls ∧ x.t ∈ ss ∧ 0 ≤ x.c ∧ x.c ≤ 9) → 1 ≤ xs.length → (xs.length : Int) ≤ n → Go p (c + 1 + 4 * n.toNat) H H' → Q (.ref q) H'
/-- [pick(names)] + subset(names), names at slot j -/
theorem some_names {K : PySem.W.Frag} {p a : Addr} {ns : List PySem.Str} {c : Nat} {H0 H : Hp} {j : Nat} {σ : L2.St} {R : VK} (h0 : σ[0]? = some (some (.ref p))) (hj : σ[j]? = some (some (.ref a))) (g : Go p c H0 H) (hc : c + ns.length + 1 ≤ 900000) (na : a ≠ p) (ha : SqL K H a (ns.map V.str)) (n0 : ns ≠ []) (n1 : ns.length ≤ 100)
    (k : ∀ (q : Addr) (ss : List PySem.Str) (H' : Hp), H q = none → H' q = some (.lst (ss.map V.str)) → (∀ s ∈ ss, s ∈ ns) → 1 ≤ ss.length → ss.length ≤ ns.length + 1 → Go p (c + ns.length + 1) H H' → R (.ref q) H') :
    tOp rCat (tLst (tCons (tCall (spPick K) [] E0 (tCons (tVar 0) (tCons (tVar j) tNil))) tNil)) (tCall (spSubset K) [] E0 (tCons (tVar 0) (tCons (tVar j) tNil))) σ H R := by
  refine ⟨_, h0, _, hj, p, a, ns.map V.str, c, rfl, g.src, by omega, ha, na, by simpa using n0, by rw [List.length_map]; omega, fun v H1 hv hS1 hb1 => ?_⟩
  obtain ⟨s0, hs0, rfl⟩ := List.mem_map.mp hv
  have g1 : Go p (c + 1) H H1 := (Go.start g.src).but hS1 hb1
  refine ⟨Nat.le_of_ble_eq_true rfl, fun l hl => ?_⟩
  have g2 : Go p (c + 1) H (upd H1 l (.lst [.str s0])) := g1.new hl
  refine ⟨_, h0, _, hj, p, a, ns.map V.str, c + 1, rfl, g2.src, by rw [List.length_map]; omega, g2.seq na ha, na, fun b ys H3 hb h3 hm hlen g3 => ?_⟩
  obtain ⟨ss, rfl⟩ : ∃ ss : List PySem.Str, ys = ss.map V.str := by
    clear h3 hlen
    induction ys with
    | nil => exact ⟨[], rfl⟩
    | cons y ys ih =>
      obtain ⟨ss, e⟩ := ih fun z hz => hm z (List.mem_cons_of_mem _ hz)
      obtain ⟨s, _, e1⟩ := List.mem_map.mp (hm y (List.mem_cons_self ..))
      exact ⟨s :: ss, by rw [e, ← e1]; rfl⟩
  rw [List.length_map] at hlen
  rw [List.length_map] at hlen
  have h3l : H3 l = some (.lst [.str s0]) := g3.get (g1.ne hl) upd_same
  refine ⟨l, b, [.str s0], ss.map V.str, rfl, rfl, h3l, h3, ?_, fun q hq => ?_⟩
  · rw [List.length_map]
    exact Evl.sz_of (by simp; omega)
  · have gq : Go p (c + ns.length + 1) H H3 := (g2.trans g3).mono (by rw [List.length_map]; omega)
    refine k q (s0 :: ss) _ (gq.free hq) upd_same (fun s hs => ?_) (by simp) (by simp; omega) (gq.new hq)
    rcases List.mem_cons.mp hs with rfl | hs
    · exact hs0
    · obtain ⟨s', h1, h2⟩ := List.mem_map.mp (hm (.str s) (List.mem_map.mpr ⟨s, hs, rfl⟩))
      have e : s' = s := V.str.inj h2
      rw [← e]
      exact h1
theorem cutV_take {xs : List V} {k : Nat} (h : k ≤ xs.length) : cutV xs none (some (k : Int)) = xs.take k := by
  unfold cutV
  have e1 : HT.sIx xs.length 0 none = 0 := rfl
  have e2 : HT.sIx xs.length xs.length (some (k : Int)) = k := sIx_nat h
  rw [e1, e2]
  rfl
/-- what a law's machine is made of, at q, a tuple of three lists -/
def Made (K : PySem.W.Frag) (p : Addr) (H : Hp) (q : Addr) (xs : List Arw) (ss es : List PySem.Str) : Prop :=
  ∃ (a1 a2 a3 : Addr) (vs : List V), q ≠ p ∧ a1 ≠ p ∧ a2 ≠ p ∧ a3 ≠ p ∧ H q = some (.tup [.ref a1, .ref a2, .ref a3]) ∧ H a1 = some (.lst vs) ∧ ArTs K p H vs xs ∧ H a2 = some (.lst (ss.map V.str)) ∧ H a3 = some (.lst (es.map V.str))
structure MOk (xs : List Arw) (ss es : List PySem.Str) (m n : Int) : Prop where
  nms : ∃ ns : List PySem.Str, (∀ s ∈ ns, Nm s) ∧ (ns.length : Int) ≤ m ∧ ns.Nodup ∧ (∀ x ∈ xs, x.s ∈ ns ∧ x.t ∈ ns) ∧ (∀ s ∈ ss, s ∈ ns) ∧ ∀ s ∈ es, s ∈ ns
  lets : ∀ x ∈ xs, x.l ∈ (["a", "b", "c", "d"] : List PySem.Str)
  cost : ∀ x ∈ xs, 0 ≤ x.c ∧ x.c ≤ 9
  len : 1 ≤ xs.length ∧ (xs.length : Int) ≤ n
  slen : 1 ≤ ss.length ∧ (ss.length : Int) ≤ m + 1
  elen : 1 ≤ es.length ∧ (es.length : Int) ≤ m + 1
def spMachine (K : PySem.W.Frag) : Sp := fun vs H Q _ => ∃ (p : Addr) (m g n : Int) (c : Nat), vs = [.ref p, .int m, .int g, .int n] ∧ Src H p c ∧ c ≤ 300000 ∧ 0 < m ∧ m ≤ 8 ∧ 0 < g ∧ g ≤ 4 ∧ 0 < n ∧ n ≤ 20 ∧
  ∀ (q : Addr) (xs : List Arw) (ss es : List PySem.Str) (H' : Hp), H q = none → Made K p H' q xs ss es → MOk xs ss es m n → Go p (c + 300) H H' → Q (.ref q) H'
end Bz
namespace Bz
open PySem PySem.Spec PyProof.Rows L2
/-! ### sorted, of tuples of texts and ints -/
abbrev Ky := L2.Key
def ltK : Ky → Ky → Bool
  | .inl a, .inl b => decide (a < b)
  | .inr a, .inr b => decide (a.cps.toList < b.cps.toList)
  | .inl _, .inr _ => true
  | .inr _, .inl _ => false
def lexK : List Ky → List Ky → Bool
  | [], [] => false
  | [], _ :: _ => true
  | _ :: _, [] => false
  | a :: as, b :: bs => if a = b then lexK as bs else ltK a b
def isL : Ky → Bool
  | .inl _ => true
  | .inr _ => false
theorem strs_eq {a b : PySem.Str} (h : a.cps.toList = b.cps.toList) : a = b := ext_tl h
theorem ltK_irr (a : Ky) : ltK a a = false := by
  cases a with
  | inl a => exact decide_eq_false (Int.lt_irrefl _)
  | inr a => exact decide_eq_false (List.lt_irrefl _)
theorem ltK_asym {a b : Ky} (h : ltK a b = true) : ltK b a = false := by
  cases a with
  | inl a =>
    cases b with
    | inl b =>
      have z : a < b := of_decide_eq_true h
      exact decide_eq_false (by omega)
    | inr b => rfl
  | inr a =>
    cases b with
    | inl b => cases h
    | inr b =>
      have z : a.cps.toList < b.cps.toList := of_decide_eq_true h
      exact decide_eq_false fun q => List.lt_irrefl _ (List.lt_trans z q)
theorem ltK_tot {a b : Ky} (h : ltK a b = false) (n : a ≠ b) : ltK b a = true := by
  cases a with
  | inl a =>
    cases b with
    | inl b =>
      have z : ¬ a < b := of_decide_eq_false h
      have n' : a ≠ b := fun e => n (by rw [e])
      exact decide_eq_true (by omega)
    | inr b => cases h
  | inr a =>
    cases b with
    | inl b => rfl
    | inr b =>
      have z : ¬ a.cps.toList < b.cps.toList := of_decide_eq_false h
      have n' : a.cps.toList ≠ b.cps.toList := fun e => n (by rw [strs_eq e])
      refine decide_eq_true ?_
      have q : b.cps.toList ≤ a.cps.toList := List.not_lt.mp z
      exact Classical.byContradiction fun c => n' (List.le_antisymm (List.not_lt.mp c) q)
theorem ltK_trans {a b c : Ky} (h : ltK a b = true) (k : ltK b c = true) : ltK a c = true := by
  cases a with
  | inl a =>
    cases b with
    | inl b =>
      cases c with
      | inl c =>
        have z : a < b := of_decide_eq_true h
        have y : b < c := of_decide_eq_true k
        exact decide_eq_true (by omega)
      | inr c => rfl
    | inr b =>
      cases c with
      | inl c => cases k
      | inr c => rfl
  | inr a =>
    cases b with
    | inl b => cases h
    | inr b =>
      cases c with
      | inl c => cases k
      | inr c =>
        have z : a.cps.toList < b.cps.toList := of_decide_eq_true h
        have y : b.cps.toList < c.cps.toList := of_decide_eq_true k
        exact decide_eq_true (List.lt_trans z y)
theorem lexK_irr : ∀ a : List Ky, lexK a a = false
  | [] => rfl
  | a :: as => by unfold lexK; rw [if_pos rfl]; exact lexK_irr as
theorem lexK_asym : ∀ {a b : List Ky}, lexK a b = true → lexK b a = false
  | [], [], h => by cases h
  | [], _ :: _, _ => rfl
  | _ :: _, [], h => by cases h
  | a :: as, b :: bs, h => by
    unfold lexK at h ⊢
    by_cases e : a = b
    · rw [if_pos e] at h
      rw [if_pos e.symm]
      exact lexK_asym h
    · rw [if_neg e] at h
      rw [if_neg fun z => e z.symm]
      exact ltK_asym h
theorem lexK_tot : ∀ {a b : List Ky}, lexK a b = false → a ≠ b → lexK b a = true
  | [], [], _, n => absurd rfl n
  | [], _ :: _, h, _ => by cases h
  | _ :: _, [], _, _ => rfl
  | a :: as, b :: bs, h, n => by
    unfold lexK at h ⊢
    by_cases e : a = b
    · rw [if_pos e] at h
      rw [if_pos e.symm]
      exact lexK_tot h fun z => n (by rw [e, z])
    · rw [if_neg e] at h
      rw [if_neg fun z => e z.symm]
      exact ltK_tot h e
theorem lexK_trans : ∀ {a b c : List Ky}, lexK a b = true → lexK b c = true → lexK a c = true
  | [], _, [], h, k => by
    rename_i b
    cases b with
    | nil => cases h
    | cons _ _ => cases k
  | [], _, _ :: _, _, _ => rfl
  | _ :: _, [], _, h, _ => by cases h
  | _ :: _, _ :: _, [], _, k => by cases k
  | a :: as, b :: bs, c :: cs, h, k => by
    unfold lexK at h k ⊢
    by_cases e : a = b
    · rw [if_pos e] at h
      subst e
      by_cases e2 : a = c
      · rw [if_pos e2] at k ⊢
        exact lexK_trans h k
      · rw [if_neg e2] at k ⊢
        exact k
    · rw [if_neg e] at h
      by_cases e2 : b = c
      · subst e2
        rw [if_neg e]
        exact h
      · rw [if_neg e2] at k
        have t := ltK_trans h k
        have ne : a ≠ c := fun z => by rw [z, ltK_irr] at t; cases t
        rw [if_neg ne]
        exact t
theorem lexK_swo {α : Type} (k : α → List Ky) : SrtO.Swo fun x y => lexK (k x) (k y) := by
  refine ⟨fun x y h => lexK_asym h, fun x y z h1 h2 => ?_⟩
  -- lt y x = false, lt z y = false → lt z x = false
  rcases Bool.eq_false_or_eq_true (lexK (k z) (k x)) with q | q
  · by_cases e : k y = k x
    · rw [← e, h2] at q
      cases q
    · have t := lexK_tot h1 e
      have t2 := lexK_trans q t
      rw [h2] at t2
      cases t2
  · exact q
section
variable {prog : Program} {w : World} {A : Around} {E : Value → Shared → Prop} {s : Shared}
theorem key_eq : ∀ {a b : Ky} {u v : Value}, isL a = isL b → RelV (kV a) u → RelV (kV b) v → ∀ {Q : Bool → Shared → Prop}, Q (decide (a = b)) s → wpAny (model prog w) A (eqBool u v) Q E s
  | .inl a, .inl b, _, _, _, ⟨t, rfl⟩, ⟨t', rfl⟩, Q, h => SeqAt.EqAt.int_int a t b t' prog w _ _ (by
      have e : decide ((Sum.inl a : Ky) = Sum.inl b) = (a == b) := key_ll a b
      rw [← e]
      exact h)
  | .inr a, .inr b, _, _, _, ⟨t, rfl⟩, ⟨t', rfl⟩, Q, h => SeqAt.EqAt.str_str a t b t' prog w _ _ (by
      have e : decide ((Sum.inr a : Ky) = Sum.inr b) = (a == b) := by rw [key_rr]; rfl
      rw [← e]
      exact h)
  | .inl _, .inr _, _, _, e, _, _, _, _ => by cases e
  | .inr _, .inl _, _, _, e, _, _, _, _ => by cases e
theorem key_lt : ∀ {a b : Ky} {u v : Value} {i : Nat}, isL a = isL b → RelV (kV a) u → RelV (kV b) v → ∀ {Q : Bool → Shared → Prop}, Q (ltK a b) s → wpAny (model prog w) A (oneLt' (true && i == 0) u v) Q E s
  | .inl a, .inl b, _, _, 0, _, ⟨t, rfl⟩, ⟨t', rfl⟩, Q, h => oneLt_int h
  | .inr a, .inr b, _, _, 0, _, ⟨t, rfl⟩, ⟨t', rfl⟩, Q, h => oneLt_str h
  | .inl a, .inl b, _, _, i + 1, _, ⟨t, rfl⟩, ⟨t', rfl⟩, Q, h => PySem.W.kat_one _ _ (PyProof.Rows.lt_int h)
  | .inr a, .inr b, _, _, i + 1, _, ⟨t, rfl⟩, ⟨t', rfl⟩, Q, h => PySem.W.kat_one _ _ (PyProof.Rows.lt_str h)
  | .inl _, .inr _, _, _, _, e, _, _, _, _ => by cases e
  | .inr _, .inl _, _, _, _, e, _, _, _, _ => by cases e
theorem keys_lex : ∀ {ks ls : List Ky} {us vs : List Value} {i : Nat}, ks.map isL = ls.map isL → Vals (ks.map kV) us → Vals (ls.map kV) vs →
    PySem.W.KatLex prog w A true false (fun r s' => s' = s ∧ r = lexK ks ls) (us.zip vs) i s
  | [], [], _, _, i, _, .nil, .nil => PySem.W.kat_nil ⟨rfl, rfl⟩
  | [], _ :: _, _, _, _, e, _, _ => by cases e
  | _ :: _, [], _, _, _, e, _, _ => by cases e
  | a :: as, b :: bs, u :: us, v :: vs, i, e, .cons ra rs, .cons rb ts => by
    have e1 : isL a = isL b := (List.cons.inj e).1
    have e2 : as.map isL = bs.map isL := (List.cons.inj e).2
    refine PySem.W.kat_cons (key_eq e1 ra rb ?_)
    refine PySem.W.kat_go (fun h => ?_) (fun h => ?_)
    · have hab : a = b := of_decide_eq_true h
      refine PySem.W.kat_yes ?_
      have z : lexK (a :: as) (b :: bs) = lexK as bs := by show (if a = b then _ else _) = _; rw [if_pos hab]
      rw [z]
      exact keys_lex e2 rs ts
    · have hab : ¬ a = b := of_decide_eq_false h
      refine PySem.W.kat_no (key_lt e1 ra rb ⟨rfl, ?_⟩)
      show ltK a b = (if a = b then _ else _)
      rw [if_neg hab]
/-- a tuple of such keys -/
def IsKeys (h : Heap) (v : Value) (ks : List Ky) : Prop := ∃ a o us n, v = .ref a ∧ h.get? a = some o ∧ o.cls = .type "tuple" ∧ o.data = .seq us n ∧ Vals (ks.map kV) us.toList
theorem IsKeys.keeps {h h' : Heap} {v : Value} {ks : List Ky} (p : IsKeys h v ks) (k : ∀ b o, h.get? b = some o → o.cls = .type "tuple" → h'.get? b = some o) : IsKeys h' v ks := by
  obtain ⟨a, o, us, n, e, ho, hc, hd, r⟩ := p
  exact ⟨a, o, us, n, e, k _ _ ho hc, hc, hd, r⟩
theorem keys_cmp {vs : List Value} {k : Value → List Ky} {sh : List Bool} (hp : ∀ v ∈ vs, IsKeys s.heap v (k v) ∧ (k v).map isL = sh) : SrtO.Cmp prog w A s (tuples' true) (fun p => p.1 ∈ vs) (SrtO.lt2 fun v u => lexK (k v) (k u)) := by
  intro p q hm hm'
  obtain ⟨h1, e1⟩ := hp _ hm
  obtain ⟨h2, e2⟩ := hp _ hm'
  show wpAny (model prog w) A (keyLt' (tuples' true) p.1 q.1) (fun r s' => s' = s ∧ r = lexK (k p.1) (k q.1)) (fun _ _ => False) s
  generalize k p.1 = ks at h1 e1 ⊢
  generalize k q.1 = ls at h2 e2 ⊢
  obtain ⟨a, o, us, n, e, ho, hc, hd, r⟩ := h1
  obtain ⟨a', o', us', n', e', ho', hc', hd', r'⟩ := h2
  rw [e, e']
  refine PySem.W.kat_lt ho hd ho' hd' ?_
  have l1 := r.length
  have l2 := r'.length
  have l3 : ks.length = ls.length := by
    have := congrArg List.length (e1.trans e2.symm)
    rw [List.length_map, List.length_map] at this
    exact this
  have z : decide (us.size < us'.size) = false := by
    rw [List.length_map] at l1 l2
    have q1 : us.toList.length = us.size := Array.length_toList
    have q2 : us'.toList.length = us'.size := Array.length_toList
    exact decide_eq_false (by omega)
  rw [z]
  exact keys_lex (e1.trans e2.symm) r r'
theorem firsts_keys {h : Heap} {k : Value → List Ky} {b : Bool} {sh : List Bool} : ∀ {vs : List Value}, (∀ v ∈ vs, IsKeys h v (k v) ∧ (k v).map isL = b :: sh) → ∃ fs : List Value, PySem.W.KatTups h vs fs ∧ fs.length = vs.length ∧ ∀ f ∈ fs, ∃ ky : Ky, isL ky = b ∧ RelV (kV ky) f
  | [], _ => ⟨[], PySem.W.KatTups.nil, rfl, fun _ hm => by simp at hm⟩
  | v :: vs, hp => by
    obtain ⟨fs, h1, h2, h3⟩ := firsts_keys (vs := vs) fun v' hm => hp v' (List.mem_cons_of_mem _ hm)
    obtain ⟨⟨a, o, us, n, e, ho, hc, hd, r⟩, e1⟩ := hp v (List.mem_cons_self ..)
    subst e
    cases hk : k (.ref a) with
    | nil => rw [hk] at e1; cases e1
    | cons ky kr =>
      rw [hk] at r e1
      obtain ⟨u0, hu0, ru⟩ := Vals.get (i := 0) r rfl
      refine ⟨u0 :: fs, PySem.W.KatTups.cons ho hc hd (by rw [← Array.getElem?_toList]; exact hu0) h1, by rw [List.length_cons, List.length_cons, h2], fun f hm => ?_⟩
      rcases List.mem_cons.mp hm with rfl | hm
      · exact ⟨ky, (List.cons.inj e1).1, ru⟩
      · exact h3 f hm
theorem keys_sortable {a : Addr} {vs : List Value} {k : Value → List Ky} {b : Bool} {sh : List Bool} (h0 : 0 < vs.length) (hp : ∀ v ∈ vs, IsKeys s.heap v (k v) ∧ (k v).map isL = b :: sh) (ha : ∀ o, s.heap.get? a = some o → o.cls ≠ .type "tuple") : SrtO.SortableO prog w A s a vs fun v u => lexK (k v) (k u) := by
  intro h' keep
  have hp' : ∀ v ∈ vs, IsKeys h' v (k v) ∧ (k v).map isL = b :: sh := fun v hm => ⟨IsKeys.keeps (hp v hm).1 fun b o e c => keep b o (fun z => by subst z; exact ha o e c) e, (hp v hm).2⟩
  obtain ⟨fs, h1, h2, h3⟩ := firsts_keys hp'
  refine ⟨tuples' true, fun Q E hq => ?_, keys_cmp hp'⟩
  cases b with
  | true =>
    refine PySem.W.kat_kind (T := .type "int") h1 (by omega) (fun f hm => ?_) (by rfl) ?_
    · obtain ⟨ky, e, r⟩ := h3 f hm
      cases ky with
      | inl i => obtain ⟨t, rfl⟩ := r; exact PySem.W.Looks.now
      | inr x => cases e
    · have e : (Value.type "int" != Value.type "tuple") = true := by decide +kernel
      rw [e]
      exact hq
  | false =>
    refine PySem.W.kat_kind (T := .type "str") h1 (by omega) (fun f hm => ?_) (by rfl) ?_
    · obtain ⟨ky, e, r⟩ := h3 f hm
      cases ky with
      | inl i => cases e
      | inr x => obtain ⟨t, rfl⟩ := r; exact PySem.W.Looks.now
    · have e : (Value.type "str" != Value.type "tuple") = true := by decide +kernel
      rw [e]
      exact hq
end
/-- sorted(xs), tuples of texts and ints of one form -/
def rSortK (K : PySem.W.Frag) : List V → Hp → VK → Prop := fun vs H Q => ∃ (a : Addr) (xs : List V) (k : V → List Ky) (b : Bool) (sh : List Bool), vs = [V.ref a] ∧ SqL K H a xs ∧ (∀ x ∈ xs, ∃ t, x = V.ref t ∧ H t = some (.tup ((k x).map kV)) ∧ (k x).map isL = b :: sh) ∧
  ∀ ys p, ys.Pairwise (fun x y => lexK (k y) (k x) = false) → ys.Perm xs → H p = none → Q (.ref p) (upd H p (.lst ys))
theorem cr_sortK {X : Cx} : CallR X (.builtin "sorted") (rSortK X.K) := by
  intro pins s σ H vs us Q I r h
  obtain ⟨a, xs, k, b, sh, rfl, hs, hx, q⟩ := h
  obtain ⟨its, rv, hl, hz⟩ := I.list hs
  obtain ⟨u, rfl, ru⟩ := vals1 r
  obtain rfl : u = Value.ref a := ru
  obtain ⟨e1, e2⟩ := refs_back rv fun x m => by
    obtain ⟨t, e, _⟩ := hx x m
    exact ⟨t, e⟩
  have hp : ∀ v ∈ its, IsKeys s.heap v (k (backV v)) ∧ (k (backV v)).map isL = b :: sh := fun v hv => by
    obtain ⟨t, rfl⟩ := e2 v hv
    have hm : V.ref t ∈ xs := by rw [e1]; exact List.mem_map.mpr ⟨_, hv, rfl⟩
    obtain ⟨t', e, ht, hsh⟩ := hx _ hm
    cases e
    obtain ⟨_, its2, r2, o, ho, hc, n, hd⟩ := I.hok _ _ ht
    exact ⟨⟨t, o, its2.toArray, n, rfl, ho, hc, hd, (show Vals ((k (V.ref t)).map kV) its2.toArray.toList from by rw [List.toList_toArray]; exact r2)⟩, hsh⟩
  refine SrtO.sorted_ord (lexK_swo fun u => k (backV u)) hl.isList (by rw [← rv.length]; exact hz) (fun h2 h₁ a' ha' kk => ?_) fun out h1 h2 => ?_
  · refine keys_sortable (s := { s with heap := h₁ }) (by omega) (fun v hm => ⟨IsKeys.keeps (hp v hm).1 fun b o e _ => (kk b o e).2, (hp v hm).2⟩) fun o e => ?_
    have e' : some o = some (seqObj "list" its.toArray 0) := e.symm.trans ha'
    cases e'
    intro c
    exact absurd (Value.type.inj c) (by decide)
  · obtain ⟨ep, he'⟩ := PyProof.Rows.sortedAll_at s.heap its out.toArray
    have h3 : ∀ u ∈ out, ∃ a, u = Value.ref a := fun u hu => e2 u (h2.perm.mem_iff.mp hu)
    have hpm : (out.map backV).Perm xs := by
      rw [e1]
      exact h2.perm.map _
    have hlen : (out.map backV).length ≤ sizeLine := by
      rw [hpm.length_eq]
      exact hz
    exact ⟨.ref _, upd H (s.heap.objs.size + 1) (.lst (out.map backV)), I.laid (t' := s.toks) (fun _ _ => PyProof.Rows.sortedAll_old) (Nat.le_succ _) ⟨hlen, out, ep, vals_back h3, he'⟩, rfl, q _ _ (List.pairwise_map.mpr h1) hpm (I.hok.fresh (Nat.le_succ _))⟩
theorem ksortK (K : PySem.W.Frag) {X : Cx} (h : X.K = K := by rfl) : CallR X (.builtin "sorted") (rSortK K) := by subst h; exact cr_sortK
end Bz
namespace Bz
open PySem PySem.Spec PyProof.Rows L2
/-! ### enumerate(xs, start=1), xs a list -/
def ItS (K : PySem.W.Frag) (l : Addr) : It :=
  ⟨fun i H => ∃ (ys : List V) (y : V), SqL K H l ys ∧ ys[i]? = some y, fun i H v H' => ∃ q y, v = .ref q ∧ H q = none ∧ H' = upd H q (.tup [.int (1 + (i : Int)), y]) ∧ ∀ ys, SqL K H l ys → ys[i]? = some y, fun i H => ∃ ys : List V, SqL K H l ys ∧ ys.length = i⟩
theorem turn_enumS {P : Program} {w : World} {K : PySem.W.Frag} {elts : List Expr} {kk : Nat} {tp : Pos} (l en it : Addr) :
    Turn P w K (.Tuple elts kk tp) (ItS K l) [en, it] en (fun i h => (∃ old, IsEnum h en it (1 + ((i : Nat) : Int)) old) ∧ h.IsListIter it l i ∧ en ≠ it) where
  mem := List.mem_cons_self ..
  obj := fun i h st b hb => by
    obtain ⟨⟨old, he⟩, ⟨o, ho, hc, hd⟩, _⟩ := st
    rcases List.mem_cons.mp hb with z | z
    · rw [z]
      exact ⟨_, he, fun v q => nomatch q⟩
    · rw [List.mem_singleton.mp z]
      exact ⟨o, ho, fun v q => by rw [hd] at q; cases q⟩
  keep := fun i h h' st k => ⟨⟨st.1.choose, k en (by simp) _ st.1.choose_spec⟩, st.2.1.at fun o q => k it (by simp) o q, st.2.2⟩
  item := by
    intro X hP hw hK hc i pins s σ H E I hf st hg
    subst hP hw hK
    obtain ⟨⟨old, he⟩, hit, hne⟩ := st
    obtain ⟨ys, y, hq, hy⟩ := hg
    obtain ⟨its, rv, pl, hz⟩ := I.list hq
    obtain ⟨u, hu, ru⟩ := rv.get hy
    have hen : en < s.heap.objs.size := Heap.lt_size he
    have hil : it < s.heap.objs.size := by
      obtain ⟨_, q, _⟩ := hit
      exact Heap.lt_size q
    have nli : l ≠ it := fun z => by
      obtain ⟨o1, q1, c1, _⟩ := hit
      obtain ⟨o2, q2, c2, _⟩ := pl.isList
      rw [z, q1] at q2
      cases q2
      rw [c1] at c2
      exact absurd (Value.type.inj c2) (by decide)
    have nle : l ≠ en := fun z => by
      obtain ⟨o2, q2, c2, _⟩ := pl.isList
      have he' : s.heap.get? en = some _ := he
      rw [z, he'] at q2
      cases q2
      exact absurd (Value.type.inj c2) (by decide)
    have D := Draws.list (prog := X.prog) (w := X.w) (A := X.A.in1) (I.ok.hd hc) it l nli its.toArray
    refine wpAny_pyNext_enum_itemC D he (i := i) ⟨hit, pl.isList⟩ ?_ hne (by simp [hne, Ne.symm nle]) fun x h' tk hx ho hst hT hsz hk => ?_
    · have := (List.getElem?_eq_some_iff.mp hu).1
      simpa using this
    have exu : x = u := by
      have q : its[i]? = some x := by simpa using hx
      rw [hu] at q
      exact (Option.some.inj q).symm
    subst exu
    refine ⟨_, rfl, wpAny_letOwnedTupleGo_enum (s := { s with heap := h', toks := tk + 1 }) ho fun h'' he'' sb => ?_⟩
    have hT2 : h''.get? s.heap.objs.size = some { cls := .type "tuple", data := .seq #[.int (1 + (i : Int)) tk, x] } := (sb.2 _ (Nat.ne_of_gt hen)).trans hT
    have new : ObjOk X.prog X.w (upd H s.heap.objs.size (.tup [.int (1 + (i : Int)), y])) h'' s.heap.objs.size (.tup [.int (1 + (i : Int)), y]) :=
      ⟨Nat.le_of_ble_eq_true rfl, [.int (1 + (i : Int)) tk, x], .cons ⟨_, rfl⟩ (.cons ru .nil), ⟨_, hT2, rfl, _, rfl⟩⟩
    have I1 : Inv X pins σ (upd H s.heap.objs.size (.tup [.int (1 + (i : Int)), y])) { s with heap := h'', toks := tk + 1 } :=
      I.turnedNew (ch := [en, it]) (fun b ob hb q => (sb.2 b (fun z => hb (by simp [z]))).trans (hk b ob (fun z => hb (by simp [z])) (fun z => hb (by simp [z])) q)) hf (Nat.le_refl _) new
    refine ⟨.ref s.heap.objs.size, _, I1, rfl, ⟨_, y, rfl, I.hok.fresh (Nat.le_refl _), rfl, fun zs hzs => by rw [I.list_inj hzs hq]; exact hy⟩, ⟨⟨x, ?_⟩, hst.1.at fun o q => (sb.2 it (Ne.symm hne)).trans q, hne⟩, fun b hb => ?_⟩
    · have e1 : (1 : Int) + ((i + 1 : Nat) : Int) = 1 + (i : Int) + 1 := by omega
      rw [e1]
      exact he''
    · have hb' : b < s.heap.objs.size := by
        rcases List.mem_cons.mp hb with z | z
        · rw [z]; exact hen
        · rw [List.mem_singleton.mp z]; exact hil
      rw [upd_ne (Nat.ne_of_lt hb')]
      exact (hf b hb).1
  done := by
    intro X hP hw hK hc i pins s σ H E I hf st hg
    subst hP hw hK
    obtain ⟨⟨old, he⟩, hit, hne⟩ := st
    obtain ⟨ys, hq, hy⟩ := hg
    obtain ⟨its, rv, pl, hz⟩ := I.list hq
    obtain ⟨f0, f1, f2, f3, f4, f5⟩ := hf it (by simp)
    have hlen := rv.length
    have nli : l ≠ it := fun z => by
      obtain ⟨o1, q1, c1, _⟩ := hit
      obtain ⟨o2, q2, c2, _⟩ := pl.isList
      rw [z, q1] at q2
      cases q2
      rw [c1] at c2
      exact absurd (Value.type.inj c2) (by decide)
    have D := Draws.list (prog := X.prog) (w := X.w) (A := X.A.in1) (I.ok.hd hc) it l nli its.toArray
    have en : its.toArray.size = i := by
      rw [List.size_toArray]
      omega
    exact wpAny_pyNext_enum_endD D he ⟨by rw [en]; exact hit, pl.isList⟩ fun h' eb => ⟨rfl, I.turned (t' := s.toks) (fun b o hb q => eb b o hb q) f0 f1 f3 f4 f5⟩
  self := fun A i s Q E st h => wpAny_pyIter_enum st.1.choose_spec h
def iEnumS (K : PySem.W.Frag) (te : TE) : TI := fun σ H R => te σ H fun v H1 => ∃ l ys, v = .ref l ∧ SqL K H1 l ys ∧ R (ItS K l) H1
theorem callTy_kw {M : Model} {A : Around} {E : Value → Shared → Prop} {s : Shared} {pos : Pos} {T : String} {t : Sem Value} {kw : PySem.Str} {x : Sem Value} {Q : Value → Shared → Prop}
    (h : wpAny M A t (fun v s1 => wpAny M A x (fun k s2 => wpAny M A (call (.type T) [v] [(kw, k)]) Q E s2) E s1) E s) :
    wpAny M A (callWith pos (.type T) [] [(false, t)] [(some kw, x)]) Q E s := by
  unfold callWith
  refine wpAny_bind (wpAny_holding (wpAny_mono (Q := fun (a : Args) s1 => wpAny M A (call (.type T) ([] ++ a.pos) a.kw) Q E s1) ?_ (fun a s1 h1 => wpAny_bind (wpAny_standAt ?_)) fun _ _ z => z))
  · refine evalArgs_kwB (by rfl) ?_
    refine Calls.spliced_cons (wpAny_mono h (fun v s1 h1 => Calls.spliced_nil ?_) fun _ _ z => z)
    exact evalAll_cons (wpAny_mono h1 (fun k s2 h2 => wpAny_evalAll_nil h2) fun _ _ z => z)
  · refine wpAny_bind (wpAny_pure ?_)
    exact wpAny_bind (wpAny_mono h1 (fun r s2 hr => wpAny_bind (wpAny_holding (wpAny_point (wpAny_pure hr)))) fun _ _ z => z)
theorem pi_enumS {X : Cx} {e : Expr} {te : TE} {p pos tpos kpos : Pos} {j : Nat} {cpos : Pos} {elts : List Expr} {kk : Nat} (hg : Gl X "enumerate") (hm : X.mg "enumerate" = none) (he : PE X e te) (hs : starEach [e] X.env = [(false, eval e X.env)] := by rfl) :
    PI X (.Tuple elts kk tpos) (.Call (.Name "enumerate" p) [e] [⟨some "start", .Constant (.int 1) j cpos, kpos⟩] pos) (iEnumS X.K te) := by
  refine ⟨fun pins s σ H R I h => ?_⟩
  refine wpAny_Call_Name_kw (ld_blt I hg hm boot_enumerate ?_)
  rw [hs]
  show wpAny _ _ (callWith pos (Value.type "enumerate") [] [(false, eval e X.env)] [(some "start", do let v ← eval (.Constant (.int 1) j cpos) X.env; standAt pos; pure v)]) _ _ _
  refine callTy_kw (thn (he.run pins s σ H _ I h) fun u s1 ⟨v, H1, I1, r1, l, ys, ev, hq, q⟩ => ?_)
  subst ev
  obtain rfl : u = Value.ref l := r1
  refine wpAny_bind (wpAny_Constant_int (wpAny_bind (wpAny_standAt (wpAny_pure ?_))))
  have I2 := I1.tok (s1.toks + 1)
  obtain ⟨its, rv, pl, hz⟩ := I2.list hq
  refine enum_begins_start (s := { s1 with toks := s1.toks + 1 }) (begins_list l its.toArray) pl.isList (by decide) (by decide) fun h' he' hit hsz hk => wpAny_pyIter_enum he' ?_
  have I3 : Inv X pins σ H1 { s1 with heap := h', toks := s1.toks + 1 } := I2.kept (t' := s1.toks + 1) hk
  refine ⟨s1.heap.objs.size + 1, [s1.heap.objs.size + 1, s1.heap.objs.size], _, _, H1, rfl, I3, turn_enumS l (s1.heap.objs.size + 1) s1.heap.objs.size, ⟨⟨.none, by simpa using he'⟩, ⟨_, hit, rfl, rfl⟩, Nat.succ_ne_self _⟩, fun b hb => ?_, q⟩
  have hle : s1.heap.objs.size ≤ b := by
    rcases List.mem_cons.mp hb with z | z
    · rw [z]
      exact Nat.le_succ _
    · rw [List.mem_singleton.mp z]
      exact Nat.le_refl _
  exact I2.fpOk hle (I2.hok.fresh hle)
theorem walk_enumS {K : PySem.W.Frag} {l : Addr} {ys : List V} : Walk (ItS K l) ys.length (fun H => SqL K H l ys) (fun i H v H' => ∃ q y, v = .ref q ∧ H q = none ∧ H' = upd H q (.tup [.int (1 + (i : Int)), y]) ∧ ys[i]? = some y) :=
  ⟨fun i _ hi q => ⟨ys, ys[i], q, by simp [hi]⟩, fun _ q => ⟨ys, q, rfl⟩, fun _ _ _ _ _ q ⟨a, b, c, d, e, f⟩ => ⟨a, b, c, d, e, f ys q⟩⟩
/-! the same of a tuple -/
def ItST (K : PySem.W.Frag) (l : Addr) : It :=
  ⟨fun i H => ∃ (ys : List V) (y : V), SqT K H l ys ∧ ys[i]? = some y, fun i H v H' => ∃ q y, v = .ref q ∧ H q = none ∧ H' = upd H q (.tup [.int (1 + (i : Int)), y]) ∧ ∀ ys, SqT K H l ys → ys[i]? = some y, fun i H => ∃ ys : List V, SqT K H l ys ∧ ys.length = i⟩
theorem turn_enumST {P : Program} {w : World} {K : PySem.W.Frag} {elts : List Expr} {kk : Nat} {tp : Pos} (l en it : Addr) :
    Turn P w K (.Tuple elts kk tp) (ItST K l) [en, it] en (fun i h => (∃ old, IsEnum h en it (1 + ((i : Nat) : Int)) old) ∧ h.IsTupleIter it l i ∧ en ≠ it) where
  mem := List.mem_cons_self ..
  obj := fun i h st b hb => by
    obtain ⟨⟨old, he⟩, ⟨o, ho, hc, hd⟩, _⟩ := st
    rcases List.mem_cons.mp hb with z | z
    · rw [z]
      exact ⟨_, he, fun v q => nomatch q⟩
    · rw [List.mem_singleton.mp z]
      exact ⟨o, ho, fun v q => by rw [hd] at q; cases q⟩
  keep := fun i h h' st k => ⟨⟨st.1.choose, k en (by simp) _ st.1.choose_spec⟩, st.2.1.at fun o q => k it (by simp) o q, st.2.2⟩
  item := by
    intro X hP hw hK hc i pins s σ H E I hf st hg
    subst hP hw hK
    obtain ⟨⟨old, he⟩, hit, hne⟩ := st
    obtain ⟨ys, y, hq, hy⟩ := hg
    obtain ⟨its, rv, pl, hz⟩ := I.tuple hq
    obtain ⟨u, hu, ru⟩ := rv.get hy
    have hen : en < s.heap.objs.size := Heap.lt_size he
    have hil : it < s.heap.objs.size := by
      obtain ⟨_, q, _⟩ := hit
      exact Heap.lt_size q
    have nli : l ≠ it := fun z => by
      obtain ⟨o1, q1, c1, _⟩ := hit
      obtain ⟨o2, q2, c2, _⟩ := (show Heap.IsTuple _ _ _ from pl)
      rw [z, q1] at q2
      cases q2
      rw [c1] at c2
      exact absurd (Value.type.inj c2) (by decide)
    have nle : l ≠ en := fun z => by
      obtain ⟨o2, q2, c2, _⟩ := (show Heap.IsTuple _ _ _ from pl)
      have he' : s.heap.get? en = some _ := he
      rw [z, he'] at q2
      cases q2
      exact absurd (Value.type.inj c2) (by decide)
    have D := Draws.tuple (prog := X.prog) (w := X.w) (A := X.A.in1) (I.ok.hd hc) it l nli its.toArray
    refine wpAny_pyNext_enum_itemC D he (i := i) ⟨hit, (show Heap.IsTuple _ _ _ from pl)⟩ ?_ hne (by simp [hne, Ne.symm nle]) fun x h' tk hx ho hst hT hsz hk => ?_
    · have := (List.getElem?_eq_some_iff.mp hu).1
      simpa using this
    have exu : x = u := by
      have q : its[i]? = some x := by simpa using hx
      rw [hu] at q
      exact (Option.some.inj q).symm
    subst exu
    refine ⟨_, rfl, wpAny_letOwnedTupleGo_enum (s := { s with heap := h', toks := tk + 1 }) ho fun h'' he'' sb => ?_⟩
    have hT2 : h''.get? s.heap.objs.size = some { cls := .type "tuple", data := .seq #[.int (1 + (i : Int)) tk, x] } := (sb.2 _ (Nat.ne_of_gt hen)).trans hT
    have new : ObjOk X.prog X.w (upd H s.heap.objs.size (.tup [.int (1 + (i : Int)), y])) h'' s.heap.objs.size (.tup [.int (1 + (i : Int)), y]) :=
      ⟨Nat.le_of_ble_eq_true rfl, [.int (1 + (i : Int)) tk, x], .cons ⟨_, rfl⟩ (.cons ru .nil), ⟨_, hT2, rfl, _, rfl⟩⟩
    have I1 : Inv X pins σ (upd H s.heap.objs.size (.tup [.int (1 + (i : Int)), y])) { s with heap := h'', toks := tk + 1 } :=
      I.turnedNew (ch := [en, it]) (fun b ob hb q => (sb.2 b (fun z => hb (by simp [z]))).trans (hk b ob (fun z => hb (by simp [z])) (fun z => hb (by simp [z])) q)) hf (Nat.le_refl _) new
    refine ⟨.ref s.heap.objs.size, _, I1, rfl, ⟨_, y, rfl, I.hok.fresh (Nat.le_refl _), rfl, fun zs hzs => by rw [I.tuple_inj hzs hq]; exact hy⟩, ⟨⟨x, ?_⟩, hst.1.at fun o q => (sb.2 it (Ne.symm hne)).trans q, hne⟩, fun b hb => ?_⟩
    · have e1 : (1 : Int) + ((i + 1 : Nat) : Int) = 1 + (i : Int) + 1 := by omega
      rw [e1]
      exact he''
    · have hb' : b < s.heap.objs.size := by
        rcases List.mem_cons.mp hb with z | z
        · rw [z]; exact hen
        · rw [List.mem_singleton.mp z]; exact hil
      rw [upd_ne (Nat.ne_of_lt hb')]
      exact (hf b hb).1
  done := by
    intro X hP hw hK hc i pins s σ H E I hf st hg
    subst hP hw hK
    obtain ⟨⟨old, he⟩, hit, hne⟩ := st
    obtain ⟨ys, hq, hy⟩ := hg
    obtain ⟨its, rv, pl, hz⟩ := I.tuple hq
    obtain ⟨f0, f1, f2, f3, f4, f5⟩ := hf it (by simp)
    have hlen := rv.length
    have nli : l ≠ it := fun z => by
      obtain ⟨o1, q1, c1, _⟩ := hit
      obtain ⟨o2, q2, c2, _⟩ := (show Heap.IsTuple _ _ _ from pl)
      rw [z, q1] at q2
      cases q2
      rw [c1] at c2
      exact absurd (Value.type.inj c2) (by decide)
    have D := Draws.tuple (prog := X.prog) (w := X.w) (A := X.A.in1) (I.ok.hd hc) it l nli its.toArray
    have en : its.toArray.size = i := by
      rw [List.size_toArray]
      omega
    exact wpAny_pyNext_enum_endD D he ⟨by rw [en]; exact hit, (show Heap.IsTuple _ _ _ from pl)⟩ fun h' eb => ⟨rfl, I.turned (t' := s.toks) (fun b o hb q => eb b o hb q) f0 f1 f3 f4 f5⟩
  self := fun A i s Q E st h => wpAny_pyIter_enum st.1.choose_spec h
def iEnumST (K : PySem.W.Frag) (te : TE) : TI := fun σ H R => te σ H fun v H1 => ∃ l ys, v = .ref l ∧ SqT K H1 l ys ∧ R (ItST K l) H1
theorem pi_enumST {X : Cx} {e : Expr} {te : TE} {p pos tpos kpos : Pos} {j : Nat} {cpos : Pos} {elts : List Expr} {kk : Nat} (hg : Gl X "enumerate") (hm : X.mg "enumerate" = none) (he : PE X e te) (hs : starEach [e] X.env = [(false, eval e X.env)] := by rfl) :
    PI X (.Tuple elts kk tpos) (.Call (.Name "enumerate" p) [e] [⟨some "start", .Constant (.int 1) j cpos, kpos⟩] pos) (iEnumST X.K te) := by
  refine ⟨fun pins s σ H R I h => ?_⟩
  refine wpAny_Call_Name_kw (ld_blt I hg hm boot_enumerate ?_)
  rw [hs]
  show wpAny _ _ (callWith pos (Value.type "enumerate") [] [(false, eval e X.env)] [(some "start", do let v ← eval (.Constant (.int 1) j cpos) X.env; standAt pos; pure v)]) _ _ _
  refine callTy_kw (thn (he.run pins s σ H _ I h) fun u s1 ⟨v, H1, I1, r1, l, ys, ev, hq, q⟩ => ?_)
  subst ev
  obtain rfl : u = Value.ref l := r1
  refine wpAny_bind (wpAny_Constant_int (wpAny_bind (wpAny_standAt (wpAny_pure ?_))))
  have I2 := I1.tok (s1.toks + 1)
  obtain ⟨its, rv, pl, hz⟩ := I2.tuple hq
  refine enum_begins_start (s := { s1 with toks := s1.toks + 1 }) (begins_tuple l its.toArray) (show Heap.IsTuple _ _ _ from pl) (by decide) (by decide) fun h' he' hit hsz hk => wpAny_pyIter_enum he' ?_
  have I3 : Inv X pins σ H1 { s1 with heap := h', toks := s1.toks + 1 } := I2.kept (t' := s1.toks + 1) hk
  refine ⟨s1.heap.objs.size + 1, [s1.heap.objs.size + 1, s1.heap.objs.size], _, _, H1, rfl, I3, turn_enumST l (s1.heap.objs.size + 1) s1.heap.objs.size, ⟨⟨.none, by simpa using he'⟩, ⟨_, hit, rfl, rfl⟩, Nat.succ_ne_self _⟩, fun b hb => ?_, q⟩
  have hle : s1.heap.objs.size ≤ b := by
    rcases List.mem_cons.mp hb with z | z
    · rw [z]
      exact Nat.le_succ _
    · rw [List.mem_singleton.mp z]
      exact Nat.le_refl _
  exact I2.fpOk hle (I2.hok.fresh hle)
theorem walk_enumST {K : PySem.W.Frag} {l : Addr} {ys : List V} : Walk (ItST K l) ys.length (fun H => SqT K H l ys) (fun i H v H' => ∃ q y, v = .ref q ∧ H q = none ∧ H' = upd H q (.tup [.int (1 + (i : Int)), y]) ∧ ys[i]? = some y) :=
  ⟨fun i _ hi q => ⟨ys, ys[i], q, by simp [hi]⟩, fun _ q => ⟨ys, q, rfl⟩, fun _ _ _ _ _ q ⟨a, b, c, d, e, f⟩ => ⟨a, b, c, d, e, f ys q⟩⟩
end Bz
namespace Bz
open PySem PySem.Spec PyProof.Rows L2
/-! ### texts in order -/
def ltV (v u : Value) : Bool := decide ((strOf v).cps.toList < (strOf u).cps.toList)
theorem ltV_swo : SrtO.Swo ltV := by
  have q := lexK_swo (α := Value) fun v => [(.inr (strOf v) : Ky)]
  have e : ∀ v u, lexK [(.inr (strOf v) : Ky)] [.inr (strOf u)] = ltV v u := fun v u => by
    show (if _ then _ else _) = _
    by_cases h : (Sum.inr (strOf v) : Ky) = .inr (strOf u)
    · rw [if_pos h]
      have h' : strOf v = strOf u := Sum.inr.inj h
      unfold ltV
      rw [h']
      exact (decide_eq_false (List.lt_irrefl _)).symm
    · rw [if_neg h]
      rfl
  exact ⟨fun x y h => by rw [← e] at h ⊢; exact q.asym x y h, fun x y z h1 h2 => by rw [← e] at h1 h2 ⊢; exact q.tr x y z h1 h2⟩
section
variable {prog : Program} {w : World} {A : Around} {E : Value → Shared → Prop} {s : Shared}
theorem strs_sortable {a : Addr} {vs : List Value} {ss : List PySem.Str} (hS : StrsAre vs ss) (h2 : 2 ≤ vs.length) : SrtO.SortableO prog w A s a vs ltV := by
  intro h' _
  refine ⟨oneType', fun Q E hq => ?_, fun p q hm hm' => ?_⟩
  · match vs, hS, h2 with
    | v1 :: v2 :: rest, hS, _ =>
      rw [keyKind_strs hS]
      exact wpAny_pure hq
    | [], _, h => exact absurd h (by decide)
    | [v], _, h => exact absurd h (by simp)
  · obtain ⟨x, t, ex⟩ := hS.all _ hm
    obtain ⟨y, u, ey⟩ := hS.all _ hm'
    show wpAny (model prog w) A (keyLt' oneType' p.1 q.1) (fun r s' => s' = _ ∧ r = ltV p.1 q.1) (fun _ _ => False) _
    rw [ex, ey, keyLt'_oneType]
    exact oneLt_str ⟨rfl, rfl⟩
theorem strs_out {vs out : List Value} {ss : List PySem.Str} (hS : StrsAre vs ss) (hs : SrtO.Srtd ltV out) (hb : SrtO.Stb ltV out vs) :
    StrsAre out (out.map strOf) ∧ (out.map strOf).Perm ss ∧ (out.map strOf).Pairwise (fun x y => ¬ y.cps.toList < x.cps.toList) := by
  refine ⟨strsAre_map out fun v hv => hS.all v (hb.perm.mem_iff.mp hv), ?_, ?_⟩
  · have q := hb.perm.map strOf
    rw [hS.strs] at q
    exact q
  · exact List.pairwise_map.mpr (hs.imp fun {x y} h => of_decide_eq_false h)
end
/-! ### a set of texts, its table told as far as a walk over it asks -/
def skey (e : Int × Value) : PySem.Str := strOf e.2
structure StrR (P : Program) (w : World) (h : Heap) (a : Addr) (M : PySem.Str → Prop) (b : Nat) (es : Array (Int × Value)) (ep : Nat) (t : SetTable) : Prop where
  ob : ∃ o, h.get? a = some o ∧ o.ExactSet ∧ o.data = .set es ep t
  el : ElemsOf (strKind P w) es.toList
  nd : (es.toList.map skey).Nodup
  mem : ∀ k, M k ↔ k ∈ es.toList.map skey
  size : es.size ≤ b
  few : b < scanBound
  fits : t.fits es.size = true
  ris : Ris t.place.toList
  led : w.params.followText "set-order" = true ∨ t.led = true
section
variable {P : Program} {w : World} {A : Around} {E : Value → Shared → Prop} {s : Shared} {a : Addr} {M : PySem.Str → Prop} {b : Nat} {es : Array (Int × Value)} {ep : Nat} {t : SetTable}
theorem el_str {l : List (Int × Value)} (g : ElemsOf (strKind P w) l) {e : Int × Value} (he : e ∈ l) : ∃ tk, e = (hashStr w (skey e), .str (skey e) tk) := by
  obtain ⟨⟨k, hk, hh⟩, _⟩ := g e he
  obtain ⟨tk, q⟩ := Value.isStrOf_shape (show Value.isStrOf k e.2 = true from hk)
  obtain ⟨e1, e2⟩ := e
  dsimp only at q hh
  subst q hh
  exact ⟨tk, rfl⟩
theorem el_is {l : List (Int × Value)} (g : ElemsOf (strKind P w) l) (k : PySem.Str) {e : Int × Value} (he : e ∈ l) : (strKind P w).is k e.2 = true ↔ skey e = k := by
  obtain ⟨tk, q⟩ := el_str g he
  constructor
  · intro h
    obtain ⟨tk', q'⟩ := Value.isStrOf_shape (show Value.isStrOf k e.2 = true from h)
    unfold skey
    rw [q']
    rfl
  · intro h
    rw [q, h]
    exact strKind_is P w k tk
theorem StrR.at {h h' : Heap} (R : StrR P w h a M b es ep t) (k : ∀ o, h.get? a = some o → h'.get? a = some o) : StrR P w h' a M b es ep t := by
  obtain ⟨o, ho, r⟩ := R.ob
  exact { R with ob := ⟨o, k o ho, r⟩ }
theorem str_tail {g : Bool → Sem Unit} (hg : ∀ (c : Bool) (s1 : Shared) (Q' : Unit → Shared → Prop), Q' () s1 → wpAny (model P w) A (g c) Q' E s1)
    {o : Obj} (ho : s.heap.get? a = some o) (hex : o.ExactSet) (hd : o.data = .set es ep t) {es1 : Array (Int × Value)} {t2 : SetTable} {M' : PySem.Str → Prop} {b' : Nat} (g1 : ElemsOf (strKind P w) es1.toList) (nd1 : (es1.toList.map skey).Nodup)
    (m1 : ∀ k, M' k ↔ k ∈ es1.toList.map skey) (hz : es1.size ≤ b') (hb1 : b' < scanBound) (hf2 : t2.fits es1.size = true) (hr : Ris t2.place.toList) (hl : w.params.followText "set-order" = true ∨ t2.led = true) {wd : Bool} {R : Option Bool → Shared → Prop}
    (hR : ∀ h' es' ep' t', Heap.SameBut a s.heap h' → StrR P w h' a M' b' es' ep' t' → R (some true) { s with heap := h' }) :
    wpAny (model P w) A (do
        storeSet a es1 t2
        if (!wd && t2.tooFull) = true then do
            g (relayAll t2 es1 (SetTable.grown es1.size)).2.2
            storeSet a (relayAll t2 es1 (SetTable.grown es1.size)).1 (relayAll t2 es1 (SetTable.grown es1.size)).2.1
            pure (some true)
          else pure (some true)) R E s := by
  have hlt : es1.size < scanBound := Nat.lt_of_le_of_lt hz hb1
  refine wpAny_bind (wpAny_storeSet_of ho hd ?_ (fits_of_scanBound hlt))
  have ho1 := L2.store_at (es' := es1) (t' := t2) ho hd
  have sb1 := Heap.SameBut.update s.heap a (Obj.putSet es1 t2)
  split
  · have pm := relayAll_perm t2 es1 (SetTable.grown es1.size)
    have hf3 := relayAll_fits t2 es1 (SetTable.grown es1.size)
    have hr3 := relayAll_ris t2 es1 (SetTable.grown es1.size)
    have hl3 := relayAll_led t2 es1 (SetTable.grown es1.size)
    generalize relayAll t2 es1 (SetTable.grown es1.size) = Z at pm hf3 hr3 hl3 ⊢
    obtain ⟨es2, t3, gave⟩ := Z
    dsimp only at pm hf3 hr3 hl3 ⊢
    have hsz : es2.size = es1.size := by
      have := pm.length_eq
      rw [Array.length_toList, Array.length_toList] at this
      exact this
    refine wpAny_bind (hg _ _ _ ?_)
    refine wpAny_bind (wpAny_storeSet_of ho1 rfl ?_ (fits_of_scanBound (by rw [hsz]; exact hlt)))
    have ho2 := L2.store_at (es' := es2) (t' := t3) ho1 rfl
    refine wpAny_pure (hR _ es2 (ep + 1 + 1) t3 (sb1.trans (Heap.SameBut.update _ a _)) ?_)
    exact ⟨⟨_, ho2, hex, rfl⟩, fun e he => g1 e (pm.mem_iff.mp he), (pm.map skey).nodup_iff.mpr nd1, fun k => (m1 k).trans (pm.map skey).mem_iff.symm, by rw [hsz]; exact hz, hb1, hf3, hr3, hl.imp id fun z => by rw [hl3]; exact z⟩
  · exact wpAny_pure (hR _ es1 (ep + 1) t2 sb1 ⟨⟨_, ho1, hex, rfl⟩, g1, nd1, m1, hz, hb1, hf2, hr, hl⟩)
end
section
variable {P : Program} {w : World} {A : Around} {E : Value → Shared → Prop} {s : Shared} {a : Addr} {M : PySem.Str → Prop} {b : Nat} {es : Array (Int × Value)} {ep : Nat} {t : SetTable}
theorem str_add {k : PySem.Str} {tk : Tok} {Q : Bool → Shared → Prop} (R : StrR P w s.heap a M b es ep t) (room : b + 1 < scanBound)
    (hQ : ∀ c h' es' ep' t', Heap.SameBut a s.heap h' → StrR P w h' a (fun j => M j ∨ j = k) (b + 1) es' ep' t' → Q c { s with heap := h' }) :
    wpAny (model P w) A (setAddHashed a (.str k tk) ((strKind P w).hash k)) Q E s := by
  obtain ⟨⟨o, ho, hex, hd⟩, hel, nd, hm, hsz, hb, hf, hr, hl⟩ := R
  have hlt : es.size < scanBound := Nat.lt_of_le_of_lt hsz hb
  have hkey : (strKind P w).is k (.str k tk) = true := strKind_is P w k tk
  have hsc : (Value.str k tk).scannable = true := rfl
  unfold setAddHashed setAddHashedIn
  refine wpAny_holding (wpAny_bind (wpAny_setState_of ho hd hf ?_))
  dsimp only
  rw [byScan_of hsc hlt hel]
  simp only [↓reduceIte]
  unfold setAddByScan
  refine wpAny_bind ?_
  refine wpAny_bind (wpAny_rule ?_)
  refine wpAny_bind (wpAny_setScan_of hkey ho hd hf hel ?_)
  cases hfi : List.findIdx? (fun e => (strKind P w).is k e.2) es.toList with
  | some j =>
    dsimp only
    obtain ⟨hj, pj, _⟩ := List.findIdx?_eq_some_iff_getElem.mp hfi
    have hk : k ∈ es.toList.map skey := List.mem_map.mpr ⟨es.toList[j], List.getElem_mem hj, (el_is hel k (List.getElem_mem hj)).mp pj⟩
    refine wpAny_pure (wpAny_pure (hQ _ s.heap es ep t (Heap.SameBut.refl a s.heap) ⟨⟨o, ho, hex, hd⟩, hel, nd, fun i => ?_, by omega, room, hf, hr, hl⟩))
    rw [hm i]
    exact ⟨fun z => z.elim id fun e => by rw [e]; exact hk, .inl⟩
  | none =>
    dsimp only
    have hnk : k ∉ es.toList.map skey := fun z => by
      obtain ⟨e, he, q⟩ := List.mem_map.mp z
      have c := List.findIdx?_eq_none_iff.mp hfi e he
      rw [(el_is hel k he).mpr q] at c
      cases c
    have hgw : ∀ (c : Bool) {s1 : Shared} {Q' : Unit → Shared → Prop}, Q' () s1 → wpAny (model P w) A (match c with | true => rule "set.scan.the-table-gave-way" | false => pure ()) Q' E s1 :=
      fun c s1 Q' q => by
        cases c
        · exact wpAny_pure q
        · exact wpAny_rule q
    have pm := layNew_perm t es ((strKind P w).hash k) (.str k tk)
    have hf1 := layNew_fits t es ((strKind P w).hash k) (.str k tk)
    have hr1 := layNew_ris t es ((strKind P w).hash k) (.str k tk) hr
    have hl1 := layNew_led t es ((strKind P w).hash k) (.str k tk)
    generalize layNew t es ((strKind P w).hash k) (.str k tk) = Z at pm hf1 hr1 hl1 ⊢
    obtain ⟨es1, t1, wd, gave⟩ := Z
    dsimp only at pm hf1 hr1 hl1 ⊢
    rw [Array.toList_push] at pm
    have pc : es1.toList.Perm (((strKind P w).hash k, Value.str k tk) :: es.toList) := pm.trans (List.perm_append_singleton _ _)
    have pk : (es1.toList.map skey).Perm (k :: es.toList.map skey) := pc.map skey
    have g1 : ElemsOf (strKind P w) es1.toList := fun e he => by
      rcases List.mem_cons.mp (pc.mem_iff.mp he) with z | z
      · rw [z]
        exact ⟨⟨k, hkey, rfl⟩, rfl⟩
      · exact hel e z
    have nd1 : (es1.toList.map skey).Nodup := pk.nodup_iff.mpr (List.nodup_cons.mpr ⟨hnk, nd⟩)
    have m1 : ∀ i, (M i ∨ i = k) ↔ i ∈ es1.toList.map skey := fun i => by
      rw [hm i, pk.mem_iff, List.mem_cons]
      exact Or.comm
    have hz1 : es1.size ≤ b + 1 := by
      have := pc.length_eq
      rw [List.length_cons, Array.length_toList, Array.length_toList] at this
      omega
    have hled : w.params.followText "set-order" = true ∨ t1.led = true := hl.imp id fun z => by rw [hl1]; exact z
    refine wpAny_bind (hgw _ ?_)
    split
    · refine wpAny_bind ?_
      rw [hashByValue_scannable 8 hsc]
      refine wpAny_pure ?_
      refine str_tail ?_ ho hex hd g1 nd1 m1 hz1 room ?_ ?_ ?_ ?_
      · intro c s1 Q' q
        cases c <;> first | exact wpAny_pure q | exact wpAny_rule q
      · first | (split <;> first | exact hf1 | exact SetTable.fits_plain_off hf1) | exact hf1
      · first | (split <;> exact hr1) | exact hr1
      · first | (split <;> exact hled) | exact hled
      · intro h' es' ep' t' sb r
        dsimp only
        exact wpAny_pure (hQ _ _ _ _ _ sb r)
    · refine wpAny_bind (wpAny_pure ?_)
      simp only [↓reduceIte]
      refine str_tail ?_ ho hex hd g1 nd1 m1 hz1 room hf1 hr1 hled ?_
      · intro c s1 Q' q
        cases c <;> first | exact wpAny_pure q | exact wpAny_rule q
      · intro h' es' ep' t' sb r
        dsimp only
        exact wpAny_pure (hQ _ _ _ _ _ sb r)
end
section
variable {P : Program} {w : World} {A : Around} {R : Result → Shared → Prop} {I : Addr} {fp wr : List Addr} {G : Array GenState → Array GenState → Prop} {n : Nat} {Pv : Nat → Value → Prop} {St : Nat → Shared → Prop}
theorem str_loop (W : WalksS P w A.in1 I fp wr G n Pv St) (S : Addr) (hSf : S ∉ fp) (xs : List PySem.Str) (hsz : xs.length = n) (hn : n + 1 < scanBound) (hval : ∀ i v, Pv i v → ∃ t, v = .str (xs.getD i Str.empty) t) :
    ∀ (k i : Nat) (s : Shared), n - i = k → i ≤ n → St i s → (∃ es ep t, StrR P w s.heap S (fun x => x ∈ xs.take i) i es ep t) →
      (∀ s' es ep t, Moved (S :: wr) G s s' → StrR P w s'.heap S (fun x => x ∈ xs.take n) n es ep t → R (.ok (.ret .none)) s') →
      codeAny (model P w) A (.builtin "set.update.loop" ⟨[.ref S, .ref I], []⟩) R s := by
  have hSw : S ∉ wr := fun h => hSf (W.sub _ h)
  have hsub : ∀ b ∈ wr, b ∈ S :: wr := fun b hb => List.mem_cons_of_mem _ hb
  intro k
  induction k with
  | zero =>
    intro i s hk hi hst hS hR
    have hin : i = n := by omega
    subst hin
    obtain ⟨es, ep, t, hS⟩ := hS
    refine codeAny_builtin PyProof.Rows.F.entry_set_update_loop ?_
    rw [Around.under_plainId PyProof.Rows.F.plain_set_update_loop _]
    show wpAny _ A.in1 (pyNext (.ref I) >>= _) _ _ s
    refine wpAny_bind (W.done s _ _ hst fun s' hm => ?_)
    show wpAny _ A.in1 (ret Value.none) _ _ s'
    exact wpAny_pure (hR s' es ep t (hm.mono hsub) (hS.at fun o e => hm.heap S _ hSw e))
  | succ k ih =>
    intro i s hk hi hst hS hR
    have hlt : i < n := by omega
    obtain ⟨es, ep, tb, hS⟩ := hS
    refine codeAny_builtin PyProof.Rows.F.entry_set_update_loop ?_
    rw [Around.under_plainId PyProof.Rows.F.plain_set_update_loop _]
    show wpAny _ A.in1 (pyNext (.ref I) >>= _) _ _ s
    refine wpAny_bind (W.item i s _ _ hlt hst fun v s' hP hst' hm => ?_)
    obtain ⟨tk, rfl⟩ := hval i v hP
    have hS' := hS.at fun o e => hm.heap S _ hSw e
    show wpAny _ A.in1 (holding [Value.str (xs.getD i Str.empty) tk] (setAdd S (.str (xs.getD i Str.empty) tk)) >>= _) _ _ s'
    refine wpAny_bind (wpAny_holding ?_)
    unfold setAdd
    refine wpAny_holding ?_
    refine wpAny_bind ((strKind P w).pyHash (k := xs.getD i Str.empty) (strKind_is _ _ _ _) ?_)
    refine str_add (s := { s' with toks := s'.toks + 1 }) hS' (by omega) fun c h' es' ep' t' hsb hS2 => ?_
    have hM : ∀ x, x ∈ xs.take (i + 1) ↔ x ∈ es'.toList.map skey := fun x => by
      rw [← hS2.mem x, List.take_add_one, List.mem_append]
      have e : xs[i]? = some (xs.getD i Str.empty) := by
        have : i < xs.length := by omega
        rw [List.getD_eq_getElem?_getD, List.getElem?_eq_getElem this]
        rfl
      rw [e]
      simp
    have hSi : StrR P w h' S (fun x => x ∈ xs.take (i + 1)) (i + 1) es' ep' t' := { hS2 with mem := hM }
    refine wpAny_pure ⟨plainId_quiet PyProof.Rows.F.plain_set_update_loop _, ih (i + 1) _ (by omega) hlt (W.frame _ s' _ _ hst' (Nat.le_succ _) fun b hb o e => ?_) ⟨es', ep', t', hSi⟩ fun s'' es'' ep'' t'' hm'' hS'' => ?_⟩
    · rw [hsb.2 b fun h : b = S => hSf (by rw [← h]; exact hb)]
      exact e
    · refine hR s'' es'' ep'' t'' (Moved.trans W.gtrans ((hm.mono hsub).then_heap (Nat.le_succ _) fun b o hb e => ?_) hm'') hS''
      rw [hsb.2 b fun h : b = S => hb (by rw [h]; exact List.mem_cons_self)]
      exact e
end
section
variable {P : Program} {w : World} {A : Around} {E : Value → Shared → Prop} {s : Shared}
theorem strR_fresh {h : Heap} {a : Addr} (ho : h.get? a = some { cls := .type "set", dict := none, data := .set #[] 0 (.fresh 0 0 (!w.params.followText "set-order")) }) : StrR P w h a (fun x => x ∈ ([] : List PySem.Str).take 0) 0 #[] 0 (.fresh 0 0 (!w.params.followText "set-order")) :=
  ⟨⟨_, ho, ⟨rfl, rfl, rfl⟩, rfl⟩, fun e he => by simp at he, by simp, fun k => by simp, Nat.le_refl _, by decide, by rfl, List.Pairwise.nil, by
    show _ ∨ (!w.params.followText "set-order") = true
    cases w.params.followText "set-order"
    · exact .inr rfl
    · exact .inl rfl⟩
abbrev noSet (w : World) : Obj := { cls := .type "set", dict := none, data := .set #[] 0 (.fresh 0 0 (!w.params.followText "set-order")) }
set_option maxHeartbeats 8000000 in
theorem call_set_strs {l : Addr} {items : Array Value} (xs : List PySem.Str) {Q : Value → Shared → Prop} (hh : A.handled = none) (hl : s.heap.IsList l items) (hi : StrsAre items.toList xs) (hn : xs.length + 1 < scanBound)
    (h : ∀ (h' : Heap) (tk : Nat) es ep t, StrR P w h' s.heap.objs.size (fun x => x ∈ xs) xs.length es ep t → (∀ b o, s.heap.get? b = some o → h'.get? b = some o) → Q (.ref s.heap.objs.size) { s with heap := h', toks := tk }) :
    wpAny (model P w) A (call (.type "set") [.ref l]) Q E s := by
  have hisz : items.size = xs.length := by
    have q := StrsAre.len_eq hi
    rw [Array.length_toList] at q
    exact q
  obtain ⟨c, tl, hmro⟩ := F.called_set.mro
  have hmade := F.called_set.made
  have hsub := F.called_set.sub
  refine wpAny_call (codeAny_of_tree ?_)
  show wpAny _ _ (callAny (.type "set") _) _ _ _
  refine wpAny_pure ⟨Code.quiet_builtin _ (by decide +kernel), codeAny_builtin F.entry_type_call ?_⟩
  rw [Around.under_plain (weight_type_call_type "set" [.ref l] []) rfl]
  have h1 := F.called_set.notType
  have h2 := F.called_set.canCreate
  have hct := F.typeCall_set_1 (.ref l)
  repeat (any_goals (first | assumption | wp_step))
  refine codeAny_mono (code_set_led1 (.ref l) (E := E) (Q₁ := fun obj s1 => obj = .ref s.heap.objs.size ∧ s1 = { s with heap := s.heap.push (noSet w) }) ⟨rfl, rfl⟩) fun r s1 hr => ?_
  cases r with
  | error e => exact hr
  | ok fl =>
    cases fl with
    | ret obj =>
      obtain ⟨rfl, rfl⟩ := hr
      have hS : (s.heap.push (noSet w)).get? s.heap.objs.size = some (noSet w) := Heap.get?_push_size _ rfl
      have hT : Shared.TypeIs { s with heap := s.heap.push (noSet w) } (.ref s.heap.objs.size) "set" := ⟨_, hS, rfl⟩
      have hli := F.called_set.init.lookup
      have hbi := F.called_set.init.bind (.ref s.heap.objs.size)
      repeat (any_goals (first | assumption | wp_step))
      refine codeAny_mono (codeAny_call_builtin (R := wants (fun r s2 => r = .none ∧ ∃ h' tk es ep t, s2 = { s with heap := h', toks := tk } ∧ StrR P w h' s.heap.objs.size (fun x => x ∈ xs) xs.length es ep t ∧ (∀ b o, s.heap.get? b = some o → h'.get? b = some o)) E)
        F.called_set.init.plain F.entry_set_init (check_set_init_1 hT ?_)) fun r2 s2 hr2 => ?_
      · obtain ⟨ol, hol, hcl, nl, hdl⟩ := hl
        obtain ⟨ocls, odict, odata, oslots⟩ := ol
        simp only at hcl hdl
        subst hcl
        subst hdl
        have hol' : (s.heap.push (noSet w)).get? l = some { cls := .type "list", dict := odict, data := .seq items nl, slots := oslots } := Heap.get?_push_of_some _ hol
        have hsls := F.sub_list_set
        have hslf := F.sub_list_frozenset
        have hne : (Value.type "list" == Value.type "dict") = false := by decide
        have hl1 : (s.heap.push (noSet w)).IsList l items := ⟨_, hol', rfl, nl, rfl⟩
        unfold Builtin.«set.__init__» noKeywords Builtin.Frozenset.updateFrom
        generalize hPI : pyIter = PI
        wp_walk
        subst hPI
        refine wpAny_pyIter_list hl1 ?_
        refine wpAny_bind (wpAny_runValue ?_)
        have hlS : l < s.heap.objs.size := Heap.lt_size hol
        have hh3 : A.in1.in1.in1.handled = none := by simp [hh]
        have hz1 : (s.heap.push (noSet w)).objs.size = s.heap.objs.size + 1 := Heap.size_push ..
        have hneI : l ≠ (s.heap.push (noSet w)).objs.size := by
          rw [hz1]
          exact Nat.ne_of_lt (Nat.lt_succ_of_lt hlS)
        have hSf : s.heap.objs.size ∉ [(s.heap.push (noSet w)).objs.size, l] := by
          rw [hz1]
          simp only [List.mem_cons, List.not_mem_nil, or_false, not_or]
          exact ⟨Nat.ne_of_lt (Nat.lt_succ_self _), Nat.ne_of_gt hlS⟩
        have hval : ∀ (i : Nat) (v : Value), items[i]? = some v → ∃ t, v = .str (xs.getD i Str.empty) t := fun i v hv => SS.strs_at hi i v (by rw [Array.getElem?_toList]; exact hv)
        refine str_loop ((Walks.list hh3 _ l hneI items).toS) s.heap.objs.size hSf xs hisz.symm (by rw [hisz]; exact hn) hval (items.size - 0) 0 _ (by omega) (Nat.zero_le _) ⟨⟨_, Heap.get?_push_size _ rfl, rfl, rfl⟩, (hl1.push _)⟩ ?hS0 ?hR
        case hS0 =>
          exact ⟨#[], 0, _, strR_fresh (Heap.get?_push_of_some _ hS)⟩
        case hR =>
          intro s' es ep t hm hS'
          obtain ⟨h', g2, d', tk', os'⟩ := s'
          have eg : g2 = s.gens := hm.gens
          have ed : d' = s.drawn := hm.drawn
          have eo : os' = s.os := hm.os
          subst eg
          subst ed
          subst eo
          show wpAny _ _ _ _ _ _
          refine wpAny_pure ?_
          show wpAny _ _ (ret Value.none) _ _ _
          rw [hisz, List.take_length] at hS'
          refine wpAny_pure ⟨rfl, h', tk', es, ep, t, rfl, hS', fun b o e => ?_⟩
          have hb := Heap.lt_size e
          refine hm.heap b o ?_ (Heap.get?_push_of_some _ (Heap.get?_push_of_some _ e))
          rw [hz1]
          simp only [List.mem_cons, List.not_mem_nil, or_false, not_or]
          exact ⟨Nat.ne_of_lt hb, Nat.ne_of_lt (Nat.lt_succ_of_lt hb)⟩
      · cases r2 with
        | error e => exact hr2
        | ok fl2 =>
          cases fl2 with
          | ret r =>
            obtain ⟨rfl, h', tk, es, ep, t, rfl, hS', hk'⟩ := hr2
            repeat (any_goals (first | assumption | wp_step))
            exact h _ _ _ _ _ hS' hk'
          | _ => exact hr2.elim
    | _ => exact hr.elim
theorem call_set_strsT {l : Addr} {items : Array Value} (xs : List PySem.Str) {Q : Value → Shared → Prop} (hh : A.handled = none) (hl : s.heap.IsTuple l items) (hi : StrsAre items.toList xs) (hn : xs.length + 1 < scanBound)
    (h : ∀ (h' : Heap) (tk : Nat) es ep t, StrR P w h' s.heap.objs.size (fun x => x ∈ xs) xs.length es ep t → (∀ b o, s.heap.get? b = some o → h'.get? b = some o) → Q (.ref s.heap.objs.size) { s with heap := h', toks := tk }) :
    wpAny (model P w) A (call (.type "set") [.ref l]) Q E s := by
  have hisz : items.size = xs.length := by
    have q := StrsAre.len_eq hi
    rw [Array.length_toList] at q
    exact q
  obtain ⟨c, tl, hmro⟩ := F.called_set.mro
  have hmade := F.called_set.made
  have hsub := F.called_set.sub
  refine wpAny_call (codeAny_of_tree ?_)
  show wpAny _ _ (callAny (.type "set") _) _ _ _
  refine wpAny_pure ⟨Code.quiet_builtin _ (by decide +kernel), codeAny_builtin F.entry_type_call ?_⟩
  rw [Around.under_plain (weight_type_call_type "set" [.ref l] []) rfl]
  have h1 := F.called_set.notType
  have h2 := F.called_set.canCreate
  have hct := F.typeCall_set_1 (.ref l)
  repeat (any_goals (first | assumption | wp_step))
  refine codeAny_mono (code_set_led1 (.ref l) (E := E) (Q₁ := fun obj s1 => obj = .ref s.heap.objs.size ∧ s1 = { s with heap := s.heap.push (noSet w) }) ⟨rfl, rfl⟩) fun r s1 hr => ?_
  cases r with
  | error e => exact hr
  | ok fl =>
    cases fl with
    | ret obj =>
      obtain ⟨rfl, rfl⟩ := hr
      have hS : (s.heap.push (noSet w)).get? s.heap.objs.size = some (noSet w) := Heap.get?_push_size _ rfl
      have hT : Shared.TypeIs { s with heap := s.heap.push (noSet w) } (.ref s.heap.objs.size) "set" := ⟨_, hS, rfl⟩
      have hli := F.called_set.init.lookup
      have hbi := F.called_set.init.bind (.ref s.heap.objs.size)
      repeat (any_goals (first | assumption | wp_step))
      refine codeAny_mono (codeAny_call_builtin (R := wants (fun r s2 => r = .none ∧ ∃ h' tk es ep t, s2 = { s with heap := h', toks := tk } ∧ StrR P w h' s.heap.objs.size (fun x => x ∈ xs) xs.length es ep t ∧ (∀ b o, s.heap.get? b = some o → h'.get? b = some o)) E)
        F.called_set.init.plain F.entry_set_init (check_set_init_1 hT ?_)) fun r2 s2 hr2 => ?_
      · obtain ⟨ol, hol, hcl, nl, hdl⟩ := hl
        obtain ⟨ocls, odict, odata, oslots⟩ := ol
        simp only at hcl hdl
        subst hcl
        subst hdl
        have hol' : (s.heap.push (noSet w)).get? l = some { cls := .type "tuple", dict := odict, data := .seq items nl, slots := oslots } := Heap.get?_push_of_some _ hol
        have hsls := F.sub_tuple_set
        have hslf := F.sub_tuple_frozenset
        have hne : (Value.type "tuple" == Value.type "dict") = false := by decide
        have hl1 : (s.heap.push (noSet w)).IsTuple l items := ⟨_, hol', rfl, nl, rfl⟩
        unfold Builtin.«set.__init__» noKeywords Builtin.Frozenset.updateFrom
        generalize hPI : pyIter = PI
        wp_walk
        subst hPI
        refine wpAny_pyIter_tuple hl1 ?_
        refine wpAny_bind (wpAny_runValue ?_)
        have hlS : l < s.heap.objs.size := Heap.lt_size hol
        have hh3 : A.in1.in1.in1.handled = none := by simp [hh]
        have hz1 : (s.heap.push (noSet w)).objs.size = s.heap.objs.size + 1 := Heap.size_push ..
        have hneI : l ≠ (s.heap.push (noSet w)).objs.size := by
          rw [hz1]
          exact Nat.ne_of_lt (Nat.lt_succ_of_lt hlS)
        have hSf : s.heap.objs.size ∉ [(s.heap.push (noSet w)).objs.size, l] := by
          rw [hz1]
          simp only [List.mem_cons, List.not_mem_nil, or_false, not_or]
          exact ⟨Nat.ne_of_lt (Nat.lt_succ_self _), Nat.ne_of_gt hlS⟩
        have hval : ∀ (i : Nat) (v : Value), items[i]? = some v → ∃ t, v = .str (xs.getD i Str.empty) t := fun i v hv => SS.strs_at hi i v (by rw [Array.getElem?_toList]; exact hv)
        refine str_loop ((Walks.tuple hh3 _ l hneI items).toS) s.heap.objs.size hSf xs hisz.symm (by rw [hisz]; exact hn) hval (items.size - 0) 0 _ (by omega) (Nat.zero_le _) ⟨⟨_, Heap.get?_push_size _ rfl, rfl, rfl⟩, (hl1.push _)⟩ ?hS0 ?hR
        case hS0 =>
          exact ⟨#[], 0, _, strR_fresh (Heap.get?_push_of_some _ hS)⟩
        case hR =>
          intro s' es ep t hm hS'
          obtain ⟨h', g2, d', tk', os'⟩ := s'
          have eg : g2 = s.gens := hm.gens
          have ed : d' = s.drawn := hm.drawn
          have eo : os' = s.os := hm.os
          subst eg
          subst ed
          subst eo
          show wpAny _ _ _ _ _ _
          refine wpAny_pure ?_
          show wpAny _ _ (ret Value.none) _ _ _
          rw [hisz, List.take_length] at hS'
          refine wpAny_pure ⟨rfl, h', tk', es, ep, t, rfl, hS', fun b o e => ?_⟩
          have hb := Heap.lt_size e
          refine hm.heap b o ?_ (Heap.get?_push_of_some _ (Heap.get?_push_of_some _ e))
          rw [hz1]
          simp only [List.mem_cons, List.not_mem_nil, or_false, not_or]
          exact ⟨Nat.ne_of_lt hb, Nat.ne_of_lt (Nat.lt_succ_of_lt hb)⟩
      · cases r2 with
        | error e => exact hr2
        | ok fl2 =>
          cases fl2 with
          | ret r =>
            obtain ⟨rfl, h', tk, es, ep, t, rfl, hS', hk'⟩ := hr2
            repeat (any_goals (first | assumption | wp_step))
            exact h _ _ _ _ _ hS' hk'
          | _ => exact hr2.elim
    | _ => exact hr.elim
end
end Bz
namespace Bz
open PySem PySem.Spec PyProof.Rows L2
/-- texts, each once, ascending -/
def Asc (ys : List PySem.Str) : Prop := ys.Pairwise fun x y => x.cps.toList < y.cps.toList
section
variable {P : Program} {w : World} {A : Around} {E : Value → Shared → Prop} {s : Shared} {a : Addr} {M : PySem.Str → Prop} {b : Nat} {es : Array (Int × Value)} {ep : Nat} {t : SetTable}
theorem asc_of {ys : List PySem.Str} (h : ys.Pairwise fun x y => ¬ y.cps.toList < x.cps.toList) (nd : ys.Nodup) : Asc ys := by
  unfold Asc
  refine (List.pairwise_and_iff.mpr ⟨h, nd⟩).imp fun {x y} ⟨h1, h2⟩ => ?_
  exact Classical.byContradiction fun c => h2 (ext_tl (List.le_antisymm (List.not_lt.mp h1) (List.not_lt.mp c)))
theorem sorted_strs {Q : Value → Shared → Prop} (R : StrR P w s.heap a M b es ep t) (hh : A.handled = none)
    (hQ : ∀ s' p (out : List Value) (c : Nat) (ys : List PySem.Str), (∀ b o, s.heap.get? b = some o → s'.heap.get? b = some o) → s'.gens = s.gens → s'.os = s.os → s.heap.objs.size ≤ p →
      s'.heap.get? p = some (seqObj "list" out.toArray c) → StrsAre out ys → Asc ys → (∀ k, k ∈ ys ↔ M k) → ys.length ≤ b → Q (.ref p) s') :
    wpAny (model P w) A (call (.builtin "sorted") [.ref a]) Q E s := by
  obtain ⟨⟨o, ho, hex, hd⟩, hel, nd, hm, hsz, hb, hf, hr, hl⟩ := R
  have hlt : es.size < scanBound := Nat.lt_of_le_of_lt hsz hb
  refine Calls.call_function_entry kind_sorted plain_sorted entry_sorted (args_sorted1 _) ?_
  unfold Builtin.«sorted»
  refine wpAny_bind (m := checkCount "sorted" 1 1 _) (wpAny_pure ?_)
  refine wpAny_bind (collect_set (A := A.in1) hh ⟨o, ho, hex.1, hd⟩ hf hlt hr hl fun s1 vs k1 hz g1 o1 pm => ?_)
  have hvl : vs.length = es.size := by
    rw [pm.length_eq, List.length_map, Array.length_toList]
  have hS : StrsAre vs (vs.map strOf) := strsAre_map vs fun v hv => by
    obtain ⟨e, he, q⟩ := List.mem_map.mp (pm.mem_iff.mp hv)
    obtain ⟨tk, h1⟩ := el_str hel he
    exact ⟨skey e, tk, by rw [← q, h1]; rfl⟩
  have pk : (vs.map strOf).Perm (es.toList.map skey) := by
    have q := pm.map strOf
    rw [List.map_map] at q
    exact q
  have hvs : vs.length ≤ sizeLine := Evl.sz_of (by
    have : scanBound = 4096 := rfl
    omega)
  refine wpAny_bind (wpAny_newList ?_ hvs)
  have hoL : (s1.heap.push (seqObj "list" vs.toArray 0)).get? s1.heap.objs.size = some (seqObj "list" vs.toArray 0) := Heap.get?_push_size _ rfl
  refine wpAny_bind (wpAny_holding (wpAny_call_entry slot_list_sort ⟨_, hoL, rfl⟩ entry_list_sort (SrtO.list_sort_ord ltV_swo hoL hvs (fun h2 => strs_sortable hS h2) fun out a1 a2 => ⟨_, rfl, ?_⟩) (args_list_sort _)))
  obtain ⟨q1, q2, q3⟩ := strs_out hS a1 a2
  obtain ⟨c, hc⟩ := sortedHeap_at (vs := vs) (out := out.toArray) hoL
  have pn : (out.map strOf).Perm (es.toList.map skey) := q2.trans pk
  refine wpAny_pure ⟨_, rfl, hQ _ s1.heap.objs.size out c (out.map strOf) (fun b u e => ?_) g1 o1 hz hc q1 (asc_of q3 (pn.nodup_iff.mpr nd)) (fun k => by rw [pn.mem_iff, ← hm k]) ?_⟩
  · have q := k1 b u e
    have hlt := Heap.lt_size q
    show (sortedHeap (s1.heap.push (seqObj "list" vs.toArray 0)) s1.heap.objs.size vs out.toArray).get? b = some u
    rw [sortedHeap_old (Nat.ne_of_lt hlt) (by rw [size_push']; exact Nat.lt_succ_of_lt hlt)]
    exact Heap.get?_push_of_some _ q
  · rw [pn.length_eq, List.length_map, Array.length_toList]
    exact hsz
end
/-- at t: a list or a tuple -/
def SqE (K : PySem.W.Frag) (H : Hp) (t : Addr) (xs : List V) : Prop := SqL K H t xs ∨ SqT K H t xs
theorem sqt_same {K : PySem.W.Frag} {H H' : Hp} {a : Addr} {xs : List V} (e : Same H H') (h : SqT K H a xs) : SqT K H' a xs := h.elim (fun h => .inl (h.elim (fun h => .inl (e _ _ h)) (fun ⟨u, h⟩ => .inr ⟨u, e _ _ h⟩))) .inr
theorem SqE.same {K : PySem.W.Frag} {H H' : Hp} {a : Addr} {xs : List V} (h : SqE K H a xs) (e : Same H H') : SqE K H' a xs := h.imp (fun h => e.seq h) (fun h => sqt_same e h)
theorem SqE.star {K : PySem.W.Frag} {H : Hp} {a : Addr} {xs : List V} (h : SqE K H a xs) : SqT K H a xs ∨ SqL K H a xs := h.symm
/-- at a: a set of the texts of M, at most b -/
def SetSO (P : Program) (w : World) (a : Addr) (M : PySem.Str → Prop) (b : Nat) : HO := .ext fun h => ∃ es ep t, StrR P w h a M b es ep t
theorem setSO_new {P : Program} {w : World} {H : Hp} {h : Heap} {a : Addr} {M : PySem.Str → Prop} {b : Nat} (R : ∃ es ep t, StrR P w h a M b es ep t) : ObjOk P w H h a (SetSO P w a M b) := by
  obtain ⟨es, ep, t, R⟩ := R
  obtain ⟨o, ho, _⟩ := R.ob
  exact ⟨⟨es, ep, t, R⟩, ⟨o, ho⟩, fun h1 h2 ⟨es, ep, t, r⟩ k => ⟨es, ep, t, r.at fun o q => k o q⟩⟩
def rSetS (K : PySem.W.Frag) (P : Program) (w : World) : List V → Hp → VK → Prop := fun xs H Q => ∃ (l : Addr) (ys : List PySem.Str), xs = [.ref l] ∧ SqE K H l (ys.map V.str) ∧ ys.length ≤ 4000 ∧
  ∀ p, H p = none → Q (.ref p) (upd H p (SetSO P w p (fun x => x ∈ ys) ys.length))
theorem cr_setS {X : Cx} (hc : X.calm = true) : CallR X (.type "set") (rSetS X.K X.prog X.w) := by
  intro pins s σ H xs us Q I r h
  obtain ⟨l, ys, rfl, hq, hn, q⟩ := h
  rw [Vals.ref1 r]
  rcases hq with hq | hq
  · obtain ⟨its, rv, pl, hz⟩ := I.list hq
    refine call_set_strs (items := its.toArray) ys (I.ok.hd hc) pl.isList (by rw [List.toList_toArray]; exact rv.strs) (by unfold scanBound; omega) fun h' tk es ep t R k => ?_
    exact ⟨.ref _, upd H s.heap.objs.size (SetSO X.prog X.w s.heap.objs.size (fun x => x ∈ ys) ys.length), I.laid (t' := tk) k (Nat.le_refl _) (setSO_new ⟨es, ep, t, R⟩), rfl, q _ (I.hok.fresh (Nat.le_refl _))⟩
  · obtain ⟨its, rv, pl, hz⟩ := I.tuple hq
    refine call_set_strsT (items := its.toArray) ys (I.ok.hd hc) pl (by rw [List.toList_toArray]; exact rv.strs) (by unfold scanBound; omega) fun h' tk es ep t R k => ?_
    exact ⟨.ref _, upd H s.heap.objs.size (SetSO X.prog X.w s.heap.objs.size (fun x => x ∈ ys) ys.length), I.laid (t' := tk) k (Nat.le_refl _) (setSO_new ⟨es, ep, t, R⟩), rfl, q _ (I.hok.fresh (Nat.le_refl _))⟩
def rSortedSetS (P : Program) (w : World) : List V → Hp → VK → Prop := fun xs H Q => ∃ (a : Addr) (M : PySem.Str → Prop) (b : Nat), xs = [.ref a] ∧ H a = some (SetSO P w a M b) ∧
  ∀ (ys : List PySem.Str) (p : Addr), Asc ys → (∀ k, k ∈ ys ↔ M k) → ys.length ≤ b → H p = none → Q (.ref p) (upd H p (.lst (ys.map V.str)))
theorem cr_sortedSetS {X : Cx} (hc : X.calm = true) : CallR X (.builtin "sorted") (rSortedSetS X.prog X.w) := by
  intro pins s σ H xs us Q I r h
  obtain ⟨a, M, b, rfl, ha, q⟩ := h
  rw [Vals.ref1 r]
  obtain ⟨⟨es, ep, t, R⟩, _, _⟩ := I.hok a _ ha
  refine sorted_strs R (I.ok.hd hc) fun s' p out c ys k g o hp hg hi hs hm hl => ?_
  have hlen : (ys.map V.str).length ≤ sizeLine := by
    rw [List.length_map]
    have := R.few
    exact Evl.sz_of (by
      have : scanBound = 4096 := rfl
      omega)
  have hn : H p = none := I.hok.fresh hp
  have J : Inv X pins σ (upd H p (.lst (ys.map V.str))) { s with heap := s'.heap, gens := s'.gens, drawn := s'.drawn, toks := s'.toks } :=
    I.call (ch := []) (Un.laid k hp hn) (I.hok.laid k hp ⟨hlen, out, c, vals_of_strs hi, hg⟩) (by rw [g]; exact I.bare) (fun _ z => nomatch z)
  have e : s' = { s with heap := s'.heap, gens := s'.gens, drawn := s'.drawn, toks := s'.toks } := by
    cases s'
    cases s
    cases o
    rfl
  rw [e]
  exact ⟨.ref p, _, J, rfl, q ys p hs hm hl hn⟩
theorem ksetS (K : PySem.W.Frag) {X : Cx} (hc : X.calm = true) (h : X.K = K := by rfl) : CallR X (.type "set") (rSetS K X.prog X.w) := by subst h; exact cr_setS hc
/-- ascending lists of the same texts are one -/
theorem asc_uniq : ∀ {xs ys : List PySem.Str}, Asc xs → Asc ys → (∀ k, k ∈ xs ↔ k ∈ ys) → xs = ys
  | [], [], _, _, _ => rfl
  | [], y :: ys, _, _, h => absurd ((h y).mpr (List.mem_cons_self ..)) (by simp)
  | x :: xs, [], _, _, h => absurd ((h x).mp (List.mem_cons_self ..)) (by simp)
  | x :: xs, y :: ys, hx, hy, h => by
    obtain ⟨x1, x2⟩ := List.pairwise_cons.mp hx
    obtain ⟨y1, y2⟩ := List.pairwise_cons.mp hy
    have e : x = y := by
      rcases List.mem_cons.mp ((h x).mp (List.mem_cons_self ..)) with e | hxy
      · exact e
      · rcases List.mem_cons.mp ((h y).mpr (List.mem_cons_self ..)) with e | hyx
        · exact e.symm
        · exact absurd (List.lt_trans (y1 x hxy) (x1 y hyx)) (List.lt_irrefl _)
    subst e
    have h' : ∀ k, k ∈ xs ↔ k ∈ ys := fun k => by
      constructor
      · intro hk
        rcases List.mem_cons.mp ((h k).mp (List.mem_cons_of_mem _ hk)) with e | z
        · rw [e] at hk
          exact absurd (x1 x hk) (List.lt_irrefl _)
        · exact z
      · intro hk
        rcases List.mem_cons.mp ((h k).mpr (List.mem_cons_of_mem _ hk)) with e | z
        · rw [e] at hk
          exact absurd (y1 x hk) (List.lt_irrefl _)
        · exact z
    rw [asc_uniq x2 y2 h']
end Bz
namespace Bz
open PySem PySem.Spec PyProof.Rows L2
/-! ### names, letters, prices, as the program asks for them -/
def onlyB (s : PySem.Str) : Bool := decide (1 ≤ s.length) && (TL.tl s).all fun c => decide (97 ≤ c) && decide (c ≤ 122)
theorem low_tab : ∀ c : Fin 128, (Unicode.isAlpha c.val = (decide (65 ≤ c.val) && decide (c.val ≤ 90) || decide (97 ≤ c.val) && decide (c.val ≤ 122))) ∧ (Unicode.isLower c.val = (decide (97 ≤ c.val) && decide (c.val ≤ 122))) ∧
    ((Unicode.isUpper c.val || Unicode.isTitle c.val) = (decide (65 ≤ c.val) && decide (c.val ≤ 90))) := by decide +kernel
theorem all_tl (s : PySem.Str) (p : Nat → Bool) : s.cps.all p = (TL.tl s).all p := by
  show s.cps.all p = s.cps.toList.all p
  rw [Array.all_toList]
theorem any_tl (s : PySem.Str) (p : Nat → Bool) : s.cps.any p = (TL.tl s).any p := by
  show s.cps.any p = s.cps.toList.any p
  rw [Array.any_toList]
theorem only_ok (s : PySem.Str) : (Txt.isascii s && (Txt.isalpha s && Txt.islower s)) = onlyB s := by
  unfold Txt.isascii Txt.isalpha Txt.islower onlyB
  rw [all_tl, all_tl, any_tl, any_tl, len_tl]
  generalize TL.tl s = l
  rw [Bool.eq_iff_iff]
  simp only [Bool.and_eq_true, List.all_eq_true, decide_eq_true_eq, List.any_eq_true, Bool.not_eq_true', List.any_eq_false]
  constructor
  · rintro ⟨h1, ⟨h2, h3⟩, h4, h5⟩
    refine ⟨by have := h2; simp only [gt_iff_lt, decide_eq_true_eq] at this; omega, fun c hc => ?_⟩
    obtain ⟨t1, _, t3⟩ := low_tab ⟨c, h1 c hc⟩
    have a := h3 c hc
    have b := h5 c hc
    rw [t1] at a
    have b' : (Unicode.isUpper c || Unicode.isTitle c) = false := by simpa using b
    rw [t3] at b'
    simp only [Bool.or_eq_true, Bool.and_eq_true, decide_eq_true_eq] at a
    simp only [Bool.and_eq_false_iff, decide_eq_false_iff_not] at b'
    omega
  · rintro ⟨h1, h2⟩
    have hs : ∀ c ∈ l, c < 128 := fun c hc => by have := h2 c hc; omega
    refine ⟨hs, ⟨by simp only [gt_iff_lt, decide_eq_true_eq]; omega, fun c hc => ?_⟩, ?_, fun c hc => ?_⟩
    · obtain ⟨t1, _, _⟩ := low_tab ⟨c, hs c hc⟩
      rw [t1]
      have := h2 c hc
      simp only [Bool.or_eq_true, Bool.and_eq_true, decide_eq_true_eq]
      omega
    · cases l with
      | nil => simp at h1
      | cons c r =>
        refine ⟨c, List.mem_cons_self .., ?_⟩
        obtain ⟨_, t2, _⟩ := low_tab ⟨c, hs c (List.mem_cons_self ..)⟩
        rw [t2]
        have := h2 c (List.mem_cons_self ..)
        simp only [Bool.and_eq_true, decide_eq_true_eq]
        exact this
    · obtain ⟨_, _, t3⟩ := low_tab ⟨c, hs c hc⟩
      have := h2 c hc
      have q : (decide (65 ≤ c) && decide (c ≤ 90)) = false := by
        simp only [Bool.and_eq_false_iff, decide_eq_false_iff_not]
        omega
      rw [q] at t3
      simpa using t3
theorem nmB_only (s : PySem.Str) : nmB s = (decide (s.length ≤ 8) && onlyB s) := by
  unfold nmB onlyB
  rw [Bool.eq_iff_iff]
  simp only [Bool.and_eq_true]
  constructor
  · rintro ⟨⟨a, b⟩, c⟩
    exact ⟨b, a, c⟩
  · rintro ⟨b, a, c⟩
    exact ⟨⟨a, b⟩, c⟩
def ltB (s : PySem.Str) : Bool := decide (s.length = 1) && onlyB s
theorem ltB_of {s : PySem.Str} (h : Lt s) : ltB s = true := by
  unfold ltB onlyB
  have := h.1
  simp only [Bool.and_eq_true, decide_eq_true_eq, List.all_eq_true]
  exact ⟨this, by omega, fun c hc => h.2 c hc⟩
def prB (i : Int) : Bool := decide (0 ≤ i) && decide (i ≤ 99)
def arB (x : Arw) : Bool := nmB x.s && (ltB x.l && (nmB x.t && prB x.c))
theorem arB_of {x : Arw} (h : x.Ok) : arB x = true := by
  unfold arB prB
  rw [nmB_iff.mpr h.s, nmB_iff.mpr h.t, ltB_of h.l]
  simp only [Bool.true_and, Bool.and_eq_true, decide_eq_true_eq]
  exact ⟨h.c0, h.c1⟩
def spIsInt (K : PySem.W.Frag) : Sp := fun vs H Q _ => ∃ (v : V) (t : String), vs = [v] ∧ TyX K H v (.type t) ∧ t ∈ ["NoneType", "bool", "int", "str", "list", "tuple", "dict", "float", "set", "bytes"] ∧ Q (.bl (decide (t = "int"))) H
def spOnly : Sp := fun vs H Q _ => ∃ s : PySem.Str, vs = [.str s] ∧ Q (.bl (onlyB s)) H
def spIsName : Sp := fun vs H Q _ => ∃ s : PySem.Str, vs = [.str s] ∧ s.length ≤ 100000 ∧ Q (.bl (nmB s)) H
def spIsLetter : Sp := fun vs H Q _ => ∃ s : PySem.Str, vs = [.str s] ∧ s.length ≤ 100000 ∧ Q (.bl (ltB s)) H
def spIsPrice : Sp := fun vs H Q _ => ∃ i : Int, vs = [.int i] ∧ Q (.bl (prB i)) H
def spIsArrow (K : PySem.W.Frag) : Sp := fun vs H Q _ => ∃ (q : Addr) (x : Arw), vs = [.ref q] ∧ H q = some (.tup x.vals) ∧ x.s.length ≤ 100000 ∧ x.l.length ≤ 100000 ∧ x.t.length ≤ 100000 ∧ ∀ H', Same H H' → Q (.bl (arB x)) H'
theorem kit_in {K : PySem.W.Frag} {t : String} (h : t ∈ ["NoneType", "bool", "int", "str", "list", "tuple", "dict", "float", "set", "bytes"]) :
    PySem.W.kitOne K (.type t) (.type "int") = some (decide (t = "int") || decide (t = "bool")) ∧ PySem.W.kitOne K (.type t) (.type "bool") = some (decide (t = "bool")) ∧ PySem.W.kitOne K (.type t) (.type "str") = some (decide (t = "str")) ∧
      PySem.W.kitOne K (.type t) (.type "tuple") = some (decide (t = "tuple")) ∧ PySem.W.kitOne K (.type t) (.type "list") = some (decide (t = "list")) := by
  simp only [List.mem_cons, List.not_mem_nil, or_false] at h
  rcases h with h | h | h | h | h | h | h | h | h | h <;> subst h <;> exact ⟨kit_ty (by decide +kernel), kit_ty (by decide +kernel), kit_ty (by decide +kernel), kit_ty (by decide +kernel), kit_ty (by decide +kernel)⟩
end Bz
namespace Bz
open PySem PySem.Spec PyProof.Rows L2
/-! ### of arrows alike but for the price the cheapest -/
def Arw.k3 (x : Arw) : List Ky := [.inr x.s, .inr x.l, .inr x.t]
def Arw.ks (x : Arw) : List Ky := [.inr x.s, .inr x.l, .inr x.t, .inl x.c]
theorem Arw.k3_eq {x y : Arw} (h : x.k3 = y.k3) : x.s = y.s ∧ x.l = y.l ∧ x.t = y.t := by
  unfold Arw.k3 at h
  simp only [List.cons.injEq, Sum.inr.injEq, and_true] at h
  exact h
theorem Arw.eq_of {x y : Arw} (h : x.k3 = y.k3) (hc : x.c = y.c) : x = y := by
  obtain ⟨h1, h2, h3⟩ := Arw.k3_eq h
  cases x
  cases y
  simp only at h1 h2 h3 hc
  rw [h1, h2, h3, hc]
theorem lex_ks {x y : Arw} (h : x.k3 ≠ y.k3) : lexK x.ks y.ks = lexK x.k3 y.k3 := by
  unfold Arw.ks Arw.k3
  unfold lexK
  by_cases h1 : (Sum.inr x.s : Ky) = .inr y.s
  · rw [if_pos h1, if_pos h1]
    unfold lexK
    by_cases h2 : (Sum.inr x.l : Ky) = .inr y.l
    · rw [if_pos h2, if_pos h2]
      unfold lexK
      by_cases h3 : (Sum.inr x.t : Ky) = .inr y.t
      · exfalso
        refine h ?_
        unfold Arw.k3
        rw [h1, h2, h3]
      · rw [if_neg h3, if_neg h3]
    · rw [if_neg h2, if_neg h2]
  · rw [if_neg h1, if_neg h1]
def mstep (k : List Ky) (o : Option Int) (x : Arw) : Option Int := if x.k3 = k then some (if o.getD x.c < x.c then o.getD x.c else x.c) else o
def minC (l : List Arw) (k : List Ky) : Option Int := l.foldl (mstep k) none
theorem minC_snoc (l : List Arw) (x : Arw) (k : List Ky) : minC (l ++ [x]) k = mstep k (minC l k) x := by
  unfold minC
  rw [List.foldl_append]
  rfl
theorem fold_min {k : List Ky} : ∀ (l : List Arw) (o : Option Int),
    (∀ m, l.foldl (mstep k) o = some m → (o = some m ∨ ∃ x ∈ l, x.k3 = k ∧ x.c = m) ∧ (∀ x ∈ l, x.k3 = k → m ≤ x.c) ∧ ∀ z, o = some z → m ≤ z) ∧
    (l.foldl (mstep k) o = none → o = none ∧ ∀ x ∈ l, x.k3 ≠ k)
  | [], o => ⟨fun m h => ⟨.inl h, fun x hx => (by cases hx), fun z hz => by have e : o = some m := h; rw [hz] at e; have := Option.some.inj e; omega⟩, fun h => ⟨h, fun x hx => (by cases hx)⟩⟩
  | x :: l, o => by
    obtain ⟨i1, i2⟩ := fold_min l (mstep k o x)
    constructor
    · intro m h
      obtain ⟨a, b, c⟩ := i1 m h
      by_cases e : x.k3 = k
      · have es : mstep k o x = some (if o.getD x.c < x.c then o.getD x.c else x.c) := by
          unfold mstep
          rw [if_pos e]
        have c' := c _ es
        refine ⟨?_, fun y hy ey => ?_, fun z hz => ?_⟩
        · rcases a with a | ⟨y, hy, ey⟩
          · rw [es] at a
            have a' := Option.some.inj a
            by_cases lt : o.getD x.c < x.c
            · rw [if_pos lt] at a'
              cases o with
              | none => exact absurd lt (by show ¬ x.c < x.c; omega)
              | some z => exact .inl (by rw [← a']; rfl)
            · rw [if_neg lt] at a'
              exact .inr ⟨x, List.mem_cons_self .., e, a'⟩
          · exact .inr ⟨y, List.mem_cons_of_mem _ hy, ey⟩
        · rcases List.mem_cons.mp hy with rfl | hy
          · split at c' <;> omega
          · exact b y hy ey
        · rw [hz] at c'
          have g : (some z).getD x.c = z := rfl
          rw [g] at c'
          split at c' <;> omega
      · have es : mstep k o x = o := by
          unfold mstep
          rw [if_neg e]
        rw [es] at a c
        refine ⟨?_, fun y hy ey => ?_, c⟩
        · rcases a with a | ⟨y, hy, ey⟩
          · exact .inl a
          · exact .inr ⟨y, List.mem_cons_of_mem _ hy, ey⟩
        · rcases List.mem_cons.mp hy with rfl | hy
          · exact absurd ey e
          · exact b y hy ey
    · intro h
      obtain ⟨a, b⟩ := i2 h
      by_cases e : x.k3 = k
      · unfold mstep at a
        rw [if_pos e] at a
        cases a
      · have es : mstep k o x = o := by
          unfold mstep
          rw [if_neg e]
        rw [es] at a
        refine ⟨a, fun y hy => ?_⟩
        rcases List.mem_cons.mp hy with rfl | hy
        · exact e
        · exact b y hy
theorem minC_some {l : List Arw} {k : List Ky} {m : Int} (h : minC l k = some m) : (∃ x ∈ l, x.k3 = k ∧ x.c = m) ∧ ∀ x ∈ l, x.k3 = k → m ≤ x.c := by
  obtain ⟨a, b, _⟩ := (fold_min l none).1 m h
  refine ⟨?_, b⟩
  rcases a with a | a
  · cases a
  · exact a
theorem minC_none {l : List Arw} {k : List Ky} (h : minC l k = none) : ∀ x ∈ l, x.k3 ≠ k := ((fold_min l none).2 h).2
/-- ys: the arrows of xs that count, ascending -/
structure CheapOf (xs ys : List Arw) : Prop where
  asc : ys.Pairwise fun x y => lexK x.k3 y.k3 = true
  sub : ∀ y ∈ ys, y ∈ xs ∧ ∀ x ∈ xs, x.k3 = y.k3 → y.c ≤ x.c
  all : ∀ x ∈ xs, ∃ y ∈ ys, y.k3 = x.k3
theorem CheapOf.uniq {xs ys zs : List Arw} (h1 : CheapOf xs ys) (h2 : CheapOf xs zs) : ys = zs := by
  have sub : ∀ {ys zs : List Arw}, CheapOf xs ys → CheapOf xs zs → ∀ y ∈ ys, y ∈ zs := by
    intro ys zs h1 h2 y hy
    obtain ⟨hx, hm⟩ := h1.sub y hy
    obtain ⟨z, hz, ez⟩ := h2.all y hx
    obtain ⟨hzx, hzm⟩ := h2.sub z hz
    have e : z = y := Arw.eq_of ez (by
      have a := hm z hzx ez
      have b := hzm y hx ez.symm
      omega)
    rw [← e]
    exact hz
  have irr : ∀ x : Arw, lexK x.k3 x.k3 = false := fun x => lexK_irr _
  have key : ∀ {ys zs : List Arw}, (ys.Pairwise fun x y => lexK x.k3 y.k3 = true) → (zs.Pairwise fun x y => lexK x.k3 y.k3 = true) → (∀ y, y ∈ ys ↔ y ∈ zs) → ys = zs := by
    intro ys
    induction ys with
    | nil =>
      intro zs _ _ h
      cases zs with
      | nil => rfl
      | cons z zs => exact absurd ((h z).mpr (List.mem_cons_self ..)) (by simp)
    | cons y ys ih =>
      intro zs hy hz h
      cases zs with
      | nil => exact absurd ((h y).mp (List.mem_cons_self ..)) (by simp)
      | cons z zs =>
        obtain ⟨y1, y2⟩ := List.pairwise_cons.mp hy
        obtain ⟨z1, z2⟩ := List.pairwise_cons.mp hz
        have e : y = z := by
          rcases List.mem_cons.mp ((h y).mp (List.mem_cons_self ..)) with e | a
          · exact e
          · rcases List.mem_cons.mp ((h z).mpr (List.mem_cons_self ..)) with e | b
            · exact e.symm
            · have t := lexK_trans (z1 y a) (y1 z b)
              rw [irr] at t
              cases t
        subst e
        have h' : ∀ w, w ∈ ys ↔ w ∈ zs := fun w => by
          constructor
          · intro hw
            rcases List.mem_cons.mp ((h w).mp (List.mem_cons_of_mem _ hw)) with e | q
            · rw [e] at hw
              have t := y1 y hw
              rw [irr] at t
              cases t
            · exact q
          · intro hw
            rcases List.mem_cons.mp ((h w).mpr (List.mem_cons_of_mem _ hw)) with e | q
            · rw [e] at hw
              have t := z1 y hw
              rw [irr] at t
              cases t
            · exact q
        rw [ih y2 z2 h']
  exact key h1.asc h2.asc fun y => ⟨sub h1 h2 y, sub h2 h1 y⟩
/-- at each v of vs the arrow of xs, a tuple -/
def ArS (H : Hp) (vs : List V) (xs : List Arw) : Prop := Paired (fun v x => ∃ q, v = V.ref q ∧ H q = some (.tup x.vals)) vs xs
theorem ArS.same {H H' : Hp} {vs : List V} {xs : List Arw} (h : ArS H vs xs) (e : Same H H') : ArS H' vs xs := Paired.mapP h fun v x ⟨q, ev, hq⟩ => ⟨q, ev, e _ _ hq⟩
theorem ArTs.s {K : PySem.W.Frag} {p : Addr} {H : Hp} {vs : List V} {xs : List Arw} (h : ArTs K p H vs xs) : ArS H vs xs := Paired.mapP h fun v x ⟨q, ev, _, hq⟩ => ⟨q, ev, hq⟩
theorem ArS.get {H : Hp} : ∀ {vs : List V} {xs : List Arw} {i : Nat} {v : V}, ArS H vs xs → vs[i]? = some v → ∃ q x, v = .ref q ∧ xs[i]? = some x ∧ H q = some (.tup x.vals)
  | _, _, _, _, .nil, h => by simp at h
  | _, _, 0, v, .cons (b := x) ⟨q, ev, hq⟩ r, h => by
    have e := Option.some.inj h
    exact ⟨q, x, by rw [← e]; exact ev, rfl, hq⟩
  | _, _, i + 1, v, .cons a r, h => ArS.get (i := i) r h
theorem paired_perm {α β : Type} {R : α → β → Prop} {as bs : List α} (p : as.Perm bs) : ∀ {cs : List β}, Paired R bs cs → ∃ ds, Paired R as ds ∧ ds.Perm cs := by
  induction p with
  | nil => exact fun h => ⟨_, h, List.Perm.refl _⟩
  | cons x _ ih =>
    intro cs h
    cases h with
    | cons a r =>
      obtain ⟨ds, h1, h2⟩ := ih r
      exact ⟨_ :: ds, .cons a h1, h2.cons _⟩
  | swap x y l =>
    intro cs h
    cases h with
    | cons a r =>
      cases r with
      | cons b r => exact ⟨_, .cons b (.cons a r), List.Perm.swap ..⟩
  | trans _ _ i1 i2 =>
    intro cs h
    obtain ⟨ds, h1, h2⟩ := i2 h
    obtain ⟨es, h3, h4⟩ := i1 h1
    exact ⟨es, h3, h4.trans h2⟩
theorem paired_pairwise {α β : Type} {R : α → β → Prop} {S : α → α → Prop} {S' : β → β → Prop} (hs : ∀ a a' b b', R a b → R a' b' → S a a' → S' b b') : ∀ {as : List α} {bs : List β}, Paired R as bs → as.Pairwise S → bs.Pairwise S'
  | _, _, .nil, _ => .nil
  | _, _, .cons a r, h => by
    obtain ⟨h1, h2⟩ := List.pairwise_cons.mp h
    refine List.pairwise_cons.mpr ⟨fun b hb => ?_, paired_pairwise hs r h2⟩
    have mem : ∀ {as : List α} {bs : List β}, Paired R as bs → ∀ b ∈ bs, ∃ a ∈ as, R a b := by
      intro as bs p
      induction p with
      | nil => exact fun b hb => (by cases hb)
      | cons x _ ih =>
        intro b hb
        rcases List.mem_cons.mp hb with rfl | hb
        · exact ⟨_, List.mem_cons_self .., x⟩
        · obtain ⟨a, ha, r⟩ := ih b hb
          exact ⟨a, List.mem_cons_of_mem _ ha, r⟩
    obtain ⟨a', ha', r'⟩ := mem r b hb
    exact hs _ _ _ _ a r' (h1 a' ha')
theorem kpi_enumS (K : PySem.W.Frag) {X : Cx} {e : Expr} {te : TE} {p pos tpos kpos : Pos} {j : Nat} {cpos : Pos} {elts : List Expr} {kk : Nat} (hg : Gl X "enumerate") (hm : X.mg "enumerate" = none) (he : PE X e te) (hs : starEach [e] X.env = [(false, eval e X.env)] := by rfl) (h : X.K = K := by rfl) :
    PI X (.Tuple elts kk tpos) (.Call (.Name "enumerate" p) [e] [⟨some "start", .Constant (.int 1) j cpos, kpos⟩] pos) (iEnumS K te) := by
  subst h
  exact pi_enumS hg hm he hs
/-! ### dicts -/
theorem kpi_enumST (K : PySem.W.Frag) {X : Cx} {e : Expr} {te : TE} {p pos tpos kpos : Pos} {j : Nat} {cpos : Pos} {elts : List Expr} {kk : Nat} (hg : Gl X "enumerate") (hm : X.mg "enumerate" = none) (he : PE X e te) (hs : starEach [e] X.env = [(false, eval e X.env)] := by rfl) (h : X.K = K := by rfl) :
    PI X (.Tuple elts kk tpos) (.Call (.Name "enumerate" p) [e] [⟨some "start", .Constant (.int 1) j cpos, kpos⟩] pos) (iEnumST K te) := by
  subst h
  exact pi_enumST hg hm he hs
/-! ### dicts -/
theorem putK_keys {κ : Type} [DecidableEq κ] (kvs : List (κ × V)) (k : κ) (v : V) : (putK kvs k v).map (·.1) = if k ∈ kvs.map (·.1) then kvs.map (·.1) else kvs.map (·.1) ++ [k] := by
  have e : (kvs.any fun kv => decide (kv.1 = k)) = decide (k ∈ kvs.map (·.1)) := by
    rw [Bool.eq_iff_iff, decide_eq_true_eq, List.any_eq_true]
    simp only [decide_eq_true_eq, List.mem_map]
  unfold putK
  rw [e]
  by_cases h : k ∈ kvs.map (·.1)
  · rw [if_pos (decide_eq_true h), if_pos h, List.map_map]
    refine List.map_congr_left fun p _ => ?_
    show (if p.1 = k then (p.1, v) else p).1 = p.1
    split <;> rfl
  · rw [if_neg (by rw [decide_eq_false h]; decide), if_neg h, List.map_append]
    rfl
theorem putK_nodup {κ : Type} [DecidableEq κ] {kvs : List (κ × V)} {k : κ} {v : V} (h : (kvs.map (·.1)).Nodup) : ((putK kvs k v).map (·.1)).Nodup := by
  rw [putK_keys]
  split
  · exact h
  · rename_i n
    rw [List.nodup_append]
    exact ⟨h, by simp, fun a ha b hb e => n (by rw [List.mem_singleton.mp hb] at e; rw [← e]; exact ha)⟩
theorem putK_memk {κ : Type} [DecidableEq κ] {kvs : List (κ × V)} {k : κ} {v : V} {p : κ × V} (h : p ∈ putK kvs k v) : p.1 = k ∨ ∃ q ∈ kvs, q.1 = p.1 := by
  have hm : p.1 ∈ (putK kvs k v).map (·.1) := List.mem_map.mpr ⟨p, h, rfl⟩
  rw [putK_keys] at hm
  split at hm
  · obtain ⟨q, hq, e⟩ := List.mem_map.mp hm
    exact .inr ⟨q, hq, e⟩
  · rcases List.mem_append.mp hm with hm | hm
    · obtain ⟨q, hq, e⟩ := List.mem_map.mp hm
      exact .inr ⟨q, hq, e⟩
    · exact .inl (List.mem_singleton.mp hm)
theorem valV_mem {κ : Type} [DecidableEq κ] {kvs : List (κ × V)} (h : (kvs.map (·.1)).Nodup) {p : κ × V} (hp : p ∈ kvs) : valV kvs p.1 = some p.2 := by
  unfold valV
  induction kvs with
  | nil => cases hp
  | cons q kvs ih =>
    rw [List.map_cons] at h
    obtain ⟨h1, h2⟩ := List.nodup_cons.mp h
    rcases List.mem_cons.mp hp with rfl | hp
    · rw [List.find?_cons_of_pos (by simp)]
      rfl
    · have ne : ¬ q.1 = p.1 := fun e => h1 (by rw [e]; exact List.mem_map.mpr ⟨p, hp, rfl⟩)
      rw [List.find?_cons_of_neg (by simpa using ne)]
      exact ih h2 hp
/-- the keys of the value at v, as the heap has it -/
def unkV : V → Ky
  | .int i => .inl i
  | .str z => .inr z
  | _ => .inl 0
def keysAt (H : Hp) (v : V) : List Ky := match v with
  | .ref q => match H q with
    | some (.tup vs) => vs.map unkV
    | _ => []
  | _ => []
theorem keysAt_ar {H : Hp} {q : Addr} {x : Arw} (h : H q = some (.tup x.vals)) : keysAt H (.ref q) = x.ks := by
  unfold keysAt
  simp only [h]
  rfl
/-! ### promises of the machine's helpers -/
def spCheckArrows (K : PySem.W.Frag) : Sp := fun vs H Q _ => ∃ (a : Addr) (us : List V) (xs : List Arw), vs = [.ref a] ∧ SqE K H a us ∧ ArS H us xs ∧ (∀ x ∈ xs, x.Ok) ∧ xs.length ≤ 400 ∧ ∀ H', Same H H' → Q .non H'
def spCheckNames (K : PySem.W.Frag) : Sp := fun vs H Q _ => ∃ (a : Addr) (ns : List PySem.Str), vs = [.ref a] ∧ SqE K H a (ns.map V.str) ∧ (∀ s ∈ ns, Nm s) ∧ Q .non H
def spOnce (K : PySem.W.Frag) : Sp := fun vs H Q _ => ∃ (a : Addr) (ns : List PySem.Str), vs = [.ref a] ∧ SqE K H a (ns.map V.str) ∧ ns.length ≤ 4000 ∧
  ∀ (q : Addr) (os : List PySem.Str) (H' : Hp), H q = none → FzT H' q (os.map V.str) → Asc os → (∀ k, k ∈ os ↔ k ∈ ns) → os.length ≤ ns.length → Same H H' → Q (.ref q) H'
def spStates (K : PySem.W.Frag) : Sp := fun vs H Q _ => ∃ (t a b : Addr) (us : List V) (xs : List Arw) (ss es : List PySem.Str), vs = [.ref t, .ref a, .ref b] ∧ H t = some (.tup us) ∧ ArS H us xs ∧ SqE K H a (ss.map V.str) ∧ SqE K H b (es.map V.str) ∧
  xs.length ≤ 500 ∧ ss.length ≤ 1000 ∧ es.length ≤ 1000 ∧
  ∀ (q : Addr) (os : List PySem.Str) (H' : Hp), H q = none → FzT H' q (os.map V.str) → Asc os → (∀ k, k ∈ os ↔ (k ∈ ss ∨ k ∈ es ∨ ∃ x ∈ xs, k = x.s ∨ k = x.t)) → Same H H' → Q (.ref q) H'
def spCheapest (K : PySem.W.Frag) : Sp := fun vs H Q _ => ∃ (a : Addr) (us : List V) (xs : List Arw), vs = [.ref a] ∧ SqE K H a us ∧ ArS H us xs ∧ xs.length ≤ 1000 ∧
  ∀ (q : Addr) (ws : List V) (ys : List Arw) (H' : Hp), H q = none → H' q = some (.tup ws) → ArS H' ws ys → CheapOf xs ys → Same H H' → Q (.ref q) H'
theorem nm_len {s : PySem.Str} (h : Nm s) : s.length ≤ 100000 := Nat.le_trans h.2.1 (by decide)
theorem lt_len {s : PySem.Str} (h : Lt s) : s.length ≤ 100000 := by rw [h.1]; decide
end Bz
namespace Bz
open PySem PySem.Spec PyProof.Rows L2
/-! ### own classes: made, their properties read -/
structure InitAt (K : PySem.W.Frag) (C : Addr) (qual : PySem.Str) (st : Stmt) (ps : List PySem.Str) : Prop where
  ex : ∃ f fd, Mk K C f ∧ Fun K "__init__" qual st f fd ∧ Binds K fd ps []
structure Makes (P : Program) (w : World) (K : PySem.W.Frag) (mg : PySem.Str → Option Value) (base : Heap) (C : Addr) (k : Nat) (ps : List PySem.Str) (sp : Sp) : Prop where
  ex : ∃ f fd, Mk K C f ∧ FnOk P w K mg base CX0 k f fd ps sp ∧ Binds K fd ps []
section
variable {P : Program} {w : World} {K : PySem.W.Frag} {mg : PySem.Str → Option Value} {base : Heap} {k : Nat} {qual : PySem.Str} {st : Stmt} {ps N : List PySem.Str} {sp : Sp} {C : Addr}
theorem makes0 (D : InitAt K C qual st ps) (S : FnScope N ps (defScope st)) (len : ∀ vs H Q E, sp vs H Q E → vs.length = ps.length)
    (hbody : ∀ (f : Addr) (cdv : Value) (A : Around) (outer : List Env) (s : Shared) (H : Hp) (vs : List V) (Q : VK) (E : XK), Room k (A.deeper (envOfC qual (defScope st) s.heap.objs.size f cdv)) → sp vs H Q E →
      ∃ t, PSs (cxOf CX0 P w K mg base N qual (defScope st) f cdv A outer s H E).nox (defBody st) t ∧ t { nx := fun _ H' => Q .non H', rt := Q } (start N vs) H) : Makes P w K mg base C (k + 1) ps sp := by
  obtain ⟨f, fd, M, F, b⟩ := D.ex
  exact ⟨f, fd, M, F.ok S len (hbody f), b⟩
end
section
variable {X : Cx} {k : Nat} {x : PySem.Str} {ps : List PySem.Str} {sp : Sp} {e : Expr} {es : List Expr} {p pos : Pos} {t : TA} {C : Addr}
theorem pe_mk {j : Nat} (M : Makes X.prog X.w X.K X.mg X.base C k ps sp) (hr : Room j X.A) (hm : X.mg x = some (.ref C)) (ha : PA X (e :: es) t) (hj : k + 1 ≤ j := by decide) (hg : Gl X x := by rfl)
    (hdb : (x == ("__debug__" : PySem.Str)) = false := by decide) (he : starEach (e :: es) X.env = (false, eval e X.env) :: starEach es X.env := by rfl) (hpl : (backTo pos (starEach es X.env)).any (·.1) = false := by rfl) :
    PE X (.Call (.Name x p) (e :: es) [] pos) (tMake C sp [] E0 t) := by
  obtain ⟨f, fd, M, F, b⟩ := M.ex
  exact pe_make M F (hr.mono hj) hg hm b .nil pass0 ha hdb he hpl
end
structure PropAt (K : PySem.W.Frag) (C : Addr) (f qual : PySem.Str) (st : Stmt) : Prop where
  ex : ∃ p g fd, PropOf K C f p g ∧ Fun K f qual st g fd ∧ Binds K fd ["self"] []
/-- e.f, a property that gives the attribute h -/
def tPr (C : Addr) (h : PySem.Str) (te : TE) : TE := tProp C (getSp C h) [] E0 te
theorem pe_pr {X : Cx} {j : Nat} {C : Addr} {f h qual : PySem.Str} {st : Stmt} {N : List PySem.Str} {e : Expr} {te : TE} {pos p1 p2 p3 : Pos} (he : PE X e te) (hr : Room j X.A) (c : Cls X.K C) (hp : PropAt X.K C f qual st) (n : NoAttr X.K C h) (S : FnScope N ["self"] (defScope st))
    (hN : N[0]? = some ("self" : PySem.Str) := by rfl) (hb : defBody st = [.Return (some (.Attribute (.Name "self" p1) h p2)) p3] := by rfl) (hj : 2 ≤ j := by decide) (hab : attributeBase e f X.env (eval e X.env) = eval e X.env := by rfl) :
    PE X (.Attribute e f pos) (tPr C h te) := by
  obtain ⟨p, g, fd, P, F, b⟩ := hp.ex
  obtain ⟨oc, od, kV, doc, pm, an, cdv, ct, osl, rfl, lk, hcd⟩ := F.ex
  have G : FnOk X.prog X.w X.K X.mg X.base CX0 1 g (PySem.W.fnOf f qual (defArgs st) (defBody st) (defScope st) .none kV doc pm an cdv ct) ["self"] (getSp C h) := fn_getter lk hcd S hN hb c n
  exact pe_prop (dvs := []) (E := E0) (pos := pos) he c P G (hr.mono hj) b .nil (fun _ _ _ _ _ _ _ z => z.elim) hab
/-- what stands in a machine -/
structure MachV where
  ars : List Arw
  sts : List PySem.Str
  ens : List PySem.Str
  sta : List PySem.Str
  lets : List PySem.Str
/-- .. made of xs, ss, es -/
structure MOf (M : MachV) (xs : List Arw) (ss es : List PySem.Str) : Prop where
  ars : CheapOf xs M.ars
  sts : Asc M.sts ∧ ∀ k, k ∈ M.sts ↔ k ∈ ss
  ens : Asc M.ens ∧ ∀ k, k ∈ M.ens ↔ k ∈ es
  sta : Asc M.sta ∧ ∀ k, k ∈ M.sta ↔ (k ∈ ss ∨ k ∈ es ∨ ∃ x ∈ M.ars, k = x.s ∨ k = x.t)
  lets : Asc M.lets ∧ ∀ k, k ∈ M.lets ↔ ∃ x ∈ M.ars, k = x.l
def mfs (t1 t2 t3 t4 t5 : Addr) : List (PySem.Str × V) := [("held_arrows", .ref t1), ("held_starts", .ref t2), ("held_ends", .ref t3), ("held_states", .ref t4), ("held_letters", .ref t5)]
/-- the machine M at m -/
structure MachAt (C : Addr) (H : Hp) (m dx t1 t2 t3 t4 t5 : Addr) (ws : List V) (M : MachV) : Prop where
  ins : H m = some (.ins C dx (mfs t1 t2 t3 t4 t5))
  a1 : H t1 = some (.tup ws)
  as : ArS H ws M.ars
  a2 : FzT H t2 (M.sts.map V.str)
  a3 : FzT H t3 (M.ens.map V.str)
  a4 : FzT H t4 (M.sta.map V.str)
  a5 : FzT H t5 (M.lets.map V.str)
def IsMach (C : Addr) (H : Hp) (m : Addr) (M : MachV) : Prop := ∃ dx t1 t2 t3 t4 t5 ws, MachAt C H m dx t1 t2 t3 t4 t5 ws M
theorem IsMach.same {C : Addr} {H H' : Hp} {m : Addr} {M : MachV} (h : IsMach C H m M) (e : Same H H') : IsMach C H' m M := by
  obtain ⟨dx, t1, t2, t3, t4, t5, ws, h⟩ := h
  exact ⟨dx, t1, t2, t3, t4, t5, ws, ⟨e _ _ h.ins, e _ _ h.a1, h.as.same e, h.a2.on e, h.a3.on e, h.a4.on e, h.a5.on e⟩⟩
theorem putf0 (v : V) : putF "held_arrows" v [] = [(("held_arrows" : PySem.Str), v)] := rfl
theorem putf1 (a v : V) : putF "held_starts" v [(("held_arrows" : PySem.Str), a)] = [(("held_arrows" : PySem.Str), a), (("held_starts" : PySem.Str), v)] := by
  unfold putF
  rw [if_neg (by decide +kernel)]
  rfl
theorem putf2 (a b v : V) : putF "held_ends" v [(("held_arrows" : PySem.Str), a), (("held_starts" : PySem.Str), b)] = [(("held_arrows" : PySem.Str), a), (("held_starts" : PySem.Str), b), (("held_ends" : PySem.Str), v)] := by
  unfold putF
  rw [if_neg (by decide +kernel)]
  unfold putF
  rw [if_neg (by decide +kernel)]
  rfl
theorem putf3 (a b c v : V) : putF "held_states" v [(("held_arrows" : PySem.Str), a), (("held_starts" : PySem.Str), b), (("held_ends" : PySem.Str), c)] = [(("held_arrows" : PySem.Str), a), (("held_starts" : PySem.Str), b), (("held_ends" : PySem.Str), c), (("held_states" : PySem.Str), v)] := by
  unfold putF
  rw [if_neg (by decide +kernel)]
  unfold putF
  rw [if_neg (by decide +kernel)]
  unfold putF
  rw [if_neg (by decide +kernel)]
  rfl
theorem putf4 (a b c d v : V) : putF "held_letters" v [(("held_arrows" : PySem.Str), a), (("held_starts" : PySem.Str), b), (("held_ends" : PySem.Str), c), (("held_states" : PySem.Str), d)] = [(("held_arrows" : PySem.Str), a), (("held_starts" : PySem.Str), b), (("held_ends" : PySem.Str), c), (("held_states" : PySem.Str), d), (("held_letters" : PySem.Str), v)] := by
  unfold putF
  rw [if_neg (by decide +kernel)]
  unfold putF
  rw [if_neg (by decide +kernel)]
  unfold putF
  rw [if_neg (by decide +kernel)]
  unfold putF
  rw [if_neg (by decide +kernel)]
  rfl
theorem look_ne {f g : PySem.Str} {v : V} {r : List (PySem.Str × V)} (h : ¬ f = g) : List.lookup f ((g, v) :: r) = List.lookup f r := by
  have e : (f == g) = false := by simpa using h
  simp [List.lookup, e]
theorem look_eq {f : PySem.Str} {v : V} {r : List (PySem.Str × V)} : List.lookup f ((f, v) :: r) = some v := by simp [List.lookup]
theorem mfs1 (t1 t2 t3 t4 t5 : Addr) : (mfs t1 t2 t3 t4 t5).lookup ("held_arrows" : PySem.Str) = some (.ref t1) := look_eq
theorem mfs2 (t1 t2 t3 t4 t5 : Addr) : (mfs t1 t2 t3 t4 t5).lookup ("held_starts" : PySem.Str) = some (.ref t2) := (look_ne (by decide +kernel)).trans look_eq
theorem mfs3 (t1 t2 t3 t4 t5 : Addr) : (mfs t1 t2 t3 t4 t5).lookup ("held_ends" : PySem.Str) = some (.ref t3) := (look_ne (by decide +kernel)).trans ((look_ne (by decide +kernel)).trans look_eq)
theorem mfs4 (t1 t2 t3 t4 t5 : Addr) : (mfs t1 t2 t3 t4 t5).lookup ("held_states" : PySem.Str) = some (.ref t4) := (look_ne (by decide +kernel)).trans ((look_ne (by decide +kernel)).trans ((look_ne (by decide +kernel)).trans look_eq))
theorem mfs5 (t1 t2 t3 t4 t5 : Addr) : (mfs t1 t2 t3 t4 t5).lookup ("held_letters" : PySem.Str) = some (.ref t5) :=
  (look_ne (by decide +kernel)).trans ((look_ne (by decide +kernel)).trans ((look_ne (by decide +kernel)).trans ((look_ne (by decide +kernel)).trans look_eq)))
theorem seq_ins {K : PySem.W.Frag} {H : Hp} {m a C dx : Addr} {fs : List (PySem.Str × V)} {o : HO} {xs : List V} (h : SqL K H a xs) (hm : H m = some (.ins C dx fs)) : SqL K (upd H m o) a xs := by
  rcases h with (h | ⟨u, h⟩) | h
  · exact .inl (.inl ((upd_ne (ne_of h hm (by intro z; cases z))).trans h))
  · exact .inl (.inr ⟨u, (upd_ne (ne_of h hm (by intro z; cases z))).trans h⟩)
  · exact .inr h
def spInit (K : PySem.W.Frag) (C : Addr) : Sp := fun vs H Q _ => ∃ (m a b e dx : Addr) (us : List V) (xs : List Arw) (ss es ns : List PySem.Str), vs = [.ref m, .ref a, .ref b, .ref e] ∧ H m = some (.ins C dx []) ∧ SqE K H a us ∧ ArS H us xs ∧ (∀ x ∈ xs, x.Ok) ∧ xs.length ≤ 400 ∧
  SqE K H b (ss.map V.str) ∧ SqE K H e (es.map V.str) ∧ (∀ s ∈ ss, Nm s) ∧ (∀ s ∈ es, Nm s) ∧ ss.length ≤ 1000 ∧ es.length ≤ 1000 ∧ ns.length ≤ 40 ∧ (∀ s ∈ ss, s ∈ ns) ∧ (∀ s ∈ es, s ∈ ns) ∧ (∀ x ∈ xs, x.s ∈ ns ∧ x.t ∈ ns) ∧
  ∀ (M : MachV) (H' : Hp), IsMach C H' m M → MOf M xs ss es → (∀ q o, q ≠ m → H q = some o → H' q = some o) → Q .non H'
theorem sqe_ins {K : PySem.W.Frag} {H : Hp} {m a C dx : Addr} {fs : List (PySem.Str × V)} {o : HO} {xs : List V} (h : SqE K H a xs) (hm : H m = some (.ins C dx fs)) : SqE K (upd H m o) a xs := by
  rcases h with h | h
  · exact .inl (seq_ins h hm)
  · refine .inr ?_
    rcases h with (h | ⟨u, h⟩) | h
    · exact .inl (.inl ((upd_ne (ne_of h hm (by intro z; cases z))).trans h))
    · exact .inl (.inr ⟨u, (upd_ne (ne_of h hm (by intro z; cases z))).trans h⟩)
    · exact .inr h
end Bz
namespace Bz
open PySem PySem.Spec PyProof.Rows L2
/-! ### min of a list of ints, what stands where there are none told -/
/-- o tells the least of what P says -/
def LeastO (P : Int → Prop) (o : Option Int) : Prop := match o with
  | none => ∀ n, ¬ P n
  | some m => P m ∧ ∀ n, P n → m ≤ n
theorem LeastO.uniq {P : Int → Prop} {a b : Option Int} (ha : LeastO P a) (hb : LeastO P b) : a = b := by
  cases a with
  | none =>
    cases b with
    | none => rfl
    | some m => exact absurd hb.1 (ha m)
  | some k =>
    cases b with
    | none => exact absurd ha.1 (hb k)
    | some m =>
      have h1 := ha.2 m hb.1
      have h2 := hb.2 k ha.1
      have e : k = m := by omega
      rw [e]
theorem LeastO.iff {P Q : Int → Prop} (h : ∀ n, P n ↔ Q n) {o : Option Int} (k : LeastO P o) : LeastO Q o := by
  have e : P = Q := funext fun n => propext (h n)
  rw [← e]
  exact k
def optV : Option Int → V
  | none => .non
  | some n => .int n
theorem strS {X : Cx} : CallR X (.type "str") (fun xs H Q => ∃ a, xs = [V.str a] ∧ Q (.str a) H) := by
  intro pins s σ H xs us Q I r h
  obtain ⟨z, rfl, k⟩ := h
  obtain ⟨u, rfl, ru⟩ := vals1 r
  obtain ⟨t, rfl⟩ := ru
  exact PySem.P.str_of_str ⟨.str z, H, I, ⟨t, rfl⟩, k⟩
theorem callB_kw {M : Model} {A : Around} {E : Value → Shared → Prop} {s : Shared} {pos : Pos} {T : String} {t : Sem Value} {kw : PySem.Str} {x : Sem Value} {Q : Value → Shared → Prop}
    (h : wpAny M A t (fun v s1 => wpAny M A x (fun k s2 => wpAny M A (call (.builtin T) [v] [(kw, k)]) Q E s2) E s1) E s) :
    wpAny M A (callWith pos (.builtin T) [] [(false, t)] [(some kw, x)]) Q E s := by
  unfold callWith
  refine wpAny_bind (wpAny_holding (wpAny_mono (Q := fun (a : Args) s1 => wpAny M A (call (.builtin T) ([] ++ a.pos) a.kw) Q E s1) ?_ (fun a s1 h1 => wpAny_bind (wpAny_standAt ?_)) fun _ _ z => z))
  · refine evalArgs_kwB (by rfl) ?_
    refine Calls.spliced_cons (wpAny_mono h (fun v s1 h1 => Calls.spliced_nil ?_) fun _ _ z => z)
    exact evalAll_cons (wpAny_mono h1 (fun k s2 h2 => wpAny_evalAll_nil h2) fun _ _ z => z)
  · refine wpAny_bind (wpAny_pure ?_)
    exact wpAny_bind (wpAny_mono h1 (fun r s2 hr => wpAny_bind (wpAny_holding (wpAny_point (wpAny_pure hr)))) fun _ _ z => z)
theorem dp_ints {K : PySem.W.Frag} {H : Hp} : ∀ ns : List Int, DpAll K H (ns.map V.int) (ns.map PyData.int)
  | [] => .nil
  | n :: ns => .cons (.int n) (dp_ints ns)
theorem minOf_is (y : Int) (ys : List Int) : PySem.W.minOf y ys ∈ y :: ys ∧ ∀ z ∈ y :: ys, PySem.W.minOf y ys ≤ z := by
  unfold PySem.W.minOf
  induction ys generalizing y with
  | nil => exact ⟨List.mem_cons_self .., fun z hz => by rw [List.mem_singleton.mp hz]; exact Int.le_refl _⟩
  | cons x ys ih =>
    rw [List.foldl_cons]
    have e : (if PySem.W.DatumOrd.lt x y = true then x else y) = if x < y then x else y := by
      show (if decide (x < y) = true then x else y) = _
      by_cases h : x < y <;> simp [h]
    rw [e]
    obtain ⟨h1, h2⟩ := ih (if x < y then x else y)
    have q : ∀ z ∈ (if x < y then x else y) :: ys, z ∈ y :: x :: ys := by
      intro z hz
      rcases List.mem_cons.mp hz with rfl | hz
      · split <;> simp
      · simp [hz]
    refine ⟨q _ h1, fun z hz => ?_⟩
    have h0 := h2 _ (List.mem_cons_self ..)
    have h3 : ∀ z ∈ ys, List.foldl (fun a y => if PySem.W.DatumOrd.lt y a = true then y else a) (if x < y then x else y) ys ≤ z := fun z hz => h2 z (List.mem_cons_of_mem _ hz)
    generalize List.foldl (fun a y => if PySem.W.DatumOrd.lt y a = true then y else a) (if x < y then x else y) ys = r at h0 h3 ⊢
    have h4 : r ≤ x ∧ r ≤ y := by
      by_cases c : x < y
      · rw [if_pos c] at h0
        omega
      · rw [if_neg c] at h0
        omega
    rcases List.mem_cons.mp hz with rfl | hz
    · exact h4.2
    · rcases List.mem_cons.mp hz with rfl | hz
      · exact h4.1
      · exact h3 z hz
theorem kmin1 (K : PySem.W.Frag) {X : Cx} (hc : X.calm = true) (h : X.K = K := by rfl) : CallR X (.builtin "min") (rMin K) := by subst h; exact cr_min hc
/-- one of two ways to walk -/
theorem pi_or {X : Cx} {tg e : Expr} {a b : TI} (ha : PI X tg e a) (hb : PI X tg e b) : PI X tg e (fun σ H R => a σ H R ∨ b σ H R) :=
  ⟨fun pins s σ H R I h => h.elim (fun h => ha.run pins s σ H R I h) (fun h => hb.run pins s σ H R I h)⟩
end Bz
namespace Bz
open PySem PySem.Spec PyProof.Rows L2
/-! ### runs and their sums -/
def sgnL (z : PySem.Str) : List PySem.Str := z.cps.toList.map fun ch => (⟨#[ch]⟩ : PySem.Str)
theorem sgnL_len (z : PySem.Str) : (sgnL z).length = z.cps.size := by
  unfold sgnL
  rw [List.length_map, Array.length_toList]
theorem sgnL_at {z : PySem.Str} {i c : Nat} (h : z.cps[i]? = some c) : (sgnL z)[i]? = some (⟨#[c]⟩ : PySem.Str) := by
  unfold sgnL
  rw [List.getElem?_map, Array.getElem?_toList, h]
  rfl
def nextS (xs : List Arw) (l : PySem.Str) (p : PySem.Str × Int) : List (PySem.Str × Int) := (xs.filter fun x => decide (x.s = p.1 ∧ x.l = l)).map fun x => (x.t, p.2 + x.c)
def sums (xs : List Arw) (ls : List PySem.Str) (f : List (PySem.Str × Int)) : List (PySem.Str × Int) := ls.foldl (fun f l => f.flatMap (nextS xs l)) f
theorem sums_snoc (xs : List Arw) (ls : List PySem.Str) (l : PySem.Str) (f : List (PySem.Str × Int)) : sums xs (ls ++ [l]) f = (sums xs ls f).flatMap (nextS xs l) := by
  unfold sums
  rw [List.foldl_append]
  rfl
def Rch (xs : List Arw) (ss ls : List PySem.Str) (q : PySem.Str) (n : Int) : Prop := ∃ a ∈ ss, (q, n) ∈ sums xs ls [(a, 0)]
theorem reach_nil {xs : List Arw} {ss : List PySem.Str} {q : PySem.Str} {n : Int} : Rch xs ss [] q n ↔ q ∈ ss ∧ n = 0 := by
  unfold Rch sums
  constructor
  · rintro ⟨a, ha, h⟩
    have := List.mem_singleton.mp h
    obtain ⟨rfl, rfl⟩ := Prod.mk.inj this
    exact ⟨ha, rfl⟩
  · rintro ⟨h, rfl⟩
    exact ⟨q, h, List.mem_singleton.mpr rfl⟩
theorem reach_step {xs : List Arw} {ss ls : List PySem.Str} {l q : PySem.Str} {n : Int} : Rch xs ss (ls ++ [l]) q n ↔ ∃ x ∈ xs, x.l = l ∧ x.t = q ∧ ∃ m, Rch xs ss ls x.s m ∧ n = m + x.c := by
  unfold Rch
  constructor
  · rintro ⟨a, ha, h⟩
    rw [sums_snoc] at h
    obtain ⟨⟨p, m⟩, hp, hm⟩ := List.mem_flatMap.mp h
    unfold nextS at hm
    obtain ⟨x, hx, e⟩ := List.mem_map.mp hm
    obtain ⟨h1, h2⟩ := List.mem_filter.mp hx
    obtain ⟨h3, h4⟩ := of_decide_eq_true h2
    obtain ⟨rfl, rfl⟩ := Prod.mk.inj e
    exact ⟨x, h1, h4, rfl, m, ⟨a, ha, by rw [h3]; exact hp⟩, rfl⟩
  · rintro ⟨x, hx, rfl, rfl, m, ⟨a, ha, h⟩, rfl⟩
    refine ⟨a, ha, ?_⟩
    rw [sums_snoc]
    refine List.mem_flatMap.mpr ⟨(x.s, m), h, ?_⟩
    exact List.mem_map.mpr ⟨x, List.mem_filter.mpr ⟨hx, decide_eq_true ⟨rfl, rfl⟩⟩, rfl⟩
/-! ### one letter further -/
abbrev Mv := PySem.Str × PySem.Str × Int
def mvOf (x : Arw) : Mv := (x.s, x.t, x.c)
abbrev mvV (m : Mv) : List V := [.str m.1, .str m.2.1, .int m.2.2]
def advS (f : PySem.Str → Option Int) (g : PySem.Str → Option Int) (m : Mv) : PySem.Str → Option Int := match f m.1 with
  | none => g
  | some n => fun q => if q = m.2.1 then some (if (g q).getD (n + m.2.2) < n + m.2.2 then (g q).getD (n + m.2.2) else n + m.2.2) else g q
def adv (f : PySem.Str → Option Int) (mv : List Mv) : PySem.Str → Option Int := mv.foldl (advS f) fun _ => none
theorem adv_snoc (f : PySem.Str → Option Int) (mv : List Mv) (m : Mv) : adv f (mv ++ [m]) = advS f (adv f mv) m := by
  unfold adv
  rw [List.foldl_append]
  rfl
theorem advS_least {f g : PySem.Str → Option Int} {P : PySem.Str → Int → Prop} {m : Mv} (h : ∀ q, LeastO (P q) (g q)) (q : PySem.Str) : LeastO (fun n => P q n ∨ (m.2.1 = q ∧ ∃ k, f m.1 = some k ∧ n = k + m.2.2)) (advS f g m q) := by
  unfold advS
  cases hf : f m.1 with
  | none =>
    refine (h q).iff fun n => ⟨.inl, ?_⟩
    rintro (h | ⟨_, k, e, _⟩)
    · exact h
    · cases e
  | some k =>
    simp only
    by_cases e : q = m.2.1
    · rw [if_pos e]
      have hq := h q
      cases hg : g q with
      | none =>
        rw [hg] at hq
        simp only [Option.getD_none, Int.lt_irrefl, if_false]
        refine ⟨.inr ⟨e.symm, k, rfl, rfl⟩, ?_⟩
        rintro n (h | ⟨_, k', e', rfl⟩)
        · exact absurd h (hq n)
        · rw [← Option.some.inj e']
          exact Int.le_refl _
      | some j =>
        rw [hg] at hq
        obtain ⟨h1, h2⟩ := hq
        simp only [Option.getD_some]
        by_cases c : j < k + m.2.2
        · rw [if_pos c]
          refine ⟨.inl h1, ?_⟩
          rintro n (h | ⟨_, k', e', rfl⟩)
          · exact h2 n h
          · rw [← Option.some.inj e']
            omega
        · rw [if_neg c]
          refine ⟨.inr ⟨e.symm, k, rfl, rfl⟩, ?_⟩
          rintro n (h | ⟨_, k', e', rfl⟩)
          · have := h2 n h
            omega
          · rw [← Option.some.inj e']
            exact Int.le_refl _
    · rw [if_neg e]
      refine (h q).iff fun n => ⟨.inl, ?_⟩
      rintro (h | ⟨a, _⟩)
      · exact h
      · exact absurd a.symm e
theorem adv_least_from (f : PySem.Str → Option Int) : ∀ (mv : List Mv) (g : PySem.Str → Option Int) (P : PySem.Str → Int → Prop), (∀ q, LeastO (P q) (g q)) → ∀ q, LeastO (fun n => P q n ∨ ∃ m ∈ mv, m.2.1 = q ∧ ∃ k, f m.1 = some k ∧ n = k + m.2.2) (mv.foldl (advS f) g q)
  | [], g, P, h, q => (h q).iff fun n => ⟨.inl, fun z => z.elim id fun ⟨m, hm, _⟩ => (by cases hm)⟩
  | m :: mv, g, P, h, q => by
    rw [List.foldl_cons]
    refine (adv_least_from f mv (advS f g m) _ (fun q => advS_least h q) q).iff fun n => ?_
    constructor
    · rintro ((a | a) | ⟨x, hx, a⟩)
      · exact .inl a
      · exact .inr ⟨m, List.mem_cons_self .., a⟩
      · exact .inr ⟨x, List.mem_cons_of_mem _ hx, a⟩
    · rintro (a | ⟨x, hx, a⟩)
      · exact .inl (.inl a)
      · rcases List.mem_cons.mp hx with rfl | hx
        · exact .inl (.inr a)
        · exact .inr ⟨x, hx, a⟩
theorem adv_reach {xs : List Arw} {ss ls : List PySem.Str} {l : PySem.Str} {f : PySem.Str → Option Int} (h : ∀ q, LeastO (Rch xs ss ls q) (f q)) (q : PySem.Str) :
    LeastO (Rch xs ss (ls ++ [l]) q) (adv f ((xs.filter fun x => decide (x.l = l)).map mvOf) q) := by
  have a := adv_least_from f ((xs.filter fun x => decide (x.l = l)).map mvOf) (fun _ => none) (fun _ _ => False) (fun _ _ z => z) q
  -- the least of what goes one arrow on from the least
  have key : ∀ (s : PySem.Str), match f s with | none => ∀ n, ¬ Rch xs ss ls s n | some k => Rch xs ss ls s k ∧ ∀ n, Rch xs ss ls s n → k ≤ n := fun s => h s
  change LeastO _ (adv f _ q) at a
  revert a
  generalize adv f ((xs.filter fun x => decide (x.l = l)).map mvOf) q = o
  intro a
  have mem : ∀ m, m ∈ (xs.filter fun x => decide (x.l = l)).map mvOf ↔ ∃ x ∈ xs, x.l = l ∧ mvOf x = m := fun m => by
    rw [List.mem_map]
    constructor
    · rintro ⟨x, hx, e⟩
      obtain ⟨h1, h2⟩ := List.mem_filter.mp hx
      exact ⟨x, h1, of_decide_eq_true h2, e⟩
    · rintro ⟨x, h1, h2, e⟩
      exact ⟨x, List.mem_filter.mpr ⟨h1, decide_eq_true h2⟩, e⟩
  cases o with
  | none =>
    intro n hn
    obtain ⟨x, hx, el, et, m, hm, rfl⟩ := reach_step.mp hn
    have k := key x.s
    cases hf : f x.s with
    | none => rw [hf] at k; exact k m hm
    | some j => exact a (j + x.c) (.inr ⟨mvOf x, (mem _).mpr ⟨x, hx, el, rfl⟩, et, j, hf, rfl⟩)
  | some k =>
    obtain ⟨h1, h2⟩ := a
    constructor
    · rcases h1 with h1 | ⟨m, hm, et, j, hf, e⟩
      · exact h1.elim
      · obtain ⟨x, hx, el, rfl⟩ := (mem _).mp hm
        have kk := key x.s
        rw [show f x.s = some j from hf] at kk
        exact reach_step.mpr ⟨x, hx, el, et, j, kk.1, e⟩
    · intro n hn
      obtain ⟨x, hx, el, et, m, hm, rfl⟩ := reach_step.mp hn
      have kk := key x.s
      cases hf : f x.s with
      | none => rw [hf] at kk; exact absurd hm (kk m)
      | some j =>
        rw [hf] at kk
        have q1 := kk.2 m hm
        have q2 := h2 (j + x.c) (.inr ⟨mvOf x, (mem _).mpr ⟨x, hx, el, rfl⟩, et, j, hf, rfl⟩)
        omega
/-! ### as the heap has it -/
/-- a list's items, tuples of a state, the state behind it and a price -/
abbrev MvS (H : Hp) (us : List V) (mv : List Mv) : Prop := Paired (fun v m => ∃ q, v = V.ref q ∧ H q = some (.tup (mvV m))) us mv
theorem paired_snoc {α β : Type} {R : α → β → Prop} {as : List α} {bs : List β} {a : α} {b : β} (h : Paired R as bs) (r : R a b) : Paired R (as ++ [a]) (bs ++ [b]) := by
  induction h with
  | nil => exact .cons r .nil
  | cons x _ ih => exact .cons x ih
/-- the dict kvs holds f -/
def Holds1 (kvs : List (Ky × V)) (f : PySem.Str → Option Int) : Prop := ∀ q : PySem.Str, valV kvs (.inr q) = (f q).map V.int
def Moves (K : PySem.W.Frag) (xs : List Arw) (H : Hp) (kvs : List (Ky × V)) : Prop := ∀ l : PySem.Str, (valV kvs (.inr l) = none ∧ ∀ x ∈ xs, x.l ≠ l) ∨
  ∃ q us, valV kvs (.inr l) = some (.ref q) ∧ SqL K H q us ∧ MvS H us ((xs.filter fun x => decide (x.l = l)).map mvOf)
structure MGood (M : MachV) : Prop where
  nd : M.lets.Nodup
  all : ∀ x ∈ M.ars, x.l ∈ M.lets
  al : M.ars.length ≤ 500
  ll : M.lets.length ≤ 500
  sl : M.sts.length ≤ 1000
  el : M.ens.length ≤ 1000
def spMoves (K : PySem.W.Frag) (C : Addr) : Sp := fun vs H Q _ => ∃ (m : Addr) (M : MachV), vs = [.ref m] ∧ IsMach C H m M ∧ MGood M ∧
  ∀ (d : Addr) (kvs : List (Ky × V)) (H' : Hp), H d = none → H' d = some (.dK kvs) → Moves K M.ars H' kvs → Same H H' → Q (.ref d) H'
theorem reach_least {xs : List Arw} {ss ls es : List PySem.Str} {f : PySem.Str → Option Int} (h : ∀ q, LeastO (Rch xs ss ls q) (f q)) {o : Option Int} (k : LeastO (fun n => ∃ e ∈ es, f e = some n) o) : LeastO (fun n => ∃ e ∈ es, Rch xs ss ls e n) o := by
  have key : ∀ (s : PySem.Str), match f s with | none => ∀ n, ¬ Rch xs ss ls s n | some k => Rch xs ss ls s k ∧ ∀ n, Rch xs ss ls s n → k ≤ n := fun s => h s
  cases o with
  | none =>
    rintro n ⟨e, he, r⟩
    have q := key e
    cases hf : f e with
    | none => rw [hf] at q; exact q n r
    | some j => exact k j ⟨e, he, hf⟩
  | some m =>
    obtain ⟨⟨e, he, hf⟩, h2⟩ := k
    have q := key e
    rw [hf] at q
    refine ⟨⟨e, he, q.1⟩, ?_⟩
    rintro n ⟨e', he', r⟩
    have q' := key e'
    cases hf' : f e' with
    | none => rw [hf'] at q'; exact absurd r (q' n)
    | some j =>
      rw [hf'] at q'
      have := q'.2 n r
      have := h2 j ⟨e', he', hf'⟩
      omega
end Bz
namespace Bz
open PySem PySem.Spec PyProof.Rows L2
/-! ### a name given a dict comprehension on one line -/
theorem swD_true {kx vx : Expr} {gs : List Comprehension} {scope : Scope} {pos py : Pos} {y : PySem.Str} {l : Nat} {env : Env} (h1 : env.scope.kind = .function) (h2 : env.scope.names.lookup y = some .local) (h3 : (py.line == pos.line) = true)
    (h4 : (scope.names.any fun (n, k) => n == y && (k == .local || k == .cell)) = false) : swapsWith (.DictComp kx vx gs scope pos) (some (.Name y py)) l env = pure true := by
  have a : env.kindOf y = some .local := h2
  have b : env.blockKind = .function := by
    unfold Env.blockKind
    rw [h1] <;> rfl
  unfold swapsWith
  simp only [b, a, h4, Expr.pos, h3] <;> rfl
section
variable {X : Cx}
theorem ps_setDc {i : Nat} {y : PySem.Str} {py : Pos} {kx vx tg iter : Expr} {ifs : List Expr} {scope : Scope} {own : List (PySem.Str × Nat)} {pos spos : Pos} {wi : TI} {g : TG} {tt : TT} {tk tv : TE} (hc : X.calm = true) (hN : X.N.Nodup) (hy : X.N[i]? = some y)
    (hyl : X.env.scope.names.lookup y = some .local) (hsw : swapsWith (.DictComp kx vx [⟨tg, iter, ifs, 0⟩] scope pos) (some (.Name y py)) spos.line X.env = pure true) (hi : PI X tg iter wi) (ok : BlkOk X.N X.env.scope scope own)
    (hg : ∀ (s : Shared) (H : Hp) (C : Addr) (cl : List (PySem.Str × Addr)) (fp : List Addr), PG (X.blk s H scope (compEnvC scope cl C X.env) fp) tg g)
    (ht : ∀ (s : Shared) (H : Hp) (C : Addr) (cl : List (PySem.Str × Addr)) (fp : List Addr), PTs (X.blk s H scope (compEnvC scope cl C X.env) fp) ifs tt)
    (hk : ∀ (s : Shared) (H : Hp) (C : Addr) (cl : List (PySem.Str × Addr)) (fp : List Addr), PE (X.blk s H scope (compEnvC scope cl C X.env) fp) kx tk)
    (hv : ∀ (s : Shared) (H : Hp) (C : Addr) (cl : List (PySem.Str × Addr)) (fp : List Addr), PE (X.blk s H scope (compEnvC scope cl C X.env) fp) vx tv)
    (hs : ∀ x, foldedSetIterable iter X.env x = pure x := by intro _; rfl) :
    PS X (.Assign [.Name y py] (.DictComp kx vx [⟨tg, iter, ifs, 0⟩] scope pos) spos) (tAsg (tDc wi g tt tk tv (own.map (·.2))) (gName i)) := by
  refine ⟨fun pins s σ H D I h0 => ?_⟩
  rw [exec_Assign_Name_used _ _ _ _ hsw]
  refine wpAny_bind (wpAny_standAt (wpAny_bind ?_))
  show wpAny _ X.A (do let _ ← comprehension (.DictComp kx vx [⟨tg, iter, ifs, 0⟩] scope pos) scope X.env (firstIterPos [⟨tg, iter, ifs, 0⟩] pos) newDict false (eval iter X.env) (some (assign (.Name y py) X.env))) _ _ s
  have h : tDc wi g tt tk tv (own.map (·.2)) σ H (fun x H1 => gName i x σ H1 D.nx) := h0
  refine wpAny_bind (thn (dc_core (Qf := fun _ z => SP X pins D .next z) hc hN I hi ok hg ht hk hv hs h fun d C s1 m H1 I1 q hn f => ?_) fun _ s1 hq => wpAny_pure (wpAny_pure hq))
  show wpAny _ _ (assign (.Name y py) X.env (.ref d)) _ _ _
  refine wpAny_assign_Name (store_ok2 (v := V.ref d) I1 hN hy (.inl hyl) rfl (fun s2 I2 ⟨a, sb, ha⟩ => ?_) (.inr hyl))
  obtain ⟨e0, e1, e2, e3, e4, e5⟩ := f
  have n : C ≠ a := ha.elim (fun z => by rw [z]; exact e1) (fun z e => e4 y a z e.symm)
  exact ⟨m, hn.sameBut sb n, fun h3 sb3 => ⟨_, H1, I2.turned (t' := s2.toks) (fun b o hb e => (sb3.2 b hb).trans e) e0 e1 e3 e4 e5, q⟩⟩
end
/-- a dict comprehension over a walk -/
theorem dc_it {J : It} {n : Nat} {G : Hp → Prop} {Y : Nat → Hp → V → Hp → Prop} (w : Walk J n G Y) {g : TG} {tt : TT} {tk tv : TE} {vs : List Nat} {σ : L2.St} {H1 : Hp} {D : Addr} {Qd : Hp → Prop} (Pv : Nat → Hp → Prop) (h0 : Pv 0 (upd H1 D (.dK []))) (hG : ∀ i H, i ≤ n → Pv i H → G H)
    (hs : ∀ i x H H', i < n → Pv i H → Y i H x H' → g x (wipe σ vs) H' fun σ2 H2 => wipe σ2 vs = wipe σ vs ∧ tt σ2 H2 fun b H3 =>
      if b = true then tk σ2 H3 fun y H4 => tv σ2 H4 fun z H5 => ∃ kvs k, y = kV k ∧ H5 D = some (.dK kvs) ∧ kvs.length < sizeLine ∧ Pv (i + 1) (upd H5 D (.dK (putK kvs k z))) else Pv (i + 1) H3) (hd : ∀ H, Pv n H → Qd H) :
    ∃ W : Nat → Nat → Hp → Prop, (∃ m, W 0 m (upd H1 D (.dK []))) ∧ ∀ i m H, W i m H →
      (J.stop i H ∧ Qd H) ∨ (J.go i H ∧ ∃ Nx : Hp → Prop, (∀ H', Nx H' → ∃ m', m' < m ∧ W (i + 1) m' H') ∧ ∀ x H', J.yld i H x H' → g x (wipe σ vs) H' fun σ2 H2 => wipe σ2 vs = wipe σ vs ∧ tt σ2 H2 fun b H3 =>
        if b = true then tk σ2 H3 fun y H4 => tv σ2 H4 fun z H5 => ∃ kvs k, y = kV k ∧ H5 D = some (.dK kvs) ∧ kvs.length < sizeLine ∧ Nx (upd H5 D (.dK (putK kvs k z))) else Nx H3) := by
  refine ⟨fun i m H => m = n - i ∧ i ≤ n ∧ Pv i H, ⟨n, by omega, Nat.zero_le _, h0⟩, ?_⟩
  rintro i m H ⟨rfl, hi, p⟩
  have q := hG i H hi p
  by_cases c : i < n
  · exact .inr ⟨w.goes i H c q, Pv (i + 1), fun H' p' => ⟨n - (i + 1), by omega, rfl, c, p'⟩, fun x H' y => hs i x H H' c p (w.yields i H x H' c q y)⟩
  · obtain rfl : i = n := by omega
    exact .inl ⟨w.stops H q, hd H p⟩
theorem putK_new {κ : Type} [DecidableEq κ] {kvs : List (κ × V)} {k : κ} {v : V} (h : k ∉ kvs.map (·.1)) : putK kvs k v = kvs ++ [(k, v)] := by
  unfold putK
  have e : (kvs.any fun kv => decide (kv.1 = k)) = false := by
    rw [Bool.eq_false_iff]
    intro q
    obtain ⟨p, hp, e⟩ := List.any_eq_true.mp q
    exact h (List.mem_map.mpr ⟨p, hp, of_decide_eq_true e⟩)
  rw [e]
  rfl
theorem valV_none {κ : Type} [DecidableEq κ] {kvs : List (κ × V)} {k : κ} (h : k ∉ kvs.map (·.1)) : valV kvs k = none := by
  unfold valV
  have e : (kvs.find? fun kv => decide (kv.1 = k)) = none := by
    rw [List.find?_eq_none]
    intro p hp c
    exact h (List.mem_map.mpr ⟨p, hp, of_decide_eq_true c⟩)
  rw [e]
  rfl
/-- a letter and where its list stands -/
abbrev pk (p : PySem.Str × Addr) : Ky × V := (.inr p.1, .ref p.2)
structure MvInv (H H' : Hp) (D : Addr) (ps : List (PySem.Str × Addr)) (c : PySem.Str → List Mv) : Prop where
  d : H' D = some (.dK (ps.map pk))
  nd : (ps.map (·.2)).Nodup
  each : ∀ p ∈ ps, H p.2 = none ∧ p.2 ≠ D ∧ ∃ us, H' p.2 = some (.lst us) ∧ MvS H' us (c p.1)
  same : Same H H'
  hD : H D = none
theorem pk_keys (ps : List (PySem.Str × Addr)) : (ps.map pk).map (·.1) = (ps.map (·.1)).map Sum.inr := by
  rw [List.map_map, List.map_map]
  rfl
theorem pk_mem {ps : List (PySem.Str × Addr)} {l : PySem.Str} : (Sum.inr l : Ky) ∈ (ps.map pk).map (·.1) ↔ l ∈ ps.map (·.1) := by
  rw [pk_keys, List.mem_map]
  exact ⟨fun ⟨a, ha, e⟩ => by rw [← Sum.inr.inj e]; exact ha, fun h => ⟨l, h, rfl⟩⟩
theorem pk_nodup {ps : List (PySem.Str × Addr)} (h : (ps.map (·.1)).Nodup) : ((ps.map pk).map (·.1)).Nodup := by
  rw [pk_keys]
  exact List.pairwise_map.mpr (h.imp fun n e => n (Sum.inr.inj e))
theorem MvInv.put {H H' : Hp} {D q : Addr} {ps : List (PySem.Str × Addr)} {l : PySem.Str} (h : MvInv H H' D ps fun _ => []) (hl : l ∉ ps.map (·.1)) (hq : H' q = none) :
    MvInv H (upd (upd H' q (.lst [])) D (.dK (putK (ps.map pk) (.inr l) (.ref q)))) D (ps ++ [(l, q)]) fun _ => [] := by
  have nqD : q ≠ D := fun z => by
    rw [z, h.d] at hq
    cases hq
  refine ⟨?_, ?_, ?_, same_mut (h.same.trans (same_new hq)) h.hD, h.hD⟩
  · rw [putK_new (fun c => hl (pk_mem.mp c)), List.map_append]
    exact upd_same
  · rw [List.map_append, List.nodup_append]
    refine ⟨h.nd, by simp, fun a ha b hb e => ?_⟩
    obtain ⟨p, hp, rfl⟩ := List.mem_map.mp ha
    rw [List.map_cons, List.map_nil, List.mem_singleton] at hb
    obtain ⟨_, _, us, e1, _⟩ := h.each p hp
    rw [e, hb] at e1
    rw [hq] at e1
    cases e1
  · intro p hp
    rcases List.mem_append.mp hp with hp | hp
    · obtain ⟨a, b, us, e1, e2⟩ := h.each p hp
      refine ⟨a, b, us, ?_, ?_⟩
      · rw [upd_ne b, upd_ne (ne_of_none e1 hq)]
        exact e1
      · cases e2
        exact .nil
    · rw [List.mem_singleton.mp hp]
      exact ⟨h.same.free hq, nqD, [], (upd_ne nqD).trans upd_same, .nil⟩
theorem MvInv.add {H H' : Hp} {D q t : Addr} {ps : List (PySem.Str × Addr)} {l : PySem.Str} {c : PySem.Str → List Mv} {us : List V} {m : Mv} (h : MvInv H H' D ps c) (hk : (ps.map (·.1)).Nodup) (hp : (l, q) ∈ ps) (hq : H' q = some (.lst us)) (hus : MvS H' us (c l)) (ht : H' t = none) :
    MvInv H (upd (upd H' t (.tup (mvV m))) q (.lst (us ++ [.ref t]))) D ps fun l' => if l' = l then c l ++ [m] else c l' := by
  obtain ⟨a, b, _⟩ := h.each _ hp
  have a : H q = none := a
  have b : q ≠ D := b
  have s1 : Same H' (upd H' t (.tup (mvV m))) := same_new ht
  have ntq : t ≠ q := fun z => by
    rw [z, hq] at ht
    cases ht
  have ext : ∀ {vs : List V} {mv : List Mv}, MvS H' vs mv → MvS (upd (upd H' t (.tup (mvV m))) q (.lst (us ++ [.ref t]))) vs mv := fun h => Paired.mapP h fun v x ⟨p, ev, e⟩ => ⟨p, ev, (upd_ne (ne_of e hq (by intro z; cases z))).trans (s1 _ _ e)⟩
  refine ⟨(upd_ne b.symm).trans (s1 _ _ h.d), h.nd, ?_, same_mut (h.same.trans s1) a, h.hD⟩
  intro p hp'
  obtain ⟨a', b', vs, e1, e2⟩ := h.each p hp'
  refine ⟨a', b', ?_⟩
  by_cases e : p.1 = l
  · have ep : p = (l, q) := by
      have inj : ∀ (qs : List (PySem.Str × Addr)), (qs.map (·.1)).Nodup → ∀ x ∈ qs, ∀ y ∈ qs, x.1 = y.1 → x = y := by
        intro qs
        induction qs with
        | nil => intro _ x hx; cases hx
        | cons z qs ih =>
          intro n x hx y hy e
          rw [List.map_cons] at n
          obtain ⟨n1, n2⟩ := List.nodup_cons.mp n
          rcases List.mem_cons.mp hx with hx | hx <;> rcases List.mem_cons.mp hy with hy | hy
          · rw [hx, hy]
          · exact absurd (List.mem_map.mpr ⟨y, hy, by rw [← e, hx]⟩) n1
          · exact absurd (List.mem_map.mpr ⟨x, hx, by rw [e, hy]⟩) n1
          · exact ih n2 x hx y hy e
      exact inj ps hk p hp' _ hp e
    subst ep
    refine ⟨us ++ [.ref t], upd_same, ?_⟩
    simp only [if_true]
    exact paired_snoc (ext hus) ⟨t, rfl, (upd_ne ntq).trans upd_same⟩
  · simp only [if_neg e]
    have npq : p.2 ≠ q := fun z => by
      have inj : ∀ (qs : List (PySem.Str × Addr)), (qs.map (·.2)).Nodup → ∀ x ∈ qs, ∀ y ∈ qs, x.2 = y.2 → x = y := by
        intro qs
        induction qs with
        | nil => intro _ x hx; cases hx
        | cons z qs ih =>
          intro n x hx y hy e
          rw [List.map_cons] at n
          obtain ⟨n1, n2⟩ := List.nodup_cons.mp n
          rcases List.mem_cons.mp hx with hx | hx <;> rcases List.mem_cons.mp hy with hy | hy
          · rw [hx, hy]
          · exact absurd (List.mem_map.mpr ⟨y, hy, by rw [← e, hx]⟩) n1
          · exact absurd (List.mem_map.mpr ⟨x, hx, by rw [e, hy]⟩) n1
          · exact ih n2 x hx y hy e
      have q1 := inj ps h.nd p hp' _ hp z
      exact e (by rw [q1])
    refine ⟨vs, ?_, ext e2⟩
    rw [upd_ne npq]
    exact s1 _ _ e1
theorem MvInv.val {H H' : Hp} {D : Addr} {ps : List (PySem.Str × Addr)} {c : PySem.Str → List Mv} (h : MvInv H H' D ps c) (hk : (ps.map (·.1)).Nodup) {l : PySem.Str} (hl : l ∈ ps.map (·.1)) :
    ∃ q us, (l, q) ∈ ps ∧ valV (ps.map pk) (.inr l) = some (.ref q) ∧ H' q = some (.lst us) ∧ MvS H' us (c l) := by
  obtain ⟨p, hp, rfl⟩ := List.mem_map.mp hl
  obtain ⟨_, _, us, e1, e2⟩ := h.each p hp
  exact ⟨p.2, us, hp, valV_mem (pk_nodup hk) (List.mem_map.mpr ⟨p, hp, rfl⟩), e1, e2⟩
end Bz
namespace Bz
open PySem PySem.Spec PyProof.Rows L2
/-! ### a law's own helpers -/
theorem shaped_nil : SeqAt.shaped (.list []) = true := by decide +kernel
theorem shaped_of2 {ds : List PyData} (h : ∀ d ∈ ds, d.canLay0 = true ∧ d.depth ≤ 1) (b : Bool) : SeqAt.shaped (if b then .list ds else .tuple ds) = true := by
  have q : PyData.canLayAll0 ds = true ∧ PyData.depthAll ds ≤ 1 := by
    induction ds with
    | nil => exact ⟨by simp only [PyData.canLayAll0], by simp only [PyData.depthAll]; omega⟩
    | cons d ds ih =>
      obtain ⟨h1, h2⟩ := h d (List.mem_cons_self ..)
      obtain ⟨h3, h4⟩ := ih fun z hz => h z (List.mem_cons_of_mem _ hz)
      simp only [PyData.canLayAll0, PyData.depthAll, h1, h3]
      exact ⟨rfl, by omega⟩
  unfold SeqAt.shaped
  cases b
  · simp only [Bool.false_eq_true, if_false, PyData.canLay0, PyData.depth, q.1, Bool.true_and, decide_eq_true_eq]
    omega
  · simp only [if_true, PyData.canLay0, PyData.depth, q.1, Bool.true_and, decide_eq_true_eq]
    omega
theorem shaped_ints (xs : List Int) : SeqAt.shaped (.list (xs.map PyData.int)) = true := by
  refine shaped_of2 (b := true) fun d hd => ?_
  obtain ⟨x, hx, rfl⟩ := List.mem_map.mp hd
  exact ⟨by simp only [PyData.canLay0], by simp only [PyData.depth]; omega⟩
theorem eqv_nil (ds : List PyData) : PyData.eqv (.list ds) (.list []) = ds.isEmpty := by
  cases ds <;> simp [PyData.eqv, PyData.eqvAll]
/-- at m what a law made: arrows, starts, ends -/
structure MadeL (K : PySem.W.Frag) (H : Hp) (m a b e : Addr) (us : List V) (xs : List Arw) (ss es : List PySem.Str) : Prop where
  m : H m = some (.tup [.ref a, .ref b, .ref e])
  a : SqL K H a us
  as : ArS H us xs
  b : SqL K H b (ss.map V.str)
  e : SqL K H e (es.map V.str)
theorem MadeL.same {K : PySem.W.Frag} {H H' : Hp} {m a b e : Addr} {us : List V} {xs : List Arw} {ss es : List PySem.Str} (h : MadeL K H m a b e us xs ss es) (s : Same H H') : MadeL K H' m a b e us xs ss es :=
  ⟨s _ _ h.m, s.seq h.a, h.as.same s, s.seq h.b, s.seq h.e⟩
theorem rising_pw : ∀ (r : List PySem.Str) (p : PySem.Str), risingS p r = true → (p :: r).Pairwise fun a b => ¬ b.cps.toList < a.cps.toList
  | [], p, _ => List.pairwise_singleton ..
  | x :: r, p, h => by
    have h' : (!ltCps x.cps.toList p.cps.toList && risingS x r) = true := h
    rw [ltCps_eq, Bool.and_eq_true, Bool.not_eq_true', decide_eq_false_iff_not] at h'
    have ih := rising_pw r x h'.2
    refine List.pairwise_cons.mpr ⟨fun y hy => ?_, ih⟩
    rcases List.mem_cons.mp hy with rfl | hy
    · exact h'.1
    · have q := (List.pairwise_cons.mp ih).1 y hy
      exact List.not_lt.mpr (List.le_trans (List.not_lt.mp h'.1) (List.not_lt.mp q))
theorem sortedS_pw {l : List PySem.Str} (h : sortedS l = true) : l.Pairwise fun a b => ¬ b.cps.toList < a.cps.toList := by
  cases l with
  | nil => exact .nil
  | cons x r => exact rising_pw r x h
theorem asc_step {ys : List PySem.Str} {i : Nat} {u z : PySem.Str} (h : sortedS ys = true) (hu : ys[i]? = some u) (hz : z ∈ ys.take i) (ne : z ≠ u) : z.cps.toList < u.cps.toList := by
  have q := (sortedS_pw h).sublist (List.take_sublist (i + 1) ys)
  have tk : ys.take (i + 1) = ys.take i ++ [u] := by rw [List.take_add_one, hu]; rfl
  rw [tk] at q
  have r := (List.pairwise_append.mp q).2.2 z hz u (List.mem_singleton.mpr rfl)
  exact Classical.byContradiction fun c => ne (ext_tl (List.le_antisymm (List.not_lt.mp r) (List.not_lt.mp c)))
theorem asc_snoc {os : List PySem.Str} {u : PySem.Str} (h : Asc os) (c : ∀ z ∈ os, z.cps.toList < u.cps.toList) : Asc (os ++ [u]) := by
  refine List.pairwise_append.mpr ⟨h, List.pairwise_singleton .., fun a ha b hb => ?_⟩
  rw [List.mem_singleton.mp hb]
  exact c a ha
def spUnlike (K : PySem.W.Frag) : Sp := fun vs H Q _ => ∃ (a : Addr) (ns : List PySem.Str), vs = [.ref a] ∧ SqL K H a (ns.map V.str) ∧ ns.length < 64 ∧
  ∀ (q : Addr) (os : List PySem.Str) (H' : Hp), H q = none → H' q = some (.lst (os.map V.str)) → (∀ k, k ∈ os ↔ k ∈ ns) → (os.length ≤ ns.length ∧ Asc os) → Same H H' → Q (.ref q) H'
end Bz
namespace Bz
open PySem PySem.Spec PyProof.Rows L2
theorem asc_nodup {os : List PySem.Str} (h : Asc os) : os.Nodup := h.imp fun {x y} q e => by
  rw [e] at q
  exact List.lt_irrefl _ q
theorem cheap_nodup {xs ys : List Arw} (h : CheapOf xs ys) : ys.Nodup := h.asc.imp fun {x y} q e => by
  rw [e, lexK_irr] at q
  cases q
theorem sgAll_app {a b : PySem.Str} (ha : ∀ c ∈ TL.tl a, Sg c) (hb : ∀ c ∈ TL.tl b, Sg c) : ∀ c ∈ TL.tl (a ++ b), Sg c := by
  intro c hc
  rw [TL.tl_append] at hc
  exact (List.mem_append.mp hc).elim (ha c) (hb c)
theorem len_app (a b : PySem.Str) : (a ++ b).length = a.length + b.length := by rw [len_tl, TL.tl_append, List.length_append, ← len_tl, ← len_tl]
theorem abcd_lt : ∀ l ∈ (["a", "b", "c", "d"] : List PySem.Str), Lt l := by
  have q : ((["a", "b", "c", "d"] : List PySem.Str).all fun l => ltB l) = true := by decide +kernel
  intro l hl
  have z := List.all_eq_true.mp q l hl
  unfold ltB onlyB at z
  simp only [Bool.and_eq_true, decide_eq_true_eq, List.all_eq_true] at z
  exact ⟨z.1, fun c hc => z.2.2 c hc⟩
theorem ok_of {xs : List Arw} {ss es : List PySem.Str} {m n : Int} (h : MOk xs ss es m n) : ∀ x ∈ xs, x.Ok := by
  obtain ⟨ns, h1, _, _, h2, _⟩ := h.nms
  intro x hx
  have c := h.cost x hx
  exact ⟨h1 _ (h2 x hx).1, abcd_lt _ (h.lets x hx), h1 _ (h2 x hx).2, c.1, by omega⟩
def spLaw (K : PySem.W.Frag) : Sp := fun vs H Q _ => ∃ (a : Addr) (ns : List Int), vs = [.ref a] ∧ SqL K H a (ns.map V.int) ∧ ∀ H', Q (.bl true) H'
end Bz
namespace Bz
open PySem PySem.Spec PyProof.Rows L2
/-! ### a text backwards, a list backwards -/
def revS (z : PySem.Str) : PySem.Str := ⟨z.cps.toList.reverse.toArray⟩
theorem revS_len (z : PySem.Str) : (revS z).length = z.length := by
  rw [len_tl, len_tl]
  show z.cps.toList.reverse.toArray.toList.length = z.cps.toList.length
  simp
theorem sgnL_revS (z : PySem.Str) : sgnL (revS z) = (sgnL z).reverse := by
  unfold sgnL revS
  rw [← List.map_reverse]
theorem picked_back (z : PySem.Str) : ((Builtin.Str.strSliceIndices none none (-1) z.length).filterMap (z.cps[·]?)).toArray = z.cps.toList.reverse.toArray := by
  rw [picked_rev]
  show (((List.range z.cps.size).map fun k => z.cps.size - 1 - k).filterMap (z.cps[·]?)).toArray = _
  rw [PySem.W.krv_range, List.filterMap_reverse, PySem.W.krv_all]
def tRevS (te : TE) : TE := fun σ H Q => te σ H fun x H1 => ∃ z : PySem.Str, x = .str z ∧ z.length ≤ sizeLine ∧ Q (.str (revS z)) H1
section
variable {X : Cx}
theorem pe_revS {e : Expr} {te : TE} {k : Nat} {p1 p2 p3 pos : Pos} (he : PE X e te) : PE X (.Subscript e (.Slice none none (some (.UnaryOp .USub (.Constant (.int 1) k p1) p2)) p3) pos) (tRevS te) := by
  refine ⟨fun pins s σ H Q I h => ?_⟩
  refine Subscript_ (thn (he.run pins s σ H _ I h) fun v s1 ⟨x, H1, I1, r1, z, ex, hz, q⟩ => ?_)
  subst ex
  obtain ⟨t, rfl⟩ := r1
  have hst : PO X (some (.UnaryOp .USub (.Constant (.int 1) k p1) p2)) (tPart (tUn (rU fun i => .int (-i)) (tC (.int 1)))) := po_some (pe_un un_neg pe_int)
  refine wpAny_Slice (thn (po_none.run pins s1 σ H1 (fun o H2 => o = none ∧ H2 = H1) I1 ⟨rfl, rfl⟩) fun v1 s2 ⟨l, H2, I2, pl, a1, a2⟩ => ?_)
  subst a1 a2
  refine thn (po_none.run pins s2 σ H2 (fun o H3 => o = none ∧ H3 = H2) I2 ⟨rfl, rfl⟩) fun v2 s3 ⟨u, H3, I3, pu, b1, b2⟩ => ?_
  subst b1 b2
  refine thn (hst.run pins s3 σ H3 (fun o H4 => o = some (-1) ∧ H4 = H3) I3 ⟨1, rfl, -1, rfl, rfl, rfl⟩) fun v3 s4 ⟨o, H4, I4, ps, c1, c2⟩ => ?_
  subst c1 c2
  have I5 : Inv X pins σ H4 { s4 with heap := s4.heap.push { cls := .type "slice", data := .fields #[v1, v2, v3] } } := I4.kept (t' := s4.toks) fun b ob q => Heap.get?_push_of_some _ q
  obtain ⟨l1, e1, f1⟩ := IsPart.raw pl
  obtain ⟨l2, e2, f2⟩ := IsPart.raw pu
  obtain ⟨l3, e3, f3⟩ := IsPart.raw ps
  subst e1 e2 e3
  have g1 : l1 = none := by
    cases l1 with
    | none => rfl
    | some x => cases f1
  have g2 : l2 = none := by
    cases l2 with
    | none => rfl
    | some x => cases f2
  obtain ⟨w, g3⟩ : ∃ w : Tok, l3 = some (-1, w) := by
    cases l3 with
    | none => cases f3
    | some x =>
      obtain ⟨i, w⟩ := x
      have : i = -1 := Option.some.inj f3
      subst this
      exact ⟨w, rfl⟩
  subst g1 g2 g3
  show wpAny (model X.prog X.w) X.A (subscriptTail e (.Slice none none (some (.UnaryOp .USub (.Constant (.int 1) k p1) p2)) p3) (.str z t) (.ref s4.heap.objs.size)) (EP X pins σ Q) X.xe _
  refine tail_any (ops := [.str z t, .ref s4.heap.objs.size]) (typeIs_str _ _ _) (PySem.F.slot_str_getitem.lookup) ?_ (by with_unfolding_all rfl)
  refine wpAny_getItem_str_slice (l := none) (u := none) (st := some (-1, w)) ⟨_, Heap.get?_push_size _ rfl, rfl, rfl⟩ rfl ?_
  show Made.post (if ((-1 : Int) == 1 && (Builtin.Str.strSliceIndices none none (-1) z.length).length == z.length) = true then Made.val (.str z t)
    else Made.str ⟨((Builtin.Str.strSliceIndices none none (-1) z.length).filterMap (z.cps[·]?)).toArray⟩) (EP X pins σ Q) _
  rw [if_neg (by simp), picked_back]
  exact ⟨by rw [show (⟨z.cps.toList.reverse.toArray⟩ : PySem.Str).length = z.length from revS_len z]; exact hz, .str (revS z), H4, I5.tok _, ⟨_, rfl⟩, q⟩
theorem kpe_revL (K : PySem.W.Frag) {e : Expr} {te : TE} {k : Nat} {p1 p2 p3 pos : Pos} (he : PE X e te) (h : X.K = K := by rfl) : PE X (.Subscript e (.Slice none none (some (.UnaryOp .USub (.Constant (.int 1) k p1) p2)) p3) pos) (L2.tRevL K te) := by
  subst h
  exact L2.pe_revL he
end
end Bz
namespace Bz
open PySem PySem.Spec PyProof.Rows L2
/-! ### min of a list of tuples of an int and a text -/
end Bz
namespace Bz
open PySem PySem.Spec PyProof.Rows L2
/-! ### enumerate(text) -/
end Bz
namespace Bz
open PySem PySem.Spec PyProof.Rows L2
/-! ### prices of what comes behind -/
def swapA (x : Arw) : Arw := ⟨x.t, x.l, x.s, x.c⟩
abbrev swapM (m : Mv) : Mv := (m.2.1, m.1, m.2.2)
theorem swap_moves (xs : List Arw) (l : PySem.Str) : (((xs.filter fun x => decide (x.l = l)).map mvOf).map swapM) = ((xs.map swapA).filter fun x => decide (x.l = l)).map mvOf := by
  rw [List.filter_map, List.map_map, List.map_map]
  rfl
end Bz
namespace Bz
open PySem PySem.Spec PyProof.Rows L2
/-! ### the next state of a best run -/
end Bz
namespace Bz
open PySem PySem.Spec PyProof.Rows L2
/-! ### runs, read from their first letter on -/
def RunS (xs : List Arw) : List PySem.Str → PySem.Str → PySem.Str → Int → Prop
  | [], a, b, n => a = b ∧ n = 0
  | l :: ls, a, b, n => ∃ x ∈ xs, x.s = a ∧ x.l = l ∧ ∃ m, RunS xs ls x.t b m ∧ n = x.c + m
theorem run_snoc {xs : List Arw} {l : PySem.Str} : ∀ (ls : List PySem.Str) (a b : PySem.Str) (n : Int), RunS xs (ls ++ [l]) a b n ↔ ∃ x ∈ xs, x.l = l ∧ x.t = b ∧ ∃ m, RunS xs ls a x.s m ∧ n = m + x.c
  | [], a, b, n => by
    simp only [List.nil_append, RunS]
    constructor
    · rintro ⟨x, hx, rfl, rfl, m, ⟨rfl, rfl⟩, rfl⟩
      exact ⟨x, hx, rfl, rfl, 0, ⟨rfl, rfl⟩, by omega⟩
    · rintro ⟨x, hx, rfl, rfl, m, ⟨rfl, rfl⟩, rfl⟩
      exact ⟨x, hx, rfl, rfl, 0, ⟨rfl, rfl⟩, by omega⟩
  | k :: ls, a, b, n => by
    simp only [List.cons_append, RunS]
    constructor
    · rintro ⟨x, hx, rfl, rfl, m, h, rfl⟩
      obtain ⟨y, hy, e1, e2, m', h', rfl⟩ := (run_snoc ls _ _ _).mp h
      exact ⟨y, hy, e1, e2, x.c + m', ⟨x, hx, rfl, rfl, m', h', rfl⟩, by omega⟩
    · rintro ⟨y, hy, e1, e2, m, ⟨x, hx, rfl, rfl, m', h', rfl⟩, rfl⟩
      exact ⟨x, hx, rfl, rfl, m' + y.c, (run_snoc ls _ _ _).mpr ⟨y, hy, e1, e2, m', h', rfl⟩, by omega⟩
theorem rch_run {xs : List Arw} {ss : List PySem.Str} : ∀ (k : Nat) (ls : List PySem.Str) (q : PySem.Str) (n : Int), ls.length = k → (Rch xs ss ls q n ↔ ∃ a ∈ ss, RunS xs ls a q n)
  | 0, ls, q, n, e => by
    obtain rfl : ls = [] := List.length_eq_zero_iff.mp e
    rw [reach_nil]
    exact ⟨fun ⟨h, e⟩ => ⟨q, h, rfl, e⟩, fun ⟨a, h, e, z⟩ => ⟨by rw [← e]; exact h, z⟩⟩
  | k + 1, ls, q, n, e => by
    have ne : ls ≠ [] := by
      rintro rfl
      cases e
    obtain ⟨r, l, rfl⟩ : ∃ r l, ls = r ++ [l] := ⟨ls.dropLast, ls.getLast ne, (List.dropLast_concat_getLast ne).symm⟩
    rw [List.length_append, List.length_singleton] at e
    have ih := fun q n => rch_run (xs := xs) (ss := ss) k r q n (by omega)
    rw [reach_step]
    constructor
    · rintro ⟨x, hx, a, b, m, c, d⟩
      obtain ⟨s, hs, h⟩ := (ih _ _).mp c
      exact ⟨s, hs, (run_snoc _ _ _ _).mpr ⟨x, hx, a, b, m, h, d⟩⟩
    · rintro ⟨s, hs, h⟩
      obtain ⟨x, hx, a, b, m, c, d⟩ := (run_snoc _ _ _ _).mp h
      exact ⟨x, hx, a, b, m, (ih _ _).mpr ⟨s, hs, c⟩, d⟩
theorem run_rev {xs : List Arw} : ∀ (ls : List PySem.Str) (a b : PySem.Str) (n : Int), RunS xs ls a b n ↔ RunS (xs.map swapA) ls.reverse b a n
  | [], a, b, n => by
    simp only [List.reverse_nil, RunS]
    exact ⟨fun ⟨h, e⟩ => ⟨h.symm, e⟩, fun ⟨h, e⟩ => ⟨h.symm, e⟩⟩
  | l :: ls, a, b, n => by
    rw [List.reverse_cons, run_snoc]
    simp only [RunS]
    constructor
    · rintro ⟨x, hx, rfl, rfl, m, h, rfl⟩
      exact ⟨swapA x, List.mem_map.mpr ⟨x, hx, rfl⟩, rfl, rfl, m, (run_rev ls _ _ _).mp h, by show x.c + m = m + x.c; omega⟩
    · rintro ⟨y, hy, e1, e2, m, h, rfl⟩
      obtain ⟨x, hx, rfl⟩ := List.mem_map.mp hy
      exact ⟨x, hx, e2, e1, m, (run_rev ls _ _ _).mpr h, by show m + x.c = x.c + m; omega⟩
theorem run_sub {xs ys : List Arw} (s : ∀ x ∈ xs, x ∈ ys) : ∀ (ls : List PySem.Str) (a b : PySem.Str) (n : Int), RunS xs ls a b n → RunS ys ls a b n
  | [], _, _, _, h => h
  | l :: ls, a, b, n, h => by
    obtain ⟨x, hx, e1, e2, m, h, e⟩ := h
    exact ⟨x, s x hx, e1, e2, m, run_sub s ls _ _ _ h, e⟩
theorem run_cheap {xs ys : List Arw} (c : CheapOf xs ys) : ∀ (ls : List PySem.Str) (a b : PySem.Str) (n : Int), RunS xs ls a b n → ∃ m, m ≤ n ∧ RunS ys ls a b m
  | [], _, _, n, h => ⟨n, Int.le_refl _, h⟩
  | l :: ls, a, b, n, h => by
    obtain ⟨x, hx, e1, e2, m, h, e⟩ := h
    obtain ⟨k, hk, hr⟩ := run_cheap c ls _ _ _ h
    obtain ⟨y, hy, ek⟩ := c.all x hx
    obtain ⟨f1, f2, f3⟩ := Arw.k3_eq ek
    have := (c.sub y hy).2 x hx ek.symm
    exact ⟨y.c + k, by omega, y, hy, f1.trans e1, f2.trans e2, k, by rw [f3]; exact hr, rfl⟩
/-- a least of two that reach below each other -/
theorem LeastO.both {P R : Int → Prop} (h1 : ∀ n, P n → ∃ m, m ≤ n ∧ R m) (h2 : ∀ n, R n → ∃ m, m ≤ n ∧ P m) {o : Option Int} (k : LeastO P o) : LeastO R o := by
  cases o with
  | none =>
    intro n hn
    obtain ⟨m, _, hm⟩ := h2 n hn
    exact k m hm
  | some z =>
    obtain ⟨k1, k2⟩ := k
    obtain ⟨m, hm, rm⟩ := h1 z k1
    obtain ⟨j, hj, pj⟩ := h2 m rm
    have := k2 j pj
    have e : m = z := by omega
    subst e
    refine ⟨rm, fun n hn => ?_⟩
    obtain ⟨i, hi, pi⟩ := h2 n hn
    have := k2 i pi
    omega
/-- the price of the letters ls with these arrows, starts and ends -/
def LPr (xs : List Arw) (ss es ls : List PySem.Str) (o : Option Int) : Prop := LeastO (fun n => ∃ s ∈ ss, ∃ e ∈ es, RunS xs ls s e n) o
theorem LPr.uniq {xs : List Arw} {ss es ls : List PySem.Str} {a b : Option Int} (ha : LPr xs ss es ls a) (hb : LPr xs ss es ls b) : a = b := LeastO.uniq ha hb
theorem LPr.cheap {xs ys : List Arw} {ss es ts gs ls : List PySem.Str} (c : CheapOf xs ys) (hs : ∀ k, k ∈ ts ↔ k ∈ ss) (he : ∀ k, k ∈ gs ↔ k ∈ es) {o : Option Int} : LPr ys ts gs ls o ↔ LPr xs ss es ls o := by
  have up : ∀ n, (∃ s ∈ ts, ∃ e ∈ gs, RunS ys ls s e n) → ∃ m, m ≤ n ∧ ∃ s ∈ ss, ∃ e ∈ es, RunS xs ls s e m := fun n ⟨s, h1, e, h2, r⟩ =>
    ⟨n, Int.le_refl _, s, (hs s).mp h1, e, (he e).mp h2, run_sub (fun y hy => (c.sub y hy).1) _ _ _ _ r⟩
  have dn : ∀ n, (∃ s ∈ ss, ∃ e ∈ es, RunS xs ls s e n) → ∃ m, m ≤ n ∧ ∃ s ∈ ts, ∃ e ∈ gs, RunS ys ls s e m := fun n ⟨s, h1, e, h2, r⟩ => by
    obtain ⟨m, hm, r'⟩ := run_cheap c _ _ _ _ r
    exact ⟨m, hm, s, (hs s).mpr h1, e, (he e).mpr h2, r'⟩
  exact ⟨LeastO.both up dn, LeastO.both dn up⟩
theorem LPr.turn {xs : List Arw} {ss es ls : List PySem.Str} {o : Option Int} : LPr (xs.map swapA) es ss ls.reverse o ↔ LPr xs ss es ls o := by
  have h : ∀ n, (∃ s ∈ es, ∃ e ∈ ss, RunS (xs.map swapA) ls.reverse s e n) ↔ (∃ s ∈ ss, ∃ e ∈ es, RunS xs ls s e n) := fun n =>
    ⟨fun ⟨s, h1, e, h2, r⟩ => ⟨e, h2, s, h1, (run_rev _ _ _ _).mpr r⟩, fun ⟨s, h1, e, h2, r⟩ => ⟨e, h2, s, h1, (run_rev _ _ _ _).mp r⟩⟩
  exact ⟨LeastO.iff h, LeastO.iff fun n => (h n).symm⟩
theorem LPr.of_rch {xs : List Arw} {ss es ls : List PySem.Str} {o : Option Int} : LeastO (fun n => ∃ e ∈ es, Rch xs ss ls e n) o ↔ LPr xs ss es ls o := by
  have h : ∀ n, (∃ e ∈ es, Rch xs ss ls e n) ↔ (∃ s ∈ ss, ∃ e ∈ es, RunS xs ls s e n) := fun n =>
    ⟨fun ⟨e, h1, r⟩ => by
      obtain ⟨s, hs, r⟩ := (rch_run _ _ _ _ rfl).mp r
      exact ⟨s, hs, e, h1, r⟩, fun ⟨s, h1, e, h2, r⟩ => ⟨e, h2, (rch_run _ _ _ _ rfl).mpr ⟨s, h1, r⟩⟩⟩
  exact ⟨LeastO.iff h, LeastO.iff fun n => (h n).symm⟩
/-- the price that a machine has is that of what it was made of -/
theorem MOf.price {M : MachV} {xs : List Arw} {ss es ls : List PySem.Str} (h : MOf M xs ss es) {o : Option Int} (k : LeastO (fun n => ∃ e ∈ M.ens, Rch M.ars M.sts ls e n) o) : LPr xs ss es ls o :=
  (LPr.cheap h.ars h.sts.2 h.ens.2).mp (LPr.of_rch.mp k)
theorem MOf.turned {M N : MachV} {ls : List PySem.Str} (h : MOf N (M.ars.map swapA) M.ens M.sts) {o : Option Int} (k : LeastO (fun n => ∃ e ∈ N.ens, Rch N.ars N.sts ls.reverse e n) o) : LPr M.ars M.sts M.ens ls o := LPr.turn.mp (h.price k)
/-! ### a machine that machines can be made of -/
structure MFine (M : MachV) : Prop extends MGood M where
  ok : ∀ x ∈ M.ars, x.Ok
  l4 : M.ars.length ≤ 400
  nm : ∀ s ∈ M.sta, Nm s
  nl : M.sta.length ≤ 40
  st : ∀ s ∈ M.sts, s ∈ M.sta
  en : ∀ s ∈ M.ens, s ∈ M.sta
  ar : ∀ x ∈ M.ars, x.s ∈ M.sta ∧ x.t ∈ M.sta
theorem fine_of {M : MachV} {xs : List Arw} {ss es ns : List PySem.Str} (h : MOf M xs ss es) (ok : ∀ x ∈ xs, x.Ok) (xl : xs.length ≤ 400) (nm : ∀ s ∈ ns, Nm s) (nl : ns.length ≤ 40) (hs : ∀ s ∈ ss, s ∈ ns) (he : ∀ s ∈ es, s ∈ ns) (ha : ∀ x ∈ xs, x.s ∈ ns ∧ x.t ∈ ns) : MFine M := by
  have sub : ∀ k ∈ M.sta, k ∈ ns := fun k hk => by
    rcases (h.sta.2 k).mp hk with h1 | h1 | ⟨x, hx, h1 | h1⟩
    · exact hs k h1
    · exact he k h1
    · rw [h1]
      exact (ha x (h.ars.sub x hx).1).1
    · rw [h1]
      exact (ha x (h.ars.sub x hx).1).2
  have al := nodup_le (cheap_nodup h.ars) fun y hy => (h.ars.sub y hy).1
  have sl := nodup_le (asc_nodup h.sta.1) sub
  have s1 := nodup_le (asc_nodup h.sts.1) (ts := ns) fun k hk => hs k ((h.sts.2 k).mp hk)
  have s2 := nodup_le (asc_nodup h.ens.1) (ts := ns) fun k hk => he k ((h.ens.2 k).mp hk)
  have ll := nodup_le (ts := M.ars.map Arw.l) (asc_nodup h.lets.1) fun k hk => by
    obtain ⟨x, hx, e⟩ := (h.lets.2 k).mp hk
    exact List.mem_map.mpr ⟨x, hx, e.symm⟩
  rw [List.length_map] at ll
  refine { toMGood := ⟨asc_nodup h.lets.1, fun x hx => (h.lets.2 x.l).mpr ⟨x, hx, rfl⟩, by omega, by omega, by omega, by omega⟩, ok := fun x hx => ok x (h.ars.sub x hx).1, l4 := by omega, nm := fun s hs => nm s (sub s hs), nl := by omega, st := ?_, en := ?_, ar := ?_ }
  · exact fun s hs => (h.sta.2 s).mpr (.inl ((h.sts.2 s).mp hs))
  · exact fun s hs => (h.sta.2 s).mpr (.inr (.inl ((h.ens.2 s).mp hs)))
  · exact fun x hx => ⟨(h.sta.2 _).mpr (.inr (.inr ⟨x, hx, .inl rfl⟩)), (h.sta.2 _).mpr (.inr (.inr ⟨x, hx, .inr rfl⟩))⟩
/-- arrows, none of them at D -/
def ArD (D : Addr) (H : Hp) (us : List V) (xs : List Arw) : Prop := Paired (fun v x => ∃ q, v = V.ref q ∧ q ≠ D ∧ H q = some (.tup x.vals)) us xs
theorem ArD.upd {D : Addr} {H : Hp} {us : List V} {xs : List Arw} {o : HO} (h : ArD D H us xs) : ArD D (L2.upd H D o) us xs := Paired.mapP h fun v p ⟨r, e, n, hr⟩ => ⟨r, e, n, (upd_ne n).trans hr⟩
theorem ArD.keep {D : Addr} {H H' : Hp} {us : List V} {xs : List Arw} (h : ArD D H us xs) (s : Same H H') : ArD D H' us xs := Paired.mapP h fun v p ⟨r, e, n, hr⟩ => ⟨r, e, n, s _ _ hr⟩
theorem ArD.snoc {D g : Addr} {H : Hp} {us : List V} {xs : List Arw} {x : Arw} (h : ArD D H us xs) (n : g ≠ D) (e : H g = some (.tup x.vals)) : ArD D H (us ++ [.ref g]) (xs ++ [x]) := paired_snoc h ⟨g, rfl, n, e⟩
theorem ArD.ars {D : Addr} {H : Hp} {us : List V} {xs : List Arw} (h : ArD D H us xs) : ArS H us xs := Paired.mapP h fun v p ⟨r, e, _, hr⟩ => ⟨r, e, hr⟩
/-! ### what a law's and the program's defs promise -/
def spBackward (K : PySem.W.Frag) : Sp := fun vs H Q _ => ∃ (a : Addr) (us : List V) (xs : List Arw), vs = [.ref a] ∧ SqE K H a us ∧ ArS H us xs ∧ xs.length ≤ 100000 ∧
  ∀ (q : Addr) (ws : List V) (H' : Hp), H q = none → H' q = some (.lst ws) → ArS H' ws (xs.map swapA) → Same H H' → Q (.ref q) H'
def spAheadL (K : PySem.W.Frag) : Sp := fun vs H Q _ => ∃ (a t : Addr) (us : List V) (xs : List Arw) (es : List PySem.Str) (row : PySem.Str), vs = [.ref a, .ref t, .str row] ∧ SqE K H a us ∧ ArS H us xs ∧ xs.length ≤ 1000 ∧ SqE K H t (es.map V.str) ∧ es.length ≤ 1000 ∧ row.length ≤ 5000 ∧
  ∀ (d : Addr) (kvs : List (Ky × V)) (f : PySem.Str → Option Int) (H' : Hp), H' d = some (.dK kvs) → Holds1 kvs f → (∀ q, LeastO (Rch (xs.map swapA) es (sgnL row).reverse q) (f q)) → Same H H' → Q (.ref d) H'
def spPriceL (K : PySem.W.Frag) : Sp := fun vs H Q _ => ∃ (m a b e : Addr) (us : List V) (xs : List Arw) (ss es : List PySem.Str) (row : PySem.Str), vs = [.ref m, .str row] ∧ MadeL K H m a b e us xs ss es ∧ xs.length ≤ 1000 ∧ ss.length ≤ 1000 ∧ es.length ≤ 1000 ∧ row.length ≤ 5000 ∧
  ∀ (o : Option Int) (H' : Hp), LPr xs ss es (sgnL row) o → Same H H' → Q (optV o) H'
def SgRow (n : Nat) (r : PySem.Str) : Prop := r.length ≤ n ∧ ∀ c ∈ TL.tl r, Sg c
def spRowL (K : PySem.W.Frag) : Sp := fun vs H Q _ => ∃ (p a : Addr) (ls : List PySem.Str) (n : Nat) (c : Nat), vs = [.ref p, .ref a, .int (n : Int)] ∧ Src H p c ∧ c ≤ 900000 ∧ SqL K H a (ls.map V.str) ∧ a ≠ p ∧ ls ≠ [] ∧ ls.length ≤ 1000 ∧ (∀ l ∈ ls, Lt l) ∧ n ≤ 10 ∧
  ∀ (r : PySem.Str) (H' : Hp), SgRow (3 * n) r → Go p (c + 40) H H' → Q (.str r) H'
def spWaves (K : PySem.W.Frag) : Sp := fun vs H Q _ => ∃ (p a : Addr) (ls : List PySem.Str) (n : Nat) (c : Nat), vs = [.ref p, .ref a, .int (n : Int)] ∧ Src H p c ∧ c ≤ 800000 ∧ SqL K H a (ls.map V.str) ∧ a ≠ p ∧ ls ≠ [] ∧ ls.length ≤ 1000 ∧ (∀ l ∈ ls, Lt l) ∧ 1 ≤ n ∧ n ≤ 4 ∧
  ∀ (r : PySem.Str) (H' : Hp), SgRow 120 r → Go p (c + 200) H H' → Q (.str r) H'
theorem tyX_new {K : PySem.W.Frag} {H H' : Hp} {t : Value} {x : V} (h : TyX K H x t) (e : Same H H') : TyX K H' x t := by
  cases h with
  | base h =>
    refine .base ?_
    cases h with
    | non => exact .non
    | bl x => exact .bl x
    | int i => exact .int i
    | str x => exact .str x
    | flt x => exact .flt x
    | lst h => exact .lst (e _ _ h)
    | frz h => exact .frz (e _ _ h)
    | tup h => exact .tup (e _ _ h)
    | dK h => exact .dK (e _ _ h)
    | dT h => exact .dT (e _ _ h)
    | ins h cl ha hn htk hm => exact .ins (e _ _ h) cl ha hn htk hm
  | byt b => exact .byt b
  | set h => exact .set (e _ _ h)
  | kList h c => exact .kList h c
  | kTuple h c => exact .kTuple h c
  | kDict h c => exact .kDict h c
  | fTuple h => exact .fTuple (e _ _ h)
  | fDict h => exact .fDict (e _ _ h)
/-- is it a list or a tuple? -/
def spIsList (K : PySem.W.Frag) : Sp := fun vs H Q _ => ∃ (v : V) (t : String), vs = [v] ∧ TyX K H v (.type t) ∧ t ∈ ["NoneType", "bool", "int", "str", "list", "tuple", "dict", "float", "set", "bytes"] ∧ ∀ H', Same H H' → Q (.bl (decide (t = "list") || decide (t = "tuple"))) H'
/-! ### a text some times over -/
def repS (z : PySem.Str) (n : Int) : PySem.Str := ⟨(List.replicate n.toNat z.cps).foldl (· ++ ·) #[]⟩
theorem fold_app (a : Array Nat) : ∀ (n : Nat) (b : Array Nat), ((List.replicate n a).foldl (· ++ ·) b).toList = b.toList ++ (List.replicate n a.toList).flatten
  | 0, b => by simp
  | n + 1, b => by
    rw [List.replicate_succ, List.foldl_cons, fold_app a n (b ++ a), List.replicate_succ, List.flatten_cons]
    simp
theorem repS_tl (z : PySem.Str) (n : Int) : TL.tl (repS z n) = (List.replicate n.toNat (TL.tl z)).flatten := by
  unfold TL.tl repS
  rw [fold_app]
  rfl
theorem repS_len (z : PySem.Str) (n : Int) : (repS z n).length = n.toNat * z.length := by
  rw [len_tl, repS_tl, List.length_flatten, List.map_replicate, List.sum_replicate_nat, ← len_tl]
theorem repS_sg {z : PySem.Str} {n : Int} (h : ∀ c ∈ TL.tl z, Sg c) : ∀ c ∈ TL.tl (repS z n), Sg c := by
  intro c hc
  rw [repS_tl] at hc
  obtain ⟨l, hl, hc⟩ := List.mem_flatten.mp hc
  rw [(List.mem_replicate.mp hl).2] at hc
  exact h c hc
theorem op_repTxt {X : Cx} : OpR X (binaryOp .Mult) (fun x y H Q => ∃ z n, x = .str z ∧ y = .int n ∧ 0 ≤ n ∧ n ≤ 1000000 ∧ z.length * n.toNat ≤ sizeLine ∧ Q (.str (repS z n)) H) := by
  intro pins s σ H x y v u Q I rx ry h
  obtain ⟨z, n, rfl, rfl, h0, h1, hz, q⟩ := h
  obtain ⟨t, rfl⟩ := rx
  obtain ⟨t', rfl⟩ := ry
  refine P.mul_str ?_ (fun hn _ => ?_) (fun _ _ => ?_) ?_
  · rw [decide_eq_false (by omega), decide_eq_false (by omega)]
    rfl
  · have e : sizeLine = 16777216 := by decide
    rw [e] at hz
    have hi : (z.length : Int) * n ≤ 16777216 := by
      have q : ((z.length * n.toNat : Nat) : Int) ≤ ((16777216 : Nat) : Int) := Int.ofNat_le.mpr hz
      rw [Int.natCast_mul, Int.toNat_of_nonneg h0] at q
      exact q
    have := (Int.le_ediv_iff_mul_le (a := (z.length : Int)) (b := 2 ^ 63 - 1) (c := n) (by omega)).mpr (by omega)
    omega
  · show decide (z.length * n.toNat > sizeLine) = false
    exact decide_eq_false (by omega)
  · have key : ∀ t2 : Tok, Q (.str (repS z n)) H := fun _ => q
    by_cases c1 : n < 1
    · rw [if_pos c1]
      refine ⟨by decide, .str (repS z n), H, I.tok _, ⟨s.toks, ?_⟩, q⟩
      have : n = 0 := by omega
      subst this
      rfl
    · rw [if_neg c1]
      by_cases c2 : (n == 1 || z.length == 0) = true
      · rw [if_pos c2]
        refine ⟨.str (repS z n), H, I, ⟨t, ?_⟩, q⟩
        have e : repS z n = z := by
          refine ext_tl ?_
          rw [repS_tl]
          simp only [Bool.or_eq_true, beq_iff_eq] at c2
          rcases c2 with rfl | c2
          · show (List.replicate 1 (TL.tl z)).flatten = _
            simp
          · have : TL.tl z = [] := List.length_eq_zero_iff.mp (by rw [← len_tl]; exact c2)
            rw [this]
            simp
        rw [e]
      · rw [if_neg c2]
        refine ⟨?_, .str (repS z n), H, I.tok _, ⟨s.toks, rfl⟩, q⟩
        show (repS z n).length ≤ sizeLine
        rw [repS_len, Nat.mul_comm]
        exact hz
/-! ### dict(..) of pairs -/
def rDictP (K : PySem.W.Frag) : List V → Hp → VK → Prop := fun xs H Q => ∃ (a : Addr) (ps : List Addr) (kvs : List (Ky × V)), xs = [.ref a] ∧ SqL K H a (ps.map V.ref) ∧ Paired (fun p kv => SqT K H p [kV kv.1, kv.2]) ps kvs ∧ ∀ p, H p = none → Q (.ref p) (upd H p (.dK (mergeK [] kvs)))
theorem kdictP (K : PySem.W.Frag) {X : Cx} (hc : X.calm = true) (h : X.K = K := by rfl) : CallR X (.type "dict") (rDictP K) := by subst h; exact call_dictP hc
theorem mergeK_snoc (kvs more : List (Ky × V)) (kv : Ky × V) : mergeK kvs (more ++ [kv]) = putK (mergeK kvs more) kv.1 kv.2 := by
  unfold mergeK
  rw [List.foldl_append]
  rfl
theorem holds_zero : ∀ (k : Nat) (es : List PySem.Str), es.length = k → Holds1 (mergeK [] (es.map fun e => ((.inr e : Ky), V.int 0))) (fun q => if q ∈ es then some 0 else none)
  | 0, es, e => by
    obtain rfl : es = [] := List.length_eq_zero_iff.mp e
    intro q
    simp [mergeK, valV]
  | k + 1, es, e => by
    have ne : es ≠ [] := by
      rintro rfl
      cases e
    obtain ⟨r, l, rfl⟩ : ∃ r l, es = r ++ [l] := ⟨es.dropLast, es.getLast ne, (List.dropLast_concat_getLast ne).symm⟩
    rw [List.length_append, List.length_singleton] at e
    have ih := holds_zero k r (by omega)
    intro q
    rw [List.map_append, List.map_singleton, mergeK_snoc, valV_put, ih q]
    by_cases c : q = l
    · subst c
      simp
    · rw [if_neg (fun z => c (Sum.inr.inj z))]
      simp [c]
theorem lpr_nil {xs : List Arw} {es : List PySem.Str} (q : PySem.Str) : LeastO (Rch xs es [] q) (if q ∈ es then some 0 else none) := by
  by_cases c : q ∈ es
  · rw [if_pos c]
    exact ⟨reach_nil.mpr ⟨c, rfl⟩, fun n hn => by rw [(reach_nil.mp hn).2]; exact Int.le_refl _⟩
  · rw [if_neg c]
    exact fun n hn => c (reach_nil.mp hn).1
theorem paired_zero {K : PySem.W.Frag} {D : Addr} {H : Hp} {ps : List Addr} {es : List PySem.Str} (h : Paired (fun p e => p ≠ D ∧ H p = some (.tup [.str e, .int 0])) ps es) : Paired (fun p (kv : Ky × V) => SqT K H p [kV kv.1, kv.2]) ps (es.map fun e => ((.inr e : Ky), V.int 0)) := by
  induction h with
  | nil => exact .nil
  | cons z _ ih => exact .cons (SqT.of z.2) ih
theorem sIx_min {n d k : Nat} : HT.sIx n d (some (k : Int)) = min k n := by
  unfold HT.sIx
  simp only
  split <;> omega
theorem tl_cutN (z : PySem.Str) (k : Nat) : TL.tl (cutS z none (some (k : Int))) = (TL.tl z).take k := by
  have e1 : HT.sIx z.length 0 none = 0 := rfl
  have e2 : HT.sIx z.length z.length (some (k : Int)) = min k z.length := sIx_min
  unfold cutS
  show (List.take (HT.sIx z.length z.length (some (k : Int)) - HT.sIx z.length 0 none) (List.drop (HT.sIx z.length 0 none) z.cps.toList)).toArray.toList = _
  rw [e1, e2]
  show List.take (min k z.length - 0) (List.drop 0 z.cps.toList) = List.take k z.cps.toList
  have el : z.length = z.cps.toList.length := len_tl z
  rw [List.drop_zero, Nat.sub_zero, el]
  by_cases c : k ≤ z.cps.toList.length
  · rw [Nat.min_eq_left c]
  · rw [Nat.min_eq_right (by omega), List.take_of_length_le (Nat.le_refl _), List.take_of_length_le (by omega)]
theorem SgRow.cut {z : PySem.Str} {n : Nat} (h : SgRow n z) (k : Nat) : SgRow k (cutS z none (some (k : Int))) := by
  refine ⟨?_, fun c hc => ?_⟩
  · rw [len_tl, tl_cutN, List.length_take]
    omega
  · rw [tl_cutN] at hc
    exact h.2 c (List.mem_of_mem_take hc)
theorem SgRow.app {a b : PySem.Str} {n m : Nat} (ha : SgRow n a) (hb : SgRow m b) : SgRow (n + m) (a ++ b) := ⟨by rw [len_app]; have := ha.1; have := hb.1; omega, sgAll_app ha.2 hb.2⟩
theorem SgRow.mono {a : PySem.Str} {n m : Nat} (ha : SgRow n a) (h : n ≤ m) : SgRow m a := ⟨Nat.le_trans ha.1 h, ha.2⟩
theorem SgRow.rep {a : PySem.Str} {n k : Nat} {i : Int} (ha : SgRow n a) (h : i.toNat ≤ k) : SgRow (k * n) (repS a i) := ⟨by rw [repS_len]; exact Nat.mul_le_mul h ha.1, repS_sg ha.2⟩
theorem SgRow.nil : SgRow 0 "" := ⟨by decide +kernel, fun c hc => by
  have z : TL.tl ("" : PySem.Str) = [] := by decide +kernel
  rw [z] at hc
  cases hc⟩
theorem SgRow.lt {l : PySem.Str} (h : Lt l) : SgRow 1 l := ⟨Nat.le_of_eq h.1, h.2⟩
def wvL (i : Nat) : Nat := if i = 0 then 6 else if i = 1 then 108 else 1740
end Bz
namespace Bz
open PySem PySem.Spec PyProof.Rows L2
/-! ### the best run: the first of those with the least sum -/
/-! ### all runs, as a law finds them -/
end Bz
namespace Bz
open PySem PySem.Spec PyProof.Rows L2
/-! ### as the program finds it -/
end Bz
namespace Bz
open PySem PySem.Spec PyProof.Rows L2
/-! ### runs on the heap: a tuple of states and their sum -/
theorem sgnL_app (a b : PySem.Str) : sgnL (a ++ b) = sgnL a ++ sgnL b := by
  have e : (a ++ b).cps.toList = a.cps.toList ++ b.cps.toList := TL.tl_append a b
  unfold sgnL
  rw [e, List.map_append]
theorem MadeL.ext {K : PySem.W.Frag} {H H' : Hp} {m a b e p : Addr} {c : Nat} {us : List V} {xs : List Arw} {ss es : List PySem.Str} (h : MadeL K H m a b e us xs ss es) (s : Src H p c) (n1 : a ≠ p) (n2 : b ≠ p) (n3 : e ≠ p) (x : Ext p H H') : MadeL K H' m a b e us xs ss es := by
  obtain ⟨g, s0, k, hp, _⟩ := s
  have nt : ∀ {q : Addr} {xs : List V}, H q = some (.tup xs) → H' q = some (.tup xs) := fun {q xs} hq => x _ _ (ne_of hq hp (by intro z; cases z)) hq
  exact ⟨nt h.m, x.sq n1 h.a, Paired.mapP h.as fun v y ⟨q, ev, hq⟩ => ⟨q, ev, nt hq⟩, x.sq n2 h.b, x.sq n3 h.e⟩
end Bz
namespace Bz
open PySem PySem.Spec PyProof.Rows L2
/-! ### prices put together -/
/-! a run's sum, letter by letter -/
/-! cut texts -/
/-! the first of the least -/
end Bz
namespace Bz
open PySem PySem.Spec PyProof.Rows L2
open AutoSeq1 (wpAny_loadPart')
/-! ### enumerate(tuple) -/
theorem new_enumTu (l : Addr) (ia : Array Value) (n : Nat) (dj : Option Addr) (sl : Array (Option Value)) :
    Meets (Builtin.«enumerate.__new__» ⟨[.type "enumerate", .ref l], []⟩) (fun _ R s => s.heap.get? l = some { cls := .type "tuple", dict := dj, data := .seq ia n, slots := sl } ∧
      R (.ok (.ret (.ref (s.heap.push { cls := .type "tuple_iterator", data := .fields #[.ref l, .int 0 0] }).objs.size)))
        { s with heap := (s.heap.push { cls := .type "tuple_iterator", data := .fields #[.ref l, .int 0 0] }).push { cls := .type "enumerate", data := .fields #[.none, .bool false, .ref s.heap.objs.size, rawInt 0, .none, .none] } }) :=
  .of_wp fun P w A R s h => by
    obtain ⟨p0, g, d, tk, os⟩ := s; obtain ⟨gl, h⟩ := h
    have gsub := sub_enumerate
    have gL : Heap.IsTuple (Shared.heap ⟨p0, g, d, tk, os⟩) l ia := ⟨_, gl, rfl, n, rfl⟩
    wp_walk using wpAny_loadPart' gl
    refine wpAny_stack_any fun st => wpAny_pure ?_
    split
    · rename_i c _ _ _ _ _
      cases (c == Value.type "enumerate")
      · wp_walk using wpAny_loadPart' gl, wpAny_pyIter_tuple gL
        exact ⟨_, rfl, h⟩
      · wp_walk using wpAny_loadPart' gl, wpAny_pyIter_tuple gL
        exact ⟨_, rfl, h⟩
    · wp_walk using wpAny_loadPart' gl, wpAny_pyIter_tuple gL
      exact ⟨_, rfl, h⟩
section
variable {P : Program} {w : World} {A : Around} {E : Value → Shared → Prop} {s : Shared}
theorem call_enumTu {l : Addr} {ia : Array Value} {Z : Value → Shared → Prop} (gL : s.heap.IsTuple l ia)  (h : ∀ h', IsEnum h' (s.heap.objs.size + 1) s.heap.objs.size 0 .none → h'.IsTupleIter s.heap.objs.size l 0 → h'.objs.size = s.heap.objs.size + 2 →
      (∀ b o, s.heap.get? b = some o → h'.get? b = some o) → Z (.ref (s.heap.objs.size + 1)) { s with heap := h' }) :
    wpAny (model P w) A (call (.type "enumerate") [.ref l]) Z E s := by
  obtain ⟨⟨c, dj, dt, sl⟩, gl, gc, n, gd⟩ := gL
  replace gc : c = .type "tuple" := gc
  replace gd : dt = .seq ia n := gd
  subst gc gd
  refine callType_new F.called_enumerate (by decide) (F.typeCall_enumerate_1 _) (F.newCall_enumerate_1 _) (fun ob => F.args_object_init_2 ob _) F.entry_enumerate_new
    (new_enumTu l ia n dj sl) ⟨gl, ?_⟩
  have gz : (s.heap.push { cls := .type "tuple_iterator", data := .fields #[.ref l, .int 0 0] }).objs.size = s.heap.objs.size + 1 := Heap.size_push ..
  show _ ∧ _
  rw [gz]
  have ge : IsEnum ((s.heap.push { cls := .type "tuple_iterator", data := .fields #[.ref l, .int 0 0] }).push
      { cls := .type "enumerate", data := .fields #[.none, .bool false, .ref s.heap.objs.size, rawInt 0, .none, .none] }) (s.heap.objs.size + 1) s.heap.objs.size 0 .none := by
    have := Heap.get?_push_size (s.heap.push { cls := .type "tuple_iterator", data := .fields #[.ref l, .int 0 0] })
      (o := { cls := .type "enumerate", data := .fields #[.none, .bool false, .ref s.heap.objs.size, rawInt 0, .none, .none] }) rfl
    rw [gz] at this; exact this
  refine ⟨⟨_, ge, rfl⟩, h _ ge ⟨_, Heap.get?_push_of_some _ (Heap.get?_push_size _ rfl), rfl, rfl⟩ (by rw [Heap.size_push, gz]) fun b o x => Heap.get?_push_of_some _ (Heap.get?_push_of_some _ x)⟩
end
def ItEt (K : PySem.W.Frag) (l : Addr) : It :=
  ⟨fun i H => ∃ (ys : List V) (y : V), SqT K H l ys ∧ ys[i]? = some y, fun i H v H' => ∃ q y, v = .ref q ∧ H q = none ∧ H' = upd H q (.tup [.int (i : Int), y]) ∧ ∀ ys, SqT K H l ys → ys[i]? = some y, fun i H => ∃ ys : List V, SqT K H l ys ∧ ys.length = i⟩
theorem turn_enumEt {P : Program} {w : World} {K : PySem.W.Frag} {elts : List Expr} {kk : Nat} {tp : Pos} (l en it : Addr) :
    Turn P w K (.Tuple elts kk tp) (ItEt K l) [en, it] en (fun i h => (∃ old, IsEnum h en it (((i : Nat) : Int)) old) ∧ h.IsTupleIter it l i ∧ en ≠ it) where
  mem := List.mem_cons_self ..
  obj := fun i h st b hb => by
    obtain ⟨⟨old, he⟩, ⟨o, ho, hc, hd⟩, _⟩ := st
    rcases List.mem_cons.mp hb with z | z
    · rw [z]
      exact ⟨_, he, fun v q => nomatch q⟩
    · rw [List.mem_singleton.mp z]
      exact ⟨o, ho, fun v q => by rw [hd] at q; cases q⟩
  keep := fun i h h' st k => ⟨⟨st.1.choose, k en (by simp) _ st.1.choose_spec⟩, st.2.1.at fun o q => k it (by simp) o q, st.2.2⟩
  item := by
    intro X hP hw hK hc i pins s σ H E I hf st hg
    subst hP hw hK
    obtain ⟨⟨old, he⟩, hit, hne⟩ := st
    obtain ⟨ys, y, hq, hy⟩ := hg
    obtain ⟨its, rv, pl, hz⟩ := I.tuple hq
    obtain ⟨u, hu, ru⟩ := rv.get hy
    have hen : en < s.heap.objs.size := Heap.lt_size he
    have hil : it < s.heap.objs.size := by
      obtain ⟨_, q, _⟩ := hit
      exact Heap.lt_size q
    have nli : l ≠ it := fun z => by
      obtain ⟨o1, q1, c1, _⟩ := hit
      obtain ⟨o2, q2, c2, _⟩ := (show Heap.IsTuple _ _ _ from pl)
      rw [z, q1] at q2
      cases q2
      rw [c1] at c2
      exact absurd (Value.type.inj c2) (by decide)
    have nle : l ≠ en := fun z => by
      obtain ⟨o2, q2, c2, _⟩ := (show Heap.IsTuple _ _ _ from pl)
      have he' : s.heap.get? en = some _ := he
      rw [z, he'] at q2
      cases q2
      exact absurd (Value.type.inj c2) (by decide)
    have D := Draws.tuple (prog := X.prog) (w := X.w) (A := X.A.in1) (I.ok.hd hc) it l nli its.toArray
    refine wpAny_pyNext_enum_itemC D he (i := i) ⟨hit, (show Heap.IsTuple _ _ _ from pl)⟩ ?_ hne (by simp [hne, Ne.symm nle]) fun x h' tk hx ho hst hT hsz hk => ?_
    · have := (List.getElem?_eq_some_iff.mp hu).1
      simpa using this
    have exu : x = u := by
      have q : its[i]? = some x := by simpa using hx
      rw [hu] at q
      exact (Option.some.inj q).symm
    subst exu
    refine ⟨_, rfl, wpAny_letOwnedTupleGo_enum (s := { s with heap := h', toks := tk + 1 }) ho fun h'' he'' sb => ?_⟩
    have hT2 : h''.get? s.heap.objs.size = some { cls := .type "tuple", data := .seq #[.int (i : Int) tk, x] } := (sb.2 _ (Nat.ne_of_gt hen)).trans hT
    have new : ObjOk X.prog X.w (upd H s.heap.objs.size (.tup [.int (i : Int), y])) h'' s.heap.objs.size (.tup [.int (i : Int), y]) :=
      ⟨Nat.le_of_ble_eq_true rfl, [.int (i : Int) tk, x], .cons ⟨_, rfl⟩ (.cons ru .nil), ⟨_, hT2, rfl, _, rfl⟩⟩
    have I1 : Inv X pins σ (upd H s.heap.objs.size (.tup [.int (i : Int), y])) { s with heap := h'', toks := tk + 1 } :=
      I.turnedNew (ch := [en, it]) (fun b ob hb q => (sb.2 b (fun z => hb (by simp [z]))).trans (hk b ob (fun z => hb (by simp [z])) (fun z => hb (by simp [z])) q)) hf (Nat.le_refl _) new
    refine ⟨.ref s.heap.objs.size, _, I1, rfl, ⟨_, y, rfl, I.hok.fresh (Nat.le_refl _), rfl, fun zs hzs => by rw [I.tuple_inj hzs hq]; exact hy⟩, ⟨⟨x, ?_⟩, hst.1.at fun o q => (sb.2 it (Ne.symm hne)).trans q, hne⟩, fun b hb => ?_⟩
    · have e1 : ((i + 1 : Nat) : Int) = (i : Int) + 1 := by omega
      rw [e1]
      exact he''
    · have hb' : b < s.heap.objs.size := by
        rcases List.mem_cons.mp hb with z | z
        · rw [z]; exact hen
        · rw [List.mem_singleton.mp z]; exact hil
      rw [upd_ne (Nat.ne_of_lt hb')]
      exact (hf b hb).1
  done := by
    intro X hP hw hK hc i pins s σ H E I hf st hg
    subst hP hw hK
    obtain ⟨⟨old, he⟩, hit, hne⟩ := st
    obtain ⟨ys, hq, hy⟩ := hg
    obtain ⟨its, rv, pl, hz⟩ := I.tuple hq
    obtain ⟨f0, f1, f2, f3, f4, f5⟩ := hf it (by simp)
    have hlen := rv.length
    have nli : l ≠ it := fun z => by
      obtain ⟨o1, q1, c1, _⟩ := hit
      obtain ⟨o2, q2, c2, _⟩ := (show Heap.IsTuple _ _ _ from pl)
      rw [z, q1] at q2
      cases q2
      rw [c1] at c2
      exact absurd (Value.type.inj c2) (by decide)
    have D := Draws.tuple (prog := X.prog) (w := X.w) (A := X.A.in1) (I.ok.hd hc) it l nli its.toArray
    have en : its.toArray.size = i := by
      rw [List.size_toArray]
      omega
    exact wpAny_pyNext_enum_endD D he ⟨by rw [en]; exact hit, (show Heap.IsTuple _ _ _ from pl)⟩ fun h' eb => ⟨rfl, I.turned (t' := s.toks) (fun b o hb q => eb b o hb q) f0 f1 f3 f4 f5⟩
  self := fun A i s Q E st h => wpAny_pyIter_enum st.1.choose_spec h
def iEnumEt (K : PySem.W.Frag) (ta : TA) : TI := fun σ H R => ta σ H fun vs H1 => ∃ l ys, vs = [V.ref l] ∧ SqT K H1 l ys ∧ R (ItEt K l) H1
theorem pi_enumEt {X : Cx} {e : Expr} {ta : TA} {p pos tpos : Pos} {elts : List Expr} {kk : Nat} (hg : Gl X "enumerate") (hm : X.mg "enumerate" = none) (ha : PA X [e] ta) (hs : starEach [e] X.env = [(false, eval e X.env)] := by rfl) :
    PI X (.Tuple elts kk tpos) (.Call (.Name "enumerate" p) [e] [] pos) (iEnumEt X.K ta) := by
  refine ⟨fun pins s σ H R I h => ?_⟩
  refine Call_ (ld_blt I hg hm boot_enumerate (PyProof.Rows.callWith_type1 (thn (ha.run pos pins s σ H (fun vs H1 => ∃ l ys, vs = [V.ref l] ∧ SqT X.K H1 l ys ∧ R (ItEt X.K l) H1) I h) fun us s1 ⟨vs, H1, I1, r1, l, ys, ez, hq, q⟩ => ?_) hs rfl))
  subst ez
  obtain ⟨u, rfl, ru⟩ := vals1 r1
  cases ru
  obtain ⟨its, rv, pl, hz⟩ := I1.tuple hq
  refine call_enumTu (ia := its.toArray) pl fun h' he hit hsz hk => wpAny_pyIter_enum he ?_
  have I2 : Inv X pins σ H1 { s1 with heap := h' } := I1.kept (t' := s1.toks) hk
  refine ⟨s1.heap.objs.size + 1, [s1.heap.objs.size + 1, s1.heap.objs.size], _, _, H1, rfl, I2, turn_enumEt l (s1.heap.objs.size + 1) s1.heap.objs.size, ⟨⟨.none, he⟩, hit, Nat.succ_ne_self _⟩, fun b hb => ?_, q⟩
  have hle : s1.heap.objs.size ≤ b := by
    rcases List.mem_cons.mp hb with e | e
    · rw [e]
      exact Nat.le_succ _
    · rw [List.mem_singleton.mp e]
      exact Nat.le_refl _
  exact I1.fpOk hle (I1.hok.fresh hle)
theorem walk_enumEt {K : PySem.W.Frag} {l : Addr} {ys : List V} : Walk (ItEt K l) ys.length (fun H => SqT K H l ys) (fun i H v H' => ∃ q y, v = .ref q ∧ H q = none ∧ H' = upd H q (.tup [.int (i : Int), y]) ∧ ys[i]? = some y) :=
  ⟨fun i _ hi q => ⟨ys, ys[i], q, by simp [hi]⟩, fun _ q => ⟨ys, q, rfl⟩, fun _ _ _ _ _ q ⟨a, b, c, d, e, f⟩ => ⟨a, b, c, d, e, f ys q⟩⟩
theorem kpi_enumEt (K : PySem.W.Frag) {X : Cx} {e : Expr} {ta : TA} {p pos tpos : Pos} {elts : List Expr} {kk : Nat} (hg : Gl X "enumerate") (hm : X.mg "enumerate" = none) (ha : PA X [e] ta) (hs : starEach [e] X.env = [(false, eval e X.env)] := by rfl) (h : X.K = K := by rfl) :
    PI X (.Tuple elts kk tpos) (.Call (.Name "enumerate" p) [e] [] pos) (iEnumEt K ta) := by
  subst h
  exact pi_enumEt hg hm ha hs
/-! ### t + u, either of them empty -/
/-! ### a text as a constant -/
/-! ### == by a class's own way -/
structure EqAt (K : PySem.W.Frag) (C : Addr) (qual : PySem.Str) (st : Stmt) : Prop where
  ex : ∃ f fd, PySem.W.findIn K (.ref C) "__eq__" = some (some (.ref f)) ∧ PySem.W.isFn K (.ref f) = true ∧ Fun K "__eq__" qual st f fd ∧ Binds K fd ["self", "other"] []
/-- isinstance of an own class's object -/
structure IsaAt (K : PySem.W.Frag) (C : Addr) : Prop where
  ha : PySem.W.findIn K (.ref C) "__class__" = some (some (.builtin "object.__class__"))
  hn : PySem.W.specialIn K (.builtin "object.__class__") "__get__" = some (some (.builtin "getset_descriptor.__get__"))
  ht : PySem.W.takesIn K (.builtin "object.__class__") = some true
  hm : PySem.W.mroIn K C (.type "object") = some true
end Bz
namespace Bz
open PySem PySem.Spec PyProof.Rows L2
/-! ### other names for states -/
/-! ### two beside each other -/
/-! ### specs -/
theorem MOf.same {M N : MachV} {xs : List Arw} {ss es : List PySem.Str} (h : MOf M xs ss es) (k : MOf N xs ss es) : M.ars = N.ars ∧ M.sts = N.sts ∧ M.ens = N.ens :=
  ⟨h.ars.uniq k.ars, asc_uniq h.sts.1 k.sts.1 fun z => (h.sts.2 z).trans (k.sts.2 z).symm, asc_uniq h.ens.1 k.ens.1 fun z => (h.ens.2 z).trans (k.ens.2 z).symm⟩
end Bz
namespace Bz
open PySem PySem.Spec PyProof.Rows L2
theorem idx_eq {L : List PySem.Str} (h : L.Nodup) {i : Nat} {u : PySem.Str} (e : L[i]? = some u) : L.idxOf u = i := by
  obtain ⟨hi, eu⟩ := List.getElem?_eq_some_iff.mp e
  have hj : L.idxOf u < L.length := List.idxOf_lt_length_of_mem (by rw [← eu]; exact List.getElem_mem hi)
  have ej : L[L.idxOf u] = u := List.getElem_idxOf hj
  have pw := List.pairwise_iff_getElem.mp h
  rcases Nat.lt_trichotomy (L.idxOf u) i with c | c | c
  · exact absurd (ej.trans eu.symm) (pw _ _ hj hi c)
  · exact c
  · exact absurd (eu.trans ej.symm) (pw _ _ hi hj c)
end Bz
namespace Bz
open PySem PySem.Spec PyProof.Rows L2
/-! ### what a law drew, in general -/
end Bz
namespace Bz
open PySem PySem.Spec PyProof.Rows L2
end Bz
namespace Bz
open PySem PySem.Spec PyProof.Rows L2
/-! ### states that arrows lead to -/
theorem klistD {X : Cx} (hc : X.calm = true) : CallR X (.type "list") (fun xs H Q => ∃ (a : Addr) (kvs : List (Ky × V)), xs = [.ref a] ∧ Rd H a (.dK kvs) ∧ ∀ p, H p = none → Q (.ref p) (upd H p (.lst (kvs.map fun kv => kV kv.1)))) := call_listD hc
abbrev fT (s : PySem.Str) : Ky × V := (.inr s, .bl true)
theorem fT_mem {F : List PySem.Str} {u : PySem.Str} : (Sum.inr u : Ky) ∈ (F.map fT).map (·.1) ↔ u ∈ F := by
  rw [List.map_map, List.mem_map]
  exact ⟨fun ⟨s, hs, e⟩ => by rw [← Sum.inr.inj (show (Sum.inr s : Ky) = .inr u from e)]; exact hs, fun h => ⟨u, h, rfl⟩⟩
theorem put_fT_new {F : List PySem.Str} {u : PySem.Str} (h : u ∉ F) : putK (F.map fT) (.inr u) (.bl true) = (F ++ [u]).map fT := by
  rw [putK_new (fun c => h (fT_mem.mp c)), List.map_append]
  rfl
theorem put_fT_in {F : List PySem.Str} {u : PySem.Str} (h : u ∈ F) : putK (F.map fT) (.inr u) (.bl true) = F.map fT := by
  unfold putK
  have e : ((F.map fT).any fun kv => decide (kv.1 = (Sum.inr u : Ky))) = true := List.any_eq_true.mpr ⟨fT u, List.mem_map.mpr ⟨u, h, rfl⟩, decide_eq_true rfl⟩
  rw [if_pos e, List.map_map]
  refine List.map_congr_left fun s _ => ?_
  show (if (Sum.inr s : Ky) = .inr u then ((Sum.inr s : Ky), V.bl true) else fT s) = fT s
  split <;> rfl
theorem val_fT {F : List PySem.Str} {u : PySem.Str} : valV (F.map fT) (.inr u) = if u ∈ F then some (.bl true) else none := by
  by_cases h : u ∈ F
  · rw [if_pos h]
    unfold valV
    have e : ((F.map fT).find? fun kv => decide (kv.1 = (Sum.inr u : Ky))).isSome = true := by
      rw [List.find?_isSome]
      exact ⟨fT u, List.mem_map.mpr ⟨u, h, rfl⟩, decide_eq_true rfl⟩
    obtain ⟨kv, hkv⟩ := Option.isSome_iff_exists.mp e
    obtain ⟨s, _, es⟩ := List.mem_map.mp (List.mem_of_find?_eq_some hkv)
    rw [hkv, ← es]
    rfl
  · rw [if_neg h]
    exact valV_none fun c => h (fT_mem.mp c)
theorem nodup_snoc2 {α : Type} {os : List α} {u : α} (h : os.Nodup) (c : u ∉ os) : (os ++ [u]).Nodup := by
  rw [List.nodup_append]
  refine ⟨h, by simp, fun a ha b hb => ?_⟩
  rw [List.mem_singleton.mp hb]
  intro e
  exact c (by rw [← e]; exact ha)
theorem nodup_fst {α β : Type} {ps : List (α × β)} (h : (ps.map (·.1)).Nodup) {p r : α × β} (hp : p ∈ ps) (hr : r ∈ ps) (e : p.1 = r.1) : p = r := by
  induction ps with
  | nil => cases hp
  | cons z ps ih =>
    rw [List.map_cons] at h
    obtain ⟨h1, h2⟩ := List.nodup_cons.mp h
    rcases List.mem_cons.mp hp with e1 | hp <;> rcases List.mem_cons.mp hr with e2 | hr
    · rw [e1, e2]
    · exact absurd (List.mem_map.mpr ⟨r, hr, by rw [← e, e1]⟩) h1
    · exact absurd (List.mem_map.mpr ⟨p, hp, by rw [e, e2]⟩) h1
    · exact ih h2 hp hr
theorem nodup_snd {α β : Type} {ps : List (α × β)} (h : (ps.map (·.2)).Nodup) {p r : α × β} (hp : p ∈ ps) (hr : r ∈ ps) (e : p.2 = r.2) : p = r := by
  induction ps with
  | nil => cases hp
  | cons z ps ih =>
    rw [List.map_cons] at h
    obtain ⟨h1, h2⟩ := List.nodup_cons.mp h
    rcases List.mem_cons.mp hp with e1 | hp <;> rcases List.mem_cons.mp hr with e2 | hr
    · rw [e1, e2]
    · exact absurd (List.mem_map.mpr ⟨r, hr, by rw [← e, e1]⟩) h1
    · exact absurd (List.mem_map.mpr ⟨p, hp, by rw [e, e2]⟩) h1
    · exact ih h2 hp hr
/-- the dict of what each state leads to -/
structure NxInv (H H' : Hp) (D : Addr) (ps : List (PySem.Str × Addr)) (c : PySem.Str → List PySem.Str) : Prop where
  d : H' D = some (.dK (ps.map pk))
  nk : (ps.map (·.1)).Nodup
  na : (ps.map (·.2)).Nodup
  each : ∀ p ∈ ps, p.2 ≠ D ∧ H p.2 = none ∧ H' p.2 = some (.lst ((c p.1).map V.str))
  no : ∀ s, s ∉ ps.map (·.1) → c s = []
  same : Same H H'
  hD : H D = none
theorem pk_val {ps : List (PySem.Str × Addr)} {s : PySem.Str} {q : Addr} (nk : (ps.map (·.1)).Nodup) (h : (s, q) ∈ ps) : valV (ps.map pk) (.inr s) = some (.ref q) := by
  induction ps with
  | nil => cases h
  | cons p ps ih =>
    rw [List.map_cons] at nk
    obtain ⟨n1, n2⟩ := List.nodup_cons.mp nk
    rcases List.mem_cons.mp h with e | h
    · rw [← e]
      exact valV_pos rfl
    · have ne : p.1 ≠ s := fun e => n1 (List.mem_map.mpr ⟨(s, q), h, e.symm⟩)
      have := ih n2 h
      unfold valV at this ⊢
      rw [List.map_cons, List.find?_cons_of_neg (by simpa using ne)]
      exact this
theorem NxInv.new {H H' : Hp} {D q : Addr} {ps : List (PySem.Str × Addr)} {c : PySem.Str → List PySem.Str} {s t : PySem.Str} (h : NxInv H H' D ps c) (hs : s ∉ ps.map (·.1)) (hq : H' q = none) :
    NxInv H (upd (upd (upd H' q (.lst [])) D (.dK (putK (ps.map pk) (.inr s) (.ref q)))) q (.lst [.str t])) D (ps ++ [(s, q)]) fun z => if z = s then c s ++ [t] else c z := by
  have nqD : q ≠ D := fun e => by
    rw [e, h.d] at hq
    cases hq
  have hHq := h.same.free hq
  have hps : ∀ p ∈ ps, p.2 ≠ q := fun p hp e => by
    have := (h.each p hp).2.2
    rw [e, hq] at this
    cases this
  have ep : putK (ps.map pk) (.inr s) (.ref q) = (ps ++ [(s, q)]).map pk := by
    rw [putK_new (fun c => hs (pk_mem.mp c)), List.map_append]
    rfl
  refine ⟨?_, ?_, ?_, fun p hp => ?_, fun z hz => ?_, ?_, h.hD⟩
  · rw [upd_ne nqD.symm, ← ep]
    exact upd_same
  · rw [List.map_append]
    exact nodup_snoc2 h.nk hs
  · rw [List.map_append]
    exact nodup_snoc2 h.na fun c => by
      obtain ⟨p, hp, e⟩ := List.mem_map.mp c
      exact hps p hp e
  · rcases List.mem_append.mp hp with hp | hp
    · obtain ⟨a, b, d⟩ := h.each p hp
      refine ⟨a, b, ?_⟩
      have ne : p.1 ≠ s := fun e => hs (List.mem_map.mpr ⟨p, hp, e⟩)
      rw [if_neg ne, upd_ne (hps p hp), upd_ne a, upd_ne (hps p hp)]
      exact d
    · rw [List.mem_singleton.mp hp]
      refine ⟨nqD, hHq, ?_⟩
      rw [if_pos rfl, h.no s hs]
      exact upd_same
  · have n1 : z ∉ ps.map (·.1) := fun m => hz (by rw [List.map_append]; exact List.mem_append_left _ m)
    have n2 : z ≠ s := fun e => hz (by rw [List.map_append]; exact List.mem_append_right _ (by rw [e]; exact List.mem_singleton.mpr rfl))
    rw [if_neg n2]
    exact h.no z n1
  · exact same_mut (same_mut (h.same.trans (same_new hq)) h.hD) hHq
theorem NxInv.old {H H' : Hp} {D q q0 : Addr} {ps : List (PySem.Str × Addr)} {c : PySem.Str → List PySem.Str} {s t : PySem.Str} (h : NxInv H H' D ps c) (hp : (s, q) ∈ ps) (hq : H' q0 = none) :
    NxInv H (upd (upd H' q0 (.lst [])) q (.lst ((c s).map V.str ++ [.str t]))) D ps fun z => if z = s then c s ++ [t] else c z := by
  obtain ⟨a, b, d⟩ := h.each _ hp
  have a' : q ≠ D := a
  have n0 : ∀ {p : Addr} {o : HO}, H' p = some o → p ≠ q0 := fun e => ne_of_none e hq
  refine ⟨?_, h.nk, h.na, fun p hp' => ?_, fun z hz => ?_, ?_, h.hD⟩
  · rw [upd_ne a'.symm, upd_ne (n0 h.d)]
    exact h.d
  · obtain ⟨a2, b2, d2⟩ := h.each p hp'
    refine ⟨a2, b2, ?_⟩
    by_cases e : p = (s, q)
    · rw [e, if_pos rfl, List.map_append]
      exact upd_same
    · have n1 : p.1 ≠ s := fun e1 => e (nodup_fst h.nk hp' hp e1)
      have n2 : p.2 ≠ q := fun e1 => e (nodup_snd h.na hp' hp e1)
      rw [if_neg n1, upd_ne n2, upd_ne (n0 d2)]
      exact d2
  · have n2 : z ≠ s := fun e => hz (List.mem_map.mpr ⟨(s, q), hp, e.symm⟩)
    rw [if_neg n2]
    exact h.no z hz
  · exact same_mut (h.same.trans (same_new hq)) b
def spReached (K : PySem.W.Frag) : Sp := fun vs H Q _ => ∃ (b a : Addr) (us : List V) (xs : List Arw) (ss : List PySem.Str), vs = [.ref b, .ref a] ∧ SqE K H b (ss.map V.str) ∧ SqE K H a us ∧ ArS H us xs ∧ ss.length ≤ 400 ∧ xs.length ≤ 1000 ∧
  ∀ (d : Addr) (F : List PySem.Str) (H' : Hp), H d = none → H' d = some (.dK (F.map fT)) → F.Nodup → (∀ s ∈ ss, s ∈ F) → (∀ x ∈ xs, x.s ∈ F → x.t ∈ F) → (∀ s ∈ F, s ∈ ss ++ xs.map Arw.t) → Same H H' → Q (.ref d) H'
/-- what a search keeps: F found, W still to be looked at -/
structure Sch (xs : List Arw) (ss F W : List PySem.Str) : Prop where
  nd : F.Nodup
  st : ∀ s ∈ ss, s ∈ F
  wf : ∀ s ∈ W, s ∈ F
  cl : ∀ x ∈ xs, x.s ∈ F → x.s ∉ W → x.t ∈ F
  sub : ∀ s ∈ F, s ∈ ss ++ xs.map Arw.t
theorem Sch.len {xs : List Arw} {ss F W : List PySem.Str} (h : Sch xs ss F W) : F.length ≤ ss.length + xs.length := by
  have := nodup_le h.nd h.sub
  rw [List.length_append, List.length_map] at this
  exact this
/-- within a turn: from F0, W0 on, the first of ts are found -/
structure Trn (xs : List Arw) (ss F0 W0 ts F W : List PySem.Str) : Prop where
  nd : F.Nodup
  f0 : ∀ s ∈ F0, s ∈ F
  w0 : ∀ s ∈ W0, s ∈ W
  fw : ∀ s ∈ F, s ∈ F0 ∨ s ∈ W
  wf : ∀ s ∈ W, s ∈ F
  ts : ∀ s ∈ ts, s ∈ F
  sub : ∀ s ∈ F, s ∈ ss ++ xs.map Arw.t
  len : W.length + F0.length = W0.length + F.length
theorem Trn.turn {xs : List Arw} {ss F0 W0 F W : List PySem.Str} {here : PySem.Str} (h : Sch xs ss F0 (W0 ++ [here])) (t : Trn xs ss F0 W0 ((xs.filter fun x => decide (x.s = here)).map Arw.t) F W) : Sch xs ss F W where
  nd := t.nd
  st := fun s hs => t.f0 s (h.st s hs)
  wf := t.wf
  cl := fun x hx hf hw => by
    by_cases e : x.s = here
    · exact t.ts _ (List.mem_map.mpr ⟨x, List.mem_filter.mpr ⟨hx, decide_eq_true e⟩, rfl⟩)
    · rcases t.fw _ hf with h1 | h1
      · refine t.f0 _ (h.cl x hx h1 fun c => ?_)
        rcases List.mem_append.mp c with c | c
        · exact hw (t.w0 _ c)
        · exact e (List.mem_singleton.mp c)
      · exact absurd h1 hw
  sub := t.sub
end Bz
namespace Bz
open PySem PySem.Spec PyProof.Rows L2
/-- the states that are on some run -/
structure Kept (xs : List Arw) (ss es F1 F2 : List PySem.Str) : Prop where
  s1 : ∀ s ∈ ss, s ∈ F1
  c1 : ∀ x ∈ xs, x.s ∈ F1 → x.t ∈ F1
  s2 : ∀ s ∈ es, s ∈ F2
  c2 : ∀ x ∈ xs, x.t ∈ F2 → x.s ∈ F2
  sub : ∀ s ∈ F1, s ∈ ss ++ xs.map Arw.t
def kp (F1 F2 : List PySem.Str) (z : PySem.Str) : Bool := decide (z ∈ F1) && decide (z ∈ F2)
theorem kp_iff {F1 F2 : List PySem.Str} {z : PySem.Str} : kp F1 F2 z = true ↔ z ∈ F1 ∧ z ∈ F2 := by
  unfold kp
  rw [Bool.and_eq_true, decide_eq_true_eq, decide_eq_true_eq]
def kpA (F1 F2 : List PySem.Str) (x : Arw) : Bool := kp F1 F2 x.s && kp F1 F2 x.t
theorem run_kept {xs : List Arw} {ss es F1 F2 : List PySem.Str} (h : Kept xs ss es F1 F2) : ∀ (ls : List PySem.Str) (a b : PySem.Str) (n : Int), a ∈ F1 → b ∈ F2 → RunS xs ls a b n → RunS (xs.filter (kpA F1 F2)) ls a b n ∧ a ∈ F2 ∧ b ∈ F1
  | [], a, b, n, ha, hb, r => ⟨r, by rw [r.1]; exact hb, by rw [← r.1]; exact ha⟩
  | l :: ls, a, b, n, ha, hb, r => by
    obtain ⟨x, hx, e1, e2, m, r, e⟩ := r
    have t1 := h.c1 x hx (by rw [e1]; exact ha)
    obtain ⟨r', t2, b1⟩ := run_kept h ls x.t b m t1 hb r
    have a2 := h.c2 x hx t2
    refine ⟨⟨x, List.mem_filter.mpr ⟨hx, ?_⟩, e1, e2, m, r', e⟩, by rw [← e1]; exact a2, b1⟩
    unfold kpA
    rw [kp_iff.mpr ⟨by rw [e1]; exact ha, a2⟩, kp_iff.mpr ⟨t1, t2⟩]
    rfl
theorem LPr.kept {xs : List Arw} {ss es F1 F2 ls : List PySem.Str} (h : Kept xs ss es F1 F2) {o : Option Int} : LPr (xs.filter (kpA F1 F2)) (ss.filter (kp F1 F2)) (es.filter (kp F1 F2)) ls o ↔ LPr xs ss es ls o := by
  have key : ∀ n, (∃ s ∈ ss.filter (kp F1 F2), ∃ e ∈ es.filter (kp F1 F2), RunS (xs.filter (kpA F1 F2)) ls s e n) ↔ (∃ s ∈ ss, ∃ e ∈ es, RunS xs ls s e n) := fun n => by
    constructor
    · rintro ⟨s, h1, e, h2, r⟩
      exact ⟨s, (List.mem_filter.mp h1).1, e, (List.mem_filter.mp h2).1, run_sub (fun x hx => (List.mem_filter.mp hx).1) _ _ _ _ r⟩
    · rintro ⟨s, h1, e, h2, r⟩
      obtain ⟨r', a, b⟩ := run_kept h _ _ _ _ (h.s1 s h1) (h.s2 e h2) r
      exact ⟨s, List.mem_filter.mpr ⟨h1, kp_iff.mpr ⟨h.s1 s h1, a⟩⟩, e, List.mem_filter.mpr ⟨h2, kp_iff.mpr ⟨b, h.s2 e h2⟩⟩, r'⟩
  exact ⟨LeastO.iff key, LeastO.iff fun n => (key n).symm⟩
end Bz
namespace Bz
open PySem PySem.Spec PyProof.Rows L2
/-! ### two loops in one list -/
/-! ### pairs -/
/-! ### the product -/
/-! ### unpaid -/
end Bz
namespace Bz
open PySem PySem.Spec PyProof.Rows L2
end Bz
namespace Bz
open PySem PySem.Spec PyProof.Rows L2
end Bz
namespace Bz
open PySem PySem.Spec PyProof.Rows L2
end Bz
namespace Bz
open PySem PySem.Spec PyProof.Rows L2
/-! ### one behind the other -/
end Bz
namespace Bz
open PySem PySem.Spec PyProof.Rows L2
open AutoSeq1 (wpAny_loadPart')
/-! ### xs.extend(tuple) -/
end Bz
namespace Bz
open PySem PySem.Spec PyProof.Rows L2
end Bz
namespace Bz
open PySem PySem.Spec PyProof.Rows L2
end Bz
namespace Bz
open PySem PySem.Spec PyProof.Rows L2
theorem kall1 (K : PySem.W.Frag) {X : Cx} (hc : X.calm = true) (h : X.K = K := by rfl) : CallR X (.builtin "all") (rAll K) := by subst h; exact cr_all hc
end Bz
namespace Bz
open PySem PySem.Spec PyProof.Rows L2
/-! ### known machines -/
end Bz
namespace Bz
open PySem PySem.Spec PyProof.Rows L2
end Bz
namespace Bz
open PySem PySem.Spec PyProof.Rows L2
end Bz
namespace Bz
open PySem PySem.Spec PyProof.Rows L2
/-- how many letters of a row are among some -/
def cntL (ls row : List PySem.Str) : Nat := (row.filter fun l => decide (l ∈ ls)).length
end Bz
namespace Bz
open PySem PySem.Spec PyProof.Rows L2
/-! ### prices of known machines -/
end Bz
namespace Bz
open PySem PySem.Spec PyProof.Rows L2
end Bz
namespace Bz
open PySem PySem.Spec PyProof.Rows L2
end Bz
namespace Bz
open PySem PySem.Spec PyProof.Rows L2
/-! ### the price of a row for the capped counter -/
end Bz
namespace Bz
open PySem PySem.Spec PyProof.Rows L2
/-! ### own errors: made, raised, caught -/
theorem pass00 {X : Cx} {E : XK} : Passes CX0 X E := fun _ _ _ _ _ _ _ h => h.elim
end Bz
namespace Bz
open PySem PySem.Spec PyProof.Rows L2
/-! ### defs that may raise, methods, properties that are worked out, own == and != -/
section
variable {P : Program} {w : World} {K : PySem.W.Frag} {mg : PySem.Str → Option Value} {base : Heap} {k : Nat} {x m qual : PySem.Str} {C : Addr} {st : Stmt} {ps N : List PySem.Str} {sp : Sp}
structure MethAt (K : PySem.W.Frag) (C : Addr) (m qual : PySem.Str) (st : Stmt) (ps : List PySem.Str) : Prop where
  ex : ∃ f fd, Meth K C m f ∧ Fun K m qual st f fd ∧ Binds K fd ps []
structure KeepsM (P : Program) (w : World) (K : PySem.W.Frag) (mg : PySem.Str → Option Value) (base : Heap) (CX : CXT) (C : Addr) (k : Nat) (m : PySem.Str) (ps : List PySem.Str) (sp : Sp) : Prop where
  ex : ∃ f fd, Meth K C m f ∧ FnOk P w K mg base CX k f fd ps sp ∧ Binds K fd ps []
theorem keepsM0 (D : MethAt K C m qual st ps) (S : FnScope N ps (defScope st)) (len : ∀ vs H Q E, sp vs H Q E → vs.length = ps.length)
    (hbody : ∀ (f : Addr) (cdv : Value) (A : Around) (outer : List Env) (s : Shared) (H : Hp) (vs : List V) (Q : VK) (E : XK), Room k (A.deeper (envOfC qual (defScope st) s.heap.objs.size f cdv)) → sp vs H Q E →
      ∃ t, PSs (cxOf CX0 P w K mg base N qual (defScope st) f cdv A outer s H E).nox (defBody st) t ∧ t { nx := fun _ H' => Q .non H', rt := Q } (start N vs) H) : KeepsM P w K mg base CX0 C (k + 1) m ps sp := by
  obtain ⟨f, fd, M, F, b⟩ := D.ex
  exact ⟨f, fd, M, F.ok S len (hbody f), b⟩
end
section
variable {X : Cx} {CX : CXT} {k j : Nat} {x m : PySem.Str} {C : Addr} {ps : List PySem.Str} {sp : Sp} {e o : Expr} {es : List Expr} {p pos apos : Pos} {t : TA} {ta : TE} {W : WX} {E : XK}
/-- o.m(e, ..) -/
theorem pe_mt {pl : Sem Bool} (c : Cls X.K C) (F : KeepsM X.prog X.w X.K X.mg X.base CX C k m ps sp) (hr : Room j X.A) (hx : Passes CX X E) (he : PE X o ta) (ha : PA X (e :: es) t) (hj : k ≤ j := by decide)
    (hst : starEach (e :: es) X.env = (false, eval e X.env) :: starEach es X.env := by rfl) (hpl : (backTo pos (starEach es X.env)).any (·.1) = false := by rfl)
    (ht : eval (.Call (.Attribute o m apos) (e :: es) [] pos) X.env = (do
      let ov ← eval o X.env
      standAt apos.atName
      let (f, first) ← holding [ov] (getMethod ov m pl)
      callWith pos f first (backTo pos (starEach (e :: es) X.env)) (backToKw pos (keywordEach [] X.env))) := by rfl) :
    PE X (.Call (.Attribute o m apos) (e :: es) [] pos) (tMeth C m sp [] E ta t) := by
  obtain ⟨f, fd, M, G, b⟩ := F.ex
  exact pe_meth he c M G (hr.mono hj) b .nil hx ha hst hpl ht
theorem pe_mt0 {pl : Sem Bool} (c : Cls X.K C) (F : KeepsM X.prog X.w X.K X.mg X.base CX C k m ps sp) (hr : Room j X.A) (hx : Passes CX X E) (he : PE X o ta) (hj : k ≤ j := by decide)
    (ht : eval (.Call (.Attribute o m apos) [] [] pos) X.env = (do
      let ov ← eval o X.env
      standAt apos.atName
      let (f, first) ← holding [ov] (getMethod ov m pl)
      callWith pos f first (backTo pos (starEach [] X.env)) (backToKw pos (keywordEach [] X.env))) := by rfl) :
    PE X (.Call (.Attribute o m apos) [] [] pos) (tMeth C m sp [] E ta tNil) := by
  obtain ⟨f, fd, M, G, b⟩ := F.ex
  exact pe_meth0 he c M G (hr.mono hj) b .nil hx ht
end
/-! ### own ==, != with any answer -/
structure NeAt (K : PySem.W.Frag) (C : Addr) : Prop where
  ne : PySem.W.findIn K (.ref C) "__ne__" = some (some (.builtin "object.__ne__"))
  ob : PySem.W.subIn K (.ref C) (.type "object") = some true
end Bz
namespace Bz
open PySem PySem.Spec PyProof.Rows L2
/-! ### list(zip(*rows)): rows are tuples of one length -/
/-! ### as a rule -/
end Bz
namespace Bz
open PySem PySem.Spec PyProof.Rows L2
/-! ### for x, y in zip(xs, ys): each a list or a tuple -/
/-- a list (false) or a tuple (true) -/
def SqK (k : Bool) (K : PySem.W.Frag) (H : Hp) (a : Addr) (xs : List V) : Prop := match k with | true => SqT K H a xs | false => SqL K H a xs
def IsS (k : Bool) (h : Heap) (a : Addr) (its : Array Value) : Prop := match k with | true => h.IsTuple a its | false => h.IsList a its
theorem SqK.e {k : Bool} {K : PySem.W.Frag} {H : Hp} {a : Addr} {xs : List V} (h : SqK k K H a xs) : SqE K H a xs := by
  cases k
  · exact .inl h
  · exact .inr h
theorem SqE.k {K : PySem.W.Frag} {H : Hp} {a : Addr} {xs : List V} (h : SqE K H a xs) : ∃ k, SqK k K H a xs := h.elim (fun h => ⟨false, h⟩) fun h => ⟨true, h⟩
theorem SqK.ins {k : Bool} {X : Cx} {pins : List (Addr × Obj)} {σ : L2.St} {H : Hp} {s : Shared} {a : Addr} {xs : List V} (h : SqK k X.K H a xs) (I : Inv X pins σ H s) : ∃ its : List Value, Vals xs its ∧ IsS k s.heap a its.toArray := by
  cases k
  · obtain ⟨its, r, p, _⟩ := I.list h
    exact ⟨its, r, p.isList⟩
  · obtain ⟨its, r, p, _⟩ := I.tuple h
    exact ⟨its, r, p⟩
theorem SqK.inj {k : Bool} {X : Cx} {pins : List (Addr × Obj)} {σ : L2.St} {H : Hp} {s : Shared} {a : Addr} {xs ys : List V} (I : Inv X pins σ H s) (h : SqK k X.K H a xs) (h' : SqK k X.K H a ys) : xs = ys := by
  cases k
  · exact I.list_inj h h'
  · exact I.tuple_inj h h'
end Bz
namespace Bz
open PySem PySem.Spec PyProof.Rows L2
/-! ### rules: either of two; sorted(list or tuple of texts); len(set); tuples of the top -/
/-- min(x, default=k), x whole numbers -/
def tMinDI (K : PySem.W.Frag) (te td : TE) : TE := fun σ H Q => te σ H fun v H1 => td σ H1 fun d H2 => H2 = H1 ∧ ∃ (l : Addr) (ns : List Int), v = .ref l ∧ SqL K H1 l (ns.map V.int) ∧ ∀ z : V, ((ns = [] ∧ z = d) ∨ ∃ m, z = .int m ∧ m ∈ ns ∧ ∀ n ∈ ns, m ≤ n) → Q z H1
theorem pe_minDI (K : PySem.W.Frag) {X : Cx} {e d : Expr} {te td : TE} {p pos kpos : Pos} (hc : X.calm = true) (hu : X.A.units + 64 < cLine) (hg : Gl X "min") (hm : X.mg "min" = none) (he : PE X e te) (hd : PE X d td) (hs : starEach [e] X.env = [(false, eval e X.env)] := by rfl) (hK : X.K = K := by rfl) :
    PE X (.Call (.Name "min" p) [e] [⟨some "default", d, kpos⟩] pos) (tMinDI K te td) := by
  subst hK
  refine ⟨fun pins s σ H Q I h => ?_⟩
  refine wpAny_Call_Name_kw (ld_blt I hg hm boot_min ?_)
  rw [hs]
  show wpAny _ _ (callWith pos (Value.builtin "min") [] [(false, eval e X.env)] [(some "default", do let v ← eval d X.env; standAt pos; pure v)]) _ _ _
  refine callB_kw (thn (he.run pins s σ H _ I h) fun u s1 ⟨v, H1, I1, r1, q1⟩ => ?_)
  refine wpAny_bind (thn (hd.run pins s1 σ H1 _ I1 q1) fun ud s2 ⟨dv, H2, I2, rd, eH, l, ns, ev, hq, q⟩ => wpAny_bind (wpAny_standAt (wpAny_pure ?_)))
  subst eH
  subst ev
  obtain rfl : u = Value.ref l := r1
  obtain ⟨its, rv, pl, hz⟩ := I2.list hq
  obtain ⟨as, ra⟩ := Dp.readsAll I2 _ _ _ (dp_ints ns) rv
  refine PySem.W.min_list_datum_default (α := Int) (xs := ns) (I2.ok.hd hc) pl.isList ⟨as, by
    have e : its.toArray.toList = its := by simp
    rw [e]
    exact ra⟩ (by show X.A.units + 1 + 0 < cLine; omega) (fun e0 h' tk k => ?_) (fun y ys i v h' tk e1 hi hh k => ?_)
  · exact ⟨dv, H2, I2.kept k, rd, q dv (.inl ⟨e0, rfl⟩)⟩
  · subst e1
    obtain ⟨as', r'⟩ := hh
    have ht : ∃ t, v = Value.int (PySem.W.minOf y ys) t := by
      have r2 : Reads h' v (.int (PySem.W.minOf y ys)) as' := r'
      cases r2
      exact ⟨_, rfl⟩
    obtain ⟨t, rfl⟩ := ht
    exact ⟨.int _, H2, I2.kept k, ⟨t, rfl⟩, q _ (.inr ⟨_, rfl, (minOf_is y ys).1, fun n hn => (minOf_is y ys).2 n hn⟩)⟩
end Bz
namespace Bz
open PySem PySem.Spec PyProof.Rows L2
/-! ### tallies: the mathematics -/
def mkW : List PySem.Str := ["free", "some", "many", "never"]
/-- the least of some ranks -/
def lowN (l : List Nat) : Nat := l.foldr min 3
theorem lowN_le {l : List Nat} {r : Nat} : lowN l ≤ r ↔ 3 ≤ r ∨ ∃ x ∈ l, x ≤ r := by
  induction l with
  | nil => simp [lowN]
  | cons x l ih =>
    show min x (lowN l) ≤ r ↔ _
    have mn : min x (lowN l) ≤ r ↔ x ≤ r ∨ lowN l ≤ r := by omega
    rw [mn, ih]
    simp only [List.mem_cons, exists_eq_or_imp]
    constructor
    · rintro (h | h | h)
      · exact .inr (.inl h)
      · exact .inl h
      · exact .inr (.inr h)
    · rintro (h | h | h)
      · exact .inr (.inl h)
      · exact .inl h
      · exact .inr (.inr h)
abbrev Rk := List (List Nat)
def ent (R : Rk) (i j : Nat) : Nat := (R.getD i []).getD j 3
structure Sq4 (n : Nat) (R : Rk) : Prop where
  len : R.length = n
  row : ∀ r ∈ R, r.length = n ∧ ∀ k ∈ r, k ≤ 3
def mkR (n : Nat) (f : Nat → Nat → Nat) : Rk := (List.range n).map fun i => (List.range n).map fun j => f i j
theorem ent_mk {n i j : Nat} {f : Nat → Nat → Nat} (hi : i < n) (hj : j < n) : ent (mkR n f) i j = f i j := by
  unfold ent mkR
  simp [List.getD_eq_getElem?_getD, hi, hj]
def rowN (n : Nat) (f : Nat → Nat) : List Nat := (List.range n).map f
theorem lowN_row {n r : Nat} {f : Nat → Nat} : lowN (rowN n f) ≤ r ↔ 3 ≤ r ∨ ∃ k, k < n ∧ f k ≤ r := by
  rw [lowN_le]
  unfold rowN
  constructor
  · rintro (h | ⟨x, hx, h⟩)
    · exact .inl h
    · obtain ⟨k, hk, rfl⟩ := List.mem_map.mp hx
      exact .inr ⟨k, List.mem_range.mp hk, h⟩
  · rintro (h | ⟨k, hk, h⟩)
    · exact .inl h
    · exact .inr ⟨_, List.mem_map.mpr ⟨k, List.mem_range.mpr hk, rfl⟩, h⟩
/-- one put behind the other -/
def putE (n : Nat) (A B : Rk) (i j : Nat) : Nat := lowN (rowN n fun k => max (ent A i k) (ent B k j))
def putR (n : Nat) (A B : Rk) : Rk := mkR n (putE n A B)
theorem putE_le {n r i j : Nat} {A B : Rk} : putE n A B i j ≤ r ↔ 3 ≤ r ∨ ∃ k, k < n ∧ ent A i k ≤ r ∧ ent B k j ≤ r := by
  unfold putE
  rw [lowN_row]
  simp only [Nat.max_le]
/-! ### as data -/
/-! ### where a tally stands -/
structure TalV where
  sts : List PySem.Str
  rk : Rk
  deriving DecidableEq
structure TalOk (T : TalV) : Prop where
  asc : Asc T.sts
  nm : ∀ s ∈ T.sts, Nm s
  sq : Sq4 T.sts.length T.rk
  n8 : T.sts.length ≤ 8
/-- the rows of whole numbers at ws, tuples -/
def RkS (H : Hp) (ws : List V) (R : Rk) : Prop := Paired (fun v r => ∃ q, v = V.ref q ∧ H q = some (.tup (r.map fun n => V.int (n : Nat)))) ws R
def tfs (a b : Addr) : List (PySem.Str × V) := [("held_states", .ref a), ("held_ranks", .ref b)]
structure TalAt (C : Addr) (H : Hp) (t dx a b : Addr) (ws : List V) (T : TalV) : Prop where
  ins : H t = some (.ins C dx (tfs a b))
  st : FzT H a (T.sts.map V.str)
  rk : H b = some (.tup ws)
  rows : RkS H ws T.rk
def IsTal (C : Addr) (H : Hp) (t : Addr) (T : TalV) : Prop := ∃ dx a b ws, TalAt C H t dx a b ws T
end Bz
namespace Bz
open PySem PySem.Spec PyProof.Rows L2
/-! ### values of any kind, as a tally's making is passed them -/
inductive Kn (H : Hp) : V → String → Prop where
  | non : Kn H .non "NoneType"
  | bl (b : Bool) : Kn H (.bl b) "bool"
  | int (i : Int) : Kn H (.int i) "int"
  | str (s : PySem.Str) (h : s.length ≤ 100000) : Kn H (.str s) "str"
  | lst {a : Addr} {xs : List V} (e : H a = some (.lst xs)) : Kn H (.ref a) "list"
  | tup {a : Addr} {xs : List V} (e : H a = some (.tup xs)) : Kn H (.ref a) "tuple"
  | dct {a : Addr} {kvs : List (Ky × V)} (e : H a = some (.dK kvs)) : Kn H (.ref a) "dict"
  | ftp {a : Addr} {xs : List V} (e : FzT H a xs) : Kn H (.ref a) "tuple"
theorem Kn.ty {K : PySem.W.Frag} {H : Hp} {v : V} {t : String} (h : Kn H v t) : TyX K H v (.type t) := by
  cases h with
  | non => exact .base .non
  | bl b => exact .base (.bl b)
  | int i => exact .base (.int i)
  | str s _ => exact .base (.str s)
  | lst e => exact .base (.lst e)
  | tup e => exact .base (.tup e)
  | dct e => exact .base (.dK e)
  | ftp e =>
    obtain ⟨u, e, o, rfl, _⟩ := e
    exact .fTuple e
theorem Kn.mem {H : Hp} {v : V} {t : String} (h : Kn H v t) : t ∈ ["NoneType", "bool", "int", "str", "list", "tuple", "dict", "float", "set", "bytes"] := by
  cases h <;> decide
def strV : V → PySem.Str
  | .str s => s
  | _ => ""
def nameV : V → Bool
  | .str s => nmB s
  | _ => false
def markV : V → Bool
  | .str s => decide (s ∈ mkW)
  | _ => false
/-- a list or a tuple of these, or neither -/
inductive Sv (H : Hp) : V → Option (List V) → Prop where
  | lst {a : Addr} {xs : List V} (e : H a = some (.lst xs)) : Sv H (.ref a) (some xs)
  | tup {a : Addr} {xs : List V} (e : H a = some (.tup xs)) : Sv H (.ref a) (some xs)
  | ftp {a : Addr} {xs : List V} (e : FzT H a xs) : Sv H (.ref a) (some xs)
  | no {v : V} {t : String} (k : Kn H v t) (h1 : t ≠ "list") (h2 : t ≠ "tuple") : Sv H v none
theorem Sv.kn {H : Hp} {v : V} {o : Option (List V)} (h : Sv H v o) : ∃ t, Kn H v t ∧ (decide (t = "list") || decide (t = "tuple")) = o.isSome := by
  cases h with
  | lst e => exact ⟨_, .lst e, rfl⟩
  | tup e => exact ⟨_, .tup e, rfl⟩
  | ftp e => exact ⟨_, .ftp e, rfl⟩
  | no k h1 h2 => exact ⟨_, k, by simp [h1, h2]⟩
def rowB (o : Option (List V)) (n : Nat) : Bool := match o with
  | some xs => decide (xs.length = n) && xs.all markV
  | none => false
def spIsNameA : Sp := fun vs H Q _ => ∃ (v : V) (t : String), vs = [v] ∧ Kn H v t ∧ Q (.bl (nameV v)) H
/-- rows, each a list or a tuple -/
def RkE (K : PySem.W.Frag) (H : Hp) (ws : List V) (R : Rk) : Prop := Paired (fun v r => ∃ q, v = V.ref q ∧ SqE K H q (r.map fun n => V.int (n : Nat))) ws R
theorem RkS.e {K : PySem.W.Frag} {H : Hp} {ws : List V} {R : Rk} (h : RkS H ws R) : RkE K H ws R := Paired.mapP h fun v r ⟨q, a, b⟩ => ⟨q, a, .inr (SqT.of b)⟩
end Bz
namespace Bz
open PySem PySem.Spec PyProof.Rows L2
/-! ### rows, tuples, while a list of them is made at D -/
theorem idx_get {s : PySem.Str} : ∀ {ns : List PySem.Str}, s ∈ ns → ns[ns.idxOf s]? = some s
  | n :: ns, h => by
    rw [List.idxOf_cons]
    by_cases e : (n == s) = true
    · rw [e]
      show some n = some s
      rw [beq_iff_eq.mp e]
    · rw [eq_false_of_ne_true e]
      show (n :: ns)[ns.idxOf s + 1]? = some s
      rw [List.getElem?_cons_succ]
      refine idx_get ((List.mem_cons.mp h).elim (fun z => ?_) id)
      exact absurd (by rw [z]; exact beq_self_eq_true n) e
theorem idx_lt {s : PySem.Str} {ns : List PySem.Str} (h : s ∈ ns) : ns.idxOf s < ns.length := List.idxOf_lt_length_of_mem h
theorem idx_min {s : PySem.Str} : ∀ {ns : List PySem.Str} {m : Nat}, m < ns.idxOf s → ns[m]? ≠ some s
  | [], m, h => by simp at h
  | n :: ns, m, h => by
    rw [List.idxOf_cons] at h
    by_cases e : (n == s) = true
    · rw [e] at h
      exact absurd h (Nat.not_lt_zero _)
    · rw [eq_false_of_ne_true e] at h
      have h' : m < ns.idxOf s + 1 := h
      cases m with
      | zero => exact fun z => e (by rw [Option.some.inj z]; exact beq_self_eq_true s)
      | succ m =>
        rw [List.getElem?_cons_succ]
        exact idx_min (by omega)
/-- t.index(s), t a tuple of texts -/
def rTupIndex (K : PySem.W.Frag) : V → List V → Hp → VK → Prop := fun x xs H Q => ∃ (p : Addr) (ys : List PySem.Str) (z : PySem.Str) (j : Nat), x = .ref p ∧ xs = [.str z] ∧ SqT K H p (ys.map V.str) ∧ ys[j]? = some z ∧ (∀ m, m < j → ys[m]? ≠ some z) ∧ Q (.int (j : Nat)) H
theorem kmt_tup_index (K : PySem.W.Frag) {X : Cx} (h : X.K = K := by rfl) : MtR X "tuple.index" (rTupIndex K) := by subst h; exact mt_tup_index
end Bz
namespace Bz
open PySem PySem.Spec PyProof.Rows L2
/-! ### a law's helpers for tallies -/
theorem IsTal.ext {C : Addr} {H H' : Hp} {t p : Addr} {c : Nat} {T : TalV} (h : IsTal C H t T) (s : Src H p c) (e : Ext p H H') : IsTal C H' t T := by
  obtain ⟨g, sd, k, hp, _⟩ := s
  have ne : ∀ {q : Addr} {o : HO}, H q = some o → o ≠ .lst [.int g, .int sd, .int k] → q ≠ p := fun {q o} h1 h2 z => by
    rw [z, hp] at h1
    exact h2 (Option.some.inj h1).symm
  obtain ⟨dx, a, b, ws, hI⟩ := h
  obtain ⟨u, hu, fu⟩ := hI.st
  refine ⟨dx, a, b, ws, e _ _ (ne hI.ins (by intro z; cases z)) hI.ins, ⟨u, e _ _ (ne hu (fu.nlst _)) hu, fu⟩, e _ _ (ne hI.rk (by intro z; cases z)) hI.rk, Paired.mapP hI.rows fun v r ⟨q, ev, hq⟩ => ⟨q, ev, e _ _ (ne hq (by intro z; cases z)) hq⟩⟩
theorem IsTal.go {C : Addr} {H H' : Hp} {t p : Addr} {c d : Nat} {T : TalV} (h : IsTal C H t T) (s : Src H p c) (g : Go p d H H') : IsTal C H' t T := h.ext s g.ext
/-! ### tallies while a list of them is made at D -/
/-- all but lists stays -/
def NL (H H' : Hp) : Prop := ∀ q o, H q = some o → (∀ xs, o ≠ .lst xs) → H' q = some o
theorem IsTal.nl {C : Addr} {H H' : Hp} {t : Addr} {T : TalV} (h : IsTal C H t T) (e : NL H H') : IsTal C H' t T := by
  obtain ⟨dx, a, b, ws, hI⟩ := h
  obtain ⟨u, hu, fu⟩ := hI.st
  exact ⟨dx, a, b, ws, e _ _ hI.ins (fun _ z => by cases z), ⟨u, e _ _ hu (fu.nlst), fu⟩, e _ _ hI.rk (fun _ z => by cases z), Paired.mapP hI.rows fun v r ⟨q, ev, hq⟩ => ⟨q, ev, e _ _ hq (fun _ z => by cases z)⟩⟩
/-- some tallies of these names -/
def Tals (C : Addr) (ns : List PySem.Str) (H : Hp) (acc : List V) (Ts : List TalV) : Prop := Paired (fun v T => ∃ t, v = V.ref t ∧ IsTal C H t T ∧ TalOk T ∧ ∀ k, k ∈ T.sts ↔ k ∈ ns) acc Ts
theorem Tals.nl {C : Addr} {ns : List PySem.Str} {H H' : Hp} {acc : List V} {Ts : List TalV} (h : Tals C ns H acc Ts) (e : NL H H') : Tals C ns H' acc Ts := Paired.mapP h fun v T ⟨t, a, b, c⟩ => ⟨t, a, b.nl e, c⟩
end Bz
namespace Bz
open PySem PySem.Spec PyProof.Rows L2
/-! ### names other than one -/
/-! ### settled tallies, and tallies repeated -/
section
variable {n : Nat} {A : Rk} (hs : putR n A A = A)
include hs
theorem set_le {i j r : Nat} (hi : i < n) (hj : j < n) : ent A i j ≤ r ↔ 3 ≤ r ∨ ∃ k, k < n ∧ ent A i k ≤ r ∧ ent A k j ≤ r := by
  have e : ent A i j = ent (putR n A A) i j := by rw [hs]
  rw [e]
  unfold putR
  rw [ent_mk hi hj]
  exact putE_le
end
/-! ### rows, lists, while a list of them is made at D -/
end Bz
namespace Bz
open PySem PySem.Spec PyProof.Rows L2
/-! ### what stands in the heap, lists and tuples within one another -/
mutual
inductive Nd (H : Hp) : V → PyData → Prop
  | non : Nd H .non .none
  | bl (b : Bool) : Nd H (.bl b) (.bool b)
  | int (i : Int) : Nd H (.int i) (.int i)
  | str (s : PySem.Str) (h : s.length ≤ 100000) : Nd H (.str s) (.str s)
  | lst {a : Addr} {xs : List V} {ds : List PyData} (e : H a = some (.lst xs)) (l : xs.length ≤ 1000) (h : NdAll H xs ds) : Nd H (.ref a) (.list ds)
  | tup {a : Addr} {xs : List V} {ds : List PyData} (e : H a = some (.tup xs)) (l : xs.length ≤ 1000) (h : NdAll H xs ds) : Nd H (.ref a) (.tuple ds)
  | dct {a : Addr} (e : H a = some (.dK [])) : Nd H (.ref a) (.dict [])
  | ftp {a : Addr} {xs : List V} {ds : List PyData} (e : FzT H a xs) (l : xs.length ≤ 1000) (h : NdAll H xs ds) : Nd H (.ref a) (.tuple ds)
inductive NdAll (H : Hp) : List V → List PyData → Prop
  | nil : NdAll H [] []
  | cons {v : V} {vs : List V} {d : PyData} {ds : List PyData} (a : Nd H v d) (r : NdAll H vs ds) : NdAll H (v :: vs) (d :: ds)
end
section
variable {H H' : Hp}
mutual
theorem Nd.same (s : Same H H') : ∀ (d : PyData) (v : V), Nd H v d → Nd H' v d
  | .none, _, .non => .non
  | .bool _, _, .bl b => .bl b
  | .int _, _, .int i => .int i
  | .str _, _, .str s h => .str s h
  | .list ds, _, .lst (xs := xs) e l h => .lst (s _ _ e) l (NdAll.same s ds xs h)
  | .tuple ds, _, .tup (xs := xs) e l h => .tup (s _ _ e) l (NdAll.same s ds xs h)
  | .dict _, _, .dct e => .dct (s _ _ e)
  | .tuple ds, _, .ftp (xs := xs) e l h => .ftp (e.on s) l (NdAll.same s ds xs h)
theorem NdAll.same (s : Same H H') : ∀ (ds : List PyData) (vs : List V), NdAll H vs ds → NdAll H' vs ds
  | [], _, .nil => .nil
  | d :: ds, _, .cons (v := v) (vs := vs) a r => .cons (Nd.same s d v a) (NdAll.same s ds vs r)
end
theorem NdAll.len {ds : List PyData} {vs : List V} (h : NdAll H vs ds) : vs.length = ds.length := by
  induction vs generalizing ds with
  | nil => cases h; rfl
  | cons v vs ih => cases h with | cons a r => simp [ih r]
end
def seqAt (H : Hp) (v : V) : Option (List V) := match v with
  | .ref a => match H a with
    | some (.lst xs) => some xs
    | some (.tup xs) => some xs
    | some (.frz _ (.tup xs)) => some xs
    | _ => none
  | _ => none
theorem FzT.seqAt {H : Hp} {a : Addr} {xs : List V} (h : FzT H a xs) : seqAt H (.ref a) = some xs := by
  obtain ⟨u, e, o, rfl, _⟩ := h
  unfold Bz.seqAt
  simp only [e]
def seqD : PyData → Option (List PyData)
  | .list xs => some xs
  | .tuple xs => some xs
  | _ => none
def markD : PyData → Bool
  | .str s => decide (s ∈ mkW)
  | _ => false
def strD : PyData → PySem.Str
  | .str s => s
  | _ => ""
def rowDD (d : PyData) (n : Nat) : Bool := match seqD d with
  | some xs => decide (xs.length = n) && xs.all markD
  | none => false
section
variable {H : Hp}
theorem Nd.kn {v : V} {d : PyData} (h : Nd H v d) : ∃ t, Kn H v t := by
  cases h with
  | non => exact ⟨_, .non⟩
  | bl b => exact ⟨_, .bl b⟩
  | int i => exact ⟨_, .int i⟩
  | str s h => exact ⟨_, .str s h⟩
  | lst e _ _ => exact ⟨_, .lst e⟩
  | tup e _ _ => exact ⟨_, .tup e⟩
  | dct e => exact ⟨_, .dct e⟩
  | ftp e _ _ => exact ⟨_, .ftp e⟩
theorem Nd.seq {v : V} {d : PyData} (h : Nd H v d) : (seqD d = none ∧ seqAt H v = none) ∨ ∃ xs ds, seqD d = some ds ∧ seqAt H v = some xs ∧ NdAll H xs ds ∧ xs.length ≤ 1000 := by
  cases h with
  | non => exact .inl ⟨rfl, rfl⟩
  | bl b => exact .inl ⟨rfl, rfl⟩
  | int i => exact .inl ⟨rfl, rfl⟩
  | str s h => exact .inl ⟨rfl, rfl⟩
  | lst e l h => exact .inr ⟨_, _, rfl, by unfold seqAt; simp only [e], h, l⟩
  | tup e l h => exact .inr ⟨_, _, rfl, by unfold seqAt; simp only [e], h, l⟩
  | dct e => exact .inl ⟨rfl, by unfold seqAt; simp only [e]⟩
  | ftp e l h => exact .inr ⟨_, _, rfl, e.seqAt, h, l⟩
theorem Nd.markV {v : V} {d : PyData} (h : Nd H v d) : markV v = markD d := by cases h <;> rfl
theorem Nd.strV {v : V} {d : PyData} (h : Nd H v d) : strV v = strD d := by cases h <;> rfl
theorem NdAll.all {f : V → Bool} {g : PyData → Bool} (fg : ∀ v d, Nd H v d → f v = g d) : ∀ {vs : List V} {ds : List PyData}, NdAll H vs ds → vs.all f = ds.all g
  | _, _, .nil => rfl
  | _, _, .cons a r => by simp only [List.all_cons, fg _ _ a, NdAll.all fg r]
theorem NdAll.strs : ∀ {vs : List V} {ds : List PyData}, NdAll H vs ds → vs.map Bz.strV = ds.map strD
  | _, _, .nil => rfl
  | _, _, .cons a r => by simp only [List.map_cons, a.strV, NdAll.strs r]
theorem Nd.row {v : V} {d : PyData} (h : Nd H v d) (n : Nat) : rowB (seqAt H v) n = rowDD d n := by
  unfold rowDD
  rcases h.seq with ⟨a, z⟩ | ⟨ys, ds, a, z, q, l⟩
  · rw [a, z]; rfl
  · rw [a, z]
    show (decide (ys.length = n) && ys.all Bz.markV) = _
    rw [q.len, q.all fun v d h => h.markV]
end
end Bz
namespace Bz
open PySem PySem.Spec PyProof.Rows L2
theorem kpe_fld (K : PySem.W.Frag) {X : Cx} {e : Expr} {f : PySem.Str} {pos : Pos} {ta : TE} (he : PE X e ta) (hb : attributeBase e f X.env (eval e X.env) = eval e X.env := by rfl) (h : X.K = K := by rfl) : PE X (.Attribute e f pos) (tFld K ta f) := by
  subst h
  exact pe_fld he hb
/-! ### rows and states that may be wrong -/
/-! ### the least mark between some states -/
/-! ### tallies of rows -/
def rankO : Option Int → Nat
  | none => 3
  | some n => if n = 0 then 0 else 1
end Bz
namespace Bz
open PySem PySem.Spec PyProof.Rows L2
/-! ### tallies of rows: the mathematics -/
def RowM (M : MachV) (ls : List PySem.Str) (R : Rk) : Prop := Sq4 M.sta.length R ∧ ∀ i j s u, M.sta[i]? = some s → M.sta[j]? = some u → ∃ o, LPr M.ars [s] [u] ls o ∧ ent R i j = rankO o
/-! ### a law's machine -/
/-! ### what is told of a row that is none -/
end Bz
namespace Bz
open PySem PySem.Spec PyProof.Rows L2
/-! ### a row many times over -/
section
variable {M : MachV} (f : MFine M) {w : List PySem.Str} {R : Rk} (hR : RowM M w R) (hs : putR M.sta.length R R = R)
include f hR hs
/-- a way of n steps of at most r -/
theorem walk_of {r : Nat} (r3 : r < 3) : ∀ (n i j : Nat), i < M.sta.length → j < M.sta.length → ent R i j ≤ r → ∃ g : Nat → Nat, g 0 = i ∧ g (n + 1) = j ∧ (∀ t, t ≤ n + 1 → g t < M.sta.length) ∧ ∀ t, t < n + 1 → ent R (g t) (g (t + 1)) ≤ r
  | 0, i, j, hi, hj, h => by
    refine ⟨fun t => if t = 0 then i else j, rfl, rfl, fun t _ => by dsimp only; split <;> assumption, fun t ht => ?_⟩
    have e : t = 0 := by omega
    subst e
    exact h
  | n + 1, i, j, hi, hj, h => by
    rcases (set_le hs hi hj).mp h with h | ⟨k, hk, h1, h2⟩
    · omega
    · obtain ⟨g, g0, gn, gl, gs⟩ := walk_of r3 n k j hk hj h2
      refine ⟨fun t => if t = 0 then i else g (t - 1), rfl, ?_, fun t ht => ?_, fun t ht => ?_⟩
      · show (if n + 1 + 1 = 0 then i else g (n + 1 + 1 - 1)) = j
        rw [if_neg (by omega)]
        exact gn
      · dsimp only
        split
        · exact hi
        · exact gl _ (by omega)
      · dsimp only
        by_cases e : t = 0
        · subst e
          rw [if_pos rfl, if_neg (by omega)]
          show ent R i (g 0) ≤ r
          rw [g0]
          exact h1
        · rw [if_neg e, if_neg (by omega)]
          have := gs (t - 1) (by omega)
          rw [show t - 1 + 1 = t + 1 - 1 by omega] at this
          exact this
end
/-! ### prices of the row many times over -/
end Bz
namespace Bz
open PySem PySem.Spec PyProof.Rows L2
/-! ### the law over rows many times over -/
/-! ### the law's claim about a pair of states -/
end Bz
namespace Bz
open PySem PySem.Spec PyProof.Rows L2
/-! ### x == y, x of an own class, y anything whose type is known -/
/-- other types are none of the class -/
structure KitN (K : PySem.W.Frag) (C : Addr) : Prop where
  a : PySem.W.isClsIn K C = true
  b : PySem.W.typeIn K (.ref C) = some (.type "type")
  c : PySem.W.subIn K (.type "str") (.ref C) = some false
  d : PySem.W.subIn K (.type "tuple") (.ref C) = some false
  e : PySem.W.subIn K (.type "NoneType") (.ref C) = some false
theorem KitN.of {K : PySem.W.Frag} {C : Addr} (k : KitN K C) {n : String} (h : PySem.W.subIn K (.type n) (.ref C) = some false) : PySem.W.kitOne K (.type n) (.ref C) = some false := by
  unfold PySem.W.kitOne
  rw [if_neg (by simp)]
  unfold PySem.W.kitCls
  have a := k.a
  unfold PySem.W.isClsIn at a
  simp only [a, k.b, Bool.true_and, beq_self_eq_true, if_true, h]
theorem KitN.s {K : PySem.W.Frag} {C : Addr} (k : KitN K C) : PySem.W.kitOne K (.type "str") (.ref C) = some false := k.of k.c
theorem KitN.t {K : PySem.W.Frag} {C : Addr} (k : KitN K C) : PySem.W.kitOne K (.type "tuple") (.ref C) = some false := k.of k.d
theorem KitN.n {K : PySem.W.Frag} {C : Addr} (k : KitN K C) : PySem.W.kitOne K (.type "NoneType") (.ref C) = some false := k.of k.e
/-! ### a list or a tuple taken apart -/
/-! ### arrows told as tuples or as lists -/
def ArO (H : Hp) (q : Addr) (x : Arw) : Prop := H q = some (.tup x.vals) ∨ H q = some (.lst x.vals)
def ArE (H : Hp) (vs : List V) (xs : List Arw) : Prop := Paired (fun v x => ∃ q, v = V.ref q ∧ ArO H q x) vs xs
theorem ArS.e {H : Hp} {vs : List V} {xs : List Arw} (h : ArS H vs xs) : ArE H vs xs := Paired.mapP h fun v x ⟨q, e, hq⟩ => ⟨q, e, .inl hq⟩
/-! ### machines compared -/
def dAr (x : Arw) : PyData := .tuple [.str x.s, .str x.l, .str x.t, .int x.c]
/-! ### what is told of a machine -/
/-- all but lists is kept -/
def KeepN (H H' : Hp) : Prop := ∀ b o, H b = some o → (∀ xs, o ≠ .lst xs) → H' b = some o
theorem KeepN.tup {H H' : Hp} {t : Addr} {xs : List V} (k : KeepN H H') (h : H t = some (.tup xs)) : H' t = some (.tup xs) := k _ _ h fun ys e => by cases e
theorem KeepN.ar {H H' : Hp} {ws : List V} {xs : List Arw} (k : KeepN H H') (h : ArS H ws xs) : ArS H' ws xs := Paired.mapP h fun v x ⟨q, e, hq⟩ => ⟨q, e, k.tup hq⟩
theorem MOf.all {M N : MachV} {xs : List Arw} {ss es : List PySem.Str} (h : MOf M xs ss es) (k : MOf N xs ss es) : M = N := by
  obtain ⟨e1, e2, e3⟩ := h.same k
  have e4 : M.sta = N.sta := asc_uniq h.sta.1 k.sta.1 fun z => by rw [h.sta.2, k.sta.2, e1]
  have e5 : M.lets = N.lets := asc_uniq h.lets.1 k.lets.1 fun z => by rw [h.lets.2, k.lets.2, e1]
  cases M
  cases N
  simp only at e1 e2 e3 e4 e5
  subst e1 e2 e3 e4 e5
  rfl
/-! ### lengths of texts put together -/
theorem joinL_le (S : List Nat) : ∀ xs : List (List Nat), (TL.joinL S xs).length ≤ (xs.map (·.length)).sum + xs.length * S.length
  | [] => by simp [TL.joinL]
  | [x] => by simp [TL.joinL]
  | x :: y :: xs => by
    have ih := joinL_le S (y :: xs)
    simp only [TL.joinL, List.length_append, List.map_cons, List.sum_cons, List.length_cons, Nat.succ_mul] at ih ⊢
    omega
theorem join_le (a : PySem.Str) (ys : List PySem.Str) : (Txt.join a ys).length ≤ (ys.map (·.length)).sum + ys.length * a.length := by
  rw [len_tl, TL.join_eq, TL.tl_join]
  refine Nat.le_trans (joinL_le _ _) ?_
  rw [List.map_map, List.length_map, len_tl a]
  exact Nat.le_of_eq rfl
end Bz
namespace Bz
open PySem PySem.Spec PyProof.Rows L2
/-! ### the law of machines told -/
end Bz
namespace Bz
open PySem PySem.Spec PyProof.Rows L2
/-! ### >= of tuples of texts -/
theorem strs_at {its : List Value} {xs : List PySem.Str} (r : Vals (xs.map V.str) its) : ∀ j (h : j < its.toArray.size), ∃ t, its.toArray[j] = .str (xs.getD j "") t := by
  induction xs generalizing its with
  | nil => cases r; intro j h; exact absurd h (by simp)
  | cons x xs ih =>
    cases r with
    | cons a b =>
      intro j h
      cases j with
      | zero =>
        obtain ⟨t, e⟩ := a
        exact ⟨t, by simpa using e⟩
      | succ j =>
        obtain ⟨t, e⟩ := ih b j (by simpa using h)
        exact ⟨t, by simpa using e⟩
/-! ### cls(e, ..), cls a local that holds the class -/
/-! ### C.m(e, ..), m a classmethod -/
/-! ### enumerate(xs, start=b), xs a list -/
/-! ### the text of a machine -/
theorem tl_sp : TL.tl (" " : PySem.Str) = [32] := by decide +kernel
theorem tl_nl : TL.tl ("\n" : PySem.Str) = [10] := by decide +kernel
theorem cps_nl : ("\n" : PySem.Str).cps.all (· < 256) = true := by decide +kernel
def costS (c : Int) : PySem.Str := PySem.Str.ofString (toString c)
def arP (x : Arw) : List PySem.Str := [x.s, x.l, x.t, costS x.c]
def arL (x : Arw) : PySem.Str := Txt.join " " (arP x)
def linesM (ss es : List PySem.Str) (xs : List Arw) : List PySem.Str := Txt.join " " ("start" :: ss) :: Txt.join " " ("end" :: es) :: xs.map arL
def textM (ss es : List PySem.Str) (xs : List Arw) : PySem.Str := Txt.join "\n" (linesM ss es xs)
theorem cost_tab : ∀ i : Fin 100, (costS ((i.val : Nat) : Int)).length ≤ 2 ∧ 1 ≤ (costS ((i.val : Nat) : Int)).length ∧ Txt.isascii (costS ((i.val : Nat) : Int)) = true ∧ Txt.isdigit (costS ((i.val : Nat) : Int)) = true ∧ PySem.intText? (costS ((i.val : Nat) : Int)) = some ((i.val : Nat) : Int) ∧ ((TL.tl (costS ((i.val : Nat) : Int))).all fun c => decide (48 ≤ c) && decide (c ≤ 57)) = true := by decide +kernel
structure CostS (c : Int) : Prop where
  l2 : (costS c).length ≤ 2
  l1 : 1 ≤ (costS c).length
  a : Txt.isascii (costS c) = true
  d : Txt.isdigit (costS c) = true
  i : PySem.intText? (costS c) = some c
  s : ∀ k ∈ TL.tl (costS c), 48 ≤ k ∧ k ≤ 57
theorem cost_ok {c : Int} (h0 : 0 ≤ c) (h1 : c ≤ 99) : CostS c := by
  obtain ⟨n, rfl⟩ : ∃ n : Nat, c = n := ⟨c.toNat, by omega⟩
  obtain ⟨a, b, d, e, f, g⟩ := cost_tab ⟨n, by omega⟩
  refine ⟨a, b, d, e, f, fun k hk => ?_⟩
  have := List.all_eq_true.mp g k hk
  simpa using this
theorem word_sg {s : PySem.Str} (h : ∀ c ∈ TL.tl s, Sg c) : (32 : Nat) ∉ TL.tl s ∧ (10 : Nat) ∉ TL.tl s := ⟨fun z => by have := (h _ z).1; omega, fun z => by have := (h _ z).1; omega⟩
theorem word_start : (32 : Nat) ∉ TL.tl ("start" : PySem.Str) ∧ (10 : Nat) ∉ TL.tl ("start" : PySem.Str) := by decide +kernel
theorem word_end : (32 : Nat) ∉ TL.tl ("end" : PySem.Str) ∧ (10 : Nat) ∉ TL.tl ("end" : PySem.Str) := by decide +kernel
def WordOk (s : PySem.Str) : Prop := (32 : Nat) ∉ TL.tl s ∧ (10 : Nat) ∉ TL.tl s
theorem arP_ok {x : Arw} (h : x.Ok) : ∀ p ∈ arP x, WordOk p := by
  intro p hp
  unfold arP at hp
  simp only [List.mem_cons, List.not_mem_nil, or_false] at hp
  rcases hp with rfl | rfl | rfl | rfl
  · exact word_sg h.s.2.2
  · exact word_sg h.l.2
  · exact word_sg h.t.2.2
  · have q := (cost_ok h.c0 h.c1).s
    exact ⟨fun z => by have := (q _ z).1; omega, fun z => by have := (q _ z).1; omega⟩
theorem joinL_mem {c : Nat} {S : List Nat} (hS : c ∉ S) : ∀ {xs : List (List Nat)}, (∀ p ∈ xs, c ∉ p) → c ∉ TL.joinL S xs
  | [], _ => by simp [TL.joinL]
  | [x], h => by simpa [TL.joinL] using h
  | x :: y :: xs, h => by
    have ih := joinL_mem hS (xs := y :: xs) fun p hp => h p (List.mem_cons_of_mem _ hp)
    intro z
    have z' : c ∈ x ++ S ++ TL.joinL S (y :: xs) := by
      first | exact z | (simpa only [TL.joinL, List.append_assoc] using z)
    rcases List.mem_append.mp z' with z | z
    · rcases List.mem_append.mp z with z | z
      · exact h x (List.mem_cons_self ..) z
      · exact hS z
    · exact ih z
theorem line_nl {ws : List PySem.Str} (h : ∀ p ∈ ws, WordOk p) : (10 : Nat) ∉ TL.tl (Txt.join " " ws) := by
  rw [TL.join_eq, TL.tl_join, tl_sp]
  refine joinL_mem (by decide) fun p hp => ?_
  obtain ⟨z, hz, rfl⟩ := List.mem_map.mp hp
  exact (h z hz).2
theorem line_len {ws : List PySem.Str} {n : Nat} (h : ∀ p ∈ ws, p.length ≤ n) : (Txt.join " " ws).length ≤ (n + 1) * ws.length := by
  refine Nat.le_trans (join_le _ _) ?_
  have lsp : ((" " : PySem.Str)).length = 1 := by decide +kernel
  have : ∀ {ws : List PySem.Str}, (∀ p ∈ ws, p.length ≤ n) → (ws.map (·.length)).sum ≤ n * ws.length := by
    intro ws
    induction ws with
    | nil => simp
    | cons s ls ih =>
      intro h
      have h1 := ih fun t ht => h t (List.mem_cons_of_mem _ ht)
      have h2 := h s (List.mem_cons_self ..)
      rw [List.map_cons, List.sum_cons, List.length_cons, Nat.mul_succ]
      omega
  have := this h
  rw [lsp, Nat.add_mul]
  omega
/-- what the lines of a text ask -/
structure TxtOk (ss es : List PySem.Str) (xs : List Arw) : Prop where
  ok : ∀ x ∈ xs, x.Ok
  sn : ∀ s ∈ ss, Nm s
  en : ∀ s ∈ es, Nm s
  xl : xs.length ≤ 400
  sl : ss.length ≤ 40
  el : es.length ≤ 40
  sa : Asc ss
  ea : Asc es
  xa : xs.Pairwise fun x y => lexK x.k3 y.k3 = true
theorem TxtOk.lines_ne {ss es : List PySem.Str} {xs : List Arw} (h : TxtOk ss es xs) : ∀ p ∈ linesM ss es xs, (10 : Nat) ∉ TL.tl p := by
  intro p hp
  unfold linesM at hp
  simp only [List.mem_cons, List.mem_map] at hp
  rcases hp with rfl | rfl | ⟨x, hx, rfl⟩
  · exact line_nl fun q hq => (List.mem_cons.mp hq).elim (fun e => by rw [e]; exact word_start) fun hq => word_sg (h.sn q hq).2.2
  · exact line_nl fun q hq => (List.mem_cons.mp hq).elim (fun e => by rw [e]; exact word_end) fun hq => word_sg (h.en q hq).2.2
  · exact line_nl (arP_ok (h.ok x hx))
theorem TxtOk.split {ss es : List PySem.Str} {xs : List Arw} (h : TxtOk ss es xs) : Txt.split (textM ss es xs) "\n" = linesM ss es xs := TL.split_join tl_nl cps_nl (by unfold linesM; simp) h.lines_ne
theorem arP_len {x : Arw} (h : x.Ok) : ∀ p ∈ arP x, p.length ≤ 8 := by
  intro p hp
  unfold arP at hp
  simp only [List.mem_cons, List.not_mem_nil, or_false] at hp
  rcases hp with rfl | rfl | rfl | rfl
  · exact h.s.2.1
  · have := h.l.1; omega
  · exact h.t.2.1
  · have := (cost_ok h.c0 h.c1).l2; omega
theorem arL_len {x : Arw} (h : x.Ok) : (arL x).length ≤ 36 := line_len (n := 8) (arP_len h)
theorem TxtOk.lines_len {ss es : List PySem.Str} {xs : List Arw} (h : TxtOk ss es xs) : ∀ p ∈ linesM ss es xs, p.length ≤ 369 := by
  have l5 : ("start" : PySem.Str).length = 5 := by decide +kernel
  have l3 : ("end" : PySem.Str).length = 3 := by decide +kernel
  intro p hp
  unfold linesM at hp
  simp only [List.mem_cons, List.mem_map] at hp
  have sl := h.sl
  have el := h.el
  rcases hp with rfl | rfl | ⟨x, hx, rfl⟩
  · refine Nat.le_trans (line_len (n := 8) fun q hq => (List.mem_cons.mp hq).elim (fun e => by rw [e, l5]; omega) fun hq => (h.sn q hq).2.1) ?_
    rw [List.length_cons]; omega
  · refine Nat.le_trans (line_len (n := 8) fun q hq => (List.mem_cons.mp hq).elim (fun e => by rw [e, l3]; omega) fun hq => (h.en q hq).2.1) ?_
    rw [List.length_cons]; omega
  · have := arL_len (h.ok x hx); omega
theorem sum_le {ws : List PySem.Str} {n : Nat} (h : ∀ p ∈ ws, p.length ≤ n) : (ws.map (·.length)).sum ≤ n * ws.length := by
  induction ws with
  | nil => simp
  | cons s ls ih =>
    have h1 := ih fun t ht => h t (List.mem_cons_of_mem _ ht)
    have h2 := h s (List.mem_cons_self ..)
    rw [List.map_cons, List.sum_cons, List.length_cons, Nat.mul_succ]
    omega
theorem linesM_len (ss es : List PySem.Str) (xs : List Arw) : (linesM ss es xs).length = xs.length + 2 := by unfold linesM; simp
theorem TxtOk.fit {ss es : List PySem.Str} {xs : List Arw} (h : TxtOk ss es xs) : ((linesM ss es xs).map (·.length)).sum + (linesM ss es xs).length * ("\n" : PySem.Str).length ≤ 200000 := by
  have l1 : ("\n" : PySem.Str).length = 1 := by decide +kernel
  have := sum_le h.lines_len
  rw [linesM_len] at this ⊢
  have := h.xl
  rw [l1]
  omega
theorem TxtOk.len {ss es : List PySem.Str} {xs : List Arw} (h : TxtOk ss es xs) : (textM ss es xs).length ≤ 200000 := Nat.le_trans (join_le _ _) h.fit
/-! ### what the readers promise -/
end Bz
namespace Bz
open PySem PySem.Spec PyProof.Rows L2
/-! ### several clauses, each with or without a name of its own -/
end Bz
namespace Bz
open PySem PySem.Spec PyProof.Rows L2
/-! ### sorted(xs), xs a list of texts of any length -/
/-! ### cls(e, ..) that may raise, C.m(e, ..) in a try -/
/-! ### lines read -/
def RdN (word l : PySem.Str) (ns : List PySem.Str) : Prop := Txt.split l " " = word :: ns ∧ (∀ s ∈ ns, Nm s) ∧ Asc ns
def RdA (l : PySem.Str) (x : Arw) : Prop := Txt.split l " " = arP x ∧ x.Ok
theorem RdN.uniq {w l : PySem.Str} {a b : List PySem.Str} (h : RdN w l a) (k : RdN w l b) : a = b := (List.cons.inj (h.1.symm.trans k.1)).2
theorem costS_inj {c d : Int} (h0 : 0 ≤ c) (h1 : c ≤ 99) (k0 : 0 ≤ d) (k1 : d ≤ 99) (e : costS c = costS d) : c = d := by
  have a := (cost_ok h0 h1).i
  rw [e, (cost_ok k0 k1).i] at a
  exact (Option.some.inj a).symm
theorem RdA.uniq {l : PySem.Str} {x y : Arw} (h : RdA l x) (k : RdA l y) : x = y := by
  have e := h.1.symm.trans k.1
  unfold arP at e
  obtain ⟨s, l1, t, c⟩ := x
  obtain ⟨s', l1', t', c'⟩ := y
  simp only [List.cons.injEq, and_true] at e
  obtain ⟨e1, e2, e3, e4⟩ := e
  have e5 := costS_inj h.2.c0 h.2.c1 k.2.c0 k.2.c1 e4
  simp only at e5
  rw [e1, e2, e3, e5]
/-- the lines of arrows read -/
structure GoodA (ls : List PySem.Str) (xs : List Arw) : Prop where
  rd : Paired RdA ls xs
  le : xs.length ≤ 400
  up : xs.Pairwise fun x y => lexK x.k3 y.k3 = true
theorem paired_takeA {α β : Type} {F : α → β → Prop} : ∀ {xs : List α} {ys : List β} (n : Nat), Paired F xs ys → Paired F (xs.take n) (ys.take n)
  | _, _, 0, _ => .nil
  | _, _, _ + 1, .nil => .nil
  | _, _, n + 1, .cons a r => .cons a (paired_takeA n r)
theorem GoodA.take {ls : List PySem.Str} {xs : List Arw} (h : GoodA ls xs) (n : Nat) : GoodA (ls.take n) (xs.take n) :=
  ⟨paired_takeA n h.rd, by have := h.le; rw [List.length_take]; omega, h.up.sublist (List.take_sublist n xs)⟩
theorem GoodA.uniq : ∀ {ls : List PySem.Str} {xs ys : List Arw}, Paired RdA ls xs → Paired RdA ls ys → xs = ys
  | _, _, _, .nil, .nil => rfl
  | _, _, _, .cons a r, .cons b q => by rw [a.uniq b, GoodA.uniq r q]
def Good (ls : List PySem.Str) : Prop := (∀ l, ls[0]? = some l → ∃ ss, RdN "start" l ss) ∧ (∀ l, ls[1]? = some l → ∃ es, RdN "end" l es) ∧ ∃ xs, GoodA (ls.drop 2) xs
theorem Good.take {ls : List PySem.Str} (h : Good ls) (n : Nat) : Good (ls.take n) := by
  obtain ⟨h0, h1, xs, h2⟩ := h
  have g : ∀ (i : Nat) (l : PySem.Str), (ls.take n)[i]? = some l → ls[i]? = some l := fun i l e => by
    rw [List.getElem?_take] at e
    split at e
    · exact e
    · cases e
  refine ⟨fun l e => h0 l (g 0 l e), fun l e => h1 l (g 1 l e), xs.take (n - 2), ?_⟩
  rw [List.drop_take]
  exact h2.take _
def StaOf (xs : List Arw) (ss es os : List PySem.Str) : Prop := Asc os ∧ ∀ k, k ∈ os ↔ (k ∈ ss ∨ k ∈ es ∨ ∃ x ∈ xs, k = x.s ∨ k = x.t)
theorem StaOf.uniq {xs : List Arw} {ss es os qs : List PySem.Str} (h : StaOf xs ss es os) (k : StaOf xs ss es qs) : os = qs := asc_uniq h.1 k.1 fun z => (h.2 z).trans (k.2 z).symm
def toldD (xs : List Arw) (ss es : List PySem.Str) : PyData := .tuple [.str "told", .tuple (xs.map dAr), .tuple (ss.map .str), .tuple (es.map .str)]
def lineD (n : Nat) : PyData := .tuple [.str "line", .int (n : Nat)]
def manyD (n : Nat) : PyData := .tuple [.str "many", .int (n : Nat)]
inductive Due : List PySem.Str → PyData → Prop
  | line {ls : List PySem.Str} {i : Nat} (lt : i < ls.length) (g : Good (ls.take i)) (b : ¬ Good (ls.take (i + 1))) : Due ls (lineD (i + 1))
  | one {ls : List PySem.Str} (l1 : ls.length = 1) (g : Good ls) : Due ls (lineD 2)
  | many {l0 l1 : PySem.Str} {r ss es os : List PySem.Str} {xs : List Arw} (h0 : RdN "start" l0 ss) (h1 : RdN "end" l1 es) (h2 : GoodA r xs) (h3 : StaOf xs ss es os) (h4 : 40 < os.length) : Due (l0 :: l1 :: r) (manyD os.length)
  | told {l0 l1 : PySem.Str} {r ss es os : List PySem.Str} {xs : List Arw} (h0 : RdN "start" l0 ss) (h1 : RdN "end" l1 es) (h2 : GoodA r xs) (h3 : StaOf xs ss es os) (h4 : os.length ≤ 40) : Due (l0 :: l1 :: r) (toldD xs ss es)
theorem good_ofA {l0 l1 : PySem.Str} {r ss es : List PySem.Str} {xs : List Arw} (h0 : RdN "start" l0 ss) (h1 : RdN "end" l1 es) (h2 : GoodA r xs) : Good (l0 :: l1 :: r) :=
  ⟨fun l e => ⟨ss, by rw [← Option.some.inj e]; exact h0⟩, fun l e => ⟨es, by rw [← Option.some.inj e]; exact h1⟩, xs, h2⟩
theorem good_all {ls : List PySem.Str} {i : Nat} (h : Good ls) (b : ¬ Good (ls.take (i + 1))) : False := b (h.take _)
theorem Due.uniq {ls : List PySem.Str} {d d' : PyData} (h : Due ls d) (k : Due ls d') : d = d' := by
  have key : ∀ {i j : Nat}, Good (ls.take i) → ¬ Good (ls.take (j + 1)) → i ≤ j := fun {i j} g b => by
    refine Nat.le_of_not_lt fun lt => b ?_
    have q := g.take (j + 1)
    rw [List.take_take, Nat.min_eq_left (by omega)] at q
    exact q
  cases h with
  | line lt g b =>
    cases k with
    | line lt' g' b' =>
      have e := Nat.le_antisymm (key g b') (key g' b)
      rw [e]
    | one l1 g' => exact (good_all g' b).elim
    | many h0 h1 h2 h3 h4 => exact (good_all (good_ofA h0 h1 h2) b).elim
    | told h0 h1 h2 h3 h4 => exact (good_all (good_ofA h0 h1 h2) b).elim
  | one l1 g =>
    cases k with
    | line lt' g' b' => exact (good_all g b').elim
    | one l1 g' => rfl
    | many h0 h1 h2 h3 h4 => simp at l1
    | told h0 h1 h2 h3 h4 => simp at l1
  | many h0 h1 h2 h3 h4 =>
    cases k with
    | line lt' g' b' => exact (good_all (good_ofA h0 h1 h2) b').elim
    | one l1 g' => simp at l1
    | many k0 k1 k2 k3 k4 =>
      obtain rfl := h0.uniq k0
      obtain rfl := h1.uniq k1
      obtain rfl := GoodA.uniq h2.rd k2.rd
      rw [h3.uniq k3]
    | told k0 k1 k2 k3 k4 =>
      obtain rfl := h0.uniq k0
      obtain rfl := h1.uniq k1
      obtain rfl := GoodA.uniq h2.rd k2.rd
      rw [h3.uniq k3] at h4
      omega
  | told h0 h1 h2 h3 h4 =>
    cases k with
    | line lt' g' b' => exact (good_all (good_ofA h0 h1 h2) b').elim
    | one l1 g' => simp at l1
    | many k0 k1 k2 k3 k4 =>
      obtain rfl := h0.uniq k0
      obtain rfl := h1.uniq k1
      obtain rfl := GoodA.uniq h2.rd k2.rd
      rw [h3.uniq k3] at h4
      omega
    | told k0 k1 k2 k3 k4 =>
      obtain rfl := h0.uniq k0
      obtain rfl := h1.uniq k1
      obtain rfl := GoodA.uniq h2.rd k2.rd
      rfl
end Bz
namespace Bz
open PySem PySem.Spec PyProof.Rows L2
/-! ### numbers as texts -/
/-! ### runs without a line's end -/
def RunB (l : List Nat) (m : Nat) : Prop := ∀ x, x <:+: l → (10 : Nat) ∉ x → x.length ≤ m
theorem RunB.sub {l k : List Nat} {m : Nat} (h : RunB l m) (s : k <:+: l) : RunB k m := fun x a b => h x (a.trans s) b
theorem infix_app {α : Type} {x a b : List α} (h : x <:+: a ++ b) : x <:+: a ∨ x <:+: b ∨ ∃ p q, x = p ++ q ∧ p <:+: a ∧ q <:+: b := by
  obtain ⟨s, t, e⟩ := h
  rw [List.append_assoc] at e
  rcases List.append_eq_append_iff.mp e with ⟨u, e1, e2⟩ | ⟨u, e1, e2⟩
  · -- s is ahead of a's end: a = s ++ u, x ++ t = u ++ b
    rcases List.append_eq_append_iff.mp e2 with ⟨v, e3, e4⟩ | ⟨v, e3, e4⟩
    · -- u = x ++ v
      exact .inl ⟨s, v, by rw [e1, e3, List.append_assoc]⟩
    · -- x = u ++ v, b = v ++ t
      exact .inr (.inr ⟨u, v, e3, ⟨s, [], by rw [e1, List.append_nil]⟩, ⟨[], t, by rw [e4, List.nil_append]⟩⟩)
  · -- s = a ++ u, b = u ++ (x ++ t)
    exact .inr (.inl ⟨u, t, by rw [e2, List.append_assoc]⟩)
theorem RunB.join : ∀ {ps : List (List Nat)} {m : Nat}, (∀ p ∈ ps, p.length ≤ m) → RunB (TL.joinL [10] ps) m
  | [], m, _ => fun x a _ => by
    have : x.length ≤ 0 := a.length_le
    omega
  | [p], m, h => fun x a _ => Nat.le_trans a.length_le (h p (List.mem_singleton.mpr rfl))
  | p :: q :: r, m, h => by
    have ih := RunB.join (ps := q :: r) fun z hz => h z (List.mem_cons_of_mem _ hz)
    intro x hx h10
    have hx' : x <:+: p ++ ([10] ++ TL.joinL [10] (q :: r)) := hx
    have pl := h p (List.mem_cons_self ..)
    have one : ∀ y, y <:+: [10] ++ TL.joinL [10] (q :: r) → (10 : Nat) ∉ y → y <:+: TL.joinL [10] (q :: r) := by
      intro y hy h
      rcases infix_app hy with z | z | ⟨u, v, rfl, hu, hv⟩
      · have : y = [] := by
          cases y with
          | nil => rfl
          | cons c y =>
            have := z.subset (List.mem_cons_self ..)
            rw [List.mem_singleton.mp this] at h
            exact absurd (List.mem_cons_self ..) h
        rw [this]
        exact List.nil_infix
      · exact z
      · have : u = [] := by
          cases u with
          | nil => rfl
          | cons c u =>
            have := hu.subset (List.mem_cons_self ..)
            rw [List.mem_singleton.mp this] at h
            exact absurd (List.mem_cons_self ..) h
        rw [this, List.nil_append]
        exact hv
    -- where x crosses, it holds 10 or stands on one side
    obtain ⟨s, t, e⟩ := hx'
    rw [List.append_assoc] at e
    rcases List.append_eq_append_iff.mp e with ⟨u, e1, e2⟩ | ⟨u, e1, e2⟩
    · rcases List.append_eq_append_iff.mp e2 with ⟨v, e3, e4⟩ | ⟨v, e3, e4⟩
      · have : x.length ≤ p.length := by rw [e1, e3]; simp; omega
        omega
      · cases v with
        | nil =>
          rw [List.append_nil] at e3
          have : x.length ≤ p.length := by rw [e1, e3]; simp
          omega
        | cons c v =>
          have e5 : [10] ++ TL.joinL [10] (q :: r) = c :: (v ++ t) := e4
          have : c = 10 := by
            have := (List.cons.inj e5).1
            exact this.symm
          rw [e3, this] at h10
          exact absurd (List.mem_append_right _ (List.mem_cons_self ..)) h10
    · exact ih x (one x ⟨u, t, by rw [List.append_assoc]; exact e2.symm⟩ h10) h10
/-! ### promises -/
end Bz
namespace Bz
open PySem PySem.Spec PyProof.Rows L2
/-! ### a row cut at a letter, and what stands between two of them -/
section
variable {α β : Type} [DecidableEq α] [DecidableEq β]
def cutG (l : α) : List α → List (List α)
  | [] => [[]]
  | x :: r => if x = l then [] :: cutG l r else ((x :: (cutG l r).headD []) :: (cutG l r).tail)
/-- what stands between two of them -/
def mids (l : α) (row : List α) : List (List α) := (cutG l row).tail.dropLast
end
end Bz
namespace Bz
open PySem PySem.Spec PyProof.Rows L2
/-! ### a machine set between two loops -/
/-! ### the gap machine -/
end Bz
namespace Bz
open PySem PySem.Spec PyProof.Rows L2
/-! ### the nested machine -/
/-- the letters' signs, the last one first; a row's price -/
def nv : List PySem.Str → List PySem.Str → Nat
  | [], _ => 0
  | l :: ls, row => match ls with
    | [] => cntL [l] row
    | _ :: _ => ((mids l row).map (nv ls)).foldl min (cntL [l] row)
end Bz
namespace Bz
open PySem PySem.Spec PyProof.Rows L2
/-! ### dicts whose keys are tuples of truth values -/
abbrev KB (H : Hp) : List (List Bool × V) → List (List Bool × Addr × Value) → Prop := Paired fun p q => p.1 = q.1 ∧ H q.2.1 = some (.tup (p.1.map V.bl)) ∧ RelV p.2 q.2.2
theorem KB.val {H : Hp} {kvs : List (List Bool × V)} {xs : List (List Bool × Addr × Value)} (r : KB H kvs xs) (k : List Bool) : RelO (valV kvs k) ((atKey xs k).map (·.2)) := by
  induction r with
  | nil => exact True.intro
  | @cons p q ps qs h t ih =>
    obtain ⟨h1, _, h2⟩ := h
    by_cases e : p.1 = k
    · have e' : q.1 = k := h1.symm.trans e
      have b : atKey (q :: qs) k = some q.2 := by simp [atKey, List.find?_cons, e']
      rw [valV_pos e, b]; exact h2
    · have e' : ¬ q.1 = k := fun z => e (h1.trans z)
      have b : atKey (q :: qs) k = atKey qs k := by simp [atKey, List.find?_cons, e']
      rw [valV_neg e, b]; exact ih
theorem KB.repl {H : Hp} {kvs : List (List Bool × V)} {xs : List (List Bool × Addr × Value)} (r : KB H kvs xs) (k : List Bool) {y : V} {u : Value} (ry : RelV y u) :
    KB H (kvs.map fun kv => if kv.1 = k then (kv.1, y) else kv) (xs.map (putAt k u)) := by
  induction r with
  | nil => exact .nil
  | @cons p q ps qs h t ih =>
    rw [List.map_cons, List.map_cons]
    refine .cons ?_ ih
    obtain ⟨h1, h2, h3⟩ := h
    unfold putAt
    by_cases e : p.1 = k
    · rw [if_pos e, if_pos (h1.symm.trans e)]; exact ⟨h1, h2, ry⟩
    · rw [if_neg e, if_neg (fun z => e (h1.trans z))]; exact ⟨h1, h2, h3⟩
theorem KB.put {H : Hp} {kvs : List (List Bool × V)} {xs : List (List Bool × Addr × Value)} (r : KB H kvs xs) (k : List Bool) {b : Addr} {y : V} {u : Value} (hb : H b = some (.tup (k.map V.bl))) (ry : RelV y u) :
    KB H (putK kvs k y) (storedH xs k b u) := by
  have e : (kvs.any fun kv => decide (kv.1 = k)) = (atKey xs k).isSome := by
    rw [valV_any, (r.val k).isSome_eq, Option.isSome_map]
  unfold putK storedH
  rw [e]
  by_cases q : (atKey xs k).isSome = true
  · rw [if_pos q, if_pos q]; exact r.repl k ry
  · rw [if_neg q, if_neg q]; exact Paired.snoc r ⟨rfl, hb, ry⟩
theorem KB.keeps {H H' : Hp} {kvs : List (List Bool × V)} {xs : List (List Bool × Addr × Value)} (r : KB H kvs xs) (ht : ∀ b ys, H b = some (.tup ys) → H' b = some (.tup ys)) : KB H' kvs xs :=
  Paired.mapP r fun _ _ z => ⟨z.1, ht _ _ z.2.1, z.2.2⟩
/-- the dict itself, by its entries -/
def dbo (P : Program) (w : World) (a : Addr) (xs : List (List Bool × Addr × Value)) : HO := .ext fun h => (a == sysModules) = false ∧
  ∃ o es ep, h.get? a = some o ∧ o.ExactDict ∧ o.data = .dict es ep ∧ es.toList = xs.map (entryOfKey (tupleKind (PpSet.boolK P w))) ∧ (xs.map (·.1)).Nodup
theorem dbo_ok {P : Program} {w : World} {H : Hp} {h : Heap} {a : Addr} {xs : List (List Bool × Addr × Value)} (hs : (a == sysModules) = false) (hd : ∃ o es ep, h.get? a = some o ∧ o.ExactDict ∧ o.data = .dict es ep ∧ es.toList = xs.map (entryOfKey (tupleKind (PpSet.boolK P w))) ∧ (xs.map (·.1)).Nodup) : ObjOk P w H h a (dbo P w a xs) := by
  obtain ⟨o, es, ep, h1, h2⟩ := hd
  refine ⟨⟨hs, o, es, ep, h1, h2⟩, ⟨o, h1⟩, fun g1 g2 ⟨q, o', es', ep', q1, q2⟩ k => ⟨q, o', es', ep', k o' q1, q2⟩⟩
/-- .. what it holds -/
def BD (P : Program) (w : World) (H : Hp) (a : Addr) (kvs : List (List Bool × V)) : Prop := kvs.length ≤ sizeLine ∧ ∃ xs, H a = some (dbo P w a xs) ∧ KB H kvs xs
section
variable {X : Cx} {pins : List (Addr × Obj)} {σ : L2.St} {H : Hp} {s : Shared} {a b : Addr} {k : List Bool} {kvs : List (List Bool × V)} {A : Around} {E : Value → Shared → Prop} {y d v : V} {u r : Value}
theorem items_bl {P : Program} {w : World} : ∀ {ks : List Bool} {us : List Value}, Vals (ks.map V.bl) us → ItemsAre (PpSet.boolK P w) ks us
  | [], _, r => by rw [List.map_nil] at r; cases r; exact .nil
  | k :: ks, _, r => by
    rw [List.map_cons] at r
    cases r with
    | cons h t =>
      cases h
      exact .cons (PpSet.boolK_is P w k) (items_bl t)
theorem key_bl {P : Program} {w : World} {h : Heap} {ks : List Bool} (ok : HOk P w H h) (e : H a = some (.tup (ks.map V.bl))) : (tupleKind (PpSet.boolK P w)).is h ks a := by
  obtain ⟨_, its, r, o, h1, h2, n, h3⟩ := (show ObjOk P w H h a (.tup (ks.map V.bl)) from ok a _ e)
  exact ⟨o, its.toArray, n, h1, h2, h3, by simpa using items_bl r⟩
theorem BD.at (ok : HOk X.prog X.w H s.heap) (g : BD X.prog X.w H a kvs) : kvs.length ≤ sizeLine ∧ (a == sysModules) = false ∧ ∃ xs, H a = some (dbo X.prog X.w a xs) ∧ KB H kvs xs ∧ s.heap.DictOfH (tupleKind (PpSet.boolK X.prog X.w)) a xs := by
  obtain ⟨z, xs, ea, r⟩ := g
  obtain ⟨⟨hs, o, es, ep, h1, h2, h3, h4, h5⟩, _, _⟩ := (show ObjOk X.prog X.w H s.heap a (dbo X.prog X.w a xs) from ok a _ ea)
  refine ⟨z, hs, xs, ea, r, o, es, ep, h1, h2, h3, h4, fun x hx => ?_, h5⟩
  have all : ∀ {l : List (List Bool × V)} {m : List (List Bool × Addr × Value)}, KB H l m → ∀ x ∈ m, (tupleKind (PpSet.boolK X.prog X.w)).is s.heap x.1 x.2.1 := by
    intro l m q
    induction q with
    | nil => intro x hx; exact nomatch hx
    | @cons p q ps qs hq t ih =>
      intro x hx
      rcases List.mem_cons.mp hx with e | hx
      · subst e
        exact key_bl ok (by rw [← hq.1]; exact hq.2.1)
      · exact ih x hx
  exact all r x hx
theorem db_type (I : Inv X pins σ H s) (g : BD X.prog X.w H a kvs) : s.TypeIs (.ref a) "dict" ∧ (∀ b, Value.ref a = .ref b → ∃ ob, s.heap.get? b = some ob ∧ ob.dict = none) := by
  obtain ⟨_, hd, xs, _, _, dd⟩ := g.at I.hok
  refine ⟨dd.typeIs, fun b q => ?_⟩
  cases q
  obtain ⟨ob, _, _, h1, h2, _⟩ := dd
  exact ⟨ob, h1, h2.2.1⟩
theorem db_get2 {Q : Value → Shared → Prop} (hu : A.units + 1 < cLine) (I : Inv X pins σ H s) (g : BD X.prog X.w H a kvs) (eb : H b = some (.tup (k.map V.bl))) (rd : RelV d r) (h : ∀ w' s', Inv X pins σ H s' → RelV ((valV kvs k).getD d) w' → Q w' s') :
    wpAny (model X.prog X.w) A (call (.builtin "dict.get") [.ref a, .ref b, r]) Q E s := by
  obtain ⟨z, hd, xs, _, rel, dd⟩ := g.at I.hok
  refine call_meetsIn PySem.F.slot_dict_get dd.typeIs PySem.F.entry_dict_get (PySem.F.args_dict_get_3 _ _ _) (meetsH_dict_get_default (tupleKind (PpSet.boolK X.prog X.w)) a b hd r) ⟨tupleKind_room_in1 hu, k, xs, key_bl I.hok eb, dd, h _ _ (I.tok _) ?_⟩
  exact (rel.val k).getD rd
/-- the heap behind d[y] = v -/
def DPutB (P : Program) (w : World) (H : Hp) (a b : Addr) (k : List Bool) (kvs : List (List Bool × V)) (v : V) (H' : Hp) : Prop := But a H H' ∧ BD P w H' a (putK kvs k v)
theorem db_set {Q : Unit → Shared → Prop} (hu : A.units + 1 < cLine) (I : Inv X pins σ H s) (g : BD X.prog X.w H a kvs) (hl : kvs.length < sizeLine) (eb : H b = some (.tup (k.map V.bl))) (rv : RelV v r) (h : ∀ H' s', Inv X pins σ H' s' → DPutB X.prog X.w H a b k kvs v H' → Q () s') :
    wpAny (model X.prog X.w) A (setItem (.ref a) (.ref b) r) Q E s := by
  obtain ⟨z, hd, xs, ea, rel, dd⟩ := g.at I.hok
  have hz : xs.length ≤ sizeLine := by rw [← Paired.length rel]; exact z
  have hl2 : (putK kvs k v).length ≤ sizeLine := by have := length_putK kvs k v; omega
  refine wpAny_setItem_heap (hsz := hz) (tupleKind_room_in1 hu) (key_bl I.hok eb) dd fun h' dd' hs => ?_
  obtain ⟨q, es, ep, hq, h2, h3, h4, _, h5⟩ := dd'
  refine h (upd H a (dbo X.prog X.w a (storedH xs k b r))) _ (d_write I (by rw [ea]; exact True.intro) hs ⟨q, hq⟩ (dbo_ok hd ⟨q, es, ep, hq, h2, h3, h4, h5⟩)) ⟨But.upd, hl2, _, upd_same, (rel.put k eb rv).keeps fun c ys ec => ?_⟩
  have hc : c ≠ a := fun e => by
    rw [e, ea] at ec
    exact nomatch (show dbo X.prog X.w a xs = .tup ys from Option.some.inj ec)
  rw [upd_ne hc]
  exact ec
end
section
variable {X : Cx} {o e f i value : Expr} {apos cpos pos pos' : Pos} {td ty tx tv : TE}
theorem pe_dnewB : PE X (.Dict [] [] pos) (fun _ H Q => ∀ p H', H p = none → But p H H' → BD X.prog X.w H' p [] → Q (.ref p) H') := ⟨fun pins s σ H Q I h => by
  refine wpAny_Dict_empty ⟨.ref s.heap.objs.size, upd H s.heap.objs.size (dbo X.prog X.w s.heap.objs.size []), I.laid (a := s.heap.objs.size) (t' := s.toks) (fun _ _ q => Heap.get?_push_of_some _ q) (Nat.le_refl _) (dbo_ok (beq_eq_false_iff_ne.mpr (Ne.symm (Nat.ne_of_lt I.big))) ⟨_, #[], 0, Heap.get?_push_size _ rfl, ⟨rfl, rfl, rfl⟩, rfl, rfl, List.nodup_nil⟩), rfl, h _ _ (I.hok.fresh (Nat.le_refl _)) But.upd ⟨Nat.zero_le _, [], upd_same, .nil⟩⟩⟩
def tDGetB (P : Program) (w : World) (td ty tx : TE) : TE := fun σ H Q => td σ H fun x H1 => ∃ a kvs, x = .ref a ∧ BD P w H1 a kvs ∧ ty σ H1 fun y H2 => tx σ H2 fun z H3 => ∃ b k kvs, BD P w H3 a kvs ∧ y = .ref b ∧ H3 b = some (.tup (k.map V.bl)) ∧ Q ((valV kvs k).getD z) H3
theorem pe_dgetB (hu : X.A.units + 1 < cLine) (ho : PE X o td) (he : PE X e ty) (hf : PE X f tx) (m : M2 X o "get" apos e f cpos) : PE X (.Call (.Attribute o "get" apos) [e, f] [] cpos) (tDGetB X.prog X.w td ty tx) := by
  refine ⟨fun pins s σ H Q I h => ?_⟩
  refine wpAny_Call_method m.base m.few m.line PySem.F.plainAttrs_dict PySem.F.slot_dict_get PySem.F.type_dict_get (thn (ho.run pins s σ H _ I h) fun u s1 ⟨x, H1, I1, rx, a, kvs, ex, d, q1⟩ => ?_)
  subst ex
  obtain rfl : u = Value.ref a := rx
  obtain ⟨t1, t2⟩ := db_type I1 d
  refine ⟨t1, t2, ?_⟩
  rw [m.trees]
  refine Calls.callWith_builtin rfl (Calls.evalArgs_plain (Calls.spliced_cons (thn (he.run pins s1 σ H1 _ I1 q1) fun iv s2 ⟨y, H2, I2, ry, q2⟩ =>
    Calls.spliced_cons (thn (hf.run pins s2 σ H2 _ I2 q2) fun fv s3 ⟨z, H3, I3, rz, b, k, kvs, g, ey, eb, q3⟩ => Calls.spliced_nil ?_))))
  subst ey
  obtain rfl : iv = Value.ref b := ry
  exact db_get2 hu I3 g eb rz fun w' s4 I4 rw' => ⟨_, H3, I4, rw', q3⟩
def sDPutB (P : Program) (w : World) (td ty tv : TE) : TS := fun D σ H => tv σ H fun v H1 => td σ H1 fun x H2 => ty σ H2 fun y H3 => ∃ a b k kvs, x = .ref a ∧ y = .ref b ∧ BD P w H3 a kvs ∧ kvs.length < sizeLine ∧ H3 b = some (.tup (k.map V.bl)) ∧ ∀ H4, DPutB P w H3 a b k kvs v H4 → D.nx σ H4
theorem ps_dputB (hu : X.A.units + 1 < cLine) (ho : PE X o td) (hi : PE X i ty) (hv : PE X value tv) (hs : swapsWith value (some (.Subscript o i pos')) pos.line X.env = pure false) :
    PS X (.Assign [.Subscript o i pos'] value pos) (sDPutB X.prog X.w td ty tv) := by
  refine ⟨fun pins s σ H D I h => ?_⟩
  refine wpAny_Assign_Subscript (thn (hv.run pins s σ H _ I h) fun r s1 ⟨v, H1, I1, rv, q1⟩ => thn (ho.run pins s1 σ H1 _ I1 q1) fun u s2 ⟨x, H2, I2, rx, q2⟩ => thn (hi.run pins s2 σ H2 _ I2 q2) fun iv s3 ⟨y, H3, I3, ry, a, b, k, kvs, ex, ey, g, hl, eb, q3⟩ => ?_) hs
  subst ex ey
  obtain rfl : u = Value.ref a := rx
  obtain rfl : iv = Value.ref b := ry
  exact db_set hu I3 g hl eb rv fun H4 s4 I4 z => ⟨σ, H4, I4, q3 H4 z⟩
end
/-! ### [*range(n)] -/
section
variable {X : Cx} {e : Expr} {es : List Expr} {te : L2.St → Hp → (Int → Int → Hp → Prop) → Prop} {t : TA} {p : Pos}
def tStarRg (te : L2.St → Hp → (Int → Int → Hp → Prop) → Prop) (t : TA) : TA := fun σ H Q => te σ H fun a b H1 => RgOk a b ∧ t σ H1 fun ys H2 => Q (rgV a b ++ ys) H2
theorem lookup_range_iter : typeLookup (.type "range") "__iter__" = pure (some (.builtin "range.__iter__")) := by
  rw [typeLookup_type, builtinLookup_eq_fast]
  kernel_rfl
theorem pa_starRg (hc : X.calm = true) (he : PRg X e te) (hr : PA X es t) (hs : starEach (.Starred e p :: es) X.env = (true, eval e X.env) :: starEach es X.env := by rfl) : PA X (.Starred e p :: es) (tStarRg te t) := by
  refine ⟨fun pos pins s σ H Q I h => ?_⟩
  refine PySem.W.items_star (thn (he pins s σ H _ I h) fun v s1 ⟨r, a, b, tt, u, vv, H1, ex, hr1, I1, ok, q⟩ => ?_) hs
  subst ex
  obtain ⟨b1, b2, b3, b4, b5⟩ := ok
  have z : wpAny (model X.prog X.w) X.A (collect (.ref r)) (fun us s2 => wpAny (model X.prog X.w) X.A (spliced (backTo pos (starEach es X.env))) (fun vs s3 => ∃ vs2 H', Inv X pins σ H' s3 ∧ Vals vs2 (us ++ vs) ∧ Q vs2 H') X.xe s2) X.xe s1 := by
    refine collect_range (n := (b - a).toNat) (I1.ok.hd hc) hr1 (small_one b1 b2 b3 b4) (rangeSize_nat a b) b5 fun h' tk acc hk hi => ?_
    exact thn (hr.run pos pins _ σ H1 _ (I1.kept (t' := tk) hk) q) fun ws s3 ⟨vs, H3, I3, r3, q3⟩ => ⟨_, H3, I3, (vals_rg hi).append r3, q3⟩
  have hT : s1.TypeIs (.ref r) "range" := ⟨_, hr1, rfl⟩
  unfold PySem.W.StarOf notIterableAtAll
  exact wpAny_bind (wpAny_specialOf hT lookup_range_iter (wpAny_pure ⟨rfl, wpAny_mono z (fun us s2 hz => wpAny_mono hz (fun vs s3 hq => hq) (fun _ _ z => z)) (fun _ _ z => z)⟩))
end
/-- sum of a list of ints -/
theorem ksum1 (K : PySem.W.Frag) {X : Cx} (hc : X.calm = true) (h : X.K = K := by rfl) : CallR X (.builtin "sum") (rSum K) := by subst h; exact cr_sum hc
end Bz
namespace Bz
open PySem PySem.Spec PyProof.Rows L2
/-! ### hunts: the levels behind a row -/
def minOpt : List Int → Option Int
  | [] => none
  | x :: xs => some (xs.foldl min x)
theorem foldl_minI : ∀ (xs : List Int) (m : Int), xs.foldl min m ≤ m ∧ (∀ x ∈ xs, xs.foldl min m ≤ x) ∧ (xs.foldl min m = m ∨ xs.foldl min m ∈ xs)
  | [], m => ⟨Int.le_refl m, fun x hx => (by cases hx), .inl rfl⟩
  | y :: ys, m => by
    obtain ⟨h1, h2, h3⟩ := foldl_minI ys (min m y)
    simp only [List.foldl_cons]
    refine ⟨by omega, fun x hx => ?_, ?_⟩
    · rcases List.mem_cons.mp hx with rfl | hx
      · omega
      · exact h2 x hx
    · rcases h3 with h3 | h3
      · rcases Int.le_total m y with c | c
        · exact .inl (by rw [h3]; omega)
        · refine .inr (List.mem_cons.mpr (.inl ?_))
          rw [h3]
          omega
      · exact .inr (List.mem_cons_of_mem _ h3)
theorem minOpt_least (xs : List Int) : LeastO (fun n => n ∈ xs) (minOpt xs) := by
  cases xs with
  | nil => exact fun n h => (by cases h)
  | cons x xs =>
    obtain ⟨h1, h2, h3⟩ := foldl_minI xs x
    refine ⟨?_, fun n hn => ?_⟩
    · rcases h3 with h | h
      · rw [h]
        exact List.mem_cons_self ..
      · exact List.mem_cons_of_mem _ h
    · rcases List.mem_cons.mp hn with rfl | hn
      · exact h1
      · exact h2 n hn
section
variable {A : List Arw} {S E L Q R : List PySem.Str} {num : Int} {u w y v : List PySem.Str} {l q : PySem.Str} {n : Int} {f g : PySem.Str → Option Int}
def Gt (A : List Arw) (S : List PySem.Str) (w : List PySem.Str) (q : PySem.Str) (n : Int) : Prop := ∃ a ∈ S, RunS A w a q n
theorem gt_nil : Gt A S [] q n ↔ q ∈ S ∧ n = 0 := by
  constructor
  · rintro ⟨a, ha, e1, e2⟩
    exact ⟨e1 ▸ ha, e2⟩
  · rintro ⟨h, rfl⟩
    exact ⟨q, h, rfl, rfl⟩
theorem gt_snoc : Gt A S (w ++ [l]) q n ↔ ∃ x ∈ A, x.l = l ∧ x.t = q ∧ ∃ m, Gt A S w x.s m ∧ n = m + x.c := by
  constructor
  · rintro ⟨a, ha, r⟩
    obtain ⟨x, hx, e1, e2, m, r2, e3⟩ := (run_snoc w a q n).mp r
    exact ⟨x, hx, e1, e2, m, ⟨a, ha, r2⟩, e3⟩
  · rintro ⟨x, hx, e1, e2, m, ⟨a, ha, r2⟩, e3⟩
    exact ⟨a, ha, (run_snoc w a q n).mpr ⟨x, hx, e1, e2, m, r2, e3⟩⟩
def Lst (A : List Arw) (S : List PySem.Str) (w : List PySem.Str) (f : PySem.Str → Option Int) : Prop := ∀ q, LeastO (Gt A S w q) (f q)
def nextF (A : List Arw) (l : PySem.Str) (f : PySem.Str → Option Int) : PySem.Str → Option Int := fun q => minOpt (A.filterMap fun x => if x.l = l ∧ x.t = q then (f x.s).map (· + x.c) else none)
theorem mem_nextL {k : Int} : k ∈ (A.filterMap fun x => if x.l = l ∧ x.t = q then (f x.s).map (· + x.c) else none) ↔ ∃ x ∈ A, x.l = l ∧ x.t = q ∧ ∃ b, f x.s = some b ∧ k = b + x.c := by
  rw [List.mem_filterMap]
  constructor
  · rintro ⟨x, hx, e⟩
    split at e
    · rename_i h
      obtain ⟨b, hb, e⟩ := Option.map_eq_some_iff.mp e
      exact ⟨x, hx, h.1, h.2, b, hb, e.symm⟩
    · cases e
  · rintro ⟨x, hx, e1, e2, b, hb, e⟩
    refine ⟨x, hx, ?_⟩
    rw [if_pos ⟨e1, e2⟩, hb, e]
    rfl
theorem Lst.next (h : Lst A S w f) (l : PySem.Str) : Lst A S (w ++ [l]) (nextF A l f) := fun q => by
  have m := minOpt_least (A.filterMap fun x => if x.l = l ∧ x.t = q then (f x.s).map (· + x.c) else none)
  show LeastO _ (minOpt _)
  cases hm : minOpt (A.filterMap fun x => if x.l = l ∧ x.t = q then (f x.s).map (· + x.c) else none) with
  | none =>
    rw [hm] at m
    rintro n r
    obtain ⟨x, hx, e1, e2, k, hk, e⟩ := gt_snoc.mp r
    have hq := h x.s
    cases hb : f x.s with
    | none =>
      rw [hb] at hq
      exact hq k hk
    | some b => exact m (b + x.c) (mem_nextL.mpr ⟨x, hx, e1, e2, b, hb, rfl⟩)
  | some c =>
    rw [hm] at m
    obtain ⟨x, hx, e1, e2, b, hb, e⟩ := mem_nextL.mp m.1
    have hq := h x.s
    rw [hb] at hq
    refine ⟨gt_snoc.mpr ⟨x, hx, e1, e2, b, hq.1, e⟩, fun n r => ?_⟩
    obtain ⟨x', hx', e1', e2', k, hk, e'⟩ := gt_snoc.mp r
    have hq' := h x'.s
    cases hb' : f x'.s with
    | none =>
      rw [hb'] at hq'
      exact absurd hk (hq' k)
    | some b' =>
      rw [hb'] at hq'
      have := m.2 (b' + x'.c) (mem_nextL.mpr ⟨x', hx', e1', e2', b', hb', rfl⟩)
      have := hq'.2 k hk
      omega
theorem Lst.start (S : List PySem.Str) : Lst A S [] (fun q => if q ∈ S then some 0 else none) := fun q => by
  by_cases c : q ∈ S
  · simp only [if_pos c]
    exact ⟨gt_nil.mpr ⟨c, rfl⟩, fun n h => by rw [(gt_nil.mp h).2]; exact Int.le_refl _⟩
  · simp only [if_neg c]
    exact fun n h => c (gt_nil.mp h).1
/-- the price by the levels -/
def priceF (E : List PySem.Str) (f : PySem.Str → Option Int) : Option Int := minOpt (E.filterMap f)
theorem Lst.price (h : Lst A S w f) : LPr A S E w (priceF E f) := by
  have m := minOpt_least (E.filterMap f)
  unfold priceF
  show LeastO _ _
  cases hm : minOpt (E.filterMap f) with
  | none =>
    rw [hm] at m
    rintro n ⟨s, hs, e, he, r⟩
    have hq := h e
    cases hb : f e with
    | none =>
      rw [hb] at hq
      exact hq n ⟨s, hs, r⟩
    | some b => exact m b (List.mem_filterMap.mpr ⟨e, he, hb⟩)
  | some c =>
    rw [hm] at m
    obtain ⟨e, he, hb⟩ := List.mem_filterMap.mp m.1
    have hq := h e
    rw [hb] at hq
    obtain ⟨⟨s, hs, r⟩, _⟩ := hq
    refine ⟨⟨s, hs, e, he, r⟩, ?_⟩
    rintro n ⟨s', hs', e', he', r'⟩
    have hq' := h e'
    cases hb' : f e' with
    | none =>
      rw [hb'] at hq'
      exact absurd ⟨s', hs', r'⟩ (hq' n)
    | some b' =>
      rw [hb'] at hq'
      have h1 := m.2 b' (List.mem_filterMap.mpr ⟨e', he', hb'⟩)
      have h2 := hq'.2 n ⟨s', hs', r'⟩
      omega
def Dear (A : List Arw) (S E : List PySem.Str) (num : Int) (w : List PySem.Str) : Prop := ∃ c, LPr A S E w (some c) ∧ num < c
theorem Dear.iff (h : Lst A S w f) : Dear A S E num w ↔ ∃ c, priceF E f = some c ∧ num < c := by
  constructor
  · rintro ⟨c, hc, k⟩
    exact ⟨c, LPr.uniq h.price hc, k⟩
  · rintro ⟨c, hc, k⟩
    exact ⟨c, by rw [← hc]; exact h.price, k⟩
/-- g is nowhere less than f, as far as num -/
def Dom (Q : List PySem.Str) (num : Int) (f g : PySem.Str → Option Int) : Prop := ∀ q ∈ Q, (f q = none ↔ g q = none) ∧ ∀ b b', f q = some b → g q = some b' → b ≤ b' ∨ num + 1 ≤ b'
theorem some_of_iff {a b : Option Int} (h : a = none ↔ b = none) {c : Int} (e : b = some c) : ∃ d, a = some d := by
  cases a with
  | none =>
    rw [h.mp rfl] at e
    cases e
  | some d => exact ⟨d, rfl⟩
theorem minOpt_none {xs : List Int} : minOpt xs = none ↔ xs = [] := by cases xs <;> simp [minOpt]
theorem Dom.next (hA : ∀ x ∈ A, x.s ∈ Q ∧ x.t ∈ Q ∧ 0 ≤ x.c) (d : Dom Q num f g) (l : PySem.Str) : Dom Q num (nextF A l f) (nextF A l g) := fun q hq => by
  have mf := minOpt_least (A.filterMap fun x => if x.l = l ∧ x.t = q then (f x.s).map (· + x.c) else none)
  have mg := minOpt_least (A.filterMap fun x => if x.l = l ∧ x.t = q then (g x.s).map (· + x.c) else none)
  refine ⟨?_, fun b b' hb hb' => ?_⟩
  · unfold nextF
    constructor
    · intro e
      rw [minOpt_none] at e ⊢
      refine List.eq_nil_iff_forall_not_mem.mpr fun k hk => ?_
      obtain ⟨x, hx, e1, e2, c, hc, _⟩ := mem_nextL.mp hk
      obtain ⟨c', hc'⟩ := some_of_iff (d x.s (hA x hx).1).1 hc
      have := mem_nextL.mpr ⟨x, hx, e1, e2, c', hc', rfl⟩
      rw [e] at this
      cases this
    · intro e
      rw [minOpt_none] at e ⊢
      refine List.eq_nil_iff_forall_not_mem.mpr fun k hk => ?_
      obtain ⟨x, hx, e1, e2, c, hc, _⟩ := mem_nextL.mp hk
      obtain ⟨c', hc'⟩ := some_of_iff (d x.s (hA x hx).1).1.symm hc
      have := mem_nextL.mpr ⟨x, hx, e1, e2, c', hc', rfl⟩
      rw [e] at this
      cases this
  · rw [show minOpt (A.filterMap fun x => if x.l = l ∧ x.t = q then (f x.s).map (· + x.c) else none) = some b from hb] at mf
    rw [show minOpt (A.filterMap fun x => if x.l = l ∧ x.t = q then (g x.s).map (· + x.c) else none) = some b' from hb'] at mg
    obtain ⟨x, hx, e1, e2, c', hc', e⟩ := mem_nextL.mp mg.1
    obtain ⟨h1, h2, h3⟩ := hA x hx
    obtain ⟨c, hc⟩ := some_of_iff (d x.s h1).1 hc'
    have h4 := mf.2 (c + x.c) (mem_nextL.mpr ⟨x, hx, e1, e2, c, hc, rfl⟩)
    rcases (d x.s h1).2 c c' hc hc' with h5 | h5
    · exact .inl (by omega)
    · exact .inr (by omega)
theorem dear_dom (hA : ∀ x ∈ A, x.s ∈ Q ∧ x.t ∈ Q ∧ 0 ≤ x.c) (hE : ∀ e ∈ E, e ∈ Q) : ∀ (v u y : List PySem.Str) (f g : PySem.Str → Option Int), Lst A S u f → Lst A S y g → Dom Q num f g → Dear A S E num (u ++ v) → Dear A S E num (y ++ v)
  | [], u, y, f, g, hf, hg, d, h => by
    rw [List.append_nil] at h ⊢
    obtain ⟨c, hc, k⟩ := (Dear.iff hf).mp h
    refine (Dear.iff hg).mpr ?_
    have mf := minOpt_least (E.filterMap f)
    have mg := minOpt_least (E.filterMap g)
    rw [show minOpt (E.filterMap f) = some c from hc] at mf
    obtain ⟨e, he, hb⟩ := List.mem_filterMap.mp mf.1
    obtain ⟨b', hb'⟩ := some_of_iff (d e (hE e he)).1.symm hb
    cases hm : minOpt (E.filterMap g) with
    | none =>
      have := minOpt_none.mp hm
      have hx : b' ∈ E.filterMap g := List.mem_filterMap.mpr ⟨e, he, hb'⟩
      rw [this] at hx
      cases hx
    | some c' =>
      refine ⟨c', hm, ?_⟩
      rw [hm] at mg
      obtain ⟨e2, he2, hc2⟩ := List.mem_filterMap.mp mg.1
      obtain ⟨b2, hb2⟩ := some_of_iff (d e2 (hE e2 he2)).1 hc2
      have := mf.2 b2 (List.mem_filterMap.mpr ⟨e2, he2, hb2⟩)
      rcases (d e2 (hE e2 he2)).2 b2 c' hb2 hc2 with h5 | h5 <;> omega
  | l :: v, u, y, f, g, hf, hg, d, h => by
    have e1 : u ++ l :: v = (u ++ [l]) ++ v := by simp
    have e2 : y ++ l :: v = (y ++ [l]) ++ v := by simp
    rw [e1] at h
    rw [e2]
    exact dear_dom hA hE v _ _ _ _ (hf.next l) (hg.next l) (d.next hA l) h
/-- the level of a price -/
def capL (num : Int) : Option Int → Int
  | none => num + 101
  | some c => if c ≤ num then c else num + 1
theorem capL_none {o : Option Int} : capL num o = num + 101 ↔ o = none := by
  cases o with
  | none => simp [capL]
  | some c =>
    simp only [capL, reduceCtorEq, iff_false]
    split <;> omega
def LvOf (Q : List PySem.Str) (num : Int) (f : PySem.Str → Option Int) : List Int := Q.map fun q => capL num (f q)
theorem dom_of {xs ys : List Int} (hx : xs = LvOf Q num f) (hy : ys = LvOf Q num g) (hp : xs.map (fun x => decide (x = num + 101)) = ys.map fun x => decide (x = num + 101)) (hle : ∀ (i : Nat) (a b : Int), xs[i]? = some a → ys[i]? = some b → a ≤ b) : Dom Q num f g := fun q hq => by
  obtain ⟨i, hi, e⟩ := List.getElem_of_mem hq
  have hxi : xs[i]? = some (capL num (f q)) := by rw [hx]; unfold LvOf; rw [List.getElem?_map, List.getElem?_eq_getElem hi, e]; rfl
  have hyi : ys[i]? = some (capL num (g q)) := by rw [hy]; unfold LvOf; rw [List.getElem?_map, List.getElem?_eq_getElem hi, e]; rfl
  have h1 := congrArg (fun l : List Bool => l[i]?) hp
  simp only [List.getElem?_map, hxi, hyi, Option.map_some, Option.some.injEq, decide_eq_decide] at h1
  refine ⟨by rw [← capL_none (num := num), h1, capL_none], fun b b' hb hb' => ?_⟩
  have h2 := hle i _ _ hxi hyi
  rw [hb, hb'] at h2
  simp only [capL] at h2
  split at h2 <;> split at h2 <;> omega
/-! ### ends to rest at -/
def RestH (A : List Arw) (E L R : List PySem.Str) : Prop := (∀ r ∈ R, r ∈ E) ∧ ∀ r ∈ R, ∀ l ∈ L, ∃ x ∈ A, x.s = r ∧ x.l = l ∧ x.t ∈ R ∧ x.c = 0
theorem run_word (hL : ∀ x ∈ A, x.l ∈ L) : ∀ (w : List PySem.Str) (a b : PySem.Str) (n : Int), RunS A w a b n → ∀ l ∈ w, l ∈ L
  | [], _, _, _, _, l, h => by cases h
  | l0 :: w, a, b, n, ⟨x, hx, _, e2, m, r, _⟩, l, h => by
    rcases List.mem_cons.mp h with rfl | h
    · exact e2 ▸ hL x hx
    · exact run_word hL w x.t b m r l h
theorem Dear.word (hL : ∀ x ∈ A, x.l ∈ L) (h : Dear A S E num w) : ∀ l ∈ w, l ∈ L := by
  obtain ⟨c, ⟨⟨s, _, e, _, r⟩, _⟩, _⟩ := h
  exact run_word hL w s e c r
theorem restH_run (hR : RestH A E L R) : ∀ (v u : List PySem.Str) (r : PySem.Str) (b : Int), r ∈ R → Gt A S u r b → (∀ l ∈ v, l ∈ L) → ∃ r' ∈ R, Gt A S (u ++ v) r' b
  | [], u, r, b, hr, h, _ => ⟨r, hr, by rw [List.append_nil]; exact h⟩
  | l :: v, u, r, b, hr, h, hv => by
    obtain ⟨x, hx, e1, e2, h3, h4⟩ := hR.2 r hr l (hv l (List.mem_cons_self ..))
    have := restH_run hR v (u ++ [l]) x.t b h3 (gt_snoc.mpr ⟨x, hx, e2, rfl, b, by rw [e1]; exact h, by omega⟩) fun k hk => hv k (List.mem_cons_of_mem _ hk)
    rw [List.append_assoc] at this
    exact this
theorem rest_low (hL : ∀ x ∈ A, x.l ∈ L) (hR : RestH A E L R) {r : PySem.Str} {b : Int} (hr : r ∈ R) (h : Gt A S u r b) (hb : b ≤ num) (v : List PySem.Str) : ¬ Dear A S E num (u ++ v) := fun hd => by
  have hw := hd.word hL
  obtain ⟨r', hr', a, ha, h'⟩ := restH_run hR v u r b hr h fun l hl => hw l (List.mem_append_right _ hl)
  obtain ⟨c, ⟨_, h2⟩, h3⟩ := hd
  have := h2 b ⟨a, ha, r', hR.1 r' hr', h'⟩
  omega
end
/-! ### shorter rows first, then in the order of the alphabet -/
def lexW : List PySem.Str → List PySem.Str → Prop
  | a :: u, b :: v => a.cps.toList < b.cps.toList ∨ (a = b ∧ lexW u v)
  | _, _ => False
def slt (u v : List PySem.Str) : Prop := u.length < v.length ∨ (u.length = v.length ∧ lexW u v)
theorem lexW_irr : ∀ u, ¬ lexW u u
  | [], h => h
  | a :: u, h => by
    rcases h with h | ⟨_, h⟩
    · exact List.lt_irrefl _ h
    · exact lexW_irr u h
theorem lexW_tr : ∀ {u v w : List PySem.Str}, lexW u v → lexW v w → lexW u w
  | a :: u, b :: v, c :: w, h, k => by
    rcases h with h | ⟨rfl, h⟩
    · rcases k with k | ⟨rfl, k⟩
      · exact .inl (List.lt_trans h k)
      · exact .inl h
    · rcases k with k | ⟨rfl, k⟩
      · exact .inl k
      · exact .inr ⟨rfl, lexW_tr h k⟩
  | [], _, _, h, _ => h.elim
  | _ :: _, [], _, h, _ => h.elim
  | _ :: _, _ :: _, [], _, k => k.elim
theorem slt_irr (u : List PySem.Str) : ¬ slt u u := fun h => h.elim (Nat.lt_irrefl _) fun h => lexW_irr u h.2
theorem slt_tr {u v w : List PySem.Str} (h : slt u v) (k : slt v w) : slt u w := by
  rcases h with h | ⟨e, h⟩
  · rcases k with k | ⟨e', k⟩
    · exact .inl (by omega)
    · exact .inl (by omega)
  · rcases k with k | ⟨e', k⟩
    · exact .inl (by omega)
    · exact .inr ⟨by omega, lexW_tr h k⟩
theorem lexW_app : ∀ {u v : List PySem.Str} (s t : List PySem.Str), lexW u v → lexW (u ++ s) (v ++ t)
  | a :: u, b :: v, s, t, h => by
    rcases h with h | ⟨rfl, h⟩
    · exact .inl h
    · exact .inr ⟨rfl, lexW_app s t h⟩
  | [], _, _, _, h => h.elim
  | _ :: _, [], _, _, h => h.elim
theorem slt_app {u v : List PySem.Str} {s t : List PySem.Str} (e : s.length = t.length) (h : slt u v) : slt (u ++ s) (v ++ t) := by
  unfold slt
  rw [List.length_append, List.length_append]
  rcases h with h | ⟨e', h⟩
  · exact .inl (by omega)
  · exact .inr ⟨by omega, lexW_app s t h⟩
theorem lexW_pre : ∀ (p : List PySem.Str) {u v : List PySem.Str}, lexW u v → lexW (p ++ u) (p ++ v)
  | [], _, _, h => h
  | a :: p, _, _, h => .inr ⟨rfl, lexW_pre p h⟩
theorem slt_last {p : List PySem.Str} {a b : PySem.Str} (h : a.cps.toList < b.cps.toList) : slt (p ++ [a]) (p ++ [b]) :=
  .inr ⟨by simp, lexW_pre p (.inl h)⟩
theorem slt_nil {w : List PySem.Str} (h : w ≠ []) : slt [] w := .inl (List.length_pos_iff.mpr h)
theorem exists_min {α : Type} {r : α → α → Prop} (tr : ∀ {a b c}, r a b → r b c → r a c) (ir : ∀ a, ¬ r a a) : ∀ l : List α, l ≠ [] → ∃ m ∈ l, ∀ x ∈ l, ¬ r x m
  | [], h => absurd rfl h
  | [a], _ => ⟨a, List.mem_singleton.mpr rfl, fun x hx => by rw [List.mem_singleton.mp hx]; exact ir a⟩
  | a :: b :: l, _ => by
    obtain ⟨m, hm, h⟩ := exists_min (r := r) tr ir (b :: l) (by simp)
    by_cases c : r a m
    · refine ⟨a, List.mem_cons_self .., fun x hx => ?_⟩
      rcases List.mem_cons.mp hx with rfl | hx
      · exact ir x
      · exact fun z => h x hx (tr z c)
    · refine ⟨m, List.mem_cons_of_mem _ hm, fun x hx => ?_⟩
      rcases List.mem_cons.mp hx with rfl | hx
      · exact c
      · exact h x hx
/-- all rows of a length -/
def wordsN (L : List PySem.Str) : Nat → List (List PySem.Str)
  | 0 => [[]]
  | n + 1 => (wordsN L n).flatMap fun w => L.map fun l => w ++ [l]
theorem mem_wordsN {L : List PySem.Str} : ∀ {n : Nat} {w : List PySem.Str}, w ∈ wordsN L n ↔ w.length = n ∧ ∀ l ∈ w, l ∈ L
  | 0, w => by
    simp only [wordsN, List.mem_singleton]
    constructor
    · rintro rfl
      exact ⟨rfl, fun l h => (by cases h)⟩
    · rintro ⟨h, _⟩
      exact List.length_eq_zero_iff.mp h
  | n + 1, w => by
    simp only [wordsN, List.mem_flatMap, List.mem_map]
    constructor
    · rintro ⟨v, hv, l, hl, rfl⟩
      obtain ⟨h1, h2⟩ := mem_wordsN.mp hv
      refine ⟨by simp [h1], fun k hk => ?_⟩
      rcases List.mem_append.mp hk with h | h
      · exact h2 k h
      · rw [List.mem_singleton.mp h]
        exact hl
    · rintro ⟨h1, h2⟩
      have ne : w ≠ [] := fun e => by rw [e] at h1; cases h1
      refine ⟨w.dropLast, mem_wordsN.mpr ⟨by rw [List.length_dropLast, h1]; rfl, fun l hl => h2 l (List.dropLast_subset _ hl)⟩, w.getLast ne, h2 _ (List.getLast_mem ne), List.dropLast_concat_getLast ne⟩
section
variable {A : List Arw} {S E L : List PySem.Str} {num : Int}
/-- a least dear row below a bound -/
theorem dear_min (hL : ∀ x ∈ A, x.l ∈ L) (P : List PySem.Str → Prop) (down : ∀ {a b}, slt a b → P b → P a) {w : List PySem.Str} (hw : Dear A S E num w) (hp : P w) : ∃ m, Dear A S E num m ∧ P m ∧ ∀ x, slt x m → ¬ Dear A S E num x := by
  classical
  let cand := ((List.range (w.length + 1)).flatMap (wordsN L)).filter fun x => decide (Dear A S E num x ∧ P x)
  have mem : ∀ x, x ∈ cand ↔ (x.length ≤ w.length ∧ ∀ l ∈ x, l ∈ L) ∧ Dear A S E num x ∧ P x := fun x => by
    simp only [cand, List.mem_filter, List.mem_flatMap, List.mem_range, mem_wordsN, decide_eq_true_eq]
    constructor
    · rintro ⟨⟨n, hn, h1, h2⟩, h⟩
      exact ⟨⟨by omega, h2⟩, h⟩
    · rintro ⟨⟨h1, h2⟩, h⟩
      exact ⟨⟨x.length, by omega, rfl, h2⟩, h⟩
  have hm := (mem w).mpr ⟨⟨Nat.le_refl _, hw.word hL⟩, hw, hp⟩
  obtain ⟨m, h1, h2⟩ := exists_min (r := slt) slt_tr slt_irr cand (fun e => by rw [e] at hm; cases hm)
  obtain ⟨⟨ml, _⟩, md, mp⟩ := (mem m).mp h1
  refine ⟨m, md, mp, fun x hx hd => h2 x ((mem x).mpr ⟨⟨?_, hd.word hL⟩, hd, down hx mp⟩) hx⟩
  rcases hx with h | ⟨h, _⟩ <;> omega
def Useless (A : List Arw) (S E : List PySem.Str) (num : Int) (u : List PySem.Str) : Prop := ∀ v, Dear A S E num (u ++ v) → ∃ y, slt y u ∧ Dear A S E num (y ++ v)
/-- what has been offered: [] and the rows of T with one letter more, as far as the k-th letter of the row at -/
def Offd (L : List PySem.Str) (T : List (List PySem.Str)) (at_ k : Nat) (w : List PySem.Str) : Prop := w = [] ∨ (∃ i t, i < at_ ∧ T[i]? = some t ∧ ∃ l ∈ L, w = t ++ [l]) ∨ ∃ t j l, T[at_]? = some t ∧ j < k ∧ L[j]? = some l ∧ w = t ++ [l]
theorem off_lt {T : List (List PySem.Str)} {at_ k : Nat} {w t : List PySem.Str} {l : PySem.Str} (aL : Asc L) (sT : T.Pairwise slt) (h : Offd L T at_ k w) (ht : T[at_]? = some t) (hl : L[k]? = some l) : slt w (t ++ [l]) := by
  rcases h with rfl | ⟨i, t', hi, ht', l', hl', rfl⟩ | ⟨t', j, l', ht', hj, hl', rfl⟩
  · exact slt_nil (by simp)
  · have h1 : i < T.length := (List.getElem?_eq_some_iff.mp ht').1
    have h2 : at_ < T.length := (List.getElem?_eq_some_iff.mp ht).1
    have := List.pairwise_iff_getElem.mp sT i at_ h1 h2 hi
    rw [(List.getElem?_eq_some_iff.mp ht').2, (List.getElem?_eq_some_iff.mp ht).2] at this
    exact slt_app rfl this
  · rw [ht] at ht'
    cases ht'
    have h1 : j < L.length := (List.getElem?_eq_some_iff.mp hl').1
    have h2 : k < L.length := (List.getElem?_eq_some_iff.mp hl).1
    have := List.pairwise_iff_getElem.mp aL j k h1 h2 hj
    rw [(List.getElem?_eq_some_iff.mp hl').2, (List.getElem?_eq_some_iff.mp hl).2] at this
    exact slt_last this
/-- nothing left to follow: no row is dear -/
theorem bfs_none (hL : ∀ x ∈ A, x.l ∈ L) {T : List (List PySem.Str)} (off : ∀ w, (w = [] ∨ ∃ t ∈ T, ∃ l ∈ L, w = t ++ [l]) → ¬ Dear A S E num w ∧ (w ∈ T ∨ Useless A S E num w)) : ∀ w, ¬ Dear A S E num w := fun w hw => by
  obtain ⟨m, hm, _, least⟩ := dear_min hL (fun _ => True) (fun _ _ => trivial) hw trivial
  have pre : ∀ (n : Nat) (p s : List PySem.Str), p.length = n → m = p ++ s → (p = [] ∨ ∃ t ∈ T, ∃ l ∈ L, p = t ++ [l]) := by
    intro n
    induction n with
    | zero => intro p s hp _; exact .inl (List.length_eq_zero_iff.mp hp)
    | succ n ih =>
      intro p s hp e
      have ne : p ≠ [] := fun z => by rw [z] at hp; cases hp
      have ep := (List.dropLast_concat_getLast ne).symm
      have e2 : m = p.dropLast ++ (p.getLast ne :: s) := by
        rw [e]
        conv => lhs; rw [ep]
        simp
      have h1 := ih p.dropLast (p.getLast ne :: s) (by rw [List.length_dropLast, hp]; rfl) e2
      have hl : p.getLast ne ∈ L := hm.word hL _ (by rw [e2]; simp)
      rcases (off _ h1).2 with h2 | h2
      · exact .inr ⟨_, h2, _, hl, ep⟩
      · obtain ⟨y, hy, hd⟩ := h2 (p.getLast ne :: s) (e2 ▸ hm)
        exact absurd hd (least _ (by rw [e2]; exact slt_app rfl hy))
  exact (off m (pre m.length m [] rfl (by simp))).1 hm
/-- a dear row: none ahead of it is dear -/
theorem bfs_found (hL : ∀ x ∈ A, x.l ∈ L) {T : List (List PySem.Str)} {u : List PySem.Str} {O : List PySem.Str → Prop} (hu : u ≠ []) (h0 : O []) (off : ∀ w, O w → ¬ Dear A S E num w ∧ (w ∈ T ∨ Useless A S E num w)) (more : ∀ t ∈ T, ∀ l ∈ L, slt (t ++ [l]) u → O (t ++ [l])) : ∀ w, slt w u → ¬ Dear A S E num w := fun w hlt hw => by
  obtain ⟨m, hm, hmu, least⟩ := dear_min hL (fun x => slt x u) (fun a b => slt_tr a b) hw hlt
  have pre : ∀ (n : Nat) (p s : List PySem.Str), p.length = n → m = p ++ s → O p := by
    intro n
    induction n with
    | zero => intro p s hp _; rw [List.length_eq_zero_iff.mp hp]; exact h0
    | succ n ih =>
      intro p s hp e
      have ne : p ≠ [] := fun z => by rw [z] at hp; cases hp
      have ep := (List.dropLast_concat_getLast ne).symm
      have e2 : m = p.dropLast ++ (p.getLast ne :: s) := by
        rw [e]
        conv => lhs; rw [ep]
        simp
      have h1 := ih p.dropLast (p.getLast ne :: s) (by rw [List.length_dropLast, hp]; rfl) e2
      have hl : p.getLast ne ∈ L := hm.word hL _ (by rw [e2]; simp)
      have pu : slt p u := by
        cases s with
        | nil =>
          rw [List.append_nil] at e
          rw [← e]
          exact hmu
        | cons a s =>
          refine .inl ?_
          have : p.length < m.length := by rw [e]; simp
          rcases hmu with h | ⟨h, _⟩ <;> omega
      rcases (off _ h1).2 with h2 | h2
      · rw [ep]
        exact more _ h2 _ hl (by rw [← ep]; exact pu)
      · obtain ⟨y, hy, hd⟩ := h2 (p.getLast ne :: s) (e2 ▸ hm)
        exact absurd hd (least _ (by rw [e2]; exact slt_app rfl hy))
  exact (off m (pre m.length m [] rfl (by simp))).1 hm
end
end Bz
namespace Bz
open PySem PySem.Spec PyProof.Rows L2
/-! ### the places a letter leads from, for each state -/
abbrev WayS (H : Hp) (vs : List V) (ws : List (Nat × Int)) : Prop := Paired (fun v p => ∃ r, v = V.ref r ∧ H r = some (.tup [.int (p.1 : Nat), .int p.2])) vs ws
theorem WayS.same {H H' : Hp} {vs : List V} {ws : List (Nat × Int)} (h : WayS H vs ws) (e : Same H H') : WayS H' vs ws := Paired.mapP h fun v m ⟨q, ev, hq⟩ => ⟨q, ev, e _ _ hq⟩
theorem WayS.upd {H : Hp} {a : Addr} {us ys : List V} {vs : List V} {ws : List (Nat × Int)} (h : WayS H vs ws) (ha : H a = some (.lst us)) : WayS (upd H a (.lst ys)) vs ws := Paired.mapP h fun v m ⟨q, ev, hq⟩ => ⟨q, ev, by
  rw [upd_ne]
  · exact hq
  · intro e
    rw [e, ha] at hq
    cases hq⟩
def SrcL (H : Hp) (a : Addr) (zz : List (List (Nat × Int))) : Prop := ∃ as : List Addr, H a = some (.lst (as.map V.ref)) ∧ Paired (fun q ws => ∃ vs, H q = some (.lst vs) ∧ WayS H vs ws) as zz
theorem SrcL.same {H H' : Hp} {a : Addr} {zz : List (List (Nat × Int))} (h : SrcL H a zz) (e : Same H H') : SrcL H' a zz := by
  obtain ⟨as, h1, h2⟩ := h
  exact ⟨as, e _ _ h1, Paired.mapP h2 fun q ws ⟨vs, k1, k2⟩ => ⟨vs, e _ _ k1, k2.same e⟩⟩
def waysTo (A : List Arw) (Q : List PySem.Str) (l q : PySem.Str) : List (Nat × Int) := (A.filter fun x => decide (x.l = l ∧ x.t = q)).map fun x => (Q.idxOf x.s, x.c)
def waysOf (A : List Arw) (Q : List PySem.Str) (l : PySem.Str) : List (List (Nat × Int)) := Q.map (waysTo A Q l)
/-- .. while they are put together -/
structure SrcI (H H' : Hp) (D : Addr) (as : List Addr) (Q : List PySem.Str) (g : PySem.Str → List (Nat × Int)) : Prop where
  d : H' D = some (.lst (as.map V.ref))
  nd : as.Nodup
  fr : ∀ a ∈ as, H a = none
  nD : D ∉ as
  len : as.length = Q.length
  each : ∀ (i : Nat) (a : Addr) (s : PySem.Str), as[i]? = some a → Q[i]? = some s → ∃ vs, H' a = some (.lst vs) ∧ WayS H' vs (g s)
  same : Same H H'
  dn : H D = none
theorem SrcI.put {H H' : Hp} {D : Addr} {as : List Addr} {Q : List PySem.Str} {g : PySem.Str → List (Nat × Int)} (h : SrcI H H' D as Q g) (nq : Q.Nodup) {i : Nat} {a r : Addr} {s : PySem.Str} {p : Nat} {c : Int} {vs : List V} (ha : as[i]? = some a) (hs : Q[i]? = some s) (hr : H' r = some (.tup [.int (p : Nat), .int c])) (hv : H' a = some (.lst vs)) :
    SrcI H (upd H' a (.lst (vs ++ [.ref r]))) D as Q (fun z => if z = s then g z ++ [(p, c)] else g z) := by
  have na : H a = none := h.fr a (List.mem_of_getElem? ha)
  refine ⟨?_, h.nd, h.fr, h.nD, h.len, ?_, same_mut h.same na, h.dn⟩
  · rw [upd_ne]
    · exact h.d
    · intro e
      exact h.nD (e ▸ List.mem_of_getElem? ha)
  · intro j b t hb ht
    obtain ⟨us, k1, k2⟩ := h.each j b t hb ht
    by_cases e : j = i
    · subst e
      rw [ha] at hb
      cases hb
      rw [hs] at ht
      cases ht
      rw [hv] at k1
      cases k1
      refine ⟨_, upd_same, ?_⟩
      rw [if_pos rfl]
      refine paired_snoc (k2.upd hv) ⟨r, rfl, ?_⟩
      rw [upd_ne]
      · exact hr
      · intro e
        rw [e, hv] at hr
        cases hr
    · have nb : b ≠ a := fun z => by
        subst z
        have h1 := (List.getElem?_eq_some_iff.mp ha).1
        have h2 := (List.getElem?_eq_some_iff.mp hb).1
        exact e ((List.getElem?_inj h2 h.nd).mp (hb.trans ha.symm))
      have nt : ¬ t = s := fun z => by
        subst z
        have h2 := (List.getElem?_eq_some_iff.mp ht).1
        exact e ((List.getElem?_inj h2 nq).mp (ht.trans hs.symm))
      refine ⟨us, (upd_ne nb).trans k1, ?_⟩
      rw [if_neg nt]
      exact k2.upd hv
theorem SrcI.keep {H H' H2 : Hp} {D : Addr} {as : List Addr} {Q : List PySem.Str} {g : PySem.Str → List (Nat × Int)} (h : SrcI H H' D as Q g) (e : Same H' H2) : SrcI H H2 D as Q g :=
  ⟨e _ _ h.d, h.nd, h.fr, h.nD, h.len, fun i a s x y => by
    obtain ⟨vs, k1, k2⟩ := h.each i a s x y
    exact ⟨vs, e _ _ k1, k2.same e⟩, h.same.trans e, h.dn⟩
/-- .. new behind H -/
def SrcN (H H' : Hp) (a : Addr) (zz : List (List (Nat × Int))) : Prop := H a = none ∧ ∃ as : List Addr, H' a = some (.lst (as.map V.ref)) ∧ (∀ q ∈ as, H q = none) ∧ Paired (fun q ws => ∃ vs, H' q = some (.lst vs) ∧ WayS H' vs ws) as zz
theorem SrcN.old {H0 H H' : Hp} {a : Addr} {zz : List (List (Nat × Int))} (h : SrcN H H' a zz) (e : Same H0 H) : SrcN H0 H' a zz := by
  obtain ⟨h0, as, h1, h2, h3⟩ := h
  exact ⟨e.free h0, as, h1, fun q hq => e.free (h2 q hq), h3⟩
theorem SrcN.l {H H' : Hp} {a : Addr} {zz : List (List (Nat × Int))} (h : SrcN H H' a zz) : SrcL H' a zz := by
  obtain ⟨_, as, h1, _, h3⟩ := h
  exact ⟨as, h1, h3⟩
theorem paired_left {α β : Type} {R : α → β → Prop} : ∀ {as : List α} {bs : List β}, Paired R as bs → Paired (fun a b => a ∈ as ∧ R a b) as bs
  | _, _, .nil => .nil
  | _, _, .cons h t => .cons ⟨List.mem_cons_self .., h⟩ (Paired.mapP (paired_left t) fun _ _ ⟨h1, h2⟩ => ⟨List.mem_cons_of_mem _ h1, h2⟩)
theorem SrcI.done {H H' : Hp} {D : Addr} {as : List Addr} {Q : List PySem.Str} {g : PySem.Str → List (Nat × Int)} (h : SrcI H H' D as Q g) : SrcN H H' D (Q.map g) := by
  refine ⟨h.dn, as, h.d, h.fr, ?_⟩
  have key : ∀ (as : List Addr) (Q : List PySem.Str), as.length = Q.length → (∀ (i : Nat) a s, as[i]? = some a → Q[i]? = some s → ∃ vs, H' a = some (.lst vs) ∧ WayS H' vs (g s)) → Paired (fun q ws => ∃ vs, H' q = some (.lst vs) ∧ WayS H' vs ws) as (Q.map g) := by
    intro as
    induction as with
    | nil =>
      intro Q hl _
      have : Q = [] := List.length_eq_zero_iff.mp hl.symm
      subst this
      exact .nil
    | cons a as ih =>
      intro Q hl he
      cases Q with
      | nil => cases hl
      | cons s Q => exact .cons (he 0 a s rfl rfl) (ih Q (by simpa using hl) fun i a s x y => he (i + 1) a s x y)
  exact key as Q h.len h.each
def spSrc (K : PySem.W.Frag) (C : Addr) : Sp := fun vs H Q _ => ∃ (m : Addr) (M : MachV) (l : PySem.Str), vs = [.ref m, .str l] ∧ IsMach C H m M ∧ MFine M ∧ M.sta.Nodup ∧ (∃ x ∈ M.ars, x.l = l) ∧
  ∀ (a : Addr) (H' : Hp), SrcN H H' a (waysOf M.ars M.sta l) → Same H H' → Q (.ref a) H'
/-- the letters that lead from a state to some ends for nothing -/
def freeB (es : List PySem.Str) (s : PySem.Str) (x : Arw) : Bool := decide (x.s = s) && (decide (x.t ∈ es) && decide (x.c = 0))
def freeL (A : List Arw) (es : List PySem.Str) (s : PySem.Str) : List PySem.Str := (A.filter (freeB es s)).map Arw.l
def spFree (K : PySem.W.Frag) (C : Addr) : Sp := fun vs H Q _ => ∃ (m e : Addr) (M : MachV) (s : PySem.Str) (es : List PySem.Str), vs = [.ref m, .str s, .ref e] ∧ IsMach C H m M ∧ MFine M ∧ SqL K H e (es.map V.str) ∧ es.length ≤ 1000 ∧ (∀ z ∈ es, Nm z) ∧
  ∀ (a : Addr) (ls : List PySem.Str) (H' : Hp), H a = none → H' a = some (.lst (ls.map V.str)) → Asc ls → (∀ l, l ∈ ls ↔ l ∈ freeL M.ars es s) → Same H H' → Q (.ref a) H'
theorem asc_nodup2 {ls : List PySem.Str} (h : Asc ls) : ls.Nodup := h.imp fun {x y} h e => by
  rw [e] at h
  exact List.lt_irrefl _ h
/-- all letters are there -/
def fullB (M : MachV) (es : List PySem.Str) (s : PySem.Str) : Bool := decide (∀ l ∈ M.lets, l ∈ freeL M.ars es s)
theorem full_iff {M : MachV} (hn : M.lets.Nodup) (ha : ∀ x ∈ M.ars, x.l ∈ M.lets) {es ls : List PySem.Str} {s : PySem.Str} (nd : ls.Nodup) (h : ∀ l, l ∈ ls ↔ l ∈ freeL M.ars es s) : ls.length = M.lets.length ↔ fullB M es s = true := by
  have sub : ∀ l ∈ ls, l ∈ M.lets := fun l hl => by
    obtain ⟨x, hx, rfl⟩ := List.mem_map.mp ((h l).mp hl)
    exact ha x (List.mem_filter.mp hx).1
  unfold fullB
  rw [decide_eq_true_eq]
  constructor
  · intro e l hl
    by_cases c : l ∈ ls
    · exact (h l).mp c
    · exfalso
      have h1 : (l :: ls).Nodup := List.nodup_cons.mpr ⟨c, nd⟩
      have h2 := nodup_le h1 (fun z hz => by
        rcases List.mem_cons.mp hz with rfl | hz
        · exact hl
        · exact sub z hz : ∀ z ∈ l :: ls, z ∈ M.lets)
      rw [List.length_cons] at h2
      omega
  · intro e
    have h1 := nodup_le nd sub
    have h2 := nodup_le hn (fun l hl => (h l).mpr (e l hl) : ∀ l ∈ M.lets, l ∈ ls)
    omega
def spRest (K : PySem.W.Frag) (C : Addr) : Sp := fun vs H Q _ => ∃ (m : Addr) (M : MachV), vs = [.ref m] ∧ IsMach C H m M ∧ MFine M ∧
  ∀ (a : Addr) (rs : List PySem.Str) (H' : Hp), H' a = some (.lst (rs.map V.str)) → RestH M.ars M.ens M.lets rs → rs.length ≤ 1000 → Same H H' → Q (.ref a) H'
end Bz
namespace Bz
open PySem PySem.Spec PyProof.Rows L2
/-! ### levels side by side, in bits -/
/-- the last one first -/
def pkR (B : Nat) : List Nat → Nat
  | [] => 0
  | l :: r => pkR B r * B + l
def gdR (B h : Nat) : Nat → Nat
  | 0 => 0
  | n + 1 => gdR B h n * B + h
theorem or_half {l k : Nat} (h : l < 2 ^ k) : l ||| 2 ^ k = l + 2 ^ k := by
  have := Nat.two_pow_add_eq_or_of_lt h 1
  rw [Nat.mul_one] at this
  rw [Nat.or_comm, ← this]
  omega
theorem pk_or {k : Nat} : ∀ (ls : List Nat), (∀ l ∈ ls, l < 2 ^ k) → pkR (2 ^ (k + 1)) ls ||| gdR (2 ^ (k + 1)) (2 ^ k) ls.length = pkR (2 ^ (k + 1)) ls + gdR (2 ^ (k + 1)) (2 ^ k) ls.length
  | [], _ => by simp [pkR, gdR]
  | l :: r, hl => by
    have ih := pk_or r fun z hz => hl z (List.mem_cons_of_mem _ hz)
    have h1 : l < 2 ^ k := hl l (List.mem_cons_self ..)
    have hp : 2 ^ (k + 1) = 2 * 2 ^ k := by rw [Nat.pow_succ]; omega
    have hpos : 0 < 2 ^ (k + 1) := Nat.two_pow_pos _
    simp only [pkR, gdR, List.length_cons]
    rw [← Nat.div_add_mod (_ ||| _) (2 ^ (k + 1)), Nat.or_div_two_pow, Nat.or_mod_two_pow]
    rw [Nat.add_comm (_ * _) l, Nat.add_comm (_ * _) (2 ^ k), Nat.add_mul_div_right _ _ hpos, Nat.add_mul_div_right _ _ hpos, Nat.add_mul_mod_self_right, Nat.add_mul_mod_self_right, Nat.mod_eq_of_lt (by omega), Nat.mod_eq_of_lt (by omega), Nat.div_eq_of_lt (by omega), Nat.div_eq_of_lt (by omega), Nat.zero_add, Nat.zero_add, ih, or_half h1, Nat.mul_comm, Nat.add_mul]
    omega
/-- what is left where one is taken from the other, guarded -/
def dfR (B h : Nat) : List Nat → List Nat → Nat
  | a :: r, b :: s => dfR B h r s * B + (a + h - b)
  | _, _ => 0
theorem df_sub {k : Nat} : ∀ (as bs : List Nat), as.length = bs.length → (∀ l ∈ bs, l < 2 ^ k) → pkR (2 ^ (k + 1)) as + gdR (2 ^ (k + 1)) (2 ^ k) as.length = pkR (2 ^ (k + 1)) bs + dfR (2 ^ (k + 1)) (2 ^ k) as bs
  | [], [], _, _ => rfl
  | a :: r, b :: s, e, hb => by
    have ih := df_sub r s (by simpa using e) fun z hz => hb z (List.mem_cons_of_mem _ hz)
    have h1 : b < 2 ^ k := hb b (List.mem_cons_self ..)
    simp only [pkR, gdR, dfR, List.length_cons]
    have := congrArg (· * 2 ^ (k + 1)) ih
    simp only [Nat.add_mul] at this
    omega
  | [], _ :: _, e, _ => by cases e
  | _ :: _, [], e, _ => by cases e
theorem df_and {k : Nat} : ∀ (as bs : List Nat), as.length = bs.length → (∀ l ∈ as, l < 2 ^ k) → dfR (2 ^ (k + 1)) (2 ^ k) as bs &&& gdR (2 ^ (k + 1)) (2 ^ k) as.length = gdR (2 ^ (k + 1)) (2 ^ k) as.length → ∀ (i : Nat) (a b : Nat), as[i]? = some a → bs[i]? = some b → b ≤ a
  | [], _, _, _, _, i, a, b, ha, _ => by simp at ha
  | _ :: _, [], e, _, _, _, _, _, _, _ => by cases e
  | a :: r, b :: s, e, hb, h, i, x, y, hx, hy => by
    have h1 : a < 2 ^ k := hb a (List.mem_cons_self ..)
    have hp : 2 ^ (k + 1) = 2 * 2 ^ k := by rw [Nat.pow_succ]; omega
    have hpos : 0 < 2 ^ (k + 1) := Nat.two_pow_pos _
    have h2 : 0 < 2 ^ k := Nat.two_pow_pos _
    simp only [gdR, dfR, List.length_cons] at h
    have hd := congrArg (· / 2 ^ (k + 1)) h
    have hm := congrArg (· % 2 ^ (k + 1)) h
    simp only [Nat.and_div_two_pow, Nat.and_mod_two_pow] at hd hm
    rw [Nat.add_comm (_ * _) (a + 2 ^ k - b), Nat.add_comm (_ * _) (2 ^ k)] at hd hm
    simp only [Nat.add_mul_div_right _ _ hpos, Nat.add_mul_mod_self_right] at hd hm
    rw [Nat.mod_eq_of_lt (show a + 2 ^ k - b < 2 ^ (k + 1) by omega), Nat.mod_eq_of_lt (show 2 ^ k < 2 ^ (k + 1) by omega)] at hm
    rw [Nat.div_eq_of_lt (show a + 2 ^ k - b < 2 ^ (k + 1) by omega), Nat.div_eq_of_lt (show 2 ^ k < 2 ^ (k + 1) by omega), Nat.zero_add, Nat.zero_add] at hd
    cases i with
    | zero =>
      simp only [List.getElem?_cons_zero, Option.some.injEq] at hx hy
      subst hx hy
      have : (a + 2 ^ k - b) &&& 2 ^ k ≤ a + 2 ^ k - b := Nat.and_le_left
      omega
    | succ i => exact df_and r s (by simpa using e) (fun z hz => hb z (List.mem_cons_of_mem _ hz)) hd i x y (by simpa using hx) (by simpa using hy)
/-- no field of other is greater than that of bits -/
def noLess (bits guards other : Int) : Bool := decide (Builtin.bitAnd (Builtin.bitOr bits guards - other) guards = guards)
theorem bitOr_nat (a b : Nat) : Builtin.bitOr (a : Int) (b : Int) = ((a ||| b : Nat) : Int) := by
  have h1 : ¬ (0 ≤ Builtin.bitNot (a : Int)) := by unfold Builtin.bitNot; omega
  have h2 : ¬ (0 ≤ Builtin.bitNot (b : Int)) := by unfold Builtin.bitNot; omega
  unfold Builtin.bitOr Builtin.bitAnd
  rw [decide_eq_false h1, decide_eq_false h2]
  have e1 : Builtin.bitNot (Builtin.bitNot (a : Int)) = a := by unfold Builtin.bitNot; omega
  have e2 : Builtin.bitNot (Builtin.bitNot (b : Int)) = b := by unfold Builtin.bitNot; omega
  simp only [e1, e2, Int.toNat_natCast]
  unfold Builtin.bitNot
  omega
theorem bitAnd_nat (a b : Nat) : Builtin.bitAnd (a : Int) (b : Int) = ((a &&& b : Nat) : Int) := by
  unfold Builtin.bitAnd
  rw [decide_eq_true (Int.natCast_nonneg a), decide_eq_true (Int.natCast_nonneg b)]
  simp
theorem noLess_ok {k : Nat} {as bs : List Nat} (e : as.length = bs.length) (ha : ∀ l ∈ as, l < 2 ^ k) (hb : ∀ l ∈ bs, l < 2 ^ k) (h : noLess (pkR (2 ^ (k + 1)) as : Nat) (gdR (2 ^ (k + 1)) (2 ^ k) as.length : Nat) (pkR (2 ^ (k + 1)) bs : Nat) = true) : ∀ (i : Nat) (a b : Nat), as[i]? = some a → bs[i]? = some b → b ≤ a := by
  refine df_and as bs e ha ?_
  have h := of_decide_eq_true h
  rw [bitOr_nat, pk_or as ha, df_sub as bs e hb] at h
  rw [show ((pkR (2 ^ (k + 1)) bs + dfR (2 ^ (k + 1)) (2 ^ k) as bs : Nat) : Int) - (pkR (2 ^ (k + 1)) bs : Nat) = (dfR (2 ^ (k + 1)) (2 ^ k) as bs : Nat) by omega, bitAnd_nat] at h
  exact Int.ofNat.inj h
theorem gdR_succ {B h : Nat} : ∀ n, gdR B h (n + 1) = gdR B h n + h * B ^ n
  | 0 => by simp [gdR]
  | n + 1 => by
    rw [show gdR B h (n + 2) = gdR B h (n + 1) * B + h from rfl, gdR_succ n]
    have e1 : gdR B h (n + 1) = gdR B h n * B + h := rfl
    rw [gdR_succ n] at e1
    rw [Nat.add_mul, Nat.pow_succ, ← Nat.mul_assoc]
    omega
theorem gd_sum {k : Nat} : ∀ n : Nat, ((List.range n).map fun (i : Nat) => (((2 ^ (i * (k + 1) + k) : Nat) : Nat) : Int)).sum = (gdR (2 ^ (k + 1)) (2 ^ k) n : Nat)
  | 0 => rfl
  | n + 1 => by
    rw [List.range_succ, List.map_append, List.sum_append, gd_sum n, gdR_succ]
    have e : 2 ^ (n * (k + 1) + k) = 2 ^ k * (2 ^ (k + 1)) ^ n := by
      rw [← Nat.pow_mul, Nat.pow_add, Nat.mul_comm (2 ^ _), Nat.mul_comm n]
    simp only [List.map_cons, List.map_nil, List.sum_cons, List.sum_nil, e]
    omega
/-! ### the levels -/
def levL (num : Int) : List Int := (List.range (num + 1).toNat).map (fun n : Nat => (n : Int)) ++ List.replicate 100 (num + 1) ++ List.replicate 100 (num + 101)
def lvN (num v : Int) : Int := if v ≤ num then v else if v ≤ num + 100 then num + 1 else num + 101
theorem levL_at {num v : Int} (hn : -1 ≤ num) (h0 : 0 ≤ v) (h1 : v ≤ num + 200) : atI (levL num) v = some (lvN num v) := by
  obtain ⟨n, rfl⟩ := Int.eq_ofNat_of_zero_le h0
  refine atI_nat ?_
  unfold levL lvN
  by_cases c : (n : Int) ≤ num
  · rw [if_pos c, List.append_assoc, List.getElem?_append_left (by simp; omega), List.getElem?_map, List.getElem?_range (by omega)]
    rfl
  · rw [if_neg c]
    by_cases c2 : (n : Int) ≤ num + 100
    · rw [if_pos c2, List.getElem?_append_left (by simp; omega), List.getElem?_append_right (by simp; omega), List.getElem?_replicate, if_pos (by simp; omega)]
    · rw [if_neg c2, List.getElem?_append_right (by simp; omega), List.getElem?_replicate, if_pos (by simp; omega)]
section
variable {A : List Arw} {S E L Q R : List PySem.Str} {num : Int} {l q : PySem.Str} {f g : PySem.Str → Option Int}
/-- the level behind a letter: the least sum, or what stands for none -/
theorem next_level {ns : List Int} {m : Int} (hc : ∀ x ∈ A, 0 ≤ x.c ∧ x.c ≤ 99) (e : ns = (waysTo A Q l q).map fun p => ((LvOf Q num f)[p.1]?.getD 0) + p.2) (hQ : ∀ x ∈ A, x.s ∈ Q) (hf : ∀ q b, f q = some b → 0 ≤ b) (hm : (ns = [] ∧ m = num + 101) ∨ (m ∈ ns ∧ ∀ n ∈ ns, m ≤ n)) (hn : -1 ≤ num) : lvN num m = capL num (nextF A l f q) ∧ 0 ≤ m ∧ m ≤ num + 200 := by
  have mem : ∀ n, n ∈ ns ↔ ∃ x ∈ A, x.l = l ∧ x.t = q ∧ n = capL num (f x.s) + x.c := by
    intro n
    subst e
    unfold waysTo
    rw [List.map_map, List.mem_map]
    constructor
    · rintro ⟨x, hx, rfl⟩
      obtain ⟨h1, h2⟩ := List.mem_filter.mp hx
      have h2 := of_decide_eq_true h2
      refine ⟨x, h1, h2.1, h2.2, ?_⟩
      show (LvOf Q num f)[Q.idxOf x.s]?.getD 0 + x.c = _
      unfold LvOf
      rw [List.getElem?_map, idx_get (hQ x h1)]
      rfl
    · rintro ⟨x, hx, e1, e2, rfl⟩
      refine ⟨x, List.mem_filter.mpr ⟨hx, decide_eq_true ⟨e1, e2⟩⟩, ?_⟩
      show (LvOf Q num f)[Q.idxOf x.s]?.getD 0 + x.c = _
      unfold LvOf
      rw [List.getElem?_map, idx_get (hQ x hx)]
      rfl
  have key := minOpt_least (A.filterMap fun x => if x.l = l ∧ x.t = q then (f x.s).map (· + x.c) else none)
  rcases hm with ⟨h1, rfl⟩ | ⟨h1, h2⟩
  · have : nextF A l f q = none := by
      unfold nextF
      rw [minOpt_none]
      refine List.eq_nil_iff_forall_not_mem.mpr fun k hk => ?_
      obtain ⟨x, hx, e1, e2, c, hc, _⟩ := mem_nextL.mp hk
      have := (mem _).mpr ⟨x, hx, e1, e2, rfl⟩
      rw [h1] at this
      cases this
    rw [this]
    show lvN num (num + 101) = num + 101 ∧ _
    unfold lvN
    rw [if_neg (by omega), if_neg (by omega)]
    omega
  · obtain ⟨x, hx, e1, e2, rfl⟩ := (mem m).mp h1
    have hxc := hc x hx
    cases hN : nextF A l f q with
    | none =>
      unfold nextF at hN
      have hN := minOpt_none.mp hN
      have hfx : f x.s = none := by
        cases h : f x.s with
        | none => rfl
        | some b =>
          have := mem_nextL.mpr ⟨x, hx, e1, e2, b, h, rfl⟩
          rw [hN] at this
          cases this
      rw [hfx]
      unfold capL lvN
      simp only []
      rw [if_neg (by omega), if_neg (by omega)]
      omega
    | some k =>
      rw [show minOpt (A.filterMap fun x => if x.l = l ∧ x.t = q then (f x.s).map (· + x.c) else none) = some k from hN] at key
      obtain ⟨x', hx', e1', e2', b, hb, rfl⟩ := mem_nextL.mp key.1
      have hxc' := hc x' hx'
      have h3 := h2 _ ((mem _).mpr ⟨x', hx', e1', e2', rfl⟩)
      have hb0 := hf _ _ hb
      rw [hb] at h3
      cases hfx : f x.s with
      | none =>
        rw [hfx] at h3
        simp only [capL] at h3
        split at h3 <;> omega
      | some b2 =>
        have hb2 := hf _ _ hfx
        have h4 := key.2 _ (mem_nextL.mpr ⟨x, hx, e1, e2, b2, hfx, rfl⟩)
        rw [hfx] at h3
        simp only [capL, lvN] at h3 ⊢
        split at h3 <;> split at h3 <;> (repeat' split) <;> omega
theorem lst_nn (hA : ∀ x ∈ A, 0 ≤ x.c) {w : List PySem.Str} (h : Lst A S w f) {q : PySem.Str} {b : Int} (e : f q = some b) : 0 ≤ b := by
  have := h q
  rw [e] at this
  obtain ⟨⟨a, _, r⟩, _⟩ := this
  have key : ∀ (w : List PySem.Str) (a q : PySem.Str) (n : Int), RunS A w a q n → 0 ≤ n := by
    intro w
    induction w with
    | nil =>
      rintro a q n ⟨_, rfl⟩
      exact Int.le_refl _
    | cons l w ih =>
      rintro a q n ⟨x, hx, _, _, m, r, rfl⟩
      have := ih _ _ _ r
      have := hA x hx
      omega
  exact key _ _ _ _ r
end
end Bz
namespace Bz
open PySem PySem.Spec PyProof.Rows L2
/-! ### fields by their names in order -/
theorem putF_zip {f : PySem.Str} {v : V} : ∀ {ks : List PySem.Str} {vs : List V}, ks[vs.length]? = some f → ks.Nodup → putF f v (List.zip ks vs) = List.zip ks (vs ++ [v])
  | k :: ks, [], h, _ => by
    simp only [List.length_nil, List.getElem?_cons_zero, Option.some.injEq] at h
    subst h
    simp [putF]
  | k :: ks, u :: vs, h, nd => by
    have h' : ks[vs.length]? = some f := by simpa using h
    obtain ⟨n1, n2⟩ := List.nodup_cons.mp nd
    have ne : ¬ k = f := fun e => n1 (e ▸ List.mem_of_getElem? h')
    show putF f v ((k, u) :: List.zip ks vs) = (k, u) :: List.zip ks (vs ++ [v])
    unfold putF
    rw [if_neg ne, putF_zip h' n2]
  | [], vs, h, _ => by simp at h
theorem putF_zipS {f : PySem.Str} {v : V} : ∀ {ks : List PySem.Str} {vs : List V} (i : Nat), ks[i]? = some f → i < vs.length → ks.Nodup → putF f v (List.zip ks vs) = List.zip ks (vs.set i v)
  | k :: ks, u :: vs, 0, h, _, _ => by
    simp only [List.getElem?_cons_zero, Option.some.injEq] at h
    subst h
    show putF k v ((k, u) :: List.zip ks vs) = _
    unfold putF
    rw [if_pos rfl]
    rfl
  | k :: ks, u :: vs, i + 1, h, hl, nd => by
    have h' : ks[i]? = some f := by simpa using h
    obtain ⟨n1, n2⟩ := List.nodup_cons.mp nd
    have ne : ¬ k = f := fun e => n1 (e ▸ List.mem_of_getElem? h')
    show putF f v ((k, u) :: List.zip ks vs) = (k, u) :: List.zip ks (vs.set i v)
    unfold putF
    rw [if_neg ne, putF_zipS i h' (by simpa using hl) n2]
  | [], _, _, h, _, _ => by simp at h
  | _ :: _, [], _, _, hl, _ => by cases hl
theorem look_zip {f : PySem.Str} {v : V} : ∀ {ks : List PySem.Str} {vs : List V} (i : Nat), ks[i]? = some f → vs[i]? = some v → ks.Nodup → (List.zip ks vs).lookup f = some v
  | k :: ks, u :: vs, 0, h, hv, _ => by
    simp only [List.getElem?_cons_zero, Option.some.injEq] at h hv
    subst h hv
    exact look_eq
  | k :: ks, u :: vs, i + 1, h, hv, nd => by
    have h' : ks[i]? = some f := by simpa using h
    obtain ⟨n1, n2⟩ := List.nodup_cons.mp nd
    have ne : ¬ f = k := fun e => n1 (e ▸ List.mem_of_getElem? h')
    exact (look_ne ne).trans (look_zip i h' (by simpa using hv) n2)
  | [], _, _, h, _, _ => by simp at h
  | _ :: _, [], _, _, hv, _ => by simp at hv
theorem atI_map {α β : Type} {g : α → β} {xs : List α} {i : Int} {v : α} (h : atI xs i = some v) : atI (xs.map g) i = some (g v) := by
  unfold atI at h ⊢
  rw [List.length_map]
  cases hx : ixN xs.length i with
  | none =>
    rw [hx] at h
    cases h
  | some j =>
    rw [hx] at h
    have h : xs[j]? = some v := h
    show (xs.map g)[j]? = _
    rw [List.getElem?_map, h]
    rfl
theorem place_bit (i w : Nat) : (0 + (i : Int)) * ((w + 1 : Nat) : Int) + ((w + 1 : Nat) : Int) - 1 = ((i * (w + 1) + w : Nat) : Int) := by
  have : ((i * (w + 1) : Nat) : Int) = (i : Int) * ((w + 1 : Nat) : Int) := Int.natCast_mul ..
  rw [Int.zero_add]
  omega
theorem bit_val (n : Nat) : (1 * 2 ^ ((n : Nat) : Int).toNat : Int) = ((2 ^ n : Nat) : Int) := by
  rw [Int.toNat_natCast, Int.one_mul, Int.natCast_pow]
  rfl
/-! ### a heap without some of it -/
def hid (xs : List Addr) (H : Hp) : Hp := fun b => if b ∈ xs then none else H b
section
variable {xs : List Addr} {H H' : Hp} {q : Addr} {o : HO}
theorem hid_upd (h : q ∈ xs) : hid xs (upd H q o) = hid xs H := by
  funext b
  unfold hid
  by_cases c : b ∈ xs
  · rw [if_pos c, if_pos c]
  · rw [if_neg c, if_neg c, upd_ne (fun e : b = q => c (e ▸ h))]
theorem hid_same (h : Same H H') : Same (hid xs H) (hid xs H') := fun b u e => by
  unfold hid at e ⊢
  by_cases c : b ∈ xs
  · rw [if_pos c] at e
    cases e
  · rw [if_neg c] at e ⊢
    exact h _ _ e
theorem hid_sub : Same (hid xs H) H := fun b u e => by
  unfold hid at e
  by_cases c : b ∈ xs
  · rw [if_pos c] at e
    cases e
  · rw [if_neg c] at e
    exact e
theorem hid_of (h : H q = some o) (n : q ∉ xs) : hid xs H q = some o := by
  unfold hid
  rw [if_neg n]
  exact h
theorem hid_but (b : But q H H') (h : q ∈ xs) : hid xs H' = hid xs H := by
  funext a
  unfold hid
  by_cases c : a ∈ xs
  · rw [if_pos c, if_pos c]
  · rw [if_neg c, if_neg c]
    exact b a fun e => c (e ▸ h)
theorem BD.keep {P : Program} {w : World} {kvs : List (List Bool × V)} (h : BD P w H q kvs) (e : H' q = H q) (k : ∀ b ys, H b = some (.tup ys) → H' b = some (.tup ys)) : BD P w H' q kvs := by
  obtain ⟨l, ys, h1, h2⟩ := h
  exact ⟨l, ys, e.trans h1, h2.keeps k⟩
theorem tup_mut {b : Addr} {ys : List V} (hq : ∀ zs, H q ≠ some (.tup zs)) (h : H b = some (.tup ys)) : upd H q o b = some (.tup ys) := by
  rw [upd_ne]
  · exact h
  · intro e
    exact hq _ (e ▸ h)
theorem hid_more {ys : List Addr} (h : ∀ y ∈ ys, y ∈ xs ∨ H y = none) (k : ∀ y ∈ xs, y ∈ ys) : hid ys H = hid xs H := by
  funext b
  unfold hid
  by_cases c : b ∈ ys
  · rw [if_pos c]
    by_cases c2 : b ∈ xs
    · rw [if_pos c2]
    · rw [if_neg c2]
      exact ((h b c).resolve_left c2).symm
  · rw [if_neg c, if_neg (fun z => c (k b z))]
end
theorem mach_hid {C C' dx x m : Addr} {fs : List (PySem.Str × V)} {H : Hp} {M : MachV} (h : IsMach C H m M) (hx : H x = some (.ins C' dx fs)) (n : m ≠ x) : IsMach C (hid [x] H) m M := by
  obtain ⟨dy, t1, t2, t3, t4, t5, ws, hI⟩ := h
  have tp : ∀ {a : Addr} {xs : List V}, H a = some (.tup xs) → hid [x] H a = some (.tup xs) := fun {a xs} e => hid_of e (by
    intro c
    rw [List.mem_singleton.mp c, hx] at e
    cases e)
  have fz : ∀ {a : Addr} {xs : List V}, FzT H a xs → FzT (hid [x] H) a xs := fun {a xs} ⟨u, e, z⟩ => ⟨u, hid_of e (by
    intro c
    obtain ⟨o, rfl, _⟩ := z
    rw [List.mem_singleton.mp c, hx] at e
    cases e), z⟩
  exact ⟨dy, t1, t2, t3, t4, t5, ws, ⟨hid_of hI.ins (by simpa using n), tp hI.a1, Paired.mapP hI.as fun v y ⟨t, e1, e2⟩ => ⟨t, e1, tp e2⟩, fz hI.a2, fz hI.a3, fz hI.a4, fz hI.a5⟩⟩
theorem SrcN.hid {H H' : Hp} {a D : Addr} {zz : List (List (Nat × Int))} {us us' : List V} (h : SrcN H H' a zz) (hD : H D = some (.lst us)) (hD' : H' D = some (.lst us')) : SrcL (hid [D] H') a zz := by
  obtain ⟨h0, as, h1, h2, h3⟩ := h
  have nn : ∀ q, H q = none → q ∉ [D] := fun q hq c => by
    rw [List.mem_singleton.mp c, hD] at hq
    cases hq
  refine ⟨as, hid_of h1 (nn _ h0), Paired.mapP (paired_left h3) fun q ws ⟨hq, vs, k1, k2⟩ => ⟨vs, hid_of k1 (nn _ (h2 q hq)), Paired.mapP k2 fun v p ⟨r, e, hr⟩ => ⟨r, e, hid_of hr fun c => ?_⟩⟩⟩
  rw [List.mem_singleton.mp c, hD'] at hr
  cases hr
/-! ### a hunt -/
structure HD where
  A : List Arw
  S : List PySem.Str
  E : List PySem.Str
  Q : List PySem.Str
  L : List PySem.Str
  R : List PySem.Str
  num : Int
structure HAd where
  lev : Addr
  ls : Addr
  fl : Addr
  ep : Addr
  rp : Addr
  sn : Addr
  rv : Addr
  tr : Addr
def HD.wk (d : HD) : Nat := Builtin.Int.intBits (d.num + 101)
def HD.gd (d : HD) : Nat := gdR (2 ^ (d.wk + 1)) (2 ^ d.wk) d.Q.length
def hkeys : List PySem.Str := ["number", "greatest_price", "dearest_row", "nothing", "levels", "letter_sources", "first_levels", "end_places", "resting_places", "width", "guards", "seen", "rivals", "trail"]
theorem hkeys_nd : hkeys.Nodup := by decide +kernel
def hvs (h : HAd) (d : HD) (gp : Int) (dr : V) : List V := [.int d.num, .int gp, dr, .int (d.num + 101), .ref h.lev, .ref h.ls, .ref h.fl, .ref h.ep, .ref h.rp, .int (d.wk + 1 : Nat), .int (d.gd : Nat), .ref h.sn, .ref h.rv, .ref h.tr]
def hfs (h : HAd) (d : HD) (gp : Int) (dr : V) : List (PySem.Str × V) := List.zip hkeys (hvs h d gp dr)
def startF (S : List PySem.Str) : PySem.Str → Option Int := fun q => if q ∈ S then some 0 else none
structure HOk (d : HD) : Prop where
  n1 : -1 ≤ d.num
  n2 : d.num ≤ 300
  ca : ∀ x ∈ d.A, 0 ≤ x.c ∧ x.c ≤ 99
  aQ : ∀ x ∈ d.A, x.s ∈ d.Q ∧ x.t ∈ d.Q
  aL : ∀ x ∈ d.A, x.l ∈ d.L
  lA : ∀ l ∈ d.L, ∃ x ∈ d.A, x.l = l
  eQ : ∀ e ∈ d.E, e ∈ d.Q
  el : d.E.length ≤ 40
  nQ : d.Q.Nodup
  lQ : d.Q.length ≤ 3
  aL2 : Asc d.L
  ll : d.L.length ≤ 40
  ll1 : ∀ l ∈ d.L, Lt l
  rest : RestH d.A d.E d.L d.R
  al : d.A.length ≤ 400
  rl : d.R.length ≤ 1000
/-- what stays -/
structure HStat (G : Hp) (h : HAd) (d : HD) : Prop where
  lev : G h.lev = some (.lst ((levL d.num).map V.int))
  ls : ∃ ws, G h.ls = some (.lst ws) ∧ Paired (fun v l => ∃ r s, v = V.ref r ∧ G r = some (.tup [.str l, .ref s]) ∧ SrcL G s (waysOf d.A d.Q l)) ws d.L
  fl : G h.fl = some (.tup ((LvOf d.Q d.num (startF d.S)).map V.int))
  ep : G h.ep = some (.lst (d.E.map fun e => V.int (d.Q.idxOf e : Nat)))
  rp : G h.rp = some (.lst (d.R.map fun e => V.int (d.Q.idxOf e : Nat)))
theorem HStat.same {G G' : Hp} {h : HAd} {d : HD} (k : HStat G h d) (e : Same G G') : HStat G' h d := by
  obtain ⟨ws, h1, h2⟩ := k.ls
  exact ⟨e _ _ k.lev, ⟨ws, e _ _ h1, Paired.mapP h2 fun v l ⟨r, s, a, b, c⟩ => ⟨r, s, a, e _ _ b, c.same e⟩⟩, e _ _ k.fl, e _ _ k.ep, e _ _ k.rp⟩
def hdyn (x : Addr) (h : HAd) : List Addr := [x, h.sn, h.rv, h.tr]
def snK (Sn : List (List Int)) : List (List Ky × V) := Sn.map fun k => (k.map fun n => (Sum.inl n : Ky), V.bl true)
structure HAt (P : Program) (w : World) (C : Addr) (H : Hp) (x dx : Addr) (h : HAd) (d : HD) (gp : Int) (dr : V) (Sn : List (List Int)) (kvs : List (List Bool × V)) (vs : List V) : Prop where
  ins : H x = some (.ins C dx (hfs h d gp dr))
  sn : H h.sn = some (.dT (snK Sn))
  rv : BD P w H h.rv kvs
  tr : H h.tr = some (.lst vs)
  st : HStat (hid (hdyn x h) H) h d
def spHInit (P : Program) (w : World) (K : PySem.W.Frag) (CM C : Addr) : Sp := fun vs H Q _ => ∃ (x dx m : Addr) (M : MachV) (num least : Int), vs = [.ref x, .ref m, .int num, .int least] ∧ H x = some (.ins C dx []) ∧ IsMach CM H m M ∧ MFine M ∧ M.sta.Nodup ∧ M.sta.length ≤ 3 ∧ -1 ≤ num ∧ num ≤ 300 ∧ (∀ l ∈ M.lets, ∃ x ∈ M.ars, x.l = l) ∧
  ∀ (h : HAd) (rs : List PySem.Str) (H' : Hp), RestH M.ars M.ens M.lets rs → rs.length ≤ 1000 → HAt P w C H' x dx h ⟨M.ars, M.sts, M.ens, M.sta, M.lets, rs, num⟩ least .non [] [] [] → Same (hid [x] H) (hid (hdyn x h) H') → Q .non H'
end Bz
namespace Bz
open PySem PySem.Spec PyProof.Rows L2
/-! ### texts of rows -/
theorem sgn_lt {l : PySem.Str} (h : Lt l) : sgnL l = [l] := by
  obtain ⟨h1, _⟩ := h
  have h1 : l.cps.size = 1 := h1
  cases l with
  | mk cps =>
    have : cps.toList.length = 1 := by rw [Array.length_toList]; exact h1
    match hc : cps.toList, this with
    | [c], _ =>
      unfold sgnL
      simp only [hc, List.map_cons, List.map_nil]
      have : cps = #[c] := by
        apply Array.ext'
        rw [hc]
      rw [this]
theorem sgn_join {w : List PySem.Str} (h : ∀ l ∈ w, Lt l) : sgnL (Txt.join "" (("" : PySem.Str) :: w)) = w := by
  have key : ∀ w : List PySem.Str, (∀ l ∈ w, Lt l) → ((w.map TL.tl).flatten).map (fun ch => (⟨#[ch]⟩ : PySem.Str)) = w := by
    intro w
    induction w with
    | nil => intro _; rfl
    | cons l w ih =>
      intro h
      rw [List.map_cons, List.flatten_cons, List.map_append, ih fun k hk => h k (List.mem_cons_of_mem _ hk)]
      have := sgn_lt (h l (List.mem_cons_self ..))
      rw [show (TL.tl l).map (fun ch => (⟨#[ch]⟩ : PySem.Str)) = sgnL l from rfl, this]
      rfl
  show (TL.tl (Txt.join "" (("" : PySem.Str) :: w))).map _ = w
  rw [tl_join0]
  exact key w h
theorem join_small {w : List PySem.Str} (h : ∀ l ∈ w, Lt l) : ((("" : PySem.Str) :: w).map (·.length)).sum = w.length := by
  rw [List.map_cons, List.sum_cons]
  have key : ∀ w : List PySem.Str, (∀ l ∈ w, Lt l) → (w.map (·.length)).sum = w.length := by
    intro w
    induction w with
    | nil => intro _; rfl
    | cons l w ih =>
      intro h
      rw [List.map_cons, List.sum_cons, ih fun k hk => h k (List.mem_cons_of_mem _ hk), (h l (List.mem_cons_self ..)).1, List.length_cons]
      omega
  rw [key w h]
  exact Nat.zero_add _
/-! ### the trail -/
def FrOk (T : List (List PySem.Str)) (w : List PySem.Str) (fr : V) (l : PySem.Str) : Prop := (w = [] ∧ fr = .non ∧ l = "") ∨ ∃ (j : Nat) (u : List PySem.Str), T[j]? = some u ∧ fr = .int (j : Nat) ∧ w = u ++ [l]
def TrE (G : Hp) (d : HD) (T : List (List PySem.Str)) (v : V) (w : List PySem.Str) : Prop := ∃ (r t : Addr) (f : PySem.Str → Option Int) (fr : V) (l : PySem.Str), v = V.ref r ∧ G r = some (.tup [.ref t, fr, .str l]) ∧ G t = some (.tup ((LvOf d.Q d.num f).map V.int)) ∧ Lst d.A d.S w f ∧ FrOk T w fr l
structure TrS (G : Hp) (d : HD) (vs : List V) (T : List (List PySem.Str)) : Prop where
  len : vs.length = T.length
  at_ : ∀ (i : Nat) v w, vs[i]? = some v → T[i]? = some w → TrE G d T v w
  lt : ∀ w ∈ T, ∀ l ∈ w, Lt l
theorem TrS.same {G G' : Hp} {d : HD} {vs : List V} {T : List (List PySem.Str)} (h : TrS G d vs T) (e : Same G G') : TrS G' d vs T := ⟨h.len, fun i v w a b => by
  obtain ⟨r, t, f, fr, l, e1, e2, e3, e4, e5⟩ := h.at_ i v w a b
  exact ⟨r, t, f, fr, l, e1, e _ _ e2, e _ _ e3, e4, e5⟩, h.lt⟩
theorem FrOk.more {T : List (List PySem.Str)} {w u : List PySem.Str} {fr : V} {l : PySem.Str} (h : FrOk T w fr l) : FrOk (T ++ [u]) w fr l := by
  rcases h with h | ⟨j, v, h1, h2⟩
  · exact .inl h
  · exact .inr ⟨j, v, by rw [List.getElem?_append_left (List.getElem?_eq_some_iff.mp h1).1]; exact h1, h2⟩
theorem TrS.snoc {G : Hp} {d : HD} {vs : List V} {T : List (List PySem.Str)} {r t : Addr} {f : PySem.Str → Option Int} {fr : V} {l : PySem.Str} {w : List PySem.Str} (h : TrS G d vs T) (hr : G r = some (.tup [.ref t, fr, .str l])) (ht : G t = some (.tup ((LvOf d.Q d.num f).map V.int))) (hf : Lst d.A d.S w f) (hk : FrOk T w fr l) (hw : ∀ l ∈ w, Lt l) : TrS G d (vs ++ [.ref r]) (T ++ [w]) := by
  refine ⟨by rw [List.length_append, List.length_append, h.len]; rfl, fun i v u a b => ?_, fun u hu => ?_⟩
  · by_cases c : i < vs.length
    · rw [List.getElem?_append_left c] at a
      rw [List.getElem?_append_left (by rw [← h.len]; exact c)] at b
      obtain ⟨r, t, f, fr, l, e1, e2, e3, e4, e5⟩ := h.at_ i v u a b
      exact ⟨r, t, f, fr, l, e1, e2, e3, e4, e5.more⟩
    · rw [List.getElem?_append_right (by omega)] at a
      rw [List.getElem?_append_right (by rw [← h.len]; omega), ← h.len] at b
      cases hi : i - vs.length with
      | zero =>
        rw [hi] at a b
        cases a
        cases b
        exact ⟨r, t, f, fr, l, rfl, hr, ht, hf, hk.more⟩
      | succ n =>
        rw [hi] at a
        cases a
  · rcases List.mem_append.mp hu with h1 | h1
    · exact h.lt u h1
    · rw [List.mem_singleton.mp h1]
      exact hw
theorem lv_at {Q : List PySem.Str} {num : Int} {f : PySem.Str → Option Int} {r : PySem.Str} (h : r ∈ Q) : atI ((LvOf Q num f).map V.int) (Q.idxOf r : Nat) = some (.int (capL num (f r))) := by
  refine atI_map (atI_nat ?_)
  unfold LvOf
  rw [List.getElem?_map, idx_get h]
  rfl
/-! ### what its methods do -/
section
variable (P : Program) (w : World) (K : PySem.W.Frag) (C : Addr)
def spLess : Sp := fun vs H Q _ => ∃ (x dx : Addr) (h : HAd) (d : HD) (gp : Int) (dr : V) (a b : Int), vs = [.ref x, .int a, .int b] ∧ H x = some (.ins C dx (hfs h d gp dr)) ∧ Q (.bl (noLess a (d.gd : Nat) b)) H
def spMay : Sp := fun vs H Q _ => ∃ (x dx t : Addr) (h : HAd) (d : HD) (gp : Int) (dr : V) (f : PySem.Str → Option Int), vs = [.ref x, .ref t] ∧ H x = some (.ins C dx (hfs h d gp dr)) ∧ HStat H h d ∧ (∀ r ∈ d.R, r ∈ d.Q) ∧ d.R.length ≤ 1000 ∧ H t = some (.tup ((LvOf d.Q d.num f).map V.int)) ∧
  ∀ H', Same H H' → Q (.bl (d.R.all fun r => decide (gp < capL d.num (f r)))) H'
def spLvB : Sp := fun vs H Q _ => ∃ (x dx t s : Addr) (h : HAd) (d : HD) (gp : Int) (dr : V) (f : PySem.Str → Option Int) (l : PySem.Str), vs = [.ref x, .ref t, .ref s] ∧ H x = some (.ins C dx (hfs h d gp dr)) ∧ HStat H h d ∧ HOk d ∧ (∀ q b, f q = some b → 0 ≤ b) ∧ H t = some (.tup ((LvOf d.Q d.num f).map V.int)) ∧ SrcL H s (waysOf d.A d.Q l) ∧
  ∀ (t' : Addr) (H' : Hp), H' t' = some (.tup ((LvOf d.Q d.num (nextF d.A l f)).map V.int)) → Same H H' → Q (.ref t') H'
def spRowTo : Sp := fun vs H Q _ => ∃ (x dx : Addr) (h : HAd) (d : HD) (gp : Int) (dr : V) (fr : V) (l : PySem.Str) (G : Hp) (us : List V) (T : List (List PySem.Str)) (u : List PySem.Str), vs = [.ref x, fr, .str l] ∧ H x = some (.ins C dx (hfs h d gp dr)) ∧ H h.tr = some (.lst us) ∧ Same G H ∧ TrS G d us T ∧ FrOk T u fr l ∧ (∀ k ∈ u, Lt k) ∧ u.length ≤ 100000 ∧
  ∀ (z : PySem.Str) (H' : Hp), sgnL z = u → Same H H' → Q (.str z) H'
end
end Bz
namespace Bz
open PySem PySem.Spec PyProof.Rows L2
theorem look_no {f : PySem.Str} : ∀ {ks : List PySem.Str} {vs : List V}, f ∉ ks → (List.zip ks vs).lookup f = none
  | k :: ks, u :: vs, h => (look_ne (fun e => h (by rw [e]; exact List.mem_cons_self ..))).trans (look_no fun z => h (List.mem_cons_of_mem _ z))
  | [], _, _ => rfl
  | _ :: _, [], _ => rfl
theorem hfs_no {h : HAd} {d : HD} {gp : Int} {dr : V} {f : PySem.Str} (n : f ∉ hkeys) : (hfs h d gp dr).lookup f = none := look_no n
/-! ### rivals -/
def NN (f : PySem.Str → Option Int) : Prop := ∀ q b, f q = some b → 0 ≤ b
theorem capL_bd {num : Int} (h : -1 ≤ num) {o : Option Int} (ho : ∀ b, o = some b → 0 ≤ b) : 0 ≤ capL num o ∧ capL num o ≤ num + 101 := by
  cases o with
  | none =>
    show 0 ≤ num + 101 ∧ _
    exact ⟨by omega, Int.le_refl _⟩
  | some b =>
    have := ho b rfl
    simp only [capL]
    split <;> omega
def natL (d : HD) (f : PySem.Str → Option Int) : List Nat := (LvOf d.Q d.num f).map Int.toNat
def patt (d : HD) (f : PySem.Str → Option Int) : List Bool := (LvOf d.Q d.num f).map fun v => decide (v = d.num + 101)
def packN (d : HD) (f : PySem.Str → Option Int) : Nat := pkR (2 ^ (d.wk + 1)) (natL d f).reverse
theorem natL_lt {d : HD} (h : -1 ≤ d.num) {f : PySem.Str → Option Int} (hf : NN f) : ∀ l ∈ natL d f, l < 2 ^ d.wk := fun l hl => by
  unfold natL LvOf at hl
  rw [List.map_map] at hl
  obtain ⟨q, _, rfl⟩ := List.mem_map.mp hl
  have h1 := capL_bd h (o := f q) (fun b hb => hf q b hb)
  have h2 : (d.num + 101).natAbs < 2 ^ d.wk := intBits_le_iff.mp (Nat.le_refl _)
  show (capL d.num (f q)).toNat < _
  omega
theorem natL_len {d : HD} {f : PySem.Str → Option Int} : (natL d f).length = d.Q.length := by
  unfold natL LvOf
  rw [List.length_map, List.length_map]
theorem riv_dom {d : HD} (hn : -1 ≤ d.num) {f g : PySem.Str → Option Int} (hf : NN f) (hg : NN g) (hp : patt d f = patt d g) (h : noLess (packN d g : Nat) (d.gd : Nat) (packN d f : Nat) = true) : Dom d.Q d.num f g := by
  unfold packN HD.gd at h
  have el : d.Q.length = (natL d g).reverse.length := by rw [List.length_reverse, natL_len]
  rw [el] at h
  have key := noLess_ok (k := d.wk) (as := (natL d g).reverse) (bs := (natL d f).reverse) (by rw [List.length_reverse, List.length_reverse, natL_len, natL_len]) (fun l hl => natL_lt hn hg l (List.mem_reverse.mp hl)) (fun l hl => natL_lt hn hf l (List.mem_reverse.mp hl)) h
  refine dom_of rfl rfl hp fun i a b ha hb => ?_
  have il : i < d.Q.length := by
    have := (List.getElem?_eq_some_iff.mp ha).1
    unfold LvOf at this
    rwa [List.length_map] at this
  have ha' : (natL d f).reverse[d.Q.length - 1 - i]? = some a.toNat := by
    rw [List.getElem?_reverse (by rw [natL_len]; omega), natL_len, show d.Q.length - 1 - (d.Q.length - 1 - i) = i by omega]
    unfold natL
    rw [List.getElem?_map, ha]
    rfl
  have hb' : (natL d g).reverse[d.Q.length - 1 - i]? = some b.toNat := by
    rw [List.getElem?_reverse (by rw [natL_len]; omega), natL_len, show d.Q.length - 1 - (d.Q.length - 1 - i) = i by omega]
    unfold natL
    rw [List.getElem?_map, hb]
    rfl
  have hle := key _ _ _ hb' ha'
  have b0 : 0 ≤ b := by
    have := List.mem_of_getElem? hb
    unfold LvOf at this
    obtain ⟨q, _, rfl⟩ := List.mem_map.mp this
    exact (capL_bd hn (fun b hb => hg q b hb)).1
  omega
theorem pkR_lt {B : Nat} : ∀ (ls : List Nat), (∀ l ∈ ls, l < B) → pkR B ls < B ^ ls.length
  | [], _ => by simp [pkR]
  | l :: r, h => by
    have ih := pkR_lt r fun z hz => h z (List.mem_cons_of_mem _ hz)
    have := h l (List.mem_cons_self ..)
    simp only [pkR, List.length_cons, Nat.pow_succ]
    have : (pkR B r + 1) * B ≤ B ^ r.length * B := Nat.mul_le_mul_right _ ih
    rw [Nat.add_mul] at this
    omega
theorem pk_step (a n k : Nat) : ((a : Nat) : Int) * 2 ^ ((k : Nat) : Int).toNat + ((n : Nat) : Int) = ((a * 2 ^ k + n : Nat) : Int) := by
  rw [Int.toNat_natCast, Int.natCast_add, Int.natCast_mul, Int.natCast_pow]
  rfl
theorem pk_take {B i n : Nat} {ls : List Nat} (h : ls[i]? = some n) : pkR B (ls.take (i + 1)).reverse = pkR B (ls.take i).reverse * B + n := by
  rw [List.take_add_one, h, Option.toList_some, List.reverse_append]
  rfl
theorem cut_last (xs : List V) : cutV xs (some (-30)) none = xs.drop (xs.length - 30) := by
  unfold cutV
  have e1 : HT.sIx xs.length 0 (some (-30)) = xs.length - 30 := by
    unfold HT.sIx
    simp
    omega
  have e2 : HT.sIx xs.length xs.length none = xs.length := rfl
  rw [e1, e2, List.take_of_length_le]
  rw [List.length_drop]
  exact Nat.le_refl _
def RivS (G : Hp) (d : HD) (O : List PySem.Str → Prop) (kvs : List (List Bool × V)) : Prop := ∀ st v, valV kvs st = some v → ∃ (l : Addr) (bs : List Int), v = .ref l ∧ G l = some (.lst (bs.map V.int)) ∧ bs.length ≤ 40 ∧ ∀ b ∈ bs, ∃ y g, O y ∧ Lst d.A d.S y g ∧ NN g ∧ b = (packN d g : Nat) ∧ st = patt d g
theorem RivS.same {G G' : Hp} {d : HD} {O O' : List PySem.Str → Prop} {kvs : List (List Bool × V)} (h : RivS G d O kvs) (e : Same G G') (hO : ∀ y, O y → O' y) : RivS G' d O' kvs := fun st v hv => by
  obtain ⟨l, bs, h1, h2, h3, h4⟩ := h st v hv
  exact ⟨l, bs, h1, e _ _ h2, h3, fun b hb => by
    obtain ⟨y, g, k1, k2⟩ := h4 b hb
    exact ⟨y, g, hO y k1, k2⟩⟩
theorem HAt.same {P : Program} {w : World} {C x dx : Addr} {h : HAd} {d : HD} {gp : Int} {dr : V} {Sn : List (List Int)} {kvs : List (List Bool × V)} {us : List V} {H H' : Hp} (a : HAt P w C H x dx h d gp dr Sn kvs us) (e : Same H H') : HAt P w C H' x dx h d gp dr Sn kvs us := by
  obtain ⟨l, ys, h1, h2⟩ := a.rv
  exact ⟨e _ _ a.ins, e _ _ a.sn, ⟨l, ys, e _ _ h1, h2.keeps fun b zs z => e _ _ z⟩, e _ _ a.tr, a.st.same (hid_same e)⟩
theorem HAt.rival {P : Program} {w : World} {C x dx : Addr} {h : HAd} {d : HD} {gp : Int} {dr : V} {Sn : List (List Int)} {kvs kvs' : List (List Bool × V)} {us : List V} {H H' : Hp} (a : HAt P w C H x dx h d gp dr Sn kvs us) (b : But h.rv H H') (r : BD P w H' h.rv kvs') : HAt P w C H' x dx h d gp dr Sn kvs' us ∧ hid (hdyn x h) H' = hid (hdyn x h) H := by
  obtain ⟨_, ys, h1, _⟩ := a.rv
  have n1 : x ≠ h.rv := fun e => by
    have := a.ins
    rw [e, h1] at this
    cases this
  have n2 : h.sn ≠ h.rv := fun e => by
    have := a.sn
    rw [e, h1] at this
    cases this
  have n3 : h.tr ≠ h.rv := fun e => by
    have := a.tr
    rw [e, h1] at this
    cases this
  have eh : hid (hdyn x h) H' = hid (hdyn x h) H := hid_but b (by unfold hdyn; simp)
  exact ⟨⟨(b _ n1).trans a.ins, (b _ n2).trans a.sn, r, (b _ n3).trans a.tr, by rw [eh]; exact a.st⟩, eh⟩
theorem HAt.fresh {P : Program} {w : World} {C x dx : Addr} {h : HAd} {d : HD} {gp : Int} {dr : V} {Sn : List (List Int)} {kvs : List (List Bool × V)} {us : List V} {H : Hp} (a : HAt P w C H x dx h d gp dr Sn kvs us) {q : Addr} (e : H q = none) : q ∉ hdyn x h := fun c => by
  obtain ⟨_, ys, h1, _⟩ := a.rv
  unfold hdyn at c
  simp only [List.mem_cons, List.not_mem_nil, or_false] at c
  rcases c with rfl | rfl | rfl | rfl
  · have := a.ins
    rw [e] at this
    cases this
  · have := a.sn
    rw [e] at this
    cases this
  · rw [e] at h1
    cases h1
  · have := a.tr
    rw [e] at this
    cases this
section
variable (P : Program) (w : World) (K : PySem.W.Frag) (C : Addr)
def spOutdo : Sp := fun vs H Q _ => ∃ (x dx t : Addr) (h : HAd) (d : HD) (gp : Int) (dr : V) (Sn : List (List Int)) (kvs : List (List Bool × V)) (us : List V) (u : List PySem.Str) (f : PySem.Str → Option Int) (O : List PySem.Str → Prop), vs = [.ref x, .ref t] ∧ HAt P w C H x dx h d gp dr Sn kvs us ∧ HOk d ∧ RivS (hid (hdyn x h) H) d O kvs ∧ kvs.length ≤ 10000 ∧
  H t = some (.tup ((LvOf d.Q d.num f).map V.int)) ∧ Lst d.A d.S u f ∧ NN f ∧
  ∀ (b : Bool) (kvs' : List (List Bool × V)) (H' : Hp), HAt P w C H' x dx h d gp dr Sn kvs' us → Same (hid (hdyn x h) H) (hid (hdyn x h) H') → kvs'.length ≤ kvs.length + 1 → RivS (hid (hdyn x h) H') d (fun y => O y ∨ y = u) kvs' → (b = false → ∃ y g, O y ∧ Lst d.A d.S y g ∧ Dom d.Q d.num f g) → Q (.bl b) H'
end
end Bz
namespace Bz
open PySem PySem.Spec PyProof.Rows L2
section
variable {P : Program} {w : World} {C x dx : Addr} {h : HAd} {d : HD} {gp : Int} {dr : V} {Sn : List (List Int)} {kvs : List (List Bool × V)} {us : List V} {H : Hp}
theorem HAt.nes (a : HAt P w C H x dx h d gp dr Sn kvs us) : x ≠ h.sn ∧ x ≠ h.rv ∧ x ≠ h.tr ∧ h.sn ≠ h.rv ∧ h.sn ≠ h.tr ∧ h.rv ≠ h.tr := by
  obtain ⟨_, ys, h1, _⟩ := a.rv
  have h2 := a.ins
  have h3 := a.sn
  have h4 := a.tr
  refine ⟨fun e => ?_, fun e => ?_, fun e => ?_, fun e => ?_, fun e => ?_, fun e => ?_⟩
  · rw [e, h3] at h2; cases h2
  · rw [e, h1] at h2; cases h2
  · rw [e, h4] at h2; cases h2
  · rw [e, h1] at h3; cases h3
  · rw [e, h4] at h3; cases h3
  · rw [e, h4] at h1; cases h1
theorem HAt.put_sn (a : HAt P w C H x dx h d gp dr Sn kvs us) (Sn' : List (List Int)) : HAt P w C (upd H h.sn (.dT (snK Sn'))) x dx h d gp dr Sn' kvs us ∧ hid (hdyn x h) (upd H h.sn (.dT (snK Sn'))) = hid (hdyn x h) H := by
  obtain ⟨n1, n2, n3, n4, n5, n6⟩ := a.nes
  have eh : hid (hdyn x h) (upd H h.sn (.dT (snK Sn'))) = hid (hdyn x h) H := hid_upd (by unfold hdyn; simp)
  exact ⟨⟨(upd_ne n1).trans a.ins, upd_same, a.rv.keep (upd_ne n4.symm) fun b ys z => tup_mut (fun zs q => by rw [a.sn] at q; cases q) z, (upd_ne n5.symm).trans a.tr, by rw [eh]; exact a.st⟩, eh⟩
theorem HAt.put_x (a : HAt P w C H x dx h d gp dr Sn kvs us) (gp' : Int) (dr' : V) : HAt P w C (upd H x (.ins C dx (hfs h d gp' dr'))) x dx h d gp' dr' Sn kvs us ∧ hid (hdyn x h) (upd H x (.ins C dx (hfs h d gp' dr'))) = hid (hdyn x h) H := by
  obtain ⟨n1, n2, n3, n4, n5, n6⟩ := a.nes
  have eh : hid (hdyn x h) (upd H x (.ins C dx (hfs h d gp' dr'))) = hid (hdyn x h) H := hid_upd (by unfold hdyn; simp)
  exact ⟨⟨upd_same, (upd_ne n1.symm).trans a.sn, a.rv.keep (upd_ne n2.symm) fun b ys z => tup_mut (fun zs q => by rw [a.ins] at q; cases q) z, (upd_ne n3.symm).trans a.tr, by rw [eh]; exact a.st⟩, eh⟩
theorem HAt.put_tr (a : HAt P w C H x dx h d gp dr Sn kvs us) (us' : List V) : HAt P w C (upd H h.tr (.lst us')) x dx h d gp dr Sn kvs us' ∧ hid (hdyn x h) (upd H h.tr (.lst us')) = hid (hdyn x h) H := by
  obtain ⟨n1, n2, n3, n4, n5, n6⟩ := a.nes
  have eh : hid (hdyn x h) (upd H h.tr (.lst us')) = hid (hdyn x h) H := hid_upd (by unfold hdyn; simp)
  exact ⟨⟨(upd_ne n3).trans a.ins, (upd_ne n5).trans a.sn, a.rv.keep (upd_ne n6) fun b ys z => tup_mut (fun zs q => by rw [a.tr] at q; cases q) z, upd_same, by rw [eh]; exact a.st⟩, eh⟩
theorem put_gp (gp' : Int) : putF "greatest_price" (.int gp') (hfs h d gp dr) = hfs h d gp' dr := putF_zipS 1 rfl (show 1 < 14 by decide) hkeys_nd
theorem put_dr (dr' : V) : putF "dearest_row" dr' (hfs h d gp dr) = hfs h d gp dr' := putF_zipS 2 rfl (show 2 < 14 by decide) hkeys_nd
end
/-! ### what a hunt knows -/
def HBd (d : HD) (N : Nat) : Prop := ∀ Sn : List (List Int), Sn.Nodup → (∀ k ∈ Sn, ∃ y f, Lst d.A d.S y f ∧ k = LvOf d.Q d.num f) → Sn.length ≤ N
structure HSt (P : Program) (w : World) (C : Addr) (H : Hp) (x dx : Addr) (h : HAd) (d : HD) (Sn : List (List Int)) (kvs : List (List Bool × V)) (us : List V) (T : List (List PySem.Str)) (O : List PySem.Str → Prop) : Prop where
  hat : HAt P w C H x dx h d d.num .non Sn kvs us
  ts : TrS (hid (hdyn x h) H) d us T
  rs : RivS (hid (hdyn x h) H) d O kvs
  ss : ∀ k ∈ Sn, ∃ y f, O y ∧ Lst d.A d.S y f ∧ NN f ∧ k = LvOf d.Q d.num f
  nd : Sn.Nodup
  tn : T.length ≤ Sn.length
  kn : kvs.length ≤ Sn.length
  to : ∀ t ∈ T, O t
  sT : T.Pairwise slt
  wl : ∀ t ∈ T, t.length ≤ T.length
  off : ∀ o, O o → ¬ Dear d.A d.S d.E d.num o ∧ (o ∈ T ∨ Useless d.A d.S d.E d.num o)
theorem HSt.bd {P : Program} {w : World} {C : Addr} {H : Hp} {x dx : Addr} {h : HAd} {d : HD} {Sn : List (List Int)} {kvs : List (List Bool × V)} {us : List V} {T : List (List PySem.Str)} {O : List PySem.Str → Prop} {N : Nat} (s : HSt P w C H x dx h d Sn kvs us T O) (b : HBd d N) : Sn.length ≤ N := b Sn s.nd fun k hk => by
  obtain ⟨y, f, _, h1, _, h2⟩ := s.ss k hk
  exact ⟨y, f, h1, h2⟩
def keyL (k : List Int) : List Ky := k.map fun n => (Sum.inl n : Ky)
theorem keyL_inj {a b : List Int} (h : keyL a = keyL b) : a = b := by
  have : ∀ (a b : List Int), keyL a = keyL b → a = b := by
    intro a
    induction a with
    | nil =>
      intro b h
      cases b with
      | nil => rfl
      | cons _ _ => cases h
    | cons x a ih =>
      intro b h
      cases b with
      | nil => cases h
      | cons y b =>
        obtain ⟨h1, h2⟩ := List.cons.inj h
        rw [Sum.inl.inj h1, ih b h2]
  exact this a b h
theorem sn_get {Sn : List (List Int)} {k : List Int} : (valV (snK Sn) (keyL k)).isSome = true ↔ k ∈ Sn := by
  constructor
  · intro h
    obtain ⟨v, hv⟩ := Option.isSome_iff_exists.mp h
    by_cases c : keyL k ∈ (snK Sn).map (·.1)
    · obtain ⟨p, hp, e⟩ := List.mem_map.mp c
      obtain ⟨k', hk', rfl⟩ := List.mem_map.mp hp
      have := keyL_inj (a := k') (b := k) e
      exact this ▸ hk'
    · rw [valV_none c] at hv
      cases hv
  · intro h
    have : keyL k ∈ (snK Sn).map (·.1) := List.mem_map.mpr ⟨(keyL k, V.bl true), List.mem_map.mpr ⟨k, h, rfl⟩, rfl⟩
    rw [← valV_any]
    exact List.any_eq_true.mpr ⟨(keyL k, V.bl true), List.mem_map.mpr ⟨k, h, rfl⟩, decide_eq_true rfl⟩
theorem sn_put {Sn : List (List Int)} {k : List Int} (h : k ∉ Sn) : putK (snK Sn) (keyL k) (.bl true) = snK (Sn ++ [k]) := by
  rw [putK_new]
  · unfold snK
    rw [List.map_append]
    rfl
  · intro c
    obtain ⟨p, hp, e⟩ := List.mem_map.mp c
    obtain ⟨k', hk', rfl⟩ := List.mem_map.mp hp
    exact h (keyL_inj (a := k') (b := k) e ▸ hk')
theorem keyV (k : List Int) : (keyL k).map kV = k.map V.int := by
  unfold keyL
  rw [List.map_map]
  rfl
/-- the level of a row's price -/
theorem price_level {E : List PySem.Str} {num : Int} {f : PySem.Str → Option Int} {m : Int} (h : ((E.map fun e => capL num (f e)) = [] ∧ m = num + 101) ∨ (m ∈ (E.map fun e => capL num (f e)) ∧ ∀ n ∈ (E.map fun e => capL num (f e)), m ≤ n)) : m = capL num (priceF E f) := by
  have key := minOpt_least (E.filterMap f)
  unfold priceF
  rcases h with ⟨h1, rfl⟩ | ⟨h1, h2⟩
  · have : E = [] := List.map_eq_nil_iff.mp h1
    subst this
    rfl
  · obtain ⟨e, he, rfl⟩ := List.mem_map.mp h1
    cases hm : minOpt (E.filterMap f) with
    | none =>
      have hN := minOpt_none.mp hm
      have : f e = none := by
        cases hf : f e with
        | none => rfl
        | some b =>
          have := List.mem_filterMap.mpr ⟨e, he, hf⟩
          rw [hN] at this
          cases this
      rw [this]
    | some c =>
      rw [hm] at key
      obtain ⟨e', he', hc⟩ := List.mem_filterMap.mp key.1
      have h3 := h2 _ (List.mem_map.mpr ⟨e', he', rfl⟩)
      rw [hc] at h3
      cases hf : f e with
      | none =>
        rw [hf] at h3
        simp only [capL] at h3 ⊢
        split at h3 <;> omega
      | some b =>
        rw [hf] at h3
        have h4 := key.2 b (List.mem_filterMap.mpr ⟨e, he, hf⟩)
        simp only [capL] at h3 ⊢
        split at h3 <;> split at h3 <;> (repeat' split) <;> omega
theorem dear_level {A : List Arw} {S E u : List PySem.Str} {num : Int} {f : PySem.Str → Option Int} (h : Lst A S u f) : Dear A S E num u ↔ num < capL num (priceF E f) ∧ capL num (priceF E f) < num + 101 := by
  rw [Dear.iff h]
  cases priceF E f with
  | none => simp [capL]
  | some c =>
    simp only [capL, Option.some.injEq, exists_eq_left']
    split <;> omega
theorem low_useless {d : HD} (hO : HOk d) {u : List PySem.Str} {f : PySem.Str → Option Int} (h : Lst d.A d.S u f) (hr : ¬ (d.R.all fun r => decide (d.num < capL d.num (f r))) = true) : ∀ v, ¬ Dear d.A d.S d.E d.num (u ++ v) := by
  rw [List.all_eq_true] at hr
  obtain ⟨r, hr, hn⟩ : ∃ r ∈ d.R, ¬ (d.num < capL d.num (f r)) := by
    refine Classical.byContradiction fun c => hr fun r hr => ?_
    refine decide_eq_true ?_
    exact Classical.byContradiction fun n => c ⟨r, hr, n⟩
  have hf := h r
  cases hb : f r with
  | none =>
    rw [hb] at hn
    exact absurd (show d.num < d.num + 101 by omega) hn
  | some b =>
    rw [hb] at hn hf
    simp only [capL] at hn
    exact rest_low hO.aL hO.rest hr hf.1 (by split at hn <;> omega)
section
variable (P : Program) (w : World) (K : PySem.W.Frag) (C : Addr)
def spOffer : Sp := fun vs H Q _ => ∃ (x dx t : Addr) (fr : V) (l : PySem.Str) (h : HAd) (d : HD) (Sn : List (List Int)) (kvs : List (List Bool × V)) (us : List V) (T : List (List PySem.Str)) (O : List PySem.Str → Prop) (u : List PySem.Str) (f : PySem.Str → Option Int) (N : Nat), vs = [.ref x, .ref t, fr, .str l] ∧ HSt P w C H x dx h d Sn kvs us T O ∧ HOk d ∧ HBd d N ∧ N ≤ 4000 ∧
  hid (hdyn x h) H t = some (.tup ((LvOf d.Q d.num f).map V.int)) ∧ Lst d.A d.S u f ∧ NN f ∧ FrOk T u fr l ∧ (∀ k ∈ u, Lt k) ∧ u.length ≤ T.length + 1 ∧ (∀ o, O o → slt o u) ∧
  (∀ (Sn' : List (List Int)) (kvs' : List (List Bool × V)) (us' : List V) (T' : List (List PySem.Str)) (H' : Hp), HSt P w C H' x dx h d Sn' kvs' us' T' (fun y => O y ∨ y = u) → (T' = T ∨ T' = T ++ [u]) → Same (hid (hdyn x h) H) (hid (hdyn x h) H') → Q .non H') ∧
  (∀ (z : PySem.Str) (Sn' : List (List Int)) (kvs' : List (List Bool × V)) (us' : List V) (H' : Hp), HAt P w C H' x dx h d (d.num + 1) (.str z) Sn' kvs' us' → us'.length ≤ 10000 → sgnL z = u → Dear d.A d.S d.E d.num u → Same (hid (hdyn x h) H) (hid (hdyn x h) H') → Q .non H')
def spRun : Sp := fun vs H Q _ => ∃ (x dx : Addr) (h : HAd) (d : HD) (N : Nat), vs = [.ref x] ∧ HAt P w C H x dx h d d.num .non [] [] [] ∧ HOk d ∧ HBd d N ∧ N ≤ 4000 ∧
  (∀ (Sn : List (List Int)) (kvs : List (List Bool × V)) (us : List V) (H' : Hp), HAt P w C H' x dx h d d.num .non Sn kvs us → (∀ u, ¬ Dear d.A d.S d.E d.num u) → Same (hid (hdyn x h) H) (hid (hdyn x h) H') → Q .non H') ∧
  (∀ (z : PySem.Str) (Sn : List (List Int)) (kvs : List (List Bool × V)) (us : List V) (H' : Hp), HAt P w C H' x dx h d (d.num + 1) (.str z) Sn kvs us → (sgnL z).length ≤ 4001 → Dear d.A d.S d.E d.num (sgnL z) → (∀ y, slt y (sgnL z) → ¬ Dear d.A d.S d.E d.num y) → Same (hid (hdyn x h) H) (hid (hdyn x h) H') → Q .non H')
end
end Bz
namespace Bz
open PySem PySem.Spec PyProof.Rows L2
/-! ### what has been offered, as the hunt goes on -/
section
variable {L : List PySem.Str} {T T' : List (List PySem.Str)} {at_ k : Nat} {t : List PySem.Str} {l : PySem.Str}
theorem offd_step (ht : T[at_]? = some t) (hl : L[k]? = some l) (e : T' = T ∨ T' = T ++ [t ++ [l]]) : (fun y => Offd L T at_ k y ∨ y = t ++ [l]) = Offd L T' at_ (k + 1) := by
  have same : ∀ i, i ≤ at_ → T'[i]? = T[i]? := fun i hi => by
    have : at_ < T.length := (List.getElem?_eq_some_iff.mp ht).1
    rcases e with rfl | rfl
    · rfl
    · rw [List.getElem?_append_left (by omega)]
  funext y
  refine propext ⟨fun h => ?_, fun h => ?_⟩
  · rcases h with (h | ⟨i, s, hi, hs, m, hm, rfl⟩ | ⟨s, j, m, hs, hj, hm, rfl⟩) | rfl
    · exact .inl h
    · exact .inr (.inl ⟨i, s, hi, by rw [same i (by omega)]; exact hs, m, hm, rfl⟩)
    · exact .inr (.inr ⟨s, j, m, by rw [same at_ (Nat.le_refl _)]; exact hs, by omega, hm, rfl⟩)
    · exact .inr (.inr ⟨t, k, l, by rw [same at_ (Nat.le_refl _)]; exact ht, by omega, hl, rfl⟩)
  · rcases h with h | ⟨i, s, hi, hs, m, hm, rfl⟩ | ⟨s, j, m, hs, hj, hm, rfl⟩
    · exact .inl (.inl h)
    · exact .inl (.inr (.inl ⟨i, s, hi, by rw [← same i (by omega)]; exact hs, m, hm, rfl⟩))
    · rw [same at_ (Nat.le_refl _)] at hs
      by_cases c : j = k
      · subst c
        rw [ht] at hs
        cases hs
        rw [hl] at hm
        cases hm
        exact .inr rfl
      · exact .inl (.inr (.inr ⟨s, j, m, hs, by omega, hm, rfl⟩))
theorem offd_row (ht : T[at_]? = some t) : Offd L T at_ L.length = Offd L T (at_ + 1) 0 := by
  funext y
  refine propext ⟨fun h => ?_, fun h => ?_⟩
  · rcases h with h | ⟨i, s, hi, hs, m, hm, rfl⟩ | ⟨s, j, m, hs, hj, hm, rfl⟩
    · exact .inl h
    · exact .inr (.inl ⟨i, s, by omega, hs, m, hm, rfl⟩)
    · exact .inr (.inl ⟨at_, s, by omega, hs, m, List.mem_of_getElem? hm, rfl⟩)
  · rcases h with h | ⟨i, s, hi, hs, m, hm, rfl⟩ | ⟨s, j, m, hs, hj, hm, rfl⟩
    · exact .inl h
    · by_cases c : i = at_
      · subst c
        obtain ⟨j, hj, e⟩ := List.getElem_of_mem hm
        exact .inr (.inr ⟨s, j, m, hs, hj, by rw [List.getElem?_eq_getElem hj, e], rfl⟩)
      · exact .inr (.inl ⟨i, s, by omega, hs, m, hm, rfl⟩)
    · exact absurd hj (by omega)
theorem offd_all (e : at_ = T.length) {w : List PySem.Str} (h : w = [] ∨ ∃ t ∈ T, ∃ l ∈ L, w = t ++ [l]) : Offd L T at_ 0 w := by
  rcases h with h | ⟨t, ht, l, hl, rfl⟩
  · exact .inl h
  · obtain ⟨i, hi, e2⟩ := List.getElem_of_mem ht
    exact .inr (.inl ⟨i, t, by omega, by rw [List.getElem?_eq_getElem hi, e2], l, hl, rfl⟩)
theorem slt_asym {u v : List PySem.Str} (h : slt u v) (k : slt v u) : False := slt_irr u (slt_tr h k)
theorem offd_more (aL : Asc L) (sT : T.Pairwise slt) (ht : T[at_]? = some t) (hl : L[k]? = some l) {s : List PySem.Str} {m : PySem.Str} (hs : s ∈ T) (hm : m ∈ L) (h : slt (s ++ [m]) (t ++ [l])) : Offd L T at_ k (s ++ [m]) := by
  obtain ⟨i, hi, e⟩ := List.getElem_of_mem hs
  obtain ⟨j, hj, e2⟩ := List.getElem_of_mem hm
  have hsi : T[i]? = some s := by rw [List.getElem?_eq_getElem hi, e]
  have hmj : L[j]? = some m := by rw [List.getElem?_eq_getElem hj, e2]
  obtain ⟨ha, et⟩ := List.getElem?_eq_some_iff.mp ht
  obtain ⟨hk, el⟩ := List.getElem?_eq_some_iff.mp hl
  by_cases c : i < at_
  · exact .inr (.inl ⟨i, s, c, hsi, m, hm, rfl⟩)
  · by_cases c2 : i = at_
    · subst c2
      rw [ht] at hsi
      cases hsi
      by_cases c3 : j < k
      · exact .inr (.inr ⟨_, j, m, ht, c3, hmj, rfl⟩)
      · exfalso
        by_cases c4 : j = k
        · subst c4
          rw [hl] at hmj
          cases hmj
          exact slt_irr _ h
        · have := List.pairwise_iff_getElem.mp aL k j hk hj (by omega)
          rw [el, e2] at this
          exact slt_asym h (slt_last this)
    · exfalso
      have := List.pairwise_iff_getElem.mp sT at_ i ha hi (by omega)
      rw [et, e] at this
      exact slt_asym h (slt_app rfl this)
end
def RSt (P : Program) (w : World) (C : Addr) (H : Hp) (x dx : Addr) (h : HAd) (d : HD) (at_ k : Nat) (below : Prop) : Prop :=
  (∃ Sn kvs us T, HSt P w C H x dx h d Sn kvs us T (Offd d.L T at_ k) ∧ at_ ≤ T.length ∧ (below → at_ < T.length)) ∨
  ∃ z Sn kvs us, HAt P w C H x dx h d (d.num + 1) (.str z) Sn kvs us ∧ us.length ≤ 10000 ∧ (sgnL z).length ≤ 4001 ∧ Dear d.A d.S d.E d.num (sgnL z) ∧ ∀ y, slt y (sgnL z) → ¬ Dear d.A d.S d.E d.num y
theorem offer_both {P : Program} {w : World} {C x dx : Addr} {h : HAd} {d : HD} {H : Hp} {T : List (List PySem.Str)} {O : List PySem.Str → Prop} {u : List PySem.Str} {Q : Hp → Prop} (R : Hp → Prop)
    (hA : ∀ (Sn' : List (List Int)) (kvs' : List (List Bool × V)) (us' : List V) (T' : List (List PySem.Str)) (H' : Hp), HSt P w C H' x dx h d Sn' kvs' us' T' (fun y => O y ∨ y = u) → (T' = T ∨ T' = T ++ [u]) → Same (hid (hdyn x h) H) (hid (hdyn x h) H') → R H')
    (hB : ∀ (z : PySem.Str) (Sn' : List (List Int)) (kvs' : List (List Bool × V)) (us' : List V) (H' : Hp), HAt P w C H' x dx h d (d.num + 1) (.str z) Sn' kvs' us' → us'.length ≤ 10000 → sgnL z = u → Dear d.A d.S d.E d.num u → Same (hid (hdyn x h) H) (hid (hdyn x h) H') → R H')
    (hQ : ∀ H', R H' → Q H') :
    (∀ (Sn' : List (List Int)) (kvs' : List (List Bool × V)) (us' : List V) (T' : List (List PySem.Str)) (H' : Hp), HSt P w C H' x dx h d Sn' kvs' us' T' (fun y => O y ∨ y = u) → (T' = T ∨ T' = T ++ [u]) → Same (hid (hdyn x h) H) (hid (hdyn x h) H') → Q H') ∧
    (∀ (z : PySem.Str) (Sn' : List (List Int)) (kvs' : List (List Bool × V)) (us' : List V) (H' : Hp), HAt P w C H' x dx h d (d.num + 1) (.str z) Sn' kvs' us' → us'.length ≤ 10000 → sgnL z = u → Dear d.A d.S d.E d.num u → Same (hid (hdyn x h) H) (hid (hdyn x h) H') → Q H') :=
  ⟨fun a b c e H' k1 k2 k3 => hQ H' (hA a b c e H' k1 k2 k3), fun z a b c H' k1 k2 k3 k4 k5 => hQ H' (hB z a b c H' k1 k2 k3 k4 k5)⟩
theorem off_nil {L : List PySem.Str} {T : List (List PySem.Str)} : (fun y : List PySem.Str => False ∨ y = []) = Offd L T 0 0 := by
  funext y
  refine propext ⟨fun h => .inl (h.resolve_left id), fun h => ?_⟩
  rcases h with h | ⟨i, s, hi, _⟩ | ⟨s, j, m, _, hj, _⟩
  · exact .inr h
  · exact absurd hi (by omega)
  · exact absurd hj (by omega)
/-- what is there of a state of a hunt, found or not -/
theorem RSt.ex {P : Program} {w : World} {C x dx : Addr} {h : HAd} {d : HD} {H : Hp} {a k : Nat} {b : Prop} (r : RSt P w C H x dx h d a k b) : ∃ gp dr Sn kvs us, HAt P w C H x dx h d gp dr Sn kvs us := by
  rcases r with ⟨Sn, kvs, us, T, s, _⟩ | ⟨z, Sn, kvs, us, s, _⟩
  · exact ⟨_, _, _, _, _, s.hat⟩
  · exact ⟨_, _, _, _, _, s⟩
theorem RSt.below {P : Program} {w : World} {C x dx : Addr} {h : HAd} {d : HD} {H : Hp} {a k : Nat} {us : List V} (r : RSt P w C H x dx h d a k False) (tr : H h.tr = some (.lst us)) (c : a < us.length) : RSt P w C H x dx h d a k True := by
  rcases r with ⟨Sn, kvs, us', T, s, h1, _⟩ | ⟨z, Sn, kvs, us', s, h1, h2⟩
  · have e := s.hat.tr
    rw [tr] at e
    cases e
    exact .inl ⟨Sn, kvs, us, T, s, h1, fun _ => by rw [← s.ts.len]; exact c⟩
  · have e := s.tr
    rw [tr] at e
    cases e
    exact .inr ⟨z, Sn, kvs, us, s, h1, h2⟩
theorem RSt.next {P : Program} {w : World} {C x dx : Addr} {h : HAd} {d : HD} {H : Hp} {a : Nat} (r : RSt P w C H x dx h d a d.L.length True) : RSt P w C H x dx h d (a + 1) 0 False := by
  rcases r with ⟨Sn, kvs, us', T, s, h1, h2⟩ | ⟨z, Sn, kvs, us', s, h1, h2⟩
  · have hl := h2 trivial
    refine .inl ⟨Sn, kvs, us', T, ?_, hl, fun z => z.elim⟩
    rw [← offd_row (t := T[a]) (List.getElem?_eq_getElem hl)]
    exact s
  · exact .inr ⟨z, Sn, kvs, us', s, h1, h2⟩
theorem HSt.same {P : Program} {w : World} {C x dx : Addr} {h : HAd} {d : HD} {H H' : Hp} {Sn : List (List Int)} {kvs : List (List Bool × V)} {us : List V} {T : List (List PySem.Str)} {O : List PySem.Str → Prop} (s : HSt P w C H x dx h d Sn kvs us T O) (e : Same H H') : HSt P w C H' x dx h d Sn kvs us T O :=
  ⟨s.hat.same e, s.ts.same (hid_same e), s.rs.same (hid_same e) fun y h => h, s.ss, s.nd, s.tn, s.kn, s.to, s.sT, s.wl, s.off⟩
theorem HAt.tup {P : Program} {w : World} {C x dx : Addr} {h : HAd} {d : HD} {gp : Int} {dr : V} {Sn : List (List Int)} {kvs : List (List Bool × V)} {us : List V} {H : Hp} (a : HAt P w C H x dx h d gp dr Sn kvs us) {q : Addr} {ys : List V} (e : H q = some (.tup ys)) : hid (hdyn x h) H q = some (.tup ys) := hid_of e fun c => by
  obtain ⟨_, zs, h1, _⟩ := a.rv
  unfold hdyn at c
  simp only [List.mem_cons, List.not_mem_nil, or_false] at c
  rcases c with rfl | rfl | rfl | rfl
  · have := a.ins
    rw [e] at this
    cases this
  · have := a.sn
    rw [e] at this
    cases this
  · rw [e] at h1
    cases h1
  · have := a.tr
    rw [e] at this
    cases this
end Bz
namespace Bz
open PySem PySem.Spec PyProof.Rows L2
/-! ### how many levels there are -/
def valsG (g num : Int) : List Int := (List.range (num / g + 1).toNat).map (fun k : Nat => (k : Int) * g) ++ [num + 1, num + 101]
def tupsN (Vs : List Int) : Nat → List (List Int)
  | 0 => [[]]
  | n + 1 => Vs.flatMap fun v => (tupsN Vs n).map fun l => v :: l
theorem mem_tupsN {Vs : List Int} : ∀ {l : List Int}, (∀ v ∈ l, v ∈ Vs) → l ∈ tupsN Vs l.length
  | [], _ => List.mem_singleton.mpr rfl
  | v :: l, h => List.mem_flatMap.mpr ⟨v, h v (List.mem_cons_self ..), List.mem_map.mpr ⟨l, mem_tupsN fun z hz => h z (List.mem_cons_of_mem _ hz), rfl⟩⟩
theorem len_tupsN (Vs : List Int) : ∀ n, (tupsN Vs n).length = Vs.length ^ n
  | 0 => rfl
  | n + 1 => by
    simp only [tupsN, List.length_flatMap, List.length_map, len_tupsN Vs n]
    have : ∀ (l : List Int) (c : Nat), (l.map fun _ => c).sum = l.length * c := by
      intro l c
      induction l with
      | nil => simp
      | cons a l ih =>
        rw [List.map_cons, List.sum_cons, ih, List.length_cons, Nat.add_mul]
        omega
    rw [this, Nat.pow_succ, Nat.mul_comm]
structure GBd (A : List Arw) (num : Int) : Prop where
  ex : ∃ g : Int, 0 < g ∧ num / g ≤ 11 ∧ ∀ x ∈ A, ∃ c : Int, x.c = c * g
theorem hbd_of {d : HD} (hO : HOk d) (hG : GBd d.A d.num) : HBd d 2744 := fun Sn nd h => by
  obtain ⟨g, g0, g1, hA⟩ := hG.ex
  have run : ∀ (w : List PySem.Str) (a q : PySem.Str) (n : Int), RunS d.A w a q n → ∃ c : Int, n = c * g := by
    intro w
    induction w with
    | nil =>
      rintro a q n ⟨_, rfl⟩
      exact ⟨0, by rw [Int.zero_mul]⟩
    | cons l w ih =>
      rintro a q n ⟨x, hx, _, _, m, r, rfl⟩
      obtain ⟨c, rfl⟩ := ih _ _ _ r
      obtain ⟨c2, e⟩ := hA x hx
      exact ⟨c2 + c, by rw [e, Int.add_mul]⟩
  have vl : (valsG g d.num).length ≤ 14 := by
    unfold valsG
    rw [List.length_append, List.length_map, List.length_range]
    show (d.num / g + 1).toNat + 2 ≤ 14
    omega
  have sub : ∀ k ∈ Sn, k ∈ tupsN (valsG g d.num) d.Q.length := fun k hk => by
    obtain ⟨y, f, hf, rfl⟩ := h k hk
    have el : (LvOf d.Q d.num f).length = d.Q.length := by
      unfold LvOf
      rw [List.length_map]
    rw [← el]
    refine mem_tupsN fun v hv => ?_
    unfold LvOf at hv
    obtain ⟨q, _, rfl⟩ := List.mem_map.mp hv
    have hq := hf q
    unfold valsG
    cases hb : f q with
    | none =>
      refine List.mem_append_right _ ?_
      show d.num + 101 ∈ _
      simp
    | some b =>
      rw [hb] at hq
      obtain ⟨⟨a, _, r⟩, _⟩ := hq
      have b0 := lst_nn (fun x hx => (hO.ca x hx).1) hf hb
      obtain ⟨c, rfl⟩ := run _ _ _ _ r
      simp only [capL]
      split
      · rename_i hle
        refine List.mem_append_left _ (List.mem_map.mpr ?_)
        have c0 : 0 ≤ c := by
          refine Classical.byContradiction fun z => ?_
          have : c * g < 0 := Int.mul_neg_of_neg_of_pos (by omega) g0
          omega
        have c1 : c ≤ d.num / g := (Int.le_ediv_iff_mul_le g0).mpr hle
        exact ⟨c.toNat, List.mem_range.mpr (by omega), by rw [Int.toNat_of_nonneg c0]⟩
      · exact List.mem_append_right _ (by simp)
  have h1 := nodup_le nd sub
  rw [len_tupsN] at h1
  have h2 : (valsG g d.num).length ^ d.Q.length ≤ 14 ^ 3 := Nat.le_trans (Nat.pow_le_pow_left vl _) (Nat.pow_le_pow_right (by decide) hO.lQ)
  have : (14 : Nat) ^ 3 = 2744 := by decide
  omega
theorem dear_kept {M R : MachV} {F1 F2 : List PySem.Str} {num : Int} {w : List PySem.Str} (hK : Kept M.ars M.sts M.ens F1 F2) (hR : MOf R (M.ars.filter (kpA F1 F2)) (M.sts.filter (kp F1 F2)) (M.ens.filter (kp F1 F2))) : Dear R.ars R.sts R.ens num w ↔ Dear M.ars M.sts M.ens num w := by
  unfold Dear
  constructor
  · rintro ⟨c, h, k⟩
    exact ⟨c, (LPr.kept hK).mp ((LPr.cheap hR.ars hR.sts.2 hR.ens.2).mp h), k⟩
  · rintro ⟨c, h, k⟩
    exact ⟨c, (LPr.cheap hR.ars hR.sts.2 hR.ens.2).mpr ((LPr.kept hK).mpr h), k⟩
def AbV (M : MachV) (num : Int) (v : V) : Prop := (v = .non ∧ ∀ u, ¬ Dear M.ars M.sts M.ens num u) ∨ ∃ z : PySem.Str, v = .str z ∧ (sgnL z).length ≤ 4001 ∧ Dear M.ars M.sts M.ens num (sgnL z) ∧ ∀ y, slt y (sgnL z) → ¬ Dear M.ars M.sts M.ens num y
section
variable (P : Program) (w : World) (K : PySem.W.Frag) (C : Addr)
def spDearest : Sp := fun vs H Q _ => ∃ (m : Addr) (M : MachV) (xs0 : List Arw) (ss0 es0 : List PySem.Str) (num : Int), vs = [.ref m, .int num, .int num] ∧ IsMach C H m M ∧ MFine M ∧ MOf M xs0 ss0 es0 ∧ M.sta.length ≤ 3 ∧ M.lets.length ≤ 40 ∧ -1 ≤ num ∧ num ≤ 300 ∧ GBd M.ars num ∧
  (∀ (t : Addr) (H' : Hp), H' t = some (.tup [.non, .non]) → Same H H' → (∀ u, ¬ Dear M.ars M.sts M.ens num u) → Q (.ref t) H') ∧
  (∀ (t : Addr) (z : PySem.Str) (H' : Hp), H' t = some (.tup [.int (num + 1), .str z]) → Same H H' → (sgnL z).length ≤ 4001 → Dear M.ars M.sts M.ens num (sgnL z) → (∀ y, slt y (sgnL z) → ¬ Dear M.ars M.sts M.ens num y) → Q (.ref t) H')
def spAbove : Sp := fun vs H Q _ => ∃ (m : Addr) (M : MachV) (xs0 : List Arw) (ss0 es0 : List PySem.Str) (num : Int), vs = [.ref m, .int num] ∧ IsMach C H m M ∧ MFine M ∧ MOf M xs0 ss0 es0 ∧ M.sta.length ≤ 3 ∧ M.lets.length ≤ 40 ∧ -1 ≤ num ∧ num ≤ 300 ∧ GBd M.ars num ∧
  ∀ v H', Same H H' → AbV M num v → Q v H'
end
end Bz
namespace Bz
open PySem PySem.Spec PyProof.Rows L2
/-! ### all rows up to a length, in their order -/
def allW (L : List PySem.Str) : Nat → List (List PySem.Str)
  | 0 => wordsN L 0
  | n + 1 => allW L n ++ wordsN L (n + 1)
theorem mem_allW {L : List PySem.Str} {w : List PySem.Str} : ∀ {n : Nat}, w ∈ allW L n ↔ w.length ≤ n ∧ ∀ l ∈ w, l ∈ L
  | 0 => by
    unfold allW
    rw [mem_wordsN]
    exact ⟨fun ⟨h1, h2⟩ => ⟨by omega, h2⟩, fun ⟨h1, h2⟩ => ⟨by omega, h2⟩⟩
  | n + 1 => by
    unfold allW
    rw [List.mem_append, mem_allW, mem_wordsN]
    constructor
    · rintro (⟨h1, h2⟩ | ⟨h1, h2⟩)
      · exact ⟨by omega, h2⟩
      · exact ⟨by omega, h2⟩
    · rintro ⟨h1, h2⟩
      by_cases c : w.length ≤ n
      · exact .inl ⟨c, h2⟩
      · exact .inr ⟨by omega, h2⟩
theorem wordsN_sorted {L : List PySem.Str} (aL : Asc L) : ∀ n, (wordsN L n).Pairwise slt
  | 0 => List.pairwise_singleton ..
  | n + 1 => by
    have ih := wordsN_sorted aL n
    unfold wordsN
    rw [List.pairwise_flatMap]
    refine ⟨fun w hw => ?_, ?_⟩
    · rw [List.pairwise_map]
      exact aL.imp fun {a b} h => slt_last h
    · refine ih.imp fun {a b} h x hx y hy => ?_
      obtain ⟨l, _, rfl⟩ := List.mem_map.mp hx
      obtain ⟨m, _, rfl⟩ := List.mem_map.mp hy
      exact slt_app rfl h
theorem allW_sorted {L : List PySem.Str} (aL : Asc L) : ∀ n, (allW L n).Pairwise slt
  | 0 => wordsN_sorted aL 0
  | n + 1 => by
    unfold allW
    refine List.pairwise_append.mpr ⟨allW_sorted aL n, wordsN_sorted aL (n + 1), fun a ha b hb => ?_⟩
    have h1 := (mem_allW.mp ha).1
    have h2 := (mem_wordsN.mp hb).1
    exact .inl (by omega)
def spRowsO (K : PySem.W.Frag) : Sp := fun vs H Q _ => ∃ (a : Addr) (ls : List PySem.Str) (n : Nat), vs = [.ref a, .int (n : Int)] ∧ SqL K H a (ls.map V.str) ∧ (∀ l ∈ ls, Lt l) ∧ ls.length ≤ 4 ∧ n ≤ 6 ∧
  ∀ (q : Addr) (rs : List PySem.Str) (H' : Hp), H q = none → H' q = some (.lst (rs.map V.str)) → rs.map sgnL = allW ls n → Same H H' → Q (.ref q) H'
def spLettersB (K : PySem.W.Frag) : Sp := fun vs H Q _ => ∃ (m a b e : Addr) (us : List V) (xs : List Arw) (ss es : List PySem.Str), vs = [.ref m] ∧ MadeL K H m a b e us xs ss es ∧ xs.length ≤ 60 ∧
  ∀ (q : Addr) (os : List PySem.Str) (H' : Hp), H q = none → H' q = some (.lst (os.map V.str)) → (∀ k, k ∈ os ↔ ∃ x ∈ xs, k = x.l) → Asc os → Same H H' → Q (.ref q) H'
theorem sgn_snoc {r z : PySem.Str} (h : Lt z) : sgnL (r ++ z) = sgnL r ++ [z] := by rw [sgnL_app, sgn_lt h]
theorem sgn_len {r : PySem.Str} : (sgnL r).length = r.length := sgnL_len r
theorem wordsN_len {L : List PySem.Str} : ∀ n, (wordsN L n).length = L.length ^ n
  | 0 => rfl
  | n + 1 => by
    simp only [wordsN, List.length_flatMap, List.length_map]
    have : ∀ (l : List (List PySem.Str)) (c : Nat), (l.map fun _ => c).sum = l.length * c := by
      intro l c
      induction l with
      | nil => simp
      | cons a l ih =>
        rw [List.map_cons, List.sum_cons, ih, List.length_cons, Nat.add_mul]
        omega
    rw [this, wordsN_len n, Nat.pow_succ]
def reC (cs : List Int) (x : Arw) : Arw := { x with c := cs[(min x.c 2).toNat]?.getD 0 }
def CN (cs : List Int) (num : Int) : Prop := (cs = [0, 1, 2] ∧ -1 ≤ num ∧ num ≤ 3) ∨ (cs = [0, 9, 99] ∧ 0 ≤ num ∧ num ≤ 107)
theorem reC_mem {cs : List Int} {num : Int} (h : CN cs num) {x : Arw} (h0 : 0 ≤ x.c) : (reC cs x).c ∈ cs := by
  have cl : cs.length = 3 := by
    rcases h with ⟨rfl, _⟩ | ⟨rfl, _⟩ <;> rfl
  show cs[(min x.c 2).toNat]?.getD 0 ∈ cs
  rw [List.getElem?_eq_getElem (show (min x.c 2).toNat < cs.length by omega)]
  exact List.getElem_mem _
theorem cn_bd {cs : List Int} {num c : Int} (h : CN cs num) (hc : c ∈ cs) : 0 ≤ c ∧ c ≤ 99 := by
  rcases h with ⟨rfl, _⟩ | ⟨rfl, _⟩ <;>
  · simp only [List.mem_cons, List.not_mem_nil, or_false] at hc
    omega
theorem cn_gbd {cs : List Int} {num : Int} (h : CN cs num) {A : List Arw} (hA : ∀ x ∈ A, x.c ∈ cs) : GBd A num := by
  rcases h with ⟨rfl, h1, h2⟩ | ⟨rfl, h1, h2⟩
  · exact ⟨⟨1, by decide, by omega, fun x hx => ⟨x.c, by rw [Int.mul_one]⟩⟩⟩
  · refine ⟨⟨9, by decide, by omega, fun x hx => ?_⟩⟩
    have := hA x hx
    simp only [List.mem_cons, List.not_mem_nil, or_false] at this
    rcases this with h | h | h
    · exact ⟨0, by omega⟩
    · exact ⟨1, by omega⟩
    · exact ⟨11, by omega⟩
theorem lexW_tri : ∀ {u v : List PySem.Str}, u.length = v.length → lexW u v ∨ u = v ∨ lexW v u
  | [], [], _ => .inr (.inl rfl)
  | a :: u, b :: v, e => by
    rcases Classical.em (a.cps.toList < b.cps.toList) with h | h
    · exact .inl (.inl h)
    · rcases Classical.em (b.cps.toList < a.cps.toList) with k | k
      · exact .inr (.inr (.inl k))
      · have ab : a = b := ext_tl (List.le_antisymm (List.not_lt.mp k) (List.not_lt.mp h))
        subst ab
        rcases lexW_tri (u := u) (v := v) (by simpa using e) with h1 | rfl | h1
        · exact .inl (.inr ⟨rfl, h1⟩)
        · exact .inr (.inl rfl)
        · exact .inr (.inr (.inr ⟨rfl, h1⟩))
  | [], _ :: _, e => by cases e
  | _ :: _, [], e => by cases e
theorem slt_tri (u v : List PySem.Str) : slt u v ∨ u = v ∨ slt v u := by
  rcases Nat.lt_trichotomy u.length v.length with h | h | h
  · exact .inl (.inl h)
  · rcases lexW_tri h with k | k | k
    · exact .inl (.inr ⟨h, k⟩)
    · exact .inr (.inl k)
    · exact .inr (.inr (.inr ⟨h.symm, k⟩))
  · exact .inr (.inr (.inl h))
theorem sgn_inj {a b : PySem.Str} (h : sgnL a = sgnL b) : a = b := by
  refine ext_tl ?_
  unfold sgnL at h
  have inj : ∀ l m : List Nat, l.map (fun ch => (⟨#[ch]⟩ : PySem.Str)) = m.map (fun ch => (⟨#[ch]⟩ : PySem.Str)) → l = m := by
    intro l
    induction l with
    | nil =>
      intro m h
      cases m with
      | nil => rfl
      | cons _ _ => cases h
    | cons x l ih =>
      intro m h
      cases m with
      | nil => cases h
      | cons y m =>
        rw [List.map_cons, List.map_cons] at h
        obtain ⟨h1, h2⟩ := List.cons.inj h
        have : x = y := by
          have := congrArg (fun s : PySem.Str => s.cps.toList) h1
          simpa using this
        rw [this, ih m h2]
  exact inj _ _ h
/-- the first dear row, as far as i -/
def FstR (Dr : List PySem.Str → Prop) (rs : List PySem.Str) (i : Nat) (fi : V) : Prop := (fi = .non ∧ ∀ r ∈ rs.take i, ¬ Dr (sgnL r)) ∨ ∃ r : PySem.Str, fi = .str r ∧ r ∈ rs ∧ Dr (sgnL r) ∧ ∀ r' ∈ rs, slt (sgnL r') (sgnL r) → ¬ Dr (sgnL r')
theorem fst_new {Dr : List PySem.Str → Prop} {rs : List PySem.Str} {i : Nat} {r : PySem.Str} (sr : (rs.map sgnL).Pairwise slt) (hr : rs[i]? = some r) (h : ∀ r ∈ rs.take i, ¬ Dr (sgnL r)) : ∀ r' ∈ rs, slt (sgnL r') (sgnL r) → ¬ Dr (sgnL r') := fun r' hr' hlt hd => by
  obtain ⟨j, hj, e⟩ := List.getElem_of_mem hr'
  obtain ⟨hi, e2⟩ := List.getElem?_eq_some_iff.mp hr
  by_cases c : j < i
  · refine h r' ?_ hd
    rw [← e]
    exact List.mem_take_iff_getElem.mpr ⟨j, by omega, rfl⟩
  · by_cases c2 : j = i
    · subst c2
      rw [← e, e2] at hlt
      exact slt_irr _ hlt
    · have := List.pairwise_iff_getElem.mp sr i j (by rw [List.length_map]; exact hi) (by rw [List.length_map]; exact hj) (by omega)
      rw [List.getElem_map, List.getElem_map, e, e2] at this
      exact slt_asym this hlt
/-- what is told and what is found -/
theorem told_found {M : MachV} {num : Int} {v fi : V} {lo rs : List PySem.Str} (hlo : ∀ l ∈ M.lets, l ∈ lo) (hal : ∀ x ∈ M.ars, x.l ∈ M.lets) (hrs : rs.map sgnL = allW lo 6) (hv : AbV M num v) (hf : FstR (Dear M.ars M.sts M.ens num) rs rs.length fi) :
    (fi = v ∧ (v = .non ∨ ∃ z, v = .str z) ∧ (v = .non → ∀ u, ¬ Dear M.ars M.sts M.ens num u)) ∨ (fi = .non ∧ ∃ z : PySem.Str, v = .str z ∧ 6 < z.length ∧ z.length ≤ 4001 ∧ Dear M.ars M.sts M.ens num (sgnL z)) := by
  have inn : ∀ w, Dear M.ars M.sts M.ens num w → w.length ≤ 6 → ∃ r ∈ rs, sgnL r = w := fun w hw hl => by
    have : w ∈ allW lo 6 := mem_allW.mpr ⟨hl, fun l h => hlo l (hw.word hal l h)⟩
    rw [← hrs] at this
    exact List.mem_map.mp this
  rcases hv with ⟨rfl, hn⟩ | ⟨z, rfl, hl, hd, hmin⟩
  · rcases hf with ⟨rfl, _⟩ | ⟨r, rfl, _, hd, _⟩
    · exact .inl ⟨rfl, .inl rfl, fun _ => hn⟩
    · exact absurd hd (hn _)
  · rcases hf with ⟨rfl, h⟩ | ⟨r, rfl, hr, hdr, hfirst⟩
    · refine .inr ⟨rfl, z, rfl, ?_, by rw [sgn_len] at hl; exact hl, hd⟩
      refine Nat.lt_of_not_le fun c => ?_
      obtain ⟨r, hr, e⟩ := inn _ hd (by rw [sgn_len]; exact c)
      rw [List.take_length] at h
      exact h r hr (e ▸ hd)
    · have e : r = z := by
        rcases slt_tri (sgnL r) (sgnL z) with h | h | h
        · exact absurd hdr (hmin _ h)
        · exact sgn_inj h
        · have hl6 : (sgnL r).length ≤ 6 := by
            have : sgnL r ∈ allW lo 6 := by
              rw [← hrs]
              exact List.mem_map.mpr ⟨r, hr, rfl⟩
            exact (mem_allW.mp this).1
          have hz6 : (sgnL z).length ≤ 6 := by
            rcases h with h | ⟨h, _⟩ <;> omega
          obtain ⟨r', hr', e⟩ := inn _ hd hz6
          exact absurd (e ▸ hd) (hfirst r' hr' (e ▸ h))
      exact .inl ⟨by rw [e], .inr ⟨z, rfl⟩, fun c => by cases c⟩
end Bz
namespace Pf
open PySem PySem.Spec PyProof.Rows L2 Bz
def top (i : Nat) : Stmt := PySem.Challenge.pw_enoughpaid_k15_whole_rows_above.main.body.getD i (.Pass ⟨0, 0, 0, 0⟩)
abbrev s__wall : Stmt := top 0
abbrev s_BadArrow___init__ : Stmt := inClass (top 3) 0
abbrev s_BadState___init__ : Stmt := inClass (top 4) 0
abbrev s_TooMany___init__ : Stmt := inClass (top 5) 0
abbrev s_BadNumber___init__ : Stmt := inClass (top 6) 0
abbrev s_is_integer : Stmt := top 11
abbrev N_is_integer : List PySem.Str := ["value"]
theorem sc_is_integer : FnScope N_is_integer ["value"] (defScope s_is_integer) := ⟨rfl, rfl, rfl, by decide +kernel, rfl, by decide +kernel, by decide +kernel⟩
abbrev s_has_only_letters : Stmt := top 12
abbrev N_has_only_letters : List PySem.Str := ["text"]
theorem sc_has_only_letters : FnScope N_has_only_letters ["text"] (defScope s_has_only_letters) := ⟨rfl, rfl, rfl, by decide +kernel, rfl, by decide +kernel, by decide +kernel⟩
abbrev s_is_name : Stmt := top 13
abbrev N_is_name : List PySem.Str := ["value"]
theorem sc_is_name : FnScope N_is_name ["value"] (defScope s_is_name) := ⟨rfl, rfl, rfl, by decide +kernel, rfl, by decide +kernel, by decide +kernel⟩
abbrev s_is_letter : Stmt := top 14
abbrev N_is_letter : List PySem.Str := ["value"]
theorem sc_is_letter : FnScope N_is_letter ["value"] (defScope s_is_letter) := ⟨rfl, rfl, rfl, by decide +kernel, rfl, by decide +kernel, by decide +kernel⟩
abbrev s_is_price : Stmt := top 15
abbrev N_is_price : List PySem.Str := ["value"]
theorem sc_is_price : FnScope N_is_price ["value"] (defScope s_is_price) := ⟨rfl, rfl, rfl, by decide +kernel, rfl, by decide +kernel, by decide +kernel⟩
abbrev s_is_list : Stmt := top 16
abbrev N_is_list : List PySem.Str := ["value"]
theorem sc_is_list : FnScope N_is_list ["value"] (defScope s_is_list) := ⟨rfl, rfl, rfl, by decide +kernel, rfl, by decide +kernel, by decide +kernel⟩
abbrev s_is_arrow : Stmt := top 17
abbrev N_is_arrow : List PySem.Str := ["value", "state", "letter", "after", "cost"]
theorem sc_is_arrow : FnScope N_is_arrow ["value"] (defScope s_is_arrow) := ⟨rfl, rfl, rfl, by decide +kernel, rfl, by decide +kernel, by decide +kernel⟩
abbrev s_Machine___init__ : Stmt := inClass (top 21) 0
abbrev N_Machine___init__ : List PySem.Str := ["self", "arrows", "starts", "ends", "counted", "states", "state", "letter", "after", "cost"]
theorem sc_Machine___init__ : FnScope N_Machine___init__ ["self", "arrows", "starts", "ends"] (defScope s_Machine___init__) := ⟨rfl, rfl, rfl, by decide +kernel, rfl, by decide +kernel, by decide +kernel⟩
abbrev s_Machine___eq__ : Stmt := inClass (top 21) 1
abbrev s_Machine_arrows : Stmt := inClass (top 21) 2
abbrev N_Machine_arrows : List PySem.Str := ["self"]
theorem sc_Machine_arrows : FnScope N_Machine_arrows ["self"] (defScope s_Machine_arrows) := ⟨rfl, rfl, rfl, by decide +kernel, rfl, by decide +kernel, by decide +kernel⟩
abbrev s_Machine_starts : Stmt := inClass (top 21) 3
abbrev N_Machine_starts : List PySem.Str := ["self"]
theorem sc_Machine_starts : FnScope N_Machine_starts ["self"] (defScope s_Machine_starts) := ⟨rfl, rfl, rfl, by decide +kernel, rfl, by decide +kernel, by decide +kernel⟩
abbrev s_Machine_ends : Stmt := inClass (top 21) 4
abbrev N_Machine_ends : List PySem.Str := ["self"]
theorem sc_Machine_ends : FnScope N_Machine_ends ["self"] (defScope s_Machine_ends) := ⟨rfl, rfl, rfl, by decide +kernel, rfl, by decide +kernel, by decide +kernel⟩
abbrev s_Machine_states : Stmt := inClass (top 21) 5
abbrev N_Machine_states : List PySem.Str := ["self"]
theorem sc_Machine_states : FnScope N_Machine_states ["self"] (defScope s_Machine_states) := ⟨rfl, rfl, rfl, by decide +kernel, rfl, by decide +kernel, by decide +kernel⟩
abbrev s_Machine_letters : Stmt := inClass (top 21) 6
abbrev N_Machine_letters : List PySem.Str := ["self"]
theorem sc_Machine_letters : FnScope N_Machine_letters ["self"] (defScope s_Machine_letters) := ⟨rfl, rfl, rfl, by decide +kernel, rfl, by decide +kernel, by decide +kernel⟩
abbrev s_Machine_text : Stmt := inClass (top 21) 7
abbrev s_check_arrows : Stmt := top 22
abbrev N_check_arrows : List PySem.Str := ["arrows", "line", "arrow"]
theorem sc_check_arrows : FnScope N_check_arrows ["arrows"] (defScope s_check_arrows) := ⟨rfl, rfl, rfl, by decide +kernel, rfl, by decide +kernel, by decide +kernel⟩
abbrev s_check_names : Stmt := top 23
abbrev N_check_names : List PySem.Str := ["states", "state"]
theorem sc_check_names : FnScope N_check_names ["states"] (defScope s_check_names) := ⟨rfl, rfl, rfl, by decide +kernel, rfl, by decide +kernel, by decide +kernel⟩
abbrev s_cheapest : Stmt := top 24
abbrev N_cheapest : List PySem.Str := ["arrows", "costs", "state", "letter", "after", "cost", "step"]
theorem sc_cheapest : FnScope N_cheapest ["arrows"] (defScope s_cheapest) := ⟨rfl, rfl, rfl, by decide +kernel, rfl, by decide +kernel, by decide +kernel⟩
abbrev s_each_once : Stmt := top 25
abbrev N_each_once : List PySem.Str := ["names"]
theorem sc_each_once : FnScope N_each_once ["names"] (defScope s_each_once) := ⟨rfl, rfl, rfl, by decide +kernel, rfl, by decide +kernel, by decide +kernel⟩
abbrev s_all_states : Stmt := top 26
abbrev N_all_states : List PySem.Str := ["arrows", "starts", "ends", "names", "state", "letter", "after", "cost"]
theorem sc_all_states : FnScope N_all_states ["arrows", "starts", "ends"] (defScope s_all_states) := ⟨rfl, rfl, rfl, by decide +kernel, rfl, by decide +kernel, by decide +kernel⟩
abbrev s_moves_by_letter : Stmt := top 28
abbrev N_moves_by_letter : List PySem.Str := ["machine", "letter", "moves", "state", "after", "cost"]
theorem sc_moves_by_letter : FnScope N_moves_by_letter ["machine"] (defScope s_moves_by_letter) := ⟨rfl, rfl, rfl, by decide +kernel, rfl, by decide +kernel, by decide +kernel⟩
abbrev s_backward : Stmt := top 30
abbrev N_backward : List PySem.Str := ["arrows", "state", "letter", "after", "cost"]
theorem sc_backward : FnScope N_backward ["arrows"] (defScope s_backward) := ⟨rfl, rfl, rfl, by decide +kernel, rfl, by decide +kernel, by decide +kernel⟩
abbrev s_trimmed : Stmt := top 31
abbrev N_trimmed : List PySem.Str := ["machine", "arrows", "starts", "ends"]
theorem sc_trimmed : FnScope N_trimmed ["machine"] (defScope s_trimmed) := ⟨rfl, rfl, rfl, by decide +kernel, rfl, by decide +kernel, by decide +kernel⟩
abbrev s_useful : Stmt := top 32
abbrev N_useful : List PySem.Str := ["arrows", "starts", "ends", "ahead", "back", "kept", "state", "arrow"]
theorem sc_useful : FnScope N_useful ["arrows", "starts", "ends"] (defScope s_useful) := ⟨rfl, rfl, rfl, by decide +kernel, rfl, by decide +kernel, by decide +kernel⟩
abbrev s_reached : Stmt := top 33
abbrev N_reached : List PySem.Str := ["starts", "arrows", "nexts", "state", "letter", "after", "cost", "found", "waiting", "here"]
theorem sc_reached : FnScope N_reached ["starts", "arrows"] (defScope s_reached) := ⟨rfl, rfl, rfl, by decide +kernel, rfl, by decide +kernel, by decide +kernel⟩
abbrev s_dearest : Stmt := top 36
abbrev N_dearest : List PySem.Str := ["machine", "number", "least", "hunt"]
theorem sc_dearest : FnScope N_dearest ["machine", "number", "least"] (defScope s_dearest) := ⟨rfl, rfl, rfl, by decide +kernel, rfl, by decide +kernel, by decide +kernel⟩
abbrev s_Hunt___init__ : Stmt := inClass (top 37) 0
abbrev N_Hunt___init__ : List PySem.Str := ["self", "machine", "number", "least", "letter", "state", "at"]
theorem sc_Hunt___init__ : FnScope N_Hunt___init__ ["self", "machine", "number", "least"] (defScope s_Hunt___init__) := ⟨rfl, rfl, rfl, by decide +kernel, rfl, by decide +kernel, by decide +kernel⟩
abbrev s_Hunt_run : Stmt := inClass (top 37) 1
abbrev N_Hunt_run : List PySem.Str := ["self", "at", "letter", "sources"]
theorem sc_Hunt_run : FnScope N_Hunt_run ["self"] (defScope s_Hunt_run) := ⟨rfl, rfl, rfl, by decide +kernel, rfl, by decide +kernel, by decide +kernel⟩
abbrev s_Hunt_levels_behind : Stmt := inClass (top 37) 2
abbrev N_Hunt_levels_behind : List PySem.Str := ["self", "levels", "sources", "ways", "place", "cost"]
theorem sc_Hunt_levels_behind : FnScope N_Hunt_levels_behind ["self", "levels", "sources"] (defScope s_Hunt_levels_behind) := ⟨rfl, rfl, rfl, by decide +kernel, rfl, by decide +kernel, by decide +kernel⟩
abbrev s_Hunt_offer : Stmt := inClass (top 37) 3
abbrev N_Hunt_offer : List PySem.Str := ["self", "levels", "front", "letter", "price", "place"]
theorem sc_Hunt_offer : FnScope N_Hunt_offer ["self", "levels", "front", "letter"] (defScope s_Hunt_offer) := ⟨rfl, rfl, rfl, by decide +kernel, rfl, by decide +kernel, by decide +kernel⟩
abbrev s_Hunt_row_to : Stmt := inClass (top 37) 4
abbrev N_Hunt_row_to : List PySem.Str := ["self", "front", "letter", "signs", "levels"]
theorem sc_Hunt_row_to : FnScope N_Hunt_row_to ["self", "front", "letter"] (defScope s_Hunt_row_to) := ⟨rfl, rfl, rfl, by decide +kernel, rfl, by decide +kernel, by decide +kernel⟩
abbrev s_Hunt_may_lead_higher : Stmt := inClass (top 37) 5
abbrev N_Hunt_may_lead_higher : List PySem.Str := ["self", "levels", "place"]
theorem sc_Hunt_may_lead_higher : FnScope N_Hunt_may_lead_higher ["self", "levels"] (defScope s_Hunt_may_lead_higher) := ⟨rfl, rfl, rfl, by decide +kernel, rfl, by decide +kernel, by decide +kernel⟩
abbrev s_Hunt_outdo : Stmt := inClass (top 37) 6
abbrev N_Hunt_outdo : List PySem.Str := ["self", "levels", "level", "states", "bits", "rivals", "rival", "kept"]
theorem sc_Hunt_outdo : FnScope N_Hunt_outdo ["self", "levels"] (defScope s_Hunt_outdo) := ⟨rfl, rfl, rfl, by decide +kernel, rfl, by decide +kernel, by decide +kernel⟩
abbrev s_Hunt_is_nowhere_less : Stmt := inClass (top 37) 7
abbrev N_Hunt_is_nowhere_less : List PySem.Str := ["self", "bits", "other"]
theorem sc_Hunt_is_nowhere_less : FnScope N_Hunt_is_nowhere_less ["self", "bits", "other"] (defScope s_Hunt_is_nowhere_less) := ⟨rfl, rfl, rfl, by decide +kernel, rfl, by decide +kernel, by decide +kernel⟩
abbrev s_sources_of : Stmt := top 38
abbrev N_sources_of : List PySem.Str := ["machine", "letter", "state", "places", "sources", "after", "cost", "at"]
theorem sc_sources_of : FnScope N_sources_of ["machine", "letter"] (defScope s_sources_of) := ⟨rfl, rfl, rfl, by decide +kernel, rfl, by decide +kernel, by decide +kernel⟩
abbrev s_resting_states : Stmt := top 39
abbrev N_resting_states : List PySem.Str := ["machine", "resting", "left", "state"]
theorem sc_resting_states : FnScope N_resting_states ["machine"] (defScope s_resting_states) := ⟨rfl, rfl, rfl, by decide +kernel, rfl, by decide +kernel, by decide +kernel⟩
abbrev s_free_letters : Stmt := top 40
abbrev N_free_letters : List PySem.Str := ["machine", "state", "ends", "source", "letter", "after", "cost"]
theorem sc_free_letters : FnScope N_free_letters ["machine", "state", "ends"] (defScope s_free_letters) := ⟨rfl, rfl, rfl, by decide +kernel, rfl, by decide +kernel, by decide +kernel⟩
abbrev s_above : Stmt := top 44
abbrev N_above : List PySem.Str := ["machine", "number", "cost", "row"]
theorem sc_above : FnScope N_above ["machine", "number"] (defScope s_above) := ⟨rfl, rfl, rfl, by decide +kernel, rfl, by decide +kernel, by decide +kernel⟩
abbrev s__law_source : Stmt := top 46
abbrev N__law_source : List PySem.Str := ["_law_script", "_law_great", "_law_seed", "_law_cell"]
theorem sc__law_source : FnScope N__law_source ["_law_script"] (defScope s__law_source) := ⟨rfl, rfl, rfl, by decide +kernel, rfl, by decide +kernel, by decide +kernel⟩
abbrev s__law_draw : Stmt := top 47
abbrev N__law_draw : List PySem.Str := ["_law_source_here", "_law_many", "_law_digit", "_law_mixed"]
theorem sc__law_draw : FnScope N__law_draw ["_law_source_here", "_law_many"] (defScope s__law_draw) := ⟨rfl, rfl, rfl, by decide +kernel, rfl, by decide +kernel, by decide +kernel⟩
abbrev s__law_pick : Stmt := top 48
abbrev N__law_pick : List PySem.Str := ["_law_source_here", "_law_things"]
theorem sc__law_pick : FnScope N__law_pick ["_law_source_here", "_law_things"] (defScope s__law_pick) := ⟨rfl, rfl, rfl, by decide +kernel, rfl, by decide +kernel, by decide +kernel⟩
abbrev s__law_subset : Stmt := top 49
abbrev N__law_subset : List PySem.Str := ["_law_source_here", "_law_row_here", "_law_one"]
theorem sc__law_subset : FnScope N__law_subset ["_law_source_here", "_law_row_here"] (defScope s__law_subset) := ⟨rfl, rfl, rfl, by decide +kernel, rfl, by decide +kernel, by decide +kernel⟩
abbrev s__law_name : Stmt := top 50
abbrev N__law_name : List PySem.Str := ["_law_source_here", "_law_taken", "_law_size", "_law_name_here", "_law_k", "_law_one", "_law_letter"]
theorem sc__law_name : FnScope N__law_name ["_law_source_here", "_law_taken"] (defScope s__law_name) := ⟨rfl, rfl, rfl, by decide +kernel, rfl, by decide +kernel, by decide +kernel⟩
abbrev s__law_names : Stmt := top 51
abbrev N__law_names : List PySem.Str := ["_law_source_here", "_law_many", "_law_names_here", "_law_k"]
theorem sc__law_names : FnScope N__law_names ["_law_source_here", "_law_many"] (defScope s__law_names) := ⟨rfl, rfl, rfl, by decide +kernel, rfl, by decide +kernel, by decide +kernel⟩
abbrev s__law_arrows : Stmt := top 52
abbrev N__law_arrows : List PySem.Str := ["_law_source_here", "_law_states", "_law_signs", "_law_most", "_law_found", "_law_k", "_law_cost"]
theorem sc__law_arrows : FnScope N__law_arrows ["_law_source_here", "_law_states", "_law_signs", "_law_most"] (defScope s__law_arrows) := ⟨rfl, rfl, rfl, by decide +kernel, rfl, by decide +kernel, by decide +kernel⟩
abbrev s__law_machine : Stmt := top 53
abbrev N__law_machine : List PySem.Str := ["_law_source_here", "_law_states", "_law_signs", "_law_most", "_law_names_here", "_law_arrows_here", "_law_starts"]
theorem sc__law_machine : FnScope N__law_machine ["_law_source_here", "_law_states", "_law_signs", "_law_most"] (defScope s__law_machine) := ⟨rfl, rfl, rfl, by decide +kernel, rfl, by decide +kernel, by decide +kernel⟩
abbrev s__law_unlike : Stmt := top 54
abbrev N__law_unlike : List PySem.Str := ["_law_things", "_law_found", "_law_thing", "_law_one"]
theorem sc__law_unlike : FnScope N__law_unlike ["_law_things"] (defScope s__law_unlike) := ⟨rfl, rfl, rfl, by decide +kernel, rfl, by decide +kernel, by decide +kernel⟩
abbrev s__law_ahead : Stmt := top 55
abbrev N__law_ahead : List PySem.Str := ["_law_arrows_here", "_law_ends", "_law_row_here", "_law_state", "_law_ahead_here", "_law_letter", "_law_found", "_law_sign", "_law_after", "_law_cost", "_law_more"]
theorem sc__law_ahead : FnScope N__law_ahead ["_law_arrows_here", "_law_ends", "_law_row_here"] (defScope s__law_ahead) := ⟨rfl, rfl, rfl, by decide +kernel, rfl, by decide +kernel, by decide +kernel⟩
abbrev s__law_price : Stmt := top 56
abbrev N__law_price : List PySem.Str := ["_law_made", "_law_row_here", "_law_ahead_here", "_law_prices", "_law_state"]
theorem sc__law_price : FnScope N__law_price ["_law_made", "_law_row_here"] (defScope s__law_price) := ⟨rfl, rfl, rfl, by decide +kernel, rfl, by decide +kernel, by decide +kernel⟩
abbrev s__law_rows : Stmt := top 57
abbrev N__law_rows : List PySem.Str := ["_law_signs", "_law_most", "_law_found", "_law_level", "_law_k", "_law_longer", "_law_row_here", "_law_letter"]
theorem sc__law_rows : FnScope N__law_rows ["_law_signs", "_law_most"] (defScope s__law_rows) := ⟨rfl, rfl, rfl, by decide +kernel, rfl, by decide +kernel, by decide +kernel⟩
abbrev s__law_row : Stmt := top 58
abbrev N__law_row : List PySem.Str := ["_law_source_here", "_law_signs", "_law_most", "_law_row_here", "_law_k"]
theorem sc__law_row : FnScope N__law_row ["_law_source_here", "_law_signs", "_law_most"] (defScope s__law_row) := ⟨rfl, rfl, rfl, by decide +kernel, rfl, by decide +kernel, by decide +kernel⟩
abbrev s__law_waves : Stmt := top 59
abbrev N__law_waves : List PySem.Str := ["_law_source_here", "_law_signs", "_law_most", "_law_row_here", "_law_k"]
theorem sc__law_waves : FnScope N__law_waves ["_law_source_here", "_law_signs", "_law_most"] (defScope s__law_waves) := ⟨rfl, rfl, rfl, by decide +kernel, rfl, by decide +kernel, by decide +kernel⟩
abbrev s__law_letters : Stmt := top 60
abbrev N__law_letters : List PySem.Str := ["_law_made", "_law_arrow"]
theorem sc__law_letters : FnScope N__law_letters ["_law_made"] (defScope s__law_letters) := ⟨rfl, rfl, rfl, by decide +kernel, rfl, by decide +kernel, by decide +kernel⟩
abbrev s_law : Stmt := top 61
abbrev N_law : List PySem.Str := ["_law_script", "_law_source_here", "_law_made", "_law_costs", "_law_number", "_law_machine_here", "_law_signs", "_law_row_here", "_law_first", "_law_some", "_law_found", "_law_waves_here", "_law_dear", "_law_arrow", "_law_k"]
theorem sc_law : FnScope N_law ["_law_script"] (defScope s_law) := ⟨rfl, rfl, rfl, by decide +kernel, rfl, by decide +kernel, by decide +kernel⟩
structure Cl where
  Machine : Addr
  Hunt : Addr
  BadArrow : Addr
  BadState : Addr
  TooMany : Addr
  BadNumber : Addr
structure Facts (K : PySem.W.Frag) (mg : PySem.Str → Option Value) (kl : Cl) : Prop where
  g_Machine : mg "Machine" = some (.ref kl.Machine)
  cl_Machine : Cls K kl.Machine
  n_Machine_held_arrows : NoAttr K kl.Machine "held_arrows"
  n_Machine_held_starts : NoAttr K kl.Machine "held_starts"
  n_Machine_held_ends : NoAttr K kl.Machine "held_ends"
  n_Machine_held_states : NoAttr K kl.Machine "held_states"
  n_Machine_held_letters : NoAttr K kl.Machine "held_letters"
  i_Machine : InitAt K kl.Machine "Machine.__init__" s_Machine___init__ ["self", "arrows", "starts", "ends"]
  p_Machine_arrows : PropAt K kl.Machine "arrows" "Machine.arrows" s_Machine_arrows
  p_Machine_starts : PropAt K kl.Machine "starts" "Machine.starts" s_Machine_starts
  p_Machine_ends : PropAt K kl.Machine "ends" "Machine.ends" s_Machine_ends
  p_Machine_states : PropAt K kl.Machine "states" "Machine.states" s_Machine_states
  p_Machine_letters : PropAt K kl.Machine "letters" "Machine.letters" s_Machine_letters
  g_Hunt : mg "Hunt" = some (.ref kl.Hunt)
  cl_Hunt : Cls K kl.Hunt
  n_Hunt_number : NoAttr K kl.Hunt "number"
  n_Hunt_greatest_price : NoAttr K kl.Hunt "greatest_price"
  n_Hunt_dearest_row : NoAttr K kl.Hunt "dearest_row"
  n_Hunt_nothing : NoAttr K kl.Hunt "nothing"
  n_Hunt_levels : NoAttr K kl.Hunt "levels"
  n_Hunt_letter_sources : NoAttr K kl.Hunt "letter_sources"
  n_Hunt_first_levels : NoAttr K kl.Hunt "first_levels"
  n_Hunt_end_places : NoAttr K kl.Hunt "end_places"
  n_Hunt_resting_places : NoAttr K kl.Hunt "resting_places"
  n_Hunt_width : NoAttr K kl.Hunt "width"
  n_Hunt_guards : NoAttr K kl.Hunt "guards"
  n_Hunt_seen : NoAttr K kl.Hunt "seen"
  n_Hunt_rivals : NoAttr K kl.Hunt "rivals"
  n_Hunt_trail : NoAttr K kl.Hunt "trail"
  i_Hunt : InitAt K kl.Hunt "Hunt.__init__" s_Hunt___init__ ["self", "machine", "number", "least"]
  m_Hunt_run : MethAt K kl.Hunt "run" "Hunt.run" s_Hunt_run ["self"]
  m_Hunt_levels_behind : MethAt K kl.Hunt "levels_behind" "Hunt.levels_behind" s_Hunt_levels_behind ["self", "levels", "sources"]
  m_Hunt_offer : MethAt K kl.Hunt "offer" "Hunt.offer" s_Hunt_offer ["self", "levels", "front", "letter"]
  m_Hunt_row_to : MethAt K kl.Hunt "row_to" "Hunt.row_to" s_Hunt_row_to ["self", "front", "letter"]
  m_Hunt_may_lead_higher : MethAt K kl.Hunt "may_lead_higher" "Hunt.may_lead_higher" s_Hunt_may_lead_higher ["self", "levels"]
  m_Hunt_outdo : MethAt K kl.Hunt "outdo" "Hunt.outdo" s_Hunt_outdo ["self", "levels"]
  m_Hunt_is_nowhere_less : MethAt K kl.Hunt "is_nowhere_less" "Hunt.is_nowhere_less" s_Hunt_is_nowhere_less ["self", "bits", "other"]
  d_is_integer : DefAt K mg "is_integer" s_is_integer ["value"]
  d_has_only_letters : DefAt K mg "has_only_letters" s_has_only_letters ["text"]
  d_is_name : DefAt K mg "is_name" s_is_name ["value"]
  d_is_letter : DefAt K mg "is_letter" s_is_letter ["value"]
  d_is_price : DefAt K mg "is_price" s_is_price ["value"]
  d_is_list : DefAt K mg "is_list" s_is_list ["value"]
  d_is_arrow : DefAt K mg "is_arrow" s_is_arrow ["value"]
  d_check_arrows : DefAt K mg "check_arrows" s_check_arrows ["arrows"]
  d_check_names : DefAt K mg "check_names" s_check_names ["states"]
  d_cheapest : DefAt K mg "cheapest" s_cheapest ["arrows"]
  d_each_once : DefAt K mg "each_once" s_each_once ["names"]
  d_all_states : DefAt K mg "all_states" s_all_states ["arrows", "starts", "ends"]
  d_moves_by_letter : DefAt K mg "moves_by_letter" s_moves_by_letter ["machine"]
  d_backward : DefAt K mg "backward" s_backward ["arrows"]
  d_trimmed : DefAt K mg "trimmed" s_trimmed ["machine"]
  d_useful : DefAt K mg "useful" s_useful ["arrows", "starts", "ends"]
  d_reached : DefAt K mg "reached" s_reached ["starts", "arrows"]
  d_dearest : DefAt K mg "dearest" s_dearest ["machine", "number", "least"]
  d_sources_of : DefAt K mg "sources_of" s_sources_of ["machine", "letter"]
  d_resting_states : DefAt K mg "resting_states" s_resting_states ["machine"]
  d_free_letters : DefAt K mg "free_letters" s_free_letters ["machine", "state", "ends"]
  d_above : DefAt K mg "above" s_above ["machine", "number"]
  d__law_source : DefAt K mg "_law_source" s__law_source ["_law_script"]
  d__law_draw : DefAt K mg "_law_draw" s__law_draw ["_law_source_here", "_law_many"]
  d__law_pick : DefAt K mg "_law_pick" s__law_pick ["_law_source_here", "_law_things"]
  d__law_subset : DefAt K mg "_law_subset" s__law_subset ["_law_source_here", "_law_row_here"]
  d__law_name : DefAt K mg "_law_name" s__law_name ["_law_source_here", "_law_taken"]
  d__law_names : DefAt K mg "_law_names" s__law_names ["_law_source_here", "_law_many"]
  d__law_arrows : DefAt K mg "_law_arrows" s__law_arrows ["_law_source_here", "_law_states", "_law_signs", "_law_most"]
  d__law_machine : DefAt K mg "_law_machine" s__law_machine ["_law_source_here", "_law_states", "_law_signs", "_law_most"]
  d__law_unlike : DefAt K mg "_law_unlike" s__law_unlike ["_law_things"]
  d__law_ahead : DefAt K mg "_law_ahead" s__law_ahead ["_law_arrows_here", "_law_ends", "_law_row_here"]
  d__law_price : DefAt K mg "_law_price" s__law_price ["_law_made", "_law_row_here"]
  d__law_rows : DefAt K mg "_law_rows" s__law_rows ["_law_signs", "_law_most"]
  d__law_row : DefAt K mg "_law_row" s__law_row ["_law_source_here", "_law_signs", "_law_most"]
  d__law_waves : DefAt K mg "_law_waves" s__law_waves ["_law_source_here", "_law_signs", "_law_most"]
  d__law_letters : DefAt K mg "_law_letters" s__law_letters ["_law_made"]
  b_int : mg "int" = none
  b_len : mg "len" = none
  b_range : mg "range" = none
  b_sorted : mg "sorted" = none
  b_tuple : mg "tuple" = none
  b_list : mg "list" = none
  b_str : mg "str" = none
  b_set : mg "set" = none
  b_min : mg "min" = none
  b_isinstance : mg "isinstance" = none
  b_enumerate : mg "enumerate" = none
  b_all : mg "all" = none
  b_sum : mg "sum" = none
  b_dict : mg "dict" = none
  b_bool : mg "bool" = none
  c_LONGEST_NAME : ∃ t, mg "LONGEST_NAME" = some (.int (8) t)
  c_HIGHEST_PRICE : ∃ t, mg "HIGHEST_PRICE" = some (.int (99) t)
  c_ARROW_PARTS : ∃ t, mg "ARROW_PARTS" = some (.int (4) t)
  c_MOST_ARROWS : ∃ t, mg "MOST_ARROWS" = some (.int (400) t)
  c_MOST_STATES : ∃ t, mg "MOST_STATES" = some (.int (40) t)
  c_MOST_RIVALS : ∃ t, mg "MOST_RIVALS" = some (.int (30) t)
  c_LEAST_NUMBER : ∃ t, mg "LEAST_NUMBER" = some (.int (-1) t)
  c_GREATEST_NUMBER : ∃ t, mg "GREATEST_NUMBER" = some (.int (1000) t)
end Pf
namespace Pf
open PySem PySem.Spec PyProof.Rows L2 Bz
local macro_rules | `(tactic| walk_at "sd") => `(tactic| first
  | rfl | assumption | omega | exact Nat.le_of_ble_eq_true rfl | decide | (refine Or.inl (And.intro ?_ ?_) <;> omega) | (refine Or.inr (And.intro ?_ ?_) <;> omega) | (refine And.intro ?_ ?_ <;> omega) | (refine ⟨?_, ?_, ?_⟩ <;> omega))
local macro_rules | `(tactic| walk_at "sq") => `(tactic| first | assumption | exact SqL.of (by assumption) | exact SqT.of (by assumption) | exact SqL.of upd_same | exact SqT.of upd_same)
local macro_rules | `(tactic| walk_at "hp") => `(tactic| first | assumption | exact upd_same)
local macro_rules | `(tactic| walk_at "rd") => `(tactic| repeat (first
  | (refine ⟨_, rfl, ?_⟩) | (refine ⟨_, _, rfl, rfl, ?_⟩) | (refine ⟨rfl, ?_⟩) | (refine And.intro (by walk_at "sd") ?_)
  | (refine ⟨_, _, _, _, rfl, rfl, (by walk_at "sq"), rfl, ?_⟩)
  | (refine ⟨_, _, _, _, rfl, rfl, (by walk_at "hp"), rfl, ?_⟩)
  | (refine Or.inl ⟨_, rfl, ?_⟩)))
section
variable {P : Program} {w : World} {K : PySem.W.Frag} {mg : PySem.Str → Option Value} {base : Heap} {kl : Cl}
theorem ok__law_source (T : Facts K mg kl) : Keeps P w K mg base CX0 1 "_law_source" ["_law_script"] (spSource K) := by
  refine keeps0 T.d__law_source sc__law_source (fun vs H Q E h => ?_) (fun f cdv A outer s H vs Q E hr h => ?_)
  · obtain ⟨a, ns, rfl, _⟩ := h
    rfl
  · obtain ⟨a, ns, rfl, hS, k⟩ := h
    refine ⟨_, (pss_cons (ps_asg (pe_tup (pa_cons pe_int (pa_cons pe_int pa_nil))) (kpg_tup K rfl (pgs_cons (pg_name (i := 1) sc__law_source.nd rfl (Or.inl rfl)) (pgs_cons (pg_name (i := 2) sc__law_source.nd rfl (Or.inl rfl)) pgs_nil))))
  (pss_cons (ps_for PassesOwn.never rfl (kpi_list K (pv 0)) (pg_name (i := 3) sc__law_source.nd rfl (Or.inl rfl))
  (Evl.pss_cut (ps_if (PW.pt (pw_and (pt_cmpR op_eq (pv 1) pe_int (nomark _)) (pw_and1 (pt_cmpR op_ge (pv 3) (pe_op op_pow pe_int pe_int) (nomark _)))))
  (pss_one (ps_set (i := 1) sc__law_source.nd rfl (Or.inl rfl) (pv 3)))
  pss_nil)
  (pss_one (ps_set (i := 2) sc__law_source.nd rfl (Or.inl rfl) (pe_op op_modN (pe_callTy call_int1 (by rfl) T.b_int (by decide +kernel) (pa_cons (pe_op op_add (pe_op op_add (pe_op op_mul (pv 2) pe_int) (pv 3)) pe_int) pa_nil)) pe_int)))))
  (pss_one (ps_ret (pe_lst (pa_cons (pv 1) (pa_cons (pv 2) (pa_cons pe_int pa_nil)))))))), ?_⟩
    refine ⟨by decide, fun tp htp => ⟨tp, _, rfl, SqT.of upd_same, rfl, _, _, rfl, _, _, rfl, rfl, ?_⟩⟩
    have hs1 : Same H (upd H tp (.tup [.int 0, .int 17])) := same_new htp
    refine ⟨_, rfl, a, rfl, ⟨_, hs1.seq hS⟩, for_list (K := K) (a := a) (xs := ns.map V.int) (fun i σ H' => ∃ (g s : Int) (v : Option V), σ = [some (.ref a), some (.int g), some (.int s), v] ∧ H' = upd H tp (.tup [.int 0, .int 17]) ∧ 0 ≤ s ∧ s < 2147483647)
      ⟨0, 17, none, rfl, rfl, by decide, by decide⟩ (fun i σ H' _ ⟨_, _, _, _, e, _⟩ => by rw [e]; exact hs1.seq hS) ?_ ?_⟩
    · rintro i y σ H' hi ⟨g, s, v, rfl, rfl, h1, h2⟩
      obtain ⟨u, rfl, hu⟩ := map_int hi
      have e1 := Int.fmod_nonneg_of_pos (s * 31 + u + 7) (b := 2147483647) (by decide)
      have e2 := Int.fmod_lt_of_pos (s * 31 + u + 7) (b := 2147483647) (by decide)
      refine ⟨fun σ' H' => ∃ g' : Int, σ' = [some (.ref a), some (.int g'), some (.int s), some (.int u)] ∧ H' = upd H tp (.tup [.int 0, .int 17]), ?_, ?_⟩
      · walk_at "rd"
        refine ite2 (fun hc => ?_) (fun hc => ?_)
        · walk_at "rd"
          refine ite2 (fun hc => ?_) (fun hc => ?_)
          · exact ⟨_, rfl, u, rfl, rfl⟩
          · exact ⟨g, rfl, rfl⟩
        · exact ⟨g, rfl, rfl⟩
      · rintro σ' H' ⟨g', rfl, rfl⟩
        walk_at "rd"
        exact ⟨g', _, _, rfl, rfl, e1, e2⟩
    · rintro σ H' ⟨g, s, v, rfl, rfl, h1, h2⟩
      walk_at "rd"
      refine fun p hp => ?_
      have hp0 := hs1.free hp
      exact k p _ hp0 ⟨g, s, 0, upd_same, h1, h2, by omega, by omega⟩ (same_mut hs1 hp0)
theorem ok__law_draw (T : Facts K mg kl) : Keeps P w K mg base CX0 1 "_law_draw" ["_law_source_here", "_law_many"] spDraw := by
  refine keeps0 T.d__law_draw sc__law_draw (fun vs H Q E h => ?_) (fun f cdv A outer s H vs Q E hr h => ?_)
  · obtain ⟨p, n, c, rfl, _⟩ := h
    rfl
  · obtain ⟨p, n, c, rfl, ⟨g, s, j, hp, h1, h2, h3, h4⟩, hc, n0, n1, k⟩ := h
    refine ⟨_, (pss_cons (ps_asg (pe_op op_add (pe_ix (kix_list K) (pv 0) pe_int (fun _ _ => rfl)) pe_int) (pg_sub (pv 0) pe_int set_list))
  (pss_cons (ps_if (pt_cmpR op_gt (pe_ix (kix_list K) (pv 0) pe_int (fun _ _ => rfl)) pe_int (nomark _))
  (pss_cons (ps_set (i := 2) sc__law_draw.nd rfl (Or.inl rfl) (pe_op op_modN (pe_callTy call_int1 (by rfl) T.b_int (by decide +kernel) (pa_cons (pe_ix (kix_list K) (pv 0) pe_int (fun _ _ => rfl)) pa_nil)) (pv 1)))
  (pss_cons (ps_asg (pe_op op_fdivN (pe_ix (kix_list K) (pv 0) pe_int (fun _ _ => rfl)) (pv 1)) (pg_sub (pv 0) pe_int set_list))
  (pss_one (ps_ret (pv 2)))))
  pss_nil)
  (pss_cons (ps_set (i := 3) sc__law_draw.nd rfl (Or.inl rfl) (pe_op op_modN (pe_op op_pow (pe_op op_add (pe_ix (kix_list K) (pv 0) pe_int (fun _ _ => rfl)) (pe_op op_mul pe_int (pe_ix (kix_list K) (pv 0) pe_int (fun _ _ => rfl)))) pe_int) pe_int))
  (pss_one (ps_ret (pe_op op_modN (pe_op op_modN (pe_op op_pow (pe_op op_add (pe_op op_add (pe_op op_mul (pv 3) pe_int) (pe_op op_mul (pe_op op_mul pe_int (pe_ix (kix_list K) (pv 0) pe_int (fun _ _ => rfl))) (pe_ix (kix_list K) (pv 0) pe_int (fun _ _ => rfl)))) pe_int) pe_int) pe_int) (pv 1))))))), ?_⟩
    walk_at "rd"
    have hb : But p H (upd H p (.lst [.int g, .int s, .int (j + 1)])) := But.upd
    refine ite2 (fun hc => ?_) (fun hc => ?_)
    · walk_at "rd"
      have f1 := Int.fmod_nonneg_of_pos g n0
      have f2 := Int.fmod_lt_of_pos g n0
      exact k _ _ f1 f2 ⟨_, s, j + 1, upd_same, h1, h2, by omega, by omega⟩ (But.trans hb But.upd)
    · walk_at "rd"
      refine And.intro (draw_pow (by omega) (by omega)) ?_
      walk_at "rd"
      exact k _ _ (Int.fmod_nonneg_of_pos _ n0) (Int.fmod_lt_of_pos _ n0) ⟨g, s, j + 1, upd_same, h1, h2, by omega, by omega⟩ hb
theorem ok__law_pick (T : Facts K mg kl) : Keeps P w K mg base CX0 2 "_law_pick" ["_law_source_here", "_law_things"] (spPick K) := by
  refine keeps0 T.d__law_pick sc__law_pick (fun vs H Q E h => ?_) (fun f cdv A outer s H vs Q E hr h => ?_)
  · obtain ⟨p, a, xs, c, rfl, _⟩ := h
    rfl
  · obtain ⟨p, a, xs, c, rfl, hS, hc, hx, hne, h0, hl, k⟩ := h
    refine ⟨_, (pss_one (ps_ret (pe_ix (kix_list K) (pv 1) (pe_own (ok__law_draw T) hr (pa_cons (pv 0) (pa_cons (pe_callB (kcall_len K) (by rfl) T.b_len (by decide +kernel) (pa_cons (pv 1) pa_nil)) pa_nil))) (fun _ _ => rfl)))), ?_⟩
    have hpos : 0 < xs.length := List.length_pos_iff.mpr h0
    refine ⟨_, rfl, _, rfl, _, rfl, _, xs.length, rfl, .inl ⟨xs, hx, rfl⟩, p, (xs.length : Int), c, rfl, hS, hc, by omega, by omega, fun r H' r0 r1 hS' hb => ?_⟩
    obtain ⟨v, hv, ha⟩ := atI_of r0 r1
    exact ⟨_, _, _, _, rfl, rfl, hb.ext.sq hne hx, ha, k v H' hv hS' hb⟩
end
end Pf
namespace Pf
open PySem PySem.Spec PyProof.Rows L2 Bz
local macro_rules | `(tactic| walk_at "sd") => `(tactic| first
  | rfl | assumption | omega | exact Nat.le_of_ble_eq_true rfl | decide | (refine Or.inl (And.intro ?_ ?_) <;> omega) | (refine Or.inr (And.intro ?_ ?_) <;> omega) | (refine And.intro ?_ ?_ <;> omega) | (refine ⟨?_, ?_, ?_⟩ <;> omega))
local macro_rules | `(tactic| walk_at "sq") => `(tactic| first | assumption | exact SqL.of (by assumption) | exact SqT.of (by assumption) | exact SqL.of upd_same | exact SqT.of upd_same)
local macro_rules | `(tactic| walk_at "hp") => `(tactic| first | assumption | exact upd_same)
local macro_rules | `(tactic| walk_at "rd") => `(tactic| repeat (first
  | (refine ⟨_, rfl, ?_⟩) | (refine ⟨_, _, rfl, rfl, ?_⟩) | (refine ⟨rfl, ?_⟩) | (refine And.intro (by walk_at "sd") ?_)
  | (refine ⟨_, _, _, _, rfl, rfl, (by walk_at "sq"), rfl, ?_⟩)
  | (refine ⟨_, _, _, _, rfl, rfl, (by walk_at "hp"), rfl, ?_⟩)
  | (refine Or.inl ⟨_, rfl, ?_⟩)))
section
variable {P : Program} {w : World} {K : PySem.W.Frag} {mg : PySem.Str → Option Value} {base : Heap} {kl : Cl}
theorem ok__law_subset (T : Facts K mg kl) : Keeps P w K mg base CX0 2 "_law_subset" ["_law_source_here", "_law_row_here"] (spSubset K) := by
  refine keeps0 T.d__law_subset sc__law_subset (fun vs H Q E h => ?_) (fun f cdv A outer s H vs Q E hr h => ?_)
  · obtain ⟨p, a, xs, c, rfl, _⟩ := h
    rfl
  · obtain ⟨p, a, xs, c, rfl, hS, hc, hx, hne, k⟩ := h
    refine ⟨_, (pss_one (ps_ret (pe_lc (own := [("_law_one", 2)]) (g := gName 2) rfl sc__law_subset.nd (kpi_list K (pv 1)) (blkOk_by (own := [("_law_one", 2)]) (N := N__law_subset) (sc := defScope s__law_subset) (by decide +kernel)) (fun _ _ _ _ _ => (pg_name (i := 2) sc__law_subset.nd rfl (Or.inl rfl))) (fun _ _ _ _ _ => pts_one (pt_cmpR op_eq (pe_own (ok__law_draw T) hr (pa_cons (pv 0) (pa_cons pe_int pa_nil))) pe_int (nomark _))) (fun _ _ _ _ _ => (pv 2))))), ?_⟩
    refine ⟨_, rfl, a, rfl, ⟨_, hx⟩, fun D hD => lcA walk_list (fun i acc H' => (∀ y ∈ acc, y ∈ xs) ∧ Go p (c + i) H H') ⟨fun y hy => (by cases hy), Go.start hS⟩ (fun i acc H o h => ⟨h.1, h.2.mut hD⟩) (fun i acc H' hi h => h.2.seq hne hx) ?_ ?_⟩
    · rintro i x acc H1 _ hi ⟨hI, hg⟩ hA hl ⟨rfl, hx'⟩
      refine ⟨rfl, ?_⟩
      refine ⟨_, rfl, p, 2, c + i, rfl, hg.src, by omega, by omega, by omega, fun r H2 r0 r1 hS2 hb => ?_⟩
      have hg2 : Go p (c + (i + 1)) H H2 := hg.but hS2 hb
      have hA2 : H2 D = some (.lst acc) := (hb D (hg.nep hD)).trans hA
      walk_at "rd"
      refine ite2 (fun hc => ?_) (fun hc => ?_)
      · refine ⟨_, rfl, LcP.put (fun i acc H o h => ⟨h.1, h.2.mut hD⟩) hA2 hl (by omega) ⟨?_, hg2⟩⟩
        intro y hy
        rcases List.mem_append.mp hy with hy | hy
        · exact hI y hy
        · rw [List.mem_singleton.mp hy]
          exact List.mem_of_getElem? hx'
      · exact LcP.skip hA2 hl ⟨hI, hg2⟩
    · rintro acc H1 ⟨hI, hg⟩ hA hl
      exact k D acc H1 hD hA hI hl hg
end
end Pf
namespace Pf
open PySem PySem.Spec PyProof.Rows L2 Bz
local macro_rules | `(tactic| walk_at "sd") => `(tactic| first
  | rfl | assumption | omega | exact Nat.le_of_ble_eq_true rfl | decide | (refine Or.inl (And.intro ?_ ?_) <;> omega) | (refine Or.inr (And.intro ?_ ?_) <;> omega) | (refine And.intro ?_ ?_ <;> omega) | (refine ⟨?_, ?_, ?_⟩ <;> omega))
local macro_rules | `(tactic| walk_at "sq") => `(tactic| first | assumption | exact SqL.of (by assumption) | exact SqT.of (by assumption) | exact SqL.of upd_same | exact SqT.of upd_same)
local macro_rules | `(tactic| walk_at "hp") => `(tactic| first | assumption | exact upd_same)
local macro_rules | `(tactic| walk_at "rd") => `(tactic| repeat (first
  | (refine ⟨_, rfl, ?_⟩) | (refine ⟨_, _, rfl, rfl, ?_⟩) | (refine ⟨rfl, ?_⟩) | (refine And.intro (by walk_at "sd") ?_)
  | (refine ⟨_, _, _, _, rfl, rfl, (by walk_at "sq"), rfl, ?_⟩)
  | (refine ⟨_, _, _, _, rfl, rfl, (by walk_at "hp"), rfl, ?_⟩)
  | (refine Or.inl ⟨_, rfl, ?_⟩)))
section
variable {P : Program} {w : World} {K : PySem.W.Frag} {mg : PySem.Str → Option Value} {base : Heap} {kl : Cl}
theorem ok__law_name (T : Facts K mg kl) : Keeps P w K mg base CX0 2 "_law_name" ["_law_source_here", "_law_taken"] (spName K) := by
  refine keeps0 T.d__law_name sc__law_name (fun vs H Q E h => ?_) (fun f cdv A outer s H vs Q E hr h => ?_)
  · obtain ⟨p, a, xs, c, rfl, _⟩ := h
    rfl
  · obtain ⟨p, a, ts, c, rfl, hS, hc, hx, hne, hts, k⟩ := h
    refine ⟨_, (pss_cons (ps_set (i := 2) sc__law_name.nd rfl (Or.inl rfl) (pe_ix (kix_list K) (pe_lst (pa_cons pe_int (pa_cons pe_int (pa_cons pe_int (pa_cons pe_int (pa_cons pe_int (pa_cons pe_int (pa_cons pe_int (pa_cons pe_int (pa_cons pe_int (pa_cons pe_int (pa_cons pe_int (pa_cons pe_int (pa_cons pe_int pa_nil)))))))))))))) (pe_own (ok__law_draw T) hr (pa_cons (pv 0) (pa_cons pe_int pa_nil))) (fun _ _ => rfl)))
  (pss_cons (ps_set (i := 3) sc__law_name.nd rfl (Or.inl rfl) (kjoin K pe_str (pe_lc (own := [("_law_k", 4)]) (g := gName 4) (tt := tYes) rfl sc__law_name.nd (pi_range1 (by rfl) T.b_range (pa_cons (pv 2) pa_nil)) (blkOk_by (own := [("_law_k", 4)]) (N := N__law_name) (sc := defScope s__law_name) (by decide +kernel)) (fun _ _ _ _ _ => (pg_name (i := 4) sc__law_name.nd rfl (Or.inl rfl))) (fun _ _ _ _ _ => pts_nil) (fun _ _ _ _ _ => (pe_ix ix_str pe_str (pe_own (ok__law_draw T) hr (pa_cons (pv 0) (pa_cons pe_int pa_nil))) (fun _ _ => rfl))))))
  (Evl.pss_cut (ps_if (pt_chain op_lt op_lt pe_int (pv 2) pe_int)
  (pss_one (ps_set (i := 3) sc__law_name.nd rfl (Or.inl rfl) (pe_ix (kix_list K) (pe_lst (pa_cons pe_str (pa_cons pe_str (pa_cons pe_str (pa_cons pe_str (pa_cons pe_str (pa_cons (pe_op op_add_str pe_str (pe_slice sl_str (pv 3) (po_some pe_int) po_none)) pa_nil))))))) (pe_own (ok__law_draw T) hr (pa_cons (pv 0) (pa_cons pe_int pa_nil))) (fun _ _ => rfl))))
  pss_nil)
  (pss_cons (ps_if (pt_cmpR (knotIn_seq K) (pv 3) (pv 1) (by rfl))
  (pss_one (ps_ret (pv 3)))
  pss_nil)
  (pss_one (ps_ret (pe_ix (kix_list K) (pe_lc (own := [("_law_one", 5)]) (g := gName 5) rfl sc__law_name.nd (kpi_list K (pe_lc (own := [("_law_letter", 6)]) (g := gName 6) (tt := tYes) rfl sc__law_name.nd (pi_str pe_str) (blkOk_by (own := [("_law_letter", 6)]) (N := N__law_name) (sc := defScope s__law_name) (by decide +kernel)) (fun _ _ _ _ _ => (pg_name (i := 6) sc__law_name.nd rfl (Or.inl rfl))) (fun _ _ _ _ _ => pts_nil) (fun _ _ _ _ _ => (pe_op op_add_str pe_str (pv 6))))) (blkOk_by (own := [("_law_one", 5)]) (N := N__law_name) (sc := defScope s__law_name) (by decide +kernel)) (fun _ _ _ _ _ => (pg_name (i := 5) sc__law_name.nd rfl (Or.inl rfl))) (fun _ _ _ _ _ => pts_one (pt_cmpR (knotIn_seq K) (pv 5) (pv 1) (by rfl))) (fun _ _ _ _ _ => (pv 5))) pe_int (fun _ _ => rfl)))))))), ?_⟩
    refine ⟨by decide, fun l hl => ⟨_, rfl, p, 13, c, rfl, (Go.new (Go.start hS) hl).src, by omega, by omega, by omega, fun r H1 r0 r1 hS1 hb1 => ?_⟩⟩
    have g1 : Go p (c + 1) H H1 := (Go.new (Go.start hS) hl).but hS1 hb1
    have nl : l ≠ p := hS.ne hl
    obtain ⟨v, hv, hat⟩ := atI_of (xs := [V.int 8, .int 4, .int 5, .int 6, .int 7, .int 1, .int 2, .int 3, .int 1, .int 2, .int 3, .int 1, .int 2]) r0 r1
    obtain ⟨n, rfl, n1, n8⟩ : ∃ n : Int, v = .int n ∧ 1 ≤ n ∧ n ≤ 8 := by
      simp only [List.mem_cons, List.not_mem_nil, or_false] at hv
      rcases hv with h | h | h | h | h | h | h | h | h | h | h | h | h <;> exact ⟨_, h, by omega, by omega⟩
    refine ⟨_, _, _, _, rfl, rfl, SqL.of ((hb1 l nl).trans upd_same), hat, ?_⟩
    have gN : nl = nl := rfl
    -- the drawn signs, put together
    refine ⟨⟨_, rfl⟩, _, rfl, n, rfl, by omega, by omega, fun D hD => lcA walk_range (fun i acc H' => (∃ ys : List PySem.Str, acc = ys.map V.str ∧ ys.length = i ∧ ∀ y ∈ ys, ∃ ch, TL.tl y = [ch] ∧ Sg ch) ∧ Go p (c + 1 + i) H1 H')
      ⟨⟨[], rfl, rfl, fun y hy => (by cases hy)⟩, Go.start g1.src⟩ (fun i acc H o h => ⟨h.1, h.2.mut hD⟩) (fun i acc H' hi h => trivial) ?_ ?_⟩
    · rintro i x acc H2 _ hi ⟨⟨ys, rfl, hy1, hy2⟩, hg⟩ hA hl2 ⟨rfl, rfl⟩
      refine ⟨rfl, _, rfl, p, 26, c + 1 + i, rfl, hg.src, by omega, by omega, by omega, fun r H3 r0 r1 hS3 hb3 => ?_⟩
      obtain ⟨ch, hch, hat⟩ := atI_of (xs := (("abcdefghijklmnopqrstuvwxyz" : PySem.Str)).cps.toList) r0 (Int.lt_of_lt_of_le r1 (by decide +kernel))
      have hA3 := (hb3 D (hg.nep hD)).trans hA
      refine ⟨_, _, _, rfl, rfl, by decide +kernel, hat, LcP.put (fun i acc H o h => ⟨h.1, h.2.mut hD⟩) hA3 hl2 (by omega) ⟨⟨ys ++ [⟨#[ch]⟩], by rw [List.map_append]; rfl, by rw [List.length_append]; simp [hy1], fun y hy => ?_⟩, hg.but hS3 hb3⟩⟩
      rcases List.mem_append.mp hy with hy | hy
      · exact hy2 y hy
      · exact ⟨ch, by rw [List.mem_singleton.mp hy], ab_sg hch⟩
    · rintro acc H2 ⟨⟨ys, rfl, hy1, hy2⟩, hg2⟩ hA hl2
      have g2 : Go p (c + 1 + n.toNat) H H2 := g1.trans hg2
      obtain ⟨j1, j2⟩ := join_signs hy2
      refine ⟨_, D, ys, rfl, rfl, .inl (SqL.of hA), by rw [letters_of hy2]; show ys.length + ys.length * 0 ≤ 16777216; omega, ?_⟩
      have nm0 : Nm (Txt.join "" ys) := ⟨by omega, by omega, j2⟩
      refine ⟨fun σ' H' => ∃ s : PySem.Str, σ' = [some (.ref p), some (.ref a), some (.int n), some (.str s), none, none, none] ∧ Nm s ∧ Go p (c + 10) H H', ?_, ?_⟩
      · walk_at "rd"
        refine ite2 (fun h3 => ?_) (fun h3 => ?_)
        · walk_at "rd"
          refine ite2 (fun h8 => ?_) (fun h8 => ?_)
          · have m3 := of_decide_eq_true h3
            have m8 := of_decide_eq_true h8
            have sl : (Txt.join "" ys).length ≤ 100000 := by omega
            refine ⟨_, rfl, 1, rfl, _, rfl, Evl.sz_of sl, _, _, rfl, rfl, ?_, ?_⟩
            · refine Evl.sz_of ?_
              have := cutS_length (Txt.join "" ys) (some 1) none
              have e1 : (("q" : PySem.Str)).length = 1 := by decide +kernel
              omega
            · refine ⟨by exact Nat.le_of_ble_eq_true rfl, fun l2 hl2' => ?_⟩
              have nl2 : l2 ≠ p := g2.ne hl2'
              refine ⟨_, rfl, p, 6, c + 1 + n.toNat, rfl, (g2.new hl2').src, by omega, by omega, by omega, fun r6 H4 r60 r61 hS4 hb4 => ?_⟩
              obtain ⟨v, hv, hat⟩ := atI_of (xs := [V.str "start", V.str "end", V.str "free", V.str "many", V.str "between", V.str ("q" ++ cutS (Txt.join "" ys) (some 1) none)]) r60 r61
              obtain ⟨s6, rfl, hs6⟩ : ∃ s6, v = .str s6 ∧ Nm s6 := by
                simp only [List.mem_cons, List.not_mem_nil, or_false] at hv
                rcases hv with h | h | h | h | h | h
                · exact ⟨_, h, nm_lit (by decide +kernel)⟩
                · exact ⟨_, h, nm_lit (by decide +kernel)⟩
                · exact ⟨_, h, nm_lit (by decide +kernel)⟩
                · exact ⟨_, h, nm_lit (by decide +kernel)⟩
                · exact ⟨_, h, nm_lit (by decide +kernel)⟩
                · exact ⟨_, h, nm_q nm0 (by omega) (by omega)⟩
              exact ⟨_, _, _, _, rfl, rfl, SqL.of ((hb4 l2 nl2).trans upd_same), hat, s6, rfl, hs6, ((g2.new hl2').but hS4 hb4).mono (by omega)⟩
          · exact ⟨_, rfl, nm0, g2.mono (by omega)⟩
        · exact ⟨_, rfl, iteF ⟨_, rfl, nm0, g2.mono (by omega)⟩⟩
      · rintro σ' H3 ⟨s, rfl, hs, g3⟩
        refine ⟨_, rfl, _, rfl, a, _, rfl, .inl (g3.seq hne hx), rfl, flat_str ts, _, rfl, ?_⟩
        refine ite2 (fun hn => ?_) (fun hn => ?_)
        · rw [inV_str] at hn
          exact ⟨_, rfl, k s H3 hs (by simpa using hn) (g3.mono (by omega))⟩
        · -- another one, that is free
          refine ⟨_, rfl, fun D2 hD2 => lcA walk_str (fun i acc H' => acc = (zNames.take i).map V.str ∧ Go p (c + 10) H3 H') ⟨rfl, Go.start g3.src⟩ (fun i acc H o h => ⟨h.1, h.2.mut hD2⟩) (fun i acc H' hi h => trivial) ?_ ?_⟩
          · rintro i x acc H4 _ hi ⟨rfl, hg⟩ hA hl ⟨rfl, ch, hch, rfl⟩
            have hi17 : i < 17 := by rw [← az_size]; exact hi
            refine ⟨rfl, _, rfl, _, _, rfl, rfl, z_size ch, LcP.put (fun i acc H o h => ⟨h.1, h.2.mut hD2⟩) hA hl (by omega) ⟨?_, hg⟩⟩
            rw [zNames_step hch, List.map_append]
            rfl
          · rintro acc H4 ⟨rfl, hg4⟩ hA hl
            have ez : zNames.take (("abcdefghijklmnopq" : PySem.Str)).cps.size = zNames := List.take_of_length_le (by rw [zNames_len, az_size]; omega)
            rw [ez] at hA
            have g4 : Go p (c + 10) H H4 := g3.trans hg4
            refine ⟨D2, rfl, ⟨_, SqL.of hA⟩, fun D3 hD3 => lcA walk_list (fun i acc H' => acc = ((zNames.take i).filter fun s => decide (s ∉ ts)).map V.str ∧ Go p (c + 10) H4 H') ⟨rfl, Go.start hg4.src⟩ (fun i acc H o h => ⟨h.1, h.2.mut hD3⟩) (fun i acc H' hi h => h.2.seq (g3.ne hD2) (SqL.of hA)) ?_ ?_⟩
            · rintro i x acc H5 _ hi ⟨rfl, hg⟩ hA5 hl5 ⟨rfl, hx5⟩
              rw [List.length_map, zNames_len] at hi
              obtain ⟨s5, rfl, hs5⟩ := map_str hx5
              have es : (zNames.take (i + 1)) = zNames.take i ++ [s5] := by
                rw [List.take_add_one, hs5]
                rfl
              refine ⟨rfl, _, rfl, _, rfl, a, _, rfl, .inl ((g4.trans hg).seq hne hx), rfl, flat_str ts, _, rfl, ?_⟩
              refine ite2 (fun hn => ?_) (fun hn => ?_)
              · rw [inV_str] at hn
                have hn' : s5 ∉ ts := by simpa using hn
                refine ⟨_, rfl, LcP.put (fun i acc H o h => ⟨h.1, h.2.mut hD3⟩) hA5 hl5 (by omega) ⟨?_, hg⟩⟩
                rw [es, List.filter_append, List.map_append, List.filter_cons, if_pos (decide_eq_true hn')]
                rfl
              · rw [inV_str] at hn
                have hn' : ¬ s5 ∉ ts := by simpa using hn
                refine LcP.skip hA5 hl5 ⟨?_, hg⟩
                rw [es, List.filter_append, List.map_append, List.filter_cons, if_neg (by simpa using hn')]
                simp
            · rintro acc H5 ⟨rfl, hg5⟩ hA5 hl5
              have ez2 : zNames.take (zNames.map V.str).length = zNames := List.take_of_length_le (by rw [List.length_map]; omega)
              rw [ez2] at hA5
              obtain ⟨s, hs, hsn⟩ := z_names hts zNames_len zNames_nd
              have hm : s ∈ zNames.filter fun s => decide (s ∉ ts) := List.mem_filter.mpr ⟨hs, decide_eq_true hsn⟩
              cases hf : zNames.filter fun s => decide (s ∉ ts) with
              | nil => rw [hf] at hm; cases hm
              | cons s0 r =>
                have h0 : s0 ∈ zNames.filter fun s => decide (s ∉ ts) := by rw [hf]; exact List.mem_cons_self ..
                obtain ⟨m1, m2⟩ := List.mem_filter.mp h0
                refine ⟨_, _, _, _, rfl, rfl, SqL.of hA5, by rw [hf]; exact atI_nat (j := 0) rfl, k s0 H5 (zNames_nm s0 m1) (of_decide_eq_true m2) ((g4.trans hg5).mono (by omega))⟩
end
end Pf
namespace Pf
open PySem PySem.Spec PyProof.Rows L2 Bz
local macro_rules | `(tactic| walk_at "sd") => `(tactic| first
  | rfl | assumption | omega | exact Nat.le_of_ble_eq_true rfl | decide | (refine Or.inl (And.intro ?_ ?_) <;> omega) | (refine Or.inr (And.intro ?_ ?_) <;> omega) | (refine And.intro ?_ ?_ <;> omega) | (refine ⟨?_, ?_, ?_⟩ <;> omega))
local macro_rules | `(tactic| walk_at "sq") => `(tactic| first | assumption | exact SqL.of (by assumption) | exact SqT.of (by assumption) | exact SqL.of upd_same | exact SqT.of upd_same)
local macro_rules | `(tactic| walk_at "hp") => `(tactic| first | assumption | exact upd_same)
local macro_rules | `(tactic| walk_at "rd") => `(tactic| repeat (first
  | (refine ⟨_, rfl, ?_⟩) | (refine ⟨_, _, rfl, rfl, ?_⟩) | (refine ⟨rfl, ?_⟩) | (refine And.intro (by walk_at "sd") ?_)
  | (refine ⟨_, _, _, _, rfl, rfl, (by walk_at "sq"), rfl, ?_⟩)
  | (refine ⟨_, _, _, _, rfl, rfl, (by walk_at "hp"), rfl, ?_⟩)
  | (refine Or.inl ⟨_, rfl, ?_⟩)))
section
variable {P : Program} {w : World} {K : PySem.W.Frag} {mg : PySem.Str → Option Value} {base : Heap} {kl : Cl}
theorem ok__law_names (T : Facts K mg kl) : Keeps P w K mg base CX0 3 "_law_names" ["_law_source_here", "_law_many"] spNames := by
  refine keeps0 T.d__law_names sc__law_names (fun vs H Q E h => ?_) (fun f cdv A outer s H vs Q E hr h => ?_)
  · obtain ⟨p, n, c, rfl, _⟩ := h
    rfl
  · obtain ⟨p, n, c, rfl, hS, hc, n0, n1, k⟩ := h
    refine ⟨_, (pss_cons (ps_set (i := 2) sc__law_names.nd rfl (Or.inl rfl) (pe_lst pa_nil))
  (pss_cons (ps_for PassesOwn.never rfl (pi_range1 (by rfl) T.b_range (pa_cons (pv 1) pa_nil)) (pg_name (i := 3) sc__law_names.nd rfl (Or.inl rfl))
  (pss_one (ps_expr (kbm K PySem.F.plainAttrs_list PySem.F.slot_list_append PySem.F.type_list_append mt_append (pv 2) (pa_cons (pe_own (ok__law_name T) hr (pa_cons (pv 0) (pa_cons (pv 2) pa_nil))) pa_nil)))))
  (pss_one (ps_ret (pv 2))))), ?_⟩
    refine ⟨Nat.zero_le _, fun l hl => ?_⟩
    have nl : l ≠ p := hS.ne hl
    refine ⟨_, rfl, n, rfl, by omega, by omega, for_range (lo := 0) (n := n.toNat) (fun i σ H' => ∃ (ns : List PySem.Str) (v : Option V), σ = [some (.ref p), some (.int n), some (.ref l), v] ∧ H' l = some (.lst (ns.map V.str)) ∧ (∀ s ∈ ns, Nm s) ∧ ns.length = i ∧ ns.Nodup ∧ Go p (c + 12 * i) H H')
      ⟨[], _, rfl, upd_same, fun s hs => (by cases hs), rfl, .nil, (Go.start hS).new hl⟩ ?_ ?_⟩
    · rintro i σ H1 hi ⟨ns, v, rfl, h1, hn, hl1, hd, g⟩
      refine ⟨_, rfl, .inl ⟨rfl, _, SqL.of h1⟩, _, rfl, _, rfl, p, l, ns, c + 12 * i, rfl, g.src, by omega, SqL.of h1, nl, by omega, fun s H2 hs hsn g2 => ?_⟩
      refine ⟨l, _, _, rfl, rfl, g2.get nl h1, ?_, ?_⟩
      · rw [List.length_map]
        exact Nat.lt_of_le_of_lt (by omega : ns.length ≤ 16) (by decide)
      · refine ⟨ns ++ [s], _, rfl, by rw [List.map_append]; exact upd_same, fun z hz => ?_, by rw [List.length_append, hl1]; rfl, ?_, (g.trans (g2.mono (by omega))).mut hl⟩
        · rcases List.mem_append.mp hz with hz | hz
          · exact hn z hz
          · rw [List.mem_singleton.mp hz]; exact hs
        · rw [List.nodup_append]
          exact ⟨hd, by simp, fun a ha b hb e => hsn (by rw [List.mem_singleton.mp hb] at e; rw [← e]; exact ha)⟩
    · rintro σ H1 ⟨ns, v, rfl, h1, hn, hl1, hd, g⟩
      exact ⟨_, rfl, k l ns H1 hl h1 hn (by omega) hd g⟩
end
end Pf
namespace Pf
open PySem PySem.Spec PyProof.Rows L2 Bz
local macro_rules | `(tactic| walk_at "sd") => `(tactic| first
  | rfl | assumption | omega | exact Nat.le_of_ble_eq_true rfl | decide | (refine Or.inl (And.intro ?_ ?_) <;> omega) | (refine Or.inr (And.intro ?_ ?_) <;> omega) | (refine And.intro ?_ ?_ <;> omega) | (refine ⟨?_, ?_, ?_⟩ <;> omega))
local macro_rules | `(tactic| walk_at "sq") => `(tactic| first | assumption | exact SqL.of (by assumption) | exact SqT.of (by assumption) | exact SqL.of upd_same | exact SqT.of upd_same)
local macro_rules | `(tactic| walk_at "hp") => `(tactic| first | assumption | exact upd_same)
local macro_rules | `(tactic| walk_at "rd") => `(tactic| repeat (first
  | (refine ⟨_, rfl, ?_⟩) | (refine ⟨_, _, rfl, rfl, ?_⟩) | (refine ⟨rfl, ?_⟩) | (refine And.intro (by walk_at "sd") ?_)
  | (refine ⟨_, _, _, _, rfl, rfl, (by walk_at "sq"), rfl, ?_⟩)
  | (refine ⟨_, _, _, _, rfl, rfl, (by walk_at "hp"), rfl, ?_⟩)
  | (refine Or.inl ⟨_, rfl, ?_⟩)))
section
variable {P : Program} {w : World} {K : PySem.W.Frag} {mg : PySem.Str → Option Value} {base : Heap} {kl : Cl}
theorem ok__law_arrows (T : Facts K mg kl) : Keeps P w K mg base CX0 3 "_law_arrows" ["_law_source_here", "_law_states", "_law_signs", "_law_most"] (spArrows K) := by
  refine keeps0 T.d__law_arrows sc__law_arrows (fun vs H Q E h => ?_) (fun f cdv A outer s H vs Q E hr h => ?_)
  · obtain ⟨p, a, b, ss, ls, n, c, rfl, _⟩ := h
    rfl
  · obtain ⟨p, a, b, ss, ls, n, c, rfl, hS, hc, na, nb, ha, hb, s0, l0, s1, l1, n0, n1, k⟩ := h
    refine ⟨_, (pss_cons (ps_set (i := 4) sc__law_arrows.nd rfl (Or.inl rfl) (pe_lst pa_nil))
  (pss_cons (ps_for PassesOwn.never rfl (pi_range1 (by rfl) T.b_range (pa_cons (pe_op op_add pe_int (pe_own (ok__law_draw T) hr (pa_cons (pv 0) (pa_cons (pv 3) pa_nil)))) pa_nil)) (pg_name (i := 5) sc__law_arrows.nd rfl (Or.inl rfl))
  (pss_cons (ps_set (i := 6) sc__law_arrows.nd rfl (Or.inl rfl) (pe_ix (kix_list K) (pe_lst (pa_cons pe_int (pa_cons pe_int (pa_cons pe_int (pa_cons pe_int (pa_cons pe_int (pa_cons pe_int (pa_cons pe_int pa_nil)))))))) (pe_own (ok__law_draw T) hr (pa_cons (pv 0) (pa_cons pe_int pa_nil))) (fun _ _ => rfl)))
  (pss_one (ps_expr (kbm K PySem.F.plainAttrs_list PySem.F.slot_list_append PySem.F.type_list_append mt_append (pv 4) (pa_cons (pe_tup (pa_cons (pe_own (ok__law_pick T) hr (pa_cons (pv 0) (pa_cons (pv 1) pa_nil))) (pa_cons (pe_own (ok__law_pick T) hr (pa_cons (pv 0) (pa_cons (pv 2) pa_nil))) (pa_cons (pe_own (ok__law_pick T) hr (pa_cons (pv 0) (pa_cons (pv 1) pa_nil))) (pa_cons (pv 6) pa_nil))))) pa_nil))))))
  (pss_one (ps_ret (pv 4))))), ?_⟩
    refine ⟨Nat.zero_le _, fun l hl => ?_⟩
    have nl : l ≠ p := hS.ne hl
    refine ⟨_, rfl, _, rfl, p, n, c, rfl, ((Go.start hS).new hl).src, by omega, n0, by omega, fun r H1 r0 r1 hS1 hb1 => ?_⟩
    have g1 : Go p (c + 1) H H1 := ((Go.start hS).new hl).but hS1 hb1
    have hl1 : H1 l = some (.lst []) := (hb1 l nl).trans upd_same
    refine ⟨_, _, rfl, rfl, 1 + r, rfl, by omega, by omega, for_range (lo := 0) (n := (1 + r).toNat) (fun i σ H' => ∃ (vs : List V) (xs : List Arw) (v1 v2 : Option V), σ = [some (.ref p), some (.ref a), some (.ref b), some (.int n), some (.ref l), v1, v2] ∧ H' l = some (.lst vs) ∧ ArTs K p H' vs xs ∧
        (∀ x ∈ xs, x.s ∈ ss ∧ x.l ∈ ls ∧ x.t ∈ ss ∧ 0 ≤ x.c ∧ x.c ≤ 9) ∧ xs.length = i ∧ Go p (c + 1 + 4 * i) H H') ⟨[], [], _, _, rfl, hl1, .nil, fun x hx => (by cases hx), rfl, g1⟩ ?_ ?_⟩
    · rintro i σ H2 hi ⟨vs, xs, v1, v2, rfl, h2, hA, hX, hlen, g2⟩
      -- the price
      refine ⟨Nat.le_of_ble_eq_true rfl, fun l3 hl3 => ⟨_, rfl, p, 7, c + 1 + 4 * i, rfl, (g2.new hl3).src, by omega, by omega, by omega, fun r3 H3 r30 r31 hS3 hb3 => ?_⟩⟩
      have g3 : Go p (c + 1 + 4 * i + 1) H2 H3 := ((Go.start g2.src).new hl3).but hS3 hb3
      have nl3 : l3 ≠ p := g2.ne hl3
      obtain ⟨v, hv, hat⟩ := atI_of (xs := [V.int 0, .int 1, .int 0, .int 1, .int 0, .int 2, .int 9]) r30 r31
      obtain ⟨z, rfl, z0, z9⟩ : ∃ z : Int, v = .int z ∧ 0 ≤ z ∧ z ≤ 9 := by
        simp only [List.mem_cons, List.not_mem_nil, or_false] at hv
        rcases hv with h | h | h | h | h | h | h <;> exact ⟨_, h, by omega, by omega⟩
      refine ⟨_, _, _, _, rfl, rfl, SqL.of ((hb3 l3 nl3).trans upd_same), hat, ?_⟩
      have hA3 := g3.get nl h2
      refine ⟨_, rfl, .inl ⟨rfl, _, SqL.of hA3⟩, ?_⟩
      have pick : ∀ (q : Addr) (ts : List PySem.Str) (c' : Nat) (Hi : Hp) (R : V → Hp → Prop), ts ≠ [] → ts.length ≤ 100 → q ≠ p → Go p c' H Hi → c' ≤ 900000 → SqL K H q (ts.map V.str) →
          (∀ s Hj, s ∈ ts → Go p (c' + 1) Hi Hj → R (.str s) Hj) → spPick K [.ref p, .ref q] Hi R E0 := by
        intro q ts c' Hi R t0 t1 nq g hc' hq hR
        refine ⟨p, q, ts.map V.str, c', rfl, g.src, by omega, g.seq nq hq, nq, by simpa using t0, by rw [List.length_map]; omega, fun v Hj hv hSj hbj => ?_⟩
        obtain ⟨s, hs, rfl⟩ := List.mem_map.mp hv
        exact hR s Hj hs ((Go.start g.src).but hSj hbj)
      refine ⟨_, rfl, _, rfl, pick a ss (c + 1 + 4 * i + 1) H3 _ s0 s1 na (g2.trans g3) (by omega) ha fun sa H4 hsa g4 => ?_⟩
      refine ⟨_, rfl, _, rfl, pick b ls (c + 1 + 4 * i + 2) H4 _ l0 l1 nb ((g2.trans g3).trans g4) (by omega) hb fun sl H5 hsl g5 => ?_⟩
      refine ⟨_, rfl, _, rfl, pick a ss (c + 1 + 4 * i + 3) H5 _ s0 s1 na (((g2.trans g3).trans g4).trans g5) (by omega) ha fun st H6 hst g6 => ?_⟩
      refine ⟨_, rfl, Nat.le_of_ble_eq_true rfl, fun t ht => ?_⟩
      have g36 : Go p (c + 1 + 4 * i + 4) H3 H6 := (g4.trans g5).trans g6
      have nlt : l ≠ t := ne_of_none (g36.get nl hA3) ht
      have gf : Go p (c + 1 + 4 * (i + 1)) H2 (upd H6 t (.tup [.str sa, .str sl, .str st, .int z])) := ((g3.trans g36).mono (by omega)).new ht
      have hA6 : (upd H6 t (.tup [.str sa, .str sl, .str st, .int z])) l = some (.lst vs) := gf.get nl h2
      refine ⟨l, vs, _, rfl, rfl, hA6, ?_, ?_⟩
      · have := Paired.length hA
        exact Nat.lt_of_le_of_lt (by omega : vs.length ≤ 1000) (by decide)
      · refine ⟨vs ++ [.ref t], xs ++ [⟨sa, sl, st, z⟩], _, _, rfl, upd_same, ?_, fun x hx => ?_, by rw [List.length_append, hlen]; rfl, (g2.trans gf).mut hl⟩
        · refine ArTs.snoc ?_ ((g2.trans (g3.trans g36)).ne ht) ((upd_ne nlt.symm).trans upd_same)
          refine Paired.mapP (hA.ext gf.ext) fun v x ⟨q, ev, nq, hq⟩ => ⟨q, ev, nq, ?_⟩
          rw [upd_ne (ne_of hq hA6 (by intro z; cases z))]
          exact hq
        · rcases List.mem_append.mp hx with hx | hx
          · exact hX x hx
          · rw [List.mem_singleton.mp hx]
            exact ⟨hsa, hsl, hst, z0, z9⟩
    · rintro σ H2 ⟨vs, xs, v1, v2, rfl, h2, hA, hX, hlen, g2⟩
      exact ⟨_, rfl, k l vs xs H2 hl h2 hA hX (by omega) (by omega) (g2.mono (by omega))⟩
end
end Pf
namespace Pf
open PySem PySem.Spec PyProof.Rows L2 Bz
local macro_rules | `(tactic| walk_at "sd") => `(tactic| first
  | rfl | assumption | omega | exact Nat.le_of_ble_eq_true rfl | decide | (refine Or.inl (And.intro ?_ ?_) <;> omega) | (refine Or.inr (And.intro ?_ ?_) <;> omega) | (refine And.intro ?_ ?_ <;> omega) | (refine ⟨?_, ?_, ?_⟩ <;> omega))
local macro_rules | `(tactic| walk_at "sq") => `(tactic| first | assumption | exact SqL.of (by assumption) | exact SqT.of (by assumption) | exact SqL.of upd_same | exact SqT.of upd_same)
local macro_rules | `(tactic| walk_at "hp") => `(tactic| first | assumption | exact upd_same)
local macro_rules | `(tactic| walk_at "rd") => `(tactic| repeat (first
  | (refine ⟨_, rfl, ?_⟩) | (refine ⟨_, _, rfl, rfl, ?_⟩) | (refine ⟨rfl, ?_⟩) | (refine And.intro (by walk_at "sd") ?_)
  | (refine ⟨_, _, _, _, rfl, rfl, (by walk_at "sq"), rfl, ?_⟩)
  | (refine ⟨_, _, _, _, rfl, rfl, (by walk_at "hp"), rfl, ?_⟩)
  | (refine Or.inl ⟨_, rfl, ?_⟩)))
section
variable {P : Program} {w : World} {K : PySem.W.Frag} {mg : PySem.Str → Option Value} {base : Heap} {kl : Cl}
theorem ok__law_machine (T : Facts K mg kl) : Keeps P w K mg base CX0 4 "_law_machine" ["_law_source_here", "_law_states", "_law_signs", "_law_most"] (spMachine K) := by
  refine keeps0 T.d__law_machine sc__law_machine (fun vs H Q E h => ?_) (fun f cdv A outer s H vs Q E hr h => ?_)
  · obtain ⟨p, m, g, n, c, rfl, _⟩ := h
    rfl
  · obtain ⟨p, m, g, n, c, rfl, hS, hc, m0, m1, g0, g1, n0, n1, k⟩ := h
    refine ⟨_, (pss_cons (ps_set (i := 4) sc__law_machine.nd rfl (Or.inl rfl) (pe_own (ok__law_names T) hr (pa_cons (pv 0) (pa_cons (pe_op op_add pe_int (pe_own (ok__law_draw T) hr (pa_cons (pv 0) (pa_cons (pv 1) pa_nil)))) pa_nil))))
  (pss_cons (ps_set (i := 2) sc__law_machine.nd rfl (Or.inl rfl) (pe_slice (ksl_list K) (pe_lst (pa_cons pe_str (pa_cons pe_str (pa_cons pe_str (pa_cons pe_str pa_nil))))) po_none (po_some (pe_op op_add pe_int (pe_own (ok__law_draw T) hr (pa_cons (pv 0) (pa_cons (pv 2) pa_nil)))))))
  (pss_cons (ps_set (i := 5) sc__law_machine.nd rfl (Or.inl rfl) (pe_own (ok__law_arrows T) hr (pa_cons (pv 0) (pa_cons (pv 4) (pa_cons (pv 2) (pa_cons (pv 3) pa_nil))))))
  (pss_cons (ps_set (i := 6) sc__law_machine.nd rfl (Or.inl rfl) (pe_op op_cat (pe_lst (pa_cons (pe_own (ok__law_pick T) hr (pa_cons (pv 0) (pa_cons (pv 4) pa_nil))) pa_nil)) (pe_own (ok__law_subset T) hr (pa_cons (pv 0) (pa_cons (pv 4) pa_nil)))))
  (pss_one (ps_ret (pe_tup (pa_cons (pv 5) (pa_cons (pv 6) (pa_cons (pe_op op_cat (pe_lst (pa_cons (pe_own (ok__law_pick T) hr (pa_cons (pv 0) (pa_cons (pv 4) pa_nil))) pa_nil)) (pe_own (ok__law_subset T) hr (pa_cons (pv 0) (pa_cons (pv 4) pa_nil)))) pa_nil)))))))))), ?_⟩
    -- the names
    refine ⟨_, rfl, _, rfl, _, rfl, p, m, c, rfl, hS, by omega, m0, by omega, fun r H1 r0 r1 hS1 hb1 => ?_⟩
    have e1 : Go p (c + 1) H H1 := (Go.start hS).but hS1 hb1
    refine ⟨_, _, rfl, rfl, p, 1 + r, c + 1, rfl, hS1, by omega, by omega, by omega, fun a ns H2 hna ha hnm hnl hnd e2 => ?_⟩
    have na : a ≠ p := e1.ne hna
    have E2 : Go p (c + 1 + 12 * 8) H H2 := (e1.trans e2).mono (by omega)
    have ns0 : ns ≠ [] := fun z => by rw [z] at hnl; simp at hnl; omega
    have ns1 : ns.length ≤ 8 := by omega
    -- the letters
    refine ⟨Nat.le_of_ble_eq_true rfl, fun l hl => ?_⟩
    have nl : l ≠ p := E2.ne hl
    refine ⟨_, rfl, _, rfl, p, g, c + 1 + 12 * 8, rfl, (E2.new hl).src, by omega, g0, by omega, fun r2 H3 r20 r21 hS3 hb3 => ?_⟩
    have e3 : Go p (c + 98) H2 H3 := ((Go.start E2.src).new hl).but hS3 hb3 |>.mono (by omega)
    have hl3 : H3 l = some (.lst [.str "a", .str "b", .str "c", .str "d"]) := (hb3 l nl).trans upd_same
    refine ⟨_, _, rfl, rfl, _, rfl, l, _, rfl, SqL.of hl3, fun b hb => ?_⟩
    obtain ⟨kk, hkk, kk1, kk4⟩ : ∃ kk : Nat, 1 + r2 = ((kk : Nat) : Int) ∧ 1 ≤ kk ∧ kk ≤ 4 := ⟨(1 + r2).toNat, by omega, by omega, by omega⟩
    have ecut : cutV [V.str "a", V.str "b", V.str "c", V.str "d"] none (some (1 + r2)) = ((["a", "b", "c", "d"] : List PySem.Str).take kk).map V.str := by
      rw [hkk, cutV_take (by exact kk4), List.map_take]
      rfl
    have nb : b ≠ p := ((E2.trans e3)).ne hb
    have e4 : Go p (c + 98) H2 (upd H3 b (.lst (((["a", "b", "c", "d"] : List PySem.Str).take kk).map V.str))) := e3.new hb
    rw [ecut]
    have E4 := E2.trans e4
    -- the arrows
    refine ⟨_, rfl, _, rfl, _, rfl, _, rfl, p, a, b, ns, _, n, c + 98, rfl, E4.src, by omega, na, nb, SqL.of (e4.get na ha), SqL.of upd_same, ns0, ?_, by omega, ?_, n0, by omega, fun a1 vs xs H5 hna1 h1 hA hX x1 xn e5 => ?_⟩
    · intro z
      have := congrArg List.length z
      rw [List.length_take] at this
      simp at this
      omega
    · rw [List.length_take]
      simp
      omega
    have E5 : Go p (c + 98 + 1 + 4 * 20) H H5 := (E4.trans e5).mono (by omega)
    have na1 : a1 ≠ p := E4.ne hna1
    have ha5 : H5 a = some (.lst (ns.map V.str)) := (e4.trans e5).get na ha
    -- the starts
    refine some_names (j := 4) rfl rfl E5 (by omega) na (SqL.of ha5) ns0 (by omega) fun a2 ss H6 hn2 h2 hss ss1 ssn e6 => ?_
    have na2 : a2 ≠ p := E5.ne hn2
    have E6 : Go p (c + 98 + 1 + 4 * 20 + 9) H H6 := (E5.trans e6).mono (by omega)
    -- the ends
    refine ⟨_, rfl, _, rfl, ?_⟩
    refine some_names (j := 4) rfl rfl E6 (by omega) na (SqL.of (e6.get na ha5)) ns0 (by omega) fun a3 es H7 hn3 h3 hes es1 esn e7 => ?_
    have na3 : a3 ≠ p := E6.ne hn3
    have E7 : Go p (c + 300) H H7 := (E6.trans e7).mono (by omega)
    refine ⟨Nat.le_of_ble_eq_true rfl, fun q hq => ?_⟩
    have hE : Ext p H7 (upd H7 q (.tup [.ref a1, .ref a2, .ref a3])) := Ext.new hq
    refine k q xs ss es _ (E7.free hq) ⟨a1, a2, a3, vs, E7.ne hq, na1, na2, na3, upd_same, hE _ _ na1 ((e6.trans e7).get na1 h1), hA.ext ((e6.trans e7).ext.trans hE), hE _ _ na2 (e7.get na2 h2), hE _ _ na3 h3⟩ ?_ (E7.new hq)
    exact ⟨⟨ns, hnm, by omega, hnd, fun x hx => ⟨(hX x hx).1, (hX x hx).2.2.1⟩, hss, hes⟩, fun x hx => List.mem_of_mem_take (hX x hx).2.1, fun x hx => (hX x hx).2.2.2, ⟨x1, by omega⟩, ⟨ss1, by omega⟩, ⟨es1, by omega⟩⟩
end
end Pf
namespace Pf
open PySem PySem.Spec PyProof.Rows L2 Bz
local macro_rules | `(tactic| walk_at "sd") => `(tactic| first
  | rfl | assumption | omega | exact Nat.le_of_ble_eq_true rfl | decide | (refine Or.inl (And.intro ?_ ?_) <;> omega) | (refine Or.inr (And.intro ?_ ?_) <;> omega) | (refine And.intro ?_ ?_ <;> omega) | (refine ⟨?_, ?_, ?_⟩ <;> omega))
local macro_rules | `(tactic| walk_at "sq") => `(tactic| first | assumption | exact SqL.of (by assumption) | exact SqT.of (by assumption) | exact SqL.of upd_same | exact SqT.of upd_same)
local macro_rules | `(tactic| walk_at "hp") => `(tactic| first | assumption | exact upd_same)
local macro_rules | `(tactic| walk_at "rd") => `(tactic| repeat (first
  | (refine ⟨_, rfl, ?_⟩) | (refine ⟨_, _, rfl, rfl, ?_⟩) | (refine ⟨rfl, ?_⟩) | (refine And.intro (by walk_at "sd") ?_)
  | (refine ⟨_, _, _, _, rfl, rfl, (by walk_at "sq"), rfl, ?_⟩)
  | (refine ⟨_, _, _, _, rfl, rfl, (by walk_at "hp"), rfl, ?_⟩)
  | (refine Or.inl ⟨_, rfl, ?_⟩)))
section
variable {P : Program} {w : World} {K : PySem.W.Frag} {mg : PySem.Str → Option Value} {base : Heap} {kl : Cl}
theorem ok__law_unlike (T : Facts K mg kl) : Keeps P w K mg base CX0 1 "_law_unlike" ["_law_things"] (spUnlike K) := by
  refine keeps0 T.d__law_unlike sc__law_unlike (fun vs H Q E h => ?_) (fun f cdv A outer s H vs Q E hr h => ?_)
  · obtain ⟨a, ns, rfl, _⟩ := h
    rfl
  · obtain ⟨a, ns, rfl, ha, hl, k⟩ := h
    refine ⟨_, (pss_cons (ps_set (i := 1) sc__law_unlike.nd rfl (Or.inl rfl) (pe_lst pa_nil))
  (pss_cons (ps_for PassesOwn.never rfl (kpi_list K (pe_callB (ksortedS K) (by rfl) T.b_sorted (by decide +kernel) (pa_cons (pe_lc (own := [("_law_one", 3)]) (g := gName 3) (tt := tYes) rfl sc__law_unlike.nd (kpi_list K (pv 0)) (blkOk_by (own := [("_law_one", 3)]) (N := N__law_unlike) (sc := defScope s__law_unlike) (by decide +kernel)) (fun _ _ _ _ _ => (pg_name (i := 3) sc__law_unlike.nd rfl (Or.inl rfl))) (fun _ _ _ _ _ => pts_nil) (fun _ _ _ _ _ => (pe_callTy strS (by rfl) T.b_str (by decide +kernel) (pa_cons (pv 3) pa_nil)))) pa_nil))) (pg_name (i := 2) sc__law_unlike.nd rfl (Or.inl rfl))
  (pss_one (ps_if (pt_cmpR (knotIn_seq K) (pv 2) (pv 1) (by rfl))
  (pss_one (ps_expr (kbm K PySem.F.plainAttrs_list PySem.F.slot_list_append PySem.F.type_list_append mt_append (pv 1) (pa_cons (pv 2) pa_nil))))
  pss_nil)))
  (pss_one (ps_ret (pv 1))))), ?_⟩
    refine ⟨Nat.zero_le _, fun q hq => ?_⟩
    have s0 : Same H (upd H q (.lst [])) := same_new hq
    refine ⟨_, rfl, a, rfl, ⟨_, s0.seq ha⟩, fun D hD => lcA walk_list (fun i acc H' => acc = (ns.take i).map V.str ∧ Same (upd H q (.lst [])) H') ⟨rfl, .refl _⟩ (fun i acc H' o h => ⟨h.1, same_mut h.2 hD⟩) (fun i acc H' _ h => h.2.seq (s0.seq ha)) ?_ ?_⟩
    · rintro i x acc _ H1 hi ⟨rfl, hs⟩ hA hl1 ⟨rfl, hx⟩
      obtain ⟨u, rfl, hu⟩ := map_str hx
      rw [List.length_map] at hi
      refine ⟨rfl, _, rfl, u, rfl, LcP.put (fun i acc H' o h => ⟨h.1, same_mut h.2 hD⟩) hA hl1 (by omega) ⟨?_, hs⟩⟩
      rw [List.take_add_one, hu, List.map_append]
      rfl
    · rintro acc H1 ⟨rfl, hs⟩ hA hl1
      rw [List.length_map, List.take_length] at hA
      refine ⟨D, ns, rfl, SqL.of hA, hl, fun ys p hp hord hpn => ?_⟩
      have h1 : H1 q = some (.lst []) := hs _ _ upd_same
      have npq : q ≠ p := ne_of_none h1 hpn
      refine ⟨p, rfl, ⟨_, SqL.of upd_same⟩, ?_⟩
      have sp0 : Same H1 (upd H1 p (.lst (ys.map V.str))) := same_new hpn
      refine for_list (K := K) (a := p) (xs := ys.map V.str) (fun i σ H' => ∃ (v1 : Option V) (os : List PySem.Str), σ = [some (.ref a), some (.ref q), v1, none] ∧ H' q = some (.lst (os.map V.str)) ∧ H' p = some (.lst (ys.map V.str)) ∧ (∀ k, k ∈ os ↔ k ∈ ys.take i) ∧ os.length ≤ i ∧ Asc os ∧ Same H H')
        ⟨_, [], rfl, sp0 _ _ h1, upd_same, fun k => Iff.rfl, Nat.le_refl _, .nil, (s0.trans hs).trans sp0⟩ (fun i σ H' _ ⟨_, _, _, _, h, _⟩ => SqL.of h) ?_ ?_
      · rintro i y σ H2 hi ⟨v1, os, rfl, h2, h3, hm, hlen, hnd, hs2⟩
        obtain ⟨u, rfl, hu⟩ := map_str hi
        have iy : i < ys.length := (List.getElem?_eq_some_iff.mp hu).1
        have yl := hp.length_eq
        have tk : ys.take (i + 1) = ys.take i ++ [u] := by rw [List.take_add_one, hu]; rfl
        refine ⟨_, rfl, _, rfl, q, os.map V.str, rfl, .inl (SqL.of h2), rfl, flat_str os, _, rfl, ?_⟩
        rw [inV_str]
        by_cases c : u ∈ os
        · rw [decide_eq_true c]
          refine iteF ⟨_, os, rfl, h2, h3, fun k => ?_, by omega, hnd, hs2⟩
          rw [tk, List.mem_append, hm, List.mem_singleton]
          exact ⟨.inl, fun h => h.elim id fun e => by rw [e]; exact (hm u).mp c⟩
        · rw [decide_eq_false c]
          refine iteT ⟨_, rfl, .inl ⟨rfl, _, SqL.of h2⟩, _, rfl, q, _, _, rfl, rfl, h2, by rw [List.length_map]; exact Nat.lt_of_le_of_lt (show os.length ≤ 64 by omega) (by decide), ?_⟩
          refine ⟨_, os ++ [u], rfl, by rw [List.map_append]; exact upd_same, (upd_ne npq.symm).trans h3, fun k => ?_, by rw [List.length_append, List.length_singleton]; omega, asc_snoc hnd (fun z hz => asc_step hord hu ((hm z).mp hz) (fun e => c (e ▸ hz))), same_mut hs2 hq⟩
          rw [tk, List.mem_append, List.mem_append, hm]
      · rintro σ H2 ⟨v1, os, rfl, h2, h3, hm, hlen, hnd, hs2⟩
        rw [List.length_map] at hm hlen
        rw [List.take_length] at hm
        exact ⟨_, rfl, k q os H2 hq h2 (fun z => (hm z).trans hp.mem_iff) ⟨by rw [← hp.length_eq]; exact hlen, hnd⟩ hs2⟩
end
end Pf
namespace Pf
open PySem PySem.Spec PyProof.Rows L2 Bz
local macro_rules | `(tactic| walk_at "sd") => `(tactic| first
  | rfl | assumption | omega | exact Nat.le_of_ble_eq_true rfl | decide | (refine Or.inl (And.intro ?_ ?_) <;> omega) | (refine Or.inr (And.intro ?_ ?_) <;> omega) | (refine And.intro ?_ ?_ <;> omega) | (refine ⟨?_, ?_, ?_⟩ <;> omega))
local macro_rules | `(tactic| walk_at "sq") => `(tactic| first | assumption | exact SqL.of (by assumption) | exact SqT.of (by assumption) | exact SqL.of upd_same | exact SqT.of upd_same)
local macro_rules | `(tactic| walk_at "hp") => `(tactic| first | assumption | exact upd_same)
local macro_rules | `(tactic| walk_at "rd") => `(tactic| repeat (first
  | (refine ⟨_, rfl, ?_⟩) | (refine ⟨_, _, rfl, rfl, ?_⟩) | (refine ⟨rfl, ?_⟩) | (refine And.intro (by walk_at "sd") ?_)
  | (refine ⟨_, _, _, _, rfl, rfl, (by walk_at "sq"), rfl, ?_⟩)
  | (refine ⟨_, _, _, _, rfl, rfl, (by walk_at "hp"), rfl, ?_⟩)
  | (refine Or.inl ⟨_, rfl, ?_⟩)))
section
variable {P : Program} {w : World} {K : PySem.W.Frag} {mg : PySem.Str → Option Value} {base : Heap} {kl : Cl}
theorem ok__law_letters (T : Facts K mg kl) : Keeps P w K mg base CX0 2 "_law_letters" ["_law_made"] (spLettersB K) := by
  refine keeps0 T.d__law_letters sc__law_letters (fun vs H Q E h => ?_) (fun f cdv A outer s H vs Q E hr h => ?_)
  · obtain ⟨m, a, b, e, us, xs, ss, es, rfl, _⟩ := h
    rfl
  · obtain ⟨m, a, b, e, us, xs, ss, es, rfl, hM, hl, k⟩ := h
    refine ⟨_, (pss_one (ps_ret (pe_own (ok__law_unlike T) hr (pa_cons (pe_lc (own := [("_law_arrow", 1)]) (g := gName 1) (tt := tYes) rfl sc__law_letters.nd (kpi_list K (pe_ix (kix_tup K) (pv 0) pe_int (fun _ _ => rfl))) (blkOk_by (own := [("_law_arrow", 1)]) (N := N__law_letters) (sc := defScope s__law_letters) (by decide +kernel)) (fun _ _ _ _ _ => (pg_name (i := 1) sc__law_letters.nd rfl (Or.inl rfl))) (fun _ _ _ _ _ => pts_nil) (fun _ _ _ _ _ => (pe_ix (kix_tup K) (pv 1) pe_int (fun _ _ => rfl)))) pa_nil)))), ?_⟩
    have ul : us.length = xs.length := Paired.length hM.as
    refine ⟨_, rfl, m, _, 0, _, rfl, rfl, SqT.of hM.m, rfl, a, rfl, ⟨_, hM.a⟩, fun D hD => lcA walk_list (fun i acc H' => acc = (xs.take i).map (fun x => V.str x.l) ∧ Same H H') ⟨rfl, .refl _⟩ (fun i acc H' o h => ⟨h.1, same_mut h.2 hD⟩) (fun i acc H' _ h => h.2.seq hM.a) ?_ ?_⟩
    · rintro i x acc _ H1 hi ⟨rfl, hs⟩ hA hl1 ⟨rfl, hx⟩
      obtain ⟨q, y, rfl, hy, hq⟩ := ArS.get (hM.as.same hs) hx
      refine ⟨rfl, _, rfl, q, _, 1, _, rfl, rfl, SqT.of hq, rfl, LcP.put (fun i acc H' o h => ⟨h.1, same_mut h.2 hD⟩) hA hl1 (by omega) ⟨?_, hs⟩⟩
      rw [List.take_add_one, hy, List.map_append]
      rfl
    · rintro acc H1 ⟨rfl, hs⟩ hA hl1
      rw [ul, List.take_length] at hA
      have hA' : SqL K H1 D ((xs.map Arw.l).map V.str) := by
        refine SqL.of (hA.trans ?_)
        rw [List.map_map]
        rfl
      refine ⟨D, xs.map Arw.l, rfl, hA', by rw [List.length_map]; omega, fun q os H2 hq h2 hm hlen s2 => ?_⟩
      refine k q os H2 (hs.free hq) h2 (fun z => ?_) hlen.2 (hs.trans s2)
      rw [hm, List.mem_map]
      exact ⟨fun ⟨x, hx, e⟩ => ⟨x, hx, e.symm⟩, fun ⟨x, hx, e⟩ => ⟨x, hx, e.symm⟩⟩
end
end Pf
namespace Pf
open PySem PySem.Spec PyProof.Rows L2 Bz
local macro_rules | `(tactic| walk_at "sd") => `(tactic| first
  | rfl | assumption | omega | exact Nat.le_of_ble_eq_true rfl | decide | (refine Or.inl (And.intro ?_ ?_) <;> omega) | (refine Or.inr (And.intro ?_ ?_) <;> omega) | (refine And.intro ?_ ?_ <;> omega) | (refine ⟨?_, ?_, ?_⟩ <;> omega))
local macro_rules | `(tactic| walk_at "sq") => `(tactic| first | assumption | exact SqL.of (by assumption) | exact SqT.of (by assumption) | exact SqL.of upd_same | exact SqT.of upd_same)
local macro_rules | `(tactic| walk_at "hp") => `(tactic| first | assumption | exact upd_same)
local macro_rules | `(tactic| walk_at "rd") => `(tactic| repeat (first
  | (refine ⟨_, rfl, ?_⟩) | (refine ⟨_, _, rfl, rfl, ?_⟩) | (refine ⟨rfl, ?_⟩) | (refine And.intro (by walk_at "sd") ?_)
  | (refine ⟨_, _, _, _, rfl, rfl, (by walk_at "sq"), rfl, ?_⟩)
  | (refine ⟨_, _, _, _, rfl, rfl, (by walk_at "hp"), rfl, ?_⟩)
  | (refine Or.inl ⟨_, rfl, ?_⟩)))
end Pf
namespace Pf
open PySem PySem.Spec PyProof.Rows L2 Bz
local macro_rules | `(tactic| walk_at "sd") => `(tactic| first
  | rfl | assumption | omega | exact Nat.le_of_ble_eq_true rfl | decide | (refine Or.inl (And.intro ?_ ?_) <;> omega) | (refine Or.inr (And.intro ?_ ?_) <;> omega) | (refine And.intro ?_ ?_ <;> omega) | (refine ⟨?_, ?_, ?_⟩ <;> omega))
local macro_rules | `(tactic| walk_at "sq") => `(tactic| first | assumption | exact SqL.of (by assumption) | exact SqT.of (by assumption) | exact SqL.of upd_same | exact SqT.of upd_same)
local macro_rules | `(tactic| walk_at "hp") => `(tactic| first | assumption | exact upd_same)
local macro_rules | `(tactic| walk_at "rd") => `(tactic| repeat (first
  | (refine ⟨_, rfl, ?_⟩) | (refine ⟨_, _, rfl, rfl, ?_⟩) | (refine ⟨rfl, ?_⟩) | (refine And.intro (by walk_at "sd") ?_)
  | (refine ⟨_, _, _, _, rfl, rfl, (by walk_at "sq"), rfl, ?_⟩)
  | (refine ⟨_, _, _, _, rfl, rfl, (by walk_at "hp"), rfl, ?_⟩)
  | (refine Or.inl ⟨_, rfl, ?_⟩)))
section
variable {P : Program} {w : World} {K : PySem.W.Frag} {mg : PySem.Str → Option Value} {base : Heap} {kl : Cl}
theorem ok__law_rows (T : Facts K mg kl) : Keeps P w K mg base CX0 1 "_law_rows" ["_law_signs", "_law_most"] (spRowsO K) := by
  refine keeps0 T.d__law_rows sc__law_rows (fun vs H Q E h => ?_) (fun f cdv A outer s H vs Q E hr h => ?_)
  · obtain ⟨a, ls, n, rfl, _⟩ := h
    rfl
  · obtain ⟨a, ls, n, rfl, ha, hL, l2, n6, k⟩ := h
    refine ⟨_, (pss_cons (ps_par (i := 2) (j := 3) (by rfl) sc__law_rows.nd rfl rfl (by decide) rfl rfl (pa_cons (pe_lst (pa_cons pe_str pa_nil)) (pa_cons (pe_lst (pa_cons pe_str pa_nil)) pa_nil)) (by rfl))
  (pss_cons (ps_for PassesOwn.never rfl (pi_range1 (by rfl) T.b_range (pa_cons (pv 1) pa_nil)) (pg_name (i := 4) sc__law_rows.nd rfl (Or.inl rfl))
  (pss_cons (ps_set (i := 5) sc__law_rows.nd rfl (Or.inl rfl) (pe_lst pa_nil))
  (pss_cons (ps_for PassesOwn.never rfl (kpi_list K (pv 3)) (pg_name (i := 6) sc__law_rows.nd rfl (Or.inr rfl))
  (pss_one (ps_expr (kbm K PySem.F.plainAttrs_list PySem.F.slot_list_extend PySem.F.type_list_extend mt_extend (pv 5) (pa_cons (pe_lc (own := [("_law_letter", 7)]) (g := gName 7) (tt := tYes) rfl sc__law_rows.nd (kpi_list K (pv 0)) (blkOk_by (own := [("_law_letter", 7)]) (N := N__law_rows) (sc := defScope s__law_rows) (by decide +kernel)) (fun _ _ _ _ _ => (pg_name (i := 7) sc__law_rows.nd rfl (Or.inl rfl))) (fun _ _ _ _ _ => pts_nil) (fun _ _ _ _ _ => (pe_op op_add_str (pv 6) (pv 7)))) pa_nil)))))
  (pss_one (ps_par (i := 2) (j := 3) (by rfl) sc__law_rows.nd rfl rfl (by decide) rfl rfl (pa_cons (pe_op op_cat (pv 2) (pv 5)) (pa_cons (pv 5) pa_nil)) (by rfl))))))
  (pss_one (ps_ret (pv 2))))), ?_⟩
    refine ⟨Nat.le_of_ble_eq_true rfl, fun p hp => ⟨Nat.le_of_ble_eq_true rfl, fun q hq => ⟨_, _, rfl, ?_⟩⟩⟩
    have npq : p ≠ q := ne_of_none upd_same hq
    have s1 : Same H (upd (upd H p (.lst [.str ""])) q (.lst [.str ""])) := (same_new hp).trans (same_new hq)
    have e0 : ([""] : List PySem.Str).map sgnL = [[]] := by decide +kernel
    refine ⟨_, rfl, (n : Int), rfl, by omega, by omega, for_range (lo := 0) (n := ((n : Nat) : Int).toNat) (fun i σ H' => ∃ (v4 v5 v6 : Option V) (p q : Addr) (fs lv : List PySem.Str), σ = [some (.ref a), some (.int n), some (.ref p), some (.ref q), v4, v5, v6, none] ∧ H p = none ∧
      H' p = some (.lst (fs.map V.str)) ∧ H' q = some (.lst (lv.map V.str)) ∧ fs.map sgnL = allW ls i ∧ lv.map sgnL = wordsN ls i ∧ fs.length ≤ 1 + 4096 * i ∧ Same H H') ?_ ?_ ?_⟩
    · exact ⟨_, _, _, p, q, [""], [""], rfl, hp, (upd_ne npq).trans upd_same, upd_same, e0, e0, by decide, s1⟩
    · rintro i σ H2 hi ⟨v4, v5, v6, p, q, fs, lv, rfl, hp0, h1, h2, hf, hv, fsl, hs⟩
      have lvl : lv.length ≤ 4096 := by
        have := congrArg List.length hv
        rw [List.length_map, wordsN_len] at this
        rw [this]
        exact Nat.le_trans (Nat.pow_le_pow_left l2 i) (Nat.le_trans (Nat.pow_le_pow_right (by decide) (show i ≤ 6 by omega)) (by decide))
      refine ⟨Nat.zero_le _, fun l hl => ?_⟩
      have nql : q ≠ l := ne_of_none h2 hl
      have s3 : Same H2 (upd H2 l (.lst [])) := same_new hl
      refine ⟨_, rfl, q, rfl, ⟨_, SqL.of (s3 _ _ h2)⟩, for_list (K := K) (a := q) (xs := lv.map V.str) (fun j σ H' => ∃ (v6 : Option V) (lo : List PySem.Str), σ = [some (.ref a), some (.int n), some (.ref p), some (.ref q), some (.int (0 + (i : Nat))), some (.ref l), v6, none] ∧
        H' l = some (.lst (lo.map V.str)) ∧ lo.map sgnL = ((lv.take j).map sgnL).flatMap (fun w => ls.map fun l => w ++ [l]) ∧ lo.length ≤ j * 4 ∧ Same H2 H') ⟨_, [], rfl, upd_same, rfl, Nat.zero_le _, s3⟩ (fun j σ H' _ ⟨_, _, _, _, _, _, h⟩ => SqL.of (h _ _ h2)) ?_ ?_⟩
      · rintro j y σ H3 hj ⟨v6, lo, rfl, h3, hlo, lol, hs3⟩
        obtain ⟨r, rfl, hr⟩ := map_str hj
        have hj' : j < lv.length := (List.getElem?_eq_some_iff.mp hr).1
        have rl : r.length ≤ 6 := by
          have hm : sgnL r ∈ wordsN ls i := by
            rw [← hv]
            exact List.mem_map.mpr ⟨r, List.mem_of_getElem? hr, rfl⟩
          have := (mem_wordsN.mp hm).1
          rw [sgn_len] at this
          omega
        refine ⟨_, rfl, .inl ⟨rfl, _, SqL.of h3⟩, ?_⟩
        refine ⟨_, rfl, a, rfl, ⟨_, (hs.trans hs3).seq ha⟩, fun D hD => lcA walk_list (fun i acc H' => acc = (ls.take i).map (fun z => V.str (r ++ z)) ∧ Same H3 H') ⟨rfl, .refl _⟩ (fun i acc H' o h => ⟨h.1, same_mut h.2 hD⟩) (fun i acc H' _ h => ((hs.trans hs3).trans h.2).seq ha) ?_ ?_⟩
        · rintro b x acc _ H4 hb ⟨rfl, h4⟩ hA hl4 ⟨rfl, hx⟩
          obtain ⟨z, rfl, hz⟩ := map_str hx
          rw [List.length_map] at hb
          have z1 := (hL z (List.mem_of_getElem? hz)).1
          refine ⟨rfl, _, rfl, _, rfl, _, _, rfl, rfl, Evl.sz_of (by omega), LcP.put (fun i acc H' o h => ⟨h.1, same_mut h.2 hD⟩) hA hl4 (by omega) ⟨?_, h4⟩⟩
          rw [List.take_add_one, hz, List.map_append]
          rfl
        · rintro acc H4 ⟨rfl, h4⟩ hA hl4
          rw [List.length_map, List.take_length] at hA
          refine ⟨l, D, lo.map V.str, _, rfl, rfl, h4 _ _ h3, hA, Evl.sz_of (by rw [List.length_map, List.length_map]; omega), ?_⟩
          refine ⟨_, lo ++ ls.map (fun z => r ++ z), rfl, ?_, ?_, ?_, same_mut (hs3.trans h4) hl⟩
          · rw [List.map_append, List.map_map]
            exact upd_same
          · rw [List.map_append, hlo, List.take_add_one, hr, Option.toList_some, List.map_append, List.flatMap_append, List.map_map]
            congr 1
            simp only [List.map_cons, List.map_nil, List.flatMap_cons, List.flatMap_nil, List.append_nil]
            refine List.map_congr_left fun z hz => ?_
            exact sgn_snoc (hL z hz)
          · rw [List.length_append, List.length_map]
            omega
      · rintro σ H3 ⟨v6, lo, rfl, h3, hlo, lol, hs3⟩
        rw [List.length_map, List.take_length, hv] at hlo
        rw [List.length_map] at lol
        have hlo' : lo.map sgnL = wordsN ls (i + 1) := hlo
        have lo64 : lo.length ≤ 4096 := by
          have := congrArg List.length hlo'
          rw [List.length_map, wordsN_len] at this
          rw [this]
          exact Nat.le_trans (Nat.pow_le_pow_left l2 _) (Nat.le_trans (Nat.pow_le_pow_right (by decide) (show i + 1 ≤ 6 by omega)) (by decide))
        refine ⟨_, rfl, _, rfl, p, l, _, _, rfl, rfl, hs3 _ _ h1, h3, Evl.sz_of (by rw [List.length_map, List.length_map]; omega), fun t ht => ⟨_, rfl, _, _, rfl, ?_⟩⟩
        have nlt : l ≠ t := ne_of_none h3 ht
        refine ⟨_, _, _, t, l, fs ++ lo, lo, rfl, (hs.trans hs3).free ht, by rw [List.map_append]; exact upd_same, (upd_ne nlt).trans h3, ?_, hlo', by rw [List.length_append]; omega, (hs.trans hs3).trans (same_new ht)⟩
        rw [List.map_append, hf, hlo']
        rfl
    · rintro σ H2 ⟨v4, v5, v6, p, q, fs, lv, rfl, hp0, h1, h2, hf, hv, fsl, hs⟩
      have e : ((n : Nat) : Int).toNat = n := Int.toNat_natCast n
      rw [e] at hf
      exact ⟨_, rfl, k p fs H2 hp0 h1 hf hs⟩
end
end Pf
namespace Pf
open PySem PySem.Spec PyProof.Rows L2 Bz
local macro_rules | `(tactic| walk_at "sd") => `(tactic| first
  | rfl | assumption | omega | exact Nat.le_of_ble_eq_true rfl | decide | (refine Or.inl (And.intro ?_ ?_) <;> omega) | (refine Or.inr (And.intro ?_ ?_) <;> omega) | (refine And.intro ?_ ?_ <;> omega) | (refine ⟨?_, ?_, ?_⟩ <;> omega))
local macro_rules | `(tactic| walk_at "sq") => `(tactic| first | assumption | exact SqL.of (by assumption) | exact SqT.of (by assumption) | exact SqL.of upd_same | exact SqT.of upd_same)
local macro_rules | `(tactic| walk_at "hp") => `(tactic| first | assumption | exact upd_same)
local macro_rules | `(tactic| walk_at "rd") => `(tactic| repeat (first
  | (refine ⟨_, rfl, ?_⟩) | (refine ⟨_, _, rfl, rfl, ?_⟩) | (refine ⟨rfl, ?_⟩) | (refine And.intro (by walk_at "sd") ?_)
  | (refine ⟨_, _, _, _, rfl, rfl, (by walk_at "sq"), rfl, ?_⟩)
  | (refine ⟨_, _, _, _, rfl, rfl, (by walk_at "hp"), rfl, ?_⟩)
  | (refine Or.inl ⟨_, rfl, ?_⟩)))
section
variable {P : Program} {w : World} {K : PySem.W.Frag} {mg : PySem.Str → Option Value} {base : Heap} {kl : Cl}
theorem ok__law_ahead (T : Facts K mg kl) : Keeps P w K mg base CX0 1 "_law_ahead" ["_law_arrows_here", "_law_ends", "_law_row_here"] (spAheadL K) := by
  refine keeps0 T.d__law_ahead sc__law_ahead (fun vs H Q E h => ?_) (fun f cdv A outer s H vs Q E hr h => ?_)
  · obtain ⟨a, t, us, xs, es, row, rfl, _⟩ := h
    rfl
  · obtain ⟨a, t, us, xs, es, row, rfl, ha, hA, xl, ht, el, rl, k⟩ := h
    refine ⟨_, (pss_cons (ps_set (i := 4) sc__law_ahead.nd rfl (Or.inl rfl) (pe_callTy (kdictP K rfl) (by rfl) T.b_dict (by decide +kernel) (pa_cons (pe_lc (own := [("_law_state", 3)]) (g := gName 3) (tt := tYes) rfl sc__law_ahead.nd (pi_or (kpi_list K (pv 1)) (kpi_tup K (pv 1))) (blkOk_by (own := [("_law_state", 3)]) (N := N__law_ahead) (sc := defScope s__law_ahead) (by decide +kernel)) (fun _ _ _ _ _ => (pg_name (i := 3) sc__law_ahead.nd rfl (Or.inl rfl))) (fun _ _ _ _ _ => pts_nil) (fun _ _ _ _ _ => (pe_tup (pa_cons (pv 3) (pa_cons pe_int pa_nil))))) pa_nil)))
  (pss_cons (ps_for PassesOwn.never rfl (pi_str (pe_revS (pv 2))) (pg_name (i := 5) sc__law_ahead.nd rfl (Or.inl rfl))
  (pss_cons (ps_set (i := 6) sc__law_ahead.nd rfl (Or.inl rfl) pe_dnewK)
  (pss_cons (ps_for PassesOwn.never rfl (pi_or (kpi_list K (pv 0)) (kpi_tup K (pv 0))) (kpg_tup K rfl (pgs_cons (pg_name (i := 3) sc__law_ahead.nd rfl (Or.inl rfl)) (pgs_cons (pg_name (i := 7) sc__law_ahead.nd rfl (Or.inl rfl)) (pgs_cons (pg_name (i := 8) sc__law_ahead.nd rfl (Or.inl rfl)) (pgs_cons (pg_name (i := 9) sc__law_ahead.nd rfl (Or.inl rfl)) pgs_nil)))))
  (pss_one (ps_if (PW.pt (pw_and (pt_cmpR op_eq (pv 7) (pv 5) (nomark _)) (pw_and1 (pt_cmp (pc_din (hu_of hr) (pv 8) (pv 4))))))
  (pss_cons (ps_set (i := 10) sc__law_ahead.nd rfl (Or.inl rfl) (pe_op op_add (pe_dget (hu_of hr) (pv 4) (pv 8) (fun _ _ => rfl)) (pv 9)))
  (pss_one (ps_dput (hu_of hr) (pv 6) (pv 3) (pe_callB (call_min2 rfl) (by rfl) T.b_min (by decide +kernel) (pa_cons (pv 10) (pa_cons (pe_dget2 (hu_of hr) (pv 6) (pv 3) (pv 10) ⟨rfl, rfl, rfl, rfl⟩) pa_nil))) rfl)))
  pss_nil)))
  (pss_one (ps_set (i := 4) sc__law_ahead.nd rfl (Or.inl rfl) (pv 6))))))
  (pss_one (ps_ret (pv 4))))), ?_⟩
    have ul : us.length = xs.length := Paired.length hA
    rcases ht with ht | ht
    · refine .inl ⟨_, rfl, t, rfl, ⟨_, ht⟩, fun D hD => lcA walk_list (fun i acc H' => (∃ ps : List Addr, acc = ps.map V.ref ∧ Paired (fun p e => p ≠ D ∧ H' p = some (.tup [.str e, .int 0])) ps (es.take i)) ∧ Same H H') ⟨⟨[], rfl, .nil⟩, .refl _⟩ (fun i acc H' o ⟨⟨ps, h1, h2⟩, h3⟩ => ⟨⟨ps, h1, Paired.mapP h2 fun p e ⟨n, q⟩ => ⟨n, (upd_ne n).trans q⟩⟩, same_mut h3 hD⟩) (fun i acc H' _ h => Same.seq h.2 ht) ?_ ?_⟩
      · rintro i x acc _ H1 hi ⟨⟨ps, rfl, hp⟩, hs⟩ hB hl1 ⟨rfl, hx⟩
        obtain ⟨u, rfl, hu⟩ := map_str hx
        rw [List.length_map] at hi
        refine ⟨rfl, _, rfl, Nat.le_of_ble_eq_true rfl, fun g hg => ?_⟩
        have s2 : Same H1 (upd H1 g (.tup [.str u, .int 0])) := same_new hg
        have ng : g ≠ D := fun z => by
          rw [z, hB] at hg
          cases hg
        refine LcP.put (fun i acc H' o ⟨⟨ps, h1, h2⟩, h3⟩ => ⟨⟨ps, h1, Paired.mapP h2 fun p e ⟨n, q⟩ => ⟨n, (upd_ne n).trans q⟩⟩, same_mut h3 hD⟩) (s2 _ _ hB) hl1 (by omega) ⟨⟨ps ++ [g], by rw [List.map_append]; rfl, ?_⟩, hs.trans s2⟩
        rw [List.take_add_one, hu]
        exact paired_snoc (Paired.mapP hp fun p e ⟨n, q⟩ => ⟨n, s2 _ _ q⟩) ⟨ng, upd_same⟩
      · rintro acc H1 ⟨⟨ps, rfl, hp⟩, hs⟩ hB hl1
        rw [List.length_map, List.take_length] at hp
        refine ⟨D, ps, _, rfl, SqL.of hB, paired_zero hp, fun d hd => ?_⟩
        have sd : Same H (upd H1 d (.dK (mergeK [] (es.map fun e => ((.inr e : Ky), V.int 0))))) := hs.trans (same_new hd)
        refine ⟨_, rfl, row, rfl, Evl.sz_of (by omega), revS row, rfl, for_it walk_str (fun i σ H' => ∃ (v3 v5 v6 v7 v8 v9 v10 : Option V) (d : Addr) (kvs : List (Ky × V)) (f : PySem.Str → Option Int), σ = [some (.ref a), some (.ref t), some (.str row), v3, some (.ref d), v5, v6, v7, v8, v9, v10] ∧
          H' d = some (.dK kvs) ∧ Holds1 kvs f ∧ (∀ q, LeastO (Rch (xs.map swapA) es ((sgnL row).reverse.take i) q) (f q)) ∧ Same H H') ?_ (fun _ _ _ _ _ => trivial) ?_ ?_⟩
        · exact ⟨_, _, _, _, _, _, _, d, _, _, rfl, upd_same, holds_zero _ es rfl, fun q => lpr_nil q, sd⟩
        · rintro i x σ _ H3 hi ⟨v3, v5, v6, v7, v8, v9, v10, d, kvs, f, rfl, h3, hF, hL, s3⟩ ⟨rfl, c, hc, rfl⟩
          have hci : (sgnL row).reverse[i]? = some (⟨#[c]⟩ : PySem.Str) := by
            rw [← sgnL_revS]
            exact sgnL_at hc
          refine fun r hr0 => ?_
          have s4 : Same H3 (upd H3 r (.dK [])) := same_new hr0
          rcases ha with ha | ha
          · refine .inl ⟨_, rfl, a, rfl, ⟨_, Same.seq (s3.trans s4) ha⟩, for_list (K := K) (a := a) (xs := us) (fun j σ H' => ∃ (v3 v7 v8 v9 v10 : Option V) (ws : List (Ky × V)), σ = [some (.ref a), some (.ref t), some (.str row), v3, some (.ref d), some (.str ⟨#[c]⟩), some (.ref r), v7, v8, v9, v10] ∧ H' r = some (.dK ws) ∧ Same H3 H' ∧
              Holds1 ws (adv f ((((xs.take j).filter fun x => decide (x.l = (⟨#[c]⟩ : PySem.Str))).map mvOf).map swapM)) ∧ ws.length ≤ j) ?_ (fun j σ H' _ ⟨_, _, _, _, _, _, _, _, hs, _⟩ => Same.seq (s3.trans hs) ha) ?_ ?_⟩
            · exact ⟨_, _, _, _, _, [], rfl, upd_same, s4, fun q => rfl, Nat.le_refl _⟩
            · rintro j y σ H4 hj ⟨v3, v7, v8, v9, v10, ws, rfl, h4, hs4, hw, hlen⟩
              obtain ⟨q, x, rfl, hx, hq⟩ := ArS.get (hA.same (s3.trans hs4)) hj
              have hj' : j < us.length := (List.getElem?_eq_some_iff.mp hj).1
              have tk : xs.take (j + 1) = xs.take j ++ [x] := by rw [List.take_add_one, hx]; rfl
              refine ⟨q, _, rfl, SqT.of hq, rfl, _, _, rfl, _, _, rfl, _, _, rfl, _, _, rfl, rfl, ?_⟩
              refine ⟨_, rfl, _, rfl, rfl, _, rfl, ite2 (fun hcc => ?_) (fun hcc => ?_)⟩
              · have el2 : x.l = (⟨#[c]⟩ : PySem.Str) := V.str.inj (of_decide_eq_true hcc)
                have flt : (((xs.take (j + 1)).filter fun x => decide (x.l = (⟨#[c]⟩ : PySem.Str))).map mvOf).map swapM = (((xs.take j).filter fun x => decide (x.l = (⟨#[c]⟩ : PySem.Str))).map mvOf).map swapM ++ [swapM (mvOf x)] := by
                  rw [tk, List.filter_append, List.filter_cons_of_pos (by simpa using el2), List.map_append, List.map_append]
                  rfl
                have gu : DGet H4 d (.str x.t) (valV kvs (.inr x.t)) := DGet.k (k := .inr x.t) (hs4 _ _ h3)
                have eu := hF x.t
                refine ⟨_, rfl, _, rfl, d, _, rfl, gu, ?_⟩
                cases hgu : f x.t with
                | none =>
                  rw [hgu] at eu
                  rw [eu]
                  refine ⟨_, rfl, iteF ⟨_, _, _, _, _, ws, rfl, h4, hs4, ?_, by omega⟩⟩
                  rw [flt, adv_snoc]
                  unfold advS
                  rw [show f (swapM (mvOf x)).1 = none from hgu]
                  exact hw
                | some n =>
                  rw [hgu] at eu
                  rw [eu] at gu ⊢
                  refine ⟨_, rfl, iteT ?_⟩
                  refine ⟨_, rfl, _, rfl, d, .int n, rfl, gu, _, rfl, _, _, rfl, rfl, ?_⟩
                  have g2 : DGet H4 r (.str x.s) (valV ws (.inr x.s)) := DGet.k (k := .inr x.s) h4
                  refine ⟨_, rfl, _, rfl, r, rfl, .inl ⟨_, .inl h4⟩, _, rfl, _, rfl, _, g2, ?_⟩
                  have e2 : (valV ws (.inr x.s)).getD (V.int (n + x.c)) = .int ((adv f ((((xs.take j).filter fun x => decide (x.l = (⟨#[c]⟩ : PySem.Str))).map mvOf).map swapM) x.s).getD (n + x.c)) := by
                    rw [hw x.s]
                    cases adv f ((((xs.take j).filter fun x => decide (x.l = (⟨#[c]⟩ : PySem.Str))).map mvOf).map swapM) x.s <;> rfl
                  refine ⟨_, _, congrArg (fun z => [V.int (n + x.c), z]) e2, ?_⟩
                  generalize hg : adv f ((((xs.take j).filter fun x => decide (x.l = (⟨#[c]⟩ : PySem.Str))).map mvOf).map swapM) = g at hw flt ⊢
                  have dp : DPut H4 r (.str x.s) (.int (if (g x.s).getD (n + x.c) < n + x.c then (g x.s).getD (n + x.c) else n + x.c)) _ := DPut.k (k := .inr x.s) h4 (Nat.lt_of_le_of_lt hlen (Nat.lt_of_lt_of_le (show j < 1000 by omega) (by decide)))
                  refine ⟨_, rfl, _, rfl, r, _, rfl, dp, ?_⟩
                  refine ⟨_, _, _, _, _, _, rfl, upd_same, same_mut hs4 hr0, fun k => ?_, ?_⟩
                  · rw [valV_put, flt, adv_snoc, hg]
                    unfold advS
                    rw [show f (swapM (mvOf x)).1 = some n from hgu]
                    simp only
                    by_cases e : k = x.s
                    · rw [e, if_pos rfl, if_pos (show x.s = (swapM (mvOf x)).2.1 from rfl)]
                      rfl
                    · rw [if_neg (fun z => e (Sum.inr.inj z)), if_neg (show ¬ k = (swapM (mvOf x)).2.1 from e)]
                      exact hw k
                  · have := length_putK ws (.inr x.s) (.int (if (g x.s).getD (n + x.c) < n + x.c then (g x.s).getD (n + x.c) else n + x.c))
                    omega
              · have el2 : x.l ≠ (⟨#[c]⟩ : PySem.Str) := fun e => hcc (decide_eq_true (by rw [e]))
                refine iteF ⟨_, _, _, _, _, ws, rfl, h4, hs4, ?_, by omega⟩
                rw [tk, List.filter_append, List.filter_cons_of_neg (by simpa using el2)]
                simpa using hw
            · rintro σ H4 ⟨v3, v7, v8, v9, v10, ws, rfl, h4, hs4, hw, hlen⟩
              rw [ul, List.take_length] at hw
              refine ⟨_, rfl, _, _, _, _, _, _, _, r, ws, _, rfl, h4, hw, fun q => ?_, s3.trans hs4⟩
              rw [swap_moves, List.take_add_one, hci]
              exact adv_reach hL q
          · refine .inr ⟨_, rfl, a, rfl, ⟨_, sqt_same (s3.trans s4) ha⟩, for_tup (K := K) (a := a) (xs := us) (fun j σ H' => ∃ (v3 v7 v8 v9 v10 : Option V) (ws : List (Ky × V)), σ = [some (.ref a), some (.ref t), some (.str row), v3, some (.ref d), some (.str ⟨#[c]⟩), some (.ref r), v7, v8, v9, v10] ∧ H' r = some (.dK ws) ∧ Same H3 H' ∧
              Holds1 ws (adv f ((((xs.take j).filter fun x => decide (x.l = (⟨#[c]⟩ : PySem.Str))).map mvOf).map swapM)) ∧ ws.length ≤ j) ?_ (fun j σ H' _ ⟨_, _, _, _, _, _, _, _, hs, _⟩ => sqt_same (s3.trans hs) ha) ?_ ?_⟩
            · exact ⟨_, _, _, _, _, [], rfl, upd_same, s4, fun q => rfl, Nat.le_refl _⟩
            · rintro j y σ H4 hj ⟨v3, v7, v8, v9, v10, ws, rfl, h4, hs4, hw, hlen⟩
              obtain ⟨q, x, rfl, hx, hq⟩ := ArS.get (hA.same (s3.trans hs4)) hj
              have hj' : j < us.length := (List.getElem?_eq_some_iff.mp hj).1
              have tk : xs.take (j + 1) = xs.take j ++ [x] := by rw [List.take_add_one, hx]; rfl
              refine ⟨q, _, rfl, SqT.of hq, rfl, _, _, rfl, _, _, rfl, _, _, rfl, _, _, rfl, rfl, ?_⟩
              refine ⟨_, rfl, _, rfl, rfl, _, rfl, ite2 (fun hcc => ?_) (fun hcc => ?_)⟩
              · have el2 : x.l = (⟨#[c]⟩ : PySem.Str) := V.str.inj (of_decide_eq_true hcc)
                have flt : (((xs.take (j + 1)).filter fun x => decide (x.l = (⟨#[c]⟩ : PySem.Str))).map mvOf).map swapM = (((xs.take j).filter fun x => decide (x.l = (⟨#[c]⟩ : PySem.Str))).map mvOf).map swapM ++ [swapM (mvOf x)] := by
                  rw [tk, List.filter_append, List.filter_cons_of_pos (by simpa using el2), List.map_append, List.map_append]
                  rfl
                have gu : DGet H4 d (.str x.t) (valV kvs (.inr x.t)) := DGet.k (k := .inr x.t) (hs4 _ _ h3)
                have eu := hF x.t
                refine ⟨_, rfl, _, rfl, d, _, rfl, gu, ?_⟩
                cases hgu : f x.t with
                | none =>
                  rw [hgu] at eu
                  rw [eu]
                  refine ⟨_, rfl, iteF ⟨_, _, _, _, _, ws, rfl, h4, hs4, ?_, by omega⟩⟩
                  rw [flt, adv_snoc]
                  unfold advS
                  rw [show f (swapM (mvOf x)).1 = none from hgu]
                  exact hw
                | some n =>
                  rw [hgu] at eu
                  rw [eu] at gu ⊢
                  refine ⟨_, rfl, iteT ?_⟩
                  refine ⟨_, rfl, _, rfl, d, .int n, rfl, gu, _, rfl, _, _, rfl, rfl, ?_⟩
                  have g2 : DGet H4 r (.str x.s) (valV ws (.inr x.s)) := DGet.k (k := .inr x.s) h4
                  refine ⟨_, rfl, _, rfl, r, rfl, .inl ⟨_, .inl h4⟩, _, rfl, _, rfl, _, g2, ?_⟩
                  have e2 : (valV ws (.inr x.s)).getD (V.int (n + x.c)) = .int ((adv f ((((xs.take j).filter fun x => decide (x.l = (⟨#[c]⟩ : PySem.Str))).map mvOf).map swapM) x.s).getD (n + x.c)) := by
                    rw [hw x.s]
                    cases adv f ((((xs.take j).filter fun x => decide (x.l = (⟨#[c]⟩ : PySem.Str))).map mvOf).map swapM) x.s <;> rfl
                  refine ⟨_, _, congrArg (fun z => [V.int (n + x.c), z]) e2, ?_⟩
                  generalize hg : adv f ((((xs.take j).filter fun x => decide (x.l = (⟨#[c]⟩ : PySem.Str))).map mvOf).map swapM) = g at hw flt ⊢
                  have dp : DPut H4 r (.str x.s) (.int (if (g x.s).getD (n + x.c) < n + x.c then (g x.s).getD (n + x.c) else n + x.c)) _ := DPut.k (k := .inr x.s) h4 (Nat.lt_of_le_of_lt hlen (Nat.lt_of_lt_of_le (show j < 1000 by omega) (by decide)))
                  refine ⟨_, rfl, _, rfl, r, _, rfl, dp, ?_⟩
                  refine ⟨_, _, _, _, _, _, rfl, upd_same, same_mut hs4 hr0, fun k => ?_, ?_⟩
                  · rw [valV_put, flt, adv_snoc, hg]
                    unfold advS
                    rw [show f (swapM (mvOf x)).1 = some n from hgu]
                    simp only
                    by_cases e : k = x.s
                    · rw [e, if_pos rfl, if_pos (show x.s = (swapM (mvOf x)).2.1 from rfl)]
                      rfl
                    · rw [if_neg (fun z => e (Sum.inr.inj z)), if_neg (show ¬ k = (swapM (mvOf x)).2.1 from e)]
                      exact hw k
                  · have := length_putK ws (.inr x.s) (.int (if (g x.s).getD (n + x.c) < n + x.c then (g x.s).getD (n + x.c) else n + x.c))
                    omega
              · have el2 : x.l ≠ (⟨#[c]⟩ : PySem.Str) := fun e => hcc (decide_eq_true (by rw [e]))
                refine iteF ⟨_, _, _, _, _, ws, rfl, h4, hs4, ?_, by omega⟩
                rw [tk, List.filter_append, List.filter_cons_of_neg (by simpa using el2)]
                simpa using hw
            · rintro σ H4 ⟨v3, v7, v8, v9, v10, ws, rfl, h4, hs4, hw, hlen⟩
              rw [ul, List.take_length] at hw
              refine ⟨_, rfl, _, _, _, _, _, _, _, r, ws, _, rfl, h4, hw, fun q => ?_, s3.trans hs4⟩
              rw [swap_moves, List.take_add_one, hci]
              exact adv_reach hL q
        · rintro σ H3 ⟨v3, v5, v6, v7, v8, v9, v10, d, kvs, f, rfl, h3, hF, hL, s3⟩
          have e1 : (revS row).cps.size = (sgnL row).reverse.length := by rw [List.length_reverse, sgnL_len]; exact revS_len row
          rw [e1, List.take_length] at hL
          exact ⟨_, rfl, k d kvs f H3 h3 hF hL s3⟩
    · refine .inr ⟨_, rfl, t, rfl, ⟨_, ht⟩, fun D hD => lcA walk_tup (fun i acc H' => (∃ ps : List Addr, acc = ps.map V.ref ∧ Paired (fun p e => p ≠ D ∧ H' p = some (.tup [.str e, .int 0])) ps (es.take i)) ∧ Same H H') ⟨⟨[], rfl, .nil⟩, .refl _⟩ (fun i acc H' o ⟨⟨ps, h1, h2⟩, h3⟩ => ⟨⟨ps, h1, Paired.mapP h2 fun p e ⟨n, q⟩ => ⟨n, (upd_ne n).trans q⟩⟩, same_mut h3 hD⟩) (fun i acc H' _ h => sqt_same h.2 ht) ?_ ?_⟩
      · rintro i x acc _ H1 hi ⟨⟨ps, rfl, hp⟩, hs⟩ hB hl1 ⟨rfl, hx⟩
        obtain ⟨u, rfl, hu⟩ := map_str hx
        rw [List.length_map] at hi
        refine ⟨rfl, _, rfl, Nat.le_of_ble_eq_true rfl, fun g hg => ?_⟩
        have s2 : Same H1 (upd H1 g (.tup [.str u, .int 0])) := same_new hg
        have ng : g ≠ D := fun z => by
          rw [z, hB] at hg
          cases hg
        refine LcP.put (fun i acc H' o ⟨⟨ps, h1, h2⟩, h3⟩ => ⟨⟨ps, h1, Paired.mapP h2 fun p e ⟨n, q⟩ => ⟨n, (upd_ne n).trans q⟩⟩, same_mut h3 hD⟩) (s2 _ _ hB) hl1 (by omega) ⟨⟨ps ++ [g], by rw [List.map_append]; rfl, ?_⟩, hs.trans s2⟩
        rw [List.take_add_one, hu]
        exact paired_snoc (Paired.mapP hp fun p e ⟨n, q⟩ => ⟨n, s2 _ _ q⟩) ⟨ng, upd_same⟩
      · rintro acc H1 ⟨⟨ps, rfl, hp⟩, hs⟩ hB hl1
        rw [List.length_map, List.take_length] at hp
        refine ⟨D, ps, _, rfl, SqL.of hB, paired_zero hp, fun d hd => ?_⟩
        have sd : Same H (upd H1 d (.dK (mergeK [] (es.map fun e => ((.inr e : Ky), V.int 0))))) := hs.trans (same_new hd)
        refine ⟨_, rfl, row, rfl, Evl.sz_of (by omega), revS row, rfl, for_it walk_str (fun i σ H' => ∃ (v3 v5 v6 v7 v8 v9 v10 : Option V) (d : Addr) (kvs : List (Ky × V)) (f : PySem.Str → Option Int), σ = [some (.ref a), some (.ref t), some (.str row), v3, some (.ref d), v5, v6, v7, v8, v9, v10] ∧
          H' d = some (.dK kvs) ∧ Holds1 kvs f ∧ (∀ q, LeastO (Rch (xs.map swapA) es ((sgnL row).reverse.take i) q) (f q)) ∧ Same H H') ?_ (fun _ _ _ _ _ => trivial) ?_ ?_⟩
        · exact ⟨_, _, _, _, _, _, _, d, _, _, rfl, upd_same, holds_zero _ es rfl, fun q => lpr_nil q, sd⟩
        · rintro i x σ _ H3 hi ⟨v3, v5, v6, v7, v8, v9, v10, d, kvs, f, rfl, h3, hF, hL, s3⟩ ⟨rfl, c, hc, rfl⟩
          have hci : (sgnL row).reverse[i]? = some (⟨#[c]⟩ : PySem.Str) := by
            rw [← sgnL_revS]
            exact sgnL_at hc
          refine fun r hr0 => ?_
          have s4 : Same H3 (upd H3 r (.dK [])) := same_new hr0
          rcases ha with ha | ha
          · refine .inl ⟨_, rfl, a, rfl, ⟨_, Same.seq (s3.trans s4) ha⟩, for_list (K := K) (a := a) (xs := us) (fun j σ H' => ∃ (v3 v7 v8 v9 v10 : Option V) (ws : List (Ky × V)), σ = [some (.ref a), some (.ref t), some (.str row), v3, some (.ref d), some (.str ⟨#[c]⟩), some (.ref r), v7, v8, v9, v10] ∧ H' r = some (.dK ws) ∧ Same H3 H' ∧
              Holds1 ws (adv f ((((xs.take j).filter fun x => decide (x.l = (⟨#[c]⟩ : PySem.Str))).map mvOf).map swapM)) ∧ ws.length ≤ j) ?_ (fun j σ H' _ ⟨_, _, _, _, _, _, _, _, hs, _⟩ => Same.seq (s3.trans hs) ha) ?_ ?_⟩
            · exact ⟨_, _, _, _, _, [], rfl, upd_same, s4, fun q => rfl, Nat.le_refl _⟩
            · rintro j y σ H4 hj ⟨v3, v7, v8, v9, v10, ws, rfl, h4, hs4, hw, hlen⟩
              obtain ⟨q, x, rfl, hx, hq⟩ := ArS.get (hA.same (s3.trans hs4)) hj
              have hj' : j < us.length := (List.getElem?_eq_some_iff.mp hj).1
              have tk : xs.take (j + 1) = xs.take j ++ [x] := by rw [List.take_add_one, hx]; rfl
              refine ⟨q, _, rfl, SqT.of hq, rfl, _, _, rfl, _, _, rfl, _, _, rfl, _, _, rfl, rfl, ?_⟩
              refine ⟨_, rfl, _, rfl, rfl, _, rfl, ite2 (fun hcc => ?_) (fun hcc => ?_)⟩
              · have el2 : x.l = (⟨#[c]⟩ : PySem.Str) := V.str.inj (of_decide_eq_true hcc)
                have flt : (((xs.take (j + 1)).filter fun x => decide (x.l = (⟨#[c]⟩ : PySem.Str))).map mvOf).map swapM = (((xs.take j).filter fun x => decide (x.l = (⟨#[c]⟩ : PySem.Str))).map mvOf).map swapM ++ [swapM (mvOf x)] := by
                  rw [tk, List.filter_append, List.filter_cons_of_pos (by simpa using el2), List.map_append, List.map_append]
                  rfl
                have gu : DGet H4 d (.str x.t) (valV kvs (.inr x.t)) := DGet.k (k := .inr x.t) (hs4 _ _ h3)
                have eu := hF x.t
                refine ⟨_, rfl, _, rfl, d, _, rfl, gu, ?_⟩
                cases hgu : f x.t with
                | none =>
                  rw [hgu] at eu
                  rw [eu]
                  refine ⟨_, rfl, iteF ⟨_, _, _, _, _, ws, rfl, h4, hs4, ?_, by omega⟩⟩
                  rw [flt, adv_snoc]
                  unfold advS
                  rw [show f (swapM (mvOf x)).1 = none from hgu]
                  exact hw
                | some n =>
                  rw [hgu] at eu
                  rw [eu] at gu ⊢
                  refine ⟨_, rfl, iteT ?_⟩
                  refine ⟨_, rfl, _, rfl, d, .int n, rfl, gu, _, rfl, _, _, rfl, rfl, ?_⟩
                  have g2 : DGet H4 r (.str x.s) (valV ws (.inr x.s)) := DGet.k (k := .inr x.s) h4
                  refine ⟨_, rfl, _, rfl, r, rfl, .inl ⟨_, .inl h4⟩, _, rfl, _, rfl, _, g2, ?_⟩
                  have e2 : (valV ws (.inr x.s)).getD (V.int (n + x.c)) = .int ((adv f ((((xs.take j).filter fun x => decide (x.l = (⟨#[c]⟩ : PySem.Str))).map mvOf).map swapM) x.s).getD (n + x.c)) := by
                    rw [hw x.s]
                    cases adv f ((((xs.take j).filter fun x => decide (x.l = (⟨#[c]⟩ : PySem.Str))).map mvOf).map swapM) x.s <;> rfl
                  refine ⟨_, _, congrArg (fun z => [V.int (n + x.c), z]) e2, ?_⟩
                  generalize hg : adv f ((((xs.take j).filter fun x => decide (x.l = (⟨#[c]⟩ : PySem.Str))).map mvOf).map swapM) = g at hw flt ⊢
                  have dp : DPut H4 r (.str x.s) (.int (if (g x.s).getD (n + x.c) < n + x.c then (g x.s).getD (n + x.c) else n + x.c)) _ := DPut.k (k := .inr x.s) h4 (Nat.lt_of_le_of_lt hlen (Nat.lt_of_lt_of_le (show j < 1000 by omega) (by decide)))
                  refine ⟨_, rfl, _, rfl, r, _, rfl, dp, ?_⟩
                  refine ⟨_, _, _, _, _, _, rfl, upd_same, same_mut hs4 hr0, fun k => ?_, ?_⟩
                  · rw [valV_put, flt, adv_snoc, hg]
                    unfold advS
                    rw [show f (swapM (mvOf x)).1 = some n from hgu]
                    simp only
                    by_cases e : k = x.s
                    · rw [e, if_pos rfl, if_pos (show x.s = (swapM (mvOf x)).2.1 from rfl)]
                      rfl
                    · rw [if_neg (fun z => e (Sum.inr.inj z)), if_neg (show ¬ k = (swapM (mvOf x)).2.1 from e)]
                      exact hw k
                  · have := length_putK ws (.inr x.s) (.int (if (g x.s).getD (n + x.c) < n + x.c then (g x.s).getD (n + x.c) else n + x.c))
                    omega
              · have el2 : x.l ≠ (⟨#[c]⟩ : PySem.Str) := fun e => hcc (decide_eq_true (by rw [e]))
                refine iteF ⟨_, _, _, _, _, ws, rfl, h4, hs4, ?_, by omega⟩
                rw [tk, List.filter_append, List.filter_cons_of_neg (by simpa using el2)]
                simpa using hw
            · rintro σ H4 ⟨v3, v7, v8, v9, v10, ws, rfl, h4, hs4, hw, hlen⟩
              rw [ul, List.take_length] at hw
              refine ⟨_, rfl, _, _, _, _, _, _, _, r, ws, _, rfl, h4, hw, fun q => ?_, s3.trans hs4⟩
              rw [swap_moves, List.take_add_one, hci]
              exact adv_reach hL q
          · refine .inr ⟨_, rfl, a, rfl, ⟨_, sqt_same (s3.trans s4) ha⟩, for_tup (K := K) (a := a) (xs := us) (fun j σ H' => ∃ (v3 v7 v8 v9 v10 : Option V) (ws : List (Ky × V)), σ = [some (.ref a), some (.ref t), some (.str row), v3, some (.ref d), some (.str ⟨#[c]⟩), some (.ref r), v7, v8, v9, v10] ∧ H' r = some (.dK ws) ∧ Same H3 H' ∧
              Holds1 ws (adv f ((((xs.take j).filter fun x => decide (x.l = (⟨#[c]⟩ : PySem.Str))).map mvOf).map swapM)) ∧ ws.length ≤ j) ?_ (fun j σ H' _ ⟨_, _, _, _, _, _, _, _, hs, _⟩ => sqt_same (s3.trans hs) ha) ?_ ?_⟩
            · exact ⟨_, _, _, _, _, [], rfl, upd_same, s4, fun q => rfl, Nat.le_refl _⟩
            · rintro j y σ H4 hj ⟨v3, v7, v8, v9, v10, ws, rfl, h4, hs4, hw, hlen⟩
              obtain ⟨q, x, rfl, hx, hq⟩ := ArS.get (hA.same (s3.trans hs4)) hj
              have hj' : j < us.length := (List.getElem?_eq_some_iff.mp hj).1
              have tk : xs.take (j + 1) = xs.take j ++ [x] := by rw [List.take_add_one, hx]; rfl
              refine ⟨q, _, rfl, SqT.of hq, rfl, _, _, rfl, _, _, rfl, _, _, rfl, _, _, rfl, rfl, ?_⟩
              refine ⟨_, rfl, _, rfl, rfl, _, rfl, ite2 (fun hcc => ?_) (fun hcc => ?_)⟩
              · have el2 : x.l = (⟨#[c]⟩ : PySem.Str) := V.str.inj (of_decide_eq_true hcc)
                have flt : (((xs.take (j + 1)).filter fun x => decide (x.l = (⟨#[c]⟩ : PySem.Str))).map mvOf).map swapM = (((xs.take j).filter fun x => decide (x.l = (⟨#[c]⟩ : PySem.Str))).map mvOf).map swapM ++ [swapM (mvOf x)] := by
                  rw [tk, List.filter_append, List.filter_cons_of_pos (by simpa using el2), List.map_append, List.map_append]
                  rfl
                have gu : DGet H4 d (.str x.t) (valV kvs (.inr x.t)) := DGet.k (k := .inr x.t) (hs4 _ _ h3)
                have eu := hF x.t
                refine ⟨_, rfl, _, rfl, d, _, rfl, gu, ?_⟩
                cases hgu : f x.t with
                | none =>
                  rw [hgu] at eu
                  rw [eu]
                  refine ⟨_, rfl, iteF ⟨_, _, _, _, _, ws, rfl, h4, hs4, ?_, by omega⟩⟩
                  rw [flt, adv_snoc]
                  unfold advS
                  rw [show f (swapM (mvOf x)).1 = none from hgu]
                  exact hw
                | some n =>
                  rw [hgu] at eu
                  rw [eu] at gu ⊢
                  refine ⟨_, rfl, iteT ?_⟩
                  refine ⟨_, rfl, _, rfl, d, .int n, rfl, gu, _, rfl, _, _, rfl, rfl, ?_⟩
                  have g2 : DGet H4 r (.str x.s) (valV ws (.inr x.s)) := DGet.k (k := .inr x.s) h4
                  refine ⟨_, rfl, _, rfl, r, rfl, .inl ⟨_, .inl h4⟩, _, rfl, _, rfl, _, g2, ?_⟩
                  have e2 : (valV ws (.inr x.s)).getD (V.int (n + x.c)) = .int ((adv f ((((xs.take j).filter fun x => decide (x.l = (⟨#[c]⟩ : PySem.Str))).map mvOf).map swapM) x.s).getD (n + x.c)) := by
                    rw [hw x.s]
                    cases adv f ((((xs.take j).filter fun x => decide (x.l = (⟨#[c]⟩ : PySem.Str))).map mvOf).map swapM) x.s <;> rfl
                  refine ⟨_, _, congrArg (fun z => [V.int (n + x.c), z]) e2, ?_⟩
                  generalize hg : adv f ((((xs.take j).filter fun x => decide (x.l = (⟨#[c]⟩ : PySem.Str))).map mvOf).map swapM) = g at hw flt ⊢
                  have dp : DPut H4 r (.str x.s) (.int (if (g x.s).getD (n + x.c) < n + x.c then (g x.s).getD (n + x.c) else n + x.c)) _ := DPut.k (k := .inr x.s) h4 (Nat.lt_of_le_of_lt hlen (Nat.lt_of_lt_of_le (show j < 1000 by omega) (by decide)))
                  refine ⟨_, rfl, _, rfl, r, _, rfl, dp, ?_⟩
                  refine ⟨_, _, _, _, _, _, rfl, upd_same, same_mut hs4 hr0, fun k => ?_, ?_⟩
                  · rw [valV_put, flt, adv_snoc, hg]
                    unfold advS
                    rw [show f (swapM (mvOf x)).1 = some n from hgu]
                    simp only
                    by_cases e : k = x.s
                    · rw [e, if_pos rfl, if_pos (show x.s = (swapM (mvOf x)).2.1 from rfl)]
                      rfl
                    · rw [if_neg (fun z => e (Sum.inr.inj z)), if_neg (show ¬ k = (swapM (mvOf x)).2.1 from e)]
                      exact hw k
                  · have := length_putK ws (.inr x.s) (.int (if (g x.s).getD (n + x.c) < n + x.c then (g x.s).getD (n + x.c) else n + x.c))
                    omega
              · have el2 : x.l ≠ (⟨#[c]⟩ : PySem.Str) := fun e => hcc (decide_eq_true (by rw [e]))
                refine iteF ⟨_, _, _, _, _, ws, rfl, h4, hs4, ?_, by omega⟩
                rw [tk, List.filter_append, List.filter_cons_of_neg (by simpa using el2)]
                simpa using hw
            · rintro σ H4 ⟨v3, v7, v8, v9, v10, ws, rfl, h4, hs4, hw, hlen⟩
              rw [ul, List.take_length] at hw
              refine ⟨_, rfl, _, _, _, _, _, _, _, r, ws, _, rfl, h4, hw, fun q => ?_, s3.trans hs4⟩
              rw [swap_moves, List.take_add_one, hci]
              exact adv_reach hL q
        · rintro σ H3 ⟨v3, v5, v6, v7, v8, v9, v10, d, kvs, f, rfl, h3, hF, hL, s3⟩
          have e1 : (revS row).cps.size = (sgnL row).reverse.length := by rw [List.length_reverse, sgnL_len]; exact revS_len row
          rw [e1, List.take_length] at hL
          exact ⟨_, rfl, k d kvs f H3 h3 hF hL s3⟩
theorem ok__law_price (T : Facts K mg kl) : Keeps P w K mg base CX0 2 "_law_price" ["_law_made", "_law_row_here"] (spPriceL K) := by
  refine keeps0 T.d__law_price sc__law_price (fun vs H Q E h => ?_) (fun f cdv A outer s H vs Q E hr h => ?_)
  · obtain ⟨m, a, b, e, us, xs, ss, es, row, rfl, _⟩ := h
    rfl
  · obtain ⟨m, a, b, e, us, xs, ss, es, row, rfl, hM, xl, sl, el, rl, k⟩ := h
    refine ⟨_, (pss_cons (ps_set (i := 2) sc__law_price.nd rfl (Or.inr rfl) (pe_own (ok__law_ahead T) hr (pa_cons (pe_ix (kix_tup K) (pv 0) pe_int (fun _ _ => rfl)) (pa_cons (pe_ix (kix_tup K) (pv 0) pe_int (fun _ _ => rfl)) (pa_cons (pv 1) pa_nil)))))
  (pss_cons (ps_setLc (i := 3) (own := [("_law_state", 4)]) (g := gName 4) rfl sc__law_price.nd rfl rfl (sw_true rfl rfl rfl (by decide +kernel)) (kpi_list K (pe_ix (kix_tup K) (pv 0) pe_int (fun _ _ => rfl))) (blkOk_by (own := [("_law_state", 4)]) (N := N__law_price) (sc := defScope s__law_price) (by decide +kernel)) (fun _ _ _ _ _ => (pg_name (i := 4) sc__law_price.nd rfl (Or.inl rfl))) (fun _ _ _ _ _ => pts_one (pt_cmp (pc_din (hu_of hr) (pv 4) (pv 2)))) (fun _ _ _ _ _ => (pe_dget (hu_of hr) (pv 2) (pv 4) (fun _ _ => rfl))))
  (pss_one (ps_ret (pe_ifExp (pt_cmpR (kneD K hr.units) (pv 3) (pe_lst pa_nil) (nomark _)) (pe_callB (kmin1 K rfl) (by rfl) T.b_min (by decide +kernel) (pa_cons (pv 3) pa_nil)) pe_non))))), ?_⟩
    refine ⟨_, rfl, m, _, 0, _, rfl, rfl, SqT.of hM.m, rfl, _, rfl, m, _, 2, _, rfl, rfl, SqT.of hM.m, rfl, _, rfl, a, e, us, xs, es, row, rfl, .inl hM.a, hM.as, xl, .inl hM.e, el, rl, fun d kvs g H1 h1 hG hL s1 => ?_⟩
    have M1 := hM.same s1
    refine ⟨_, rfl, m, _, 1, _, rfl, rfl, SqT.of M1.m, rfl, b, rfl, ⟨_, M1.b⟩, fun D hD => lcA walk_list (fun i acc H' => acc = ((ss.take i).filterMap g).map V.int ∧ Same H1 H') ⟨rfl, .refl _⟩ (fun i acc H' o h => ⟨h.1, same_mut h.2 hD⟩) (fun i acc H' _ h => h.2.seq M1.b) ?_ ?_⟩
    · rintro i x acc _ H2 hi ⟨rfl, hs⟩ hA hl1 ⟨rfl, hx⟩
      obtain ⟨u, rfl, hu⟩ := map_str hx
      have tk : ss.take (i + 1) = ss.take i ++ [u] := by rw [List.take_add_one, hu]; rfl
      have gu : DGet H2 d (.str u) (valV kvs (.inr u)) := DGet.k (k := .inr u) (hs _ _ h1)
      have eu := hG u
      refine ⟨rfl, _, rfl, _, rfl, d, _, rfl, gu, ?_⟩
      cases hgu : g u with
      | none =>
        rw [hgu] at eu
        rw [eu]
        refine ⟨_, rfl, iteF (LcP.skip hA hl1 ⟨?_, hs⟩)⟩
        rw [tk, List.filterMap_append]
        simp [hgu]
      | some n =>
        rw [hgu] at eu
        rw [eu] at gu ⊢
        refine ⟨_, rfl, iteT ⟨_, rfl, _, rfl, d, .int n, rfl, gu, LcP.put (fun i acc H' o h => ⟨h.1, same_mut h.2 hD⟩) hA hl1 (by rw [List.length_map] at hi; omega) ⟨?_, hs⟩⟩⟩
        rw [tk, List.filterMap_append]
        simp [hgu]
    · rintro acc H2 ⟨rfl, hs⟩ hA hl1
      rw [List.length_map, List.take_length] at hA
      have fin : ∀ {o : Option Int}, LeastO (fun n => n ∈ ss.filterMap g) o → LPr xs ss es (sgnL row) o := fun {o} ho => by
        have h2 : LeastO (fun n => ∃ s ∈ ss, g s = some n) o := ho.iff fun n => List.mem_filterMap
        have h3 := reach_least hL h2
        have h4 := LPr.of_rch.mp h3
        exact LPr.turn.mp h4
      refine ⟨_, rfl, Nat.zero_le _, fun l hl => ?_⟩
      have s3 : Same H2 (upd H2 l (.lst [])) := same_new hl
      refine ⟨_, _, .lst (SqL.of (s3 _ _ hA)) (dp_ints _), .lst (SqL.of upd_same) .nil, shaped_ints _, shaped_nil, _, rfl, ?_⟩
      rw [eqv_nil]
      generalize hns : ss.filterMap g = ns at hA fin s3 ⊢
      cases ns with
      | nil => exact iteF (k none _ (fin fun n hn => by cases hn) ((s1.trans hs).trans s3))
      | cons n ns => exact iteT ⟨_, rfl, D, n :: ns, rfl, SqL.of (s3 _ _ hA), Nat.succ_pos _, fun z hz hle => k (some z) _ (fin ⟨hz, hle⟩) ((s1.trans hs).trans s3)⟩
end
end Pf
namespace Pf
open PySem PySem.Spec PyProof.Rows L2 Bz
local macro_rules | `(tactic| walk_at "sd") => `(tactic| first
  | rfl | assumption | omega | exact Nat.le_of_ble_eq_true rfl | decide | (refine Or.inl (And.intro ?_ ?_) <;> omega) | (refine Or.inr (And.intro ?_ ?_) <;> omega) | (refine And.intro ?_ ?_ <;> omega) | (refine ⟨?_, ?_, ?_⟩ <;> omega))
local macro_rules | `(tactic| walk_at "sq") => `(tactic| first | assumption | exact SqL.of (by assumption) | exact SqT.of (by assumption) | exact SqL.of upd_same | exact SqT.of upd_same)
local macro_rules | `(tactic| walk_at "hp") => `(tactic| first | assumption | exact upd_same)
local macro_rules | `(tactic| walk_at "rd") => `(tactic| repeat (first
  | (refine ⟨_, rfl, ?_⟩) | (refine ⟨_, _, rfl, rfl, ?_⟩) | (refine ⟨rfl, ?_⟩) | (refine And.intro (by walk_at "sd") ?_)
  | (refine ⟨_, _, _, _, rfl, rfl, (by walk_at "sq"), rfl, ?_⟩)
  | (refine ⟨_, _, _, _, rfl, rfl, (by walk_at "hp"), rfl, ?_⟩)
  | (refine Or.inl ⟨_, rfl, ?_⟩)))
section
variable {P : Program} {w : World} {K : PySem.W.Frag} {mg : PySem.Str → Option Value} {base : Heap} {kl : Cl}
theorem ok__law_row (T : Facts K mg kl) : Keeps P w K mg base CX0 3 "_law_row" ["_law_source_here", "_law_signs", "_law_most"] (spRowL K) := by
  refine keeps0 T.d__law_row sc__law_row (fun vs H Q E h => ?_) (fun f cdv A outer s H vs Q E hr h => ?_)
  · obtain ⟨p, a, ls, n, c, rfl, _⟩ := h
    rfl
  · obtain ⟨p, a, ls, n, c, rfl, hS, hc, ha, nap, lne, ll, hL, n10, k⟩ := h
    refine ⟨_, (pss_cons (ps_set (i := 3) sc__law_row.nd rfl (Or.inl rfl) pe_str)
  (pss_cons (ps_for PassesOwn.never rfl (pi_range1 (by rfl) T.b_range (pa_cons (pe_own (ok__law_draw T) hr (pa_cons (pv 0) (pa_cons (pe_op op_add (pv 2) pe_int) pa_nil))) pa_nil)) (pg_name (i := 4) sc__law_row.nd rfl (Or.inl rfl))
  (pss_one (ps_set (i := 3) sc__law_row.nd rfl (Or.inl rfl) (pe_op op_add_str (pv 3) (pe_op op_repTxt (pe_own (ok__law_pick T) hr (pa_cons (pv 0) (pa_cons (pv 1) pa_nil))) (pe_op op_add pe_int (pe_own (ok__law_draw T) hr (pa_cons (pv 0) (pa_cons pe_int pa_nil)))))))))
  (pss_one (ps_ret (pv 3))))), ?_⟩
    have lvne : ls.map V.str ≠ [] := fun z => lne (List.map_eq_nil_iff.mp z)
    refine ⟨_, rfl, _, rfl, _, _, rfl, rfl, p, (n : Int) + 1, c, rfl, hS, by omega, by omega, by omega, fun r H1 r0 r1 hS1 hb1 => ?_⟩
    have g1 : Go p (c + 1) H H1 := (Go.start hS).but hS1 hb1
    refine ⟨r, rfl, by omega, by omega, for_range (lo := 0) (n := r.toNat) (fun i σ H' => ∃ (v4 : Option V) (z : PySem.Str), σ = [some (.ref p), some (.ref a), some (.int (n : Int)), some (.str z), v4] ∧ SgRow (3 * i) z ∧ Go p (c + 1 + 2 * i) H H') ?_ ?_ ?_⟩
    · exact ⟨_, "", rfl, SgRow.nil, g1⟩
    · rintro i σ H2 hi ⟨v4, z, rfl, hz, g2⟩
      have zl := hz.1
      refine ⟨_, rfl, _, rfl, _, rfl, p, a, _, c + 1 + 2 * i, rfl, g2.src, by omega, g2.seq nap ha, nap, lvne, by rw [List.length_map]; omega, fun v H3 hv hS3 hb3 => ?_⟩
      obtain ⟨l, hl, rfl⟩ := List.mem_map.mp hv
      have g3 := g2.but hS3 hb3
      have hLt := SgRow.lt (hL l hl)
      refine ⟨_, rfl, p, 3, c + 1 + 2 * i + 1, rfl, g3.src, by omega, by omega, by omega, fun r2 H4 r20 r21 hS4 hb4 => ?_⟩
      have g4 := g3.but hS4 hb4
      have l1 := hLt.1
      have hrep := hLt.rep (i := 1 + r2) (k := 3) (by omega)
      have rl := hrep.1
      refine ⟨_, _, rfl, rfl, l, 1 + r2, rfl, rfl, by omega, by omega, Evl.sz_of ?_, z, _, rfl, rfl, Evl.sz_of (by omega), ?_⟩
      · have := Nat.mul_le_mul l1 (show (1 + r2).toNat ≤ 3 by omega)
        omega
      · exact ⟨_, _, rfl, (hz.app hrep).mono (by omega), g4.mono (by omega)⟩
    · rintro σ H2 ⟨v4, z, rfl, hz, g2⟩
      exact ⟨_, rfl, k z H2 (hz.mono (by omega)) (g2.mono (by omega))⟩
theorem ok__law_waves (T : Facts K mg kl) : Keeps P w K mg base CX0 4 "_law_waves" ["_law_source_here", "_law_signs", "_law_most"] (spWaves K) := by
  refine keeps0 T.d__law_waves sc__law_waves (fun vs H Q E h => ?_) (fun f cdv A outer s H vs Q E hr h => ?_)
  · obtain ⟨p, a, ls, n, c, rfl, _⟩ := h
    rfl
  · obtain ⟨p, a, ls, n, c, rfl, hS, hc, ha, nap, lne, ll, hL, n1, n4, k⟩ := h
    refine ⟨_, (pss_cons (ps_set (i := 3) sc__law_waves.nd rfl (Or.inl rfl) (pe_own (ok__law_row T) hr (pa_cons (pv 0) (pa_cons (pv 1) (pa_cons pe_int pa_nil)))))
  (pss_cons (ps_for PassesOwn.never rfl (pi_range1 (by rfl) T.b_range (pa_cons (pe_own (ok__law_draw T) hr (pa_cons (pv 0) (pa_cons pe_int pa_nil))) pa_nil)) (pg_name (i := 4) sc__law_waves.nd rfl (Or.inl rfl))
  (pss_one (ps_set (i := 3) sc__law_waves.nd rfl (Or.inl rfl) (pe_op op_repTxt (pe_op op_add_str (pe_op op_repTxt (pv 3) (pe_op op_add pe_int (pe_own (ok__law_draw T) hr (pa_cons (pv 0) (pa_cons (pv 2) pa_nil))))) (pe_own (ok__law_row T) hr (pa_cons (pv 0) (pa_cons (pv 1) (pa_cons pe_int pa_nil))))) (pe_op op_add pe_int (pe_own (ok__law_draw T) hr (pa_cons (pv 0) (pa_cons (pv 2) pa_nil))))))))
  (pss_one (ps_ret (pe_slice sl_str (pv 3) po_none (po_some pe_int)))))), ?_⟩
    refine ⟨_, rfl, _, rfl, p, a, ls, 2, c, rfl, hS, by omega, ha, nap, lne, ll, hL, by omega, fun z0 H0 hz0 g0 => ?_⟩
    refine ⟨_, rfl, p, 3, c + 40, rfl, g0.src, by omega, by omega, by omega, fun r H1 r0 r1 hS1 hb1 => ?_⟩
    have g1 : Go p (c + 41) H H1 := g0.but hS1 hb1
    refine ⟨r, rfl, by omega, by omega, for_range (lo := 0) (n := r.toNat) (fun i σ H' => ∃ (v4 : Option V) (z : PySem.Str), σ = [some (.ref p), some (.ref a), some (.int (n : Int)), some (.str z), v4] ∧ SgRow (wvL i) z ∧ Go p (c + 41 + 42 * i) H H') ?_ ?_ ?_⟩
    · exact ⟨_, z0, rfl, hz0, g1⟩
    · rintro i σ H2 hi ⟨v4, z, rfl, hz, g2⟩
      have wl : (4 * wvL i + 3) * 4 ≤ wvL (i + 1) ∧ wvL i ≤ 108 := by
        have : i = 0 ∨ i = 1 := by omega
        rcases this with rfl | rfl <;> decide
      have zl := hz.1
      refine ⟨_, rfl, _, rfl, _, rfl, p, n, c + 41 + 42 * i, rfl, g2.src, by omega, by omega, by omega, fun r2 H3 r20 r21 hS3 hb3 => ?_⟩
      have g3 := g2.but hS3 hb3
      have hrep := hz.rep (i := 1 + r2) (k := 4) (by omega)
      have rl := hrep.1
      refine ⟨_, _, rfl, rfl, z, 1 + r2, rfl, rfl, by omega, by omega, Evl.sz_of ?_, ?_⟩
      · have := Nat.mul_le_mul zl (show (1 + r2).toNat ≤ 4 by omega)
        omega
      refine ⟨_, rfl, _, rfl, p, a, ls, 1, c + 41 + 42 * i + 1, rfl, g3.src, by omega, g3.seq nap ha, nap, lne, ll, hL, by omega, fun z2 H4 hz2 g4 => ?_⟩
      have G4 := g3.trans g4
      have z2l := hz2.1
      have happ := hrep.app hz2
      have al := happ.1
      refine ⟨_, _, rfl, rfl, Evl.sz_of (by omega), ?_⟩
      refine ⟨_, rfl, _, rfl, p, n, c + 41 + 42 * i + 1 + 40, rfl, g4.src, by omega, by omega, by omega, fun r3 H5 r30 r31 hS5 hb5 => ?_⟩
      have g5 := G4.but hS5 hb5
      have hrep2 := happ.rep (i := 1 + r3) (k := 4) (by omega)
      refine ⟨_, _, rfl, rfl, _, 1 + r3, rfl, rfl, by omega, by omega, Evl.sz_of ?_, ?_⟩
      · have := Nat.mul_le_mul al (show (1 + r3).toNat ≤ 4 by omega)
        omega
      · exact ⟨_, _, rfl, hrep2.mono (by omega), g5.mono (by omega)⟩
    · rintro σ H2 ⟨v4, z, rfl, hz, g2⟩
      have wl : wvL r.toNat ≤ 1740 := by
        unfold wvL
        split
        · omega
        · split <;> omega
      have zl := hz.1
      exact ⟨_, rfl, 120, rfl, _, rfl, Evl.sz_of (by omega), k _ H2 (hz.cut 120) (g2.mono (by omega))⟩
end
end Pf
namespace Pf
open PySem PySem.Spec PyProof.Rows L2 Bz
local macro_rules | `(tactic| walk_at "sd") => `(tactic| first
  | rfl | assumption | omega | exact Nat.le_of_ble_eq_true rfl | decide | (refine Or.inl (And.intro ?_ ?_) <;> omega) | (refine Or.inr (And.intro ?_ ?_) <;> omega) | (refine And.intro ?_ ?_ <;> omega) | (refine ⟨?_, ?_, ?_⟩ <;> omega))
local macro_rules | `(tactic| walk_at "sq") => `(tactic| first | assumption | exact SqL.of (by assumption) | exact SqT.of (by assumption) | exact SqL.of upd_same | exact SqT.of upd_same)
local macro_rules | `(tactic| walk_at "hp") => `(tactic| first | assumption | exact upd_same)
local macro_rules | `(tactic| walk_at "rd") => `(tactic| repeat (first
  | (refine ⟨_, rfl, ?_⟩) | (refine ⟨_, _, rfl, rfl, ?_⟩) | (refine ⟨rfl, ?_⟩) | (refine And.intro (by walk_at "sd") ?_)
  | (refine ⟨_, _, _, _, rfl, rfl, (by walk_at "sq"), rfl, ?_⟩)
  | (refine ⟨_, _, _, _, rfl, rfl, (by walk_at "hp"), rfl, ?_⟩)
  | (refine Or.inl ⟨_, rfl, ?_⟩)))
section
variable {P : Program} {w : World} {K : PySem.W.Frag} {mg : PySem.Str → Option Value} {base : Heap} {kl : Cl}
theorem ok_has_only_letters (T : Facts K mg kl) : Keeps P w K mg base CX0 1 "has_only_letters" ["text"] spOnly := by
  refine keeps0 T.d_has_only_letters sc_has_only_letters (fun vs H Q E h => ?_) (fun f cdv A outer s H vs Q E hr h => ?_)
  · obtain ⟨s, rfl, _⟩ := h
    rfl
  · obtain ⟨z, rfl, k⟩ := h
    refine ⟨_, (pss_one (ps_ret (pe_and (kbm0 K PySem.F.plainAttrs_str PySem.F.slot_str_isascii PySem.F.type_str_isascii mt_isascii (pv 0)) (pe_and (pe_m0 PySem.F.slot_str_isalpha PySem.F.type_str_isalpha mt_isalpha (pv 0)) (pe_one (kbm0 K PySem.F.plainAttrs_str PySem.F.slot_str_islower PySem.F.type_str_islower mt_islower (pv 0))))))), ?_⟩
    rw [← only_ok] at k
    refine ⟨_, rfl, rfl, z, rfl, rfl, trivial, _, rfl, ite2 (fun h1 => ?_) (fun h1 => ?_)⟩
    · refine ⟨_, rfl, ⟨_, rfl⟩, z, rfl, rfl, trivial, _, rfl, ite2 (fun h2 => ?_) (fun h2 => ?_)⟩
      · refine ⟨_, rfl, rfl, z, rfl, rfl, trivial, ?_⟩
        rw [h1, h2] at k
        exact k
      · have h2' : Txt.isalpha z = false := by simpa using h2
        rw [h1, h2'] at k
        exact k
    · have h1' : Txt.isascii z = false := by simpa using h1
      rw [h1'] at k
      exact k
theorem ok_is_name (T : Facts K mg kl) : Keeps P w K mg base CX0 2 "is_name" ["value"] spIsNameA := by
  refine keeps0 T.d_is_name sc_is_name (fun vs H Q E h => ?_) (fun f cdv A outer s H vs Q E hr h => ?_)
  · obtain ⟨v, t, rfl, _⟩ := h
    rfl
  · obtain ⟨v, t, rfl, kn, k⟩ := h
    refine ⟨_, (pss_one (ps_ret (pe_and (pe_callB (kisi K) (by rfl) T.b_isinstance (by decide +kernel) (pa_cons (pv 0) (pa_cons (pe_bltn (v := .ty "str") (by rfl) T.b_str (by decide +kernel) rfl) pa_nil))) (pe_and (pe_cmpR op_le (pe_callB call_len_str (by rfl) T.b_len (by decide +kernel) (pa_cons (pv 0) pa_nil)) (pe_cst T.c_LONGEST_NAME) (nomark _)) (pe_one (pe_own (ok_has_only_letters T) hr (pa_cons (pv 0) pa_nil))))))), ?_⟩
    obtain ⟨_, _, k3, _⟩ := kit_in (K := K) kn.mem
    refine ⟨_, rfl, _, _, _, _, decide (t = "str"), rfl, .ty "str", kn.ty, k3, _, rfl, ?_⟩
    cases kn with
    | str z hz =>
      refine iteT ?_
      have k' : Q (.bl (nmB z)) H := k
      rw [nmB_only] at k'
      refine ⟨_, rfl, _, rfl, Evl.sz_of hz, _, _, rfl, rfl, _, rfl, ite2 (fun hc => ?_) (fun hc => ?_)⟩
      · refine ⟨_, rfl, z, rfl, ?_⟩
        have e : decide (z.length ≤ 8) = true := decide_eq_true (by have := of_decide_eq_true hc; omega)
        rw [e] at k'
        exact k'
      · have e : decide (z.length ≤ 8) = false := by
          have := hc
          simp only [decide_eq_true_eq] at this
          exact decide_eq_false (by omega)
        rw [e] at k'
        exact k'
    | _ => exact iteF k
theorem ok_is_list (T : Facts K mg kl) : Keeps P w K mg base CX0 1 "is_list" ["value"] (spIsList K) := by
  refine keeps0 T.d_is_list sc_is_list (fun vs H Q E h => ?_) (fun f cdv A outer s H vs Q E hr h => ?_)
  · obtain ⟨v, t, rfl, _⟩ := h
    rfl
  · obtain ⟨v, t, rfl, ty, ht, k⟩ := h
    refine ⟨_, (pss_one (ps_ret (pe_callB (kisiT K) (by rfl) T.b_isinstance (by decide +kernel) (pa_cons (pv 0) (pa_cons (pe_tup (pa_cons (pe_bltn (v := .ty "list") (by rfl) T.b_list (by decide +kernel) rfl) (pa_cons (pe_bltn (v := .ty "tuple") (by rfl) T.b_tuple (by decide +kernel) rfl) pa_nil))) pa_nil))))), ?_⟩
    obtain ⟨_, _, _, k4, k5⟩ := kit_in (K := K) ht
    refine ⟨_, rfl, Nat.le_of_ble_eq_true rfl, fun tp htp => ?_⟩
    have sm : Same H (upd H tp (.tup [.ty "list", .ty "tuple"])) := same_new htp
    refine ⟨v, tp, _, _, _, decide (t = "list") || decide (t = "tuple"), rfl, upd_same, .cons (.ty "list") (.cons (.ty "tuple") .nil), tyX_new ty sm, ?_, k _ sm⟩
    refine kitAny_cons (b := decide (t = "list")) k5 (fun z => ?_) (fun z => by rw [z]; rfl)
    rw [z]
    exact kitAny_cons (b := decide (t = "tuple")) k4 (fun y => by rw [y]; rfl) (fun y => by rw [y]; rfl)
end
end Pf
namespace Pf
open PySem PySem.Spec PyProof.Rows L2 Bz
local macro_rules | `(tactic| walk_at "sd") => `(tactic| first
  | rfl | assumption | omega | exact Nat.le_of_ble_eq_true rfl | decide | (refine Or.inl (And.intro ?_ ?_) <;> omega) | (refine Or.inr (And.intro ?_ ?_) <;> omega) | (refine And.intro ?_ ?_ <;> omega) | (refine ⟨?_, ?_, ?_⟩ <;> omega))
local macro_rules | `(tactic| walk_at "sq") => `(tactic| first | assumption | exact SqL.of (by assumption) | exact SqT.of (by assumption) | exact SqL.of upd_same | exact SqT.of upd_same)
local macro_rules | `(tactic| walk_at "hp") => `(tactic| first | assumption | exact upd_same)
local macro_rules | `(tactic| walk_at "rd") => `(tactic| repeat (first
  | (refine ⟨_, rfl, ?_⟩) | (refine ⟨_, _, rfl, rfl, ?_⟩) | (refine ⟨rfl, ?_⟩) | (refine And.intro (by walk_at "sd") ?_)
  | (refine ⟨_, _, _, _, rfl, rfl, (by walk_at "sq"), rfl, ?_⟩)
  | (refine ⟨_, _, _, _, rfl, rfl, (by walk_at "hp"), rfl, ?_⟩)
  | (refine Or.inl ⟨_, rfl, ?_⟩)))
section
variable {P : Program} {w : World} {K : PySem.W.Frag} {mg : PySem.Str → Option Value} {base : Heap} {kl : Cl}
theorem ok_is_name_s (T : Facts K mg kl) : Keeps P w K mg base CX0 2 "is_name" ["value"] spIsName := by
  obtain ⟨f, fd, F, a, b, c⟩ := (ok_is_name (P := P) (w := w) (base := base) T).ex
  exact ⟨f, fd, F.imp fun vs H Q E ⟨s, e, l, q⟩ => ⟨.str s, "str", e, .str s l, q⟩, a, b, c⟩
theorem ok_is_integer (T : Facts K mg kl) : Keeps P w K mg base CX0 1 "is_integer" ["value"] (spIsInt K) := by
  refine keeps0 T.d_is_integer sc_is_integer (fun vs H Q E h => ?_) (fun f cdv A outer s H vs Q E hr h => ?_)
  · obtain ⟨v, t, rfl, _⟩ := h
    rfl
  · obtain ⟨v, t, rfl, ty, ht, k⟩ := h
    refine ⟨_, (pss_one (ps_ret (pe_and (pe_callB (kisi K) (by rfl) T.b_isinstance (by decide +kernel) (pa_cons (pv 0) (pa_cons (pe_bltn (v := .ty "int") (by rfl) T.b_int (by decide +kernel) rfl) pa_nil))) (pe_one (pe_not (pe_callB (kisi K) (by rfl) T.b_isinstance (by decide +kernel) (pa_cons (pv 0) (pa_cons (pe_bltn (v := .ty "bool") (by rfl) T.b_bool (by decide +kernel) rfl) pa_nil)))))))), ?_⟩
    obtain ⟨k1, k2, _⟩ := kit_in (K := K) ht
    refine ⟨_, rfl, _, _, _, _, _, rfl, .ty "int", ty, k1, _, rfl, ite2 (fun hc => ?_) (fun hc => ?_)⟩
    · refine ⟨_, rfl, _, _, _, _, _, rfl, .ty "bool", ty, k2, _, rfl, ?_⟩
      have e : (!decide (t = "bool")) = decide (t = "int") := by
        simp only [Bool.or_eq_true, decide_eq_true_eq] at hc
        rcases hc with rfl | rfl <;> decide
      rw [e]
      exact k
    · have e : decide (t = "int") = false := by
        simp only [Bool.or_eq_true, decide_eq_true_eq, not_or] at hc
        exact decide_eq_false hc.1
      rw [e] at k
      exact k
theorem ok_is_letter (T : Facts K mg kl) : Keeps P w K mg base CX0 2 "is_letter" ["value"] spIsLetter := by
  refine keeps0 T.d_is_letter sc_is_letter (fun vs H Q E h => ?_) (fun f cdv A outer s H vs Q E hr h => ?_)
  · obtain ⟨s, rfl, _⟩ := h
    rfl
  · obtain ⟨z, rfl, hz, k⟩ := h
    refine ⟨_, (pss_one (ps_ret (pe_and (pe_callB (kisi K) (by rfl) T.b_isinstance (by decide +kernel) (pa_cons (pv 0) (pa_cons (pe_bltn (v := .ty "str") (by rfl) T.b_str (by decide +kernel) rfl) pa_nil))) (pe_and (pe_cmpR op_eq (pe_callB call_len_str (by rfl) T.b_len (by decide +kernel) (pa_cons (pv 0) pa_nil)) pe_int (nomark _)) (pe_one (pe_own (ok_has_only_letters T) hr (pa_cons (pv 0) pa_nil))))))), ?_⟩
    refine ⟨_, rfl, _, _, _, _, true, rfl, .ty "str", .base (.str z), kit_ty (by decide +kernel), _, rfl, iteT ?_⟩
    refine ⟨_, rfl, _, rfl, Evl.sz_of hz, rfl, _, rfl, ite2 (fun hc => ?_) (fun hc => ?_)⟩
    · refine ⟨_, rfl, z, rfl, ?_⟩
      have e : decide (z.length = 1) = true := by
        have := of_decide_eq_true hc
        exact decide_eq_true (by have := V.int.inj this; omega)
      unfold ltB at k
      rw [e] at k
      exact k
    · have e : decide (z.length = 1) = false := by
        refine decide_eq_false fun q => hc ?_
        rw [q]
        rfl
      unfold ltB at k
      rw [e] at k
      exact k
theorem ok_is_price (T : Facts K mg kl) : Keeps P w K mg base CX0 2 "is_price" ["value"] spIsPrice := by
  refine keeps0 T.d_is_price sc_is_price (fun vs H Q E h => ?_) (fun f cdv A outer s H vs Q E hr h => ?_)
  · obtain ⟨i, rfl, _⟩ := h
    rfl
  · obtain ⟨i, rfl, k⟩ := h
    refine ⟨_, (pss_one (ps_ret (pe_and (pe_own (ok_is_integer T) hr (pa_cons (pv 0) pa_nil)) (pe_one (pe_chain op_le op_le pe_int (pv 0) (pe_cst T.c_HIGHEST_PRICE)))))), ?_⟩
    refine ⟨_, rfl, .int i, "int", rfl, .base (.int i), by decide, true, rfl, iteT ?_⟩
    refine ⟨_, rfl, _, _, rfl, rfl, _, rfl, ite2 (fun hc => ?_) (fun hc => ?_)⟩
    · refine ⟨_, _, rfl, rfl, ?_⟩
      unfold prB at k
      rw [hc] at k
      exact k
    · have e : decide (0 ≤ i) = false := by simpa using hc
      unfold prB at k
      rw [e] at k
      exact k
theorem ok_is_arrow (T : Facts K mg kl) : Keeps P w K mg base CX0 3 "is_arrow" ["value"] (spIsArrow K) := by
  refine keeps0 T.d_is_arrow sc_is_arrow (fun vs H Q E h => ?_) (fun f cdv A outer s H vs Q E hr h => ?_)
  · obtain ⟨q, x, rfl, _⟩ := h
    rfl
  · obtain ⟨q, x, rfl, hq, z1, z2, z3, k⟩ := h
    refine ⟨_, (pss_cons (ps_if (PW.pt (pw_or (pt_not (pt_val (pe_own (ok_is_list T) hr (pa_cons (pv 0) pa_nil)))) (pw_or1 (pt_cmpR op_ne (pe_callB (kcall_len K) (by rfl) T.b_len (by decide +kernel) (pa_cons (pv 0) pa_nil)) (pe_cst T.c_ARROW_PARTS) (nomark _)))))
  (pss_one (ps_ret pe_bl))
  pss_nil)
  (pss_cons (ps_asg (pv 0) (kpg_tup K rfl (pgs_cons (pg_name (i := 1) sc_is_arrow.nd rfl (Or.inl rfl)) (pgs_cons (pg_name (i := 2) sc_is_arrow.nd rfl (Or.inl rfl)) (pgs_cons (pg_name (i := 3) sc_is_arrow.nd rfl (Or.inl rfl)) (pgs_cons (pg_name (i := 4) sc_is_arrow.nd rfl (Or.inl rfl)) pgs_nil))))))
  (pss_one (ps_ret (pe_and (pe_own (ok_is_name_s T) hr (pa_cons (pv 1) pa_nil)) (pe_and (pe_own (ok_is_letter T) hr (pa_cons (pv 2) pa_nil)) (pe_and (pe_own (ok_is_name_s T) hr (pa_cons (pv 3) pa_nil)) (pe_one (pe_own (ok_is_price T) hr (pa_cons (pv 4) pa_nil)))))))))), ?_⟩
    refine ⟨_, rfl, .ref q, "tuple", rfl, .base (.tup hq), by decide, fun H1 sm => ?_⟩
    have hq1 := sm _ _ hq
    refine ⟨true, rfl, ?_⟩
    refine iteF ?_
    refine ⟨_, rfl, _, 4, rfl, .inr ⟨_, SqT.of hq1, rfl⟩, rfl, _, rfl, ?_⟩
    refine iteF ?_
    refine ⟨_, rfl, q, _, rfl, SqT.of hq1, rfl, _, _, rfl, _, _, rfl, _, _, rfl, _, _, rfl, rfl, ?_⟩
    have k' := k _ sm
    unfold arB at k'
    refine ⟨_, rfl, x.s, rfl, z1, _, rfl, ite2 (fun h1 => ?_) (fun h1 => ?_)⟩
    · rw [h1] at k'
      refine ⟨_, rfl, x.l, rfl, z2, _, rfl, ite2 (fun h2 => ?_) (fun h2 => ?_)⟩
      · rw [h2] at k'
        refine ⟨_, rfl, x.t, rfl, z3, _, rfl, ite2 (fun h3 => ?_) (fun h3 => ?_)⟩
        · rw [h3] at k'
          exact ⟨_, rfl, x.c, rfl, k'⟩
        · have e : nmB x.t = false := by simpa using h3
          rw [e] at k'
          exact k'
      · have e : ltB x.l = false := by simpa using h2
        rw [e] at k'
        exact k'
    · have e : nmB x.s = false := by simpa using h1
      rw [e] at k'
      exact k'
end
end Pf
namespace Pf
open PySem PySem.Spec PyProof.Rows L2 Bz
local macro_rules | `(tactic| walk_at "sd") => `(tactic| first
  | rfl | assumption | omega | exact Nat.le_of_ble_eq_true rfl | decide | (refine Or.inl (And.intro ?_ ?_) <;> omega) | (refine Or.inr (And.intro ?_ ?_) <;> omega) | (refine And.intro ?_ ?_ <;> omega) | (refine ⟨?_, ?_, ?_⟩ <;> omega))
local macro_rules | `(tactic| walk_at "sq") => `(tactic| first | assumption | exact SqL.of (by assumption) | exact SqT.of (by assumption) | exact SqL.of upd_same | exact SqT.of upd_same)
local macro_rules | `(tactic| walk_at "hp") => `(tactic| first | assumption | exact upd_same)
local macro_rules | `(tactic| walk_at "rd") => `(tactic| repeat (first
  | (refine ⟨_, rfl, ?_⟩) | (refine ⟨_, _, rfl, rfl, ?_⟩) | (refine ⟨rfl, ?_⟩) | (refine And.intro (by walk_at "sd") ?_)
  | (refine ⟨_, _, _, _, rfl, rfl, (by walk_at "sq"), rfl, ?_⟩)
  | (refine ⟨_, _, _, _, rfl, rfl, (by walk_at "hp"), rfl, ?_⟩)
  | (refine Or.inl ⟨_, rfl, ?_⟩)))
section
variable {P : Program} {w : World} {K : PySem.W.Frag} {mg : PySem.Str → Option Value} {base : Heap} {kl : Cl}
theorem ok_cheapest (T : Facts K mg kl) : Keeps P w K mg base CX0 1 "cheapest" ["arrows"] (spCheapest K) := by
  refine keeps0 T.d_cheapest sc_cheapest (fun vs H Q E h => ?_) (fun f cdv A outer s H vs Q E hr h => ?_)
  · obtain ⟨a, us, xs, rfl, _⟩ := h
    rfl
  · obtain ⟨a, us, xs, rfl, hS, hA, hl, k⟩ := h
    refine ⟨_, (pss_cons (ps_set (i := 1) sc_cheapest.nd rfl (Or.inr rfl) pe_dnewT)
  (pss_cons (ps_for PassesOwn.never rfl (pi_or (kpi_list K (pv 0)) (kpi_tup K (pv 0))) (kpg_tup K rfl (pgs_cons (pg_name (i := 2) sc_cheapest.nd rfl (Or.inl rfl)) (pgs_cons (pg_name (i := 3) sc_cheapest.nd rfl (Or.inl rfl)) (pgs_cons (pg_name (i := 4) sc_cheapest.nd rfl (Or.inl rfl)) (pgs_cons (pg_name (i := 5) sc_cheapest.nd rfl (Or.inl rfl)) pgs_nil)))))
  (pss_cons (ps_set (i := 6) sc_cheapest.nd rfl (Or.inl rfl) (pe_tup (pa_cons (pv 2) (pa_cons (pv 3) (pa_cons (pv 4) pa_nil)))))
  (pss_one (ps_dput (hu_of hr) (pv 1) (pv 6) (pe_callB (call_min2 rfl) (by rfl) T.b_min (by decide +kernel) (pa_cons (pv 5) (pa_cons (pe_dget2 (hu_of hr) (pv 1) (pv 6) (pv 5) ⟨rfl, rfl, rfl, rfl⟩) pa_nil))) rfl))))
  (pss_one (ps_ret (pe_callTy (ktuple_of K) (by rfl) T.b_tuple (by decide +kernel) (pa_cons (pe_callB (ksortK K) (by rfl) T.b_sorted (by decide +kernel) (pa_cons (pe_lock (pe_lc (own := [("step", 6)]) (g := gName 6) (tt := tYes) rfl sc_cheapest.nd (pi_keys (pv 1)) (blkOk_by (own := [("step", 6)]) (N := N_cheapest) (sc := defScope s_cheapest) (by decide +kernel)) (fun _ _ _ _ _ => (pg_name (i := 6) sc_cheapest.nd rfl (Or.inl rfl))) (fun _ _ _ _ _ => pts_nil) (fun _ _ _ _ _ => (pe_tup (kpa_star K (pv 6) (pa_cons (pe_dget (hu_of hr) (pv 1) (pv 6) (fun _ _ => rfl)) pa_nil)))))) pa_nil)) pa_nil)))))), ?_⟩
    have hul : us.length = xs.length := Paired.length hA
    refine fun d hd => ?_
    have s0 : Same H (upd H d (.dT [])) := same_new hd
    rcases hS with hS | hS
    · refine .inl ⟨_, rfl, a, rfl, ⟨_, Same.seq s0 hS⟩, for_list (K := K) (a := a) (xs := us) (fun i σ H' => ∃ (v1 v2 v3 v4 v5 : Option V) (kvs : List (List Ky × V)), σ = [some (.ref a), some (.ref d), v1, v2, v3, v4, v5] ∧ H' d = some (.dT kvs) ∧ Same H H' ∧
          (∀ k, valV kvs k = (minC (xs.take i) k).map V.int) ∧ (kvs.map (·.1)).Nodup ∧ kvs.length ≤ i ∧ ∀ p ∈ kvs, ∃ x ∈ xs, p.1 = x.k3) ?_ (fun i σ H' _ ⟨_, _, _, _, _, _, _, _, hs, _⟩ => Same.seq hs hS) ?_ ?_⟩
      · exact ⟨_, _, _, _, _, [], rfl, upd_same, s0, fun k => rfl, .nil, Nat.le_refl _, fun p hp => by cases hp⟩
      · rintro i y σ H1 hi ⟨v1, v2, v3, v4, v5, kvs, rfl, h1, hs, hv, hnd, hlen, hk⟩
        obtain ⟨q, x, rfl, hx, hq⟩ := ArS.get hA hi
        refine ⟨q, _, rfl, SqT.of (hs _ _ hq), rfl, _, _, rfl, _, _, rfl, _, _, rfl, _, _, rfl, rfl, ?_⟩
        -- the step
        refine ⟨_, rfl, _, rfl, _, rfl, Nat.le_of_ble_eq_true rfl, fun t ht => ?_⟩
        have ndt : d ≠ t := ne_of_none h1 ht
        have hs2 := hs.trans (same_new (o := .tup [.str x.s, .str x.l, .str x.t]) ht)
        have h2 : (upd H1 t (.tup [.str x.s, .str x.l, .str x.t])) d = some (.dT kvs) := (upd_ne ndt).trans h1
        have et : (upd H1 t (.tup [.str x.s, .str x.l, .str x.t])) t = some (.tup (x.k3.map kV)) := upd_same
        have ev : valV kvs x.k3 = (minC (xs.take i) x.k3).map V.int := hv _
        refine ⟨_, rfl, _, rfl, d, rfl, .inr ⟨kvs, .inl h2⟩, _, rfl, _, rfl, _, DGet.t h2 et, ?_⟩
        have hi' : i < xs.length := by rw [← hul]; exact (List.getElem?_eq_some_iff.mp hi).1
        have em : minC (xs.take (i + 1)) x.k3 = some (if (minC (xs.take i) x.k3).getD x.c < x.c then (minC (xs.take i) x.k3).getD x.c else x.c) := by
          rw [List.take_add_one, hx]
          show minC (xs.take i ++ [x]) x.k3 = _
          rw [minC_snoc]
          unfold mstep
          rw [if_pos rfl]
        have eg : (valV kvs x.k3).getD (.int x.c) = .int ((minC (xs.take i) x.k3).getD x.c) := by
          rw [ev]
          cases minC (xs.take i) x.k3 <;> rfl
        refine ⟨_, _, congrArg (fun z => [V.int x.c, z]) eg, ?_⟩
        refine ⟨_, rfl, _, rfl, d, _, rfl, DPut.t h2 et (Nat.lt_of_le_of_lt hlen (Nat.lt_of_lt_of_le hi' (Nat.le_trans hl (by decide)))), ?_⟩
        refine ⟨_, _, _, _, _, _, rfl, upd_same, same_mut hs2 hd, fun k => ?_, putK_nodup hnd, ?_, fun p hp => ?_⟩
        · rw [valV_put]
          by_cases e : k = x.k3
          · rw [if_pos e, e, em]
            rfl
          · rw [if_neg e, hv, List.take_add_one, hx]
            show _ = Option.map V.int (minC (xs.take i ++ [x]) k)
            rw [minC_snoc]
            unfold mstep
            rw [if_neg fun z => e z.symm]
        · have := length_putK kvs x.k3 (.int (if (minC (xs.take i) x.k3).getD x.c < x.c then (minC (xs.take i) x.k3).getD x.c else x.c))
          omega
        · rcases putK_memk hp with e | ⟨p', hp', e⟩
          · exact ⟨x, List.mem_of_getElem? hx, e⟩
          · rw [← e]
            exact hk p' hp'
      · rintro σ H1 ⟨v1, v2, v3, v4, v5, kvs, rfl, h1, hs, hv, hnd, hlen, hk⟩
        rw [hul, List.take_length] at hv
        -- the arrows of the dict, in its order
        refine ⟨d, _, h1, trivial, fun od => ?_⟩
        refine ⟨_, rfl, d, od, rfl, .inr ⟨kvs, upd_same, fun D hD => ?_⟩⟩
        have ndD : d ≠ D := fun z => by
          rw [← z, upd_same] at hD
          cases hD
        have sF : Same H (upd H1 d (.frz od (.dT kvs))) := same_mut hs hd
        have hHD : H D = none := sF.free hD
        refine lcA walk_keysT (fun i acc H' => (∃ zs : List Arw, ArTs K D H' acc zs ∧ zs.map Arw.k3 = (kvs.take i).map (·.1) ∧ ∀ z ∈ zs, minC xs z.k3 = some z.c) ∧ Same H H' ∧ H' d = some (.frz od (.dT kvs))) ⟨⟨[], .nil, rfl, fun z hz => by cases hz⟩, sF, upd_same⟩
          (fun i acc H' o h => ⟨?_, same_mut h.2.1 hHD, (upd_ne ndD).trans h.2.2⟩) (fun i acc H' _ h => h.2.2) ?_ ?_
        · obtain ⟨zs, hz, e1, e2⟩ := h.1
          exact ⟨zs, hz.ext fun b o n e => (upd_ne n).trans e, e1, e2⟩
        · rintro i x acc _ H2 hi ⟨⟨zs, hz, e1, e2⟩, hs2, hd2⟩ hA2 hl2 ⟨rfl, ky, v, q, hkv, rfl, hq⟩
          have hm : (ky, v) ∈ kvs := List.mem_of_getElem? hkv
          obtain ⟨x0, hx0, ek⟩ := hk _ hm
          simp only at ek
          subst ek
          have ev := hv x0.k3
          have ev2 : valV kvs x0.k3 = some v := valV_mem hnd hm
          rw [ev2] at ev
          obtain ⟨m, hm1, rfl⟩ : ∃ m, minC xs x0.k3 = some m ∧ v = .int m := by
            cases hmc : minC xs x0.k3 with
            | none => rw [hmc] at ev; cases ev
            | some m => rw [hmc] at ev; exact ⟨m, rfl, Option.some.inj ev⟩
          refine ⟨rfl, _, rfl, q, _, rfl, .inl (SqT.of hq), _, rfl, _, rfl, d, .int m, rfl, .inr ⟨kvs, x0.k3, q, .inr ⟨od, hd2⟩, rfl, hq, ev2.symm⟩, ?_⟩
          refine ⟨Nat.le_of_ble_eq_true rfl, fun t ht => ?_⟩
          have nDt : D ≠ t := ne_of_none hA2 ht
          have ex : Ext D H2 (upd H2 t (.tup (x0.k3.map kV ++ [.int m]))) := Ext.new ht
          refine LcP.put (fun i acc H' o h => ⟨?_, same_mut h.2.1 hHD, (upd_ne ndD).trans h.2.2⟩) ((upd_ne nDt).trans hA2) hl2 (by omega) ⟨⟨zs ++ [⟨x0.s, x0.l, x0.t, m⟩], (hz.ext ex).snoc nDt.symm upd_same, ?_, fun z hz' => ?_⟩, hs2.trans (same_new ht), ex _ _ ndD hd2⟩
          · obtain ⟨zs, hz, e1, e2⟩ := h.1
            exact ⟨zs, hz.ext fun b o n e => (upd_ne n).trans e, e1, e2⟩
          · rw [List.map_append, e1, List.take_add_one, hkv, List.map_append]
            rfl
          · rcases List.mem_append.mp hz' with h | h
            · exact e2 z h
            · rw [List.mem_singleton.mp h]
              exact hm1
        · rintro acc H2 ⟨⟨zs, hz, e1, e2⟩, hs2, hd2⟩ hA2 hl2
          rw [List.take_length] at e1
          refine ⟨hd2, ?_⟩
          have hA3 : (upd H2 d (.dT kvs)) D = some (.lst acc) := (upd_ne ndD.symm).trans hA2
          have hz3 : ArS (upd H2 d (.dT kvs)) acc zs := Paired.mapP hz fun v x ⟨q, ev, _, hq⟩ => ⟨q, ev, (upd_ne (ne_of hq hd2 (by intro z; cases z))).trans hq⟩
          have hs3 : Same H (upd H2 d (.dT kvs)) := same_mut hs2 hd
          refine ⟨D, acc, keysAt (upd H2 d (.dT kvs)), false, [false, false, true], rfl, SqL.of hA3, fun x hx => ?_, fun ys p hpw hpm hp => ?_⟩
          · obtain ⟨i, hi, ei⟩ := List.getElem_of_mem hx
            obtain ⟨q, z, rfl, hz', hq⟩ := ArS.get hz3 (List.getElem?_eq_some_iff.mpr ⟨hi, ei⟩)
            exact ⟨q, rfl, by rw [keysAt_ar hq]; exact hq, by rw [keysAt_ar hq]; rfl⟩
          · obtain ⟨ws, hw, hwp⟩ := paired_perm hpm hz3
            have s4 : Same H (upd (upd H2 d (.dT kvs)) p (.lst ys)) := hs3.trans (same_new hp)
            refine ⟨p, ys, rfl, .inl ⟨SqL.of upd_same, fun q hq => ?_⟩⟩
            have s5 : Same (upd H2 d (.dT kvs)) (upd (upd (upd H2 d (.dT kvs)) p (.lst ys)) q (.tup ys)) := (same_new hp).trans (same_new hq)
            refine k q ys ws _ (s4.free hq) upd_same (ArS.same hw s5) ?_ (hs3.trans s5)
            -- it is as it should be
            have nd : (ws.map Arw.k3).Nodup := (hwp.map Arw.k3).nodup_iff.mpr (by rw [e1]; exact hnd)
            have ord : ws.Pairwise fun x y => lexK y.ks x.ks = false := paired_pairwise (S := fun x y => lexK (keysAt (upd H2 d (.dT kvs)) y) (keysAt (upd H2 d (.dT kvs)) x) = false) (fun a a' b b' ⟨q1, h1, g1⟩ ⟨q2, h2, g2⟩ h => by
              rw [h1, h2, keysAt_ar g1, keysAt_ar g2] at h
              exact h) hw hpw
            refine ⟨?_, fun y hy => ?_, fun x hx => ?_⟩
            · have nd' : ws.Pairwise fun x y => x.k3 ≠ y.k3 := List.pairwise_map.mp nd
              refine (List.pairwise_and_iff.mpr ⟨ord, nd'⟩).imp fun {x y} ⟨h1, h2⟩ => ?_
              rw [lex_ks h2.symm] at h1
              exact lexK_tot h1 h2.symm
            · have hmc := e2 y (hwp.mem_iff.mp hy)
              obtain ⟨⟨x, hx, ex, ec⟩, hmin⟩ := minC_some hmc
              have e : x = y := Arw.eq_of ex ec
              exact ⟨by rw [← e]; exact hx, hmin⟩
            · cases hmc : minC xs x.k3 with
              | none => exact absurd rfl (minC_none hmc x hx)
              | some m =>
                have hval := hv x.k3
                rw [hmc] at hval
                have hmem : x.k3 ∈ kvs.map (·.1) := by
                  unfold valV at hval
                  cases hf : kvs.find? fun kv => decide (kv.1 = x.k3) with
                  | none => rw [hf] at hval; cases hval
                  | some p =>
                    have := List.find?_some hf
                    exact List.mem_map.mpr ⟨p, List.mem_of_find?_eq_some hf, of_decide_eq_true this⟩
                rw [← e1] at hmem
                obtain ⟨z, hz', ez⟩ := List.mem_map.mp hmem
                exact ⟨z, hwp.mem_iff.mpr hz', ez⟩
    · refine .inr ⟨_, rfl, a, rfl, ⟨_, sqt_same s0 hS⟩, for_tup (K := K) (a := a) (xs := us) (fun i σ H' => ∃ (v1 v2 v3 v4 v5 : Option V) (kvs : List (List Ky × V)), σ = [some (.ref a), some (.ref d), v1, v2, v3, v4, v5] ∧ H' d = some (.dT kvs) ∧ Same H H' ∧
          (∀ k, valV kvs k = (minC (xs.take i) k).map V.int) ∧ (kvs.map (·.1)).Nodup ∧ kvs.length ≤ i ∧ ∀ p ∈ kvs, ∃ x ∈ xs, p.1 = x.k3) ?_ (fun i σ H' _ ⟨_, _, _, _, _, _, _, _, hs, _⟩ => sqt_same hs hS) ?_ ?_⟩
      · exact ⟨_, _, _, _, _, [], rfl, upd_same, s0, fun k => rfl, .nil, Nat.le_refl _, fun p hp => by cases hp⟩
      · rintro i y σ H1 hi ⟨v1, v2, v3, v4, v5, kvs, rfl, h1, hs, hv, hnd, hlen, hk⟩
        obtain ⟨q, x, rfl, hx, hq⟩ := ArS.get hA hi
        refine ⟨q, _, rfl, SqT.of (hs _ _ hq), rfl, _, _, rfl, _, _, rfl, _, _, rfl, _, _, rfl, rfl, ?_⟩
        -- the step
        refine ⟨_, rfl, _, rfl, _, rfl, Nat.le_of_ble_eq_true rfl, fun t ht => ?_⟩
        have ndt : d ≠ t := ne_of_none h1 ht
        have hs2 := hs.trans (same_new (o := .tup [.str x.s, .str x.l, .str x.t]) ht)
        have h2 : (upd H1 t (.tup [.str x.s, .str x.l, .str x.t])) d = some (.dT kvs) := (upd_ne ndt).trans h1
        have et : (upd H1 t (.tup [.str x.s, .str x.l, .str x.t])) t = some (.tup (x.k3.map kV)) := upd_same
        have ev : valV kvs x.k3 = (minC (xs.take i) x.k3).map V.int := hv _
        refine ⟨_, rfl, _, rfl, d, rfl, .inr ⟨kvs, .inl h2⟩, _, rfl, _, rfl, _, DGet.t h2 et, ?_⟩
        have hi' : i < xs.length := by rw [← hul]; exact (List.getElem?_eq_some_iff.mp hi).1
        have em : minC (xs.take (i + 1)) x.k3 = some (if (minC (xs.take i) x.k3).getD x.c < x.c then (minC (xs.take i) x.k3).getD x.c else x.c) := by
          rw [List.take_add_one, hx]
          show minC (xs.take i ++ [x]) x.k3 = _
          rw [minC_snoc]
          unfold mstep
          rw [if_pos rfl]
        have eg : (valV kvs x.k3).getD (.int x.c) = .int ((minC (xs.take i) x.k3).getD x.c) := by
          rw [ev]
          cases minC (xs.take i) x.k3 <;> rfl
        refine ⟨_, _, congrArg (fun z => [V.int x.c, z]) eg, ?_⟩
        refine ⟨_, rfl, _, rfl, d, _, rfl, DPut.t h2 et (Nat.lt_of_le_of_lt hlen (Nat.lt_of_lt_of_le hi' (Nat.le_trans hl (by decide)))), ?_⟩
        refine ⟨_, _, _, _, _, _, rfl, upd_same, same_mut hs2 hd, fun k => ?_, putK_nodup hnd, ?_, fun p hp => ?_⟩
        · rw [valV_put]
          by_cases e : k = x.k3
          · rw [if_pos e, e, em]
            rfl
          · rw [if_neg e, hv, List.take_add_one, hx]
            show _ = Option.map V.int (minC (xs.take i ++ [x]) k)
            rw [minC_snoc]
            unfold mstep
            rw [if_neg fun z => e z.symm]
        · have := length_putK kvs x.k3 (.int (if (minC (xs.take i) x.k3).getD x.c < x.c then (minC (xs.take i) x.k3).getD x.c else x.c))
          omega
        · rcases putK_memk hp with e | ⟨p', hp', e⟩
          · exact ⟨x, List.mem_of_getElem? hx, e⟩
          · rw [← e]
            exact hk p' hp'
      · rintro σ H1 ⟨v1, v2, v3, v4, v5, kvs, rfl, h1, hs, hv, hnd, hlen, hk⟩
        rw [hul, List.take_length] at hv
        -- the arrows of the dict, in its order
        refine ⟨d, _, h1, trivial, fun od => ?_⟩
        refine ⟨_, rfl, d, od, rfl, .inr ⟨kvs, upd_same, fun D hD => ?_⟩⟩
        have ndD : d ≠ D := fun z => by
          rw [← z, upd_same] at hD
          cases hD
        have sF : Same H (upd H1 d (.frz od (.dT kvs))) := same_mut hs hd
        have hHD : H D = none := sF.free hD
        refine lcA walk_keysT (fun i acc H' => (∃ zs : List Arw, ArTs K D H' acc zs ∧ zs.map Arw.k3 = (kvs.take i).map (·.1) ∧ ∀ z ∈ zs, minC xs z.k3 = some z.c) ∧ Same H H' ∧ H' d = some (.frz od (.dT kvs))) ⟨⟨[], .nil, rfl, fun z hz => by cases hz⟩, sF, upd_same⟩
          (fun i acc H' o h => ⟨?_, same_mut h.2.1 hHD, (upd_ne ndD).trans h.2.2⟩) (fun i acc H' _ h => h.2.2) ?_ ?_
        · obtain ⟨zs, hz, e1, e2⟩ := h.1
          exact ⟨zs, hz.ext fun b o n e => (upd_ne n).trans e, e1, e2⟩
        · rintro i x acc _ H2 hi ⟨⟨zs, hz, e1, e2⟩, hs2, hd2⟩ hA2 hl2 ⟨rfl, ky, v, q, hkv, rfl, hq⟩
          have hm : (ky, v) ∈ kvs := List.mem_of_getElem? hkv
          obtain ⟨x0, hx0, ek⟩ := hk _ hm
          simp only at ek
          subst ek
          have ev := hv x0.k3
          have ev2 : valV kvs x0.k3 = some v := valV_mem hnd hm
          rw [ev2] at ev
          obtain ⟨m, hm1, rfl⟩ : ∃ m, minC xs x0.k3 = some m ∧ v = .int m := by
            cases hmc : minC xs x0.k3 with
            | none => rw [hmc] at ev; cases ev
            | some m => rw [hmc] at ev; exact ⟨m, rfl, Option.some.inj ev⟩
          refine ⟨rfl, _, rfl, q, _, rfl, .inl (SqT.of hq), _, rfl, _, rfl, d, .int m, rfl, .inr ⟨kvs, x0.k3, q, .inr ⟨od, hd2⟩, rfl, hq, ev2.symm⟩, ?_⟩
          refine ⟨Nat.le_of_ble_eq_true rfl, fun t ht => ?_⟩
          have nDt : D ≠ t := ne_of_none hA2 ht
          have ex : Ext D H2 (upd H2 t (.tup (x0.k3.map kV ++ [.int m]))) := Ext.new ht
          refine LcP.put (fun i acc H' o h => ⟨?_, same_mut h.2.1 hHD, (upd_ne ndD).trans h.2.2⟩) ((upd_ne nDt).trans hA2) hl2 (by omega) ⟨⟨zs ++ [⟨x0.s, x0.l, x0.t, m⟩], (hz.ext ex).snoc nDt.symm upd_same, ?_, fun z hz' => ?_⟩, hs2.trans (same_new ht), ex _ _ ndD hd2⟩
          · obtain ⟨zs, hz, e1, e2⟩ := h.1
            exact ⟨zs, hz.ext fun b o n e => (upd_ne n).trans e, e1, e2⟩
          · rw [List.map_append, e1, List.take_add_one, hkv, List.map_append]
            rfl
          · rcases List.mem_append.mp hz' with h | h
            · exact e2 z h
            · rw [List.mem_singleton.mp h]
              exact hm1
        · rintro acc H2 ⟨⟨zs, hz, e1, e2⟩, hs2, hd2⟩ hA2 hl2
          rw [List.take_length] at e1
          refine ⟨hd2, ?_⟩
          have hA3 : (upd H2 d (.dT kvs)) D = some (.lst acc) := (upd_ne ndD.symm).trans hA2
          have hz3 : ArS (upd H2 d (.dT kvs)) acc zs := Paired.mapP hz fun v x ⟨q, ev, _, hq⟩ => ⟨q, ev, (upd_ne (ne_of hq hd2 (by intro z; cases z))).trans hq⟩
          have hs3 : Same H (upd H2 d (.dT kvs)) := same_mut hs2 hd
          refine ⟨D, acc, keysAt (upd H2 d (.dT kvs)), false, [false, false, true], rfl, SqL.of hA3, fun x hx => ?_, fun ys p hpw hpm hp => ?_⟩
          · obtain ⟨i, hi, ei⟩ := List.getElem_of_mem hx
            obtain ⟨q, z, rfl, hz', hq⟩ := ArS.get hz3 (List.getElem?_eq_some_iff.mpr ⟨hi, ei⟩)
            exact ⟨q, rfl, by rw [keysAt_ar hq]; exact hq, by rw [keysAt_ar hq]; rfl⟩
          · obtain ⟨ws, hw, hwp⟩ := paired_perm hpm hz3
            have s4 : Same H (upd (upd H2 d (.dT kvs)) p (.lst ys)) := hs3.trans (same_new hp)
            refine ⟨p, ys, rfl, .inl ⟨SqL.of upd_same, fun q hq => ?_⟩⟩
            have s5 : Same (upd H2 d (.dT kvs)) (upd (upd (upd H2 d (.dT kvs)) p (.lst ys)) q (.tup ys)) := (same_new hp).trans (same_new hq)
            refine k q ys ws _ (s4.free hq) upd_same (ArS.same hw s5) ?_ (hs3.trans s5)
            -- it is as it should be
            have nd : (ws.map Arw.k3).Nodup := (hwp.map Arw.k3).nodup_iff.mpr (by rw [e1]; exact hnd)
            have ord : ws.Pairwise fun x y => lexK y.ks x.ks = false := paired_pairwise (S := fun x y => lexK (keysAt (upd H2 d (.dT kvs)) y) (keysAt (upd H2 d (.dT kvs)) x) = false) (fun a a' b b' ⟨q1, h1, g1⟩ ⟨q2, h2, g2⟩ h => by
              rw [h1, h2, keysAt_ar g1, keysAt_ar g2] at h
              exact h) hw hpw
            refine ⟨?_, fun y hy => ?_, fun x hx => ?_⟩
            · have nd' : ws.Pairwise fun x y => x.k3 ≠ y.k3 := List.pairwise_map.mp nd
              refine (List.pairwise_and_iff.mpr ⟨ord, nd'⟩).imp fun {x y} ⟨h1, h2⟩ => ?_
              rw [lex_ks h2.symm] at h1
              exact lexK_tot h1 h2.symm
            · have hmc := e2 y (hwp.mem_iff.mp hy)
              obtain ⟨⟨x, hx, ex, ec⟩, hmin⟩ := minC_some hmc
              have e : x = y := Arw.eq_of ex ec
              exact ⟨by rw [← e]; exact hx, hmin⟩
            · cases hmc : minC xs x.k3 with
              | none => exact absurd rfl (minC_none hmc x hx)
              | some m =>
                have hval := hv x.k3
                rw [hmc] at hval
                have hmem : x.k3 ∈ kvs.map (·.1) := by
                  unfold valV at hval
                  cases hf : kvs.find? fun kv => decide (kv.1 = x.k3) with
                  | none => rw [hf] at hval; cases hval
                  | some p =>
                    have := List.find?_some hf
                    exact List.mem_map.mpr ⟨p, List.mem_of_find?_eq_some hf, of_decide_eq_true this⟩
                rw [← e1] at hmem
                obtain ⟨z, hz', ez⟩ := List.mem_map.mp hmem
                exact ⟨z, hwp.mem_iff.mpr hz', ez⟩
end
end Pf
namespace Pf
open PySem PySem.Spec PyProof.Rows L2 Bz
local macro_rules | `(tactic| walk_at "sd") => `(tactic| first
  | rfl | assumption | omega | exact Nat.le_of_ble_eq_true rfl | decide | (refine Or.inl (And.intro ?_ ?_) <;> omega) | (refine Or.inr (And.intro ?_ ?_) <;> omega) | (refine And.intro ?_ ?_ <;> omega) | (refine ⟨?_, ?_, ?_⟩ <;> omega))
local macro_rules | `(tactic| walk_at "sq") => `(tactic| first | assumption | exact SqL.of (by assumption) | exact SqT.of (by assumption) | exact SqL.of upd_same | exact SqT.of upd_same)
local macro_rules | `(tactic| walk_at "hp") => `(tactic| first | assumption | exact upd_same)
local macro_rules | `(tactic| walk_at "rd") => `(tactic| repeat (first
  | (refine ⟨_, rfl, ?_⟩) | (refine ⟨_, _, rfl, rfl, ?_⟩) | (refine ⟨rfl, ?_⟩) | (refine And.intro (by walk_at "sd") ?_)
  | (refine ⟨_, _, _, _, rfl, rfl, (by walk_at "sq"), rfl, ?_⟩)
  | (refine ⟨_, _, _, _, rfl, rfl, (by walk_at "hp"), rfl, ?_⟩)
  | (refine Or.inl ⟨_, rfl, ?_⟩)))
section
variable {P : Program} {w : World} {K : PySem.W.Frag} {mg : PySem.Str → Option Value} {base : Heap} {kl : Cl}
theorem ok_check_names (T : Facts K mg kl) : Keeps P w K mg base CX0 3 "check_names" ["states"] (spCheckNames K) := by
  refine keeps0 T.d_check_names sc_check_names (fun vs H Q E h => ?_) (fun f cdv A outer s H vs Q E hr h => ?_)
  · obtain ⟨a, ns, rfl, _⟩ := h
    rfl
  · obtain ⟨a, ns, rfl, hS, hN, k⟩ := h
    refine ⟨_, (pss_one (ps_for PassesOwn.never rfl (pi_or (kpi_list K (pv 0)) (kpi_tup K (pv 0))) (pg_name (i := 1) sc_check_names.nd rfl (Or.inl rfl))
  (pss_one (ps_if (pt_not (pt_val (pe_own (ok_is_name_s T) hr (pa_cons (pv 1) pa_nil))))
  (pss_one ps_never)
  pss_nil)))), ?_⟩
    rcases hS with hS | hS
    · refine .inl ⟨_, rfl, a, rfl, ⟨_, hS⟩, for_list (K := K) (a := a) (xs := ns.map V.str) (fun i σ H' => (∃ v, σ = [some (.ref a), v]) ∧ H' = H) ⟨⟨_, rfl⟩, rfl⟩ (fun i σ H' _ h => by rw [h.2]; exact hS) ?_ ?_⟩
      · rintro i y σ H' hi ⟨⟨v, rfl⟩, rfl⟩
        obtain ⟨u, rfl, hu⟩ := map_str hi
        have hn := hN u (List.mem_of_getElem? hu)
        refine ⟨_, rfl, u, rfl, nm_len hn, ?_⟩
        rw [nmB_iff.mpr hn]
        exact ⟨_, rfl, iteF ⟨⟨_, rfl⟩, rfl⟩⟩
      · rintro σ H' ⟨⟨v, rfl⟩, rfl⟩
        exact k
    · refine .inr ⟨_, rfl, a, rfl, ⟨_, hS⟩, for_tup (K := K) (a := a) (xs := ns.map V.str) (fun i σ H' => (∃ v, σ = [some (.ref a), v]) ∧ H' = H) ⟨⟨_, rfl⟩, rfl⟩ (fun i σ H' _ h => by rw [h.2]; exact hS) ?_ ?_⟩
      · rintro i y σ H' hi ⟨⟨v, rfl⟩, rfl⟩
        obtain ⟨u, rfl, hu⟩ := map_str hi
        have hn := hN u (List.mem_of_getElem? hu)
        refine ⟨_, rfl, u, rfl, nm_len hn, ?_⟩
        rw [nmB_iff.mpr hn]
        exact ⟨_, rfl, iteF ⟨⟨_, rfl⟩, rfl⟩⟩
      · rintro σ H' ⟨⟨v, rfl⟩, rfl⟩
        exact k
theorem ok_check_arrows (T : Facts K mg kl) : Keeps P w K mg base CX0 4 "check_arrows" ["arrows"] (spCheckArrows K) := by
  refine keeps0 T.d_check_arrows sc_check_arrows (fun vs H Q E h => ?_) (fun f cdv A outer s H vs Q E hr h => ?_)
  · obtain ⟨a, us, xs, rfl, _⟩ := h
    rfl
  · obtain ⟨a, us, xs, rfl, hS, hA, hO, hl, k⟩ := h
    refine ⟨_, (pss_one (ps_for PassesOwn.never rfl (pi_or (kpi_enumS K (by rfl) T.b_enumerate (pv 0)) (kpi_enumST K (by rfl) T.b_enumerate (pv 0))) (kpg_tup K rfl (pgs_cons (pg_name (i := 1) sc_check_arrows.nd rfl (Or.inl rfl)) (pgs_cons (pg_name (i := 2) sc_check_arrows.nd rfl (Or.inl rfl)) pgs_nil)))
  (pss_one (ps_if (PW.pt (pw_or (pt_cmpR op_gt (pv 1) (pe_cst T.c_MOST_ARROWS) (nomark _)) (pw_or1 (pt_not (pt_val (pe_own (ok_is_arrow T) hr (pa_cons (pv 2) pa_nil)))))))
  (pss_one ps_never)
  pss_nil)))), ?_⟩
    have hul : us.length = xs.length := Paired.length hA
    rcases hS with hS | hS
    · refine .inl ⟨_, rfl, a, us, rfl, hS, for_it walk_enumS (fun i σ H' => (∃ v v', σ = [some (.ref a), v, v']) ∧ Same H H') ⟨⟨_, _, rfl⟩, .refl H⟩ (fun i σ H' _ h => Same.seq h.2 hS) ?_ ?_⟩
      · rintro i x σ H1 H2 hi ⟨⟨v, v', rfl⟩, hs⟩ ⟨q, y, rfl, hq, rfl, hy⟩
        have hs2 : Same H (upd H1 q (.tup [.int (1 + (i : Int)), y])) := hs.trans (same_new hq)
        refine ⟨q, _, rfl, SqT.of upd_same, rfl, _, _, rfl, _, _, rfl, rfl, ?_⟩
        refine ⟨_, rfl, _, _, rfl, rfl, _, rfl, ?_⟩
        have e : decide (400 < 1 + (i : Int)) = false := decide_eq_false (by omega)
        rw [e]
        refine iteF ?_
        obtain ⟨q', x', rfl, hx', hq'⟩ := ArS.get hA hy
        have ox := hO x' (List.mem_of_getElem? hx')
        refine ⟨_, rfl, q', x', rfl, hs2 _ _ hq', nm_len ox.s, lt_len ox.l, nm_len ox.t, fun H3 hs3 => ?_⟩
        rw [arB_of ox]
        exact ⟨_, rfl, iteF ⟨⟨_, _, rfl⟩, hs2.trans hs3⟩⟩
      · rintro σ H' ⟨⟨v, v', rfl⟩, hs⟩
        exact k _ hs
    · refine .inr ⟨_, rfl, a, us, rfl, hS, for_it walk_enumST (fun i σ H' => (∃ v v', σ = [some (.ref a), v, v']) ∧ Same H H') ⟨⟨_, _, rfl⟩, .refl H⟩ (fun i σ H' _ h => sqt_same h.2 hS) ?_ ?_⟩
      · rintro i x σ H1 H2 hi ⟨⟨v, v', rfl⟩, hs⟩ ⟨q, y, rfl, hq, rfl, hy⟩
        have hs2 : Same H (upd H1 q (.tup [.int (1 + (i : Int)), y])) := hs.trans (same_new hq)
        refine ⟨q, _, rfl, SqT.of upd_same, rfl, _, _, rfl, _, _, rfl, rfl, ?_⟩
        refine ⟨_, rfl, _, _, rfl, rfl, _, rfl, ?_⟩
        have e : decide (400 < 1 + (i : Int)) = false := decide_eq_false (by omega)
        rw [e]
        refine iteF ?_
        obtain ⟨q', x', rfl, hx', hq'⟩ := ArS.get hA hy
        have ox := hO x' (List.mem_of_getElem? hx')
        refine ⟨_, rfl, q', x', rfl, hs2 _ _ hq', nm_len ox.s, lt_len ox.l, nm_len ox.t, fun H3 hs3 => ?_⟩
        rw [arB_of ox]
        exact ⟨_, rfl, iteF ⟨⟨_, _, rfl⟩, hs2.trans hs3⟩⟩
      · rintro σ H' ⟨⟨v, v', rfl⟩, hs⟩
        exact k _ hs
theorem ok_each_once (T : Facts K mg kl) : Keeps P w K mg base CX0 1 "each_once" ["names"] (spOnce K) := by
  refine keeps0 T.d_each_once sc_each_once (fun vs H Q E h => ?_) (fun f cdv A outer s H vs Q E hr h => ?_)
  · obtain ⟨a, ns, rfl, _⟩ := h
    rfl
  · obtain ⟨a, ns, rfl, hS, hl, k⟩ := h
    refine ⟨_, (pss_one (ps_ret (pe_callTy (ktuple_F K) (by rfl) T.b_tuple (by decide +kernel) (pa_cons (pe_callB (cr_sortedSetS rfl) (by rfl) T.b_sorted (by decide +kernel) (pa_cons (pe_callTy (ksetS K rfl) (by rfl) T.b_set (by decide +kernel) (pa_cons (pv 0) pa_nil)) pa_nil)) pa_nil)))), ?_⟩
    refine ⟨_, rfl, a, ns, rfl, hS, hl, fun p hp => ?_⟩
    have s1 := same_new (o := SetSO P w p (fun x => x ∈ ns) ns.length) hp
    refine ⟨p, _, _, rfl, upd_same, fun ys q h1 h2 h3 hq => ?_⟩
    have s2 := s1.trans (same_new (o := .lst (ys.map V.str)) hq)
    refine ⟨q, _, rfl, SqL.of upd_same, fun l u hl hu => ?_⟩
    exact k l ys _ (s2.free hl) ⟨u, upd_same, hu⟩ h1 h2 h3 (s2.trans (same_new hl))
theorem ok_all_states (T : Facts K mg kl) : Keeps P w K mg base CX0 2 "all_states" ["arrows", "starts", "ends"] (spStates K) := by
  refine keeps0 T.d_all_states sc_all_states (fun vs H Q E h => ?_) (fun f cdv A outer s H vs Q E hr h => ?_)
  · obtain ⟨t, a, b, us, xs, ss, es, rfl, _⟩ := h
    rfl
  · obtain ⟨t, a, b, us, xs, ss, es, rfl, ht, hA, ha, hb, l1, l2, l3, k⟩ := h
    refine ⟨_, (pss_cons (ps_set (i := 3) sc_all_states.nd rfl (Or.inl rfl) (pe_lst (kpa_star K (pv 1) (kpa_star K (pv 2) pa_nil))))
  (pss_cons (ps_for PassesOwn.never rfl (kpi_tup K (pv 0)) (kpg_tup K rfl (pgs_cons (pg_name (i := 4) sc_all_states.nd rfl (Or.inl rfl)) (pgs_cons (pg_name (i := 5) sc_all_states.nd rfl (Or.inl rfl)) (pgs_cons (pg_name (i := 6) sc_all_states.nd rfl (Or.inl rfl)) (pgs_cons (pg_name (i := 7) sc_all_states.nd rfl (Or.inl rfl)) pgs_nil)))))
  (pss_one (ps_expr (kbm K PySem.F.plainAttrs_list PySem.F.slot_list_extend PySem.F.type_list_extend mt_extend (pv 3) (pa_cons (pe_lst (pa_cons (pv 4) (pa_cons (pv 6) pa_nil))) pa_nil)))))
  (pss_one (ps_ret (pe_own (ok_each_once T) hr (pa_cons (pv 3) pa_nil)))))), ?_⟩
    refine ⟨_, rfl, a, _, rfl, ha.star, _, rfl, b, _, rfl, hb.star, ?_⟩
    have hul : us.length = xs.length := Paired.length hA
    refine ⟨Evl.sz_of (by simp; omega), fun n hn => ?_⟩
    have s0 : Same H (upd H n (.lst (ss.map V.str ++ (es.map V.str ++ [])))) := same_new hn
    refine ⟨_, rfl, t, rfl, ⟨_, SqT.of (s0 _ _ ht)⟩, for_tup (K := K) (a := t) (xs := us) (fun i σ H' => ∃ (v1 v2 v3 v4 : Option V) (ns : List PySem.Str), σ = [some (.ref t), some (.ref a), some (.ref b), some (.ref n), v1, v2, v3, v4] ∧ H' n = some (.lst (ns.map V.str)) ∧ Same H H' ∧
        (∀ k, k ∈ ns ↔ (k ∈ ss ∨ k ∈ es ∨ ∃ x ∈ xs.take i, k = x.s ∨ k = x.t)) ∧ ns.length ≤ 2000 + 2 * i) ?_ (fun i σ H' _ ⟨_, _, _, _, _, _, _, hs, _⟩ => SqT.of (hs _ _ ht)) ?_ ?_⟩
    · refine ⟨_, _, _, _, ss ++ es, rfl, by rw [List.map_append]; simpa using upd_same, s0, fun k => by simp, by simp; omega⟩
    · rintro i y σ H1 hi ⟨v1, v2, v3, v4, ns, rfl, h1, hs, hm, hlen⟩
      obtain ⟨q, x, rfl, hx, hq⟩ := ArS.get hA hi
      refine ⟨q, _, rfl, SqT.of (hs _ _ hq), rfl, _, _, rfl, _, _, rfl, _, _, rfl, _, _, rfl, rfl, ?_⟩
      refine ⟨_, rfl, .inl ⟨rfl, _, SqL.of h1⟩, _, rfl, _, rfl, Nat.le_of_ble_eq_true rfl, fun l hl => ?_⟩
      have nln : n ≠ l := ne_of_none h1 hl
      have hi' : i < xs.length := by rw [← hul]; exact (List.getElem?_eq_some_iff.mp hi).1
      refine ⟨n, l, ns.map V.str, _, rfl, rfl, (upd_ne nln).trans h1, upd_same, Evl.sz_of (by simp; omega), ?_⟩
      refine ⟨_, _, _, _, ns ++ [x.s, x.t], rfl, by rw [List.map_append]; exact upd_same, same_mut (hs.trans (same_new hl)) hn, fun k => ?_, by simp; omega⟩
      · rw [List.mem_append, hm, List.take_add_one, hx]
        simp only [List.mem_cons, List.not_mem_nil, or_false, List.mem_append, Option.toList_some]
        constructor
        · rintro ((h | h | ⟨z, hz, e⟩) | h)
          · exact .inl h
          · exact .inr (.inl h)
          · exact .inr (.inr ⟨z, .inl hz, e⟩)
          · exact .inr (.inr ⟨x, .inr rfl, h⟩)
        · rintro (h | h | ⟨z, hz | hz, e⟩)
          · exact .inl (.inl h)
          · exact .inl (.inr (.inl h))
          · exact .inl (.inr (.inr ⟨z, hz, e⟩))
          · rw [hz] at e
            exact .inr e
    · rintro σ H1 ⟨v1, v2, v3, v4, ns, rfl, h1, hs, hm, hlen⟩
      refine ⟨_, rfl, n, ns, rfl, .inl (SqL.of h1), by omega, fun q os H2 hq h2 ha' hk hlo hs2 => ?_⟩
      refine k q os H2 (hs.free hq) h2 ha' (fun k => ?_) (hs.trans hs2)
      rw [hk, hm, hul, List.take_length]
end
end Pf
namespace Pf
open PySem PySem.Spec PyProof.Rows L2 Bz
local macro_rules | `(tactic| walk_at "sd") => `(tactic| first
  | rfl | assumption | omega | exact Nat.le_of_ble_eq_true rfl | decide | (refine Or.inl (And.intro ?_ ?_) <;> omega) | (refine Or.inr (And.intro ?_ ?_) <;> omega) | (refine And.intro ?_ ?_ <;> omega) | (refine ⟨?_, ?_, ?_⟩ <;> omega))
local macro_rules | `(tactic| walk_at "sq") => `(tactic| first | assumption | exact SqL.of (by assumption) | exact SqT.of (by assumption) | exact SqL.of upd_same | exact SqT.of upd_same)
local macro_rules | `(tactic| walk_at "hp") => `(tactic| first | assumption | exact upd_same)
local macro_rules | `(tactic| walk_at "rd") => `(tactic| repeat (first
  | (refine ⟨_, rfl, ?_⟩) | (refine ⟨_, _, rfl, rfl, ?_⟩) | (refine ⟨rfl, ?_⟩) | (refine And.intro (by walk_at "sd") ?_)
  | (refine ⟨_, _, _, _, rfl, rfl, (by walk_at "sq"), rfl, ?_⟩)
  | (refine ⟨_, _, _, _, rfl, rfl, (by walk_at "hp"), rfl, ?_⟩)
  | (refine Or.inl ⟨_, rfl, ?_⟩)))
section
variable {P : Program} {w : World} {K : PySem.W.Frag} {mg : PySem.Str → Option Value} {base : Heap} {kl : Cl}
theorem mk_Machine (T : Facts K mg kl) : Makes P w K mg base kl.Machine 5 ["self", "arrows", "starts", "ends"] (spInit K kl.Machine) := by
  refine makes0 T.i_Machine sc_Machine___init__ (fun vs H Q E h => ?_) (fun f cdv A outer s H vs Q E hr h => ?_)
  · obtain ⟨m, a, b, e, dx, us, xs, ss, es, ns, rfl, _⟩ := h
    rfl
  · obtain ⟨m, a, b, e, dx, us, xs, ss, es, ns, rfl, hm, ha, hA, hO, l1, hb, he, nb, ne, l2, l3, l4, n1, n2, n3, k⟩ := h
    refine ⟨_, (pss_cons (ps_expr (pe_own (ok_check_arrows T) hr (pa_cons (pv 1) pa_nil)))
  (pss_cons (ps_expr (pe_own (ok_check_names T) hr (pa_cons (pv 2) pa_nil)))
  (pss_cons (ps_expr (pe_own (ok_check_names T) hr (pa_cons (pv 3) pa_nil)))
  (pss_cons (ps_set (i := 4) sc_Machine___init__.nd rfl (Or.inl rfl) (pe_own (ok_cheapest T) hr (pa_cons (pv 1) pa_nil)))
  (pss_cons (ps_set (i := 5) sc_Machine___init__.nd rfl (Or.inl rfl) (pe_own (ok_all_states T) hr (pa_cons (pv 4) (pa_cons (pv 2) (pa_cons (pv 3) pa_nil)))))
  (pss_cons (ps_if (pt_cmpR op_gt (pe_callB (kcall_len K) (by rfl) T.b_len (by decide +kernel) (pa_cons (pv 5) pa_nil)) (pe_cst T.c_MOST_STATES) (nomark _))
  (pss_one ps_never)
  pss_nil)
  (pss_cons (ps_fld (pv 0) (pv 4) rfl)
  (pss_cons (ps_fld (pv 0) (pe_own (ok_each_once T) hr (pa_cons (pv 2) pa_nil)) rfl)
  (pss_cons (ps_fld (pv 0) (pe_own (ok_each_once T) hr (pa_cons (pv 3) pa_nil)) rfl)
  (pss_cons (ps_fld (pv 0) (pv 5) rfl)
  (pss_one (ps_fld (pv 0) (pe_own (ok_each_once T) hr (pa_cons (pe_lc (own := [("state", 6), ("letter", 7), ("after", 8), ("cost", 9)]) (g := gTup K 4 (gCons (gName 6) (gCons (gName 7) (gCons (gName 8) (gCons (gName 9) (gNil)))))) (tt := tYes) rfl sc_Machine___init__.nd (kpi_tup K (pv 4)) (blkOk_by (own := [("state", 6), ("letter", 7), ("after", 8), ("cost", 9)]) (N := N_Machine___init__) (sc := defScope s_Machine___init__) (by decide +kernel)) (fun _ _ _ _ _ => (kpg_tup K rfl (pgs_cons (pg_name (i := 6) sc_Machine___init__.nd rfl (Or.inl rfl)) (pgs_cons (pg_name (i := 7) sc_Machine___init__.nd rfl (Or.inl rfl)) (pgs_cons (pg_name (i := 8) sc_Machine___init__.nd rfl (Or.inl rfl)) (pgs_cons (pg_name (i := 9) sc_Machine___init__.nd rfl (Or.inl rfl)) pgs_nil)))))) (fun _ _ _ _ _ => pts_nil) (fun _ _ _ _ _ => (pv 7))) pa_nil)) rfl)))))))))))), ?_⟩
    -- check_arrows(arrows), check_names(starts), check_names(ends)
    refine ⟨_, rfl, a, us, xs, rfl, ha, hA, hO, l1, fun H1 s1 => ?_⟩
    refine ⟨_, rfl, b, ss, rfl, hb.same s1, nb, ?_⟩
    refine ⟨_, rfl, e, es, rfl, he.same s1, ne, ?_⟩
    -- counted, states
    refine ⟨_, rfl, a, us, xs, rfl, ha.same s1, hA.same s1, by omega, fun q1 ws ys H2 f1 h2 hW hC s2 => ?_⟩
    have S2 := s1.trans s2
    have yl : ys.length ≤ 500 := by
      have q := nodup_le (L := ys) (ts := xs) ?_ fun y hy => (hC.sub y hy).1
      · omega
      · exact hC.asc.imp fun {x y} h z => by rw [z, lexK_irr] at h; cases h
    refine ⟨_, rfl, _, rfl, _, rfl, q1, b, e, ws, ys, ss, es, rfl, h2, hW, hb.same S2, he.same S2, yl, l2, l3, fun q2 os H3 f2 h3 ho ho2 s3 => ?_⟩
    obtain ⟨u2, h3, z3⟩ := h3
    have S3 := S2.trans s3
    have ol : os.length ≤ 40 := by
      refine Nat.le_trans (nodup_le ?_ fun k hk => ?_) l4
      · exact ho.imp fun {x y} h z => by rw [z] at h; exact List.lt_irrefl _ h
      · rcases (ho2 k).mp hk with h | h | ⟨x, hx, h | h⟩
        · exact n1 k h
        · exact n2 k h
        · rw [h]
          exact (n3 x (hC.sub x hx).1).1
        · rw [h]
          exact (n3 x (hC.sub x hx).1).2
    refine ⟨_, rfl, _, os.length, rfl, .inr ⟨_, FzT.sq ⟨u2, h3, z3⟩, by rw [List.length_map]⟩, _, _, rfl, rfl, _, rfl, ?_⟩
    have z : decide ((40 : Int) < (os.length : Nat)) = false := decide_eq_false (by omega)
    rw [z]
    refine iteF ?_
    have m3 := S3 _ _ hm
    -- held_arrows
    refine ⟨_, rfl, _, rfl, m, kl.Machine, dx, _, rfl, m3, T.cl_Machine, T.n_Machine_held_arrows, Nat.le_of_ble_eq_true rfl, ?_⟩
    rw [putf0]
    have x4 : Ext m H (upd H3 m (.ins kl.Machine dx [(("held_arrows" : PySem.Str), V.ref q1)])) := (Same.ext S3).trans But.upd.ext
    have b4 := sqe_ins (o := .ins kl.Machine dx [(("held_arrows" : PySem.Str), V.ref q1)]) (hb.same S3) m3
    have e4 := sqe_ins (o := .ins kl.Machine dx [(("held_arrows" : PySem.Str), V.ref q1)]) (he.same S3) m3
    have n1m : q1 ≠ m := ne_of h2 (S2 _ _ hm) (by intro z; cases z)
    have n2m : q2 ≠ m := ne_of h3 m3 (fun z => z3.nins _ _ _ z)
    have x34 : Ext m H3 (upd H3 m (.ins kl.Machine dx [(("held_arrows" : PySem.Str), V.ref q1)])) := But.upd.ext
    -- held_starts
    refine ⟨_, rfl, b, ss, rfl, b4, by omega, fun q3 so H5 f5 h5 hs hs2 hsl s5 => ?_⟩
    obtain ⟨u3, h5, z5⟩ := h5
    have m5 := s5 _ _ upd_same
    have n3m : q3 ≠ m := ne_of h5 m5 (fun z => z5.nins _ _ _ z)
    refine ⟨_, rfl, m, kl.Machine, dx, _, rfl, m5, T.cl_Machine, T.n_Machine_held_starts, Nat.le_of_ble_eq_true rfl, ?_⟩
    rw [putf1]
    have e6 := sqe_ins (o := .ins kl.Machine dx [(("held_arrows" : PySem.Str), V.ref q1), (("held_starts" : PySem.Str), V.ref q3)]) (e4.same s5) m5
    have x36 := (x34.trans (Same.ext s5)).trans (But.upd (p := m) (H := H5) (o := .ins kl.Machine dx [(("held_arrows" : PySem.Str), V.ref q1), (("held_starts" : PySem.Str), V.ref q3)])).ext
    -- held_ends
    refine ⟨_, rfl, e, es, rfl, e6, by omega, fun q4 eo H7 f7 h7 hq hq2 hql s7 => ?_⟩
    obtain ⟨u4, h7, z7⟩ := h7
    have m7 := s7 _ _ upd_same
    have n4m : q4 ≠ m := ne_of h7 m7 (fun z => z7.nins _ _ _ z)
    refine ⟨_, rfl, m, kl.Machine, dx, _, rfl, m7, T.cl_Machine, T.n_Machine_held_ends, Nat.le_of_ble_eq_true rfl, ?_⟩
    rw [putf2]
    have x38 := (x36.trans (Same.ext s7)).trans (But.upd (p := m) (H := H7) (o := .ins kl.Machine dx [(("held_arrows" : PySem.Str), V.ref q1), (("held_starts" : PySem.Str), V.ref q3), (("held_ends" : PySem.Str), V.ref q4)])).ext
    -- held_states
    refine ⟨_, rfl, _, rfl, m, kl.Machine, dx, _, rfl, upd_same, T.cl_Machine, T.n_Machine_held_states, Nat.le_of_ble_eq_true rfl, ?_⟩
    rw [putf3]
    have x39 := x38.trans (But.upd (p := m) (o := .ins kl.Machine dx [(("held_arrows" : PySem.Str), V.ref q1), (("held_starts" : PySem.Str), V.ref q3), (("held_ends" : PySem.Str), V.ref q4), (("held_states" : PySem.Str), V.ref q2)])).ext
    generalize hH9 : upd (upd H7 m (.ins kl.Machine dx [(("held_arrows" : PySem.Str), V.ref q1), (("held_starts" : PySem.Str), V.ref q3), (("held_ends" : PySem.Str), V.ref q4)])) m (.ins kl.Machine dx [(("held_arrows" : PySem.Str), V.ref q1), (("held_starts" : PySem.Str), V.ref q3), (("held_ends" : PySem.Str), V.ref q4), (("held_states" : PySem.Str), V.ref q2)]) = H9 at x39 ⊢
    have m9 : H9 m = some (.ins kl.Machine dx [(("held_arrows" : PySem.Str), V.ref q1), (("held_starts" : PySem.Str), V.ref q3), (("held_ends" : PySem.Str), V.ref q4), (("held_states" : PySem.Str), V.ref q2)]) := by rw [← hH9]; exact upd_same
    have t9 : H9 q1 = some (.tup ws) := x39 _ _ n1m (s3 _ _ h2)
    have w9 : ArS H9 ws ys := Paired.mapP hW fun v x ⟨q, ev, hq⟩ => ⟨q, ev, x39 _ _ (ne_of (s3 _ _ hq) m3 (by intro z; cases z)) (s3 _ _ hq)⟩
    have wl : ws.length = ys.length := Paired.length hW
    -- held_letters
    refine ⟨_, rfl, q1, rfl, ⟨_, SqT.of t9⟩, fun D hD => lcA walk_tup (fun i acc H' => acc = (ys.take i).map (fun x => V.str x.l) ∧ Same H9 H') ⟨rfl, .refl H9⟩ (fun i acc H' o h => ⟨h.1, same_mut h.2 hD⟩) (fun i acc H' _ h => SqT.of (h.2 _ _ t9)) ?_ ?_⟩
    · rintro i x acc _ H10 hi ⟨rfl, s10⟩ hA10 hl10 ⟨rfl, hx⟩
      obtain ⟨q, y, rfl, hy, hq⟩ := ArS.get (w9.same s10) hx
      refine ⟨q, _, rfl, SqT.of hq, rfl, _, _, rfl, _, _, rfl, _, _, rfl, _, _, rfl, rfl, rfl, ?_⟩
      refine ⟨_, rfl, LcP.put (fun i acc H' o h => ⟨h.1, same_mut h.2 hD⟩) hA10 hl10 (by omega) ⟨?_, s10⟩⟩
      rw [List.take_add_one, hy, List.map_append]
      rfl
    · rintro acc H10 ⟨rfl, s10⟩ hA10 hl10
      rw [wl, List.take_length] at hA10
      have hA10' : SqL K H10 D ((ys.map Arw.l).map V.str) := by
        refine SqL.of (hA10.trans ?_)
        rw [List.map_map]
        rfl
      refine ⟨D, ys.map Arw.l, rfl, .inl hA10', by rw [List.length_map]; omega, fun q5 lo H11 f11 h11 hlo hlo2 hll s11 => ?_⟩
      obtain ⟨u5, h11, z11⟩ := h11
      have m11 := s11 _ _ (s10 _ _ m9)
      have n5m : q5 ≠ m := ne_of h11 m11 (fun z => z11.nins _ _ _ z)
      refine ⟨_, rfl, m, kl.Machine, dx, _, rfl, m11, T.cl_Machine, T.n_Machine_held_letters, Nat.le_of_ble_eq_true rfl, ?_⟩
      rw [putf4]
      have xf : Ext m H3 (upd H11 m (.ins kl.Machine dx [(("held_arrows" : PySem.Str), V.ref q1), (("held_starts" : PySem.Str), V.ref q3), (("held_ends" : PySem.Str), V.ref q4), (("held_states" : PySem.Str), V.ref q2), (("held_letters" : PySem.Str), V.ref q5)])) :=
        (x39.trans (Same.ext (s10.trans s11))).trans But.upd.ext
      have x5f : ∀ q o, q ≠ m → H5 q = some o → (upd H11 m (.ins kl.Machine dx [(("held_arrows" : PySem.Str), V.ref q1), (("held_starts" : PySem.Str), V.ref q3), (("held_ends" : PySem.Str), V.ref q4), (("held_states" : PySem.Str), V.ref q2), (("held_letters" : PySem.Str), V.ref q5)])) q = some o := fun q o n h => by
        rw [upd_ne n]
        refine s11 _ _ (s10 _ _ ?_)
        rw [← hH9, upd_ne n, upd_ne n]
        exact s7 _ _ ((upd_ne n).trans h)
      have x7f : ∀ q o, q ≠ m → H7 q = some o → (upd H11 m (.ins kl.Machine dx [(("held_arrows" : PySem.Str), V.ref q1), (("held_starts" : PySem.Str), V.ref q3), (("held_ends" : PySem.Str), V.ref q4), (("held_states" : PySem.Str), V.ref q2), (("held_letters" : PySem.Str), V.ref q5)])) q = some o := fun q o n h => by
        rw [upd_ne n]
        refine s11 _ _ (s10 _ _ ?_)
        rw [← hH9, upd_ne n, upd_ne n]
        exact h
      refine k ⟨ys, so, eo, os, lo⟩ _ ⟨dx, q1, q3, q4, q2, q5, ws, ⟨upd_same, xf _ _ n1m (s3 _ _ h2), ?_, ⟨u3, x5f _ _ n3m h5, z5⟩, ⟨u4, x7f _ _ n4m h7, z7⟩, ⟨u2, xf _ _ n2m h3, z3⟩, ⟨u5, (upd_ne n5m).trans h11, z11⟩⟩⟩ ⟨hC, ⟨hs, hs2⟩, ⟨hq, hq2⟩, ⟨ho, ho2⟩, ⟨hlo, fun k => ?_⟩⟩ fun q o n h => xf q o n (S3 q o h)
      · exact Paired.mapP hW fun v x ⟨q, ev, hq⟩ => ⟨q, ev, xf _ _ (ne_of (s3 _ _ hq) m3 (by intro z; cases z)) (s3 _ _ hq)⟩
      · rw [hlo2]
        simp only [List.mem_map]
        exact ⟨fun ⟨x, hx, e⟩ => ⟨x, hx, e.symm⟩, fun ⟨x, hx, e⟩ => ⟨x, hx, e.symm⟩⟩
end
end Pf
namespace Pf
open PySem PySem.Spec PyProof.Rows L2 Bz
local macro_rules | `(tactic| walk_at "sd") => `(tactic| first
  | rfl | assumption | omega | exact Nat.le_of_ble_eq_true rfl | decide | (refine Or.inl (And.intro ?_ ?_) <;> omega) | (refine Or.inr (And.intro ?_ ?_) <;> omega) | (refine And.intro ?_ ?_ <;> omega) | (refine ⟨?_, ?_, ?_⟩ <;> omega))
local macro_rules | `(tactic| walk_at "sq") => `(tactic| first | assumption | exact SqL.of (by assumption) | exact SqT.of (by assumption) | exact SqL.of upd_same | exact SqT.of upd_same)
local macro_rules | `(tactic| walk_at "hp") => `(tactic| first | assumption | exact upd_same)
local macro_rules | `(tactic| walk_at "rd") => `(tactic| repeat (first
  | (refine ⟨_, rfl, ?_⟩) | (refine ⟨_, _, rfl, rfl, ?_⟩) | (refine ⟨rfl, ?_⟩) | (refine And.intro (by walk_at "sd") ?_)
  | (refine ⟨_, _, _, _, rfl, rfl, (by walk_at "sq"), rfl, ?_⟩)
  | (refine ⟨_, _, _, _, rfl, rfl, (by walk_at "hp"), rfl, ?_⟩)
  | (refine Or.inl ⟨_, rfl, ?_⟩)))
section
variable {P : Program} {w : World} {K : PySem.W.Frag} {mg : PySem.Str → Option Value} {base : Heap} {kl : Cl}
theorem ok_moves_by_letter (T : Facts K mg kl) : Keeps P w K mg base CX0 3 "moves_by_letter" ["machine"] (spMoves K kl.Machine) := by
  refine keeps0 T.d_moves_by_letter sc_moves_by_letter (fun vs H Q E h => ?_) (fun f cdv A outer s H vs Q E hr h => ?_)
  · obtain ⟨m, M, rfl, _⟩ := h
    rfl
  · obtain ⟨m, M, rfl, hM, hG, k⟩ := h
    refine ⟨_, (pss_cons (ps_setDc (i := 2) (own := [("letter", 1)]) (g := gName 1) (tt := tYes) rfl sc_moves_by_letter.nd rfl rfl (swD_true rfl rfl rfl (by decide +kernel)) (kpi_tup K (pe_pr (pv 0) hr T.cl_Machine T.p_Machine_letters T.n_Machine_held_letters sc_Machine_letters)) (blkOk_by (own := [("letter", 1)]) (N := N_moves_by_letter) (sc := defScope s_moves_by_letter) (by decide +kernel)) (fun _ _ _ _ _ => (pg_name (i := 1) sc_moves_by_letter.nd rfl (Or.inl rfl))) (fun _ _ _ _ _ => pts_nil) (fun _ _ _ _ _ => (pv 1)) (fun _ _ _ _ _ => (pe_lst pa_nil)))
  (pss_cons (ps_for PassesOwn.never rfl (kpi_tup K (pe_pr (pv 0) hr T.cl_Machine T.p_Machine_arrows T.n_Machine_held_arrows sc_Machine_arrows)) (kpg_tup K rfl (pgs_cons (pg_name (i := 3) sc_moves_by_letter.nd rfl (Or.inl rfl)) (pgs_cons (pg_name (i := 1) sc_moves_by_letter.nd rfl (Or.inl rfl)) (pgs_cons (pg_name (i := 4) sc_moves_by_letter.nd rfl (Or.inl rfl)) (pgs_cons (pg_name (i := 5) sc_moves_by_letter.nd rfl (Or.inl rfl)) pgs_nil)))))
  (pss_one (ps_expr (kbm K PySem.F.plainAttrs_list PySem.F.slot_list_append PySem.F.type_list_append mt_append (pe_dget (hu_of hr) (pv 2) (pv 1) (fun _ _ => rfl)) (pa_cons (pe_tup (pa_cons (pv 3) (pa_cons (pv 4) (pa_cons (pv 5) pa_nil)))) pa_nil)))))
  (pss_one (ps_ret (pv 2))))), ?_⟩
    obtain ⟨dx, t1, t2, t3, t4, t5, ws, hM⟩ := hM
    refine ⟨_, rfl, m, dx, _, rfl, hM.ins, m, dx, _, _, rfl, hM.ins, mfs5 .., t5, rfl, ⟨_, hM.a5.sq⟩, fun D hD => ?_⟩
    refine dc_it walk_tup (fun i H' => ∃ ps : List (PySem.Str × Addr), MvInv H H' D ps (fun _ => []) ∧ ps.map (·.1) = M.lets.take i) ⟨[], ⟨upd_same, .nil, fun p hp => (by cases hp), same_new hD, hD⟩, rfl⟩ (fun i H' _ ⟨ps, h, _⟩ => (hM.a5.on h.same).sq) ?_ ?_
    · rintro i x H1 _ hi ⟨ps, hI, hps⟩ ⟨rfl, hx⟩
      obtain ⟨l, rfl, hl⟩ := map_str hx
      refine ⟨rfl, _, rfl, Nat.zero_le _, fun q hq => ?_⟩
      have nq : D ≠ q := ne_of_none hI.d hq
      have hi' : i < M.lets.length := by rw [List.length_map] at hi; exact hi
      have pl : ps.length = i := by
        have q := congrArg List.length hps
        rw [List.length_map, List.length_take] at q
        omega
      have hll := hG.ll
      refine ⟨ps.map pk, .inr l, rfl, (upd_ne nq).trans hI.d, by rw [List.length_map]; exact Nat.lt_of_lt_of_le (show ps.length < 1000 by omega) (by decide), ps ++ [(l, q)], hI.put ?_ hq, ?_⟩
      · rw [hps]
        have q1 := hG.nd.sublist (List.take_sublist (i + 1) M.lets)
        rw [List.take_add_one, hl] at q1
        exact fun hm => (List.nodup_append.mp q1).2.2 l hm l (List.mem_singleton.mpr rfl) rfl
      · rw [List.map_append, hps, List.take_add_one, hl]
        rfl
    · rintro H1 ⟨ps, hI, hps⟩
      rw [List.length_map, List.take_length] at hps
      have hnd : (ps.map (·.1)).Nodup := by rw [hps]; exact hG.nd
      have wl : ws.length = M.ars.length := Paired.length hM.as
      refine ⟨_, rfl, m, dx, _, rfl, hI.same _ _ hM.ins, m, dx, _, _, rfl, hI.same _ _ hM.ins, mfs1 .., t1, rfl, ⟨_, SqT.of (hI.same _ _ hM.a1)⟩, ?_⟩
      refine for_tup (K := K) (a := t1) (xs := ws) (fun i σ H' => ∃ (v1 v2 v3 v4 : Option V), σ = [some (.ref m), v1, some (.ref D), v2, v3, v4] ∧ MvInv H H' D ps fun l => ((M.ars.take i).filter fun x => decide (x.l = l)).map mvOf) ⟨_, _, _, _, rfl, hI⟩ (fun i σ H' _ ⟨_, _, _, _, _, h⟩ => SqT.of (h.same _ _ hM.a1)) ?_ ?_
      · rintro i y σ H2 hi ⟨v1, v2, v3, v4, rfl, hJ⟩
        obtain ⟨q, x, rfl, hx, hq⟩ := ArS.get hM.as hi
        have hlm : x.l ∈ ps.map (·.1) := by rw [hps]; exact hG.all x (List.mem_of_getElem? hx)
        obtain ⟨p, us, hp, hval, hpu, hmv⟩ := hJ.val hnd hlm
        have hi' : i < M.ars.length := (List.getElem?_eq_some_iff.mp hx).1
        have hal := hG.al
        refine ⟨q, _, rfl, SqT.of (hJ.same _ _ hq), rfl, _, _, rfl, _, _, rfl, _, _, rfl, _, _, rfl, rfl, ?_⟩
        have gd : DGet H2 D (.str x.l) (some (.ref p)) := by
          rw [← hval]
          exact DGet.k (k := .inr x.l) hJ.d
        refine ⟨_, rfl, _, rfl, D, .ref p, rfl, gd, .inl ⟨rfl, _, SqL.of hpu⟩, ?_⟩
        refine ⟨_, rfl, _, rfl, _, rfl, Nat.le_of_ble_eq_true rfl, fun t ht => ?_⟩
        have ntp : p ≠ t := ne_of_none hpu ht
        have ul : us.length ≤ i := by
          rw [Paired.length hmv, List.length_map]
          refine Nat.le_trans (List.length_filter_le _ _) ?_
          rw [List.length_take]
          omega
        refine ⟨p, us, _, rfl, rfl, (upd_ne ntp).trans hpu, Nat.lt_of_le_of_lt (show us.length ≤ 500 by omega) (by decide), ?_⟩
        refine ⟨_, _, _, _, rfl, ?_⟩
        have q2 := hJ.add (m := mvOf x) hnd hp hpu hmv ht
        refine cast (congrArg (MvInv H _ D ps) (funext fun l => ?_)) q2
        rw [List.take_add_one, hx]
        show (if l = x.l then _ else _) = ((M.ars.take i ++ [x]).filter fun x => decide (x.l = l)).map mvOf
        rw [List.filter_append, List.map_append]
        by_cases e : l = x.l
        · subst e
          rw [if_pos rfl]
          simp
        · have z : ([x].filter fun y => decide (y.l = l)) = [] := by
            rw [List.filter_cons_of_neg (by intro c; exact e (of_decide_eq_true c).symm)]
            rfl
          rw [if_neg e, z, List.map_nil, List.append_nil]
      · rintro σ H2 ⟨v1, v2, v3, v4, rfl, hJ⟩
        rw [wl, List.take_length] at hJ
        refine ⟨_, rfl, k D (ps.map pk) H2 hD hJ.d (fun l => ?_) hJ.same⟩
        by_cases hl : l ∈ ps.map (·.1)
        · obtain ⟨q, us, _, h1, h2, h3⟩ := hJ.val hnd hl
          exact .inr ⟨q, us, h1, SqL.of h2, h3⟩
        · refine .inl ⟨valV_none fun c => hl (pk_mem.mp c), fun x hx e => hl ?_⟩
          rw [hps, ← e]
          exact hG.all x hx
end
end Pf
namespace Pf
open PySem PySem.Spec PyProof.Rows L2 Bz
local macro_rules | `(tactic| walk_at "sd") => `(tactic| first
  | rfl | assumption | omega | exact Nat.le_of_ble_eq_true rfl | decide | (refine Or.inl (And.intro ?_ ?_) <;> omega) | (refine Or.inr (And.intro ?_ ?_) <;> omega) | (refine And.intro ?_ ?_ <;> omega) | (refine ⟨?_, ?_, ?_⟩ <;> omega))
local macro_rules | `(tactic| walk_at "sq") => `(tactic| first | assumption | exact SqL.of (by assumption) | exact SqT.of (by assumption) | exact SqL.of upd_same | exact SqT.of upd_same)
local macro_rules | `(tactic| walk_at "hp") => `(tactic| first | assumption | exact upd_same)
local macro_rules | `(tactic| walk_at "rd") => `(tactic| repeat (first
  | (refine ⟨_, rfl, ?_⟩) | (refine ⟨_, _, rfl, rfl, ?_⟩) | (refine ⟨rfl, ?_⟩) | (refine And.intro (by walk_at "sd") ?_)
  | (refine ⟨_, _, _, _, rfl, rfl, (by walk_at "sq"), rfl, ?_⟩)
  | (refine ⟨_, _, _, _, rfl, rfl, (by walk_at "hp"), rfl, ?_⟩)
  | (refine Or.inl ⟨_, rfl, ?_⟩)))
section
variable {P : Program} {w : World} {K : PySem.W.Frag} {mg : PySem.Str → Option Value} {base : Heap} {kl : Cl}
theorem ok_reached (T : Facts K mg kl) : Keeps P w K mg base CX0 1 "reached" ["starts", "arrows"] (spReached K) := by
  refine keeps0 T.d_reached sc_reached (fun vs H Q E h => ?_) (fun f cdv A outer s H vs Q E hr h => ?_)
  · obtain ⟨b, a, us, xs, ss, rfl, _⟩ := h
    rfl
  · obtain ⟨b, a, us, xs, ss, rfl, hb, ha, hA, sl, xl, k⟩ := h
    refine ⟨_, (pss_cons (ps_set (i := 2) sc_reached.nd rfl (Or.inl rfl) pe_dnewK)
  (pss_cons (ps_for PassesOwn.never rfl (pi_or (kpi_list K (pv 1)) (kpi_tup K (pv 1))) (kpg_tup K rfl (pgs_cons (pg_name (i := 3) sc_reached.nd rfl (Or.inl rfl)) (pgs_cons (pg_name (i := 4) sc_reached.nd rfl (Or.inl rfl)) (pgs_cons (pg_name (i := 5) sc_reached.nd rfl (Or.inl rfl)) (pgs_cons (pg_name (i := 6) sc_reached.nd rfl (Or.inl rfl)) pgs_nil)))))
  (pss_one (ps_expr (kbm K PySem.F.plainAttrs_list PySem.F.slot_list_append PySem.F.type_list_append mt_append (pe_dsetd (pv 2) (pv 3) (pe_lst pa_nil) ⟨rfl, rfl, rfl, rfl⟩) (pa_cons (pv 5) pa_nil)))))
  (pss_cons (ps_setDc (i := 7) (own := [("state", 3)]) (g := gName 3) (tt := tYes) rfl sc_reached.nd rfl rfl (swD_true rfl rfl rfl (by decide +kernel)) (pi_or (kpi_list K (pv 0)) (kpi_tup K (pv 0))) (blkOk_by (own := [("state", 3)]) (N := N_reached) (sc := defScope s_reached) (by decide +kernel)) (fun _ _ _ _ _ => (pg_name (i := 3) sc_reached.nd rfl (Or.inl rfl))) (fun _ _ _ _ _ => pts_nil) (fun _ _ _ _ _ => (pv 3)) (fun _ _ _ _ _ => pe_bl))
  (pss_cons (ps_set (i := 8) sc_reached.nd rfl (Or.inl rfl) (pe_callTy (klistD rfl) (by rfl) T.b_list (by decide +kernel) (pa_cons (pv 7) pa_nil)))
  (pss_cons (ps_while PassesOwn.never (pt_truth (pv 8) (by intro _; rfl))
  (pss_cons (ps_set (i := 9) sc_reached.nd rfl (Or.inl rfl) (kbm0 K PySem.F.plainAttrs_list PySem.F.slot_list_pop PySem.F.type_list_pop mt_pop (pv 8)))
  (pss_one (ps_for PassesOwn.never rfl (kpi_list K (pe_dget2 (hu_of hr) (pv 2) (pv 9) (pe_lst pa_nil) ⟨rfl, rfl, rfl, rfl⟩)) (pg_name (i := 5) sc_reached.nd rfl (Or.inl rfl))
  (pss_one (ps_if (pt_cmp (pc_dnotin (hu_of hr) (pv 5) (pv 7)))
  (pss_cons (ps_dput (hu_of hr) (pv 7) (pv 5) pe_bl rfl)
  (pss_one (ps_expr (kbm K PySem.F.plainAttrs_list PySem.F.slot_list_append PySem.F.type_list_append mt_append (pv 8) (pa_cons (pv 5) pa_nil)))))
  pss_nil))))))
  (pss_one (ps_ret (pv 7)))))))), ?_⟩
    have ul : us.length = xs.length := Paired.length hA
    -- what each state leads to
    refine fun D hD => ?_
    have s0 : Same H (upd H D (.dK [])) := same_new hD
    rcases ha with ha | ha
    · refine .inl ⟨_, rfl, a, rfl, ⟨_, Same.seq s0 ha⟩, for_list (K := K) (a := a) (xs := us) (fun i σ H' => ∃ (v3 v4 v5 v6 : Option V) (ps : List (PySem.Str × Addr)), σ = [some (.ref b), some (.ref a), some (.ref D), v3, v4, v5, v6, none, none, none] ∧ NxInv H H' D ps (fun z => (((xs.take i).filter fun x => decide (x.s = z)).map Arw.t)) ∧ ps.length ≤ i) ?_ (fun i σ H' _ ⟨_, _, _, _, _, _, h, _⟩ => Same.seq h.same ha) ?_ ?_⟩
      · exact ⟨_, _, _, _, [], rfl, ⟨upd_same, .nil, .nil, fun p hp => (by cases hp), fun s _ => rfl, s0, hD⟩, Nat.le_refl _⟩
      · rintro i y σ H1 hi ⟨v3, v4, v5, v6, ps, rfl, hN, pl⟩
        obtain ⟨r, x, rfl, hx, hr0⟩ := ArS.get (hA.same hN.same) hi
        have hi' : i < us.length := (List.getElem?_eq_some_iff.mp hi).1
        have tk : xs.take (i + 1) = xs.take i ++ [x] := by rw [List.take_add_one, hx]; rfl
        have ec : (fun z => (((xs.take (i + 1)).filter fun x => decide (x.s = z)).map Arw.t)) = fun z => if z = x.s then (((xs.take i).filter fun y => decide (y.s = x.s)).map Arw.t) ++ [x.t] else (((xs.take i).filter fun y => decide (y.s = z)).map Arw.t) := by
          funext z
          rw [tk, List.filter_append, List.map_append]
          by_cases e : z = x.s
          · subst e
            simp
          · rw [if_neg e]
            have : ¬ x.s = z := fun c => e c.symm
            simp [this]
        refine ⟨r, _, rfl, SqT.of hr0, rfl, _, _, rfl, _, _, rfl, _, _, rfl, _, _, rfl, rfl, ?_⟩
        refine ⟨_, rfl, D, rfl, .inl ⟨_, .inl hN.d⟩, _, rfl, Nat.zero_le _, fun q hq => ?_⟩
        have s1 : Same H1 (upd H1 q (.lst [])) := same_new hq
        refine ⟨ps.map pk, .inr x.s, s1 _ _ hN.d, rfl, Nat.lt_of_le_of_lt (show _ ≤ 1000 by rw [List.length_map]; omega) (by decide), fun v hv => ?_, fun hv => ?_⟩
        · -- there
          by_cases hk : x.s ∈ ps.map (·.1)
          · obtain ⟨p, hp, ep⟩ := List.mem_map.mp hk
            have hp' : (x.s, p.2) ∈ ps := by rw [← ep]; exact hp
            rw [pk_val hN.nk hp'] at hv
            obtain rfl := Option.some.inj hv
            obtain ⟨_, _, hl⟩ := hN.each _ hp'
            have hl1 := s1 _ _ hl
            refine ⟨.inl ⟨rfl, _, SqL.of hl1⟩, _, rfl, p.2, _, _, rfl, rfl, hl1, Nat.lt_of_le_of_lt (show _ ≤ 1000 from ?_) (by decide), ?_⟩
            · rw [List.length_map, List.length_map]
              refine Nat.le_trans (List.length_filter_le ..) ?_
              rw [List.length_take]
              omega
            · refine ⟨_, _, _, _, ps, rfl, ?_, by omega⟩
              rw [ec]
              exact hN.old hp' hq
          · rw [valV_none (fun c => hk (pk_mem.mp c))] at hv
            cases hv
        · -- new
          have hk : x.s ∉ ps.map (·.1) := fun c => by
            obtain ⟨p, hp, ep⟩ := List.mem_map.mp c
            have hp' : (x.s, p.2) ∈ ps := by rw [← ep]; exact hp
            rw [pk_val hN.nk hp'] at hv
            cases hv
          have nqD : q ≠ D := fun e => by
            rw [e, hN.d] at hq
            cases hq
          have hq2 : (upd (upd H1 q (.lst [])) D (.dK (putK (ps.map pk) (.inr x.s) (.ref q)))) q = some (.lst []) := (upd_ne nqD).trans upd_same
          refine ⟨.inl ⟨rfl, _, SqL.of hq2⟩, _, rfl, q, _, _, rfl, rfl, hq2, Nat.lt_of_le_of_lt (Nat.zero_le 1000) (by decide), ?_⟩
          refine ⟨_, _, _, _, ps ++ [(x.s, q)], rfl, ?_, by rw [List.length_append, List.length_singleton]; omega⟩
          rw [ec]
          exact hN.new hk hq
      · rintro σ H1 ⟨v3, v4, v5, v6, ps, rfl, hN, pl⟩
        rw [ul, List.take_length] at hN
        -- found: the starts
        rcases hb with hb | hb
        · refine .inl ⟨_, rfl, b, rfl, ⟨_, Same.seq hN.same hb⟩, fun d hd => dc_it walk_list (fun i H' => ∃ F : List PySem.Str, H' d = some (.dK (F.map fT)) ∧ Same H1 H' ∧ F.Nodup ∧ (∀ z, z ∈ F ↔ z ∈ ss.take i) ∧ F.length ≤ i) ⟨[], upd_same, same_new hd, .nil, fun z => Iff.rfl, Nat.le_refl _⟩ (fun i H' _ ⟨_, _, h, _⟩ => Same.seq (hN.same.trans h) hb) ?_ ?_⟩
          · rintro i x H2 _ hi ⟨F, h2, hs, nd, hm, hl⟩ ⟨rfl, hx⟩
            obtain ⟨u, rfl, hu⟩ := map_str hx
            rw [List.length_map] at hi
            have tk : ss.take (i + 1) = ss.take i ++ [u] := by rw [List.take_add_one, hu]; rfl
            refine ⟨rfl, _, rfl, F.map fT, .inr u, rfl, h2, Nat.lt_of_le_of_lt (show _ ≤ 1000 by rw [List.length_map]; omega) (by decide), ?_⟩
            by_cases c : u ∈ F
            · refine ⟨F, ?_, same_mut hs hd, nd, fun z => ?_, by omega⟩
              · rw [put_fT_in c]
                exact upd_same
              · rw [tk, List.mem_append, ← hm, List.mem_singleton]
                exact ⟨.inl, fun h => h.elim id fun e => by rw [e]; exact c⟩
            · refine ⟨F ++ [u], ?_, same_mut hs hd, nodup_snoc2 nd c, fun z => ?_, by rw [List.length_append, List.length_singleton]; omega⟩
              · rw [put_fT_new c]
                exact upd_same
              · rw [tk, List.mem_append, List.mem_append, ← hm]
          rintro H2 ⟨F, h2, s2, nd, hm, hl⟩
          rw [List.length_map, List.take_length] at hm
          -- waiting: all of them
          refine ⟨_, rfl, d, _, rfl, .inl h2, fun wq hwq => ?_⟩
          have ewl : (F.map fT).map (fun kv => kV kv.1) = F.map V.str := by
            rw [List.map_map]
            rfl
          rw [ewl]
          have s3 : Same H2 (upd H2 wq (.lst (F.map V.str))) := same_new hwq
          have S3 := (hN.same.trans s2).trans s3
          have dN : H1 d = none := hd
          have wN : H1 wq = none := s2.free hwq
          have ndw : d ≠ wq := ne_of_none h2 hwq
          refine ⟨fun mm σ' H' => ∃ (v3 v5 v9 : Option V) (F W : List PySem.Str), σ' = [some (.ref b), some (.ref a), some (.ref D), v3, v4, v5, v6, some (.ref d), some (.ref wq), v9] ∧ H' d = some (.dK (F.map fT)) ∧ H' wq = some (.lst (W.map V.str)) ∧ Sch xs ss F W ∧ Same H1 H' ∧ W.length + 2 * (ss.length + xs.length - F.length) ≤ mm ∧ W.length ≤ F.length, ⟨F.length + 2 * (ss.length + xs.length - F.length), _, _, _, F, F, rfl, s3 _ _ h2, upd_same, ⟨nd, fun s hs => (hm s).mpr hs, fun s hs => hs, fun x _ h1 h2 => absurd h1 h2, fun s hs => List.mem_append_left _ ((hm s).mp hs)⟩, s2.trans s3, Nat.le_refl _, Nat.le_refl _⟩, ?_⟩
          rintro mm σ' H3 ⟨v3, v5, v9, F, W, rfl, h3, hw3, hS, hs3, hmm, hWF⟩
          have hFl := hS.len
          refine ⟨_, rfl, _, .inl ⟨_, SqL.of hw3, rfl⟩, ?_⟩
          by_cases cW : W = []
          · subst cW
            refine iteF ⟨_, rfl, ?_⟩
            exact k d F H3 (hN.same.free dN) h3 hS.nd hS.st (fun x hx hf => hS.cl x hx hf List.not_mem_nil) hS.sub (hN.same.trans hs3)
          · obtain ⟨W0, here, eW⟩ : ∃ W0 here, W = W0 ++ [here] := ⟨W.dropLast, W.getLast cW, (List.dropLast_concat_getLast cW).symm⟩
            subst eW
            have eE : (!((W0 ++ [here]).map V.str).isEmpty) = true := by simp
            rw [eE]
            refine iteT ?_
            rw [List.length_append, List.length_singleton] at hmm hWF
            refine ⟨fun σ' H' => ∃ (v3 v5 v9 : Option V) (F W : List PySem.Str), σ' = [some (.ref b), some (.ref a), some (.ref D), v3, v4, v5, v6, some (.ref d), some (.ref wq), v9] ∧ H' d = some (.dK (F.map fT)) ∧ H' wq = some (.lst (W.map V.str)) ∧ Sch xs ss F W ∧ Same H1 H' ∧ W.length + 2 * (ss.length + xs.length - F.length) ≤ mm - 1 ∧ W.length ≤ F.length, fun σ' H' h => ⟨mm - 1, by omega, h⟩, ?_⟩
            -- the last one
            have eL : ((W0 ++ [here]).map V.str)[((W0 ++ [here]).map V.str).length - 1]? = some (.str here) := by
              rw [List.map_append, List.length_append]
              simp
            have eD : ((W0 ++ [here]).map V.str).dropLast = W0.map V.str := by
              rw [List.map_append]
              simp
            refine ⟨_, rfl, .inl ⟨rfl, _, SqL.of hw3⟩, wq, _, _, rfl, rfl, hw3, eL, ?_⟩
            rw [eD]
            have s4 : Same H1 (upd H3 wq (.lst (W0.map V.str))) := same_mut hs3 wN
            have h4 : (upd H3 wq (.lst (W0.map V.str))) d = some (.dK (F.map fT)) := (upd_ne ndw).trans h3
            have w4 : (upd H3 wq (.lst (W0.map V.str))) wq = some (.lst (W0.map V.str)) := upd_same
            generalize upd H3 wq (.lst (W0.map V.str)) = H4 at s4 h4 w4
            have gN : DGet H4 D (.str here) (valV (ps.map pk) (.inr here)) := DGet.k (k := .inr here) (s4 _ _ hN.d)
            -- what it leads to
            refine ⟨_, rfl, D, rfl, .inl ⟨_, .inl (s4 _ _ hN.d)⟩, _, rfl, Nat.zero_le _, fun q0 hq0 => ?_⟩
            have s5 : Same H4 (upd H4 q0 (.lst [])) := same_new hq0
            obtain ⟨ql, eq, hql, cq⟩ : ∃ ql, (valV (ps.map pk) (.inr here)).getD (.ref q0) = .ref ql ∧ (upd H4 q0 (.lst [])) ql = some (.lst (((xs.filter fun x => decide (x.s = here)).map Arw.t).map V.str)) ∧ ql ≠ wq := by
              by_cases hk : here ∈ ps.map (·.1)
              · obtain ⟨p, hp, ep⟩ := List.mem_map.mp hk
                have hp' : (here, p.2) ∈ ps := by rw [← ep]; exact hp
                exact ⟨p.2, by rw [pk_val hN.nk hp']; rfl, s5 _ _ (s4 _ _ (hN.each _ hp').2.2), ne_of_none (hN.each _ hp').2.2 wN⟩
              · refine ⟨q0, by rw [valV_none (fun c => hk (pk_mem.mp c))]; rfl, ?_, (ne_of_none w4 hq0).symm⟩
                have := hN.no here hk
                have e : ((xs.filter fun x => decide (x.s = here)).map Arw.t) = [] := this
                rw [e]
                exact upd_same
            have S5 := s4.trans s5
            have h5 := s5 _ _ h4
            have w5 := s5 _ _ w4
            have d5 : DGet (upd H4 q0 (.lst [])) D (.str here) (valV (ps.map pk) (.inr here)) := DGet.k (k := .inr here) (S5 _ _ hN.d)
            generalize upd H4 q0 (.lst []) = H5 at S5 h5 w5 hql d5
            generalize hts : (xs.filter fun x => decide (x.s = here)).map Arw.t = ts at hql
            have tsl : ts.length ≤ xs.length := by
              rw [← hts, List.length_map]
              exact List.length_filter_le ..
            have tsub : ∀ u ∈ ts, u ∈ ss ++ xs.map Arw.t := fun u hu => by
              rw [← hts] at hu
              obtain ⟨x, hx, rfl⟩ := List.mem_map.mp hu
              exact List.mem_append_right _ (List.mem_map.mpr ⟨x, (List.mem_filter.mp hx).1, rfl⟩)
            have dn5 : ∀ {r : Addr} {o : HO}, H1 r = some o → r ≠ d := fun e => ne_of_none e dN
            have nq : ql ≠ d := ne_of hql h5 (by intro z; cases z)
            refine ⟨_, d5, ql, eq, ⟨_, SqL.of hql⟩, ?_⟩
            refine for_list (K := K) (a := ql) (xs := ts.map V.str) (fun j σ H' => ∃ (v5 : Option V) (F' W' : List PySem.Str), σ = [some (.ref b), some (.ref a), some (.ref D), v3, v4, v5, v6, some (.ref d), some (.ref wq), some (.str here)] ∧ H' d = some (.dK (F'.map fT)) ∧ H' wq = some (.lst (W'.map V.str)) ∧ Trn xs ss F W0 (ts.take j) F' W' ∧ Same H1 H' ∧ H' ql = some (.lst (ts.map V.str))) ?_ (fun j σ H' _ ⟨_, _, _, _, _, _, _, _, h⟩ => SqL.of h) ?_ ?_
            · exact ⟨_, F, W0, rfl, h5, w5, ⟨hS.nd, fun s hs => hs, fun s hs => hs, fun s hs => .inl hs, fun s hs => hS.wf s (List.mem_append_left _ hs), fun s hs => (by cases hs), hS.sub, rfl⟩, S5, hql⟩
            · rintro j y σ H6 hj ⟨v5, F', W', rfl, h6, w6, hT, s6, hq6⟩
              obtain ⟨u, rfl, hu⟩ := map_str hj
              have tk : ts.take (j + 1) = ts.take j ++ [u] := by rw [List.take_add_one, hu]; rfl
              have F'l : F'.length ≤ ss.length + xs.length := by
                have := nodup_le hT.nd hT.sub
                rw [List.length_append, List.length_map] at this
                exact this
              have tlen := hT.len
              have gu : DGet H6 d (.str u) (valV (F'.map fT) (.inr u)) := DGet.k (k := .inr u) h6
              refine ⟨_, rfl, _, rfl, d, _, rfl, gu, ?_⟩
              rw [val_fT]
              by_cases c : u ∈ F'
              · rw [if_pos c]
                refine ⟨_, rfl, iteF ⟨_, F', W', rfl, h6, w6, ⟨hT.nd, hT.f0, hT.w0, hT.fw, hT.wf, fun s hs => ?_, hT.sub, hT.len⟩, s6, hq6⟩⟩
                rw [tk] at hs
                rcases List.mem_append.mp hs with h | h
                · exact hT.ts s h
                · rw [List.mem_singleton.mp h]
                  exact c
              · rw [if_neg c]
                have dp : DPut H6 d (.str u) (.bl true) _ := DPut.k (k := .inr u) h6 (Nat.lt_of_le_of_lt (show _ ≤ 2000 by rw [List.length_map]; omega) (by decide))
                refine ⟨_, rfl, iteT ⟨_, rfl, _, rfl, d, _, rfl, dp, ?_⟩⟩
                rw [put_fT_new c]
                have w7 : (upd H6 d (.dK ((F' ++ [u]).map fT))) wq = some (.lst (W'.map V.str)) := (upd_ne ndw.symm).trans w6
                refine ⟨_, rfl, .inl ⟨rfl, _, SqL.of w7⟩, _, rfl, wq, _, _, rfl, rfl, w7, Nat.lt_of_le_of_lt (show _ ≤ 4000 by rw [List.length_map]; omega) (by decide), ?_⟩
                refine ⟨_, F' ++ [u], W' ++ [u], rfl, (upd_ne ndw).trans upd_same, upd_same.trans (by rw [show (W' ++ [u]).map V.str = W'.map V.str ++ [V.str u] from List.map_append]), ⟨nodup_snoc2 hT.nd c, fun s hs => List.mem_append_left _ (hT.f0 s hs), fun s hs => List.mem_append_left _ (hT.w0 s hs), fun s hs => ?_, fun s hs => ?_, fun s hs => ?_, fun s hs => ?_, ?_⟩, same_mut (same_mut s6 dN) wN, (upd_ne cq).trans ((upd_ne nq).trans hq6)⟩
                · rcases List.mem_append.mp hs with h | h
                  · exact (hT.fw s h).imp id fun h => List.mem_append_left _ h
                  · exact .inr (List.mem_append_right _ h)
                · rcases List.mem_append.mp hs with h | h
                  · exact List.mem_append_left _ (hT.wf s h)
                  · exact List.mem_append_right _ h
                · rw [tk] at hs
                  rcases List.mem_append.mp hs with h | h
                  · exact List.mem_append_left _ (hT.ts s h)
                  · exact List.mem_append_right _ h
                · rcases List.mem_append.mp hs with h | h
                  · exact hT.sub s h
                  · rw [List.mem_singleton.mp h]
                    exact tsub u (List.mem_of_getElem? hu)
                · rw [List.length_append, List.length_append, List.length_singleton]
                  omega
            · rintro σ H6 ⟨v5, F', W', rfl, h6, w6, hT, s6, hq6⟩
              rw [List.length_map, List.take_length, ← hts] at hT
              have tlen := hT.len
              have hF0 := nodup_le hS.nd hT.f0
              have hS' := hT.turn hS
              have F'l := hS'.len
              exact ⟨_, _, _, F', W', rfl, h6, w6, hS', s6, by omega, by omega⟩
        · refine .inr ⟨_, rfl, b, rfl, ⟨_, sqt_same hN.same hb⟩, fun d hd => dc_it walk_tup (fun i H' => ∃ F : List PySem.Str, H' d = some (.dK (F.map fT)) ∧ Same H1 H' ∧ F.Nodup ∧ (∀ z, z ∈ F ↔ z ∈ ss.take i) ∧ F.length ≤ i) ⟨[], upd_same, same_new hd, .nil, fun z => Iff.rfl, Nat.le_refl _⟩ (fun i H' _ ⟨_, _, h, _⟩ => sqt_same (hN.same.trans h) hb) ?_ ?_⟩
          · rintro i x H2 _ hi ⟨F, h2, hs, nd, hm, hl⟩ ⟨rfl, hx⟩
            obtain ⟨u, rfl, hu⟩ := map_str hx
            rw [List.length_map] at hi
            have tk : ss.take (i + 1) = ss.take i ++ [u] := by rw [List.take_add_one, hu]; rfl
            refine ⟨rfl, _, rfl, F.map fT, .inr u, rfl, h2, Nat.lt_of_le_of_lt (show _ ≤ 1000 by rw [List.length_map]; omega) (by decide), ?_⟩
            by_cases c : u ∈ F
            · refine ⟨F, ?_, same_mut hs hd, nd, fun z => ?_, by omega⟩
              · rw [put_fT_in c]
                exact upd_same
              · rw [tk, List.mem_append, ← hm, List.mem_singleton]
                exact ⟨.inl, fun h => h.elim id fun e => by rw [e]; exact c⟩
            · refine ⟨F ++ [u], ?_, same_mut hs hd, nodup_snoc2 nd c, fun z => ?_, by rw [List.length_append, List.length_singleton]; omega⟩
              · rw [put_fT_new c]
                exact upd_same
              · rw [tk, List.mem_append, List.mem_append, ← hm]
          rintro H2 ⟨F, h2, s2, nd, hm, hl⟩
          rw [List.length_map, List.take_length] at hm
          -- waiting: all of them
          refine ⟨_, rfl, d, _, rfl, .inl h2, fun wq hwq => ?_⟩
          have ewl : (F.map fT).map (fun kv => kV kv.1) = F.map V.str := by
            rw [List.map_map]
            rfl
          rw [ewl]
          have s3 : Same H2 (upd H2 wq (.lst (F.map V.str))) := same_new hwq
          have S3 := (hN.same.trans s2).trans s3
          have dN : H1 d = none := hd
          have wN : H1 wq = none := s2.free hwq
          have ndw : d ≠ wq := ne_of_none h2 hwq
          refine ⟨fun mm σ' H' => ∃ (v3 v5 v9 : Option V) (F W : List PySem.Str), σ' = [some (.ref b), some (.ref a), some (.ref D), v3, v4, v5, v6, some (.ref d), some (.ref wq), v9] ∧ H' d = some (.dK (F.map fT)) ∧ H' wq = some (.lst (W.map V.str)) ∧ Sch xs ss F W ∧ Same H1 H' ∧ W.length + 2 * (ss.length + xs.length - F.length) ≤ mm ∧ W.length ≤ F.length, ⟨F.length + 2 * (ss.length + xs.length - F.length), _, _, _, F, F, rfl, s3 _ _ h2, upd_same, ⟨nd, fun s hs => (hm s).mpr hs, fun s hs => hs, fun x _ h1 h2 => absurd h1 h2, fun s hs => List.mem_append_left _ ((hm s).mp hs)⟩, s2.trans s3, Nat.le_refl _, Nat.le_refl _⟩, ?_⟩
          rintro mm σ' H3 ⟨v3, v5, v9, F, W, rfl, h3, hw3, hS, hs3, hmm, hWF⟩
          have hFl := hS.len
          refine ⟨_, rfl, _, .inl ⟨_, SqL.of hw3, rfl⟩, ?_⟩
          by_cases cW : W = []
          · subst cW
            refine iteF ⟨_, rfl, ?_⟩
            exact k d F H3 (hN.same.free dN) h3 hS.nd hS.st (fun x hx hf => hS.cl x hx hf List.not_mem_nil) hS.sub (hN.same.trans hs3)
          · obtain ⟨W0, here, eW⟩ : ∃ W0 here, W = W0 ++ [here] := ⟨W.dropLast, W.getLast cW, (List.dropLast_concat_getLast cW).symm⟩
            subst eW
            have eE : (!((W0 ++ [here]).map V.str).isEmpty) = true := by simp
            rw [eE]
            refine iteT ?_
            rw [List.length_append, List.length_singleton] at hmm hWF
            refine ⟨fun σ' H' => ∃ (v3 v5 v9 : Option V) (F W : List PySem.Str), σ' = [some (.ref b), some (.ref a), some (.ref D), v3, v4, v5, v6, some (.ref d), some (.ref wq), v9] ∧ H' d = some (.dK (F.map fT)) ∧ H' wq = some (.lst (W.map V.str)) ∧ Sch xs ss F W ∧ Same H1 H' ∧ W.length + 2 * (ss.length + xs.length - F.length) ≤ mm - 1 ∧ W.length ≤ F.length, fun σ' H' h => ⟨mm - 1, by omega, h⟩, ?_⟩
            -- the last one
            have eL : ((W0 ++ [here]).map V.str)[((W0 ++ [here]).map V.str).length - 1]? = some (.str here) := by
              rw [List.map_append, List.length_append]
              simp
            have eD : ((W0 ++ [here]).map V.str).dropLast = W0.map V.str := by
              rw [List.map_append]
              simp
            refine ⟨_, rfl, .inl ⟨rfl, _, SqL.of hw3⟩, wq, _, _, rfl, rfl, hw3, eL, ?_⟩
            rw [eD]
            have s4 : Same H1 (upd H3 wq (.lst (W0.map V.str))) := same_mut hs3 wN
            have h4 : (upd H3 wq (.lst (W0.map V.str))) d = some (.dK (F.map fT)) := (upd_ne ndw).trans h3
            have w4 : (upd H3 wq (.lst (W0.map V.str))) wq = some (.lst (W0.map V.str)) := upd_same
            generalize upd H3 wq (.lst (W0.map V.str)) = H4 at s4 h4 w4
            have gN : DGet H4 D (.str here) (valV (ps.map pk) (.inr here)) := DGet.k (k := .inr here) (s4 _ _ hN.d)
            -- what it leads to
            refine ⟨_, rfl, D, rfl, .inl ⟨_, .inl (s4 _ _ hN.d)⟩, _, rfl, Nat.zero_le _, fun q0 hq0 => ?_⟩
            have s5 : Same H4 (upd H4 q0 (.lst [])) := same_new hq0
            obtain ⟨ql, eq, hql, cq⟩ : ∃ ql, (valV (ps.map pk) (.inr here)).getD (.ref q0) = .ref ql ∧ (upd H4 q0 (.lst [])) ql = some (.lst (((xs.filter fun x => decide (x.s = here)).map Arw.t).map V.str)) ∧ ql ≠ wq := by
              by_cases hk : here ∈ ps.map (·.1)
              · obtain ⟨p, hp, ep⟩ := List.mem_map.mp hk
                have hp' : (here, p.2) ∈ ps := by rw [← ep]; exact hp
                exact ⟨p.2, by rw [pk_val hN.nk hp']; rfl, s5 _ _ (s4 _ _ (hN.each _ hp').2.2), ne_of_none (hN.each _ hp').2.2 wN⟩
              · refine ⟨q0, by rw [valV_none (fun c => hk (pk_mem.mp c))]; rfl, ?_, (ne_of_none w4 hq0).symm⟩
                have := hN.no here hk
                have e : ((xs.filter fun x => decide (x.s = here)).map Arw.t) = [] := this
                rw [e]
                exact upd_same
            have S5 := s4.trans s5
            have h5 := s5 _ _ h4
            have w5 := s5 _ _ w4
            have d5 : DGet (upd H4 q0 (.lst [])) D (.str here) (valV (ps.map pk) (.inr here)) := DGet.k (k := .inr here) (S5 _ _ hN.d)
            generalize upd H4 q0 (.lst []) = H5 at S5 h5 w5 hql d5
            generalize hts : (xs.filter fun x => decide (x.s = here)).map Arw.t = ts at hql
            have tsl : ts.length ≤ xs.length := by
              rw [← hts, List.length_map]
              exact List.length_filter_le ..
            have tsub : ∀ u ∈ ts, u ∈ ss ++ xs.map Arw.t := fun u hu => by
              rw [← hts] at hu
              obtain ⟨x, hx, rfl⟩ := List.mem_map.mp hu
              exact List.mem_append_right _ (List.mem_map.mpr ⟨x, (List.mem_filter.mp hx).1, rfl⟩)
            have dn5 : ∀ {r : Addr} {o : HO}, H1 r = some o → r ≠ d := fun e => ne_of_none e dN
            have nq : ql ≠ d := ne_of hql h5 (by intro z; cases z)
            refine ⟨_, d5, ql, eq, ⟨_, SqL.of hql⟩, ?_⟩
            refine for_list (K := K) (a := ql) (xs := ts.map V.str) (fun j σ H' => ∃ (v5 : Option V) (F' W' : List PySem.Str), σ = [some (.ref b), some (.ref a), some (.ref D), v3, v4, v5, v6, some (.ref d), some (.ref wq), some (.str here)] ∧ H' d = some (.dK (F'.map fT)) ∧ H' wq = some (.lst (W'.map V.str)) ∧ Trn xs ss F W0 (ts.take j) F' W' ∧ Same H1 H' ∧ H' ql = some (.lst (ts.map V.str))) ?_ (fun j σ H' _ ⟨_, _, _, _, _, _, _, _, h⟩ => SqL.of h) ?_ ?_
            · exact ⟨_, F, W0, rfl, h5, w5, ⟨hS.nd, fun s hs => hs, fun s hs => hs, fun s hs => .inl hs, fun s hs => hS.wf s (List.mem_append_left _ hs), fun s hs => (by cases hs), hS.sub, rfl⟩, S5, hql⟩
            · rintro j y σ H6 hj ⟨v5, F', W', rfl, h6, w6, hT, s6, hq6⟩
              obtain ⟨u, rfl, hu⟩ := map_str hj
              have tk : ts.take (j + 1) = ts.take j ++ [u] := by rw [List.take_add_one, hu]; rfl
              have F'l : F'.length ≤ ss.length + xs.length := by
                have := nodup_le hT.nd hT.sub
                rw [List.length_append, List.length_map] at this
                exact this
              have tlen := hT.len
              have gu : DGet H6 d (.str u) (valV (F'.map fT) (.inr u)) := DGet.k (k := .inr u) h6
              refine ⟨_, rfl, _, rfl, d, _, rfl, gu, ?_⟩
              rw [val_fT]
              by_cases c : u ∈ F'
              · rw [if_pos c]
                refine ⟨_, rfl, iteF ⟨_, F', W', rfl, h6, w6, ⟨hT.nd, hT.f0, hT.w0, hT.fw, hT.wf, fun s hs => ?_, hT.sub, hT.len⟩, s6, hq6⟩⟩
                rw [tk] at hs
                rcases List.mem_append.mp hs with h | h
                · exact hT.ts s h
                · rw [List.mem_singleton.mp h]
                  exact c
              · rw [if_neg c]
                have dp : DPut H6 d (.str u) (.bl true) _ := DPut.k (k := .inr u) h6 (Nat.lt_of_le_of_lt (show _ ≤ 2000 by rw [List.length_map]; omega) (by decide))
                refine ⟨_, rfl, iteT ⟨_, rfl, _, rfl, d, _, rfl, dp, ?_⟩⟩
                rw [put_fT_new c]
                have w7 : (upd H6 d (.dK ((F' ++ [u]).map fT))) wq = some (.lst (W'.map V.str)) := (upd_ne ndw.symm).trans w6
                refine ⟨_, rfl, .inl ⟨rfl, _, SqL.of w7⟩, _, rfl, wq, _, _, rfl, rfl, w7, Nat.lt_of_le_of_lt (show _ ≤ 4000 by rw [List.length_map]; omega) (by decide), ?_⟩
                refine ⟨_, F' ++ [u], W' ++ [u], rfl, (upd_ne ndw).trans upd_same, upd_same.trans (by rw [show (W' ++ [u]).map V.str = W'.map V.str ++ [V.str u] from List.map_append]), ⟨nodup_snoc2 hT.nd c, fun s hs => List.mem_append_left _ (hT.f0 s hs), fun s hs => List.mem_append_left _ (hT.w0 s hs), fun s hs => ?_, fun s hs => ?_, fun s hs => ?_, fun s hs => ?_, ?_⟩, same_mut (same_mut s6 dN) wN, (upd_ne cq).trans ((upd_ne nq).trans hq6)⟩
                · rcases List.mem_append.mp hs with h | h
                  · exact (hT.fw s h).imp id fun h => List.mem_append_left _ h
                  · exact .inr (List.mem_append_right _ h)
                · rcases List.mem_append.mp hs with h | h
                  · exact List.mem_append_left _ (hT.wf s h)
                  · exact List.mem_append_right _ h
                · rw [tk] at hs
                  rcases List.mem_append.mp hs with h | h
                  · exact List.mem_append_left _ (hT.ts s h)
                  · exact List.mem_append_right _ h
                · rcases List.mem_append.mp hs with h | h
                  · exact hT.sub s h
                  · rw [List.mem_singleton.mp h]
                    exact tsub u (List.mem_of_getElem? hu)
                · rw [List.length_append, List.length_append, List.length_singleton]
                  omega
            · rintro σ H6 ⟨v5, F', W', rfl, h6, w6, hT, s6, hq6⟩
              rw [List.length_map, List.take_length, ← hts] at hT
              have tlen := hT.len
              have hF0 := nodup_le hS.nd hT.f0
              have hS' := hT.turn hS
              have F'l := hS'.len
              exact ⟨_, _, _, F', W', rfl, h6, w6, hS', s6, by omega, by omega⟩
    · refine .inr ⟨_, rfl, a, rfl, ⟨_, sqt_same s0 ha⟩, for_tup (K := K) (a := a) (xs := us) (fun i σ H' => ∃ (v3 v4 v5 v6 : Option V) (ps : List (PySem.Str × Addr)), σ = [some (.ref b), some (.ref a), some (.ref D), v3, v4, v5, v6, none, none, none] ∧ NxInv H H' D ps (fun z => (((xs.take i).filter fun x => decide (x.s = z)).map Arw.t)) ∧ ps.length ≤ i) ?_ (fun i σ H' _ ⟨_, _, _, _, _, _, h, _⟩ => sqt_same h.same ha) ?_ ?_⟩
      · exact ⟨_, _, _, _, [], rfl, ⟨upd_same, .nil, .nil, fun p hp => (by cases hp), fun s _ => rfl, s0, hD⟩, Nat.le_refl _⟩
      · rintro i y σ H1 hi ⟨v3, v4, v5, v6, ps, rfl, hN, pl⟩
        obtain ⟨r, x, rfl, hx, hr0⟩ := ArS.get (hA.same hN.same) hi
        have hi' : i < us.length := (List.getElem?_eq_some_iff.mp hi).1
        have tk : xs.take (i + 1) = xs.take i ++ [x] := by rw [List.take_add_one, hx]; rfl
        have ec : (fun z => (((xs.take (i + 1)).filter fun x => decide (x.s = z)).map Arw.t)) = fun z => if z = x.s then (((xs.take i).filter fun y => decide (y.s = x.s)).map Arw.t) ++ [x.t] else (((xs.take i).filter fun y => decide (y.s = z)).map Arw.t) := by
          funext z
          rw [tk, List.filter_append, List.map_append]
          by_cases e : z = x.s
          · subst e
            simp
          · rw [if_neg e]
            have : ¬ x.s = z := fun c => e c.symm
            simp [this]
        refine ⟨r, _, rfl, SqT.of hr0, rfl, _, _, rfl, _, _, rfl, _, _, rfl, _, _, rfl, rfl, ?_⟩
        refine ⟨_, rfl, D, rfl, .inl ⟨_, .inl hN.d⟩, _, rfl, Nat.zero_le _, fun q hq => ?_⟩
        have s1 : Same H1 (upd H1 q (.lst [])) := same_new hq
        refine ⟨ps.map pk, .inr x.s, s1 _ _ hN.d, rfl, Nat.lt_of_le_of_lt (show _ ≤ 1000 by rw [List.length_map]; omega) (by decide), fun v hv => ?_, fun hv => ?_⟩
        · -- there
          by_cases hk : x.s ∈ ps.map (·.1)
          · obtain ⟨p, hp, ep⟩ := List.mem_map.mp hk
            have hp' : (x.s, p.2) ∈ ps := by rw [← ep]; exact hp
            rw [pk_val hN.nk hp'] at hv
            obtain rfl := Option.some.inj hv
            obtain ⟨_, _, hl⟩ := hN.each _ hp'
            have hl1 := s1 _ _ hl
            refine ⟨.inl ⟨rfl, _, SqL.of hl1⟩, _, rfl, p.2, _, _, rfl, rfl, hl1, Nat.lt_of_le_of_lt (show _ ≤ 1000 from ?_) (by decide), ?_⟩
            · rw [List.length_map, List.length_map]
              refine Nat.le_trans (List.length_filter_le ..) ?_
              rw [List.length_take]
              omega
            · refine ⟨_, _, _, _, ps, rfl, ?_, by omega⟩
              rw [ec]
              exact hN.old hp' hq
          · rw [valV_none (fun c => hk (pk_mem.mp c))] at hv
            cases hv
        · -- new
          have hk : x.s ∉ ps.map (·.1) := fun c => by
            obtain ⟨p, hp, ep⟩ := List.mem_map.mp c
            have hp' : (x.s, p.2) ∈ ps := by rw [← ep]; exact hp
            rw [pk_val hN.nk hp'] at hv
            cases hv
          have nqD : q ≠ D := fun e => by
            rw [e, hN.d] at hq
            cases hq
          have hq2 : (upd (upd H1 q (.lst [])) D (.dK (putK (ps.map pk) (.inr x.s) (.ref q)))) q = some (.lst []) := (upd_ne nqD).trans upd_same
          refine ⟨.inl ⟨rfl, _, SqL.of hq2⟩, _, rfl, q, _, _, rfl, rfl, hq2, Nat.lt_of_le_of_lt (Nat.zero_le 1000) (by decide), ?_⟩
          refine ⟨_, _, _, _, ps ++ [(x.s, q)], rfl, ?_, by rw [List.length_append, List.length_singleton]; omega⟩
          rw [ec]
          exact hN.new hk hq
      · rintro σ H1 ⟨v3, v4, v5, v6, ps, rfl, hN, pl⟩
        rw [ul, List.take_length] at hN
        -- found: the starts
        rcases hb with hb | hb
        · refine .inl ⟨_, rfl, b, rfl, ⟨_, Same.seq hN.same hb⟩, fun d hd => dc_it walk_list (fun i H' => ∃ F : List PySem.Str, H' d = some (.dK (F.map fT)) ∧ Same H1 H' ∧ F.Nodup ∧ (∀ z, z ∈ F ↔ z ∈ ss.take i) ∧ F.length ≤ i) ⟨[], upd_same, same_new hd, .nil, fun z => Iff.rfl, Nat.le_refl _⟩ (fun i H' _ ⟨_, _, h, _⟩ => Same.seq (hN.same.trans h) hb) ?_ ?_⟩
          · rintro i x H2 _ hi ⟨F, h2, hs, nd, hm, hl⟩ ⟨rfl, hx⟩
            obtain ⟨u, rfl, hu⟩ := map_str hx
            rw [List.length_map] at hi
            have tk : ss.take (i + 1) = ss.take i ++ [u] := by rw [List.take_add_one, hu]; rfl
            refine ⟨rfl, _, rfl, F.map fT, .inr u, rfl, h2, Nat.lt_of_le_of_lt (show _ ≤ 1000 by rw [List.length_map]; omega) (by decide), ?_⟩
            by_cases c : u ∈ F
            · refine ⟨F, ?_, same_mut hs hd, nd, fun z => ?_, by omega⟩
              · rw [put_fT_in c]
                exact upd_same
              · rw [tk, List.mem_append, ← hm, List.mem_singleton]
                exact ⟨.inl, fun h => h.elim id fun e => by rw [e]; exact c⟩
            · refine ⟨F ++ [u], ?_, same_mut hs hd, nodup_snoc2 nd c, fun z => ?_, by rw [List.length_append, List.length_singleton]; omega⟩
              · rw [put_fT_new c]
                exact upd_same
              · rw [tk, List.mem_append, List.mem_append, ← hm]
          rintro H2 ⟨F, h2, s2, nd, hm, hl⟩
          rw [List.length_map, List.take_length] at hm
          -- waiting: all of them
          refine ⟨_, rfl, d, _, rfl, .inl h2, fun wq hwq => ?_⟩
          have ewl : (F.map fT).map (fun kv => kV kv.1) = F.map V.str := by
            rw [List.map_map]
            rfl
          rw [ewl]
          have s3 : Same H2 (upd H2 wq (.lst (F.map V.str))) := same_new hwq
          have S3 := (hN.same.trans s2).trans s3
          have dN : H1 d = none := hd
          have wN : H1 wq = none := s2.free hwq
          have ndw : d ≠ wq := ne_of_none h2 hwq
          refine ⟨fun mm σ' H' => ∃ (v3 v5 v9 : Option V) (F W : List PySem.Str), σ' = [some (.ref b), some (.ref a), some (.ref D), v3, v4, v5, v6, some (.ref d), some (.ref wq), v9] ∧ H' d = some (.dK (F.map fT)) ∧ H' wq = some (.lst (W.map V.str)) ∧ Sch xs ss F W ∧ Same H1 H' ∧ W.length + 2 * (ss.length + xs.length - F.length) ≤ mm ∧ W.length ≤ F.length, ⟨F.length + 2 * (ss.length + xs.length - F.length), _, _, _, F, F, rfl, s3 _ _ h2, upd_same, ⟨nd, fun s hs => (hm s).mpr hs, fun s hs => hs, fun x _ h1 h2 => absurd h1 h2, fun s hs => List.mem_append_left _ ((hm s).mp hs)⟩, s2.trans s3, Nat.le_refl _, Nat.le_refl _⟩, ?_⟩
          rintro mm σ' H3 ⟨v3, v5, v9, F, W, rfl, h3, hw3, hS, hs3, hmm, hWF⟩
          have hFl := hS.len
          refine ⟨_, rfl, _, .inl ⟨_, SqL.of hw3, rfl⟩, ?_⟩
          by_cases cW : W = []
          · subst cW
            refine iteF ⟨_, rfl, ?_⟩
            exact k d F H3 (hN.same.free dN) h3 hS.nd hS.st (fun x hx hf => hS.cl x hx hf List.not_mem_nil) hS.sub (hN.same.trans hs3)
          · obtain ⟨W0, here, eW⟩ : ∃ W0 here, W = W0 ++ [here] := ⟨W.dropLast, W.getLast cW, (List.dropLast_concat_getLast cW).symm⟩
            subst eW
            have eE : (!((W0 ++ [here]).map V.str).isEmpty) = true := by simp
            rw [eE]
            refine iteT ?_
            rw [List.length_append, List.length_singleton] at hmm hWF
            refine ⟨fun σ' H' => ∃ (v3 v5 v9 : Option V) (F W : List PySem.Str), σ' = [some (.ref b), some (.ref a), some (.ref D), v3, v4, v5, v6, some (.ref d), some (.ref wq), v9] ∧ H' d = some (.dK (F.map fT)) ∧ H' wq = some (.lst (W.map V.str)) ∧ Sch xs ss F W ∧ Same H1 H' ∧ W.length + 2 * (ss.length + xs.length - F.length) ≤ mm - 1 ∧ W.length ≤ F.length, fun σ' H' h => ⟨mm - 1, by omega, h⟩, ?_⟩
            -- the last one
            have eL : ((W0 ++ [here]).map V.str)[((W0 ++ [here]).map V.str).length - 1]? = some (.str here) := by
              rw [List.map_append, List.length_append]
              simp
            have eD : ((W0 ++ [here]).map V.str).dropLast = W0.map V.str := by
              rw [List.map_append]
              simp
            refine ⟨_, rfl, .inl ⟨rfl, _, SqL.of hw3⟩, wq, _, _, rfl, rfl, hw3, eL, ?_⟩
            rw [eD]
            have s4 : Same H1 (upd H3 wq (.lst (W0.map V.str))) := same_mut hs3 wN
            have h4 : (upd H3 wq (.lst (W0.map V.str))) d = some (.dK (F.map fT)) := (upd_ne ndw).trans h3
            have w4 : (upd H3 wq (.lst (W0.map V.str))) wq = some (.lst (W0.map V.str)) := upd_same
            generalize upd H3 wq (.lst (W0.map V.str)) = H4 at s4 h4 w4
            have gN : DGet H4 D (.str here) (valV (ps.map pk) (.inr here)) := DGet.k (k := .inr here) (s4 _ _ hN.d)
            -- what it leads to
            refine ⟨_, rfl, D, rfl, .inl ⟨_, .inl (s4 _ _ hN.d)⟩, _, rfl, Nat.zero_le _, fun q0 hq0 => ?_⟩
            have s5 : Same H4 (upd H4 q0 (.lst [])) := same_new hq0
            obtain ⟨ql, eq, hql, cq⟩ : ∃ ql, (valV (ps.map pk) (.inr here)).getD (.ref q0) = .ref ql ∧ (upd H4 q0 (.lst [])) ql = some (.lst (((xs.filter fun x => decide (x.s = here)).map Arw.t).map V.str)) ∧ ql ≠ wq := by
              by_cases hk : here ∈ ps.map (·.1)
              · obtain ⟨p, hp, ep⟩ := List.mem_map.mp hk
                have hp' : (here, p.2) ∈ ps := by rw [← ep]; exact hp
                exact ⟨p.2, by rw [pk_val hN.nk hp']; rfl, s5 _ _ (s4 _ _ (hN.each _ hp').2.2), ne_of_none (hN.each _ hp').2.2 wN⟩
              · refine ⟨q0, by rw [valV_none (fun c => hk (pk_mem.mp c))]; rfl, ?_, (ne_of_none w4 hq0).symm⟩
                have := hN.no here hk
                have e : ((xs.filter fun x => decide (x.s = here)).map Arw.t) = [] := this
                rw [e]
                exact upd_same
            have S5 := s4.trans s5
            have h5 := s5 _ _ h4
            have w5 := s5 _ _ w4
            have d5 : DGet (upd H4 q0 (.lst [])) D (.str here) (valV (ps.map pk) (.inr here)) := DGet.k (k := .inr here) (S5 _ _ hN.d)
            generalize upd H4 q0 (.lst []) = H5 at S5 h5 w5 hql d5
            generalize hts : (xs.filter fun x => decide (x.s = here)).map Arw.t = ts at hql
            have tsl : ts.length ≤ xs.length := by
              rw [← hts, List.length_map]
              exact List.length_filter_le ..
            have tsub : ∀ u ∈ ts, u ∈ ss ++ xs.map Arw.t := fun u hu => by
              rw [← hts] at hu
              obtain ⟨x, hx, rfl⟩ := List.mem_map.mp hu
              exact List.mem_append_right _ (List.mem_map.mpr ⟨x, (List.mem_filter.mp hx).1, rfl⟩)
            have dn5 : ∀ {r : Addr} {o : HO}, H1 r = some o → r ≠ d := fun e => ne_of_none e dN
            have nq : ql ≠ d := ne_of hql h5 (by intro z; cases z)
            refine ⟨_, d5, ql, eq, ⟨_, SqL.of hql⟩, ?_⟩
            refine for_list (K := K) (a := ql) (xs := ts.map V.str) (fun j σ H' => ∃ (v5 : Option V) (F' W' : List PySem.Str), σ = [some (.ref b), some (.ref a), some (.ref D), v3, v4, v5, v6, some (.ref d), some (.ref wq), some (.str here)] ∧ H' d = some (.dK (F'.map fT)) ∧ H' wq = some (.lst (W'.map V.str)) ∧ Trn xs ss F W0 (ts.take j) F' W' ∧ Same H1 H' ∧ H' ql = some (.lst (ts.map V.str))) ?_ (fun j σ H' _ ⟨_, _, _, _, _, _, _, _, h⟩ => SqL.of h) ?_ ?_
            · exact ⟨_, F, W0, rfl, h5, w5, ⟨hS.nd, fun s hs => hs, fun s hs => hs, fun s hs => .inl hs, fun s hs => hS.wf s (List.mem_append_left _ hs), fun s hs => (by cases hs), hS.sub, rfl⟩, S5, hql⟩
            · rintro j y σ H6 hj ⟨v5, F', W', rfl, h6, w6, hT, s6, hq6⟩
              obtain ⟨u, rfl, hu⟩ := map_str hj
              have tk : ts.take (j + 1) = ts.take j ++ [u] := by rw [List.take_add_one, hu]; rfl
              have F'l : F'.length ≤ ss.length + xs.length := by
                have := nodup_le hT.nd hT.sub
                rw [List.length_append, List.length_map] at this
                exact this
              have tlen := hT.len
              have gu : DGet H6 d (.str u) (valV (F'.map fT) (.inr u)) := DGet.k (k := .inr u) h6
              refine ⟨_, rfl, _, rfl, d, _, rfl, gu, ?_⟩
              rw [val_fT]
              by_cases c : u ∈ F'
              · rw [if_pos c]
                refine ⟨_, rfl, iteF ⟨_, F', W', rfl, h6, w6, ⟨hT.nd, hT.f0, hT.w0, hT.fw, hT.wf, fun s hs => ?_, hT.sub, hT.len⟩, s6, hq6⟩⟩
                rw [tk] at hs
                rcases List.mem_append.mp hs with h | h
                · exact hT.ts s h
                · rw [List.mem_singleton.mp h]
                  exact c
              · rw [if_neg c]
                have dp : DPut H6 d (.str u) (.bl true) _ := DPut.k (k := .inr u) h6 (Nat.lt_of_le_of_lt (show _ ≤ 2000 by rw [List.length_map]; omega) (by decide))
                refine ⟨_, rfl, iteT ⟨_, rfl, _, rfl, d, _, rfl, dp, ?_⟩⟩
                rw [put_fT_new c]
                have w7 : (upd H6 d (.dK ((F' ++ [u]).map fT))) wq = some (.lst (W'.map V.str)) := (upd_ne ndw.symm).trans w6
                refine ⟨_, rfl, .inl ⟨rfl, _, SqL.of w7⟩, _, rfl, wq, _, _, rfl, rfl, w7, Nat.lt_of_le_of_lt (show _ ≤ 4000 by rw [List.length_map]; omega) (by decide), ?_⟩
                refine ⟨_, F' ++ [u], W' ++ [u], rfl, (upd_ne ndw).trans upd_same, upd_same.trans (by rw [show (W' ++ [u]).map V.str = W'.map V.str ++ [V.str u] from List.map_append]), ⟨nodup_snoc2 hT.nd c, fun s hs => List.mem_append_left _ (hT.f0 s hs), fun s hs => List.mem_append_left _ (hT.w0 s hs), fun s hs => ?_, fun s hs => ?_, fun s hs => ?_, fun s hs => ?_, ?_⟩, same_mut (same_mut s6 dN) wN, (upd_ne cq).trans ((upd_ne nq).trans hq6)⟩
                · rcases List.mem_append.mp hs with h | h
                  · exact (hT.fw s h).imp id fun h => List.mem_append_left _ h
                  · exact .inr (List.mem_append_right _ h)
                · rcases List.mem_append.mp hs with h | h
                  · exact List.mem_append_left _ (hT.wf s h)
                  · exact List.mem_append_right _ h
                · rw [tk] at hs
                  rcases List.mem_append.mp hs with h | h
                  · exact List.mem_append_left _ (hT.ts s h)
                  · exact List.mem_append_right _ h
                · rcases List.mem_append.mp hs with h | h
                  · exact hT.sub s h
                  · rw [List.mem_singleton.mp h]
                    exact tsub u (List.mem_of_getElem? hu)
                · rw [List.length_append, List.length_append, List.length_singleton]
                  omega
            · rintro σ H6 ⟨v5, F', W', rfl, h6, w6, hT, s6, hq6⟩
              rw [List.length_map, List.take_length, ← hts] at hT
              have tlen := hT.len
              have hF0 := nodup_le hS.nd hT.f0
              have hS' := hT.turn hS
              have F'l := hS'.len
              exact ⟨_, _, _, F', W', rfl, h6, w6, hS', s6, by omega, by omega⟩
        · refine .inr ⟨_, rfl, b, rfl, ⟨_, sqt_same hN.same hb⟩, fun d hd => dc_it walk_tup (fun i H' => ∃ F : List PySem.Str, H' d = some (.dK (F.map fT)) ∧ Same H1 H' ∧ F.Nodup ∧ (∀ z, z ∈ F ↔ z ∈ ss.take i) ∧ F.length ≤ i) ⟨[], upd_same, same_new hd, .nil, fun z => Iff.rfl, Nat.le_refl _⟩ (fun i H' _ ⟨_, _, h, _⟩ => sqt_same (hN.same.trans h) hb) ?_ ?_⟩
          · rintro i x H2 _ hi ⟨F, h2, hs, nd, hm, hl⟩ ⟨rfl, hx⟩
            obtain ⟨u, rfl, hu⟩ := map_str hx
            rw [List.length_map] at hi
            have tk : ss.take (i + 1) = ss.take i ++ [u] := by rw [List.take_add_one, hu]; rfl
            refine ⟨rfl, _, rfl, F.map fT, .inr u, rfl, h2, Nat.lt_of_le_of_lt (show _ ≤ 1000 by rw [List.length_map]; omega) (by decide), ?_⟩
            by_cases c : u ∈ F
            · refine ⟨F, ?_, same_mut hs hd, nd, fun z => ?_, by omega⟩
              · rw [put_fT_in c]
                exact upd_same
              · rw [tk, List.mem_append, ← hm, List.mem_singleton]
                exact ⟨.inl, fun h => h.elim id fun e => by rw [e]; exact c⟩
            · refine ⟨F ++ [u], ?_, same_mut hs hd, nodup_snoc2 nd c, fun z => ?_, by rw [List.length_append, List.length_singleton]; omega⟩
              · rw [put_fT_new c]
                exact upd_same
              · rw [tk, List.mem_append, List.mem_append, ← hm]
          rintro H2 ⟨F, h2, s2, nd, hm, hl⟩
          rw [List.length_map, List.take_length] at hm
          -- waiting: all of them
          refine ⟨_, rfl, d, _, rfl, .inl h2, fun wq hwq => ?_⟩
          have ewl : (F.map fT).map (fun kv => kV kv.1) = F.map V.str := by
            rw [List.map_map]
            rfl
          rw [ewl]
          have s3 : Same H2 (upd H2 wq (.lst (F.map V.str))) := same_new hwq
          have S3 := (hN.same.trans s2).trans s3
          have dN : H1 d = none := hd
          have wN : H1 wq = none := s2.free hwq
          have ndw : d ≠ wq := ne_of_none h2 hwq
          refine ⟨fun mm σ' H' => ∃ (v3 v5 v9 : Option V) (F W : List PySem.Str), σ' = [some (.ref b), some (.ref a), some (.ref D), v3, v4, v5, v6, some (.ref d), some (.ref wq), v9] ∧ H' d = some (.dK (F.map fT)) ∧ H' wq = some (.lst (W.map V.str)) ∧ Sch xs ss F W ∧ Same H1 H' ∧ W.length + 2 * (ss.length + xs.length - F.length) ≤ mm ∧ W.length ≤ F.length, ⟨F.length + 2 * (ss.length + xs.length - F.length), _, _, _, F, F, rfl, s3 _ _ h2, upd_same, ⟨nd, fun s hs => (hm s).mpr hs, fun s hs => hs, fun x _ h1 h2 => absurd h1 h2, fun s hs => List.mem_append_left _ ((hm s).mp hs)⟩, s2.trans s3, Nat.le_refl _, Nat.le_refl _⟩, ?_⟩
          rintro mm σ' H3 ⟨v3, v5, v9, F, W, rfl, h3, hw3, hS, hs3, hmm, hWF⟩
          have hFl := hS.len
          refine ⟨_, rfl, _, .inl ⟨_, SqL.of hw3, rfl⟩, ?_⟩
          by_cases cW : W = []
          · subst cW
            refine iteF ⟨_, rfl, ?_⟩
            exact k d F H3 (hN.same.free dN) h3 hS.nd hS.st (fun x hx hf => hS.cl x hx hf List.not_mem_nil) hS.sub (hN.same.trans hs3)
          · obtain ⟨W0, here, eW⟩ : ∃ W0 here, W = W0 ++ [here] := ⟨W.dropLast, W.getLast cW, (List.dropLast_concat_getLast cW).symm⟩
            subst eW
            have eE : (!((W0 ++ [here]).map V.str).isEmpty) = true := by simp
            rw [eE]
            refine iteT ?_
            rw [List.length_append, List.length_singleton] at hmm hWF
            refine ⟨fun σ' H' => ∃ (v3 v5 v9 : Option V) (F W : List PySem.Str), σ' = [some (.ref b), some (.ref a), some (.ref D), v3, v4, v5, v6, some (.ref d), some (.ref wq), v9] ∧ H' d = some (.dK (F.map fT)) ∧ H' wq = some (.lst (W.map V.str)) ∧ Sch xs ss F W ∧ Same H1 H' ∧ W.length + 2 * (ss.length + xs.length - F.length) ≤ mm - 1 ∧ W.length ≤ F.length, fun σ' H' h => ⟨mm - 1, by omega, h⟩, ?_⟩
            -- the last one
            have eL : ((W0 ++ [here]).map V.str)[((W0 ++ [here]).map V.str).length - 1]? = some (.str here) := by
              rw [List.map_append, List.length_append]
              simp
            have eD : ((W0 ++ [here]).map V.str).dropLast = W0.map V.str := by
              rw [List.map_append]
              simp
            refine ⟨_, rfl, .inl ⟨rfl, _, SqL.of hw3⟩, wq, _, _, rfl, rfl, hw3, eL, ?_⟩
            rw [eD]
            have s4 : Same H1 (upd H3 wq (.lst (W0.map V.str))) := same_mut hs3 wN
            have h4 : (upd H3 wq (.lst (W0.map V.str))) d = some (.dK (F.map fT)) := (upd_ne ndw).trans h3
            have w4 : (upd H3 wq (.lst (W0.map V.str))) wq = some (.lst (W0.map V.str)) := upd_same
            generalize upd H3 wq (.lst (W0.map V.str)) = H4 at s4 h4 w4
            have gN : DGet H4 D (.str here) (valV (ps.map pk) (.inr here)) := DGet.k (k := .inr here) (s4 _ _ hN.d)
            -- what it leads to
            refine ⟨_, rfl, D, rfl, .inl ⟨_, .inl (s4 _ _ hN.d)⟩, _, rfl, Nat.zero_le _, fun q0 hq0 => ?_⟩
            have s5 : Same H4 (upd H4 q0 (.lst [])) := same_new hq0
            obtain ⟨ql, eq, hql, cq⟩ : ∃ ql, (valV (ps.map pk) (.inr here)).getD (.ref q0) = .ref ql ∧ (upd H4 q0 (.lst [])) ql = some (.lst (((xs.filter fun x => decide (x.s = here)).map Arw.t).map V.str)) ∧ ql ≠ wq := by
              by_cases hk : here ∈ ps.map (·.1)
              · obtain ⟨p, hp, ep⟩ := List.mem_map.mp hk
                have hp' : (here, p.2) ∈ ps := by rw [← ep]; exact hp
                exact ⟨p.2, by rw [pk_val hN.nk hp']; rfl, s5 _ _ (s4 _ _ (hN.each _ hp').2.2), ne_of_none (hN.each _ hp').2.2 wN⟩
              · refine ⟨q0, by rw [valV_none (fun c => hk (pk_mem.mp c))]; rfl, ?_, (ne_of_none w4 hq0).symm⟩
                have := hN.no here hk
                have e : ((xs.filter fun x => decide (x.s = here)).map Arw.t) = [] := this
                rw [e]
                exact upd_same
            have S5 := s4.trans s5
            have h5 := s5 _ _ h4
            have w5 := s5 _ _ w4
            have d5 : DGet (upd H4 q0 (.lst [])) D (.str here) (valV (ps.map pk) (.inr here)) := DGet.k (k := .inr here) (S5 _ _ hN.d)
            generalize upd H4 q0 (.lst []) = H5 at S5 h5 w5 hql d5
            generalize hts : (xs.filter fun x => decide (x.s = here)).map Arw.t = ts at hql
            have tsl : ts.length ≤ xs.length := by
              rw [← hts, List.length_map]
              exact List.length_filter_le ..
            have tsub : ∀ u ∈ ts, u ∈ ss ++ xs.map Arw.t := fun u hu => by
              rw [← hts] at hu
              obtain ⟨x, hx, rfl⟩ := List.mem_map.mp hu
              exact List.mem_append_right _ (List.mem_map.mpr ⟨x, (List.mem_filter.mp hx).1, rfl⟩)
            have dn5 : ∀ {r : Addr} {o : HO}, H1 r = some o → r ≠ d := fun e => ne_of_none e dN
            have nq : ql ≠ d := ne_of hql h5 (by intro z; cases z)
            refine ⟨_, d5, ql, eq, ⟨_, SqL.of hql⟩, ?_⟩
            refine for_list (K := K) (a := ql) (xs := ts.map V.str) (fun j σ H' => ∃ (v5 : Option V) (F' W' : List PySem.Str), σ = [some (.ref b), some (.ref a), some (.ref D), v3, v4, v5, v6, some (.ref d), some (.ref wq), some (.str here)] ∧ H' d = some (.dK (F'.map fT)) ∧ H' wq = some (.lst (W'.map V.str)) ∧ Trn xs ss F W0 (ts.take j) F' W' ∧ Same H1 H' ∧ H' ql = some (.lst (ts.map V.str))) ?_ (fun j σ H' _ ⟨_, _, _, _, _, _, _, _, h⟩ => SqL.of h) ?_ ?_
            · exact ⟨_, F, W0, rfl, h5, w5, ⟨hS.nd, fun s hs => hs, fun s hs => hs, fun s hs => .inl hs, fun s hs => hS.wf s (List.mem_append_left _ hs), fun s hs => (by cases hs), hS.sub, rfl⟩, S5, hql⟩
            · rintro j y σ H6 hj ⟨v5, F', W', rfl, h6, w6, hT, s6, hq6⟩
              obtain ⟨u, rfl, hu⟩ := map_str hj
              have tk : ts.take (j + 1) = ts.take j ++ [u] := by rw [List.take_add_one, hu]; rfl
              have F'l : F'.length ≤ ss.length + xs.length := by
                have := nodup_le hT.nd hT.sub
                rw [List.length_append, List.length_map] at this
                exact this
              have tlen := hT.len
              have gu : DGet H6 d (.str u) (valV (F'.map fT) (.inr u)) := DGet.k (k := .inr u) h6
              refine ⟨_, rfl, _, rfl, d, _, rfl, gu, ?_⟩
              rw [val_fT]
              by_cases c : u ∈ F'
              · rw [if_pos c]
                refine ⟨_, rfl, iteF ⟨_, F', W', rfl, h6, w6, ⟨hT.nd, hT.f0, hT.w0, hT.fw, hT.wf, fun s hs => ?_, hT.sub, hT.len⟩, s6, hq6⟩⟩
                rw [tk] at hs
                rcases List.mem_append.mp hs with h | h
                · exact hT.ts s h
                · rw [List.mem_singleton.mp h]
                  exact c
              · rw [if_neg c]
                have dp : DPut H6 d (.str u) (.bl true) _ := DPut.k (k := .inr u) h6 (Nat.lt_of_le_of_lt (show _ ≤ 2000 by rw [List.length_map]; omega) (by decide))
                refine ⟨_, rfl, iteT ⟨_, rfl, _, rfl, d, _, rfl, dp, ?_⟩⟩
                rw [put_fT_new c]
                have w7 : (upd H6 d (.dK ((F' ++ [u]).map fT))) wq = some (.lst (W'.map V.str)) := (upd_ne ndw.symm).trans w6
                refine ⟨_, rfl, .inl ⟨rfl, _, SqL.of w7⟩, _, rfl, wq, _, _, rfl, rfl, w7, Nat.lt_of_le_of_lt (show _ ≤ 4000 by rw [List.length_map]; omega) (by decide), ?_⟩
                refine ⟨_, F' ++ [u], W' ++ [u], rfl, (upd_ne ndw).trans upd_same, upd_same.trans (by rw [show (W' ++ [u]).map V.str = W'.map V.str ++ [V.str u] from List.map_append]), ⟨nodup_snoc2 hT.nd c, fun s hs => List.mem_append_left _ (hT.f0 s hs), fun s hs => List.mem_append_left _ (hT.w0 s hs), fun s hs => ?_, fun s hs => ?_, fun s hs => ?_, fun s hs => ?_, ?_⟩, same_mut (same_mut s6 dN) wN, (upd_ne cq).trans ((upd_ne nq).trans hq6)⟩
                · rcases List.mem_append.mp hs with h | h
                  · exact (hT.fw s h).imp id fun h => List.mem_append_left _ h
                  · exact .inr (List.mem_append_right _ h)
                · rcases List.mem_append.mp hs with h | h
                  · exact List.mem_append_left _ (hT.wf s h)
                  · exact List.mem_append_right _ h
                · rw [tk] at hs
                  rcases List.mem_append.mp hs with h | h
                  · exact List.mem_append_left _ (hT.ts s h)
                  · exact List.mem_append_right _ h
                · rcases List.mem_append.mp hs with h | h
                  · exact hT.sub s h
                  · rw [List.mem_singleton.mp h]
                    exact tsub u (List.mem_of_getElem? hu)
                · rw [List.length_append, List.length_append, List.length_singleton]
                  omega
            · rintro σ H6 ⟨v5, F', W', rfl, h6, w6, hT, s6, hq6⟩
              rw [List.length_map, List.take_length, ← hts] at hT
              have tlen := hT.len
              have hF0 := nodup_le hS.nd hT.f0
              have hS' := hT.turn hS
              have F'l := hS'.len
              exact ⟨_, _, _, F', W', rfl, h6, w6, hS', s6, by omega, by omega⟩
end
end Pf
namespace Pf
open PySem PySem.Spec PyProof.Rows L2 Bz
local macro_rules | `(tactic| walk_at "sd") => `(tactic| first
  | rfl | assumption | omega | exact Nat.le_of_ble_eq_true rfl | decide | (refine Or.inl (And.intro ?_ ?_) <;> omega) | (refine Or.inr (And.intro ?_ ?_) <;> omega) | (refine And.intro ?_ ?_ <;> omega) | (refine ⟨?_, ?_, ?_⟩ <;> omega))
local macro_rules | `(tactic| walk_at "sq") => `(tactic| first | assumption | exact SqL.of (by assumption) | exact SqT.of (by assumption) | exact SqL.of upd_same | exact SqT.of upd_same)
local macro_rules | `(tactic| walk_at "hp") => `(tactic| first | assumption | exact upd_same)
local macro_rules | `(tactic| walk_at "rd") => `(tactic| repeat (first
  | (refine ⟨_, rfl, ?_⟩) | (refine ⟨_, _, rfl, rfl, ?_⟩) | (refine ⟨rfl, ?_⟩) | (refine And.intro (by walk_at "sd") ?_)
  | (refine ⟨_, _, _, _, rfl, rfl, (by walk_at "sq"), rfl, ?_⟩)
  | (refine ⟨_, _, _, _, rfl, rfl, (by walk_at "hp"), rfl, ?_⟩)
  | (refine Or.inl ⟨_, rfl, ?_⟩)))
section
variable {P : Program} {w : World} {K : PySem.W.Frag} {mg : PySem.Str → Option Value} {base : Heap} {kl : Cl}
theorem ok_backward (T : Facts K mg kl) : Keeps P w K mg base CX0 1 "backward" ["arrows"] (spBackward K) := by
  refine keeps0 T.d_backward sc_backward (fun vs H Q E h => ?_) (fun f cdv A outer s H vs Q E hr h => ?_)
  · obtain ⟨a, us, xs, rfl, _⟩ := h
    rfl
  · obtain ⟨a, us, xs, rfl, ha, hA, hl, k⟩ := h
    refine ⟨_, (pss_one (ps_ret (pe_lc (own := [("state", 1), ("letter", 2), ("after", 3), ("cost", 4)]) (g := gTup K 4 (gCons (gName 1) (gCons (gName 2) (gCons (gName 3) (gCons (gName 4) (gNil)))))) (tt := tYes) rfl sc_backward.nd (pi_or (kpi_list K (pv 0)) (kpi_tup K (pv 0))) (blkOk_by (own := [("state", 1), ("letter", 2), ("after", 3), ("cost", 4)]) (N := N_backward) (sc := defScope s_backward) (by decide +kernel)) (fun _ _ _ _ _ => (kpg_tup K rfl (pgs_cons (pg_name (i := 1) sc_backward.nd rfl (Or.inl rfl)) (pgs_cons (pg_name (i := 2) sc_backward.nd rfl (Or.inl rfl)) (pgs_cons (pg_name (i := 3) sc_backward.nd rfl (Or.inl rfl)) (pgs_cons (pg_name (i := 4) sc_backward.nd rfl (Or.inl rfl)) pgs_nil)))))) (fun _ _ _ _ _ => pts_nil) (fun _ _ _ _ _ => (pe_tup (pa_cons (pv 3) (pa_cons (pv 2) (pa_cons (pv 1) (pa_cons (pv 4) pa_nil))))))))), ?_⟩
    have ul : us.length = xs.length := Paired.length hA
    rcases ha with ha | ha
    · refine .inl ⟨_, rfl, a, rfl, ⟨_, ha⟩, fun D hD => lcA walk_list (fun i acc H' => ArD D H' acc ((xs.take i).map swapA) ∧ Same H H') ⟨.nil, .refl _⟩ (fun i acc H' o h => ⟨h.1.upd, same_mut h.2 hD⟩) (fun i acc H' _ h => Same.seq h.2 ha) ?_ ?_⟩
      · rintro i x acc _ H1 hi ⟨hI, hs⟩ hB hl1 ⟨rfl, hx⟩
        obtain ⟨r, y, rfl, hy, hr⟩ := ArS.get (hA.same hs) hx
        refine ⟨r, _, rfl, SqT.of hr, rfl, _, _, rfl, _, _, rfl, _, _, rfl, _, _, rfl, rfl, rfl, ?_⟩
        refine ⟨_, rfl, _, rfl, _, rfl, _, rfl, Nat.le_of_ble_eq_true rfl, fun g hg => ?_⟩
        have s2 : Same H1 (upd H1 g (.tup (swapA y).vals)) := same_new hg
        have ng : g ≠ D := fun z => by
          rw [z, hB] at hg
          cases hg
        refine LcP.put (fun i acc H' o h => ⟨h.1.upd, same_mut h.2 hD⟩) (s2 _ _ hB) hl1 (by omega) ⟨?_, hs.trans s2⟩
        rw [List.take_add_one, hy, Option.toList_some, List.map_append]
        exact (hI.keep s2).snoc (x := swapA y) ng upd_same
      · rintro acc H1 ⟨hI, hs⟩ hB hl1
        rw [ul, List.take_length] at hI
        exact k D acc H1 hD hB hI.ars hs
    · refine .inr ⟨_, rfl, a, rfl, ⟨_, ha⟩, fun D hD => lcA walk_tup (fun i acc H' => ArD D H' acc ((xs.take i).map swapA) ∧ Same H H') ⟨.nil, .refl _⟩ (fun i acc H' o h => ⟨h.1.upd, same_mut h.2 hD⟩) (fun i acc H' _ h => sqt_same h.2 ha) ?_ ?_⟩
      · rintro i x acc _ H1 hi ⟨hI, hs⟩ hB hl1 ⟨rfl, hx⟩
        obtain ⟨r, y, rfl, hy, hr⟩ := ArS.get (hA.same hs) hx
        refine ⟨r, _, rfl, SqT.of hr, rfl, _, _, rfl, _, _, rfl, _, _, rfl, _, _, rfl, rfl, rfl, ?_⟩
        refine ⟨_, rfl, _, rfl, _, rfl, _, rfl, Nat.le_of_ble_eq_true rfl, fun g hg => ?_⟩
        have s2 : Same H1 (upd H1 g (.tup (swapA y).vals)) := same_new hg
        have ng : g ≠ D := fun z => by
          rw [z, hB] at hg
          cases hg
        refine LcP.put (fun i acc H' o h => ⟨h.1.upd, same_mut h.2 hD⟩) (s2 _ _ hB) hl1 (by omega) ⟨?_, hs.trans s2⟩
        rw [List.take_add_one, hy, Option.toList_some, List.map_append]
        exact (hI.keep s2).snoc (x := swapA y) ng upd_same
      · rintro acc H1 ⟨hI, hs⟩ hB hl1
        rw [ul, List.take_length] at hI
        exact k D acc H1 hD hB hI.ars hs
end
end Pf
namespace Pf
open PySem PySem.Spec PyProof.Rows L2 Bz
local macro_rules | `(tactic| walk_at "sd") => `(tactic| first
  | rfl | assumption | omega | exact Nat.le_of_ble_eq_true rfl | decide | (refine Or.inl (And.intro ?_ ?_) <;> omega) | (refine Or.inr (And.intro ?_ ?_) <;> omega) | (refine And.intro ?_ ?_ <;> omega) | (refine ⟨?_, ?_, ?_⟩ <;> omega))
local macro_rules | `(tactic| walk_at "sq") => `(tactic| first | assumption | exact SqL.of (by assumption) | exact SqT.of (by assumption) | exact SqL.of upd_same | exact SqT.of upd_same)
local macro_rules | `(tactic| walk_at "hp") => `(tactic| first | assumption | exact upd_same)
local macro_rules | `(tactic| walk_at "rd") => `(tactic| repeat (first
  | (refine ⟨_, rfl, ?_⟩) | (refine ⟨_, _, rfl, rfl, ?_⟩) | (refine ⟨rfl, ?_⟩) | (refine And.intro (by walk_at "sd") ?_)
  | (refine ⟨_, _, _, _, rfl, rfl, (by walk_at "sq"), rfl, ?_⟩)
  | (refine ⟨_, _, _, _, rfl, rfl, (by walk_at "hp"), rfl, ?_⟩)
  | (refine Or.inl ⟨_, rfl, ?_⟩)))
section
variable {P : Program} {w : World} {K : PySem.W.Frag} {mg : PySem.Str → Option Value} {base : Heap} {kl : Cl}
def spUsefulT (K : PySem.W.Frag) : Sp := fun vs H Q _ => ∃ (a b e : Addr) (us : List V) (xs : List Arw) (ss es : List PySem.Str), vs = [.ref a, .ref b, .ref e] ∧ H a = some (.tup us) ∧ ArS H us xs ∧ SqE K H b (ss.map V.str) ∧ SqE K H e (es.map V.str) ∧ xs.length ≤ 900 ∧ ss.length ≤ 400 ∧ es.length ≤ 400 ∧
  ∀ (t q1 q2 q3 : Addr) (ws : List V) (ys : List Arw) (F1 F2 : List PySem.Str) (H' : Hp), H' t = some (.tup [.ref q1, .ref q2, .ref q3]) → H' q1 = some (.tup ws) → ArS H' ws ys → CheapOf (xs.filter (kpA F1 F2)) ys → H' q2 = some (.lst ((ss.filter (kp F1 F2)).map V.str)) → H' q3 = some (.lst ((es.filter (kp F1 F2)).map V.str)) →
    Kept xs ss es F1 F2 → Same H H' → Q (.ref t) H'
theorem ok_useful (T : Facts K mg kl) : Keeps P w K mg base CX0 2 "useful" ["arrows", "starts", "ends"] (spUsefulT K) := by
  refine keeps0 T.d_useful sc_useful (fun vs H Q E h => ?_) (fun f cdv A outer s H vs Q E hr h => ?_)
  · obtain ⟨a, b, e, us, xs, ss, es, rfl, _⟩ := h
    rfl
  · obtain ⟨a, b, e, us, xs, ss, es, rfl, ha, hA, hb, he, xl, sl, el, k⟩ := h
    refine ⟨_, (pss_cons (ps_set (i := 3) sc_useful.nd rfl (Or.inl rfl) (pe_own (ok_reached T) hr (pa_cons (pv 1) (pa_cons (pv 0) pa_nil))))
  (pss_cons (ps_set (i := 4) sc_useful.nd rfl (Or.inr rfl) (pe_own (ok_reached T) hr (pa_cons (pv 2) (pa_cons (pe_own (ok_backward T) hr (pa_cons (pv 0) pa_nil)) pa_nil))))
  (pss_cons (ps_set (i := 5) sc_useful.nd rfl (Or.inr rfl) (pe_lock (pe_dc (own := [("state", 6)]) (g := gName 6) rfl sc_useful.nd (pi_keys (pv 3)) (blkOk_by (own := [("state", 6)]) (N := N_useful) (sc := defScope s_useful) (by decide +kernel)) (fun _ _ _ _ _ => (pg_name (i := 6) sc_useful.nd rfl (Or.inl rfl))) (fun _ _ _ _ _ => pts_one (pt_cmp (pc_din (hu_of hr) (pv 6) (pv 4)))) (fun _ _ _ _ _ => (pv 6)) (fun _ _ _ _ _ => pe_bl))))
  (pss_one (ps_ret (pe_tup (pa_cons (pe_own (ok_cheapest T) hr (pa_cons (pe_lc (own := [("arrow", 7)]) (g := gName 7) rfl sc_useful.nd (pi_or (kpi_list K (pv 0)) (kpi_tup K (pv 0))) (blkOk_by (own := [("arrow", 7)]) (N := N_useful) (sc := defScope s_useful) (by decide +kernel)) (fun _ _ _ _ _ => (pg_name (i := 7) sc_useful.nd rfl (Or.inl rfl))) (fun _ _ _ _ _ => pts_one (PW.pt (pw_and (pt_cmp (pc_din (hu_of hr) (pe_ix (kix_tup K) (pv 7) pe_int (fun _ _ => rfl)) (pv 5))) (pw_and1 (pt_cmp (pc_din (hu_of hr) (pe_ix (kix_tup K) (pv 7) pe_int (fun _ _ => rfl)) (pv 5))))))) (fun _ _ _ _ _ => (pv 7))) pa_nil)) (pa_cons (pe_lc (own := [("state", 6)]) (g := gName 6) rfl sc_useful.nd (pi_or (kpi_list K (pv 1)) (kpi_tup K (pv 1))) (blkOk_by (own := [("state", 6)]) (N := N_useful) (sc := defScope s_useful) (by decide +kernel)) (fun _ _ _ _ _ => (pg_name (i := 6) sc_useful.nd rfl (Or.inl rfl))) (fun _ _ _ _ _ => pts_one (pt_cmp (pc_din (hu_of hr) (pv 6) (pv 5)))) (fun _ _ _ _ _ => (pv 6))) (pa_cons (pe_lc (own := [("state", 6)]) (g := gName 6) rfl sc_useful.nd (pi_or (kpi_list K (pv 2)) (kpi_tup K (pv 2))) (blkOk_by (own := [("state", 6)]) (N := N_useful) (sc := defScope s_useful) (by decide +kernel)) (fun _ _ _ _ _ => (pg_name (i := 6) sc_useful.nd rfl (Or.inl rfl))) (fun _ _ _ _ _ => pts_one (pt_cmp (pc_din (hu_of hr) (pv 6) (pv 5)))) (fun _ _ _ _ _ => (pv 6))) pa_nil))))))))), ?_⟩
    have ul : us.length = xs.length := Paired.length hA
    refine ⟨_, rfl, _, rfl, b, a, us, xs, ss, rfl, hb, .inr (SqT.of ha), hA, by omega, by omega, fun d1 F1 H1 f1 h1 n1 st1 cl1 sub1 s1 => ?_⟩
    refine ⟨_, rfl, _, rfl, a, us, xs, rfl, .inr (SqT.of (s1 _ _ ha)), hA.same s1, by omega, fun q ws H2 f2 h2 hW s2 => ?_⟩
    refine ⟨e, q, ws, xs.map swapA, es, rfl, he.same (s1.trans s2), .inl (SqL.of h2), hW, by omega, by rw [List.length_map]; omega, fun d2 F2 H3 f3 h3 n2 st2 cl2 sub2 s3 => ?_⟩
    have hK : Kept xs ss es F1 F2 := ⟨st1, cl1, st2, fun x hx h => cl2 (swapA x) (List.mem_map.mpr ⟨x, hx, rfl⟩) h, sub1⟩
    have S3 := (s1.trans s2).trans s3
    have h13 := (s2.trans s3) _ _ h1
    have F1l : F1.length ≤ ss.length + xs.length := by
      have := nodup_le n1 sub1
      rw [List.length_append, List.length_map] at this
      exact this
    have n12 : d2 ≠ d1 := fun e => by
      rw [e, s2 _ _ h1] at f3
      cases f3
    -- those on some run
    refine ⟨d1, _, h13, trivial, fun od => ?_⟩
    refine ⟨_, rfl, d1, od, rfl, .inl ⟨_, upd_same, fun d hd => ?_⟩⟩
    have sf : ∀ {r : Addr} {o : HO}, r ≠ d1 → H3 r = some o → (upd H3 d1 (.frz od (.dK (F1.map fT)))) r = some o := fun n e => (upd_ne n).trans e
    have ndd : d ≠ d1 := fun e => by
      rw [e, upd_same] at hd
      cases hd
    have hd3 : H3 d = none := by
      rw [upd_ne ndd] at hd
      exact hd
    refine dc_it walk_keys (fun i H' => ∃ F : List PySem.Str, H' d = some (.dK (F.map fT)) ∧ Same (upd H3 d1 (.frz od (.dK (F1.map fT)))) H' ∧ (∀ z, z ∈ F ↔ z ∈ F1.take i ∧ z ∈ F2) ∧ F.length ≤ i) ⟨[], upd_same, same_new hd, fun z => ⟨fun h => (by cases h), fun h => (by cases h.1)⟩, Nat.le_refl _⟩ (fun i H' _ ⟨_, _, h, _⟩ => h _ _ upd_same) ?_ ?_
    · rintro i x _ H4 hi ⟨F, h4, hs, hm, hl⟩ ⟨rfl, kk, v, hkv, rfl⟩
      rw [List.length_map] at hi
      obtain ⟨u, hu, eu⟩ : ∃ u, F1[i]? = some u ∧ fT u = (kk, v) := by
        rw [List.getElem?_map] at hkv
        exact Option.map_eq_some_iff.mp hkv
      cases eu
      have tk : F1.take (i + 1) = F1.take i ++ [u] := by rw [List.take_add_one, hu]; rfl
      have gu : DGet H4 d2 (.str u) (valV (F2.map fT) (.inr u)) := DGet.k (k := .inr u) (hs _ _ (sf n12 h3))
      refine ⟨rfl, _, rfl, _, rfl, d2, _, rfl, gu, ?_⟩
      rw [val_fT]
      by_cases c : u ∈ F2
      · rw [if_pos c]
        refine ⟨_, rfl, iteT ?_⟩
        refine ⟨_, rfl, F.map fT, .inr u, rfl, h4, Nat.lt_of_le_of_lt (show _ ≤ 2000 by rw [List.length_map]; omega) (by decide), ?_⟩
        by_cases c2 : u ∈ F
        · refine ⟨F, ?_, same_mut hs hd, fun z => ?_, by omega⟩
          · rw [put_fT_in c2]
            exact upd_same
          · rw [tk, List.mem_append, hm, List.mem_singleton]
            exact ⟨fun h => ⟨.inl h.1, h.2⟩, fun h => h.1.elim (fun h1 => ⟨h1, h.2⟩) fun e => by rw [e]; exact (hm u).mp c2⟩
        · refine ⟨F ++ [u], ?_, same_mut hs hd, fun z => ?_, by rw [List.length_append, List.length_singleton]; omega⟩
          · rw [put_fT_new c2]
            exact upd_same
          · rw [tk, List.mem_append, List.mem_append, hm, List.mem_singleton]
            exact ⟨fun h => h.elim (fun h => ⟨.inl h.1, h.2⟩) fun e => ⟨.inr e, by rw [e]; exact c⟩, fun h => h.1.elim (fun h1 => .inl ⟨h1, h.2⟩) .inr⟩
      · rw [if_neg c]
        refine ⟨_, rfl, iteF ⟨F, h4, hs, fun z => ?_, by omega⟩⟩
        rw [tk, List.mem_append, hm, List.mem_singleton]
        exact ⟨fun h => ⟨.inl h.1, h.2⟩, fun h => h.1.elim (fun h1 => ⟨h1, h.2⟩) fun e => absurd (by rw [← e]; exact h.2) c⟩
    rintro H4 ⟨F, h4, hs4, hm, hl4⟩
    rw [List.length_map, List.take_length] at hm
    refine ⟨hs4 _ _ upd_same, ?_⟩
    have s5 : Same H3 (upd H4 d1 (.dK (F1.map fT))) := fun r o er => by
      by_cases c : r = d1
      · subst c
        rw [h13] at er
        rw [upd_same]
        exact er
      · rw [upd_ne c]
        exact hs4 _ _ (sf c er)
    have h5 : (upd H4 d1 (.dK (F1.map fT))) d = some (.dK (F.map fT)) := (upd_ne ndd).trans h4
    generalize upd H4 d1 (.dK (F1.map fT)) = H5 at s5 h5
    have S5 := S3.trans s5
    have kpv : ∀ z, valV (F.map fT) (.inr z) = if kp F1 F2 z = true then some (.bl true) else none := fun z => by
      rw [val_fT]
      by_cases c : z ∈ F
      · rw [if_pos c, if_pos (kp_iff.mpr ((hm z).mp c))]
      · rw [if_neg c, if_neg fun q => c ((hm z).mpr (kp_iff.mp q))]
    -- the arrows
    refine .inr ⟨_, rfl, a, rfl, ⟨_, SqT.of (S5 _ _ ha)⟩, fun D1 hD1 => lcA walk_tup (fun i acc H' => ArD D1 H' acc ((xs.take i).filter (kpA F1 F2)) ∧ Same H5 H') ⟨.nil, .refl _⟩ (fun i acc H' o h => ⟨h.1.upd, same_mut h.2 hD1⟩) (fun i acc H' _ h => SqT.of ((S5.trans h.2) _ _ ha)) ?_ ?_⟩
    · rintro i x acc _ H6 hi ⟨hz, hs6⟩ hB hl6 ⟨rfl, hx⟩
      obtain ⟨r, y, rfl, hy, hr0⟩ := ArS.get (hA.same S5) hx
      have hr6 := hs6 _ _ hr0
      have nr : r ≠ D1 := ne_of_none hr0 hD1
      have tk : xs.take (i + 1) = xs.take i ++ [y] := by rw [List.take_add_one, hy]; rfl
      have g1 : DGet H6 d (.str y.s) (valV (F.map fT) (.inr y.s)) := DGet.k (k := .inr y.s) (hs6 _ _ h5)
      have g2 : DGet H6 d (.str y.t) (valV (F.map fT) (.inr y.t)) := DGet.k (k := .inr y.t) (hs6 _ _ h5)
      refine ⟨rfl, _, rfl, r, _, 0, _, rfl, rfl, SqT.of hr6, rfl, _, rfl, d, _, rfl, g1, ?_⟩
      rw [kpv]
      by_cases c1 : kp F1 F2 y.s = true
      · rw [if_pos c1]
        refine ⟨_, rfl, iteT ⟨_, rfl, r, _, 2, _, rfl, rfl, SqT.of hr6, rfl, _, rfl, d, _, rfl, g2, ?_⟩⟩
        rw [kpv]
        by_cases c2 : kp F1 F2 y.t = true
        · rw [if_pos c2]
          refine ⟨_, rfl, iteT ⟨_, rfl, LcP.put (fun i acc H' o h => ⟨h.1.upd, same_mut h.2 hD1⟩) hB hl6 (by omega) ⟨?_, hs6⟩⟩⟩
          rw [tk, List.filter_append, List.filter_cons_of_pos (a := y) (by unfold kpA; rw [c1, c2]; rfl)]
          exact hz.snoc (x := y) nr hr6
        · rw [if_neg c2]
          refine ⟨_, rfl, iteF (LcP.skip hB hl6 ⟨?_, hs6⟩)⟩
          rw [tk, List.filter_append, List.filter_cons_of_neg (a := y) (by unfold kpA; rw [Bool.and_eq_true]; exact fun q => c2 q.2)]
          simpa using hz
      · rw [if_neg c1]
        refine ⟨_, rfl, iteF (iteF (LcP.skip hB hl6 ⟨?_, hs6⟩))⟩
        rw [tk, List.filter_append, List.filter_cons_of_neg (a := y) (by unfold kpA; rw [Bool.and_eq_true]; exact fun q => c1 q.1)]
        simpa using hz
    rintro acc H6 ⟨hz, hs6⟩ hB hl6
    rw [ul, List.take_length] at hz
    have fl : (xs.filter (kpA F1 F2)).length ≤ 900 := Nat.le_trans (List.length_filter_le ..) xl
    refine ⟨D1, acc, _, rfl, .inl (SqL.of hB), hz.ars, by omega, fun q1 wq yq H7 f7 h7 hW7 hC7 s7 => ?_⟩
    have S7 := (S5.trans hs6).trans s7
    have h57 := s7 _ _ (hs6 _ _ h5)
    -- the starts
    rcases hb with hb | hb
    · refine .inl ⟨_, rfl, b, rfl, ⟨_, Same.seq S7 hb⟩, fun D2 hD2 => lcA walk_list (fun i acc H' => acc = ((ss.take i).filter (kp F1 F2)).map V.str ∧ Same H7 H') ⟨rfl, .refl _⟩ (fun i acc H' o h => ⟨h.1, same_mut h.2 hD2⟩) (fun i acc H' _ h => Same.seq (S7.trans h.2) hb) ?_ ?_⟩
      · rintro i x acc _ H8 hi ⟨rfl, hs8⟩ hB8 hl8 ⟨rfl, hx⟩
        obtain ⟨u, rfl, hu⟩ := map_str hx
        rw [List.length_map] at hi
        have tk : ss.take (i + 1) = ss.take i ++ [u] := by rw [List.take_add_one, hu]; rfl
        have g1 : DGet H8 d (.str u) (valV (F.map fT) (.inr u)) := DGet.k (k := .inr u) (hs8 _ _ h57)
        refine ⟨rfl, _, rfl, _, rfl, d, _, rfl, g1, ?_⟩
        rw [kpv]
        by_cases c1 : kp F1 F2 u = true
        · rw [if_pos c1]
          refine ⟨_, rfl, iteT ⟨_, rfl, LcP.put (fun i acc H' o h => ⟨h.1, same_mut h.2 hD2⟩) hB8 hl8 (by omega) ⟨?_, hs8⟩⟩⟩
          rw [tk, List.filter_append, List.filter_cons_of_pos c1, List.map_append]
          rfl
        · rw [if_neg c1]
          refine ⟨_, rfl, iteF (LcP.skip hB8 hl8 ⟨?_, hs8⟩)⟩
          rw [tk, List.filter_append, List.filter_cons_of_neg c1]
          simp
      rintro acc2 H8 ⟨rfl, hs8⟩ hB8 hl8
      rw [List.length_map, List.take_length] at hB8
      have S8 := S7.trans hs8
      have h58 := hs8 _ _ h57
      -- the ends
      rcases he with he | he
      · refine .inl ⟨_, rfl, e, rfl, ⟨_, Same.seq S8 he⟩, fun D3 hD3 => lcA walk_list (fun i acc H' => acc = ((es.take i).filter (kp F1 F2)).map V.str ∧ Same H8 H') ⟨rfl, .refl _⟩ (fun i acc H' o h => ⟨h.1, same_mut h.2 hD3⟩) (fun i acc H' _ h => Same.seq (S8.trans h.2) he) ?_ ?_⟩
        · rintro i x acc _ H9 hi ⟨rfl, hs9⟩ hB9 hl9 ⟨rfl, hx⟩
          obtain ⟨u, rfl, hu⟩ := map_str hx
          rw [List.length_map] at hi
          have tk : es.take (i + 1) = es.take i ++ [u] := by rw [List.take_add_one, hu]; rfl
          have g1 : DGet H9 d (.str u) (valV (F.map fT) (.inr u)) := DGet.k (k := .inr u) (hs9 _ _ h58)
          refine ⟨rfl, _, rfl, _, rfl, d, _, rfl, g1, ?_⟩
          rw [kpv]
          by_cases c1 : kp F1 F2 u = true
          · rw [if_pos c1]
            refine ⟨_, rfl, iteT ⟨_, rfl, LcP.put (fun i acc H' o h => ⟨h.1, same_mut h.2 hD3⟩) hB9 hl9 (by omega) ⟨?_, hs9⟩⟩⟩
            rw [tk, List.filter_append, List.filter_cons_of_pos c1, List.map_append]
            rfl
          · rw [if_neg c1]
            refine ⟨_, rfl, iteF (LcP.skip hB9 hl9 ⟨?_, hs9⟩)⟩
            rw [tk, List.filter_append, List.filter_cons_of_neg c1]
            simp
        rintro acc3 H9 ⟨rfl, hs9⟩ hB9 hl9
        rw [List.length_map, List.take_length] at hB9
        refine ⟨Nat.le_of_ble_eq_true rfl, fun t ht => ?_⟩
        have s10 : Same H9 (upd H9 t (.tup [.ref q1, .ref D2, .ref D3])) := same_new ht
        have T10 := (hs8.trans hs9).trans s10
        exact k t q1 D2 D3 wq yq F1 F2 _ upd_same (T10 _ _ h7) (hW7.same T10) hC7 ((hs9.trans s10) _ _ hB8) (s10 _ _ hB9) hK ((S8.trans hs9).trans s10)
      · refine .inr ⟨_, rfl, e, rfl, ⟨_, sqt_same S8 he⟩, fun D3 hD3 => lcA walk_tup (fun i acc H' => acc = ((es.take i).filter (kp F1 F2)).map V.str ∧ Same H8 H') ⟨rfl, .refl _⟩ (fun i acc H' o h => ⟨h.1, same_mut h.2 hD3⟩) (fun i acc H' _ h => sqt_same (S8.trans h.2) he) ?_ ?_⟩
        · rintro i x acc _ H9 hi ⟨rfl, hs9⟩ hB9 hl9 ⟨rfl, hx⟩
          obtain ⟨u, rfl, hu⟩ := map_str hx
          rw [List.length_map] at hi
          have tk : es.take (i + 1) = es.take i ++ [u] := by rw [List.take_add_one, hu]; rfl
          have g1 : DGet H9 d (.str u) (valV (F.map fT) (.inr u)) := DGet.k (k := .inr u) (hs9 _ _ h58)
          refine ⟨rfl, _, rfl, _, rfl, d, _, rfl, g1, ?_⟩
          rw [kpv]
          by_cases c1 : kp F1 F2 u = true
          · rw [if_pos c1]
            refine ⟨_, rfl, iteT ⟨_, rfl, LcP.put (fun i acc H' o h => ⟨h.1, same_mut h.2 hD3⟩) hB9 hl9 (by omega) ⟨?_, hs9⟩⟩⟩
            rw [tk, List.filter_append, List.filter_cons_of_pos c1, List.map_append]
            rfl
          · rw [if_neg c1]
            refine ⟨_, rfl, iteF (LcP.skip hB9 hl9 ⟨?_, hs9⟩)⟩
            rw [tk, List.filter_append, List.filter_cons_of_neg c1]
            simp
        rintro acc3 H9 ⟨rfl, hs9⟩ hB9 hl9
        rw [List.length_map, List.take_length] at hB9
        refine ⟨Nat.le_of_ble_eq_true rfl, fun t ht => ?_⟩
        have s10 : Same H9 (upd H9 t (.tup [.ref q1, .ref D2, .ref D3])) := same_new ht
        have T10 := (hs8.trans hs9).trans s10
        exact k t q1 D2 D3 wq yq F1 F2 _ upd_same (T10 _ _ h7) (hW7.same T10) hC7 ((hs9.trans s10) _ _ hB8) (s10 _ _ hB9) hK ((S8.trans hs9).trans s10)
    · refine .inr ⟨_, rfl, b, rfl, ⟨_, sqt_same S7 hb⟩, fun D2 hD2 => lcA walk_tup (fun i acc H' => acc = ((ss.take i).filter (kp F1 F2)).map V.str ∧ Same H7 H') ⟨rfl, .refl _⟩ (fun i acc H' o h => ⟨h.1, same_mut h.2 hD2⟩) (fun i acc H' _ h => sqt_same (S7.trans h.2) hb) ?_ ?_⟩
      · rintro i x acc _ H8 hi ⟨rfl, hs8⟩ hB8 hl8 ⟨rfl, hx⟩
        obtain ⟨u, rfl, hu⟩ := map_str hx
        rw [List.length_map] at hi
        have tk : ss.take (i + 1) = ss.take i ++ [u] := by rw [List.take_add_one, hu]; rfl
        have g1 : DGet H8 d (.str u) (valV (F.map fT) (.inr u)) := DGet.k (k := .inr u) (hs8 _ _ h57)
        refine ⟨rfl, _, rfl, _, rfl, d, _, rfl, g1, ?_⟩
        rw [kpv]
        by_cases c1 : kp F1 F2 u = true
        · rw [if_pos c1]
          refine ⟨_, rfl, iteT ⟨_, rfl, LcP.put (fun i acc H' o h => ⟨h.1, same_mut h.2 hD2⟩) hB8 hl8 (by omega) ⟨?_, hs8⟩⟩⟩
          rw [tk, List.filter_append, List.filter_cons_of_pos c1, List.map_append]
          rfl
        · rw [if_neg c1]
          refine ⟨_, rfl, iteF (LcP.skip hB8 hl8 ⟨?_, hs8⟩)⟩
          rw [tk, List.filter_append, List.filter_cons_of_neg c1]
          simp
      rintro acc2 H8 ⟨rfl, hs8⟩ hB8 hl8
      rw [List.length_map, List.take_length] at hB8
      have S8 := S7.trans hs8
      have h58 := hs8 _ _ h57
      -- the ends
      rcases he with he | he
      · refine .inl ⟨_, rfl, e, rfl, ⟨_, Same.seq S8 he⟩, fun D3 hD3 => lcA walk_list (fun i acc H' => acc = ((es.take i).filter (kp F1 F2)).map V.str ∧ Same H8 H') ⟨rfl, .refl _⟩ (fun i acc H' o h => ⟨h.1, same_mut h.2 hD3⟩) (fun i acc H' _ h => Same.seq (S8.trans h.2) he) ?_ ?_⟩
        · rintro i x acc _ H9 hi ⟨rfl, hs9⟩ hB9 hl9 ⟨rfl, hx⟩
          obtain ⟨u, rfl, hu⟩ := map_str hx
          rw [List.length_map] at hi
          have tk : es.take (i + 1) = es.take i ++ [u] := by rw [List.take_add_one, hu]; rfl
          have g1 : DGet H9 d (.str u) (valV (F.map fT) (.inr u)) := DGet.k (k := .inr u) (hs9 _ _ h58)
          refine ⟨rfl, _, rfl, _, rfl, d, _, rfl, g1, ?_⟩
          rw [kpv]
          by_cases c1 : kp F1 F2 u = true
          · rw [if_pos c1]
            refine ⟨_, rfl, iteT ⟨_, rfl, LcP.put (fun i acc H' o h => ⟨h.1, same_mut h.2 hD3⟩) hB9 hl9 (by omega) ⟨?_, hs9⟩⟩⟩
            rw [tk, List.filter_append, List.filter_cons_of_pos c1, List.map_append]
            rfl
          · rw [if_neg c1]
            refine ⟨_, rfl, iteF (LcP.skip hB9 hl9 ⟨?_, hs9⟩)⟩
            rw [tk, List.filter_append, List.filter_cons_of_neg c1]
            simp
        rintro acc3 H9 ⟨rfl, hs9⟩ hB9 hl9
        rw [List.length_map, List.take_length] at hB9
        refine ⟨Nat.le_of_ble_eq_true rfl, fun t ht => ?_⟩
        have s10 : Same H9 (upd H9 t (.tup [.ref q1, .ref D2, .ref D3])) := same_new ht
        have T10 := (hs8.trans hs9).trans s10
        exact k t q1 D2 D3 wq yq F1 F2 _ upd_same (T10 _ _ h7) (hW7.same T10) hC7 ((hs9.trans s10) _ _ hB8) (s10 _ _ hB9) hK ((S8.trans hs9).trans s10)
      · refine .inr ⟨_, rfl, e, rfl, ⟨_, sqt_same S8 he⟩, fun D3 hD3 => lcA walk_tup (fun i acc H' => acc = ((es.take i).filter (kp F1 F2)).map V.str ∧ Same H8 H') ⟨rfl, .refl _⟩ (fun i acc H' o h => ⟨h.1, same_mut h.2 hD3⟩) (fun i acc H' _ h => sqt_same (S8.trans h.2) he) ?_ ?_⟩
        · rintro i x acc _ H9 hi ⟨rfl, hs9⟩ hB9 hl9 ⟨rfl, hx⟩
          obtain ⟨u, rfl, hu⟩ := map_str hx
          rw [List.length_map] at hi
          have tk : es.take (i + 1) = es.take i ++ [u] := by rw [List.take_add_one, hu]; rfl
          have g1 : DGet H9 d (.str u) (valV (F.map fT) (.inr u)) := DGet.k (k := .inr u) (hs9 _ _ h58)
          refine ⟨rfl, _, rfl, _, rfl, d, _, rfl, g1, ?_⟩
          rw [kpv]
          by_cases c1 : kp F1 F2 u = true
          · rw [if_pos c1]
            refine ⟨_, rfl, iteT ⟨_, rfl, LcP.put (fun i acc H' o h => ⟨h.1, same_mut h.2 hD3⟩) hB9 hl9 (by omega) ⟨?_, hs9⟩⟩⟩
            rw [tk, List.filter_append, List.filter_cons_of_pos c1, List.map_append]
            rfl
          · rw [if_neg c1]
            refine ⟨_, rfl, iteF (LcP.skip hB9 hl9 ⟨?_, hs9⟩)⟩
            rw [tk, List.filter_append, List.filter_cons_of_neg c1]
            simp
        rintro acc3 H9 ⟨rfl, hs9⟩ hB9 hl9
        rw [List.length_map, List.take_length] at hB9
        refine ⟨Nat.le_of_ble_eq_true rfl, fun t ht => ?_⟩
        have s10 : Same H9 (upd H9 t (.tup [.ref q1, .ref D2, .ref D3])) := same_new ht
        have T10 := (hs8.trans hs9).trans s10
        exact k t q1 D2 D3 wq yq F1 F2 _ upd_same (T10 _ _ h7) (hW7.same T10) hC7 ((hs9.trans s10) _ _ hB8) (s10 _ _ hB9) hK ((S8.trans hs9).trans s10)
end
end Pf
namespace Pf
open PySem PySem.Spec PyProof.Rows L2 Bz
local macro_rules | `(tactic| walk_at "sd") => `(tactic| first
  | rfl | assumption | omega | exact Nat.le_of_ble_eq_true rfl | decide | (refine Or.inl (And.intro ?_ ?_) <;> omega) | (refine Or.inr (And.intro ?_ ?_) <;> omega) | (refine And.intro ?_ ?_ <;> omega) | (refine ⟨?_, ?_, ?_⟩ <;> omega))
local macro_rules | `(tactic| walk_at "sq") => `(tactic| first | assumption | exact SqL.of (by assumption) | exact SqT.of (by assumption) | exact SqL.of upd_same | exact SqT.of upd_same)
local macro_rules | `(tactic| walk_at "hp") => `(tactic| first | assumption | exact upd_same)
local macro_rules | `(tactic| walk_at "rd") => `(tactic| repeat (first
  | (refine ⟨_, rfl, ?_⟩) | (refine ⟨_, _, rfl, rfl, ?_⟩) | (refine ⟨rfl, ?_⟩) | (refine And.intro (by walk_at "sd") ?_)
  | (refine ⟨_, _, _, _, rfl, rfl, (by walk_at "sq"), rfl, ?_⟩)
  | (refine ⟨_, _, _, _, rfl, rfl, (by walk_at "hp"), rfl, ?_⟩)
  | (refine Or.inl ⟨_, rfl, ?_⟩)))
section
variable {P : Program} {w : World} {K : PySem.W.Frag} {mg : PySem.Str → Option Value} {base : Heap} {kl : Cl}
theorem cheap_tr {xs ys zs : List Arw} (h : CheapOf xs ys) (g : CheapOf ys zs) : CheapOf xs zs :=
  ⟨g.asc, fun z hz => h.sub z (g.sub z hz).1, fun x hx => by
    obtain ⟨y, hy, e⟩ := h.all x hx
    obtain ⟨z, hz, e2⟩ := g.all y hy
    exact ⟨z, hz, e2.trans e⟩⟩
/-- the machine with the states that are on some run -/
def spTrimmed (C : Addr) : Sp := fun vs H Q _ => ∃ (m : Addr) (M : MachV) (xs0 : List Arw) (ss0 es0 : List PySem.Str), vs = [.ref m] ∧ IsMach C H m M ∧ MFine M ∧ MOf M xs0 ss0 es0 ∧
  ∀ (q : Addr) (R : MachV) (F1 F2 : List PySem.Str) (H' : Hp), H q = none → IsMach C H' q R → MFine R → Kept M.ars M.sts M.ens F1 F2 → MOf R (M.ars.filter (kpA F1 F2)) (M.sts.filter (kp F1 F2)) (M.ens.filter (kp F1 F2)) → Same H H' → Q (.ref q) H'
theorem ok_trimmed (T : Facts K mg kl) : Keeps P w K mg base CX0 7 "trimmed" ["machine"] (spTrimmed kl.Machine) := by
  refine keeps0 T.d_trimmed sc_trimmed (fun vs H Q E h => ?_) (fun f cdv A outer s H vs Q E hr h => ?_)
  · obtain ⟨m, M, xs0, ss0, es0, rfl, _⟩ := h
    rfl
  · obtain ⟨m, M, xs0, ss0, es0, rfl, hM, hF, hO, k⟩ := h
    refine ⟨_, (pss_cons (ps_asg (pe_own (ok_useful T) hr (pa_cons (pe_pr (pv 0) hr T.cl_Machine T.p_Machine_arrows T.n_Machine_held_arrows sc_Machine_arrows) (pa_cons (pe_pr (pv 0) hr T.cl_Machine T.p_Machine_starts T.n_Machine_held_starts sc_Machine_starts) (pa_cons (pe_pr (pv 0) hr T.cl_Machine T.p_Machine_ends T.n_Machine_held_ends sc_Machine_ends) pa_nil)))) (kpg_tup K rfl (pgs_cons (pg_name (i := 1) sc_trimmed.nd rfl (Or.inl rfl)) (pgs_cons (pg_name (i := 2) sc_trimmed.nd rfl (Or.inl rfl)) (pgs_cons (pg_name (i := 3) sc_trimmed.nd rfl (Or.inl rfl)) pgs_nil)))))
  (pss_one (ps_ret (pe_mk (mk_Machine T) hr T.g_Machine (pa_cons (pv 1) (pa_cons (pv 2) (pa_cons (pv 3) pa_nil))))))), ?_⟩
    obtain ⟨dm, t1, t2, t3, t4, t5, wm, hI⟩ := hM
    refine ⟨_, rfl, m, dm, _, rfl, hI.ins, m, dm, _, _, rfl, hI.ins, mfs1 .., _, rfl, m, dm, _, rfl, hI.ins, m, dm, _, _, rfl, hI.ins, mfs2 .., _, rfl, m, dm, _, rfl, hI.ins, m, dm, _, _, rfl, hI.ins, mfs3 .., ?_⟩
    refine ⟨t1, t2, t3, wm, M.ars, M.sts, M.ens, rfl, hI.a1, hI.as, .inr hI.a2.sq, .inr hI.a3.sq, by have := hF.l4; omega, ?_, ?_, fun q p1 p2 p3 ws ys F1 F2 H1 hq hp1 hW hC hp2 hp3 hK s1 => ?_⟩
    · have := nodup_le (asc_nodup hO.sts.1) hF.st
      have := hF.nl
      omega
    · have := nodup_le (asc_nodup hO.ens.1) hF.en
      have := hF.nl
      omega
    refine ⟨q, _, rfl, SqT.of hq, rfl, _, _, rfl, _, _, rfl, _, _, rfl, rfl, ?_⟩
    refine ⟨_, rfl, _, rfl, _, rfl, fun x dx nx ndx nex => ?_⟩
    have sX : Same H1 (upd (upd H1 dx (.own x)) x (.ins kl.Machine dx [])) := fun b o e => by
      rw [upd_ne (ne_of_none e nx), upd_ne (ne_of_none e ndx)]
      exact e
    have okx : ∀ y ∈ ys, y ∈ M.ars := fun y hy => (List.mem_filter.mp (hC.sub y hy).1).1
    have yl : ys.length ≤ 400 := Nat.le_trans (nodup_le (hC.asc.imp fun {x y} h z => by rw [z, lexK_irr] at h; cases h) okx) hF.l4
    have nl := hF.nl
    have fs : ∀ s ∈ M.sts.filter (kp F1 F2), s ∈ M.sta := fun s hs => hF.st s (List.mem_filter.mp hs).1
    have fe : ∀ s ∈ M.ens.filter (kp F1 F2), s ∈ M.sta := fun s hs => hF.en s (List.mem_filter.mp hs).1
    have l1 : (M.sts.filter (kp F1 F2)).length ≤ 1000 := Nat.le_trans (List.length_filter_le ..) hF.sl
    have l2 : (M.ens.filter (kp F1 F2)).length ≤ 1000 := Nat.le_trans (List.length_filter_le ..) hF.el
    refine ⟨x, p1, p2, p3, dx, ws, ys, M.sts.filter (kp F1 F2), M.ens.filter (kp F1 F2), M.sta, rfl, upd_same, .inr (SqT.of (sX _ _ hp1)), hW.same sX, fun y hy => hF.ok y (okx y hy), yl, .inl (SqL.of (sX _ _ hp2)), .inl (SqL.of (sX _ _ hp3)), fun s hs => hF.nm s (fs s hs), fun s hs => hF.nm s (fe s hs), l1, l2, nl, fs, fe, fun y hy => hF.ar y (okx y hy), fun R H2 hMa hMO keep => ⟨rfl, ?_⟩⟩
    have hR : MFine R := fine_of hMO (fun y hy => hF.ok y (okx y hy)) yl hF.nm nl fs fe fun y hy => hF.ar y (okx y hy)
    refine k x R F1 F2 H2 (s1.free nx) hMa hR hK ⟨cheap_tr hC hMO.ars, hMO.sts, hMO.ens, hMO.sta, hMO.lets⟩ fun b o e => ?_
    exact keep b o (ne_of_none (s1 _ _ e) nx) (sX b o (s1 b o e))
end
end Pf
namespace Pf
open PySem PySem.Spec PyProof.Rows L2 Bz
local macro_rules | `(tactic| walk_at "sd") => `(tactic| first
  | rfl | assumption | omega | exact Nat.le_of_ble_eq_true rfl | decide | (refine Or.inl (And.intro ?_ ?_) <;> omega) | (refine Or.inr (And.intro ?_ ?_) <;> omega) | (refine And.intro ?_ ?_ <;> omega) | (refine ⟨?_, ?_, ?_⟩ <;> omega))
local macro_rules | `(tactic| walk_at "sq") => `(tactic| first | assumption | exact SqL.of (by assumption) | exact SqT.of (by assumption) | exact SqL.of upd_same | exact SqT.of upd_same)
local macro_rules | `(tactic| walk_at "hp") => `(tactic| first | assumption | exact upd_same)
local macro_rules | `(tactic| walk_at "rd") => `(tactic| repeat (first
  | (refine ⟨_, rfl, ?_⟩) | (refine ⟨_, _, rfl, rfl, ?_⟩) | (refine ⟨rfl, ?_⟩) | (refine And.intro (by walk_at "sd") ?_)
  | (refine ⟨_, _, _, _, rfl, rfl, (by walk_at "sq"), rfl, ?_⟩)
  | (refine ⟨_, _, _, _, rfl, rfl, (by walk_at "hp"), rfl, ?_⟩)
  | (refine Or.inl ⟨_, rfl, ?_⟩)))
section
variable {P : Program} {w : World} {K : PySem.W.Frag} {mg : PySem.Str → Option Value} {base : Heap} {kl : Cl}
theorem ok_sources_of (T : Facts K mg kl) : Keeps P w K mg base CX0 4 "sources_of" ["machine", "letter"] (spSrc K kl.Machine) := by
  refine keeps0 T.d_sources_of sc_sources_of (fun vs H Q E h => ?_) (fun f cdv A outer s H vs Q E hr h => ?_)
  · obtain ⟨m, M, l, rfl, _⟩ := h
    rfl
  · obtain ⟨m, M, l, rfl, hM, hF, nd, hl, k⟩ := h
    refine ⟨_, (pss_cons (ps_setDc (i := 3) (own := [("at", 7), ("state", 2)]) (g := gTup K 2 (gCons (gName 7) (gCons (gName 2) (gNil)))) (tt := tYes) rfl sc_sources_of.nd rfl rfl (swD_true rfl rfl rfl (by decide +kernel)) (kpi_enumEt K (by rfl) T.b_enumerate (pa_cons (pe_pr (pv 0) hr T.cl_Machine T.p_Machine_states T.n_Machine_held_states sc_Machine_states) pa_nil)) (blkOk_by (own := [("at", 7), ("state", 2)]) (N := N_sources_of) (sc := defScope s_sources_of) (by decide +kernel)) (fun _ _ _ _ _ => (kpg_tup K rfl (pgs_cons (pg_name (i := 7) sc_sources_of.nd rfl (Or.inl rfl)) (pgs_cons (pg_name (i := 2) sc_sources_of.nd rfl (Or.inl rfl)) pgs_nil)))) (fun _ _ _ _ _ => pts_nil) (fun _ _ _ _ _ => (pv 2)) (fun _ _ _ _ _ => (pv 7)))
  (pss_cons (ps_setLc (i := 4) (own := [("state", 2)]) (g := gName 2) (tt := tYes) rfl sc_sources_of.nd rfl rfl (sw_true rfl rfl rfl (by decide +kernel)) (kpi_tup K (pe_pr (pv 0) hr T.cl_Machine T.p_Machine_states T.n_Machine_held_states sc_Machine_states)) (blkOk_by (own := [("state", 2)]) (N := N_sources_of) (sc := defScope s_sources_of) (by decide +kernel)) (fun _ _ _ _ _ => (pg_name (i := 2) sc_sources_of.nd rfl (Or.inl rfl))) (fun _ _ _ _ _ => pts_nil) (fun _ _ _ _ _ => (pe_lst pa_nil)))
  (pss_cons (ps_for PassesOwn.never rfl (kpi_list K (pe_dget (hu_of hr) (pe_own (ok_moves_by_letter T) hr (pa_cons (pv 0) pa_nil)) (pv 1) (fun _ _ => rfl))) (kpg_tup K rfl (pgs_cons (pg_name (i := 2) sc_sources_of.nd rfl (Or.inl rfl)) (pgs_cons (pg_name (i := 5) sc_sources_of.nd rfl (Or.inl rfl)) (pgs_cons (pg_name (i := 6) sc_sources_of.nd rfl (Or.inl rfl)) pgs_nil))))
  (pss_one (ps_expr (kbm K PySem.F.plainAttrs_list PySem.F.slot_list_append PySem.F.type_list_append mt_append (pe_ix (kix_list K) (pv 4) (pe_dget (hu_of hr) (pv 3) (pv 5) (fun _ _ => rfl)) (fun _ _ => rfl)) (pa_cons (pe_tup (pa_cons (pe_dget (hu_of hr) (pv 3) (pv 2) (fun _ _ => rfl)) (pa_cons (pv 6) pa_nil))) pa_nil)))))
  (pss_one (ps_ret (pv 4)))))), ?_⟩
    have hM0 := hM
    obtain ⟨dx, t1, t2, t3, t4, t5, ws, hI⟩ := hM
    have sl : M.sta.length ≤ 40 := hF.nl
    refine ⟨_, rfl, m, dx, _, rfl, hI.ins, m, dx, _, _, rfl, hI.ins, mfs4 .., t4, _, rfl, hI.a4.sq, fun D hD => dc_it walk_enumEt (fun i H' => ∃ kvs : List (Ky × V), H' D = some (.dK kvs) ∧ (∀ s, valV kvs (.inr s) = if s ∈ M.sta.take i then some (.int (M.sta.idxOf s : Nat)) else none) ∧ kvs.length ≤ i ∧ Same H H') ⟨[], upd_same, fun s => by simp [valV], Nat.le_refl _, same_new hD⟩ (fun i H' _ ⟨_, _, _, _, h⟩ => (hI.a4.on h).sq) ?_ ?_⟩
    · rintro i x H2 H3 hi ⟨us, h2, hw, hlen, hs⟩ ⟨q, y, rfl, hq, rfl, hy⟩
      obtain ⟨u, rfl, hu⟩ := map_str hy
      rw [List.length_map] at hi
      have s3 : Same H2 (upd H2 q (.tup [.int (i : Int), .str u])) := same_new hq
      have ei := idx_eq nd hu
      refine ⟨q, _, rfl, SqT.of upd_same, rfl, _, _, rfl, _, _, rfl, rfl, rfl, ?_⟩
      refine ⟨_, rfl, _, rfl, us, .inr u, rfl, s3 _ _ h2, Nat.lt_of_le_of_lt (show us.length ≤ 40 by omega) (by decide), _, upd_same, fun z => ?_, ?_, same_mut (hs.trans s3) hD⟩
      · rw [valV_put, hw z, List.take_add_one, hu]
        by_cases e : z = u
        · subst e
          rw [if_pos rfl, ei]
          simp
        · rw [if_neg (fun c => e (Sum.inr.inj c))]
          simp [e]
      · have := length_putK us (.inr u) (.int (i : Int))
        omega
    rintro H2 ⟨ps, h2, hw, _, s2⟩
    rw [List.length_map, List.take_length] at hw
    have hwv : ∀ z ∈ M.sta, valV ps (.inr z) = some (.int (M.sta.idxOf z : Nat)) := fun z hz => by
      rw [hw z, if_pos hz]
    -- the lists, empty
    refine ⟨_, rfl, m, dx, _, rfl, s2 _ _ hI.ins, m, dx, _, _, rfl, s2 _ _ hI.ins, mfs4 .., t4, rfl, ⟨_, (hI.a4.on s2).sq⟩, fun D2 hD2 => lcA walk_tup (fun i acc H' => ∃ as : List Addr, acc = as.map V.ref ∧ as.Nodup ∧ as.length = i ∧ (∀ a ∈ as, H2 a = none ∧ a ≠ D2 ∧ H' a = some (.lst [])) ∧ Same H2 H') ⟨[], rfl, .nil, rfl, fun a ha => (by cases ha), .refl _⟩ (fun i acc H' o ⟨as, e, n, l, a, s⟩ => ⟨as, e, n, l, fun x hx => ⟨(a x hx).1, (a x hx).2.1, (upd_ne (a x hx).2.1).trans (a x hx).2.2⟩, same_mut s hD2⟩) (fun i acc H' _ ⟨_, _, _, _, _, s⟩ => (hI.a4.on (s2.trans s)).sq) ?_ ?_⟩
    · rintro i x acc H3 H4 hi ⟨as, rfl, n4, l4, a4, s4⟩ hA hl4 ⟨rfl, hx⟩
      refine ⟨rfl, Nat.zero_le _, fun a ha => ?_⟩
      have s5 : Same H4 (upd H4 a (.lst [])) := same_new ha
      have na : a ≠ D2 := ne_of_none hA ha |>.symm
      refine LcP.put (fun i acc H' o ⟨as, e, n, l, a, s⟩ => ⟨as, e, n, l, fun x hx => ⟨(a x hx).1, (a x hx).2.1, (upd_ne (a x hx).2.1).trans (a x hx).2.2⟩, same_mut s hD2⟩) (s5 _ _ hA) hl4 (by rw [List.length_map] at hi; omega) ⟨as ++ [a], by rw [List.map_append]; rfl, ?_, by rw [List.length_append, l4]; rfl, fun x hx => ?_, s4.trans s5⟩
      · refine nodup_snoc2 n4 fun c => ?_
        rw [(a4 a c).2.2] at ha
        cases ha
      · rcases List.mem_append.mp hx with h | h
        · exact ⟨(a4 x h).1, (a4 x h).2.1, s5 _ _ (a4 x h).2.2⟩
        · rw [List.mem_singleton.mp h]
          exact ⟨s4.free ha, na, upd_same⟩
    rintro acc H3 ⟨as, rfl, n3, l3, a3, s3⟩ hA hl3
    rw [List.length_map] at l3
    have hS0 : SrcI H2 H3 D2 as M.sta (fun _ => []) := ⟨hA, n3, fun a ha => (a3 a ha).1, fun c => (a3 D2 c).2.1 rfl, l3, fun i a s ha hs => ⟨[], (a3 a (List.mem_of_getElem? ha)).2.2, .nil⟩, s3, hD2⟩
    have S3 := s2.trans s3
    -- the arrows behind the letter
    refine ⟨_, rfl, ?_⟩
    refine ⟨m, M, rfl, hM0.same S3, hF.toMGood, fun d kvs H4 hd hk hMv s4 => ?_⟩
    obtain ⟨q, us, hv, hq, hU⟩ : ∃ q us, valV kvs (.inr l) = some (.ref q) ∧ SqL K H4 q us ∧ MvS H4 us ((M.ars.filter fun x => decide (x.l = l)).map mvOf) := by
      rcases hMv l with ⟨_, h⟩ | h
      · obtain ⟨x, hx, e⟩ := hl
        exact absurd e (h x hx)
      · exact h
    have gl : DGet H4 d (.str l) (some (.ref q)) := by
      have := DGet.k (k := .inr l) hk
      rw [hv] at this
      exact this
    have ul : us.length = (M.ars.filter fun x => decide (x.l = l)).length := by
      rw [Paired.length hU, List.length_map]
    generalize hys : M.ars.filter (fun x => decide (x.l = l)) = ys at hU ul
    have yl : ys.length ≤ 500 := by
      rw [← hys]
      exact Nat.le_trans (List.length_filter_le ..) hF.al
    have S4 := S3.trans s4
    refine ⟨_, rfl, d, _, rfl, gl, q, rfl, ⟨_, hq⟩, ?_⟩
    have ana : ∀ a ∈ as, H4 a = some (.lst []) := fun a ha => s4 _ _ (a3 a ha).2.2
    have une : us ≠ [] := fun c => by
      obtain ⟨x, hx, e⟩ := hl
      have : x ∈ ys := by
        rw [← hys]
        exact List.mem_filter.mpr ⟨hx, decide_eq_true e⟩
      have := List.length_pos_of_mem this
      subst c
      rw [List.length_nil] at ul
      omega
    have hqk : ∀ H', (∀ b o, H4 b = some o → b ∉ as → H' b = some o) → SqL K H' q us := fun H' keep => by
      rcases hq with (h' | ⟨u, h'⟩) | h'
      · refine .inl (.inl (keep _ _ h' fun c => ?_))
        rw [ana q c] at h'
        cases h'
        exact une rfl
      · refine .inl (.inr ⟨u, keep _ _ h' fun c => ?_⟩)
        rw [ana q c] at h'
        cases h'
      · exact .inr h'
    have Dn : D ∉ as := fun c => by
      rw [(a3 D c).1] at h2
      cases h2
    refine for_list (K := K) (a := q) (xs := us) (fun i σ H' => ∃ v2 v5 v6 v7 : Option V, σ = [some (.ref m), some (.str l), v2, some (.ref D), some (.ref D2), v5, v6, v7] ∧ SrcI H2 H' D2 as M.sta (fun z => ((ys.take i).filter fun x => decide (x.t = z)).map fun x => (M.sta.idxOf x.s, x.c)) ∧ ∀ b o, H4 b = some o → b ∉ as → H' b = some o) ?_ (fun i σ H' _ ⟨_, _, _, _, _, _, h⟩ => hqk _ h) ?_ ?_
    · exact ⟨_, _, _, _, rfl, hS0.keep s4, fun b o e _ => e⟩
    · rintro i y σ H5 hi ⟨v2, v5, v6, v7, rfl, hS, keep⟩
      obtain ⟨mm, hm, r, rfl, hr⟩ := paired_get hU hi
      rw [List.getElem?_map] at hm
      obtain ⟨x, hx, rfl⟩ := Option.map_eq_some_iff.mp hm
      have xm : x ∈ M.ars := by
        have := List.mem_of_getElem? hx
        rw [← hys] at this
        exact (List.mem_filter.mp this).1
      have rn : r ∉ as := fun c => by
        rw [ana r c] at hr
        cases hr
      have hr5 := keep _ _ hr rn
      have hD5 := keep _ _ (s4 _ _ (s3 _ _ h2)) Dn
      have tm := (hF.ar x xm).2
      have sm := (hF.ar x xm).1
      have gt' : DGet H5 D (.str x.t) (some (.int (M.sta.idxOf x.t : Nat))) := by
        have := DGet.k (k := .inr x.t) hD5
        rw [hwv _ tm] at this
        exact this
      have gs' : DGet H5 D (.str x.s) (some (.int (M.sta.idxOf x.s : Nat))) := by
        have := DGet.k (k := .inr x.s) hD5
        rw [hwv _ sm] at this
        exact this
      have gt : DGet H5 D (.str x.t) (valV ps (.inr x.t)) := DGet.k (k := .inr x.t) hD5
      refine ⟨r, _, rfl, SqT.of hr5, rfl, _, _, rfl, _, _, rfl, _, _, rfl, rfl, ?_⟩
      refine ⟨_, rfl, _, rfl, _, rfl, D, _, rfl, gt', ?_⟩
      have hti := idx_get tm
      have hlt := idx_lt tm
      obtain ⟨a, ha⟩ : ∃ a, as[M.sta.idxOf x.t]? = some a := ⟨as[M.sta.idxOf x.t]'(by rw [l3]; exact hlt), List.getElem?_eq_getElem _⟩
      obtain ⟨vs, hvs, hW⟩ := hS.each _ _ _ ha hti
      have hvl : vs.length ≤ i := by
        rw [Paired.length hW, List.length_map]
        refine Nat.le_trans (List.length_filter_le ..) ?_
        rw [List.length_take]
        omega
      have hi' : i < us.length := (List.getElem?_eq_some_iff.mp hi).1
      have hat : atI (as.map V.ref) (M.sta.idxOf x.t : Nat) = some (.ref a) := by
        refine atI_nat ?_
        rw [List.getElem?_map, ha]
        rfl
      refine ⟨D2, _, _, _, rfl, rfl, SqL.of hS.d, hat, .inl ⟨rfl, _, SqL.of hvs⟩, ?_⟩
      refine ⟨_, rfl, _, rfl, D, _, rfl, gs', _, rfl, Nat.le_of_ble_eq_true rfl, fun r2 hr2 => ?_⟩
      have s6 : Same H5 (upd H5 r2 (.tup [.int (M.sta.idxOf x.s : Nat), .int x.c])) := same_new hr2
      refine ⟨a, _, _, rfl, rfl, s6 _ _ hvs, Nat.lt_of_le_of_lt (show _ ≤ 1000 by omega) (by decide), ?_⟩
      have tk : ys.take (i + 1) = ys.take i ++ [x] := by rw [List.take_add_one, hx]; rfl
      have hP := (hS.keep s6).put nd ha hti (p := M.sta.idxOf x.s) (c := x.c) upd_same (s6 _ _ hvs)
      refine ⟨_, _, _, _, rfl, ?_, fun b o e hb => ?_⟩
      · have eg : (fun z => ((ys.take (i + 1)).filter fun x => decide (x.t = z)).map fun x => (M.sta.idxOf x.s, x.c)) = fun z => if z = x.t then (((ys.take i).filter fun x => decide (x.t = z)).map fun x => (M.sta.idxOf x.s, x.c)) ++ [(M.sta.idxOf x.s, x.c)] else ((ys.take i).filter fun x => decide (x.t = z)).map fun x => (M.sta.idxOf x.s, x.c) := by
          funext z
          rw [tk, List.filter_append, List.map_append]
          by_cases e : z = x.t
          · subst e
            simp
          · rw [if_neg e]
            have : ¬ x.t = z := fun c => e c.symm
            simp [this]
        rw [eg]
        exact hP
      · rw [upd_ne (fun c => hb (by rw [c]; exact List.mem_of_getElem? ha))]
        exact s6 _ _ (keep _ _ e hb)
    · rintro σ H5 ⟨v2, v5, v6, v7, rfl, hS, _⟩
      rw [ul, List.take_length] at hS
      refine ⟨_, rfl, k D2 H5 ?_ (s2.trans hS.same)⟩
      have := hS.done.old s2
      have eg : (fun z => (ys.filter fun x => decide (x.t = z)).map fun x => (M.sta.idxOf x.s, x.c)) = waysTo M.ars M.sta l := by
        funext z
        unfold waysTo
        rw [← hys, List.filter_filter]
        congr 1
        refine List.filter_congr fun x _ => ?_
        rw [Bool.decide_and, Bool.and_comm]
      rw [eg] at this
      exact this
end
end Pf
namespace Pf
open PySem PySem.Spec PyProof.Rows L2 Bz
local macro_rules | `(tactic| walk_at "sd") => `(tactic| first
  | rfl | assumption | omega | exact Nat.le_of_ble_eq_true rfl | decide | (refine Or.inl (And.intro ?_ ?_) <;> omega) | (refine Or.inr (And.intro ?_ ?_) <;> omega) | (refine And.intro ?_ ?_ <;> omega) | (refine ⟨?_, ?_, ?_⟩ <;> omega))
local macro_rules | `(tactic| walk_at "sq") => `(tactic| first | assumption | exact SqL.of (by assumption) | exact SqT.of (by assumption) | exact SqL.of upd_same | exact SqT.of upd_same)
local macro_rules | `(tactic| walk_at "hp") => `(tactic| first | assumption | exact upd_same)
local macro_rules | `(tactic| walk_at "rd") => `(tactic| repeat (first
  | (refine ⟨_, rfl, ?_⟩) | (refine ⟨_, _, rfl, rfl, ?_⟩) | (refine ⟨rfl, ?_⟩) | (refine And.intro (by walk_at "sd") ?_)
  | (refine ⟨_, _, _, _, rfl, rfl, (by walk_at "sq"), rfl, ?_⟩)
  | (refine ⟨_, _, _, _, rfl, rfl, (by walk_at "hp"), rfl, ?_⟩)
  | (refine Or.inl ⟨_, rfl, ?_⟩)))
section
variable {P : Program} {w : World} {K : PySem.W.Frag} {mg : PySem.Str → Option Value} {base : Heap} {kl : Cl}
theorem ok_free_letters (T : Facts K mg kl) : Keeps P w K mg base CX0 3 "free_letters" ["machine", "state", "ends"] (spFree K kl.Machine) := by
  refine keeps0 T.d_free_letters sc_free_letters (fun vs H Q E h => ?_) (fun f cdv A outer s H vs Q E hr h => ?_)
  · obtain ⟨m, e, M, s, es, rfl, _⟩ := h
    rfl
  · obtain ⟨m, e, M, s, es, rfl, hM, hF, he, el, en, k⟩ := h
    refine ⟨_, (pss_one (ps_ret (pe_callB (cr_sortedSetS rfl) (by rfl) T.b_sorted (by decide +kernel) (pa_cons (pe_callTy (ksetS K rfl) (by rfl) T.b_set (by decide +kernel) (pa_cons (pe_lc (own := [("source", 3), ("letter", 4), ("after", 5), ("cost", 6)]) (g := gTup K 4 (gCons (gName 3) (gCons (gName 4) (gCons (gName 5) (gCons (gName 6) (gNil)))))) rfl sc_free_letters.nd (kpi_tup K (pe_pr (pv 0) hr T.cl_Machine T.p_Machine_arrows T.n_Machine_held_arrows sc_Machine_arrows)) (blkOk_by (own := [("source", 3), ("letter", 4), ("after", 5), ("cost", 6)]) (N := N_free_letters) (sc := defScope s_free_letters) (by decide +kernel)) (fun _ _ _ _ _ => (kpg_tup K rfl (pgs_cons (pg_name (i := 3) sc_free_letters.nd rfl (Or.inl rfl)) (pgs_cons (pg_name (i := 4) sc_free_letters.nd rfl (Or.inl rfl)) (pgs_cons (pg_name (i := 5) sc_free_letters.nd rfl (Or.inl rfl)) (pgs_cons (pg_name (i := 6) sc_free_letters.nd rfl (Or.inl rfl)) pgs_nil)))))) (fun _ _ _ _ _ => pts_one (PW.pt (pw_and (pt_cmpR op_eq (pv 3) (pv 1) (nomark _)) (pw_and (pt_cmpR (kin_seq K) (pv 5) (pv 2) (by rfl)) (pw_and1 (pt_cmpR op_eq (pv 6) pe_int (nomark _))))))) (fun _ _ _ _ _ => (pv 4))) pa_nil)) pa_nil)))), ?_⟩
    obtain ⟨dx, t1, t2, t3, t4, t5, ws, hI⟩ := hM
    have wl : ws.length = M.ars.length := Paired.length hI.as
    refine ⟨_, rfl, m, dx, _, rfl, hI.ins, m, dx, _, _, rfl, hI.ins, mfs1 .., t1, rfl, ⟨_, SqT.of hI.a1⟩, fun D hD => lcA walk_tup (fun i acc H' => acc = ((M.ars.take i).filter (freeB es s)).map (fun x => V.str x.l) ∧ Same H H') ⟨rfl, .refl _⟩ (fun i acc H' o h => ⟨h.1, same_mut h.2 hD⟩) (fun i acc H' _ h => SqT.of (h.2 _ _ hI.a1)) ?_ ?_⟩
    · rintro i x acc _ H1 hi ⟨rfl, s1⟩ hA hl1 ⟨rfl, hx⟩
      obtain ⟨r, y, rfl, hy, hr0⟩ := ArS.get (hI.as.same s1) hx
      refine ⟨r, _, rfl, SqT.of hr0, rfl, _, _, rfl, _, _, rfl, _, _, rfl, _, _, rfl, rfl, rfl, ?_⟩
      have tk : M.ars.take (i + 1) = M.ars.take i ++ [y] := by rw [List.take_add_one, hy]; rfl
      have hi' : i < ws.length := hi
      have no : freeB es s y = false → LcP D (fun i acc H' => acc = ((M.ars.take i).filter (freeB es s)).map (fun x => V.str x.l) ∧ Same H H') (i + 1) H1 := fun c => by
        refine LcP.skip hA hl1 ⟨?_, s1⟩
        rw [tk, List.filter_append, List.filter_cons_of_neg (by rw [c]; exact Bool.false_ne_true)]
        simp
      refine ⟨_, rfl, _, rfl, rfl, _, rfl, ite2 (fun c1 => ?_) (fun c1 => ?_)⟩
      · have e1 : y.s = s := V.str.inj (of_decide_eq_true c1)
        refine ⟨_, rfl, _, rfl, e, _, rfl, .inl (s1.seq he), rfl, flat_str es, ?_⟩
        rw [if_neg Bool.false_ne_true, inV_str]
        refine ⟨_, rfl, ite2 (fun c2 => ?_) (fun c2 => ?_)⟩
        · have e2 : y.t ∈ es := of_decide_eq_true c2
          refine ⟨_, rfl, rfl, _, rfl, ?_⟩
          show if decide (V.int y.c = V.int 0) = true then _ else _
          refine ite2 (fun c3 => ?_) (fun c3 => ?_)
          · have e3 : y.c = 0 := V.int.inj (of_decide_eq_true c3)
            refine ⟨_, rfl, LcP.put (fun i acc H' o h => ⟨h.1, same_mut h.2 hD⟩) hA hl1 (by have := hF.l4; omega) ⟨?_, s1⟩⟩
            rw [tk, List.filter_append, List.filter_cons_of_pos (by unfold freeB; rw [decide_eq_true e1, decide_eq_true e2, decide_eq_true e3]; rfl), List.map_append]
            rfl
          · refine no ?_
            unfold freeB
            rw [show decide (y.c = 0) = false from decide_eq_false (fun z => c3 (decide_eq_true (by rw [z]))), Bool.and_false, Bool.and_false]
        · refine iteF (no ?_)
          unfold freeB
          rw [show decide (y.t ∈ es) = false from decide_eq_false (fun z => c2 (decide_eq_true z)), Bool.false_and, Bool.and_false]
      · refine iteF (no ?_)
        unfold freeB
        rw [show decide (y.s = s) = false from decide_eq_false (fun z => c1 (decide_eq_true (by rw [z]))), Bool.false_and]
    · rintro acc H1 ⟨rfl, s1⟩ hA hl1
      rw [wl, List.take_length] at hA
      have em : (M.ars.filter (freeB es s)).map (fun x => V.str x.l) = (freeL M.ars es s).map V.str := by
        unfold freeL
        rw [List.map_map]
        rfl
      rw [em] at hA
      have fl : (freeL M.ars es s).length ≤ 500 := by
        unfold freeL
        rw [List.length_map]
        exact Nat.le_trans (List.length_filter_le ..) hF.al
      refine ⟨D, _, rfl, .inl (SqL.of hA), by omega, fun p hp => ?_⟩
      have s2 := same_new (o := SetSO P w p (fun x => x ∈ freeL M.ars es s) (freeL M.ars es s).length) hp
      refine ⟨p, _, _, rfl, upd_same, fun ys q h1 h2 h3 hq => ?_⟩
      have s3 := same_new (o := .lst (ys.map V.str)) hq
      exact k q ys _ ((s1.trans s2).free hq) upd_same h1 h2 ((s1.trans s2).trans s3)
theorem ok_resting_states (T : Facts K mg kl) : Keeps P w K mg base CX0 4 "resting_states" ["machine"] (spRest K kl.Machine) := by
  refine keeps0 T.d_resting_states sc_resting_states (fun vs H Q E h => ?_) (fun f cdv A outer s H vs Q E hr h => ?_)
  · obtain ⟨m, M, rfl, _⟩ := h
    rfl
  · obtain ⟨m, M, rfl, hM, hF, k⟩ := h
    refine ⟨_, (pss_cons (ps_set (i := 1) sc_resting_states.nd rfl (Or.inr rfl) (pe_lst pa_nil))
  (pss_cons (ps_set (i := 2) sc_resting_states.nd rfl (Or.inl rfl) (pe_callTy (klist_of K) (by rfl) T.b_list (by decide +kernel) (pa_cons (pe_pr (pv 0) hr T.cl_Machine T.p_Machine_ends T.n_Machine_held_ends sc_Machine_ends) pa_nil)))
  (pss_cons (ps_while PassesOwn.never (pt_cmpR op_ne (pe_callB (kcall_len K) (by rfl) T.b_len (by decide +kernel) (pa_cons (pv 2) pa_nil)) (pe_callB (kcall_len K) (by rfl) T.b_len (by decide +kernel) (pa_cons (pv 1) pa_nil)) (nomark _))
  (pss_cons (ps_set (i := 1) sc_resting_states.nd rfl (Or.inr rfl) (pv 2))
  (pss_one (ps_setLc (i := 2) (own := [("state", 3)]) (g := gName 3) rfl sc_resting_states.nd rfl rfl (sw_true rfl rfl rfl (by decide +kernel)) (kpi_list K (pv 1)) (blkOk_by (own := [("state", 3)]) (N := N_resting_states) (sc := defScope s_resting_states) (by decide +kernel)) (fun _ _ _ _ _ => (pg_name (i := 3) sc_resting_states.nd rfl (Or.inl rfl))) (fun _ _ _ _ _ => pts_one (pt_cmpR op_eq (pe_callB (kcall_len K) (by rfl) T.b_len (by decide +kernel) (pa_cons (pe_own (ok_free_letters T) hr (pa_cons (pv 0) (pa_cons (pv 3) (pa_cons (pv 1) pa_nil)))) pa_nil)) (pe_callB (kcall_len K) (by rfl) T.b_len (by decide +kernel) (pa_cons (pe_pr (pv 0) hr T.cl_Machine T.p_Machine_letters T.n_Machine_held_letters sc_Machine_letters) pa_nil)) (nomark _))) (fun _ _ _ _ _ => (pv 3))))))
  (pss_one (ps_ret (pv 1)))))), ?_⟩
    have hM0 := hM
    obtain ⟨dx, t1, t2, t3, t4, t5, ws, hI⟩ := hM
    have enl : M.ens.length ≤ 1000 := hF.el
    refine ⟨Nat.zero_le _, fun p1 hp1 => ?_⟩
    have s1 : Same H (upd H p1 (.lst [])) := same_new hp1
    refine ⟨_, rfl, m, dx, _, rfl, s1 _ _ hI.ins, m, dx, _, _, rfl, s1 _ _ hI.ins, mfs3 .., ?_⟩
    refine ⟨t3, _, rfl, .inr (hI.a3.on s1).sq, fun p2 hp2 => ?_⟩
    have s2 : Same (upd H p1 (.lst [])) (upd (upd H p1 (.lst [])) p2 (.lst (M.ens.map V.str))) := same_new hp2
    have e1 : (upd (upd H p1 (.lst [])) p2 (.lst (M.ens.map V.str))) p1 = some (.lst (([] : List PySem.Str).map V.str)) := s2 _ _ upd_same
    have e2 : (upd (upd H p1 (.lst [])) p2 (.lst (M.ens.map V.str))) p2 = some (.lst (M.ens.map V.str)) := upd_same
    have S2 := s1.trans s2
    generalize upd (upd H p1 (.lst [])) p2 (.lst (M.ens.map V.str)) = H2 at S2 e1 e2
    refine ⟨fun mm σ' H' => ∃ (a b : Addr) (v3 : Option V) (ρ lf : List PySem.Str), σ' = [some (.ref m), some (.ref a), some (.ref b), v3] ∧ H' a = some (.lst (ρ.map V.str)) ∧ H' b = some (.lst (lf.map V.str)) ∧ Same H H' ∧ (∀ z ∈ lf, z ∈ M.ens) ∧ lf.length ≤ 1000 ∧ (∀ z ∈ ρ, z ∈ M.ens) ∧ ρ.length ≤ 1000 ∧ ((lf = ρ.filter (fullB M ρ) ∧ mm = ρ.length) ∨ (ρ = [] ∧ mm = lf.length + 1)), ⟨M.ens.length + 1, p1, p2, _, [], M.ens, rfl, e1, e2, S2, fun z h => h, enl, fun z h => (by cases h), Nat.zero_le _, .inr ⟨rfl, rfl⟩⟩, ?_⟩
    rintro mm σ' H3 ⟨a, b, v3, ρ, lf, rfl, ha, hb, s3, lfe, lfl, ρe, ρl, hcase⟩
    refine ⟨_, rfl, _, lf.length, rfl, .inl ⟨_, SqL.of hb, by rw [List.length_map]⟩, _, rfl, _, ρ.length, rfl, .inl ⟨_, SqL.of ha, by rw [List.length_map]⟩, rfl, _, rfl, ite2 (fun c => ?_) (fun c => ?_)⟩
    · have hlt : lf.length + 1 ≤ mm := by
        rcases hcase with ⟨e, rfl⟩ | ⟨_, rfl⟩
        · have h1 : lf.length ≤ ρ.length := by
            rw [e]
            exact List.length_filter_le ..
          have h2 : lf.length ≠ ρ.length := fun z => by
            rw [z] at c
            simp at c
          omega
        · exact Nat.le_refl _
      refine ⟨fun σ' H' => ∃ (a b : Addr) (v3 : Option V) (ρ lf : List PySem.Str), σ' = [some (.ref m), some (.ref a), some (.ref b), v3] ∧ H' a = some (.lst (ρ.map V.str)) ∧ H' b = some (.lst (lf.map V.str)) ∧ Same H H' ∧ (∀ z ∈ lf, z ∈ M.ens) ∧ lf.length ≤ 1000 ∧ (∀ z ∈ ρ, z ∈ M.ens) ∧ ρ.length ≤ 1000 ∧ lf = ρ.filter (fullB M ρ) ∧ ρ.length + 1 ≤ mm, ?_, ?_⟩
      · rintro σ' H' ⟨a, b, v3, ρ, lf, e, h1, h2, h3, h4, h5, h6, h7, h8, h9⟩
        exact ⟨ρ.length, h9, a, b, v3, ρ, lf, e, h1, h2, h3, h4, h5, h6, h7, .inl ⟨h8, rfl⟩⟩
      refine ⟨_, rfl, ?_⟩
      refine ⟨_, rfl, b, rfl, ⟨_, SqL.of hb⟩, fun D hD => lcA walk_list (fun i acc H' => acc = ((lf.take i).filter (fullB M lf)).map V.str ∧ Same H3 H') ⟨rfl, .refl _⟩ (fun i acc H' o h => ⟨h.1, same_mut h.2 hD⟩) (fun i acc H' _ h => SqL.of (h.2 _ _ hb)) ?_ ?_⟩
      · rintro i x acc _ H4 hi ⟨rfl, s4⟩ hA hl4 ⟨rfl, hx⟩
        obtain ⟨z, rfl, hz⟩ := map_str hx
        refine ⟨rfl, ?_⟩
        have S4 := s3.trans s4
        refine ⟨_, rfl, _, rfl, _, rfl, m, b, M, z, lf, rfl, hM0.same S4, hF, SqL.of (s4 _ _ hb), lfl, fun w hw => hF.nm w (hF.en w (lfe w hw)), fun a4 ls H5 f5 h5 as5 m5 s5 => ?_⟩
        have S5 := S4.trans s5
        refine ⟨_, ls.length, rfl, .inl ⟨_, SqL.of h5, by rw [List.length_map]⟩, ?_⟩
        refine ⟨_, rfl, m, dx, _, rfl, S5 _ _ hI.ins, m, dx, _, _, rfl, S5 _ _ hI.ins, mfs5 .., _, M.lets.length, rfl, .inr ⟨_, (hI.a5.on S5).sq, by rw [List.length_map]⟩, rfl, _, rfl, ?_⟩
        have hA5 := s5 _ _ hA
        have tk : lf.take (i + 1) = lf.take i ++ [z] := by rw [List.take_add_one, hz]; rfl
        have fi := full_iff hF.nd hF.all (es := lf) (s := z) (asc_nodup2 as5) m5
        rw [List.length_map] at hi
        show if decide (V.int (ls.length : Nat) = V.int (M.lets.length : Nat)) = true then _ else _
        refine ite2 (fun c5 => ?_) (fun c5 => ?_)
        · have e5 : ls.length = M.lets.length := by
            have := V.int.inj (of_decide_eq_true c5)
            omega
          refine ⟨_, rfl, LcP.put (fun i acc H' o h => ⟨h.1, same_mut h.2 hD⟩) hA5 hl4 (by omega) ⟨?_, s4.trans s5⟩⟩
          rw [tk, List.filter_append, List.filter_cons_of_pos (fi.mp e5), List.map_append]
          rfl
        · refine LcP.skip hA5 hl4 ⟨?_, s4.trans s5⟩
          rw [tk, List.filter_append, List.filter_cons_of_neg (fun q => c5 (decide_eq_true (by rw [fi.mpr q])))]
          simp
      · rintro acc H4 ⟨rfl, s4⟩ hA hl4
        rw [List.length_map, List.take_length] at hA
        exact ⟨b, D, _, lf, lf.filter (fullB M lf), rfl, s4 _ _ hb, hA, s3.trans s4, fun z h => lfe z (List.mem_filter.mp h).1, Nat.le_trans (List.length_filter_le ..) lfl, lfe, lfl, rfl, hlt⟩
    · have e0 : lf.length = ρ.length := by
        by_cases z : lf.length = ρ.length
        · exact z
        · exact absurd (by simp; omega) c
      refine ⟨_, rfl, k a ρ H3 ha ⟨ρe, fun r hr l hl => ?_⟩ ρl s3⟩
      rcases hcase with ⟨e, rfl⟩ | ⟨rfl, _⟩
      · have ef : ρ.filter (fullB M ρ) = ρ := List.filter_sublist.eq_of_length (by rw [← e]; exact e0)
        have hfr : fullB M ρ r = true := by
          rw [← ef] at hr
          exact (List.mem_filter.mp hr).2
        have := of_decide_eq_true hfr l hl
        obtain ⟨x, hx, rfl⟩ := List.mem_map.mp this
        obtain ⟨h1, h2⟩ := List.mem_filter.mp hx
        unfold freeB at h2
        simp only [Bool.and_eq_true, decide_eq_true_eq] at h2
        exact ⟨x, h1, h2.1, rfl, h2.2.1, h2.2.2⟩
      · cases hr
end
end Pf
namespace Pf
open PySem PySem.Spec PyProof.Rows L2 Bz
local macro_rules | `(tactic| walk_at "sd") => `(tactic| first
  | rfl | assumption | omega | exact Nat.le_of_ble_eq_true rfl | decide | (refine Or.inl (And.intro ?_ ?_) <;> omega) | (refine Or.inr (And.intro ?_ ?_) <;> omega) | (refine And.intro ?_ ?_ <;> omega) | (refine ⟨?_, ?_, ?_⟩ <;> omega))
local macro_rules | `(tactic| walk_at "sq") => `(tactic| first | assumption | exact SqL.of (by assumption) | exact SqT.of (by assumption) | exact SqL.of upd_same | exact SqT.of upd_same)
local macro_rules | `(tactic| walk_at "hp") => `(tactic| first | assumption | exact upd_same)
local macro_rules | `(tactic| walk_at "rd") => `(tactic| repeat (first
  | (refine ⟨_, rfl, ?_⟩) | (refine ⟨_, _, rfl, rfl, ?_⟩) | (refine ⟨rfl, ?_⟩) | (refine And.intro (by walk_at "sd") ?_)
  | (refine ⟨_, _, _, _, rfl, rfl, (by walk_at "sq"), rfl, ?_⟩)
  | (refine ⟨_, _, _, _, rfl, rfl, (by walk_at "hp"), rfl, ?_⟩)
  | (refine Or.inl ⟨_, rfl, ?_⟩)))
section
variable {P : Program} {w : World} {K : PySem.W.Frag} {mg : PySem.Str → Option Value} {base : Heap} {kl : Cl}
theorem mk_Hunt (T : Facts K mg kl) : Makes P w K mg base kl.Hunt 5 ["self", "machine", "number", "least"] (spHInit P w K kl.Machine kl.Hunt) := by
  refine makes0 T.i_Hunt sc_Hunt___init__ (fun vs H Q E h => ?_) (fun f cdv A outer s H vs Q E hr h => ?_)
  · obtain ⟨x, dx, m, M, num, least, rfl, _⟩ := h
    rfl
  · obtain ⟨x, dx, m, M, num, least, rfl, hx, hM, hF, nQ, lQ, n1, n2, lA, k⟩ := h
    refine ⟨_, (pss_cons (ps_fld (pv 0) (pv 2) rfl)
  (pss_cons (ps_fld (pv 0) (pv 3) rfl)
  (pss_cons (ps_fld (pv 0) pe_non rfl)
  (pss_cons (ps_fld (pv 0) (pe_op op_add (pe_op op_add (pv 2) (pe_cst T.c_HIGHEST_PRICE)) pe_int) rfl)
  (pss_cons (ps_fld (pv 0) (pe_op op_cat (pe_op op_cat (pe_lst (pa_starRg rfl (prg_1 (by rfl) T.b_range (pe_op op_add (pv 2) pe_int)) pa_nil)) (pe_op op_rep (pe_lst (pa_cons (pe_op op_add (pv 2) pe_int) pa_nil)) (pe_op op_add (pe_cst T.c_HIGHEST_PRICE) pe_int))) (pe_op op_rep (pe_lst (pa_cons (pe_fld (pv 0) rfl) pa_nil)) (pe_op op_add (pe_cst T.c_HIGHEST_PRICE) pe_int))) rfl)
  (pss_cons (ps_fld (pv 0) (pe_lc (own := [("letter", 4)]) (g := gName 4) (tt := tYes) rfl sc_Hunt___init__.nd (kpi_tup K (pe_pr (pv 1) hr T.cl_Machine T.p_Machine_letters T.n_Machine_held_letters sc_Machine_letters)) (blkOk_by (own := [("letter", 4)]) (N := N_Hunt___init__) (sc := defScope s_Hunt___init__) (by decide +kernel)) (fun _ _ _ _ _ => (pg_name (i := 4) sc_Hunt___init__.nd rfl (Or.inl rfl))) (fun _ _ _ _ _ => pts_nil) (fun _ _ _ _ _ => (pe_tup (pa_cons (pv 4) (pa_cons (pe_own (ok_sources_of T) hr (pa_cons (pv 1) (pa_cons (pv 4) pa_nil))) pa_nil))))) rfl)
  (pss_cons (ps_fld (pv 0) (pe_callTy (ktuple_of K) (by rfl) T.b_tuple (by decide +kernel) (pa_cons (pe_lc (own := [("state", 5)]) (g := gName 5) (tt := tYes) rfl sc_Hunt___init__.nd (kpi_tup K (pe_pr (pv 1) hr T.cl_Machine T.p_Machine_states T.n_Machine_held_states sc_Machine_states)) (blkOk_by (own := [("state", 5)]) (N := N_Hunt___init__) (sc := defScope s_Hunt___init__) (by decide +kernel)) (fun _ _ _ _ _ => (pg_name (i := 5) sc_Hunt___init__.nd rfl (Or.inl rfl))) (fun _ _ _ _ _ => pts_nil) (fun _ _ _ _ _ => (pe_ifExp (pt_cmpR (kin_seq K) (pv 5) (pe_pr (pv 1) hr T.cl_Machine T.p_Machine_starts T.n_Machine_held_starts sc_Machine_starts) (by rfl)) (pe_ix (kix_list K) (kpe_fld K (pv 0)) pe_int (fun _ _ => rfl)) (kpe_fld K (pv 0))))) pa_nil)) rfl)
  (pss_cons (ps_fld (pv 0) (pe_lc (own := [("state", 5)]) (g := gName 5) (tt := tYes) rfl sc_Hunt___init__.nd (kpi_tup K (pe_pr (pv 1) hr T.cl_Machine T.p_Machine_ends T.n_Machine_held_ends sc_Machine_ends)) (blkOk_by (own := [("state", 5)]) (N := N_Hunt___init__) (sc := defScope s_Hunt___init__) (by decide +kernel)) (fun _ _ _ _ _ => (pg_name (i := 5) sc_Hunt___init__.nd rfl (Or.inl rfl))) (fun _ _ _ _ _ => pts_nil) (fun _ _ _ _ _ => (pe_bmF PySem.F.plainAttrs_tuple PySem.F.slot_tuple_index PySem.F.type_tuple_index (kmt_tup_index K) (pe_pr (pv 1) hr T.cl_Machine T.p_Machine_states T.n_Machine_held_states sc_Machine_states) (pa_cons (pv 5) pa_nil)))) rfl)
  (pss_cons (ps_fld (pv 0) (pe_lc (own := [("state", 5)]) (g := gName 5) (tt := tYes) rfl sc_Hunt___init__.nd (kpi_list K (pe_own (ok_resting_states T) hr (pa_cons (pv 1) pa_nil))) (blkOk_by (own := [("state", 5)]) (N := N_Hunt___init__) (sc := defScope s_Hunt___init__) (by decide +kernel)) (fun _ _ _ _ _ => (pg_name (i := 5) sc_Hunt___init__.nd rfl (Or.inl rfl))) (fun _ _ _ _ _ => pts_nil) (fun _ _ _ _ _ => (pe_bmF PySem.F.plainAttrs_tuple PySem.F.slot_tuple_index PySem.F.type_tuple_index (kmt_tup_index K) (pe_pr (pv 1) hr T.cl_Machine T.p_Machine_states T.n_Machine_held_states sc_Machine_states) (pa_cons (pv 5) pa_nil)))) rfl)
  (pss_cons (ps_fld (pv 0) (pe_op op_add (pe_bits (pe_fld (pv 0) rfl)) pe_int) rfl)
  (pss_cons (ps_fld (pv 0) (pe_callB (ksum1 K rfl) (by rfl) T.b_sum (by decide +kernel) (pa_cons (pe_lc (own := [("at", 6)]) (g := gName 6) (tt := tYes) rfl sc_Hunt___init__.nd (pi_range1 (by rfl) T.b_range (pa_cons (pe_callB (kcall_len K) (by rfl) T.b_len (by decide +kernel) (pa_cons (pe_pr (pv 1) hr T.cl_Machine T.p_Machine_states T.n_Machine_held_states sc_Machine_states) pa_nil)) pa_nil)) (blkOk_by (own := [("at", 6)]) (N := N_Hunt___init__) (sc := defScope s_Hunt___init__) (by decide +kernel)) (fun _ _ _ _ _ => (pg_name (i := 6) sc_Hunt___init__.nd rfl (Or.inl rfl))) (fun _ _ _ _ _ => pts_nil) (fun _ _ _ _ _ => (pe_op op_shl pe_int (pe_op op_sub (pe_op op_add (pe_op op_mul (pv 6) (kpe_fld K (pv 0))) (kpe_fld K (pv 0))) pe_int)))) pa_nil)) rfl)
  (pss_cons (ps_fld (pv 0) pe_dnewT rfl)
  (pss_cons (ps_fld (pv 0) pe_dnewB rfl)
  (pss_one (ps_fld (pv 0) (pe_lst pa_nil) rfl))))))))))))))), ?_⟩
    have nmx : m ≠ x := fun e => by
      obtain ⟨dy, t1, t2, t3, t4, t5, ws, hI⟩ := hM
      have z := hI.ins
      rw [e, hx] at z
      have z2 := (HO.ins.inj (Option.some.inj z)).2.2
      unfold mfs at z2
      cases z2
    have hMG : IsMach kl.Machine (hid [x] H) m M := mach_hid hM hx nmx
    have hMG0 := hMG
    obtain ⟨dy, t1, t2, t3, t4, t5, ws, hJ⟩ := hMG
    have ml : M.sta.length ≤ 3 := lQ
    have mx : x ∈ [x] := List.mem_singleton.mpr rfl
    have k0 : H x = some (.ins kl.Hunt dx (List.zip hkeys [])) := hx
    have g0 : hid [x] H = hid [x] H := rfl
    refine ⟨_, rfl, ?_⟩
    refine ⟨_, rfl, x, kl.Hunt, dx, _, rfl, k0, T.cl_Hunt, T.n_Hunt_number, Nat.le_of_ble_eq_true rfl, ?_⟩
    rw [putF_zip rfl hkeys_nd]
    have k1 := upd_same (H := H) (a := x) (o := .ins kl.Hunt dx (List.zip hkeys ([] ++ [V.int num])))
    have g1 := (hid_upd (H := H) (o := .ins kl.Hunt dx (List.zip hkeys ([] ++ [V.int num]))) mx).trans g0
    generalize upd H x (.ins kl.Hunt dx (List.zip hkeys ([] ++ [V.int num]))) = H1 at k1 g1 ⊢
    rw [show ([] ++ [V.int num] : List V) = [V.int num] from rfl] at k1
    refine ⟨_, rfl, ?_⟩
    refine ⟨_, rfl, x, kl.Hunt, dx, _, rfl, k1, T.cl_Hunt, T.n_Hunt_greatest_price, Nat.le_of_ble_eq_true rfl, ?_⟩
    rw [putF_zip rfl hkeys_nd]
    have k2 := upd_same (H := H1) (a := x) (o := .ins kl.Hunt dx (List.zip hkeys ([V.int num] ++ [V.int least])))
    have g2 := (hid_upd (H := H1) (o := .ins kl.Hunt dx (List.zip hkeys ([V.int num] ++ [V.int least]))) mx).trans g1
    generalize upd H1 x (.ins kl.Hunt dx (List.zip hkeys ([V.int num] ++ [V.int least]))) = H2 at k2 g2 ⊢
    rw [show ([V.int num] ++ [V.int least] : List V) = [V.int num, V.int least] from rfl] at k2
    refine ⟨_, rfl, x, kl.Hunt, dx, _, rfl, k2, T.cl_Hunt, T.n_Hunt_dearest_row, Nat.le_of_ble_eq_true rfl, ?_⟩
    rw [putF_zip rfl hkeys_nd]
    have k3 := upd_same (H := H2) (a := x) (o := .ins kl.Hunt dx (List.zip hkeys ([V.int num, V.int least] ++ [V.non])))
    have g3 := (hid_upd (H := H2) (o := .ins kl.Hunt dx (List.zip hkeys ([V.int num, V.int least] ++ [V.non]))) mx).trans g2
    generalize upd H2 x (.ins kl.Hunt dx (List.zip hkeys ([V.int num, V.int least] ++ [V.non]))) = H3 at k3 g3 ⊢
    rw [show ([V.int num, V.int least] ++ [V.non] : List V) = [V.int num, V.int least, V.non] from rfl] at k3
    refine ⟨_, rfl, _, _, rfl, rfl, _, _, rfl, rfl, ?_⟩
    refine ⟨_, rfl, x, kl.Hunt, dx, _, rfl, k3, T.cl_Hunt, T.n_Hunt_nothing, Nat.le_of_ble_eq_true rfl, ?_⟩
    rw [putF_zip rfl hkeys_nd]
    have k4 := upd_same (H := H3) (a := x) (o := .ins kl.Hunt dx (List.zip hkeys ([V.int num, V.int least, V.non] ++ [V.int (num + 99 + 2)])))
    have g4 := (hid_upd (H := H3) (o := .ins kl.Hunt dx (List.zip hkeys ([V.int num, V.int least, V.non] ++ [V.int (num + 99 + 2)]))) mx).trans g3
    generalize upd H3 x (.ins kl.Hunt dx (List.zip hkeys ([V.int num, V.int least, V.non] ++ [V.int (num + 99 + 2)]))) = H4 at k4 g4 ⊢
    rw [show ([V.int num, V.int least, V.non] ++ [V.int (num + 99 + 2)] : List V) = [V.int num, V.int least, V.non, V.int (num + 99 + 2)] from rfl] at k4
    rw [show num + 99 + 2 = num + 101 by omega] at k4
    refine ⟨_, rfl, _, _, rfl, rfl, ?_⟩
    refine ⟨_, rfl, RgOk.of_le (Int.le_refl _) (by omega) (by omega) (by omega), ?_, fun p1 hp1 => ?_⟩
    · rw [List.append_nil, rgV_length]
      exact Nat.le_trans (show _ ≤ 1000 by omega) (by decide)
    have s1 := same_new (o := .lst (rgV 0 (num + 1) ++ [])) hp1
    have e1 := upd_same (H := H4) (a := p1) (o := .lst (rgV 0 (num + 1) ++ []))
    generalize upd H4 p1 (.lst (rgV 0 (num + 1) ++ [])) = H5 at s1 e1 ⊢
    refine ⟨_, rfl, _, _, rfl, rfl, Nat.le_of_ble_eq_true rfl, fun p2 hp2 => ?_⟩
    have s2 := same_new (o := .lst [V.int (num + 1)]) hp2
    have e2 := upd_same (H := H5) (a := p2) (o := .lst [V.int (num + 1)])
    generalize upd H5 p2 (.lst [V.int (num + 1)]) = H6 at s2 e2 ⊢
    refine ⟨_, _, rfl, rfl, p2, _, _, rfl, rfl, e2, by omega, by omega, Nat.le_of_ble_eq_true rfl, fun p3 hp3 => ?_⟩
    have s3 := same_new (o := .lst (List.replicate (99 + 1 : Int).toNat [V.int (num + 1)]).flatten) hp3
    have e3 := upd_same (H := H6) (a := p3) (o := .lst (List.replicate (99 + 1 : Int).toNat [V.int (num + 1)]).flatten)
    generalize upd H6 p3 (.lst (List.replicate (99 + 1 : Int).toNat [V.int (num + 1)]).flatten) = H7 at s3 e3 ⊢
    have fl : ∀ v : V, (List.replicate (99 + 1 : Int).toNat [v]).flatten = List.replicate 100 v := fun v => by
      have : ∀ n, (List.replicate n [v]).flatten = List.replicate n v := fun n => by
        induction n with
        | zero => rfl
        | succ n ih =>
          rw [List.replicate_succ, List.replicate_succ, List.flatten_cons, ih]
          rfl
      exact this _
    rw [fl] at e3
    refine ⟨p1, p3, _, _, rfl, rfl, s3 _ _ (s2 _ _ e1), e3, ?_, fun p4 hp4 => ?_⟩
    · rw [List.append_nil, rgV_length, List.length_replicate]
      exact Nat.le_trans (show _ ≤ 1000 by omega) (by decide)
    have s4 := same_new (o := .lst (rgV 0 (num + 1) ++ [] ++ List.replicate 100 (V.int (num + 1)))) hp4
    have e4 := upd_same (H := H7) (a := p4) (o := .lst (rgV 0 (num + 1) ++ [] ++ List.replicate 100 (V.int (num + 1))))
    generalize upd H7 p4 (.lst (rgV 0 (num + 1) ++ [] ++ List.replicate 100 (V.int (num + 1)))) = H8 at s4 e4 ⊢
    have t8 := ((s1.trans s2).trans s3).trans s4
    refine ⟨_, rfl, x, kl.Hunt, dx, _, _, rfl, t8 _ _ k4, T.cl_Hunt, T.n_Hunt_nothing, look_zip 3 rfl rfl hkeys_nd, Nat.le_of_ble_eq_true rfl, fun p5 hp5 => ?_⟩
    have s5 := same_new (o := .lst [V.int (num + 101)]) hp5
    have e5 := upd_same (H := H8) (a := p5) (o := .lst [V.int (num + 101)])
    generalize upd H8 p5 (.lst [V.int (num + 101)]) = H9 at s5 e5 ⊢
    refine ⟨_, _, rfl, rfl, p5, _, _, rfl, rfl, e5, by omega, by omega, Nat.le_of_ble_eq_true rfl, fun p6 hp6 => ?_⟩
    have s6 := same_new (o := .lst (List.replicate (99 + 1 : Int).toNat [V.int (num + 101)]).flatten) hp6
    have e6 := upd_same (H := H9) (a := p6) (o := .lst (List.replicate (99 + 1 : Int).toNat [V.int (num + 101)]).flatten)
    generalize upd H9 p6 (.lst (List.replicate (99 + 1 : Int).toNat [V.int (num + 101)]).flatten) = H10 at s6 e6 ⊢
    rw [fl] at e6
    refine ⟨p4, p6, _, _, rfl, rfl, s6 _ _ (s5 _ _ e4), e6, ?_, fun lev hlev => ?_⟩
    · rw [List.append_nil, List.length_append, rgV_length, List.length_replicate, List.length_replicate]
      exact Nat.le_trans (show _ ≤ 1000 by omega) (by decide)
    have elv : rgV 0 (num + 1) ++ [] ++ List.replicate 100 (V.int (num + 1)) ++ List.replicate 100 (V.int (num + 101)) = (levL num).map V.int := by
      unfold levL rgV
      rw [List.map_append, List.map_append, List.map_replicate, List.map_replicate, List.append_nil, List.map_map]
      congr 2
      rw [show num + 1 - 0 = num + 1 by omega]
      refine List.map_congr_left fun i _ => ?_
      show V.int (0 + (i : Nat)) = V.int (i : Nat)
      rw [Int.zero_add]
    rw [elv]
    have s7 := same_new (o := .lst ((levL num).map V.int)) hlev
    have elev := upd_same (H := H10) (a := lev) (o := .lst ((levL num).map V.int))
    generalize upd H10 lev (.lst ((levL num).map V.int)) = H11 at s7 elev ⊢
    have t11 := ((t8.trans s5).trans s6).trans s7
    have k11 := t11 _ _ k4
    have nlev : lev ≠ x := fun e => by
      rw [e, k11] at elev
      cases elev
    refine ⟨_, rfl, x, kl.Hunt, dx, _, rfl, k11, T.cl_Hunt, T.n_Hunt_levels, Nat.le_of_ble_eq_true rfl, ?_⟩
    rw [putF_zip rfl hkeys_nd]
    have g11 : Same (hid [x] H) (hid [x] H11) := by
      have := hid_same (xs := [x]) t11
      rwa [g4] at this
    have lev11 := hid_of elev (xs := [x]) (by simpa using nlev)
    have k5 := upd_same (H := H11) (a := x) (o := .ins kl.Hunt dx (List.zip hkeys ([V.int num, V.int least, V.non, V.int (num + 101)] ++ [.ref lev])))
    have g5 := hid_upd (H := H11) (o := .ins kl.Hunt dx (List.zip hkeys ([V.int num, V.int least, V.non, V.int (num + 101)] ++ [.ref lev]))) mx
    generalize upd H11 x (.ins kl.Hunt dx (List.zip hkeys ([V.int num, V.int least, V.non, V.int (num + 101)] ++ [.ref lev]))) = H12 at k5 g5 ⊢
    rw [← g5] at g11 lev11
    clear g4 g5 k4 k11 t11 t8 s1 s2 s3 s4 s5 s6 s7 e1 e2 e3 e4 e5 e6
    have q12 : Same (hid [x] H) H12 := g11.trans hid_sub
    -- the letters, each with its sources
    have ll5 : (M.lets.map V.str).length ≤ 500 := by
      rw [List.length_map]
      exact hF.ll
    refine ⟨_, rfl, m, dy, _, rfl, q12 _ _ hJ.ins, m, dy, _, _, rfl, q12 _ _ hJ.ins, mfs5 .., t5, rfl, ⟨_, (hJ.a5.on q12).sq⟩, fun D hD => lcA walk_tup (fun i acc H' => Paired (fun v l => ∃ r s, v = V.ref r ∧ hid [D] H' r = some (.tup [.str l, .ref s]) ∧ SrcL (hid [D] H') s (waysOf M.ars M.sta l)) acc (M.lets.take i) ∧ Same H12 H') ⟨.nil, .refl _⟩ (fun i acc H' o h => ⟨by rw [hid_upd (List.mem_singleton.mpr rfl)]; exact h.1, same_mut h.2 hD⟩) (fun i acc H' _ h => (hJ.a5.on (q12.trans h.2)).sq) ?_ ?_⟩
    · rintro i v acc _ H13 hi ⟨hP, s13⟩ hA hl13 ⟨rfl, hv⟩
      obtain ⟨l, rfl, hl⟩ := map_str hv
      refine ⟨rfl, _, rfl, _, rfl, _, rfl, m, M, l, rfl, (hMG0.same (q12.trans s13)), hF, nQ, lA l (List.mem_of_getElem? hl), fun a H14 hN s14 => ?_⟩
      have hA14 := s14 _ _ hA
      refine ⟨Nat.le_of_ble_eq_true rfl, fun r hr => ?_⟩
      have s15 := same_new (o := .tup [.str l, .ref a]) hr
      have e15 := upd_same (H := H14) (a := r) (o := .tup [.str l, .ref a])
      generalize upd H14 r (.tup [.str l, .ref a]) = H15 at s15 e15 ⊢
      have hA15 := s15 _ _ hA14
      have nr : r ≠ D := fun e => by
        rw [e, hA15] at e15
        cases e15
      refine LcP.put (fun i acc H' o h => ⟨by rw [hid_upd (List.mem_singleton.mpr rfl)]; exact h.1, same_mut h.2 hD⟩) hA15 hl13 (by omega) ⟨?_, (s13.trans s14).trans s15⟩
      rw [List.take_add_one, hl]
      have h1315 := hid_same (xs := [D]) (s14.trans s15)
      exact paired_snoc (Paired.mapP hP fun v l ⟨r, s, e, h1, h2⟩ => ⟨r, s, e, h1315 _ _ h1, h2.same h1315⟩) ⟨r, a, rfl, hid_of e15 (by simpa using nr), (hN.hid hA hA14).same (hid_same s15)⟩
    rintro acc H13 ⟨hP, s13⟩ hA _
    rw [List.length_map, List.take_length] at hP
    have k13 := s13 _ _ k5
    have nD : D ≠ x := fun e => by
      rw [e, k5] at hD
      cases hD
    refine ⟨_, rfl, x, kl.Hunt, dx, _, rfl, k13, T.cl_Hunt, T.n_Hunt_letter_sources, Nat.le_of_ble_eq_true rfl, ?_⟩
    rw [putF_zip rfl hkeys_nd]
    have g13 : Same (hid [x] H12) (hid [x] H13) := hid_same s13
    have lev13 := g13 _ _ lev11
    have g13 := g11.trans g13
    have tx : ∀ {r : Addr} {us : List V}, H13 r = some (.tup us) → hid [x] H13 r = some (.tup us) := fun {r us} e => hid_of e fun c => by
      rw [List.mem_singleton.mp c, k13] at e
      cases e
    have tl : ∀ {r : Addr} {us : List V}, H13 r = some (.lst us) → hid [x] H13 r = some (.lst us) := fun {r us} e => hid_of e fun c => by
      rw [List.mem_singleton.mp c, k13] at e
      cases e
    have ls13 : ∃ ws, hid [x] H13 D = some (.lst ws) ∧ Paired (fun v l => ∃ r s, v = V.ref r ∧ hid [x] H13 r = some (.tup [.str l, .ref s]) ∧ SrcL (hid [x] H13) s (waysOf M.ars M.sta l)) ws M.lets := by
      refine ⟨acc, tl hA, Paired.mapP hP fun v l ⟨r, s, e, h1, as, h2, h3⟩ => ⟨r, s, e, tx (hid_sub _ _ h1), as, tl (hid_sub _ _ h2), Paired.mapP h3 fun q ws ⟨vs, k1, k2⟩ => ⟨vs, tl (hid_sub _ _ k1), Paired.mapP k2 fun v p ⟨r, e, hr⟩ => ⟨r, e, tx (hid_sub _ _ hr)⟩⟩⟩⟩
    clear tx tl hP
    have k6 := upd_same (H := H13) (a := x) (o := .ins kl.Hunt dx (List.zip hkeys ([V.int num, V.int least, V.non, V.int (num + 101)] ++ [.ref lev] ++ [.ref D])))
    have g6 := hid_upd (H := H13) (o := .ins kl.Hunt dx (List.zip hkeys ([V.int num, V.int least, V.non, V.int (num + 101)] ++ [.ref lev] ++ [.ref D]))) mx
    generalize upd H13 x (.ins kl.Hunt dx (List.zip hkeys ([V.int num, V.int least, V.non, V.int (num + 101)] ++ [.ref lev] ++ [.ref D]))) = H14 at k6 g6 ⊢
    rw [← g6] at g13 lev13 ls13
    have q14 : Same (hid [x] H) H14 := g13.trans hid_sub
    clear g6 k13 k5 hA g11 lev11 q12 s13
    -- the first levels
    refine ⟨_, rfl, m, dy, _, rfl, q14 _ _ hJ.ins, m, dy, _, _, rfl, q14 _ _ hJ.ins, mfs4 .., t4, rfl, ⟨_, (hJ.a4.on q14).sq⟩, fun D2 hD2 => lcA walk_tup (fun i acc H' => acc = (M.sta.take i).map (fun q => V.int (capL num (startF M.sts q))) ∧ Same H14 H') ⟨rfl, .refl _⟩ (fun i acc H' o h => ⟨h.1, same_mut h.2 hD2⟩) (fun i acc H' _ h => (hJ.a4.on (q14.trans h.2)).sq) ?_ ?_⟩
    · rintro i v acc _ H15 hi ⟨rfl, s15⟩ hA hl15 ⟨rfl, hv⟩
      obtain ⟨q, rfl, hq⟩ := map_str hv
      have q15 := q14.trans s15
      rw [List.length_map] at hi
      refine ⟨rfl, ?_⟩
      have tk : M.sta.take (i + 1) = M.sta.take i ++ [q] := by rw [List.take_add_one, hq]; rfl
      refine ⟨_, rfl, _, rfl, m, dy, _, rfl, q15 _ _ hJ.ins, m, dy, _, _, rfl, q15 _ _ hJ.ins, mfs2 .., t2, _, rfl, .inr (hJ.a2.on q15).sq, rfl, flat_str _, ?_⟩
      rw [if_neg Bool.false_ne_true, inV_str]
      refine ⟨_, rfl, ite2 (fun c1 => ?_) (fun c1 => ?_)⟩
      · have e1 : q ∈ M.sts := of_decide_eq_true c1
        have e2 : capL num (startF M.sts q) = lvN num 0 := by
          unfold startF
          rw [if_pos e1]
          unfold capL lvN
          simp only []
          split <;> (repeat' split) <;> omega
        refine ⟨_, rfl, x, kl.Hunt, dx, _, _, rfl, s15 _ _ k6, T.cl_Hunt, T.n_Hunt_levels, look_zip 4 rfl rfl hkeys_nd, lev, _, _, _, rfl, rfl, SqL.of (s15 _ _ (hid_sub _ _ lev13)), atI_map (levL_at n1 (Int.le_refl 0) (by omega)), ?_⟩
        refine LcP.put (fun i acc H' o h => ⟨h.1, same_mut h.2 hD2⟩) hA hl15 (by omega) ⟨?_, s15⟩
        rw [tk, List.map_append, ← e2]
        rfl
      · have e1 : ¬ q ∈ M.sts := fun z => c1 (decide_eq_true z)
        have e2 : capL num (startF M.sts q) = num + 101 := by
          unfold startF
          rw [if_neg e1]
          rfl
        refine ⟨_, rfl, x, kl.Hunt, dx, _, _, rfl, s15 _ _ k6, T.cl_Hunt, T.n_Hunt_nothing, look_zip 3 rfl rfl hkeys_nd, ?_⟩
        refine LcP.put (fun i acc H' o h => ⟨h.1, same_mut h.2 hD2⟩) hA hl15 (by omega) ⟨?_, s15⟩
        rw [tk, List.map_append, ← e2]
        rfl
    rintro acc H15 ⟨rfl, s15⟩ hA _
    rw [List.length_map, List.take_length] at hA
    refine ⟨D2, _, rfl, .inl ⟨SqL.of hA, fun fl hfl => ?_⟩⟩
    have ef : M.sta.map (fun q => V.int (capL num (startF M.sts q))) = (LvOf M.sta num (startF M.sts)).map V.int := by
      unfold LvOf
      rw [List.map_map]
      rfl
    rw [ef]
    have s16 := same_new (o := .tup ((LvOf M.sta num (startF M.sts)).map V.int)) hfl
    have e16 := upd_same (H := H15) (a := fl) (o := .tup ((LvOf M.sta num (startF M.sts)).map V.int))
    generalize upd H15 fl (.tup ((LvOf M.sta num (startF M.sts)).map V.int)) = H16 at s16 e16 ⊢
    have t16 := s15.trans s16
    have k16 := t16 _ _ k6
    have u16 := hid_same (xs := [x]) t16
    have fl16 : hid [x] H16 fl = some (.tup ((LvOf M.sta num (startF M.sts)).map V.int)) := hid_of e16 fun c => by
      rw [List.mem_singleton.mp c, k16] at e16
      cases e16
    have g16 := g13.trans u16
    have lev16 := u16 _ _ lev13
    have ls16 : ∃ ws, hid [x] H16 D = some (.lst ws) ∧ Paired (fun v l => ∃ r s, v = V.ref r ∧ hid [x] H16 r = some (.tup [.str l, .ref s]) ∧ SrcL (hid [x] H16) s (waysOf M.ars M.sta l)) ws M.lets := by
      obtain ⟨ws, h1, h2⟩ := ls13
      exact ⟨ws, u16 _ _ h1, Paired.mapP h2 fun v l ⟨r, s, e, h1, h2⟩ => ⟨r, s, e, u16 _ _ h1, h2.same u16⟩⟩
    refine ⟨_, rfl, x, kl.Hunt, dx, _, rfl, k16, T.cl_Hunt, T.n_Hunt_first_levels, Nat.le_of_ble_eq_true rfl, ?_⟩
    rw [putF_zip rfl hkeys_nd]
    have k7 := upd_same (H := H16) (a := x) (o := .ins kl.Hunt dx (List.zip hkeys ([V.int num, V.int least, V.non, V.int (num + 101)] ++ [.ref lev] ++ [.ref D] ++ [.ref fl])))
    have g7 := hid_upd (H := H16) (o := .ins kl.Hunt dx (List.zip hkeys ([V.int num, V.int least, V.non, V.int (num + 101)] ++ [.ref lev] ++ [.ref D] ++ [.ref fl]))) mx
    generalize upd H16 x (.ins kl.Hunt dx (List.zip hkeys ([V.int num, V.int least, V.non, V.int (num + 101)] ++ [.ref lev] ++ [.ref D] ++ [.ref fl]))) = H17 at k7 g7 ⊢
    rw [← g7] at g16 lev16 ls16 fl16
    have q17 : Same (hid [x] H) H17 := g16.trans hid_sub
    clear u16 ls13 lev13 g13 g7 k16 t16 e16 s16 hA s15 q14 k6
    -- the ends' places
    have el5 : M.ens.length ≤ 1000 := hF.el
    refine ⟨_, rfl, m, dy, _, rfl, q17 _ _ hJ.ins, m, dy, _, _, rfl, q17 _ _ hJ.ins, mfs3 .., t3, rfl, ⟨_, (hJ.a3.on q17).sq⟩, fun ep hep => lcA walk_tup (fun i acc H' => acc = (M.ens.take i).map (fun e => V.int (M.sta.idxOf e : Nat)) ∧ Same H17 H') ⟨rfl, .refl _⟩ (fun i acc H' o h => ⟨h.1, same_mut h.2 hep⟩) (fun i acc H' _ h => (hJ.a3.on (q17.trans h.2)).sq) ?_ ?_⟩
    · rintro i v acc _ H18 hi ⟨rfl, s18⟩ hA hl18 ⟨rfl, hv⟩
      obtain ⟨e, rfl, he⟩ := map_str hv
      have q18 := q17.trans s18
      rw [List.length_map] at hi
      have tk : M.ens.take (i + 1) = M.ens.take i ++ [e] := by rw [List.take_add_one, he]; rfl
      refine ⟨rfl, ?_⟩
      refine ⟨_, rfl, m, dy, _, rfl, q18 _ _ hJ.ins, m, dy, _, _, rfl, q18 _ _ hJ.ins, mfs4 .., ⟨t4, _, rfl, hJ.a4.on q18⟩, _, rfl, t4, M.sta, e, M.sta.idxOf e, rfl, rfl, (hJ.a4.on q18).sq, idx_get (hF.en e (List.mem_of_getElem? he)), fun m hm => idx_min hm, ?_⟩
      refine LcP.put (fun i acc H' o h => ⟨h.1, same_mut h.2 hep⟩) hA hl18 (by omega) ⟨?_, s18⟩
      rw [tk, List.map_append]
      rfl
    rintro acc H18 ⟨rfl, s18⟩ hA _
    rw [List.length_map, List.take_length] at hA
    have k18 := s18 _ _ k7
    have u18 := hid_same (xs := [x]) s18
    have ep18 : hid [x] H18 ep = some (.lst (M.ens.map fun e => V.int (M.sta.idxOf e : Nat))) := hid_of hA fun c => by
      rw [List.mem_singleton.mp c, k18] at hA
      cases hA
    have g18 := g16.trans u18
    have lev18 := u18 _ _ lev16
    have fl18 := u18 _ _ fl16
    have ls18 : ∃ ws, hid [x] H18 D = some (HO.lst ws) ∧ Paired (fun v l => ∃ r s, v = V.ref r ∧ hid [x] H18 r = some (.tup [.str l, .ref s]) ∧ SrcL (hid [x] H18) s (waysOf M.ars M.sta l)) ws M.lets := by
      obtain ⟨ws, h1, h2⟩ := ls16
      exact ⟨ws, u18 _ _ h1, Paired.mapP h2 fun v l ⟨r, s, e, h1, h2⟩ => ⟨r, s, e, u18 _ _ h1, h2.same u18⟩⟩
    refine ⟨_, rfl, x, kl.Hunt, dx, _, rfl, k18, T.cl_Hunt, T.n_Hunt_end_places, Nat.le_of_ble_eq_true rfl, ?_⟩
    rw [putF_zip rfl hkeys_nd]
    have k8 := upd_same (H := H18) (a := x) (o := .ins kl.Hunt dx (List.zip hkeys ([V.int num, V.int least, V.non, V.int (num + 101)] ++ [.ref lev] ++ [.ref D] ++ [.ref fl] ++ [.ref ep])))
    have g8 := hid_upd (H := H18) (o := .ins kl.Hunt dx (List.zip hkeys ([V.int num, V.int least, V.non, V.int (num + 101)] ++ [.ref lev] ++ [.ref D] ++ [.ref fl] ++ [.ref ep]))) mx
    generalize upd H18 x (.ins kl.Hunt dx (List.zip hkeys ([V.int num, V.int least, V.non, V.int (num + 101)] ++ [.ref lev] ++ [.ref D] ++ [.ref fl] ++ [.ref ep]))) = H19 at k8 g8 ⊢
    rw [← g8] at g18 lev18 ls18 fl18 ep18
    have q19 : Same (hid [x] H) H19 := g18.trans hid_sub
    clear u18 ls16 lev16 g16 g8 k18 hA s18 fl16 q17 k7
    -- the places to rest at
    refine ⟨_, rfl, m, M, rfl, hMG0.same q19, hF, fun a rs H20 ha hR rl s20 => ?_⟩
    have k20 := s20 _ _ k8
    have rQ : ∀ r ∈ rs, r ∈ M.sta := fun r hr => hF.en r (hR.1 r hr)
    refine ⟨a, rfl, ⟨_, SqL.of ha⟩, fun rp hrp => lcA walk_list (fun i acc H' => acc = (rs.take i).map (fun e => V.int (M.sta.idxOf e : Nat)) ∧ Same H20 H') ⟨rfl, .refl _⟩ (fun i acc H' o h => ⟨h.1, same_mut h.2 hrp⟩) (fun i acc H' _ h => SqL.of (h.2 _ _ ha)) ?_ ?_⟩
    · rintro i v acc _ H21 hi ⟨rfl, s21⟩ hA hl21 ⟨rfl, hv⟩
      obtain ⟨e, rfl, he⟩ := map_str hv
      have q21 := (q19.trans s20).trans s21
      rw [List.length_map] at hi
      have tk : rs.take (i + 1) = rs.take i ++ [e] := by rw [List.take_add_one, he]; rfl
      refine ⟨rfl, ?_⟩
      refine ⟨_, rfl, m, dy, _, rfl, q21 _ _ hJ.ins, m, dy, _, _, rfl, q21 _ _ hJ.ins, mfs4 .., ⟨t4, _, rfl, hJ.a4.on q21⟩, _, rfl, t4, M.sta, e, M.sta.idxOf e, rfl, rfl, (hJ.a4.on q21).sq, idx_get (rQ e (List.mem_of_getElem? he)), fun m hm => idx_min hm, ?_⟩
      refine LcP.put (fun i acc H' o h => ⟨h.1, same_mut h.2 hrp⟩) hA hl21 (by omega) ⟨?_, s21⟩
      rw [tk, List.map_append]
      rfl
    rintro acc H21 ⟨rfl, s21⟩ hA _
    rw [List.length_map, List.take_length] at hA
    have t21 := s20.trans s21
    have k21 := t21 _ _ k8
    have u21 := hid_same (xs := [x]) t21
    have rp21 : hid [x] H21 rp = some (.lst (rs.map fun e => V.int (M.sta.idxOf e : Nat))) := hid_of hA fun c => by
      rw [List.mem_singleton.mp c, k21] at hA
      cases hA
    have g21 := g18.trans u21
    have st21 : HStat (hid [x] H21) ⟨lev, D, fl, ep, rp, 0, 0, 0⟩ ⟨M.ars, M.sts, M.ens, M.sta, M.lets, rs, num⟩ := by
      obtain ⟨ws, h1, h2⟩ := ls18
      exact ⟨u21 _ _ lev18, ⟨ws, u21 _ _ h1, Paired.mapP h2 fun v l ⟨r, s, e, h1, h2⟩ => ⟨r, s, e, u21 _ _ h1, h2.same u21⟩⟩, u21 _ _ fl18, u21 _ _ ep18, rp21⟩
    refine ⟨_, rfl, x, kl.Hunt, dx, _, rfl, k21, T.cl_Hunt, T.n_Hunt_resting_places, Nat.le_of_ble_eq_true rfl, ?_⟩
    rw [putF_zip rfl hkeys_nd]
    have k9 := upd_same (H := H21) (a := x) (o := .ins kl.Hunt dx (List.zip hkeys ([V.int num, V.int least, V.non, V.int (num + 101)] ++ [.ref lev] ++ [.ref D] ++ [.ref fl] ++ [.ref ep] ++ [.ref rp])))
    have g9 := hid_upd (H := H21) (o := .ins kl.Hunt dx (List.zip hkeys ([V.int num, V.int least, V.non, V.int (num + 101)] ++ [.ref lev] ++ [.ref D] ++ [.ref fl] ++ [.ref ep] ++ [.ref rp]))) mx
    generalize upd H21 x (.ins kl.Hunt dx (List.zip hkeys ([V.int num, V.int least, V.non, V.int (num + 101)] ++ [.ref lev] ++ [.ref D] ++ [.ref fl] ++ [.ref ep] ++ [.ref rp]))) = H22 at k9 g9 ⊢
    rw [← g9] at g21 st21
    have q22 : Same (hid [x] H) H22 := g21.trans hid_sub
    clear u21 ls18 lev18 g18 g9 k21 hA s21 s20 t21 fl18 ep18 rp21 q19 k8 k20 ha
    -- the width
    have wk9 : Builtin.Int.intBits (num + 101) ≤ 9 := intBits_le_iff.mpr (by omega)
    refine ⟨_, rfl, x, kl.Hunt, dx, _, _, rfl, k9, T.cl_Hunt, T.n_Hunt_nothing, look_zip 3 rfl rfl hkeys_nd, _, rfl, _, _, rfl, rfl, ?_⟩
    refine ⟨_, rfl, x, kl.Hunt, dx, _, rfl, k9, T.cl_Hunt, T.n_Hunt_width, Nat.le_of_ble_eq_true rfl, ?_⟩
    rw [putF_zip rfl hkeys_nd]
    generalize hwk : Builtin.Int.intBits (num + 101) = wk at wk9 ⊢
    have k10 := upd_same (H := H22) (a := x) (o := .ins kl.Hunt dx (List.zip hkeys ([V.int num, V.int least, V.non, V.int (num + 101)] ++ [.ref lev] ++ [.ref D] ++ [.ref fl] ++ [.ref ep] ++ [.ref rp] ++ [.int ((wk : Nat) + 1)])))
    have g10 := hid_upd (H := H22) (o := .ins kl.Hunt dx (List.zip hkeys ([V.int num, V.int least, V.non, V.int (num + 101)] ++ [.ref lev] ++ [.ref D] ++ [.ref fl] ++ [.ref ep] ++ [.ref rp] ++ [.int ((wk : Nat) + 1)]))) mx
    generalize upd H22 x (.ins kl.Hunt dx (List.zip hkeys ([V.int num, V.int least, V.non, V.int (num + 101)] ++ [.ref lev] ++ [.ref D] ++ [.ref fl] ++ [.ref ep] ++ [.ref rp] ++ [.int ((wk : Nat) + 1)]))) = H23 at k10 g10 ⊢
    rw [show ((wk : Nat) : Int) + 1 = ((wk + 1 : Nat) : Int) from rfl] at k10
    rw [← g10] at g21 st21
    have q23 : Same (hid [x] H) H23 := g21.trans hid_sub
    clear g10 k9 q22
    -- the guards
    refine ⟨_, rfl, m, dy, _, rfl, q23 _ _ hJ.ins, m, dy, _, _, rfl, q23 _ _ hJ.ins, mfs4 .., _, M.sta.length, rfl, .inr ⟨_, (hJ.a4.on q23).sq, by rw [List.length_map]⟩, _, rfl, by omega, by omega, fun D3 hD3 => lcA walk_range (fun i acc H' => acc = (List.range i).map (fun (i : Nat) => V.int ((2 ^ (i * (wk + 1) + wk) : Nat) : Int)) ∧ Same H23 H') ⟨rfl, .refl _⟩ (fun i acc H' o h => ⟨h.1, same_mut h.2 hD3⟩) (fun i acc H' _ h => trivial) ?_ ?_⟩
    · rintro i v acc _ H24 hi ⟨rfl, s24⟩ hA hl24 ⟨rfl, rfl⟩
      refine ⟨rfl, ?_⟩
      have k24 := s24 _ _ k10
      have hi' : i < M.sta.length := hi
      have i3 : i < 3 := by omega
      refine ⟨_, rfl, _, rfl, x, kl.Hunt, dx, _, _, rfl, k24, T.cl_Hunt, T.n_Hunt_width, look_zip 9 rfl rfl hkeys_nd, _, _, rfl, rfl, .inl ⟨by omega, by omega⟩, ?_⟩
      refine ⟨_, rfl, x, kl.Hunt, dx, _, _, rfl, k24, T.cl_Hunt, T.n_Hunt_width, look_zip 9 rfl rfl hkeys_nd, _, _, rfl, rfl, ?_⟩
      refine ⟨_, _, rfl, rfl, ?_⟩
      have hb : i * (wk + 1) ≤ 3 * 10 := Nat.mul_le_mul (by omega) (by omega)
      refine ⟨1, ((i * (wk + 1) + wk : Nat) : Int), rfl, congrArg V.int (place_bit i wk), ⟨by omega, by omega, by decide⟩, ?_⟩
      refine LcP.put (fun i acc H' o h => ⟨h.1, same_mut h.2 hD3⟩) hA hl24 (by omega) ⟨?_, s24⟩
      rw [List.range_succ, List.map_append]
      show _ ++ [V.int (1 * 2 ^ ((i * (wk + 1) + wk : Nat) : Int).toNat)] = _
      rw [bit_val]
      rfl
    rintro acc H24 ⟨rfl, s24⟩ hA _
    have k24 := s24 _ _ k10
    have u24 := hid_same (xs := [x]) s24
    have eg : (List.range M.sta.length).map (fun (i : Nat) => V.int ((2 ^ (i * (wk + 1) + wk) : Nat) : Int)) = ((List.range M.sta.length).map (fun (i : Nat) => ((2 ^ (i * (wk + 1) + wk) : Nat) : Int))).map V.int := by
      rw [List.map_map]
      rfl
    have hA' : SqL K H24 D3 (((List.range M.sta.length).map (fun (i : Nat) => ((2 ^ (i * (wk + 1) + wk) : Nat) : Int))).map V.int) := eg ▸ SqL.of hA
    refine ⟨D3, _, rfl, hA', ?_⟩
    rw [gd_sum]
    refine ⟨_, rfl, x, kl.Hunt, dx, _, rfl, k24, T.cl_Hunt, T.n_Hunt_guards, Nat.le_of_ble_eq_true rfl, ?_⟩
    rw [putF_zip rfl hkeys_nd]
    have g24 := g21.trans u24
    have st24 := st21.same u24
    have k11 := upd_same (H := H24) (a := x) (o := .ins kl.Hunt dx (List.zip hkeys ([V.int num, V.int least, V.non, V.int (num + 101)] ++ [.ref lev] ++ [.ref D] ++ [.ref fl] ++ [.ref ep] ++ [.ref rp] ++ [.int (wk + 1 : Nat)] ++ [.int (gdR (2 ^ (wk + 1)) (2 ^ wk) M.sta.length : Nat)])))
    have g11 := hid_upd (H := H24) (o := .ins kl.Hunt dx (List.zip hkeys ([V.int num, V.int least, V.non, V.int (num + 101)] ++ [.ref lev] ++ [.ref D] ++ [.ref fl] ++ [.ref ep] ++ [.ref rp] ++ [.int (wk + 1 : Nat)] ++ [.int (gdR (2 ^ (wk + 1)) (2 ^ wk) M.sta.length : Nat)]))) mx
    generalize upd H24 x (.ins kl.Hunt dx (List.zip hkeys ([V.int num, V.int least, V.non, V.int (num + 101)] ++ [.ref lev] ++ [.ref D] ++ [.ref fl] ++ [.ref ep] ++ [.ref rp] ++ [.int (wk + 1 : Nat)] ++ [.int (gdR (2 ^ (wk + 1)) (2 ^ wk) M.sta.length : Nat)]))) = H25 at k11 g11 ⊢
    rw [← g11] at g24 st24
    clear g11 k24 u24 k10 hA hA' eg g21 st21 q23 s24
    -- seen
    refine fun sn hsn => ?_
    have nsn : sn ≠ x := fun e => by
      rw [e, k11] at hsn
      cases hsn
    have s26 := same_new (o := .dT []) hsn
    have e26 := upd_same (H := H25) (a := sn) (o := .dT [])
    have v26 := fun ys h => hid_upd (H := H25) (q := sn) (o := .dT []) (xs := ys) h
    generalize upd H25 sn (.dT []) = H26 at s26 e26 v26 ⊢
    have k26 := s26 _ _ k11
    refine ⟨_, rfl, x, kl.Hunt, dx, _, rfl, k26, T.cl_Hunt, T.n_Hunt_seen, Nat.le_of_ble_eq_true rfl, ?_⟩
    rw [putF_zip rfl hkeys_nd]
    have k12 := upd_same (H := H26) (a := x) (o := .ins kl.Hunt dx (List.zip hkeys ([V.int num, V.int least, V.non, V.int (num + 101)] ++ [.ref lev] ++ [.ref D] ++ [.ref fl] ++ [.ref ep] ++ [.ref rp] ++ [.int (wk + 1 : Nat)] ++ [.int (gdR (2 ^ (wk + 1)) (2 ^ wk) M.sta.length : Nat)] ++ [.ref sn])))
    have v12 := fun ys h => hid_upd (H := H26) (q := x) (o := .ins kl.Hunt dx (List.zip hkeys ([V.int num, V.int least, V.non, V.int (num + 101)] ++ [.ref lev] ++ [.ref D] ++ [.ref fl] ++ [.ref ep] ++ [.ref rp] ++ [.int (wk + 1 : Nat)] ++ [.int (gdR (2 ^ (wk + 1)) (2 ^ wk) M.sta.length : Nat)] ++ [.ref sn]))) (xs := ys) h
    have b12 : ∀ b, b ≠ x → (upd H26 x (.ins kl.Hunt dx (List.zip hkeys ([V.int num, V.int least, V.non, V.int (num + 101)] ++ [.ref lev] ++ [.ref D] ++ [.ref fl] ++ [.ref ep] ++ [.ref rp] ++ [.int (wk + 1 : Nat)] ++ [.int (gdR (2 ^ (wk + 1)) (2 ^ wk) M.sta.length : Nat)] ++ [.ref sn])))) b = H26 b := fun b n => upd_ne n
    generalize upd H26 x (.ins kl.Hunt dx (List.zip hkeys ([V.int num, V.int least, V.non, V.int (num + 101)] ++ [.ref lev] ++ [.ref D] ++ [.ref fl] ++ [.ref ep] ++ [.ref rp] ++ [.int (wk + 1 : Nat)] ++ [.int (gdR (2 ^ (wk + 1)) (2 ^ wk) M.sta.length : Nat)] ++ [.ref sn]))) = H27 at k12 v12 b12 ⊢
    have e27 := (b12 sn nsn).trans e26
    -- rivals
    refine fun rv H28 hrv hbut hBD => ?_
    have nrv : rv ≠ x := fun e => by
      rw [e, k12] at hrv
      cases hrv
    have nrs : rv ≠ sn := fun e => by
      rw [e, e27] at hrv
      cases hrv
    have k28 := (hbut x nrv.symm).trans k12
    have e28 := (hbut sn nrs.symm).trans e27
    refine ⟨_, rfl, x, kl.Hunt, dx, _, rfl, k28, T.cl_Hunt, T.n_Hunt_rivals, Nat.le_of_ble_eq_true rfl, ?_⟩
    rw [putF_zip rfl hkeys_nd]
    have k13 := upd_same (H := H28) (a := x) (o := .ins kl.Hunt dx (List.zip hkeys ([V.int num, V.int least, V.non, V.int (num + 101)] ++ [.ref lev] ++ [.ref D] ++ [.ref fl] ++ [.ref ep] ++ [.ref rp] ++ [.int (wk + 1 : Nat)] ++ [.int (gdR (2 ^ (wk + 1)) (2 ^ wk) M.sta.length : Nat)] ++ [.ref sn] ++ [.ref rv])))
    have v13 := fun ys h => hid_upd (H := H28) (q := x) (o := .ins kl.Hunt dx (List.zip hkeys ([V.int num, V.int least, V.non, V.int (num + 101)] ++ [.ref lev] ++ [.ref D] ++ [.ref fl] ++ [.ref ep] ++ [.ref rp] ++ [.int (wk + 1 : Nat)] ++ [.int (gdR (2 ^ (wk + 1)) (2 ^ wk) M.sta.length : Nat)] ++ [.ref sn] ++ [.ref rv]))) (xs := ys) h
    have b13 : ∀ b, b ≠ x → (upd H28 x (.ins kl.Hunt dx (List.zip hkeys ([V.int num, V.int least, V.non, V.int (num + 101)] ++ [.ref lev] ++ [.ref D] ++ [.ref fl] ++ [.ref ep] ++ [.ref rp] ++ [.int (wk + 1 : Nat)] ++ [.int (gdR (2 ^ (wk + 1)) (2 ^ wk) M.sta.length : Nat)] ++ [.ref sn] ++ [.ref rv])))) b = H28 b := fun b n => upd_ne n
    have z13 : ∀ b ys, H28 b = some (.tup ys) → (upd H28 x (.ins kl.Hunt dx (List.zip hkeys ([V.int num, V.int least, V.non, V.int (num + 101)] ++ [.ref lev] ++ [.ref D] ++ [.ref fl] ++ [.ref ep] ++ [.ref rp] ++ [.int (wk + 1 : Nat)] ++ [.int (gdR (2 ^ (wk + 1)) (2 ^ wk) M.sta.length : Nat)] ++ [.ref sn] ++ [.ref rv])))) b = some (.tup ys) := fun b ys h => tup_mut (fun zs z => by rw [k28] at z; cases z) h
    generalize upd H28 x (.ins kl.Hunt dx (List.zip hkeys ([V.int num, V.int least, V.non, V.int (num + 101)] ++ [.ref lev] ++ [.ref D] ++ [.ref fl] ++ [.ref ep] ++ [.ref rp] ++ [.int (wk + 1 : Nat)] ++ [.int (gdR (2 ^ (wk + 1)) (2 ^ wk) M.sta.length : Nat)] ++ [.ref sn] ++ [.ref rv]))) = H29 at k13 v13 b13 z13 ⊢
    have e29 := (b13 sn nsn).trans e28
    have hBD29 := hBD.keep (b13 rv nrv) z13
    -- the trail
    refine ⟨Nat.zero_le _, fun tr htr => ?_⟩
    have ntr : tr ≠ x := fun e => by
      rw [e, k13] at htr
      cases htr
    have nts : tr ≠ sn := fun e => by
      rw [e, e29] at htr
      cases htr
    have ntv : tr ≠ rv := fun e => by
      obtain ⟨_, ys, h1, _⟩ := hBD29
      rw [e, h1] at htr
      cases htr
    have s30 := same_new (o := .lst []) htr
    have e30 := upd_same (H := H29) (a := tr) (o := .lst [])
    have v30 := fun ys h => hid_upd (H := H29) (q := tr) (o := .lst []) (xs := ys) h
    have b30 : ∀ b, b ≠ tr → upd H29 tr (.lst []) b = H29 b := fun b n => upd_ne n
    generalize upd H29 tr (.lst []) = H30 at s30 e30 v30 b30 ⊢
    have k30 := s30 _ _ k13
    have hBD30 := hBD29.keep (b30 rv ntv.symm) (fun b ys h => s30 _ _ h)
    refine ⟨_, rfl, x, kl.Hunt, dx, _, rfl, k30, T.cl_Hunt, T.n_Hunt_trail, Nat.le_of_ble_eq_true rfl, ?_⟩
    rw [putF_zip rfl hkeys_nd]
    have ef : List.zip hkeys ([V.int num, V.int least, V.non, V.int (num + 101)] ++ [.ref lev] ++ [.ref D] ++ [.ref fl] ++ [.ref ep] ++ [.ref rp] ++ [.int (wk + 1 : Nat)] ++ [.int (gdR (2 ^ (wk + 1)) (2 ^ wk) M.sta.length : Nat)] ++ [.ref sn] ++ [.ref rv] ++ [.ref tr]) = hfs ⟨lev, D, fl, ep, rp, sn, rv, tr⟩ ⟨M.ars, M.sts, M.ens, M.sta, M.lets, rs, num⟩ least .non := by
      unfold hfs hvs HD.gd HD.wk
      simp only []
      rw [hwk]
      rfl
    rw [ef]
    have v31 := fun ys h => hid_upd (H := H30) (q := x) (o := .ins kl.Hunt dx (hfs ⟨lev, D, fl, ep, rp, sn, rv, tr⟩ ⟨M.ars, M.sts, M.ens, M.sta, M.lets, rs, num⟩ least .non)) (xs := ys) h
    have mm : ∀ y, y ∈ hdyn x ⟨lev, D, fl, ep, rp, sn, rv, tr⟩ ↔ y = x ∨ y = sn ∨ y = rv ∨ y = tr := fun y => by
      unfold hdyn
      simp
    have hall : hid (hdyn x ⟨lev, D, fl, ep, rp, sn, rv, tr⟩) (upd H30 x (.ins kl.Hunt dx (hfs ⟨lev, D, fl, ep, rp, sn, rv, tr⟩ ⟨M.ars, M.sts, M.ens, M.sta, M.lets, rs, num⟩ least .non))) = hid [x] H25 := by
      rw [v31 _ ((mm x).mpr (.inl rfl)), v30 _ ((mm tr).mpr (.inr (.inr (.inr rfl)))), v13 _ ((mm x).mpr (.inl rfl)), hid_but hbut ((mm rv).mpr (.inr (.inr (.inl rfl)))), v12 _ ((mm x).mpr (.inl rfl)), v26 _ ((mm sn).mpr (.inr (.inl rfl)))]
      refine hid_more (fun y hy => ?_) (fun y hy => (mm y).mpr (.inl (List.mem_singleton.mp hy)))
      rcases (mm y).mp hy with h | h | h | h
      · exact .inl (List.mem_singleton.mpr h)
      · rw [h]
        exact .inr hsn
      · rw [h]
        refine .inr (s26.free ?_)
        rw [← b12 rv nrv]
        exact hrv
      · rw [h]
        refine .inr (s26.free ?_)
        rw [← b12 tr ntr, ← hbut tr ntv, ← b13 tr ntr]
        exact htr
    refine k ⟨lev, D, fl, ep, rp, sn, rv, tr⟩ rs _ hR rl ⟨upd_same, ?_, ?_, ?_, ?_⟩ ?_
    · rw [upd_ne nsn, b30 sn nts.symm]
      exact e29
    · exact hBD30.keep (upd_ne nrv) fun b ys h => tup_mut (fun zs z => by rw [k30] at z; cases z) h
    · rw [upd_ne ntr]
      exact e30
    · rw [hall]
      exact ⟨st24.lev, st24.ls, st24.fl, st24.ep, st24.rp⟩
    · rw [hall]
      exact g24
end
end Pf
namespace Pf
open PySem PySem.Spec PyProof.Rows L2 Bz
local macro_rules | `(tactic| walk_at "sd") => `(tactic| first
  | rfl | assumption | omega | exact Nat.le_of_ble_eq_true rfl | decide | (refine Or.inl (And.intro ?_ ?_) <;> omega) | (refine Or.inr (And.intro ?_ ?_) <;> omega) | (refine And.intro ?_ ?_ <;> omega) | (refine ⟨?_, ?_, ?_⟩ <;> omega))
local macro_rules | `(tactic| walk_at "sq") => `(tactic| first | assumption | exact SqL.of (by assumption) | exact SqT.of (by assumption) | exact SqL.of upd_same | exact SqT.of upd_same)
local macro_rules | `(tactic| walk_at "hp") => `(tactic| first | assumption | exact upd_same)
local macro_rules | `(tactic| walk_at "rd") => `(tactic| repeat (first
  | (refine ⟨_, rfl, ?_⟩) | (refine ⟨_, _, rfl, rfl, ?_⟩) | (refine ⟨rfl, ?_⟩) | (refine And.intro (by walk_at "sd") ?_)
  | (refine ⟨_, _, _, _, rfl, rfl, (by walk_at "sq"), rfl, ?_⟩)
  | (refine ⟨_, _, _, _, rfl, rfl, (by walk_at "hp"), rfl, ?_⟩)
  | (refine Or.inl ⟨_, rfl, ?_⟩)))
section
variable {P : Program} {w : World} {K : PySem.W.Frag} {mg : PySem.Str → Option Value} {base : Heap} {kl : Cl}
theorem mt_Hunt_is_nowhere_less (T : Facts K mg kl) : KeepsM P w K mg base CX0 kl.Hunt 1 "is_nowhere_less" ["self", "bits", "other"] (spLess kl.Hunt) := by
  refine keepsM0 T.m_Hunt_is_nowhere_less sc_Hunt_is_nowhere_less (fun vs H Q E h => ?_) (fun f cdv A outer s H vs Q E hr h => ?_)
  · obtain ⟨x, dx, h, d, gp, dr, a, b, rfl, _⟩ := h
    rfl
  · obtain ⟨x, dx, h, d, gp, dr, a, b, rfl, hx, k⟩ := h
    refine ⟨_, (pss_one (ps_ret (pe_cmpR op_eq (pe_op op_and (pe_op op_sub (pe_op op_or (pv 1) (pe_fld (pv 0) rfl)) (pv 2)) (pe_fld (pv 0) rfl)) (pe_fld (pv 0) rfl) (nomark _)))), ?_⟩
    refine ⟨_, rfl, _, rfl, x, kl.Hunt, dx, _, _, rfl, hx, T.cl_Hunt, T.n_Hunt_guards, look_zip 10 rfl rfl hkeys_nd, _, _, rfl, rfl, _, rfl, _, _, rfl, rfl, ?_⟩
    refine ⟨_, rfl, x, kl.Hunt, dx, _, _, rfl, hx, T.cl_Hunt, T.n_Hunt_guards, look_zip 10 rfl rfl hkeys_nd, _, _, rfl, rfl, ?_⟩
    refine ⟨_, rfl, x, kl.Hunt, dx, _, _, rfl, hx, T.cl_Hunt, T.n_Hunt_guards, look_zip 10 rfl rfl hkeys_nd, rfl, ?_⟩
    show Q (.bl (decide (V.int _ = V.int _))) H
    rw [dec_int]
    exact k
theorem mt_Hunt_may_lead_higher (T : Facts K mg kl) : KeepsM P w K mg base CX0 kl.Hunt 1 "may_lead_higher" ["self", "levels"] (spMay kl.Hunt) := by
  refine keepsM0 T.m_Hunt_may_lead_higher sc_Hunt_may_lead_higher (fun vs H Q E h => ?_) (fun f cdv A outer s H vs Q E hr h => ?_)
  · obtain ⟨x, dx, t, h, d, gp, dr, f, rfl, _⟩ := h
    rfl
  · obtain ⟨x, dx, t, h, d, gp, dr, g, rfl, hx, hS, hR, hl, ht, k⟩ := h
    refine ⟨_, (pss_one (ps_ret (pe_callB (kall1 K rfl) (by rfl) T.b_all (by decide +kernel) (pa_cons (pe_lc (own := [("place", 2)]) (g := gName 2) (tt := tYes) rfl sc_Hunt_may_lead_higher.nd (kpi_list K (pe_fld (pv 0) rfl)) (blkOk_by (own := [("place", 2)]) (N := N_Hunt_may_lead_higher) (sc := defScope s_Hunt_may_lead_higher) (by decide +kernel)) (fun _ _ _ _ _ => (pg_name (i := 2) sc_Hunt_may_lead_higher.nd rfl (Or.inl rfl))) (fun _ _ _ _ _ => pts_nil) (fun _ _ _ _ _ => (pe_cmpR op_gt (pe_ix (kix_tup K) (pv 1) (pv 2) (fun _ _ => rfl)) (kpe_fld K (pv 0)) (nomark _)))) pa_nil)))), ?_⟩
    refine ⟨_, rfl, x, kl.Hunt, dx, _, _, rfl, hx, T.cl_Hunt, T.n_Hunt_resting_places, look_zip 8 rfl rfl hkeys_nd, h.rp, rfl, ⟨_, SqL.of hS.rp⟩, fun D hD => lcA walk_list (fun i acc H' => acc = ((d.R.take i).map fun r => decide (gp < capL d.num (g r))).map V.bl ∧ Same H H') ⟨rfl, .refl _⟩ (fun i acc H' o h => ⟨h.1, same_mut h.2 hD⟩) (fun i acc H' _ h => SqL.of (h.2 _ _ hS.rp)) ?_ ?_⟩
    · rintro i v acc _ H1 hi ⟨rfl, s1⟩ hA hl1 ⟨rfl, hv⟩
      refine ⟨rfl, ?_⟩
      rw [List.getElem?_map] at hv
      obtain ⟨r, hr', rfl⟩ := Option.map_eq_some_iff.mp hv
      rw [List.length_map] at hi
      have rq := hR r (List.mem_of_getElem? hr')
      have tk : d.R.take (i + 1) = d.R.take i ++ [r] := by rw [List.take_add_one, hr']; rfl
      refine ⟨_, rfl, _, rfl, t, _, _, _, rfl, rfl, SqT.of (s1 _ _ ht), lv_at rq, ?_⟩
      refine ⟨_, rfl, x, kl.Hunt, dx, _, _, rfl, s1 _ _ hx, T.cl_Hunt, T.n_Hunt_greatest_price, look_zip 1 rfl rfl hkeys_nd, _, _, rfl, rfl, ?_⟩
      refine LcP.put (fun i acc H' o h => ⟨h.1, same_mut h.2 hD⟩) hA hl1 (by omega) ⟨?_, s1⟩
      rw [tk, List.map_append, List.map_append]
      rfl
    · rintro acc H1 ⟨rfl, s1⟩ hA _
      rw [List.length_map, List.take_length] at hA
      refine ⟨D, _, rfl, SqL.of hA, ?_⟩
      rw [List.all_map]
      exact k H1 s1
theorem mt_Hunt_levels_behind (T : Facts K mg kl) : KeepsM P w K mg base CX0 kl.Hunt 1 "levels_behind" ["self", "levels", "sources"] (spLvB kl.Hunt) := by
  refine keepsM0 T.m_Hunt_levels_behind sc_Hunt_levels_behind (fun vs H Q E h => ?_) (fun f cdv A outer s H vs Q E hr h => ?_)
  · obtain ⟨x, dx, t, s, h, d, gp, dr, f, l, rfl, _⟩ := h
    rfl
  · obtain ⟨x, dx, t, sr, h, d, gp, dr, g, l, rfl, hx, hS, hO, h0, ht, hL, k⟩ := h
    refine ⟨_, (pss_one (ps_ret (pe_callTy (ktuple_of K) (by rfl) T.b_tuple (by decide +kernel) (pa_cons (pe_lc (own := [("ways", 3)]) (g := gName 3) (tt := tYes) rfl sc_Hunt_levels_behind.nd (kpi_list K (pv 2)) (blkOk_by (own := [("ways", 3)]) (N := N_Hunt_levels_behind) (sc := defScope s_Hunt_levels_behind) (by decide +kernel)) (fun _ _ _ _ _ => (pg_name (i := 3) sc_Hunt_levels_behind.nd rfl (Or.inl rfl))) (fun _ _ _ _ _ => pts_nil) (fun _ _ _ _ _ => (pe_ix (kix_list K) (kpe_fld K (pv 0)) (pe_minDI K rfl hr.units (by rfl) T.b_min (pe_lc (own := [("place", 4), ("cost", 5)]) (g := gTup K 2 (gCons (gName 4) (gCons (gName 5) (gNil)))) (tt := tYes) rfl sc_Hunt_levels_behind.nd (kpi_list K (pv 3)) (blkOk_by (own := [("place", 4), ("cost", 5)]) (N := N_Hunt_levels_behind) (by rfl)) (fun _ _ _ _ _ => (kpg_tup K rfl (pgs_cons (pg_name (i := 4) sc_Hunt_levels_behind.nd rfl (Or.inl rfl)) (pgs_cons (pg_name (i := 5) sc_Hunt_levels_behind.nd rfl (Or.inl rfl)) pgs_nil)))) (fun _ _ _ _ _ => pts_nil) (fun _ _ _ _ _ => (pe_op op_add (pe_ix (kix_tup K) (pv 1) (pv 4) (fun _ _ => rfl)) (pv 5)))) (kpe_fld K (pv 0))) (fun _ _ => rfl)))) pa_nil)))), ?_⟩
    obtain ⟨as, hs, hP⟩ := hL
    have al : as.length = d.Q.length := by
      have := Paired.length hP
      unfold waysOf at this
      rwa [List.length_map] at this
    have lQ := hO.lQ
    refine ⟨_, rfl, sr, rfl, ⟨_, SqL.of hs⟩, fun D hD => lcA walk_list (fun i acc H' => acc = ((d.Q.take i).map fun q => capL d.num (nextF d.A l g q)).map V.int ∧ Same H H') ⟨rfl, .refl _⟩ (fun i acc H' o h => ⟨h.1, same_mut h.2 hD⟩) (fun i acc H' _ h => SqL.of (h.2 _ _ hs)) ?_ ?_⟩
    · rintro i v acc _ H1 hi ⟨rfl, s1⟩ hA hl1 ⟨rfl, hv⟩
      rw [List.length_map, al] at hi
      rw [List.getElem?_map] at hv
      obtain ⟨a, ha, rfl⟩ := Option.map_eq_some_iff.mp hv
      obtain ⟨ww, hw, vs, hvs, hW⟩ := paired_get hP ha
      unfold waysOf at hw
      rw [List.getElem?_map] at hw
      obtain ⟨q, hq, rfl⟩ := Option.map_eq_some_iff.mp hw
      have tk : d.Q.take (i + 1) = d.Q.take i ++ [q] := by rw [List.take_add_one, hq]; rfl
      refine ⟨rfl, ?_⟩
      have vl : vs.length ≤ 400 := by
        rw [Paired.length hW]
        unfold waysTo
        rw [List.length_map]
        exact Nat.le_trans (List.length_filter_le ..) hO.al
      refine ⟨_, rfl, x, kl.Hunt, dx, _, _, rfl, s1 _ _ hx, T.cl_Hunt, T.n_Hunt_levels, look_zip 4 rfl rfl hkeys_nd, ?_⟩
      refine ⟨_, rfl, a, rfl, ⟨_, SqL.of (s1 _ _ hvs)⟩, fun D2 hD2 => lcA walk_list (fun j acc H' => acc = (((waysTo d.A d.Q l q).take j).map fun p => ((LvOf d.Q d.num g)[p.1]?.getD 0) + p.2).map V.int ∧ Same H1 H') ⟨rfl, .refl _⟩ (fun i acc H' o h => ⟨h.1, same_mut h.2 hD2⟩) (fun i acc H' _ h => SqL.of ((s1.trans h.2) _ _ hvs)) ?_ ?_⟩
      · rintro j v acc _ H2 hj ⟨rfl, s2⟩ hA2 hl2 ⟨rfl, hv⟩
        obtain ⟨p, hp, r, rfl, hr'⟩ := paired_get hW hv
        have pm := List.mem_of_getElem? hp
        unfold waysTo at pm
        obtain ⟨y, hy, rfl⟩ := List.mem_map.mp pm
        have yQ := (hO.aQ y (List.mem_filter.mp hy).1).1
        have eL : (LvOf d.Q d.num g)[d.Q.idxOf y.s]?.getD 0 = capL d.num (g y.s) := by
          unfold LvOf
          rw [List.getElem?_map, idx_get yQ]
          rfl
        have tk2 : (waysTo d.A d.Q l q).take (j + 1) = (waysTo d.A d.Q l q).take j ++ [(d.Q.idxOf y.s, y.c)] := by rw [List.take_add_one, hp]; rfl
        have S2 := s1.trans s2
        refine ⟨r, _, rfl, SqT.of (S2 _ _ hr'), rfl, _, _, rfl, _, _, rfl, rfl, rfl, ?_⟩
        refine ⟨_, rfl, _, rfl, t, _, _, _, rfl, rfl, SqT.of (S2 _ _ ht), lv_at yQ, _, rfl, _, _, rfl, rfl, ?_⟩
        refine LcP.put (fun i acc H' o h => ⟨h.1, same_mut h.2 hD2⟩) hA2 hl2 (by omega) ⟨?_, s2⟩
        rw [tk2, List.map_append, List.map_append]
        show _ ++ [V.int (capL d.num (g y.s) + y.c)] = _ ++ [V.int ((LvOf d.Q d.num g)[d.Q.idxOf y.s]?.getD 0 + y.c)]
        rw [eL]
      · rintro acc H2 ⟨rfl, s2⟩ hA2 _
        have vw := Paired.length hW
        rw [vw, List.take_length] at hA2
        have S2 := s1.trans s2
        refine ⟨_, rfl, x, kl.Hunt, dx, _, _, rfl, S2 _ _ hx, T.cl_Hunt, T.n_Hunt_nothing, look_zip 3 rfl rfl hkeys_nd, rfl, D2, _, rfl, SqL.of hA2, fun z hz => ?_⟩
        obtain ⟨mn, rfl, hmn⟩ : ∃ mn : Int, z = .int mn ∧ ((((waysTo d.A d.Q l q).map fun p => ((LvOf d.Q d.num g)[p.1]?.getD 0) + p.2) = [] ∧ mn = d.num + 101) ∨ (mn ∈ ((waysTo d.A d.Q l q).map fun p => ((LvOf d.Q d.num g)[p.1]?.getD 0) + p.2) ∧ ∀ n ∈ ((waysTo d.A d.Q l q).map fun p => ((LvOf d.Q d.num g)[p.1]?.getD 0) + p.2), mn ≤ n)) := by
          rcases hz with ⟨h1, rfl⟩ | ⟨mn, rfl, h1, h2⟩
          · exact ⟨_, rfl, .inl ⟨h1, rfl⟩⟩
          · exact ⟨mn, rfl, .inr ⟨h1, h2⟩⟩
        obtain ⟨e1, e2, e3⟩ := next_level hO.ca rfl (fun x hx => (hO.aQ x hx).1) h0 hmn hO.n1
        refine ⟨h.lev, _, _, _, rfl, rfl, SqL.of (S2 _ _ hS.lev), atI_map (levL_at hO.n1 e2 e3), ?_⟩
        have hA' := s2 _ _ hA
        refine LcP.put (fun i acc H' o h => ⟨h.1, same_mut h.2 hD⟩) hA' hl1 (by omega) ⟨?_, s1.trans s2⟩
        rw [tk, List.map_append, List.map_append, e1]
        rfl
    · rintro acc H1 ⟨rfl, s1⟩ hA _
      rw [List.length_map, al, List.take_length] at hA
      refine ⟨D, _, rfl, .inl ⟨SqL.of hA, fun t' ht' => ?_⟩⟩
      exact k t' _ upd_same (s1.trans (same_new ht'))
theorem mt_Hunt_row_to (T : Facts K mg kl) : KeepsM P w K mg base CX0 kl.Hunt 1 "row_to" ["self", "front", "letter"] (spRowTo kl.Hunt) := by
  refine keepsM0 T.m_Hunt_row_to sc_Hunt_row_to (fun vs H Q E h => ?_) (fun f cdv A outer s H vs Q E hr h => ?_)
  · obtain ⟨x, dx, h, d, gp, dr, fr, l, G, us, T', u, rfl, _⟩ := h
    rfl
  · obtain ⟨x, dx, h, d, gp, dr, fr, l, G, us, TT, u, rfl, hx, htr, hG, hT, hF, hu, hl, k⟩ := h
    refine ⟨_, (pss_cons (ps_set (i := 3) sc_Hunt_row_to.nd rfl (Or.inl rfl) (pe_lst (pa_cons (pv 2) pa_nil)))
  (pss_cons (ps_while PassesOwn.never (pt_cmpR op_notN (pv 1) pe_non (nomark _))
  (pss_cons (ps_asg (pe_ix (kix_list K) (pe_fld (pv 0) rfl) (pv 1) (fun _ _ => rfl)) (kpg_tup K rfl (pgs_cons (pg_name (i := 4) sc_Hunt_row_to.nd rfl (Or.inl rfl)) (pgs_cons (pg_name (i := 1) sc_Hunt_row_to.nd rfl (Or.inl rfl)) (pgs_cons (pg_name (i := 2) sc_Hunt_row_to.nd rfl (Or.inl rfl)) pgs_nil)))))
  (pss_one (ps_expr (kbm K PySem.F.plainAttrs_list PySem.F.slot_list_append PySem.F.type_list_append mt_append (pv 3) (pa_cons (pv 2) pa_nil))))))
  (pss_one (ps_ret (kjoin K pe_str (kpe_revL K (pv 3))))))), ?_⟩
    refine ⟨_, rfl, Nat.le_of_ble_eq_true rfl, fun sg hsg => ?_⟩
    have s1 := same_new (o := .lst [V.str l]) hsg
    have e1 := upd_same (H := H) (a := sg) (o := .lst [V.str l])
    generalize upd H sg (.lst [V.str l]) = H1 at s1 e1 ⊢
    refine ⟨fun mm σ' H' => ∃ (fr : V) (l : PySem.Str) (v4 : Option V) (p rest : List PySem.Str), σ' = [some (.ref x), some fr, some (.str l), some (.ref sg), v4] ∧ H' sg = some (.lst ((l :: rest).reverse.map V.str)) ∧ u = p ++ rest ∧ FrOk TT p fr l ∧ Same H H' ∧ mm = p.length, ⟨u.length, fr, l, _, u, [], rfl, e1, by rw [List.append_nil], hF, s1, rfl⟩, ?_⟩
    rintro mm σ' H2 ⟨fr, l, v4, p, rest, rfl, h2, eu, hk, s2, rfl⟩
    refine ⟨_, rfl, ?_⟩
    have rl : rest.length ≤ 100000 := by
      rw [eu, List.length_append] at hl
      omega
    have pl : p.length + rest.length ≤ 100000 := by
      rw [eu, List.length_append] at hl
      exact hl
    rcases hk with ⟨rfl, rfl, rfl⟩ | ⟨j, v, hj, rfl, rfl⟩
    · refine ⟨rfl, _, rfl, iteF ?_⟩
      rw [List.nil_append] at eu
      subst eu
      refine ⟨⟨_, rfl⟩, _, rfl, sg, _, rfl, SqL.of h2, fun q hq => ?_⟩
      have er : (((("" : PySem.Str) :: u).reverse.map V.str).reverse) = (("" : PySem.Str) :: u).map V.str := by
        rw [List.map_reverse, List.reverse_reverse]
      refine ⟨"", q, (("" : PySem.Str) :: u), rfl, rfl, .inl (SqL.of (by rw [← er]; exact upd_same)), ?_, ?_⟩
      · rw [join_small hu]
        have : (("" : PySem.Str)).length = 0 := rfl
        rw [this]
        omega
      · exact k _ _ (sgn_join hu) (s2.trans (same_new hq))
    · refine ⟨rfl, _, rfl, iteT ?_⟩
      rw [List.length_append, List.length_singleton]
      refine ⟨fun σ' H' => ∃ (fr : V) (l : PySem.Str) (v4 : Option V) (p rest : List PySem.Str), σ' = [some (.ref x), some fr, some (.str l), some (.ref sg), v4] ∧ H' sg = some (.lst ((l :: rest).reverse.map V.str)) ∧ u = p ++ rest ∧ FrOk TT p fr l ∧ Same H H' ∧ p.length < v.length + 1, fun σ' H' ⟨fr, l, v4, p, rest, a1, a2, a3, a4, a5, a6⟩ => ⟨p.length, a6, fr, l, v4, p, rest, a1, a2, a3, a4, a5, rfl⟩, ?_⟩
      have jl : j < us.length := by
        rw [hT.len]
        exact (List.getElem?_eq_some_iff.mp hj).1
      obtain ⟨w, hw⟩ : ∃ w, us[j]? = some w := ⟨_, List.getElem?_eq_getElem jl⟩
      obtain ⟨r, t, f2, fr2, l2, rfl, hr2, ht2, hf2, hk2⟩ := hT.at_ j w v hw hj
      refine ⟨_, rfl, x, kl.Hunt, dx, _, _, rfl, s2 _ _ hx, T.cl_Hunt, T.n_Hunt_trail, look_zip 13 rfl rfl hkeys_nd, _, rfl, h.tr, _, _, _, rfl, rfl, SqL.of (s2 _ _ htr), atI_nat hw, ?_⟩
      refine ⟨r, _, rfl, SqT.of (s2 _ _ (hG _ _ hr2)), rfl, _, _, rfl, _, _, rfl, _, _, rfl, rfl, ?_⟩
      refine ⟨_, rfl, .inl ⟨rfl, _, SqL.of h2⟩, _, rfl, sg, _, _, rfl, rfl, h2, Nat.lt_of_le_of_lt (show _ ≤ 200000 by rw [List.length_map, List.length_reverse, List.length_cons]; omega) (by decide), ?_⟩
      refine ⟨fr2, l2, _, v, l :: rest, rfl, ?_, ?_, hk2, same_mut s2 hsg, by omega⟩
      · rw [upd_same, List.reverse_cons (a := l2), List.map_append]
        rfl
      · rw [eu, List.append_assoc]
        rfl
end
end Pf
namespace Pf
open PySem PySem.Spec PyProof.Rows L2 Bz
local macro_rules | `(tactic| walk_at "sd") => `(tactic| first
  | rfl | assumption | omega | exact Nat.le_of_ble_eq_true rfl | decide | (refine Or.inl (And.intro ?_ ?_) <;> omega) | (refine Or.inr (And.intro ?_ ?_) <;> omega) | (refine And.intro ?_ ?_ <;> omega) | (refine ⟨?_, ?_, ?_⟩ <;> omega))
local macro_rules | `(tactic| walk_at "sq") => `(tactic| first | assumption | exact SqL.of (by assumption) | exact SqT.of (by assumption) | exact SqL.of upd_same | exact SqT.of upd_same)
local macro_rules | `(tactic| walk_at "hp") => `(tactic| first | assumption | exact upd_same)
local macro_rules | `(tactic| walk_at "rd") => `(tactic| repeat (first
  | (refine ⟨_, rfl, ?_⟩) | (refine ⟨_, _, rfl, rfl, ?_⟩) | (refine ⟨rfl, ?_⟩) | (refine And.intro (by walk_at "sd") ?_)
  | (refine ⟨_, _, _, _, rfl, rfl, (by walk_at "sq"), rfl, ?_⟩)
  | (refine ⟨_, _, _, _, rfl, rfl, (by walk_at "hp"), rfl, ?_⟩)
  | (refine Or.inl ⟨_, rfl, ?_⟩)))
section
variable {P : Program} {w : World} {K : PySem.W.Frag} {mg : PySem.Str → Option Value} {base : Heap} {kl : Cl}
theorem mt_Hunt_outdo (T : Facts K mg kl) : KeepsM P w K mg base CX0 kl.Hunt 3 "outdo" ["self", "levels"] (spOutdo P w kl.Hunt) := by
  refine keepsM0 T.m_Hunt_outdo sc_Hunt_outdo (fun vs H Q E h => ?_) (fun f cdv A outer s H vs Q E hr h => ?_)
  · obtain ⟨x, dx, t, h, d, gp, dr, Sn, kvs, us, u, f, O, rfl, _⟩ := h
    rfl
  · obtain ⟨x, dx, t, h, d, gp, dr, Sn, kvs, us, u, g, O, rfl, hA0, hO, hR, kl4, ht, hu, hn, k⟩ := h
    refine ⟨_, (pss_cons (ps_set (i := 3) sc_Hunt_outdo.nd rfl (Or.inl rfl) (pe_callTy (ktuple_of K) (by rfl) T.b_tuple (by decide +kernel) (pa_cons (pe_lc (own := [("level", 2)]) (g := gName 2) (tt := tYes) rfl sc_Hunt_outdo.nd (kpi_tup K (pv 1)) (blkOk_by (own := [("level", 2)]) (N := N_Hunt_outdo) (sc := defScope s_Hunt_outdo) (by decide +kernel)) (fun _ _ _ _ _ => (pg_name (i := 2) sc_Hunt_outdo.nd rfl (Or.inl rfl))) (fun _ _ _ _ _ => pts_nil) (fun _ _ _ _ _ => (pe_cmpR op_eq (pv 2) (kpe_fld K (pv 0)) (nomark _)))) pa_nil)))
  (pss_cons (ps_set (i := 4) sc_Hunt_outdo.nd rfl (Or.inr rfl) pe_int)
  (pss_cons (ps_for PassesOwn.never rfl (kpi_tup K (pv 1)) (pg_name (i := 2) sc_Hunt_outdo.nd rfl (Or.inl rfl))
  (pss_one (ps_set (i := 4) sc_Hunt_outdo.nd rfl (Or.inr rfl) (pe_op op_add (pe_op op_shl (pv 4) (pe_fld (pv 0) rfl)) (pv 2)))))
  (pss_cons (ps_set (i := 5) sc_Hunt_outdo.nd rfl (Or.inl rfl) (pe_dgetB (hu_of hr) (pe_fld (pv 0) rfl) (pv 3) (pe_lst pa_nil) ⟨rfl, rfl, rfl, rfl⟩))
  (pss_cons (ps_for PassesOwn.never rfl (kpi_list K (pv 5)) (pg_name (i := 6) sc_Hunt_outdo.nd rfl (Or.inl rfl))
  (pss_one (ps_if (pt_val (pe_mt (E := E0) T.cl_Hunt (mt_Hunt_is_nowhere_less T) hr pass00 (pv 0) (pa_cons (pv 6) (pa_cons (pv 4) pa_nil))))
  (pss_one (ps_ret pe_bl))
  pss_nil)))
  (pss_cons (ps_setLc (i := 7) (own := [("rival", 6)]) (g := gName 6) rfl sc_Hunt_outdo.nd rfl rfl (sw_true rfl rfl rfl (by decide +kernel)) (kpi_list K (pv 5)) (blkOk_by (own := [("rival", 6)]) (N := N_Hunt_outdo) (sc := defScope s_Hunt_outdo) (by decide +kernel)) (fun _ _ _ _ _ => (pg_name (i := 6) sc_Hunt_outdo.nd rfl (Or.inl rfl))) (fun _ _ _ _ _ => pts_one (pt_not (pt_val (pe_mt (E := E0) T.cl_Hunt (mt_Hunt_is_nowhere_less T) hr pass00 (pv 0) (pa_cons (pv 4) (pa_cons (pv 6) pa_nil)))))) (fun _ _ _ _ _ => (pv 6)))
  (pss_cons (ps_dputB (hu_of hr) (pe_fld (pv 0) rfl) (pv 3) (pe_lst (kpa_star K (pe_slice (ksl_list K) (pv 7) (po_some (pe_un un_neg (pe_cst T.c_MOST_RIVALS))) po_none) (pa_cons (pv 4) pa_nil))) rfl)
  (pss_one (ps_ret pe_bl))))))))), ?_⟩
    have lQ := hO.lQ
    have Lvl : (LvOf d.Q d.num g).length = d.Q.length := by
      unfold LvOf
      rw [List.length_map]
    -- the states without a price
    refine ⟨_, rfl, t, rfl, ⟨_, SqT.of ht⟩, fun D hD => lcA walk_tup (fun i acc H' => acc = (((LvOf d.Q d.num g).take i).map fun v => decide (v = d.num + 101)).map V.bl ∧ Same H H') ⟨rfl, .refl _⟩ (fun i acc H' o h => ⟨h.1, same_mut h.2 hD⟩) (fun i acc H' _ h => SqT.of (h.2 _ _ ht)) ?_ ?_⟩
    · rintro i v acc _ H1 hi ⟨rfl, s1⟩ hA hl1 ⟨rfl, hv⟩
      rw [List.getElem?_map] at hv
      obtain ⟨z, hz, rfl⟩ := Option.map_eq_some_iff.mp hv
      rw [List.length_map, Lvl] at hi
      have tk : (LvOf d.Q d.num g).take (i + 1) = (LvOf d.Q d.num g).take i ++ [z] := by rw [List.take_add_one, hz]; rfl
      refine ⟨rfl, _, rfl, _, rfl, x, kl.Hunt, dx, _, _, rfl, s1 _ _ hA0.ins, T.cl_Hunt, T.n_Hunt_nothing, look_zip 3 rfl rfl hkeys_nd, rfl, ?_⟩
      refine LcP.put (fun i acc H' o h => ⟨h.1, same_mut h.2 hD⟩) hA hl1 (by omega) ⟨?_, s1⟩
      rw [tk, List.map_append, List.map_append]
      show _ ++ [V.bl (decide (V.int z = V.int (d.num + 101)))] = _
      rw [dec_int]
      rfl
    rintro acc H1 ⟨rfl, s1⟩ hA _
    rw [List.length_map, Lvl, show d.Q.length = (LvOf d.Q d.num g).length from Lvl.symm, List.take_length] at hA
    refine ⟨D, _, rfl, .inl ⟨SqL.of hA, fun st hst => ?_⟩⟩
    have s2 := same_new (o := .tup (((LvOf d.Q d.num g).map fun v => decide (v = d.num + 101)).map V.bl)) hst
    have e2 := upd_same (H := H1) (a := st) (o := .tup (((LvOf d.Q d.num g).map fun v => decide (v = d.num + 101)).map V.bl))
    generalize upd H1 st (.tup (((LvOf d.Q d.num g).map fun v => decide (v = d.num + 101)).map V.bl)) = H2 at s2 e2 ⊢
    have e2 : H2 st = some (.tup ((patt d g).map V.bl)) := e2
    have S2 := s1.trans s2
    -- side by side, in bits
    have nlen := natL_len (d := d) (f := g)
    have nlt := natL_lt hO.n1 hn
    have wk9 : d.wk ≤ 9 := intBits_le_iff.mpr (by have := hO.n1; have := hO.n2; omega)
    have nv : (LvOf d.Q d.num g).map V.int = (natL d g).map fun n => V.int (n : Nat) := by
      unfold natL
      rw [List.map_map]
      refine List.map_congr_left fun v hv => ?_
      unfold LvOf at hv
      obtain ⟨q, _, rfl⟩ := List.mem_map.mp hv
      have := (capL_bd hO.n1 (o := g q) (fun b hb => hn q b hb)).1
      show V.int _ = V.int _
      rw [Int.toNat_of_nonneg this]
    rw [nv] at ht
    refine ⟨_, rfl, t, rfl, ⟨_, SqT.of (S2 _ _ ht)⟩, ?_⟩
    refine for_tup (K := K) (a := t) (xs := (natL d g).map fun n => V.int (n : Nat)) (fun i σ H' => H' = H2 ∧ ∃ v2 v5 v6 v7 : Option V, σ = [some (.ref x), some (.ref t), v2, some (.ref st), some (.int (pkR (2 ^ (d.wk + 1)) ((natL d g).take i).reverse : Nat)), v5, v6, v7]) ?_ (fun i σ H' _ ⟨e, _⟩ => by rw [e]; exact SqT.of (S2 _ _ ht)) ?_ ?_
    · exact ⟨rfl, _, _, _, _, rfl⟩
    · rintro i v σ H3 hi ⟨rfl, v2, v5, v6, v7, rfl⟩
      rw [List.getElem?_map] at hi
      obtain ⟨n, hn', rfl⟩ := Option.map_eq_some_iff.mp hi
      have il : i < d.Q.length := by
        rw [← nlen]
        exact (List.getElem?_eq_some_iff.mp hn').1
      have tk : (natL d g).take (i + 1) = (natL d g).take i ++ [n] := by rw [List.take_add_one, hn']; rfl
      have hb : pkR (2 ^ (d.wk + 1)) ((natL d g).take i).reverse < 2 ^ 64 := by
        have h1 := pkR_lt (B := 2 ^ (d.wk + 1)) ((natL d g).take i).reverse fun l hl => Nat.lt_trans (nlt l (List.mem_of_mem_take (List.mem_reverse.mp hl))) (Nat.pow_lt_pow_right (by decide) (by omega))
        rw [List.length_reverse, List.length_take, nlen, ← Nat.pow_mul] at h1
        refine Nat.lt_of_lt_of_le h1 (Nat.pow_le_pow_right (by decide) ?_)
        have : (d.wk + 1) * min i d.Q.length ≤ 10 * 3 := Nat.mul_le_mul (by omega) (by omega)
        omega
      refine ⟨_, rfl, _, rfl, x, kl.Hunt, dx, _, _, rfl, S2 _ _ hA0.ins, T.cl_Hunt, T.n_Hunt_width, look_zip 9 rfl rfl hkeys_nd, _, _, rfl, rfl, ⟨by omega, by omega, by omega⟩, _, rfl, _, _, rfl, rfl, ?_⟩
      refine ⟨rfl, some (.int (n : Nat)), v5, v6, v7, ?_⟩
      have ek := pk_step (pkR (2 ^ (d.wk + 1)) ((natL d g).take i).reverse) n (d.wk + 1)
      rw [← pk_take hn'] at ek
      rw [← ek]
      rfl
    · rintro σ H3 ⟨rfl, v2, v5, v6, v7, rfl⟩
      rw [List.length_map, List.take_length]
      have ep : pkR (2 ^ (d.wk + 1)) (natL d g).reverse = packN d g := rfl
      rw [ep]
      -- the rivals
      refine ⟨_, rfl, x, kl.Hunt, dx, _, _, rfl, S2 _ _ hA0.ins, T.cl_Hunt, T.n_Hunt_rivals, look_zip 12 rfl rfl hkeys_nd, ?_⟩
      have hA2 := hA0.same S2
      refine ⟨h.rv, kvs, rfl, hA2.rv, _, rfl, Nat.zero_le _, fun nl hnl => ?_⟩
      have s3 := same_new (o := .lst []) hnl
      have e3 := upd_same (H := H3) (a := nl) (o := .lst [])
      generalize upd H3 nl (.lst []) = H4 at s3 e3 ⊢
      have S3 := S2.trans s3
      have hA3 := hA0.same S3
      have f2 := s3 _ _ e2
      refine ⟨st, patt d g, kvs, hA3.rv, rfl, f2, ?_⟩
      obtain ⟨l, bs, el, hl, bl, hbs⟩ : ∃ (l : Addr) (bs : List Int), (valV kvs (patt d g)).getD (.ref nl) = .ref l ∧ H4 l = some (.lst (bs.map V.int)) ∧ bs.length ≤ 40 ∧ ∀ b ∈ bs, ∃ y g', O y ∧ Lst d.A d.S y g' ∧ NN g' ∧ b = (packN d g' : Nat) ∧ patt d g = patt d g' := by
        cases hv : valV kvs (patt d g) with
        | none => exact ⟨nl, [], rfl, e3, Nat.zero_le _, fun b hb => by cases hb⟩
        | some v =>
          obtain ⟨l, bs, rfl, h2, h3, h4⟩ := hR _ _ hv
          exact ⟨l, bs, rfl, S3 _ _ (hid_sub _ _ h2), h3, h4⟩
      rw [el]
      refine ⟨_, rfl, l, rfl, ⟨_, SqL.of hl⟩, ?_⟩
      refine for_list (K := K) (a := l) (xs := bs.map V.int) (fun i σ H' => H' = H4 ∧ ∃ v2 v6 v7 : Option V, σ = [some (.ref x), some (.ref t), v2, some (.ref st), some (.int (packN d g : Nat)), some (.ref l), v6, v7]) ⟨rfl, _, _, _, rfl⟩ (fun i σ H' _ ⟨e, _⟩ => by rw [e]; exact SqL.of hl) ?_ ?_
      · rintro i v σ H5 hi ⟨rfl, v2, v6, v7, rfl⟩
        rw [List.getElem?_map] at hi
        obtain ⟨b, hb, rfl⟩ := Option.map_eq_some_iff.mp hi
        obtain ⟨y, g', hy, hyl, hyn, eb, hyp⟩ := hbs b (List.mem_of_getElem? hb)
        refine ⟨_, rfl, x, dx, _, rfl, hA3.ins, hfs_no (by decide +kernel), _, rfl, _, rfl, x, dx, h, d, gp, dr, b, _, rfl, hA3.ins, _, rfl, ite2 (fun c => ?_) (fun c => ?_)⟩
        · refine k false kvs H5 hA3 (hid_same S3) (by omega) (hR.same (hid_same S3) fun y h => .inl h) fun _ => ⟨y, g', hy, hyl, riv_dom hO.n1 hn hyn hyp ?_⟩
          rw [← eb]
          exact c
        · exact ⟨rfl, _, _, _, rfl⟩
      · rintro σ H5 ⟨rfl, v2, v6, v7, rfl⟩
        refine ⟨_, rfl, l, rfl, ⟨_, SqL.of hl⟩, fun D2 hD2 => lcA walk_list (fun i acc H' => ∃ cs : List Int, acc = cs.map V.int ∧ (∀ c ∈ cs, c ∈ bs) ∧ Same H5 H') ⟨[], rfl, fun c hc => (by cases hc), .refl _⟩ (fun i acc H' o ⟨cs, h1, h2, h3⟩ => ⟨cs, h1, h2, same_mut h3 hD2⟩) (fun i acc H' _ ⟨_, _, _, h⟩ => SqL.of (h _ _ hl)) ?_ ?_⟩
        · rintro i v acc _ H6 hi ⟨cs, rfl, hcs, s6⟩ hA6 hl6 ⟨rfl, hv⟩
          rw [List.getElem?_map] at hv
          obtain ⟨b, hb, rfl⟩ := Option.map_eq_some_iff.mp hv
          rw [List.length_map] at hi
          have i6 := s6 _ _ hA3.ins
          refine ⟨rfl, _, rfl, x, dx, _, rfl, i6, hfs_no (by decide +kernel), _, rfl, _, rfl, x, dx, h, d, gp, dr, _, b, rfl, i6, _, rfl, ?_⟩
          refine ite2 (fun c => ?_) (fun c => ?_)
          · refine ⟨_, rfl, LcP.put (fun i acc H' o ⟨cs, h1, h2, h3⟩ => ⟨cs, h1, h2, same_mut h3 hD2⟩) hA6 hl6 (by omega) ⟨cs ++ [b], by rw [List.map_append]; rfl, fun c hc => ?_, s6⟩⟩
            rcases List.mem_append.mp hc with h1 | h1
            · exact hcs c h1
            · rw [List.mem_singleton.mp h1]
              exact List.mem_of_getElem? hb
          · exact LcP.skip hA6 hl6 ⟨cs, rfl, hcs, s6⟩
        rintro acc H6 ⟨cs, rfl, hcs, s6⟩ hA6 cl
        rw [List.length_map, List.length_map] at cl
        have hA6' := hA3.same s6
        refine ⟨_, rfl, _, rfl, _, rfl, D2, _, rfl, SqL.of hA6, fun p hp => ?_⟩
        have ec : cutV (cs.map V.int) (some (-30)) none = (cs.drop (cs.length - 30)).map V.int := by
          rw [cut_last, List.length_map, List.map_drop]
        have s7 := same_new (o := .lst ((cs.drop (cs.length - 30)).map V.int)) hp
        have e7 := upd_same (H := H6) (a := p) (o := .lst ((cs.drop (cs.length - 30)).map V.int))
        have ecut : (cutV (cs.map V.int) (some (-(30 : Int))) none) = (cs.drop (cs.length - 30)).map V.int := ec
        rw [show (upd H6 p (.lst (cutV (cs.map V.int) (some (-(30 : Int))) none))) = upd H6 p (.lst ((cs.drop (cs.length - 30)).map V.int)) by rw [ecut]]
        generalize upd H6 p (.lst ((cs.drop (cs.length - 30)).map V.int)) = H7 at s7 e7 ⊢
        refine ⟨p, _, rfl, .inr (SqL.of e7), _, rfl, ?_, fun nl2 hnl2 => ?_⟩
        · rw [List.length_append, List.length_map, List.length_drop]
          exact Nat.le_trans (show _ ≤ 100 by rw [List.length_singleton]; omega) (by decide)
        have eb : (cs.drop (cs.length - 30)).map V.int ++ [V.int (packN d g : Nat)] = (cs.drop (cs.length - 30) ++ [((packN d g : Nat) : Int)]).map V.int := by
          rw [List.map_append]
          rfl
        rw [eb]
        have hA7 := hA6'.same s7
        have n2 := hA7.fresh hnl2
        have s8 := same_new (o := .lst ((cs.drop (cs.length - 30) ++ [((packN d g : Nat) : Int)]).map V.int)) hnl2
        have e8 := upd_same (H := H7) (a := nl2) (o := .lst ((cs.drop (cs.length - 30) ++ [((packN d g : Nat) : Int)]).map V.int))
        generalize upd H7 nl2 (.lst ((cs.drop (cs.length - 30) ++ [((packN d g : Nat) : Int)]).map V.int)) = H8 at s8 e8 ⊢
        have hA8 := hA7.same s8
        have S8 := ((S3.trans s6).trans s7).trans s8
        refine ⟨_, rfl, x, kl.Hunt, dx, _, _, rfl, hA8.ins, T.cl_Hunt, T.n_Hunt_rivals, look_zip 12 rfl rfl hkeys_nd, _, rfl, h.rv, st, patt d g, kvs, rfl, rfl, hA8.rv, Nat.lt_of_le_of_lt kl4 (by decide), (((s6.trans s7).trans s8) _ _ f2), fun H9 hput => ?_⟩
        obtain ⟨hb, hbd⟩ := hput
        obtain ⟨hA9, eh⟩ := hA8.rival hb hbd
        have SG : Same (hid (hdyn x h) H) (hid (hdyn x h) H9) := by
          rw [eh]
          exact hid_same S8
        refine k true _ H9 hA9 SG (length_putK ..) (fun st' v hv => ?_) (fun c => by cases c)
        rw [valV_put] at hv
        by_cases c : st' = patt d g
        · rw [if_pos c] at hv
          cases hv
          refine ⟨nl2, _, rfl, by rw [eh]; exact hid_of e8 n2, ?_, fun b hb => ?_⟩
          · rw [List.length_append, List.length_drop, List.length_singleton]
            omega
          · rcases List.mem_append.mp hb with h1 | h1
            · obtain ⟨y, g', a1, a2, a3, a4, a5⟩ := hbs b (hcs b (List.mem_of_mem_drop h1))
              exact ⟨y, g', .inl a1, a2, a3, a4, c.trans a5⟩
            · exact ⟨u, g, .inr rfl, hu, hn, List.mem_singleton.mp h1, c⟩
        · rw [if_neg c] at hv
          obtain ⟨l', bs', a1, a2, a3, a4⟩ := hR st' v hv
          exact ⟨l', bs', a1, SG _ _ a2, a3, fun b hb => by
            obtain ⟨y, g', b1, b2⟩ := a4 b hb
            exact ⟨y, g', .inl b1, b2⟩⟩
end
end Pf
namespace Pf
open PySem PySem.Spec PyProof.Rows L2 Bz
local macro_rules | `(tactic| walk_at "sd") => `(tactic| first
  | rfl | assumption | omega | exact Nat.le_of_ble_eq_true rfl | decide | (refine Or.inl (And.intro ?_ ?_) <;> omega) | (refine Or.inr (And.intro ?_ ?_) <;> omega) | (refine And.intro ?_ ?_ <;> omega) | (refine ⟨?_, ?_, ?_⟩ <;> omega))
local macro_rules | `(tactic| walk_at "sq") => `(tactic| first | assumption | exact SqL.of (by assumption) | exact SqT.of (by assumption) | exact SqL.of upd_same | exact SqT.of upd_same)
local macro_rules | `(tactic| walk_at "hp") => `(tactic| first | assumption | exact upd_same)
local macro_rules | `(tactic| walk_at "rd") => `(tactic| repeat (first
  | (refine ⟨_, rfl, ?_⟩) | (refine ⟨_, _, rfl, rfl, ?_⟩) | (refine ⟨rfl, ?_⟩) | (refine And.intro (by walk_at "sd") ?_)
  | (refine ⟨_, _, _, _, rfl, rfl, (by walk_at "sq"), rfl, ?_⟩)
  | (refine ⟨_, _, _, _, rfl, rfl, (by walk_at "hp"), rfl, ?_⟩)
  | (refine Or.inl ⟨_, rfl, ?_⟩)))
section
variable {P : Program} {w : World} {K : PySem.W.Frag} {mg : PySem.Str → Option Value} {base : Heap} {kl : Cl}
theorem mt_Hunt_offer (T : Facts K mg kl) : KeepsM P w K mg base CX0 kl.Hunt 5 "offer" ["self", "levels", "front", "letter"] (spOffer P w kl.Hunt) := by
  refine keepsM0 T.m_Hunt_offer sc_Hunt_offer (fun vs H Q E h => ?_) (fun f cdv A outer s H vs Q E hr h => ?_)
  · obtain ⟨x, dx, t, fr, l, h, d, Sn, kvs, us, T, O, u, f, N, rfl, _⟩ := h
    rfl
  · obtain ⟨x, dx, t, fr, l, h, d, Sn, kvs, us, TT, O, u, g, N, rfl, hS, hO, hB, hN, ht, hu, hn, hF, hl, hul, hlt, kA, kB⟩ := h
    refine ⟨_, (pss_cons (ps_if (pt_cmp (pc_din (hu_of hr) (pv 1) (pe_fld (pv 0) rfl)))
  (pss_one ps_retN)
  pss_nil)
  (pss_cons (ps_dput (hu_of hr) (pe_fld (pv 0) rfl) (pv 1) pe_bl rfl)
  (pss_cons (ps_set (i := 4) sc_Hunt_offer.nd rfl (Or.inl rfl) (pe_minDI K rfl hr.units (by rfl) T.b_min (pe_lc (own := [("place", 5)]) (g := gName 5) (tt := tYes) rfl sc_Hunt_offer.nd (kpi_list K (pe_fld (pv 0) rfl)) (blkOk_by (own := [("place", 5)]) (N := N_Hunt_offer) (sc := defScope s_Hunt_offer) (by decide +kernel)) (fun _ _ _ _ _ => (pg_name (i := 5) sc_Hunt_offer.nd rfl (Or.inl rfl))) (fun _ _ _ _ _ => pts_nil) (fun _ _ _ _ _ => (pe_ix (kix_tup K) (pv 1) (pv 5) (fun _ _ => rfl)))) (pe_fld (pv 0) rfl)))
  (Evl.pss_cut (ps_if (pt_chain op_lt op_lt (pe_fld (pv 0) rfl) (pv 4) (pe_fld (pv 0) rfl))
  (pss_cons (ps_fld (pv 0) (pv 4) rfl)
  (pss_one (ps_fld (pv 0) (pe_mt (E := E0) T.cl_Hunt (mt_Hunt_row_to T) hr pass00 (pv 0) (pa_cons (pv 2) (pa_cons (pv 3) pa_nil))) rfl)))
  pss_nil)
  (pss_one (ps_if (PW.pt (pw_and (pt_val (pe_mt (E := E0) T.cl_Hunt (mt_Hunt_may_lead_higher T) hr pass00 (pv 0) (pa_cons (pv 1) pa_nil))) (pw_and1 (pt_val (pe_mt (E := E0) T.cl_Hunt (mt_Hunt_outdo T) hr pass00 (pv 0) (pa_cons (pv 1) pa_nil))))))
  (pss_one (ps_expr (kbm K PySem.F.plainAttrs_list PySem.F.slot_list_append PySem.F.type_list_append mt_append (pe_fld (pv 0) rfl) (pa_cons (pe_tup (pa_cons (pv 1) (pa_cons (pv 2) (pa_cons (pv 3) pa_nil)))) pa_nil))))
  pss_nil)))))), ?_⟩
    have hA0 := hS.hat
    have htH := hid_sub _ _ ht
    have snl := hS.bd hB
    have kb : (LvOf d.Q d.num g).map V.int = (keyL (LvOf d.Q d.num g)).map kV := (keyV _).symm
    have key : H t = some (.tup ((keyL (LvOf d.Q d.num g)).map kV)) := by rw [← kb]; exact htH
    -- seen before?
    refine ⟨_, rfl, _, rfl, x, kl.Hunt, dx, _, _, rfl, hA0.ins, T.cl_Hunt, T.n_Hunt_seen, look_zip 11 rfl rfl hkeys_nd, h.sn, _, rfl, DGet.t hA0.sn key, _, rfl, ite2 (fun c => ?_) (fun c => ?_)⟩
    · obtain ⟨y, f2, hy, hy2, hyn, e2⟩ := hS.ss _ (sn_get.mp c)
      have hD : Dom d.Q d.num g f2 := dom_of rfl rfl (by rw [e2]) fun i a b ha hb => by
        rw [e2, hb] at ha
        cases ha
        exact Int.le_refl _
      have us : Useless d.A d.S d.E d.num u := fun v hv => ⟨y, hlt y hy, dear_dom (fun x hx => ⟨(hO.aQ x hx).1, (hO.aQ x hx).2, (hO.ca x hx).1⟩) hO.eQ v u y g f2 hu hy2 hD hv⟩
      have nd : ¬ Dear d.A d.S d.E d.num u := fun hd => by
        have := dear_dom (fun x hx => ⟨(hO.aQ x hx).1, (hO.aQ x hx).2, (hO.ca x hx).1⟩) hO.eQ [] u y g f2 hu hy2 hD (by rw [List.append_nil]; exact hd)
        rw [List.append_nil] at this
        exact (hS.off y hy).1 this
      refine kA Sn kvs _ TT H ⟨hS.hat, hS.ts, hS.rs.same (.refl _) fun y h => .inl h, fun k hk => ?_, hS.nd, hS.tn, hS.kn, fun t ht => .inl (hS.to t ht), hS.sT, hS.wl, fun o ho => ?_⟩ (.inl rfl) (.refl _)
      · obtain ⟨y, f, a, b⟩ := hS.ss k hk
        exact ⟨y, f, .inl a, b⟩
      · rcases ho with ho | rfl
        · exact hS.off o ho
        · exact ⟨nd, .inr us⟩
    · have nk : LvOf d.Q d.num g ∉ Sn := fun z => c (sn_get.mpr z)
      refine ⟨_, rfl, x, kl.Hunt, dx, _, _, rfl, hA0.ins, T.cl_Hunt, T.n_Hunt_seen, look_zip 11 rfl rfl hkeys_nd, _, rfl, h.sn, _, rfl, DPut.t hA0.sn key (Nat.lt_of_le_of_lt (show _ ≤ 9000 by unfold snK; rw [List.length_map]; omega) (by decide)), ?_⟩
      rw [sn_put nk]
      obtain ⟨hA1, eh1⟩ := hA0.put_sn (Sn ++ [LvOf d.Q d.num g])
      generalize upd H h.sn (.dT (snK (Sn ++ [LvOf d.Q d.num g]))) = H1 at hA1 eh1 ⊢
      have SG1 : Same (hid (hdyn x h) H) (hid (hdyn x h) H1) := by rw [eh1]; exact .refl _
      have ht1 : H1 t = some (.tup ((LvOf d.Q d.num g).map V.int)) := hid_sub _ _ (SG1 _ _ ht)
      have hst1 := hA1.st.same hid_sub
      -- the price's level
      refine ⟨_, rfl, x, kl.Hunt, dx, _, _, rfl, hA1.ins, T.cl_Hunt, T.n_Hunt_end_places, look_zip 7 rfl rfl hkeys_nd, h.ep, rfl, ⟨_, SqL.of hst1.ep⟩, fun D hD => lcA walk_list (fun i acc H' => acc = ((d.E.take i).map fun e => capL d.num (g e)).map V.int ∧ Same H1 H') ⟨rfl, .refl _⟩ (fun i acc H' o h => ⟨h.1, same_mut h.2 hD⟩) (fun i acc H' _ h => SqL.of (h.2 _ _ hst1.ep)) ?_ ?_⟩
      · rintro i v acc _ H2 hi ⟨rfl, s2⟩ hA hl2 ⟨rfl, hv⟩
        rw [List.getElem?_map] at hv
        obtain ⟨e, he, rfl⟩ := Option.map_eq_some_iff.mp hv
        rw [List.length_map] at hi
        have eQ := hO.eQ e (List.mem_of_getElem? he)
        have el := hO.el
        have tk : d.E.take (i + 1) = d.E.take i ++ [e] := by rw [List.take_add_one, he]; rfl
        refine ⟨rfl, _, rfl, _, rfl, t, _, _, _, rfl, rfl, SqT.of (s2 _ _ ht1), lv_at eQ, ?_⟩
        refine LcP.put (fun i acc H' o h => ⟨h.1, same_mut h.2 hD⟩) hA hl2 (by omega) ⟨?_, s2⟩
        rw [tk, List.map_append, List.map_append]
        rfl
      rintro acc H2 ⟨rfl, s2⟩ hA2 _
      rw [List.length_map, List.take_length] at hA2
      have hA12 := hA1.same s2
      refine ⟨_, rfl, x, kl.Hunt, dx, _, _, rfl, hA12.ins, T.cl_Hunt, T.n_Hunt_nothing, look_zip 3 rfl rfl hkeys_nd, rfl, D, _, rfl, SqL.of hA2, fun z hz => ?_⟩
      obtain ⟨mn, rfl, hmn⟩ : ∃ mn : Int, z = .int mn ∧ (((d.E.map fun e => capL d.num (g e)) = [] ∧ mn = d.num + 101) ∨ (mn ∈ (d.E.map fun e => capL d.num (g e)) ∧ ∀ n ∈ (d.E.map fun e => capL d.num (g e)), mn ≤ n)) := by
        rcases hz with ⟨h1, rfl⟩ | ⟨mn, rfl, h1, h2⟩
        · exact ⟨_, rfl, .inl ⟨h1, rfl⟩⟩
        · exact ⟨mn, rfl, .inr ⟨h1, h2⟩⟩
      have em := price_level hmn
      have hdl := dear_level (A := d.A) (S := d.S) (E := d.E) (num := d.num) hu
      rw [← em] at hdl
      have SG2 : Same (hid (hdyn x h) H) (hid (hdyn x h) H2) := SG1.trans (hid_same s2)
      refine ⟨fun σ' H' => ∃ (gp : Int) (dr : V) (v4 v5 : Option V), σ' = [some (.ref x), some (.ref t), some fr, some (.str l), v4, v5] ∧ HAt P w kl.Hunt H' x dx h d gp dr (Sn ++ [LvOf d.Q d.num g]) kvs us ∧ Same (hid (hdyn x h) H) (hid (hdyn x h) H') ∧ ((gp = d.num ∧ dr = .non ∧ ¬ Dear d.A d.S d.E d.num u) ∨ (gp = d.num + 1 ∧ ∃ z : PySem.Str, dr = .str z ∧ sgnL z = u ∧ Dear d.A d.S d.E d.num u)), ?_, ?_⟩
      · refine ⟨_, rfl, x, kl.Hunt, dx, _, _, rfl, hA12.ins, T.cl_Hunt, T.n_Hunt_greatest_price, look_zip 1 rfl rfl hkeys_nd, _, rfl, _, _, rfl, rfl, _, rfl, ite2 (fun c1 => ?_) (fun c1 => ?_)⟩
        · have c1 := of_decide_eq_true c1
          refine ⟨_, rfl, x, kl.Hunt, dx, _, _, rfl, hA12.ins, T.cl_Hunt, T.n_Hunt_nothing, look_zip 3 rfl rfl hkeys_nd, _, _, rfl, rfl, _, rfl, ite2 (fun c2 => ?_) (fun c2 => ?_)⟩
          · have c2 := of_decide_eq_true c2
            have hd := hdl.mpr ⟨c1, c2⟩
            have e1 : mn = d.num + 1 := by
              rw [em] at c1 c2 ⊢
              cases hp : priceF d.E g with
              | none =>
                rw [hp] at c2
                exact absurd c2 (show ¬ (d.num + 101 < d.num + 101) by omega)
              | some cc =>
                rw [hp] at c1
                simp only [capL] at c1 ⊢
                split at c1 <;> split <;> omega
            refine ⟨_, rfl, _, rfl, x, kl.Hunt, dx, _, rfl, hA12.ins, T.cl_Hunt, T.n_Hunt_greatest_price, Nat.le_of_ble_eq_true rfl, ?_⟩
            rw [put_gp]
            obtain ⟨hA3, eh3⟩ := hA12.put_x mn .non
            generalize upd H2 x (.ins kl.Hunt dx (hfs h d mn .non)) = H3 at hA3 eh3 ⊢
            have SG3 : Same (hid (hdyn x h) H) (hid (hdyn x h) H3) := by rw [eh3]; exact SG2
            refine ⟨_, rfl, x, dx, _, rfl, hA3.ins, hfs_no (by decide +kernel), _, rfl, _, rfl, x, dx, h, d, _, _, fr, l, hid (hdyn x h) H, us, TT, u, rfl, hA3.ins, hA3.tr, SG3.trans hid_sub, hS.ts, hF, hl, by have := hS.tn; omega, fun z H4 hz s4 => ?_⟩
            have hA4 := hA3.same s4
            refine ⟨_, rfl, x, kl.Hunt, dx, _, rfl, hA4.ins, T.cl_Hunt, T.n_Hunt_dearest_row, Nat.le_of_ble_eq_true rfl, ?_⟩
            rw [put_dr]
            obtain ⟨hA5, eh5⟩ := hA4.put_x mn (.str z)
            refine ⟨mn, .str z, _, _, rfl, hA5, ?_, .inr ⟨e1, z, rfl, hz, hd⟩⟩
            rw [eh5]
            exact SG3.trans (hid_same s4)
          · exact ⟨_, _, _, _, rfl, hA12, SG2, .inl ⟨rfl, rfl, fun hd => c2 (decide_eq_true (hdl.mp hd).2)⟩⟩
        · exact ⟨_, rfl, iteF ⟨_, _, _, _, rfl, hA12, SG2, .inl ⟨rfl, rfl, fun hd => c1 (decide_eq_true (hdl.mp hd).1)⟩⟩⟩
      · rintro σ' H3 ⟨gp, dr, v4, v5, rfl, hA3, SG3, hcase⟩
        have ht3 : H3 t = some (.tup ((LvOf d.Q d.num g).map V.int)) := hid_sub _ _ (SG3 _ _ ht)
        refine ⟨_, rfl, x, dx, _, rfl, hA3.ins, hfs_no (by decide +kernel), _, rfl, x, dx, t, h, d, gp, dr, g, rfl, hA3.ins, hA3.st.same hid_sub, fun r hr => hO.eQ r (hO.rest.1 r hr), hO.rl, ht3, fun H4 s4 => ⟨_, rfl, ?_⟩⟩
        have dd : ∀ (v y : List PySem.Str) (f2 : PySem.Str → Option Int), Lst d.A d.S y f2 → Dom d.Q d.num g f2 → Dear d.A d.S d.E d.num (u ++ v) → Dear d.A d.S d.E d.num (y ++ v) := fun v y f2 h1 h2 h3 => dear_dom (fun x hx => ⟨(hO.aQ x hx).1, (hO.aQ x hx).2, (hO.ca x hx).1⟩) hO.eQ v u y g f2 hu h1 h2 h3
        have fin : ∀ (H' : Hp) (kvs' : List (List Bool × V)) (us' : List V) (T' : List (List PySem.Str)), HAt P w kl.Hunt H' x dx h d gp dr (Sn ++ [LvOf d.Q d.num g]) kvs' us' → Same (hid (hdyn x h) H) (hid (hdyn x h) H') → RivS (hid (hdyn x h) H') d (fun y => O y ∨ y = u) kvs' → kvs'.length ≤ kvs.length + 1 → TrS (hid (hdyn x h) H') d us' T' → (T' = TT ∨ T' = TT ++ [u]) → (gp = d.num → u ∈ T' ∨ Useless d.A d.S d.E d.num u) → Q .non H' := fun H' kvs' us' T' a1 a2 a3 a4 a5 a6 a7 => by
          have tn := hS.tn
          have kn := hS.kn
          have tl : T'.length ≤ TT.length + 1 := by
            rcases a6 with rfl | rfl
            · omega
            · rw [List.length_append, List.length_singleton]
              exact Nat.le_refl _
          rcases hcase with ⟨rfl, rfl, nd⟩ | ⟨rfl, z, rfl, hz, hd⟩
          · have sub : ∀ t ∈ TT, t ∈ T' := fun t ht => by
              rcases a6 with rfl | rfl
              · exact ht
              · exact List.mem_append_left _ ht
            refine kA _ kvs' us' T' H' ⟨a1, a5, a3, fun k hk => ?_, nodup_snoc2 hS.nd nk, by rw [List.length_append, List.length_singleton]; omega, by rw [List.length_append, List.length_singleton]; omega, fun t ht => ?_, ?_, fun t ht => ?_, fun o ho => ?_⟩ a6 a2
            · rcases List.mem_append.mp hk with hk | hk
              · obtain ⟨y, f, b1, b2⟩ := hS.ss k hk
                exact ⟨y, f, .inl b1, b2⟩
              · exact ⟨u, g, .inr rfl, hu, hn, List.mem_singleton.mp hk⟩
            · rcases a6 with rfl | rfl
              · exact .inl (hS.to t ht)
              · rcases List.mem_append.mp ht with ht | ht
                · exact .inl (hS.to t ht)
                · exact .inr (List.mem_singleton.mp ht)
            · rcases a6 with rfl | rfl
              · exact hS.sT
              · refine List.pairwise_append.mpr ⟨hS.sT, List.pairwise_singleton .., fun a ha b hb => ?_⟩
                rw [List.mem_singleton.mp hb]
                exact hlt a (hS.to a ha)
            · rcases a6 with rfl | rfl
              · exact hS.wl t ht
              · rw [List.length_append, List.length_singleton]
                rcases List.mem_append.mp ht with ht | ht
                · exact Nat.le_succ_of_le (hS.wl t ht)
                · rw [List.mem_singleton.mp ht]
                  exact hul
            · rcases ho with ho | rfl
              · exact ⟨(hS.off o ho).1, (hS.off o ho).2.imp (sub o) id⟩
              · exact ⟨nd, a7 rfl⟩
          · exact kB z _ kvs' us' H' a1 (by rw [a5.len]; omega) hz hd a2
        have hA4 := hA3.same s4
        have SG4 := SG3.trans (hid_same s4)
        have kn := hS.kn
        refine ite2 (fun c => ?_) (fun c => ?_)
        · refine ⟨_, rfl, x, dx, _, rfl, hA4.ins, hfs_no (by decide +kernel), _, rfl, x, dx, t, h, d, gp, dr, Sn ++ [LvOf d.Q d.num g], kvs, us, u, g, O, rfl, hA4, hO, hS.rs.same SG4 (fun y h => h), by omega, s4 _ _ ht3, hu, hn, fun b kvs' H5 hA5 SG5 kl5 hR5 hdom => ⟨_, rfl, ?_⟩⟩
          have SG5' := SG4.trans SG5
          cases b with
          | false =>
            refine iteF ?_
            obtain ⟨y, f2, hy, hy2, hD⟩ := hdom rfl
            exact fin H5 kvs' us TT hA5 SG5' hR5 kl5 (hS.ts.same SG5') (.inl rfl) fun _ => .inr fun v hv => ⟨y, hlt y hy, dd v y f2 hy2 hD hv⟩
          | true =>
            refine iteT ?_
            have tn := hS.tn
            refine ⟨_, rfl, x, kl.Hunt, dx, _, _, rfl, hA5.ins, T.cl_Hunt, T.n_Hunt_trail, look_zip 13 rfl rfl hkeys_nd, .inl ⟨rfl, _, SqL.of hA5.tr⟩, _, rfl, _, rfl, _, rfl, Nat.le_of_ble_eq_true rfl, fun r hr => ?_⟩
            have nr := hA5.fresh hr
            have s6 := same_new (o := .tup [.ref t, fr, .str l]) hr
            have e6 := upd_same (H := H5) (a := r) (o := .tup [.ref t, fr, .str l])
            generalize upd H5 r (.tup [.ref t, fr, .str l]) = H6 at s6 e6 ⊢
            have hA6 := hA5.same s6
            have SG6 := SG5'.trans (hid_same s6)
            refine ⟨h.tr, _, _, rfl, rfl, hA6.tr, Nat.lt_of_le_of_lt (show _ ≤ 10000 by rw [hS.ts.len]; omega) (by decide), ?_⟩
            obtain ⟨hA7, eh7⟩ := hA6.put_tr (us ++ [V.ref r])
            refine fin _ kvs' (us ++ [V.ref r]) (TT ++ [u]) hA7 (by rw [eh7]; exact SG6) (by rw [eh7]; exact hR5.same (hid_same s6) fun y h => h) kl5 ?_ (.inr rfl) fun _ => .inl (List.mem_append_right _ (List.mem_singleton.mpr rfl))
            rw [eh7]
            exact (hS.ts.same SG6).snoc (hid_of e6 nr) (SG6 _ _ ht) hu hF hl
        · refine iteF ?_
          refine fin H4 kvs us TT hA4 SG4 (hS.rs.same SG4 fun y h => .inl h) (by omega) (hS.ts.same SG4) (.inl rfl) fun e => .inr fun v hv => ?_
          rw [e] at c
          exact absurd hv (low_useless hO hu c v)
end
end Pf
namespace Pf
open PySem PySem.Spec PyProof.Rows L2 Bz
local macro_rules | `(tactic| walk_at "sd") => `(tactic| first
  | rfl | assumption | omega | exact Nat.le_of_ble_eq_true rfl | decide | (refine Or.inl (And.intro ?_ ?_) <;> omega) | (refine Or.inr (And.intro ?_ ?_) <;> omega) | (refine And.intro ?_ ?_ <;> omega) | (refine ⟨?_, ?_, ?_⟩ <;> omega))
local macro_rules | `(tactic| walk_at "sq") => `(tactic| first | assumption | exact SqL.of (by assumption) | exact SqT.of (by assumption) | exact SqL.of upd_same | exact SqT.of upd_same)
local macro_rules | `(tactic| walk_at "hp") => `(tactic| first | assumption | exact upd_same)
local macro_rules | `(tactic| walk_at "rd") => `(tactic| repeat (first
  | (refine ⟨_, rfl, ?_⟩) | (refine ⟨_, _, rfl, rfl, ?_⟩) | (refine ⟨rfl, ?_⟩) | (refine And.intro (by walk_at "sd") ?_)
  | (refine ⟨_, _, _, _, rfl, rfl, (by walk_at "sq"), rfl, ?_⟩)
  | (refine ⟨_, _, _, _, rfl, rfl, (by walk_at "hp"), rfl, ?_⟩)
  | (refine Or.inl ⟨_, rfl, ?_⟩)))
section
variable {P : Program} {w : World} {K : PySem.W.Frag} {mg : PySem.Str → Option Value} {base : Heap} {kl : Cl}
theorem mt_Hunt_run (T : Facts K mg kl) : KeepsM P w K mg base CX0 kl.Hunt 7 "run" ["self"] (spRun P w kl.Hunt) := by
  refine keepsM0 T.m_Hunt_run sc_Hunt_run (fun vs H Q E h => ?_) (fun f cdv A outer s H vs Q E hr h => ?_)
  · obtain ⟨x, dx, h, d, N, rfl, _⟩ := h
    rfl
  · obtain ⟨x, dx, h, d, N, rfl, hA0, hO, hB, hN, k1, k2⟩ := h
    refine ⟨_, (pss_cons (ps_expr (pe_mt (E := E0) T.cl_Hunt (mt_Hunt_offer T) hr pass00 (pv 0) (pa_cons (pe_fld (pv 0) rfl) (pa_cons pe_non (pa_cons pe_str pa_nil)))))
  (pss_cons (ps_set (i := 1) sc_Hunt_run.nd rfl (Or.inl rfl) pe_int)
  (pss_one (ps_while PassesOwn.never (pt_cmpR op_lt (pv 1) (pe_callB (kcall_len K) (by rfl) T.b_len (by decide +kernel) (pa_cons (pe_fld (pv 0) rfl) pa_nil)) (nomark _))
  (pss_cons (ps_for PassesOwn.never rfl (kpi_list K (pe_fld (pv 0) rfl)) (kpg_tup K rfl (pgs_cons (pg_name (i := 2) sc_Hunt_run.nd rfl (Or.inl rfl)) (pgs_cons (pg_name (i := 3) sc_Hunt_run.nd rfl (Or.inl rfl)) pgs_nil)))
  (pss_cons (ps_if (pt_cmpR op_gt (pe_fld (pv 0) rfl) (pe_fld (pv 0) rfl) (nomark _))
  (pss_one ps_retN)
  pss_nil)
  (pss_one (ps_expr (pe_mt (E := E0) T.cl_Hunt (mt_Hunt_offer T) hr pass00 (pv 0) (pa_cons (pe_mt (E := E0) T.cl_Hunt (mt_Hunt_levels_behind T) hr pass00 (pv 0) (pa_cons (pe_ix (kix_tup K) (pe_ix (kix_list K) (pe_fld (pv 0) rfl) (pv 1) (fun _ _ => rfl)) pe_int (fun _ _ => rfl)) (pa_cons (pv 3) pa_nil))) (pa_cons (pv 1) (pa_cons (pv 2) pa_nil))))))))
  (pss_one (ps_aug (i := 1) sc_Hunt_run.nd rfl (Or.inl rfl) pe_int ip_add))))))), ?_⟩
    have hls := hA0.st.ls
    have nn : ∀ {u : List PySem.Str} {f : PySem.Str → Option Int}, Lst d.A d.S u f → NN f := fun hu q b hb => lst_nn (fun x hx => (hO.ca x hx).1) hu hb
    have hS0 : HSt P w kl.Hunt H x dx h d [] [] [] [] (fun _ => False) := ⟨hA0, ⟨rfl, fun i v w a b => (by simp at a), fun w hw => (by cases hw)⟩, fun st v hv => (by cases hv), fun k hk => (by cases hk), .nil, Nat.le_refl _, Nat.le_refl _, fun t ht => (by cases ht), .nil, fun t ht => (by cases ht), fun o ho => ho.elim⟩
    have hl0 : Lst d.A d.S [] (startF d.S) := Lst.start d.S
    refine ⟨_, rfl, x, dx, _, rfl, hA0.ins, hfs_no (by decide +kernel), _, rfl, x, kl.Hunt, dx, _, _, rfl, hA0.ins, T.cl_Hunt, T.n_Hunt_first_levels, look_zip 6 rfl rfl hkeys_nd, ?_⟩
    refine ⟨x, dx, h.fl, .non, "", h, d, [], [], [], [], (fun _ => False), [], startF d.S, N, rfl, hS0, hO, hB, hN, hA0.st.fl, hl0, nn hl0, .inl ⟨rfl, rfl, rfl⟩, fun k hk => (by cases hk), Nat.zero_le _, fun o ho => ho.elim, offer_both (fun H1 => RSt P w kl.Hunt H1 x dx h d 0 0 False ∧ Same (hid (hdyn x h) H) (hid (hdyn x h) H1)) (fun Sn' kvs' us' T' H' a1 a2 a3 => ⟨.inl ⟨Sn', kvs', us', T', (off_nil (L := d.L) (T := T')) ▸ a1, Nat.zero_le _, fun z => z.elim⟩, a3⟩) (fun z Sn' kvs' us' H' a1 a2 a3 a4 a5 => ⟨.inr ⟨z, Sn', kvs', us', a1, a2, by rw [a3]; exact Nat.zero_le _, by rw [a3]; exact a4, fun y hy => ?_⟩, a5⟩) fun H1 ⟨hR1, SG1⟩ => ?_⟩
    · rw [a3] at hy
      exfalso
      rcases hy with hy | ⟨e, hy⟩
      · cases hy
      · cases y with
        | nil => exact hy
        | cons _ _ => cases e
    -- the loop
    refine ⟨fun mm σ' H' => ∃ (a : Nat) (v2 v3 : Option V), σ' = [some (.ref x), some (.int (a : Nat)), v2, v3] ∧ RSt P w kl.Hunt H' x dx h d a 0 False ∧ Same (hid (hdyn x h) H) (hid (hdyn x h) H') ∧ a ≤ 10000 ∧ mm = 20000 - a, ⟨20000, 0, _, _, rfl, hR1, SG1, Nat.zero_le _, rfl⟩, ?_⟩
    rintro mm σ' H2 ⟨a, v2, v3, rfl, hR2, SG2, al, rfl⟩
    obtain ⟨gp, dr, Sn, kvs, us, hA2⟩ := hR2.ex
    refine ⟨_, rfl, _, rfl, x, kl.Hunt, dx, _, _, rfl, hA2.ins, T.cl_Hunt, T.n_Hunt_trail, look_zip 13 rfl rfl hkeys_nd, _, us.length, rfl, .inl ⟨_, SqL.of hA2.tr, rfl⟩, _, _, rfl, rfl, _, rfl, ite2 (fun c => ?_) (fun c => ?_)⟩
    · have c : a < us.length := by
        have := of_decide_eq_true c
        omega
      have a1 : a + 1 ≤ 10000 := by
        rcases hR2 with ⟨Sn', kvs', us', TT, hS, h1, _⟩ | ⟨z, Sn', kvs', us', hs, h1, _⟩
        · have e := hS.hat.tr
          rw [hA2.tr] at e
          cases e
          have := hS.ts.len
          have := hS.tn
          have := hS.bd hB
          omega
        · have e := hs.tr
          rw [hA2.tr] at e
          cases e
          omega
      refine ⟨fun σ' H' => ∃ (v2 v3 : Option V), σ' = [some (.ref x), some (.int (a + 1 : Nat)), v2, v3] ∧ RSt P w kl.Hunt H' x dx h d (a + 1) 0 False ∧ Same (hid (hdyn x h) H) (hid (hdyn x h) H'), fun σ' H' ⟨v2, v3, e1, e2, e3⟩ => ⟨20000 - (a + 1), by omega, a + 1, v2, v3, e1, e2, e3, a1, rfl⟩, ?_⟩
      obtain ⟨ws, hws, hP⟩ := hls
      have wl : ws.length = d.L.length := Paired.length hP
      refine ⟨_, rfl, x, kl.Hunt, dx, _, _, rfl, hA2.ins, T.cl_Hunt, T.n_Hunt_letter_sources, look_zip 5 rfl rfl hkeys_nd, h.ls, rfl, ⟨_, SqL.of (hid_sub _ _ (SG2 _ _ hws))⟩, ?_⟩
      refine for_list (K := K) (a := h.ls) (xs := ws) (fun i σ H' => ∃ (v2 v3 : Option V), σ = [some (.ref x), some (.int (a : Nat)), v2, v3] ∧ RSt P w kl.Hunt H' x dx h d a i True ∧ Same (hid (hdyn x h) H) (hid (hdyn x h) H')) ⟨_, _, rfl, hR2.below hA2.tr c, SG2⟩ (fun i σ H' _ ⟨_, _, _, _, e⟩ => SqL.of (hid_sub _ _ (e _ _ hws))) ?_ ?_
      · rintro i v σ H3 hi ⟨v2, v3, rfl, hR3, SG3⟩
        obtain ⟨l, hl, r, sr, rfl, hr0, hsr⟩ := paired_get hP hi
        refine ⟨r, _, rfl, SqT.of (hid_sub _ _ (SG3 _ _ hr0)), rfl, _, _, rfl, _, _, rfl, rfl, ?_⟩
        rcases hR3 with ⟨Sn3, kvs3, us3, TT, hS, hal, hab⟩ | ⟨z, Sn3, kvs3, us3, hA3, hul, hzl, hd, hmin⟩
        · have hA3 := hS.hat
          refine ⟨_, rfl, x, kl.Hunt, dx, _, _, rfl, hA3.ins, T.cl_Hunt, T.n_Hunt_greatest_price, look_zip 1 rfl rfl hkeys_nd, _, rfl, x, kl.Hunt, dx, _, _, rfl, hA3.ins, T.cl_Hunt, T.n_Hunt_number, look_zip 0 rfl rfl hkeys_nd, _, _, rfl, rfl, _, rfl, ite2 (fun c => ?_) (fun c => ?_)⟩
          · exact absurd (of_decide_eq_true c) (Int.lt_irrefl _)
          · have hlt := hab trivial
            have hta : TT[a]? = some TT[a] := List.getElem?_eq_getElem hlt
            obtain ⟨va, hva⟩ : ∃ va, us3[a]? = some va := ⟨_, List.getElem?_eq_getElem (by rw [hS.ts.len]; exact hlt)⟩
            generalize TT[a] = ta at hta
            obtain ⟨r2, t2, f2, fr2, l2, rfl, hr2, ht2, hf2, hk2⟩ := hS.ts.at_ a va ta hva hta
            have lm := List.mem_of_getElem? hl
            refine ⟨_, rfl, x, dx, _, rfl, hA3.ins, hfs_no (by decide +kernel), _, rfl, x, dx, _, rfl, hA3.ins, hfs_no (by decide +kernel), ?_⟩
            refine ⟨_, rfl, x, kl.Hunt, dx, _, _, rfl, hA3.ins, T.cl_Hunt, T.n_Hunt_trail, look_zip 13 rfl rfl hkeys_nd, _, rfl, h.tr, _, _, _, rfl, rfl, SqL.of hA3.tr, atI_nat hva, r2, _, _, _, rfl, rfl, SqT.of (hid_sub _ _ hr2), rfl, ?_⟩
            refine ⟨_, rfl, x, dx, t2, sr, h, d, d.num, .non, f2, l, rfl, hA3.ins, hA3.st.same hid_sub, hO, nn hf2, hid_sub _ _ ht2, (hsr.same SG3).same hid_sub, fun t' H4 ht' s4 => ?_⟩
            have nx := hf2.next l
            have SG4 := SG3.trans (hid_same s4)
            refine ⟨_, rfl, _, rfl, x, dx, t', .int (a : Nat), l, h, d, Sn3, kvs3, us3, TT, Offd d.L TT a i, ta ++ [l], nextF d.A l f2, N, rfl, hS.same s4, hO, hB, hN, (hA3.same s4).tup ht', nx, nn nx, .inr ⟨a, ta, hta, rfl, rfl⟩, fun k hk => ?_, ?_, fun o ho => off_lt hO.aL2 hS.sT ho hta hl, offer_both (fun H5 => RSt P w kl.Hunt H5 x dx h d a (i + 1) True ∧ Same (hid (hdyn x h) H4) (hid (hdyn x h) H5)) (fun Sn' kvs' us' T' H' a1 a2 a3 => ⟨.inl ⟨Sn', kvs', us', T', offd_step hta hl a2 ▸ a1, ?_, fun _ => ?_⟩, a3⟩) (fun z Sn' kvs' us' H' a1 a2 a3 a4 a5 => ⟨.inr ⟨z, Sn', kvs', us', a1, a2, ?_, by rw [a3]; exact a4, ?_⟩, a5⟩) fun H5 ⟨hR5, SG5⟩ => ⟨_, _, rfl, hR5, SG4.trans SG5⟩⟩
            · rcases List.mem_append.mp hk with hk | hk
              · exact hS.ts.lt ta (List.mem_of_getElem? hta) k hk
              · rw [List.mem_singleton.mp hk]
                exact hO.ll1 l lm
            · rw [List.length_append, List.length_singleton]
              exact Nat.succ_le_succ (hS.wl ta (List.mem_of_getElem? hta))
            · rcases a2 with rfl | rfl
              · exact hal
              · rw [List.length_append]
                omega
            · rcases a2 with rfl | rfl
              · exact hlt
              · rw [List.length_append]
                omega
            · rw [a3, List.length_append, List.length_singleton]
              have q1 := hS.wl ta (List.mem_of_getElem? hta)
              have q2 := hS.tn
              have q3 := hS.bd hB
              omega
            · rw [a3]
              exact bfs_found hO.aL (T := TT) (O := Offd d.L TT a i) (by simp) (.inl rfl) hS.off fun s hs m hm h => offd_more hO.aL2 hS.sT hta hl hs hm h
        · refine ⟨_, rfl, x, kl.Hunt, dx, _, _, rfl, hA3.ins, T.cl_Hunt, T.n_Hunt_greatest_price, look_zip 1 rfl rfl hkeys_nd, _, rfl, x, kl.Hunt, dx, _, _, rfl, hA3.ins, T.cl_Hunt, T.n_Hunt_number, look_zip 0 rfl rfl hkeys_nd, _, _, rfl, rfl, _, rfl, ite2 (fun c => ?_) (fun c => ?_)⟩
          · exact k2 z Sn3 kvs3 us3 H3 hA3 hzl hd hmin SG3
          · exact absurd (decide_eq_true (show d.num < d.num + 1 by omega)) c
      · rintro σ H3 ⟨v2, v3, rfl, hR3, SG3⟩
        rw [wl] at hR3
        refine ⟨_, rfl, _, _, rfl, rfl, ?_⟩
        exact ⟨v2, v3, rfl, hR3.next, SG3⟩
    · have c : ¬ a < us.length := fun z => c (decide_eq_true (by omega))
      rcases hR2 with ⟨Sn', kvs', us', TT, hS, h1, _⟩ | ⟨z, Sn', kvs', us', hs, h1, hzl, hd, hmin⟩
      · have e := hS.hat.tr
        rw [hA2.tr] at e
        cases e
        have e2 : a = TT.length := by
          have := hS.ts.len
          omega
        exact k1 Sn' kvs' us H2 hS.hat (bfs_none hO.aL fun w hw => hS.off w (offd_all e2 hw)) SG2
      · exact k2 z Sn' kvs' us' H2 hs hzl hd hmin SG2
end
end Pf
namespace Pf
open PySem PySem.Spec PyProof.Rows L2 Bz
local macro_rules | `(tactic| walk_at "sd") => `(tactic| first
  | rfl | assumption | omega | exact Nat.le_of_ble_eq_true rfl | decide | (refine Or.inl (And.intro ?_ ?_) <;> omega) | (refine Or.inr (And.intro ?_ ?_) <;> omega) | (refine And.intro ?_ ?_ <;> omega) | (refine ⟨?_, ?_, ?_⟩ <;> omega))
local macro_rules | `(tactic| walk_at "sq") => `(tactic| first | assumption | exact SqL.of (by assumption) | exact SqT.of (by assumption) | exact SqL.of upd_same | exact SqT.of upd_same)
local macro_rules | `(tactic| walk_at "hp") => `(tactic| first | assumption | exact upd_same)
local macro_rules | `(tactic| walk_at "rd") => `(tactic| repeat (first
  | (refine ⟨_, rfl, ?_⟩) | (refine ⟨_, _, rfl, rfl, ?_⟩) | (refine ⟨rfl, ?_⟩) | (refine And.intro (by walk_at "sd") ?_)
  | (refine ⟨_, _, _, _, rfl, rfl, (by walk_at "sq"), rfl, ?_⟩)
  | (refine ⟨_, _, _, _, rfl, rfl, (by walk_at "hp"), rfl, ?_⟩)
  | (refine Or.inl ⟨_, rfl, ?_⟩)))
section
variable {P : Program} {w : World} {K : PySem.W.Frag} {mg : PySem.Str → Option Value} {base : Heap} {kl : Cl}
theorem ok_dearest (T : Facts K mg kl) : Keeps P w K mg base CX0 9 "dearest" ["machine", "number", "least"] (spDearest kl.Machine) := by
  refine keeps0 T.d_dearest sc_dearest (fun vs H Q E h => ?_) (fun f cdv A outer s H vs Q E hr h => ?_)
  · obtain ⟨m, M, xs0, ss0, es0, num, rfl, _⟩ := h
    rfl
  · obtain ⟨m, M, xs0, ss0, es0, num, rfl, hM, hF, hMO, l3, l40, n1, n2, hG, k1, k2⟩ := h
    refine ⟨_, (pss_cons (ps_set (i := 3) sc_dearest.nd rfl (Or.inl rfl) (pe_mk (mk_Hunt T) hr T.g_Hunt (pa_cons (pe_own (ok_trimmed T) hr (pa_cons (pv 0) pa_nil)) (pa_cons (pv 1) (pa_cons (pv 2) pa_nil)))))
  (pss_cons (ps_expr (pe_mt0 (E := E0) T.cl_Hunt (mt_Hunt_run T) hr pass00 (pv 3)))
  (pss_one (ps_ret (pe_ifExp (pt_cmpR op_isN (pe_fld (pv 3) rfl) pe_non (nomark _)) (pe_tup (pa_cons pe_non (pa_cons pe_non pa_nil))) (pe_tup (pa_cons (pe_fld (pv 3) rfl) (pa_cons (pe_fld (pv 3) rfl) pa_nil)))))))), ?_⟩
    refine ⟨_, rfl, m, M, xs0, ss0, es0, rfl, hM, hF, hMO, fun q R F1 F2 H1 fq hR hRF hK hRM s1 => ?_⟩
    have sub : ∀ y ∈ R.ars, y ∈ M.ars := fun y hy => (List.mem_filter.mp (hRM.ars.sub y hy).1).1
    have staM : ∀ k ∈ R.sta, k ∈ M.sta := fun k hk => by
      rcases (hRM.sta.2 k).mp hk with h1 | h1 | ⟨x, hx, h1 | h1⟩
      · exact hF.st k (List.mem_filter.mp h1).1
      · exact hF.en k (List.mem_filter.mp h1).1
      · rw [h1]
        exact (hF.ar x (sub x hx)).1
      · rw [h1]
        exact (hF.ar x (sub x hx)).2
    have nQ := asc_nodup hRM.sta.1
    have lQ : R.sta.length ≤ 3 := Nat.le_trans (nodup_le nQ staM) l3
    have lL : R.lets.length ≤ 40 := by
      refine Nat.le_trans (nodup_le (asc_nodup hRM.lets.1) fun l hl => ?_) l40
      obtain ⟨x, hx, rfl⟩ := (hRM.lets.2 l).mp hl
      exact hF.all x (sub x hx)
    have lA : ∀ l ∈ R.lets, ∃ x ∈ R.ars, x.l = l := fun l hl => by
      obtain ⟨x, hx, rfl⟩ := (hRM.lets.2 l).mp hl
      exact ⟨x, hx, rfl⟩
    have lE : R.ens.length ≤ 3 := Nat.le_trans (nodup_le (asc_nodup hRM.ens.1) fun e he => staM e (hRF.en e he)) l3
    refine ⟨_, rfl, _, rfl, fun x dx nx ndx nex => ?_⟩
    have sX : Same H1 (upd (upd H1 dx (.own x)) x (.ins kl.Hunt dx [])) := fun b o e => by
      rw [upd_ne (ne_of_none e nx), upd_ne (ne_of_none e ndx)]
      exact e
    refine ⟨x, dx, q, R, num, num, rfl, upd_same, hR.same sX, hRF, nQ, lQ, n1, n2, lA, fun h rs H2 hrest rl hA keep => ⟨rfl, ?_⟩⟩
    have hO : HOk ⟨R.ars, R.sts, R.ens, R.sta, R.lets, rs, num⟩ := ⟨n1, n2, fun x hx => ⟨(hRF.ok x hx).c0, (hRF.ok x hx).c1⟩, hRF.ar, hRF.all, lA, hRF.en, by show R.ens.length ≤ 40; omega, nQ, lQ, hRM.lets.1, lL, fun l hl => by obtain ⟨x, hx, rfl⟩ := lA l hl; exact (hRF.ok x hx).l, hrest, hRF.l4, rl⟩
    have hGR : GBd R.ars num := by
      obtain ⟨g, g0, g1, hA⟩ := hG.ex
      exact ⟨⟨g, g0, g1, fun x hx => hA x (sub x hx)⟩⟩
    have SH : ∀ H3, Same (hid (hdyn x h) H2) (hid (hdyn x h) H3) → Same H H3 := fun H3 e b o hb => by
      have h1 := s1 _ _ hb
      have h2 := sX _ _ h1
      have h3 : hid [x] (upd (upd H1 dx (.own x)) x (.ins kl.Hunt dx [])) b = some o := hid_of h2 (by
        intro c
        rw [List.mem_singleton.mp c, nx] at h1
        cases h1)
      exact hid_sub _ _ (e _ _ (keep _ _ h3))
    have dk : ∀ u, Dear R.ars R.sts R.ens num u ↔ Dear M.ars M.sts M.ens num u := fun u => dear_kept hK hRM
    refine ⟨_, rfl, x, dx, _, rfl, hA.ins, hfs_no (by decide +kernel), x, dx, h, ⟨R.ars, R.sts, R.ens, R.sta, R.lets, rs, num⟩, 2744, rfl, hA, hO, hbd_of hO hGR, by decide, ?_, ?_⟩
    · intro Sn kvs us H3 hA3 nd SG
      refine ⟨_, rfl, x, kl.Hunt, dx, _, _, rfl, hA3.ins, T.cl_Hunt, T.n_Hunt_dearest_row, look_zip 2 rfl rfl hkeys_nd, rfl, _, rfl, iteT ⟨Nat.le_of_ble_eq_true rfl, fun t ht => ?_⟩⟩
      exact k1 t _ upd_same ((SH H3 SG).trans (same_new ht)) fun u hu => nd u ((dk u).mpr hu)
    · intro z Sn kvs us H3 hA3 hzl hd hmin SG
      refine ⟨_, rfl, x, kl.Hunt, dx, _, _, rfl, hA3.ins, T.cl_Hunt, T.n_Hunt_dearest_row, look_zip 2 rfl rfl hkeys_nd, rfl, _, rfl, iteF ⟨_, rfl, x, kl.Hunt, dx, _, _, rfl, hA3.ins, T.cl_Hunt, T.n_Hunt_greatest_price, look_zip 1 rfl rfl hkeys_nd, _, rfl, x, kl.Hunt, dx, _, _, rfl, hA3.ins, T.cl_Hunt, T.n_Hunt_dearest_row, look_zip 2 rfl rfl hkeys_nd, Nat.le_of_ble_eq_true rfl, fun t ht => ?_⟩⟩
      exact k2 t z _ upd_same ((SH H3 SG).trans (same_new ht)) hzl ((dk _).mp hd) fun y hy hn => hmin y hy ((dk y).mpr hn)
theorem ok_above (T : Facts K mg kl) : Keeps P w K mg base CX0 10 "above" ["machine", "number"] (spAbove kl.Machine) := by
  refine keeps0 T.d_above sc_above (fun vs H Q E h => ?_) (fun f cdv A outer s H vs Q E hr h => ?_)
  · obtain ⟨m, M, xs0, ss0, es0, num, rfl, _⟩ := h
    rfl
  · obtain ⟨m, M, xs0, ss0, es0, num, rfl, hM, hF, hMO, l3, l40, n1, n2, hG, k⟩ := h
    have k1 : ∀ (H' : Hp), Same H H' → (∀ u, ¬ Dear M.ars M.sts M.ens num u) → Q .non H' := fun H' s h => k _ H' s (.inl ⟨rfl, h⟩)
    have k2 : ∀ (z : PySem.Str) (H' : Hp), Same H H' → (sgnL z).length ≤ 4001 → Dear M.ars M.sts M.ens num (sgnL z) → (∀ y, slt y (sgnL z) → ¬ Dear M.ars M.sts M.ens num y) → Q (.str z) H' := fun z H' s h1 h2 h3 => k _ H' s (.inr ⟨z, rfl, h1, h2, h3⟩)
    refine ⟨_, (pss_cons (ps_if (PW.pt (pw_or (pt_not (pt_val (pe_own (ok_is_integer T) hr (pa_cons (pv 1) pa_nil)))) (pw_or (pt_cmpR op_lt (pv 1) (pe_cst T.c_LEAST_NUMBER) (nomark _)) (pw_or1 (pt_cmpR op_gt (pv 1) (pe_cst T.c_GREATEST_NUMBER) (nomark _))))))
  (pss_one ps_never)
  pss_nil)
  (pss_cons (ps_asg (pe_own (ok_dearest T) hr (pa_cons (pv 0) (pa_cons (pv 1) (pa_cons (pv 1) pa_nil)))) (kpg_tup K rfl (pgs_cons (pg_name (i := 2) sc_above.nd rfl (Or.inl rfl)) (pgs_cons (pg_name (i := 3) sc_above.nd rfl (Or.inl rfl)) pgs_nil))))
  (pss_one (ps_ret (pv 3))))), ?_⟩
    refine ⟨_, rfl, .int num, "int", rfl, .base (.int _), by simp, _, rfl, iteF ?_⟩
    refine ⟨_, rfl, _, _, rfl, rfl, _, rfl, ?_⟩
    rw [decide_eq_false (show ¬ (num < -1) by omega)]
    refine iteF ⟨_, rfl, _, _, rfl, rfl, _, rfl, ?_⟩
    rw [decide_eq_false (show ¬ (1000 < num) by omega)]
    refine iteF ?_
    refine ⟨_, rfl, _, rfl, _, rfl, m, M, xs0, ss0, es0, num, rfl, hM, hF, hMO, l3, l40, n1, n2, hG, ?_, ?_⟩
    · intro t H' ht sH nd
      exact ⟨t, _, rfl, SqT.of ht, rfl, _, _, rfl, _, _, rfl, rfl, _, rfl, k1 H' sH nd⟩
    · intro t z H' ht sH hzl hd hmin
      exact ⟨t, _, rfl, SqT.of ht, rfl, _, _, rfl, _, _, rfl, rfl, _, rfl, k2 z H' sH hzl hd hmin⟩
end
end Pf
namespace Pf
open PySem PySem.Spec PyProof.Rows L2 Bz
local macro_rules | `(tactic| walk_at "sd") => `(tactic| first
  | rfl | assumption | omega | exact Nat.le_of_ble_eq_true rfl | decide | (refine Or.inl (And.intro ?_ ?_) <;> omega) | (refine Or.inr (And.intro ?_ ?_) <;> omega) | (refine And.intro ?_ ?_ <;> omega) | (refine ⟨?_, ?_, ?_⟩ <;> omega))
local macro_rules | `(tactic| walk_at "sq") => `(tactic| first | assumption | exact SqL.of (by assumption) | exact SqT.of (by assumption) | exact SqL.of upd_same | exact SqT.of upd_same)
local macro_rules | `(tactic| walk_at "hp") => `(tactic| first | assumption | exact upd_same)
local macro_rules | `(tactic| walk_at "rd") => `(tactic| repeat (first
  | (refine ⟨_, rfl, ?_⟩) | (refine ⟨_, _, rfl, rfl, ?_⟩) | (refine ⟨rfl, ?_⟩) | (refine And.intro (by walk_at "sd") ?_)
  | (refine ⟨_, _, _, _, rfl, rfl, (by walk_at "sq"), rfl, ?_⟩)
  | (refine ⟨_, _, _, _, rfl, rfl, (by walk_at "hp"), rfl, ?_⟩)
  | (refine Or.inl ⟨_, rfl, ?_⟩)))
section
variable {P : Program} {w : World} {K : PySem.W.Frag} {mg : PySem.Str → Option Value} {base : Heap} {kl : Cl}
theorem fn_law (T : Facts K mg kl) {f : Addr} {fd : FuncData} (F : Fun K "law" "law" s_law f fd) : FnOk P w K mg base CX0 11 f fd ["_law_script"] (spLaw K) := by
  refine F.ok sc_law (fun vs H Q E h => ?_) (fun cdv A outer s H vs Q E hr h => ?_)
  · obtain ⟨a, ns, rfl, _⟩ := h
    rfl
  · obtain ⟨a, ns, rfl, ha, k⟩ := h
    refine ⟨_, (pss_cons (ps_set (i := 1) sc_law.nd rfl (Or.inr rfl) (pe_own (ok__law_source T) hr (pa_cons (pv 0) pa_nil)))
  (pss_cons (ps_set (i := 2) sc_law.nd rfl (Or.inr rfl) (pe_own (ok__law_machine T) hr (pa_cons (pv 1) (pa_cons pe_int (pa_cons pe_int (pa_cons pe_int pa_nil))))))
  (pss_cons (ps_asg (pe_tup (pa_cons (pe_lst (pa_cons pe_int (pa_cons pe_int (pa_cons pe_int pa_nil)))) (pa_cons (pe_op op_sub (pe_own (ok__law_draw T) hr (pa_cons (pv 1) (pa_cons pe_int pa_nil))) pe_int) pa_nil))) (kpg_tup K rfl (pgs_cons (pg_name (i := 3) sc_law.nd rfl (Or.inr rfl)) (pgs_cons (pg_name (i := 4) sc_law.nd rfl (Or.inr rfl)) pgs_nil))))
  (Evl.pss_cut (ps_if (pt_cmpR op_eq (pe_own (ok__law_draw T) hr (pa_cons (pv 1) (pa_cons pe_int pa_nil))) pe_int (nomark _))
  (pss_one (ps_asg (pe_tup (pa_cons (pe_lst (pa_cons pe_int (pa_cons pe_int (pa_cons pe_int pa_nil)))) (pa_cons (pe_ix (kix_list K) (pe_lst (pa_cons pe_int (pa_cons pe_int (pa_cons pe_int (pa_cons pe_int (pa_cons pe_int (pa_cons pe_int (pa_cons pe_int (pa_cons pe_int pa_nil))))))))) (pe_own (ok__law_draw T) hr (pa_cons (pv 1) (pa_cons pe_int pa_nil))) (fun _ _ => rfl)) pa_nil))) (kpg_tup K rfl (pgs_cons (pg_name (i := 3) sc_law.nd rfl (Or.inr rfl)) (pgs_cons (pg_name (i := 4) sc_law.nd rfl (Or.inr rfl)) pgs_nil)))))
  pss_nil)
  (pss_cons (ps_set (i := 2) sc_law.nd rfl (Or.inr rfl) (pe_tup (pa_cons (pe_lc (own := [("_law_arrow", 13)]) (g := gName 13) (tt := tYes) rfl sc_law.nd (kpi_list K (pe_ix (kix_tup K) (pv 2) pe_int (fun _ _ => rfl))) (blkOk_by (own := [("_law_arrow", 13)]) (N := N_law) (sc := defScope s_law) (by decide +kernel)) (fun _ _ _ _ _ => (pg_name (i := 13) sc_law.nd rfl (Or.inl rfl))) (fun _ _ _ _ _ => pts_nil) (fun _ _ _ _ _ => (pe_op (kcatT K) (pe_slice (ksl_tup K) (pv 13) po_none (po_some pe_int)) (pe_tup (pa_cons (pe_ix (kix_list K) (pv 3) (pe_callB (call_min2 rfl) (by rfl) T.b_min (by decide +kernel) (pa_cons (pe_ix (kix_tup K) (pv 13) pe_int (fun _ _ => rfl)) (pa_cons pe_int pa_nil))) (fun _ _ => rfl)) pa_nil))))) (pa_cons (pe_ix (kix_tup K) (pv 2) pe_int (fun _ _ => rfl)) (pa_cons (pe_ix (kix_tup K) (pv 2) pe_int (fun _ _ => rfl)) pa_nil)))))
  (pss_cons (ps_set (i := 5) sc_law.nd rfl (Or.inl rfl) (pe_mk (mk_Machine T) hr T.g_Machine (pa_cons (pe_ix (kix_tup K) (pv 2) pe_int (fun _ _ => rfl)) (pa_cons (pe_ix (kix_tup K) (pv 2) pe_int (fun _ _ => rfl)) (pa_cons (pe_ix (kix_tup K) (pv 2) pe_int (fun _ _ => rfl)) pa_nil)))))
  (pss_cons (ps_set (i := 6) sc_law.nd rfl (Or.inr rfl) (pe_own (ok__law_letters T) hr (pa_cons (pv 2) pa_nil)))
  (pss_cons (ps_set (i := 7) sc_law.nd rfl (Or.inl rfl) (pe_own (ok_above T) hr (pa_cons (pv 5) (pa_cons (pv 4) pa_nil))))
  (pss_cons (ps_set (i := 8) sc_law.nd rfl (Or.inl rfl) pe_non)
  (pss_cons (ps_for PassesOwn.never rfl (kpi_list K (pe_own (ok__law_rows T) hr (pa_cons (pv 6) (pa_cons pe_int pa_nil)))) (pg_name (i := 9) sc_law.nd rfl (Or.inl rfl))
  (pss_cons (ps_set (i := 10) sc_law.nd rfl (Or.inl rfl) (pe_own (ok__law_price T) hr (pa_cons (pv 2) (pa_cons (pv 9) pa_nil))))
  (pss_one (ps_if (PW.pt (pw_and (pt_cmpR op_isN (pv 8) pe_non (nomark _)) (pw_and (pt_cmpR op_notN (pv 10) pe_non (nomark _)) (pw_and1 (pt_cmpR op_gt (pv 10) (pv 4) (nomark _))))))
  (pss_one (ps_set (i := 8) sc_law.nd rfl (Or.inl rfl) (pv 9)))
  pss_nil))))
  (pss_cons (ps_if (PW.pt (pw_or (pt_cmpR op_notN (pv 8) pe_non (nomark _)) (pw_or1 (pt_cmpR op_isN (pv 7) pe_non (nomark _)))))
  (pss_cons (ps_setLc (i := 11) (own := [("_law_k", 14)]) (g := gName 14) (tt := tYes) rfl sc_law.nd rfl rfl (sw_true rfl rfl rfl (by decide +kernel)) (pi_range1 (by rfl) T.b_range (pa_cons pe_int pa_nil)) (blkOk_by (own := [("_law_k", 14)]) (N := N_law) (sc := defScope s_law) (by decide +kernel)) (fun _ _ _ _ _ => (pg_name (i := 14) sc_law.nd rfl (Or.inl rfl))) (fun _ _ _ _ _ => pts_nil) (fun _ _ _ _ _ => (pe_own (ok__law_price T) hr (pa_cons (pv 2) (pa_cons (pe_own (ok__law_waves T) hr (pa_cons (pv 1) (pa_cons (pv 6) (pa_cons pe_int pa_nil)))) pa_nil)))))
  (pss_cons (ps_setLc (i := 12) (own := [("_law_found", 10)]) (g := gName 10) rfl sc_law.nd rfl rfl (sw_true rfl rfl rfl (by decide +kernel)) (kpi_list K (pv 11)) (blkOk_by (own := [("_law_found", 10)]) (N := N_law) (sc := defScope s_law) (by decide +kernel)) (fun _ _ _ _ _ => (pg_name (i := 10) sc_law.nd rfl (Or.inl rfl))) (fun _ _ _ _ _ => pts_one (PW.pt (pw_and (pt_cmpR op_notN (pv 10) pe_non (nomark _)) (pw_and1 (pt_cmpR op_gt (pv 10) (pv 4) (nomark _)))))) (fun _ _ _ _ _ => (pv 10)))
  (pss_one (ps_ret (pe_and (pe_cmpR op_eq (pv 7) (pv 8) (nomark _)) (pe_one (pe_or (pe_cmpR op_notN (pv 7) pe_non (nomark _)) (pe_one (pe_cmpR (keqD K hr.units) (pv 12) (pe_lst pa_nil) (nomark _))))))))))
  pss_nil)
  (pss_cons (ps_set (i := 10) sc_law.nd rfl (Or.inl rfl) (pe_own (ok__law_price T) hr (pa_cons (pv 2) (pa_cons (pv 7) pa_nil))))
  (pss_one (ps_ret (pe_and (pe_cmpR op_gt (pe_callB call_len_str (by rfl) T.b_len (by decide +kernel) (pa_cons (pv 7) pa_nil)) pe_int (nomark _)) (pe_and (pe_cmpR op_notN (pv 10) pe_non (nomark _)) (pe_one (pe_cmpR op_gt (pv 10) (pv 4) (nomark _))))))))))))))))))), ?_⟩
    refine ⟨_, rfl, a, ns, rfl, ha, fun p H1 hp hS s1 => ?_⟩
    refine ⟨_, rfl, p, 3, 2, 7, 0, rfl, hS, by omega, by omega, by omega, by omega, by omega, by omega, by omega, fun q xs ss es H2 hq hMd hOk g2 => ?_⟩
    obtain ⟨a1, a2, a3, vs, nq, n1, n2, n3, hq2, h1, hA, h2, h3⟩ := hMd
    have hxO := ok_of hOk
    obtain ⟨nms, hn1, hn2, hnd, hn4, hn5, hn6⟩ := hOk.nms
    have hlen := hOk.len
    have hsl := hOk.slen
    have hel := hOk.elen
    -- the costs and the number
    refine ⟨Nat.le_of_ble_eq_true rfl, fun c1 hc1 => ?_⟩
    have g3 := g2.same (same_new (o := .lst [V.int 0, .int 1, .int 2]) hc1)
    have c1p := g2.ne hc1
    have ec1 := upd_same (H := H2) (a := c1) (o := .lst [V.int 0, .int 1, .int 2])
    have x3 := Same.ext (p := p) (same_new (o := .lst [V.int 0, .int 1, .int 2]) hc1)
    generalize upd H2 c1 (.lst [V.int 0, .int 1, .int 2]) = H3 at g3 ec1 x3 ⊢
    refine ⟨_, rfl, p, 5, _, rfl, g3.src, by omega, by omega, by omega, fun r1 H4 r10 r15 hS4 b4 => ⟨_, _, rfl, rfl, ?_⟩⟩
    have g4 := g3.but hS4 b4
    have ec4 := (b4 c1 c1p).trans ec1
    refine ⟨Nat.le_of_ble_eq_true rfl, fun t1 ht1 => ?_⟩
    have s5 := same_new (o := .tup [V.ref c1, .int (r1 - 1)]) ht1
    have e5 := upd_same (H := H4) (a := t1) (o := .tup [V.ref c1, .int (r1 - 1)])
    have g5 := g4.same s5
    have ec5 := s5 _ _ ec4
    have x5 : Ext p H2 _ := (x3.trans b4.ext).trans (Same.ext s5)
    generalize upd H4 t1 (.tup [V.ref c1, .int (r1 - 1)]) = H5 at s5 e5 g5 ec5 x5 ⊢
    refine ⟨t1, _, rfl, SqT.of e5, rfl, _, _, rfl, _, _, rfl, rfl, ?_⟩
    refine ⟨fun σ' H' => ∃ (cA : Addr) (cs : List Int) (num : Int), σ' = [some (.ref a), some (.ref p), some (.ref q), some (.ref cA), some (.int num), none, none, none, none, none, none, none, none, none, none] ∧ H' cA = some (.lst (cs.map V.int)) ∧ cA ≠ p ∧ CN cs num ∧ Go p 400 H1 H' ∧ Ext p H2 H', ?_, ?_⟩
    · refine ⟨_, rfl, p, 4, _, rfl, g5.src, by omega, by omega, by omega, fun r2 H6 r20 r25 hS6 b6 => ?_⟩
      have g6 := g5.but hS6 b6
      have x6 := x5.trans b6.ext
      have ec6 := (b6 c1 c1p).trans ec5
      refine ⟨rfl, _, rfl, ite2 (fun c => ?_) (fun c => ?_)⟩
      · refine ⟨Nat.le_of_ble_eq_true rfl, fun c2 hc2 => ?_⟩
        have c2p := g6.ne hc2
        have s7 := same_new (o := .lst [V.int 0, .int 9, .int 99]) hc2
        have e7 := upd_same (H := H6) (a := c2) (o := .lst [V.int 0, .int 9, .int 99])
        have g7 := g6.same s7
        have x7 := x6.trans (Same.ext s7)
        generalize upd H6 c2 (.lst [V.int 0, .int 9, .int 99]) = H7 at s7 e7 g7 x7 ⊢
        refine ⟨Nat.le_of_ble_eq_true rfl, fun c3 hc3 => ?_⟩
        have c3p := g7.ne hc3
        have s8 := same_new (o := .lst [V.int 8, .int 9, .int 17, .int 18, .int 98, .int 99, .int 100, .int 107]) hc3
        have e8 := upd_same (H := H7) (a := c3) (o := .lst [V.int 8, .int 9, .int 17, .int 18, .int 98, .int 99, .int 100, .int 107])
        have g8 := g7.same s8
        have x8 := x7.trans (Same.ext s8)
        generalize upd H7 c3 (.lst [V.int 8, .int 9, .int 17, .int 18, .int 98, .int 99, .int 100, .int 107]) = H8 at s8 e8 g8 x8 ⊢
        refine ⟨_, rfl, p, 8, _, rfl, g8.src, by omega, by omega, by omega, fun r3 H9 r30 r38 hS9 b9 => ?_⟩
        have g9 := g8.but hS9 b9
        have x9 := x8.trans b9.ext
        have ec9 := (b9 c2 c2p).trans (s8 _ _ e7)
        obtain ⟨v, hv, hat⟩ := atI_of (xs := [V.int 8, .int 9, .int 17, .int 18, .int 98, .int 99, .int 100, .int 107]) r30 (by simpa using r38)
        obtain ⟨num, rfl, hn0, hn1⟩ : ∃ num : Int, v = .int num ∧ 0 ≤ num ∧ num ≤ 107 := by
          simp only [List.mem_cons, List.not_mem_nil, or_false] at hv
          rcases hv with rfl | rfl | rfl | rfl | rfl | rfl | rfl | rfl <;> exact ⟨_, rfl, by omega, by omega⟩
        refine ⟨c3, _, _, _, rfl, rfl, SqL.of ((b9 c3 c3p).trans e8), hat, ?_⟩
        refine ⟨Nat.le_of_ble_eq_true rfl, fun t2 ht2 => ?_⟩
        have s10 := same_new (o := .tup [V.ref c2, .int num]) ht2
        refine ⟨t2, _, rfl, SqT.of upd_same, rfl, _, _, rfl, _, _, rfl, rfl, ?_⟩
        exact ⟨c2, [0, 9, 99], num, rfl, s10 _ _ ec9, c2p, .inr ⟨rfl, hn0, hn1⟩, (g9.same s10).mono (by omega), x9.trans (Same.ext s10)⟩
      · exact ⟨c1, [0, 1, 2], r1 - 1, rfl, ec6, c1p, .inl ⟨rfl, by omega, by omega⟩, g6.mono (by omega), x6⟩
    · rintro σ' H6 ⟨cA, cs, num, rfl, hcA, ncA, hCN, g6, x6⟩
      have hq6 := x6 _ _ nq hq2
      have h16 := x6 _ _ n1 h1
      have hA6 := (hA.ext x6)
      have h26 := x6 _ _ n2 h2
      have h36 := x6 _ _ n3 h3
      have vl : vs.length = xs.length := Paired.length hA.s
      -- the arrows, with these costs
      refine ⟨_, rfl, q, _, 0, _, rfl, rfl, SqT.of hq6, rfl, a1, rfl, ⟨_, SqL.of h16⟩, fun D hD => lcA walk_list (fun i acc H' => ArD D H' acc ((xs.take i).map (reC cs)) ∧ Same H6 H') ⟨.nil, .refl _⟩ (fun i acc H' o h => ⟨h.1.upd, same_mut h.2 hD⟩) (fun i acc H' _ h => SqL.of (h.2 _ _ h16)) ?_ ?_⟩
      · rintro i v acc _ H7 hi ⟨hP, s7⟩ hB hl7 ⟨rfl, hv⟩
        obtain ⟨r, y, rfl, hy, hr0⟩ := ArS.get (hA6.s.same s7) hv
        have ym := List.mem_of_getElem? hy
        have yc := hOk.cost y ym
        have cl : cs.length = 3 := by
          rcases hCN with ⟨rfl, _⟩ | ⟨rfl, _⟩ <;> rfl
        refine ⟨rfl, _, rfl, _, rfl, r, _, rfl, SqT.of hr0, by simp [HT.sIx, Arw.vals], fun p1 hp1 => ?_⟩
        have s8 := same_new (o := .tup [V.str y.s, .str y.l, .str y.t]) hp1
        have e8 := upd_same (H := H7) (a := p1) (o := .tup [V.str y.s, .str y.l, .str y.t])
        rw [show cutV y.vals none (some 3) = [V.str y.s, .str y.l, .str y.t] from rfl]
        generalize upd H7 p1 (.tup [V.str y.s, .str y.l, .str y.t]) = H8 at s8 e8 ⊢
        have s68 := s7.trans s8
        have hat : atI (cs.map V.int) (if (2 : Int) < y.c then 2 else y.c) = some (.int (reC cs y).c) := by
          obtain ⟨m, e1, e2, e3⟩ : ∃ m : Nat, (if (2 : Int) < y.c then 2 else y.c) = (m : Int) ∧ m < 3 ∧ (min y.c 2).toNat = m := by
            refine ⟨(min y.c 2).toNat, ?_, by omega, rfl⟩
            split <;> omega
          rw [e1]
          refine atI_map (atI_nat ?_)
          show cs[m]? = some (cs[(min y.c 2).toNat]?.getD 0)
          rw [e3, List.getElem?_eq_getElem (by omega)]
          rfl
        refine ⟨_, rfl, _, rfl, r, _, 3, _, rfl, rfl, SqT.of (s8 _ _ hr0), rfl, y.c, 2, rfl, cA, _, _, _, rfl, rfl, SqL.of (s68 _ _ hcA), hat, ?_⟩
        refine ⟨Nat.le_of_ble_eq_true rfl, fun p2 hp2 => ?_⟩
        have s9 := same_new (o := .tup [V.int (reC cs y).c]) hp2
        have e9 := upd_same (H := H8) (a := p2) (o := .tup [V.int (reC cs y).c])
        generalize upd H8 p2 (.tup [V.int (reC cs y).c]) = H9 at s9 e9 ⊢
        refine ⟨p1, p2, _, _, rfl, rfl, SqT.of (s9 _ _ e8), SqT.of e9, by simp, Nat.le_of_ble_eq_true rfl, (fun c => by cases c), fun _ p3 hp3 => ?_⟩
        have s10 := same_new (o := .tup ([V.str y.s, .str y.l, .str y.t] ++ [V.int (reC cs y).c])) hp3
        have e10 := upd_same (H := H9) (a := p3) (o := .tup ([V.str y.s, .str y.l, .str y.t] ++ [V.int (reC cs y).c]))
        generalize upd H9 p3 (.tup ([V.str y.s, .str y.l, .str y.t] ++ [V.int (reC cs y).c])) = H10 at s10 e10 ⊢
        have s710 := (s8.trans s9).trans s10
        have hB10 := s710 _ _ hB
        have n3D : p3 ≠ D := fun e => by
          rw [e, hB10] at e10
          cases e10
        refine LcP.put (fun i acc H' o h => ⟨h.1.upd, same_mut h.2 hD⟩) hB10 hl7 (by omega) ⟨?_, s7.trans s710⟩
        rw [List.take_add_one, hy, Option.toList_some, List.map_append]
        exact (hP.keep s710).snoc (x := reC cs y) n3D e10
      · rintro acc H7 ⟨hP, s7⟩ hB hl7
        rw [vl, List.take_length] at hP
        have hPs := hP.ars
        refine ⟨_, rfl, q, _, 1, _, rfl, rfl, SqT.of (s7 _ _ hq6), rfl, _, rfl, q, _, 2, _, rfl, rfl, SqT.of (s7 _ _ hq6), rfl, Nat.le_of_ble_eq_true rfl, fun q2 hq2' => ?_⟩
        have s8 := same_new (o := .tup [V.ref D, .ref a2, .ref a3]) hq2'
        have e8 := upd_same (H := H7) (a := q2) (o := .tup [V.ref D, .ref a2, .ref a3])
        generalize upd H7 q2 (.tup [V.ref D, .ref a2, .ref a3]) = H8 at s8 e8 ⊢
        have s68 := s7.trans s8
        have nD : D ≠ p := g6.ne hD
        have ML : MadeL K H8 q2 D a2 a3 acc (xs.map (reC cs)) ss es := ⟨e8, SqL.of (s8 _ _ hB), hPs.same s8, SqL.of (s68 _ _ h26), SqL.of (s68 _ _ h36)⟩
        have g8 := g6.same s68
        have xO : ∀ x ∈ xs.map (reC cs), x.Ok := fun x hx => by
          obtain ⟨y, hy, rfl⟩ := List.mem_map.mp hx
          have o := hxO y hy
          have b := cn_bd hCN (reC_mem hCN (hOk.cost y hy).1)
          exact ⟨o.s, o.l, o.t, b.1, b.2⟩
        have xl : (xs.map (reC cs)).length = xs.length := List.length_map ..
        have xn : ∀ x ∈ xs.map (reC cs), x.s ∈ nms ∧ x.t ∈ nms := fun x hx => by
          obtain ⟨y, hy, rfl⟩ := List.mem_map.mp hx
          exact hn4 y hy
        have xc : ∀ x ∈ xs.map (reC cs), x.c ∈ cs := fun x hx => by
          obtain ⟨y, hy, rfl⟩ := List.mem_map.mp hx
          exact reC_mem hCN (hOk.cost y hy).1
        have xL : ∀ x ∈ xs.map (reC cs), x.l ∈ (["a", "b", "c", "d"] : List PySem.Str) := fun x hx => by
          obtain ⟨y, hy, rfl⟩ := List.mem_map.mp hx
          exact hOk.lets y hy
        generalize xs.map (reC cs) = zs at ML xO xl xn xc xL
        -- the machine
        refine ⟨_, rfl, q2, _, 0, _, rfl, rfl, SqT.of ML.m, rfl, _, rfl, q2, _, 1, _, rfl, rfl, SqT.of ML.m, rfl, _, rfl, q2, _, 2, _, rfl, rfl, SqT.of ML.m, rfl, fun x dx nx ndx nex => ?_⟩
        have sB : Same H8 (upd (upd H8 dx (.own x)) x (.ins kl.Machine dx [])) := fun b o e => by
          rw [upd_ne (ne_of_none e nx), upd_ne (ne_of_none e ndx)]
          exact e
        have MB := ML.same sB
        refine ⟨x, D, a2, a3, dx, acc, zs, ss, es, nms, rfl, upd_same, .inl MB.a, MB.as, xO, by omega, .inl MB.b, .inl MB.e, fun s hs => hn1 s (hn5 s hs), fun s hs => hn1 s (hn6 s hs), by omega, by omega, by omega, hn5, hn6, xn, fun M H9 hMach hMOf keep => ⟨rfl, ?_⟩⟩
        have s9 : Same H8 H9 := fun b o e => keep b o (ne_of_none e nx) (sB b o e)
        have hF : MFine M := fine_of hMOf xO (by omega) hn1 (by omega) hn5 hn6 xn
        have g9 := g8.same s9
        have ML9 := ML.same s9
        clear keep sB MB
        -- the letters
        refine ⟨_, rfl, q2, D, a2, a3, acc, zs, ss, es, rfl, ML9, by omega, fun r1 lo H10 f10 e10 hlo hasc s10 => ?_⟩
        have g10 := g9.same s10
        have r1p := g9.ne f10
        have hM10 := hMach.same s10
        have sta3 : M.sta.length ≤ 3 := by
          have := nodup_le (asc_nodup hMOf.sta.1) (fun k hk => by
            rcases (hMOf.sta.2 k).mp hk with h1 | h1 | ⟨y, hy, h1⟩
            · exact hn5 k h1
            · exact hn6 k h1
            · have := xn y (hMOf.ars.sub y hy).1
              rcases h1 with rfl | rfl
              · exact this.1
              · exact this.2 : ∀ k ∈ M.sta, k ∈ nms)
          omega
        have let40 : M.lets.length ≤ 40 := by
          have := nodup_le (ts := M.ars.map Arw.l) (asc_nodup hMOf.lets.1) fun k hk => by
            obtain ⟨y, hy, rfl⟩ := (hMOf.lets.2 k).mp hk
            exact List.mem_map.mpr ⟨y, hy, rfl⟩
          rw [List.length_map] at this
          have h2 := nodup_le (cheap_nodup hMOf.ars) fun y hy => (hMOf.ars.sub y hy).1
          omega
        have nb : -1 ≤ num ∧ num ≤ 300 := by rcases hCN with ⟨_, h1, h2⟩ | ⟨_, h1, h2⟩ <;> omega
        -- above
        refine ⟨_, rfl, _, rfl, x, M, zs, ss, es, num, rfl, hM10, hF, hMOf, sta3, let40, nb.1, nb.2, cn_gbd hCN fun y hy => xc y (hMOf.ars.sub y hy).1, fun v H11 s11 hv => ?_⟩
        have g11 := g10.same s11
        have loLt : ∀ l ∈ lo, Lt l := fun l hl => by
          obtain ⟨y, hy, rfl⟩ := (hlo l).mp hl
          exact (xO y hy).l
        have lo4 : lo.length ≤ 4 := nodup_le (ts := (["a", "b", "c", "d"] : List PySem.Str)) (asc_nodup hasc) fun l hl => by
          obtain ⟨y, hy, rfl⟩ := (hlo l).mp hl
          exact xL y hy
        have lone : lo ≠ [] := fun z => by
          obtain ⟨x0, hx0⟩ := List.exists_mem_of_length_pos (l := zs) (by omega)
          have := (hlo x0.l).mpr ⟨x0, hx0, rfl⟩
          rw [z] at this
          cases this
        have loM : ∀ l ∈ M.lets, l ∈ lo := fun l hl => by
          obtain ⟨y, hy, rfl⟩ := (hMOf.lets.2 l).mp hl
          exact (hlo y.l).mpr ⟨y, (hMOf.ars.sub y hy).1, rfl⟩
        have dO : ∀ (r : PySem.Str) (o : Option Int), LPr zs ss es (sgnL r) o → (Dear M.ars M.sts M.ens num (sgnL r) ↔ ∃ c, o = some c ∧ num < c) := fun r o h => ⟨fun ⟨c, hc, k⟩ => ⟨c, LPr.uniq h ((LPr.cheap hMOf.ars hMOf.sts.2 hMOf.ens.2).mp hc), k⟩, fun ⟨c, e, k⟩ => ⟨c, (LPr.cheap hMOf.ars hMOf.sts.2 hMOf.ens.2).mpr (e ▸ h), k⟩⟩
        -- all rows
        refine ⟨_, rfl, r1, lo, 6, rfl, SqL.of (s11 _ _ e10), loLt, lo4, by omega, fun r2 rs H12 f12 e12 hrs s12 => ?_⟩
        have g12 := g11.same s12
        have r2p := g11.ne f12
        have ML12 := ((ML9.same s10).same s11).same s12
        have sr : (rs.map sgnL).Pairwise slt := by
          rw [hrs]
          exact allW_sorted hasc 6
        have rl : ∀ r ∈ rs, r.length ≤ 6 := fun r hr => by
          have : sgnL r ∈ allW lo 6 := by
            rw [← hrs]
            exact List.mem_map.mpr ⟨r, hr, rfl⟩
          have := (mem_allW.mp this).1
          rwa [sgn_len] at this
        refine ⟨r2, rfl, ⟨_, SqL.of e12⟩, ?_⟩
        refine for_list (K := K) (a := r2) (xs := rs.map V.str) (fun i σ H' => ∃ (fi : V) (v9 v10 : Option V), σ = [some (.ref a), some (.ref p), some (.ref q2), some (.ref cA), some (.int num), some (.ref x), some (.ref r1), some v, some fi, v9, v10, none, none, none, none] ∧ FstR (Dear M.ars M.sts M.ens num) rs i fi ∧ Same H12 H') ⟨_, _, _, rfl, .inl ⟨rfl, fun r hr => by cases hr⟩, .refl _⟩ (fun i σ H' _ ⟨_, _, _, _, _, e⟩ => SqL.of (e _ _ e12)) ?_ ?_
        · rintro i v0 σ H13 hi ⟨fi, v9, v10, rfl, hfi, s13⟩
          obtain ⟨r, rfl, hr⟩ := map_str hi
          have rm := List.mem_of_getElem? hr
          have r6 := rl r rm
          refine ⟨_, rfl, _, rfl, q2, D, a2, a3, acc, zs, ss, es, r, rfl, ML12.same s13, by omega, by omega, by omega, by omega, fun o H14 ho s14 => ?_⟩
          have hd := dO r o ho
          have s1314 := s13.trans s14
          have tk : rs.take (i + 1) = rs.take i ++ [r] := by rw [List.take_add_one, hr]; rfl
          rcases hfi with ⟨rfl, hno⟩ | hfound
          · have stay : ¬ Dear M.ars M.sts M.ens num (sgnL r) → FstR (Dear M.ars M.sts M.ens num) rs (i + 1) .non := fun nd => .inl ⟨rfl, fun r' hr' => by
              rw [tk] at hr'
              rcases List.mem_append.mp hr' with h | h
              · exact hno r' h
              · rw [List.mem_singleton.mp h]
                exact nd⟩
            refine ⟨_, rfl, rfl, _, rfl, ?_⟩
            refine iteT ?_
            cases o with
            | none =>
              refine ⟨_, rfl, rfl, _, rfl, iteF (iteF ?_)⟩
              have nd : ¬ Dear M.ars M.sts M.ens num (sgnL r) := fun h => by
                obtain ⟨c, e, _⟩ := hd.mp h
                cases e
              exact ⟨_, _, _, rfl, stay nd, s1314⟩
            | some c =>
              refine ⟨_, rfl, rfl, _, rfl, iteT ⟨_, rfl, _, rfl, _, _, rfl, rfl, _, rfl, ite2 (fun k1 => ?_) (fun k1 => ?_)⟩⟩
              · have k1 := of_decide_eq_true k1
                refine ⟨_, rfl, ?_⟩
                exact ⟨_, _, _, rfl, .inr ⟨r, rfl, rm, hd.mpr ⟨c, rfl, k1⟩, fst_new sr hr hno⟩, s1314⟩
              · have nd : ¬ Dear M.ars M.sts M.ens num (sgnL r) := fun h => by
                  obtain ⟨c', e, k2⟩ := hd.mp h
                  cases e
                  exact k1 (decide_eq_true k2)
                exact ⟨_, _, _, rfl, stay nd, s1314⟩
          · obtain ⟨r0, rfl, h0⟩ := hfound
            refine ⟨_, rfl, rfl, _, rfl, iteF (iteF ?_)⟩
            exact ⟨_, _, _, rfl, .inr ⟨r0, rfl, h0⟩, s1314⟩
        · rintro σ H13 ⟨fi, v9, v10, rfl, hfi, s13⟩
          rw [List.length_map] at hfi
          have htf := told_found loM hF.all hrs hv hfi
          have g13 := g12.same s13
          have ML13 := ML12.same s13
          rcases htf with ⟨rfl, hvv, hnon⟩ | ⟨rfl, z, rfl, hz6, hzl, hdz⟩
          · refine ⟨_, rfl, rfl, _, rfl, ?_⟩
            rcases hvv with rfl | ⟨z, rfl⟩
            · refine iteF ⟨_, rfl, rfl, _, rfl, iteT ?_⟩

              -- the waves
              refine ⟨4, rfl, by omega, by omega, fun D5 hD5 => lcA walk_range (fun i acc H' => (∃ os : List (Option Int), acc = os.map optV ∧ ∀ o ∈ os, ∃ r : PySem.Str, LPr zs ss es (sgnL r) o) ∧ Go p (400 + 200 * i) H13 H') ⟨⟨[], rfl, fun o ho => (by cases ho)⟩, Go.start g13.src⟩ (fun i acc H o h => ⟨h.1, h.2.mut hD5⟩) (fun i acc H' hi h => trivial) ?_ ?_⟩
              · rintro i x1 acc5 H14 _ hi ⟨⟨os, rfl, hos⟩, g14⟩ hB5 hl5 ⟨rfl, rfl⟩
                have e14 := (((s10.trans s11).trans s12).trans s13)
                refine ⟨rfl, _, rfl, _, rfl, _, rfl, p, r1, lo, 4, 400 + 200 * i, rfl, g14.src, by omega, SqL.of (g14.get r1p (((s11.trans s12).trans s13) _ _ e10)), r1p, lone, by omega, loLt, by omega, by omega, fun r H15 hr15 g15 => ?_⟩
                have r120 := hr15.1
                have g16 := g14.trans g15
                refine ⟨q2, D, a2, a3, acc, zs, ss, es, r, rfl, ML13.ext g13.src nD n2 n3 g16.ext, by omega, by omega, by omega, by omega, fun o H16 ho s16 => ?_⟩
                have hB16 : H16 D5 = some (.lst (os.map optV)) := s16 _ _ (g15.get (g13.ne hD5) hB5)
                refine LcP.put (fun i acc H o h => ⟨h.1, h.2.mut hD5⟩) hB16 hl5 (by omega) ⟨⟨os ++ [o], by rw [List.map_append]; rfl, fun o' ho' => ?_⟩, (g16.same s16).mono (by omega)⟩
                rcases List.mem_append.mp ho' with h | h
                · exact hos o' h
                · rw [List.mem_singleton.mp h]
                  exact ⟨r, ho⟩
              rintro acc5 H14 ⟨⟨os, rfl, hos⟩, g14⟩ hB5 hl5
              rw [List.length_map] at hl5
              -- the dear ones
              refine ⟨_, rfl, D5, rfl, ⟨_, SqL.of hB5⟩, fun D6 hD6 => lcA walk_list (fun i acc H' => (∃ ks : List Int, acc = ks.map V.int ∧ (ks ≠ [] → ∃ u, Dear M.ars M.sts M.ens num u)) ∧ Same H14 H') ⟨⟨[], rfl, fun c => absurd rfl c⟩, .refl _⟩ (fun i acc H' o h => ⟨h.1, same_mut h.2 hD6⟩) (fun i acc H' _ h => SqL.of (h.2 _ _ hB5)) ?_ ?_⟩
              · rintro i v5 acc6 _ H15 hi ⟨⟨ks, rfl, hks⟩, s15⟩ hB6 hl6 ⟨rfl, hv5⟩
                rw [List.getElem?_map] at hv5
                obtain ⟨o, ho, rfl⟩ := Option.map_eq_some_iff.mp hv5
                rw [List.length_map] at hi
                obtain ⟨r, hr⟩ := hos o (List.mem_of_getElem? ho)
                cases o with
                | none => exact ⟨rfl, _, rfl, rfl, _, rfl, iteF (iteF (LcP.skip hB6 hl6 ⟨⟨ks, rfl, hks⟩, s15⟩))⟩
                | some c =>
                  refine ⟨rfl, _, rfl, rfl, _, rfl, iteT ⟨_, rfl, _, rfl, _, _, rfl, rfl, _, rfl, ite2 (fun k1 => ?_) (fun k1 => ?_)⟩⟩
                  · refine ⟨_, rfl, LcP.put (fun i acc H' o h => ⟨h.1, same_mut h.2 hD6⟩) hB6 hl6 (by omega) ⟨⟨ks ++ [c], by rw [List.map_append]; rfl, fun _ => ⟨sgnL r, (dO r _ hr).mpr ⟨c, rfl, of_decide_eq_true k1⟩⟩⟩, s15⟩⟩
                  · exact LcP.skip hB6 hl6 ⟨⟨ks, rfl, hks⟩, s15⟩
              rintro acc6 H15 ⟨⟨ks, rfl, hks⟩, s15⟩ hB6 _
              refine ⟨_, rfl, _, rfl, rfl, _, rfl, ?_⟩
              rw [decide_eq_true rfl]
              refine iteT ⟨_, rfl, rfl, _, rfl, ?_⟩
              refine iteF ?_
              have k0 : ks = [] := Classical.byContradiction fun c => by
                obtain ⟨u, hu⟩ := hks c
                exact hnon rfl u hu
              subst k0
              refine ⟨_, rfl, Nat.zero_le _, fun q5 hq5 => ⟨.list [], .list [], .lst (SqL.of ((same_new hq5) _ _ hB6)) .nil, .lst (SqL.of upd_same) .nil, rfl, rfl, ?_⟩⟩
              exact k _
            · refine iteT (iteT ?_)

              -- the waves
              refine ⟨4, rfl, by omega, by omega, fun D5 hD5 => lcA walk_range (fun i acc H' => (∃ os : List (Option Int), acc = os.map optV ∧ ∀ o ∈ os, ∃ r : PySem.Str, LPr zs ss es (sgnL r) o) ∧ Go p (400 + 200 * i) H13 H') ⟨⟨[], rfl, fun o ho => (by cases ho)⟩, Go.start g13.src⟩ (fun i acc H o h => ⟨h.1, h.2.mut hD5⟩) (fun i acc H' hi h => trivial) ?_ ?_⟩
              · rintro i x1 acc5 H14 _ hi ⟨⟨os, rfl, hos⟩, g14⟩ hB5 hl5 ⟨rfl, rfl⟩
                have e14 := (((s10.trans s11).trans s12).trans s13)
                refine ⟨rfl, _, rfl, _, rfl, _, rfl, p, r1, lo, 4, 400 + 200 * i, rfl, g14.src, by omega, SqL.of (g14.get r1p (((s11.trans s12).trans s13) _ _ e10)), r1p, lone, by omega, loLt, by omega, by omega, fun r H15 hr15 g15 => ?_⟩
                have r120 := hr15.1
                have g16 := g14.trans g15
                refine ⟨q2, D, a2, a3, acc, zs, ss, es, r, rfl, ML13.ext g13.src nD n2 n3 g16.ext, by omega, by omega, by omega, by omega, fun o H16 ho s16 => ?_⟩
                have hB16 : H16 D5 = some (.lst (os.map optV)) := s16 _ _ (g15.get (g13.ne hD5) hB5)
                refine LcP.put (fun i acc H o h => ⟨h.1, h.2.mut hD5⟩) hB16 hl5 (by omega) ⟨⟨os ++ [o], by rw [List.map_append]; rfl, fun o' ho' => ?_⟩, (g16.same s16).mono (by omega)⟩
                rcases List.mem_append.mp ho' with h | h
                · exact hos o' h
                · rw [List.mem_singleton.mp h]
                  exact ⟨r, ho⟩
              rintro acc5 H14 ⟨⟨os, rfl, hos⟩, g14⟩ hB5 hl5
              rw [List.length_map] at hl5
              -- the dear ones
              refine ⟨_, rfl, D5, rfl, ⟨_, SqL.of hB5⟩, fun D6 hD6 => lcA walk_list (fun i acc H' => (∃ ks : List Int, acc = ks.map V.int ∧ (ks ≠ [] → ∃ u, Dear M.ars M.sts M.ens num u)) ∧ Same H14 H') ⟨⟨[], rfl, fun c => absurd rfl c⟩, .refl _⟩ (fun i acc H' o h => ⟨h.1, same_mut h.2 hD6⟩) (fun i acc H' _ h => SqL.of (h.2 _ _ hB5)) ?_ ?_⟩
              · rintro i v5 acc6 _ H15 hi ⟨⟨ks, rfl, hks⟩, s15⟩ hB6 hl6 ⟨rfl, hv5⟩
                rw [List.getElem?_map] at hv5
                obtain ⟨o, ho, rfl⟩ := Option.map_eq_some_iff.mp hv5
                rw [List.length_map] at hi
                obtain ⟨r, hr⟩ := hos o (List.mem_of_getElem? ho)
                cases o with
                | none => exact ⟨rfl, _, rfl, rfl, _, rfl, iteF (iteF (LcP.skip hB6 hl6 ⟨⟨ks, rfl, hks⟩, s15⟩))⟩
                | some c =>
                  refine ⟨rfl, _, rfl, rfl, _, rfl, iteT ⟨_, rfl, _, rfl, _, _, rfl, rfl, _, rfl, ite2 (fun k1 => ?_) (fun k1 => ?_)⟩⟩
                  · refine ⟨_, rfl, LcP.put (fun i acc H' o h => ⟨h.1, same_mut h.2 hD6⟩) hB6 hl6 (by omega) ⟨⟨ks ++ [c], by rw [List.map_append]; rfl, fun _ => ⟨sgnL r, (dO r _ hr).mpr ⟨c, rfl, of_decide_eq_true k1⟩⟩⟩, s15⟩⟩
                  · exact LcP.skip hB6 hl6 ⟨⟨ks, rfl, hks⟩, s15⟩
              rintro acc6 H15 ⟨⟨ks, rfl, hks⟩, s15⟩ hB6 _
              refine ⟨_, rfl, _, rfl, rfl, _, rfl, ?_⟩
              rw [decide_eq_true rfl]
              refine iteT ⟨_, rfl, rfl, _, rfl, ?_⟩
              exact iteT (k _)
          · refine ⟨_, rfl, rfl, _, rfl, iteF ⟨_, rfl, rfl, _, rfl, iteF ?_⟩⟩
            refine ⟨_, rfl, _, rfl, q2, D, a2, a3, acc, zs, ss, es, z, rfl, ML13, by omega, by omega, by omega, by omega, fun o H14 ho s14 => ?_⟩
            obtain ⟨c, rfl, hc⟩ := (dO z o ho).mp hdz
            refine ⟨_, rfl, z, rfl, Evl.sz_of (by omega), _, _, rfl, rfl, ?_⟩
            refine ⟨_, rfl, ?_⟩
            rw [decide_eq_true (show (6 : Int) < (z.length : Nat) by omega)]
            refine iteT ⟨_, rfl, rfl, _, rfl, iteT ⟨_, rfl, _, rfl, _, _, rfl, rfl, ?_⟩⟩
            show Q (.bl (decide (num < c))) H14
            rw [decide_eq_true hc]
            exact k _
end
end Pf
namespace Pf
open PySem PySem.Spec PyProof.Rows L2 Bz
/-- what the top has left of a def -/
structure DefK (K : PySem.W.Frag) (x qual : PySem.Str) (st : Stmt) (f : Addr) : Prop where
  ex : ∃ (oc : Value) (od : Option Addr) (kV doc pm : Value) (an : Option Addr) (cdv ct : Value) (osl : Array (Option Value)),
    K.lookup f = some ⟨oc, od, .func (PySem.W.fnOf x qual (defArgs st) (defBody st) (defScope st) .none kV doc pm an cdv ct), osl⟩ ∧ PySem.W.codeIn K cdv qual = true
  kp : PySem.W.keepIn K (.ref f) = true
theorem defK_mk {K : PySem.W.Frag} {x qual : PySem.Str} {st : Stmt} {f : Addr} {oc : Value} {od : Option Addr} {kV doc pm : Value} {an : Option Addr} {cdv ct : Value} {osl : Array (Option Value)}
    (l : K.lookup f = some ⟨oc, od, .func (PySem.W.fnOf x qual (defArgs st) (defBody st) (defScope st) .none kV doc pm an cdv ct), osl⟩) (c : PySem.W.codeIn K cdv qual = true) (k : PySem.W.keepIn K (.ref f) = true) : DefK K x qual st f := ⟨⟨oc, od, kV, doc, pm, an, cdv, ct, osl, l, c⟩, k⟩
theorem propOf_mk {K : PySem.W.Frag} {C : Addr} {f : PySem.Str} {p g : Addr} {rest : List Value} (h1 : PySem.W.findIn K (.ref C) f = some (some (.ref p))) (h2 : PySem.W.specialIn K (.ref p) "__get__" = some (some (.builtin "property.__get__"))) (h3 : PySem.W.takesIn K (.ref p) = some true)
    (h4 : PySem.W.recIn K p "property" = some (.ref g :: rest)) : PropOf K C f p g := ⟨h1, h2, h3, rest, h4⟩
theorem DefK.fn {K : PySem.W.Frag} {x qual : PySem.Str} {st : Stmt} {f : Addr} (D : DefK K x qual st f) : ∃ fd, Fun K x qual st f fd := by
  obtain ⟨⟨oc, od, kV, doc, pm, an, cdv, ct, osl, l, c⟩, k⟩ := D
  exact ⟨_, fun_mk l c k⟩
theorem DefK.at_ {K : PySem.W.Frag} {mg : PySem.Str → Option Value} {x : PySem.Str} {st : Stmt} {f : Addr} {ps : List PySem.Str} (D : DefK K x x st f) (m : mg x = some (.ref f))
    (h : ∀ (kV doc pm : Value) (an : Option Addr) (cdv ct : Value) (us : List Value), us.length = ps.length → bindArgs (PySem.W.fnOf x x (defArgs st) (defBody st) (defScope st) .none kV doc pm an cdv ct) ⟨us, []⟩ = pure (ps.zip us)) : DefAt K mg x st ps := by
  obtain ⟨fd, F⟩ := D.fn
  exact ⟨f, fd, F, m, F.binds h⟩
theorem DefK.init_ {K : PySem.W.Frag} {C : Addr} {qual : PySem.Str} {st : Stmt} {f : Addr} {ps : List PySem.Str} (D : DefK K "__init__" qual st f) (m : Mk K C f)
    (h : ∀ (kV doc pm : Value) (an : Option Addr) (cdv ct : Value) (us : List Value), us.length = ps.length → bindArgs (PySem.W.fnOf "__init__" qual (defArgs st) (defBody st) (defScope st) .none kV doc pm an cdv ct) ⟨us, []⟩ = pure (ps.zip us)) : InitAt K C qual st ps := by
  obtain ⟨fd, F⟩ := D.fn
  exact ⟨f, fd, m, F, F.binds h⟩
theorem DefK.prop_ {K : PySem.W.Frag} {C : Addr} {x qual : PySem.Str} {st : Stmt} {p f : Addr} (D : DefK K x qual st f) (m : PropOf K C x p f)
    (h : ∀ (kV doc pm : Value) (an : Option Addr) (cdv ct : Value) (us : List Value), us.length = (["self"] : List PySem.Str).length → bindArgs (PySem.W.fnOf x qual (defArgs st) (defBody st) (defScope st) .none kV doc pm an cdv ct) ⟨us, []⟩ = pure ((["self"] : List PySem.Str).zip us)) : PropAt K C x qual st := by
  obtain ⟨fd, F⟩ := D.fn
  exact ⟨p, f, fd, m, F, F.binds h⟩
theorem DefK.meth_ {K : PySem.W.Frag} {C : Addr} {x qual : PySem.Str} {st : Stmt} {f : Addr} {ps : List PySem.Str} (D : DefK K x qual st f) (q : PySem.W.findIn K (.ref C) x = some (some (.ref f))) (u : PySem.W.isFn K (.ref f) = true)
    (h : ∀ (kV doc pm : Value) (an : Option Addr) (cdv ct : Value) (us : List Value), us.length = ps.length → bindArgs (PySem.W.fnOf x qual (defArgs st) (defBody st) (defScope st) .none kV doc pm an cdv ct) ⟨us, []⟩ = pure (ps.zip us)) : MethAt K C x qual st ps := by
  obtain ⟨fd, F⟩ := D.fn
  exact ⟨f, fd, ⟨q, u, D.kp⟩, F, F.binds h⟩
theorem all_mk {l : PySem.W.OpenLaw} {w : World} {K : PySem.W.Frag} {h : Heap} {mg : PySem.Str → Option Value} {fa : Addr} (X : K.In h) (G : h.Ns mainGlobals mg) (hfa : mg "law" = some (.ref fa))
    {C_Machine f1 f2 f3 p3 f4 p4 f5 p5 f6 p6 f7 p7 f8 C_Hunt f10 f11 f12 f13 f14 f15 f16 f17 C_BadArrow P_BadArrow f18 C_BadState P_BadState f19 C_TooMany P_TooMany f20 C_BadNumber P_BadNumber f21 f22 f23 f24 f25 f26 f27 f28 f29 f30 f31 f32 f33 f34 f35 f36 f37 f38 f39 f40 f41 f42 f43 f44 f45 f46 f47 f48 f49 f50 f51 f52 f53 f54 f55 f56 f57 f58 f59 f60 : Addr} {t_LONGEST_NAME t_HIGHEST_PRICE t_ARROW_PARTS t_MOST_ARROWS t_MOST_STATES t_MOST_RIVALS t_LEAST_NUMBER t_GREATEST_NUMBER : Tok} {nm_18 q_18 : PySem.Str} {N_18 : Addr} {bs_18 : List Value} {sn_18 : List PySem.Str} {sub_18 : List Value} {ab_18 : Bool} {col_18 : Option Bool} {dd_18 : Option Addr} {v0_18 v1_18 v2_18 v3_18 v5_18 : Option Value} {nm_19 q_19 : PySem.Str} {N_19 : Addr} {bs_19 : List Value} {sn_19 : List PySem.Str} {sub_19 : List Value} {ab_19 : Bool} {col_19 : Option Bool} {dd_19 : Option Addr} {v0_19 v1_19 v2_19 v3_19 v5_19 : Option Value} {nm_20 q_20 : PySem.Str} {N_20 : Addr} {bs_20 : List Value} {sn_20 : List PySem.Str} {sub_20 : List Value} {ab_20 : Bool} {col_20 : Option Bool} {dd_20 : Option Addr} {v0_20 v1_20 v2_20 v3_20 v5_20 : Option Value} {nm_21 q_21 : PySem.Str} {N_21 : Addr} {bs_21 : List Value} {sn_21 : List PySem.Str} {sub_21 : List Value} {ab_21 : Bool} {col_21 : Option Bool} {dd_21 : Option Addr} {v0_21 v1_21 v2_21 v3_21 v5_21 : Option Value}
    (gC_Machine : PySem.W.nsIn K mainGlobals "Machine" = some (some (.ref C_Machine)))
    (sC_Machine : Cls K C_Machine)
    (nC_Machine_held_arrows : PySem.W.findIn K (.ref C_Machine) "held_arrows" = some none)
    (nC_Machine_held_starts : PySem.W.findIn K (.ref C_Machine) "held_starts" = some none)
    (nC_Machine_held_ends : PySem.W.findIn K (.ref C_Machine) "held_ends" = some none)
    (nC_Machine_held_states : PySem.W.findIn K (.ref C_Machine) "held_states" = some none)
    (nC_Machine_held_letters : PySem.W.findIn K (.ref C_Machine) "held_letters" = some none)
    (m1 : Mk K C_Machine f1)
    (D1 : DefK K "__init__" "Machine.__init__" s_Machine___init__ f1)
    (q2 : PySem.W.findIn K (.ref C_Machine) "__eq__" = some (some (.ref f2)))
    (u2 : PySem.W.isFn K (.ref f2) = true)
    (D2 : DefK K "__eq__" "Machine.__eq__" s_Machine___eq__ f2)
    (i2 : IsaAt K C_Machine)
    (ne2 : NeAt K C_Machine)
    (m3 : PropOf K C_Machine "arrows" p3 f3)
    (D3 : DefK K "arrows" "Machine.arrows" s_Machine_arrows f3)
    (m4 : PropOf K C_Machine "starts" p4 f4)
    (D4 : DefK K "starts" "Machine.starts" s_Machine_starts f4)
    (m5 : PropOf K C_Machine "ends" p5 f5)
    (D5 : DefK K "ends" "Machine.ends" s_Machine_ends f5)
    (m6 : PropOf K C_Machine "states" p6 f6)
    (D6 : DefK K "states" "Machine.states" s_Machine_states f6)
    (m7 : PropOf K C_Machine "letters" p7 f7)
    (D7 : DefK K "letters" "Machine.letters" s_Machine_letters f7)
    (q8 : PySem.W.findIn K (.ref C_Machine) "text" = some (some (.ref f8)))
    (u8 : PySem.W.isFn K (.ref f8) = true)
    (D8 : DefK K "text" "Machine.text" s_Machine_text f8)
    (gC_Hunt : PySem.W.nsIn K mainGlobals "Hunt" = some (some (.ref C_Hunt)))
    (sC_Hunt : Cls K C_Hunt)
    (nC_Hunt_number : PySem.W.findIn K (.ref C_Hunt) "number" = some none)
    (nC_Hunt_greatest_price : PySem.W.findIn K (.ref C_Hunt) "greatest_price" = some none)
    (nC_Hunt_dearest_row : PySem.W.findIn K (.ref C_Hunt) "dearest_row" = some none)
    (nC_Hunt_nothing : PySem.W.findIn K (.ref C_Hunt) "nothing" = some none)
    (nC_Hunt_levels : PySem.W.findIn K (.ref C_Hunt) "levels" = some none)
    (nC_Hunt_letter_sources : PySem.W.findIn K (.ref C_Hunt) "letter_sources" = some none)
    (nC_Hunt_first_levels : PySem.W.findIn K (.ref C_Hunt) "first_levels" = some none)
    (nC_Hunt_end_places : PySem.W.findIn K (.ref C_Hunt) "end_places" = some none)
    (nC_Hunt_resting_places : PySem.W.findIn K (.ref C_Hunt) "resting_places" = some none)
    (nC_Hunt_width : PySem.W.findIn K (.ref C_Hunt) "width" = some none)
    (nC_Hunt_guards : PySem.W.findIn K (.ref C_Hunt) "guards" = some none)
    (nC_Hunt_seen : PySem.W.findIn K (.ref C_Hunt) "seen" = some none)
    (nC_Hunt_rivals : PySem.W.findIn K (.ref C_Hunt) "rivals" = some none)
    (nC_Hunt_trail : PySem.W.findIn K (.ref C_Hunt) "trail" = some none)
    (m10 : Mk K C_Hunt f10)
    (D10 : DefK K "__init__" "Hunt.__init__" s_Hunt___init__ f10)
    (q11 : PySem.W.findIn K (.ref C_Hunt) "run" = some (some (.ref f11)))
    (u11 : PySem.W.isFn K (.ref f11) = true)
    (D11 : DefK K "run" "Hunt.run" s_Hunt_run f11)
    (q12 : PySem.W.findIn K (.ref C_Hunt) "levels_behind" = some (some (.ref f12)))
    (u12 : PySem.W.isFn K (.ref f12) = true)
    (D12 : DefK K "levels_behind" "Hunt.levels_behind" s_Hunt_levels_behind f12)
    (q13 : PySem.W.findIn K (.ref C_Hunt) "offer" = some (some (.ref f13)))
    (u13 : PySem.W.isFn K (.ref f13) = true)
    (D13 : DefK K "offer" "Hunt.offer" s_Hunt_offer f13)
    (q14 : PySem.W.findIn K (.ref C_Hunt) "row_to" = some (some (.ref f14)))
    (u14 : PySem.W.isFn K (.ref f14) = true)
    (D14 : DefK K "row_to" "Hunt.row_to" s_Hunt_row_to f14)
    (q15 : PySem.W.findIn K (.ref C_Hunt) "may_lead_higher" = some (some (.ref f15)))
    (u15 : PySem.W.isFn K (.ref f15) = true)
    (D15 : DefK K "may_lead_higher" "Hunt.may_lead_higher" s_Hunt_may_lead_higher f15)
    (q16 : PySem.W.findIn K (.ref C_Hunt) "outdo" = some (some (.ref f16)))
    (u16 : PySem.W.isFn K (.ref f16) = true)
    (D16 : DefK K "outdo" "Hunt.outdo" s_Hunt_outdo f16)
    (q17 : PySem.W.findIn K (.ref C_Hunt) "is_nowhere_less" = some (some (.ref f17)))
    (u17 : PySem.W.isFn K (.ref f17) = true)
    (D17 : DefK K "is_nowhere_less" "Hunt.is_nowhere_less" s_Hunt_is_nowhere_less f17)
    (gC_BadArrow : PySem.W.nsIn K mainGlobals "BadArrow" = some (some (.ref C_BadArrow)))
    (xC_BadArrow : K.lookup C_BadArrow = some (excClassObj nm_18 q_18 C_BadArrow N_18 bs_18 [.ref P_BadArrow, .type "ValueError", .type "Exception", .type "BaseException", .type "object"] true sn_18 sub_18 ab_18 col_18 dd_18 v0_18 v1_18 v2_18 v3_18 v5_18 "ValueError.__new__"))
    (saC_BadArrow : PySem.W.findIn K (.ref C_BadArrow) "__setattr__" = some (some (.builtin "object.__setattr__")))
    (exC_BadArrow : PySem.W.subIn K (.ref C_BadArrow) (.type "BaseException") = some true)
    (tyC_BadArrow : PySem.W.typeIn K (.ref C_BadArrow) = some (.type "type"))
    (kcC_BadArrow : PySem.W.keepIn K (.ref C_BadArrow) = true)
    (hdC_BadArrow : PySem.W.hasDictIn K C_BadArrow = true)
    (ssC_BadArrow : PySem.W.subIn K (.ref C_BadArrow) (.ref C_BadArrow) = some true)
    (noC_BadArrow : PySem.W.findIn K (.ref C_BadArrow) "line" = some none)
    (gaC_BadArrow : PySem.W.findIn K (.ref C_BadArrow) "__getattribute__" = some (some (.builtin "BaseException.__getattribute__")))
    (ggC_BadArrow : PySem.W.findIn K (.ref C_BadArrow) "__getattr__" = some none)
    (iC_BadArrow : PySem.W.findIn K (.ref C_BadArrow) "__init__" = some (some (.ref f18)))
    (tC_BadArrow : PySem.W.typeIn K (.ref f18) = some (.type "function"))
    (D18 : DefK K "__init__" "BadArrow.__init__" s_BadArrow___init__ f18)
    (gC_BadState : PySem.W.nsIn K mainGlobals "BadState" = some (some (.ref C_BadState)))
    (xC_BadState : K.lookup C_BadState = some (excClassObj nm_19 q_19 C_BadState N_19 bs_19 [.ref P_BadState, .type "ValueError", .type "Exception", .type "BaseException", .type "object"] true sn_19 sub_19 ab_19 col_19 dd_19 v0_19 v1_19 v2_19 v3_19 v5_19 "ValueError.__new__"))
    (saC_BadState : PySem.W.findIn K (.ref C_BadState) "__setattr__" = some (some (.builtin "object.__setattr__")))
    (exC_BadState : PySem.W.subIn K (.ref C_BadState) (.type "BaseException") = some true)
    (tyC_BadState : PySem.W.typeIn K (.ref C_BadState) = some (.type "type"))
    (kcC_BadState : PySem.W.keepIn K (.ref C_BadState) = true)
    (hdC_BadState : PySem.W.hasDictIn K C_BadState = true)
    (ssC_BadState : PySem.W.subIn K (.ref C_BadState) (.ref C_BadState) = some true)
    (noC_BadState : PySem.W.findIn K (.ref C_BadState) "state" = some none)
    (gaC_BadState : PySem.W.findIn K (.ref C_BadState) "__getattribute__" = some (some (.builtin "BaseException.__getattribute__")))
    (ggC_BadState : PySem.W.findIn K (.ref C_BadState) "__getattr__" = some none)
    (iC_BadState : PySem.W.findIn K (.ref C_BadState) "__init__" = some (some (.ref f19)))
    (tC_BadState : PySem.W.typeIn K (.ref f19) = some (.type "function"))
    (D19 : DefK K "__init__" "BadState.__init__" s_BadState___init__ f19)
    (gC_TooMany : PySem.W.nsIn K mainGlobals "TooMany" = some (some (.ref C_TooMany)))
    (xC_TooMany : K.lookup C_TooMany = some (excClassObj nm_20 q_20 C_TooMany N_20 bs_20 [.ref P_TooMany, .type "ValueError", .type "Exception", .type "BaseException", .type "object"] true sn_20 sub_20 ab_20 col_20 dd_20 v0_20 v1_20 v2_20 v3_20 v5_20 "ValueError.__new__"))
    (saC_TooMany : PySem.W.findIn K (.ref C_TooMany) "__setattr__" = some (some (.builtin "object.__setattr__")))
    (exC_TooMany : PySem.W.subIn K (.ref C_TooMany) (.type "BaseException") = some true)
    (tyC_TooMany : PySem.W.typeIn K (.ref C_TooMany) = some (.type "type"))
    (kcC_TooMany : PySem.W.keepIn K (.ref C_TooMany) = true)
    (hdC_TooMany : PySem.W.hasDictIn K C_TooMany = true)
    (ssC_TooMany : PySem.W.subIn K (.ref C_TooMany) (.ref C_TooMany) = some true)
    (noC_TooMany : PySem.W.findIn K (.ref C_TooMany) "count" = some none)
    (gaC_TooMany : PySem.W.findIn K (.ref C_TooMany) "__getattribute__" = some (some (.builtin "BaseException.__getattribute__")))
    (ggC_TooMany : PySem.W.findIn K (.ref C_TooMany) "__getattr__" = some none)
    (iC_TooMany : PySem.W.findIn K (.ref C_TooMany) "__init__" = some (some (.ref f20)))
    (tC_TooMany : PySem.W.typeIn K (.ref f20) = some (.type "function"))
    (D20 : DefK K "__init__" "TooMany.__init__" s_TooMany___init__ f20)
    (gC_BadNumber : PySem.W.nsIn K mainGlobals "BadNumber" = some (some (.ref C_BadNumber)))
    (xC_BadNumber : K.lookup C_BadNumber = some (excClassObj nm_21 q_21 C_BadNumber N_21 bs_21 [.ref P_BadNumber, .type "ValueError", .type "Exception", .type "BaseException", .type "object"] true sn_21 sub_21 ab_21 col_21 dd_21 v0_21 v1_21 v2_21 v3_21 v5_21 "ValueError.__new__"))
    (saC_BadNumber : PySem.W.findIn K (.ref C_BadNumber) "__setattr__" = some (some (.builtin "object.__setattr__")))
    (exC_BadNumber : PySem.W.subIn K (.ref C_BadNumber) (.type "BaseException") = some true)
    (tyC_BadNumber : PySem.W.typeIn K (.ref C_BadNumber) = some (.type "type"))
    (kcC_BadNumber : PySem.W.keepIn K (.ref C_BadNumber) = true)
    (hdC_BadNumber : PySem.W.hasDictIn K C_BadNumber = true)
    (ssC_BadNumber : PySem.W.subIn K (.ref C_BadNumber) (.ref C_BadNumber) = some true)
    (noC_BadNumber : PySem.W.findIn K (.ref C_BadNumber) "number" = some none)
    (gaC_BadNumber : PySem.W.findIn K (.ref C_BadNumber) "__getattribute__" = some (some (.builtin "BaseException.__getattribute__")))
    (ggC_BadNumber : PySem.W.findIn K (.ref C_BadNumber) "__getattr__" = some none)
    (iC_BadNumber : PySem.W.findIn K (.ref C_BadNumber) "__init__" = some (some (.ref f21)))
    (tC_BadNumber : PySem.W.typeIn K (.ref f21) = some (.type "function"))
    (D21 : DefK K "__init__" "BadNumber.__init__" s_BadNumber___init__ f21)
    (a22 : PySem.W.nsIn K mainGlobals "_wall" = some (some (.ref f22)))
    (D22 : DefK K "_wall" "_wall" s__wall f22)
    (a23 : PySem.W.nsIn K mainGlobals "is_integer" = some (some (.ref f23)))
    (D23 : DefK K "is_integer" "is_integer" s_is_integer f23)
    (a24 : PySem.W.nsIn K mainGlobals "has_only_letters" = some (some (.ref f24)))
    (D24 : DefK K "has_only_letters" "has_only_letters" s_has_only_letters f24)
    (a25 : PySem.W.nsIn K mainGlobals "is_name" = some (some (.ref f25)))
    (D25 : DefK K "is_name" "is_name" s_is_name f25)
    (a26 : PySem.W.nsIn K mainGlobals "is_letter" = some (some (.ref f26)))
    (D26 : DefK K "is_letter" "is_letter" s_is_letter f26)
    (a27 : PySem.W.nsIn K mainGlobals "is_price" = some (some (.ref f27)))
    (D27 : DefK K "is_price" "is_price" s_is_price f27)
    (a28 : PySem.W.nsIn K mainGlobals "is_list" = some (some (.ref f28)))
    (D28 : DefK K "is_list" "is_list" s_is_list f28)
    (a29 : PySem.W.nsIn K mainGlobals "is_arrow" = some (some (.ref f29)))
    (D29 : DefK K "is_arrow" "is_arrow" s_is_arrow f29)
    (a30 : PySem.W.nsIn K mainGlobals "check_arrows" = some (some (.ref f30)))
    (D30 : DefK K "check_arrows" "check_arrows" s_check_arrows f30)
    (a31 : PySem.W.nsIn K mainGlobals "check_names" = some (some (.ref f31)))
    (D31 : DefK K "check_names" "check_names" s_check_names f31)
    (a32 : PySem.W.nsIn K mainGlobals "cheapest" = some (some (.ref f32)))
    (D32 : DefK K "cheapest" "cheapest" s_cheapest f32)
    (a33 : PySem.W.nsIn K mainGlobals "each_once" = some (some (.ref f33)))
    (D33 : DefK K "each_once" "each_once" s_each_once f33)
    (a34 : PySem.W.nsIn K mainGlobals "all_states" = some (some (.ref f34)))
    (D34 : DefK K "all_states" "all_states" s_all_states f34)
    (a35 : PySem.W.nsIn K mainGlobals "moves_by_letter" = some (some (.ref f35)))
    (D35 : DefK K "moves_by_letter" "moves_by_letter" s_moves_by_letter f35)
    (a36 : PySem.W.nsIn K mainGlobals "backward" = some (some (.ref f36)))
    (D36 : DefK K "backward" "backward" s_backward f36)
    (a37 : PySem.W.nsIn K mainGlobals "trimmed" = some (some (.ref f37)))
    (D37 : DefK K "trimmed" "trimmed" s_trimmed f37)
    (a38 : PySem.W.nsIn K mainGlobals "useful" = some (some (.ref f38)))
    (D38 : DefK K "useful" "useful" s_useful f38)
    (a39 : PySem.W.nsIn K mainGlobals "reached" = some (some (.ref f39)))
    (D39 : DefK K "reached" "reached" s_reached f39)
    (a40 : PySem.W.nsIn K mainGlobals "dearest" = some (some (.ref f40)))
    (D40 : DefK K "dearest" "dearest" s_dearest f40)
    (a41 : PySem.W.nsIn K mainGlobals "sources_of" = some (some (.ref f41)))
    (D41 : DefK K "sources_of" "sources_of" s_sources_of f41)
    (a42 : PySem.W.nsIn K mainGlobals "resting_states" = some (some (.ref f42)))
    (D42 : DefK K "resting_states" "resting_states" s_resting_states f42)
    (a43 : PySem.W.nsIn K mainGlobals "free_letters" = some (some (.ref f43)))
    (D43 : DefK K "free_letters" "free_letters" s_free_letters f43)
    (a44 : PySem.W.nsIn K mainGlobals "above" = some (some (.ref f44)))
    (D44 : DefK K "above" "above" s_above f44)
    (a45 : PySem.W.nsIn K mainGlobals "_law_source" = some (some (.ref f45)))
    (D45 : DefK K "_law_source" "_law_source" s__law_source f45)
    (a46 : PySem.W.nsIn K mainGlobals "_law_draw" = some (some (.ref f46)))
    (D46 : DefK K "_law_draw" "_law_draw" s__law_draw f46)
    (a47 : PySem.W.nsIn K mainGlobals "_law_pick" = some (some (.ref f47)))
    (D47 : DefK K "_law_pick" "_law_pick" s__law_pick f47)
    (a48 : PySem.W.nsIn K mainGlobals "_law_subset" = some (some (.ref f48)))
    (D48 : DefK K "_law_subset" "_law_subset" s__law_subset f48)
    (a49 : PySem.W.nsIn K mainGlobals "_law_name" = some (some (.ref f49)))
    (D49 : DefK K "_law_name" "_law_name" s__law_name f49)
    (a50 : PySem.W.nsIn K mainGlobals "_law_names" = some (some (.ref f50)))
    (D50 : DefK K "_law_names" "_law_names" s__law_names f50)
    (a51 : PySem.W.nsIn K mainGlobals "_law_arrows" = some (some (.ref f51)))
    (D51 : DefK K "_law_arrows" "_law_arrows" s__law_arrows f51)
    (a52 : PySem.W.nsIn K mainGlobals "_law_machine" = some (some (.ref f52)))
    (D52 : DefK K "_law_machine" "_law_machine" s__law_machine f52)
    (a53 : PySem.W.nsIn K mainGlobals "_law_unlike" = some (some (.ref f53)))
    (D53 : DefK K "_law_unlike" "_law_unlike" s__law_unlike f53)
    (a54 : PySem.W.nsIn K mainGlobals "_law_ahead" = some (some (.ref f54)))
    (D54 : DefK K "_law_ahead" "_law_ahead" s__law_ahead f54)
    (a55 : PySem.W.nsIn K mainGlobals "_law_price" = some (some (.ref f55)))
    (D55 : DefK K "_law_price" "_law_price" s__law_price f55)
    (a56 : PySem.W.nsIn K mainGlobals "_law_rows" = some (some (.ref f56)))
    (D56 : DefK K "_law_rows" "_law_rows" s__law_rows f56)
    (a57 : PySem.W.nsIn K mainGlobals "_law_row" = some (some (.ref f57)))
    (D57 : DefK K "_law_row" "_law_row" s__law_row f57)
    (a58 : PySem.W.nsIn K mainGlobals "_law_waves" = some (some (.ref f58)))
    (D58 : DefK K "_law_waves" "_law_waves" s__law_waves f58)
    (a59 : PySem.W.nsIn K mainGlobals "_law_letters" = some (some (.ref f59)))
    (D59 : DefK K "_law_letters" "_law_letters" s__law_letters f59)
    (a60 : PySem.W.nsIn K mainGlobals "law" = some (some (.ref f60)))
    (D60 : DefK K "law" "law" s_law f60)
    (b_int : PySem.W.nsIn K mainGlobals "int" = some none)
    (b_len : PySem.W.nsIn K mainGlobals "len" = some none)
    (b_range : PySem.W.nsIn K mainGlobals "range" = some none)
    (b_sorted : PySem.W.nsIn K mainGlobals "sorted" = some none)
    (b_tuple : PySem.W.nsIn K mainGlobals "tuple" = some none)
    (b_list : PySem.W.nsIn K mainGlobals "list" = some none)
    (b_str : PySem.W.nsIn K mainGlobals "str" = some none)
    (b_set : PySem.W.nsIn K mainGlobals "set" = some none)
    (b_min : PySem.W.nsIn K mainGlobals "min" = some none)
    (b_isinstance : PySem.W.nsIn K mainGlobals "isinstance" = some none)
    (b_enumerate : PySem.W.nsIn K mainGlobals "enumerate" = some none)
    (b_all : PySem.W.nsIn K mainGlobals "all" = some none)
    (b_sum : PySem.W.nsIn K mainGlobals "sum" = some none)
    (b_dict : PySem.W.nsIn K mainGlobals "dict" = some none)
    (b_bool : PySem.W.nsIn K mainGlobals "bool" = some none)
    (b_ValueError : PySem.W.nsIn K mainGlobals "ValueError" = some none)
    (c_LONGEST_NAME : PySem.W.nsIn K mainGlobals "LONGEST_NAME" = some (some (.int (8) t_LONGEST_NAME)))
    (c_HIGHEST_PRICE : PySem.W.nsIn K mainGlobals "HIGHEST_PRICE" = some (some (.int (99) t_HIGHEST_PRICE)))
    (c_ARROW_PARTS : PySem.W.nsIn K mainGlobals "ARROW_PARTS" = some (some (.int (4) t_ARROW_PARTS)))
    (c_MOST_ARROWS : PySem.W.nsIn K mainGlobals "MOST_ARROWS" = some (some (.int (400) t_MOST_ARROWS)))
    (c_MOST_STATES : PySem.W.nsIn K mainGlobals "MOST_STATES" = some (some (.int (40) t_MOST_STATES)))
    (c_MOST_RIVALS : PySem.W.nsIn K mainGlobals "MOST_RIVALS" = some (some (.int (30) t_MOST_RIVALS)))
    (c_LEAST_NUMBER : PySem.W.nsIn K mainGlobals "LEAST_NUMBER" = some (some (.int (-1) t_LEAST_NUMBER)))
    (c_GREATEST_NUMBER : PySem.W.nsIn K mainGlobals "GREATEST_NUMBER" = some (some (.int (1000) t_GREATEST_NUMBER))) :
    ∃ fd : FuncData, (∀ (s : Shared) (v : Value), BindsTo s fd ⟨[v], []⟩ [("_law_script", v)]) ∧ ∀ base : Heap, K.In base → base.Ns mainGlobals mg → FnOk l.prog w K mg base CX0 11 fa fd ["_law_script"] (spLaw K) := by
  have e := hfa.symm.trans (PySem.W.mg_of X G a60)
  cases e
  have T : Facts K mg ⟨C_Machine, C_Hunt, C_BadArrow, C_BadState, C_TooMany, C_BadNumber⟩ := {
    g_Machine := PySem.W.mg_of X G gC_Machine
    cl_Machine := sC_Machine
    n_Machine_held_arrows := nC_Machine_held_arrows
    n_Machine_held_starts := nC_Machine_held_starts
    n_Machine_held_ends := nC_Machine_held_ends
    n_Machine_held_states := nC_Machine_held_states
    n_Machine_held_letters := nC_Machine_held_letters
    i_Machine := D1.init_ m1 (fun _ _ _ _ _ _ us hl => match us, hl with | [_, _, _, _], _ => rfl)
    p_Machine_arrows := D3.prop_ m3 (fun _ _ _ _ _ _ us hl => match us, hl with | [_], _ => rfl)
    p_Machine_starts := D4.prop_ m4 (fun _ _ _ _ _ _ us hl => match us, hl with | [_], _ => rfl)
    p_Machine_ends := D5.prop_ m5 (fun _ _ _ _ _ _ us hl => match us, hl with | [_], _ => rfl)
    p_Machine_states := D6.prop_ m6 (fun _ _ _ _ _ _ us hl => match us, hl with | [_], _ => rfl)
    p_Machine_letters := D7.prop_ m7 (fun _ _ _ _ _ _ us hl => match us, hl with | [_], _ => rfl)
    g_Hunt := PySem.W.mg_of X G gC_Hunt
    cl_Hunt := sC_Hunt
    n_Hunt_number := nC_Hunt_number
    n_Hunt_greatest_price := nC_Hunt_greatest_price
    n_Hunt_dearest_row := nC_Hunt_dearest_row
    n_Hunt_nothing := nC_Hunt_nothing
    n_Hunt_levels := nC_Hunt_levels
    n_Hunt_letter_sources := nC_Hunt_letter_sources
    n_Hunt_first_levels := nC_Hunt_first_levels
    n_Hunt_end_places := nC_Hunt_end_places
    n_Hunt_resting_places := nC_Hunt_resting_places
    n_Hunt_width := nC_Hunt_width
    n_Hunt_guards := nC_Hunt_guards
    n_Hunt_seen := nC_Hunt_seen
    n_Hunt_rivals := nC_Hunt_rivals
    n_Hunt_trail := nC_Hunt_trail
    i_Hunt := D10.init_ m10 (fun _ _ _ _ _ _ us hl => match us, hl with | [_, _, _, _], _ => rfl)
    m_Hunt_run := D11.meth_ q11 u11 (fun _ _ _ _ _ _ us hl => match us, hl with | [_], _ => rfl)
    m_Hunt_levels_behind := D12.meth_ q12 u12 (fun _ _ _ _ _ _ us hl => match us, hl with | [_, _, _], _ => rfl)
    m_Hunt_offer := D13.meth_ q13 u13 (fun _ _ _ _ _ _ us hl => match us, hl with | [_, _, _, _], _ => rfl)
    m_Hunt_row_to := D14.meth_ q14 u14 (fun _ _ _ _ _ _ us hl => match us, hl with | [_, _, _], _ => rfl)
    m_Hunt_may_lead_higher := D15.meth_ q15 u15 (fun _ _ _ _ _ _ us hl => match us, hl with | [_, _], _ => rfl)
    m_Hunt_outdo := D16.meth_ q16 u16 (fun _ _ _ _ _ _ us hl => match us, hl with | [_, _], _ => rfl)
    m_Hunt_is_nowhere_less := D17.meth_ q17 u17 (fun _ _ _ _ _ _ us hl => match us, hl with | [_, _, _], _ => rfl)
    d_is_integer := D23.at_ (PySem.W.mg_of X G a23) (fun _ _ _ _ _ _ us hl => match us, hl with | [_], _ => rfl)
    d_has_only_letters := D24.at_ (PySem.W.mg_of X G a24) (fun _ _ _ _ _ _ us hl => match us, hl with | [_], _ => rfl)
    d_is_name := D25.at_ (PySem.W.mg_of X G a25) (fun _ _ _ _ _ _ us hl => match us, hl with | [_], _ => rfl)
    d_is_letter := D26.at_ (PySem.W.mg_of X G a26) (fun _ _ _ _ _ _ us hl => match us, hl with | [_], _ => rfl)
    d_is_price := D27.at_ (PySem.W.mg_of X G a27) (fun _ _ _ _ _ _ us hl => match us, hl with | [_], _ => rfl)
    d_is_list := D28.at_ (PySem.W.mg_of X G a28) (fun _ _ _ _ _ _ us hl => match us, hl with | [_], _ => rfl)
    d_is_arrow := D29.at_ (PySem.W.mg_of X G a29) (fun _ _ _ _ _ _ us hl => match us, hl with | [_], _ => rfl)
    d_check_arrows := D30.at_ (PySem.W.mg_of X G a30) (fun _ _ _ _ _ _ us hl => match us, hl with | [_], _ => rfl)
    d_check_names := D31.at_ (PySem.W.mg_of X G a31) (fun _ _ _ _ _ _ us hl => match us, hl with | [_], _ => rfl)
    d_cheapest := D32.at_ (PySem.W.mg_of X G a32) (fun _ _ _ _ _ _ us hl => match us, hl with | [_], _ => rfl)
    d_each_once := D33.at_ (PySem.W.mg_of X G a33) (fun _ _ _ _ _ _ us hl => match us, hl with | [_], _ => rfl)
    d_all_states := D34.at_ (PySem.W.mg_of X G a34) (fun _ _ _ _ _ _ us hl => match us, hl with | [_, _, _], _ => rfl)
    d_moves_by_letter := D35.at_ (PySem.W.mg_of X G a35) (fun _ _ _ _ _ _ us hl => match us, hl with | [_], _ => rfl)
    d_backward := D36.at_ (PySem.W.mg_of X G a36) (fun _ _ _ _ _ _ us hl => match us, hl with | [_], _ => rfl)
    d_trimmed := D37.at_ (PySem.W.mg_of X G a37) (fun _ _ _ _ _ _ us hl => match us, hl with | [_], _ => rfl)
    d_useful := D38.at_ (PySem.W.mg_of X G a38) (fun _ _ _ _ _ _ us hl => match us, hl with | [_, _, _], _ => rfl)
    d_reached := D39.at_ (PySem.W.mg_of X G a39) (fun _ _ _ _ _ _ us hl => match us, hl with | [_, _], _ => rfl)
    d_dearest := D40.at_ (PySem.W.mg_of X G a40) (fun _ _ _ _ _ _ us hl => match us, hl with | [_, _, _], _ => rfl)
    d_sources_of := D41.at_ (PySem.W.mg_of X G a41) (fun _ _ _ _ _ _ us hl => match us, hl with | [_, _], _ => rfl)
    d_resting_states := D42.at_ (PySem.W.mg_of X G a42) (fun _ _ _ _ _ _ us hl => match us, hl with | [_], _ => rfl)
    d_free_letters := D43.at_ (PySem.W.mg_of X G a43) (fun _ _ _ _ _ _ us hl => match us, hl with | [_, _, _], _ => rfl)
    d_above := D44.at_ (PySem.W.mg_of X G a44) (fun _ _ _ _ _ _ us hl => match us, hl with | [_, _], _ => rfl)
    d__law_source := D45.at_ (PySem.W.mg_of X G a45) (fun _ _ _ _ _ _ us hl => match us, hl with | [_], _ => rfl)
    d__law_draw := D46.at_ (PySem.W.mg_of X G a46) (fun _ _ _ _ _ _ us hl => match us, hl with | [_, _], _ => rfl)
    d__law_pick := D47.at_ (PySem.W.mg_of X G a47) (fun _ _ _ _ _ _ us hl => match us, hl with | [_, _], _ => rfl)
    d__law_subset := D48.at_ (PySem.W.mg_of X G a48) (fun _ _ _ _ _ _ us hl => match us, hl with | [_, _], _ => rfl)
    d__law_name := D49.at_ (PySem.W.mg_of X G a49) (fun _ _ _ _ _ _ us hl => match us, hl with | [_, _], _ => rfl)
    d__law_names := D50.at_ (PySem.W.mg_of X G a50) (fun _ _ _ _ _ _ us hl => match us, hl with | [_, _], _ => rfl)
    d__law_arrows := D51.at_ (PySem.W.mg_of X G a51) (fun _ _ _ _ _ _ us hl => match us, hl with | [_, _, _, _], _ => rfl)
    d__law_machine := D52.at_ (PySem.W.mg_of X G a52) (fun _ _ _ _ _ _ us hl => match us, hl with | [_, _, _, _], _ => rfl)
    d__law_unlike := D53.at_ (PySem.W.mg_of X G a53) (fun _ _ _ _ _ _ us hl => match us, hl with | [_], _ => rfl)
    d__law_ahead := D54.at_ (PySem.W.mg_of X G a54) (fun _ _ _ _ _ _ us hl => match us, hl with | [_, _, _], _ => rfl)
    d__law_price := D55.at_ (PySem.W.mg_of X G a55) (fun _ _ _ _ _ _ us hl => match us, hl with | [_, _], _ => rfl)
    d__law_rows := D56.at_ (PySem.W.mg_of X G a56) (fun _ _ _ _ _ _ us hl => match us, hl with | [_, _], _ => rfl)
    d__law_row := D57.at_ (PySem.W.mg_of X G a57) (fun _ _ _ _ _ _ us hl => match us, hl with | [_, _, _], _ => rfl)
    d__law_waves := D58.at_ (PySem.W.mg_of X G a58) (fun _ _ _ _ _ _ us hl => match us, hl with | [_, _, _], _ => rfl)
    d__law_letters := D59.at_ (PySem.W.mg_of X G a59) (fun _ _ _ _ _ _ us hl => match us, hl with | [_], _ => rfl)
    b_int := PySem.W.mg_none_of X G b_int
    b_len := PySem.W.mg_none_of X G b_len
    b_range := PySem.W.mg_none_of X G b_range
    b_sorted := PySem.W.mg_none_of X G b_sorted
    b_tuple := PySem.W.mg_none_of X G b_tuple
    b_list := PySem.W.mg_none_of X G b_list
    b_str := PySem.W.mg_none_of X G b_str
    b_set := PySem.W.mg_none_of X G b_set
    b_min := PySem.W.mg_none_of X G b_min
    b_isinstance := PySem.W.mg_none_of X G b_isinstance
    b_enumerate := PySem.W.mg_none_of X G b_enumerate
    b_all := PySem.W.mg_none_of X G b_all
    b_sum := PySem.W.mg_none_of X G b_sum
    b_dict := PySem.W.mg_none_of X G b_dict
    b_bool := PySem.W.mg_none_of X G b_bool
    c_LONGEST_NAME := ⟨_, PySem.W.mg_of X G c_LONGEST_NAME⟩
    c_HIGHEST_PRICE := ⟨_, PySem.W.mg_of X G c_HIGHEST_PRICE⟩
    c_ARROW_PARTS := ⟨_, PySem.W.mg_of X G c_ARROW_PARTS⟩
    c_MOST_ARROWS := ⟨_, PySem.W.mg_of X G c_MOST_ARROWS⟩
    c_MOST_STATES := ⟨_, PySem.W.mg_of X G c_MOST_STATES⟩
    c_MOST_RIVALS := ⟨_, PySem.W.mg_of X G c_MOST_RIVALS⟩
    c_LEAST_NUMBER := ⟨_, PySem.W.mg_of X G c_LEAST_NUMBER⟩
    c_GREATEST_NUMBER := ⟨_, PySem.W.mg_of X G c_GREATEST_NUMBER⟩ }
  obtain ⟨⟨oc, od, kV, doc, pm, an, cdv, ct, osl, l1, c1⟩, k1⟩ := D60
  exact ⟨PySem.W.fnOf "law" "law" (defArgs s_law) (defBody s_law) (defScope s_law) .none kV doc pm an cdv ct, fun s v => .of_eq rfl, fun base _ _ => fn_law T (fun_mk l1 c1 k1)⟩
theorem walkE {l : PySem.W.OpenLaw} {q : Program} {loose : List PySem.Str} {XP : (PySem.Str → Option Value) → Heap → Prop} {YP : World → Heap → Prop} {d : DefRec} {K : Params → PySem.W.Frag} (hn : l.most = some 63) (hdf : d.params.defaults = [])
    (hY : ∀ (w : World) (h : Heap), YP w h → (K w.params).In h)
    (F : ∀ (w : World) (mg : PySem.Str → Option Value) (fa : Addr) (h : Heap), (K w.params).In h → h.Ns mainGlobals mg → mg d.name = some (.ref fa) →
      ∃ fd : FuncData, (∀ (s : Shared) (u : Value), BindsTo s fd ⟨[u], []⟩ [("_law_script", u)]) ∧ ∀ base : Heap, (K w.params).In base → base.Ns mainGlobals mg → FnOk l.prog w (K w.params) mg base CX0 11 fa fd ["_law_script"] (spLaw (K w.params))) :
    PySem.W.WalkO q loose XP YP l.row.toRowW d [] (fun f vs => PySem.call f vs) :=
  L2.walk_of (n := 63) (k := 11) (x := "_law_script") (CX := fun _ => CX0) (sp := fun w => spLaw (K w.params)) hn (by decide) hdf ⟨rfl, by decide, by decide⟩ hY F (fun _ _ a ns hl _ hS => ⟨a, ns, rfl, hS, fun _ => rfl⟩) fun _ _ _ _ _ z => z
end Pf
open PySem PySem.W PyProof.Rows in
set_option maxRecDepth 100000 in
set_option maxHeartbeats 0 in
theorem PySem.Challenge.cw_enoughpaid_k15_whole_rows_above_holds : PySem.Challenge.rw_enoughpaid_k15_whole_rows_above.Holds := by
  w_on; o_law; k_head; (case hw => w_witness2)
  k_fill
  refine Pf.walkE (l := PySem.Challenge.rw_enoughpaid_k15_whole_rows_above) rfl rfl (fun w h Y => PySem.W.kIn_of Y) ?F
  case F =>
    intro w mg fa h KX G hmg
    refine' Pf.all_mk KX G hmg ?gC_Machine ⟨?pgC_Machine, ?hdC_Machine, ?poC_Machine, ?saC_Machine⟩ ?nC_Machine_held_arrows ?nC_Machine_held_starts ?nC_Machine_held_ends ?nC_Machine_held_states ?nC_Machine_held_letters ⟨?mm1, ?mi1, ?mf1, ?mk1⟩ (Pf.defK_mk ?l1 ?c1 ?k1) ?q2 ?u2 (Pf.defK_mk ?l2 ?c2 ?k2) ⟨?ia2, ?ib2, ?ic2, ?id2⟩ ⟨?na2, ?nb2⟩ (Pf.propOf_mk ?pa3 ?pb3 ?pc3 ?pd3) (Pf.defK_mk ?l3 ?c3 ?k3) (Pf.propOf_mk ?pa4 ?pb4 ?pc4 ?pd4) (Pf.defK_mk ?l4 ?c4 ?k4) (Pf.propOf_mk ?pa5 ?pb5 ?pc5 ?pd5) (Pf.defK_mk ?l5 ?c5 ?k5) (Pf.propOf_mk ?pa6 ?pb6 ?pc6 ?pd6) (Pf.defK_mk ?l6 ?c6 ?k6) (Pf.propOf_mk ?pa7 ?pb7 ?pc7 ?pd7) (Pf.defK_mk ?l7 ?c7 ?k7) ?q8 ?u8 (Pf.defK_mk ?l8 ?c8 ?k8) ?gC_Hunt ⟨?pgC_Hunt, ?hdC_Hunt, ?poC_Hunt, ?saC_Hunt⟩ ?nC_Hunt_number ?nC_Hunt_greatest_price ?nC_Hunt_dearest_row ?nC_Hunt_nothing ?nC_Hunt_levels ?nC_Hunt_letter_sources ?nC_Hunt_first_levels ?nC_Hunt_end_places ?nC_Hunt_resting_places ?nC_Hunt_width ?nC_Hunt_guards ?nC_Hunt_seen ?nC_Hunt_rivals ?nC_Hunt_trail ⟨?mm10, ?mi10, ?mf10, ?mk10⟩ (Pf.defK_mk ?l10 ?c10 ?k10) ?q11 ?u11 (Pf.defK_mk ?l11 ?c11 ?k11) ?q12 ?u12 (Pf.defK_mk ?l12 ?c12 ?k12) ?q13 ?u13 (Pf.defK_mk ?l13 ?c13 ?k13) ?q14 ?u14 (Pf.defK_mk ?l14 ?c14 ?k14) ?q15 ?u15 (Pf.defK_mk ?l15 ?c15 ?k15) ?q16 ?u16 (Pf.defK_mk ?l16 ?c16 ?k16) ?q17 ?u17 (Pf.defK_mk ?l17 ?c17 ?k17) ?gC_BadArrow ?xC_BadArrow ?saC_BadArrow ?exC_BadArrow ?tyC_BadArrow ?kcC_BadArrow ?hdC_BadArrow ?ssC_BadArrow ?noC_BadArrow ?gaC_BadArrow ?ggC_BadArrow ?iC_BadArrow ?tC_BadArrow (Pf.defK_mk ?l18 ?c18 ?k18) ?gC_BadState ?xC_BadState ?saC_BadState ?exC_BadState ?tyC_BadState ?kcC_BadState ?hdC_BadState ?ssC_BadState ?noC_BadState ?gaC_BadState ?ggC_BadState ?iC_BadState ?tC_BadState (Pf.defK_mk ?l19 ?c19 ?k19) ?gC_TooMany ?xC_TooMany ?saC_TooMany ?exC_TooMany ?tyC_TooMany ?kcC_TooMany ?hdC_TooMany ?ssC_TooMany ?noC_TooMany ?gaC_TooMany ?ggC_TooMany ?iC_TooMany ?tC_TooMany (Pf.defK_mk ?l20 ?c20 ?k20) ?gC_BadNumber ?xC_BadNumber ?saC_BadNumber ?exC_BadNumber ?tyC_BadNumber ?kcC_BadNumber ?hdC_BadNumber ?ssC_BadNumber ?noC_BadNumber ?gaC_BadNumber ?ggC_BadNumber ?iC_BadNumber ?tC_BadNumber (Pf.defK_mk ?l21 ?c21 ?k21) ?a22 (Pf.defK_mk ?l22 ?c22 ?k22) ?a23 (Pf.defK_mk ?l23 ?c23 ?k23) ?a24 (Pf.defK_mk ?l24 ?c24 ?k24) ?a25 (Pf.defK_mk ?l25 ?c25 ?k25) ?a26 (Pf.defK_mk ?l26 ?c26 ?k26) ?a27 (Pf.defK_mk ?l27 ?c27 ?k27) ?a28 (Pf.defK_mk ?l28 ?c28 ?k28) ?a29 (Pf.defK_mk ?l29 ?c29 ?k29) ?a30 (Pf.defK_mk ?l30 ?c30 ?k30) ?a31 (Pf.defK_mk ?l31 ?c31 ?k31) ?a32 (Pf.defK_mk ?l32 ?c32 ?k32) ?a33 (Pf.defK_mk ?l33 ?c33 ?k33) ?a34 (Pf.defK_mk ?l34 ?c34 ?k34) ?a35 (Pf.defK_mk ?l35 ?c35 ?k35) ?a36 (Pf.defK_mk ?l36 ?c36 ?k36) ?a37 (Pf.defK_mk ?l37 ?c37 ?k37) ?a38 (Pf.defK_mk ?l38 ?c38 ?k38) ?a39 (Pf.defK_mk ?l39 ?c39 ?k39) ?a40 (Pf.defK_mk ?l40 ?c40 ?k40) ?a41 (Pf.defK_mk ?l41 ?c41 ?k41) ?a42 (Pf.defK_mk ?l42 ?c42 ?k42) ?a43 (Pf.defK_mk ?l43 ?c43 ?k43) ?a44 (Pf.defK_mk ?l44 ?c44 ?k44) ?a45 (Pf.defK_mk ?l45 ?c45 ?k45) ?a46 (Pf.defK_mk ?l46 ?c46 ?k46) ?a47 (Pf.defK_mk ?l47 ?c47 ?k47) ?a48 (Pf.defK_mk ?l48 ?c48 ?k48) ?a49 (Pf.defK_mk ?l49 ?c49 ?k49) ?a50 (Pf.defK_mk ?l50 ?c50 ?k50) ?a51 (Pf.defK_mk ?l51 ?c51 ?k51) ?a52 (Pf.defK_mk ?l52 ?c52 ?k52) ?a53 (Pf.defK_mk ?l53 ?c53 ?k53) ?a54 (Pf.defK_mk ?l54 ?c54 ?k54) ?a55 (Pf.defK_mk ?l55 ?c55 ?k55) ?a56 (Pf.defK_mk ?l56 ?c56 ?k56) ?a57 (Pf.defK_mk ?l57 ?c57 ?k57) ?a58 (Pf.defK_mk ?l58 ?c58 ?k58) ?a59 (Pf.defK_mk ?l59 ?c59 ?k59) ?a60 (Pf.defK_mk ?l60 ?c60 ?k60) ?b_int ?b_len ?b_range ?b_sorted ?b_tuple ?b_list ?b_str ?b_set ?b_min ?b_isinstance ?b_enumerate ?b_all ?b_sum ?b_dict ?b_bool ?b_ValueError ?c_LONGEST_NAME ?c_HIGHEST_PRICE ?c_ARROW_PARTS ?c_MOST_ARROWS ?c_MOST_STATES ?c_MOST_RIVALS ?c_LEAST_NUMBER ?c_GREATEST_NUMBER
    (case gC_Machine => k_is)
    (case pgC_Machine => k_is)
    (case hdC_Machine => k_is)
    (case poC_Machine => k_is)
    (case saC_Machine => k_is)
    (case nC_Machine_held_arrows => k_is)
    (case nC_Machine_held_starts => k_is)
    (case nC_Machine_held_ends => k_is)
    (case nC_Machine_held_states => k_is)
    (case nC_Machine_held_letters => k_is)
    (case mm1 => k_is)
    (case mi1 => k_is)
    (case mf1 => k_is)
    (case mk1 => k_is)
    (case l1 => k_is)
    (case c1 => k_is)
    (case k1 => k_is)
    (case q2 => k_is)
    (case u2 => k_is)
    (case l2 => k_is)
    (case c2 => k_is)
    (case k2 => k_is)
    (case ia2 => k_is)
    (case ib2 => k_is)
    (case ic2 => k_is)
    (case id2 => k_is)
    (case na2 => k_is)
    (case nb2 => k_is)
    (case pa3 => k_is)
    (case pb3 => k_is)
    (case pc3 => k_is)
    (case pd3 => k_is)
    (case l3 => k_is)
    (case c3 => k_is)
    (case k3 => k_is)
    (case pa4 => k_is)
    (case pb4 => k_is)
    (case pc4 => k_is)
    (case pd4 => k_is)
    (case l4 => k_is)
    (case c4 => k_is)
    (case k4 => k_is)
    (case pa5 => k_is)
    (case pb5 => k_is)
    (case pc5 => k_is)
    (case pd5 => k_is)
    (case l5 => k_is)
    (case c5 => k_is)
    (case k5 => k_is)
    (case pa6 => k_is)
    (case pb6 => k_is)
    (case pc6 => k_is)
    (case pd6 => k_is)
    (case l6 => k_is)
    (case c6 => k_is)
    (case k6 => k_is)
    (case pa7 => k_is)
    (case pb7 => k_is)
    (case pc7 => k_is)
    (case pd7 => k_is)
    (case l7 => k_is)
    (case c7 => k_is)
    (case k7 => k_is)
    (case q8 => k_is)
    (case u8 => k_is)
    (case l8 => k_is)
    (case c8 => k_is)
    (case k8 => k_is)
    (case gC_Hunt => k_is)
    (case pgC_Hunt => k_is)
    (case hdC_Hunt => k_is)
    (case poC_Hunt => k_is)
    (case saC_Hunt => k_is)
    (case nC_Hunt_number => k_is)
    (case nC_Hunt_greatest_price => k_is)
    (case nC_Hunt_dearest_row => k_is)
    (case nC_Hunt_nothing => k_is)
    (case nC_Hunt_levels => k_is)
    (case nC_Hunt_letter_sources => k_is)
    (case nC_Hunt_first_levels => k_is)
    (case nC_Hunt_end_places => k_is)
    (case nC_Hunt_resting_places => k_is)
    (case nC_Hunt_width => k_is)
    (case nC_Hunt_guards => k_is)
    (case nC_Hunt_seen => k_is)
    (case nC_Hunt_rivals => k_is)
    (case nC_Hunt_trail => k_is)
    (case mm10 => k_is)
    (case mi10 => k_is)
    (case mf10 => k_is)
    (case mk10 => k_is)
    (case l10 => k_is)
    (case c10 => k_is)
    (case k10 => k_is)
    (case q11 => k_is)
    (case u11 => k_is)
    (case l11 => k_is)
    (case c11 => k_is)
    (case k11 => k_is)
    (case q12 => k_is)
    (case u12 => k_is)
    (case l12 => k_is)
    (case c12 => k_is)
    (case k12 => k_is)
    (case q13 => k_is)
    (case u13 => k_is)
    (case l13 => k_is)
    (case c13 => k_is)
    (case k13 => k_is)
    (case q14 => k_is)
    (case u14 => k_is)
    (case l14 => k_is)
    (case c14 => k_is)
    (case k14 => k_is)
    (case q15 => k_is)
    (case u15 => k_is)
    (case l15 => k_is)
    (case c15 => k_is)
    (case k15 => k_is)
    (case q16 => k_is)
    (case u16 => k_is)
    (case l16 => k_is)
    (case c16 => k_is)
    (case k16 => k_is)
    (case q17 => k_is)
    (case u17 => k_is)
    (case l17 => k_is)
    (case c17 => k_is)
    (case k17 => k_is)
    (case gC_BadArrow => k_is)
    (case xC_BadArrow => k_is)
    (case saC_BadArrow => k_is)
    (case exC_BadArrow => k_is)
    (case tyC_BadArrow => k_is)
    (case kcC_BadArrow => k_is)
    (case hdC_BadArrow => k_is)
    (case ssC_BadArrow => k_is)
    (case noC_BadArrow => k_is)
    (case gaC_BadArrow => k_is)
    (case ggC_BadArrow => k_is)
    (case iC_BadArrow => k_is)
    (case tC_BadArrow => k_is)
    (case l18 => k_is)
    (case c18 => k_is)
    (case k18 => k_is)
    (case gC_BadState => k_is)
    (case xC_BadState => k_is)
    (case saC_BadState => k_is)
    (case exC_BadState => k_is)
    (case tyC_BadState => k_is)
    (case kcC_BadState => k_is)
    (case hdC_BadState => k_is)
    (case ssC_BadState => k_is)
    (case noC_BadState => k_is)
    (case gaC_BadState => k_is)
    (case ggC_BadState => k_is)
    (case iC_BadState => k_is)
    (case tC_BadState => k_is)
    (case l19 => k_is)
    (case c19 => k_is)
    (case k19 => k_is)
    (case gC_TooMany => k_is)
    (case xC_TooMany => k_is)
    (case saC_TooMany => k_is)
    (case exC_TooMany => k_is)
    (case tyC_TooMany => k_is)
    (case kcC_TooMany => k_is)
    (case hdC_TooMany => k_is)
    (case ssC_TooMany => k_is)
    (case noC_TooMany => k_is)
    (case gaC_TooMany => k_is)
    (case ggC_TooMany => k_is)
    (case iC_TooMany => k_is)
    (case tC_TooMany => k_is)
    (case l20 => k_is)
    (case c20 => k_is)
    (case k20 => k_is)
    (case gC_BadNumber => k_is)
    (case xC_BadNumber => k_is)
    (case saC_BadNumber => k_is)
    (case exC_BadNumber => k_is)
    (case tyC_BadNumber => k_is)
    (case kcC_BadNumber => k_is)
    (case hdC_BadNumber => k_is)
    (case ssC_BadNumber => k_is)
    (case noC_BadNumber => k_is)
    (case gaC_BadNumber => k_is)
    (case ggC_BadNumber => k_is)
    (case iC_BadNumber => k_is)
    (case tC_BadNumber => k_is)
    (case l21 => k_is)
    (case c21 => k_is)
    (case k21 => k_is)
    (case a22 => k_is)
    (case l22 => k_is)
    (case c22 => k_is)
    (case k22 => k_is)
    (case a23 => k_is)
    (case l23 => k_is)
    (case c23 => k_is)
    (case k23 => k_is)
    (case a24 => k_is)
    (case l24 => k_is)
    (case c24 => k_is)
    (case k24 => k_is)
    (case a25 => k_is)
    (case l25 => k_is)
    (case c25 => k_is)
    (case k25 => k_is)
    (case a26 => k_is)
    (case l26 => k_is)
    (case c26 => k_is)
    (case k26 => k_is)
    (case a27 => k_is)
    (case l27 => k_is)
    (case c27 => k_is)
    (case k27 => k_is)
    (case a28 => k_is)
    (case l28 => k_is)
    (case c28 => k_is)
    (case k28 => k_is)
    (case a29 => k_is)
    (case l29 => k_is)
    (case c29 => k_is)
    (case k29 => k_is)
    (case a30 => k_is)
    (case l30 => k_is)
    (case c30 => k_is)
    (case k30 => k_is)
    (case a31 => k_is)
    (case l31 => k_is)
    (case c31 => k_is)
    (case k31 => k_is)
    (case a32 => k_is)
    (case l32 => k_is)
    (case c32 => k_is)
    (case k32 => k_is)
    (case a33 => k_is)
    (case l33 => k_is)
    (case c33 => k_is)
    (case k33 => k_is)
    (case a34 => k_is)
    (case l34 => k_is)
    (case c34 => k_is)
    (case k34 => k_is)
    (case a35 => k_is)
    (case l35 => k_is)
    (case c35 => k_is)
    (case k35 => k_is)
    (case a36 => k_is)
    (case l36 => k_is)
    (case c36 => k_is)
    (case k36 => k_is)
    (case a37 => k_is)
    (case l37 => k_is)
    (case c37 => k_is)
    (case k37 => k_is)
    (case a38 => k_is)
    (case l38 => k_is)
    (case c38 => k_is)
    (case k38 => k_is)
    (case a39 => k_is)
    (case l39 => k_is)
    (case c39 => k_is)
    (case k39 => k_is)
    (case a40 => k_is)
    (case l40 => k_is)
    (case c40 => k_is)
    (case k40 => k_is)
    (case a41 => k_is)
    (case l41 => k_is)
    (case c41 => k_is)
    (case k41 => k_is)
    (case a42 => k_is)
    (case l42 => k_is)
    (case c42 => k_is)
    (case k42 => k_is)
    (case a43 => k_is)
    (case l43 => k_is)
    (case c43 => k_is)
    (case k43 => k_is)
    (case a44 => k_is)
    (case l44 => k_is)
    (case c44 => k_is)
    (case k44 => k_is)
    (case a45 => k_is)
    (case l45 => k_is)
    (case c45 => k_is)
    (case k45 => k_is)
    (case a46 => k_is)
    (case l46 => k_is)
    (case c46 => k_is)
    (case k46 => k_is)
    (case a47 => k_is)
    (case l47 => k_is)
    (case c47 => k_is)
    (case k47 => k_is)
    (case a48 => k_is)
    (case l48 => k_is)
    (case c48 => k_is)
    (case k48 => k_is)
    (case a49 => k_is)
    (case l49 => k_is)
    (case c49 => k_is)
    (case k49 => k_is)
    (case a50 => k_is)
    (case l50 => k_is)
    (case c50 => k_is)
    (case k50 => k_is)
    (case a51 => k_is)
    (case l51 => k_is)
    (case c51 => k_is)
    (case k51 => k_is)
    (case a52 => k_is)
    (case l52 => k_is)
    (case c52 => k_is)
    (case k52 => k_is)
    (case a53 => k_is)
    (case l53 => k_is)
    (case c53 => k_is)
    (case k53 => k_is)
    (case a54 => k_is)
    (case l54 => k_is)
    (case c54 => k_is)
    (case k54 => k_is)
    (case a55 => k_is)
    (case l55 => k_is)
    (case c55 => k_is)
    (case k55 => k_is)
    (case a56 => k_is)
    (case l56 => k_is)
    (case c56 => k_is)
    (case k56 => k_is)
    (case a57 => k_is)
    (case l57 => k_is)
    (case c57 => k_is)
    (case k57 => k_is)
    (case a58 => k_is)
    (case l58 => k_is)
    (case c58 => k_is)
    (case k58 => k_is)
    (case a59 => k_is)
    (case l59 => k_is)
    (case c59 => k_is)
    (case k59 => k_is)
    (case a60 => k_is)
    (case l60 => k_is)
    (case c60 => k_is)
    (case k60 => k_is)
    (case b_int => k_is)
    (case b_len => k_is)
    (case b_range => k_is)
    (case b_sorted => k_is)
    (case b_tuple => k_is)
    (case b_list => k_is)
    (case b_str => k_is)
    (case b_set => k_is)
    (case b_min => k_is)
    (case b_isinstance => k_is)
    (case b_enumerate => k_is)
    (case b_all => k_is)
    (case b_sum => k_is)
    (case b_dict => k_is)
    (case b_bool => k_is)
    (case b_ValueError => k_is)
    (case c_LONGEST_NAME => k_is)
    (case c_HIGHEST_PRICE => k_is)
    (case c_ARROW_PARTS => k_is)
    (case c_MOST_ARROWS => k_is)
    (case c_MOST_STATES => k_is)
    (case c_MOST_RIVALS => k_is)
    (case c_LEAST_NUMBER => k_is)
    (case c_GREATEST_NUMBER => k_is)

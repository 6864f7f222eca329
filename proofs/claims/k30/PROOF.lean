import PyProof.Rows.All
import Wide.All
import OpenK.AllK
import Wide.FinOn
import HandS.ForMost
import HandS.Star
import HandS.NoneIn
import HandS.Property
import HandS.IsInst
import HandS.StrMore
import HandS.FStr
import HandS.DictComp
import HandS.Conv
import HandS.Evl
import HandS.Walk
import HandS.SortRule
import PyProof.Rows.SortKeyStr
import KE.GoesEnumKw
import HandS.Iter
import HandS.Strs
import HandS.SetFor
import KE.DatumOrd
import KE.KRevSl
import HandS.Style
import PyProof.Rows.StrRev
import KE.GoesMore
import PyProof.EnumMake
import HandS.TupAny
import HandS.OwnEq
import HandS.SetKeys
import HandS.TupLen
import PySem.Challenge.RW_enoughpaid_k30_great_machines_made
set_option Elab.async false
set_option linter.all false
set_option maxRecDepth 100000
set_option maxHeartbeats 4000000
namespace Bz
open PySem PySem.Spec PyProof.Rows L2
/-! ### a def that keeps its promise, with all that a caller asks -/
structure DefAt (K : PySem.W.Frag) (mg : PySem.Str → Option Value) (x : PySem.Str) (st : Stmt) (ps : List PySem.Str) : Prop where
  ex : ∃ f fd, Fun K x x st f fd ∧ mg x = some (.ref f) ∧ Binds K fd ps []
structure Keeps (P : Program) (w : World) (K : PySem.W.Frag) (mg : PySem.Str → Option Value) (base : Heap) (CX : CXT) (k : Nat) (x : PySem.Str) (ps : List PySem.Str) (sp : Sp) : Prop where
  ex : ∃ f fd, FnOk P w K mg base CX k f fd ps sp ∧ mg x = some (.ref f) ∧ PySem.W.keepIn K (.ref f) = true ∧ Binds K fd ps []
section
variable {P : Program} {w : World} {K : PySem.W.Frag} {mg : PySem.Str → Option Value} {base : Heap} {CX : CXT} {k : Nat} {x : PySem.Str} {st : Stmt} {ps : List PySem.Str} {sp : Sp}
theorem keeps_of (D : DefAt K mg x st ps) (h : ∀ f fd, Fun K x x st f fd → FnOk P w K mg base CX k f fd ps sp) : Keeps P w K mg base CX k x ps sp := by
  obtain ⟨f, fd, F, m, b⟩ := D.ex
  exact ⟨f, fd, h f fd F, m, F.kp, b⟩
/-- the plain way: no error leaves the def -/
theorem keeps0 {N : List PySem.Str} (D : DefAt K mg x st ps) (S : FnScope N ps (defScope st)) (len : ∀ vs H Q E, sp vs H Q E → vs.length = ps.length)
    (hbody : ∀ (f : Addr) (cdv : Value) (A : Around) (outer : List Env) (s : Shared) (H : Hp) (vs : List V) (Q : VK) (E : XK), Room k (A.deeper (envOfC x (defScope st) s.heap.objs.size f cdv)) → sp vs H Q E →
      ∃ t, PSs (cxOf CX0 P w K mg base N x (defScope st) f cdv A outer s H E).nox (defBody st) t ∧ t { nx := fun _ H' => Q .non H', rt := Q } (start N vs) H) : Keeps P w K mg base CX0 (k + 1) x ps sp :=
  keeps_of D fun f fd F => F.ok S len (hbody f)
end
section
variable {X : Cx} {k : Nat} {x : PySem.Str} {ps : List PySem.Str} {sp : Sp} {e : Expr} {es : List Expr} {p pos : Pos} {t : TA}
theorem pe_own {j : Nat} (F : Keeps X.prog X.w X.K X.mg X.base CX0 k x ps sp) (hr : Room j X.A) (ha : PA X (e :: es) t) (hj : k ≤ j := by decide) (hg : Gl X x := by rfl)
    (hdb : (x == ("__debug__" : PySem.Str)) = false := by decide) (he : starEach (e :: es) X.env = (false, eval e X.env) :: starEach es X.env := by rfl) (hpl : (backTo pos (starEach es X.env)).any (·.1) = false := by rfl) :
    PE X (.Call (.Name x p) (e :: es) [] pos) (tCall sp [] E0 t) := by
  obtain ⟨f, fd, G, m, kp, b⟩ := F.ex
  exact pe_call G (hr.mono hj) hg m kp b .nil pass0 ha hdb he hpl
end
/-! ### the rules that speak of the written part, with it told -/
section
variable (K : PySem.W.Frag) {X : Cx}
theorem kix_list (h : X.K = K := by rfl) : IxR X (rIxL K) := by subst h; exact ix_list
theorem kix_tup (h : X.K = K := by rfl) : IxR X (rIxT K) := by subst h; exact ix_tup
theorem kin_seq (h : X.K = K := by rfl) : OpR X (compareOp .In) (rIn K false) := by subst h; exact op_in_seq
theorem knotIn_seq (h : X.K = K := by rfl) : OpR X (compareOp .NotIn) (rIn K true) := by subst h; exact op_notIn_seq
theorem keqD (hu : X.A.units + 64 < cLine) (h : X.K = K := by rfl) : OpR X (compareOp .Eq) (rEqD K) := by subst h; exact op_eqD hu
theorem kneD (hu : X.A.units + 64 < cLine) (h : X.K = K := by rfl) : OpR X (compareOp .NotEq) (rNeD K) := by subst h; exact op_neD hu
theorem kcatT (h : X.K = K := by rfl) : OpR X (binaryOp .Add) (rCatT K) := by subst h; exact op_catT
theorem ksl_list (h : X.K = K := by rfl) : SlR X (rSlL K) := by subst h; exact sl_list
theorem ksl_tup (h : X.K = K := by rfl) : SlR X (rSlT K) := by subst h; exact sl_tup
def rLenK : List V → Hp → VK → Prop := fun xs H Q => ∃ x n, xs = [x] ∧ LenV K x H n ∧ Q (.int n) H
theorem kcall_len (h : X.K = K := by rfl) : CallR X (.builtin "len") (rLenK K) := by subst h; exact call_len
theorem kisi (h : X.K = K := by rfl) : CallR X (.builtin "isinstance") (rIsi K) := by subst h; exact call_isi
theorem kisiT (h : X.K = K := by rfl) : CallR X (.builtin "isinstance") (rIsiT K) := by subst h; exact call_isiT
def rTupOf : List V → Hp → VK → Prop := fun xs H Q => ∃ p ys, xs = [.ref p] ∧ ((SqL K H p ys ∧ ∀ l, H l = none → Q (.ref l) (upd H l (.tup ys))) ∨ (SqT K H p ys ∧ Q (.ref p) H))
theorem ktuple_of (h : X.K = K := by rfl) : CallR X (.type "tuple") (rTupOf K) := by subst h; exact call_tuple_of
def rListOf : List V → Hp → VK → Prop := fun xs H Q => ∃ p ys, xs = [.ref p] ∧ (SqL K H p ys ∨ SqT K H p ys) ∧ ∀ l, H l = none → Q (.ref l) (upd H l (.lst ys))
theorem klist_of (h : X.K = K := by rfl) : CallR X (.type "list") (rListOf K) := by subst h; exact call_list_of
theorem ksortedS (h : X.K = K := by rfl) : CallR X (.builtin "sorted") (rSortedS K) := by subst h; exact cr_sortedS
theorem kpi_list {tg l : Expr} {tl : TE} (hl : PE X l tl) (h : X.K = K := by rfl) : PI X tg l (iList K tl) := by subst h; exact pi_list hl
theorem kpi_tup {tg l : Expr} {tl : TE} (hl : PE X l tl) (h : X.K = K := by rfl) : PI X tg l (iTup K tl) := by subst h; exact pi_tup hl
theorem kpg_tup {pos : Pos} {es : List Expr} {k : Nat} {t : TGs} {n : Nat} (hc : X.calm = true) (hp : PGs X es t)
    (hn : (assignEach es X.env).length = n := by rfl) (hst : (assignEach es X.env).findIdx? (·.1) = none := by rfl) (h : X.K = K := by rfl) : PG X (.Tuple es k pos) (gTup K n t) := by
  subst h
  exact pg_tup hc hp hn hst
theorem kpa_star {e : Expr} {te : TE} {es : List Expr} {t : TA} {p : Pos} (he : PE X e te) (hr : PA X es t) (hs : starEach (.Starred e p :: es) X.env = (true, eval e X.env) :: starEach es X.env := by rfl) (h : X.K = K := by rfl) :
    PA X (.Starred e p :: es) (StX.tStar K te t) := by
  subst h
  exact StX.pa_star he hr hs
def rJoin : V → List V → Hp → VK → Prop := fun x xs H Q => ∃ a p, ∃ ys : List PySem.Str, x = .str a ∧ xs = [.ref p] ∧ (SqL K H p (ys.map V.str) ∨ SqT K H p (ys.map V.str)) ∧ (ys.map (·.length)).sum + ys.length * a.length ≤ 16777216 ∧ Q (.str (Txt.join a ys)) H
theorem kjoin {o e : Expr} {to te : TE} {apos pos : Pos} (ho : PE X o to) (he : PE X e te) (hs : starEach [e] X.env = [(false, eval e X.env)] := by rfl) (hbase : attributeBase o "join" X.env (eval o X.env) = eval o X.env := by rfl) (hline : (apos.endLine == pos.line) = true := by rfl)
    (h : X.K = K := by rfl) : PE X (.Call (.Attribute o "join" apos) [e] [] pos) (tM1 (rJoin K) to te) := by
  subst h
  exact pe_join ho he hs hbase hline
theorem kbm {o e : Expr} {es : List Expr} {to : TE} {t : TA} {name : PySem.Str} {apos cpos : Pos} {T id : String} {r : V → List V → Hp → VK → Prop} (pa : PlainAttrs T) (slot : Slot T name id) (hty : typeOf (.builtin id) = pure (.type "method_descriptor")) (hm : MtR X id r) (ho : PE X o to) (ha : PA X (e :: es) t)
    (hbase : attributeBase o name X.env (eval o X.env) = eval o X.env := by rfl)
    (hfew : ((backTo cpos (starEach (e :: es) X.env)).all (fun x => !x.1) && (backToKw cpos (keywordEach [] X.env)).all (fun x => x.1.isSome)
      && decide ((e :: es).length + ([] : List Keyword).length + (if ([] : List Keyword).isEmpty then 0 else 1) < 30)) = true := by rfl)
    (hline : (apos.endLine == cpos.line) = true := by rfl) (hs : starEach (e :: es) X.env = (false, eval e X.env) :: starEach es X.env := by rfl) (hplain : (backTo cpos (starEach es X.env)).any (·.1) = false := by rfl) (h : X.K = K := by rfl) :
    PE X (.Call (.Attribute o name apos) (e :: es) [] cpos) (tBM K T r to t) := by
  subst h
  exact pe_bm pa slot hty hm ho ha hbase hfew hline hs hplain
theorem kbm0 {o : Expr} {to : TE} {name : PySem.Str} {apos cpos : Pos} {T id : String} {r : V → List V → Hp → VK → Prop} (pa : PlainAttrs T) (slot : Slot T name id) (hty : typeOf (.builtin id) = pure (.type "method_descriptor")) (hm : MtR X id r) (ho : PE X o to)
    (hbase : attributeBase o name X.env (eval o X.env) = eval o X.env := by rfl) (hline : (apos.endLine == cpos.line) = true := by rfl) (h : X.K = K := by rfl) : PE X (.Call (.Attribute o name apos) [] [] cpos) (tBM0 K T r to) := by
  subst h
  exact pe_bm0 pa slot hty hm ho hbase hline
theorem pe_cst {x : PySem.Str} {n : Int} {pos : Pos} (hm : ∃ t, X.mg x = some (.int n t)) (hg : Gl X x := by rfl) (hdb : (x == ("__debug__" : PySem.Str)) = false := by decide) : PE X (.Name x pos) (tC (.int n)) := by
  obtain ⟨t, hm⟩ := hm
  exact pe_glob hg hm ⟨_, rfl⟩ hdb
end
/-! ### heaps -/
/-- only p may differ -/
def But (p : Addr) (H H' : Hp) : Prop := ∀ b, b ≠ p → H' b = H b
theorem But.refl (p : Addr) (H : Hp) : But p H H := fun _ _ => rfl
theorem But.trans {p : Addr} {H H1 H2 : Hp} (a : But p H H1) (b : But p H1 H2) : But p H H2 := fun x n => (b x n).trans (a x n)
theorem But.upd {p : Addr} {H : Hp} {o : HO} : But p H (upd H p o) := fun b h => upd_ne h
/-- what stood apart from p stands: new objects may have come -/
def Ext (p : Addr) (H H' : Hp) : Prop := ∀ b o, b ≠ p → H b = some o → H' b = some o
theorem Ext.refl (p : Addr) (H : Hp) : Ext p H H := fun _ _ _ h => h
theorem Ext.trans {p : Addr} {H H1 H2 : Hp} (a : Ext p H H1) (b : Ext p H1 H2) : Ext p H H2 := fun x o n h => b x o n (a x o n h)
theorem But.ext {p : Addr} {H H' : Hp} (h : But p H H') : Ext p H H' := fun b o n e => (h b n).trans e
theorem Ext.new {p q : Addr} {H : Hp} {o : HO} (h : H q = none) : Ext p H (L2.upd H q o) := fun b u _ e => by
  rw [upd_ne (ne_of_none e h)]
  exact e
/-- an object that H does not know may change -/
theorem Ext.mut {p q : Addr} {H H' : Hp} {o : HO} (e : Ext p H H') (h : H q = none) : Ext p H (L2.upd H' q o) := fun b u n eb => by
  rw [upd_ne (ne_of_none eb h)]
  exact e b u n eb
theorem Ext.sq {p : Addr} {K : PySem.W.Frag} {H H' : Hp} (e : Ext p H H') {a : Addr} {xs : List V} (n : a ≠ p) (h : SqL K H a xs) : SqL K H' a xs := by
  rcases h with (h | ⟨o, h⟩) | h
  · exact .inl (.inl (e _ _ n h))
  · exact .inl (.inr ⟨o, e _ _ n h⟩)
  · exact .inr h
theorem Ext.free {p : Addr} {H H' : Hp} (e : Ext p H H') {l : Addr} (n : l ≠ p) (h : H' l = Option.none) : H l = Option.none := by
  cases q : H l with
  | none => rfl
  | some o =>
    rw [e l o n q] at h
    cases h
theorem same_new {H : Hp} {q : Addr} {o : HO} (h : H q = none) : Same H (L2.upd H q o) := fun b u e => by
  rw [upd_ne (ne_of_none e h)]
  exact e
theorem same_mut {H H' : Hp} {q : Addr} {o : HO} (e : Same H H') (h : H q = none) : Same H (L2.upd H' q o) := fun b u eb => by
  rw [upd_ne (ne_of_none eb h)]
  exact e b u eb
theorem Same.ext {p : Addr} {H H' : Hp} (e : Same H H') : Ext p H H' := fun b o _ h => e b o h
theorem map_int {ns : List Int} {i : Nat} {y : V} (hi : (ns.map V.int)[i]? = some y) : ∃ u, y = V.int u ∧ ns[i]? = some u := by
  rw [List.getElem?_map] at hi
  cases e : ns[i]? with
  | none => rw [e] at hi; cases hi
  | some u => rw [e] at hi; exact ⟨u, (Option.some.inj hi).symm, rfl⟩
theorem map_str {ns : List PySem.Str} {i : Nat} {y : V} (hi : (ns.map V.str)[i]? = some y) : ∃ u, y = V.str u ∧ ns[i]? = some u := by
  rw [List.getElem?_map] at hi
  cases e : ns[i]? with
  | none => rw [e] at hi; cases hi
  | some u => rw [e] at hi; exact ⟨u, (Option.some.inj hi).symm, rfl⟩
/-! ### the source of the draws -/
/-- at p the law's source, with at most c draws so far -/
def Src (H : Hp) (p : Addr) (c : Nat) : Prop := ∃ g s k : Int, H p = some (.lst [.int g, .int s, .int k]) ∧ 0 ≤ s ∧ s < 2147483647 ∧ 0 ≤ k ∧ k ≤ (c : Int)
theorem Src.mono {H : Hp} {p : Addr} {c d : Nat} (h : Src H p c) (hc : c ≤ d) : Src H p d := by
  obtain ⟨g, s, k, e, h1, h2, h3, h4⟩ := h
  exact ⟨g, s, k, e, h1, h2, h3, by omega⟩
theorem Src.here {H : Hp} {p : Addr} {c : Nat} (h : Src H p c) : ∃ o, H p = some o := by
  obtain ⟨g, s, k, e, _⟩ := h
  exact ⟨_, e⟩
theorem Src.ne {H : Hp} {p q : Addr} {c : Nat} (h : Src H p c) (n : H q = none) : q ≠ p := fun z => by
  obtain ⟨g, s, k, e, _⟩ := h
  rw [z, e] at n
  cases n
theorem Src.new {H : Hp} {p q : Addr} {c : Nat} {o : HO} (h : Src H p c) (n : q ≠ p) : Src (upd H q o) p c := by
  obtain ⟨g, s, k, e, h1, h2, h3, h4⟩ := h
  exact ⟨g, s, k, by rw [upd_ne n.symm]; exact e, h1, h2, h3, h4⟩
def spSource (K : PySem.W.Frag) : Sp := fun vs H Q _ => ∃ (a : Addr) (ns : List Int), vs = [.ref a] ∧ SqL K H a (ns.map V.int) ∧ ∀ p H', H p = none → Src H' p 0 → Same H H' → Q (.ref p) H'
def spDraw : Sp := fun vs H Q _ => ∃ (p : Addr) (n : Int) (c : Nat), vs = [.ref p, .int n] ∧ Src H p c ∧ c ≤ 1000000 ∧ 0 < n ∧ n < 1073741824 ∧
  ∀ (r : Int) H', 0 ≤ r → r < n → Src H' p (c + 1) → But p H H' → Q (.int r) H'
def spPick (K : PySem.W.Frag) : Sp := fun vs H Q _ => ∃ (p a : Addr) (xs : List V) (c : Nat), vs = [.ref p, .ref a] ∧ Src H p c ∧ c ≤ 1000000 ∧ SqL K H a xs ∧ a ≠ p ∧ xs ≠ [] ∧ xs.length ≤ 1000000 ∧
  ∀ v H', v ∈ xs → Src H' p (c + 1) → But p H H' → Q v H'
theorem draw_pow {m x : Int} (h1 : 0 ≤ x) (h2 : x ≤ 1000001) : CPow (Int.fmod m 2147483629 * 48271 + 16807 * x * x + 11) 3 := by
  have e1 := Int.fmod_nonneg_of_pos m (b := 2147483629) (by decide)
  have e2 := Int.fmod_lt_of_pos m (b := 2147483629) (by decide)
  have e3 : 16807 * x * x ≤ 16807 * 1000001 * 1000001 := Int.mul_le_mul (by omega) h2 h1 (by omega)
  have e4 : 0 ≤ 16807 * x * x := Int.mul_nonneg (by omega) h1
  exact ⟨by omega, by omega, by omega⟩
/-- slots known by name of the goal's parts -/
theorem atI_of {α : Type} {xs : List α} {r : Int} (h0 : 0 ≤ r) (h1 : r < xs.length) : ∃ v, v ∈ xs ∧ atI xs r = some v := by
  have hlt : r.toNat < xs.length := by omega
  have e : r = ((r.toNat : Nat) : Int) := by omega
  have q : ∀ z : Int, z = ((r.toNat : Nat) : Int) → atI xs z = some xs[r.toNat] := fun z hz => by
    rw [hz]
    exact atI_nat (List.getElem?_eq_getElem hlt)
  exact ⟨xs[r.toNat], List.getElem_mem hlt, q r e⟩
/-! ### tuples that are known to have no attributes of their own -/
def IsFz (u : HO) (xs : List V) : Prop := ∃ o : Obj, u = .frz o (.tup xs) ∧ o.dict = none ∧ o.cls = .type "tuple"
def FzT (H : Hp) (a : Addr) (xs : List V) : Prop := ∃ u, H a = some u ∧ IsFz u xs
theorem FzT.sq {K : PySem.W.Frag} {H : Hp} {a : Addr} {xs : List V} (h : FzT H a xs) : SqT K H a xs := by
  obtain ⟨u, e, o, rfl, _⟩ := h
  exact .inl (.inr ⟨o, e⟩)
theorem FzT.on {H H' : Hp} {a : Addr} {xs : List V} (h : FzT H a xs) (s : Same H H') : FzT H' a xs := by
  obtain ⟨u, e, q⟩ := h
  exact ⟨u, s _ _ e, q⟩
theorem IsFz.nlst {u : HO} {xs : List V} (h : IsFz u xs) : ∀ ys, u ≠ .lst ys := by
  obtain ⟨o, rfl, _⟩ := h
  intro ys z
  cases z
theorem IsFz.nins {u : HO} {xs : List V} (h : IsFz u xs) : ∀ C d fs, u ≠ .ins C d fs := by
  obtain ⟨o, rfl, _⟩ := h
  intro C d fs z
  cases z
theorem FzT.here {H : Hp} {a : Addr} {xs : List V} (h : FzT H a xs) : ∃ o, H a = some o := by
  obtain ⟨u, e, _⟩ := h
  exact ⟨u, e⟩
/-- tuple(l), l a list -/
def rTupOfF (K : PySem.W.Frag) : List V → Hp → VK → Prop := fun xs H Q => ∃ p ys, xs = [.ref p] ∧ SqL K H p ys ∧ ∀ l u, H l = none → IsFz u ys → Q (.ref l) (upd H l u)
theorem call_tuple_F {X : Cx} : CallR X (.type "tuple") (rTupOfF X.K) := by
  intro pins s σ H xs us Q I r h
  obtain ⟨p, ys, rfl, hq, q⟩ := h
  rw [Vals.ref1 r]
  obtain ⟨its, r', pl, hz⟩ := I.list hq
  have hlen := r'.length
  refine call_tuple_list pl.isList (fun h' kp => ?_) (by simp only [List.size_toArray] <;> omega)
  have I1 : Inv X pins σ H { s with heap := h' } := I.kept (t' := s.toks) kp
  have I2 : Inv X pins σ (upd H h'.objs.size (.frz { cls := .type "tuple", data := .seq its.toArray } (.tup ys))) { s with heap := h'.push { cls := .type "tuple", data := .seq its.toArray } } :=
    I1.laid (t' := s.toks) (fun b o e => Heap.get?_push_of_some _ e) (Nat.le_refl _) (show ObjOk X.prog X.w _ _ _ (.frz _ (.tup ys)) from ⟨Heap.get?_push_size _ rfl, hz, its, r', IsTup.new _ _⟩)
  exact ⟨.ref h'.objs.size, _, I2, rfl, q _ _ (I1.hok.fresh (Nat.le_refl _)) ⟨_, rfl, rfl, rfl⟩⟩
theorem ktuple_F (K : PySem.W.Frag) {X : Cx} (h : X.K = K := by rfl) : CallR X (.type "tuple") (rTupOfF K) := by subst h; exact call_tuple_F
/-- o.m(e, ..), o such a tuple -/
def tBMF (r : V → List V → Hp → VK → Prop) (to : TE) (t : TA) : TE := fun σ H Q => to σ H fun x H1 => (∃ p xs, x = .ref p ∧ FzT H1 p xs) ∧ t σ H1 fun xs H2 => r x xs H2 Q
theorem pe_bmF {X : Cx} {o e : Expr} {es : List Expr} {to : TE} {t : TA} {name : PySem.Str} {apos cpos : Pos} {id : String} {r : V → List V → Hp → VK → Prop} (pa : PlainAttrs "tuple") (slot : Slot "tuple" name id) (hty : typeOf (.builtin id) = pure (.type "method_descriptor")) (hm : MtR X id r) (ho : PE X o to) (ha : PA X (e :: es) t)
    (hbase : attributeBase o name X.env (eval o X.env) = eval o X.env := by rfl)
    (hfew : ((backTo cpos (starEach (e :: es) X.env)).all (fun x => !x.1) && (backToKw cpos (keywordEach [] X.env)).all (fun x => x.1.isSome)
      && decide ((e :: es).length + ([] : List Keyword).length + (if ([] : List Keyword).isEmpty then 0 else 1) < 30)) = true := by rfl)
    (hline : (apos.endLine == cpos.line) = true := by rfl) (hs : starEach (e :: es) X.env = (false, eval e X.env) :: starEach es X.env := by rfl) (hplain : (backTo cpos (starEach es X.env)).any (·.1) = false := by rfl) :
    PE X (.Call (.Attribute o name apos) (e :: es) [] cpos) (tBMF r to t) := by
  refine ⟨fun pins s σ H Q I h => ?_⟩
  refine wpAny_Call_method_late hbase hfew hline rfl (thn (ho.run pins s σ H _ I h) fun v s1 ⟨x, H1, I1, r1, ty, q1⟩ => ?_)
  obtain ⟨p, xs, rfl, u, hu, ob, rfl, dn, cl⟩ := ty
  have hp : s1.heap.get? p = some ob := (I1.hok p _ hu).1
  obtain rfl : v = Value.ref p := r1
  refine ⟨"tuple", id, pa, slot, hty, ⟨ob, hp, cl⟩, fun a ea => ?_, ?_⟩
  · cases ea
    exact ⟨ob, hp, dn⟩
  have hA := ha.run cpos pins s1 σ H1 _ I1 q1
  rw [hs] at hA ⊢
  refine Calls.callWith_builtin (by show (false || (backTo cpos (starEach es X.env)).any (·.1)) = false; rw [hplain] <;> rfl) (Calls.evalArgs_plain ?_)
  exact thn hA fun us s2 ⟨vs, H2, I2, r2, q2⟩ => hm pins s2 σ H2 (.ref p) vs (.ref p) us Q I2 rfl r2 q2
end Bz

namespace Bz
open PySem PySem.Spec PyProof.Rows L2
/-! ### how the heap goes on while draws are made -/
structure Go (p : Addr) (c : Nat) (H0 H : Hp) : Prop where
  src : Src H p c
  ext : Ext p H0 H
  old : ∃ o, H0 p = some o
section
variable {p q : Addr} {c d : Nat} {H0 H H1 H2 : Hp} {o : HO} {K : PySem.W.Frag}
theorem Go.start (h : Src H p c) : Go p c H H := ⟨h, .refl p H, h.here⟩
theorem Go.mono (g : Go p c H0 H) (h : c ≤ d) : Go p d H0 H := ⟨g.src.mono h, g.ext, g.old⟩
theorem Go.trans (a : Go p c H0 H1) (b : Go p d H1 H2) : Go p d H0 H2 := ⟨b.src, a.ext.trans b.ext, a.old⟩
theorem Go.nep (g : Go p c H0 H) (n : H0 q = none) : q ≠ p := fun z => by
  obtain ⟨o, e⟩ := g.old
  rw [z, e] at n
  cases n
theorem Go.ne (g : Go p c H0 H) (n : H q = none) : q ≠ p := g.src.ne n
theorem Go.new (g : Go p c H0 H) (n : H q = none) : Go p c H0 (upd H q o) := ⟨g.src.new (g.ne n), g.ext.trans (Ext.new n), g.old⟩
theorem Go.mut (g : Go p c H0 H) (n : H0 q = none) : Go p c H0 (upd H q o) := ⟨g.src.new (g.nep n), g.ext.mut n, g.old⟩
theorem Go.but (g : Go p c H0 H) (s : Src H1 p d) (b : But p H H1) : Go p d H0 H1 := ⟨s, g.ext.trans b.ext, g.old⟩
theorem Go.same (g : Go p c H0 H) (b : Same H H1) : Go p c H0 H1 := by
  obtain ⟨g', s, k, e, r⟩ := g.src
  exact ⟨⟨g', s, k, b _ _ e, r⟩, g.ext.trans (Same.ext b), g.old⟩
theorem Go.get (g : Go p c H0 H) (n : q ≠ p) (e : H0 q = some o) : H q = some o := g.ext q o n e
theorem Go.seq {xs : List V} (g : Go p c H0 H) (n : q ≠ p) (h : SqL K H0 q xs) : SqL K H q xs := g.ext.sq n h
theorem Go.free (g : Go p c H0 H) (h : H q = none) : H0 q = none := g.ext.free (g.ne h) h
end
/-- a comprehension's list at D so far: I by the turn, the list and the heap (whatever D holds) -/
def LcP (D : Addr) (I : Nat → List V → Hp → Prop) (i : Nat) (H : Hp) : Prop := ∃ acc, H D = some (.lst acc) ∧ acc.length ≤ i ∧ I i acc H
section
variable {D : Addr} {I : Nat → List V → Hp → Prop} {i : Nat} {H : Hp} {acc : List V} {y : V}
theorem LcP.put (hst : ∀ i acc H o, I i acc H → I i acc (upd H D o)) (h : H D = some (.lst acc)) (hl : acc.length ≤ i) (hi : i < 1000000) (hI : I (i + 1) (acc ++ [y]) H) :
    ∃ acc, H D = some (.lst acc) ∧ acc.length < sizeLine ∧ LcP D I (i + 1) (upd H D (.lst (acc ++ [y]))) :=
  ⟨acc, h, Nat.lt_of_le_of_lt hl (Nat.lt_of_lt_of_le hi (by decide)), acc ++ [y], upd_same, by rw [List.length_append, List.length_singleton]; omega, hst _ _ _ _ hI⟩
theorem LcP.skip (h : H D = some (.lst acc)) (hl : acc.length ≤ i) (hI : I (i + 1) acc H) : LcP D I (i + 1) H := ⟨acc, h, by omega, hI⟩
end
theorem lcA {J : It} {n : Nat} {G : Hp → Prop} {Y : Nat → Hp → V → Hp → Prop} (w : Walk J n G Y) {g : TG} {tt : TT} {te : TE} {vs : List Nat} {σ : L2.St} {H1 : Hp} {D : Addr} {Qd : Hp → Prop} (I : Nat → List V → Hp → Prop) (h0 : I 0 [] H1)
    (hst : ∀ i acc H o, I i acc H → I i acc (upd H D o)) (hG : ∀ i acc H, i ≤ n → I i acc H → G H)
    (hs : ∀ i x acc H H', i < n → I i acc H → H D = some (.lst acc) → acc.length ≤ i → Y i H x H' → g x (wipe σ vs) H' fun σ2 H2 => wipe σ2 vs = wipe σ vs ∧ tt σ2 H2 fun b H3 =>
      if b = true then te σ2 H3 fun y H4 => ∃ acc, H4 D = some (.lst acc) ∧ acc.length < sizeLine ∧ LcP D I (i + 1) (upd H4 D (.lst (acc ++ [y]))) else LcP D I (i + 1) H3)
    (hd : ∀ acc H, I n acc H → H D = some (.lst acc) → acc.length ≤ n → Qd H) :
    ∃ W : Nat → Nat → Hp → Prop, (∃ m, W 0 m (upd H1 D (.lst []))) ∧ ∀ i m H, W i m H →
      (J.stop i H ∧ Qd H) ∨ (J.go i H ∧ ∃ Nx : Hp → Prop, (∀ H', Nx H' → ∃ m', m' < m ∧ W (i + 1) m' H') ∧ ∀ x H', J.yld i H x H' → g x (wipe σ vs) H' fun σ2 H2 => wipe σ2 vs = wipe σ vs ∧ tt σ2 H2 fun b H3 =>
        if b = true then te σ2 H3 fun y H4 => ∃ acc, H4 D = some (.lst acc) ∧ acc.length < sizeLine ∧ Nx (upd H4 D (.lst (acc ++ [y]))) else Nx H3) :=
  lc_it w (LcP D I) ⟨[], upd_same, Nat.le_refl _, hst _ _ _ _ h0⟩ (fun i H hi ⟨acc, _, _, hI⟩ => hG i acc H hi hI) (fun i x H H' hi ⟨acc, hA, hl, hI⟩ hy => hs i x acc H H' hi hI hA hl hy) (fun H ⟨acc, hA, hl, hI⟩ => hd acc H hI hA hl)
/-! ### names -/
def Sg (c : Nat) : Prop := 97 ≤ c ∧ c ≤ 122
def Nm (s : PySem.Str) : Prop := 1 ≤ s.length ∧ s.length ≤ 8 ∧ ∀ c ∈ TL.tl s, Sg c
def nmB (s : PySem.Str) : Bool := decide (1 ≤ s.length) && decide (s.length ≤ 8) && (TL.tl s).all fun c => decide (97 ≤ c) && decide (c ≤ 122)
theorem nmB_iff {s : PySem.Str} : nmB s = true ↔ Nm s := by
  unfold nmB Nm Sg
  simp only [Bool.and_eq_true, decide_eq_true_eq, List.all_eq_true]
  exact ⟨fun ⟨⟨a, b⟩, c⟩ => ⟨a, b, c⟩, fun ⟨a, b, c⟩ => ⟨⟨a, b⟩, c⟩⟩
theorem len_tl (s : PySem.Str) : s.length = (TL.tl s).length := by
  show s.cps.size = s.cps.toList.length
  rw [Array.length_toList]
theorem ext_tl {x y : PySem.Str} (h : TL.tl x = TL.tl y) : x = y := by
  obtain ⟨a⟩ := x
  obtain ⟨b⟩ := y
  have e : a = b := Array.toList_inj.mp h
  rw [e]
theorem joinL_nil : ∀ ls : List (List Nat), TL.joinL [] ls = ls.flatten
  | [] => rfl
  | [p] => by show p = [p].flatten; simp
  | p :: q :: r => by
    show p ++ ([] ++ TL.joinL [] (q :: r)) = _
    rw [joinL_nil (q :: r)]
    simp
theorem tl_join0 (ys : List PySem.Str) : TL.tl (Txt.join "" ys) = (ys.map TL.tl).flatten := by
  rw [TL.join_eq, TL.tl_join]
  exact joinL_nil _
theorem inV_str {x : PySem.Str} {ys : List PySem.Str} : inV (.str x) (ys.map V.str) = decide (x ∈ ys) := by
  unfold inV
  rw [List.any_map]
  rw [Bool.eq_iff_iff, decide_eq_true_eq, List.any_eq_true]
  constructor
  · rintro ⟨y, hy, e⟩
    have e' : y = x := by
      first
      | exact of_decide_eq_true e
      | exact eq_of_beq e
      | (simp [eqV] at e; exact e)
    rw [← e']
    exact hy
  · intro h
    refine ⟨x, h, ?_⟩
    first
    | exact decide_eq_true rfl
    | (simp [eqV])
theorem flat_str (ys : List PySem.Str) : (ys.map V.str).all flatV = true := by
  rw [List.all_eq_true]
  intro v hv
  obtain ⟨y, _, rfl⟩ := List.mem_map.mp hv
  rfl
theorem join_signs {ys : List PySem.Str} (h : ∀ y ∈ ys, ∃ ch, TL.tl y = [ch] ∧ Sg ch) : (Txt.join "" ys).length = ys.length ∧ ∀ c ∈ TL.tl (Txt.join "" ys), Sg c := by
  rw [len_tl, tl_join0]
  induction ys with
  | nil => exact ⟨rfl, fun c hc => by cases hc⟩
  | cons y ys ih =>
    obtain ⟨ch, e, hs⟩ := h y (List.mem_cons_self ..)
    obtain ⟨i1, i2⟩ := ih fun z hz => h z (List.mem_cons_of_mem _ hz)
    rw [List.map_cons, List.flatten_cons, e]
    refine ⟨by simp only [List.singleton_append, List.length_cons, i1], fun c hc => ?_⟩
    rcases List.mem_append.mp hc with hc | hc
    · rw [List.mem_singleton.mp hc]; exact hs
    · exact i2 c hc
theorem nm_lit {s : PySem.Str} (h : nmB s = true) : Nm s := nmB_iff.mp h
theorem sIx_nat {n d k : Nat} (h : k ≤ n) : HT.sIx n d (some (k : Int)) = k := by
  unfold HT.sIx
  simp only
  split <;> omega
theorem tl_cut1 (z : PySem.Str) (h : 1 ≤ z.length) : TL.tl (cutS z (some 1) none) = (TL.tl z).drop 1 := by
  have e1 : HT.sIx z.length 0 (some 1) = 1 := sIx_nat (k := 1) h
  have e2 : HT.sIx z.length z.length none = z.length := rfl
  unfold cutS
  show (List.take (HT.sIx z.length z.length none - HT.sIx z.length 0 (some 1)) (List.drop (HT.sIx z.length 0 (some 1)) z.cps.toList)).toArray.toList = _
  rw [e1, e2]
  show List.take (z.length - 1) (List.drop 1 z.cps.toList) = List.drop 1 z.cps.toList
  have el := len_tl z
  have el' : z.length = z.cps.toList.length := el
  exact List.take_of_length_le (by rw [List.length_drop, el']; omega)
theorem nm_q {s : PySem.Str} (h : Nm s) (h4 : 2 ≤ s.length) (h8 : s.length ≤ 8) : Nm ("q" ++ cutS s (some 1) none) := by
  have e : TL.tl ("q" ++ cutS s (some 1) none) = 113 :: (TL.tl s).drop 1 := by
    rw [TL.tl_append, tl_cut1 s (by omega)]
    rfl
  have el := len_tl s
  refine ⟨?_, ?_, ?_⟩
  · rw [len_tl, e, List.length_cons]; omega
  · rw [len_tl, e, List.length_cons, List.length_drop]; omega
  · rw [e]
    intro c hc
    rcases List.mem_cons.mp hc with rfl | hc
    · exact ⟨by omega, by omega⟩
    · exact h.2.2 c (List.mem_of_mem_drop hc)
theorem nodup_le {α : Type} [DecidableEq α] : ∀ {L ts : List α}, L.Nodup → (∀ s ∈ L, s ∈ ts) → L.length ≤ ts.length
  | [], _, _, _ => Nat.zero_le _
  | a :: L, ts, hn, hs => by
    have ha := hs a (List.mem_cons_self ..)
    obtain ⟨h1, h2⟩ := List.nodup_cons.mp hn
    have ih := nodup_le (ts := ts.erase a) h2 fun s hsL => by
      have ne : s ≠ a := fun e => h1 (e ▸ hsL)
      exact (List.mem_erase_of_ne ne).mpr (hs s (List.mem_cons_of_mem _ hsL))
    rw [List.length_erase_of_mem ha] at ih
    have := List.length_pos_of_mem ha
    rw [List.length_cons]
    omega
theorem z_names {ts L : List PySem.Str} (h : ts.length ≤ 16) (hl : L.length = 17) (hn : L.Nodup) : ∃ s ∈ L, s ∉ ts := by
  refine Classical.byContradiction fun c => ?_
  have q := nodup_le hn fun s hs => Classical.byContradiction fun q => c ⟨s, hs, q⟩
  omega
theorem ab_sg {ch : Nat} (h : ch ∈ (("abcdefghijklmnopqrstuvwxyz" : PySem.Str)).cps.toList) : Sg ch := by
  have q : ((("abcdefghijklmnopqrstuvwxyz" : PySem.Str)).cps.toList.all fun c => decide (97 ≤ c) && decide (c ≤ 122)) = true := by decide +kernel
  have z := List.all_eq_true.mp q ch h
  simp only [Bool.and_eq_true, decide_eq_true_eq] at z
  exact z
/-- a name of a law's own choice where a drawn one is taken -/
def zNames : List PySem.Str := (("abcdefghijklmnopq" : PySem.Str)).cps.toList.map fun ch => "z" ++ (⟨#[ch]⟩ : PySem.Str)
theorem zNames_len : zNames.length = 17 := by decide +kernel
theorem zNames_nd : zNames.Nodup := by decide +kernel
theorem zNames_nm : ∀ s ∈ zNames, Nm s := by
  have q : (zNames.all fun s => nmB s) = true := by decide +kernel
  exact fun s hs => nm_lit (List.all_eq_true.mp q s hs)
theorem az_size : ((("abcdefghijklmnopq" : PySem.Str)).cps).size = 17 := by decide +kernel
theorem zNames_step {i : Nat} {ch : Nat} (h : ((("abcdefghijklmnopq" : PySem.Str)).cps)[i]? = some ch) : zNames.take (i + 1) = zNames.take i ++ ["z" ++ (⟨#[ch]⟩ : PySem.Str)] := by
  have e : zNames[i]? = some ("z" ++ (⟨#[ch]⟩ : PySem.Str)) := by
    unfold zNames
    rw [List.getElem?_map, Array.getElem?_toList, h]
    rfl
  rw [List.take_add_one, e]
  rfl
theorem z_size (ch : Nat) : (("z" : PySem.Str)).length + ((⟨#[ch]⟩ : PySem.Str)).length ≤ sizeLine := by
  have e : (("z" : PySem.Str)).length = 1 := by decide +kernel
  have e2 : ((⟨#[ch]⟩ : PySem.Str)).length = 1 := rfl
  rw [e, e2]
  exact Evl.sz_of (by omega)
theorem letters_of {ys : List PySem.Str} (h : ∀ y ∈ ys, ∃ ch, TL.tl y = [ch] ∧ Sg ch) : (ys.map (·.length)).sum = ys.length := by
  induction ys with
  | nil => rfl
  | cons y ys ih =>
    obtain ⟨ch, e, _⟩ := h y (List.mem_cons_self ..)
    have e1 : y.length = 1 := by rw [len_tl, e]; rfl
    rw [List.map_cons, List.sum_cons, ih fun z hz => h z (List.mem_cons_of_mem _ hz), e1, List.length_cons]
    omega
/-! ### promises of the drawing helpers -/
def spSubset (K : PySem.W.Frag) : Sp := fun vs H Q _ => ∃ (p a : Addr) (xs : List V) (c : Nat), vs = [.ref p, .ref a] ∧ Src H p c ∧ c + xs.length ≤ 1000000 ∧ SqL K H a xs ∧ a ≠ p ∧
  ∀ (q : Addr) (ys : List V) (H' : Hp), H q = none → H' q = some (.lst ys) → (∀ y ∈ ys, y ∈ xs) → ys.length ≤ xs.length → Go p (c + xs.length) H H' → Q (.ref q) H'
def spName (K : PySem.W.Frag) : Sp := fun vs H Q _ => ∃ (p a : Addr) (ts : List PySem.Str) (c : Nat), vs = [.ref p, .ref a] ∧ Src H p c ∧ c ≤ 900000 ∧ SqL K H a (ts.map V.str) ∧ a ≠ p ∧ ts.length ≤ 16 ∧
  ∀ (s : PySem.Str) (H' : Hp), Nm s → s ∉ ts → Go p (c + 12) H H' → Q (.str s) H'
def spNames : Sp := fun vs H Q _ => ∃ (p : Addr) (n : Int) (c : Nat), vs = [.ref p, .int n] ∧ Src H p c ∧ c ≤ 800000 ∧ 0 ≤ n ∧ n ≤ 16 ∧
  ∀ (q : Addr) (ns : List PySem.Str) (H' : Hp), H q = none → H' q = some (.lst (ns.map V.str)) → (∀ s ∈ ns, Nm s) → (ns.length : Int) = n → ns.Nodup → Go p (c + 12 * n.toNat) H H' → Q (.ref q) H'
/-! ### arrows -/
structure Arw where
  s : PySem.Str
  l : PySem.Str
  t : PySem.Str
  c : Int
  deriving DecidableEq
abbrev Arw.vals (x : Arw) : List V := [.str x.s, .str x.l, .str x.t, .int x.c]
/-- at v stands the arrow x, a tuple -/
def ArT (K : PySem.W.Frag) (H : Hp) (v : V) (x : Arw) : Prop := ∃ q, v = .ref q ∧ H q = some (.tup x.vals)
/-- a list of arrows, tuples all: none of them at p -/
def ArTs (K : PySem.W.Frag) (p : Addr) (H : Hp) (vs : List V) (xs : List Arw) : Prop := Paired (fun v x => ∃ q, v = V.ref q ∧ q ≠ p ∧ H q = some (.tup x.vals)) vs xs
theorem ArTs.ext {K : PySem.W.Frag} {p : Addr} {H H' : Hp} {vs : List V} {xs : List Arw} (h : ArTs K p H vs xs) (e : Ext p H H') : ArTs K p H' vs xs :=
  Paired.mapP h fun v x ⟨q, ev, n, hq⟩ => ⟨q, ev, n, e q _ n hq⟩
theorem ArTs.snoc {K : PySem.W.Frag} {p : Addr} {H : Hp} {vs : List V} {xs : List Arw} {q : Addr} {x : Arw} (h : ArTs K p H vs xs) (n : q ≠ p) (hq : H q = some (.tup x.vals)) : ArTs K p H (vs ++ [.ref q]) (xs ++ [x]) := by
  induction h with
  | nil => exact .cons ⟨q, rfl, n, hq⟩ .nil
  | cons a r ih => exact .cons a ih
/-- well made: names, a letter, a price -/
def Lt (s : PySem.Str) : Prop := s.length = 1 ∧ ∀ c ∈ TL.tl s, Sg c
structure Arw.Ok (x : Arw) : Prop where
  s : Nm x.s
  l : Lt x.l
  t : Nm x.t
  c0 : 0 ≤ x.c
  c1 : x.c ≤ 99
def spArrows (K : PySem.W.Frag) : Sp := fun vs H Q _ => ∃ (p a b : Addr) (ss ls : List PySem.Str) (n : Int) (c : Nat), vs = [.ref p, .ref a, .ref b, .int n] ∧ Src H p c ∧ c ≤ 500000 ∧ a ≠ p ∧ b ≠ p ∧
  SqL K H a (ss.map V.str) ∧ SqL K H b (ls.map V.str) ∧ ss ≠ [] ∧ ls ≠ [] ∧ ss.length ≤ 100 ∧ ls.length ≤ 100 ∧ 0 < n ∧ n ≤ 100 ∧
  ∀ (q : Addr) (vs : List V) (xs : List Arw) (H' : Hp), H q = none → H' q = some (.lst vs) → ArTs K p H' vs xs → (∀ x ∈ xs, x.s ∈ ss ∧ x.l ∈ ls ∧ x.t ∈ ss ∧ 0 ≤ x.c ∧ x.c ≤ 9) → 1 ≤ xs.length → (xs.length : Int) ≤ n → Go p (c + 1 + 4 * n.toNat) H H' → Q (.ref q) H'
/-- [pick(names)] + subset(names), names at slot j -/
theorem some_names {K : PySem.W.Frag} {p a : Addr} {ns : List PySem.Str} {c : Nat} {H0 H : Hp} {j : Nat} {σ : L2.St} {R : VK} (h0 : σ[0]? = some (some (.ref p))) (hj : σ[j]? = some (some (.ref a))) (g : Go p c H0 H) (hc : c + ns.length + 1 ≤ 900000) (na : a ≠ p) (ha : SqL K H a (ns.map V.str)) (n0 : ns ≠ []) (n1 : ns.length ≤ 100)
    (k : ∀ (q : Addr) (ss : List PySem.Str) (H' : Hp), H q = none → H' q = some (.lst (ss.map V.str)) → (∀ s ∈ ss, s ∈ ns) → 1 ≤ ss.length → ss.length ≤ ns.length + 1 → Go p (c + ns.length + 1) H H' → R (.ref q) H') :
    tOp rCat (tLst (tCons (tCall (spPick K) [] E0 (tCons (tVar 0) (tCons (tVar j) tNil))) tNil)) (tCall (spSubset K) [] E0 (tCons (tVar 0) (tCons (tVar j) tNil))) σ H R := by
  refine ⟨_, h0, _, hj, p, a, ns.map V.str, c, rfl, g.src, by omega, ha, na, by simpa using n0, by rw [List.length_map]; omega, fun v H1 hv hS1 hb1 => ?_⟩
  obtain ⟨s0, hs0, rfl⟩ := List.mem_map.mp hv
  have g1 : Go p (c + 1) H H1 := (Go.start g.src).but hS1 hb1
  refine ⟨Nat.le_of_ble_eq_true rfl, fun l hl => ?_⟩
  have g2 : Go p (c + 1) H (upd H1 l (.lst [.str s0])) := g1.new hl
  refine ⟨_, h0, _, hj, p, a, ns.map V.str, c + 1, rfl, g2.src, by rw [List.length_map]; omega, g2.seq na ha, na, fun b ys H3 hb h3 hm hlen g3 => ?_⟩
  obtain ⟨ss, rfl⟩ : ∃ ss : List PySem.Str, ys = ss.map V.str := by
    clear h3 hlen
    induction ys with
    | nil => exact ⟨[], rfl⟩
    | cons y ys ih =>
      obtain ⟨ss, e⟩ := ih fun z hz => hm z (List.mem_cons_of_mem _ hz)
      obtain ⟨s, _, e1⟩ := List.mem_map.mp (hm y (List.mem_cons_self ..))
      exact ⟨s :: ss, by rw [e, ← e1]; rfl⟩
  rw [List.length_map] at hlen
  rw [List.length_map] at hlen
  have h3l : H3 l = some (.lst [.str s0]) := g3.get (g1.ne hl) upd_same
  refine ⟨l, b, [.str s0], ss.map V.str, rfl, rfl, h3l, h3, ?_, fun q hq => ?_⟩
  · rw [List.length_map]
    exact Evl.sz_of (by simp; omega)
  · have gq : Go p (c + ns.length + 1) H H3 := (g2.trans g3).mono (by rw [List.length_map]; omega)
    refine k q (s0 :: ss) _ (gq.free hq) upd_same (fun s hs => ?_) (by simp) (by simp; omega) (gq.new hq)
    rcases List.mem_cons.mp hs with rfl | hs
    · exact hs0
    · obtain ⟨s', h1, h2⟩ := List.mem_map.mp (hm (.str s) (List.mem_map.mpr ⟨s, hs, rfl⟩))
      have e : s' = s := V.str.inj h2
      rw [← e]
      exact h1
theorem cutV_take {xs : List V} {k : Nat} (h : k ≤ xs.length) : cutV xs none (some (k : Int)) = xs.take k := by
  unfold cutV
  have e1 : HT.sIx xs.length 0 none = 0 := rfl
  have e2 : HT.sIx xs.length xs.length (some (k : Int)) = k := sIx_nat h
  rw [e1, e2]
  rfl
/-- what a law's machine is made of, at q, a tuple of three lists -/
def Made (K : PySem.W.Frag) (p : Addr) (H : Hp) (q : Addr) (xs : List Arw) (ss es : List PySem.Str) : Prop :=
  ∃ (a1 a2 a3 : Addr) (vs : List V), q ≠ p ∧ a1 ≠ p ∧ a2 ≠ p ∧ a3 ≠ p ∧ H q = some (.tup [.ref a1, .ref a2, .ref a3]) ∧ H a1 = some (.lst vs) ∧ ArTs K p H vs xs ∧ H a2 = some (.lst (ss.map V.str)) ∧ H a3 = some (.lst (es.map V.str))
theorem Made.ext {K : PySem.W.Frag} {p q : Addr} {H H' : Hp} {xs : List Arw} {ss es : List PySem.Str} (m : Made K p H q xs ss es) (e : Ext p H H') : Made K p H' q xs ss es := by
  obtain ⟨a1, a2, a3, vs, nq, n1, n2, n3, hq, h1, hA, h2, h3⟩ := m
  exact ⟨a1, a2, a3, vs, nq, n1, n2, n3, e _ _ nq hq, e _ _ n1 h1, hA.ext e, e _ _ n2 h2, e _ _ n3 h3⟩
structure MOk (xs : List Arw) (ss es : List PySem.Str) (m n : Int) : Prop where
  nms : ∃ ns : List PySem.Str, (∀ s ∈ ns, Nm s) ∧ (ns.length : Int) ≤ m ∧ ns.Nodup ∧ (∀ x ∈ xs, x.s ∈ ns ∧ x.t ∈ ns) ∧ (∀ s ∈ ss, s ∈ ns) ∧ ∀ s ∈ es, s ∈ ns
  lets : ∀ x ∈ xs, x.l ∈ (["a", "b", "c", "d"] : List PySem.Str)
  cost : ∀ x ∈ xs, 0 ≤ x.c ∧ x.c ≤ 9
  len : 1 ≤ xs.length ∧ (xs.length : Int) ≤ n
  slen : 1 ≤ ss.length ∧ (ss.length : Int) ≤ m + 1
  elen : 1 ≤ es.length ∧ (es.length : Int) ≤ m + 1
def spMachine (K : PySem.W.Frag) : Sp := fun vs H Q _ => ∃ (p : Addr) (m g n : Int) (c : Nat), vs = [.ref p, .int m, .int g, .int n] ∧ Src H p c ∧ c ≤ 300000 ∧ 0 < m ∧ m ≤ 8 ∧ 0 < g ∧ g ≤ 4 ∧ 0 < n ∧ n ≤ 20 ∧
  ∀ (q : Addr) (xs : List Arw) (ss es : List PySem.Str) (H' : Hp), H q = none → Made K p H' q xs ss es → MOk xs ss es m n → Go p (c + 300) H H' → Q (.ref q) H'
end Bz

namespace Bz
open PySem PySem.Spec PyProof.Rows L2
/-! ### sorted, of tuples of texts and ints -/
abbrev Ky := L2.Key
def ltK : Ky → Ky → Bool
  | .inl a, .inl b => decide (a < b)
  | .inr a, .inr b => decide (a.cps.toList < b.cps.toList)
  | .inl _, .inr _ => true
  | .inr _, .inl _ => false
def lexK : List Ky → List Ky → Bool
  | [], [] => false
  | [], _ :: _ => true
  | _ :: _, [] => false
  | a :: as, b :: bs => if a = b then lexK as bs else ltK a b
def isL : Ky → Bool
  | .inl _ => true
  | .inr _ => false
theorem strs_eq {a b : PySem.Str} (h : a.cps.toList = b.cps.toList) : a = b := ext_tl h
theorem ltK_irr (a : Ky) : ltK a a = false := by
  cases a with
  | inl a => exact decide_eq_false (Int.lt_irrefl _)
  | inr a => exact decide_eq_false (List.lt_irrefl _)
theorem ltK_asym {a b : Ky} (h : ltK a b = true) : ltK b a = false := by
  cases a with
  | inl a =>
    cases b with
    | inl b =>
      have z : a < b := of_decide_eq_true h
      exact decide_eq_false (by omega)
    | inr b => rfl
  | inr a =>
    cases b with
    | inl b => cases h
    | inr b =>
      have z : a.cps.toList < b.cps.toList := of_decide_eq_true h
      exact decide_eq_false fun q => List.lt_irrefl _ (List.lt_trans z q)
theorem ltK_tot {a b : Ky} (h : ltK a b = false) (n : a ≠ b) : ltK b a = true := by
  cases a with
  | inl a =>
    cases b with
    | inl b =>
      have z : ¬ a < b := of_decide_eq_false h
      have n' : a ≠ b := fun e => n (by rw [e])
      exact decide_eq_true (by omega)
    | inr b => cases h
  | inr a =>
    cases b with
    | inl b => rfl
    | inr b =>
      have z : ¬ a.cps.toList < b.cps.toList := of_decide_eq_false h
      have n' : a.cps.toList ≠ b.cps.toList := fun e => n (by rw [strs_eq e])
      refine decide_eq_true ?_
      have q : b.cps.toList ≤ a.cps.toList := List.not_lt.mp z
      exact Classical.byContradiction fun c => n' (List.le_antisymm (List.not_lt.mp c) q)
theorem ltK_trans {a b c : Ky} (h : ltK a b = true) (k : ltK b c = true) : ltK a c = true := by
  cases a with
  | inl a =>
    cases b with
    | inl b =>
      cases c with
      | inl c =>
        have z : a < b := of_decide_eq_true h
        have y : b < c := of_decide_eq_true k
        exact decide_eq_true (by omega)
      | inr c => rfl
    | inr b =>
      cases c with
      | inl c => cases k
      | inr c => rfl
  | inr a =>
    cases b with
    | inl b => cases h
    | inr b =>
      cases c with
      | inl c => cases k
      | inr c =>
        have z : a.cps.toList < b.cps.toList := of_decide_eq_true h
        have y : b.cps.toList < c.cps.toList := of_decide_eq_true k
        exact decide_eq_true (List.lt_trans z y)
theorem lexK_irr : ∀ a : List Ky, lexK a a = false
  | [] => rfl
  | a :: as => by unfold lexK; rw [if_pos rfl]; exact lexK_irr as
theorem lexK_asym : ∀ {a b : List Ky}, lexK a b = true → lexK b a = false
  | [], [], h => by cases h
  | [], _ :: _, _ => rfl
  | _ :: _, [], h => by cases h
  | a :: as, b :: bs, h => by
    unfold lexK at h ⊢
    by_cases e : a = b
    · rw [if_pos e] at h
      rw [if_pos e.symm]
      exact lexK_asym h
    · rw [if_neg e] at h
      rw [if_neg fun z => e z.symm]
      exact ltK_asym h
theorem lexK_tot : ∀ {a b : List Ky}, lexK a b = false → a ≠ b → lexK b a = true
  | [], [], _, n => absurd rfl n
  | [], _ :: _, h, _ => by cases h
  | _ :: _, [], _, _ => rfl
  | a :: as, b :: bs, h, n => by
    unfold lexK at h ⊢
    by_cases e : a = b
    · rw [if_pos e] at h
      rw [if_pos e.symm]
      exact lexK_tot h fun z => n (by rw [e, z])
    · rw [if_neg e] at h
      rw [if_neg fun z => e z.symm]
      exact ltK_tot h e
theorem lexK_trans : ∀ {a b c : List Ky}, lexK a b = true → lexK b c = true → lexK a c = true
  | [], _, [], h, k => by
    rename_i b
    cases b with
    | nil => cases h
    | cons _ _ => cases k
  | [], _, _ :: _, _, _ => rfl
  | _ :: _, [], _, h, _ => by cases h
  | _ :: _, _ :: _, [], _, k => by cases k
  | a :: as, b :: bs, c :: cs, h, k => by
    unfold lexK at h k ⊢
    by_cases e : a = b
    · rw [if_pos e] at h
      subst e
      by_cases e2 : a = c
      · rw [if_pos e2] at k ⊢
        exact lexK_trans h k
      · rw [if_neg e2] at k ⊢
        exact k
    · rw [if_neg e] at h
      by_cases e2 : b = c
      · subst e2
        rw [if_neg e]
        exact h
      · rw [if_neg e2] at k
        have t := ltK_trans h k
        have ne : a ≠ c := fun z => by rw [z, ltK_irr] at t; cases t
        rw [if_neg ne]
        exact t
theorem lexK_swo {α : Type} (k : α → List Ky) : SrtO.Swo fun x y => lexK (k x) (k y) := by
  refine ⟨fun x y h => lexK_asym h, fun x y z h1 h2 => ?_⟩
  -- lt y x = false, lt z y = false → lt z x = false
  rcases Bool.eq_false_or_eq_true (lexK (k z) (k x)) with q | q
  · by_cases e : k y = k x
    · rw [← e, h2] at q
      cases q
    · have t := lexK_tot h1 e
      have t2 := lexK_trans q t
      rw [h2] at t2
      cases t2
  · exact q
section
variable {prog : Program} {w : World} {A : Around} {E : Value → Shared → Prop} {s : Shared}
theorem key_eq : ∀ {a b : Ky} {u v : Value}, isL a = isL b → RelV (kV a) u → RelV (kV b) v → ∀ {Q : Bool → Shared → Prop}, Q (decide (a = b)) s → wpAny (model prog w) A (eqBool u v) Q E s
  | .inl a, .inl b, _, _, _, ⟨t, rfl⟩, ⟨t', rfl⟩, Q, h => SeqAt.EqAt.int_int a t b t' prog w _ _ (by
      have e : decide ((Sum.inl a : Ky) = Sum.inl b) = (a == b) := key_ll a b
      rw [← e]
      exact h)
  | .inr a, .inr b, _, _, _, ⟨t, rfl⟩, ⟨t', rfl⟩, Q, h => SeqAt.EqAt.str_str a t b t' prog w _ _ (by
      have e : decide ((Sum.inr a : Ky) = Sum.inr b) = (a == b) := by rw [key_rr]; rfl
      rw [← e]
      exact h)
  | .inl _, .inr _, _, _, e, _, _, _, _ => by cases e
  | .inr _, .inl _, _, _, e, _, _, _, _ => by cases e
theorem key_lt : ∀ {a b : Ky} {u v : Value} {i : Nat}, isL a = isL b → RelV (kV a) u → RelV (kV b) v → ∀ {Q : Bool → Shared → Prop}, Q (ltK a b) s → wpAny (model prog w) A (oneLt' (true && i == 0) u v) Q E s
  | .inl a, .inl b, _, _, 0, _, ⟨t, rfl⟩, ⟨t', rfl⟩, Q, h => oneLt_int h
  | .inr a, .inr b, _, _, 0, _, ⟨t, rfl⟩, ⟨t', rfl⟩, Q, h => oneLt_str h
  | .inl a, .inl b, _, _, i + 1, _, ⟨t, rfl⟩, ⟨t', rfl⟩, Q, h => PySem.W.kat_one _ _ (PyProof.Rows.lt_int h)
  | .inr a, .inr b, _, _, i + 1, _, ⟨t, rfl⟩, ⟨t', rfl⟩, Q, h => PySem.W.kat_one _ _ (PyProof.Rows.lt_str h)
  | .inl _, .inr _, _, _, _, e, _, _, _, _ => by cases e
  | .inr _, .inl _, _, _, _, e, _, _, _, _ => by cases e
theorem keys_lex : ∀ {ks ls : List Ky} {us vs : List Value} {i : Nat}, ks.map isL = ls.map isL → Vals (ks.map kV) us → Vals (ls.map kV) vs →
    PySem.W.KatLex prog w A true false (fun r s' => s' = s ∧ r = lexK ks ls) (us.zip vs) i s
  | [], [], _, _, i, _, .nil, .nil => PySem.W.kat_nil ⟨rfl, rfl⟩
  | [], _ :: _, _, _, _, e, _, _ => by cases e
  | _ :: _, [], _, _, _, e, _, _ => by cases e
  | a :: as, b :: bs, u :: us, v :: vs, i, e, .cons ra rs, .cons rb ts => by
    have e1 : isL a = isL b := (List.cons.inj e).1
    have e2 : as.map isL = bs.map isL := (List.cons.inj e).2
    refine PySem.W.kat_cons (key_eq e1 ra rb ?_)
    refine PySem.W.kat_go (fun h => ?_) (fun h => ?_)
    · have hab : a = b := of_decide_eq_true h
      refine PySem.W.kat_yes ?_
      have z : lexK (a :: as) (b :: bs) = lexK as bs := by show (if a = b then _ else _) = _; rw [if_pos hab]
      rw [z]
      exact keys_lex e2 rs ts
    · have hab : ¬ a = b := of_decide_eq_false h
      refine PySem.W.kat_no (key_lt e1 ra rb ⟨rfl, ?_⟩)
      show ltK a b = (if a = b then _ else _)
      rw [if_neg hab]
/-- a tuple of such keys -/
def IsKeys (h : Heap) (v : Value) (ks : List Ky) : Prop := ∃ a o us n, v = .ref a ∧ h.get? a = some o ∧ o.cls = .type "tuple" ∧ o.data = .seq us n ∧ Vals (ks.map kV) us.toList
theorem IsKeys.keeps {h h' : Heap} {v : Value} {ks : List Ky} (p : IsKeys h v ks) (k : ∀ b o, h.get? b = some o → o.cls = .type "tuple" → h'.get? b = some o) : IsKeys h' v ks := by
  obtain ⟨a, o, us, n, e, ho, hc, hd, r⟩ := p
  exact ⟨a, o, us, n, e, k _ _ ho hc, hc, hd, r⟩
theorem keys_cmp {vs : List Value} {k : Value → List Ky} {sh : List Bool} (hp : ∀ v ∈ vs, IsKeys s.heap v (k v) ∧ (k v).map isL = sh) : SrtO.Cmp prog w A s (tuples' true) (fun p => p.1 ∈ vs) (SrtO.lt2 fun v u => lexK (k v) (k u)) := by
  intro p q hm hm'
  obtain ⟨h1, e1⟩ := hp _ hm
  obtain ⟨h2, e2⟩ := hp _ hm'
  show wpAny (model prog w) A (keyLt' (tuples' true) p.1 q.1) (fun r s' => s' = s ∧ r = lexK (k p.1) (k q.1)) (fun _ _ => False) s
  generalize k p.1 = ks at h1 e1 ⊢
  generalize k q.1 = ls at h2 e2 ⊢
  obtain ⟨a, o, us, n, e, ho, hc, hd, r⟩ := h1
  obtain ⟨a', o', us', n', e', ho', hc', hd', r'⟩ := h2
  rw [e, e']
  refine PySem.W.kat_lt ho hd ho' hd' ?_
  have l1 := r.length
  have l2 := r'.length
  have l3 : ks.length = ls.length := by
    have := congrArg List.length (e1.trans e2.symm)
    rw [List.length_map, List.length_map] at this
    exact this
  have z : decide (us.size < us'.size) = false := by
    rw [List.length_map] at l1 l2
    have q1 : us.toList.length = us.size := Array.length_toList
    have q2 : us'.toList.length = us'.size := Array.length_toList
    exact decide_eq_false (by omega)
  rw [z]
  exact keys_lex (e1.trans e2.symm) r r'
theorem firsts_keys {h : Heap} {k : Value → List Ky} {b : Bool} {sh : List Bool} : ∀ {vs : List Value}, (∀ v ∈ vs, IsKeys h v (k v) ∧ (k v).map isL = b :: sh) → ∃ fs : List Value, PySem.W.KatTups h vs fs ∧ fs.length = vs.length ∧ ∀ f ∈ fs, ∃ ky : Ky, isL ky = b ∧ RelV (kV ky) f
  | [], _ => ⟨[], PySem.W.KatTups.nil, rfl, fun _ hm => by simp at hm⟩
  | v :: vs, hp => by
    obtain ⟨fs, h1, h2, h3⟩ := firsts_keys (vs := vs) fun v' hm => hp v' (List.mem_cons_of_mem _ hm)
    obtain ⟨⟨a, o, us, n, e, ho, hc, hd, r⟩, e1⟩ := hp v (List.mem_cons_self ..)
    subst e
    cases hk : k (.ref a) with
    | nil => rw [hk] at e1; cases e1
    | cons ky kr =>
      rw [hk] at r e1
      obtain ⟨u0, hu0, ru⟩ := Vals.get (i := 0) r rfl
      refine ⟨u0 :: fs, PySem.W.KatTups.cons ho hc hd (by rw [← Array.getElem?_toList]; exact hu0) h1, by rw [List.length_cons, List.length_cons, h2], fun f hm => ?_⟩
      rcases List.mem_cons.mp hm with rfl | hm
      · exact ⟨ky, (List.cons.inj e1).1, ru⟩
      · exact h3 f hm
theorem keys_sortable {a : Addr} {vs : List Value} {k : Value → List Ky} {b : Bool} {sh : List Bool} (h0 : 0 < vs.length) (hp : ∀ v ∈ vs, IsKeys s.heap v (k v) ∧ (k v).map isL = b :: sh) (ha : ∀ o, s.heap.get? a = some o → o.cls ≠ .type "tuple") : SrtO.SortableO prog w A s a vs fun v u => lexK (k v) (k u) := by
  intro h' keep
  have hp' : ∀ v ∈ vs, IsKeys h' v (k v) ∧ (k v).map isL = b :: sh := fun v hm => ⟨(hp v hm).1.keeps fun b o e c => keep b o (fun z => by subst z; exact ha o e c) e, (hp v hm).2⟩
  obtain ⟨fs, h1, h2, h3⟩ := firsts_keys hp'
  refine ⟨tuples' true, fun Q E hq => ?_, keys_cmp hp'⟩
  cases b with
  | true =>
    refine PySem.W.kat_kind (T := .type "int") h1 (by omega) (fun f hm => ?_) (by rfl) ?_
    · obtain ⟨ky, e, r⟩ := h3 f hm
      cases ky with
      | inl i => obtain ⟨t, rfl⟩ := r; exact PySem.W.Looks.now
      | inr x => cases e
    · have e : (Value.type "int" != Value.type "tuple") = true := by decide +kernel
      rw [e]
      exact hq
  | false =>
    refine PySem.W.kat_kind (T := .type "str") h1 (by omega) (fun f hm => ?_) (by rfl) ?_
    · obtain ⟨ky, e, r⟩ := h3 f hm
      cases ky with
      | inl i => cases e
      | inr x => obtain ⟨t, rfl⟩ := r; exact PySem.W.Looks.now
    · have e : (Value.type "str" != Value.type "tuple") = true := by decide +kernel
      rw [e]
      exact hq
end
/-- sorted(xs), tuples of texts and ints of one form -/
def rSortK (K : PySem.W.Frag) : List V → Hp → VK → Prop := fun vs H Q => ∃ (a : Addr) (xs : List V) (k : V → List Ky) (b : Bool) (sh : List Bool), vs = [V.ref a] ∧ SqL K H a xs ∧ (∀ x ∈ xs, ∃ t, x = V.ref t ∧ H t = some (.tup ((k x).map kV)) ∧ (k x).map isL = b :: sh) ∧
  ∀ ys p, ys.Pairwise (fun x y => lexK (k y) (k x) = false) → ys.Perm xs → H p = none → Q (.ref p) (upd H p (.lst ys))
theorem cr_sortK {X : Cx} : CallR X (.builtin "sorted") (rSortK X.K) := by
  intro pins s σ H vs us Q I r h
  obtain ⟨a, xs, k, b, sh, rfl, hs, hx, q⟩ := h
  obtain ⟨its, rv, hl, hz⟩ := I.list hs
  obtain ⟨u, rfl, ru⟩ := vals1 r
  obtain rfl : u = Value.ref a := ru
  obtain ⟨e1, e2⟩ := refs_back rv fun x m => by
    obtain ⟨t, e, _⟩ := hx x m
    exact ⟨t, e⟩
  have hp : ∀ v ∈ its, IsKeys s.heap v (k (backV v)) ∧ (k (backV v)).map isL = b :: sh := fun v hv => by
    obtain ⟨t, rfl⟩ := e2 v hv
    have hm : V.ref t ∈ xs := by rw [e1]; exact List.mem_map.mpr ⟨_, hv, rfl⟩
    obtain ⟨t', e, ht, hsh⟩ := hx _ hm
    cases e
    obtain ⟨_, its2, r2, o, ho, hc, n, hd⟩ := I.hok _ _ ht
    exact ⟨⟨t, o, its2.toArray, n, rfl, ho, hc, hd, (show Vals ((k (V.ref t)).map kV) its2.toArray.toList from by rw [List.toList_toArray]; exact r2)⟩, hsh⟩
  refine SrtO.sorted_ord (lexK_swo fun u => k (backV u)) hl.isList (by rw [← rv.length]; exact hz) (fun h2 h₁ a' ha' kk => ?_) fun out h1 h2 => ?_
  · refine keys_sortable (s := { s with heap := h₁ }) (by omega) (fun v hm => ⟨(hp v hm).1.keeps fun b o e _ => (kk b o e).2, (hp v hm).2⟩) fun o e => ?_
    have e' : some o = some (seqObj "list" its.toArray 0) := e.symm.trans ha'
    cases e'
    intro c
    exact absurd (Value.type.inj c) (by decide)
  · obtain ⟨ep, he'⟩ := PyProof.Rows.sortedAll_at s.heap its out.toArray
    have h3 : ∀ u ∈ out, ∃ a, u = Value.ref a := fun u hu => e2 u (h2.perm.mem_iff.mp hu)
    have hpm : (out.map backV).Perm xs := by
      rw [e1]
      exact h2.perm.map _
    have hlen : (out.map backV).length ≤ sizeLine := by
      rw [hpm.length_eq]
      exact hz
    exact ⟨.ref _, upd H (s.heap.objs.size + 1) (.lst (out.map backV)), I.laid (t' := s.toks) (fun _ _ => PyProof.Rows.sortedAll_old) (Nat.le_succ _) ⟨hlen, out, ep, vals_back h3, he'⟩, rfl, q _ _ (List.pairwise_map.mpr h1) hpm (I.hok.fresh (Nat.le_succ _))⟩
theorem ksortK (K : PySem.W.Frag) {X : Cx} (h : X.K = K := by rfl) : CallR X (.builtin "sorted") (rSortK K) := by subst h; exact cr_sortK
end Bz

namespace Bz
open PySem PySem.Spec PyProof.Rows L2
/-! ### enumerate(xs, start=1), xs a list -/
def ItS (K : PySem.W.Frag) (l : Addr) : It :=
  ⟨fun i H => ∃ (ys : List V) (y : V), SqL K H l ys ∧ ys[i]? = some y, fun i H v H' => ∃ q y, v = .ref q ∧ H q = none ∧ H' = upd H q (.tup [.int (1 + (i : Int)), y]) ∧ ∀ ys, SqL K H l ys → ys[i]? = some y, fun i H => ∃ ys : List V, SqL K H l ys ∧ ys.length = i⟩
theorem turn_enumS {P : Program} {w : World} {K : PySem.W.Frag} {elts : List Expr} {kk : Nat} {tp : Pos} (l en it : Addr) :
    Turn P w K (.Tuple elts kk tp) (ItS K l) [en, it] en (fun i h => (∃ old, IsEnum h en it (1 + ((i : Nat) : Int)) old) ∧ h.IsListIter it l i ∧ en ≠ it) where
  mem := List.mem_cons_self ..
  obj := fun i h st b hb => by
    obtain ⟨⟨old, he⟩, ⟨o, ho, hc, hd⟩, _⟩ := st
    rcases List.mem_cons.mp hb with z | z
    · rw [z]
      exact ⟨_, he, fun v q => nomatch q⟩
    · rw [List.mem_singleton.mp z]
      exact ⟨o, ho, fun v q => by rw [hd] at q; cases q⟩
  keep := fun i h h' st k => ⟨⟨st.1.choose, k en (by simp) _ st.1.choose_spec⟩, st.2.1.at fun o q => k it (by simp) o q, st.2.2⟩
  item := by
    intro X hP hw hK hc i pins s σ H E I hf st hg
    subst hP hw hK
    obtain ⟨⟨old, he⟩, hit, hne⟩ := st
    obtain ⟨ys, y, hq, hy⟩ := hg
    obtain ⟨its, rv, pl, hz⟩ := I.list hq
    obtain ⟨u, hu, ru⟩ := rv.get hy
    have hen : en < s.heap.objs.size := Heap.lt_size he
    have hil : it < s.heap.objs.size := by
      obtain ⟨_, q, _⟩ := hit
      exact Heap.lt_size q
    have nli : l ≠ it := fun z => by
      obtain ⟨o1, q1, c1, _⟩ := hit
      obtain ⟨o2, q2, c2, _⟩ := pl.isList
      rw [z, q1] at q2
      cases q2
      rw [c1] at c2
      exact absurd (Value.type.inj c2) (by decide)
    have nle : l ≠ en := fun z => by
      obtain ⟨o2, q2, c2, _⟩ := pl.isList
      have he' : s.heap.get? en = some _ := he
      rw [z, he'] at q2
      cases q2
      exact absurd (Value.type.inj c2) (by decide)
    have D := Draws.list (prog := X.prog) (w := X.w) (A := X.A.in1) (I.ok.hd hc) it l nli its.toArray
    refine wpAny_pyNext_enum_itemC D he (i := i) ⟨hit, pl.isList⟩ ?_ hne (by simp [hne, Ne.symm nle]) fun x h' tk hx ho hst hT hsz hk => ?_
    · have := (List.getElem?_eq_some_iff.mp hu).1
      simpa using this
    have exu : x = u := by
      have q : its[i]? = some x := by simpa using hx
      rw [hu] at q
      exact (Option.some.inj q).symm
    subst exu
    refine ⟨_, rfl, wpAny_letOwnedTupleGo_enum (s := { s with heap := h', toks := tk + 1 }) ho fun h'' he'' sb => ?_⟩
    have hT2 : h''.get? s.heap.objs.size = some { cls := .type "tuple", data := .seq #[.int (1 + (i : Int)) tk, x] } := (sb.2 _ (Nat.ne_of_gt hen)).trans hT
    have new : ObjOk X.prog X.w (upd H s.heap.objs.size (.tup [.int (1 + (i : Int)), y])) h'' s.heap.objs.size (.tup [.int (1 + (i : Int)), y]) :=
      ⟨Nat.le_of_ble_eq_true rfl, [.int (1 + (i : Int)) tk, x], .cons ⟨_, rfl⟩ (.cons ru .nil), ⟨_, hT2, rfl, _, rfl⟩⟩
    have I1 : Inv X pins σ (upd H s.heap.objs.size (.tup [.int (1 + (i : Int)), y])) { s with heap := h'', toks := tk + 1 } :=
      I.turnedNew (ch := [en, it]) (fun b ob hb q => (sb.2 b (fun z => hb (by simp [z]))).trans (hk b ob (fun z => hb (by simp [z])) (fun z => hb (by simp [z])) q)) hf (Nat.le_refl _) new
    refine ⟨.ref s.heap.objs.size, _, I1, rfl, ⟨_, y, rfl, I.hok.fresh (Nat.le_refl _), rfl, fun zs hzs => by rw [I.list_inj hzs hq]; exact hy⟩, ⟨⟨x, ?_⟩, hst.1.at fun o q => (sb.2 it (Ne.symm hne)).trans q, hne⟩, fun b hb => ?_⟩
    · have e1 : (1 : Int) + ((i + 1 : Nat) : Int) = 1 + (i : Int) + 1 := by omega
      rw [e1]
      exact he''
    · have hb' : b < s.heap.objs.size := by
        rcases List.mem_cons.mp hb with z | z
        · rw [z]; exact hen
        · rw [List.mem_singleton.mp z]; exact hil
      rw [upd_ne (Nat.ne_of_lt hb')]
      exact (hf b hb).1
  done := by
    intro X hP hw hK hc i pins s σ H E I hf st hg
    subst hP hw hK
    obtain ⟨⟨old, he⟩, hit, hne⟩ := st
    obtain ⟨ys, hq, hy⟩ := hg
    obtain ⟨its, rv, pl, hz⟩ := I.list hq
    obtain ⟨f0, f1, f2, f3, f4, f5⟩ := hf it (by simp)
    have hlen := rv.length
    have nli : l ≠ it := fun z => by
      obtain ⟨o1, q1, c1, _⟩ := hit
      obtain ⟨o2, q2, c2, _⟩ := pl.isList
      rw [z, q1] at q2
      cases q2
      rw [c1] at c2
      exact absurd (Value.type.inj c2) (by decide)
    have D := Draws.list (prog := X.prog) (w := X.w) (A := X.A.in1) (I.ok.hd hc) it l nli its.toArray
    have en : its.toArray.size = i := by
      rw [List.size_toArray]
      omega
    exact wpAny_pyNext_enum_endD D he ⟨by rw [en]; exact hit, pl.isList⟩ fun h' eb => ⟨rfl, I.turned (t' := s.toks) (fun b o hb q => eb b o hb q) f0 f1 f3 f4 f5⟩
  self := fun A i s Q E st h => wpAny_pyIter_enum st.1.choose_spec h
def iEnumS (K : PySem.W.Frag) (te : TE) : TI := fun σ H R => te σ H fun v H1 => ∃ l ys, v = .ref l ∧ SqL K H1 l ys ∧ R (ItS K l) H1
theorem callTy_kw {M : Model} {A : Around} {E : Value → Shared → Prop} {s : Shared} {pos : Pos} {T : String} {t : Sem Value} {kw : PySem.Str} {x : Sem Value} {Q : Value → Shared → Prop}
    (h : wpAny M A t (fun v s1 => wpAny M A x (fun k s2 => wpAny M A (call (.type T) [v] [(kw, k)]) Q E s2) E s1) E s) :
    wpAny M A (callWith pos (.type T) [] [(false, t)] [(some kw, x)]) Q E s := by
  unfold callWith
  refine wpAny_bind (wpAny_holding (wpAny_mono (Q := fun (a : Args) s1 => wpAny M A (call (.type T) ([] ++ a.pos) a.kw) Q E s1) ?_ (fun a s1 h1 => wpAny_bind (wpAny_standAt ?_)) fun _ _ z => z))
  · refine evalArgs_kwB (by rfl) ?_
    refine Calls.spliced_cons (wpAny_mono h (fun v s1 h1 => Calls.spliced_nil ?_) fun _ _ z => z)
    exact evalAll_cons (wpAny_mono h1 (fun k s2 h2 => wpAny_evalAll_nil h2) fun _ _ z => z)
  · refine wpAny_bind (wpAny_pure ?_)
    exact wpAny_bind (wpAny_mono h1 (fun r s2 hr => wpAny_bind (wpAny_holding (wpAny_point (wpAny_pure hr)))) fun _ _ z => z)
theorem pi_enumS {X : Cx} {e : Expr} {te : TE} {p pos tpos kpos : Pos} {j : Nat} {cpos : Pos} {elts : List Expr} {kk : Nat} (hg : Gl X "enumerate") (hm : X.mg "enumerate" = none) (he : PE X e te) (hs : starEach [e] X.env = [(false, eval e X.env)] := by rfl) :
    PI X (.Tuple elts kk tpos) (.Call (.Name "enumerate" p) [e] [⟨some "start", .Constant (.int 1) j cpos, kpos⟩] pos) (iEnumS X.K te) := by
  refine ⟨fun pins s σ H R I h => ?_⟩
  refine wpAny_Call_Name_kw (ld_blt I hg hm boot_enumerate ?_)
  rw [hs]
  show wpAny _ _ (callWith pos (Value.type "enumerate") [] [(false, eval e X.env)] [(some "start", do let v ← eval (.Constant (.int 1) j cpos) X.env; standAt pos; pure v)]) _ _ _
  refine callTy_kw (thn (he.run pins s σ H _ I h) fun u s1 ⟨v, H1, I1, r1, l, ys, ev, hq, q⟩ => ?_)
  subst ev
  obtain rfl : u = Value.ref l := r1
  refine wpAny_bind (wpAny_Constant_int (wpAny_bind (wpAny_standAt (wpAny_pure ?_))))
  have I2 := I1.tok (s1.toks + 1)
  obtain ⟨its, rv, pl, hz⟩ := I2.list hq
  refine enum_begins_start (s := { s1 with toks := s1.toks + 1 }) (begins_list l its.toArray) pl.isList (by decide) (by decide) fun h' he' hit hsz hk => wpAny_pyIter_enum he' ?_
  have I3 : Inv X pins σ H1 { s1 with heap := h', toks := s1.toks + 1 } := I2.kept (t' := s1.toks + 1) hk
  refine ⟨s1.heap.objs.size + 1, [s1.heap.objs.size + 1, s1.heap.objs.size], _, _, H1, rfl, I3, turn_enumS l (s1.heap.objs.size + 1) s1.heap.objs.size, ⟨⟨.none, by simpa using he'⟩, ⟨_, hit, rfl, rfl⟩, Nat.succ_ne_self _⟩, fun b hb => ?_, q⟩
  have hle : s1.heap.objs.size ≤ b := by
    rcases List.mem_cons.mp hb with z | z
    · rw [z]
      exact Nat.le_succ _
    · rw [List.mem_singleton.mp z]
      exact Nat.le_refl _
  exact I2.fpOk hle (I2.hok.fresh hle)
theorem walk_enumS {K : PySem.W.Frag} {l : Addr} {ys : List V} : Walk (ItS K l) ys.length (fun H => SqL K H l ys) (fun i H v H' => ∃ q y, v = .ref q ∧ H q = none ∧ H' = upd H q (.tup [.int (1 + (i : Int)), y]) ∧ ys[i]? = some y) :=
  ⟨fun i _ hi q => ⟨ys, ys[i], q, by simp [hi]⟩, fun _ q => ⟨ys, q, rfl⟩, fun _ _ _ _ _ q ⟨a, b, c, d, e, f⟩ => ⟨a, b, c, d, e, f ys q⟩⟩
/-! the same of a tuple -/
def ItST (K : PySem.W.Frag) (l : Addr) : It :=
  ⟨fun i H => ∃ (ys : List V) (y : V), SqT K H l ys ∧ ys[i]? = some y, fun i H v H' => ∃ q y, v = .ref q ∧ H q = none ∧ H' = upd H q (.tup [.int (1 + (i : Int)), y]) ∧ ∀ ys, SqT K H l ys → ys[i]? = some y, fun i H => ∃ ys : List V, SqT K H l ys ∧ ys.length = i⟩
theorem turn_enumST {P : Program} {w : World} {K : PySem.W.Frag} {elts : List Expr} {kk : Nat} {tp : Pos} (l en it : Addr) :
    Turn P w K (.Tuple elts kk tp) (ItST K l) [en, it] en (fun i h => (∃ old, IsEnum h en it (1 + ((i : Nat) : Int)) old) ∧ h.IsTupleIter it l i ∧ en ≠ it) where
  mem := List.mem_cons_self ..
  obj := fun i h st b hb => by
    obtain ⟨⟨old, he⟩, ⟨o, ho, hc, hd⟩, _⟩ := st
    rcases List.mem_cons.mp hb with z | z
    · rw [z]
      exact ⟨_, he, fun v q => nomatch q⟩
    · rw [List.mem_singleton.mp z]
      exact ⟨o, ho, fun v q => by rw [hd] at q; cases q⟩
  keep := fun i h h' st k => ⟨⟨st.1.choose, k en (by simp) _ st.1.choose_spec⟩, st.2.1.at fun o q => k it (by simp) o q, st.2.2⟩
  item := by
    intro X hP hw hK hc i pins s σ H E I hf st hg
    subst hP hw hK
    obtain ⟨⟨old, he⟩, hit, hne⟩ := st
    obtain ⟨ys, y, hq, hy⟩ := hg
    obtain ⟨its, rv, pl, hz⟩ := I.tuple hq
    obtain ⟨u, hu, ru⟩ := rv.get hy
    have hen : en < s.heap.objs.size := Heap.lt_size he
    have hil : it < s.heap.objs.size := by
      obtain ⟨_, q, _⟩ := hit
      exact Heap.lt_size q
    have nli : l ≠ it := fun z => by
      obtain ⟨o1, q1, c1, _⟩ := hit
      obtain ⟨o2, q2, c2, _⟩ := (show Heap.IsTuple _ _ _ from pl)
      rw [z, q1] at q2
      cases q2
      rw [c1] at c2
      exact absurd (Value.type.inj c2) (by decide)
    have nle : l ≠ en := fun z => by
      obtain ⟨o2, q2, c2, _⟩ := (show Heap.IsTuple _ _ _ from pl)
      have he' : s.heap.get? en = some _ := he
      rw [z, he'] at q2
      cases q2
      exact absurd (Value.type.inj c2) (by decide)
    have D := Draws.tuple (prog := X.prog) (w := X.w) (A := X.A.in1) (I.ok.hd hc) it l nli its.toArray
    refine wpAny_pyNext_enum_itemC D he (i := i) ⟨hit, (show Heap.IsTuple _ _ _ from pl)⟩ ?_ hne (by simp [hne, Ne.symm nle]) fun x h' tk hx ho hst hT hsz hk => ?_
    · have := (List.getElem?_eq_some_iff.mp hu).1
      simpa using this
    have exu : x = u := by
      have q : its[i]? = some x := by simpa using hx
      rw [hu] at q
      exact (Option.some.inj q).symm
    subst exu
    refine ⟨_, rfl, wpAny_letOwnedTupleGo_enum (s := { s with heap := h', toks := tk + 1 }) ho fun h'' he'' sb => ?_⟩
    have hT2 : h''.get? s.heap.objs.size = some { cls := .type "tuple", data := .seq #[.int (1 + (i : Int)) tk, x] } := (sb.2 _ (Nat.ne_of_gt hen)).trans hT
    have new : ObjOk X.prog X.w (upd H s.heap.objs.size (.tup [.int (1 + (i : Int)), y])) h'' s.heap.objs.size (.tup [.int (1 + (i : Int)), y]) :=
      ⟨Nat.le_of_ble_eq_true rfl, [.int (1 + (i : Int)) tk, x], .cons ⟨_, rfl⟩ (.cons ru .nil), ⟨_, hT2, rfl, _, rfl⟩⟩
    have I1 : Inv X pins σ (upd H s.heap.objs.size (.tup [.int (1 + (i : Int)), y])) { s with heap := h'', toks := tk + 1 } :=
      I.turnedNew (ch := [en, it]) (fun b ob hb q => (sb.2 b (fun z => hb (by simp [z]))).trans (hk b ob (fun z => hb (by simp [z])) (fun z => hb (by simp [z])) q)) hf (Nat.le_refl _) new
    refine ⟨.ref s.heap.objs.size, _, I1, rfl, ⟨_, y, rfl, I.hok.fresh (Nat.le_refl _), rfl, fun zs hzs => by rw [I.tuple_inj hzs hq]; exact hy⟩, ⟨⟨x, ?_⟩, hst.1.at fun o q => (sb.2 it (Ne.symm hne)).trans q, hne⟩, fun b hb => ?_⟩
    · have e1 : (1 : Int) + ((i + 1 : Nat) : Int) = 1 + (i : Int) + 1 := by omega
      rw [e1]
      exact he''
    · have hb' : b < s.heap.objs.size := by
        rcases List.mem_cons.mp hb with z | z
        · rw [z]; exact hen
        · rw [List.mem_singleton.mp z]; exact hil
      rw [upd_ne (Nat.ne_of_lt hb')]
      exact (hf b hb).1
  done := by
    intro X hP hw hK hc i pins s σ H E I hf st hg
    subst hP hw hK
    obtain ⟨⟨old, he⟩, hit, hne⟩ := st
    obtain ⟨ys, hq, hy⟩ := hg
    obtain ⟨its, rv, pl, hz⟩ := I.tuple hq
    obtain ⟨f0, f1, f2, f3, f4, f5⟩ := hf it (by simp)
    have hlen := rv.length
    have nli : l ≠ it := fun z => by
      obtain ⟨o1, q1, c1, _⟩ := hit
      obtain ⟨o2, q2, c2, _⟩ := (show Heap.IsTuple _ _ _ from pl)
      rw [z, q1] at q2
      cases q2
      rw [c1] at c2
      exact absurd (Value.type.inj c2) (by decide)
    have D := Draws.tuple (prog := X.prog) (w := X.w) (A := X.A.in1) (I.ok.hd hc) it l nli its.toArray
    have en : its.toArray.size = i := by
      rw [List.size_toArray]
      omega
    exact wpAny_pyNext_enum_endD D he ⟨by rw [en]; exact hit, (show Heap.IsTuple _ _ _ from pl)⟩ fun h' eb => ⟨rfl, I.turned (t' := s.toks) (fun b o hb q => eb b o hb q) f0 f1 f3 f4 f5⟩
  self := fun A i s Q E st h => wpAny_pyIter_enum st.1.choose_spec h
def iEnumST (K : PySem.W.Frag) (te : TE) : TI := fun σ H R => te σ H fun v H1 => ∃ l ys, v = .ref l ∧ SqT K H1 l ys ∧ R (ItST K l) H1
theorem pi_enumST {X : Cx} {e : Expr} {te : TE} {p pos tpos kpos : Pos} {j : Nat} {cpos : Pos} {elts : List Expr} {kk : Nat} (hg : Gl X "enumerate") (hm : X.mg "enumerate" = none) (he : PE X e te) (hs : starEach [e] X.env = [(false, eval e X.env)] := by rfl) :
    PI X (.Tuple elts kk tpos) (.Call (.Name "enumerate" p) [e] [⟨some "start", .Constant (.int 1) j cpos, kpos⟩] pos) (iEnumST X.K te) := by
  refine ⟨fun pins s σ H R I h => ?_⟩
  refine wpAny_Call_Name_kw (ld_blt I hg hm boot_enumerate ?_)
  rw [hs]
  show wpAny _ _ (callWith pos (Value.type "enumerate") [] [(false, eval e X.env)] [(some "start", do let v ← eval (.Constant (.int 1) j cpos) X.env; standAt pos; pure v)]) _ _ _
  refine callTy_kw (thn (he.run pins s σ H _ I h) fun u s1 ⟨v, H1, I1, r1, l, ys, ev, hq, q⟩ => ?_)
  subst ev
  obtain rfl : u = Value.ref l := r1
  refine wpAny_bind (wpAny_Constant_int (wpAny_bind (wpAny_standAt (wpAny_pure ?_))))
  have I2 := I1.tok (s1.toks + 1)
  obtain ⟨its, rv, pl, hz⟩ := I2.tuple hq
  refine enum_begins_start (s := { s1 with toks := s1.toks + 1 }) (begins_tuple l its.toArray) (show Heap.IsTuple _ _ _ from pl) (by decide) (by decide) fun h' he' hit hsz hk => wpAny_pyIter_enum he' ?_
  have I3 : Inv X pins σ H1 { s1 with heap := h', toks := s1.toks + 1 } := I2.kept (t' := s1.toks + 1) hk
  refine ⟨s1.heap.objs.size + 1, [s1.heap.objs.size + 1, s1.heap.objs.size], _, _, H1, rfl, I3, turn_enumST l (s1.heap.objs.size + 1) s1.heap.objs.size, ⟨⟨.none, by simpa using he'⟩, ⟨_, hit, rfl, rfl⟩, Nat.succ_ne_self _⟩, fun b hb => ?_, q⟩
  have hle : s1.heap.objs.size ≤ b := by
    rcases List.mem_cons.mp hb with z | z
    · rw [z]
      exact Nat.le_succ _
    · rw [List.mem_singleton.mp z]
      exact Nat.le_refl _
  exact I2.fpOk hle (I2.hok.fresh hle)
theorem walk_enumST {K : PySem.W.Frag} {l : Addr} {ys : List V} : Walk (ItST K l) ys.length (fun H => SqT K H l ys) (fun i H v H' => ∃ q y, v = .ref q ∧ H q = none ∧ H' = upd H q (.tup [.int (1 + (i : Int)), y]) ∧ ys[i]? = some y) :=
  ⟨fun i _ hi q => ⟨ys, ys[i], q, by simp [hi]⟩, fun _ q => ⟨ys, q, rfl⟩, fun _ _ _ _ _ q ⟨a, b, c, d, e, f⟩ => ⟨a, b, c, d, e, f ys q⟩⟩
end Bz

namespace Bz
open PySem PySem.Spec PyProof.Rows L2
/-! ### texts in order -/
def ltV (v u : Value) : Bool := decide ((strOf v).cps.toList < (strOf u).cps.toList)
theorem ltV_swo : SrtO.Swo ltV := by
  have q := lexK_swo (α := Value) fun v => [(.inr (strOf v) : Ky)]
  have e : ∀ v u, lexK [(.inr (strOf v) : Ky)] [.inr (strOf u)] = ltV v u := fun v u => by
    show (if _ then _ else _) = _
    by_cases h : (Sum.inr (strOf v) : Ky) = .inr (strOf u)
    · rw [if_pos h]
      have h' : strOf v = strOf u := Sum.inr.inj h
      unfold ltV
      rw [h']
      exact (decide_eq_false (List.lt_irrefl _)).symm
    · rw [if_neg h]
      rfl
  exact ⟨fun x y h => by rw [← e] at h ⊢; exact q.asym x y h, fun x y z h1 h2 => by rw [← e] at h1 h2 ⊢; exact q.tr x y z h1 h2⟩
section
variable {prog : Program} {w : World} {A : Around} {E : Value → Shared → Prop} {s : Shared}
theorem strs_sortable {a : Addr} {vs : List Value} {ss : List PySem.Str} (hS : StrsAre vs ss) (h2 : 2 ≤ vs.length) : SrtO.SortableO prog w A s a vs ltV := by
  intro h' _
  refine ⟨oneType', fun Q E hq => ?_, fun p q hm hm' => ?_⟩
  · match vs, hS, h2 with
    | v1 :: v2 :: rest, hS, _ =>
      rw [keyKind_strs hS]
      exact wpAny_pure hq
    | [], _, h => exact absurd h (by decide)
    | [v], _, h => exact absurd h (by simp)
  · obtain ⟨x, t, ex⟩ := hS.all _ hm
    obtain ⟨y, u, ey⟩ := hS.all _ hm'
    show wpAny (model prog w) A (keyLt' oneType' p.1 q.1) (fun r s' => s' = _ ∧ r = ltV p.1 q.1) (fun _ _ => False) _
    rw [ex, ey, keyLt'_oneType]
    exact oneLt_str ⟨rfl, rfl⟩
theorem strs_out {vs out : List Value} {ss : List PySem.Str} (hS : StrsAre vs ss) (hs : SrtO.Srtd ltV out) (hb : SrtO.Stb ltV out vs) :
    StrsAre out (out.map strOf) ∧ (out.map strOf).Perm ss ∧ (out.map strOf).Pairwise (fun x y => ¬ y.cps.toList < x.cps.toList) := by
  refine ⟨strsAre_map out fun v hv => hS.all v (hb.perm.mem_iff.mp hv), ?_, ?_⟩
  · have q := hb.perm.map strOf
    rw [hS.strs] at q
    exact q
  · exact List.pairwise_map.mpr (hs.imp fun {x y} h => of_decide_eq_false h)
end
/-! ### a set of texts, its table told as far as a walk over it asks -/
def skey (e : Int × Value) : PySem.Str := strOf e.2
structure StrR (P : Program) (w : World) (h : Heap) (a : Addr) (M : PySem.Str → Prop) (b : Nat) (es : Array (Int × Value)) (ep : Nat) (t : SetTable) : Prop where
  ob : ∃ o, h.get? a = some o ∧ o.ExactSet ∧ o.data = .set es ep t
  el : ElemsOf (strKind P w) es.toList
  nd : (es.toList.map skey).Nodup
  mem : ∀ k, M k ↔ k ∈ es.toList.map skey
  size : es.size ≤ b
  few : b < scanBound
  fits : t.fits es.size = true
  ris : Ris t.place.toList
  led : w.params.followText "set-order" = true ∨ t.led = true
section
variable {P : Program} {w : World} {A : Around} {E : Value → Shared → Prop} {s : Shared} {a : Addr} {M : PySem.Str → Prop} {b : Nat} {es : Array (Int × Value)} {ep : Nat} {t : SetTable}
theorem el_str {l : List (Int × Value)} (g : ElemsOf (strKind P w) l) {e : Int × Value} (he : e ∈ l) : ∃ tk, e = (hashStr w (skey e), .str (skey e) tk) := by
  obtain ⟨⟨k, hk, hh⟩, _⟩ := g e he
  obtain ⟨tk, q⟩ := Value.isStrOf_shape (show Value.isStrOf k e.2 = true from hk)
  obtain ⟨e1, e2⟩ := e
  dsimp only at q hh
  subst q hh
  exact ⟨tk, rfl⟩
theorem el_is {l : List (Int × Value)} (g : ElemsOf (strKind P w) l) (k : PySem.Str) {e : Int × Value} (he : e ∈ l) : (strKind P w).is k e.2 = true ↔ skey e = k := by
  obtain ⟨tk, q⟩ := el_str g he
  constructor
  · intro h
    obtain ⟨tk', q'⟩ := Value.isStrOf_shape (show Value.isStrOf k e.2 = true from h)
    unfold skey
    rw [q']
    rfl
  · intro h
    rw [q, h]
    exact strKind_is P w k tk
theorem StrR.at {h h' : Heap} (R : StrR P w h a M b es ep t) (k : ∀ o, h.get? a = some o → h'.get? a = some o) : StrR P w h' a M b es ep t := by
  obtain ⟨o, ho, r⟩ := R.ob
  exact { R with ob := ⟨o, k o ho, r⟩ }
theorem str_tail {g : Bool → Sem Unit} (hg : ∀ (c : Bool) (s1 : Shared) (Q' : Unit → Shared → Prop), Q' () s1 → wpAny (model P w) A (g c) Q' E s1)
    {o : Obj} (ho : s.heap.get? a = some o) (hex : o.ExactSet) (hd : o.data = .set es ep t) {es1 : Array (Int × Value)} {t2 : SetTable} {M' : PySem.Str → Prop} {b' : Nat} (g1 : ElemsOf (strKind P w) es1.toList) (nd1 : (es1.toList.map skey).Nodup)
    (m1 : ∀ k, M' k ↔ k ∈ es1.toList.map skey) (hz : es1.size ≤ b') (hb1 : b' < scanBound) (hf2 : t2.fits es1.size = true) (hr : Ris t2.place.toList) (hl : w.params.followText "set-order" = true ∨ t2.led = true) {wd : Bool} {R : Option Bool → Shared → Prop}
    (hR : ∀ h' es' ep' t', Heap.SameBut a s.heap h' → StrR P w h' a M' b' es' ep' t' → R (some true) { s with heap := h' }) :
    wpAny (model P w) A (do
        storeSet a es1 t2
        if (!wd && t2.tooFull) = true then do
            g (relayAll t2 es1 (SetTable.grown es1.size)).2.2
            storeSet a (relayAll t2 es1 (SetTable.grown es1.size)).1 (relayAll t2 es1 (SetTable.grown es1.size)).2.1
            pure (some true)
          else pure (some true)) R E s := by
  have hlt : es1.size < scanBound := Nat.lt_of_le_of_lt hz hb1
  refine wpAny_bind (wpAny_storeSet_of ho hd ?_ (fits_of_scanBound hlt))
  have ho1 := L2.store_at (es' := es1) (t' := t2) ho hd
  have sb1 := Heap.SameBut.update s.heap a (Obj.putSet es1 t2)
  split
  · have pm := relayAll_perm t2 es1 (SetTable.grown es1.size)
    have hf3 := relayAll_fits t2 es1 (SetTable.grown es1.size)
    have hr3 := relayAll_ris t2 es1 (SetTable.grown es1.size)
    have hl3 := relayAll_led t2 es1 (SetTable.grown es1.size)
    generalize relayAll t2 es1 (SetTable.grown es1.size) = Z at pm hf3 hr3 hl3 ⊢
    obtain ⟨es2, t3, gave⟩ := Z
    dsimp only at pm hf3 hr3 hl3 ⊢
    have hsz : es2.size = es1.size := by
      have := pm.length_eq
      rw [Array.length_toList, Array.length_toList] at this
      exact this
    refine wpAny_bind (hg _ _ _ ?_)
    refine wpAny_bind (wpAny_storeSet_of ho1 rfl ?_ (fits_of_scanBound (by rw [hsz]; exact hlt)))
    have ho2 := L2.store_at (es' := es2) (t' := t3) ho1 rfl
    refine wpAny_pure (hR _ es2 (ep + 1 + 1) t3 (sb1.trans (Heap.SameBut.update _ a _)) ?_)
    exact ⟨⟨_, ho2, hex, rfl⟩, fun e he => g1 e (pm.mem_iff.mp he), (pm.map skey).nodup_iff.mpr nd1, fun k => (m1 k).trans (pm.map skey).mem_iff.symm, by rw [hsz]; exact hz, hb1, hf3, hr3, hl.imp id fun z => by rw [hl3]; exact z⟩
  · exact wpAny_pure (hR _ es1 (ep + 1) t2 sb1 ⟨⟨_, ho1, hex, rfl⟩, g1, nd1, m1, hz, hb1, hf2, hr, hl⟩)
end
section
variable {P : Program} {w : World} {A : Around} {E : Value → Shared → Prop} {s : Shared} {a : Addr} {M : PySem.Str → Prop} {b : Nat} {es : Array (Int × Value)} {ep : Nat} {t : SetTable}
theorem str_add {k : PySem.Str} {tk : Tok} {Q : Bool → Shared → Prop} (R : StrR P w s.heap a M b es ep t) (room : b + 1 < scanBound)
    (hQ : ∀ c h' es' ep' t', Heap.SameBut a s.heap h' → StrR P w h' a (fun j => M j ∨ j = k) (b + 1) es' ep' t' → Q c { s with heap := h' }) :
    wpAny (model P w) A (setAddHashed a (.str k tk) ((strKind P w).hash k)) Q E s := by
  obtain ⟨⟨o, ho, hex, hd⟩, hel, nd, hm, hsz, hb, hf, hr, hl⟩ := R
  have hlt : es.size < scanBound := Nat.lt_of_le_of_lt hsz hb
  have hkey : (strKind P w).is k (.str k tk) = true := strKind_is P w k tk
  have hsc : (Value.str k tk).scannable = true := rfl
  unfold setAddHashed setAddHashedIn
  refine wpAny_holding (wpAny_bind (wpAny_setState_of ho hd hf ?_))
  dsimp only
  rw [byScan_of hsc hlt hel]
  simp only [↓reduceIte]
  unfold setAddByScan
  refine wpAny_bind ?_
  refine wpAny_bind (wpAny_rule ?_)
  refine wpAny_bind (wpAny_setScan_of hkey ho hd hf hel ?_)
  cases hfi : List.findIdx? (fun e => (strKind P w).is k e.2) es.toList with
  | some j =>
    dsimp only
    obtain ⟨hj, pj, _⟩ := List.findIdx?_eq_some_iff_getElem.mp hfi
    have hk : k ∈ es.toList.map skey := List.mem_map.mpr ⟨es.toList[j], List.getElem_mem hj, (el_is hel k (List.getElem_mem hj)).mp pj⟩
    refine wpAny_pure (wpAny_pure (hQ _ s.heap es ep t (Heap.SameBut.refl a s.heap) ⟨⟨o, ho, hex, hd⟩, hel, nd, fun i => ?_, by omega, room, hf, hr, hl⟩))
    rw [hm i]
    exact ⟨fun z => z.elim id fun e => by rw [e]; exact hk, .inl⟩
  | none =>
    dsimp only
    have hnk : k ∉ es.toList.map skey := fun z => by
      obtain ⟨e, he, q⟩ := List.mem_map.mp z
      have c := List.findIdx?_eq_none_iff.mp hfi e he
      rw [(el_is hel k he).mpr q] at c
      cases c
    have hgw : ∀ (c : Bool) {s1 : Shared} {Q' : Unit → Shared → Prop}, Q' () s1 → wpAny (model P w) A (match c with | true => rule "set.scan.the-table-gave-way" | false => pure ()) Q' E s1 :=
      fun c s1 Q' q => by
        cases c
        · exact wpAny_pure q
        · exact wpAny_rule q
    have pm := layNew_perm t es ((strKind P w).hash k) (.str k tk)
    have hf1 := layNew_fits t es ((strKind P w).hash k) (.str k tk)
    have hr1 := layNew_ris t es ((strKind P w).hash k) (.str k tk) hr
    have hl1 := layNew_led t es ((strKind P w).hash k) (.str k tk)
    generalize layNew t es ((strKind P w).hash k) (.str k tk) = Z at pm hf1 hr1 hl1 ⊢
    obtain ⟨es1, t1, wd, gave⟩ := Z
    dsimp only at pm hf1 hr1 hl1 ⊢
    rw [Array.toList_push] at pm
    have pc : es1.toList.Perm (((strKind P w).hash k, Value.str k tk) :: es.toList) := pm.trans (List.perm_append_singleton _ _)
    have pk : (es1.toList.map skey).Perm (k :: es.toList.map skey) := pc.map skey
    have g1 : ElemsOf (strKind P w) es1.toList := fun e he => by
      rcases List.mem_cons.mp (pc.mem_iff.mp he) with z | z
      · rw [z]
        exact ⟨⟨k, hkey, rfl⟩, rfl⟩
      · exact hel e z
    have nd1 : (es1.toList.map skey).Nodup := pk.nodup_iff.mpr (List.nodup_cons.mpr ⟨hnk, nd⟩)
    have m1 : ∀ i, (M i ∨ i = k) ↔ i ∈ es1.toList.map skey := fun i => by
      rw [hm i, pk.mem_iff, List.mem_cons]
      exact Or.comm
    have hz1 : es1.size ≤ b + 1 := by
      have := pc.length_eq
      rw [List.length_cons, Array.length_toList, Array.length_toList] at this
      omega
    have hled : w.params.followText "set-order" = true ∨ t1.led = true := hl.imp id fun z => by rw [hl1]; exact z
    refine wpAny_bind (hgw _ ?_)
    split
    · refine wpAny_bind ?_
      rw [hashByValue_scannable 8 hsc]
      refine wpAny_pure ?_
      refine str_tail ?_ ho hex hd g1 nd1 m1 hz1 room ?_ ?_ ?_ ?_
      · intro c s1 Q' q
        cases c <;> first | exact wpAny_pure q | exact wpAny_rule q
      · first | (split <;> first | exact hf1 | exact SetTable.fits_plain_off hf1) | exact hf1
      · first | (split <;> exact hr1) | exact hr1
      · first | (split <;> exact hled) | exact hled
      · intro h' es' ep' t' sb r
        dsimp only
        exact wpAny_pure (hQ _ _ _ _ _ sb r)
    · refine wpAny_bind (wpAny_pure ?_)
      simp only [↓reduceIte]
      refine str_tail ?_ ho hex hd g1 nd1 m1 hz1 room hf1 hr1 hled ?_
      · intro c s1 Q' q
        cases c <;> first | exact wpAny_pure q | exact wpAny_rule q
      · intro h' es' ep' t' sb r
        dsimp only
        exact wpAny_pure (hQ _ _ _ _ _ sb r)
end
section
variable {P : Program} {w : World} {A : Around} {R : Result → Shared → Prop} {I : Addr} {fp wr : List Addr} {G : Array GenState → Array GenState → Prop} {n : Nat} {Pv : Nat → Value → Prop} {St : Nat → Shared → Prop}
theorem str_loop (W : WalksS P w A.in1 I fp wr G n Pv St) (S : Addr) (hSf : S ∉ fp) (xs : List PySem.Str) (hsz : xs.length = n) (hn : n + 1 < scanBound) (hval : ∀ i v, Pv i v → ∃ t, v = .str (xs.getD i Str.empty) t) :
    ∀ (k i : Nat) (s : Shared), n - i = k → i ≤ n → St i s → (∃ es ep t, StrR P w s.heap S (fun x => x ∈ xs.take i) i es ep t) →
      (∀ s' es ep t, Moved (S :: wr) G s s' → StrR P w s'.heap S (fun x => x ∈ xs.take n) n es ep t → R (.ok (.ret .none)) s') →
      codeAny (model P w) A (.builtin "set.update.loop" ⟨[.ref S, .ref I], []⟩) R s := by
  have hSw : S ∉ wr := fun h => hSf (W.sub _ h)
  have hsub : ∀ b ∈ wr, b ∈ S :: wr := fun b hb => List.mem_cons_of_mem _ hb
  intro k
  induction k with
  | zero =>
    intro i s hk hi hst hS hR
    have hin : i = n := by omega
    subst hin
    obtain ⟨es, ep, t, hS⟩ := hS
    refine codeAny_builtin PyProof.Rows.F.entry_set_update_loop ?_
    rw [Around.under_plainId PyProof.Rows.F.plain_set_update_loop _]
    show wpAny _ A.in1 (pyNext (.ref I) >>= _) _ _ s
    refine wpAny_bind (W.done s _ _ hst fun s' hm => ?_)
    show wpAny _ A.in1 (ret Value.none) _ _ s'
    exact wpAny_pure (hR s' es ep t (hm.mono hsub) (hS.at fun o e => hm.heap S _ hSw e))
  | succ k ih =>
    intro i s hk hi hst hS hR
    have hlt : i < n := by omega
    obtain ⟨es, ep, tb, hS⟩ := hS
    refine codeAny_builtin PyProof.Rows.F.entry_set_update_loop ?_
    rw [Around.under_plainId PyProof.Rows.F.plain_set_update_loop _]
    show wpAny _ A.in1 (pyNext (.ref I) >>= _) _ _ s
    refine wpAny_bind (W.item i s _ _ hlt hst fun v s' hP hst' hm => ?_)
    obtain ⟨tk, rfl⟩ := hval i v hP
    have hS' := hS.at fun o e => hm.heap S _ hSw e
    show wpAny _ A.in1 (holding [Value.str (xs.getD i Str.empty) tk] (setAdd S (.str (xs.getD i Str.empty) tk)) >>= _) _ _ s'
    refine wpAny_bind (wpAny_holding ?_)
    unfold setAdd
    refine wpAny_holding ?_
    refine wpAny_bind ((strKind P w).pyHash (k := xs.getD i Str.empty) (strKind_is _ _ _ _) ?_)
    refine str_add (s := { s' with toks := s'.toks + 1 }) hS' (by omega) fun c h' es' ep' t' hsb hS2 => ?_
    have hM : ∀ x, x ∈ xs.take (i + 1) ↔ x ∈ es'.toList.map skey := fun x => by
      rw [← hS2.mem x, List.take_add_one, List.mem_append]
      have e : xs[i]? = some (xs.getD i Str.empty) := by
        have : i < xs.length := by omega
        rw [List.getD_eq_getElem?_getD, List.getElem?_eq_getElem this]
        rfl
      rw [e]
      simp
    have hSi : StrR P w h' S (fun x => x ∈ xs.take (i + 1)) (i + 1) es' ep' t' := { hS2 with mem := hM }
    refine wpAny_pure ⟨plainId_quiet PyProof.Rows.F.plain_set_update_loop _, ih (i + 1) _ (by omega) hlt (W.frame _ s' _ _ hst' (Nat.le_succ _) fun b hb o e => ?_) ⟨es', ep', t', hSi⟩ fun s'' es'' ep'' t'' hm'' hS'' => ?_⟩
    · rw [hsb.2 b fun h : b = S => hSf (by rw [← h]; exact hb)]
      exact e
    · refine hR s'' es'' ep'' t'' (Moved.trans W.gtrans ((hm.mono hsub).then_heap (Nat.le_succ _) fun b o hb e => ?_) hm'') hS''
      rw [hsb.2 b fun h : b = S => hb (by rw [h]; exact List.mem_cons_self)]
      exact e
end
section
variable {P : Program} {w : World} {A : Around} {E : Value → Shared → Prop} {s : Shared}
theorem strR_fresh {h : Heap} {a : Addr} (ho : h.get? a = some { cls := .type "set", dict := none, data := .set #[] 0 (.fresh 0 0 (!w.params.followText "set-order")) }) : StrR P w h a (fun x => x ∈ ([] : List PySem.Str).take 0) 0 #[] 0 (.fresh 0 0 (!w.params.followText "set-order")) :=
  ⟨⟨_, ho, ⟨rfl, rfl, rfl⟩, rfl⟩, fun e he => by simp at he, by simp, fun k => by simp, Nat.le_refl _, by decide, by rfl, List.Pairwise.nil, by
    show _ ∨ (!w.params.followText "set-order") = true
    cases w.params.followText "set-order"
    · exact .inr rfl
    · exact .inl rfl⟩
abbrev noSet (w : World) : Obj := { cls := .type "set", dict := none, data := .set #[] 0 (.fresh 0 0 (!w.params.followText "set-order")) }
set_option maxHeartbeats 8000000 in
theorem call_set_strs {l : Addr} {items : Array Value} (xs : List PySem.Str) {Q : Value → Shared → Prop} (hh : A.handled = none) (hl : s.heap.IsList l items) (hi : StrsAre items.toList xs) (hn : xs.length + 1 < scanBound)
    (h : ∀ (h' : Heap) (tk : Nat) es ep t, StrR P w h' s.heap.objs.size (fun x => x ∈ xs) xs.length es ep t → (∀ b o, s.heap.get? b = some o → h'.get? b = some o) → Q (.ref s.heap.objs.size) { s with heap := h', toks := tk }) :
    wpAny (model P w) A (call (.type "set") [.ref l]) Q E s := by
  have hisz : items.size = xs.length := by
    have q := StrsAre.len_eq hi
    rw [Array.length_toList] at q
    exact q
  obtain ⟨c, tl, hmro⟩ := F.called_set.mro
  have hmade := F.called_set.made
  have hsub := F.called_set.sub
  refine wpAny_call (codeAny_of_tree ?_)
  show wpAny _ _ (callAny (.type "set") _) _ _ _
  refine wpAny_pure ⟨Code.quiet_builtin _ (by decide +kernel), codeAny_builtin F.entry_type_call ?_⟩
  rw [Around.under_plain (weight_type_call_type "set" [.ref l] []) rfl]
  have h1 := F.called_set.notType
  have h2 := F.called_set.canCreate
  have hct := F.typeCall_set_1 (.ref l)
  repeat (any_goals (first | assumption | wp_step))
  refine codeAny_mono (code_set_led1 (.ref l) (E := E) (Q₁ := fun obj s1 => obj = .ref s.heap.objs.size ∧ s1 = { s with heap := s.heap.push (noSet w) }) ⟨rfl, rfl⟩) fun r s1 hr => ?_
  cases r with
  | error e => exact hr
  | ok fl =>
    cases fl with
    | ret obj =>
      obtain ⟨rfl, rfl⟩ := hr
      have hS : (s.heap.push (noSet w)).get? s.heap.objs.size = some (noSet w) := Heap.get?_push_size _ rfl
      have hT : Shared.TypeIs { s with heap := s.heap.push (noSet w) } (.ref s.heap.objs.size) "set" := ⟨_, hS, rfl⟩
      have hli := F.called_set.init.lookup
      have hbi := F.called_set.init.bind (.ref s.heap.objs.size)
      repeat (any_goals (first | assumption | wp_step))
      refine codeAny_mono (codeAny_call_builtin (R := wants (fun r s2 => r = .none ∧ ∃ h' tk es ep t, s2 = { s with heap := h', toks := tk } ∧ StrR P w h' s.heap.objs.size (fun x => x ∈ xs) xs.length es ep t ∧ (∀ b o, s.heap.get? b = some o → h'.get? b = some o)) E)
        F.called_set.init.plain F.entry_set_init (check_set_init_1 hT ?_)) fun r2 s2 hr2 => ?_
      · obtain ⟨ol, hol, hcl, nl, hdl⟩ := hl
        obtain ⟨ocls, odict, odata, oslots⟩ := ol
        simp only at hcl hdl
        subst hcl
        subst hdl
        have hol' : (s.heap.push (noSet w)).get? l = some { cls := .type "list", dict := odict, data := .seq items nl, slots := oslots } := Heap.get?_push_of_some _ hol
        have hsls := F.sub_list_set
        have hslf := F.sub_list_frozenset
        have hne : (Value.type "list" == Value.type "dict") = false := by decide
        have hl1 : (s.heap.push (noSet w)).IsList l items := ⟨_, hol', rfl, nl, rfl⟩
        unfold Builtin.«set.__init__» noKeywords Builtin.Frozenset.updateFrom
        generalize hPI : pyIter = PI
        wp_walk
        subst hPI
        refine wpAny_pyIter_list hl1 ?_
        refine wpAny_bind (wpAny_runValue ?_)
        have hlS : l < s.heap.objs.size := Heap.lt_size hol
        have hh3 : A.in1.in1.in1.handled = none := by simp [hh]
        have hz1 : (s.heap.push (noSet w)).objs.size = s.heap.objs.size + 1 := Heap.size_push ..
        have hneI : l ≠ (s.heap.push (noSet w)).objs.size := by
          rw [hz1]
          exact Nat.ne_of_lt (Nat.lt_succ_of_lt hlS)
        have hSf : s.heap.objs.size ∉ [(s.heap.push (noSet w)).objs.size, l] := by
          rw [hz1]
          simp only [List.mem_cons, List.not_mem_nil, or_false, not_or]
          exact ⟨Nat.ne_of_lt (Nat.lt_succ_self _), Nat.ne_of_gt hlS⟩
        have hval : ∀ (i : Nat) (v : Value), items[i]? = some v → ∃ t, v = .str (xs.getD i Str.empty) t := fun i v hv => SS.strs_at hi i v (by rw [Array.getElem?_toList]; exact hv)
        refine str_loop ((Walks.list hh3 _ l hneI items).toS) s.heap.objs.size hSf xs hisz.symm (by rw [hisz]; exact hn) hval (items.size - 0) 0 _ (by omega) (Nat.zero_le _) ⟨⟨_, Heap.get?_push_size _ rfl, rfl, rfl⟩, (hl1.push _)⟩ ?hS0 ?hR
        case hS0 =>
          exact ⟨#[], 0, _, strR_fresh (Heap.get?_push_of_some _ hS)⟩
        case hR =>
          intro s' es ep t hm hS'
          obtain ⟨h', g2, d', tk', os'⟩ := s'
          have eg : g2 = s.gens := hm.gens
          have ed : d' = s.drawn := hm.drawn
          have eo : os' = s.os := hm.os
          subst eg
          subst ed
          subst eo
          show wpAny _ _ _ _ _ _
          refine wpAny_pure ?_
          show wpAny _ _ (ret Value.none) _ _ _
          rw [hisz, List.take_length] at hS'
          refine wpAny_pure ⟨rfl, h', tk', es, ep, t, rfl, hS', fun b o e => ?_⟩
          have hb := Heap.lt_size e
          refine hm.heap b o ?_ (Heap.get?_push_of_some _ (Heap.get?_push_of_some _ e))
          rw [hz1]
          simp only [List.mem_cons, List.not_mem_nil, or_false, not_or]
          exact ⟨Nat.ne_of_lt hb, Nat.ne_of_lt (Nat.lt_succ_of_lt hb)⟩
      · cases r2 with
        | error e => exact hr2
        | ok fl2 =>
          cases fl2 with
          | ret r =>
            obtain ⟨rfl, h', tk, es, ep, t, rfl, hS', hk'⟩ := hr2
            repeat (any_goals (first | assumption | wp_step))
            exact h _ _ _ _ _ hS' hk'
          | _ => exact hr2.elim
    | _ => exact hr.elim
theorem call_set_strsT {l : Addr} {items : Array Value} (xs : List PySem.Str) {Q : Value → Shared → Prop} (hh : A.handled = none) (hl : s.heap.IsTuple l items) (hi : StrsAre items.toList xs) (hn : xs.length + 1 < scanBound)
    (h : ∀ (h' : Heap) (tk : Nat) es ep t, StrR P w h' s.heap.objs.size (fun x => x ∈ xs) xs.length es ep t → (∀ b o, s.heap.get? b = some o → h'.get? b = some o) → Q (.ref s.heap.objs.size) { s with heap := h', toks := tk }) :
    wpAny (model P w) A (call (.type "set") [.ref l]) Q E s := by
  have hisz : items.size = xs.length := by
    have q := StrsAre.len_eq hi
    rw [Array.length_toList] at q
    exact q
  obtain ⟨c, tl, hmro⟩ := F.called_set.mro
  have hmade := F.called_set.made
  have hsub := F.called_set.sub
  refine wpAny_call (codeAny_of_tree ?_)
  show wpAny _ _ (callAny (.type "set") _) _ _ _
  refine wpAny_pure ⟨Code.quiet_builtin _ (by decide +kernel), codeAny_builtin F.entry_type_call ?_⟩
  rw [Around.under_plain (weight_type_call_type "set" [.ref l] []) rfl]
  have h1 := F.called_set.notType
  have h2 := F.called_set.canCreate
  have hct := F.typeCall_set_1 (.ref l)
  repeat (any_goals (first | assumption | wp_step))
  refine codeAny_mono (code_set_led1 (.ref l) (E := E) (Q₁ := fun obj s1 => obj = .ref s.heap.objs.size ∧ s1 = { s with heap := s.heap.push (noSet w) }) ⟨rfl, rfl⟩) fun r s1 hr => ?_
  cases r with
  | error e => exact hr
  | ok fl =>
    cases fl with
    | ret obj =>
      obtain ⟨rfl, rfl⟩ := hr
      have hS : (s.heap.push (noSet w)).get? s.heap.objs.size = some (noSet w) := Heap.get?_push_size _ rfl
      have hT : Shared.TypeIs { s with heap := s.heap.push (noSet w) } (.ref s.heap.objs.size) "set" := ⟨_, hS, rfl⟩
      have hli := F.called_set.init.lookup
      have hbi := F.called_set.init.bind (.ref s.heap.objs.size)
      repeat (any_goals (first | assumption | wp_step))
      refine codeAny_mono (codeAny_call_builtin (R := wants (fun r s2 => r = .none ∧ ∃ h' tk es ep t, s2 = { s with heap := h', toks := tk } ∧ StrR P w h' s.heap.objs.size (fun x => x ∈ xs) xs.length es ep t ∧ (∀ b o, s.heap.get? b = some o → h'.get? b = some o)) E)
        F.called_set.init.plain F.entry_set_init (check_set_init_1 hT ?_)) fun r2 s2 hr2 => ?_
      · obtain ⟨ol, hol, hcl, nl, hdl⟩ := hl
        obtain ⟨ocls, odict, odata, oslots⟩ := ol
        simp only at hcl hdl
        subst hcl
        subst hdl
        have hol' : (s.heap.push (noSet w)).get? l = some { cls := .type "tuple", dict := odict, data := .seq items nl, slots := oslots } := Heap.get?_push_of_some _ hol
        have hsls := F.sub_tuple_set
        have hslf := F.sub_tuple_frozenset
        have hne : (Value.type "tuple" == Value.type "dict") = false := by decide
        have hl1 : (s.heap.push (noSet w)).IsTuple l items := ⟨_, hol', rfl, nl, rfl⟩
        unfold Builtin.«set.__init__» noKeywords Builtin.Frozenset.updateFrom
        generalize hPI : pyIter = PI
        wp_walk
        subst hPI
        refine wpAny_pyIter_tuple hl1 ?_
        refine wpAny_bind (wpAny_runValue ?_)
        have hlS : l < s.heap.objs.size := Heap.lt_size hol
        have hh3 : A.in1.in1.in1.handled = none := by simp [hh]
        have hz1 : (s.heap.push (noSet w)).objs.size = s.heap.objs.size + 1 := Heap.size_push ..
        have hneI : l ≠ (s.heap.push (noSet w)).objs.size := by
          rw [hz1]
          exact Nat.ne_of_lt (Nat.lt_succ_of_lt hlS)
        have hSf : s.heap.objs.size ∉ [(s.heap.push (noSet w)).objs.size, l] := by
          rw [hz1]
          simp only [List.mem_cons, List.not_mem_nil, or_false, not_or]
          exact ⟨Nat.ne_of_lt (Nat.lt_succ_self _), Nat.ne_of_gt hlS⟩
        have hval : ∀ (i : Nat) (v : Value), items[i]? = some v → ∃ t, v = .str (xs.getD i Str.empty) t := fun i v hv => SS.strs_at hi i v (by rw [Array.getElem?_toList]; exact hv)
        refine str_loop ((Walks.tuple hh3 _ l hneI items).toS) s.heap.objs.size hSf xs hisz.symm (by rw [hisz]; exact hn) hval (items.size - 0) 0 _ (by omega) (Nat.zero_le _) ⟨⟨_, Heap.get?_push_size _ rfl, rfl, rfl⟩, (hl1.push _)⟩ ?hS0 ?hR
        case hS0 =>
          exact ⟨#[], 0, _, strR_fresh (Heap.get?_push_of_some _ hS)⟩
        case hR =>
          intro s' es ep t hm hS'
          obtain ⟨h', g2, d', tk', os'⟩ := s'
          have eg : g2 = s.gens := hm.gens
          have ed : d' = s.drawn := hm.drawn
          have eo : os' = s.os := hm.os
          subst eg
          subst ed
          subst eo
          show wpAny _ _ _ _ _ _
          refine wpAny_pure ?_
          show wpAny _ _ (ret Value.none) _ _ _
          rw [hisz, List.take_length] at hS'
          refine wpAny_pure ⟨rfl, h', tk', es, ep, t, rfl, hS', fun b o e => ?_⟩
          have hb := Heap.lt_size e
          refine hm.heap b o ?_ (Heap.get?_push_of_some _ (Heap.get?_push_of_some _ e))
          rw [hz1]
          simp only [List.mem_cons, List.not_mem_nil, or_false, not_or]
          exact ⟨Nat.ne_of_lt hb, Nat.ne_of_lt (Nat.lt_succ_of_lt hb)⟩
      · cases r2 with
        | error e => exact hr2
        | ok fl2 =>
          cases fl2 with
          | ret r =>
            obtain ⟨rfl, h', tk, es, ep, t, rfl, hS', hk'⟩ := hr2
            repeat (any_goals (first | assumption | wp_step))
            exact h _ _ _ _ _ hS' hk'
          | _ => exact hr2.elim
    | _ => exact hr.elim
end
end Bz

namespace Bz
open PySem PySem.Spec PyProof.Rows L2
/-- texts, each once, ascending -/
def Asc (ys : List PySem.Str) : Prop := ys.Pairwise fun x y => x.cps.toList < y.cps.toList
section
variable {P : Program} {w : World} {A : Around} {E : Value → Shared → Prop} {s : Shared} {a : Addr} {M : PySem.Str → Prop} {b : Nat} {es : Array (Int × Value)} {ep : Nat} {t : SetTable}
theorem asc_of {ys : List PySem.Str} (h : ys.Pairwise fun x y => ¬ y.cps.toList < x.cps.toList) (nd : ys.Nodup) : Asc ys := by
  unfold Asc
  refine (List.pairwise_and_iff.mpr ⟨h, nd⟩).imp fun {x y} ⟨h1, h2⟩ => ?_
  exact Classical.byContradiction fun c => h2 (ext_tl (List.le_antisymm (List.not_lt.mp h1) (List.not_lt.mp c)))
theorem sorted_strs {Q : Value → Shared → Prop} (R : StrR P w s.heap a M b es ep t) (hh : A.handled = none)
    (hQ : ∀ s' p (out : List Value) (c : Nat) (ys : List PySem.Str), (∀ b o, s.heap.get? b = some o → s'.heap.get? b = some o) → s'.gens = s.gens → s'.os = s.os → s.heap.objs.size ≤ p →
      s'.heap.get? p = some (seqObj "list" out.toArray c) → StrsAre out ys → Asc ys → (∀ k, k ∈ ys ↔ M k) → ys.length ≤ b → Q (.ref p) s') :
    wpAny (model P w) A (call (.builtin "sorted") [.ref a]) Q E s := by
  obtain ⟨⟨o, ho, hex, hd⟩, hel, nd, hm, hsz, hb, hf, hr, hl⟩ := R
  have hlt : es.size < scanBound := Nat.lt_of_le_of_lt hsz hb
  refine Calls.call_function_entry kind_sorted plain_sorted entry_sorted (args_sorted1 _) ?_
  unfold Builtin.«sorted»
  refine wpAny_bind (m := checkCount "sorted" 1 1 _) (wpAny_pure ?_)
  refine wpAny_bind (collect_set (A := A.in1) hh ⟨o, ho, hex.1, hd⟩ hf hlt hr hl fun s1 vs k1 hz g1 o1 pm => ?_)
  have hvl : vs.length = es.size := by
    rw [pm.length_eq, List.length_map, Array.length_toList]
  have hS : StrsAre vs (vs.map strOf) := strsAre_map vs fun v hv => by
    obtain ⟨e, he, q⟩ := List.mem_map.mp (pm.mem_iff.mp hv)
    obtain ⟨tk, h1⟩ := el_str hel he
    exact ⟨skey e, tk, by rw [← q, h1]; rfl⟩
  have pk : (vs.map strOf).Perm (es.toList.map skey) := by
    have q := pm.map strOf
    rw [List.map_map] at q
    exact q
  have hvs : vs.length ≤ sizeLine := Evl.sz_of (by
    have : scanBound = 4096 := rfl
    omega)
  refine wpAny_bind (wpAny_newList ?_ hvs)
  have hoL : (s1.heap.push (seqObj "list" vs.toArray 0)).get? s1.heap.objs.size = some (seqObj "list" vs.toArray 0) := Heap.get?_push_size _ rfl
  refine wpAny_bind (wpAny_holding (wpAny_call_entry slot_list_sort ⟨_, hoL, rfl⟩ entry_list_sort (SrtO.list_sort_ord ltV_swo hoL hvs (fun h2 => strs_sortable hS h2) fun out a1 a2 => ⟨_, rfl, ?_⟩) (args_list_sort _)))
  obtain ⟨q1, q2, q3⟩ := strs_out hS a1 a2
  obtain ⟨c, hc⟩ := sortedHeap_at (vs := vs) (out := out.toArray) hoL
  have pn : (out.map strOf).Perm (es.toList.map skey) := q2.trans pk
  refine wpAny_pure ⟨_, rfl, hQ _ s1.heap.objs.size out c (out.map strOf) (fun b u e => ?_) g1 o1 hz hc q1 (asc_of q3 (pn.nodup_iff.mpr nd)) (fun k => by rw [pn.mem_iff, ← hm k]) ?_⟩
  · have q := k1 b u e
    have hlt := Heap.lt_size q
    show (sortedHeap (s1.heap.push (seqObj "list" vs.toArray 0)) s1.heap.objs.size vs out.toArray).get? b = some u
    rw [sortedHeap_old (Nat.ne_of_lt hlt) (by rw [size_push']; exact Nat.lt_succ_of_lt hlt)]
    exact Heap.get?_push_of_some _ q
  · rw [pn.length_eq, List.length_map, Array.length_toList]
    exact hsz
end
/-- at t: a list or a tuple -/
def SqE (K : PySem.W.Frag) (H : Hp) (t : Addr) (xs : List V) : Prop := SqL K H t xs ∨ SqT K H t xs
theorem sqt_same {K : PySem.W.Frag} {H H' : Hp} {a : Addr} {xs : List V} (e : Same H H') (h : SqT K H a xs) : SqT K H' a xs := h.elim (fun h => .inl (h.elim (fun h => .inl (e _ _ h)) (fun ⟨u, h⟩ => .inr ⟨u, e _ _ h⟩))) .inr
theorem SqE.same {K : PySem.W.Frag} {H H' : Hp} {a : Addr} {xs : List V} (h : SqE K H a xs) (e : Same H H') : SqE K H' a xs := h.imp (fun h => e.seq h) (fun h => sqt_same e h)
theorem SqE.star {K : PySem.W.Frag} {H : Hp} {a : Addr} {xs : List V} (h : SqE K H a xs) : SqT K H a xs ∨ SqL K H a xs := h.symm
/-- at a: a set of the texts of M, at most b -/
def SetSO (P : Program) (w : World) (a : Addr) (M : PySem.Str → Prop) (b : Nat) : HO := .ext fun h => ∃ es ep t, StrR P w h a M b es ep t
theorem setSO_new {P : Program} {w : World} {H : Hp} {h : Heap} {a : Addr} {M : PySem.Str → Prop} {b : Nat} (R : ∃ es ep t, StrR P w h a M b es ep t) : ObjOk P w H h a (SetSO P w a M b) := by
  obtain ⟨es, ep, t, R⟩ := R
  obtain ⟨o, ho, _⟩ := R.ob
  exact ⟨⟨es, ep, t, R⟩, ⟨o, ho⟩, fun h1 h2 ⟨es, ep, t, r⟩ k => ⟨es, ep, t, r.at fun o q => k o q⟩⟩
def rSetS (K : PySem.W.Frag) (P : Program) (w : World) : List V → Hp → VK → Prop := fun xs H Q => ∃ (l : Addr) (ys : List PySem.Str), xs = [.ref l] ∧ SqE K H l (ys.map V.str) ∧ ys.length ≤ 4000 ∧
  ∀ p, H p = none → Q (.ref p) (upd H p (SetSO P w p (fun x => x ∈ ys) ys.length))
theorem cr_setS {X : Cx} (hc : X.calm = true) : CallR X (.type "set") (rSetS X.K X.prog X.w) := by
  intro pins s σ H xs us Q I r h
  obtain ⟨l, ys, rfl, hq, hn, q⟩ := h
  rw [Vals.ref1 r]
  rcases hq with hq | hq
  · obtain ⟨its, rv, pl, hz⟩ := I.list hq
    refine call_set_strs (items := its.toArray) ys (I.ok.hd hc) pl.isList (by rw [List.toList_toArray]; exact rv.strs) (by unfold scanBound; omega) fun h' tk es ep t R k => ?_
    exact ⟨.ref _, upd H s.heap.objs.size (SetSO X.prog X.w s.heap.objs.size (fun x => x ∈ ys) ys.length), I.laid (t' := tk) k (Nat.le_refl _) (setSO_new ⟨es, ep, t, R⟩), rfl, q _ (I.hok.fresh (Nat.le_refl _))⟩
  · obtain ⟨its, rv, pl, hz⟩ := I.tuple hq
    refine call_set_strsT (items := its.toArray) ys (I.ok.hd hc) pl (by rw [List.toList_toArray]; exact rv.strs) (by unfold scanBound; omega) fun h' tk es ep t R k => ?_
    exact ⟨.ref _, upd H s.heap.objs.size (SetSO X.prog X.w s.heap.objs.size (fun x => x ∈ ys) ys.length), I.laid (t' := tk) k (Nat.le_refl _) (setSO_new ⟨es, ep, t, R⟩), rfl, q _ (I.hok.fresh (Nat.le_refl _))⟩
def rSortedSetS (P : Program) (w : World) : List V → Hp → VK → Prop := fun xs H Q => ∃ (a : Addr) (M : PySem.Str → Prop) (b : Nat), xs = [.ref a] ∧ H a = some (SetSO P w a M b) ∧
  ∀ (ys : List PySem.Str) (p : Addr), Asc ys → (∀ k, k ∈ ys ↔ M k) → ys.length ≤ b → H p = none → Q (.ref p) (upd H p (.lst (ys.map V.str)))
theorem cr_sortedSetS {X : Cx} (hc : X.calm = true) : CallR X (.builtin "sorted") (rSortedSetS X.prog X.w) := by
  intro pins s σ H xs us Q I r h
  obtain ⟨a, M, b, rfl, ha, q⟩ := h
  rw [Vals.ref1 r]
  obtain ⟨⟨es, ep, t, R⟩, _, _⟩ := I.hok a _ ha
  refine sorted_strs R (I.ok.hd hc) fun s' p out c ys k g o hp hg hi hs hm hl => ?_
  have hlen : (ys.map V.str).length ≤ sizeLine := by
    rw [List.length_map]
    have := R.few
    exact Evl.sz_of (by
      have : scanBound = 4096 := rfl
      omega)
  have hn : H p = none := I.hok.fresh hp
  have J : Inv X pins σ (upd H p (.lst (ys.map V.str))) { s with heap := s'.heap, gens := s'.gens, drawn := s'.drawn, toks := s'.toks } :=
    I.call (ch := []) (Un.laid k hp hn) (I.hok.laid k hp ⟨hlen, out, c, vals_of_strs hi, hg⟩) (by rw [g]; exact I.bare) (fun _ z => nomatch z)
  have e : s' = { s with heap := s'.heap, gens := s'.gens, drawn := s'.drawn, toks := s'.toks } := by
    cases s'
    cases s
    cases o
    rfl
  rw [e]
  exact ⟨.ref p, _, J, rfl, q ys p hs hm hl hn⟩
theorem ksetS (K : PySem.W.Frag) {X : Cx} (hc : X.calm = true) (h : X.K = K := by rfl) : CallR X (.type "set") (rSetS K X.prog X.w) := by subst h; exact cr_setS hc
/-- ascending lists of the same texts are one -/
theorem asc_uniq : ∀ {xs ys : List PySem.Str}, Asc xs → Asc ys → (∀ k, k ∈ xs ↔ k ∈ ys) → xs = ys
  | [], [], _, _, _ => rfl
  | [], y :: ys, _, _, h => absurd ((h y).mpr (List.mem_cons_self ..)) (by simp)
  | x :: xs, [], _, _, h => absurd ((h x).mp (List.mem_cons_self ..)) (by simp)
  | x :: xs, y :: ys, hx, hy, h => by
    obtain ⟨x1, x2⟩ := List.pairwise_cons.mp hx
    obtain ⟨y1, y2⟩ := List.pairwise_cons.mp hy
    have e : x = y := by
      rcases List.mem_cons.mp ((h x).mp (List.mem_cons_self ..)) with e | hxy
      · exact e
      · rcases List.mem_cons.mp ((h y).mpr (List.mem_cons_self ..)) with e | hyx
        · exact e.symm
        · exact absurd (List.lt_trans (y1 x hxy) (x1 y hyx)) (List.lt_irrefl _)
    subst e
    have h' : ∀ k, k ∈ xs ↔ k ∈ ys := fun k => by
      constructor
      · intro hk
        rcases List.mem_cons.mp ((h k).mp (List.mem_cons_of_mem _ hk)) with e | z
        · rw [e] at hk
          exact absurd (x1 x hk) (List.lt_irrefl _)
        · exact z
      · intro hk
        rcases List.mem_cons.mp ((h k).mpr (List.mem_cons_of_mem _ hk)) with e | z
        · rw [e] at hk
          exact absurd (y1 x hk) (List.lt_irrefl _)
        · exact z
    rw [asc_uniq x2 y2 h']
end Bz

namespace Bz
open PySem PySem.Spec PyProof.Rows L2
/-! ### names, letters, prices, as the program asks for them -/
def onlyB (s : PySem.Str) : Bool := decide (1 ≤ s.length) && (TL.tl s).all fun c => decide (97 ≤ c) && decide (c ≤ 122)
theorem low_tab : ∀ c : Fin 128, (Unicode.isAlpha c.val = (decide (65 ≤ c.val) && decide (c.val ≤ 90) || decide (97 ≤ c.val) && decide (c.val ≤ 122))) ∧ (Unicode.isLower c.val = (decide (97 ≤ c.val) && decide (c.val ≤ 122))) ∧
    ((Unicode.isUpper c.val || Unicode.isTitle c.val) = (decide (65 ≤ c.val) && decide (c.val ≤ 90))) := by decide +kernel
theorem all_tl (s : PySem.Str) (p : Nat → Bool) : s.cps.all p = (TL.tl s).all p := by
  show s.cps.all p = s.cps.toList.all p
  rw [Array.all_toList]
theorem any_tl (s : PySem.Str) (p : Nat → Bool) : s.cps.any p = (TL.tl s).any p := by
  show s.cps.any p = s.cps.toList.any p
  rw [Array.any_toList]
theorem only_ok (s : PySem.Str) : (Txt.isascii s && (Txt.isalpha s && Txt.islower s)) = onlyB s := by
  unfold Txt.isascii Txt.isalpha Txt.islower onlyB
  rw [all_tl, all_tl, any_tl, any_tl, len_tl]
  generalize TL.tl s = l
  rw [Bool.eq_iff_iff]
  simp only [Bool.and_eq_true, List.all_eq_true, decide_eq_true_eq, List.any_eq_true, Bool.not_eq_true', List.any_eq_false]
  constructor
  · rintro ⟨h1, ⟨h2, h3⟩, h4, h5⟩
    refine ⟨by have := h2; simp only [gt_iff_lt, decide_eq_true_eq] at this; omega, fun c hc => ?_⟩
    obtain ⟨t1, _, t3⟩ := low_tab ⟨c, h1 c hc⟩
    have a := h3 c hc
    have b := h5 c hc
    rw [t1] at a
    have b' : (Unicode.isUpper c || Unicode.isTitle c) = false := by simpa using b
    rw [t3] at b'
    simp only [Bool.or_eq_true, Bool.and_eq_true, decide_eq_true_eq] at a
    simp only [Bool.and_eq_false_iff, decide_eq_false_iff_not] at b'
    omega
  · rintro ⟨h1, h2⟩
    have hs : ∀ c ∈ l, c < 128 := fun c hc => by have := h2 c hc; omega
    refine ⟨hs, ⟨by simp only [gt_iff_lt, decide_eq_true_eq]; omega, fun c hc => ?_⟩, ?_, fun c hc => ?_⟩
    · obtain ⟨t1, _, _⟩ := low_tab ⟨c, hs c hc⟩
      rw [t1]
      have := h2 c hc
      simp only [Bool.or_eq_true, Bool.and_eq_true, decide_eq_true_eq]
      omega
    · cases l with
      | nil => simp at h1
      | cons c r =>
        refine ⟨c, List.mem_cons_self .., ?_⟩
        obtain ⟨_, t2, _⟩ := low_tab ⟨c, hs c (List.mem_cons_self ..)⟩
        rw [t2]
        have := h2 c (List.mem_cons_self ..)
        simp only [Bool.and_eq_true, decide_eq_true_eq]
        exact this
    · obtain ⟨_, _, t3⟩ := low_tab ⟨c, hs c hc⟩
      have := h2 c hc
      have q : (decide (65 ≤ c) && decide (c ≤ 90)) = false := by
        simp only [Bool.and_eq_false_iff, decide_eq_false_iff_not]
        omega
      rw [q] at t3
      simpa using t3
theorem nmB_only (s : PySem.Str) : nmB s = (decide (s.length ≤ 8) && onlyB s) := by
  unfold nmB onlyB
  rw [Bool.eq_iff_iff]
  simp only [Bool.and_eq_true]
  constructor
  · rintro ⟨⟨a, b⟩, c⟩
    exact ⟨b, a, c⟩
  · rintro ⟨b, a, c⟩
    exact ⟨⟨a, b⟩, c⟩
theorem only_of {s : PySem.Str} (h : Nm s) : onlyB s = true := by
  have q := nmB_only s
  rw [nmB_iff.mpr h] at q
  simp only [Bool.true_eq, Bool.and_eq_true] at q
  exact q.2
def ltB (s : PySem.Str) : Bool := decide (s.length = 1) && onlyB s
theorem ltB_of {s : PySem.Str} (h : Lt s) : ltB s = true := by
  unfold ltB onlyB
  have := h.1
  simp only [Bool.and_eq_true, decide_eq_true_eq, List.all_eq_true]
  exact ⟨this, by omega, fun c hc => h.2 c hc⟩
def prB (i : Int) : Bool := decide (0 ≤ i) && decide (i ≤ 99)
def arB (x : Arw) : Bool := nmB x.s && (ltB x.l && (nmB x.t && prB x.c))
theorem arB_of {x : Arw} (h : x.Ok) : arB x = true := by
  unfold arB prB
  rw [nmB_iff.mpr h.s, nmB_iff.mpr h.t, ltB_of h.l]
  simp only [Bool.true_and, Bool.and_eq_true, decide_eq_true_eq]
  exact ⟨h.c0, h.c1⟩
def spIsInt (K : PySem.W.Frag) : Sp := fun vs H Q _ => ∃ (v : V) (t : String), vs = [v] ∧ TyX K H v (.type t) ∧ t ∈ ["NoneType", "bool", "int", "str", "list", "tuple", "dict", "float", "set", "bytes"] ∧ Q (.bl (decide (t = "int"))) H
def spOnly : Sp := fun vs H Q _ => ∃ s : PySem.Str, vs = [.str s] ∧ Q (.bl (onlyB s)) H
def spIsName : Sp := fun vs H Q _ => ∃ s : PySem.Str, vs = [.str s] ∧ s.length ≤ 100000 ∧ Q (.bl (nmB s)) H
def spIsLetter : Sp := fun vs H Q _ => ∃ s : PySem.Str, vs = [.str s] ∧ s.length ≤ 100000 ∧ Q (.bl (ltB s)) H
def spIsPrice : Sp := fun vs H Q _ => ∃ i : Int, vs = [.int i] ∧ Q (.bl (prB i)) H
def spIsArrow (K : PySem.W.Frag) : Sp := fun vs H Q _ => ∃ (q : Addr) (x : Arw), vs = [.ref q] ∧ H q = some (.tup x.vals) ∧ x.s.length ≤ 100000 ∧ x.l.length ≤ 100000 ∧ x.t.length ≤ 100000 ∧ ∀ H', Same H H' → Q (.bl (arB x)) H'
theorem kit_in {K : PySem.W.Frag} {t : String} (h : t ∈ ["NoneType", "bool", "int", "str", "list", "tuple", "dict", "float", "set", "bytes"]) :
    PySem.W.kitOne K (.type t) (.type "int") = some (decide (t = "int") || decide (t = "bool")) ∧ PySem.W.kitOne K (.type t) (.type "bool") = some (decide (t = "bool")) ∧ PySem.W.kitOne K (.type t) (.type "str") = some (decide (t = "str")) ∧
      PySem.W.kitOne K (.type t) (.type "tuple") = some (decide (t = "tuple")) ∧ PySem.W.kitOne K (.type t) (.type "list") = some (decide (t = "list")) := by
  simp only [List.mem_cons, List.not_mem_nil, or_false] at h
  rcases h with h | h | h | h | h | h | h | h | h | h <;> subst h <;> exact ⟨kit_ty (by decide +kernel), kit_ty (by decide +kernel), kit_ty (by decide +kernel), kit_ty (by decide +kernel), kit_ty (by decide +kernel)⟩
end Bz

namespace Bz
open PySem PySem.Spec PyProof.Rows L2
/-! ### of arrows alike but for the price the cheapest -/
def Arw.k3 (x : Arw) : List Ky := [.inr x.s, .inr x.l, .inr x.t]
def Arw.ks (x : Arw) : List Ky := [.inr x.s, .inr x.l, .inr x.t, .inl x.c]
theorem Arw.k3_eq {x y : Arw} (h : x.k3 = y.k3) : x.s = y.s ∧ x.l = y.l ∧ x.t = y.t := by
  unfold Arw.k3 at h
  simp only [List.cons.injEq, Sum.inr.injEq, and_true] at h
  exact h
theorem Arw.eq_of {x y : Arw} (h : x.k3 = y.k3) (hc : x.c = y.c) : x = y := by
  obtain ⟨h1, h2, h3⟩ := Arw.k3_eq h
  cases x
  cases y
  simp only at h1 h2 h3 hc
  rw [h1, h2, h3, hc]
theorem lex_ks {x y : Arw} (h : x.k3 ≠ y.k3) : lexK x.ks y.ks = lexK x.k3 y.k3 := by
  unfold Arw.ks Arw.k3
  unfold lexK
  by_cases h1 : (Sum.inr x.s : Ky) = .inr y.s
  · rw [if_pos h1, if_pos h1]
    unfold lexK
    by_cases h2 : (Sum.inr x.l : Ky) = .inr y.l
    · rw [if_pos h2, if_pos h2]
      unfold lexK
      by_cases h3 : (Sum.inr x.t : Ky) = .inr y.t
      · exfalso
        refine h ?_
        unfold Arw.k3
        rw [h1, h2, h3]
      · rw [if_neg h3, if_neg h3]
    · rw [if_neg h2, if_neg h2]
  · rw [if_neg h1, if_neg h1]
def mstep (k : List Ky) (o : Option Int) (x : Arw) : Option Int := if x.k3 = k then some (if o.getD x.c < x.c then o.getD x.c else x.c) else o
def minC (l : List Arw) (k : List Ky) : Option Int := l.foldl (mstep k) none
theorem minC_snoc (l : List Arw) (x : Arw) (k : List Ky) : minC (l ++ [x]) k = mstep k (minC l k) x := by
  unfold minC
  rw [List.foldl_append]
  rfl
theorem fold_min {k : List Ky} : ∀ (l : List Arw) (o : Option Int),
    (∀ m, l.foldl (mstep k) o = some m → (o = some m ∨ ∃ x ∈ l, x.k3 = k ∧ x.c = m) ∧ (∀ x ∈ l, x.k3 = k → m ≤ x.c) ∧ ∀ z, o = some z → m ≤ z) ∧
    (l.foldl (mstep k) o = none → o = none ∧ ∀ x ∈ l, x.k3 ≠ k)
  | [], o => ⟨fun m h => ⟨.inl h, fun x hx => (by cases hx), fun z hz => by have e : o = some m := h; rw [hz] at e; have := Option.some.inj e; omega⟩, fun h => ⟨h, fun x hx => (by cases hx)⟩⟩
  | x :: l, o => by
    obtain ⟨i1, i2⟩ := fold_min l (mstep k o x)
    constructor
    · intro m h
      obtain ⟨a, b, c⟩ := i1 m h
      by_cases e : x.k3 = k
      · have es : mstep k o x = some (if o.getD x.c < x.c then o.getD x.c else x.c) := by
          unfold mstep
          rw [if_pos e]
        have c' := c _ es
        refine ⟨?_, fun y hy ey => ?_, fun z hz => ?_⟩
        · rcases a with a | ⟨y, hy, ey⟩
          · rw [es] at a
            have a' := Option.some.inj a
            by_cases lt : o.getD x.c < x.c
            · rw [if_pos lt] at a'
              cases o with
              | none => exact absurd lt (by show ¬ x.c < x.c; omega)
              | some z => exact .inl (by rw [← a']; rfl)
            · rw [if_neg lt] at a'
              exact .inr ⟨x, List.mem_cons_self .., e, a'⟩
          · exact .inr ⟨y, List.mem_cons_of_mem _ hy, ey⟩
        · rcases List.mem_cons.mp hy with rfl | hy
          · split at c' <;> omega
          · exact b y hy ey
        · rw [hz] at c'
          have g : (some z).getD x.c = z := rfl
          rw [g] at c'
          split at c' <;> omega
      · have es : mstep k o x = o := by
          unfold mstep
          rw [if_neg e]
        rw [es] at a c
        refine ⟨?_, fun y hy ey => ?_, c⟩
        · rcases a with a | ⟨y, hy, ey⟩
          · exact .inl a
          · exact .inr ⟨y, List.mem_cons_of_mem _ hy, ey⟩
        · rcases List.mem_cons.mp hy with rfl | hy
          · exact absurd ey e
          · exact b y hy ey
    · intro h
      obtain ⟨a, b⟩ := i2 h
      by_cases e : x.k3 = k
      · unfold mstep at a
        rw [if_pos e] at a
        cases a
      · have es : mstep k o x = o := by
          unfold mstep
          rw [if_neg e]
        rw [es] at a
        refine ⟨a, fun y hy => ?_⟩
        rcases List.mem_cons.mp hy with rfl | hy
        · exact e
        · exact b y hy
theorem minC_some {l : List Arw} {k : List Ky} {m : Int} (h : minC l k = some m) : (∃ x ∈ l, x.k3 = k ∧ x.c = m) ∧ ∀ x ∈ l, x.k3 = k → m ≤ x.c := by
  obtain ⟨a, b, _⟩ := (fold_min l none).1 m h
  refine ⟨?_, b⟩
  rcases a with a | a
  · cases a
  · exact a
theorem minC_none {l : List Arw} {k : List Ky} (h : minC l k = none) : ∀ x ∈ l, x.k3 ≠ k := ((fold_min l none).2 h).2
/-- ys: the arrows of xs that count, ascending -/
structure CheapOf (xs ys : List Arw) : Prop where
  asc : ys.Pairwise fun x y => lexK x.k3 y.k3 = true
  sub : ∀ y ∈ ys, y ∈ xs ∧ ∀ x ∈ xs, x.k3 = y.k3 → y.c ≤ x.c
  all : ∀ x ∈ xs, ∃ y ∈ ys, y.k3 = x.k3
theorem CheapOf.uniq {xs ys zs : List Arw} (h1 : CheapOf xs ys) (h2 : CheapOf xs zs) : ys = zs := by
  have sub : ∀ {ys zs : List Arw}, CheapOf xs ys → CheapOf xs zs → ∀ y ∈ ys, y ∈ zs := by
    intro ys zs h1 h2 y hy
    obtain ⟨hx, hm⟩ := h1.sub y hy
    obtain ⟨z, hz, ez⟩ := h2.all y hx
    obtain ⟨hzx, hzm⟩ := h2.sub z hz
    have e : z = y := Arw.eq_of ez (by
      have a := hm z hzx ez
      have b := hzm y hx ez.symm
      omega)
    rw [← e]
    exact hz
  have irr : ∀ x : Arw, lexK x.k3 x.k3 = false := fun x => lexK_irr _
  have key : ∀ {ys zs : List Arw}, (ys.Pairwise fun x y => lexK x.k3 y.k3 = true) → (zs.Pairwise fun x y => lexK x.k3 y.k3 = true) → (∀ y, y ∈ ys ↔ y ∈ zs) → ys = zs := by
    intro ys
    induction ys with
    | nil =>
      intro zs _ _ h
      cases zs with
      | nil => rfl
      | cons z zs => exact absurd ((h z).mpr (List.mem_cons_self ..)) (by simp)
    | cons y ys ih =>
      intro zs hy hz h
      cases zs with
      | nil => exact absurd ((h y).mp (List.mem_cons_self ..)) (by simp)
      | cons z zs =>
        obtain ⟨y1, y2⟩ := List.pairwise_cons.mp hy
        obtain ⟨z1, z2⟩ := List.pairwise_cons.mp hz
        have e : y = z := by
          rcases List.mem_cons.mp ((h y).mp (List.mem_cons_self ..)) with e | a
          · exact e
          · rcases List.mem_cons.mp ((h z).mpr (List.mem_cons_self ..)) with e | b
            · exact e.symm
            · have t := lexK_trans (z1 y a) (y1 z b)
              rw [irr] at t
              cases t
        subst e
        have h' : ∀ w, w ∈ ys ↔ w ∈ zs := fun w => by
          constructor
          · intro hw
            rcases List.mem_cons.mp ((h w).mp (List.mem_cons_of_mem _ hw)) with e | q
            · rw [e] at hw
              have t := y1 y hw
              rw [irr] at t
              cases t
            · exact q
          · intro hw
            rcases List.mem_cons.mp ((h w).mpr (List.mem_cons_of_mem _ hw)) with e | q
            · rw [e] at hw
              have t := z1 y hw
              rw [irr] at t
              cases t
            · exact q
        rw [ih y2 z2 h']
  exact key h1.asc h2.asc fun y => ⟨sub h1 h2 y, sub h2 h1 y⟩
/-- at each v of vs the arrow of xs, a tuple -/
def ArS (H : Hp) (vs : List V) (xs : List Arw) : Prop := Paired (fun v x => ∃ q, v = V.ref q ∧ H q = some (.tup x.vals)) vs xs
theorem ArS.same {H H' : Hp} {vs : List V} {xs : List Arw} (h : ArS H vs xs) (e : Same H H') : ArS H' vs xs := Paired.mapP h fun v x ⟨q, ev, hq⟩ => ⟨q, ev, e _ _ hq⟩
theorem ArTs.s {K : PySem.W.Frag} {p : Addr} {H : Hp} {vs : List V} {xs : List Arw} (h : ArTs K p H vs xs) : ArS H vs xs := Paired.mapP h fun v x ⟨q, ev, _, hq⟩ => ⟨q, ev, hq⟩
theorem ArS.get {H : Hp} : ∀ {vs : List V} {xs : List Arw} {i : Nat} {v : V}, ArS H vs xs → vs[i]? = some v → ∃ q x, v = .ref q ∧ xs[i]? = some x ∧ H q = some (.tup x.vals)
  | _, _, _, _, .nil, h => by simp at h
  | _, _, 0, v, .cons (b := x) ⟨q, ev, hq⟩ r, h => by
    have e := Option.some.inj h
    exact ⟨q, x, by rw [← e]; exact ev, rfl, hq⟩
  | _, _, i + 1, v, .cons a r, h => ArS.get (i := i) r h
theorem ArS.snoc {H : Hp} {vs : List V} {xs : List Arw} {q : Addr} {x : Arw} (h : ArS H vs xs) (hq : H q = some (.tup x.vals)) : ArS H (vs ++ [.ref q]) (xs ++ [x]) := by
  induction h with
  | nil => exact .cons ⟨q, rfl, hq⟩ .nil
  | cons a r ih => exact .cons a ih
theorem paired_perm {α β : Type} {R : α → β → Prop} {as bs : List α} (p : as.Perm bs) : ∀ {cs : List β}, Paired R bs cs → ∃ ds, Paired R as ds ∧ ds.Perm cs := by
  induction p with
  | nil => exact fun h => ⟨_, h, List.Perm.refl _⟩
  | cons x _ ih =>
    intro cs h
    cases h with
    | cons a r =>
      obtain ⟨ds, h1, h2⟩ := ih r
      exact ⟨_ :: ds, .cons a h1, h2.cons _⟩
  | swap x y l =>
    intro cs h
    cases h with
    | cons a r =>
      cases r with
      | cons b r => exact ⟨_, .cons b (.cons a r), List.Perm.swap ..⟩
  | trans _ _ i1 i2 =>
    intro cs h
    obtain ⟨ds, h1, h2⟩ := i2 h
    obtain ⟨es, h3, h4⟩ := i1 h1
    exact ⟨es, h3, h4.trans h2⟩
theorem paired_pairwise {α β : Type} {R : α → β → Prop} {S : α → α → Prop} {S' : β → β → Prop} (hs : ∀ a a' b b', R a b → R a' b' → S a a' → S' b b') : ∀ {as : List α} {bs : List β}, Paired R as bs → as.Pairwise S → bs.Pairwise S'
  | _, _, .nil, _ => .nil
  | _, _, .cons a r, h => by
    obtain ⟨h1, h2⟩ := List.pairwise_cons.mp h
    refine List.pairwise_cons.mpr ⟨fun b hb => ?_, paired_pairwise hs r h2⟩
    have mem : ∀ {as : List α} {bs : List β}, Paired R as bs → ∀ b ∈ bs, ∃ a ∈ as, R a b := by
      intro as bs p
      induction p with
      | nil => exact fun b hb => (by cases hb)
      | cons x _ ih =>
        intro b hb
        rcases List.mem_cons.mp hb with rfl | hb
        · exact ⟨_, List.mem_cons_self .., x⟩
        · obtain ⟨a, ha, r⟩ := ih b hb
          exact ⟨a, List.mem_cons_of_mem _ ha, r⟩
    obtain ⟨a', ha', r'⟩ := mem r b hb
    exact hs _ _ _ _ a r' (h1 a' ha')
theorem kpi_enumS (K : PySem.W.Frag) {X : Cx} {e : Expr} {te : TE} {p pos tpos kpos : Pos} {j : Nat} {cpos : Pos} {elts : List Expr} {kk : Nat} (hg : Gl X "enumerate") (hm : X.mg "enumerate" = none) (he : PE X e te) (hs : starEach [e] X.env = [(false, eval e X.env)] := by rfl) (h : X.K = K := by rfl) :
    PI X (.Tuple elts kk tpos) (.Call (.Name "enumerate" p) [e] [⟨some "start", .Constant (.int 1) j cpos, kpos⟩] pos) (iEnumS K te) := by
  subst h
  exact pi_enumS hg hm he hs
/-! ### dicts -/
theorem kpi_enumST (K : PySem.W.Frag) {X : Cx} {e : Expr} {te : TE} {p pos tpos kpos : Pos} {j : Nat} {cpos : Pos} {elts : List Expr} {kk : Nat} (hg : Gl X "enumerate") (hm : X.mg "enumerate" = none) (he : PE X e te) (hs : starEach [e] X.env = [(false, eval e X.env)] := by rfl) (h : X.K = K := by rfl) :
    PI X (.Tuple elts kk tpos) (.Call (.Name "enumerate" p) [e] [⟨some "start", .Constant (.int 1) j cpos, kpos⟩] pos) (iEnumST K te) := by
  subst h
  exact pi_enumST hg hm he hs
/-! ### dicts -/
theorem putK_keys {κ : Type} [DecidableEq κ] (kvs : List (κ × V)) (k : κ) (v : V) : (putK kvs k v).map (·.1) = if k ∈ kvs.map (·.1) then kvs.map (·.1) else kvs.map (·.1) ++ [k] := by
  have e : (kvs.any fun kv => decide (kv.1 = k)) = decide (k ∈ kvs.map (·.1)) := by
    rw [Bool.eq_iff_iff, decide_eq_true_eq, List.any_eq_true]
    simp only [decide_eq_true_eq, List.mem_map]
  unfold putK
  rw [e]
  by_cases h : k ∈ kvs.map (·.1)
  · rw [if_pos (decide_eq_true h), if_pos h, List.map_map]
    refine List.map_congr_left fun p _ => ?_
    show (if p.1 = k then (p.1, v) else p).1 = p.1
    split <;> rfl
  · rw [if_neg (by rw [decide_eq_false h]; decide), if_neg h, List.map_append]
    rfl
theorem putK_nodup {κ : Type} [DecidableEq κ] {kvs : List (κ × V)} {k : κ} {v : V} (h : (kvs.map (·.1)).Nodup) : ((putK kvs k v).map (·.1)).Nodup := by
  rw [putK_keys]
  split
  · exact h
  · rename_i n
    rw [List.nodup_append]
    exact ⟨h, by simp, fun a ha b hb e => n (by rw [List.mem_singleton.mp hb] at e; rw [← e]; exact ha)⟩
theorem putK_memk {κ : Type} [DecidableEq κ] {kvs : List (κ × V)} {k : κ} {v : V} {p : κ × V} (h : p ∈ putK kvs k v) : p.1 = k ∨ ∃ q ∈ kvs, q.1 = p.1 := by
  have hm : p.1 ∈ (putK kvs k v).map (·.1) := List.mem_map.mpr ⟨p, h, rfl⟩
  rw [putK_keys] at hm
  split at hm
  · obtain ⟨q, hq, e⟩ := List.mem_map.mp hm
    exact .inr ⟨q, hq, e⟩
  · rcases List.mem_append.mp hm with hm | hm
    · obtain ⟨q, hq, e⟩ := List.mem_map.mp hm
      exact .inr ⟨q, hq, e⟩
    · exact .inl (List.mem_singleton.mp hm)
theorem valV_mem {κ : Type} [DecidableEq κ] {kvs : List (κ × V)} (h : (kvs.map (·.1)).Nodup) {p : κ × V} (hp : p ∈ kvs) : valV kvs p.1 = some p.2 := by
  unfold valV
  induction kvs with
  | nil => cases hp
  | cons q kvs ih =>
    rw [List.map_cons] at h
    obtain ⟨h1, h2⟩ := List.nodup_cons.mp h
    rcases List.mem_cons.mp hp with rfl | hp
    · rw [List.find?_cons_of_pos (by simp)]
      rfl
    · have ne : ¬ q.1 = p.1 := fun e => h1 (by rw [e]; exact List.mem_map.mpr ⟨p, hp, rfl⟩)
      rw [List.find?_cons_of_neg (by simpa using ne)]
      exact ih h2 hp
/-- the keys of the value at v, as the heap has it -/
def unkV : V → Ky
  | .int i => .inl i
  | .str z => .inr z
  | _ => .inl 0
def keysAt (H : Hp) (v : V) : List Ky := match v with
  | .ref q => match H q with
    | some (.tup vs) => vs.map unkV
    | _ => []
  | _ => []
theorem keysAt_ar {H : Hp} {q : Addr} {x : Arw} (h : H q = some (.tup x.vals)) : keysAt H (.ref q) = x.ks := by
  unfold keysAt
  simp only [h]
  rfl
theorem ks_vals (x : Arw) : x.ks.map kV = x.vals := rfl
/-! ### promises of the machine's helpers -/
def spCheckArrows (K : PySem.W.Frag) : Sp := fun vs H Q _ => ∃ (a : Addr) (us : List V) (xs : List Arw), vs = [.ref a] ∧ SqE K H a us ∧ ArS H us xs ∧ (∀ x ∈ xs, x.Ok) ∧ xs.length ≤ 400 ∧ ∀ H', Same H H' → Q .non H'
def spCheckNames (K : PySem.W.Frag) : Sp := fun vs H Q _ => ∃ (a : Addr) (ns : List PySem.Str), vs = [.ref a] ∧ SqE K H a (ns.map V.str) ∧ (∀ s ∈ ns, Nm s) ∧ Q .non H
def spOnce (K : PySem.W.Frag) : Sp := fun vs H Q _ => ∃ (a : Addr) (ns : List PySem.Str), vs = [.ref a] ∧ SqE K H a (ns.map V.str) ∧ ns.length ≤ 4000 ∧
  ∀ (q : Addr) (os : List PySem.Str) (H' : Hp), H q = none → FzT H' q (os.map V.str) → Asc os → (∀ k, k ∈ os ↔ k ∈ ns) → os.length ≤ ns.length → Same H H' → Q (.ref q) H'
def spStates (K : PySem.W.Frag) : Sp := fun vs H Q _ => ∃ (t a b : Addr) (us : List V) (xs : List Arw) (ss es : List PySem.Str), vs = [.ref t, .ref a, .ref b] ∧ H t = some (.tup us) ∧ ArS H us xs ∧ SqE K H a (ss.map V.str) ∧ SqE K H b (es.map V.str) ∧
  xs.length ≤ 500 ∧ ss.length ≤ 1000 ∧ es.length ≤ 1000 ∧
  ∀ (q : Addr) (os : List PySem.Str) (H' : Hp), H q = none → FzT H' q (os.map V.str) → Asc os → (∀ k, k ∈ os ↔ (k ∈ ss ∨ k ∈ es ∨ ∃ x ∈ xs, k = x.s ∨ k = x.t)) → Same H H' → Q (.ref q) H'
def spCheapest (K : PySem.W.Frag) : Sp := fun vs H Q _ => ∃ (a : Addr) (us : List V) (xs : List Arw), vs = [.ref a] ∧ SqE K H a us ∧ ArS H us xs ∧ xs.length ≤ 1000 ∧
  ∀ (q : Addr) (ws : List V) (ys : List Arw) (H' : Hp), H q = none → H' q = some (.tup ws) → ArS H' ws ys → CheapOf xs ys → Same H H' → Q (.ref q) H'
theorem nm_len {s : PySem.Str} (h : Nm s) : s.length ≤ 100000 := Nat.le_trans h.2.1 (by decide)
theorem lt_len {s : PySem.Str} (h : Lt s) : s.length ≤ 100000 := by rw [h.1]; decide
end Bz

namespace Bz
open PySem PySem.Spec PyProof.Rows L2
/-! ### own classes: made, their properties read -/
structure InitAt (K : PySem.W.Frag) (C : Addr) (qual : PySem.Str) (st : Stmt) (ps : List PySem.Str) : Prop where
  ex : ∃ f fd, Mk K C f ∧ Fun K "__init__" qual st f fd ∧ Binds K fd ps []
structure Makes (P : Program) (w : World) (K : PySem.W.Frag) (mg : PySem.Str → Option Value) (base : Heap) (C : Addr) (k : Nat) (ps : List PySem.Str) (sp : Sp) : Prop where
  ex : ∃ f fd, Mk K C f ∧ FnOk P w K mg base CX0 k f fd ps sp ∧ Binds K fd ps []
section
variable {P : Program} {w : World} {K : PySem.W.Frag} {mg : PySem.Str → Option Value} {base : Heap} {k : Nat} {qual : PySem.Str} {st : Stmt} {ps N : List PySem.Str} {sp : Sp} {C : Addr}
theorem makes0 (D : InitAt K C qual st ps) (S : FnScope N ps (defScope st)) (len : ∀ vs H Q E, sp vs H Q E → vs.length = ps.length)
    (hbody : ∀ (f : Addr) (cdv : Value) (A : Around) (outer : List Env) (s : Shared) (H : Hp) (vs : List V) (Q : VK) (E : XK), Room k (A.deeper (envOfC qual (defScope st) s.heap.objs.size f cdv)) → sp vs H Q E →
      ∃ t, PSs (cxOf CX0 P w K mg base N qual (defScope st) f cdv A outer s H E).nox (defBody st) t ∧ t { nx := fun _ H' => Q .non H', rt := Q } (start N vs) H) : Makes P w K mg base C (k + 1) ps sp := by
  obtain ⟨f, fd, M, F, b⟩ := D.ex
  exact ⟨f, fd, M, F.ok S len (hbody f), b⟩
end
section
variable {X : Cx} {k : Nat} {x : PySem.Str} {ps : List PySem.Str} {sp : Sp} {e : Expr} {es : List Expr} {p pos : Pos} {t : TA} {C : Addr}
theorem pe_mk {j : Nat} (M : Makes X.prog X.w X.K X.mg X.base C k ps sp) (hr : Room j X.A) (hm : X.mg x = some (.ref C)) (ha : PA X (e :: es) t) (hj : k + 1 ≤ j := by decide) (hg : Gl X x := by rfl)
    (hdb : (x == ("__debug__" : PySem.Str)) = false := by decide) (he : starEach (e :: es) X.env = (false, eval e X.env) :: starEach es X.env := by rfl) (hpl : (backTo pos (starEach es X.env)).any (·.1) = false := by rfl) :
    PE X (.Call (.Name x p) (e :: es) [] pos) (tMake C sp [] E0 t) := by
  obtain ⟨f, fd, M, F, b⟩ := M.ex
  exact pe_make M F (hr.mono hj) hg hm b .nil pass0 ha hdb he hpl
end
structure PropAt (K : PySem.W.Frag) (C : Addr) (f qual : PySem.Str) (st : Stmt) : Prop where
  ex : ∃ p g fd, PropOf K C f p g ∧ Fun K f qual st g fd ∧ Binds K fd ["self"] []
/-- e.f, a property that gives the attribute h -/
def tPr (C : Addr) (h : PySem.Str) (te : TE) : TE := tProp C (getSp C h) [] E0 te
theorem pe_pr {X : Cx} {j : Nat} {C : Addr} {f h qual : PySem.Str} {st : Stmt} {N : List PySem.Str} {e : Expr} {te : TE} {pos p1 p2 p3 : Pos} (he : PE X e te) (hr : Room j X.A) (c : Cls X.K C) (hp : PropAt X.K C f qual st) (n : NoAttr X.K C h) (S : FnScope N ["self"] (defScope st))
    (hN : N[0]? = some ("self" : PySem.Str) := by rfl) (hb : defBody st = [.Return (some (.Attribute (.Name "self" p1) h p2)) p3] := by rfl) (hj : 2 ≤ j := by decide) (hab : attributeBase e f X.env (eval e X.env) = eval e X.env := by rfl) :
    PE X (.Attribute e f pos) (tPr C h te) := by
  obtain ⟨p, g, fd, P, F, b⟩ := hp.ex
  obtain ⟨oc, od, kV, doc, pm, an, cdv, ct, osl, rfl, lk, hcd⟩ := F.ex
  have G : FnOk X.prog X.w X.K X.mg X.base CX0 1 g (PySem.W.fnOf f qual (defArgs st) (defBody st) (defScope st) .none kV doc pm an cdv ct) ["self"] (getSp C h) := fn_getter lk hcd S hN hb c n
  exact pe_prop (dvs := []) (E := E0) (pos := pos) he c P G (hr.mono hj) b .nil (fun _ _ _ _ _ _ _ z => z.elim) hab
/-- what stands in a machine -/
structure MachV where
  ars : List Arw
  sts : List PySem.Str
  ens : List PySem.Str
  sta : List PySem.Str
  lets : List PySem.Str
/-- .. made of xs, ss, es -/
structure MOf (M : MachV) (xs : List Arw) (ss es : List PySem.Str) : Prop where
  ars : CheapOf xs M.ars
  sts : Asc M.sts ∧ ∀ k, k ∈ M.sts ↔ k ∈ ss
  ens : Asc M.ens ∧ ∀ k, k ∈ M.ens ↔ k ∈ es
  sta : Asc M.sta ∧ ∀ k, k ∈ M.sta ↔ (k ∈ ss ∨ k ∈ es ∨ ∃ x ∈ M.ars, k = x.s ∨ k = x.t)
  lets : Asc M.lets ∧ ∀ k, k ∈ M.lets ↔ ∃ x ∈ M.ars, k = x.l
def mfs (t1 t2 t3 t4 t5 : Addr) : List (PySem.Str × V) := [("held_arrows", .ref t1), ("held_starts", .ref t2), ("held_ends", .ref t3), ("held_states", .ref t4), ("held_letters", .ref t5)]
/-- the machine M at m -/
structure MachAt (C : Addr) (H : Hp) (m dx t1 t2 t3 t4 t5 : Addr) (ws : List V) (M : MachV) : Prop where
  ins : H m = some (.ins C dx (mfs t1 t2 t3 t4 t5))
  a1 : H t1 = some (.tup ws)
  as : ArS H ws M.ars
  a2 : FzT H t2 (M.sts.map V.str)
  a3 : FzT H t3 (M.ens.map V.str)
  a4 : FzT H t4 (M.sta.map V.str)
  a5 : FzT H t5 (M.lets.map V.str)
def IsMach (C : Addr) (H : Hp) (m : Addr) (M : MachV) : Prop := ∃ dx t1 t2 t3 t4 t5 ws, MachAt C H m dx t1 t2 t3 t4 t5 ws M
theorem IsMach.same {C : Addr} {H H' : Hp} {m : Addr} {M : MachV} (h : IsMach C H m M) (e : Same H H') : IsMach C H' m M := by
  obtain ⟨dx, t1, t2, t3, t4, t5, ws, h⟩ := h
  exact ⟨dx, t1, t2, t3, t4, t5, ws, ⟨e _ _ h.ins, e _ _ h.a1, h.as.same e, h.a2.on e, h.a3.on e, h.a4.on e, h.a5.on e⟩⟩
theorem putf0 (v : V) : putF "held_arrows" v [] = [(("held_arrows" : PySem.Str), v)] := rfl
theorem putf1 (a v : V) : putF "held_starts" v [(("held_arrows" : PySem.Str), a)] = [(("held_arrows" : PySem.Str), a), (("held_starts" : PySem.Str), v)] := by
  unfold putF
  rw [if_neg (by decide +kernel)]
  rfl
theorem putf2 (a b v : V) : putF "held_ends" v [(("held_arrows" : PySem.Str), a), (("held_starts" : PySem.Str), b)] = [(("held_arrows" : PySem.Str), a), (("held_starts" : PySem.Str), b), (("held_ends" : PySem.Str), v)] := by
  unfold putF
  rw [if_neg (by decide +kernel)]
  unfold putF
  rw [if_neg (by decide +kernel)]
  rfl
theorem putf3 (a b c v : V) : putF "held_states" v [(("held_arrows" : PySem.Str), a), (("held_starts" : PySem.Str), b), (("held_ends" : PySem.Str), c)] = [(("held_arrows" : PySem.Str), a), (("held_starts" : PySem.Str), b), (("held_ends" : PySem.Str), c), (("held_states" : PySem.Str), v)] := by
  unfold putF
  rw [if_neg (by decide +kernel)]
  unfold putF
  rw [if_neg (by decide +kernel)]
  unfold putF
  rw [if_neg (by decide +kernel)]
  rfl
theorem putf4 (a b c d v : V) : putF "held_letters" v [(("held_arrows" : PySem.Str), a), (("held_starts" : PySem.Str), b), (("held_ends" : PySem.Str), c), (("held_states" : PySem.Str), d)] = [(("held_arrows" : PySem.Str), a), (("held_starts" : PySem.Str), b), (("held_ends" : PySem.Str), c), (("held_states" : PySem.Str), d), (("held_letters" : PySem.Str), v)] := by
  unfold putF
  rw [if_neg (by decide +kernel)]
  unfold putF
  rw [if_neg (by decide +kernel)]
  unfold putF
  rw [if_neg (by decide +kernel)]
  unfold putF
  rw [if_neg (by decide +kernel)]
  rfl
theorem look_ne {f g : PySem.Str} {v : V} {r : List (PySem.Str × V)} (h : ¬ f = g) : List.lookup f ((g, v) :: r) = List.lookup f r := by
  have e : (f == g) = false := by simpa using h
  simp [List.lookup, e]
theorem look_eq {f : PySem.Str} {v : V} {r : List (PySem.Str × V)} : List.lookup f ((f, v) :: r) = some v := by simp [List.lookup]
theorem mfs1 (t1 t2 t3 t4 t5 : Addr) : (mfs t1 t2 t3 t4 t5).lookup ("held_arrows" : PySem.Str) = some (.ref t1) := look_eq
theorem mfs2 (t1 t2 t3 t4 t5 : Addr) : (mfs t1 t2 t3 t4 t5).lookup ("held_starts" : PySem.Str) = some (.ref t2) := (look_ne (by decide +kernel)).trans look_eq
theorem mfs3 (t1 t2 t3 t4 t5 : Addr) : (mfs t1 t2 t3 t4 t5).lookup ("held_ends" : PySem.Str) = some (.ref t3) := (look_ne (by decide +kernel)).trans ((look_ne (by decide +kernel)).trans look_eq)
theorem mfs4 (t1 t2 t3 t4 t5 : Addr) : (mfs t1 t2 t3 t4 t5).lookup ("held_states" : PySem.Str) = some (.ref t4) := (look_ne (by decide +kernel)).trans ((look_ne (by decide +kernel)).trans ((look_ne (by decide +kernel)).trans look_eq))
theorem mfs5 (t1 t2 t3 t4 t5 : Addr) : (mfs t1 t2 t3 t4 t5).lookup ("held_letters" : PySem.Str) = some (.ref t5) :=
  (look_ne (by decide +kernel)).trans ((look_ne (by decide +kernel)).trans ((look_ne (by decide +kernel)).trans ((look_ne (by decide +kernel)).trans look_eq)))
theorem seq_ins {K : PySem.W.Frag} {H : Hp} {m a C dx : Addr} {fs : List (PySem.Str × V)} {o : HO} {xs : List V} (h : SqL K H a xs) (hm : H m = some (.ins C dx fs)) : SqL K (upd H m o) a xs := by
  rcases h with (h | ⟨u, h⟩) | h
  · exact .inl (.inl ((upd_ne (ne_of h hm (by intro z; cases z))).trans h))
  · exact .inl (.inr ⟨u, (upd_ne (ne_of h hm (by intro z; cases z))).trans h⟩)
  · exact .inr h
theorem mlook (f : PySem.Str) (x : Arw) (ws : List V) : True := trivial
def spInit (K : PySem.W.Frag) (C : Addr) : Sp := fun vs H Q _ => ∃ (m a b e dx : Addr) (us : List V) (xs : List Arw) (ss es ns : List PySem.Str), vs = [.ref m, .ref a, .ref b, .ref e] ∧ H m = some (.ins C dx []) ∧ SqE K H a us ∧ ArS H us xs ∧ (∀ x ∈ xs, x.Ok) ∧ xs.length ≤ 400 ∧
  SqE K H b (ss.map V.str) ∧ SqE K H e (es.map V.str) ∧ (∀ s ∈ ss, Nm s) ∧ (∀ s ∈ es, Nm s) ∧ ss.length ≤ 1000 ∧ es.length ≤ 1000 ∧ ns.length ≤ 40 ∧ (∀ s ∈ ss, s ∈ ns) ∧ (∀ s ∈ es, s ∈ ns) ∧ (∀ x ∈ xs, x.s ∈ ns ∧ x.t ∈ ns) ∧
  ∀ (M : MachV) (H' : Hp), IsMach C H' m M → MOf M xs ss es → (∀ q o, q ≠ m → H q = some o → H' q = some o) → Q .non H'
theorem sqe_ins {K : PySem.W.Frag} {H : Hp} {m a C dx : Addr} {fs : List (PySem.Str × V)} {o : HO} {xs : List V} (h : SqE K H a xs) (hm : H m = some (.ins C dx fs)) : SqE K (upd H m o) a xs := by
  rcases h with h | h
  · exact .inl (seq_ins h hm)
  · refine .inr ?_
    rcases h with (h | ⟨u, h⟩) | h
    · exact .inl (.inl ((upd_ne (ne_of h hm (by intro z; cases z))).trans h))
    · exact .inl (.inr ⟨u, (upd_ne (ne_of h hm (by intro z; cases z))).trans h⟩)
    · exact .inr h
end Bz

namespace Bz
open PySem PySem.Spec PyProof.Rows L2
/-! ### min of a list of ints, what stands where there are none told -/
/-- o tells the least of what P says -/
def LeastO (P : Int → Prop) (o : Option Int) : Prop := match o with
  | none => ∀ n, ¬ P n
  | some m => P m ∧ ∀ n, P n → m ≤ n
theorem LeastO.uniq {P : Int → Prop} {a b : Option Int} (ha : LeastO P a) (hb : LeastO P b) : a = b := by
  cases a with
  | none =>
    cases b with
    | none => rfl
    | some m => exact absurd hb.1 (ha m)
  | some k =>
    cases b with
    | none => exact absurd ha.1 (hb k)
    | some m =>
      have h1 := ha.2 m hb.1
      have h2 := hb.2 k ha.1
      have e : k = m := by omega
      rw [e]
theorem LeastO.iff {P Q : Int → Prop} (h : ∀ n, P n ↔ Q n) {o : Option Int} (k : LeastO P o) : LeastO Q o := by
  have e : P = Q := funext fun n => propext (h n)
  rw [← e]
  exact k
def optV : Option Int → V
  | none => .non
  | some n => .int n
theorem strS {X : Cx} : CallR X (.type "str") (fun xs H Q => ∃ a, xs = [V.str a] ∧ Q (.str a) H) := by
  intro pins s σ H xs us Q I r h
  obtain ⟨z, rfl, k⟩ := h
  obtain ⟨u, rfl, ru⟩ := vals1 r
  obtain ⟨t, rfl⟩ := ru
  exact PySem.P.str_of_str ⟨.str z, H, I, ⟨t, rfl⟩, k⟩
theorem callB_kw {M : Model} {A : Around} {E : Value → Shared → Prop} {s : Shared} {pos : Pos} {T : String} {t : Sem Value} {kw : PySem.Str} {x : Sem Value} {Q : Value → Shared → Prop}
    (h : wpAny M A t (fun v s1 => wpAny M A x (fun k s2 => wpAny M A (call (.builtin T) [v] [(kw, k)]) Q E s2) E s1) E s) :
    wpAny M A (callWith pos (.builtin T) [] [(false, t)] [(some kw, x)]) Q E s := by
  unfold callWith
  refine wpAny_bind (wpAny_holding (wpAny_mono (Q := fun (a : Args) s1 => wpAny M A (call (.builtin T) ([] ++ a.pos) a.kw) Q E s1) ?_ (fun a s1 h1 => wpAny_bind (wpAny_standAt ?_)) fun _ _ z => z))
  · refine evalArgs_kwB (by rfl) ?_
    refine Calls.spliced_cons (wpAny_mono h (fun v s1 h1 => Calls.spliced_nil ?_) fun _ _ z => z)
    exact evalAll_cons (wpAny_mono h1 (fun k s2 h2 => wpAny_evalAll_nil h2) fun _ _ z => z)
  · refine wpAny_bind (wpAny_pure ?_)
    exact wpAny_bind (wpAny_mono h1 (fun r s2 hr => wpAny_bind (wpAny_holding (wpAny_point (wpAny_pure hr)))) fun _ _ z => z)
theorem dp_ints {K : PySem.W.Frag} {H : Hp} : ∀ ns : List Int, DpAll K H (ns.map V.int) (ns.map PyData.int)
  | [] => .nil
  | n :: ns => .cons (.int n) (dp_ints ns)
theorem minOf_is (y : Int) (ys : List Int) : PySem.W.minOf y ys ∈ y :: ys ∧ ∀ z ∈ y :: ys, PySem.W.minOf y ys ≤ z := by
  unfold PySem.W.minOf
  induction ys generalizing y with
  | nil => exact ⟨List.mem_cons_self .., fun z hz => by rw [List.mem_singleton.mp hz]; exact Int.le_refl _⟩
  | cons x ys ih =>
    rw [List.foldl_cons]
    have e : (if PySem.W.DatumOrd.lt x y = true then x else y) = if x < y then x else y := by
      show (if decide (x < y) = true then x else y) = _
      by_cases h : x < y <;> simp [h]
    rw [e]
    obtain ⟨h1, h2⟩ := ih (if x < y then x else y)
    have q : ∀ z ∈ (if x < y then x else y) :: ys, z ∈ y :: x :: ys := by
      intro z hz
      rcases List.mem_cons.mp hz with rfl | hz
      · split <;> simp
      · simp [hz]
    refine ⟨q _ h1, fun z hz => ?_⟩
    have h0 := h2 _ (List.mem_cons_self ..)
    have h3 : ∀ z ∈ ys, List.foldl (fun a y => if PySem.W.DatumOrd.lt y a = true then y else a) (if x < y then x else y) ys ≤ z := fun z hz => h2 z (List.mem_cons_of_mem _ hz)
    generalize List.foldl (fun a y => if PySem.W.DatumOrd.lt y a = true then y else a) (if x < y then x else y) ys = r at h0 h3 ⊢
    have h4 : r ≤ x ∧ r ≤ y := by
      by_cases c : x < y
      · rw [if_pos c] at h0
        omega
      · rw [if_neg c] at h0
        omega
    rcases List.mem_cons.mp hz with rfl | hz
    · exact h4.2
    · rcases List.mem_cons.mp hz with rfl | hz
      · exact h4.1
      · exact h3 z hz
def tMinD (K : PySem.W.Frag) (te : TE) : TE := fun σ H Q => te σ H fun v H1 => ∃ (l : Addr) (ns : List Int), v = .ref l ∧ SqL K H1 l (ns.map V.int) ∧ ∀ o : Option Int, LeastO (fun n => n ∈ ns) o → Q (optV o) H1
theorem pe_minD (K : PySem.W.Frag) {X : Cx} {e : Expr} {te : TE} {p pos kpos : Pos} {j : Nat} {cpos : Pos} (hc : X.calm = true) (hu : X.A.units + 64 < cLine) (hg : Gl X "min") (hm : X.mg "min" = none) (he : PE X e te) (hs : starEach [e] X.env = [(false, eval e X.env)] := by rfl) (hK : X.K = K := by rfl) :
    PE X (.Call (.Name "min" p) [e] [⟨some "default", .Constant .none j cpos, kpos⟩] pos) (tMinD K te) := by
  subst hK
  refine ⟨fun pins s σ H Q I h => ?_⟩
  refine wpAny_Call_Name_kw (ld_blt I hg hm boot_min ?_)
  rw [hs]
  show wpAny _ _ (callWith pos (Value.builtin "min") [] [(false, eval e X.env)] [(some "default", do let v ← eval (.Constant .none j cpos) X.env; standAt pos; pure v)]) _ _ _
  refine callB_kw (thn (he.run pins s σ H _ I h) fun u s1 ⟨v, H1, I1, r1, l, ns, ev, hq, q⟩ => ?_)
  subst ev
  obtain rfl : u = Value.ref l := r1
  refine wpAny_bind (wpAny_Constant_none (wpAny_bind (wpAny_standAt (wpAny_pure ?_))))
  obtain ⟨its, rv, pl, hz⟩ := I1.list hq
  obtain ⟨as, ra⟩ := Dp.readsAll I1 _ _ _ (dp_ints ns) rv
  refine PySem.W.min_list_datum_default (α := Int) (xs := ns) (I1.ok.hd hc) pl.isList ⟨as, by
    have e : its.toArray.toList = its := by simp
    rw [e]
    exact ra⟩ (by show X.A.units + 1 + 0 < cLine; omega) (fun e0 h' tk k => ?_) (fun y ys i v h' tk e1 hi hh k => ?_)
  · subst e0
    exact ⟨.non, H1, I1.kept k, rfl, q none fun n hn => by cases hn⟩
  · subst e1
    obtain ⟨as', r'⟩ := hh
    have ht : ∃ t, v = Value.int (PySem.W.minOf y ys) t := by
      have r2 : Reads h' v (.int (PySem.W.minOf y ys)) as' := r'
      cases r2
      exact ⟨_, rfl⟩
    obtain ⟨t, rfl⟩ := ht
    exact ⟨.int _, H1, I1.kept k, ⟨t, rfl⟩, q (some _) ⟨(minOf_is y ys).1, fun n hn => (minOf_is y ys).2 n hn⟩⟩
theorem kmin1 (K : PySem.W.Frag) {X : Cx} (hc : X.calm = true) (h : X.K = K := by rfl) : CallR X (.builtin "min") (rMin K) := by subst h; exact cr_min hc
/-- one of two ways to walk -/
theorem pi_or {X : Cx} {tg e : Expr} {a b : TI} (ha : PI X tg e a) (hb : PI X tg e b) : PI X tg e (fun σ H R => a σ H R ∨ b σ H R) :=
  ⟨fun pins s σ H R I h => h.elim (fun h => ha.run pins s σ H R I h) (fun h => hb.run pins s σ H R I h)⟩
end Bz

namespace Bz
open PySem PySem.Spec PyProof.Rows L2
/-! ### runs and their sums -/
def sgnL (z : PySem.Str) : List PySem.Str := z.cps.toList.map fun ch => (⟨#[ch]⟩ : PySem.Str)
theorem sgnL_len (z : PySem.Str) : (sgnL z).length = z.cps.size := by
  unfold sgnL
  rw [List.length_map, Array.length_toList]
theorem sgnL_at {z : PySem.Str} {i c : Nat} (h : z.cps[i]? = some c) : (sgnL z)[i]? = some (⟨#[c]⟩ : PySem.Str) := by
  unfold sgnL
  rw [List.getElem?_map, Array.getElem?_toList, h]
  rfl
def nextS (xs : List Arw) (l : PySem.Str) (p : PySem.Str × Int) : List (PySem.Str × Int) := (xs.filter fun x => decide (x.s = p.1 ∧ x.l = l)).map fun x => (x.t, p.2 + x.c)
def sums (xs : List Arw) (ls : List PySem.Str) (f : List (PySem.Str × Int)) : List (PySem.Str × Int) := ls.foldl (fun f l => f.flatMap (nextS xs l)) f
theorem sums_snoc (xs : List Arw) (ls : List PySem.Str) (l : PySem.Str) (f : List (PySem.Str × Int)) : sums xs (ls ++ [l]) f = (sums xs ls f).flatMap (nextS xs l) := by
  unfold sums
  rw [List.foldl_append]
  rfl
def Rch (xs : List Arw) (ss ls : List PySem.Str) (q : PySem.Str) (n : Int) : Prop := ∃ a ∈ ss, (q, n) ∈ sums xs ls [(a, 0)]
theorem reach_nil {xs : List Arw} {ss : List PySem.Str} {q : PySem.Str} {n : Int} : Rch xs ss [] q n ↔ q ∈ ss ∧ n = 0 := by
  unfold Rch sums
  constructor
  · rintro ⟨a, ha, h⟩
    have := List.mem_singleton.mp h
    obtain ⟨rfl, rfl⟩ := Prod.mk.inj this
    exact ⟨ha, rfl⟩
  · rintro ⟨h, rfl⟩
    exact ⟨q, h, List.mem_singleton.mpr rfl⟩
theorem reach_step {xs : List Arw} {ss ls : List PySem.Str} {l q : PySem.Str} {n : Int} : Rch xs ss (ls ++ [l]) q n ↔ ∃ x ∈ xs, x.l = l ∧ x.t = q ∧ ∃ m, Rch xs ss ls x.s m ∧ n = m + x.c := by
  unfold Rch
  constructor
  · rintro ⟨a, ha, h⟩
    rw [sums_snoc] at h
    obtain ⟨⟨p, m⟩, hp, hm⟩ := List.mem_flatMap.mp h
    unfold nextS at hm
    obtain ⟨x, hx, e⟩ := List.mem_map.mp hm
    obtain ⟨h1, h2⟩ := List.mem_filter.mp hx
    obtain ⟨h3, h4⟩ := of_decide_eq_true h2
    obtain ⟨rfl, rfl⟩ := Prod.mk.inj e
    exact ⟨x, h1, h4, rfl, m, ⟨a, ha, by rw [h3]; exact hp⟩, rfl⟩
  · rintro ⟨x, hx, rfl, rfl, m, ⟨a, ha, h⟩, rfl⟩
    refine ⟨a, ha, ?_⟩
    rw [sums_snoc]
    refine List.mem_flatMap.mpr ⟨(x.s, m), h, ?_⟩
    exact List.mem_map.mpr ⟨x, List.mem_filter.mpr ⟨hx, decide_eq_true ⟨rfl, rfl⟩⟩, rfl⟩
theorem reach_congr {xs ys : List Arw} {ss ts : List PySem.Str} (h : ∀ x, x ∈ xs ↔ x ∈ ys) (hs : ∀ s, s ∈ ss ↔ s ∈ ts) : ∀ (k : Nat) (ls : List PySem.Str) (q : PySem.Str) (n : Int), ls.length = k → (Rch xs ss ls q n ↔ Rch ys ts ls q n)
  | 0, ls, q, n, e => by
    obtain rfl : ls = [] := List.length_eq_zero_iff.mp e
    rw [reach_nil, reach_nil, hs]
  | k + 1, ls, q, n, e => by
    have ne : ls ≠ [] := by
      rintro rfl
      cases e
    obtain ⟨r, l, rfl⟩ : ∃ r l, ls = r ++ [l] := ⟨ls.dropLast, ls.getLast ne, (List.dropLast_concat_getLast ne).symm⟩
    rw [List.length_append, List.length_singleton] at e
    have ih := fun q n => reach_congr h hs k r q n (by omega)
    rw [reach_step, reach_step]
    constructor
    · rintro ⟨x, hx, a, b, m, c, d⟩
      exact ⟨x, (h x).mp hx, a, b, m, (ih _ _).mp c, d⟩
    · rintro ⟨x, hx, a, b, m, c, d⟩
      exact ⟨x, (h x).mpr hx, a, b, m, (ih _ _).mpr c, d⟩
/-! ### one letter further -/
abbrev Mv := PySem.Str × PySem.Str × Int
def mvOf (x : Arw) : Mv := (x.s, x.t, x.c)
abbrev mvV (m : Mv) : List V := [.str m.1, .str m.2.1, .int m.2.2]
def advS (f : PySem.Str → Option Int) (g : PySem.Str → Option Int) (m : Mv) : PySem.Str → Option Int := match f m.1 with
  | none => g
  | some n => fun q => if q = m.2.1 then some (if (g q).getD (n + m.2.2) < n + m.2.2 then (g q).getD (n + m.2.2) else n + m.2.2) else g q
def adv (f : PySem.Str → Option Int) (mv : List Mv) : PySem.Str → Option Int := mv.foldl (advS f) fun _ => none
theorem adv_snoc (f : PySem.Str → Option Int) (mv : List Mv) (m : Mv) : adv f (mv ++ [m]) = advS f (adv f mv) m := by
  unfold adv
  rw [List.foldl_append]
  rfl
theorem advS_least {f g : PySem.Str → Option Int} {P : PySem.Str → Int → Prop} {m : Mv} (h : ∀ q, LeastO (P q) (g q)) (q : PySem.Str) : LeastO (fun n => P q n ∨ (m.2.1 = q ∧ ∃ k, f m.1 = some k ∧ n = k + m.2.2)) (advS f g m q) := by
  unfold advS
  cases hf : f m.1 with
  | none =>
    refine (h q).iff fun n => ⟨.inl, ?_⟩
    rintro (h | ⟨_, k, e, _⟩)
    · exact h
    · cases e
  | some k =>
    simp only
    by_cases e : q = m.2.1
    · rw [if_pos e]
      have hq := h q
      cases hg : g q with
      | none =>
        rw [hg] at hq
        simp only [Option.getD_none, Int.lt_irrefl, if_false]
        refine ⟨.inr ⟨e.symm, k, rfl, rfl⟩, ?_⟩
        rintro n (h | ⟨_, k', e', rfl⟩)
        · exact absurd h (hq n)
        · rw [← Option.some.inj e']
          exact Int.le_refl _
      | some j =>
        rw [hg] at hq
        obtain ⟨h1, h2⟩ := hq
        simp only [Option.getD_some]
        by_cases c : j < k + m.2.2
        · rw [if_pos c]
          refine ⟨.inl h1, ?_⟩
          rintro n (h | ⟨_, k', e', rfl⟩)
          · exact h2 n h
          · rw [← Option.some.inj e']
            omega
        · rw [if_neg c]
          refine ⟨.inr ⟨e.symm, k, rfl, rfl⟩, ?_⟩
          rintro n (h | ⟨_, k', e', rfl⟩)
          · have := h2 n h
            omega
          · rw [← Option.some.inj e']
            exact Int.le_refl _
    · rw [if_neg e]
      refine (h q).iff fun n => ⟨.inl, ?_⟩
      rintro (h | ⟨a, _⟩)
      · exact h
      · exact absurd a.symm e
theorem adv_least_from (f : PySem.Str → Option Int) : ∀ (mv : List Mv) (g : PySem.Str → Option Int) (P : PySem.Str → Int → Prop), (∀ q, LeastO (P q) (g q)) → ∀ q, LeastO (fun n => P q n ∨ ∃ m ∈ mv, m.2.1 = q ∧ ∃ k, f m.1 = some k ∧ n = k + m.2.2) (mv.foldl (advS f) g q)
  | [], g, P, h, q => (h q).iff fun n => ⟨.inl, fun z => z.elim id fun ⟨m, hm, _⟩ => (by cases hm)⟩
  | m :: mv, g, P, h, q => by
    rw [List.foldl_cons]
    refine (adv_least_from f mv (advS f g m) _ (fun q => advS_least h q) q).iff fun n => ?_
    constructor
    · rintro ((a | a) | ⟨x, hx, a⟩)
      · exact .inl a
      · exact .inr ⟨m, List.mem_cons_self .., a⟩
      · exact .inr ⟨x, List.mem_cons_of_mem _ hx, a⟩
    · rintro (a | ⟨x, hx, a⟩)
      · exact .inl (.inl a)
      · rcases List.mem_cons.mp hx with rfl | hx
        · exact .inl (.inr a)
        · exact .inr ⟨x, hx, a⟩
theorem adv_reach {xs : List Arw} {ss ls : List PySem.Str} {l : PySem.Str} {f : PySem.Str → Option Int} (h : ∀ q, LeastO (Rch xs ss ls q) (f q)) (q : PySem.Str) :
    LeastO (Rch xs ss (ls ++ [l]) q) (adv f ((xs.filter fun x => decide (x.l = l)).map mvOf) q) := by
  have a := adv_least_from f ((xs.filter fun x => decide (x.l = l)).map mvOf) (fun _ => none) (fun _ _ => False) (fun _ _ z => z) q
  -- the least of what goes one arrow on from the least
  have key : ∀ (s : PySem.Str), match f s with | none => ∀ n, ¬ Rch xs ss ls s n | some k => Rch xs ss ls s k ∧ ∀ n, Rch xs ss ls s n → k ≤ n := fun s => h s
  change LeastO _ (adv f _ q) at a
  revert a
  generalize adv f ((xs.filter fun x => decide (x.l = l)).map mvOf) q = o
  intro a
  have mem : ∀ m, m ∈ (xs.filter fun x => decide (x.l = l)).map mvOf ↔ ∃ x ∈ xs, x.l = l ∧ mvOf x = m := fun m => by
    rw [List.mem_map]
    constructor
    · rintro ⟨x, hx, e⟩
      obtain ⟨h1, h2⟩ := List.mem_filter.mp hx
      exact ⟨x, h1, of_decide_eq_true h2, e⟩
    · rintro ⟨x, h1, h2, e⟩
      exact ⟨x, List.mem_filter.mpr ⟨h1, decide_eq_true h2⟩, e⟩
  cases o with
  | none =>
    intro n hn
    obtain ⟨x, hx, el, et, m, hm, rfl⟩ := reach_step.mp hn
    have k := key x.s
    cases hf : f x.s with
    | none => rw [hf] at k; exact k m hm
    | some j => exact a (j + x.c) (.inr ⟨mvOf x, (mem _).mpr ⟨x, hx, el, rfl⟩, et, j, hf, rfl⟩)
  | some k =>
    obtain ⟨h1, h2⟩ := a
    constructor
    · rcases h1 with h1 | ⟨m, hm, et, j, hf, e⟩
      · exact h1.elim
      · obtain ⟨x, hx, el, rfl⟩ := (mem _).mp hm
        have kk := key x.s
        rw [show f x.s = some j from hf] at kk
        exact reach_step.mpr ⟨x, hx, el, et, j, kk.1, e⟩
    · intro n hn
      obtain ⟨x, hx, el, et, m, hm, rfl⟩ := reach_step.mp hn
      have kk := key x.s
      cases hf : f x.s with
      | none => rw [hf] at kk; exact absurd hm (kk m)
      | some j =>
        rw [hf] at kk
        have q1 := kk.2 m hm
        have q2 := h2 (j + x.c) (.inr ⟨mvOf x, (mem _).mpr ⟨x, hx, el, rfl⟩, et, j, hf, rfl⟩)
        omega
/-! ### as the heap has it -/
/-- a list's items, tuples of a state, the state behind it and a price -/
abbrev MvS (H : Hp) (us : List V) (mv : List Mv) : Prop := Paired (fun v m => ∃ q, v = V.ref q ∧ H q = some (.tup (mvV m))) us mv
theorem MvS.same {H H' : Hp} {us : List V} {mv : List Mv} (h : MvS H us mv) (e : Same H H') : MvS H' us mv := Paired.mapP h fun v m ⟨q, ev, hq⟩ => ⟨q, ev, e _ _ hq⟩
theorem paired_snoc {α β : Type} {R : α → β → Prop} {as : List α} {bs : List β} {a : α} {b : β} (h : Paired R as bs) (r : R a b) : Paired R (as ++ [a]) (bs ++ [b]) := by
  induction h with
  | nil => exact .cons r .nil
  | cons x _ ih => exact .cons x ih
/-- the dict kvs holds f -/
def Holds1 (kvs : List (Ky × V)) (f : PySem.Str → Option Int) : Prop := ∀ q : PySem.Str, valV kvs (.inr q) = (f q).map V.int
def Moves (K : PySem.W.Frag) (xs : List Arw) (H : Hp) (kvs : List (Ky × V)) : Prop := ∀ l : PySem.Str, (valV kvs (.inr l) = none ∧ ∀ x ∈ xs, x.l ≠ l) ∨
  ∃ q us, valV kvs (.inr l) = some (.ref q) ∧ SqL K H q us ∧ MvS H us ((xs.filter fun x => decide (x.l = l)).map mvOf)
theorem Moves.same {K : PySem.W.Frag} {xs : List Arw} {H H' : Hp} {kvs : List (Ky × V)} (h : Moves K xs H kvs) (e : Same H H') : Moves K xs H' kvs := fun l => (h l).imp id fun ⟨q, us, a, b, c⟩ => ⟨q, us, a, e.seq b, c.same e⟩
structure MGood (M : MachV) : Prop where
  nd : M.lets.Nodup
  all : ∀ x ∈ M.ars, x.l ∈ M.lets
  al : M.ars.length ≤ 500
  ll : M.lets.length ≤ 500
  sl : M.sts.length ≤ 1000
  el : M.ens.length ≤ 1000
def RowOk (s : PySem.Str) : Prop := s.length ≤ 5000 ∧ ∀ c ∈ TL.tl s, Sg c
def spIsRow : Sp := fun vs H Q _ => ∃ s : PySem.Str, vs = [.str s] ∧ RowOk s ∧ Q (.bl true) H
def spCheckRow : Sp := fun vs H Q _ => ∃ s : PySem.Str, vs = [.str s] ∧ RowOk s ∧ Q .non H
def spCheckState (K : PySem.W.Frag) : Sp := fun vs H Q _ => ∃ (t : Addr) (ss : List PySem.Str) (s : PySem.Str), vs = [.ref t, .str s] ∧ SqT K H t (ss.map V.str) ∧ s ∈ ss ∧ Q .non H
def spLeast (K : PySem.W.Frag) : Sp := fun vs H Q _ => ∃ (d t : Addr) (kvs : List (Ky × V)) (f : PySem.Str → Option Int) (es : List PySem.Str), vs = [.ref d, .ref t] ∧ H d = some (.dK kvs) ∧ Holds1 kvs f ∧ SqE K H t (es.map V.str) ∧ es.length ≤ 1000 ∧
  ∀ (o : Option Int) (H' : Hp), LeastO (fun n => ∃ e ∈ es, f e = some n) o → Same H H' → Q (optV o) H'
def spAdv (K : PySem.W.Frag) : Sp := fun vs H Q _ => ∃ (d a : Addr) (kvs : List (Ky × V)) (f : PySem.Str → Option Int) (us : List V) (mv : List Mv), vs = [.ref d, .ref a] ∧ H d = some (.dK kvs) ∧ Holds1 kvs f ∧ SqL K H a us ∧ MvS H us mv ∧ mv.length ≤ 1000 ∧
  ∀ (d' : Addr) (kvs' : List (Ky × V)) (H' : Hp), H d' = none → H' d' = some (.dK kvs') → Holds1 kvs' (adv f mv) → Same H H' → Q (.ref d') H'
def spMoves (K : PySem.W.Frag) (C : Addr) : Sp := fun vs H Q _ => ∃ (m : Addr) (M : MachV), vs = [.ref m] ∧ IsMach C H m M ∧ MGood M ∧
  ∀ (d : Addr) (kvs : List (Ky × V)) (H' : Hp), H d = none → H' d = some (.dK kvs) → Moves K M.ars H' kvs → Same H H' → Q (.ref d) H'
def spFollow (K : PySem.W.Frag) (C : Addr) : Sp := fun vs H Q _ => ∃ (m t : Addr) (M : MachV) (row : PySem.Str) (ss : List PySem.Str), vs = [.ref m, .str row, .ref t] ∧ IsMach C H m M ∧ MGood M ∧ SqE K H t (ss.map V.str) ∧ ss.length ≤ 1000 ∧
  ∀ (d : Addr) (kvs : List (Ky × V)) (f : PySem.Str → Option Int) (H' : Hp), H' d = some (.dK kvs) → Holds1 kvs f → (∀ q, LeastO (Rch M.ars ss (sgnL row) q) (f q)) → Same H H' → Q (.ref d) H'
def spPrice (C : Addr) : Sp := fun vs H Q _ => ∃ (m : Addr) (M : MachV) (row : PySem.Str), vs = [.ref m, .str row] ∧ IsMach C H m M ∧ MGood M ∧ RowOk row ∧
  ∀ (o : Option Int) (H' : Hp), LeastO (fun n => ∃ e ∈ M.ens, Rch M.ars M.sts (sgnL row) e n) o → Same H H' → Q (optV o) H'
def spBetween (C : Addr) : Sp := fun vs H Q _ => ∃ (m : Addr) (M : MachV) (row a b : PySem.Str), vs = [.ref m, .str row, .str a, .str b] ∧ IsMach C H m M ∧ MGood M ∧ RowOk row ∧ a ∈ M.sta ∧ b ∈ M.sta ∧
  ∀ (o : Option Int) (H' : Hp), LeastO (fun n => ∃ e ∈ [b], Rch M.ars [a] (sgnL row) e n) o → Same H H' → Q (optV o) H'
theorem reach_least {xs : List Arw} {ss ls es : List PySem.Str} {f : PySem.Str → Option Int} (h : ∀ q, LeastO (Rch xs ss ls q) (f q)) {o : Option Int} (k : LeastO (fun n => ∃ e ∈ es, f e = some n) o) : LeastO (fun n => ∃ e ∈ es, Rch xs ss ls e n) o := by
  have key : ∀ (s : PySem.Str), match f s with | none => ∀ n, ¬ Rch xs ss ls s n | some k => Rch xs ss ls s k ∧ ∀ n, Rch xs ss ls s n → k ≤ n := fun s => h s
  cases o with
  | none =>
    rintro n ⟨e, he, r⟩
    have q := key e
    cases hf : f e with
    | none => rw [hf] at q; exact q n r
    | some j => exact k j ⟨e, he, hf⟩
  | some m =>
    obtain ⟨⟨e, he, hf⟩, h2⟩ := k
    have q := key e
    rw [hf] at q
    refine ⟨⟨e, he, q.1⟩, ?_⟩
    rintro n ⟨e', he', r⟩
    have q' := key e'
    cases hf' : f e' with
    | none => rw [hf'] at q'; exact absurd r (q' n)
    | some j =>
      rw [hf'] at q'
      have := q'.2 n r
      have := h2 j ⟨e', he', hf'⟩
      omega
end Bz

namespace Bz
open PySem PySem.Spec PyProof.Rows L2
/-! ### a name given a dict comprehension on one line -/
theorem swD_true {kx vx : Expr} {gs : List Comprehension} {scope : Scope} {pos py : Pos} {y : PySem.Str} {l : Nat} {env : Env} (h1 : env.scope.kind = .function) (h2 : env.scope.names.lookup y = some .local) (h3 : (py.line == pos.line) = true)
    (h4 : (scope.names.any fun (n, k) => n == y && (k == .local || k == .cell)) = false) : swapsWith (.DictComp kx vx gs scope pos) (some (.Name y py)) l env = pure true := by
  have a : env.kindOf y = some .local := h2
  have b : env.blockKind = .function := by
    unfold Env.blockKind
    rw [h1] <;> rfl
  unfold swapsWith
  simp only [b, a, h4, Expr.pos, h3] <;> rfl
section
variable {X : Cx}
theorem ps_setDc {i : Nat} {y : PySem.Str} {py : Pos} {kx vx tg iter : Expr} {ifs : List Expr} {scope : Scope} {own : List (PySem.Str × Nat)} {pos spos : Pos} {wi : TI} {g : TG} {tt : TT} {tk tv : TE} (hc : X.calm = true) (hN : X.N.Nodup) (hy : X.N[i]? = some y)
    (hyl : X.env.scope.names.lookup y = some .local) (hsw : swapsWith (.DictComp kx vx [⟨tg, iter, ifs, 0⟩] scope pos) (some (.Name y py)) spos.line X.env = pure true) (hi : PI X tg iter wi) (ok : BlkOk X.N X.env.scope scope own)
    (hg : ∀ (s : Shared) (H : Hp) (C : Addr) (cl : List (PySem.Str × Addr)) (fp : List Addr), PG (X.blk s H scope (compEnvC scope cl C X.env) fp) tg g)
    (ht : ∀ (s : Shared) (H : Hp) (C : Addr) (cl : List (PySem.Str × Addr)) (fp : List Addr), PTs (X.blk s H scope (compEnvC scope cl C X.env) fp) ifs tt)
    (hk : ∀ (s : Shared) (H : Hp) (C : Addr) (cl : List (PySem.Str × Addr)) (fp : List Addr), PE (X.blk s H scope (compEnvC scope cl C X.env) fp) kx tk)
    (hv : ∀ (s : Shared) (H : Hp) (C : Addr) (cl : List (PySem.Str × Addr)) (fp : List Addr), PE (X.blk s H scope (compEnvC scope cl C X.env) fp) vx tv)
    (hs : ∀ x, foldedSetIterable iter X.env x = pure x := by intro _; rfl) :
    PS X (.Assign [.Name y py] (.DictComp kx vx [⟨tg, iter, ifs, 0⟩] scope pos) spos) (tAsg (tDc wi g tt tk tv (own.map (·.2))) (gName i)) := by
  refine ⟨fun pins s σ H D I h0 => ?_⟩
  rw [exec_Assign_Name_used _ _ _ _ hsw]
  refine wpAny_bind (wpAny_standAt (wpAny_bind ?_))
  show wpAny _ X.A (do let _ ← comprehension (.DictComp kx vx [⟨tg, iter, ifs, 0⟩] scope pos) scope X.env (firstIterPos [⟨tg, iter, ifs, 0⟩] pos) newDict false (eval iter X.env) (some (assign (.Name y py) X.env))) _ _ s
  have h : tDc wi g tt tk tv (own.map (·.2)) σ H (fun x H1 => gName i x σ H1 D.nx) := h0
  refine wpAny_bind (thn (dc_core (Qf := fun _ z => SP X pins D .next z) hc hN I hi ok hg ht hk hv hs h fun d C s1 m H1 I1 q hn f => ?_) fun _ s1 hq => wpAny_pure (wpAny_pure hq))
  show wpAny _ _ (assign (.Name y py) X.env (.ref d)) _ _ _
  refine wpAny_assign_Name (store_ok2 (v := V.ref d) I1 hN hy (.inl hyl) rfl (fun s2 I2 ⟨a, sb, ha⟩ => ?_) (.inr hyl))
  obtain ⟨e0, e1, e2, e3, e4, e5⟩ := f
  have n : C ≠ a := ha.elim (fun z => by rw [z]; exact e1) (fun z e => e4 y a z e.symm)
  exact ⟨m, hn.sameBut sb n, fun h3 sb3 => ⟨_, H1, I2.turned (t' := s2.toks) (fun b o hb e => (sb3.2 b hb).trans e) e0 e1 e3 e4 e5, q⟩⟩
end
/-- a dict comprehension over a walk -/
theorem dc_it {J : It} {n : Nat} {G : Hp → Prop} {Y : Nat → Hp → V → Hp → Prop} (w : Walk J n G Y) {g : TG} {tt : TT} {tk tv : TE} {vs : List Nat} {σ : L2.St} {H1 : Hp} {D : Addr} {Qd : Hp → Prop} (Pv : Nat → Hp → Prop) (h0 : Pv 0 (upd H1 D (.dK []))) (hG : ∀ i H, i ≤ n → Pv i H → G H)
    (hs : ∀ i x H H', i < n → Pv i H → Y i H x H' → g x (wipe σ vs) H' fun σ2 H2 => wipe σ2 vs = wipe σ vs ∧ tt σ2 H2 fun b H3 =>
      if b = true then tk σ2 H3 fun y H4 => tv σ2 H4 fun z H5 => ∃ kvs k, y = kV k ∧ H5 D = some (.dK kvs) ∧ kvs.length < sizeLine ∧ Pv (i + 1) (upd H5 D (.dK (putK kvs k z))) else Pv (i + 1) H3) (hd : ∀ H, Pv n H → Qd H) :
    ∃ W : Nat → Nat → Hp → Prop, (∃ m, W 0 m (upd H1 D (.dK []))) ∧ ∀ i m H, W i m H →
      (J.stop i H ∧ Qd H) ∨ (J.go i H ∧ ∃ Nx : Hp → Prop, (∀ H', Nx H' → ∃ m', m' < m ∧ W (i + 1) m' H') ∧ ∀ x H', J.yld i H x H' → g x (wipe σ vs) H' fun σ2 H2 => wipe σ2 vs = wipe σ vs ∧ tt σ2 H2 fun b H3 =>
        if b = true then tk σ2 H3 fun y H4 => tv σ2 H4 fun z H5 => ∃ kvs k, y = kV k ∧ H5 D = some (.dK kvs) ∧ kvs.length < sizeLine ∧ Nx (upd H5 D (.dK (putK kvs k z))) else Nx H3) := by
  refine ⟨fun i m H => m = n - i ∧ i ≤ n ∧ Pv i H, ⟨n, by omega, Nat.zero_le _, h0⟩, ?_⟩
  rintro i m H ⟨rfl, hi, p⟩
  have q := hG i H hi p
  by_cases c : i < n
  · exact .inr ⟨w.goes i H c q, Pv (i + 1), fun H' p' => ⟨n - (i + 1), by omega, rfl, c, p'⟩, fun x H' y => hs i x H H' c p (w.yields i H x H' c q y)⟩
  · obtain rfl : i = n := by omega
    exact .inl ⟨w.stops H q, hd H p⟩
theorem putK_new {κ : Type} [DecidableEq κ] {kvs : List (κ × V)} {k : κ} {v : V} (h : k ∉ kvs.map (·.1)) : putK kvs k v = kvs ++ [(k, v)] := by
  unfold putK
  have e : (kvs.any fun kv => decide (kv.1 = k)) = false := by
    rw [Bool.eq_false_iff]
    intro q
    obtain ⟨p, hp, e⟩ := List.any_eq_true.mp q
    exact h (List.mem_map.mpr ⟨p, hp, of_decide_eq_true e⟩)
  rw [e]
  rfl
theorem valV_none {κ : Type} [DecidableEq κ] {kvs : List (κ × V)} {k : κ} (h : k ∉ kvs.map (·.1)) : valV kvs k = none := by
  unfold valV
  have e : (kvs.find? fun kv => decide (kv.1 = k)) = none := by
    rw [List.find?_eq_none]
    intro p hp c
    exact h (List.mem_map.mpr ⟨p, hp, of_decide_eq_true c⟩)
  rw [e]
  rfl
/-- a letter and where its list stands -/
abbrev pk (p : PySem.Str × Addr) : Ky × V := (.inr p.1, .ref p.2)
structure MvInv (H H' : Hp) (D : Addr) (ps : List (PySem.Str × Addr)) (c : PySem.Str → List Mv) : Prop where
  d : H' D = some (.dK (ps.map pk))
  nd : (ps.map (·.2)).Nodup
  each : ∀ p ∈ ps, H p.2 = none ∧ p.2 ≠ D ∧ ∃ us, H' p.2 = some (.lst us) ∧ MvS H' us (c p.1)
  same : Same H H'
  hD : H D = none
theorem pk_keys (ps : List (PySem.Str × Addr)) : (ps.map pk).map (·.1) = (ps.map (·.1)).map Sum.inr := by
  rw [List.map_map, List.map_map]
  rfl
theorem pk_mem {ps : List (PySem.Str × Addr)} {l : PySem.Str} : (Sum.inr l : Ky) ∈ (ps.map pk).map (·.1) ↔ l ∈ ps.map (·.1) := by
  rw [pk_keys, List.mem_map]
  exact ⟨fun ⟨a, ha, e⟩ => by rw [← Sum.inr.inj e]; exact ha, fun h => ⟨l, h, rfl⟩⟩
theorem pk_nodup {ps : List (PySem.Str × Addr)} (h : (ps.map (·.1)).Nodup) : ((ps.map pk).map (·.1)).Nodup := by
  rw [pk_keys]
  exact List.pairwise_map.mpr (h.imp fun n e => n (Sum.inr.inj e))
theorem MvInv.put {H H' : Hp} {D q : Addr} {ps : List (PySem.Str × Addr)} {l : PySem.Str} (h : MvInv H H' D ps fun _ => []) (hl : l ∉ ps.map (·.1)) (hq : H' q = none) :
    MvInv H (upd (upd H' q (.lst [])) D (.dK (putK (ps.map pk) (.inr l) (.ref q)))) D (ps ++ [(l, q)]) fun _ => [] := by
  have nqD : q ≠ D := fun z => by
    rw [z, h.d] at hq
    cases hq
  refine ⟨?_, ?_, ?_, same_mut (h.same.trans (same_new hq)) h.hD, h.hD⟩
  · rw [putK_new (fun c => hl (pk_mem.mp c)), List.map_append]
    exact upd_same
  · rw [List.map_append, List.nodup_append]
    refine ⟨h.nd, by simp, fun a ha b hb e => ?_⟩
    obtain ⟨p, hp, rfl⟩ := List.mem_map.mp ha
    rw [List.map_cons, List.map_nil, List.mem_singleton] at hb
    obtain ⟨_, _, us, e1, _⟩ := h.each p hp
    rw [e, hb] at e1
    rw [hq] at e1
    cases e1
  · intro p hp
    rcases List.mem_append.mp hp with hp | hp
    · obtain ⟨a, b, us, e1, e2⟩ := h.each p hp
      refine ⟨a, b, us, ?_, ?_⟩
      · rw [upd_ne b, upd_ne (ne_of_none e1 hq)]
        exact e1
      · cases e2
        exact .nil
    · rw [List.mem_singleton.mp hp]
      exact ⟨h.same.free hq, nqD, [], (upd_ne nqD).trans upd_same, .nil⟩
theorem MvInv.add {H H' : Hp} {D q t : Addr} {ps : List (PySem.Str × Addr)} {l : PySem.Str} {c : PySem.Str → List Mv} {us : List V} {m : Mv} (h : MvInv H H' D ps c) (hk : (ps.map (·.1)).Nodup) (hp : (l, q) ∈ ps) (hq : H' q = some (.lst us)) (hus : MvS H' us (c l)) (ht : H' t = none) :
    MvInv H (upd (upd H' t (.tup (mvV m))) q (.lst (us ++ [.ref t]))) D ps fun l' => if l' = l then c l ++ [m] else c l' := by
  obtain ⟨a, b, _⟩ := h.each _ hp
  have a : H q = none := a
  have b : q ≠ D := b
  have s1 : Same H' (upd H' t (.tup (mvV m))) := same_new ht
  have ntq : t ≠ q := fun z => by
    rw [z, hq] at ht
    cases ht
  have ext : ∀ {vs : List V} {mv : List Mv}, MvS H' vs mv → MvS (upd (upd H' t (.tup (mvV m))) q (.lst (us ++ [.ref t]))) vs mv := fun h => Paired.mapP h fun v x ⟨p, ev, e⟩ => ⟨p, ev, (upd_ne (ne_of e hq (by intro z; cases z))).trans (s1 _ _ e)⟩
  refine ⟨(upd_ne b.symm).trans (s1 _ _ h.d), h.nd, ?_, same_mut (h.same.trans s1) a, h.hD⟩
  intro p hp'
  obtain ⟨a', b', vs, e1, e2⟩ := h.each p hp'
  refine ⟨a', b', ?_⟩
  by_cases e : p.1 = l
  · have ep : p = (l, q) := by
      have inj : ∀ (qs : List (PySem.Str × Addr)), (qs.map (·.1)).Nodup → ∀ x ∈ qs, ∀ y ∈ qs, x.1 = y.1 → x = y := by
        intro qs
        induction qs with
        | nil => intro _ x hx; cases hx
        | cons z qs ih =>
          intro n x hx y hy e
          rw [List.map_cons] at n
          obtain ⟨n1, n2⟩ := List.nodup_cons.mp n
          rcases List.mem_cons.mp hx with hx | hx <;> rcases List.mem_cons.mp hy with hy | hy
          · rw [hx, hy]
          · exact absurd (List.mem_map.mpr ⟨y, hy, by rw [← e, hx]⟩) n1
          · exact absurd (List.mem_map.mpr ⟨x, hx, by rw [e, hy]⟩) n1
          · exact ih n2 x hx y hy e
      exact inj ps hk p hp' _ hp e
    subst ep
    refine ⟨us ++ [.ref t], upd_same, ?_⟩
    simp only [if_true]
    exact paired_snoc (ext hus) ⟨t, rfl, (upd_ne ntq).trans upd_same⟩
  · simp only [if_neg e]
    have npq : p.2 ≠ q := fun z => by
      have inj : ∀ (qs : List (PySem.Str × Addr)), (qs.map (·.2)).Nodup → ∀ x ∈ qs, ∀ y ∈ qs, x.2 = y.2 → x = y := by
        intro qs
        induction qs with
        | nil => intro _ x hx; cases hx
        | cons z qs ih =>
          intro n x hx y hy e
          rw [List.map_cons] at n
          obtain ⟨n1, n2⟩ := List.nodup_cons.mp n
          rcases List.mem_cons.mp hx with hx | hx <;> rcases List.mem_cons.mp hy with hy | hy
          · rw [hx, hy]
          · exact absurd (List.mem_map.mpr ⟨y, hy, by rw [← e, hx]⟩) n1
          · exact absurd (List.mem_map.mpr ⟨x, hx, by rw [e, hy]⟩) n1
          · exact ih n2 x hx y hy e
      have q1 := inj ps h.nd p hp' _ hp z
      exact e (by rw [q1])
    refine ⟨vs, ?_, ext e2⟩
    rw [upd_ne npq]
    exact s1 _ _ e1
theorem MvInv.val {H H' : Hp} {D : Addr} {ps : List (PySem.Str × Addr)} {c : PySem.Str → List Mv} (h : MvInv H H' D ps c) (hk : (ps.map (·.1)).Nodup) {l : PySem.Str} (hl : l ∈ ps.map (·.1)) :
    ∃ q us, (l, q) ∈ ps ∧ valV (ps.map pk) (.inr l) = some (.ref q) ∧ H' q = some (.lst us) ∧ MvS H' us (c l) := by
  obtain ⟨p, hp, rfl⟩ := List.mem_map.mp hl
  obtain ⟨_, _, us, e1, e2⟩ := h.each p hp
  exact ⟨p.2, us, hp, valV_mem (pk_nodup hk) (List.mem_map.mpr ⟨p, hp, rfl⟩), e1, e2⟩
end Bz

namespace Bz
open PySem PySem.Spec PyProof.Rows L2
/-! ### a law's own helpers -/
def sameKeys (x y : Arw) : Bool := decide (x.s = y.s) && (decide (x.l = y.l) && decide (x.t = y.t))
def dArw (x : Arw) : List PyData := [.str x.s, .str x.l, .str x.t]
theorem dp_any {K : PySem.W.Frag} {H : Hp} {a : Addr} {ds : List PyData} {xs : List V} (h : SqL K H a xs) (d : DpAll K H xs ds) : Dp K H (.ref a) (.list ds) := .lst h d
theorem dp_tups {K : PySem.W.Frag} {H : Hp} {us : List V} {xs : List Arw} (h : ArS H us xs) : DpAll K H us (xs.map fun x => .tuple [.str x.s, .str x.l, .str x.t, .int x.c]) := by
  induction h with
  | nil => exact .nil
  | cons a _ ih =>
    obtain ⟨q, rfl, hq⟩ := a
    exact .cons (.tup (SqT.of hq) (.cons (.str _) (.cons (.str _) (.cons (.str _) (.cons (.int _) .nil))))) ih
theorem dp_strs {K : PySem.W.Frag} {H : Hp} : ∀ ns : List PySem.Str, DpAll K H (ns.map V.str) (ns.map PyData.str)
  | [] => .nil
  | n :: ns => .cons (.str n) (dp_strs ns)
theorem sOk_of {z : PySem.Str} (h : ∀ c ∈ TL.tl z, Sg c) : PyData.strOk z = true := by
  unfold PyData.strOk
  rw [all_tl, List.all_eq_true]
  exact fun c hc => decide_eq_true (by have := (h c hc).2; omega)
theorem shaped_nil : SeqAt.shaped (.list []) = true := by decide +kernel
theorem shaped_of2 {ds : List PyData} (h : ∀ d ∈ ds, d.canLay0 = true ∧ d.depth ≤ 1) (b : Bool) : SeqAt.shaped (if b then .list ds else .tuple ds) = true := by
  have q : PyData.canLayAll0 ds = true ∧ PyData.depthAll ds ≤ 1 := by
    induction ds with
    | nil => exact ⟨by simp only [PyData.canLayAll0], by simp only [PyData.depthAll]; omega⟩
    | cons d ds ih =>
      obtain ⟨h1, h2⟩ := h d (List.mem_cons_self ..)
      obtain ⟨h3, h4⟩ := ih fun z hz => h z (List.mem_cons_of_mem _ hz)
      simp only [PyData.canLayAll0, PyData.depthAll, h1, h3]
      exact ⟨rfl, by omega⟩
  unfold SeqAt.shaped
  cases b
  · simp only [Bool.false_eq_true, if_false, PyData.canLay0, PyData.depth, q.1, Bool.true_and, decide_eq_true_eq]
    omega
  · simp only [if_true, PyData.canLay0, PyData.depth, q.1, Bool.true_and, decide_eq_true_eq]
    omega
theorem lay_arw {x : Arw} (h1 : ∀ c ∈ TL.tl x.s, Sg c) (h2 : ∀ c ∈ TL.tl x.l, Sg c) (h3 : ∀ c ∈ TL.tl x.t, Sg c) : (PyData.tuple [.str x.s, .str x.l, .str x.t, .int x.c]).canLay0 = true ∧ (PyData.tuple [.str x.s, .str x.l, .str x.t, .int x.c]).depth ≤ 1 := by
  simp only [PyData.canLay0, PyData.canLayAll0, PyData.depth, PyData.depthAll, sOk_of h1, sOk_of h2, sOk_of h3]
  exact ⟨rfl, by decide⟩
theorem shaped_arws {xs : List Arw} (h : ∀ x ∈ xs, x.Ok) : SeqAt.shaped (.list (xs.map fun x => PyData.tuple [.str x.s, .str x.l, .str x.t, .int x.c])) = true := by
  refine shaped_of2 (b := true) fun d hd => ?_
  obtain ⟨x, hx, rfl⟩ := List.mem_map.mp hd
  have o := h x hx
  exact lay_arw o.s.2.2 o.l.2 o.t.2.2
theorem shaped_ints (xs : List Int) : SeqAt.shaped (.list (xs.map PyData.int)) = true := by
  refine shaped_of2 (b := true) fun d hd => ?_
  obtain ⟨x, hx, rfl⟩ := List.mem_map.mp hd
  exact ⟨by simp only [PyData.canLay0], by simp only [PyData.depth]; omega⟩
theorem shaped_t3 {a b c : PySem.Str} (h1 : ∀ x ∈ TL.tl a, Sg x) (h2 : ∀ x ∈ TL.tl b, Sg x) (h3 : ∀ x ∈ TL.tl c, Sg x) : SeqAt.shaped (.tuple [.str a, .str b, .str c]) = true := by
  refine shaped_of2 (b := false) fun d hd => ?_
  simp only [List.mem_cons, List.not_mem_nil, or_false] at hd
  rcases hd with rfl | rfl | rfl
  · exact ⟨by simp only [PyData.canLay0]; exact sOk_of h1, by simp only [PyData.depth]; omega⟩
  · exact ⟨by simp only [PyData.canLay0]; exact sOk_of h2, by simp only [PyData.depth]; omega⟩
  · exact ⟨by simp only [PyData.canLay0]; exact sOk_of h3, by simp only [PyData.depth]; omega⟩
theorem shaped_t2 {a b : PySem.Str} (h1 : ∀ x ∈ TL.tl a, Sg x) (h2 : ∀ x ∈ TL.tl b, Sg x) : SeqAt.shaped (.tuple [.str a, .str b]) = true := by
  refine shaped_of2 (b := false) fun d hd => ?_
  simp only [List.mem_cons, List.not_mem_nil, or_false] at hd
  rcases hd with rfl | rfl
  · exact ⟨by simp only [PyData.canLay0]; exact sOk_of h1, by simp only [PyData.depth]; omega⟩
  · exact ⟨by simp only [PyData.canLay0]; exact sOk_of h2, by simp only [PyData.depth]; omega⟩
theorem dp_t3 {K : PySem.W.Frag} {H : Hp} {q : Addr} {a b c : PySem.Str} (h : H q = some (.tup [.str a, .str b, .str c])) : Dp K H (.ref q) (.tuple [.str a, .str b, .str c]) := .tup (SqT.of h) (.cons (.str _) (.cons (.str _) (.cons (.str _) .nil)))
theorem dp_t2 {K : PySem.W.Frag} {H : Hp} {q : Addr} {a b : PySem.Str} (h : H q = some (.tup [.str a, .str b])) : Dp K H (.ref q) (.tuple [.str a, .str b]) := .tup (SqT.of h) (.cons (.str _) (.cons (.str _) .nil))
theorem eqv_nil (ds : List PyData) : PyData.eqv (.list ds) (.list []) = ds.isEmpty := by
  cases ds <;> simp [PyData.eqv, PyData.eqvAll]
theorem eqv_strs (a b c a' b' c' : PySem.Str) : PyData.eqv (.tuple [.str a, .str b, .str c]) (.tuple [.str a', .str b', .str c']) = (decide (a = a') && (decide (b = b') && decide (c = c'))) := by
  simp [PyData.eqv, PyData.eqvAll, PySem.W.beq_decide]
theorem eqv_strs2 (a b a' b' : PySem.Str) : PyData.eqv (.tuple [.str a, .str b]) (.tuple [.str a', .str b']) = (decide (a = a') && decide (b = b')) := by
  simp [PyData.eqv, PyData.eqvAll, PySem.W.beq_decide]
/-- at m what a law made: arrows, starts, ends -/
structure MadeL (K : PySem.W.Frag) (H : Hp) (m a b e : Addr) (us : List V) (xs : List Arw) (ss es : List PySem.Str) : Prop where
  m : H m = some (.tup [.ref a, .ref b, .ref e])
  a : SqL K H a us
  as : ArS H us xs
  b : SqL K H b (ss.map V.str)
  e : SqL K H e (es.map V.str)
theorem MadeL.same {K : PySem.W.Frag} {H H' : Hp} {m a b e : Addr} {us : List V} {xs : List Arw} {ss es : List PySem.Str} (h : MadeL K H m a b e us xs ss es) (s : Same H H') : MadeL K H' m a b e us xs ss es :=
  ⟨s _ _ h.m, s.seq h.a, h.as.same s, s.seq h.b, s.seq h.e⟩
theorem rising_pw : ∀ (r : List PySem.Str) (p : PySem.Str), risingS p r = true → (p :: r).Pairwise fun a b => ¬ b.cps.toList < a.cps.toList
  | [], p, _ => List.pairwise_singleton ..
  | x :: r, p, h => by
    have h' : (!ltCps x.cps.toList p.cps.toList && risingS x r) = true := h
    rw [ltCps_eq, Bool.and_eq_true, Bool.not_eq_true', decide_eq_false_iff_not] at h'
    have ih := rising_pw r x h'.2
    refine List.pairwise_cons.mpr ⟨fun y hy => ?_, ih⟩
    rcases List.mem_cons.mp hy with rfl | hy
    · exact h'.1
    · have q := (List.pairwise_cons.mp ih).1 y hy
      exact List.not_lt.mpr (List.le_trans (List.not_lt.mp h'.1) (List.not_lt.mp q))
theorem sortedS_pw {l : List PySem.Str} (h : sortedS l = true) : l.Pairwise fun a b => ¬ b.cps.toList < a.cps.toList := by
  cases l with
  | nil => exact .nil
  | cons x r => exact rising_pw r x h
theorem asc_step {ys : List PySem.Str} {i : Nat} {u z : PySem.Str} (h : sortedS ys = true) (hu : ys[i]? = some u) (hz : z ∈ ys.take i) (ne : z ≠ u) : z.cps.toList < u.cps.toList := by
  have q := (sortedS_pw h).sublist (List.take_sublist (i + 1) ys)
  have tk : ys.take (i + 1) = ys.take i ++ [u] := by rw [List.take_add_one, hu]; rfl
  rw [tk] at q
  have r := (List.pairwise_append.mp q).2.2 z hz u (List.mem_singleton.mpr rfl)
  exact Classical.byContradiction fun c => ne (ext_tl (List.le_antisymm (List.not_lt.mp r) (List.not_lt.mp c)))
theorem asc_snoc {os : List PySem.Str} {u : PySem.Str} (h : Asc os) (c : ∀ z ∈ os, z.cps.toList < u.cps.toList) : Asc (os ++ [u]) := by
  refine List.pairwise_append.mpr ⟨h, List.pairwise_singleton .., fun a ha b hb => ?_⟩
  rw [List.mem_singleton.mp hb]
  exact c a ha
theorem asc_nd {os : List PySem.Str} (h : Asc os) : os.Nodup := h.imp fun {x y} q e => by
  rw [e] at q
  exact List.lt_irrefl _ q
theorem k3_ne {ys : List Arw} (h : ys.Pairwise fun x y => lexK x.k3 y.k3 = true) : ys.Pairwise fun x y => x.k3 ≠ y.k3 := h.imp fun {x y} h e => by
  rw [e, lexK_irr] at h
  cases h
def spUnlike (K : PySem.W.Frag) : Sp := fun vs H Q _ => ∃ (a : Addr) (ns : List PySem.Str), vs = [.ref a] ∧ SqL K H a (ns.map V.str) ∧ ns.length < 64 ∧
  ∀ (q : Addr) (os : List PySem.Str) (H' : Hp), H q = none → H' q = some (.lst (os.map V.str)) → (∀ k, k ∈ os ↔ k ∈ ns) → (os.length ≤ ns.length ∧ Asc os) → Same H H' → Q (.ref q) H'
def spRows (K : PySem.W.Frag) : Sp := fun vs H Q _ => ∃ (a : Addr) (ls : List PySem.Str) (n : Nat), vs = [.ref a, .int (n : Int)] ∧ SqL K H a (ls.map V.str) ∧ (∀ l ∈ ls, Lt l) ∧ ls.length ≤ 7 ∧ n ≤ 4 ∧
  ∀ (q : Addr) (rs : List PySem.Str) (H' : Hp), H q = none → H' q = some (.lst (rs.map V.str)) → (∀ r ∈ rs, r.length ≤ n ∧ ∀ c ∈ TL.tl r, Sg c) → rs.length ≤ 20000 → Same H H' → Q (.ref q) H'
def spLetters (K : PySem.W.Frag) : Sp := fun vs H Q _ => ∃ (m a b e : Addr) (us : List V) (xs : List Arw) (ss es : List PySem.Str), vs = [.ref m] ∧ MadeL K H m a b e us xs ss es ∧ xs.length ≤ 60 ∧
  ∀ (q : Addr) (os : List PySem.Str) (H' : Hp), H q = none → H' q = some (.lst (os.map V.str)) → (∀ k, k ∈ os ↔ ∃ x ∈ xs, k = x.l) → (os.length ≤ xs.length ∧ os.Nodup) → Same H H' → Q (.ref q) H'
def spStatesL (K : PySem.W.Frag) : Sp := fun vs H Q _ => ∃ (m a b e : Addr) (us : List V) (xs : List Arw) (ss es : List PySem.Str), vs = [.ref m] ∧ MadeL K H m a b e us xs ss es ∧ H b = some (.lst (ss.map V.str)) ∧ H e = some (.lst (es.map V.str)) ∧ ss.length + es.length + 2 * xs.length < 64 ∧
  ∀ (q : Addr) (os : List PySem.Str) (H' : Hp), H q = none → H' q = some (.lst (os.map V.str)) → (∀ k, k ∈ os ↔ (k ∈ ss ∨ k ∈ es ∨ ∃ x ∈ xs, k = x.s ∨ k = x.t)) → Same H H' → Q (.ref q) H'
abbrev SmS (H : Hp) (us : List V) (ps : List (PySem.Str × Int)) : Prop := Paired (fun v p => ∃ q, v = V.ref q ∧ H q = some (.tup [.str p.1, .int p.2])) us ps
theorem SmS.same {H H' : Hp} {us : List V} {ps : List (PySem.Str × Int)} (h : SmS H us ps) (e : Same H H') : SmS H' us ps := Paired.mapP h fun v m ⟨q, ev, hq⟩ => ⟨q, ev, e _ _ hq⟩
/-- .. none of them at D -/
def SmD (D : Addr) (H : Hp) (us : List V) (ps : List (PySem.Str × Int)) : Prop := Paired (fun v p => ∃ q, v = V.ref q ∧ q ≠ D ∧ H q = some (.tup [.str p.1, .int p.2])) us ps
theorem SmD.upd {D : Addr} {H : Hp} {us : List V} {ps : List (PySem.Str × Int)} {o : HO} (h : SmD D H us ps) : SmD D (L2.upd H D o) us ps := Paired.mapP h fun v p ⟨r, e, n, hr⟩ => ⟨r, e, n, (upd_ne n).trans hr⟩
theorem SmD.keep {D : Addr} {H H' : Hp} {us : List V} {ps : List (PySem.Str × Int)} (h : SmD D H us ps) (s : Same H H') : SmD D H' us ps := Paired.mapP h fun v p ⟨r, e, n, hr⟩ => ⟨r, e, n, s _ _ hr⟩
theorem SmD.snoc {D g : Addr} {H : Hp} {us : List V} {ps : List (PySem.Str × Int)} {p : PySem.Str × Int} (h : SmD D H us ps) (n : g ≠ D) (e : H g = some (.tup [.str p.1, .int p.2])) : SmD D H (us ++ [.ref g]) (ps ++ [p]) := paired_snoc h ⟨g, rfl, n, e⟩
theorem paired_app {as bs : List V} {cs ds : List (PySem.Str × Int)} {R : V → PySem.Str × Int → Prop} (h1 : Paired R as cs) (h2 : Paired R bs ds) : Paired R (as ++ bs) (cs ++ ds) := by
  induction h1 with
  | nil => exact h2
  | cons a _ ih => exact .cons a ih
def spSums (K : PySem.W.Frag) : Sp := fun vs H Q _ => ∃ (a : Addr) (us : List V) (xs : List Arw) (row first : PySem.Str), vs = [.ref a, .str row, .str first] ∧ SqL K H a us ∧ ArS H us xs ∧ (∀ x ∈ xs, x.Ok) ∧ xs.length ≤ 7 ∧ row.length ≤ 4 ∧ (∀ c ∈ TL.tl row, Sg c) ∧ (∀ c ∈ TL.tl first, Sg c) ∧
  ∀ (q : Addr) (ws : List V) (H' : Hp), H q = none → H' q = some (.lst ws) → SmS H' ws (sums xs (sgnL row) [(first, 0)]) → ws.length ≤ 2401 → Same H H' → Q (.ref q) H'
def spLeastL (K : PySem.W.Frag) : Sp := fun vs H Q _ => ∃ (m a b e s t : Addr) (us : List V) (xs : List Arw) (ss es gs fs : List PySem.Str) (row : PySem.Str), vs = [.ref m, .str row, .ref s, .ref t] ∧ MadeL K H m a b e us xs ss es ∧ (∀ x ∈ xs, x.Ok) ∧ xs.length ≤ 7 ∧ row.length ≤ 4 ∧ (∀ c ∈ TL.tl row, Sg c) ∧
  SqL K H s (gs.map V.str) ∧ SqL K H t (fs.map V.str) ∧ (∀ g ∈ gs, ∀ c ∈ TL.tl g, Sg c) ∧ gs.length ≤ 1000 ∧
  ∀ (o : Option Int) (H' : Hp), LeastO (fun n => ∃ q ∈ fs, Rch xs gs (sgnL row) q n) o → Same H H' → Q (optV o) H'
def spCheapL (K : PySem.W.Frag) : Sp := fun vs H Q _ => ∃ (a : Addr) (us : List V) (xs : List Arw), vs = [.ref a] ∧ SqL K H a us ∧ ArS H us xs ∧ (∀ x ∈ xs, x.Ok) ∧ xs.length ≤ 100 ∧ xs ≠ [] ∧
  ∀ (q : Addr) (ws : List V) (ys : List Arw) (H' : Hp), H q = none → H' q = some (.lst ws) → ArS H' ws ys → (∀ y ∈ ys, y ∈ xs) → ys.Pairwise (fun x y => lexK x.k3 y.k3 = true) → ys ≠ [] → ys.length ≤ xs.length → Same H H' → Q (.ref q) H'
end Bz

namespace Bz
open PySem PySem.Spec PyProof.Rows L2
theorem asc_nodup {os : List PySem.Str} (h : Asc os) : os.Nodup := h.imp fun {x y} q e => by
  rw [e] at q
  exact List.lt_irrefl _ q
theorem cheap_nodup {xs ys : List Arw} (h : CheapOf xs ys) : ys.Nodup := h.asc.imp fun {x y} q e => by
  rw [e, lexK_irr] at q
  cases q
theorem good_of {M : MachV} {xs : List Arw} {ss es : List PySem.Str} (h : MOf M xs ss es) (l1 : xs.length ≤ 100) (l2 : ss.length ≤ 1000) (l3 : es.length ≤ 1000) : MGood M := by
  have al := nodup_le (cheap_nodup h.ars) fun y hy => (h.ars.sub y hy).1
  refine ⟨asc_nodup h.lets.1, fun x hx => (h.lets.2 x.l).mpr ⟨x, hx, rfl⟩, by omega, ?_, ?_, ?_⟩
  · have q := nodup_le (ts := M.ars.map Arw.l) (asc_nodup h.lets.1) fun k hk => by
      obtain ⟨x, hx, e⟩ := (h.lets.2 k).mp hk
      exact List.mem_map.mpr ⟨x, hx, e.symm⟩
    rw [List.length_map] at q
    omega
  · have := nodup_le (asc_nodup h.sts.1) fun k hk => (h.sts.2 k).mp hk
    omega
  · have := nodup_le (asc_nodup h.ens.1) fun k hk => (h.ens.2 k).mp hk
    omega
theorem k3_inj {ys : List Arw} (h : ys.Pairwise fun x y => x.k3 ≠ y.k3) {x y : Arw} (hx : x ∈ ys) (hy : y ∈ ys) (e : x.k3 = y.k3) : x = y := by
  induction ys with
  | nil => cases hx
  | cons z ys ih =>
    obtain ⟨h1, h2⟩ := List.pairwise_cons.mp h
    rcases List.mem_cons.mp hx with hx | hx <;> rcases List.mem_cons.mp hy with hy | hy
    · rw [hx, hy]
    · exact absurd (by rw [← hx]; exact e) (h1 y hy)
    · exact absurd (by rw [← hy]; exact e.symm) (h1 x hx)
    · exact ih h2 hx hy
theorem ars_iff {M : MachV} {xs : List Arw} {ss es : List PySem.Str} (h : MOf M xs ss es) (hp : xs.Pairwise fun x y => x.k3 ≠ y.k3) (x : Arw) : x ∈ M.ars ↔ x ∈ xs := by
  refine ⟨fun hx => (h.ars.sub x hx).1, fun hx => ?_⟩
  obtain ⟨y, hy, e⟩ := h.ars.all x hx
  rw [← k3_inj hp (h.ars.sub y hy).1 hx e]
  exact hy
theorem opt_scal (o : Option Int) : scal (optV o) (optV o) = true := by cases o <;> rfl
theorem sgAll_z : ("z" : PySem.Str).length = 1 ∧ ∀ c ∈ TL.tl ("z" : PySem.Str), Sg c := by
  have q : TL.tl ("z" : PySem.Str) = [122] := by decide +kernel
  refine ⟨by decide +kernel, fun c hc => ?_⟩
  rw [q] at hc
  rw [List.mem_singleton.mp hc]
  exact ⟨by omega, by omega⟩
theorem sgAll_app {a b : PySem.Str} (ha : ∀ c ∈ TL.tl a, Sg c) (hb : ∀ c ∈ TL.tl b, Sg c) : ∀ c ∈ TL.tl (a ++ b), Sg c := by
  intro c hc
  rw [TL.tl_append] at hc
  exact (List.mem_append.mp hc).elim (ha c) (hb c)
theorem len_app (a b : PySem.Str) : (a ++ b).length = a.length + b.length := by rw [len_tl, TL.tl_append, List.length_append, ← len_tl, ← len_tl]
theorem abcd_lt : ∀ l ∈ (["a", "b", "c", "d"] : List PySem.Str), Lt l := by
  have q : ((["a", "b", "c", "d"] : List PySem.Str).all fun l => ltB l) = true := by decide +kernel
  intro l hl
  have z := List.all_eq_true.mp q l hl
  unfold ltB onlyB at z
  simp only [Bool.and_eq_true, decide_eq_true_eq, List.all_eq_true] at z
  exact ⟨z.1, fun c hc => z.2.2 c hc⟩
theorem ok_of {xs : List Arw} {ss es : List PySem.Str} {m n : Int} (h : MOk xs ss es m n) : ∀ x ∈ xs, x.Ok := by
  obtain ⟨ns, h1, _, _, h2, _⟩ := h.nms
  intro x hx
  have c := h.cost x hx
  exact ⟨h1 _ (h2 x hx).1, abcd_lt _ (h.lets x hx), h1 _ (h2 x hx).2, c.1, by omega⟩
def spLaw (K : PySem.W.Frag) : Sp := fun vs H Q _ => ∃ (a : Addr) (ns : List Int), vs = [.ref a] ∧ SqL K H a (ns.map V.int) ∧ ∀ H', Q (.bl true) H'
end Bz

namespace Bz
open PySem PySem.Spec PyProof.Rows L2
/-! ### a text backwards, a list backwards -/
def revS (z : PySem.Str) : PySem.Str := ⟨z.cps.toList.reverse.toArray⟩
theorem revS_len (z : PySem.Str) : (revS z).length = z.length := by
  rw [len_tl, len_tl]
  show z.cps.toList.reverse.toArray.toList.length = z.cps.toList.length
  simp
theorem tl_revS (z : PySem.Str) : TL.tl (revS z) = (TL.tl z).reverse := by
  show z.cps.toList.reverse.toArray.toList = z.cps.toList.reverse
  simp
theorem sgnL_revS (z : PySem.Str) : sgnL (revS z) = (sgnL z).reverse := by
  unfold sgnL revS
  rw [← List.map_reverse]
theorem picked_back (z : PySem.Str) : ((Builtin.Str.strSliceIndices none none (-1) z.length).filterMap (z.cps[·]?)).toArray = z.cps.toList.reverse.toArray := by
  rw [picked_rev]
  show (((List.range z.cps.size).map fun k => z.cps.size - 1 - k).filterMap (z.cps[·]?)).toArray = _
  rw [PySem.W.krv_range, List.filterMap_reverse, PySem.W.krv_all]
def tRevS (te : TE) : TE := fun σ H Q => te σ H fun x H1 => ∃ z : PySem.Str, x = .str z ∧ z.length ≤ sizeLine ∧ Q (.str (revS z)) H1
section
variable {X : Cx}
theorem pe_revS {e : Expr} {te : TE} {k : Nat} {p1 p2 p3 pos : Pos} (he : PE X e te) : PE X (.Subscript e (.Slice none none (some (.UnaryOp .USub (.Constant (.int 1) k p1) p2)) p3) pos) (tRevS te) := by
  refine ⟨fun pins s σ H Q I h => ?_⟩
  refine Subscript_ (thn (he.run pins s σ H _ I h) fun v s1 ⟨x, H1, I1, r1, z, ex, hz, q⟩ => ?_)
  subst ex
  obtain ⟨t, rfl⟩ := r1
  have hst : PO X (some (.UnaryOp .USub (.Constant (.int 1) k p1) p2)) (tPart (tUn (rU fun i => .int (-i)) (tC (.int 1)))) := po_some (pe_un un_neg pe_int)
  refine wpAny_Slice (thn (po_none.run pins s1 σ H1 (fun o H2 => o = none ∧ H2 = H1) I1 ⟨rfl, rfl⟩) fun v1 s2 ⟨l, H2, I2, pl, a1, a2⟩ => ?_)
  subst a1 a2
  refine thn (po_none.run pins s2 σ H2 (fun o H3 => o = none ∧ H3 = H2) I2 ⟨rfl, rfl⟩) fun v2 s3 ⟨u, H3, I3, pu, b1, b2⟩ => ?_
  subst b1 b2
  refine thn (hst.run pins s3 σ H3 (fun o H4 => o = some (-1) ∧ H4 = H3) I3 ⟨1, rfl, -1, rfl, rfl, rfl⟩) fun v3 s4 ⟨o, H4, I4, ps, c1, c2⟩ => ?_
  subst c1 c2
  have I5 : Inv X pins σ H4 { s4 with heap := s4.heap.push { cls := .type "slice", data := .fields #[v1, v2, v3] } } := I4.kept (t' := s4.toks) fun b ob q => Heap.get?_push_of_some _ q
  obtain ⟨l1, e1, f1⟩ := IsPart.raw pl
  obtain ⟨l2, e2, f2⟩ := IsPart.raw pu
  obtain ⟨l3, e3, f3⟩ := IsPart.raw ps
  subst e1 e2 e3
  have g1 : l1 = none := by
    cases l1 with
    | none => rfl
    | some x => cases f1
  have g2 : l2 = none := by
    cases l2 with
    | none => rfl
    | some x => cases f2
  obtain ⟨w, g3⟩ : ∃ w : Tok, l3 = some (-1, w) := by
    cases l3 with
    | none => cases f3
    | some x =>
      obtain ⟨i, w⟩ := x
      have : i = -1 := Option.some.inj f3
      subst this
      exact ⟨w, rfl⟩
  subst g1 g2 g3
  show wpAny (model X.prog X.w) X.A (subscriptTail e (.Slice none none (some (.UnaryOp .USub (.Constant (.int 1) k p1) p2)) p3) (.str z t) (.ref s4.heap.objs.size)) (EP X pins σ Q) X.xe _
  refine tail_any (ops := [.str z t, .ref s4.heap.objs.size]) (typeIs_str _ _ _) (PySem.F.slot_str_getitem.lookup) ?_ (by with_unfolding_all rfl)
  refine wpAny_getItem_str_slice (l := none) (u := none) (st := some (-1, w)) ⟨_, Heap.get?_push_size _ rfl, rfl, rfl⟩ rfl ?_
  show Made.post (if ((-1 : Int) == 1 && (Builtin.Str.strSliceIndices none none (-1) z.length).length == z.length) = true then Made.val (.str z t)
    else Made.str ⟨((Builtin.Str.strSliceIndices none none (-1) z.length).filterMap (z.cps[·]?)).toArray⟩) (EP X pins σ Q) _
  rw [if_neg (by simp), picked_back]
  exact ⟨by rw [show (⟨z.cps.toList.reverse.toArray⟩ : PySem.Str).length = z.length from revS_len z]; exact hz, .str (revS z), H4, I5.tok _, ⟨_, rfl⟩, q⟩
theorem kpe_revL (K : PySem.W.Frag) {e : Expr} {te : TE} {k : Nat} {p1 p2 p3 pos : Pos} (he : PE X e te) (h : X.K = K := by rfl) : PE X (.Subscript e (.Slice none none (some (.UnaryOp .USub (.Constant (.int 1) k p1) p2)) p3) pos) (L2.tRevL K te) := by
  subst h
  exact L2.pe_revL he
end
end Bz

namespace Bz
open PySem PySem.Spec PyProof.Rows L2
/-! ### min of a list of tuples of an int and a text -/
abbrev PIS := Int × PySem.Str
def kP (p : PIS) : List Ky := [.inl p.1, .inr p.2]
theorem ltP_ok (p q : PIS) : PySem.W.DatumOrd.lt p q = lexK (kP p) (kP q) := by
  show (if p.1 = q.1 then decide (p.2.cps.toList < q.2.cps.toList) else decide (p.1 < q.1)) = _
  unfold kP
  simp only [lexK]
  by_cases h : p.1 = q.1
  · rw [if_pos h, if_pos (by rw [h])]
    by_cases h2 : p.2 = q.2
    · rw [if_pos (by rw [h2]), h2]
      exact decide_eq_false (List.lt_irrefl _)
    · rw [if_neg (fun z => h2 (Sum.inr.inj z))]
      rfl
  · rw [if_neg h, if_neg (fun z => h (Sum.inl.inj z))]
    rfl
theorem lexK_ntr {a b c : List Ky} (h1 : lexK b a = false) (h2 : lexK c b = false) : lexK c a = false := by
  cases h : lexK c a with
  | false => rfl
  | true =>
    by_cases e1 : b = a
    · rw [e1, h] at h2
      cases h2
    · have q1 := lexK_tot h1 e1
      have q2 := lexK_trans h q1
      rw [q2] at h2
      cases h2
theorem minP_is (y : PIS) (ys : List PIS) : PySem.W.minOf y ys ∈ y :: ys ∧ ∀ z ∈ y :: ys, lexK (kP z) (kP (PySem.W.minOf y ys)) = false := by
  unfold PySem.W.minOf
  induction ys generalizing y with
  | nil => exact ⟨List.mem_cons_self .., fun z hz => by rw [List.mem_singleton.mp hz]; exact lexK_irr _⟩
  | cons x ys ih =>
    rw [List.foldl_cons, ltP_ok]
    obtain ⟨h1, h2⟩ := ih (if lexK (kP x) (kP y) = true then x else y)
    have h0 := h2 _ (List.mem_cons_self ..)
    have h3 := fun z hz => h2 z (List.mem_cons_of_mem _ hz)
    generalize List.foldl (fun a y => if PySem.W.DatumOrd.lt y a = true then y else a) (if lexK (kP x) (kP y) = true then x else y) ys = r at h0 h1 h3 ⊢
    constructor
    · rcases List.mem_cons.mp h1 with h1 | h1
      · rw [h1]
        split <;> simp
      · simp [h1]
    · have h4 : lexK (kP x) (kP r) = false ∧ lexK (kP y) (kP r) = false := by
        cases c : lexK (kP x) (kP y) with
        | true =>
          rw [c] at h0
          simp only [if_true] at h0
          exact ⟨h0, lexK_ntr h0 (lexK_asym c)⟩
        | false =>
          rw [c] at h0
          simp only [Bool.false_eq_true, if_false] at h0
          exact ⟨lexK_ntr h0 c, h0⟩
      intro z hz
      rcases List.mem_cons.mp hz with rfl | hz
      · exact h4.2
      · rcases List.mem_cons.mp hz with rfl | hz
        · exact h4.1
        · exact h3 z hz
theorem dp_pairs {K : PySem.W.Frag} {H : Hp} {us : List V} {ps : List PIS} (h : Paired (fun v p => ∃ q, v = V.ref q ∧ H q = some (.tup [.int p.1, .str p.2])) us ps) : DpAll K H us (ps.map fun p => .tuple [.int p.1, .str p.2]) := by
  induction h with
  | nil => exact .nil
  | cons a _ ih =>
    obtain ⟨q, rfl, hq⟩ := a
    exact .cons (.tup (SqT.of hq) (.cons (.int _) (.cons (.str _) .nil))) ih
theorem reads_i {h : Heap} {i j : Int} {t : Tok} {as : List Addr} (r : Reads h (.int i t) (.int j) as) : j = i := by
  cases r
  rfl
theorem reads_s {h : Heap} {i j : PySem.Str} {t : Tok} {as : List Addr} (r : Reads h (.str i t) (.str j) as) : j = i := by
  cases r
  rfl
def rMinP (K : PySem.W.Frag) : List V → Hp → VK → Prop := fun vs H Q => ∃ (l : Addr) (us : List V) (ps : List PIS), vs = [V.ref l] ∧ SqL K H l us ∧ Paired (fun v p => ∃ q, v = V.ref q ∧ H q = some (.tup [.int p.1, .str p.2])) us ps ∧ ps ≠ [] ∧
  ∀ (q : Addr) (p : PIS), p ∈ ps → H q = some (.tup [.int p.1, .str p.2]) → (∀ r ∈ ps, lexK (kP r) (kP p) = false) → Q (.ref q) H
theorem cr_minP {X : Cx} (hc : X.calm = true) (hu : X.A.units + 64 < cLine) : CallR X (.builtin "min") (rMinP X.K) := by
  intro pins s σ H vs us Q I r h
  obtain ⟨l, xs, ps, rfl, hs, hp, hne, q⟩ := h
  obtain ⟨its, rv, pl, hz⟩ := I.list hs
  rw [Vals.ref1 r]
  obtain ⟨as, ra⟩ := Dp.readsAll I _ _ _ (dp_pairs (K := X.K) hp) rv
  cases ps with
  | nil => exact absurd rfl hne
  | cons y ys =>
    refine PySem.W.min_list_datum (α := PIS) (x := y) (xs := ys) (I.ok.hd hc) pl.isList ⟨as, by
      have e : its.toArray.toList = its := by simp
      rw [e]
      exact ra⟩ (by show X.A.units + 1 + 1 < cLine; omega) (fun i v h' tk hi hh k => ?_)
    have hi' : its[i]? = some v := by simpa using hi
    have hlt : i < xs.length := by
      have := (List.getElem?_eq_some_iff.mp hi').1
      have := rv.length
      omega
    have hw : xs[i]? = some xs[i] := List.getElem?_eq_getElem hlt
    obtain ⟨p, hp1, a, ea, ha⟩ := paired_get hp hw
    obtain ⟨u, hu1, hu2⟩ := rv.get hw
    rw [ea] at hu2
    obtain rfl : u = Value.ref a := hu2
    rw [hi'] at hu1
    obtain rfl : v = Value.ref a := Option.some.inj hu1
    obtain ⟨its2, r2, ht, _⟩ := I.tuple (SqT.of (K := X.K) ha)
    have em : PySem.W.minOf y ys = p := by
      obtain ⟨bs, rd⟩ := hh
      have rd' : Reads h' (.ref a) (.tuple [.int (PySem.W.minOf y ys).1, .str (PySem.W.minOf y ys).2]) bs := rd
      obtain ⟨o, ho, hc', n, hd'⟩ := ht
      have ho' := k _ _ ho
      cases rd' with
      | tuple g1 g2 g3 g4 =>
        rw [ho'] at g1
        cases g1
        rw [hd'] at g3
        cases g3
        cases r2 with
        | cons x1 x2 =>
          cases x2 with
          | cons x3 x4 =>
            cases x4
            obtain ⟨t1, rfl⟩ := x1
            obtain ⟨t2, rfl⟩ := x3
            obtain ⟨cs, g5⟩ : ∃ cs, ReadsAll h' [Value.int p.1 t1, Value.str p.2 t2] [.int (PySem.W.minOf y ys).1, .str (PySem.W.minOf y ys).2] cs := ⟨_, by simpa using g4⟩
            cases g5 with
            | cons z1 z2 =>
              cases z2 with
              | cons z3 z4 =>
                have e1 : (PySem.W.minOf y ys).1 = p.1 := reads_i z1
                have e2 : (PySem.W.minOf y ys).2 = p.2 := reads_s z3
                exact Prod.ext e1 e2
    obtain ⟨m1, m2⟩ := minP_is y ys
    rw [em] at m1 m2
    exact ⟨.ref a, H, I.kept k, rfl, q a p m1 ha m2⟩
theorem kminP (K : PySem.W.Frag) {X : Cx} (hc : X.calm = true) (hu : X.A.units + 64 < cLine) (h : X.K = K := by rfl) : CallR X (.builtin "min") (rMinP K) := by subst h; exact cr_minP hc hu
end Bz

namespace Bz
open PySem PySem.Spec PyProof.Rows L2
/-! ### enumerate(text) -/
def ItE (z : PySem.Str) : It :=
  ⟨fun i _ => i < z.cps.size, fun i H v H' => ∃ q c, v = .ref q ∧ H q = none ∧ H' = upd H q (.tup [.int (i : Int), .str ⟨#[c]⟩]) ∧ z.cps[i]? = some c, fun i _ => i = z.cps.size⟩
theorem sIt_at {h h' : Heap} {it : Addr} {T : String} {z : PySem.Str} {t : Tok} {i : Nat} (e : h.IsStrIter it T z t i) (k : ∀ o, h.get? it = some o → h'.get? it = some o) : h'.IsStrIter it T z t i :=
  let ⟨o, a, b, c⟩ := e
  ⟨o, k o a, b, c⟩
theorem turn_enumT {P : Program} {w : World} {K : PySem.W.Frag} {elts : List Expr} {kk : Nat} {tp : Pos} (z : PySem.Str) (t : Tok) (en it : Addr) :
    Turn P w K (.Tuple elts kk tp) (ItE z) [en, it] en (fun i h => (∃ old, IsEnum h en it ((i : Nat) : Int) old) ∧ h.IsStrIter it (strIterType z) z t i ∧ en ≠ it) where
  mem := List.mem_cons_self ..
  obj := fun i h st b hb => by
    obtain ⟨⟨old, he⟩, ⟨o, ho, hc, hd⟩, _⟩ := st
    rcases List.mem_cons.mp hb with e | e
    · rw [e]
      exact ⟨_, he, fun v q => nomatch q⟩
    · rw [List.mem_singleton.mp e]
      exact ⟨o, ho, fun v q => by rw [hd] at q; cases q⟩
  keep := fun i h h' st k => ⟨⟨st.1.choose, k en (by simp) _ st.1.choose_spec⟩, sIt_at st.2.1 fun o q => k it (by simp) o q, st.2.2⟩
  item := by
    intro X hP hw hK hc i pins s σ H E I hf st hg
    subst hP hw hK
    obtain ⟨⟨old, he⟩, hit, hne⟩ := st
    have hg' : i < z.cps.size := hg
    have hen : en < s.heap.objs.size := Heap.lt_size he
    have hil : it < s.heap.objs.size := by
      obtain ⟨_, q, _⟩ := hit
      exact Heap.lt_size q
    have D := Draws.text (prog := X.prog) (w := X.w) (A := X.A.in1) (I.ok.hd hc) it z t
    refine wpAny_pyNext_enum_itemC D he (i := i) hit hg' hne (by simp [hne]) fun x h' tk hx ho hst hT hsz hk => ?_
    obtain ⟨c, u, hcu, rfl⟩ := hx
    refine ⟨_, rfl, wpAny_letOwnedTupleGo_enum (s := { s with heap := h', toks := tk + 1 }) ho fun h'' he'' sb => ?_⟩
    have hT2 : h''.get? s.heap.objs.size = some { cls := .type "tuple", data := .seq #[.int (i : Int) tk, .str ⟨#[c]⟩ u] } := (sb.2 _ (Nat.ne_of_gt hen)).trans hT
    have new : ObjOk X.prog X.w (upd H s.heap.objs.size (.tup [.int (i : Int), .str ⟨#[c]⟩])) h'' s.heap.objs.size (.tup [.int (i : Int), .str ⟨#[c]⟩]) :=
      ⟨Nat.le_of_ble_eq_true rfl, [.int (i : Int) tk, .str ⟨#[c]⟩ u], .cons ⟨_, rfl⟩ (.cons ⟨_, rfl⟩ .nil), ⟨_, hT2, rfl, _, rfl⟩⟩
    have I1 : Inv X pins σ (upd H s.heap.objs.size (.tup [.int (i : Int), .str ⟨#[c]⟩])) { s with heap := h'', toks := tk + 1 } :=
      I.turnedNew (ch := [en, it]) (fun b ob hb q => (sb.2 b (fun e => hb (by simp [e]))).trans (hk b ob (fun e => hb (by simp [e])) (fun e => hb (by simp [e])) q)) hf (Nat.le_refl _) new
    refine ⟨.ref s.heap.objs.size, _, I1, rfl, ⟨_, c, rfl, I.hok.fresh (Nat.le_refl _), rfl, hcu⟩, ⟨⟨.str ⟨#[c]⟩ u, ?_⟩, sIt_at hst fun o q => (sb.2 it (Ne.symm hne)).trans q, hne⟩, fun b hb => ?_⟩
    · have e1 : ((i + 1 : Nat) : Int) = (i : Int) + 1 := by omega
      rw [e1]
      exact he''
    · have hb' : b < s.heap.objs.size := by
        rcases List.mem_cons.mp hb with e | e
        · rw [e]; exact hen
        · rw [List.mem_singleton.mp e]; exact hil
      rw [upd_ne (Nat.ne_of_lt hb')]
      exact (hf b hb).1
  done := by
    intro X hP hw hK hc i pins s σ H E I hf st hg
    subst hP hw hK
    obtain ⟨⟨old, he⟩, hit, hne⟩ := st
    have hg' : i = z.cps.size := hg
    obtain ⟨f0, f1, f2, f3, f4, f5⟩ := hf it (by simp)
    have D := Draws.text (prog := X.prog) (w := X.w) (A := X.A.in1) (I.ok.hd hc) it z t
    exact wpAny_pyNext_enum_endD D he (by rw [← hg']; exact hit) fun h' eb => ⟨rfl, I.turned (t' := s.toks) (fun b o hb q => eb b o hb q) f0 f1 f3 f4 f5⟩
  self := fun A i s Q E st h => wpAny_pyIter_enum st.1.choose_spec h
def iEnumT (ta : TA) : TI := fun σ H R => ta σ H fun vs H1 => ∃ z, vs = [V.str z] ∧ R (ItE z) H1
theorem pi_enumT {X : Cx} {e : Expr} {ta : TA} {p pos tpos : Pos} {elts : List Expr} {kk : Nat} (hg : Gl X "enumerate") (hm : X.mg "enumerate" = none) (ha : PA X [e] ta) (hs : starEach [e] X.env = [(false, eval e X.env)] := by rfl) :
    PI X (.Tuple elts kk tpos) (.Call (.Name "enumerate" p) [e] [] pos) (iEnumT ta) := by
  refine ⟨fun pins s σ H R I h => ?_⟩
  refine Call_ (ld_blt I hg hm boot_enumerate (PyProof.Rows.callWith_type1 (thn (ha.run pos pins s σ H (fun vs H1 => ∃ z, vs = [V.str z] ∧ R (ItE z) H1) I h) fun us s1 ⟨vs, H1, I1, r1, z, ez, q⟩ => ?_) hs rfl))
  subst ez
  obtain ⟨u, rfl, ru⟩ := vals1 r1
  obtain ⟨t, rfl⟩ := ru
  refine call_enumerate_str fun h' he hit hsz hk => wpAny_pyIter_enum he ?_
  have I2 : Inv X pins σ H1 { s1 with heap := h' } := I1.kept (t' := s1.toks) hk
  refine ⟨s1.heap.objs.size + 1, [s1.heap.objs.size + 1, s1.heap.objs.size], _, _, H1, rfl, I2, turn_enumT z t (s1.heap.objs.size + 1) s1.heap.objs.size, ⟨⟨.none, he⟩, hit, Nat.succ_ne_self _⟩, fun b hb => ?_, q⟩
  have hle : s1.heap.objs.size ≤ b := by
    rcases List.mem_cons.mp hb with e | e
    · rw [e]
      exact Nat.le_succ _
    · rw [List.mem_singleton.mp e]
      exact Nat.le_refl _
  exact I1.fpOk hle (I1.hok.fresh hle)
theorem walk_enumT {z : PySem.Str} : Walk (ItE z) z.cps.size (fun _ => True) (fun i H v H' => ∃ q c, v = .ref q ∧ H q = none ∧ H' = upd H q (.tup [.int (i : Int), .str ⟨#[c]⟩]) ∧ z.cps[i]? = some c) :=
  ⟨fun _ _ hi _ => hi, fun _ _ => rfl, fun _ _ _ _ _ _ y => y⟩
end Bz

namespace Bz
open PySem PySem.Spec PyProof.Rows L2
/-! ### prices of what comes behind -/
def swapA (x : Arw) : Arw := ⟨x.t, x.l, x.s, x.c⟩
abbrev swapM (m : Mv) : Mv := (m.2.1, m.1, m.2.2)
theorem swap_moves (xs : List Arw) (l : PySem.Str) : (((xs.filter fun x => decide (x.l = l)).map mvOf).map swapM) = ((xs.map swapA).filter fun x => decide (x.l = l)).map mvOf := by
  rw [List.filter_map, List.map_map, List.map_map]
  rfl
def MvD (D : Addr) (H : Hp) (us : List V) (ms : List Mv) : Prop := Paired (fun v m => ∃ q, v = V.ref q ∧ q ≠ D ∧ H q = some (.tup (mvV m))) us ms
theorem MvD.upd {D : Addr} {H : Hp} {us : List V} {ms : List Mv} {o : HO} (h : MvD D H us ms) : MvD D (L2.upd H D o) us ms := Paired.mapP h fun v p ⟨r, e, n, hr⟩ => ⟨r, e, n, (upd_ne n).trans hr⟩
theorem MvD.keep {D : Addr} {H H' : Hp} {us : List V} {ms : List Mv} (h : MvD D H us ms) (s : Same H H') : MvD D H' us ms := Paired.mapP h fun v p ⟨r, e, n, hr⟩ => ⟨r, e, n, s _ _ hr⟩
theorem MvD.snoc {D g : Addr} {H : Hp} {us : List V} {ms : List Mv} {m : Mv} (h : MvD D H us ms) (n : g ≠ D) (e : H g = some (.tup (mvV m))) : MvD D H (us ++ [.ref g]) (ms ++ [m]) := paired_snoc h ⟨g, rfl, n, e⟩
theorem MvD.mv {D : Addr} {H : Hp} {us : List V} {ms : List Mv} (h : MvD D H us ms) : MvS H us ms := Paired.mapP h fun v p ⟨r, e, _, hr⟩ => ⟨r, e, hr⟩
abbrev AhS (H : Hp) (ds : List V) (gs : List (PySem.Str → Option Int)) : Prop := Paired (fun v g => ∃ d kvs, v = V.ref d ∧ H d = some (.dK kvs) ∧ Holds1 kvs g) ds gs
theorem AhS.same {H H' : Hp} {ds : List V} {gs : List (PySem.Str → Option Int)} (h : AhS H ds gs) (e : Same H H') : AhS H' ds gs := Paired.mapP h fun v g ⟨d, kvs, ev, hd, hg⟩ => ⟨d, kvs, ev, e _ _ hd, hg⟩
theorem paired_rev {α β : Type} {R : α → β → Prop} {as : List α} {bs : List β} (h : Paired R as bs) : Paired R as.reverse bs.reverse := by
  induction h with
  | nil => exact .nil
  | cons a _ ih =>
    rw [List.reverse_cons, List.reverse_cons]
    exact paired_snoc ih a
/-- the i-th of gs: the least from each state behind the i-th letter -/
def AhOk (M : MachV) (ls : List PySem.Str) (gs : List (PySem.Str → Option Int)) : Prop := ∀ i, i ≤ ls.length → ∃ g, gs[i]? = some g ∧ ∀ q, LeastO (Rch (M.ars.map swapA) M.ens (ls.drop i).reverse q) (g q)
def spAhead (K : PySem.W.Frag) (C : Addr) : Sp := fun vs H Q _ => ∃ (m : Addr) (M : MachV) (row : PySem.Str), vs = [.ref m, .str row] ∧ IsMach C H m M ∧ MGood M ∧ row.length ≤ 5000 ∧
  ∀ (q : Addr) (ds : List V) (gs : List (PySem.Str → Option Int)) (H' : Hp), H q = none → H' q = some (.lst ds) → AhS H' ds gs → ds.length = (sgnL row).length + 1 → AhOk M (sgnL row) gs → Same H H' → Q (.ref q) H'
end Bz

namespace Bz
open PySem PySem.Spec PyProof.Rows L2
/-! ### the next state of a best run -/
def PsD (D : Addr) (H : Hp) (us : List V) (ps : List PIS) : Prop := Paired (fun v p => ∃ q, v = V.ref q ∧ q ≠ D ∧ H q = some (.tup [.int p.1, .str p.2])) us ps
theorem PsD.upd {D : Addr} {H : Hp} {us : List V} {ps : List PIS} {o : HO} (h : PsD D H us ps) : PsD D (L2.upd H D o) us ps := Paired.mapP h fun v p ⟨r, e, n, hr⟩ => ⟨r, e, n, (upd_ne n).trans hr⟩
theorem PsD.keep {D : Addr} {H H' : Hp} {us : List V} {ps : List PIS} (h : PsD D H us ps) (s : Same H H') : PsD D H' us ps := Paired.mapP h fun v p ⟨r, e, n, hr⟩ => ⟨r, e, n, s _ _ hr⟩
theorem PsD.snoc {D g : Addr} {H : Hp} {us : List V} {ps : List PIS} {p : PIS} (h : PsD D H us ps) (n : g ≠ D) (e : H g = some (.tup [.int p.1, .str p.2])) : PsD D H (us ++ [.ref g]) (ps ++ [p]) := paired_snoc h ⟨g, rfl, n, e⟩
theorem PsD.ps {D : Addr} {H : Hp} {us : List V} {ps : List PIS} (h : PsD D H us ps) : Paired (fun v p => ∃ q, v = V.ref q ∧ H q = some (.tup [.int p.1, .str p.2])) us ps := Paired.mapP h fun v p ⟨r, e, _, hr⟩ => ⟨r, e, hr⟩
/-- what a step from s costs with all behind it, and where it goes -/
def stepOf (s : PySem.Str) (g : PySem.Str → Option Int) (m : Mv) : Option PIS := if m.1 = s then (g m.2.1).map fun n => (m.2.2 + n, m.2.1) else none
def spNext (K : PySem.W.Frag) : Sp := fun vs H Q _ => ∃ (a d : Addr) (s : PySem.Str) (us : List V) (mv : List Mv) (kvs : List (Ky × V)) (g : PySem.Str → Option Int), vs = [.ref a, .str s, .ref d] ∧ SqL K H a us ∧ MvS H us mv ∧ mv.length ≤ 1000 ∧ H d = some (.dK kvs) ∧ Holds1 kvs g ∧
  mv.filterMap (stepOf s g) ≠ [] ∧ ∀ (p : PIS) (H' : Hp), p ∈ mv.filterMap (stepOf s g) → (∀ r ∈ mv.filterMap (stepOf s g), lexK (kP r) (kP p) = false) → Same H H' → Q (.str p.2) H'
end Bz

namespace Bz
open PySem PySem.Spec PyProof.Rows L2
/-! ### runs, read from their first letter on -/
def RunS (xs : List Arw) : List PySem.Str → PySem.Str → PySem.Str → Int → Prop
  | [], a, b, n => a = b ∧ n = 0
  | l :: ls, a, b, n => ∃ x ∈ xs, x.s = a ∧ x.l = l ∧ ∃ m, RunS xs ls x.t b m ∧ n = x.c + m
theorem run_snoc {xs : List Arw} {l : PySem.Str} : ∀ (ls : List PySem.Str) (a b : PySem.Str) (n : Int), RunS xs (ls ++ [l]) a b n ↔ ∃ x ∈ xs, x.l = l ∧ x.t = b ∧ ∃ m, RunS xs ls a x.s m ∧ n = m + x.c
  | [], a, b, n => by
    simp only [List.nil_append, RunS]
    constructor
    · rintro ⟨x, hx, rfl, rfl, m, ⟨rfl, rfl⟩, rfl⟩
      exact ⟨x, hx, rfl, rfl, 0, ⟨rfl, rfl⟩, by omega⟩
    · rintro ⟨x, hx, rfl, rfl, m, ⟨rfl, rfl⟩, rfl⟩
      exact ⟨x, hx, rfl, rfl, 0, ⟨rfl, rfl⟩, by omega⟩
  | k :: ls, a, b, n => by
    simp only [List.cons_append, RunS]
    constructor
    · rintro ⟨x, hx, rfl, rfl, m, h, rfl⟩
      obtain ⟨y, hy, e1, e2, m', h', rfl⟩ := (run_snoc ls _ _ _).mp h
      exact ⟨y, hy, e1, e2, x.c + m', ⟨x, hx, rfl, rfl, m', h', rfl⟩, by omega⟩
    · rintro ⟨y, hy, e1, e2, m, ⟨x, hx, rfl, rfl, m', h', rfl⟩, rfl⟩
      exact ⟨x, hx, rfl, rfl, m' + y.c, (run_snoc ls _ _ _).mpr ⟨y, hy, e1, e2, m', h', rfl⟩, by omega⟩
theorem rch_run {xs : List Arw} {ss : List PySem.Str} : ∀ (k : Nat) (ls : List PySem.Str) (q : PySem.Str) (n : Int), ls.length = k → (Rch xs ss ls q n ↔ ∃ a ∈ ss, RunS xs ls a q n)
  | 0, ls, q, n, e => by
    obtain rfl : ls = [] := List.length_eq_zero_iff.mp e
    rw [reach_nil]
    exact ⟨fun ⟨h, e⟩ => ⟨q, h, rfl, e⟩, fun ⟨a, h, e, z⟩ => ⟨by rw [← e]; exact h, z⟩⟩
  | k + 1, ls, q, n, e => by
    have ne : ls ≠ [] := by
      rintro rfl
      cases e
    obtain ⟨r, l, rfl⟩ : ∃ r l, ls = r ++ [l] := ⟨ls.dropLast, ls.getLast ne, (List.dropLast_concat_getLast ne).symm⟩
    rw [List.length_append, List.length_singleton] at e
    have ih := fun q n => rch_run (xs := xs) (ss := ss) k r q n (by omega)
    rw [reach_step]
    constructor
    · rintro ⟨x, hx, a, b, m, c, d⟩
      obtain ⟨s, hs, h⟩ := (ih _ _).mp c
      exact ⟨s, hs, (run_snoc _ _ _ _).mpr ⟨x, hx, a, b, m, h, d⟩⟩
    · rintro ⟨s, hs, h⟩
      obtain ⟨x, hx, a, b, m, c, d⟩ := (run_snoc _ _ _ _).mp h
      exact ⟨x, hx, a, b, m, (ih _ _).mpr ⟨s, hs, c⟩, d⟩
theorem swap_swap (x : Arw) : swapA (swapA x) = x := rfl
theorem run_rev {xs : List Arw} : ∀ (ls : List PySem.Str) (a b : PySem.Str) (n : Int), RunS xs ls a b n ↔ RunS (xs.map swapA) ls.reverse b a n
  | [], a, b, n => by
    simp only [List.reverse_nil, RunS]
    exact ⟨fun ⟨h, e⟩ => ⟨h.symm, e⟩, fun ⟨h, e⟩ => ⟨h.symm, e⟩⟩
  | l :: ls, a, b, n => by
    rw [List.reverse_cons, run_snoc]
    simp only [RunS]
    constructor
    · rintro ⟨x, hx, rfl, rfl, m, h, rfl⟩
      exact ⟨swapA x, List.mem_map.mpr ⟨x, hx, rfl⟩, rfl, rfl, m, (run_rev ls _ _ _).mp h, by show x.c + m = m + x.c; omega⟩
    · rintro ⟨y, hy, e1, e2, m, h, rfl⟩
      obtain ⟨x, hx, rfl⟩ := List.mem_map.mp hy
      exact ⟨x, hx, e2, e1, m, (run_rev ls _ _ _).mpr h, by show m + x.c = x.c + m; omega⟩
theorem run_app {xs : List Arw} {ms : List PySem.Str} : ∀ (ls : List PySem.Str) (a b : PySem.Str) (n : Int), RunS xs (ls ++ ms) a b n ↔ ∃ c i j, RunS xs ls a c i ∧ RunS xs ms c b j ∧ n = i + j
  | [], a, b, n => by
    simp only [List.nil_append, RunS]
    exact ⟨fun h => ⟨a, 0, n, ⟨rfl, rfl⟩, h, by omega⟩, fun ⟨c, i, j, ⟨e, z⟩, h, en⟩ => by
      have : n = j := by omega
      rw [this, e]
      exact h⟩
  | l :: ls, a, b, n => by
    simp only [List.cons_append, RunS]
    constructor
    · rintro ⟨x, hx, rfl, rfl, m, h, rfl⟩
      obtain ⟨c, i, j, h1, h2, rfl⟩ := (run_app ls _ _ _).mp h
      exact ⟨c, x.c + i, j, ⟨x, hx, rfl, rfl, i, h1, rfl⟩, h2, by omega⟩
    · rintro ⟨c, i, j, ⟨x, hx, rfl, rfl, m, h1, rfl⟩, h2, rfl⟩
      exact ⟨x, hx, rfl, rfl, m + j, (run_app ls _ _ _).mpr ⟨c, m, j, h1, h2, rfl⟩, by omega⟩
theorem run_sub {xs ys : List Arw} (s : ∀ x ∈ xs, x ∈ ys) : ∀ (ls : List PySem.Str) (a b : PySem.Str) (n : Int), RunS xs ls a b n → RunS ys ls a b n
  | [], _, _, _, h => h
  | l :: ls, a, b, n, h => by
    obtain ⟨x, hx, e1, e2, m, h, e⟩ := h
    exact ⟨x, s x hx, e1, e2, m, run_sub s ls _ _ _ h, e⟩
theorem run_cheap {xs ys : List Arw} (c : CheapOf xs ys) : ∀ (ls : List PySem.Str) (a b : PySem.Str) (n : Int), RunS xs ls a b n → ∃ m, m ≤ n ∧ RunS ys ls a b m
  | [], _, _, n, h => ⟨n, Int.le_refl _, h⟩
  | l :: ls, a, b, n, h => by
    obtain ⟨x, hx, e1, e2, m, h, e⟩ := h
    obtain ⟨k, hk, hr⟩ := run_cheap c ls _ _ _ h
    obtain ⟨y, hy, ek⟩ := c.all x hx
    obtain ⟨f1, f2, f3⟩ := Arw.k3_eq ek
    have := (c.sub y hy).2 x hx ek.symm
    exact ⟨y.c + k, by omega, y, hy, f1.trans e1, f2.trans e2, k, by rw [f3]; exact hr, rfl⟩
/-- a least of two that reach below each other -/
theorem LeastO.both {P R : Int → Prop} (h1 : ∀ n, P n → ∃ m, m ≤ n ∧ R m) (h2 : ∀ n, R n → ∃ m, m ≤ n ∧ P m) {o : Option Int} (k : LeastO P o) : LeastO R o := by
  cases o with
  | none =>
    intro n hn
    obtain ⟨m, _, hm⟩ := h2 n hn
    exact k m hm
  | some z =>
    obtain ⟨k1, k2⟩ := k
    obtain ⟨m, hm, rm⟩ := h1 z k1
    obtain ⟨j, hj, pj⟩ := h2 m rm
    have := k2 j pj
    have e : m = z := by omega
    subst e
    refine ⟨rm, fun n hn => ?_⟩
    obtain ⟨i, hi, pi⟩ := h2 n hn
    have := k2 i pi
    omega
/-- the price of the letters ls with these arrows, starts and ends -/
def LPr (xs : List Arw) (ss es ls : List PySem.Str) (o : Option Int) : Prop := LeastO (fun n => ∃ s ∈ ss, ∃ e ∈ es, RunS xs ls s e n) o
theorem LPr.uniq {xs : List Arw} {ss es ls : List PySem.Str} {a b : Option Int} (ha : LPr xs ss es ls a) (hb : LPr xs ss es ls b) : a = b := LeastO.uniq ha hb
theorem LPr.cheap {xs ys : List Arw} {ss es ts gs ls : List PySem.Str} (c : CheapOf xs ys) (hs : ∀ k, k ∈ ts ↔ k ∈ ss) (he : ∀ k, k ∈ gs ↔ k ∈ es) {o : Option Int} : LPr ys ts gs ls o ↔ LPr xs ss es ls o := by
  have up : ∀ n, (∃ s ∈ ts, ∃ e ∈ gs, RunS ys ls s e n) → ∃ m, m ≤ n ∧ ∃ s ∈ ss, ∃ e ∈ es, RunS xs ls s e m := fun n ⟨s, h1, e, h2, r⟩ =>
    ⟨n, Int.le_refl _, s, (hs s).mp h1, e, (he e).mp h2, run_sub (fun y hy => (c.sub y hy).1) _ _ _ _ r⟩
  have dn : ∀ n, (∃ s ∈ ss, ∃ e ∈ es, RunS xs ls s e n) → ∃ m, m ≤ n ∧ ∃ s ∈ ts, ∃ e ∈ gs, RunS ys ls s e m := fun n ⟨s, h1, e, h2, r⟩ => by
    obtain ⟨m, hm, r'⟩ := run_cheap c _ _ _ _ r
    exact ⟨m, hm, s, (hs s).mpr h1, e, (he e).mpr h2, r'⟩
  exact ⟨LeastO.both up dn, LeastO.both dn up⟩
theorem LPr.turn {xs : List Arw} {ss es ls : List PySem.Str} {o : Option Int} : LPr (xs.map swapA) es ss ls.reverse o ↔ LPr xs ss es ls o := by
  have h : ∀ n, (∃ s ∈ es, ∃ e ∈ ss, RunS (xs.map swapA) ls.reverse s e n) ↔ (∃ s ∈ ss, ∃ e ∈ es, RunS xs ls s e n) := fun n =>
    ⟨fun ⟨s, h1, e, h2, r⟩ => ⟨e, h2, s, h1, (run_rev _ _ _ _).mpr r⟩, fun ⟨s, h1, e, h2, r⟩ => ⟨e, h2, s, h1, (run_rev _ _ _ _).mp r⟩⟩
  exact ⟨LeastO.iff h, LeastO.iff fun n => (h n).symm⟩
theorem LPr.of_rch {xs : List Arw} {ss es ls : List PySem.Str} {o : Option Int} : LeastO (fun n => ∃ e ∈ es, Rch xs ss ls e n) o ↔ LPr xs ss es ls o := by
  have h : ∀ n, (∃ e ∈ es, Rch xs ss ls e n) ↔ (∃ s ∈ ss, ∃ e ∈ es, RunS xs ls s e n) := fun n =>
    ⟨fun ⟨e, h1, r⟩ => by
      obtain ⟨s, hs, r⟩ := (rch_run _ _ _ _ rfl).mp r
      exact ⟨s, hs, e, h1, r⟩, fun ⟨s, h1, e, h2, r⟩ => ⟨e, h2, (rch_run _ _ _ _ rfl).mpr ⟨s, h1, r⟩⟩⟩
  exact ⟨LeastO.iff h, LeastO.iff fun n => (h n).symm⟩
/-- the price that a machine has is that of what it was made of -/
theorem MOf.price {M : MachV} {xs : List Arw} {ss es ls : List PySem.Str} (h : MOf M xs ss es) {o : Option Int} (k : LeastO (fun n => ∃ e ∈ M.ens, Rch M.ars M.sts ls e n) o) : LPr xs ss es ls o :=
  (LPr.cheap h.ars h.sts.2 h.ens.2).mp (LPr.of_rch.mp k)
theorem map_swap_swap (xs : List Arw) : (xs.map swapA).map swapA = xs := by
  rw [List.map_map]
  exact (List.map_congr_left fun x _ => rfl).trans (List.map_id _)
theorem MOf.turned {M N : MachV} {ls : List PySem.Str} (h : MOf N (M.ars.map swapA) M.ens M.sts) {o : Option Int} (k : LeastO (fun n => ∃ e ∈ N.ens, Rch N.ars N.sts ls.reverse e n) o) : LPr M.ars M.sts M.ens ls o := LPr.turn.mp (h.price k)
theorem MOf.turned' {M N : MachV} {ls : List PySem.Str} (h : MOf N (M.ars.map swapA) M.ens M.sts) {o : Option Int} (k : LeastO (fun n => ∃ e ∈ N.ens, Rch N.ars N.sts ls e n) o) : LPr M.ars M.sts M.ens ls.reverse o := by
  refine LPr.turn.mp ?_
  rw [List.reverse_reverse]
  exact h.price k
/-! ### a machine that machines can be made of -/
structure MFine (M : MachV) : Prop extends MGood M where
  ok : ∀ x ∈ M.ars, x.Ok
  l4 : M.ars.length ≤ 400
  nm : ∀ s ∈ M.sta, Nm s
  nl : M.sta.length ≤ 40
  st : ∀ s ∈ M.sts, s ∈ M.sta
  en : ∀ s ∈ M.ens, s ∈ M.sta
  ar : ∀ x ∈ M.ars, x.s ∈ M.sta ∧ x.t ∈ M.sta
theorem fine_of {M : MachV} {xs : List Arw} {ss es ns : List PySem.Str} (h : MOf M xs ss es) (ok : ∀ x ∈ xs, x.Ok) (xl : xs.length ≤ 400) (nm : ∀ s ∈ ns, Nm s) (nl : ns.length ≤ 40) (hs : ∀ s ∈ ss, s ∈ ns) (he : ∀ s ∈ es, s ∈ ns) (ha : ∀ x ∈ xs, x.s ∈ ns ∧ x.t ∈ ns) : MFine M := by
  have sub : ∀ k ∈ M.sta, k ∈ ns := fun k hk => by
    rcases (h.sta.2 k).mp hk with h1 | h1 | ⟨x, hx, h1 | h1⟩
    · exact hs k h1
    · exact he k h1
    · rw [h1]
      exact (ha x (h.ars.sub x hx).1).1
    · rw [h1]
      exact (ha x (h.ars.sub x hx).1).2
  have al := nodup_le (cheap_nodup h.ars) fun y hy => (h.ars.sub y hy).1
  have sl := nodup_le (asc_nodup h.sta.1) sub
  have s1 := nodup_le (asc_nodup h.sts.1) (ts := ns) fun k hk => hs k ((h.sts.2 k).mp hk)
  have s2 := nodup_le (asc_nodup h.ens.1) (ts := ns) fun k hk => he k ((h.ens.2 k).mp hk)
  have ll := nodup_le (ts := M.ars.map Arw.l) (asc_nodup h.lets.1) fun k hk => by
    obtain ⟨x, hx, e⟩ := (h.lets.2 k).mp hk
    exact List.mem_map.mpr ⟨x, hx, e.symm⟩
  rw [List.length_map] at ll
  refine { toMGood := ⟨asc_nodup h.lets.1, fun x hx => (h.lets.2 x.l).mpr ⟨x, hx, rfl⟩, by omega, by omega, by omega, by omega⟩, ok := fun x hx => ok x (h.ars.sub x hx).1, l4 := by omega, nm := fun s hs => nm s (sub s hs), nl := by omega, st := ?_, en := ?_, ar := ?_ }
  · exact fun s hs => (h.sta.2 s).mpr (.inl ((h.sts.2 s).mp hs))
  · exact fun s hs => (h.sta.2 s).mpr (.inr (.inl ((h.ens.2 s).mp hs)))
  · exact fun x hx => ⟨(h.sta.2 _).mpr (.inr (.inr ⟨x, hx, .inl rfl⟩)), (h.sta.2 _).mpr (.inr (.inr ⟨x, hx, .inr rfl⟩))⟩
theorem swap_ok {x : Arw} (h : x.Ok) : (swapA x).Ok := ⟨h.t, h.l, h.s, h.c0, h.c1⟩
theorem MFine.turn {M N : MachV} (h : MFine M) (k : MOf N (M.ars.map swapA) M.ens M.sts) : MFine N := by
  refine fine_of (ns := M.sta) k (fun x hx => ?_) (by rw [List.length_map]; exact h.l4) h.nm h.nl h.en h.st fun x hx => ?_
  · obtain ⟨y, hy, rfl⟩ := List.mem_map.mp hx
    exact swap_ok (h.ok y hy)
  · obtain ⟨y, hy, rfl⟩ := List.mem_map.mp hx
    exact ⟨(h.ar y hy).2, (h.ar y hy).1⟩
/-- a turned machine has no more states -/
theorem turn_sta {M N : MachV} (h : MFine M) (k : MOf N (M.ars.map swapA) M.ens M.sts) : N.sta.length ≤ M.sta.length := nodup_le (asc_nodup k.sta.1) fun s hs => by
  rcases (k.sta.2 s).mp hs with h1 | h1 | ⟨x, hx, e⟩
  · exact h.en s h1
  · exact h.st s h1
  · obtain ⟨y, hy, rfl⟩ := List.mem_map.mp (k.ars.sub x hx).1
    rcases e with e | e
    · rw [e]
      exact (h.ar y hy).2
    · rw [e]
      exact (h.ar y hy).1
/-- arrows, none of them at D -/
def ArD (D : Addr) (H : Hp) (us : List V) (xs : List Arw) : Prop := Paired (fun v x => ∃ q, v = V.ref q ∧ q ≠ D ∧ H q = some (.tup x.vals)) us xs
theorem ArD.upd {D : Addr} {H : Hp} {us : List V} {xs : List Arw} {o : HO} (h : ArD D H us xs) : ArD D (L2.upd H D o) us xs := Paired.mapP h fun v p ⟨r, e, n, hr⟩ => ⟨r, e, n, (upd_ne n).trans hr⟩
theorem ArD.keep {D : Addr} {H H' : Hp} {us : List V} {xs : List Arw} (h : ArD D H us xs) (s : Same H H') : ArD D H' us xs := Paired.mapP h fun v p ⟨r, e, n, hr⟩ => ⟨r, e, n, s _ _ hr⟩
theorem ArD.snoc {D g : Addr} {H : Hp} {us : List V} {xs : List Arw} {x : Arw} (h : ArD D H us xs) (n : g ≠ D) (e : H g = some (.tup x.vals)) : ArD D H (us ++ [.ref g]) (xs ++ [x]) := paired_snoc h ⟨g, rfl, n, e⟩
theorem ArD.ars {D : Addr} {H : Hp} {us : List V} {xs : List Arw} (h : ArD D H us xs) : ArS H us xs := Paired.mapP h fun v p ⟨r, e, _, hr⟩ => ⟨r, e, hr⟩
/-! ### what a law's and the program's defs promise -/
def spBackward (K : PySem.W.Frag) : Sp := fun vs H Q _ => ∃ (a : Addr) (us : List V) (xs : List Arw), vs = [.ref a] ∧ SqE K H a us ∧ ArS H us xs ∧ xs.length ≤ 100000 ∧
  ∀ (q : Addr) (ws : List V) (H' : Hp), H q = none → H' q = some (.lst ws) → ArS H' ws (xs.map swapA) → Same H H' → Q (.ref q) H'
def spTurned (C : Addr) : Sp := fun vs H Q _ => ∃ (m : Addr) (M : MachV), vs = [.ref m] ∧ IsMach C H m M ∧ MFine M ∧
  ∀ (q : Addr) (N : MachV) (H' : Hp), H q = none → IsMach C H' q N → MOf N (M.ars.map swapA) M.ens M.sts → Same H H' → Q (.ref q) H'
def spAheadL (K : PySem.W.Frag) : Sp := fun vs H Q _ => ∃ (a t : Addr) (us : List V) (xs : List Arw) (es : List PySem.Str) (row : PySem.Str), vs = [.ref a, .ref t, .str row] ∧ SqE K H a us ∧ ArS H us xs ∧ xs.length ≤ 1000 ∧ SqE K H t (es.map V.str) ∧ es.length ≤ 1000 ∧ row.length ≤ 5000 ∧
  ∀ (d : Addr) (kvs : List (Ky × V)) (f : PySem.Str → Option Int) (H' : Hp), H' d = some (.dK kvs) → Holds1 kvs f → (∀ q, LeastO (Rch (xs.map swapA) es (sgnL row).reverse q) (f q)) → Same H H' → Q (.ref d) H'
def spPriceL (K : PySem.W.Frag) : Sp := fun vs H Q _ => ∃ (m a b e : Addr) (us : List V) (xs : List Arw) (ss es : List PySem.Str) (row : PySem.Str), vs = [.ref m, .str row] ∧ MadeL K H m a b e us xs ss es ∧ xs.length ≤ 1000 ∧ ss.length ≤ 1000 ∧ es.length ≤ 1000 ∧ row.length ≤ 5000 ∧
  ∀ (o : Option Int) (H' : Hp), LPr xs ss es (sgnL row) o → Same H H' → Q (optV o) H'
def SgRow (n : Nat) (r : PySem.Str) : Prop := r.length ≤ n ∧ ∀ c ∈ TL.tl r, Sg c
def spRowL (K : PySem.W.Frag) : Sp := fun vs H Q _ => ∃ (p a : Addr) (ls : List PySem.Str) (n : Nat) (c : Nat), vs = [.ref p, .ref a, .int (n : Int)] ∧ Src H p c ∧ c ≤ 900000 ∧ SqL K H a (ls.map V.str) ∧ a ≠ p ∧ ls ≠ [] ∧ ls.length ≤ 1000 ∧ (∀ l ∈ ls, Lt l) ∧ n ≤ 10 ∧
  ∀ (r : PySem.Str) (H' : Hp), SgRow (3 * n) r → Go p (c + 40) H H' → Q (.str r) H'
def spWaves (K : PySem.W.Frag) : Sp := fun vs H Q _ => ∃ (p a : Addr) (ls : List PySem.Str) (n : Nat) (c : Nat), vs = [.ref p, .ref a, .int (n : Int)] ∧ Src H p c ∧ c ≤ 800000 ∧ SqL K H a (ls.map V.str) ∧ a ≠ p ∧ ls ≠ [] ∧ ls.length ≤ 1000 ∧ (∀ l ∈ ls, Lt l) ∧ 1 ≤ n ∧ n ≤ 4 ∧
  ∀ (r : PySem.Str) (H' : Hp), SgRow 120 r → Go p (c + 200) H H' → Q (.str r) H'
theorem tyX_new {K : PySem.W.Frag} {H H' : Hp} {t : Value} {x : V} (h : TyX K H x t) (e : Same H H') : TyX K H' x t := by
  cases h with
  | base h =>
    refine .base ?_
    cases h with
    | non => exact .non
    | bl x => exact .bl x
    | int i => exact .int i
    | str x => exact .str x
    | flt x => exact .flt x
    | lst h => exact .lst (e _ _ h)
    | frz h => exact .frz (e _ _ h)
    | tup h => exact .tup (e _ _ h)
    | dK h => exact .dK (e _ _ h)
    | dT h => exact .dT (e _ _ h)
    | ins h cl ha hn htk hm => exact .ins (e _ _ h) cl ha hn htk hm
  | byt b => exact .byt b
  | set h => exact .set (e _ _ h)
  | kList h c => exact .kList h c
  | kTuple h c => exact .kTuple h c
  | kDict h c => exact .kDict h c
  | fTuple h => exact .fTuple (e _ _ h)
  | fDict h => exact .fDict (e _ _ h)
/-- is it a list or a tuple? -/
def spIsList (K : PySem.W.Frag) : Sp := fun vs H Q _ => ∃ (v : V) (t : String), vs = [v] ∧ TyX K H v (.type t) ∧ t ∈ ["NoneType", "bool", "int", "str", "list", "tuple", "dict", "float", "set", "bytes"] ∧ ∀ H', Same H H' → Q (.bl (decide (t = "list") || decide (t = "tuple"))) H'
/-! ### a text some times over -/
def repS (z : PySem.Str) (n : Int) : PySem.Str := ⟨(List.replicate n.toNat z.cps).foldl (· ++ ·) #[]⟩
theorem fold_app (a : Array Nat) : ∀ (n : Nat) (b : Array Nat), ((List.replicate n a).foldl (· ++ ·) b).toList = b.toList ++ (List.replicate n a.toList).flatten
  | 0, b => by simp
  | n + 1, b => by
    rw [List.replicate_succ, List.foldl_cons, fold_app a n (b ++ a), List.replicate_succ, List.flatten_cons]
    simp
theorem repS_tl (z : PySem.Str) (n : Int) : TL.tl (repS z n) = (List.replicate n.toNat (TL.tl z)).flatten := by
  unfold TL.tl repS
  rw [fold_app]
  rfl
theorem repS_len (z : PySem.Str) (n : Int) : (repS z n).length = n.toNat * z.length := by
  rw [len_tl, repS_tl, List.length_flatten, List.map_replicate, List.sum_replicate_nat, ← len_tl]
theorem repS_sg {z : PySem.Str} {n : Int} (h : ∀ c ∈ TL.tl z, Sg c) : ∀ c ∈ TL.tl (repS z n), Sg c := by
  intro c hc
  rw [repS_tl] at hc
  obtain ⟨l, hl, hc⟩ := List.mem_flatten.mp hc
  rw [(List.mem_replicate.mp hl).2] at hc
  exact h c hc
theorem op_repTxt {X : Cx} : OpR X (binaryOp .Mult) (fun x y H Q => ∃ z n, x = .str z ∧ y = .int n ∧ 0 ≤ n ∧ n ≤ 1000000 ∧ z.length * n.toNat ≤ sizeLine ∧ Q (.str (repS z n)) H) := by
  intro pins s σ H x y v u Q I rx ry h
  obtain ⟨z, n, rfl, rfl, h0, h1, hz, q⟩ := h
  obtain ⟨t, rfl⟩ := rx
  obtain ⟨t', rfl⟩ := ry
  refine P.mul_str ?_ (fun hn _ => ?_) (fun _ _ => ?_) ?_
  · rw [decide_eq_false (by omega), decide_eq_false (by omega)]
    rfl
  · have e : sizeLine = 16777216 := by decide
    rw [e] at hz
    have hi : (z.length : Int) * n ≤ 16777216 := by
      have q : ((z.length * n.toNat : Nat) : Int) ≤ ((16777216 : Nat) : Int) := Int.ofNat_le.mpr hz
      rw [Int.natCast_mul, Int.toNat_of_nonneg h0] at q
      exact q
    have := (Int.le_ediv_iff_mul_le (a := (z.length : Int)) (b := 2 ^ 63 - 1) (c := n) (by omega)).mpr (by omega)
    omega
  · show decide (z.length * n.toNat > sizeLine) = false
    exact decide_eq_false (by omega)
  · have key : ∀ t2 : Tok, Q (.str (repS z n)) H := fun _ => q
    by_cases c1 : n < 1
    · rw [if_pos c1]
      refine ⟨by decide, .str (repS z n), H, I.tok _, ⟨s.toks, ?_⟩, q⟩
      have : n = 0 := by omega
      subst this
      rfl
    · rw [if_neg c1]
      by_cases c2 : (n == 1 || z.length == 0) = true
      · rw [if_pos c2]
        refine ⟨.str (repS z n), H, I, ⟨t, ?_⟩, q⟩
        have e : repS z n = z := by
          refine ext_tl ?_
          rw [repS_tl]
          simp only [Bool.or_eq_true, beq_iff_eq] at c2
          rcases c2 with rfl | c2
          · show (List.replicate 1 (TL.tl z)).flatten = _
            simp
          · have : TL.tl z = [] := List.length_eq_zero_iff.mp (by rw [← len_tl]; exact c2)
            rw [this]
            simp
        rw [e]
      · rw [if_neg c2]
        refine ⟨?_, .str (repS z n), H, I.tok _, ⟨s.toks, rfl⟩, q⟩
        show (repS z n).length ≤ sizeLine
        rw [repS_len, Nat.mul_comm]
        exact hz
/-! ### dict(..) of pairs -/
def rDictP (K : PySem.W.Frag) : List V → Hp → VK → Prop := fun xs H Q => ∃ (a : Addr) (ps : List Addr) (kvs : List (Ky × V)), xs = [.ref a] ∧ SqL K H a (ps.map V.ref) ∧ Paired (fun p kv => SqT K H p [kV kv.1, kv.2]) ps kvs ∧ ∀ p, H p = none → Q (.ref p) (upd H p (.dK (mergeK [] kvs)))
theorem kdictP (K : PySem.W.Frag) {X : Cx} (hc : X.calm = true) (h : X.K = K := by rfl) : CallR X (.type "dict") (rDictP K) := by subst h; exact call_dictP hc
theorem mergeK_snoc (kvs more : List (Ky × V)) (kv : Ky × V) : mergeK kvs (more ++ [kv]) = putK (mergeK kvs more) kv.1 kv.2 := by
  unfold mergeK
  rw [List.foldl_append]
  rfl
theorem holds_zero : ∀ (k : Nat) (es : List PySem.Str), es.length = k → Holds1 (mergeK [] (es.map fun e => ((.inr e : Ky), V.int 0))) (fun q => if q ∈ es then some 0 else none)
  | 0, es, e => by
    obtain rfl : es = [] := List.length_eq_zero_iff.mp e
    intro q
    simp [mergeK, valV]
  | k + 1, es, e => by
    have ne : es ≠ [] := by
      rintro rfl
      cases e
    obtain ⟨r, l, rfl⟩ : ∃ r l, es = r ++ [l] := ⟨es.dropLast, es.getLast ne, (List.dropLast_concat_getLast ne).symm⟩
    rw [List.length_append, List.length_singleton] at e
    have ih := holds_zero k r (by omega)
    intro q
    rw [List.map_append, List.map_singleton, mergeK_snoc, valV_put, ih q]
    by_cases c : q = l
    · subst c
      simp
    · rw [if_neg (fun z => c (Sum.inr.inj z))]
      simp [c]
theorem lpr_nil {xs : List Arw} {es : List PySem.Str} (q : PySem.Str) : LeastO (Rch xs es [] q) (if q ∈ es then some 0 else none) := by
  by_cases c : q ∈ es
  · rw [if_pos c]
    exact ⟨reach_nil.mpr ⟨c, rfl⟩, fun n hn => by rw [(reach_nil.mp hn).2]; exact Int.le_refl _⟩
  · rw [if_neg c]
    exact fun n hn => c (reach_nil.mp hn).1
theorem paired_zero {K : PySem.W.Frag} {D : Addr} {H : Hp} {ps : List Addr} {es : List PySem.Str} (h : Paired (fun p e => p ≠ D ∧ H p = some (.tup [.str e, .int 0])) ps es) : Paired (fun p (kv : Ky × V) => SqT K H p [kV kv.1, kv.2]) ps (es.map fun e => ((.inr e : Ky), V.int 0)) := by
  induction h with
  | nil => exact .nil
  | cons z _ ih => exact .cons (SqT.of z.2) ih
theorem sIx_min {n d k : Nat} : HT.sIx n d (some (k : Int)) = min k n := by
  unfold HT.sIx
  simp only
  split <;> omega
theorem tl_cutN (z : PySem.Str) (k : Nat) : TL.tl (cutS z none (some (k : Int))) = (TL.tl z).take k := by
  have e1 : HT.sIx z.length 0 none = 0 := rfl
  have e2 : HT.sIx z.length z.length (some (k : Int)) = min k z.length := sIx_min
  unfold cutS
  show (List.take (HT.sIx z.length z.length (some (k : Int)) - HT.sIx z.length 0 none) (List.drop (HT.sIx z.length 0 none) z.cps.toList)).toArray.toList = _
  rw [e1, e2]
  show List.take (min k z.length - 0) (List.drop 0 z.cps.toList) = List.take k z.cps.toList
  have el : z.length = z.cps.toList.length := len_tl z
  rw [List.drop_zero, Nat.sub_zero, el]
  by_cases c : k ≤ z.cps.toList.length
  · rw [Nat.min_eq_left c]
  · rw [Nat.min_eq_right (by omega), List.take_of_length_le (Nat.le_refl _), List.take_of_length_le (by omega)]
theorem SgRow.cut {z : PySem.Str} {n : Nat} (h : SgRow n z) (k : Nat) : SgRow k (cutS z none (some (k : Int))) := by
  refine ⟨?_, fun c hc => ?_⟩
  · rw [len_tl, tl_cutN, List.length_take]
    omega
  · rw [tl_cutN] at hc
    exact h.2 c (List.mem_of_mem_take hc)
theorem SgRow.app {a b : PySem.Str} {n m : Nat} (ha : SgRow n a) (hb : SgRow m b) : SgRow (n + m) (a ++ b) := ⟨by rw [len_app]; have := ha.1; have := hb.1; omega, sgAll_app ha.2 hb.2⟩
theorem SgRow.mono {a : PySem.Str} {n m : Nat} (ha : SgRow n a) (h : n ≤ m) : SgRow m a := ⟨Nat.le_trans ha.1 h, ha.2⟩
theorem SgRow.rep {a : PySem.Str} {n k : Nat} {i : Int} (ha : SgRow n a) (h : i.toNat ≤ k) : SgRow (k * n) (repS a i) := ⟨by rw [repS_len]; exact Nat.mul_le_mul h ha.1, repS_sg ha.2⟩
theorem SgRow.nil : SgRow 0 "" := ⟨by decide +kernel, fun c hc => by
  have z : TL.tl ("" : PySem.Str) = [] := by decide +kernel
  rw [z] at hc
  cases hc⟩
theorem SgRow.lt {l : PySem.Str} (h : Lt l) : SgRow 1 l := ⟨Nat.le_of_eq h.1, h.2⟩
def wvL (i : Nat) : Nat := if i = 0 then 6 else if i = 1 then 108 else 1740
theorem IsMach.ext {C : Addr} {H H' : Hp} {m p : Addr} {c : Nat} {M : MachV} (h : IsMach C H m M) (s : Src H p c) (e : Ext p H H') : IsMach C H' m M := by
  obtain ⟨dx, t1, t2, t3, t4, t5, ws, h⟩ := h
  obtain ⟨g, s0, k, hp, _⟩ := s
  have nt : ∀ {q : Addr} {xs : List V}, H q = some (.tup xs) → H' q = some (.tup xs) := fun {q xs} hq => e _ _ (ne_of hq hp (by intro z; cases z)) hq
  have ft : ∀ {q : Addr} {xs : List V}, FzT H q xs → FzT H' q xs := fun {q xs} ⟨u, hu, z⟩ => ⟨u, e _ _ (ne_of hu hp (fun y => z.nlst _ y)) hu, z⟩
  exact ⟨dx, t1, t2, t3, t4, t5, ws, ⟨e _ _ (ne_of h.ins hp (by intro z; cases z)) h.ins, nt h.a1, Paired.mapP h.as fun v x ⟨q, ev, hq⟩ => ⟨q, ev, nt hq⟩, ft h.a2, ft h.a3, ft h.a4, ft h.a5⟩⟩
theorem RowOk.rev {r : PySem.Str} (h : RowOk r) : RowOk (revS r) := ⟨by rw [revS_len]; exact h.1, fun c hc => by
  rw [tl_revS] at hc
  exact h.2 c (List.mem_reverse.mp hc)⟩
theorem opt_ne (o : Option Int) : True := trivial
end Bz

namespace Bz
open PySem PySem.Spec PyProof.Rows L2
/-! ### the best run: the first of those with the least sum -/
def Rest (xs : List Arw) (es ls : List PySem.Str) (q : PySem.Str) (o : Option Int) : Prop := LeastO (fun n => ∃ e ∈ es, RunS xs ls q e n) o
def BStep (xs : List Arw) (es ls : List PySem.Str) (l q q' : PySem.Str) : Prop := ∃ x ∈ xs, x.s = q ∧ x.l = l ∧ x.t = q' ∧ ∃ n, Rest xs es ls x.t (some n) ∧ ∀ y ∈ xs, y.s = q → y.l = l → ∀ m, Rest xs es ls y.t (some m) → lexK (kP (y.c + m, y.t)) (kP (x.c + n, x.t)) = false
def BestFrom (xs : List Arw) (es : List PySem.Str) : List PySem.Str → PySem.Str → List PySem.Str → Prop
  | [], _, r => r = []
  | l :: ls, q, r => ∃ q' r', r = q' :: r' ∧ BStep xs es ls l q q' ∧ BestFrom xs es ls q' r'
def BestR (xs : List Arw) (ss es ls run : List PySem.Str) : Prop := ∃ s r, run = s :: r ∧ s ∈ ss ∧ (∃ n, Rest xs es ls s (some n) ∧ ∀ s' ∈ ss, ∀ m, Rest xs es ls s' (some m) → lexK (kP (m, s')) (kP (n, s)) = false) ∧ BestFrom xs es ls s r
def RunW (xs : List Arw) : List PySem.Str → PySem.Str → List PySem.Str → Int → Prop
  | [], _, r, w => r = [] ∧ w = 0
  | l :: ls, q, r, w => ∃ x ∈ xs, x.s = q ∧ x.l = l ∧ ∃ r' w', r = x.t :: r' ∧ RunW xs ls x.t r' w' ∧ w = x.c + w'
theorem kP_false {a b : Int} {s t : PySem.Str} (h : lexK (kP (a, s)) (kP (b, t)) = false) : b ≤ a ∧ (a = b → ¬ s.cps.toList < t.cps.toList) := by
  unfold kP lexK at h
  by_cases e : a = b
  · subst e
    rw [if_pos rfl] at h
    refine ⟨Int.le_refl _, fun _ c => ?_⟩
    unfold lexK at h
    by_cases e2 : (Sum.inr s : Ky) = .inr t
    · cases e2
      exact List.lt_irrefl _ c
    · rw [if_neg e2] at h
      exact of_decide_eq_false h c
  · rw [if_neg (fun z => e (Sum.inl.inj z))] at h
    have := of_decide_eq_false h
    exact ⟨by omega, fun z => absurd z e⟩
theorem runW_run {xs : List Arw} : ∀ {ls : List PySem.Str} {q : PySem.Str} {r : List PySem.Str} {w : Int}, RunW xs ls q r w → RunS xs ls q (r.getLastD q) w
  | [], q, r, w, h => by
    obtain ⟨rfl, rfl⟩ := h
    exact ⟨rfl, rfl⟩
  | l :: ls, q, r, w, h => by
    obtain ⟨x, hx, e1, e2, r', w', rfl, h, e⟩ := h
    refine ⟨x, hx, e1, e2, w', ?_, e⟩
    rw [List.getLastD_cons]
    exact runW_run h
theorem rest_cons {xs : List Arw} {es ls : List PySem.Str} {l q : PySem.Str} {w m : Int} {x : Arw} (h : Rest xs es (l :: ls) q (some w)) (hx : x ∈ xs) (e1 : x.s = q) (e2 : x.l = l) (k : Rest xs es ls x.t (some m)) : w ≤ x.c + m := by
  obtain ⟨⟨e, he, r⟩, _⟩ := k
  exact h.2 _ ⟨e, he, x, hx, e1, e2, m, r, rfl⟩
theorem rest_run {xs : List Arw} {es ls : List PySem.Str} {l q e : PySem.Str} {w m : Int} {x : Arw} (h : Rest xs es (l :: ls) q (some w)) (hx : x ∈ xs) (e1 : x.s = q) (e2 : x.l = l) (he : e ∈ es) (r : RunS xs ls x.t e m) (ew : w = x.c + m) : Rest xs es ls x.t (some m) := by
  refine ⟨⟨e, he, r⟩, ?_⟩
  rintro n ⟨e', he', r'⟩
  have := h.2 _ ⟨e', he', x, hx, e1, e2, n, r', rfl⟩
  omega
theorem rest_exists {xs : List Arw} {es ls : List PySem.Str} {l q : PySem.Str} {w : Int} (h : Rest xs es (l :: ls) q (some w)) : ∃ x ∈ xs, x.s = q ∧ x.l = l ∧ ∃ m, Rest xs es ls x.t (some m) ∧ x.c + m = w := by
  obtain ⟨e, he, x, hx, e1, e2, m, r, ew⟩ := h.1
  exact ⟨x, hx, e1, e2, m, rest_run h hx e1 e2 he r ew, ew.symm⟩
/-- what a step costs with all behind it is the least -/
theorem bstep_sum {xs : List Arw} {es ls : List PySem.Str} {l q : PySem.Str} {w n : Int} {x : Arw} (h : Rest xs es (l :: ls) q (some w)) (hx : x ∈ xs) (e1 : x.s = q) (e2 : x.l = l) (hn : Rest xs es ls x.t (some n)) (hm : ∀ y ∈ xs, y.s = q → y.l = l → ∀ m, Rest xs es ls y.t (some m) → lexK (kP (y.c + m, y.t)) (kP (x.c + n, x.t)) = false) : w = x.c + n := by
  obtain ⟨y, hy, f1, f2, m, hr, ew⟩ := rest_exists h
  have a := (kP_false (hm y hy f1 f2 m hr)).1
  have b := rest_cons h hx e1 e2 hn
  omega
theorem best_sum {xs : List Arw} {es : List PySem.Str} : ∀ {ls : List PySem.Str} {q : PySem.Str} {r : List PySem.Str} {w : Int}, BestFrom xs es ls q r → Rest xs es ls q (some w) → RunW xs ls q r w ∧ r.getLastD q ∈ es
  | [], q, r, w, hb, h => by
    obtain rfl : r = [] := hb
    obtain ⟨e, he, e1, e2⟩ := h.1
    refine ⟨⟨rfl, e2⟩, ?_⟩
    show q ∈ es
    rw [e1]
    exact he
  | l :: ls, q, r, w, hb, h => by
    obtain ⟨q', r', rfl, ⟨x, hx, e1, e2, rfl, n, hn, hm⟩, hr⟩ := hb
    have ew := bstep_sum h hx e1 e2 hn hm
    obtain ⟨i1, i2⟩ := best_sum hr hn
    refine ⟨⟨x, hx, e1, e2, r', n, rfl, i1, ew⟩, ?_⟩
    rw [List.getLastD_cons]
    exact i2
abbrev lexS (a b : List PySem.Str) : Bool := lexK (a.map Sum.inr) (b.map Sum.inr)
theorem no_less {xs : List Arw} {es : List PySem.Str} : ∀ {ls : List PySem.Str} {q : PySem.Str} {r b : List PySem.Str} {w : Int}, BestFrom xs es ls q b → RunW xs ls q r w → r.getLastD q ∈ es → Rest xs es ls q (some w) → lexS r b = false
  | [], q, r, b, w, hb, hr, he, h => by
    obtain rfl : b = [] := hb
    obtain ⟨rfl, _⟩ := hr
    rfl
  | l :: ls, q, r, b, w, hb, hr, he, h => by
    obtain ⟨q', b', rfl, ⟨y, hy, f1, f2, rfl, n, hn, hm⟩, hb⟩ := hb
    obtain ⟨x, hx, e1, e2, r', w', rfl, hr, ew⟩ := hr
    rw [List.getLastD_cons] at he
    have hw' := rest_run h hx e1 e2 he (runW_run hr) ew
    have es2 := bstep_sum h hy f1 f2 hn hm
    have ns := (kP_false (hm x hx e1 e2 w' hw')).2 (by omega)
    show lexK (Sum.inr x.t :: r'.map Sum.inr) (Sum.inr y.t :: b'.map Sum.inr) = false
    unfold lexK
    by_cases e : (Sum.inr x.t : Ky) = .inr y.t
    · rw [if_pos e]
      have e' : x.t = y.t := Sum.inr.inj e
      rw [e'] at hr he hw'
      exact no_less hb hr he hw'
    · rw [if_neg e]
      exact decide_eq_false ns
/-! ### all runs, as a law finds them -/
abbrev RunI := List PySem.Str × Int
def tails (xs : List Arw) : List PySem.Str → PySem.Str → List RunI
  | [], _ => [([], 0)]
  | l :: ls, q => (xs.filter fun x => decide (x.s = q ∧ x.l = l)).flatMap fun x => (tails xs ls x.t).map fun p => (x.t :: p.1, x.c + p.2)
theorem mem_tails {xs : List Arw} : ∀ {ls : List PySem.Str} {q : PySem.Str} {p : RunI}, p ∈ tails xs ls q ↔ RunW xs ls q p.1 p.2
  | [], q, p => by
    unfold tails RunW
    rw [List.mem_singleton]
    exact ⟨fun e => by rw [e]; exact ⟨rfl, rfl⟩, fun ⟨a, b⟩ => Prod.ext a b⟩
  | l :: ls, q, p => by
    unfold tails RunW
    rw [List.mem_flatMap]
    constructor
    · rintro ⟨x, hx, hp⟩
      obtain ⟨h1, h2⟩ := List.mem_filter.mp hx
      obtain ⟨h3, h4⟩ := of_decide_eq_true h2
      obtain ⟨p', hp', rfl⟩ := List.mem_map.mp hp
      exact ⟨x, h1, h3, h4, p'.1, p'.2, rfl, mem_tails.mp hp', rfl⟩
    · rintro ⟨x, hx, e1, e2, r', w', e3, hr, e4⟩
      refine ⟨x, List.mem_filter.mpr ⟨hx, decide_eq_true ⟨e1, e2⟩⟩, List.mem_map.mpr ⟨(r', w'), mem_tails.mpr hr, ?_⟩⟩
      exact Prod.ext e3.symm e4.symm
theorem lexS_cons {a : PySem.Str} {r b : List PySem.Str} (h : lexS r b = true) : lexS (a :: r) (a :: b) = true := by
  show lexK (Sum.inr a :: r.map Sum.inr) (Sum.inr a :: b.map Sum.inr) = true
  unfold lexK
  rw [if_pos rfl]
  exact h
theorem lexS_head {a c : PySem.Str} {r b : List PySem.Str} (h : a.cps.toList < c.cps.toList) : lexS (a :: r) (c :: b) = true := by
  show lexK (Sum.inr a :: r.map Sum.inr) (Sum.inr c :: b.map Sum.inr) = true
  unfold lexK
  rw [if_neg (fun z => by rw [Sum.inr.inj z] at h; exact List.lt_irrefl _ h)]
  exact decide_eq_true h
theorem k3_t {x y : Arw} (h : lexK x.k3 y.k3 = true) (e1 : x.s = y.s) (e2 : x.l = y.l) : x.t.cps.toList < y.t.cps.toList := by
  unfold Arw.k3 at h
  rw [e1, e2] at h
  unfold lexK at h
  rw [if_pos rfl] at h
  unfold lexK at h
  rw [if_pos rfl] at h
  unfold lexK at h
  by_cases e : (Sum.inr x.t : Ky) = .inr y.t
  · rw [if_pos e] at h
    cases h
  · rw [if_neg e] at h
    exact of_decide_eq_true h
theorem tails_asc {xs : List Arw} (hx : xs.Pairwise fun x y => lexK x.k3 y.k3 = true) : ∀ (ls : List PySem.Str) (q : PySem.Str), (tails xs ls q).Pairwise fun a b => lexS a.1 b.1 = true
  | [], q => List.pairwise_singleton ..
  | l :: ls, q => by
    unfold tails
    rw [List.pairwise_flatMap]
    constructor
    · intro x _
      rw [List.pairwise_map]
      exact (tails_asc hx ls x.t).imp fun h => lexS_cons h
    · have hp : (xs.filter fun x => decide (x.s = q ∧ x.l = l)).Pairwise fun x y => lexK x.k3 y.k3 = true := hx.sublist List.filter_sublist
      refine List.Pairwise.imp_of_mem ?_ hp
      intro x y mx my h a ha b hb
      obtain ⟨p, _, rfl⟩ := List.mem_map.mp ha
      obtain ⟨p', _, rfl⟩ := List.mem_map.mp hb
      obtain ⟨x1, x2⟩ := of_decide_eq_true (List.mem_filter.mp mx).2
      obtain ⟨y1, y2⟩ := of_decide_eq_true (List.mem_filter.mp my).2
      exact lexS_head (k3_t h (x1.trans y1.symm) (x2.trans y2.symm))
def extR (xs : List Arw) (l : PySem.Str) (p : RunI) : List RunI := (xs.filter fun x => decide (x.s = p.1.getLastD "" ∧ x.l = l)).map fun x => (p.1 ++ [x.t], p.2 + x.c)
def levels (xs : List Arw) (ls : List PySem.Str) (f : List RunI) : List RunI := ls.foldl (fun f l => f.flatMap (extR xs l)) f
theorem levels_snoc (xs : List Arw) (ls : List PySem.Str) (l : PySem.Str) (f : List RunI) : levels xs (ls ++ [l]) f = (levels xs ls f).flatMap (extR xs l) := by
  unfold levels
  rw [List.foldl_append]
  rfl
theorem levels_flat (xs : List Arw) : ∀ (ls : List PySem.Str) (f : List RunI), levels xs ls f = f.flatMap fun p => levels xs ls [p]
  | [], f => by
    show f = f.flatMap fun p => [p]
    simp
  | l :: ls, f => by
    show levels xs ls (f.flatMap (extR xs l)) = f.flatMap fun p => levels xs ls ([p].flatMap (extR xs l))
    rw [levels_flat xs ls, List.flatMap_assoc]
    congr 1
    funext p
    rw [levels_flat xs ls ([p].flatMap (extR xs l))]
    simp
theorem levels_tails (xs : List Arw) : ∀ (ls : List PySem.Str) (r : List PySem.Str) (w : Int), levels xs ls [(r, w)] = (tails xs ls (r.getLastD "")).map fun p => (r ++ p.1, w + p.2)
  | [], r, w => by
    show [(r, w)] = [(r ++ [], w + 0)]
    rw [List.append_nil, Int.add_zero]
  | l :: ls, r, w => by
    show levels xs ls ([(r, w)].flatMap (extR xs l)) = _
    rw [levels_flat]
    unfold tails extR
    simp only [List.flatMap_cons, List.flatMap_nil, List.append_nil, List.flatMap_map, List.map_flatMap, List.map_map]
    congr 1
    funext x
    rw [levels_tails xs ls]
    rw [List.getLastD_concat]
    congr 1
    funext p
    show (r ++ [x.t] ++ p.1, w + x.c + p.2) = (r ++ (x.t :: p.1), w + (x.c + p.2))
    rw [List.append_assoc, Int.add_assoc]
    rfl
def allRuns (xs : List Arw) (ss es ls : List PySem.Str) : List RunI := (levels xs ls (ss.map fun s => ([s], 0))).filter fun p => decide (p.1.getLastD "" ∈ es)
theorem levels_starts (xs : List Arw) (ss ls : List PySem.Str) : levels xs ls (ss.map fun s => ([s], 0)) = ss.flatMap fun s => (tails xs ls s).map fun p => (s :: p.1, p.2) := by
  rw [levels_flat, List.flatMap_map]
  congr 1
  funext s
  rw [levels_tails]
  show (tails xs ls s).map _ = _
  congr 1
  funext p
  show ([s] ++ p.1, 0 + p.2) = _
  rw [Int.zero_add]
  rfl
theorem mem_allRuns {xs : List Arw} {ss es ls : List PySem.Str} {p : RunI} : p ∈ allRuns xs ss es ls ↔ ∃ s ∈ ss, ∃ r, p.1 = s :: r ∧ RunW xs ls s r p.2 ∧ r.getLastD s ∈ es := by
  unfold allRuns
  rw [levels_starts, List.mem_filter, List.mem_flatMap]
  constructor
  · rintro ⟨⟨s, hs, h⟩, he⟩
    obtain ⟨q, hq, rfl⟩ := List.mem_map.mp h
    refine ⟨s, hs, q.1, rfl, mem_tails.mp hq, ?_⟩
    have := of_decide_eq_true he
    rw [List.getLastD_cons] at this
    exact this
  · rintro ⟨s, hs, r, e, h, he⟩
    refine ⟨⟨s, hs, List.mem_map.mpr ⟨(r, p.2), mem_tails.mpr h, Prod.ext e.symm rfl⟩⟩, decide_eq_true ?_⟩
    rw [e, List.getLastD_cons]
    exact he
theorem allRuns_asc {xs : List Arw} {ss es ls : List PySem.Str} (hx : xs.Pairwise fun x y => lexK x.k3 y.k3 = true) (hs : Asc ss) : (allRuns xs ss es ls).Pairwise fun a b => lexS a.1 b.1 = true := by
  unfold allRuns
  refine List.Pairwise.sublist List.filter_sublist ?_
  rw [levels_starts, List.pairwise_flatMap]
  constructor
  · intro s _
    rw [List.pairwise_map]
    exact (tails_asc hx ls s).imp fun h => lexS_cons h
  · refine hs.imp fun {s t} h a ha b hb => ?_
    obtain ⟨p, _, rfl⟩ := List.mem_map.mp ha
    obtain ⟨p', _, rfl⟩ := List.mem_map.mp hb
    exact lexS_head h
/-- a run's sum is no less than the rest's least -/
theorem runW_of {xs : List Arw} : ∀ {ls : List PySem.Str} {a b : PySem.Str} {n : Int}, RunS xs ls a b n → ∃ r, RunW xs ls a r n ∧ r.getLastD a = b
  | [], a, b, n, h => ⟨[], ⟨rfl, h.2⟩, h.1⟩
  | l :: ls, a, b, n, h => by
    obtain ⟨x, hx, e1, e2, m, h, e⟩ := h
    obtain ⟨r, hr, he⟩ := runW_of h
    exact ⟨x.t :: r, ⟨x, hx, e1, e2, r, m, rfl, hr, e⟩, by rw [List.getLastD_cons]; exact he⟩
theorem first_best {xs : List Arw} {ss es ls b : List PySem.Str} {w : Int} {p : RunI} {rest : List RunI} (hx : xs.Pairwise fun x y => lexK x.k3 y.k3 = true) (hs : Asc ss) (hb : BestR xs ss es ls b) (hw : ∀ q ∈ allRuns xs ss es ls, w ≤ q.2)
    (hf : (allRuns xs ss es ls).filter (fun q => decide (q.2 = w)) = p :: rest) : p.1 = b := by
  obtain ⟨s, r, rfl, hss, ⟨n, hn, hmin⟩, hbf⟩ := hb
  obtain ⟨i1, i2⟩ := best_sum hbf hn
  have mb : ((s :: r, n) : RunI) ∈ allRuns xs ss es ls := mem_allRuns.mpr ⟨s, hss, r, rfl, i1, i2⟩
  have mp : p ∈ (allRuns xs ss es ls).filter (fun q => decide (q.2 = w)) := by rw [hf]; exact List.mem_cons_self ..
  obtain ⟨mp1, mp2⟩ := List.mem_filter.mp mp
  have ep : p.2 = w := of_decide_eq_true mp2
  obtain ⟨s', hs', r', e', h', he'⟩ := mem_allRuns.mp mp1
  -- the rest from the first run's start
  have hrest : Rest xs es ls s' (some w) := by
    refine ⟨⟨_, he', ?_⟩, ?_⟩
    · rw [← ep]
      exact runW_run h'
    · rintro m ⟨e, he, hr⟩
      obtain ⟨rr, h1, h2⟩ := runW_of hr
      exact hw (s' :: rr, m) (mem_allRuns.mpr ⟨s', hs', rr, rfl, h1, by rw [h2]; exact he⟩)
  have hk := kP_false (hmin s' hs' w hrest)
  have hwn := hw _ mb
  have en : w = n := by
    have := hk.1
    have : w ≤ n := hwn
    omega
  subst en
  have mbf : ((s :: r, w) : RunI) ∈ (allRuns xs ss es ls).filter (fun q => decide (q.2 = w)) := List.mem_filter.mpr ⟨mb, decide_eq_true rfl⟩
  have hasc := (allRuns_asc (es := es) (ls := ls) hx hs).sublist (List.filter_sublist (p := fun q => decide (q.2 = w)))
  rw [hf] at mbf hasc
  rcases List.mem_cons.mp mbf with e | hm
  · rw [← e]
  · exfalso
    have lt := (List.pairwise_cons.mp hasc).1 _ hm
    rw [e'] at lt
    have nl : lexS (s' :: r') (s :: r) = false := by
      show lexK (Sum.inr s' :: r'.map Sum.inr) (Sum.inr s :: r.map Sum.inr) = false
      unfold lexK
      by_cases e : (Sum.inr s' : Ky) = .inr s
      · rw [if_pos e]
        have e2 : s' = s := Sum.inr.inj e
        rw [e2, ep] at h'
        rw [e2] at he'
        exact no_less hbf h' he' hn
      · rw [if_neg e]
        exact decide_eq_false (hk.2 rfl)
    rw [nl] at lt
    cases lt
end Bz

namespace Bz
open PySem PySem.Spec PyProof.Rows L2
/-! ### as the program finds it -/
theorem ah_rest {xs : List Arw} {es ls : List PySem.Str} {q : PySem.Str} {o : Option Int} (h : LeastO (Rch (xs.map swapA) es ls.reverse q) o) : Rest xs es ls q o := by
  refine LeastO.iff (fun n => ?_) h
  rw [rch_run _ _ _ _ rfl]
  exact ⟨fun ⟨a, ha, r⟩ => ⟨a, ha, (run_rev _ _ _ _).mpr r⟩, fun ⟨a, ha, r⟩ => ⟨a, ha, (run_rev _ _ _ _).mp r⟩⟩
theorem mem_steps {xs : List Arw} {l q : PySem.Str} {g : PySem.Str → Option Int} {p : PIS} : p ∈ ((xs.filter fun x => decide (x.l = l)).map mvOf).filterMap (stepOf q g) ↔ ∃ x ∈ xs, x.l = l ∧ x.s = q ∧ ∃ n, g x.t = some n ∧ p = (x.c + n, x.t) := by
  rw [List.mem_filterMap]
  constructor
  · rintro ⟨m, hm, e⟩
    obtain ⟨x, hx, rfl⟩ := List.mem_map.mp hm
    obtain ⟨h1, h2⟩ := List.mem_filter.mp hx
    unfold stepOf at e
    by_cases c : (mvOf x).1 = q
    · rw [if_pos c] at e
      obtain ⟨n, hn, e2⟩ := Option.map_eq_some_iff.mp e
      exact ⟨x, h1, of_decide_eq_true h2, c, n, hn, e2.symm⟩
    · rw [if_neg c] at e
      cases e
  · rintro ⟨x, hx, e1, e2, n, hn, rfl⟩
    refine ⟨mvOf x, List.mem_map.mpr ⟨x, List.mem_filter.mpr ⟨hx, decide_eq_true e1⟩, rfl⟩, ?_⟩
    unfold stepOf
    rw [if_pos (show (mvOf x).1 = q from e2), show g (mvOf x).2.1 = some n from hn]
    rfl
theorem next_ne {xs : List Arw} {es ls : List PySem.Str} {l q : PySem.Str} {g : PySem.Str → Option Int} {w : Int} (hg : ∀ q, Rest xs es ls q (g q)) (h : Rest xs es (l :: ls) q (some w)) : ((xs.filter fun x => decide (x.l = l)).map mvOf).filterMap (stepOf q g) ≠ [] := by
  obtain ⟨x, hx, e1, e2, m, hm, _⟩ := rest_exists h
  intro z
  have : ((x.c + m, x.t) : PIS) ∈ ((xs.filter fun x => decide (x.l = l)).map mvOf).filterMap (stepOf q g) := mem_steps.mpr ⟨x, hx, e2, e1, m, LeastO.uniq (hg x.t) hm, rfl⟩
  rw [z] at this
  cases this
theorem next_step {xs : List Arw} {es ls : List PySem.Str} {l q : PySem.Str} {g : PySem.Str → Option Int} {p : PIS} (hg : ∀ q, Rest xs es ls q (g q)) (hp : p ∈ ((xs.filter fun x => decide (x.l = l)).map mvOf).filterMap (stepOf q g))
    (hm : ∀ r ∈ ((xs.filter fun x => decide (x.l = l)).map mvOf).filterMap (stepOf q g), lexK (kP r) (kP p) = false) : BStep xs es ls l q p.2 ∧ ∃ n, Rest xs es ls p.2 (some n) := by
  obtain ⟨x, hx, e1, e2, n, hn, rfl⟩ := mem_steps.mp hp
  have hr : Rest xs es ls x.t (some n) := by rw [← hn]; exact hg x.t
  refine ⟨⟨x, hx, e2, e1, rfl, n, hr, fun y hy f1 f2 m hm2 => ?_⟩, n, hr⟩
  exact hm (y.c + m, y.t) (mem_steps.mpr ⟨y, hy, f2, f1, m, LeastO.uniq (hg y.t) hm2, rfl⟩)
/-- r0, the run behind its start s, up to the i-th letter -/
def BPre (xs : List Arw) (es ls : List PySem.Str) (s : PySem.Str) (i : Nat) (r0 : List PySem.Str) : Prop :=
  r0.length = i ∧ (∀ r', BestFrom xs es (ls.drop i) (r0.getLastD s) r' → BestFrom xs es ls s (r0 ++ r')) ∧ ∃ n, Rest xs es (ls.drop i) (r0.getLastD s) (some n)
theorem BPre.step {xs : List Arw} {es ls : List PySem.Str} {s l q : PySem.Str} {i : Nat} {r0 : List PySem.Str} (h : BPre xs es ls s i r0) (hl : ls[i]? = some l) (hs : BStep xs es (ls.drop (i + 1)) l (r0.getLastD s) q) (hn : ∃ n, Rest xs es (ls.drop (i + 1)) q (some n)) : BPre xs es ls s (i + 1) (r0 ++ [q]) := by
  obtain ⟨h1, h2, _⟩ := h
  refine ⟨by rw [List.length_append, h1]; rfl, fun r' hr => ?_, by rw [List.getLastD_concat]; exact hn⟩
  rw [List.getLastD_concat] at hr
  rw [List.append_assoc]
  refine h2 (q :: r') ?_
  obtain ⟨hi, e⟩ := List.getElem?_eq_some_iff.mp hl
  rw [List.drop_eq_getElem_cons hi, e]
  exact ⟨q, r', rfl, hs, hr⟩
theorem BPre.done {xs : List Arw} {es ls : List PySem.Str} {s : PySem.Str} {r0 : List PySem.Str} (h : BPre xs es ls s ls.length r0) : BestFrom xs es ls s r0 := by
  have := h.2.1 []
  rw [List.append_nil, List.drop_length] at this
  exact this rfl
abbrev stPS (g : PySem.Str → Option Int) (s : PySem.Str) : Option PIS := (g s).map fun n => (n, s)
theorem mem_stPS {ss : List PySem.Str} {g : PySem.Str → Option Int} {p : PIS} : p ∈ ss.filterMap (stPS g) ↔ p.2 ∈ ss ∧ g p.2 = some p.1 := by
  rw [List.mem_filterMap]
  constructor
  · rintro ⟨s, hs, e⟩
    obtain ⟨n, hn, rfl⟩ := Option.map_eq_some_iff.mp e
    exact ⟨hs, hn⟩
  · rintro ⟨h1, h2⟩
    exact ⟨p.2, h1, by unfold stPS; rw [h2]; rfl⟩
def spBest (C : Addr) : Sp := fun vs H Q _ => ∃ (m : Addr) (M : MachV) (row : PySem.Str), vs = [.ref m, .str row] ∧ IsMach C H m M ∧ MGood M ∧ RowOk row ∧
  (∀ H', (∀ s ∈ M.sts, Rest M.ars M.ens (sgnL row) s none) → Same H H' → Q .non H') ∧
  ∀ (run : List PySem.Str) (t : Addr) (H' : Hp), BestR M.ars M.sts M.ens (sgnL row) run → H' t = some (.tup (run.map V.str)) → Same H H' → Q (.ref t) H'
theorem atI_lastS (s : PySem.Str) (r : List PySem.Str) : atI ((s :: r).map V.str) (-1) = some (.str (r.getLastD s)) := by
  rcases List.eq_nil_or_concat r with rfl | ⟨f, q, rfl⟩
  · exact atI_last (xs := []) (V.str s)
  · rw [List.concat_eq_append, List.getLastD_concat, ← List.cons_append, List.map_append]
    exact atI_last ..
end Bz

namespace Bz
open PySem PySem.Spec PyProof.Rows L2
/-! ### runs on the heap: a tuple of states and their sum -/
abbrev RnS (H : Hp) (us : List V) (ps : List RunI) : Prop := Paired (fun v p => ∃ q t, v = V.ref q ∧ H q = some (.tup [.ref t, .int p.2]) ∧ H t = some (.tup (p.1.map V.str))) us ps
theorem RnS.same {H H' : Hp} {us : List V} {ps : List RunI} (h : RnS H us ps) (e : Same H H') : RnS H' us ps := Paired.mapP h fun v p ⟨q, t, ev, h1, h2⟩ => ⟨q, t, ev, e _ _ h1, e _ _ h2⟩
def RnD (D : Addr) (H : Hp) (us : List V) (ps : List RunI) : Prop := Paired (fun v p => ∃ q t, v = V.ref q ∧ q ≠ D ∧ t ≠ D ∧ H q = some (.tup [.ref t, .int p.2]) ∧ H t = some (.tup (p.1.map V.str))) us ps
theorem RnD.upd {D : Addr} {H : Hp} {us : List V} {ps : List RunI} {o : HO} (h : RnD D H us ps) : RnD D (L2.upd H D o) us ps := Paired.mapP h fun v p ⟨q, t, ev, n1, n2, h1, h2⟩ => ⟨q, t, ev, n1, n2, (upd_ne n1).trans h1, (upd_ne n2).trans h2⟩
theorem RnD.keep {D : Addr} {H H' : Hp} {us : List V} {ps : List RunI} (h : RnD D H us ps) (e : Same H H') : RnD D H' us ps := Paired.mapP h fun v p ⟨q, t, ev, n1, n2, h1, h2⟩ => ⟨q, t, ev, n1, n2, e _ _ h1, e _ _ h2⟩
theorem RnD.snoc {D g t : Addr} {H : Hp} {us : List V} {ps : List RunI} {p : RunI} (h : RnD D H us ps) (n1 : g ≠ D) (n2 : t ≠ D) (e1 : H g = some (.tup [.ref t, .int p.2])) (e2 : H t = some (.tup (p.1.map V.str))) : RnD D H (us ++ [.ref g]) (ps ++ [p]) := paired_snoc h ⟨g, t, rfl, n1, n2, e1, e2⟩
theorem RnD.rn {D : Addr} {H : Hp} {us : List V} {ps : List RunI} (h : RnD D H us ps) : RnS H us ps := Paired.mapP h fun v p ⟨q, t, ev, _, _, h1, h2⟩ => ⟨q, t, ev, h1, h2⟩
theorem paired_app2 {α β : Type} {R : α → β → Prop} {as bs : List α} {cs ds : List β} (h1 : Paired R as cs) (h2 : Paired R bs ds) : Paired R (as ++ bs) (cs ++ ds) := by
  induction h1 with
  | nil => exact h2
  | cons a _ ih => exact .cons a ih
/-- runs that are never empty, of names alone -/
def RnOk (ps : List RunI) : Prop := ∀ p ∈ ps, p.1 ≠ [] ∧ p.1.length ≤ 10 ∧ ∀ s ∈ p.1, ∀ c ∈ TL.tl s, Sg c
def spRunsL (K : PySem.W.Frag) : Sp := fun vs H Q _ => ∃ (m a b e : Addr) (us : List V) (xs : List Arw) (ss es : List PySem.Str) (row : PySem.Str), vs = [.ref m, .str row] ∧ MadeL K H m a b e us xs ss es ∧ (∀ x ∈ xs, x.Ok) ∧ xs.length ≤ 9 ∧ ss.length ≤ 5 ∧ (∀ s ∈ ss, ∀ c ∈ TL.tl s, Sg c) ∧ row.length ≤ 5 ∧ (∀ c ∈ TL.tl row, Sg c) ∧
  ∀ (q : Addr) (ws : List V) (os : List PySem.Str) (H' : Hp), H q = none → H' q = some (.lst ws) → RnS H' ws (allRuns xs os es (sgnL row)) → Asc os → (∀ k, k ∈ os ↔ k ∈ ss) → ws.length ≤ 295245 → RnOk (allRuns xs os es (sgnL row)) → Same H H' → Q (.ref q) H'
theorem getLastD_map (r : List PySem.Str) (h : r ≠ []) : atI (r.map V.str) (-1) = some (.str (r.getLastD "")) := by
  cases r with
  | nil => exact absurd rfl h
  | cons s r =>
    rw [atI_lastS, List.getLastD_cons]
theorem last_sg {r : List PySem.Str} (h : r ≠ []) (k : ∀ s ∈ r, ∀ c ∈ TL.tl s, Sg c) : ∀ c ∈ TL.tl (r.getLastD ""), Sg c := by
  refine k _ ?_
  rw [List.getLastD_eq_getLast?, List.getLast?_eq_getLast h]
  exact List.getLast_mem h
theorem ext_ok {xs : List Arw} {l : PySem.Str} {p : RunI} {k : Nat} (hx : ∀ x ∈ xs, x.Ok) (h : p.1 ≠ [] ∧ p.1.length ≤ k ∧ ∀ s ∈ p.1, ∀ c ∈ TL.tl s, Sg c) : ∀ r ∈ extR xs l p, r.1 ≠ [] ∧ r.1.length ≤ k + 1 ∧ ∀ s ∈ r.1, ∀ c ∈ TL.tl s, Sg c := by
  intro r hr
  obtain ⟨x, hx', rfl⟩ := List.mem_map.mp hr
  refine ⟨by simp, by rw [List.length_append, List.length_singleton]; omega, fun s hs => ?_⟩
  rcases List.mem_append.mp hs with hs | hs
  · exact h.2.2 s hs
  · rw [List.mem_singleton.mp hs]
    exact (hx x (List.mem_filter.mp hx').1).t.2.2
theorem lt_one {l : PySem.Str} (h : Lt l) : ∃ ch, TL.tl l = [ch] ∧ Sg ch := by
  have h1 := h.1
  rw [len_tl] at h1
  obtain ⟨ch, e⟩ := List.length_eq_one_iff.mp h1
  exact ⟨ch, e, h.2 ch (by rw [e]; exact List.mem_singleton.mpr rfl)⟩
theorem cheap_self {ys : List Arw} (h : ys.Pairwise fun x y => lexK x.k3 y.k3 = true) : CheapOf ys ys :=
  ⟨h, fun y hy => ⟨hy, fun x hx e => by rw [k3_inj (k3_ne h) hx hy e]; exact Int.le_refl _⟩, fun x hx => ⟨x, hx, rfl⟩⟩
def dpRun (p : RunI) : PyData := .tuple [.tuple (p.1.map PyData.str), .int p.2]
theorem dp_runs {K : PySem.W.Frag} {H : Hp} {us : List V} {ps : List RunI} (h : RnS H us ps) : DpAll K H us (ps.map dpRun) := by
  induction h with
  | nil => exact .nil
  | cons a _ ih =>
    obtain ⟨q, t, rfl, h1, h2⟩ := a
    exact .cons (.tup (SqT.of h1) (.cons (.tup (SqT.of h2) (dp_strs _)) (.cons (.int _) .nil))) ih
theorem lay_strs {r : List PySem.Str} (h : ∀ s ∈ r, ∀ c ∈ TL.tl s, Sg c) : PyData.canLayAll0 (r.map PyData.str) = true ∧ PyData.depthAll (r.map PyData.str) ≤ 0 := by
  induction r with
  | nil => exact ⟨by simp only [List.map_nil, PyData.canLayAll0], by simp only [List.map_nil, PyData.depthAll]; omega⟩
  | cons s r ih =>
    obtain ⟨h1, h2⟩ := ih fun z hz => h z (List.mem_cons_of_mem _ hz)
    simp only [List.map_cons, PyData.canLayAll0, PyData.depthAll, PyData.canLay0, PyData.depth, sOk_of (h s (List.mem_cons_self ..)), h1]
    exact ⟨rfl, by omega⟩
theorem shaped_strs {r : List PySem.Str} (h : ∀ s ∈ r, ∀ c ∈ TL.tl s, Sg c) : SeqAt.shaped (.tuple (r.map PyData.str)) = true := by
  obtain ⟨h1, h2⟩ := lay_strs h
  unfold SeqAt.shaped
  simp only [PyData.canLay0, PyData.depth, h1, Bool.true_and]
  exact decide_eq_true (by omega)
theorem shaped_runs {ps : List RunI} (h : RnOk ps) : SeqAt.shaped (.list (ps.map dpRun)) = true := by
  have q : PyData.canLayAll0 (ps.map dpRun) = true ∧ PyData.depthAll (ps.map dpRun) ≤ 3 := by
    induction ps with
    | nil => exact ⟨by simp only [List.map_nil, PyData.canLayAll0], by simp only [List.map_nil, PyData.depthAll]; omega⟩
    | cons p ps ih =>
      obtain ⟨h1, h2⟩ := ih fun z hz => h z (List.mem_cons_of_mem _ hz)
      obtain ⟨h3, h4⟩ := lay_strs (h p (List.mem_cons_self ..)).2.2
      unfold dpRun at h1 h2 ⊢
      simp only [List.map_cons, PyData.canLayAll0, PyData.depthAll, PyData.canLay0, PyData.depth, h1, h3]
      exact ⟨rfl, by omega⟩
  unfold SeqAt.shaped
  simp only [PyData.canLay0, PyData.depth, q.1, Bool.true_and]
  exact decide_eq_true (by omega)
theorem eqvAll_strs (r : List PySem.Str) : PyData.eqvAll (r.map PyData.str) (r.map PyData.str) = true := by
  induction r with
  | nil => simp [PyData.eqvAll]
  | cons s r ih => simp [PyData.eqvAll, PyData.eqv, ih]
theorem eqv_tstrs (r : List PySem.Str) : PyData.eqv (.tuple (r.map PyData.str)) (.tuple (r.map PyData.str)) = true := by
  simp only [PyData.eqv]
  exact eqvAll_strs r
theorem runs_nil {xs : List Arw} {ss es ls : List PySem.Str} (h : ∀ s ∈ ss, Rest xs es ls s none) : allRuns xs ss es ls = [] := by
  refine List.eq_nil_iff_forall_not_mem.mpr fun p hp => ?_
  obtain ⟨s, hs, r, _, hr, he⟩ := mem_allRuns.mp hp
  exact h s hs p.2 ⟨_, he, runW_run hr⟩
theorem runs_ne {xs : List Arw} {ss es ls b : List PySem.Str} (h : BestR xs ss es ls b) : allRuns xs ss es ls ≠ [] := by
  obtain ⟨s, r, rfl, hs, ⟨n, hn, _⟩, hb⟩ := h
  obtain ⟨h1, h2⟩ := best_sum hb hn
  intro z
  have : ((s :: r, n) : RunI) ∈ allRuns xs ss es ls := mem_allRuns.mpr ⟨s, hs, r, rfl, h1, h2⟩
  rw [z] at this
  cases this
theorem sgnL_app (a b : PySem.Str) : sgnL (a ++ b) = sgnL a ++ sgnL b := by
  have e : (a ++ b).cps.toList = a.cps.toList ++ b.cps.toList := TL.tl_append a b
  unfold sgnL
  rw [e, List.map_append]
theorem no_z {xs : List Arw} {es : List PySem.Str} {l s : PySem.Str} {n : Int} (hx : ∀ x ∈ xs, x.l ≠ "z") : ¬ Rest xs es (sgnL (l ++ "z")) s (some n) := by
  rintro ⟨⟨e, _, r⟩, _⟩
  have ez : sgnL "z" = [("z" : PySem.Str)] := by decide +kernel
  rw [sgnL_app, ez] at r
  obtain ⟨x, hx', e1, _⟩ := (run_snoc _ _ _ _).mp r
  exact hx x hx' e1
theorem z_not : ∀ l ∈ (["a", "b", "c", "d"] : List PySem.Str), l ≠ "z" := by
  have q : ((["a", "b", "c", "d"] : List PySem.Str).all fun l => decide (l ≠ "z")) = true := by decide +kernel
  exact fun l hl => of_decide_eq_true (List.all_eq_true.mp q l hl)
theorem MadeL.ext {K : PySem.W.Frag} {H H' : Hp} {m a b e p : Addr} {c : Nat} {us : List V} {xs : List Arw} {ss es : List PySem.Str} (h : MadeL K H m a b e us xs ss es) (s : Src H p c) (n1 : a ≠ p) (n2 : b ≠ p) (n3 : e ≠ p) (x : Ext p H H') : MadeL K H' m a b e us xs ss es := by
  obtain ⟨g, s0, k, hp, _⟩ := s
  have nt : ∀ {q : Addr} {xs : List V}, H q = some (.tup xs) → H' q = some (.tup xs) := fun {q xs} hq => x _ _ (ne_of hq hp (by intro z; cases z)) hq
  exact ⟨nt h.m, x.sq n1 h.a, Paired.mapP h.as fun v y ⟨q, ev, hq⟩ => ⟨q, ev, nt hq⟩, x.sq n2 h.b, x.sq n3 h.e⟩
/-- first texts of runs, at D no more -/
def TsD (D : Addr) (H : Hp) (us : List V) (ps : List RunI) : Prop := Paired (fun v p => ∃ t, v = V.ref t ∧ t ≠ D ∧ H t = some (.tup (p.1.map V.str))) us ps
theorem TsD.upd {D : Addr} {H : Hp} {us : List V} {ps : List RunI} {o : HO} (h : TsD D H us ps) : TsD D (L2.upd H D o) us ps := Paired.mapP h fun v p ⟨t, ev, n, h1⟩ => ⟨t, ev, n, (upd_ne n).trans h1⟩
theorem TsD.keep {D : Addr} {H H' : Hp} {us : List V} {ps : List RunI} (h : TsD D H us ps) (e : Same H H') : TsD D H' us ps := Paired.mapP h fun v p ⟨t, ev, n, h1⟩ => ⟨t, ev, n, e _ _ h1⟩
theorem allRuns_congr {xs : List Arw} {ss es gs ls : List PySem.Str} (h : ∀ z, z ∈ es ↔ z ∈ gs) : allRuns xs ss es ls = allRuns xs ss gs ls := by
  unfold allRuns
  refine List.filter_congr fun p _ => ?_
  rw [decide_eq_decide]
  exact h _
end Bz

namespace Bz
open PySem PySem.Spec PyProof.Rows L2
/-! ### prices put together -/
def addO : Option Int → Option Int → Option Int
  | some a, some b => some (a + b)
  | _, _ => none
def spLeast1 (K : PySem.W.Frag) : Sp := fun vs H Q _ => ∃ (a : Addr) (os : List (Option Int)), vs = [.ref a] ∧ SqL K H a (os.map optV) ∧ os.length ≤ 100000 ∧ ∀ (o : Option Int) (H' : Hp), LeastO (fun n => some n ∈ os) o → Same H H' → Q (optV o) H'
def spSum2 : Sp := fun vs H Q _ => ∃ a b : Option Int, vs = [optV a, optV b] ∧ Q (optV (addO a b)) H
theorem map_opt {os : List (Option Int)} {i : Nat} {y : V} (h : (os.map optV)[i]? = some y) : ∃ o, y = optV o ∧ os[i]? = some o := by
  rw [List.getElem?_map] at h
  obtain ⟨o, e1, e2⟩ := Option.map_eq_some_iff.mp h
  exact ⟨o, e2.symm, e1⟩
theorem optV_none (o : Option Int) : decide (optV o = .non) = o.isNone := by cases o <;> rfl
/-! a run's sum, letter by letter -/
theorem filter_one {xs : List Arw} (h : xs.Pairwise fun x y => x.k3 ≠ y.k3) {x : Arw} (hx : x ∈ xs) : (xs.filter fun y => decide (y.s = x.s) && (decide (y.l = x.l) && decide (y.t = x.t))) = [x] := by
  induction xs with
  | nil => cases hx
  | cons z xs ih =>
    obtain ⟨h1, h2⟩ := List.pairwise_cons.mp h
    rcases List.mem_cons.mp hx with e | hx
    · subst e
      rw [List.filter_cons_of_pos (by simp)]
      congr 1
      refine List.filter_eq_nil_iff.mpr fun y hy c => h1 y hy ?_
      simp only [Bool.and_eq_true, decide_eq_true_eq] at c
      unfold Arw.k3
      rw [c.1, c.2.1, c.2.2]
    · rw [List.filter_cons_of_neg, ih h2 hx]
      intro c
      simp only [Bool.and_eq_true, decide_eq_true_eq] at c
      refine h1 x hx ?_
      unfold Arw.k3
      rw [c.1, c.2.1, c.2.2]
def spRunP (C : Addr) : Sp := fun vs H Q _ => ∃ (m t : Addr) (M : MachV) (row s : PySem.Str) (r : List PySem.Str) (w : Int), vs = [.ref m, .str row, .ref t] ∧ IsMach C H m M ∧ MFine M ∧ (M.ars.Pairwise fun x y => lexK x.k3 y.k3 = true) ∧ RowOk row ∧ H t = some (.tup ((s :: r).map V.str)) ∧
  RunW M.ars (sgnL row) s r w ∧ s ∈ M.sta ∧ ∀ H', Same H H' → Q (.int w) H'
/-- what is left of a run behind the i-th letter -/
def RLeft (xs : List Arw) (ls run : List PySem.Str) (i : Nat) (w' : Int) : Prop := ∃ q r', run.drop i = q :: r' ∧ RunW xs (ls.drop i) q r' w'
theorem RLeft.step {xs : List Arw} {ls run : List PySem.Str} {i : Nat} {w' : Int} {l : PySem.Str} (h : RLeft xs ls run i w') (hl : ls[i]? = some l) : ∃ x ∈ xs, x.l = l ∧ run[i]? = some x.s ∧ run[i + 1]? = some x.t ∧ ∃ w2, w' = x.c + w2 ∧ RLeft xs ls run (i + 1) w2 := by
  obtain ⟨q, r', e, h⟩ := h
  obtain ⟨hi, el⟩ := List.getElem?_eq_some_iff.mp hl
  rw [List.drop_eq_getElem_cons hi, el] at h
  obtain ⟨x, hx, e1, e2, r2, w2, e3, h2, e4⟩ := h
  subst e3
  have d0 : run[i]? = some q := by
    have := congrArg (fun l => l[0]?) e
    simpa using this
  have d1 : run.drop (i + 1) = x.t :: r2 := by
    have := congrArg List.tail e
    simpa using this
  have d2 : run[i + 1]? = some x.t := by
    have := congrArg (fun l => l[0]?) d1
    simpa using this
  exact ⟨x, hx, e2, by rw [d0, e1], d2, w2, e4, x.t, r2, d1, h2⟩
theorem shaped_lstrs {r : List PySem.Str} (h : ∀ s ∈ r, ∀ c ∈ TL.tl s, Sg c) : SeqAt.shaped (.list (r.map PyData.str)) = true := by
  obtain ⟨h1, h2⟩ := lay_strs h
  unfold SeqAt.shaped
  simp only [PyData.canLay0, PyData.depth, h1, Bool.true_and]
  exact decide_eq_true (by omega)
/-! cut texts -/
theorem tl_cutD (z : PySem.Str) (k : Nat) : TL.tl (cutS z (some (k : Int)) none) = (TL.tl z).drop k := by
  have e1 : HT.sIx z.length 0 (some (k : Int)) = min k z.length := sIx_min
  have e2 : HT.sIx z.length z.length none = z.length := rfl
  unfold cutS
  show (List.take (HT.sIx z.length z.length none - HT.sIx z.length 0 (some (k : Int))) (List.drop (HT.sIx z.length 0 (some (k : Int))) z.cps.toList)).toArray.toList = _
  rw [e1, e2]
  show List.take (z.length - min k z.length) (List.drop (min k z.length) z.cps.toList) = List.drop k z.cps.toList
  have el : z.length = z.cps.toList.length := len_tl z
  rw [el]
  by_cases c : k ≤ z.cps.toList.length
  · rw [Nat.min_eq_left c]
    exact List.take_of_length_le (by rw [List.length_drop]; omega)
  · rw [Nat.min_eq_right (by omega), List.drop_of_length_le (by omega), List.drop_of_length_le (by omega)]
    simp
theorem sgnL_tl (z : PySem.Str) : sgnL z = (TL.tl z).map fun ch => (⟨#[ch]⟩ : PySem.Str) := rfl
theorem sgnL_cutD (z : PySem.Str) (k : Nat) : sgnL (cutS z (some (k : Int)) none) = (sgnL z).drop k := by
  rw [sgnL_tl, sgnL_tl, tl_cutD, List.map_drop]
theorem sgnL_cutN (z : PySem.Str) (k : Nat) : sgnL (cutS z none (some (k : Int))) = (sgnL z).take k := by
  rw [sgnL_tl, sgnL_tl, tl_cutN, List.map_take]
theorem RowOk.cutD {z : PySem.Str} (h : RowOk z) (k : Nat) : RowOk (cutS z (some (k : Int)) none) := by
  refine ⟨?_, fun c hc => ?_⟩
  · have := h.1
    rw [len_tl] at this
    rw [len_tl, tl_cutD, List.length_drop]
    omega
  · rw [tl_cutD] at hc
    exact h.2 c (List.mem_of_mem_drop hc)
theorem RowOk.cutN {z : PySem.Str} (h : RowOk z) (k : Nat) : RowOk (cutS z none (some (k : Int))) := by
  refine ⟨?_, fun c hc => ?_⟩
  · have := h.1
    rw [len_tl] at this
    rw [len_tl, tl_cutN, List.length_take]
    omega
  · rw [tl_cutN] at hc
    exact h.2 c (List.mem_of_mem_take hc)
/-! the first of the least -/
theorem kP_ge {a b : Int} {s t : PySem.Str} (h : b ≤ a) (k : a = b → ¬ s.cps.toList < t.cps.toList) : lexK (kP (a, s)) (kP (b, t)) = false := by
  unfold kP lexK
  by_cases e : a = b
  · subst e
    rw [if_pos rfl]
    unfold lexK
    by_cases e2 : (Sum.inr s : Ky) = .inr t
    · rw [if_pos e2]
      rfl
    · rw [if_neg e2]
      exact decide_eq_false (k rfl)
  · rw [if_neg (fun z => e (Sum.inl.inj z))]
    exact decide_eq_false (by omega)
theorem asc_head {L : List PySem.Str} {p : PySem.Str → Bool} {s0 : PySem.Str} {rest : List PySem.Str} (h : Asc L) (e : L.filter p = s0 :: rest) {s : PySem.Str} (hs : s ∈ L) (hp : p s = true) : ¬ s.cps.toList < s0.cps.toList := by
  have m : s ∈ L.filter p := List.mem_filter.mpr ⟨hs, hp⟩
  have a := h.sublist (List.filter_sublist (p := p))
  rw [e] at m a
  rcases List.mem_cons.mp m with rfl | m
  · exact List.lt_irrefl _
  · exact fun c => List.lt_irrefl _ (List.lt_trans c ((List.pairwise_cons.mp a).1 s m))
theorem ars_head {xs : List Arw} {p : Arw → Bool} {x0 : Arw} {rest : List Arw} (h : xs.Pairwise fun x y => lexK x.k3 y.k3 = true) (e : xs.filter p = x0 :: rest) {y : Arw} (hy : y ∈ xs) (hp : p y = true) (e1 : x0.s = y.s) (e2 : x0.l = y.l) : ¬ y.t.cps.toList < x0.t.cps.toList := by
  have m : y ∈ xs.filter p := List.mem_filter.mpr ⟨hy, hp⟩
  have a := h.sublist (List.filter_sublist (p := p))
  rw [e] at m a
  rcases List.mem_cons.mp m with rfl | m
  · exact List.lt_irrefl _
  · exact fun c => List.lt_irrefl _ (List.lt_trans c (k3_t ((List.pairwise_cons.mp a).1 y m) e1 e2))
theorem strs_antisymm {a b : PySem.Str} (h1 : ¬ a.cps.toList < b.cps.toList) (h2 : ¬ b.cps.toList < a.cps.toList) : a = b := ext_tl (List.le_antisymm (List.not_lt.mp h2) (List.not_lt.mp h1))
theorem bstep_uniq {xs : List Arw} {es ls : List PySem.Str} {l q a b : PySem.Str} (h1 : BStep xs es ls l q a) (h2 : BStep xs es ls l q b) : a = b := by
  obtain ⟨x, hx, e1, e2, rfl, n, hn, hm⟩ := h1
  obtain ⟨y, hy, f1, f2, rfl, k, hk, hj⟩ := h2
  obtain ⟨a1, a2⟩ := kP_false (hm y hy f1 f2 k hk)
  obtain ⟨b1, b2⟩ := kP_false (hj x hx e1 e2 n hn)
  exact strs_antisymm (b2 (by omega)) (a2 (by omega))
theorem bestFrom_uniq {xs : List Arw} {es : List PySem.Str} : ∀ {ls : List PySem.Str} {q : PySem.Str} {a b : List PySem.Str}, BestFrom xs es ls q a → BestFrom xs es ls q b → a = b
  | [], _, _, _, h1, h2 => (show _ = [] from h1).trans (show _ = [] from h2).symm
  | l :: ls, q, a, b, h1, h2 => by
    obtain ⟨q1, r1, rfl, s1, b1⟩ := h1
    obtain ⟨q2, r2, rfl, s2, b2⟩ := h2
    obtain rfl := bstep_uniq s1 s2
    rw [bestFrom_uniq b1 b2]
theorem bestR_uniq {xs : List Arw} {ss es ls a b : List PySem.Str} (h1 : BestR xs ss es ls a) (h2 : BestR xs ss es ls b) : a = b := by
  obtain ⟨s1, r1, rfl, m1, ⟨n1, k1, j1⟩, b1⟩ := h1
  obtain ⟨s2, r2, rfl, m2, ⟨n2, k2, j2⟩, b2⟩ := h2
  obtain ⟨a1, a2⟩ := kP_false (j1 s2 m2 n2 k2)
  obtain ⟨c1, c2⟩ := kP_false (j2 s1 m1 n1 k1)
  obtain rfl := strs_antisymm (c2 (by omega)) (a2 (by omega))
  rw [bestFrom_uniq b1 b2]
theorem rest_price {xs : List Arw} {ss es ls : List PySem.Str} (h : ∀ s ∈ ss, Rest xs es ls s none) : LPr xs ss es ls none := by
  rintro n ⟨s, hs, e, he, r⟩
  exact h s hs n ⟨e, he, r⟩
theorem list_least : ∀ ns : List Int, ∃ o, LeastO (fun n => n ∈ ns) o
  | [] => ⟨none, fun n h => by cases h⟩
  | n :: ns => ⟨some (PySem.W.minOf n ns), (minOf_is n ns).1, (minOf_is n ns).2⟩
theorem rest_total (xs : List Arw) (es ls : List PySem.Str) (q : PySem.Str) : ∃ o, Rest xs es ls q o := by
  obtain ⟨o, ho⟩ := list_least (((tails xs ls q).filter fun p => decide (p.1.getLastD q ∈ es)).map (·.2))
  refine ⟨o, LeastO.iff (fun n => ?_) ho⟩
  rw [List.mem_map]
  constructor
  · rintro ⟨p, hp, rfl⟩
    obtain ⟨h1, h2⟩ := List.mem_filter.mp hp
    exact ⟨_, of_decide_eq_true h2, runW_run (mem_tails.mp h1)⟩
  · rintro ⟨e, he, r⟩
    obtain ⟨rr, h1, h2⟩ := runW_of r
    exact ⟨(rr, n), List.mem_filter.mpr ⟨mem_tails.mpr h1, decide_eq_true (by rw [h2]; exact he)⟩, rfl⟩
theorem best_price {xs : List Arw} {ss es ls run : List PySem.Str} (h : BestR xs ss es ls run) : ∃ s r n, run = s :: r ∧ s ∈ ss ∧ RunW xs ls s r n ∧ r.getLastD s ∈ es ∧ LPr xs ss es ls (some n) := by
  obtain ⟨s, r, rfl, hs, ⟨n, hn, hm⟩, hb⟩ := h
  obtain ⟨h1, h2⟩ := best_sum hb hn
  refine ⟨s, r, n, rfl, hs, h1, h2, ⟨s, hs, _, h2, runW_run h1⟩, ?_⟩
  rintro k ⟨s', hs', e, he, rr⟩
  obtain ⟨o, ho⟩ := rest_total xs es ls s'
  cases o with
  | none => exact absurd ⟨e, he, rr⟩ (ho k)
  | some m =>
    have := (kP_false (hm s' hs' m ho)).1
    have := ho.2 k ⟨e, he, rr⟩
    omega
theorem runW_len {xs : List Arw} : ∀ {ls : List PySem.Str} {q : PySem.Str} {r : List PySem.Str} {w : Int}, RunW xs ls q r w → r.length = ls.length
  | [], _, _, _, h => by rw [h.1]
  | l :: ls, q, r, w, h => by
    obtain ⟨x, _, _, _, r', w', rfl, h, _⟩ := h
    rw [List.length_cons, List.length_cons, runW_len h]
theorem runW_mem {xs : List Arw} {S : List PySem.Str} (hx : ∀ x ∈ xs, x.s ∈ S ∧ x.t ∈ S) : ∀ {ls : List PySem.Str} {q : PySem.Str} {r : List PySem.Str} {w : Int}, RunW xs ls q r w → ∀ s ∈ r, s ∈ S
  | [], _, _, _, h => by rw [h.1]; intro s hs; cases hs
  | l :: ls, q, r, w, h => by
    obtain ⟨x, hx', _, _, r', w', rfl, h, _⟩ := h
    intro s hs
    rcases List.mem_cons.mp hs with rfl | hs
    · exact (hx x hx').2
    · exact runW_mem hx h s hs
theorem run_sta {xs : List Arw} {S : List PySem.Str} (hx : ∀ x ∈ xs, x.s ∈ S ∧ x.t ∈ S) : ∀ {ls : List PySem.Str} {a b : PySem.Str} {n : Int}, a ∈ S → RunS xs ls a b n → b ∈ S
  | [], a, b, n, ha, h => by rw [← h.1]; exact ha
  | l :: ls, a, b, n, ha, h => by
    obtain ⟨x, hx', _, _, m, h, _⟩ := h
    exact run_sta hx (hx x hx').2 h
/-- from one state to another -/
def Btw (xs : List Arw) (ls : List PySem.Str) (a b : PySem.Str) (o : Option Int) : Prop := LeastO (fun n => RunS xs ls a b n) o
theorem btw_of {xs : List Arw} {ls : List PySem.Str} {a b : PySem.Str} {o : Option Int} (h : LeastO (fun n => ∃ e ∈ [b], Rch xs [a] ls e n) o) : Btw xs ls a b o := by
  refine LeastO.iff (fun n => ?_) h
  constructor
  · rintro ⟨e, he, r⟩
    rw [List.mem_singleton.mp he] at r
    obtain ⟨s, hs, r⟩ := (rch_run _ _ _ _ rfl).mp r
    rw [List.mem_singleton.mp hs] at r
    exact r
  · exact fun r => ⟨b, List.mem_singleton.mpr rfl, (rch_run _ _ _ _ rfl).mpr ⟨a, List.mem_singleton.mpr rfl, r⟩⟩
theorem addO_some {a b : Option Int} {n : Int} (h : addO a b = some n) : ∃ i j, a = some i ∧ b = some j ∧ n = i + j := by
  cases a <;> cases b <;> cases h
  exact ⟨_, _, rfl, rfl, rfl⟩
/-- the sums over all states between -/
theorem cut_least {xs : List Arw} {S : List PySem.Str} {l1 l2 : List PySem.Str} {a b : PySem.Str} {os : List (Option Int)} {o : Option Int} (hx : ∀ x ∈ xs, x.s ∈ S ∧ x.t ∈ S) (ha : a ∈ S)
    (ho : ∀ z, z ∈ os ↔ ∃ c ∈ S, ∃ x y, Btw xs l1 a c x ∧ Btw xs l2 c b y ∧ z = addO x y) (hl : LeastO (fun n => some n ∈ os) o) : Btw xs (l1 ++ l2) a b o := by
  refine LeastO.both (fun n hn => ?_) (fun n hn => ?_) hl
  · obtain ⟨c, _, x, y, h1, h2, e⟩ := (ho _).mp hn
    obtain ⟨i, j, rfl, rfl, rfl⟩ := addO_some e.symm
    exact ⟨_, Int.le_refl _, (run_app _ _ _ _).mpr ⟨c, i, j, h1.1, h2.1, rfl⟩⟩
  · obtain ⟨c, i, j, r1, r2, rfl⟩ := (run_app _ _ _ _).mp hn
    have hc := run_sta hx ha r1
    have g1 : ∃ x, Btw xs l1 a c (some x) ∧ x ≤ i := by
      obtain ⟨z, hz⟩ := rest_total xs [c] l1 a
      have hz' : Btw xs l1 a c z := LeastO.iff (fun n => ⟨fun ⟨e, he, r⟩ => by rw [List.mem_singleton.mp he] at r; exact r, fun r => ⟨c, List.mem_singleton.mpr rfl, r⟩⟩) hz
      cases z with
      | none => exact absurd r1 (hz' i)
      | some x => exact ⟨x, hz', hz'.2 i r1⟩
    have g2 : ∃ x, Btw xs l2 c b (some x) ∧ x ≤ j := by
      obtain ⟨z, hz⟩ := rest_total xs [b] l2 c
      have hz' : Btw xs l2 c b z := LeastO.iff (fun n => ⟨fun ⟨e, he, r⟩ => by rw [List.mem_singleton.mp he] at r; exact r, fun r => ⟨b, List.mem_singleton.mpr rfl, r⟩⟩) hz
      cases z with
      | none => exact absurd r2 (hz' j)
      | some x => exact ⟨x, hz', hz'.2 j r2⟩
    obtain ⟨x, hx1, lx⟩ := g1
    obtain ⟨y, hy1, ly⟩ := g2
    exact ⟨x + y, by omega, (ho _).mpr ⟨c, hc, some x, some y, hx1, hy1, rfl⟩⟩
/-- the least between starts and ends -/
theorem ways_least {xs : List Arw} {ss es ls : List PySem.Str} {os : List (Option Int)} {o : Option Int} (ho : ∀ z, z ∈ os ↔ ∃ s ∈ ss, ∃ e ∈ es, Btw xs ls s e z) (hl : LeastO (fun n => some n ∈ os) o) : LPr xs ss es ls o := by
  refine LeastO.both (fun n hn => ?_) (fun n hn => ?_) hl
  · obtain ⟨s, hs, e, he, h⟩ := (ho _).mp hn
    exact ⟨n, Int.le_refl _, s, hs, e, he, h.1⟩
  · obtain ⟨s, hs, e, he, r⟩ := hn
    obtain ⟨z, hz⟩ := rest_total xs [e] ls s
    have hz' : Btw xs ls s e z := LeastO.iff (fun n => ⟨fun ⟨e', he', r⟩ => by rw [List.mem_singleton.mp he'] at r; exact r, fun r => ⟨e, List.mem_singleton.mpr rfl, r⟩⟩) hz
    cases z with
    | none => exact absurd r (hz' n)
    | some m => exact ⟨m, hz'.2 n r, (ho _).mpr ⟨s, hs, e, he, hz'⟩⟩
def spFirst (K : PySem.W.Frag) (C : Addr) : Sp := fun vs H Q _ => ∃ (m : Addr) (M : MachV) (row : PySem.Str), vs = [.ref m, .str row] ∧ IsMach C H m M ∧ MFine M ∧ (M.ars.Pairwise fun x y => lexK x.k3 y.k3 = true) ∧ Asc M.sts ∧ RowOk row ∧
  (∀ H', (∀ s ∈ M.sts, Rest M.ars M.ens (sgnL row) s none) → Same H H' → Q .non H') ∧
  ∀ (run : List PySem.Str) (t : Addr) (H' : Hp), BestR M.ars M.sts M.ens (sgnL row) run → H' t = some (.tup (run.map V.str)) → Same H H' → Q (.ref t) H'
/-- dicts of what is left, none of them at D -/
def AhD (D : Addr) (H : Hp) (ds : List V) (gs : List (PySem.Str → Option Int)) : Prop := Paired (fun v g => ∃ d kvs, v = V.ref d ∧ d ≠ D ∧ H d = some (.dK kvs) ∧ Holds1 kvs g) ds gs
theorem AhD.upd {D : Addr} {H : Hp} {ds : List V} {gs : List (PySem.Str → Option Int)} {o : HO} (h : AhD D H ds gs) : AhD D (L2.upd H D o) ds gs := Paired.mapP h fun v g ⟨d, kvs, ev, n, hd, hg⟩ => ⟨d, kvs, ev, n, (upd_ne n).trans hd, hg⟩
theorem AhD.keep {D : Addr} {H H' : Hp} {ds : List V} {gs : List (PySem.Str → Option Int)} (h : AhD D H ds gs) (e : Same H H') : AhD D H' ds gs := Paired.mapP h fun v g ⟨d, kvs, ev, n, hd, hg⟩ => ⟨d, kvs, ev, n, e _ _ hd, hg⟩
theorem AhD.ah {D : Addr} {H : Hp} {ds : List V} {gs : List (PySem.Str → Option Int)} (h : AhD D H ds gs) : AhS H ds gs := Paired.mapP h fun v g ⟨d, kvs, ev, _, hd, hg⟩ => ⟨d, kvs, ev, hd, hg⟩
end Bz

namespace Bz
open PySem PySem.Spec PyProof.Rows L2
open AutoSeq1 (wpAny_loadPart')
/-! ### enumerate(tuple) -/
theorem new_enumTu (l : Addr) (ia : Array Value) (n : Nat) (dj : Option Addr) (sl : Array (Option Value)) :
    Meets (Builtin.«enumerate.__new__» ⟨[.type "enumerate", .ref l], []⟩) (fun _ R s => s.heap.get? l = some { cls := .type "tuple", dict := dj, data := .seq ia n, slots := sl } ∧
      R (.ok (.ret (.ref (s.heap.push { cls := .type "tuple_iterator", data := .fields #[.ref l, .int 0 0] }).objs.size)))
        { s with heap := (s.heap.push { cls := .type "tuple_iterator", data := .fields #[.ref l, .int 0 0] }).push { cls := .type "enumerate", data := .fields #[.none, .bool false, .ref s.heap.objs.size, rawInt 0, .none, .none] } }) :=
  .of_wp fun P w A R s h => by
    obtain ⟨p0, g, d, tk, os⟩ := s; obtain ⟨gl, h⟩ := h
    have gsub := sub_enumerate
    have gL : Heap.IsTuple (Shared.heap ⟨p0, g, d, tk, os⟩) l ia := ⟨_, gl, rfl, n, rfl⟩
    wp_walk using wpAny_loadPart' gl
    refine wpAny_stack_any fun st => wpAny_pure ?_
    split
    · rename_i c _ _ _ _ _
      cases (c == Value.type "enumerate")
      · wp_walk using wpAny_loadPart' gl, wpAny_pyIter_tuple gL
        exact ⟨_, rfl, h⟩
      · wp_walk using wpAny_loadPart' gl, wpAny_pyIter_tuple gL
        exact ⟨_, rfl, h⟩
    · wp_walk using wpAny_loadPart' gl, wpAny_pyIter_tuple gL
      exact ⟨_, rfl, h⟩
section
variable {P : Program} {w : World} {A : Around} {E : Value → Shared → Prop} {s : Shared}
theorem call_enumTu {l : Addr} {ia : Array Value} {Z : Value → Shared → Prop} (gL : s.heap.IsTuple l ia)  (h : ∀ h', IsEnum h' (s.heap.objs.size + 1) s.heap.objs.size 0 .none → h'.IsTupleIter s.heap.objs.size l 0 → h'.objs.size = s.heap.objs.size + 2 →
      (∀ b o, s.heap.get? b = some o → h'.get? b = some o) → Z (.ref (s.heap.objs.size + 1)) { s with heap := h' }) :
    wpAny (model P w) A (call (.type "enumerate") [.ref l]) Z E s := by
  obtain ⟨⟨c, dj, dt, sl⟩, gl, gc, n, gd⟩ := gL
  replace gc : c = .type "tuple" := gc
  replace gd : dt = .seq ia n := gd
  subst gc gd
  refine callType_new F.called_enumerate (by decide) (F.typeCall_enumerate_1 _) (F.newCall_enumerate_1 _) (fun ob => F.args_object_init_2 ob _) F.entry_enumerate_new
    (new_enumTu l ia n dj sl) ⟨gl, ?_⟩
  have gz : (s.heap.push { cls := .type "tuple_iterator", data := .fields #[.ref l, .int 0 0] }).objs.size = s.heap.objs.size + 1 := Heap.size_push ..
  show _ ∧ _
  rw [gz]
  have ge : IsEnum ((s.heap.push { cls := .type "tuple_iterator", data := .fields #[.ref l, .int 0 0] }).push
      { cls := .type "enumerate", data := .fields #[.none, .bool false, .ref s.heap.objs.size, rawInt 0, .none, .none] }) (s.heap.objs.size + 1) s.heap.objs.size 0 .none := by
    have := Heap.get?_push_size (s.heap.push { cls := .type "tuple_iterator", data := .fields #[.ref l, .int 0 0] })
      (o := { cls := .type "enumerate", data := .fields #[.none, .bool false, .ref s.heap.objs.size, rawInt 0, .none, .none] }) rfl
    rw [gz] at this; exact this
  refine ⟨⟨_, ge, rfl⟩, h _ ge ⟨_, Heap.get?_push_of_some _ (Heap.get?_push_size _ rfl), rfl, rfl⟩ (by rw [Heap.size_push, gz]) fun b o x => Heap.get?_push_of_some _ (Heap.get?_push_of_some _ x)⟩
end
def ItEt (K : PySem.W.Frag) (l : Addr) : It :=
  ⟨fun i H => ∃ (ys : List V) (y : V), SqT K H l ys ∧ ys[i]? = some y, fun i H v H' => ∃ q y, v = .ref q ∧ H q = none ∧ H' = upd H q (.tup [.int (i : Int), y]) ∧ ∀ ys, SqT K H l ys → ys[i]? = some y, fun i H => ∃ ys : List V, SqT K H l ys ∧ ys.length = i⟩
theorem turn_enumEt {P : Program} {w : World} {K : PySem.W.Frag} {elts : List Expr} {kk : Nat} {tp : Pos} (l en it : Addr) :
    Turn P w K (.Tuple elts kk tp) (ItEt K l) [en, it] en (fun i h => (∃ old, IsEnum h en it (((i : Nat) : Int)) old) ∧ h.IsTupleIter it l i ∧ en ≠ it) where
  mem := List.mem_cons_self ..
  obj := fun i h st b hb => by
    obtain ⟨⟨old, he⟩, ⟨o, ho, hc, hd⟩, _⟩ := st
    rcases List.mem_cons.mp hb with z | z
    · rw [z]
      exact ⟨_, he, fun v q => nomatch q⟩
    · rw [List.mem_singleton.mp z]
      exact ⟨o, ho, fun v q => by rw [hd] at q; cases q⟩
  keep := fun i h h' st k => ⟨⟨st.1.choose, k en (by simp) _ st.1.choose_spec⟩, st.2.1.at fun o q => k it (by simp) o q, st.2.2⟩
  item := by
    intro X hP hw hK hc i pins s σ H E I hf st hg
    subst hP hw hK
    obtain ⟨⟨old, he⟩, hit, hne⟩ := st
    obtain ⟨ys, y, hq, hy⟩ := hg
    obtain ⟨its, rv, pl, hz⟩ := I.tuple hq
    obtain ⟨u, hu, ru⟩ := rv.get hy
    have hen : en < s.heap.objs.size := Heap.lt_size he
    have hil : it < s.heap.objs.size := by
      obtain ⟨_, q, _⟩ := hit
      exact Heap.lt_size q
    have nli : l ≠ it := fun z => by
      obtain ⟨o1, q1, c1, _⟩ := hit
      obtain ⟨o2, q2, c2, _⟩ := (show Heap.IsTuple _ _ _ from pl)
      rw [z, q1] at q2
      cases q2
      rw [c1] at c2
      exact absurd (Value.type.inj c2) (by decide)
    have nle : l ≠ en := fun z => by
      obtain ⟨o2, q2, c2, _⟩ := (show Heap.IsTuple _ _ _ from pl)
      have he' : s.heap.get? en = some _ := he
      rw [z, he'] at q2
      cases q2
      exact absurd (Value.type.inj c2) (by decide)
    have D := Draws.tuple (prog := X.prog) (w := X.w) (A := X.A.in1) (I.ok.hd hc) it l nli its.toArray
    refine wpAny_pyNext_enum_itemC D he (i := i) ⟨hit, (show Heap.IsTuple _ _ _ from pl)⟩ ?_ hne (by simp [hne, Ne.symm nle]) fun x h' tk hx ho hst hT hsz hk => ?_
    · have := (List.getElem?_eq_some_iff.mp hu).1
      simpa using this
    have exu : x = u := by
      have q : its[i]? = some x := by simpa using hx
      rw [hu] at q
      exact (Option.some.inj q).symm
    subst exu
    refine ⟨_, rfl, wpAny_letOwnedTupleGo_enum (s := { s with heap := h', toks := tk + 1 }) ho fun h'' he'' sb => ?_⟩
    have hT2 : h''.get? s.heap.objs.size = some { cls := .type "tuple", data := .seq #[.int (i : Int) tk, x] } := (sb.2 _ (Nat.ne_of_gt hen)).trans hT
    have new : ObjOk X.prog X.w (upd H s.heap.objs.size (.tup [.int (i : Int), y])) h'' s.heap.objs.size (.tup [.int (i : Int), y]) :=
      ⟨Nat.le_of_ble_eq_true rfl, [.int (i : Int) tk, x], .cons ⟨_, rfl⟩ (.cons ru .nil), ⟨_, hT2, rfl, _, rfl⟩⟩
    have I1 : Inv X pins σ (upd H s.heap.objs.size (.tup [.int (i : Int), y])) { s with heap := h'', toks := tk + 1 } :=
      I.turnedNew (ch := [en, it]) (fun b ob hb q => (sb.2 b (fun z => hb (by simp [z]))).trans (hk b ob (fun z => hb (by simp [z])) (fun z => hb (by simp [z])) q)) hf (Nat.le_refl _) new
    refine ⟨.ref s.heap.objs.size, _, I1, rfl, ⟨_, y, rfl, I.hok.fresh (Nat.le_refl _), rfl, fun zs hzs => by rw [I.tuple_inj hzs hq]; exact hy⟩, ⟨⟨x, ?_⟩, hst.1.at fun o q => (sb.2 it (Ne.symm hne)).trans q, hne⟩, fun b hb => ?_⟩
    · have e1 : ((i + 1 : Nat) : Int) = (i : Int) + 1 := by omega
      rw [e1]
      exact he''
    · have hb' : b < s.heap.objs.size := by
        rcases List.mem_cons.mp hb with z | z
        · rw [z]; exact hen
        · rw [List.mem_singleton.mp z]; exact hil
      rw [upd_ne (Nat.ne_of_lt hb')]
      exact (hf b hb).1
  done := by
    intro X hP hw hK hc i pins s σ H E I hf st hg
    subst hP hw hK
    obtain ⟨⟨old, he⟩, hit, hne⟩ := st
    obtain ⟨ys, hq, hy⟩ := hg
    obtain ⟨its, rv, pl, hz⟩ := I.tuple hq
    obtain ⟨f0, f1, f2, f3, f4, f5⟩ := hf it (by simp)
    have hlen := rv.length
    have nli : l ≠ it := fun z => by
      obtain ⟨o1, q1, c1, _⟩ := hit
      obtain ⟨o2, q2, c2, _⟩ := (show Heap.IsTuple _ _ _ from pl)
      rw [z, q1] at q2
      cases q2
      rw [c1] at c2
      exact absurd (Value.type.inj c2) (by decide)
    have D := Draws.tuple (prog := X.prog) (w := X.w) (A := X.A.in1) (I.ok.hd hc) it l nli its.toArray
    have en : its.toArray.size = i := by
      rw [List.size_toArray]
      omega
    exact wpAny_pyNext_enum_endD D he ⟨by rw [en]; exact hit, (show Heap.IsTuple _ _ _ from pl)⟩ fun h' eb => ⟨rfl, I.turned (t' := s.toks) (fun b o hb q => eb b o hb q) f0 f1 f3 f4 f5⟩
  self := fun A i s Q E st h => wpAny_pyIter_enum st.1.choose_spec h

def iEnumEt (K : PySem.W.Frag) (ta : TA) : TI := fun σ H R => ta σ H fun vs H1 => ∃ l ys, vs = [V.ref l] ∧ SqT K H1 l ys ∧ R (ItEt K l) H1
theorem pi_enumEt {X : Cx} {e : Expr} {ta : TA} {p pos tpos : Pos} {elts : List Expr} {kk : Nat} (hg : Gl X "enumerate") (hm : X.mg "enumerate" = none) (ha : PA X [e] ta) (hs : starEach [e] X.env = [(false, eval e X.env)] := by rfl) :
    PI X (.Tuple elts kk tpos) (.Call (.Name "enumerate" p) [e] [] pos) (iEnumEt X.K ta) := by
  refine ⟨fun pins s σ H R I h => ?_⟩
  refine Call_ (ld_blt I hg hm boot_enumerate (PyProof.Rows.callWith_type1 (thn (ha.run pos pins s σ H (fun vs H1 => ∃ l ys, vs = [V.ref l] ∧ SqT X.K H1 l ys ∧ R (ItEt X.K l) H1) I h) fun us s1 ⟨vs, H1, I1, r1, l, ys, ez, hq, q⟩ => ?_) hs rfl))
  subst ez
  obtain ⟨u, rfl, ru⟩ := vals1 r1
  cases ru
  obtain ⟨its, rv, pl, hz⟩ := I1.tuple hq
  refine call_enumTu (ia := its.toArray) pl fun h' he hit hsz hk => wpAny_pyIter_enum he ?_
  have I2 : Inv X pins σ H1 { s1 with heap := h' } := I1.kept (t' := s1.toks) hk
  refine ⟨s1.heap.objs.size + 1, [s1.heap.objs.size + 1, s1.heap.objs.size], _, _, H1, rfl, I2, turn_enumEt l (s1.heap.objs.size + 1) s1.heap.objs.size, ⟨⟨.none, he⟩, hit, Nat.succ_ne_self _⟩, fun b hb => ?_, q⟩
  have hle : s1.heap.objs.size ≤ b := by
    rcases List.mem_cons.mp hb with e | e
    · rw [e]
      exact Nat.le_succ _
    · rw [List.mem_singleton.mp e]
      exact Nat.le_refl _
  exact I1.fpOk hle (I1.hok.fresh hle)
theorem walk_enumEt {K : PySem.W.Frag} {l : Addr} {ys : List V} : Walk (ItEt K l) ys.length (fun H => SqT K H l ys) (fun i H v H' => ∃ q y, v = .ref q ∧ H q = none ∧ H' = upd H q (.tup [.int (i : Int), y]) ∧ ys[i]? = some y) :=
  ⟨fun i _ hi q => ⟨ys, ys[i], q, by simp [hi]⟩, fun _ q => ⟨ys, q, rfl⟩, fun _ _ _ _ _ q ⟨a, b, c, d, e, f⟩ => ⟨a, b, c, d, e, f ys q⟩⟩
theorem kpi_enumEt (K : PySem.W.Frag) {X : Cx} {e : Expr} {ta : TA} {p pos tpos : Pos} {elts : List Expr} {kk : Nat} (hg : Gl X "enumerate") (hm : X.mg "enumerate" = none) (ha : PA X [e] ta) (hs : starEach [e] X.env = [(false, eval e X.env)] := by rfl) (h : X.K = K := by rfl) :
    PI X (.Tuple elts kk tpos) (.Call (.Name "enumerate" p) [e] [] pos) (iEnumEt K ta) := by
  subst h
  exact pi_enumEt hg hm ha hs
/-! ### t + u, either of them empty -/
theorem kcatA (K : PySem.W.Frag) {X : Cx} (h : X.K = K := by rfl) : OpR X (binaryOp .Add) (rCatA K) := by subst h; exact op_catA
/-- .. as one place where the two stand together -/
theorem cat_any {K : PySem.W.Frag} {H : Hp} {a b : Addr} {xs ys : List V} {Q : VK} (ha : SqT K H a xs) (hb : SqT K H b ys) (hz : xs.length + ys.length ≤ sizeLine) (k : ∀ (p : Addr) (H' : Hp), SqT K H' p (xs ++ ys) → Same H H' → Q (.ref p) H') : rCatA K (.ref a) (.ref b) H Q := by
  refine ⟨a, b, xs, ys, rfl, rfl, ha, hb, hz, fun e => ?_, fun _ e => ?_, fun _ _ p hp => ?_⟩
  · subst e
    exact k b H hb (.refl _)
  · subst e
    refine k a H ?_ (.refl _)
    rw [List.append_nil]
    exact ha
  · exact k p _ (SqT.of upd_same) (same_new hp)
/-! ### a text as a constant -/
theorem pe_cstS {X : Cx} {x z : PySem.Str} {pos : Pos} (hm : ∃ t, X.mg x = some (.str z t)) (hg : Gl X x := by rfl) (hdb : (x == ("__debug__" : PySem.Str)) = false := by decide) : PE X (.Name x pos) (tC (.str z)) := by
  obtain ⟨t, hm⟩ := hm
  exact pe_glob hg hm ⟨_, rfl⟩ hdb
/-! ### == by a class's own way -/
structure EqAt (K : PySem.W.Frag) (C : Addr) (qual : PySem.Str) (st : Stmt) : Prop where
  ex : ∃ f fd, PySem.W.findIn K (.ref C) "__eq__" = some (some (.ref f)) ∧ PySem.W.isFn K (.ref f) = true ∧ Fun K "__eq__" qual st f fd ∧ Binds K fd ["self", "other"] []
structure EqM (P : Program) (w : World) (K : PySem.W.Frag) (mg : PySem.Str → Option Value) (base : Heap) (C : Addr) (k : Nat) (R : Addr → Addr → Hp → Prop) : Prop where
  ex : ∃ f fd, PySem.W.findIn K (.ref C) "__eq__" = some (some (.ref f)) ∧ PySem.W.isFn K (.ref f) = true ∧ FnOk P w K mg base CX0 k f fd ["self", "other"] (spEq R) ∧ Binds K fd ["self", "other"] []
theorem eqM_of {P : Program} {w : World} {K : PySem.W.Frag} {mg : PySem.Str → Option Value} {base : Heap} {C : Addr} {k : Nat} {R : Addr → Addr → Hp → Prop} {qual : PySem.Str} {st : Stmt} (D : EqAt K C qual st) (h : ∀ f fd, Fun K "__eq__" qual st f fd → FnOk P w K mg base CX0 k f fd ["self", "other"] (spEq R)) : EqM P w K mg base C k R := by
  obtain ⟨f, fd, a, b, F, c⟩ := D.ex
  exact ⟨f, fd, a, b, h f fd F, c⟩
theorem keqOwn {X : Cx} {C : Addr} {k j : Nat} {R : Addr → Addr → Hp → Prop} (M : EqM X.prog X.w X.K X.mg X.base C k R) (hr : Room j X.A) (hj : k ≤ j := by decide) : OpR X (compareOp .Eq) (rEqG (DIns C R)) := by
  obtain ⟨f, fd, a, b, F, c⟩ := M.ex
  exact op_eqG (rcG_ins (E := E0) F a b c pass0) (hr.mono hj)
/-- isinstance of an own class's object -/
structure IsaAt (K : PySem.W.Frag) (C : Addr) : Prop where
  ha : PySem.W.findIn K (.ref C) "__class__" = some (some (.builtin "object.__class__"))
  hn : PySem.W.specialIn K (.builtin "object.__class__") "__get__" = some (some (.builtin "getset_descriptor.__get__"))
  ht : PySem.W.takesIn K (.builtin "object.__class__") = some true
  hm : PySem.W.mroIn K C (.type "object") = some true
theorem isa_ty {K : PySem.W.Frag} {H : Hp} {C a dx : Addr} {fs : List (PySem.Str × V)} (I : IsaAt K C) (c : Cls K C) (e : H a = some (.ins C dx fs)) : TyX K H (.ref a) (.ref C) := .base (.ins e c I.ha I.hn I.ht I.hm)
theorem kit_same {K : PySem.W.Frag} {C : Addr} : PySem.W.kitOne K (.ref C) (.ref C) = some true := by
  unfold PySem.W.kitOne
  rw [if_pos (by simp)]
theorem pe_cls {X : Cx} {x : PySem.Str} {C : Addr} {pos : Pos} (hg : Gl X x) (hm : X.mg x = some (.ref C)) (hdb : (x == ("__debug__" : PySem.Str)) = false := by decide) : PE X (.Name x pos) (tC (.ref C)) := pe_glob hg hm rfl hdb
end Bz

namespace Bz
open PySem PySem.Spec PyProof.Rows L2
/-! ### other names for states -/
def rnA (f : PySem.Str → PySem.Str) (x : Arw) : Arw := ⟨f x.s, x.l, f x.t, x.c⟩
def nmOf (k : Nat) : PySem.Str := if k < 26 then ⟨#[97 + k]⟩ else ⟨#[97 + k / 26, 97 + k % 26]⟩
theorem nm_lt {k : Nat} (h : k < 26) : nmOf k = ⟨#[97 + k]⟩ := if_pos h
theorem nm_ge {k : Nat} (h : 26 ≤ k) : nmOf k = ⟨#[97 + k / 26, 97 + k % 26]⟩ := if_neg (by omega)
theorem nm_tl1 {k : Nat} (h : k < 26) : TL.tl (nmOf k) = [97 + k] := by rw [nm_lt h]
theorem nm_tl2 {k : Nat} (h : 26 ≤ k) : TL.tl (nmOf k) = [97 + k / 26, 97 + k % 26] := by rw [nm_ge h]
theorem nm_len1 {k : Nat} (h : k < 26) : (nmOf k).length = 1 := by rw [nm_lt h]; rfl
theorem run_rn {xs : List Arw} {S : List PySem.Str} {f : PySem.Str → PySem.Str} (hx : ∀ x ∈ xs, x.s ∈ S ∧ x.t ∈ S) (hf : ∀ a ∈ S, ∀ b ∈ S, f a = f b → a = b) : ∀ (ls : List PySem.Str) (a b : PySem.Str) (n : Int), a ∈ S → b ∈ S → (RunS (xs.map (rnA f)) ls (f a) (f b) n ↔ RunS xs ls a b n)
  | [], a, b, n, ha, hb => ⟨fun ⟨e, z⟩ => ⟨hf a ha b hb e, z⟩, fun ⟨e, z⟩ => ⟨by rw [e], z⟩⟩
  | l :: ls, a, b, n, ha, hb => by
    simp only [RunS]
    constructor
    · rintro ⟨y, hy, e1, e2, m, h, rfl⟩
      obtain ⟨x, hx', rfl⟩ := List.mem_map.mp hy
      exact ⟨x, hx', hf _ (hx x hx').1 _ ha e1, e2, m, (run_rn hx hf ls x.t b m (hx x hx').2 hb).mp h, rfl⟩
    · rintro ⟨x, hx', rfl, e2, m, h, rfl⟩
      exact ⟨rnA f x, List.mem_map.mpr ⟨x, hx', rfl⟩, rfl, e2, m, (run_rn hx hf ls x.t b m (hx x hx').2 hb).mpr h, rfl⟩
theorem LPr.rn {xs : List Arw} {S ss es ls : List PySem.Str} {f : PySem.Str → PySem.Str} (hx : ∀ x ∈ xs, x.s ∈ S ∧ x.t ∈ S) (hf : ∀ a ∈ S, ∀ b ∈ S, f a = f b → a = b) (hs : ∀ s ∈ ss, s ∈ S) (he : ∀ s ∈ es, s ∈ S) {o : Option Int} : LPr (xs.map (rnA f)) (ss.map f) (es.map f) ls o ↔ LPr xs ss es ls o := by
  have h : ∀ n, (∃ s ∈ ss.map f, ∃ e ∈ es.map f, RunS (xs.map (rnA f)) ls s e n) ↔ (∃ s ∈ ss, ∃ e ∈ es, RunS xs ls s e n) := fun n => by
    constructor
    · rintro ⟨s, h1, e, h2, r⟩
      obtain ⟨s', h1', rfl⟩ := List.mem_map.mp h1
      obtain ⟨e', h2', rfl⟩ := List.mem_map.mp h2
      exact ⟨s', h1', e', h2', (run_rn hx hf _ _ _ _ (hs _ h1') (he _ h2')).mp r⟩
    · rintro ⟨s, h1, e, h2, r⟩
      exact ⟨f s, List.mem_map.mpr ⟨s, h1, rfl⟩, f e, List.mem_map.mpr ⟨e, h2, rfl⟩, (run_rn hx hf _ _ _ _ (hs _ h1) (he _ h2)).mpr r⟩
  exact ⟨LeastO.iff h, LeastO.iff fun n => (h n).symm⟩
/-! ### two beside each other -/
theorem run_left {xs ys : List Arw} {S U : List PySem.Str} (hx : ∀ x ∈ xs, x.s ∈ S ∧ x.t ∈ S) (hy : ∀ y ∈ ys, y.s ∈ U ∧ y.t ∈ U) (d : ∀ s ∈ S, s ∉ U) : ∀ (ls : List PySem.Str) (a b : PySem.Str) (n : Int), a ∈ S → RunS (xs ++ ys) ls a b n → RunS xs ls a b n ∧ b ∈ S
  | [], a, b, n, ha, h => ⟨h, by rw [← h.1]; exact ha⟩
  | l :: ls, a, b, n, ha, h => by
    obtain ⟨z, hz, e1, e2, m, h, e⟩ := h
    rcases List.mem_append.mp hz with hz | hz
    · obtain ⟨r1, r2⟩ := run_left hx hy d ls z.t b m (hx z hz).2 h
      exact ⟨⟨z, hz, e1, e2, m, r1, e⟩, r2⟩
    · exact absurd (hy z hz).1 (d z.s (by rw [e1]; exact ha))
theorem run_comm {xs ys : List Arw} {ls : List PySem.Str} {a b : PySem.Str} {n : Int} (h : RunS (xs ++ ys) ls a b n) : RunS (ys ++ xs) ls a b n := run_sub (fun z hz => by
  rcases List.mem_append.mp hz with h | h
  · exact List.mem_append_right _ h
  · exact List.mem_append_left _ h) _ _ _ _ h
theorem either_iff {xs ys : List Arw} {S U ss es ts fs ls : List PySem.Str} (hx : ∀ x ∈ xs, x.s ∈ S ∧ x.t ∈ S) (hy : ∀ y ∈ ys, y.s ∈ U ∧ y.t ∈ U) (d : ∀ s ∈ S, s ∉ U) (h1 : ∀ s ∈ ss, s ∈ S) (h2 : ∀ s ∈ es, s ∈ S) (h3 : ∀ s ∈ ts, s ∈ U) (h4 : ∀ s ∈ fs, s ∈ U) (n : Int) :
    (∃ s ∈ ss ++ ts, ∃ e ∈ es ++ fs, RunS (xs ++ ys) ls s e n) ↔ ((∃ s ∈ ss, ∃ e ∈ es, RunS xs ls s e n) ∨ ∃ s ∈ ts, ∃ e ∈ fs, RunS ys ls s e n) := by
  have d' : ∀ s ∈ U, s ∉ S := fun s hs c => d s c hs
  constructor
  · rintro ⟨s, hs, e, he, r⟩
    rcases List.mem_append.mp hs with hs | hs
    · obtain ⟨r1, r2⟩ := run_left hx hy d _ _ _ _ (h1 s hs) r
      rcases List.mem_append.mp he with he | he
      · exact .inl ⟨s, hs, e, he, r1⟩
      · exact absurd (h4 e he) (d e r2)
    · obtain ⟨r1, r2⟩ := run_left hy hx d' _ _ _ _ (h3 s hs) (run_comm r)
      rcases List.mem_append.mp he with he | he
      · exact absurd (h2 e he) (d' e r2)
      · exact .inr ⟨s, hs, e, he, r1⟩
  · rintro (⟨s, hs, e, he, r⟩ | ⟨s, hs, e, he, r⟩)
    · exact ⟨s, List.mem_append_left _ hs, e, List.mem_append_left _ he, run_sub (fun z hz => List.mem_append_left _ hz) _ _ _ _ r⟩
    · exact ⟨s, List.mem_append_right _ hs, e, List.mem_append_right _ he, run_sub (fun z hz => List.mem_append_right _ hz) _ _ _ _ r⟩
/-- the lesser of the two that there are -/
def minO (os : List (Option Int)) (o : Option Int) : Prop := LeastO (fun n => some n ∈ os) o
theorem minO_of {xs ys : List Arw} {ss es ts fs ls : List PySem.Str} {a b o : Option Int} (ha : LPr xs ss es ls a) (hb : LPr ys ts fs ls b) (ho : LeastO (fun n => (∃ s ∈ ss, ∃ e ∈ es, RunS xs ls s e n) ∨ ∃ s ∈ ts, ∃ e ∈ fs, RunS ys ls s e n) o) : minO [a, b] o := by
  refine LeastO.both (fun n hn => ?_) (fun n hn => ?_) ho
  · rcases hn with hn | hn
    · cases a with
      | none => exact absurd hn (ha n)
      | some k => exact ⟨k, ha.2 n hn, List.mem_cons_self ..⟩
    · cases b with
      | none => exact absurd hn (hb n)
      | some k => exact ⟨k, hb.2 n hn, List.mem_cons_of_mem _ (List.mem_cons_self ..)⟩
  · simp only [List.mem_cons, List.not_mem_nil, or_false] at hn
    rcases hn with e | e
    · rw [← e] at ha
      exact ⟨n, Int.le_refl _, .inl ha.1⟩
    · rw [← e] at hb
      exact ⟨n, Int.le_refl _, .inr hb.1⟩
theorem minO_comm {a b o : Option Int} (h : minO [a, b] o) : minO [b, a] o := LeastO.iff (fun n => by simp only [List.mem_cons, List.not_mem_nil, or_false]; exact Or.comm) h
/-! ### specs -/
def spNameOf : Sp := fun vs H Q _ => ∃ n : Nat, vs = [.int (n : Int)] ∧ n < 676 ∧ Q (.str (nmOf n)) H
def RnOf (g : PySem.Str) (M : MachV) (f : PySem.Str → PySem.Str) : Prop := (∀ x ∈ M.sta, ∃ k, k < 26 ∧ f x = g ++ nmOf k) ∧ ∀ a ∈ M.sta, ∀ b ∈ M.sta, f a = f b → a = b
def spRenamed (C : Addr) : Sp := fun vs H Q _ => ∃ (m : Addr) (M : MachV) (g : PySem.Str), vs = [.ref m, .str g] ∧ IsMach C H m M ∧ MFine M ∧ Asc M.sta ∧ M.sta.length ≤ 20 ∧ Lt g ∧
  ∀ (q : Addr) (R : MachV) (f : PySem.Str → PySem.Str) (H' : Hp), H q = none → IsMach C H' q R → MOf R (M.ars.map (rnA f)) (M.sts.map f) (M.ens.map f) → RnOf g M f → Same H H' → Q (.ref q) H'
theorem nm_gk {g : PySem.Str} (h : Lt g) {k : Nat} (hk : k < 26) : Nm (g ++ nmOf k) := by
  have e : TL.tl (nmOf k) = [97 + k] := nm_tl1 hk
  have l : (nmOf k).length = 1 := nm_len1 hk
  refine ⟨by rw [len_app]; omega, by rw [len_app, h.1, l]; omega, sgAll_app h.2 fun c hc => ?_⟩
  rw [e] at hc
  rw [List.mem_singleton.mp hc]
  exact ⟨by omega, by omega⟩
theorem nm_inj' {j k : Nat} (e : TL.tl (nmOf j) = TL.tl (nmOf k)) : j = k := by
  by_cases hj : j < 26 <;> by_cases hk : k < 26
  · rw [nm_tl1 hj, nm_tl1 hk] at e
    simp only [List.cons.injEq, and_true] at e
    omega
  · rw [nm_tl1 hj, nm_tl2 (by omega)] at e
    simp at e
  · rw [nm_tl2 (by omega), nm_tl1 hk] at e
    simp at e
  · rw [nm_tl2 (by omega), nm_tl2 (by omega)] at e
    simp only [List.cons.injEq, and_true] at e
    omega
theorem gk_inj {g : PySem.Str} {j k : Nat} (h : g ++ nmOf j = g ++ nmOf k) : j = k := by
  have e := congrArg TL.tl h
  rw [TL.tl_append, TL.tl_append] at e
  exact nm_inj' (List.append_cancel_left e)
theorem gk_ne {a b : PySem.Str} (ha : Lt a) (hb : Lt b) (n : a ≠ b) {j k : Nat} : a ++ nmOf j ≠ b ++ nmOf k := by
  intro h
  have e := congrArg TL.tl h
  rw [TL.tl_append, TL.tl_append] at e
  have l1 : (TL.tl a).length = (TL.tl b).length := by rw [← len_tl, ← len_tl, ha.1, hb.1]
  exact n (ext_tl (List.append_inj_left e l1))
theorem rn_ok {g : PySem.Str} {M : MachV} {f : PySem.Str → PySem.Str} (hg : Lt g) (h : RnOf g M f) (hF : MFine M) : (∀ x ∈ M.ars.map (rnA f), x.Ok) ∧ (∀ s ∈ M.sta.map f, Nm s) ∧ (∀ s ∈ M.sts.map f, s ∈ M.sta.map f) ∧ (∀ s ∈ M.ens.map f, s ∈ M.sta.map f) ∧ ∀ x ∈ M.ars.map (rnA f), x.s ∈ M.sta.map f ∧ x.t ∈ M.sta.map f := by
  have hn : ∀ x ∈ M.sta, Nm (f x) := fun x hx => by
    obtain ⟨k, hk, e⟩ := h.1 x hx
    rw [e]
    exact nm_gk hg hk
  refine ⟨fun x hx => ?_, fun s hs => ?_, fun s hs => ?_, fun s hs => ?_, fun x hx => ?_⟩
  · obtain ⟨y, hy, rfl⟩ := List.mem_map.mp hx
    have o := hF.ok y hy
    exact ⟨hn _ (hF.ar y hy).1, o.l, hn _ (hF.ar y hy).2, o.c0, o.c1⟩
  · obtain ⟨y, hy, rfl⟩ := List.mem_map.mp hs
    exact hn y hy
  · obtain ⟨y, hy, rfl⟩ := List.mem_map.mp hs
    exact List.mem_map.mpr ⟨y, hF.st y hy, rfl⟩
  · obtain ⟨y, hy, rfl⟩ := List.mem_map.mp hs
    exact List.mem_map.mpr ⟨y, hF.en y hy, rfl⟩
  · obtain ⟨y, hy, rfl⟩ := List.mem_map.mp hx
    exact ⟨List.mem_map.mpr ⟨_, (hF.ar y hy).1, rfl⟩, List.mem_map.mpr ⟨_, (hF.ar y hy).2, rfl⟩⟩
/-- R reads what M or N reads, for the lesser price -/
structure EitherOf (R M N : MachV) : Prop where
  price : ∀ (ls : List PySem.Str) (a b o : Option Int), LPr M.ars M.sts M.ens ls a → LPr N.ars N.sts N.ens ls b → LeastO (fun n => ∃ e ∈ R.ens, Rch R.ars R.sts ls e n) o → minO [a, b] o
  len : R.sta.length ≤ M.sta.length + N.sta.length
theorem either_of {R M N M' N' : MachV} {f g : PySem.Str → PySem.Str} (hM : MFine M) (hN : MFine N) (rf : RnOf "a" M f) (rg : RnOf "b" N g) (h1 : MOf M' (M.ars.map (rnA f)) (M.sts.map f) (M.ens.map f)) (h2 : MOf N' (N.ars.map (rnA g)) (N.sts.map g) (N.ens.map g))
    (hR : MOf R (M'.ars ++ N'.ars) (M'.sts ++ N'.sts) (M'.ens ++ N'.ens)) (la : Lt "a") (lb : Lt "b") : EitherOf R M N := by
  obtain ⟨a1, a2, a3, a4, a5⟩ := rn_ok la rf hM
  obtain ⟨b1, b2, b3, b4, b5⟩ := rn_ok lb rg hN
  have dis : ∀ s ∈ M.sta.map f, s ∉ N.sta.map g := fun s hs c => by
    obtain ⟨x, hx, rfl⟩ := List.mem_map.mp hs
    obtain ⟨y, hy, e⟩ := List.mem_map.mp c
    obtain ⟨j, _, ej⟩ := rf.1 x hx
    obtain ⟨k, _, ek⟩ := rg.1 y hy
    rw [ej, ek] at e
    exact gk_ne lb la (by decide) e
  have hxs : ∀ x ∈ M'.ars, x.s ∈ M.sta.map f ∧ x.t ∈ M.sta.map f := fun x hx => a5 x (h1.ars.sub x hx).1
  have hys : ∀ x ∈ N'.ars, x.s ∈ N.sta.map g ∧ x.t ∈ N.sta.map g := fun x hx => b5 x (h2.ars.sub x hx).1
  have s1 : ∀ s ∈ M'.sts, s ∈ M.sta.map f := fun s hs => a3 s ((h1.sts.2 s).mp hs)
  have s2 : ∀ s ∈ M'.ens, s ∈ M.sta.map f := fun s hs => a4 s ((h1.ens.2 s).mp hs)
  have s3 : ∀ s ∈ N'.sts, s ∈ N.sta.map g := fun s hs => b3 s ((h2.sts.2 s).mp hs)
  have s4 : ∀ s ∈ N'.ens, s ∈ N.sta.map g := fun s hs => b4 s ((h2.ens.2 s).mp hs)
  refine ⟨fun ls a b o ha hb ho => ?_, ?_⟩
  · have k1 : LPr M'.ars M'.sts M'.ens ls a := (LPr.cheap h1.ars h1.sts.2 h1.ens.2).mpr ((LPr.rn hM.ar rf.2 hM.st hM.en).mpr ha)
    have k2 : LPr N'.ars N'.sts N'.ens ls b := (LPr.cheap h2.ars h2.sts.2 h2.ens.2).mpr ((LPr.rn hN.ar rg.2 hN.st hN.en).mpr hb)
    exact minO_of k1 k2 (LeastO.iff (fun n => either_iff hxs hys dis s1 s2 s3 s4 n) (hR.price ho))
  · have q := nodup_le (ts := M.sta.map f ++ N.sta.map g) (asc_nodup hR.sta.1) fun s hs => by
      rcases (hR.sta.2 s).mp hs with h | h | ⟨x, hx, h⟩
      · rcases List.mem_append.mp h with h | h
        · exact List.mem_append_left _ (s1 s h)
        · exact List.mem_append_right _ (s3 s h)
      · rcases List.mem_append.mp h with h | h
        · exact List.mem_append_left _ (s2 s h)
        · exact List.mem_append_right _ (s4 s h)
      · rcases List.mem_append.mp (hR.ars.sub x hx).1 with hx | hx
        · have := hxs x hx
          refine List.mem_append_left _ ?_
          rcases h with h | h
          · rw [h]
            exact this.1
          · rw [h]
            exact this.2
        · have := hys x hx
          refine List.mem_append_right _ ?_
          rcases h with h | h
          · rw [h]
            exact this.1
          · rw [h]
            exact this.2
    rw [List.length_append, List.length_map, List.length_map] at q
    exact q
theorem lt_ab : Lt "a" ∧ Lt "b" := ⟨abcd_lt _ (by decide +kernel), abcd_lt _ (by decide +kernel)⟩
def spEither (C : Addr) : Sp := fun vs H Q _ => ∃ (m n : Addr) (M N : MachV), vs = [.ref m, .ref n] ∧ IsMach C H m M ∧ IsMach C H n N ∧ MFine M ∧ MFine N ∧ Asc M.sta ∧ Asc N.sta ∧ M.sta.length ≤ 20 ∧ N.sta.length ≤ 20 ∧ M.ars.length ≤ 100 ∧ N.ars.length ≤ 100 ∧
  ∀ (q : Addr) (R : MachV) (H' : Hp), H q = none → IsMach C H' q R → MFine R → EitherOf R M N → Same H H' → Q (.ref q) H'
/-- two machines of the same -/
def EqMach (C : Addr) (a b : Addr) (H : Hp) : Prop := ∃ M N, IsMach C H a M ∧ IsMach C H b N ∧ MFine M ∧ M.ars = N.ars ∧ M.sts = N.sts ∧ M.ens = N.ens
theorem MOf.same {M N : MachV} {xs : List Arw} {ss es : List PySem.Str} (h : MOf M xs ss es) (k : MOf N xs ss es) : M.ars = N.ars ∧ M.sts = N.sts ∧ M.ens = N.ens :=
  ⟨h.ars.uniq k.ars, asc_uniq h.sts.1 k.sts.1 fun z => (h.sts.2 z).trans (k.sts.2 z).symm, asc_uniq h.ens.1 k.ens.1 fun z => (h.ens.2 z).trans (k.ens.2 z).symm⟩
theorem shaped_tars {xs : List Arw} (h : ∀ x ∈ xs, x.Ok) : SeqAt.shaped (.tuple (xs.map fun x => PyData.tuple [.str x.s, .str x.l, .str x.t, .int x.c])) = true := by
  refine shaped_of2 (b := false) fun d hd => ?_
  obtain ⟨x, hx, rfl⟩ := List.mem_map.mp hd
  have o := h x hx
  exact lay_arw o.s.2.2 o.l.2 o.t.2.2
theorem eqv_tars (xs : List Arw) : PyData.eqv (.tuple (xs.map fun x => PyData.tuple [.str x.s, .str x.l, .str x.t, .int x.c])) (.tuple (xs.map fun x => PyData.tuple [.str x.s, .str x.l, .str x.t, .int x.c])) = true := by
  simp only [PyData.eqv]
  induction xs with
  | nil => simp [PyData.eqvAll]
  | cons x xs ih => simp [PyData.eqvAll, PyData.eqv, ih]
end Bz
namespace Bz
open PySem PySem.Spec PyProof.Rows L2
theorem az26 : ∀ i : Fin 26, ((("abcdefghijklmnopqrstuvwxyz" : PySem.Str)).cps.toList)[i.val]? = some (97 + i.val) := by decide +kernel
theorem az_len : (("abcdefghijklmnopqrstuvwxyz" : PySem.Str)).length = 26 := by decide +kernel
theorem az_at {n : Nat} (h : n < 26) : atI (("abcdefghijklmnopqrstuvwxyz" : PySem.Str)).cps.toList (Int.fmod (n : Int) (((("abcdefghijklmnopqrstuvwxyz" : PySem.Str)).length : Nat) : Int)) = some (97 + n) := by
  have e : Int.fmod (n : Int) (((("abcdefghijklmnopqrstuvwxyz" : PySem.Str)).length : Nat) : Int) = (n : Int) := by
    rw [az_len, Int.fmod_eq_emod_of_nonneg _ (by omega)]
    exact Int.emod_eq_of_lt (by omega) (by omega)
  rw [e]
  exact atI_nat (az26 ⟨n, h⟩)
theorem az_atm (n : Nat) : atI (("abcdefghijklmnopqrstuvwxyz" : PySem.Str)).cps.toList (Int.fmod (n : Int) (((("abcdefghijklmnopqrstuvwxyz" : PySem.Str)).length : Nat) : Int)) = some (97 + n % 26) := by
  have e : Int.fmod (n : Int) (((("abcdefghijklmnopqrstuvwxyz" : PySem.Str)).length : Nat) : Int) = ((n % 26 : Nat) : Int) := by
    rw [az_len, Int.fmod_eq_emod_of_nonneg _ (by omega)]
    rfl
  rw [e]
  exact atI_nat (az26 ⟨n % 26, by omega⟩)
theorem idx_eq {L : List PySem.Str} (h : L.Nodup) {i : Nat} {u : PySem.Str} (e : L[i]? = some u) : L.idxOf u = i := by
  obtain ⟨hi, eu⟩ := List.getElem?_eq_some_iff.mp e
  have hj : L.idxOf u < L.length := List.idxOf_lt_length_of_mem (by rw [← eu]; exact List.getElem_mem hi)
  have ej : L[L.idxOf u] = u := List.getElem_idxOf hj
  have pw := List.pairwise_iff_getElem.mp h
  rcases Nat.lt_trichotomy (L.idxOf u) i with c | c | c
  · exact absurd (ej.trans eu.symm) (pw _ _ hj hi c)
  · exact c
  · exact absurd (eu.trans ej.symm) (pw _ _ hi hj c)
theorem idx_inj {L : List PySem.Str} {a b : PySem.Str} (ha : a ∈ L) (hb : b ∈ L) (e : L.idxOf a = L.idxOf b) : a = b := by
  have h1 : L.idxOf a < L.length := List.idxOf_lt_length_of_mem ha
  have h2 : L.idxOf b < L.length := List.idxOf_lt_length_of_mem hb
  have e1 : L[L.idxOf a] = a := List.getElem_idxOf h1
  have e2 : L[L.idxOf b] = b := List.getElem_idxOf h2
  rw [← e1, ← e2]
  simp only [e]
end Bz

namespace Bz
open PySem PySem.Spec PyProof.Rows L2
/-! ### what a law drew, in general -/
structure GMade (xs : List Arw) (ss es ns : List PySem.Str) : Prop where
  ok : ∀ x ∈ xs, x.Ok
  nm : ∀ s ∈ ns, Nm s
  nl : ns.length ≤ 10
  xl : xs.length ≤ 20
  sl : ss.length ≤ 10
  el : es.length ≤ 10
  si : ∀ s ∈ ss, s ∈ ns
  ei : ∀ s ∈ es, s ∈ ns
  ai : ∀ x ∈ xs, x.s ∈ ns ∧ x.t ∈ ns
/-- at q, none of it at p -/
def HMade (K : PySem.W.Frag) (H : Hp) (p q : Addr) (xs : List Arw) (ss es ns : List PySem.Str) : Prop := ∃ a b e us, MadeL K H q a b e us xs ss es ∧ a ≠ p ∧ b ≠ p ∧ e ≠ p ∧ GMade xs ss es ns
theorem HMade.same {K : PySem.W.Frag} {H H' : Hp} {p q : Addr} {xs : List Arw} {ss es ns : List PySem.Str} (h : HMade K H p q xs ss es ns) (e : Same H H') : HMade K H' p q xs ss es ns := by
  obtain ⟨a, b, c, us, m, r⟩ := h
  exact ⟨a, b, c, us, m.same e, r⟩
theorem HMade.ext {K : PySem.W.Frag} {H H' : Hp} {p q : Addr} {c : Nat} {xs : List Arw} {ss es ns : List PySem.Str} (h : HMade K H p q xs ss es ns) (s : Src H p c) (e : Ext p H H') : HMade K H' p q xs ss es ns := by
  obtain ⟨a, b, z, us, m, n1, n2, n3, r⟩ := h
  exact ⟨a, b, z, us, m.ext s n1 n2 n3 e, n1, n2, n3, r⟩
theorem GMade.fine {M : MachV} {xs : List Arw} {ss es ns : List PySem.Str} (g : GMade xs ss es ns) (h : MOf M xs ss es) : MFine M ∧ M.sta.length ≤ 10 ∧ M.ars.length ≤ 20 := by
  have nl := g.nl
  have xl := g.xl
  refine ⟨fine_of h g.ok (by omega) g.nm (by omega) g.si g.ei g.ai, ?_, ?_⟩
  · refine Nat.le_trans (nodup_le (asc_nodup h.sta.1) fun k hk => ?_) nl
    rcases (h.sta.2 k).mp hk with h1 | h1 | ⟨x, hx, h1 | h1⟩
    · exact g.si k h1
    · exact g.ei k h1
    · rw [h1]
      exact (g.ai x (h.ars.sub x hx).1).1
    · rw [h1]
      exact (g.ai x (h.ars.sub x hx).1).2
  · exact Nat.le_trans (nodup_le (cheap_nodup h.ars) fun y hy => (h.ars.sub y hy).1) xl
theorem cutV_tk (xs : List V) (k : Nat) : cutV xs none (some (k : Int)) = xs.take k := by
  unfold cutV
  have e1 : HT.sIx xs.length 0 none = 0 := rfl
  have e2 : HT.sIx xs.length xs.length (some (k : Int)) = min k xs.length := sIx_min
  rw [e1, e2, List.drop_zero, Nat.sub_zero]
  by_cases c : k ≤ xs.length
  · rw [Nat.min_eq_left c]
  · rw [Nat.min_eq_right (by omega), List.take_of_length_le (Nat.le_refl _), List.take_of_length_le (by omega)]
theorem cutV_dr (xs : List V) (k : Nat) : cutV xs (some (k : Int)) none = xs.drop k := by
  unfold cutV
  have e1 : HT.sIx xs.length 0 (some (k : Int)) = min k xs.length := sIx_min
  have e2 : HT.sIx xs.length xs.length none = xs.length := rfl
  rw [e1, e2]
  by_cases c : k ≤ xs.length
  · rw [Nat.min_eq_left c]
    exact List.take_of_length_le (by rw [List.length_drop]; omega)
  · rw [Nat.min_eq_right (by omega), List.drop_of_length_le (Nat.le_refl _), List.drop_of_length_le (by omega)]
    simp
theorem paired_take {α β : Type} {R : α → β → Prop} : ∀ {as : List α} {bs : List β} (k : Nat), Paired R as bs → Paired R (as.take k) (bs.take k)
  | _, _, 0, _ => .nil
  | _, _, k + 1, .nil => .nil
  | _, _, k + 1, .cons h t => .cons h (paired_take k t)
theorem paired_drop {α β : Type} {R : α → β → Prop} : ∀ {as : List α} {bs : List β} (k : Nat), Paired R as bs → Paired R (as.drop k) (bs.drop k)
  | _, _, 0, h => h
  | _, _, k + 1, .nil => .nil
  | _, _, k + 1, .cons _ t => paired_drop k t
/-- drawn anew: some arrows of the one and some of the other -/
theorem GMade.mix {xs ys : List Arw} {ss es ts fs ns ms : List PySem.Str} (g : GMade xs ss es ns) (h : GMade ys ts fs ms) (l : ns.length ≤ 5) (k : ms.length ≤ 5) (x : xs.length ≤ 10) : GMade (xs.drop 1 ++ ys.take 2) ss (es.take 1) (ns ++ ms) where
  ok := fun z hz => (List.mem_append.mp hz).elim (fun h1 => g.ok z (List.mem_of_mem_drop h1)) fun h1 => h.ok z (List.mem_of_mem_take h1)
  nm := fun z hz => (List.mem_append.mp hz).elim (g.nm z) (h.nm z)
  nl := by rw [List.length_append]; omega
  xl := by rw [List.length_append, List.length_drop, List.length_take]; omega
  sl := g.sl
  el := by have := g.el; rw [List.length_take]; omega
  si := fun z hz => List.mem_append_left _ (g.si z hz)
  ei := fun z hz => List.mem_append_left _ (g.ei z (List.mem_of_mem_take hz))
  ai := fun z hz => by
    rcases List.mem_append.mp hz with h1 | h1
    · have q := g.ai z (List.mem_of_mem_drop h1)
      exact ⟨List.mem_append_left _ q.1, List.mem_append_left _ q.2⟩
    · have q := h.ai z (List.mem_of_mem_take h1)
      exact ⟨List.mem_append_right _ q.1, List.mem_append_right _ q.2⟩
end Bz
namespace Bz
open PySem PySem.Spec PyProof.Rows L2
theorem made_h {K : PySem.W.Frag} {H : Hp} {p q : Addr} {xs : List Arw} {ss es : List PySem.Str} {m n : Int} (h : Made K p H q xs ss es) (k : MOk xs ss es m n) (hm : m ≤ 4) (hn : n ≤ 10) : ∃ ns, HMade K H p q xs ss es ns ∧ (ns.length : Int) ≤ m ∧ (xs.length : Int) ≤ n := by
  obtain ⟨a1, a2, a3, vs, nq, n1, n2, n3, hq, h1, hA, h2, h3⟩ := h
  obtain ⟨ns, hn1, hn2, hn3, hn4, hn5, hn6⟩ := k.nms
  have l := k.len
  have sl := k.slen
  have el := k.elen
  exact ⟨ns, ⟨a1, a2, a3, vs, ⟨hq, SqL.of h1, hA.s, SqL.of h2, SqL.of h3⟩, n1, n2, n3, ⟨ok_of k, hn1, by omega, by omega, by omega, by omega, hn5, hn6, hn4⟩⟩, hn2, l.2⟩
end Bz

namespace Bz
open PySem PySem.Spec PyProof.Rows L2
/-! ### states that arrows lead to -/
theorem klistD {X : Cx} (hc : X.calm = true) : CallR X (.type "list") (fun xs H Q => ∃ (a : Addr) (kvs : List (Ky × V)), xs = [.ref a] ∧ Rd H a (.dK kvs) ∧ ∀ p, H p = none → Q (.ref p) (upd H p (.lst (kvs.map fun kv => kV kv.1)))) := call_listD hc
abbrev fT (s : PySem.Str) : Ky × V := (.inr s, .bl true)
theorem fT_mem {F : List PySem.Str} {u : PySem.Str} : (Sum.inr u : Ky) ∈ (F.map fT).map (·.1) ↔ u ∈ F := by
  rw [List.map_map, List.mem_map]
  exact ⟨fun ⟨s, hs, e⟩ => by rw [← Sum.inr.inj (show (Sum.inr s : Ky) = .inr u from e)]; exact hs, fun h => ⟨u, h, rfl⟩⟩
theorem put_fT_new {F : List PySem.Str} {u : PySem.Str} (h : u ∉ F) : putK (F.map fT) (.inr u) (.bl true) = (F ++ [u]).map fT := by
  rw [putK_new (fun c => h (fT_mem.mp c)), List.map_append]
  rfl
theorem put_fT_in {F : List PySem.Str} {u : PySem.Str} (h : u ∈ F) : putK (F.map fT) (.inr u) (.bl true) = F.map fT := by
  unfold putK
  have e : ((F.map fT).any fun kv => decide (kv.1 = (Sum.inr u : Ky))) = true := List.any_eq_true.mpr ⟨fT u, List.mem_map.mpr ⟨u, h, rfl⟩, decide_eq_true rfl⟩
  rw [if_pos e, List.map_map]
  refine List.map_congr_left fun s _ => ?_
  show (if (Sum.inr s : Ky) = .inr u then ((Sum.inr s : Ky), V.bl true) else fT s) = fT s
  split <;> rfl
theorem val_fT {F : List PySem.Str} {u : PySem.Str} : valV (F.map fT) (.inr u) = if u ∈ F then some (.bl true) else none := by
  by_cases h : u ∈ F
  · rw [if_pos h]
    unfold valV
    have e : ((F.map fT).find? fun kv => decide (kv.1 = (Sum.inr u : Ky))).isSome = true := by
      rw [List.find?_isSome]
      exact ⟨fT u, List.mem_map.mpr ⟨u, h, rfl⟩, decide_eq_true rfl⟩
    obtain ⟨kv, hkv⟩ := Option.isSome_iff_exists.mp e
    obtain ⟨s, _, es⟩ := List.mem_map.mp (List.mem_of_find?_eq_some hkv)
    rw [hkv, ← es]
    rfl
  · rw [if_neg h]
    exact valV_none fun c => h (fT_mem.mp c)
theorem nodup_snoc2 {α : Type} {os : List α} {u : α} (h : os.Nodup) (c : u ∉ os) : (os ++ [u]).Nodup := by
  rw [List.nodup_append]
  refine ⟨h, by simp, fun a ha b hb => ?_⟩
  rw [List.mem_singleton.mp hb]
  intro e
  exact c (by rw [← e]; exact ha)
theorem nodup_fst {α β : Type} {ps : List (α × β)} (h : (ps.map (·.1)).Nodup) {p r : α × β} (hp : p ∈ ps) (hr : r ∈ ps) (e : p.1 = r.1) : p = r := by
  induction ps with
  | nil => cases hp
  | cons z ps ih =>
    rw [List.map_cons] at h
    obtain ⟨h1, h2⟩ := List.nodup_cons.mp h
    rcases List.mem_cons.mp hp with e1 | hp <;> rcases List.mem_cons.mp hr with e2 | hr
    · rw [e1, e2]
    · exact absurd (List.mem_map.mpr ⟨r, hr, by rw [← e, e1]⟩) h1
    · exact absurd (List.mem_map.mpr ⟨p, hp, by rw [e, e2]⟩) h1
    · exact ih h2 hp hr
theorem nodup_snd {α β : Type} {ps : List (α × β)} (h : (ps.map (·.2)).Nodup) {p r : α × β} (hp : p ∈ ps) (hr : r ∈ ps) (e : p.2 = r.2) : p = r := by
  induction ps with
  | nil => cases hp
  | cons z ps ih =>
    rw [List.map_cons] at h
    obtain ⟨h1, h2⟩ := List.nodup_cons.mp h
    rcases List.mem_cons.mp hp with e1 | hp <;> rcases List.mem_cons.mp hr with e2 | hr
    · rw [e1, e2]
    · exact absurd (List.mem_map.mpr ⟨r, hr, by rw [← e, e1]⟩) h1
    · exact absurd (List.mem_map.mpr ⟨p, hp, by rw [e, e2]⟩) h1
    · exact ih h2 hp hr
/-- the dict of what each state leads to -/
structure NxInv (H H' : Hp) (D : Addr) (ps : List (PySem.Str × Addr)) (c : PySem.Str → List PySem.Str) : Prop where
  d : H' D = some (.dK (ps.map pk))
  nk : (ps.map (·.1)).Nodup
  na : (ps.map (·.2)).Nodup
  each : ∀ p ∈ ps, p.2 ≠ D ∧ H p.2 = none ∧ H' p.2 = some (.lst ((c p.1).map V.str))
  no : ∀ s, s ∉ ps.map (·.1) → c s = []
  same : Same H H'
  hD : H D = none
theorem pk_val {ps : List (PySem.Str × Addr)} {s : PySem.Str} {q : Addr} (nk : (ps.map (·.1)).Nodup) (h : (s, q) ∈ ps) : valV (ps.map pk) (.inr s) = some (.ref q) := by
  induction ps with
  | nil => cases h
  | cons p ps ih =>
    rw [List.map_cons] at nk
    obtain ⟨n1, n2⟩ := List.nodup_cons.mp nk
    rcases List.mem_cons.mp h with e | h
    · rw [← e]
      exact valV_pos rfl
    · have ne : p.1 ≠ s := fun e => n1 (List.mem_map.mpr ⟨(s, q), h, e.symm⟩)
      have := ih n2 h
      unfold valV at this ⊢
      rw [List.map_cons, List.find?_cons_of_neg (by simpa using ne)]
      exact this
theorem NxInv.new {H H' : Hp} {D q : Addr} {ps : List (PySem.Str × Addr)} {c : PySem.Str → List PySem.Str} {s t : PySem.Str} (h : NxInv H H' D ps c) (hs : s ∉ ps.map (·.1)) (hq : H' q = none) :
    NxInv H (upd (upd (upd H' q (.lst [])) D (.dK (putK (ps.map pk) (.inr s) (.ref q)))) q (.lst [.str t])) D (ps ++ [(s, q)]) fun z => if z = s then c s ++ [t] else c z := by
  have nqD : q ≠ D := fun e => by
    rw [e, h.d] at hq
    cases hq
  have hHq := h.same.free hq
  have hps : ∀ p ∈ ps, p.2 ≠ q := fun p hp e => by
    have := (h.each p hp).2.2
    rw [e, hq] at this
    cases this
  have ep : putK (ps.map pk) (.inr s) (.ref q) = (ps ++ [(s, q)]).map pk := by
    rw [putK_new (fun c => hs (pk_mem.mp c)), List.map_append]
    rfl
  refine ⟨?_, ?_, ?_, fun p hp => ?_, fun z hz => ?_, ?_, h.hD⟩
  · rw [upd_ne nqD.symm, ← ep]
    exact upd_same
  · rw [List.map_append]
    exact nodup_snoc2 h.nk hs
  · rw [List.map_append]
    exact nodup_snoc2 h.na fun c => by
      obtain ⟨p, hp, e⟩ := List.mem_map.mp c
      exact hps p hp e
  · rcases List.mem_append.mp hp with hp | hp
    · obtain ⟨a, b, d⟩ := h.each p hp
      refine ⟨a, b, ?_⟩
      have ne : p.1 ≠ s := fun e => hs (List.mem_map.mpr ⟨p, hp, e⟩)
      rw [if_neg ne, upd_ne (hps p hp), upd_ne a, upd_ne (hps p hp)]
      exact d
    · rw [List.mem_singleton.mp hp]
      refine ⟨nqD, hHq, ?_⟩
      rw [if_pos rfl, h.no s hs]
      exact upd_same
  · have n1 : z ∉ ps.map (·.1) := fun m => hz (by rw [List.map_append]; exact List.mem_append_left _ m)
    have n2 : z ≠ s := fun e => hz (by rw [List.map_append]; exact List.mem_append_right _ (by rw [e]; exact List.mem_singleton.mpr rfl))
    rw [if_neg n2]
    exact h.no z n1
  · exact same_mut (same_mut (h.same.trans (same_new hq)) h.hD) hHq
theorem NxInv.old {H H' : Hp} {D q q0 : Addr} {ps : List (PySem.Str × Addr)} {c : PySem.Str → List PySem.Str} {s t : PySem.Str} (h : NxInv H H' D ps c) (hp : (s, q) ∈ ps) (hq : H' q0 = none) :
    NxInv H (upd (upd H' q0 (.lst [])) q (.lst ((c s).map V.str ++ [.str t]))) D ps fun z => if z = s then c s ++ [t] else c z := by
  obtain ⟨a, b, d⟩ := h.each _ hp
  have a' : q ≠ D := a
  have n0 : ∀ {p : Addr} {o : HO}, H' p = some o → p ≠ q0 := fun e => ne_of_none e hq
  refine ⟨?_, h.nk, h.na, fun p hp' => ?_, fun z hz => ?_, ?_, h.hD⟩
  · rw [upd_ne a'.symm, upd_ne (n0 h.d)]
    exact h.d
  · obtain ⟨a2, b2, d2⟩ := h.each p hp'
    refine ⟨a2, b2, ?_⟩
    by_cases e : p = (s, q)
    · rw [e, if_pos rfl, List.map_append]
      exact upd_same
    · have n1 : p.1 ≠ s := fun e1 => e (nodup_fst h.nk hp' hp e1)
      have n2 : p.2 ≠ q := fun e1 => e (nodup_snd h.na hp' hp e1)
      rw [if_neg n1, upd_ne n2, upd_ne (n0 d2)]
      exact d2
  · have n2 : z ≠ s := fun e => hz (List.mem_map.mpr ⟨(s, q), hp, e.symm⟩)
    rw [if_neg n2]
    exact h.no z hz
  · exact same_mut (h.same.trans (same_new hq)) b
def spReached (K : PySem.W.Frag) : Sp := fun vs H Q _ => ∃ (b a : Addr) (us : List V) (xs : List Arw) (ss : List PySem.Str), vs = [.ref b, .ref a] ∧ SqE K H b (ss.map V.str) ∧ SqE K H a us ∧ ArS H us xs ∧ ss.length ≤ 400 ∧ xs.length ≤ 1000 ∧
  ∀ (d : Addr) (F : List PySem.Str) (H' : Hp), H d = none → H' d = some (.dK (F.map fT)) → F.Nodup → (∀ s ∈ ss, s ∈ F) → (∀ x ∈ xs, x.s ∈ F → x.t ∈ F) → (∀ s ∈ F, s ∈ ss ++ xs.map Arw.t) → Same H H' → Q (.ref d) H'
/-- what a search keeps: F found, W still to be looked at -/
structure Sch (xs : List Arw) (ss F W : List PySem.Str) : Prop where
  nd : F.Nodup
  st : ∀ s ∈ ss, s ∈ F
  wf : ∀ s ∈ W, s ∈ F
  cl : ∀ x ∈ xs, x.s ∈ F → x.s ∉ W → x.t ∈ F
  sub : ∀ s ∈ F, s ∈ ss ++ xs.map Arw.t
theorem Sch.len {xs : List Arw} {ss F W : List PySem.Str} (h : Sch xs ss F W) : F.length ≤ ss.length + xs.length := by
  have := nodup_le h.nd h.sub
  rw [List.length_append, List.length_map] at this
  exact this
/-- within a turn: from F0, W0 on, the first of ts are found -/
structure Trn (xs : List Arw) (ss F0 W0 ts F W : List PySem.Str) : Prop where
  nd : F.Nodup
  f0 : ∀ s ∈ F0, s ∈ F
  w0 : ∀ s ∈ W0, s ∈ W
  fw : ∀ s ∈ F, s ∈ F0 ∨ s ∈ W
  wf : ∀ s ∈ W, s ∈ F
  ts : ∀ s ∈ ts, s ∈ F
  sub : ∀ s ∈ F, s ∈ ss ++ xs.map Arw.t
  len : W.length + F0.length = W0.length + F.length
theorem Trn.turn {xs : List Arw} {ss F0 W0 F W : List PySem.Str} {here : PySem.Str} (h : Sch xs ss F0 (W0 ++ [here])) (t : Trn xs ss F0 W0 ((xs.filter fun x => decide (x.s = here)).map Arw.t) F W) : Sch xs ss F W where
  nd := t.nd
  st := fun s hs => t.f0 s (h.st s hs)
  wf := t.wf
  cl := fun x hx hf hw => by
    by_cases e : x.s = here
    · exact t.ts _ (List.mem_map.mpr ⟨x, List.mem_filter.mpr ⟨hx, decide_eq_true e⟩, rfl⟩)
    · rcases t.fw _ hf with h1 | h1
      · refine t.f0 _ (h.cl x hx h1 fun c => ?_)
        rcases List.mem_append.mp c with c | c
        · exact hw (t.w0 _ c)
        · exact e (List.mem_singleton.mp c)
      · exact absurd h1 hw
  sub := t.sub
end Bz
namespace Bz
open PySem PySem.Spec PyProof.Rows L2
/-- the states that are on some run -/
structure Kept (xs : List Arw) (ss es F1 F2 : List PySem.Str) : Prop where
  s1 : ∀ s ∈ ss, s ∈ F1
  c1 : ∀ x ∈ xs, x.s ∈ F1 → x.t ∈ F1
  s2 : ∀ s ∈ es, s ∈ F2
  c2 : ∀ x ∈ xs, x.t ∈ F2 → x.s ∈ F2
  sub : ∀ s ∈ F1, s ∈ ss ++ xs.map Arw.t
def kp (F1 F2 : List PySem.Str) (z : PySem.Str) : Bool := decide (z ∈ F1) && decide (z ∈ F2)
theorem kp_iff {F1 F2 : List PySem.Str} {z : PySem.Str} : kp F1 F2 z = true ↔ z ∈ F1 ∧ z ∈ F2 := by
  unfold kp
  rw [Bool.and_eq_true, decide_eq_true_eq, decide_eq_true_eq]
def kpA (F1 F2 : List PySem.Str) (x : Arw) : Bool := kp F1 F2 x.s && kp F1 F2 x.t
theorem run_kept {xs : List Arw} {ss es F1 F2 : List PySem.Str} (h : Kept xs ss es F1 F2) : ∀ (ls : List PySem.Str) (a b : PySem.Str) (n : Int), a ∈ F1 → b ∈ F2 → RunS xs ls a b n → RunS (xs.filter (kpA F1 F2)) ls a b n ∧ a ∈ F2 ∧ b ∈ F1
  | [], a, b, n, ha, hb, r => ⟨r, by rw [r.1]; exact hb, by rw [← r.1]; exact ha⟩
  | l :: ls, a, b, n, ha, hb, r => by
    obtain ⟨x, hx, e1, e2, m, r, e⟩ := r
    have t1 := h.c1 x hx (by rw [e1]; exact ha)
    obtain ⟨r', t2, b1⟩ := run_kept h ls x.t b m t1 hb r
    have a2 := h.c2 x hx t2
    refine ⟨⟨x, List.mem_filter.mpr ⟨hx, ?_⟩, e1, e2, m, r', e⟩, by rw [← e1]; exact a2, b1⟩
    unfold kpA
    rw [kp_iff.mpr ⟨by rw [e1]; exact ha, a2⟩, kp_iff.mpr ⟨t1, t2⟩]
    rfl
theorem LPr.kept {xs : List Arw} {ss es F1 F2 ls : List PySem.Str} (h : Kept xs ss es F1 F2) {o : Option Int} : LPr (xs.filter (kpA F1 F2)) (ss.filter (kp F1 F2)) (es.filter (kp F1 F2)) ls o ↔ LPr xs ss es ls o := by
  have key : ∀ n, (∃ s ∈ ss.filter (kp F1 F2), ∃ e ∈ es.filter (kp F1 F2), RunS (xs.filter (kpA F1 F2)) ls s e n) ↔ (∃ s ∈ ss, ∃ e ∈ es, RunS xs ls s e n) := fun n => by
    constructor
    · rintro ⟨s, h1, e, h2, r⟩
      exact ⟨s, (List.mem_filter.mp h1).1, e, (List.mem_filter.mp h2).1, run_sub (fun x hx => (List.mem_filter.mp hx).1) _ _ _ _ r⟩
    · rintro ⟨s, h1, e, h2, r⟩
      obtain ⟨r', a, b⟩ := run_kept h _ _ _ _ (h.s1 s h1) (h.s2 e h2) r
      exact ⟨s, List.mem_filter.mpr ⟨h1, kp_iff.mpr ⟨h.s1 s h1, a⟩⟩, e, List.mem_filter.mpr ⟨h2, kp_iff.mpr ⟨b, h.s2 e h2⟩⟩, r'⟩
  exact ⟨LeastO.iff key, LeastO.iff fun n => (key n).symm⟩
def spUseful (K : PySem.W.Frag) : Sp := fun vs H Q _ => ∃ (a b e : Addr) (us : List V) (xs : List Arw) (ss es : List PySem.Str), vs = [.ref a, .ref b, .ref e] ∧ SqL K H a us ∧ ArS H us xs ∧ SqE K H b (ss.map V.str) ∧ SqE K H e (es.map V.str) ∧ xs.length ≤ 900 ∧ ss.length ≤ 400 ∧ es.length ≤ 400 ∧
  ∀ (t q1 q2 q3 : Addr) (ws : List V) (ys : List Arw) (F1 F2 : List PySem.Str) (H' : Hp), H' t = some (.tup [.ref q1, .ref q2, .ref q3]) → H' q1 = some (.tup ws) → ArS H' ws ys → CheapOf (xs.filter (kpA F1 F2)) ys → H' q2 = some (.lst ((ss.filter (kp F1 F2)).map V.str)) → H' q3 = some (.lst ((es.filter (kp F1 F2)).map V.str)) →
    Kept xs ss es F1 F2 → Same H H' → Q (.ref t) H'
end Bz

namespace Bz
open PySem PySem.Spec PyProof.Rows L2
/-! ### two loops in one list -/
theorem it_gen {J : It} {n : Nat} {G : Hp → Prop} {Y : Nat → Hp → V → Hp → Prop} (w : Walk J n G Y) {Body : (Hp → Prop) → V → Hp → Prop} {H1 : Hp} {Qd : Hp → Prop} (Pv : Nat → Hp → Prop) (h0 : Pv 0 H1) (hG : ∀ i H, i ≤ n → Pv i H → G H)
    (hs : ∀ i x H H', i < n → Pv i H → Y i H x H' → Body (Pv (i + 1)) x H') (hd : ∀ H, Pv n H → Qd H) :
    ∃ W : Nat → Nat → Hp → Prop, (∃ m, W 0 m H1) ∧ ∀ i m H, W i m H →
      (J.stop i H ∧ Qd H) ∨ (J.go i H ∧ ∃ Nx : Hp → Prop, (∀ H', Nx H' → ∃ m', m' < m ∧ W (i + 1) m' H') ∧ ∀ x H', J.yld i H x H' → Body Nx x H') := by
  refine ⟨fun i m H => m = n - i ∧ i ≤ n ∧ Pv i H, ⟨n, by simp, Nat.zero_le _, h0⟩, ?_⟩
  rintro i m H ⟨rfl, hi, p⟩
  have q := hG i H hi p
  by_cases hlt : i < n
  · refine .inr ⟨w.goes i H hlt q, Pv (i + 1), fun H' p' => ⟨n - (i + 1), by omega, rfl, hlt, p'⟩, fun x H' y => hs i x H H' hlt p (w.yields i H x H' hlt q y)⟩
  · have e : i = n := by omega
    subst e
    exact .inl ⟨w.stops H q, hd H p⟩
def LcB (D : Addr) (I : List V → Hp → Prop) (H : Hp) : Prop := ∃ acc, H D = some (.lst acc) ∧ I acc H
theorem LcB.put {D : Addr} {I : List V → Hp → Prop} {H : Hp} {acc : List V} {y : V} (hst : ∀ acc H o, I acc H → I acc (upd H D o)) (h : H D = some (.lst acc)) (hl : acc.length < 1000000) (hI : I (acc ++ [y]) H) :
    ∃ acc, H D = some (.lst acc) ∧ acc.length < sizeLine ∧ LcB D I (upd H D (.lst (acc ++ [y]))) := ⟨acc, h, Nat.lt_of_lt_of_le hl (by decide), _, upd_same, hst _ _ _ hI⟩
/-! ### pairs -/
def prs (ss os : List PySem.Str) : List (PySem.Str × PySem.Str) := ss.flatMap fun s => os.map fun t => (s, t)
theorem prs_len (ss os : List PySem.Str) : (prs ss os).length = ss.length * os.length := by
  unfold prs
  induction ss with
  | nil => simp
  | cons s ss ih => rw [List.flatMap_cons, List.length_append, ih, List.length_map, List.length_cons, Nat.succ_mul, Nat.add_comm]
theorem prs_mem {ss os : List PySem.Str} {s t : PySem.Str} : (s, t) ∈ prs ss os ↔ s ∈ ss ∧ t ∈ os := by
  unfold prs
  simp only [List.mem_flatMap, List.mem_map, Prod.mk.injEq]
  exact ⟨fun ⟨a, ha, b, hb, e1, e2⟩ => by rw [← e1, ← e2]; exact ⟨ha, hb⟩, fun ⟨h1, h2⟩ => ⟨s, h1, t, h2, rfl, rfl⟩⟩
theorem prs_snoc {ss os : List PySem.Str} {s : PySem.Str} : prs (ss ++ [s]) os = prs ss os ++ os.map fun t => (s, t) := by
  unfold prs
  rw [List.flatMap_append]
  simp
theorem not_take {L : List PySem.Str} (h : L.Nodup) {i : Nat} {u : PySem.Str} (e : L[i]? = some u) : u ∉ L.take i := fun c => by
  have n : (L.take (i + 1)).Nodup := (List.take_sublist _ _).nodup h
  rw [List.take_add_one, e, Option.toList_some, List.nodup_append] at n
  exact n.2.2 u c u (List.mem_singleton.mpr rfl) rfl
theorem pair_idx {L : List (PySem.Str × PySem.Str)} {a b : PySem.Str × PySem.Str} (ha : a ∈ L) (hb : b ∈ L) (e : L.idxOf a = L.idxOf b) : a = b := by
  have h1 : L.idxOf a < L.length := List.idxOf_lt_length_of_mem ha
  have h2 : L.idxOf b < L.length := List.idxOf_lt_length_of_mem hb
  have e1 : L[L.idxOf a] = a := List.getElem_idxOf h1
  have e2 : L[L.idxOf b] = b := List.getElem_idxOf h2
  rw [← e1, ← e2]
  simp only [e]
theorem nm_inj {j k : Nat} (h : nmOf j = nmOf k) : j = k := nm_inj' (congrArg TL.tl h)
theorem nm_of {k : Nat} (hk : k < 676) : Nm (nmOf k) := by
  by_cases c : k < 26
  · have e : TL.tl (nmOf k) = [97 + k] := nm_tl1 c
    have l : (nmOf k).length = 1 := nm_len1 c
    refine ⟨by omega, by omega, fun c hc => ?_⟩
    rw [e] at hc
    rw [List.mem_singleton.mp hc]
    exact ⟨by omega, by omega⟩
  · have e : TL.tl (nmOf k) = [97 + k / 26, 97 + k % 26] := nm_tl2 (by omega)
    have l : (nmOf k).length = 2 := by rw [nm_ge (by omega)]; rfl
    refine ⟨by omega, by omega, fun c hc => ?_⟩
    rw [e] at hc
    simp only [List.mem_cons, List.not_mem_nil, or_false] at hc
    rcases hc with rfl | rfl
    · exact ⟨by omega, by omega⟩
    · exact ⟨by omega, by omega⟩
abbrev ky2 (s t : PySem.Str) : List Ky := [.inr s, .inr t]
/-- the names of the pairs so far -/
structure PN (us : List (List Ky × V)) (dn : List (PySem.Str × PySem.Str)) : Prop where
  len : us.length = dn.length
  nd : dn.Nodup
  val : ∀ s t, valV us (ky2 s t) = if (s, t) ∈ dn then some (.str (nmOf (dn.idxOf (s, t)))) else none
theorem PN.put {us : List (List Ky × V)} {dn : List (PySem.Str × PySem.Str)} {s t : PySem.Str} (h : PN us dn) (hp : (s, t) ∉ dn) : PN (putK us (ky2 s t) (.str (nmOf us.length))) (dn ++ [(s, t)]) where
  len := by
    have e : valV us (ky2 s t) = none := by rw [h.val, if_neg hp]
    rw [L2.putK_new _ e, List.length_append, List.length_append, h.len]
    rfl
  nd := nodup_snoc2 h.nd hp
  val := fun a b => by
    rw [valV_put, h.val a b]
    by_cases e : a = s ∧ b = t
    · obtain ⟨rfl, rfl⟩ := e
      rw [if_pos rfl, if_pos (List.mem_append_right _ (List.mem_singleton.mpr rfl)), List.idxOf_append, if_neg hp, h.len]
      simp
    · have n1 : ky2 a b ≠ ky2 s t := fun c => by
        unfold ky2 at c
        simp only [List.cons.injEq, Sum.inr.injEq, and_true] at c
        exact e c
      rw [if_neg n1]
      by_cases m : (a, b) ∈ dn
      · rw [if_pos m, if_pos (List.mem_append_left _ m), List.idxOf_append, if_pos m]
      · rw [if_neg m, if_neg]
        intro c
        rcases List.mem_append.mp c with c | c
        · exact m c
        · exact e (by simpa using c)
/-- names of pairs -/
structure PnL (ss os : List PySem.Str) (f : PySem.Str → PySem.Str → PySem.Str) : Prop where
  nm : ∀ s ∈ ss, ∀ t ∈ os, Nm (f s t)
  inj : ∀ a ∈ ss, ∀ c ∈ os, ∀ b ∈ ss, ∀ d ∈ os, f a c = f b d → a = b ∧ c = d
theorem PN.end {us : List (List Ky × V)} {ss os : List PySem.Str} (h : PN us (prs ss os)) (l : ss.length * os.length ≤ 36) : PnL ss os (fun s t => nmOf ((prs ss os).idxOf (s, t))) ∧ ∀ s ∈ ss, ∀ t ∈ os, valV us (ky2 s t) = some (.str (nmOf ((prs ss os).idxOf (s, t)))) := by
  refine ⟨⟨fun s hs t ht => nm_of ?_, fun a ha c hc b hb d hd e => ?_⟩, fun s hs t ht => by rw [h.val, if_pos (prs_mem.mpr ⟨hs, ht⟩)]⟩
  · have := List.idxOf_lt_length_of_mem (prs_mem.mpr ⟨hs, ht⟩)
    rw [prs_len] at this
    omega
  · have := pair_idx (prs_mem.mpr ⟨ha, hc⟩) (prs_mem.mpr ⟨hb, hd⟩) (nm_inj e)
    exact ⟨congrArg Prod.fst this, congrArg Prod.snd this⟩
def spPairNames (K : PySem.W.Frag) : Sp := fun vs H Q _ => ∃ (a b : Addr) (ss os : List PySem.Str), vs = [.ref a, .ref b] ∧ SqT K H a (ss.map V.str) ∧ SqT K H b (os.map V.str) ∧ ss.Nodup ∧ os.Nodup ∧ ss.length * os.length ≤ 36 ∧
  ∀ (d : Addr) (us : List (List Ky × V)) (f : PySem.Str → PySem.Str → PySem.Str) (H' : Hp), H d = none → H' d = some (.dT us) → (∀ s ∈ ss, ∀ t ∈ os, valV us (ky2 s t) = some (.str (f s t))) → PnL ss os f → Same H H' → Q (.ref d) H'
/-! ### the product -/
def pA (f : PySem.Str → PySem.Str → PySem.Str) (x y : Arw) : Arw := ⟨f x.s y.s, x.l, f x.t y.t, x.c + y.c⟩
def rowA (f : PySem.Str → PySem.Str → PySem.Str) (x : Arw) (ys : List Arw) : List Arw := (ys.filter fun y => decide (y.l = x.l)).map (pA f x)
def prodA (f : PySem.Str → PySem.Str → PySem.Str) (xs ys : List Arw) : List Arw := xs.flatMap fun x => rowA f x ys
def prodS (f : PySem.Str → PySem.Str → PySem.Str) (ss ts : List PySem.Str) : List PySem.Str := ss.flatMap fun s => ts.map (f s)
theorem prodS_len (f : PySem.Str → PySem.Str → PySem.Str) (ss ts : List PySem.Str) : (prodS f ss ts).length = ss.length * ts.length := by
  unfold prodS
  induction ss with
  | nil => simp
  | cons s ss ih => rw [List.flatMap_cons, List.length_append, ih, List.length_map, List.length_cons, Nat.succ_mul, Nat.add_comm]
theorem prodA_len (f : PySem.Str → PySem.Str → PySem.Str) (xs ys : List Arw) : (prodA f xs ys).length ≤ xs.length * ys.length := by
  unfold prodA
  induction xs with
  | nil => simp
  | cons x xs ih =>
    have : (rowA f x ys).length ≤ ys.length := by
      unfold rowA
      rw [List.length_map]
      exact List.length_filter_le ..
    rw [List.flatMap_cons, List.length_append, List.length_cons, Nat.succ_mul]
    omega
theorem prodA_mem {f : PySem.Str → PySem.Str → PySem.Str} {xs ys : List Arw} {z : Arw} : z ∈ prodA f xs ys ↔ ∃ x ∈ xs, ∃ y ∈ ys, y.l = x.l ∧ z = pA f x y := by
  unfold prodA rowA
  simp only [List.mem_flatMap, List.mem_map, List.mem_filter, decide_eq_true_eq]
  exact ⟨fun ⟨x, hx, y, ⟨hy, e⟩, ez⟩ => ⟨x, hx, y, hy, e, ez.symm⟩, fun ⟨x, hx, y, hy, e, ez⟩ => ⟨x, hx, y, ⟨hy, e⟩, ez.symm⟩⟩
theorem prodS_mem {f : PySem.Str → PySem.Str → PySem.Str} {ss ts : List PySem.Str} {z : PySem.Str} : z ∈ prodS f ss ts ↔ ∃ s ∈ ss, ∃ t ∈ ts, z = f s t := by
  unfold prodS
  simp only [List.mem_flatMap, List.mem_map]
  exact ⟨fun ⟨x, hx, y, hy, ez⟩ => ⟨x, hx, y, hy, ez.symm⟩, fun ⟨x, hx, y, hy, ez⟩ => ⟨x, hx, y, hy, ez.symm⟩⟩
theorem prodA_snoc {f : PySem.Str → PySem.Str → PySem.Str} {xs ys : List Arw} {x : Arw} : prodA f (xs ++ [x]) ys = prodA f xs ys ++ rowA f x ys := by
  unfold prodA
  rw [List.flatMap_append]
  simp
theorem prodS_snoc {f : PySem.Str → PySem.Str → PySem.Str} {ss ts : List PySem.Str} {s : PySem.Str} : prodS f (ss ++ [s]) ts = prodS f ss ts ++ ts.map (f s) := by
  unfold prodS
  rw [List.flatMap_append]
  simp
theorem run_prod {f : PySem.Str → PySem.Str → PySem.Str} {xs ys : List Arw} {S U : List PySem.Str} (hx : ∀ x ∈ xs, x.s ∈ S ∧ x.t ∈ S) (hy : ∀ y ∈ ys, y.s ∈ U ∧ y.t ∈ U) (hf : PnL S U f) : ∀ (ls : List PySem.Str) (a c b d : PySem.Str) (n : Int), a ∈ S → c ∈ U → b ∈ S → d ∈ U →
    (RunS (prodA f xs ys) ls (f a c) (f b d) n ↔ ∃ m k, RunS xs ls a b m ∧ RunS ys ls c d k ∧ n = m + k)
  | [], a, c, b, d, n, ha, hc, hb, hd => by
    simp only [RunS]
    constructor
    · rintro ⟨e, rfl⟩
      obtain ⟨e1, e2⟩ := hf.inj a ha c hc b hb d hd e
      exact ⟨0, 0, ⟨e1, rfl⟩, ⟨e2, rfl⟩, rfl⟩
    · rintro ⟨m, k, ⟨rfl, rfl⟩, ⟨rfl, rfl⟩, rfl⟩
      exact ⟨rfl, rfl⟩
  | l :: ls, a, c, b, d, n, ha, hc, hb, hd => by
    simp only [RunS]
    constructor
    · rintro ⟨z, hz, e1, e2, m, r, rfl⟩
      obtain ⟨x, hxm, y, hym, el, rfl⟩ := prodA_mem.mp hz
      obtain ⟨e3, e4⟩ := hf.inj _ (hx x hxm).1 _ (hy y hym).1 _ ha _ hc e1
      obtain ⟨m1, k1, r1, r2, rfl⟩ := (run_prod hx hy hf ls x.t y.t b d m (hx x hxm).2 (hy y hym).2 hb hd).mp r
      refine ⟨x.c + m1, y.c + k1, ⟨x, hxm, e3, e2, m1, r1, rfl⟩, ⟨y, hym, e4, el.trans e2, k1, r2, rfl⟩, ?_⟩
      show x.c + y.c + (m1 + k1) = _
      omega
    · rintro ⟨_, _, ⟨x, hxm, rfl, e2, m1, r1, rfl⟩, ⟨y, hym, rfl, e4, k1, r2, rfl⟩, rfl⟩
      refine ⟨pA f x y, prodA_mem.mpr ⟨x, hxm, y, hym, e4.trans e2.symm, rfl⟩, rfl, e2, m1 + k1, (run_prod hx hy hf ls x.t y.t b d _ (hx x hxm).2 (hy y hym).2 hb hd).mpr ⟨m1, k1, r1, r2, rfl⟩, ?_⟩
      show _ = x.c + y.c + (m1 + k1)
      omega
def sumO : Option Int → Option Int → Option Int
  | some a, some b => some (a + b)
  | _, _ => none
theorem LPr.prod {f : PySem.Str → PySem.Str → PySem.Str} {xs ys : List Arw} {S U ss es ts fs ls : List PySem.Str} (hx : ∀ x ∈ xs, x.s ∈ S ∧ x.t ∈ S) (hy : ∀ y ∈ ys, y.s ∈ U ∧ y.t ∈ U) (hf : PnL S U f) (h1 : ∀ s ∈ ss, s ∈ S) (h2 : ∀ s ∈ es, s ∈ S) (h3 : ∀ s ∈ ts, s ∈ U) (h4 : ∀ s ∈ fs, s ∈ U) {a b : Option Int}
    (ha : LPr xs ss es ls a) (hb : LPr ys ts fs ls b) : LPr (prodA f xs ys) (prodS f ss ts) (prodS f es fs) ls (sumO a b) := by
  have key : ∀ n, (∃ s ∈ prodS f ss ts, ∃ e ∈ prodS f es fs, RunS (prodA f xs ys) ls s e n) ↔ ∃ m k, (∃ s ∈ ss, ∃ e ∈ es, RunS xs ls s e m) ∧ (∃ s ∈ ts, ∃ e ∈ fs, RunS ys ls s e k) ∧ n = m + k := fun n => by
    constructor
    · rintro ⟨_, hs0, _, he0, r⟩
      obtain ⟨s, hs, t, ht, rfl⟩ := prodS_mem.mp hs0
      obtain ⟨e, he, g, hg, rfl⟩ := prodS_mem.mp he0
      obtain ⟨m, k, r1, r2, e1⟩ := (run_prod hx hy hf ls s t e g n (h1 s hs) (h3 t ht) (h2 e he) (h4 g hg)).mp r
      exact ⟨m, k, ⟨s, hs, e, he, r1⟩, ⟨t, ht, g, hg, r2⟩, e1⟩
    · rintro ⟨m, k, ⟨s, hs, e, he, r1⟩, ⟨t, ht, g, hg, r2⟩, e1⟩
      exact ⟨f s t, prodS_mem.mpr ⟨s, hs, t, ht, rfl⟩, f e g, prodS_mem.mpr ⟨e, he, g, hg, rfl⟩, (run_prod hx hy hf ls s t e g n (h1 s hs) (h3 t ht) (h2 e he) (h4 g hg)).mpr ⟨m, k, r1, r2, e1⟩⟩
  cases a with
  | none =>
    intro n hn
    obtain ⟨m, k, h, _, _⟩ := (key n).mp hn
    exact ha m h
  | some a =>
    cases b with
    | none =>
      intro n hn
      obtain ⟨m, k, _, h, _⟩ := (key n).mp hn
      exact hb k h
    | some b =>
      refine ⟨(key _).mpr ⟨a, b, ha.1, hb.1, rfl⟩, fun n hn => ?_⟩
      obtain ⟨m, k, g1, g2, rfl⟩ := (key n).mp hn
      have := ha.2 m g1
      have := hb.2 k g2
      omega
/-! ### unpaid -/
def zeroA (x : Arw) : Arw := ⟨x.s, x.l, x.t, 0⟩
theorem run_zero {xs : List Arw} : ∀ (ls : List PySem.Str) (a b : PySem.Str) (n : Int), RunS (xs.map zeroA) ls a b n ↔ n = 0 ∧ ∃ m, RunS xs ls a b m
  | [], a, b, n => by
    simp only [RunS]
    exact ⟨fun ⟨e, z⟩ => ⟨z, 0, e, rfl⟩, fun ⟨z, _, e, _⟩ => ⟨e, z⟩⟩
  | l :: ls, a, b, n => by
    simp only [RunS]
    constructor
    · rintro ⟨z, hz, e1, e2, m, r, rfl⟩
      obtain ⟨x, hx, rfl⟩ := List.mem_map.mp hz
      obtain ⟨rfl, k, r⟩ := (run_zero ls _ _ _).mp r
      exact ⟨rfl, _, x, hx, e1, e2, k, r, rfl⟩
    · rintro ⟨rfl, m, x, hx, e1, e2, k, r, _⟩
      exact ⟨zeroA x, List.mem_map.mpr ⟨x, hx, rfl⟩, e1, e2, 0, (run_zero ls _ _ _).mpr ⟨rfl, k, r⟩, rfl⟩
theorem LPr.zero {xs : List Arw} {ss es ls : List PySem.Str} {b : Option Int} (h : LPr xs ss es ls b) : LPr (xs.map zeroA) ss es ls (b.map fun _ => 0) := by
  cases b with
  | none =>
    rintro n ⟨s, hs, e, he, r⟩
    obtain ⟨_, m, r⟩ := (run_zero _ _ _ _).mp r
    exact h m ⟨s, hs, e, he, r⟩
  | some b =>
    obtain ⟨⟨s, hs, e, he, r⟩, _⟩ := h
    refine ⟨⟨s, hs, e, he, (run_zero _ _ _ _).mpr ⟨rfl, b, r⟩⟩, fun n ⟨s, hs, e, he, r⟩ => ?_⟩
    rw [((run_zero _ _ _ _).mp r).1]
    exact Int.le_refl _
/-- small prices -/
structure LowC (M : MachV) : Prop where
  c : ∀ x ∈ M.ars, x.c ≤ 40
  s : M.sts.length ≤ 6
  e : M.ens.length ≤ 6
theorem MOf.low {M : MachV} {xs : List Arw} {ss es : List PySem.Str} (h : MOf M xs ss es) (c : ∀ x ∈ xs, x.c ≤ 40) (l : M.sta.length ≤ 6) : LowC M where
  c := fun x hx => c x (h.ars.sub x hx).1
  s := Nat.le_trans (nodup_le (asc_nodup h.sts.1) fun s hs => (h.sta.2 s).mpr (.inl ((h.sts.2 s).mp hs))) l
  e := Nat.le_trans (nodup_le (asc_nodup h.ens.1) fun s hs => (h.sta.2 s).mpr (.inr (.inl ((h.ens.2 s).mp hs)))) l
/-- R reads what M and N read, for the sum of both; of M's and nothing -/
structure SumOf (R M N : MachV) : Prop where
  price : ∀ (ls : List PySem.Str) (a b o : Option Int), LPr M.ars M.sts M.ens ls a → LPr N.ars N.sts N.ens ls b → LeastO (fun n => ∃ e ∈ R.ens, Rch R.ars R.sts ls e n) o → o = sumO a b
  len : R.sta.length ≤ M.sta.length * N.sta.length
structure InOf (R M N : MachV) : Prop where
  price : ∀ (ls : List PySem.Str) (a b o : Option Int), LPr M.ars M.sts M.ens ls a → LPr N.ars N.sts N.ens ls b → LeastO (fun n => ∃ e ∈ R.ens, Rch R.ars R.sts ls e n) o → o = sumO a (b.map fun _ => 0)
  len : R.sta.length ≤ M.sta.length * N.sta.length
theorem prod_in {f : PySem.Str → PySem.Str → PySem.Str} {M N : MachV} (hM : MFine M) (hN : MFine N) : (∀ s ∈ prodS f M.sts N.sts, s ∈ prodS f M.sta N.sta) ∧ (∀ s ∈ prodS f M.ens N.ens, s ∈ prodS f M.sta N.sta) ∧ ∀ x ∈ prodA f M.ars N.ars, x.s ∈ prodS f M.sta N.sta ∧ x.t ∈ prodS f M.sta N.sta := by
  refine ⟨fun s hs => ?_, fun s hs => ?_, fun x hx => ?_⟩
  · obtain ⟨a, ha, b, hb, rfl⟩ := prodS_mem.mp hs
    exact prodS_mem.mpr ⟨a, hM.st a ha, b, hN.st b hb, rfl⟩
  · obtain ⟨a, ha, b, hb, rfl⟩ := prodS_mem.mp hs
    exact prodS_mem.mpr ⟨a, hM.en a ha, b, hN.en b hb, rfl⟩
  · obtain ⟨a, ha, b, hb, _, rfl⟩ := prodA_mem.mp hx
    exact ⟨prodS_mem.mpr ⟨_, (hM.ar a ha).1, _, (hN.ar b hb).1, rfl⟩, prodS_mem.mpr ⟨_, (hM.ar a ha).2, _, (hN.ar b hb).2, rfl⟩⟩
theorem prod_ok {f : PySem.Str → PySem.Str → PySem.Str} {M N : MachV} (hM : MFine M) (hN : MFine N) (hf : PnL M.sta N.sta f) (c1 : LowC M) (c2 : LowC N) : ∀ x ∈ prodA f M.ars N.ars, x.Ok := fun z hz => by
  obtain ⟨x, hx, y, hy, _, rfl⟩ := prodA_mem.mp hz
  have o := hM.ok x hx
  have p := hN.ok y hy
  have o0 := o.c0
  have p0 := p.c0
  exact ⟨hf.nm _ (hM.ar x hx).1 _ (hN.ar y hy).1, o.l, hf.nm _ (hM.ar x hx).2 _ (hN.ar y hy).2, Int.add_nonneg o0 p0, by have := c1.c x hx; have := c2.c y hy; show x.c + y.c ≤ 99; omega⟩
theorem sum_of {R M N : MachV} {f : PySem.Str → PySem.Str → PySem.Str} {zs : List Arw} {F1 F2 : List PySem.Str} (hM : MFine M) (hN : MFine N) (hf : PnL M.sta N.sta f) (hK : Kept (prodA f M.ars N.ars) (prodS f M.sts N.sts) (prodS f M.ens N.ens) F1 F2)
    (hc : CheapOf ((prodA f M.ars N.ars).filter (kpA F1 F2)) zs) (hR : MOf R zs ((prodS f M.sts N.sts).filter (kp F1 F2)) ((prodS f M.ens N.ens).filter (kp F1 F2))) : SumOf R M N := by
  obtain ⟨i1, i2, i3⟩ := prod_in (f := f) hM hN
  refine ⟨fun ls a b o ha hb ho => ?_, ?_⟩
  · have h1 := (LPr.kept hK).mp ((LPr.cheap hc (fun _ => Iff.rfl) (fun _ => Iff.rfl)).mp (hR.price ho))
    exact h1.uniq (LPr.prod hM.ar hN.ar hf hM.st hM.en hN.st hN.en ha hb)
  · have q := nodup_le (ts := prodS f M.sta N.sta) (asc_nodup hR.sta.1) fun s hs => by
      rcases (hR.sta.2 s).mp hs with h | h | ⟨x, hx, h⟩
      · exact i1 s (List.mem_filter.mp h).1
      · exact i2 s (List.mem_filter.mp h).1
      · have := i3 x (List.mem_filter.mp (hc.sub x (hR.ars.sub x hx).1).1).1
        rcases h with h | h
        · rw [h]; exact this.1
        · rw [h]; exact this.2
    rw [prodS_len] at q
    exact q
theorem zero_sta {N U : MachV} (hN : MFine N) (hU : MOf U (N.ars.map zeroA) N.sts N.ens) : U.sta.length ≤ N.sta.length := nodup_le (asc_nodup hU.sta.1) fun s hs => by
  rcases (hU.sta.2 s).mp hs with h | h | ⟨x, hx, h⟩
  · exact hN.st s h
  · exact hN.en s h
  · obtain ⟨y, hy, rfl⟩ := List.mem_map.mp (hU.ars.sub x hx).1
    have := hN.ar y hy
    rcases h with h | h
    · rw [h]; exact this.1
    · rw [h]; exact this.2
theorem in_of {R M N U : MachV} (hN : MFine N) (hU : MOf U (N.ars.map zeroA) N.sts N.ens) (h : SumOf R M U) : InOf R M N := by
  refine ⟨fun ls a b o ha hb ho => h.price ls a _ o ha ?_ ho, Nat.le_trans h.len (Nat.mul_le_mul_left _ (zero_sta hN hU))⟩
  exact (LPr.cheap hU.ars hU.sts.2 hU.ens.2).mpr (LPr.zero hb)
def spSummed (C : Addr) : Sp := fun vs H Q _ => ∃ (m n : Addr) (M N : MachV), vs = [.ref m, .ref n] ∧ IsMach C H m M ∧ IsMach C H n N ∧ MFine M ∧ MFine N ∧ Asc M.sta ∧ Asc N.sta ∧ M.sta.length ≤ 6 ∧ N.sta.length ≤ 6 ∧ M.ars.length ≤ 20 ∧ N.ars.length ≤ 20 ∧ LowC M ∧ LowC N ∧
  ∀ (q : Addr) (R : MachV) (H' : Hp), H q = none → IsMach C H' q R → MFine R → SumOf R M N → Same H H' → Q (.ref q) H'
def spWithin (C : Addr) : Sp := fun vs H Q _ => ∃ (m n : Addr) (M N : MachV), vs = [.ref m, .ref n] ∧ IsMach C H m M ∧ IsMach C H n N ∧ MFine M ∧ MFine N ∧ Asc M.sta ∧ Asc N.sta ∧ M.sta.length ≤ 6 ∧ N.sta.length ≤ 6 ∧ M.ars.length ≤ 20 ∧ N.ars.length ≤ 20 ∧ LowC M ∧ LowC N ∧
  ∀ (q : Addr) (R : MachV) (H' : Hp), H q = none → IsMach C H' q R → MFine R → InOf R M N → Same H H' → Q (.ref q) H'
end Bz

namespace Bz
open PySem PySem.Spec PyProof.Rows L2
theorem kmax1 (K : PySem.W.Frag) {X : Cx} (hc : X.calm = true) (h : X.K = K := by rfl) : CallR X (.builtin "max") (rMax K) := by subst h; exact cr_max hc
def optD : Option Int → PyData
  | none => .none
  | some n => .int n
theorem dp_opts {K : PySem.W.Frag} {H : Hp} : ∀ os : List (Option Int), DpAll K H (os.map optV) (os.map optD)
  | [] => .nil
  | none :: os => .cons .non (dp_opts os)
  | some n :: os => .cons (.int n) (dp_opts os)
theorem shaped_opts (os : List (Option Int)) : SeqAt.shaped (.list (os.map optD)) = true := by
  refine shaped_of2 (b := true) fun d hd => ?_
  obtain ⟨x, hx, rfl⟩ := List.mem_map.mp hd
  cases x with
  | none => exact ⟨by simp only [optD, PyData.canLay0], by simp only [optD, PyData.depth]; omega⟩
  | some n => exact ⟨by simp only [optD, PyData.canLay0], by simp only [optD, PyData.depth]; omega⟩
theorem eqv_opts (os : List (Option Int)) : PyData.eqv (.list (os.map optD)) (.list (os.map optD)) = true := by
  simp only [PyData.eqv]
  induction os with
  | nil => simp [PyData.eqvAll]
  | cons x xs ih => cases x <;> simp [optD, PyData.eqvAll, PyData.eqv, ih]
/-- a row's four prices -/
theorem sum_due (a b : Option Int) : [sumO a (b.map fun _ => 0), sumO b (a.map fun _ => 0), sumO a b, sumO b a] = (match a, b with
  | some x, some y => [some x, some y, some (x + y), some (x + y)]
  | _, _ => [none, none, none, none]) := by
  cases a <;> cases b <;> simp [sumO, Int.add_comm]
end Bz
namespace Bz
open PySem PySem.Spec PyProof.Rows L2
theorem GMade.stal {M : MachV} {xs : List Arw} {ss es ns : List PySem.Str} (g : GMade xs ss es ns) (h : MOf M xs ss es) : M.sta.length ≤ ns.length := nodup_le (asc_nodup h.sta.1) fun k hk => by
  rcases (h.sta.2 k).mp hk with h1 | h1 | ⟨x, hx, h1 | h1⟩
  · exact g.si k h1
  · exact g.ei k h1
  · rw [h1]
    exact (g.ai x (h.ars.sub x hx).1).1
  · rw [h1]
    exact (g.ai x (h.ars.sub x hx).1).2
end Bz
namespace Bz
open PySem PySem.Spec PyProof.Rows L2
theorem map_get {α β : Type} {g : α → β} {L : List α} {i : Nat} {y : β} (h : (L.map g)[i]? = some y) : ∃ u, y = g u ∧ L[i]? = some u := by
  rw [List.getElem?_map] at h
  obtain ⟨u, hu, e⟩ := Option.map_eq_some_iff.mp h
  exact ⟨u, e.symm, hu⟩
def due : Option Int → Option Int → List (Option Int)
  | some x, some y => [some x, some y, some (x + y), some (x + y)]
  | _, _ => [none, none, none, none]
theorem due_of {a b : Option Int} : due a b = [sumO a (b.map fun _ => 0), sumO b (a.map fun _ => 0), sumO a b, sumO b a] := by
  cases a <;> cases b <;> simp [due, sumO, Int.add_comm]
end Bz

namespace Bz
open PySem PySem.Spec PyProof.Rows L2
/-! ### one behind the other -/
def Runs (xs : List Arw) (ss es ls : List PySem.Str) (n : Int) : Prop := ∃ s ∈ ss, ∃ e ∈ es, RunS xs ls s e n
def lkA (ts : List PySem.Str) (x : Arw) : List Arw := ts.map fun s => ⟨x.s, x.l, s, x.c⟩
/-- the arrows over to the other's starts -/
def lks (xs : List Arw) (es ts : List PySem.Str) : List Arw := (xs.filter fun x => decide (x.t ∈ es)).flatMap (lkA ts)
theorem lks_mem {xs : List Arw} {es ts : List PySem.Str} {z : Arw} : z ∈ lks xs es ts ↔ ∃ x ∈ xs, x.t ∈ es ∧ ∃ s ∈ ts, z = ⟨x.s, x.l, s, x.c⟩ := by
  unfold lks lkA
  simp only [List.mem_flatMap, List.mem_map, List.mem_filter, decide_eq_true_eq]
  exact ⟨fun ⟨x, ⟨hx, ht⟩, s, hs, e⟩ => ⟨x, hx, ht, s, hs, e.symm⟩, fun ⟨x, hx, ht, s, hs, e⟩ => ⟨x, ⟨hx, ht⟩, s, hs, e.symm⟩⟩
theorem lks_len (xs : List Arw) (es ts : List PySem.Str) : (lks xs es ts).length ≤ xs.length * ts.length := by
  unfold lks
  induction xs with
  | nil => simp
  | cons x xs ih =>
    rw [List.length_cons, Nat.succ_mul]
    by_cases c : x.t ∈ es
    · rw [List.filter_cons_of_pos (by simpa using c), List.flatMap_cons, List.length_append]
      have : (lkA ts x).length = ts.length := by
        unfold lkA
        rw [List.length_map]
      omega
    · rw [List.filter_cons_of_neg (by simpa using c)]
      omega
theorem lks_len2 (xs : List Arw) (es ts : List PySem.Str) : (lks xs es ts).length = (xs.filter fun x => decide (x.t ∈ es)).length * ts.length := by
  unfold lks
  induction (xs.filter fun x => decide (x.t ∈ es)) with
  | nil => simp
  | cons x xs ih =>
    rw [List.flatMap_cons, List.length_append, ih, List.length_cons, Nat.succ_mul]
    have : (lkA ts x).length = ts.length := by
      unfold lkA
      rw [List.length_map]
    omega
theorem lks_take (xs : List Arw) (es ts : List PySem.Str) (i : Nat) : (lks (xs.take i) es ts).length ≤ (lks xs es ts).length := by
  rw [lks_len2, lks_len2]
  refine Nat.mul_le_mul_right _ ?_
  exact (List.Sublist.filter _ (List.take_sublist i xs)).length_le
theorem lks_in {xs : List Arw} {es ts : List PySem.Str} {y : Arw} (h : y.t ∈ es) : lks (xs ++ [y]) es ts = lks xs es ts ++ lkA ts y := by
  unfold lks
  rw [List.filter_append, List.filter_cons_of_pos (by simpa using h), List.filter_nil, List.flatMap_append]
  simp
theorem lks_out {xs : List Arw} {es ts : List PySem.Str} {y : Arw} (h : y.t ∉ es) : lks (xs ++ [y]) es ts = lks xs es ts := by
  unfold lks
  rw [List.filter_append, List.filter_cons_of_neg (by simpa using h), List.filter_nil, List.append_nil]
def jA (xs ys : List Arw) (es ts : List PySem.Str) : List Arw := xs ++ ys ++ lks xs es ts
theorem run_second {xs ys : List Arw} {S U es ts : List PySem.Str} (hx : ∀ x ∈ xs, x.s ∈ S ∧ x.t ∈ S) (hy : ∀ y ∈ ys, y.s ∈ U ∧ y.t ∈ U) (d : ∀ s ∈ S, s ∉ U) : ∀ (ls : List PySem.Str) (a b : PySem.Str) (n : Int), a ∈ U → (RunS (jA xs ys es ts) ls a b n ↔ RunS ys ls a b n)
  | [], a, b, n, _ => Iff.rfl
  | l :: ls, a, b, n, ha => by
    simp only [RunS]
    constructor
    · rintro ⟨z, hz, e1, e2, m, r, e⟩
      rcases List.mem_append.mp hz with h | h
      · rcases List.mem_append.mp h with h | h
        · exact absurd ha (d a (by rw [← e1]; exact (hx z h).1))
        · exact ⟨z, h, e1, e2, m, (run_second hx hy d ls _ _ _ (hy z h).2).mp r, e⟩
      · obtain ⟨x, hxm, _, s, _, rfl⟩ := lks_mem.mp h
        exact absurd ha (d a (by rw [← e1]; exact (hx x hxm).1))
    · rintro ⟨z, h, e1, e2, m, r, e⟩
      exact ⟨z, List.mem_append_left _ (List.mem_append_right _ h), e1, e2, m, (run_second hx hy d ls _ _ _ (hy z h).2).mpr r, e⟩
theorem run_first {xs ys : List Arw} {S U es ts : List PySem.Str} (hx : ∀ x ∈ xs, x.s ∈ S ∧ x.t ∈ S) (hy : ∀ y ∈ ys, y.s ∈ U ∧ y.t ∈ U) (d : ∀ s ∈ S, s ∉ U) (ht : ∀ t ∈ ts, t ∈ U) : ∀ (ls : List PySem.Str) (a b : PySem.Str) (n : Int), a ∈ S → b ∈ U →
    (RunS (jA xs ys es ts) ls a b n ↔ ∃ i, 0 < i ∧ i ≤ ls.length ∧ ∃ m k, (∃ e ∈ es, RunS xs (ls.take i) a e m) ∧ (∃ s ∈ ts, RunS ys (ls.drop i) s b k) ∧ n = m + k)
  | [], a, b, n, ha, hb => by
    constructor
    · rintro ⟨e, _⟩
      rw [e] at ha
      exact absurd hb (d b ha)
    · rintro ⟨i, h1, h2, _⟩
      have : i ≤ 0 := h2
      omega
  | l :: ls, a, b, n, ha, hb => by
    constructor
    · rintro ⟨z, hz, e1, e2, m, r, e⟩
      rcases List.mem_append.mp hz with h | h
      · rcases List.mem_append.mp h with h | h
        · obtain ⟨i, h1, h2, m1, k1, ⟨q, hq, r1⟩, r2, e3⟩ := (run_first hx hy d ht ls z.t b m (hx z h).2 hb).mp r
          refine ⟨i + 1, by omega, by rw [List.length_cons]; omega, z.c + m1, k1, ⟨q, hq, z, h, e1, e2, m1, r1, rfl⟩, r2, by omega⟩
        · exact absurd (hy z h).1 (d _ (by rw [e1]; exact ha))
      · obtain ⟨x, hxm, xe, s, hs, rfl⟩ := lks_mem.mp h
        refine ⟨1, by omega, by rw [List.length_cons]; omega, x.c + 0, m, ⟨x.t, xe, x, hxm, e1, e2, 0, ⟨rfl, rfl⟩, rfl⟩, ⟨s, hs, (run_second hx hy d ls s b m (ht s hs)).mp r⟩, ?_⟩
        rw [e]
        show x.c + m = _
        omega
    · rintro ⟨i, h1, h2, m1, k1, ⟨q, hq, r1⟩, ⟨s, hs, r2⟩, e3⟩
      obtain ⟨j, rfl⟩ : ∃ j, i = j + 1 := ⟨i - 1, by omega⟩
      obtain ⟨x, hxm, e1, e2, m2, r3, e4⟩ := r1
      by_cases c : j = 0
      · subst c
        obtain ⟨e5, e6⟩ := r3
        refine ⟨⟨x.s, x.l, s, x.c⟩, List.mem_append_right _ (lks_mem.mpr ⟨x, hxm, by rw [e5]; exact hq, s, hs, rfl⟩), e1, e2, k1, (run_second hx hy d ls s b k1 (ht s hs)).mpr r2, ?_⟩
        show n = x.c + k1
        omega
      · refine ⟨x, List.mem_append_left _ (List.mem_append_left _ hxm), e1, e2, m2 + k1, (run_first hx hy d ht ls x.t b _ (hx x hxm).2 hb).mpr ⟨j, by omega, by rw [List.length_cons] at h2; omega, m2, k1, ⟨q, hq, r3⟩, ⟨s, hs, r2⟩, rfl⟩, by omega⟩
def ArDD (D E : Addr) (H : Hp) (us : List V) (xs : List Arw) : Prop := Paired (fun v x => ∃ q, v = V.ref q ∧ q ≠ D ∧ q ≠ E ∧ H q = some (.tup x.vals)) us xs
theorem ArDD.upd {D E : Addr} {H : Hp} {us : List V} {xs : List Arw} {o : HO} (h : ArDD D E H us xs) : ArDD D E (L2.upd H D o) us xs := Paired.mapP h fun v p ⟨r, e, n, m, hr⟩ => ⟨r, e, n, m, (upd_ne n).trans hr⟩
theorem ArDD.keep {D E : Addr} {H H' : Hp} {us : List V} {xs : List Arw} (h : ArDD D E H us xs) (s : Same H H') : ArDD D E H' us xs := Paired.mapP h fun v p ⟨r, e, n, m, hr⟩ => ⟨r, e, n, m, s _ _ hr⟩
theorem ArDD.snoc {D E g : Addr} {H : Hp} {us : List V} {xs : List Arw} {x : Arw} (h : ArDD D E H us xs) (n : g ≠ D) (m : g ≠ E) (e : H g = some (.tup x.vals)) : ArDD D E H (us ++ [.ref g]) (xs ++ [x]) := paired_snoc h ⟨g, rfl, n, m, e⟩
theorem ArDD.snd {D E : Addr} {H : Hp} {us : List V} {xs : List Arw} (h : ArDD D E H us xs) : ArD E H us xs := Paired.mapP h fun v p ⟨r, e, _, m, hr⟩ => ⟨r, e, m, hr⟩
/-- sums over all cuts -/
def CutR (P Q : List PySem.Str → Int → Prop) (ls : List PySem.Str) (n : Int) : Prop := ∃ i, i ≤ ls.length ∧ ∃ m k, P (ls.take i) m ∧ Q (ls.drop i) k ∧ n = m + k
def CutN (f g : Nat → Option Int) (L : Nat) (n : Int) : Prop := ∃ i, i ≤ L ∧ ∃ m k, f i = some m ∧ g i = some k ∧ n = m + k
theorem join_runs {xs ys : List Arw} {S U ss es ts fs : List PySem.Str} {b : Bool} (hx : ∀ x ∈ xs, x.s ∈ S ∧ x.t ∈ S) (hy : ∀ y ∈ ys, y.s ∈ U ∧ y.t ∈ U) (d : ∀ s ∈ S, s ∉ U) (h1 : ∀ s ∈ ss, s ∈ S) (h3 : ∀ t ∈ ts, t ∈ U) (h4 : ∀ t ∈ fs, t ∈ U)
    (hb : b = true ↔ ∃ m, Runs xs ss es [] m) (ls : List PySem.Str) (n : Int) : Runs (jA xs ys es ts) (ss ++ if b = true then ts else []) fs ls n ↔ CutR (Runs xs ss es) (Runs ys ts fs) ls n := by
  constructor
  · rintro ⟨s, hs, e, he, r⟩
    rcases List.mem_append.mp hs with hs | hs
    · obtain ⟨i, _, h2, m, k, ⟨q, hq, r1⟩, ⟨t, ht, r2⟩, e3⟩ := (run_first hx hy d h3 ls s e n (h1 s hs) (h4 e he)).mp r
      exact ⟨i, h2, m, k, ⟨s, hs, q, hq, r1⟩, ⟨t, ht, e, he, r2⟩, e3⟩
    · by_cases c : b = true
      · rw [if_pos c] at hs
        obtain ⟨m, s0, hs0, e0, he0, e1, e2⟩ := hb.mp c
        exact ⟨0, Nat.zero_le _, 0, n, ⟨s0, hs0, e0, he0, e1, rfl⟩, ⟨s, hs, e, he, (run_second hx hy d ls s e n (h3 s hs)).mp r⟩, by omega⟩
      · rw [if_neg c] at hs
        cases hs
  · rintro ⟨i, h2, m, k, ⟨s, hs, q, hq, r1⟩, ⟨t, ht, e, he, r2⟩, e3⟩
    by_cases c : i = 0
    · subst c
      obtain ⟨e4, e5⟩ := r1
      have hbt : b = true := hb.mpr ⟨0, s, hs, q, hq, e4, rfl⟩
      refine ⟨t, List.mem_append_right _ (by rw [if_pos hbt]; exact ht), e, he, (run_second hx hy d ls t e n (h3 t ht)).mpr ?_⟩
      rw [e3, e5, Int.zero_add]
      exact r2
    · exact ⟨s, List.mem_append_left _ hs, e, he, (run_first hx hy d h3 ls s e n (h1 s hs) (h4 e he)).mpr ⟨i, by omega, h2, m, k, ⟨q, hq, r1⟩, ⟨t, ht, r2⟩, e3⟩⟩
theorem cuts_least {P Q : List PySem.Str → Int → Prop} {ls : List PySem.Str} {f g : Nat → Option Int} {o : Option Int} (hf : ∀ i, i ≤ ls.length → LeastO (P (ls.take i)) (f i)) (hg : ∀ i, i ≤ ls.length → LeastO (Q (ls.drop i)) (g i)) (h : LeastO (CutR P Q ls) o) : LeastO (CutN f g ls.length) o := by
  refine LeastO.both ?_ ?_ h
  · rintro n ⟨i, hi, m, k, h1, h2, rfl⟩
    have a := hf i hi
    have b := hg i hi
    cases ef : f i with
    | none =>
      rw [ef] at a
      exact absurd h1 (a m)
    | some m' =>
      rw [ef] at a
      cases eg : g i with
      | none =>
        rw [eg] at b
        exact absurd h2 (b k)
      | some k' =>
        rw [eg] at b
        have := a.2 m h1
        have := b.2 k h2
        exact ⟨m' + k', by omega, i, hi, m', k', ef, eg, rfl⟩
  · rintro n ⟨i, hi, m, k, h1, h2, rfl⟩
    have a := hf i hi
    have b := hg i hi
    rw [h1] at a
    rw [h2] at b
    exact ⟨m + k, Int.le_refl _, i, hi, m, k, a.1, b.1, rfl⟩
theorem cutN_rev {f g : Nat → Option Int} {L : Nat} (n : Int) : CutN (fun i => g (L - i)) (fun i => f (L - i)) L n ↔ CutN f g L n := by
  constructor
  · rintro ⟨i, hi, m, k, h1, h2, rfl⟩
    exact ⟨L - i, by omega, k, m, h2, h1, by omega⟩
  · rintro ⟨i, hi, m, k, h1, h2, rfl⟩
    have e : L - (L - i) = i := by omega
    exact ⟨L - i, by omega, k, m, by show g (L - (L - i)) = some k; rw [e]; exact h2, by show f (L - (L - i)) = some m; rw [e]; exact h1, by omega⟩
/-- arrows, starts, ends of one behind the other -/
structure JoinOf (zs : List Arw) (ss es : List PySem.Str) (M N : MachV) : Prop where
  price : ∀ (ls : List PySem.Str) (f g : Nat → Option Int) (o : Option Int), (∀ i, i ≤ ls.length → LPr M.ars M.sts M.ens (ls.take i) (f i)) → (∀ i, i ≤ ls.length → LPr N.ars N.sts N.ens (ls.drop i) (g i)) → LPr zs ss es ls o → LeastO (CutN f g ls.length) o
  ar : ∀ z ∈ zs, z.s ∈ M.sta ++ N.sta ∧ z.t ∈ M.sta ++ N.sta
  st : ∀ s ∈ ss, s ∈ M.sta ++ N.sta
  en : ∀ s ∈ es, s ∈ M.sta ++ N.sta
  ok : ∀ z ∈ zs, z.Ok
  xl : zs.length ≤ 400
theorem join_of {M N : MachV} {zs : List Arw} {F1 F2 : List PySem.Str} {b : Bool} (hM : MFine M) (hN : MFine N) (d : ∀ s ∈ M.sta, s ∉ N.sta) (hb : b = true ↔ ∃ m, Runs M.ars M.sts M.ens [] m)
    (hK : Kept (jA M.ars N.ars M.ens N.sts) (M.sts ++ if b = true then N.sts else []) N.ens F1 F2) (hc : CheapOf ((jA M.ars N.ars M.ens N.sts).filter (kpA F1 F2)) zs) (l : (jA M.ars N.ars M.ens N.sts).length ≤ 400) :
    JoinOf zs ((M.sts ++ if b = true then N.sts else []).filter (kp F1 F2)) (N.ens.filter (kp F1 F2)) M N := by
  have sub : ∀ z ∈ zs, z ∈ jA M.ars N.ars M.ens N.sts := fun z hz => (List.mem_filter.mp (hc.sub z hz).1).1
  have jin : ∀ z ∈ jA M.ars N.ars M.ens N.sts, (z.s ∈ M.sta ++ N.sta ∧ z.t ∈ M.sta ++ N.sta) ∧ z.Ok := fun z hz => by
    rcases List.mem_append.mp hz with h | h
    · rcases List.mem_append.mp h with h | h
      · exact ⟨⟨List.mem_append_left _ (hM.ar z h).1, List.mem_append_left _ (hM.ar z h).2⟩, hM.ok z h⟩
      · exact ⟨⟨List.mem_append_right _ (hN.ar z h).1, List.mem_append_right _ (hN.ar z h).2⟩, hN.ok z h⟩
    · obtain ⟨x, hx, _, s, hs, rfl⟩ := lks_mem.mp h
      have o := hM.ok x hx
      exact ⟨⟨List.mem_append_left _ (hM.ar x hx).1, List.mem_append_right _ (hN.st s hs)⟩, ⟨o.s, o.l, hN.nm s (hN.st s hs), o.c0, o.c1⟩⟩
  refine ⟨fun ls f g o hf hg ho => ?_, fun z hz => (jin z (sub z hz)).1, fun s hs => ?_, fun s hs => List.mem_append_right _ (hN.en s (List.mem_filter.mp hs).1), fun z hz => (jin z (sub z hz)).2, Nat.le_trans (Nat.le_trans (nodup_le (cheap_nodup hc) fun y hy => (hc.sub y hy).1) (List.length_filter_le ..)) l⟩
  · have h1 := (LPr.kept hK).mp ((LPr.cheap hc (fun _ => Iff.rfl) (fun _ => Iff.rfl)).mp ho)
    exact cuts_least (P := Runs M.ars M.sts M.ens) (Q := Runs N.ars N.sts N.ens) hf hg (LeastO.iff (fun n => join_runs hM.ar hN.ar d hM.st hN.st hN.en hb ls n) h1)
  · rcases List.mem_append.mp (List.mem_filter.mp hs).1 with h | h
    · exact List.mem_append_left _ (hM.st s h)
    · split at h
      · exact List.mem_append_right _ (hN.st s h)
      · cases h
/-- R reads a row of M and behind it one of N -/
structure BehindOf (R M N : MachV) : Prop where
  price : ∀ (ls : List PySem.Str) (f g : Nat → Option Int) (o : Option Int), (∀ i, i ≤ ls.length → LPr M.ars M.sts M.ens (ls.take i) (f i)) → (∀ i, i ≤ ls.length → LPr N.ars N.sts N.ens (ls.drop i) (g i)) → LeastO (fun n => ∃ e ∈ R.ens, Rch R.ars R.sts ls e n) o → LeastO (CutN f g ls.length) o
  len : R.sta.length ≤ M.sta.length + N.sta.length
theorem mof_len {R M N : MachV} {zs : List Arw} {ss es : List PySem.Str} (h : MOf R zs ss es) (ar : ∀ z ∈ zs, z.s ∈ M.sta ++ N.sta ∧ z.t ∈ M.sta ++ N.sta) (st : ∀ s ∈ ss, s ∈ M.sta ++ N.sta) (en : ∀ s ∈ es, s ∈ M.sta ++ N.sta) : R.sta.length ≤ M.sta.length + N.sta.length := by
  have q := nodup_le (ts := M.sta ++ N.sta) (asc_nodup h.sta.1) fun s hs => by
    rcases (h.sta.2 s).mp hs with h1 | h1 | ⟨x, hx, h1⟩
    · exact st s h1
    · exact en s h1
    · have := ar x (h.ars.sub x hx).1
      rcases h1 with h1 | h1
      · rw [h1]; exact this.1
      · rw [h1]; exact this.2
  rw [List.length_append] at q
  exact q
theorem behind_a {R M N : MachV} {zs : List Arw} {ss es : List PySem.Str} (j : JoinOf zs ss es M N) (h : MOf R zs ss es) : BehindOf R M N :=
  ⟨fun ls f g o hf hg ho => j.price ls f g o hf hg (h.price ho), mof_len h j.ar j.st j.en⟩
theorem turned_lpr {N T : MachV} (h : MOf T (N.ars.map swapA) N.ens N.sts) {ls : List PySem.Str} {o : Option Int} : LPr T.ars T.sts T.ens ls o ↔ LPr N.ars N.sts N.ens ls.reverse o := by
  refine (LPr.cheap h.ars h.sts.2 h.ens.2).trans ?_
  have := LPr.turn (xs := N.ars) (ss := N.sts) (es := N.ens) (ls := ls.reverse) (o := o)
  rw [List.reverse_reverse] at this
  exact this
theorem behind_b {R M N TM TN : MachV} {zs : List Arw} {ss es : List PySem.Str} (hM : MOf TM (M.ars.map swapA) M.ens M.sts) (hN : MOf TN (N.ars.map swapA) N.ens N.sts) (lM : TM.sta.length ≤ M.sta.length) (lN : TN.sta.length ≤ N.sta.length) (j : JoinOf zs ss es TN TM) (h : MOf R (zs.map swapA) es ss) : BehindOf R M N := by
  refine ⟨fun ls f g o hf hg ho => ?_, ?_⟩
  · have h1 : LPr (zs.map swapA) es ss ls o := h.price ho
    have h2 : LPr zs ss es ls.reverse o := by
      have := LPr.turn (xs := zs) (ss := ss) (es := es) (ls := ls.reverse) (o := o)
      rw [List.reverse_reverse] at this
      exact this.mp h1
    have h3 := j.price ls.reverse (fun i => g (ls.length - i)) (fun i => f (ls.length - i)) o (fun i hi => ?_) (fun i hi => ?_) h2
    · rw [List.length_reverse] at h3
      exact LeastO.iff cutN_rev h3
    · refine (turned_lpr hN).mpr ?_
      rw [List.take_reverse, List.reverse_reverse]
      exact hg _ (by omega)
    · refine (turned_lpr hM).mpr ?_
      rw [List.drop_reverse, List.reverse_reverse]
      exact hf _ (by omega)
  · have q := mof_len (M := TN) (N := TM) h (fun z hz => by
      obtain ⟨y, hy, rfl⟩ := List.mem_map.mp hz
      exact ⟨(j.ar y hy).2, (j.ar y hy).1⟩) j.en j.st
    omega
theorem BehindOf.rn {R M N M' N' : MachV} {f g : PySem.Str → PySem.Str} (hM : MFine M) (hN : MFine N) (rf : RnOf "a" M f) (rg : RnOf "b" N g) (h1 : MOf M' (M.ars.map (rnA f)) (M.sts.map f) (M.ens.map f)) (h2 : MOf N' (N.ars.map (rnA g)) (N.sts.map g) (N.ens.map g))
    (l1 : M'.sta.length ≤ M.sta.length) (l2 : N'.sta.length ≤ N.sta.length) (h : BehindOf R M' N') : BehindOf R M N := by
  refine ⟨fun ls p q o hp hq ho => h.price ls p q o (fun i hi => ?_) (fun i hi => ?_) ho, by have := h.len; omega⟩
  · exact (LPr.cheap h1.ars h1.sts.2 h1.ens.2).mpr ((LPr.rn hM.ar rf.2 hM.st hM.en).mpr (hp i hi))
  · exact (LPr.cheap h2.ars h2.sts.2 h2.ens.2).mpr ((LPr.rn hN.ar rg.2 hN.st hN.en).mpr (hq i hi))
/-- small enough to be put behind another -/
structure Lit (M : MachV) : Prop where
  n : M.sta.length ≤ 20
  x : M.ars.length ≤ 20
  s : M.sts.length ≤ 20
  e : M.ens.length ≤ 20
theorem lit_of {M : MachV} {xs : List Arw} {ss es : List PySem.Str} (h : MOf M xs ss es) (l : M.sta.length ≤ 20) (x : xs.length ≤ 20) : Lit M where
  n := l
  x := Nat.le_trans (nodup_le (cheap_nodup h.ars) fun y hy => (h.ars.sub y hy).1) x
  s := Nat.le_trans (nodup_le (asc_nodup h.sts.1) fun s hs => (h.sta.2 s).mpr (.inl ((h.sts.2 s).mp hs))) l
  e := Nat.le_trans (nodup_le (asc_nodup h.ens.1) fun s hs => (h.sta.2 s).mpr (.inr (.inl ((h.ens.2 s).mp hs)))) l
/-- arrows into the ends, out of the starts -/
def inE (M : MachV) : Nat := (M.ars.filter fun x => decide (x.t ∈ M.ens)).length
def outS (M : MachV) : Nat := (M.ars.filter fun x => decide (x.s ∈ M.sts)).length
def spJoined (C : Addr) : Sp := fun vs H Q _ => ∃ (m n : Addr) (M N : MachV), vs = [.ref m, .ref n] ∧ IsMach C H m M ∧ IsMach C H n N ∧ MFine M ∧ MFine N ∧ Lit M ∧ Lit N ∧ inE M * N.sts.length ≤ 300 ∧ (∀ s ∈ M.sta, s ∉ N.sta) ∧
  ∀ (t q1 q2 q3 : Addr) (ws : List V) (zs : List Arw) (ss es : List PySem.Str) (H' : Hp), H' t = some (.tup [.ref q1, .ref q2, .ref q3]) → H' q1 = some (.tup ws) → ArS H' ws zs → H' q2 = some (.lst (ss.map V.str)) → H' q3 = some (.lst (es.map V.str)) → ss.length ≤ 40 → es.length ≤ 20 →
    JoinOf zs ss es M N → Same H H' → Q (.ref t) H'
def spBehind (C : Addr) : Sp := fun vs H Q _ => ∃ (m n : Addr) (M N : MachV), vs = [.ref m, .ref n] ∧ IsMach C H m M ∧ IsMach C H n N ∧ MFine M ∧ MFine N ∧ Asc M.sta ∧ Asc N.sta ∧ Lit M ∧ Lit N ∧ inE M * N.sts.length ≤ 300 ∧ outS N * M.ens.length ≤ 300 ∧
  ∀ (q : Addr) (R : MachV) (H' : Hp), H q = none → IsMach C H' q R → MFine R → BehindOf R M N → Same H H' → Q (.ref q) H'
end Bz

namespace Bz
open PySem PySem.Spec PyProof.Rows L2
open AutoSeq1 (wpAny_loadPart')
/-! ### xs.extend(tuple) -/
theorem extend_tup (l : Addr) (items : Array Value) (n : Nat) (b : Addr) (items2 : Array Value) (n2 : Nat) (dj : Option Addr) (sl : Array (Option Value)) (hs0 : ¬(!items.isEmpty && Builtin.List.listTooLong (items.size + items2.size)) = true) (hs1 : items.size ≤ sizeLine) (hs2 : items.size + items2.size ≤ sizeLine + 1) :
    Meets (Builtin.«list.extend» ⟨[.ref l, .ref b], []⟩) (fun _ R s => s.heap.get? l = some { cls := .type "list", dict := none, data := .seq items n, slots := #[] } ∧ s.heap.get? b = some { cls := .type "tuple", dict := dj, data := .seq items2 n2, slots := sl } ∧ R (.ok (.ret Value.none)) { s with heap := s.heap.update l (Obj.mapSeq fun x => x ++ items2), toks := s.toks }) :=
  .of_wp fun prog w A R s h => by
    obtain ⟨hp, g, d, tk, os⟩ := s; obtain ⟨hl, hb, h⟩ := h; have f1 := AutoSeq1.idx_int; have f2 := AutoSeq1.sub_tuple_tuple; have f3 := AutoSeq1.sub_list_list; have f4 := AutoSeq1.sub_tuple_list; have f5 := AutoSeq1.sub_list_tuple;
    have hz' : (items ++ items2).size ≤ sizeLine + 1 := by rw [Array.size_append]; exact hs2
    wp_walk using (wpAny_updateSeq hl rfl (hz := hs1) (_hz' := hz')), wpAny_loadPart' hl, wpAny_loadPart' hb; exact ⟨_, rfl, h⟩
def rExtendT (K : PySem.W.Frag) : V → List V → Hp → VK → Prop := fun x vs H Q => ∃ l b xs zs, x = .ref l ∧ vs = [.ref b] ∧ H l = some (.lst xs) ∧ SqT K H b zs ∧ xs.length + zs.length ≤ sizeLine ∧ Q .non (upd H l (.lst (xs ++ zs)))
theorem mt_extendT {X : Cx} : MtM X "list.extend" (rExtendT X.K) := by
  intro pins s σ H x vs v us Q I rx rv h
  obtain ⟨l, b, xs, zs, rfl, rfl, hH, hB, hz, q⟩ := h
  cases rx
  obtain ⟨u, rfl, ru⟩ := rv.one
  cases ru
  obtain ⟨z, its, n, r, hl, e⟩ := I.lstM hH
  obtain ⟨its2, r2, ⟨⟨c, dj, dt, sl⟩, gl, gc, n2, gd⟩, z2⟩ := I.tuple hB
  replace gc : c = .type "tuple" := gc
  replace gd : dt = .seq its2.toArray n2 := gd
  subst gc gd
  have hl2 := r2.length
  have hsz : its.toArray.size + its2.toArray.size ≤ sizeLine := by rw [List.size_toArray, List.size_toArray]; omega
  have hlong : ¬ (!its.toArray.isEmpty && Builtin.List.listTooLong (its.toArray.size + its2.toArray.size)) = true := by
    rw [notLongL hsz, Bool.and_false]
    exact Bool.false_ne_true
  refine call_meets F.slot_list_extend ⟨_, e, rfl⟩ F.entry_list_extend (F.args_list_extend_2 _ _)
    (extend_tup l its.toArray n b its2.toArray n2 dj sl hlong (by rw [List.size_toArray]; omega) (by omega)) ⟨e, gl, ?_⟩
  refine ⟨.non, _, I.lset (its' := its ++ its2) hH e (by simp) (r.append r2) ?_, rfl, q⟩
  rw [List.length_append]
  omega
theorem kmt_extendT (K : PySem.W.Frag) {X : Cx} (h : X.K = K := by rfl) : MtM X "list.extend" (rExtendT K) := by subst h; exact mt_extendT
end Bz

namespace Bz
open PySem PySem.Spec PyProof.Rows L2
theorem mof_sta {R : MachV} {zs : List Arw} {ss es ns : List PySem.Str} (h : MOf R zs ss es) (ar : ∀ z ∈ zs, z.s ∈ ns ∧ z.t ∈ ns) (st : ∀ s ∈ ss, s ∈ ns) (en : ∀ s ∈ es, s ∈ ns) : ∀ s ∈ R.sta, s ∈ ns := fun s hs => by
  rcases (h.sta.2 s).mp hs with h1 | h1 | ⟨x, hx, h1⟩
  · exact st s h1
  · exact en s h1
  · have := ar x (h.ars.sub x hx).1
    rcases h1 with h1 | h1
    · rw [h1]; exact this.1
    · rw [h1]; exact this.2
theorem rn_fine {M R : MachV} {g : PySem.Str} {f : PySem.Str → PySem.Str} (hg : Lt g) (rf : RnOf g M f) (hF : MFine M) (hL : Lit M) (h : MOf R (M.ars.map (rnA f)) (M.sts.map f) (M.ens.map f)) : MFine R ∧ Lit R ∧ (∀ s ∈ R.sta, s ∈ M.sta.map f) ∧ R.sta.length ≤ M.sta.length := by
  obtain ⟨r1, r2, r3, r4, r5⟩ := rn_ok hg rf hF
  have sub := mof_sta h r5 r3 r4
  have le : R.sta.length ≤ M.sta.length := by
    have := nodup_le (asc_nodup h.sta.1) sub
    rw [List.length_map] at this
    exact this
  have l1 := hL.n
  have l2 := hL.x
  exact ⟨fine_of h r1 (by rw [List.length_map]; omega) r2 (by rw [List.length_map]; omega) r3 r4 r5, lit_of h (by omega) (by rw [List.length_map]; exact l2), sub, le⟩
theorem turn_fine {M R : MachV} (hF : MFine M) (hL : Lit M) (h : MOf R (M.ars.map swapA) M.ens M.sts) : MFine R ∧ Lit R ∧ (∀ s ∈ R.sta, s ∈ M.sta) ∧ R.sta.length ≤ M.sta.length := by
  have sub := mof_sta (ns := M.sta) h (fun z hz => by
    obtain ⟨y, hy, rfl⟩ := List.mem_map.mp hz
    exact ⟨(hF.ar y hy).2, (hF.ar y hy).1⟩) hF.en hF.st
  have le := nodup_le (asc_nodup h.sta.1) sub
  have l1 := hL.n
  exact ⟨hF.turn h, lit_of h (by omega) (by rw [List.length_map]; exact hL.x), sub, le⟩
theorem ab_apart {M N : MachV} {f g : PySem.Str → PySem.Str} (rf : RnOf "a" M f) (rg : RnOf "b" N g) : ∀ s ∈ M.sta.map f, s ∉ N.sta.map g := fun s hs c => by
  obtain ⟨x, hx, rfl⟩ := List.mem_map.mp hs
  obtain ⟨y, hy, e⟩ := List.mem_map.mp c
  obtain ⟨j, _, ej⟩ := rf.1 x hx
  obtain ⟨k, _, ek⟩ := rg.1 y hy
  rw [ej, ek] at e
  exact gk_ne lt_ab.2 lt_ab.1 (by decide) e
theorem join_fine {R M N : MachV} {zs : List Arw} {ss es : List PySem.Str} (hM : MFine M) (hN : MFine N) (lM : Lit M) (lN : Lit N) (j : JoinOf zs ss es M N) (h : MOf R zs ss es) : MFine R := by
  have a := lM.n
  have b := lN.n
  exact fine_of (ns := M.sta ++ N.sta) h j.ok j.xl (fun s hs => (List.mem_append.mp hs).elim (hM.nm s) (hN.nm s)) (by rw [List.length_append]; omega) j.st j.en j.ar
theorem join_fine' {R M N : MachV} {zs : List Arw} {ss es : List PySem.Str} (hM : MFine M) (hN : MFine N) (lM : Lit M) (lN : Lit N) (j : JoinOf zs ss es M N) (h : MOf R (zs.map swapA) es ss) : MFine R := by
  have a := lM.n
  have b := lN.n
  exact fine_of (ns := M.sta ++ N.sta) h (fun z hz => by
    obtain ⟨y, hy, rfl⟩ := List.mem_map.mp hz
    exact swap_ok (j.ok y hy)) (by rw [List.length_map]; exact j.xl) (fun s hs => (List.mem_append.mp hs).elim (hM.nm s) (hN.nm s)) (by rw [List.length_append]; omega) j.en j.st fun z hz => by
    obtain ⟨y, hy, rfl⟩ := List.mem_map.mp hz
    exact ⟨(j.ar y hy).2, (j.ar y hy).1⟩
theorem rn_few {M R : MachV} {g : PySem.Str} {f : PySem.Str → PySem.Str} (rf : RnOf g M f) (hF : MFine M) (h : MOf R (M.ars.map (rnA f)) (M.sts.map f) (M.ens.map f)) : inE R ≤ inE M ∧ outS R ≤ outS M ∧ R.sts.length ≤ M.sts.length ∧ R.ens.length ≤ M.ens.length := by
  refine ⟨?_, ?_, ?_, ?_⟩
  · unfold inE
    have q := nodup_le (ts := (M.ars.filter fun x => decide (x.t ∈ M.ens)).map (rnA f)) ((cheap_nodup h.ars).filter (fun x => decide (x.t ∈ R.ens))) fun y hy => by
      obtain ⟨h1, h2⟩ := List.mem_filter.mp hy
      obtain ⟨x, hx, rfl⟩ := List.mem_map.mp (h.ars.sub y h1).1
      obtain ⟨e, he, e2⟩ := List.mem_map.mp ((h.ens.2 _).mp (of_decide_eq_true h2))
      have : e = x.t := rf.2 e (hF.en e he) x.t (hF.ar x hx).2 e2
      exact List.mem_map.mpr ⟨x, List.mem_filter.mpr ⟨hx, decide_eq_true (by rw [← this]; exact he)⟩, rfl⟩
    rw [List.length_map] at q
    exact q
  · unfold outS
    have q := nodup_le (ts := (M.ars.filter fun x => decide (x.s ∈ M.sts)).map (rnA f)) ((cheap_nodup h.ars).filter (fun x => decide (x.s ∈ R.sts))) fun y hy => by
      obtain ⟨h1, h2⟩ := List.mem_filter.mp hy
      obtain ⟨x, hx, rfl⟩ := List.mem_map.mp (h.ars.sub y h1).1
      obtain ⟨e, he, e2⟩ := List.mem_map.mp ((h.sts.2 _).mp (of_decide_eq_true h2))
      have : e = x.s := rf.2 e (hF.st e he) x.s (hF.ar x hx).1 e2
      exact List.mem_map.mpr ⟨x, List.mem_filter.mpr ⟨hx, decide_eq_true (by rw [← this]; exact he)⟩, rfl⟩
    rw [List.length_map] at q
    exact q
  · have q := nodup_le (asc_nodup h.sts.1) fun s hs => (h.sts.2 s).mp hs
    rw [List.length_map] at q
    exact q
  · have q := nodup_le (asc_nodup h.ens.1) fun s hs => (h.ens.2 s).mp hs
    rw [List.length_map] at q
    exact q
theorem turn_few {M R : MachV} (h : MOf R (M.ars.map swapA) M.ens M.sts) : inE R ≤ outS M ∧ R.sts.length ≤ M.ens.length := by
  refine ⟨?_, nodup_le (asc_nodup h.sts.1) fun s hs => (h.sts.2 s).mp hs⟩
  unfold inE outS
  have q := nodup_le (ts := (M.ars.filter fun x => decide (x.s ∈ M.sts)).map swapA) ((cheap_nodup h.ars).filter (fun x => decide (x.t ∈ R.ens))) fun y hy => by
    obtain ⟨h1, h2⟩ := List.mem_filter.mp hy
    obtain ⟨x, hx, rfl⟩ := List.mem_map.mp (h.ars.sub y h1).1
    exact List.mem_map.mpr ⟨x, List.mem_filter.mpr ⟨hx, decide_eq_true ((h.ens.2 _).mp (of_decide_eq_true h2))⟩, rfl⟩
  rw [List.length_map] at q
  exact q
end Bz

namespace Bz
open PySem PySem.Spec PyProof.Rows L2
theorem least_ex {P : Int → Prop} (h0 : ∀ n, P n → 0 ≤ n) : ∃ o, LeastO P o := by
  by_cases h : ∃ n, P n
  · obtain ⟨n, hn⟩ := h
    have key : ∀ k : Nat, ∀ n : Int, n.toNat = k → P n → ∃ o, LeastO P o := by
      intro k
      induction k using Nat.strongRecOn with
      | _ k ih =>
        intro n e hn
        by_cases c : ∃ m, P m ∧ m < n
        · obtain ⟨m, hm, hl⟩ := c
          have := h0 m hm
          exact ih m.toNat (by omega) m rfl hm
        · exact ⟨some n, hn, fun m hm => by
            by_cases d : m < n
            · exact absurd ⟨m, hm, d⟩ c
            · omega⟩
    exact key _ n rfl hn
  · exact ⟨none, fun n hn => h ⟨n, hn⟩⟩
theorem run_pos {xs : List Arw} (hx : ∀ x ∈ xs, 0 ≤ x.c) : ∀ (ls : List PySem.Str) (a b : PySem.Str) (n : Int), RunS xs ls a b n → 0 ≤ n
  | [], _, _, n, h => by rw [h.2]; exact Int.le_refl 0
  | l :: ls, a, b, n, h => by
    obtain ⟨x, hxm, _, _, m, r, e⟩ := h
    have := run_pos hx ls _ _ _ r
    have := hx x hxm
    omega
theorem lpr_ex {M : MachV} (h : MFine M) (ls : List PySem.Str) : ∃ o, LPr M.ars M.sts M.ens ls o := least_ex fun n ⟨_, _, _, _, r⟩ => run_pos (fun x hx => (h.ok x hx).c0) _ _ _ _ r
/-- the sums of least prices over all cuts -/
def CutL (xs ys : List Arw) (ss es ts fs ls : List PySem.Str) (L : Nat) (n : Int) : Prop := ∃ i, i < L ∧ ∃ m k, LPr xs ss es (ls.take i) (some m) ∧ LPr ys ts fs (ls.drop i) (some k) ∧ n = m + k
def spDue (K : PySem.W.Frag) : Sp := fun vs H Q _ => ∃ (p a b e : Addr) (us : List V) (xs : List Arw) (ss es : List PySem.Str) (q c d g : Addr) (ws : List V) (ys : List Arw) (ts fs : List PySem.Str) (row : PySem.Str), vs = [.ref p, .ref q, .str row] ∧ MadeL K H p a b e us xs ss es ∧ MadeL K H q c d g ws ys ts fs ∧
  xs.length ≤ 1000 ∧ ss.length ≤ 1000 ∧ es.length ≤ 1000 ∧ ys.length ≤ 1000 ∧ ts.length ≤ 1000 ∧ fs.length ≤ 1000 ∧ row.length ≤ 1000 ∧
  ∀ (o : Option Int) (H' : Hp), LeastO (CutL xs ys ss es ts fs (sgnL row) (row.length + 1)) o → Same H H' → Q (optV o) H'
theorem behind_due {R M N : MachV} {xs ys : List Arw} {ss es ts fs ls : List PySem.Str} {o o' : Option Int} (fM : MFine M) (fN : MFine N) (hM : MOf M xs ss es) (hN : MOf N ys ts fs) (h : BehindOf R M N) (ho : LeastO (fun n => ∃ e ∈ R.ens, Rch R.ars R.sts ls e n) o) (hd : LeastO (CutL xs ys ss es ts fs ls (ls.length + 1)) o') : o = o' := by
  have a : ∀ i, LPr M.ars M.sts M.ens (ls.take i) (Classical.choose (lpr_ex fM (ls.take i))) := fun i => Classical.choose_spec (lpr_ex fM (ls.take i))
  have b : ∀ i, LPr N.ars N.sts N.ens (ls.drop i) (Classical.choose (lpr_ex fN (ls.drop i))) := fun i => Classical.choose_spec (lpr_ex fN (ls.drop i))
  generalize hf : (fun i => Classical.choose (lpr_ex fM (ls.take i))) = f at a
  generalize hg : (fun i => Classical.choose (lpr_ex fN (ls.drop i))) = g at b
  have a' : ∀ i, LPr M.ars M.sts M.ens (ls.take i) (f i) := fun i => by rw [← hf]; exact Classical.choose_spec (lpr_ex fM (ls.take i))
  have b' : ∀ i, LPr N.ars N.sts N.ens (ls.drop i) (g i) := fun i => by rw [← hg]; exact Classical.choose_spec (lpr_ex fN (ls.drop i))
  refine LeastO.uniq (h.price ls f g o (fun i _ => a' i) (fun i _ => b' i) ho) (LeastO.iff (fun n => ?_) hd)
  constructor
  · rintro ⟨i, hi, m, k, h1, h2, e⟩
    refine ⟨i, by omega, m, k, LPr.uniq (a' i) ((LPr.cheap hM.ars hM.sts.2 hM.ens.2).mpr h1), LPr.uniq (b' i) ((LPr.cheap hN.ars hN.sts.2 hN.ens.2).mpr h2), e⟩
  · rintro ⟨i, hi, m, k, h1, h2, e⟩
    have c := a' i
    have d := b' i
    rw [h1] at c
    rw [h2] at d
    exact ⟨i, by omega, m, k, (LPr.cheap hM.ars hM.sts.2 hM.ens.2).mp c, (LPr.cheap hN.ars hN.sts.2 hN.ens.2).mp d, e⟩
end Bz

namespace Bz
open PySem PySem.Spec PyProof.Rows L2
theorem kall1 (K : PySem.W.Frag) {X : Cx} (hc : X.calm = true) (h : X.K = K := by rfl) : CallR X (.builtin "all") (rAll K) := by subst h; exact cr_all hc
/-- as HMade, the ends in a list of their own -/
def HMadeX (K : PySem.W.Frag) (H : Hp) (p q : Addr) (xs : List Arw) (ss es ns : List PySem.Str) : Prop := ∃ a b e us, MadeL K H q a b e us xs ss es ∧ H e = some (.lst (es.map V.str)) ∧ a ≠ p ∧ b ≠ p ∧ e ≠ p ∧ GMade xs ss es ns
theorem HMadeX.same {K : PySem.W.Frag} {H H' : Hp} {p q : Addr} {xs : List Arw} {ss es ns : List PySem.Str} (h : HMadeX K H p q xs ss es ns) (e : Same H H') : HMadeX K H' p q xs ss es ns := by
  obtain ⟨a, b, c, us, m, x, r⟩ := h
  exact ⟨a, b, c, us, m.same e, e _ _ x, r⟩
theorem HMadeX.ext {K : PySem.W.Frag} {H H' : Hp} {p q : Addr} {c : Nat} {xs : List Arw} {ss es ns : List PySem.Str} (h : HMadeX K H p q xs ss es ns) (s : Src H p c) (e : Ext p H H') : HMadeX K H' p q xs ss es ns := by
  obtain ⟨a, b, z, us, m, x, n1, n2, n3, r⟩ := h
  exact ⟨a, b, z, us, m.ext s n1 n2 n3 e, e z _ n3 x, n1, n2, n3, r⟩
theorem HMadeX.h {K : PySem.W.Frag} {H : Hp} {p q : Addr} {xs : List Arw} {ss es ns : List PySem.Str} (h : HMadeX K H p q xs ss es ns) : HMade K H p q xs ss es ns := by
  obtain ⟨a, b, z, us, m, x, r⟩ := h
  exact ⟨a, b, z, us, m, r⟩
theorem made_hx {K : PySem.W.Frag} {H : Hp} {p q : Addr} {xs : List Arw} {ss es : List PySem.Str} {m n : Int} (h : Made K p H q xs ss es) (k : MOk xs ss es m n) (hm : m ≤ 4) (hn : n ≤ 10) : ∃ ns, HMadeX K H p q xs ss es ns ∧ (ns.length : Int) ≤ m ∧ (xs.length : Int) ≤ n ∧ (es.length : Int) ≤ m + 1 := by
  obtain ⟨a1, a2, a3, vs, nq, n1, n2, n3, hq, h1, hA, h2, h3⟩ := h
  obtain ⟨ns, hn1, hn2, hn3, hn4, hn5, hn6⟩ := k.nms
  have l := k.len
  have sl := k.slen
  have el := k.elen
  exact ⟨ns, ⟨a1, a2, a3, vs, ⟨hq, SqL.of h1, hA.s, SqL.of h2, SqL.of h3⟩, h3, n1, n2, n3, ⟨ok_of k, hn1, by omega, by omega, by omega, by omega, hn5, hn6, hn4⟩⟩, hn2, l.2, el.2⟩
/-- an end more, the first start -/
theorem GMade.more {xs : List Arw} {ss es ns : List PySem.Str} (g : GMade xs ss es ns) (l : es.length ≤ 5) : GMade xs ss (es ++ ss.take 1) ns where
  ok := g.ok
  nm := g.nm
  nl := g.nl
  xl := g.xl
  sl := g.sl
  el := by rw [List.length_append, List.length_take]; omega
  si := g.si
  ei := fun z hz => (List.mem_append.mp hz).elim (g.ei z) fun h => g.si z (List.mem_of_mem_take h)
  ai := g.ai
end Bz

namespace Bz
open PySem PySem.Spec PyProof.Rows L2
/-- behind an expression with more than one way: what is known of its value -/
theorem pe_cutE {X : Cx} {e : Expr} {te : TE} (he : PE X e te) : PE X e (fun σ H Q => ∃ N : V → Hp → Prop, te σ H N ∧ ∀ v H', N v H' → Q v H') :=
  ⟨fun pins s σ H Q I ⟨N, h, k⟩ => thn (he.run pins s σ H N I h) fun u s1 ⟨v, H1, I1, r1, q⟩ => ⟨v, H1, I1, r1, k v H1 q⟩⟩
/-! ### rows of pieces -/
/-- ls can be cut into n pieces, each not empty and such that R says -/
def Pc (R : List PySem.Str → Prop) : Nat → List PySem.Str → Prop
  | 0, ls => ls = []
  | n + 1, ls => ∃ a b, ls = a ++ b ∧ a ≠ [] ∧ R a ∧ Pc R n b
theorem pc_snoc {R : List PySem.Str → Prop} : ∀ (n : Nat) (ls : List PySem.Str), Pc R (n + 1) ls ↔ ∃ a b, ls = a ++ b ∧ Pc R n a ∧ b ≠ [] ∧ R b
  | 0, ls => by
    constructor
    · rintro ⟨a, b, rfl, h1, h2, rfl⟩
      exact ⟨[], a, by simp, rfl, h1, h2⟩
    · rintro ⟨a, b, rfl, rfl, h1, h2⟩
      exact ⟨b, [], by simp, h1, h2, rfl⟩
  | n + 1, ls => by
    constructor
    · rintro ⟨a, b, rfl, h1, h2, h3⟩
      obtain ⟨c, d, rfl, h4, h5, h6⟩ := (pc_snoc n b).mp h3
      exact ⟨a ++ c, d, by rw [List.append_assoc], ⟨a, c, rfl, h1, h2, h4⟩, h5, h6⟩
    · rintro ⟨a, b, rfl, ⟨c, d, rfl, h1, h2, h3⟩, h4, h5⟩
      exact ⟨c, d ++ b, by rw [List.append_assoc], h1, h2, (pc_snoc n _).mpr ⟨d, b, rfl, h3, h4, h5⟩⟩
theorem pc_iff {R S : List PySem.Str → Prop} (h : ∀ a, R a ↔ S a) (n : Nat) (ls : List PySem.Str) : Pc R n ls ↔ Pc S n ls := by
  have e : R = S := funext fun a => propext (h a)
  rw [e]
/-- how many pieces it takes -/
def PcN (R : List PySem.Str → Prop) (ls : List PySem.Str) (n : Int) : Prop := ∃ k : Nat, n = k ∧ Pc R k ls
/-- some run there -/
def Reads (xs : List Arw) (ss es ls : List PySem.Str) : Prop := ∃ s ∈ ss, ∃ e ∈ es, ∃ m, RunS xs ls s e m
theorem reads_of {xs : List Arw} {ss es ls : List PySem.Str} {o : Option Int} (h : LPr xs ss es ls o) : o ≠ none ↔ Reads xs ss es ls := by
  cases o with
  | none => exact ⟨fun c => absurd rfl c, fun ⟨s, hs, e, he, m, r⟩ => absurd ⟨s, hs, e, he, r⟩ (h m)⟩
  | some n =>
    obtain ⟨⟨s, hs, e, he, r⟩, _⟩ := h
    exact ⟨fun _ => ⟨s, hs, e, he, n, r⟩, fun _ => by simp⟩
theorem reads_cheap {xs ys : List Arw} {ss es ts gs ls : List PySem.Str} (c : CheapOf xs ys) (hs : ∀ k, k ∈ ts ↔ k ∈ ss) (he : ∀ k, k ∈ gs ↔ k ∈ es) : Reads ys ts gs ls ↔ Reads xs ss es ls := by
  constructor
  · rintro ⟨s, h1, e, h2, m, r⟩
    exact ⟨s, (hs s).mp h1, e, (he e).mp h2, m, run_sub (fun y hy => (c.sub y hy).1) _ _ _ _ r⟩
  · rintro ⟨s, h1, e, h2, m, r⟩
    obtain ⟨k, _, r'⟩ := run_cheap c _ _ _ _ r
    exact ⟨s, (hs s).mpr h1, e, (he e).mpr h2, k, r'⟩
/-- an arrow's sources and targets in the machine of pieces -/
def srcA (cut : PySem.Str) (ss : List PySem.Str) (x : Arw) : List (PySem.Str × Int) := if x.s ∈ ss then [(x.s, 0), (cut, 1)] else [(x.s, 0)]
def tgtA (cut : PySem.Str) (es : List PySem.Str) (x : Arw) : List PySem.Str := if x.t ∈ es then [x.t, cut] else [x.t]
def onT (x : Arw) (ts : List PySem.Str) (p : PySem.Str × Int) : List Arw := ts.map fun t => ⟨p.1, x.l, t, p.2⟩
def pcX (cut : PySem.Str) (ss es : List PySem.Str) (x : Arw) : List Arw := (srcA cut ss x).flatMap (onT x (tgtA cut es x))
def pcA (cut : PySem.Str) (ss es : List PySem.Str) (xs : List Arw) : List Arw := xs.flatMap (pcX cut ss es)
theorem onT_len (x : Arw) (ts : List PySem.Str) (p : PySem.Str × Int) : (onT x ts p).length = ts.length := by
  unfold onT
  rw [List.length_map]
theorem srcA_len (cut : PySem.Str) (ss : List PySem.Str) (x : Arw) : (srcA cut ss x).length ≤ 2 := by
  unfold srcA
  split
  · exact Nat.le_refl 2
  · exact (by decide : 1 ≤ 2)
theorem tgtA_len (cut : PySem.Str) (es : List PySem.Str) (x : Arw) : (tgtA cut es x).length ≤ 2 := by
  unfold tgtA
  split
  · exact Nat.le_refl _
  · show 1 ≤ 2
    omega
theorem pcX_len (cut : PySem.Str) (ss es : List PySem.Str) (x : Arw) : (pcX cut ss es x).length ≤ 4 := by
  have h2 := tgtA_len cut es x
  unfold pcX srcA
  split
  · simp only [List.flatMap_cons, List.flatMap_nil, List.length_append, List.append_nil, onT_len]
    omega
  · simp only [List.flatMap_cons, List.flatMap_nil, List.length_append, List.append_nil, onT_len]
    omega
theorem pcA_len (cut : PySem.Str) (ss es : List PySem.Str) (xs : List Arw) : (pcA cut ss es xs).length ≤ 4 * xs.length := by
  unfold pcA
  induction xs with
  | nil => simp
  | cons x xs ih =>
    have := pcX_len cut ss es x
    rw [List.flatMap_cons, List.length_append, List.length_cons]
    omega
theorem pcA_snoc {cut : PySem.Str} {ss es : List PySem.Str} {xs : List Arw} {x : Arw} : pcA cut ss es (xs ++ [x]) = pcA cut ss es xs ++ pcX cut ss es x := by
  unfold pcA
  rw [List.flatMap_append]
  simp
theorem srcA_mem {cut : PySem.Str} {ss : List PySem.Str} {x : Arw} {p : PySem.Str × Int} : p ∈ srcA cut ss x ↔ (p.1 = x.s ∧ p.2 = 0) ∨ (x.s ∈ ss ∧ p.1 = cut ∧ p.2 = 1) := by
  obtain ⟨a, b⟩ := p
  unfold srcA
  by_cases h : x.s ∈ ss
  · rw [if_pos h]
    simp [h]
  · rw [if_neg h]
    simp [h]
theorem tgtA_mem {cut : PySem.Str} {es : List PySem.Str} {x : Arw} {t : PySem.Str} : t ∈ tgtA cut es x ↔ t = x.t ∨ (x.t ∈ es ∧ t = cut) := by
  unfold tgtA
  by_cases h : x.t ∈ es
  · rw [if_pos h]
    simp [h]
  · rw [if_neg h]
    simp [h]
theorem pcX_mem {cut : PySem.Str} {ss es : List PySem.Str} {x z : Arw} : z ∈ pcX cut ss es x ↔ z.l = x.l ∧ ((z.s = x.s ∧ z.c = 0) ∨ (x.s ∈ ss ∧ z.s = cut ∧ z.c = 1)) ∧ (z.t = x.t ∨ (x.t ∈ es ∧ z.t = cut)) := by
  unfold pcX onT
  rw [List.mem_flatMap]
  constructor
  · rintro ⟨p, hp, hz⟩
    obtain ⟨t, ht, rfl⟩ := List.mem_map.mp hz
    exact ⟨rfl, srcA_mem.mp hp, tgtA_mem.mp ht⟩
  · rintro ⟨h1, h2, h3⟩
    refine ⟨(z.s, z.c), srcA_mem.mpr h2, List.mem_map.mpr ⟨z.t, tgtA_mem.mpr h3, ?_⟩⟩
    rw [← h1]
theorem pcA_mem {cut : PySem.Str} {ss es : List PySem.Str} {xs : List Arw} {z : Arw} : z ∈ pcA cut ss es xs ↔ ∃ x ∈ xs, z.l = x.l ∧ ((z.s = x.s ∧ z.c = 0) ∨ (x.s ∈ ss ∧ z.s = cut ∧ z.c = 1)) ∧ (z.t = x.t ∨ (x.t ∈ es ∧ z.t = cut)) := by
  unfold pcA
  rw [List.mem_flatMap]
  exact ⟨fun ⟨x, hx, h⟩ => ⟨x, hx, pcX_mem.mp h⟩, fun ⟨x, hx, h⟩ => ⟨x, hx, pcX_mem.mpr h⟩⟩
section
variable {cut : PySem.Str} {ss es S : List PySem.Str} {xs : List Arw}
theorem run_within (hx : ∀ x ∈ xs, x.s ∈ S ∧ x.t ∈ S) (hc : cut ∉ S) : ∀ (ls : List PySem.Str) (a : PySem.Str) (n : Int), a ∈ S →
    (RunS (pcA cut ss es xs) ls a cut n ↔ ∃ u v, ls = u ++ v ∧ u ≠ [] ∧ (∃ e ∈ es, ∃ m, RunS xs u a e m) ∧ RunS (pcA cut ss es xs) v cut cut n)
  | [], a, n, ha => by
    constructor
    · rintro ⟨e, _⟩
      rw [e] at ha
      exact absurd ha hc
    · rintro ⟨u, v, e, h, _⟩
      exact absurd (List.append_eq_nil_iff.mp e.symm).1 h
  | l :: ls, a, n, ha => by
    constructor
    · rintro ⟨z, hz, e1, e2, m, r, e⟩
      obtain ⟨x, hxm, el, hs, ht⟩ := pcA_mem.mp hz
      have hs' : z.s = x.s ∧ z.c = 0 := by
        rcases hs with hs | ⟨_, hs, _⟩
        · exact hs
        · exact absurd (by rw [← hs, e1]; exact ha) hc
      obtain ⟨f1, f2⟩ := hs'
      have en : n = m := by omega
      subst en
      rcases ht with ht | ⟨he, ht⟩
      · rw [ht] at r
        obtain ⟨u, v, rfl, hu, ⟨e0, he0, m0, r0⟩, r1⟩ := (run_within hx hc ls x.t n (hx x hxm).2).mp r
        exact ⟨l :: u, v, rfl, by simp, ⟨e0, he0, x.c + m0, x, hxm, f1.symm.trans e1, el.symm.trans e2, m0, r0, rfl⟩, r1⟩
      · rw [ht] at r
        exact ⟨[l], ls, rfl, by simp, ⟨x.t, he, x.c + 0, x, hxm, f1.symm.trans e1, el.symm.trans e2, 0, ⟨rfl, rfl⟩, rfl⟩, r⟩
    · rintro ⟨u, v, e, hu, ⟨e0, he0, m0, r0⟩, r1⟩
      cases u with
      | nil => exact absurd rfl hu
      | cons l' u =>
        rw [List.cons_append] at e
        obtain ⟨rfl, rfl⟩ := List.cons.inj e
        obtain ⟨x, hxm, e1, e2, m1, r2, _⟩ := r0
        by_cases c : u = []
        · subst c
          obtain ⟨e3, _⟩ := r2
          exact ⟨⟨x.s, x.l, cut, 0⟩, pcA_mem.mpr ⟨x, hxm, rfl, .inl ⟨rfl, rfl⟩, .inr ⟨by rw [e3]; exact he0, rfl⟩⟩, e1, e2, n, r1, by show n = 0 + n; omega⟩
        · exact ⟨⟨x.s, x.l, x.t, 0⟩, pcA_mem.mpr ⟨x, hxm, rfl, .inl ⟨rfl, rfl⟩, .inl rfl⟩, e1, e2, n, (run_within hx hc (u ++ v) x.t n (hx x hxm).2).mpr ⟨u, v, rfl, c, ⟨e0, he0, m1, r2⟩, r1⟩, by show n = 0 + n; omega⟩
theorem run_cut (hx : ∀ x ∈ xs, x.s ∈ S ∧ x.t ∈ S) (hc : cut ∉ S) (ls : List PySem.Str) (n : Int) :
    RunS (pcA cut ss es xs) ls cut cut n ↔ (ls = [] ∧ n = 0) ∨ ∃ u v k, ls = u ++ v ∧ u ≠ [] ∧ Reads xs ss es u ∧ RunS (pcA cut ss es xs) v cut cut k ∧ n = k + 1 := by
  cases ls with
  | nil =>
    constructor
    · rintro ⟨_, e⟩
      exact .inl ⟨rfl, e⟩
    · rintro (⟨_, e⟩ | ⟨u, v, k, e, h, _⟩)
      · exact ⟨rfl, e⟩
      · exact absurd (List.append_eq_nil_iff.mp e.symm).1 h
  | cons l ls =>
    constructor
    · rintro ⟨z, hz, e1, e2, m, r, e⟩
      obtain ⟨x, hxm, el, hs, ht⟩ := pcA_mem.mp hz
      have hs' : x.s ∈ ss ∧ z.c = 1 := by
        rcases hs with ⟨hs, _⟩ | ⟨h1, _, h2⟩
        · exact absurd (by rw [← e1, hs]; exact (hx x hxm).1) hc
        · exact ⟨h1, h2⟩
      obtain ⟨f1, f2⟩ := hs'
      refine .inr ?_
      rcases ht with ht | ⟨he, ht⟩
      · rw [ht] at r
        obtain ⟨u, v, rfl, hu, ⟨e0, he0, m0, r0⟩, r1⟩ := (run_within hx hc ls x.t m (hx x hxm).2).mp r
        exact ⟨l :: u, v, m, rfl, by simp, ⟨x.s, f1, e0, he0, x.c + m0, x, hxm, rfl, el.symm.trans e2, m0, r0, rfl⟩, r1, by omega⟩
      · rw [ht] at r
        exact ⟨[l], ls, m, rfl, by simp, ⟨x.s, f1, x.t, he, x.c + 0, x, hxm, rfl, el.symm.trans e2, 0, ⟨rfl, rfl⟩, rfl⟩, r, by omega⟩
    · rintro (⟨e, _⟩ | ⟨u, v, k, e, hu, ⟨s0, hs0, e0, he0, m0, r0⟩, r1, rfl⟩)
      · cases e
      · cases u with
        | nil => exact absurd rfl hu
        | cons l' u =>
          rw [List.cons_append] at e
          obtain ⟨rfl, rfl⟩ := List.cons.inj e
          obtain ⟨x, hxm, e1, e2, m1, r2, _⟩ := r0
          have hs1 : x.s ∈ ss := by rw [e1]; exact hs0
          by_cases c : u = []
          · subst c
            obtain ⟨e3, _⟩ := r2
            exact ⟨⟨cut, x.l, cut, 1⟩, pcA_mem.mpr ⟨x, hxm, rfl, .inr ⟨hs1, rfl, rfl⟩, .inr ⟨by rw [e3]; exact he0, rfl⟩⟩, rfl, e2, k, r1, by show k + 1 = 1 + k; omega⟩
          · exact ⟨⟨cut, x.l, x.t, 1⟩, pcA_mem.mpr ⟨x, hxm, rfl, .inr ⟨hs1, rfl, rfl⟩, .inl rfl⟩, rfl, e2, k, (run_within hx hc (u ++ v) x.t k (hx x hxm).2).mpr ⟨u, v, rfl, c, ⟨e0, he0, m1, r2⟩, r1⟩, by show k + 1 = 1 + k; omega⟩
theorem run_pieces (hx : ∀ x ∈ xs, x.s ∈ S ∧ x.t ∈ S) (hc : cut ∉ S) : ∀ (L : Nat) (ls : List PySem.Str), ls.length ≤ L → ∀ n : Int, (RunS (pcA cut ss es xs) ls cut cut n ↔ PcN (Reads xs ss es) ls n)
  | L, ls, hl, n => by
    rw [run_cut hx hc]
    constructor
    · rintro (⟨rfl, rfl⟩ | ⟨u, v, k, rfl, hu, hr, r, rfl⟩)
      · exact ⟨0, rfl, rfl⟩
      · have ul : 0 < u.length := List.length_pos_iff.mpr hu
        rw [List.length_append] at hl
        cases L with
        | zero => omega
        | succ L =>
          obtain ⟨j, rfl, hj⟩ := (run_pieces hx hc L v (by omega) k).mp r
          exact ⟨j + 1, by omega, u, v, rfl, hu, hr, hj⟩
    · rintro ⟨k, rfl, hk⟩
      cases k with
      | zero => exact .inl ⟨hk, rfl⟩
      | succ k =>
        obtain ⟨u, v, rfl, hu, hr, hv⟩ := hk
        have ul : 0 < u.length := List.length_pos_iff.mpr hu
        rw [List.length_append] at hl
        cases L with
        | zero => omega
        | succ L => exact .inr ⟨u, v, k, rfl, hu, hr, (run_pieces hx hc L v (by omega) k).mpr ⟨k, rfl, hv⟩, by omega⟩
end
theorem LPr.pieces {cut : PySem.Str} {ss es S ls : List PySem.Str} {xs : List Arw} (hx : ∀ x ∈ xs, x.s ∈ S ∧ x.t ∈ S) (hc : cut ∉ S) {o : Option Int} (h : LPr (pcA cut ss es xs) [cut] [cut] ls o) : LeastO (PcN (Reads xs ss es) ls) o := by
  refine LeastO.iff (fun n => ?_) h
  rw [← run_pieces hx hc ls.length ls (Nat.le_refl _) n]
  simp
/-- R is the machine of pieces of M -/
structure PieceOf (R M : MachV) : Prop where
  price : ∀ (ls : List PySem.Str) (o : Option Int), LeastO (fun n => ∃ e ∈ R.ens, Rch R.ars R.sts ls e n) o → LeastO (PcN (Reads M.ars M.sts M.ens) ls) o
  len : R.sta.length ≤ M.sta.length + 1
theorem pc_in {M : MachV} {cut : PySem.Str} (h : MFine M) : (∀ z ∈ pcA cut M.sts M.ens M.ars, z.s ∈ M.sta ++ [cut] ∧ z.t ∈ M.sta ++ [cut]) ∧ (∀ s ∈ [cut], s ∈ M.sta ++ [cut]) := by
  refine ⟨fun z hz => ?_, fun s hs => List.mem_append_right _ hs⟩
  obtain ⟨x, hx, _, h1, h2⟩ := pcA_mem.mp hz
  constructor
  · rcases h1 with ⟨h1, _⟩ | ⟨_, h1, _⟩
    · rw [h1]
      exact List.mem_append_left _ (h.ar x hx).1
    · rw [h1]
      simp
  · rcases h2 with h2 | ⟨_, h2⟩
    · rw [h2]
      exact List.mem_append_left _ (h.ar x hx).2
    · rw [h2]
      simp
theorem pc_ok {M : MachV} {cut : PySem.Str} (h : MFine M) (hn : Nm cut) : ∀ z ∈ pcA cut M.sts M.ens M.ars, z.Ok := fun z hz => by
  obtain ⟨x, hx, e, h1, h2⟩ := pcA_mem.mp hz
  have o := h.ok x hx
  refine ⟨?_, by rw [e]; exact o.l, ?_, ?_, ?_⟩
  · rcases h1 with ⟨h1, _⟩ | ⟨_, h1, _⟩
    · rw [h1]; exact o.s
    · rw [h1]; exact hn
  · rcases h2 with h2 | ⟨_, h2⟩
    · rw [h2]; exact o.t
    · rw [h2]; exact hn
  · rcases h1 with ⟨_, h1⟩ | ⟨_, _, h1⟩ <;> rw [h1] <;> decide
  · rcases h1 with ⟨_, h1⟩ | ⟨_, _, h1⟩ <;> rw [h1] <;> decide
theorem piece_of {R M : MachV} {cut : PySem.Str} {zs : List Arw} {F1 F2 : List PySem.Str} (hM : MFine M) (hn : Nm cut) (hc : cut ∉ M.sta) (l : M.ars.length ≤ 95) (nl : M.sta.length ≤ 39) (hK : Kept (pcA cut M.sts M.ens M.ars) [cut] [cut] F1 F2)
    (hz : CheapOf ((pcA cut M.sts M.ens M.ars).filter (kpA F1 F2)) zs) (hR : MOf R zs (([cut] : List PySem.Str).filter (kp F1 F2)) (([cut] : List PySem.Str).filter (kp F1 F2))) : PieceOf R M ∧ MFine R := by
  obtain ⟨i1, i2⟩ := pc_in (cut := cut) hM
  have ok := pc_ok hM hn
  have sub : ∀ z ∈ zs, z ∈ pcA cut M.sts M.ens M.ars := fun z hz' => (List.mem_filter.mp (hz.sub z hz').1).1
  have cs : ∀ s ∈ ([cut] : List PySem.Str).filter (kp F1 F2), s ∈ M.sta ++ [cut] := fun s hs => i2 s (List.mem_filter.mp hs).1
  have q := nodup_le (asc_nodup hR.sta.1) (mof_sta hR (fun z hz' => i1 z (sub z hz')) cs cs)
  rw [List.length_append, List.length_singleton] at q
  have zl : zs.length ≤ 400 := by
    have := nodup_le (cheap_nodup hz) fun y hy => (hz.sub y hy).1
    have := List.length_filter_le (kpA F1 F2) (pcA cut M.sts M.ens M.ars)
    have := pcA_len cut M.sts M.ens M.ars
    omega
  refine ⟨⟨fun ls o ho => ?_, q⟩, fine_of (ns := M.sta ++ [cut]) hR (fun z hz' => ok z (sub z hz')) zl (fun s hs => ?_) (by rw [List.length_append, List.length_singleton]; omega) cs cs fun z hz' => i1 z (sub z hz')⟩
  · exact LPr.pieces hM.ar hc ((LPr.kept hK).mp ((LPr.cheap hz (fun _ => Iff.rfl) (fun _ => Iff.rfl)).mp (hR.price ho)))
  · rcases List.mem_append.mp hs with h | h
    · exact hM.nm s h
    · rw [List.mem_singleton.mp h]
      exact hn
def spNewName (K : PySem.W.Frag) : Sp := fun vs H Q _ => ∃ (t : Addr) (ns : List PySem.Str), vs = [.ref t] ∧ SqT K H t (ns.map V.str) ∧ ns.length ≤ 20 ∧
  ∀ (c : PySem.Str) (H' : Hp), Nm c → c ∉ ns → Same H H' → Q (.str c) H'
def spPieces (C : Addr) : Sp := fun vs H Q _ => ∃ (m : Addr) (M : MachV), vs = [.ref m] ∧ IsMach C H m M ∧ MFine M ∧ M.sta.length ≤ 20 ∧ M.ars.length ≤ 95 ∧
  ∀ (q : Addr) (R : MachV) (H' : Hp), H q = none → IsMach C H' q R → MFine R → PieceOf R M → Same H H' → Q (.ref q) H'
def spReadsL (K : PySem.W.Frag) : Sp := fun vs H Q _ => ∃ (m a b e : Addr) (us : List V) (xs : List Arw) (ss es : List PySem.Str) (row : PySem.Str), vs = [.ref m, .str row] ∧ MadeL K H m a b e us xs ss es ∧ xs.length ≤ 1000 ∧ ss.length ≤ 1000 ∧ es.length ≤ 1000 ∧ row.length ≤ 5000 ∧
  ∀ (o : Bool) (H' : Hp), (o = true ↔ Reads xs ss es (sgnL row)) → Same H H' → Q (.bl o) H'
def spLeastPc (K : PySem.W.Frag) : Sp := fun vs H Q _ => ∃ (m a b e : Addr) (us : List V) (xs : List Arw) (ss es : List PySem.Str) (row : PySem.Str), vs = [.ref m, .str row] ∧ MadeL K H m a b e us xs ss es ∧ xs.length ≤ 1000 ∧ ss.length ≤ 1000 ∧ es.length ≤ 1000 ∧ row.length ≤ 1000 ∧
  ∀ (o : Option Int) (H' : Hp), LeastO (PcN (Reads xs ss es) (sgnL row)) o → Same H H' → Q (optV o) H'
end Bz
namespace Bz
open PySem PySem.Spec PyProof.Rows L2
/-! ### the least numbers of pieces, place by place -/
def encO : Option Int → Int
  | none => -1
  | some n => n
theorem pcn_pos {R : List PySem.Str → Prop} {ls : List PySem.Str} {n : Int} (h : LeastO (PcN R ls) (some n)) : 0 ≤ n := by
  obtain ⟨⟨k, rfl, _⟩, _⟩ := h
  exact Int.natCast_nonneg k
theorem pcn_nil {R : List PySem.Str → Prop} : LeastO (PcN R []) (some 0) := by
  refine ⟨⟨0, rfl, rfl⟩, fun n hn => ?_⟩
  obtain ⟨k, rfl, _⟩ := hn
  exact Int.natCast_nonneg k
theorem dp_step {R : List PySem.Str → Prop} {ls : List PySem.Str} {i : Nat} {f : Nat → Option Int} (hf : ∀ j, j ≤ i → LeastO (PcN R (ls.take j)) (f j)) (hi : i < ls.length) {o : Option Int}
    (h : LeastO (fun n => ∃ b, b < i + 1 ∧ ∃ m, f b = some m ∧ R ((ls.take (i + 1)).drop b) ∧ n = m + 1) o) : LeastO (PcN R (ls.take (i + 1))) o := by
  refine LeastO.both ?_ ?_ h
  · rintro n ⟨b, hb, m, e, hr, rfl⟩
    have g := hf b (by omega)
    rw [e] at g
    obtain ⟨⟨k, rfl, hk⟩, _⟩ := g
    refine ⟨_, Int.le_refl _, k + 1, rfl, (pc_snoc k _).mpr ⟨ls.take b, (ls.take (i + 1)).drop b, ?_, hk, ?_, hr⟩⟩
    · have e1 : ls.take b = (ls.take (i + 1)).take b := by rw [List.take_take, Nat.min_eq_left (by omega)]
      rw [e1, List.take_append_drop]
    · intro c
      have := congrArg List.length c
      rw [List.length_drop, List.length_take] at this
      simp only [List.length_nil] at this
      omega
  · rintro n ⟨k, rfl, hk⟩
    cases k with
    | zero =>
      have hk' : ls.take (i + 1) = [] := hk
      have := congrArg List.length hk'
      rw [List.length_take] at this
      simp only [List.length_nil] at this
      omega
    | succ k =>
      obtain ⟨a, b, e, ha, hb, hr⟩ := (pc_snoc k _).mp hk
      have bl : 0 < b.length := List.length_pos_iff.mpr hb
      have el := congrArg List.length e
      rw [List.length_take, List.length_append, Nat.min_eq_left (by omega)] at el
      have ea : a = ls.take a.length := by
        have : (ls.take (i + 1)).take a.length = a := by rw [e, List.take_left']; rfl
        rw [List.take_take, Nat.min_eq_left (by omega)] at this
        exact this.symm
      have eb : b = (ls.take (i + 1)).drop a.length := by rw [e, List.drop_left']; rfl
      have g := hf a.length (by omega)
      rw [← ea] at g
      cases ef : f a.length with
      | none =>
        rw [ef] at g
        exact absurd ⟨k, rfl, ha⟩ (g k)
      | some m =>
        rw [ef] at g
        have := g.2 k ⟨k, rfl, ha⟩
        exact ⟨m + 1, by omega, a.length, by omega, m, ef, by rw [← eb]; exact hr, rfl⟩
theorem tl_cutB (z : PySem.Str) {b e : Nat} (h : b ≤ e) : TL.tl (cutS z (some (b : Int)) (some (e : Int))) = ((TL.tl z).take e).drop b := by
  have e1 : HT.sIx z.length 0 (some (b : Int)) = min b z.length := sIx_min
  have e2 : HT.sIx z.length z.length (some (e : Int)) = min e z.length := sIx_min
  unfold cutS
  show (List.take (HT.sIx z.length z.length (some (e : Int)) - HT.sIx z.length 0 (some (b : Int))) (List.drop (HT.sIx z.length 0 (some (b : Int))) z.cps.toList)).toArray.toList = _
  rw [e1, e2]
  show List.take (min e z.length - min b z.length) (List.drop (min b z.length) z.cps.toList) = List.drop b (List.take e z.cps.toList)
  have el : z.length = z.cps.toList.length := len_tl z
  rw [el, List.drop_take]
  by_cases c : b ≤ z.cps.toList.length
  · rw [Nat.min_eq_left c]
    by_cases d : e ≤ z.cps.toList.length
    · rw [Nat.min_eq_left d]
    · rw [Nat.min_eq_right (by omega), List.take_of_length_le (by rw [List.length_drop]; omega), List.take_of_length_le (by rw [List.length_drop]; omega)]
  · rw [Nat.min_eq_right (Nat.le_of_not_le c), List.drop_of_length_le (Nat.le_refl _), List.drop_of_length_le (Nat.le_of_not_le c)]
    simp
theorem sgnL_cutB (z : PySem.Str) {b e : Nat} (h : b ≤ e) : sgnL (cutS z (some (b : Int)) (some (e : Int))) = ((sgnL z).take e).drop b := by
  rw [sgnL_tl, sgnL_tl, tl_cutB z h, List.map_drop, List.map_take]
theorem pget38 {α β : Type} {R : α → β → Prop} : ∀ {as : List α} {bs : List β} {i : Nat} {a : α}, Paired R as bs → as[i]? = some a → ∃ b, bs[i]? = some b ∧ R a b
  | _, _, _, _, .nil, h => by simp at h
  | _, _, 0, a, .cons (b := b) r _, h => by
    have e := Option.some.inj h
    exact ⟨b, rfl, by rw [← e]; exact r⟩
  | _, _, i + 1, a, .cons _ q, h => pget38 q (i := i) h
theorem range_int (g : Nat → Int) {j n : Nat} (h : j < n) : (((List.range n).map g).map V.int)[j]? = some (.int (g j)) := by
  rw [List.getElem?_map, List.getElem?_map, List.getElem?_range h]
  rfl
theorem range_put {g h : Nat → Int} {n : Nat} (e : ∀ j, j < n → h j = g j) : (List.range (n + 1)).map h = (List.range n).map g ++ [h n] := by
  rw [List.range_succ, List.map_append]
  congr 1
  exact List.map_congr_left fun j hj => e j (List.mem_range.mp hj)
end Bz

namespace Bz
open PySem PySem.Spec PyProof.Rows L2
/-! ### rings -/
def rgN (k : Nat) : PySem.Str := ⟨#[120 + k / 13, 97 + k % 13]⟩
theorem rgN_tl (k : Nat) : TL.tl (rgN k) = [120 + k / 13, 97 + k % 13] := rfl
theorem rgN_inj {j k : Nat} (h : rgN j = rgN k) : j = k := by
  have e := congrArg TL.tl h
  rw [rgN_tl, rgN_tl] at e
  simp only [List.cons.injEq, and_true] at e
  omega
theorem rgN_nm {k : Nat} (h : k < 26) : Nm (rgN k) := by
  have l : (rgN k).length = 2 := rfl
  refine ⟨by omega, by omega, fun c hc => ?_⟩
  rw [rgN_tl] at hc
  simp only [List.mem_cons, List.not_mem_nil, or_false] at hc
  rcases hc with rfl | rfl
  · exact ⟨by omega, by omega⟩
  · exact ⟨by omega, by omega⟩
def ringX (p k : Nat) : Arw := ⟨rgN k, "a", rgN ((k + 1) % p), if k = 0 then 1 else 0⟩
def ringA (p : Nat) : List Arw := (List.range p).map (ringX p)
def ringN (p : Nat) : List PySem.Str := (List.range p).map rgN
theorem ringA_mem {p : Nat} {x : Arw} : x ∈ ringA p ↔ ∃ k, k < p ∧ x = ringX p k := by
  unfold ringA
  rw [List.mem_map]
  exact ⟨fun ⟨k, hk, e⟩ => ⟨k, List.mem_range.mp hk, e.symm⟩, fun ⟨k, hk, e⟩ => ⟨k, List.mem_range.mpr hk, e.symm⟩⟩
theorem ringN_mem {p : Nat} {s : PySem.Str} : s ∈ ringN p ↔ ∃ k, k < p ∧ s = rgN k := by
  unfold ringN
  rw [List.mem_map]
  exact ⟨fun ⟨k, hk, e⟩ => ⟨k, List.mem_range.mp hk, e.symm⟩, fun ⟨k, hk, e⟩ => ⟨k, List.mem_range.mpr hk, e.symm⟩⟩
theorem ringN_nd (p : Nat) : (ringN p).Nodup := List.Pairwise.map rgN (fun a b h e => h (rgN_inj e)) List.nodup_range
theorem ringN_len (p : Nat) : (ringN p).length = p := by
  unfold ringN
  rw [List.length_map, List.length_range]
theorem ringT_mem {p e : Nat} {s : PySem.Str} : s ∈ (ringN p).take e ↔ ∃ k, k < p ∧ k < e ∧ s = rgN k := by
  unfold ringN
  rw [← List.map_take, List.take_range, List.mem_map]
  exact ⟨fun ⟨k, hk, e⟩ => ⟨k, by have := List.mem_range.mp hk; omega, by have := List.mem_range.mp hk; omega, e.symm⟩, fun ⟨k, hk, h2, e⟩ => ⟨k, List.mem_range.mpr (by omega), e.symm⟩⟩
/-- what n steps from the k-th state cost -/
def upN (n p : Nat) : Nat := (n + p - 1) / p
def stepC (p k n : Nat) : Nat := (k + n + p - 1) / p - (k + p - 1) / p
theorem div1 {a p : Nat} (hp : 1 ≤ p) : (a + p) / p = a / p + 1 := Nat.add_div_right _ hp
theorem stepC_zero (p k : Nat) : stepC p k 0 = 0 := by
  unfold stepC
  rw [Nat.add_zero, Nat.sub_self]
theorem small0 {p : Nat} (hp : 1 ≤ p) : (p - 1) / p = 0 := Nat.div_eq_of_lt (by omega)
theorem small1 {p k : Nat} (hp : 1 ≤ k) (h : k < p) : (k + p - 1) / p = 1 := by
  rw [show k + p - 1 = (k - 1) + p by omega, div1 (by omega), Nat.div_eq_of_lt (by omega)]
theorem stepC_succ {p k n : Nat} (hk : k < p) : stepC p k (n + 1) = (if k = 0 then 1 else 0) + stepC p ((k + 1) % p) n := by
  have hp : 1 ≤ p := by omega
  unfold stepC
  by_cases k0 : k = 0
  · subst k0
    rw [if_pos rfl, show 0 + p - 1 = p - 1 by omega, small0 hp, show 0 + (n + 1) + p - 1 = n + p by omega, div1 hp]
    by_cases p1 : p = 1
    · subst p1
      simp
      omega
    · rw [Nat.mod_eq_of_lt (show 0 + 1 < p by omega), show 0 + 1 + n + p - 1 = n + p by omega, div1 hp, show 0 + 1 + p - 1 = 0 + p by omega, div1 hp, Nat.zero_div]
      generalize n / p = d
      omega
  · rw [if_neg k0, small1 (by omega) hk]
    by_cases e : k + 1 = p
    · rw [e, Nat.mod_self, show k + (n + 1) + p - 1 = n + p - 1 + p by omega, div1 hp, show 0 + n + p - 1 = n + p - 1 by omega, show 0 + p - 1 = p - 1 by omega, small0 hp]
      omega
    · rw [Nat.mod_eq_of_lt (show k + 1 < p by omega), small1 (by omega) (show k + 1 < p by omega), show k + (n + 1) + p - 1 = k + 1 + n + p - 1 by omega]
      omega
theorem stepC_up {p n : Nat} (hp : 1 ≤ p) : stepC p 0 n = upN n p := by
  unfold stepC upN
  rw [show 0 + p - 1 = p - 1 by omega, small0 hp, show 0 + n + p - 1 = n + p - 1 by omega, Nat.sub_zero]
abbrev aS : PySem.Str := "a"
theorem ring_run {p : Nat} : ∀ (n k : Nat) (b : PySem.Str) (c : Int), k < p → (RunS (ringA p) (List.replicate n aS) (rgN k) b c ↔ b = rgN ((k + n) % p) ∧ c = (stepC p k n : Nat))
  | 0, k, b, c, hk => by
    rw [stepC_zero, Nat.add_zero, Nat.mod_eq_of_lt hk]
    exact ⟨fun ⟨h1, h2⟩ => ⟨h1.symm, h2⟩, fun ⟨h1, h2⟩ => ⟨h1.symm, h2⟩⟩
  | n + 1, k, b, c, hk => by
    have hm : (k + 1) % p < p := Nat.mod_lt _ (by omega)
    have em : ((k + 1) % p + n) % p = (k + (n + 1)) % p := by
      rw [Nat.mod_add_mod]
      congr 1
      omega
    rw [List.replicate_succ, stepC_succ hk]
    constructor
    · rintro ⟨x, hx, e1, _, m, hr, rfl⟩
      obtain ⟨j, hj, rfl⟩ := ringA_mem.mp hx
      obtain rfl : j = k := rgN_inj e1
      obtain ⟨h1, h2⟩ := (ring_run n _ b m hm).mp hr
      refine ⟨by rw [h1, em], ?_⟩
      rw [h2]
      show (if j = 0 then (1 : Int) else 0) + _ = _
      split <;> omega
    · rintro ⟨rfl, rfl⟩
      refine ⟨ringX p k, ringA_mem.mpr ⟨k, hk, rfl⟩, rfl, rfl, _, (ring_run n _ _ _ hm).mpr ⟨by rw [em], rfl⟩, ?_⟩
      show _ = (if k = 0 then (1 : Int) else 0) + _
      split <;> omega
/-- the price of so many letters -/
def ringO (p e n : Nat) : Option Int := if n % p < e then some ((upN n p : Nat) : Int) else none
theorem ring_lpr {p e n : Nat} (hp : 1 ≤ p) : LPr (ringA p) [rgN 0] ((ringN p).take e) (List.replicate n aS) (ringO p e n) := by
  have key : ∀ c, (∃ s ∈ [rgN 0], ∃ b ∈ (ringN p).take e, RunS (ringA p) (List.replicate n aS) s b c) ↔ n % p < e ∧ c = (upN n p : Nat) := fun c => by
    constructor
    · rintro ⟨s, hs, b, hb, h⟩
      rw [List.mem_singleton.mp hs] at h
      obtain ⟨h1, h2⟩ := (ring_run n 0 b c (by omega)).mp h
      rw [stepC_up hp] at h2
      obtain ⟨k, _, ke, e2⟩ := ringT_mem.mp hb
      rw [h1, Nat.zero_add] at e2
      rw [rgN_inj e2]
      exact ⟨ke, h2⟩
    · rintro ⟨h1, rfl⟩
      refine ⟨_, List.mem_singleton.mpr rfl, rgN (n % p), ringT_mem.mpr ⟨n % p, Nat.mod_lt _ hp, h1, rfl⟩, (ring_run n 0 _ _ (by omega)).mpr ⟨by rw [Nat.zero_add], by rw [stepC_up hp]⟩⟩
  unfold ringO LPr
  by_cases c : n % p < e
  · rw [if_pos c]
    exact ⟨(key _).mpr ⟨c, rfl⟩, fun m hm => by rw [((key m).mp hm).2]; exact Int.le_refl _⟩
  · rw [if_neg c]
    exact fun m hm => c ((key m).mp hm).1
theorem ringO_all {p e n : Nat} (hp : 1 ≤ p) (h : p ≤ e) : ringO p e n = some ((upN n p : Nat) : Int) := if_pos (Nat.lt_of_lt_of_le (Nat.mod_lt _ hp) h)
theorem ring_reads {p n : Nat} (hp : 1 ≤ p) : Reads (ringA p) [rgN 0] ((ringN p).take 1) (List.replicate n aS) ↔ n % p = 0 := by
  rw [← reads_of (ring_lpr hp)]
  unfold ringO
  split
  · simp
    omega
  · simp
    omega
theorem rep_split {n : Nat} {a b : List PySem.Str} (h : List.replicate n aS = a ++ b) : a = List.replicate a.length aS ∧ b = List.replicate b.length aS ∧ n = a.length + b.length := by
  have l := congrArg List.length h
  rw [List.length_replicate, List.length_append] at l
  refine ⟨List.eq_replicate_iff.mpr ⟨rfl, fun x hx => ?_⟩, List.eq_replicate_iff.mpr ⟨rfl, fun x hx => ?_⟩, l⟩
  · exact (List.mem_replicate.mp (by rw [h]; exact List.mem_append_left _ hx)).2
  · exact (List.mem_replicate.mp (by rw [h]; exact List.mem_append_right _ hx)).2
theorem ring_pc {p : Nat} (hp : 1 ≤ p) : ∀ (k n : Nat), Pc (Reads (ringA p) [rgN 0] ((ringN p).take 1)) k (List.replicate n aS) → n % p = 0 ∧ (k = 0 → n = 0)
  | 0, n, h => by
    have := congrArg List.length (show List.replicate n aS = [] from h)
    rw [List.length_replicate] at this
    have n0 : n = 0 := this
    rw [n0]
    exact ⟨Nat.zero_mod _, fun _ => rfl⟩
  | k + 1, n, h => by
    obtain ⟨a, b, e, _, ra, rb⟩ := h
    obtain ⟨ea, eb, el⟩ := rep_split e
    rw [ea] at ra
    rw [eb] at rb
    have h1 := (ring_reads hp).mp ra
    have h2 := (ring_pc hp k _ rb).1
    refine ⟨?_, fun z => by omega⟩
    rw [el, Nat.add_mod, h1, h2]
    simp
def pieceO (p n : Nat) : Option Int := if n % p = 0 then some (if 0 < n then 1 else 0) else none
theorem ring_pcn {p n : Nat} (hp : 1 ≤ p) : LeastO (PcN (Reads (ringA p) [rgN 0] ((ringN p).take 1)) (List.replicate n aS)) (pieceO p n) := by
  unfold pieceO
  by_cases c : n % p = 0
  · rw [if_pos c]
    by_cases n0 : 0 < n
    · rw [if_pos n0]
      refine ⟨⟨1, rfl, List.replicate n aS, [], by simp, fun e => ?_, (ring_reads hp).mpr c, rfl⟩, fun m ⟨k, e, h⟩ => ?_⟩
      · have := congrArg List.length e
        rw [List.length_replicate] at this
        have : n = 0 := this
        omega
      · have := (ring_pc hp k n h).2
        omega
    · rw [if_neg n0]
      obtain rfl : n = 0 := by omega
      exact ⟨⟨0, rfl, rfl⟩, fun m ⟨k, e, h⟩ => by omega⟩
  · rw [if_neg c]
    exact fun m ⟨k, e, h⟩ => c (ring_pc hp k n h).1
/-! ### the machine of a ring -/
theorem ring_in {p e : Nat} (hp : 1 ≤ p) : (∀ s ∈ [rgN 0], s ∈ ringN p) ∧ (∀ s ∈ (ringN p).take e, s ∈ ringN p) ∧ ∀ x ∈ ringA p, x.s ∈ ringN p ∧ x.t ∈ ringN p := by
  refine ⟨fun s hs => ?_, fun s hs => List.mem_of_mem_take hs, fun x hx => ?_⟩
  · rw [List.mem_singleton.mp hs]
    exact ringN_mem.mpr ⟨0, hp, rfl⟩
  · obtain ⟨k, hk, rfl⟩ := ringA_mem.mp hx
    exact ⟨ringN_mem.mpr ⟨k, hk, rfl⟩, ringN_mem.mpr ⟨_, Nat.mod_lt _ hp, rfl⟩⟩
theorem ring_ok {p : Nat} (hp : 1 ≤ p) (h20 : p ≤ 20) : ∀ x ∈ ringA p, x.Ok := fun x hx => by
  obtain ⟨k, hk, rfl⟩ := ringA_mem.mp hx
  have := Nat.mod_lt (k + 1) (show p > 0 by omega)
  refine ⟨rgN_nm (by omega), (show Lt (ringX p k).l from abcd_lt "a" (by simp)), rgN_nm (by omega), ?_, ?_⟩
  · show (0 : Int) ≤ if k = 0 then 1 else 0
    split <;> decide
  · show (if k = 0 then 1 else 0 : Int) ≤ 99
    split <;> decide
theorem ringA_len (p : Nat) : (ringA p).length = p := by
  unfold ringA
  rw [List.length_map, List.length_range]
structure RingOf (M : MachV) (p e : Nat) : Prop where
  of : MOf M (ringA p) [rgN 0] ((ringN p).take e)
  fine : MFine M
  sta : M.sta.length = p
  ars : M.ars.length ≤ p
  sts : M.sts.length ≤ 1
  ens : M.ens.length ≤ p
  low : ∀ x ∈ M.ars, x.c ≤ 40
  out : outS M ≤ 1
theorem ring_of {M : MachV} {p e : Nat} (hp : 1 ≤ p) (h20 : p ≤ 20) (h : MOf M (ringA p) [rgN 0] ((ringN p).take e)) : RingOf M p e := by
  obtain ⟨i1, i2, i3⟩ := ring_in (e := e) hp
  have asc := asc_nodup h.sta.1
  have sub : ∀ s ∈ M.sta, s ∈ ringN p := fun s hs => by
    rcases (h.sta.2 s).mp hs with h1 | h1 | ⟨x, hx, h1⟩
    · exact i1 s h1
    · exact i2 s h1
    · have := i3 x (h.ars.sub x hx).1
      rcases h1 with h1 | h1
      · rw [h1]; exact this.1
      · rw [h1]; exact this.2
  have sup : ∀ s ∈ ringN p, s ∈ M.sta := fun s hs => by
    obtain ⟨k, hk, rfl⟩ := ringN_mem.mp hs
    obtain ⟨y, hy, e⟩ := h.ars.all (ringX p k) (ringA_mem.mpr ⟨k, hk, rfl⟩)
    exact (h.sta.2 _).mpr (.inr (.inr ⟨y, hy, .inl (Arw.k3_eq e).1.symm⟩))
  have al : M.ars.length ≤ p := by
    have := nodup_le (cheap_nodup h.ars) fun y hy => (h.ars.sub y hy).1
    rw [ringA_len] at this
    exact this
  refine ⟨h, fine_of h (ring_ok hp h20) (by rw [ringA_len]; omega) (fun s hs => ?_) (by rw [ringN_len]; omega) i1 i2 i3, ?_, al, ?_, ?_, fun x hx => ?_, ?_⟩
  · obtain ⟨k, hk, rfl⟩ := ringN_mem.mp hs
    exact rgN_nm (by omega)
  · have a := nodup_le asc sub
    have b := nodup_le (ringN_nd p) sup
    rw [ringN_len] at a b
    omega
  · exact nodup_le (ts := [rgN 0]) (asc_nodup h.sts.1) fun s hs => (h.sts.2 s).mp hs
  · have := nodup_le (asc_nodup h.ens.1) fun s hs => i2 s ((h.ens.2 s).mp hs)
    rw [ringN_len] at this
    exact this
  · obtain ⟨k, hk, rfl⟩ := ringA_mem.mp (h.ars.sub x hx).1
    show (if k = 0 then 1 else 0 : Int) ≤ 40
    split <;> decide
  · unfold outS
    refine nodup_le (ts := [ringX p 0]) ((cheap_nodup h.ars).filter _) fun y hy => ?_
    obtain ⟨h1, h2⟩ := List.mem_filter.mp hy
    obtain ⟨k, hk, rfl⟩ := ringA_mem.mp (h.ars.sub y h1).1
    have e2 := List.mem_singleton.mp ((h.sts.2 _).mp (of_decide_eq_true h2))
    have : k = 0 := rgN_inj e2
    rw [this]
    exact List.mem_singleton.mpr rfl
theorem RingOf.lpr {M : MachV} {p e n : Nat} (h : RingOf M p e) (hp : 1 ≤ p) : LPr M.ars M.sts M.ens (List.replicate n aS) (ringO p e n) := (LPr.cheap h.of.ars h.of.sts.2 h.of.ens.2).mpr (ring_lpr hp)
theorem RingOf.lit {M : MachV} {p e : Nat} (h : RingOf M p e) (h20 : p ≤ 20) : Lit M := ⟨by rw [h.sta]; exact h20, Nat.le_trans h.ars h20, Nat.le_trans h.sts (by decide), Nat.le_trans h.ens h20⟩
theorem RingOf.lowc {M : MachV} {p e : Nat} (h : RingOf M p e) (h6 : p ≤ 6) : LowC M := ⟨h.low, Nat.le_trans h.sts (by decide), Nat.le_trans h.ens h6⟩
theorem RingOf.inE {M : MachV} {p e : Nat} (h : RingOf M p e) (h20 : p ≤ 20) : Bz.inE M ≤ 20 := Nat.le_trans (List.length_filter_le ..) (Nat.le_trans h.ars h20)
/-! ### specs -/
theorem sgnL_as (n : Nat) : sgnL (repS "a" (n : Int)) = List.replicate n aS := by
  rw [sgnL_tl, repS_tl]
  have e : TL.tl ("a" : PySem.Str) = [97] := by decide +kernel
  rw [e, List.map_flatten, List.map_replicate]
  show (List.replicate n [(⟨#[97]⟩ : PySem.Str)]).flatten = _
  have e2 : (⟨#[97]⟩ : PySem.Str) = aS := by decide +kernel
  rw [e2]
  induction n with
  | zero => rfl
  | succ n ih => rw [List.replicate_succ, List.flatten_cons, ih, List.replicate_succ]; rfl
def spUp : Sp := fun vs H Q _ => ∃ n p : Nat, vs = [.int (n : Int), .int (p : Int)] ∧ 1 ≤ p ∧ p ≤ 100000 ∧ n ≤ 100000 ∧ Q (.int (upN n p : Nat)) H
def spRing (C : Addr) : Sp := fun vs H Q _ => ∃ p e : Nat, vs = [.int (p : Int), .int (e : Int)] ∧ 1 ≤ p ∧ p ≤ 20 ∧ e ≤ 20 ∧
  ∀ (q : Addr) (M : MachV) (H' : Hp), H q = none → IsMach C H' q M → RingOf M p e → Same H H' → Q (.ref q) H'
theorem min_two {a b : Int} {o : Option Int} (h : minO [some a, some b] o) : o = some (min a b) := by
  cases o with
  | none => exact absurd (List.mem_cons_self ..) (h a)
  | some n =>
    obtain ⟨h1, h2⟩ := h
    have ha := h2 a (List.mem_cons_self ..)
    have hb := h2 b (List.mem_cons_of_mem _ (List.mem_cons_self ..))
    simp only [List.mem_cons, Option.some.injEq, List.not_mem_nil, or_false] at h1
    congr 1
    omega
theorem rg_at1 : ∀ i : Fin 20, atI (("xy" : PySem.Str)).cps.toList (Int.fdiv (0 + ((i.val : Nat) : Int)) 13) = some (120 + i.val / 13) := by decide +kernel
theorem rg_at2 : ∀ i : Fin 20, atI (("abcdefghijklm" : PySem.Str)).cps.toList (Int.fmod (0 + ((i.val : Nat) : Int)) 13) = some (97 + i.val % 13) := by decide +kernel
theorem rg_app (i : Nat) : (⟨#[120 + i / 13]⟩ : PySem.Str) ++ (⟨#[97 + i % 13]⟩ : PySem.Str) = rgN i := rfl
theorem ringN_at {p i : Nat} (h : i < p) : ((ringN p).map V.str)[i]? = some (.str (rgN i)) := by
  unfold ringN
  rw [List.getElem?_map, List.getElem?_map, List.getElem?_range h]
  rfl
theorem ringN_next {p i : Nat} (h : i < p) : ((ringN p).map V.str ++ (ringN p).map V.str)[i + 1]? = some (.str (rgN ((i + 1) % p))) := by
  have l : ((ringN p).map V.str).length = p := by rw [List.length_map, ringN_len]
  by_cases c : i + 1 < p
  · rw [List.getElem?_append_left (by omega), Nat.mod_eq_of_lt c]
    exact ringN_at c
  · have e : i + 1 = p := by omega
    rw [List.getElem?_append_right (by omega), l, e, Nat.sub_self, Nat.mod_self]
    exact ringN_at (by omega)
theorem upN_int {n p : Nat} (hp : 1 ≤ p) : Int.fdiv ((n : Int) + (p : Int) - 1) (p : Int) = (upN n p : Nat) := by
  have e : (n : Int) + (p : Int) - 1 = ((n + p - 1 : Nat) : Int) := by omega
  rw [e, Int.fdiv_eq_ediv_of_nonneg _ (by omega)]
  rfl
theorem eqv_intsX (xs : List Int) : PyData.eqv (.list (xs.map PyData.int)) (.list (xs.map PyData.int)) = true := by
  show PyData.eqvAll _ _ = true
  induction xs with
  | nil => simp [PyData.eqvAll]
  | cons x xs ih => simp [PyData.eqvAll, PyData.eqv, ih]
theorem ring_cut {P Q n : Nat} {mc : Int} (h1 : mc ∈ (List.range (n + 1)).map fun k => (((upN k P + upN (n - k) Q : Nat)) : Int)) (h2 : ∀ y ∈ (List.range (n + 1)).map fun k => (((upN k P + upN (n - k) Q : Nat)) : Int), mc ≤ y) :
    LeastO (CutN (fun i => some ((upN i P : Nat) : Int)) (fun i => some ((upN (n - i) Q : Nat) : Int)) n) (some mc) := by
  refine ⟨?_, fun m hm => ?_⟩
  · obtain ⟨k, hk, rfl⟩ := List.mem_map.mp h1
    have := List.mem_range.mp hk
    exact ⟨k, by omega, _, _, rfl, rfl, by omega⟩
  · obtain ⟨k, hk, x, y, e1, e2, rfl⟩ := hm
    have e1 := Option.some.inj e1
    have e2 := Option.some.inj e2
    have := h2 _ (List.mem_map.mpr ⟨k, List.mem_range.mpr (by omega), rfl⟩)
    omega
end Bz

namespace Pf
open PySem PySem.Spec PyProof.Rows L2 Bz
def top (i : Nat) : Stmt := PySem.Challenge.pw_enoughpaid_k30_great_machines_made.main.body.getD i (.Pass ⟨0, 0, 0, 0⟩)
abbrev s__wall : Stmt := top 0
abbrev N__wall : List PySem.Str := ["k"]
theorem sc__wall : FnScope N__wall ["k"] (defScope s__wall) := ⟨rfl, rfl, rfl, by decide +kernel, rfl, by decide +kernel, by decide +kernel⟩
abbrev s_BadArrow___init__ : Stmt := inClass (top 3) 0
abbrev N_BadArrow___init__ : List PySem.Str := ["self", "line"]
theorem sc_BadArrow___init__ : FnScope N_BadArrow___init__ ["self", "line"] (defScope s_BadArrow___init__) := ⟨rfl, rfl, rfl, by decide +kernel, rfl, by decide +kernel, by decide +kernel⟩
abbrev s_BadState___init__ : Stmt := inClass (top 4) 0
abbrev N_BadState___init__ : List PySem.Str := ["self", "state"]
theorem sc_BadState___init__ : FnScope N_BadState___init__ ["self", "state"] (defScope s_BadState___init__) := ⟨rfl, rfl, rfl, by decide +kernel, rfl, by decide +kernel, by decide +kernel⟩
abbrev s_TooMany___init__ : Stmt := inClass (top 5) 0
abbrev N_TooMany___init__ : List PySem.Str := ["self", "count"]
theorem sc_TooMany___init__ : FnScope N_TooMany___init__ ["self", "count"] (defScope s_TooMany___init__) := ⟨rfl, rfl, rfl, by decide +kernel, rfl, by decide +kernel, by decide +kernel⟩
abbrev s_BadRow___init__ : Stmt := inClass (top 6) 0
abbrev N_BadRow___init__ : List PySem.Str := ["self", "row"]
theorem sc_BadRow___init__ : FnScope N_BadRow___init__ ["self", "row"] (defScope s_BadRow___init__) := ⟨rfl, rfl, rfl, by decide +kernel, rfl, by decide +kernel, by decide +kernel⟩
abbrev s_is_integer : Stmt := top 12
abbrev N_is_integer : List PySem.Str := ["value"]
theorem sc_is_integer : FnScope N_is_integer ["value"] (defScope s_is_integer) := ⟨rfl, rfl, rfl, by decide +kernel, rfl, by decide +kernel, by decide +kernel⟩
abbrev s_has_only_letters : Stmt := top 13
abbrev N_has_only_letters : List PySem.Str := ["text"]
theorem sc_has_only_letters : FnScope N_has_only_letters ["text"] (defScope s_has_only_letters) := ⟨rfl, rfl, rfl, by decide +kernel, rfl, by decide +kernel, by decide +kernel⟩
abbrev s_is_name : Stmt := top 14
abbrev N_is_name : List PySem.Str := ["value"]
theorem sc_is_name : FnScope N_is_name ["value"] (defScope s_is_name) := ⟨rfl, rfl, rfl, by decide +kernel, rfl, by decide +kernel, by decide +kernel⟩
abbrev s_is_letter : Stmt := top 15
abbrev N_is_letter : List PySem.Str := ["value"]
theorem sc_is_letter : FnScope N_is_letter ["value"] (defScope s_is_letter) := ⟨rfl, rfl, rfl, by decide +kernel, rfl, by decide +kernel, by decide +kernel⟩
abbrev s_is_price : Stmt := top 16
abbrev N_is_price : List PySem.Str := ["value"]
theorem sc_is_price : FnScope N_is_price ["value"] (defScope s_is_price) := ⟨rfl, rfl, rfl, by decide +kernel, rfl, by decide +kernel, by decide +kernel⟩
abbrev s_is_row : Stmt := top 17
abbrev N_is_row : List PySem.Str := ["value"]
theorem sc_is_row : FnScope N_is_row ["value"] (defScope s_is_row) := ⟨rfl, rfl, rfl, by decide +kernel, rfl, by decide +kernel, by decide +kernel⟩
abbrev s_is_list : Stmt := top 18
abbrev N_is_list : List PySem.Str := ["value"]
theorem sc_is_list : FnScope N_is_list ["value"] (defScope s_is_list) := ⟨rfl, rfl, rfl, by decide +kernel, rfl, by decide +kernel, by decide +kernel⟩
abbrev s_is_arrow : Stmt := top 19
abbrev N_is_arrow : List PySem.Str := ["value", "state", "letter", "after", "cost"]
theorem sc_is_arrow : FnScope N_is_arrow ["value"] (defScope s_is_arrow) := ⟨rfl, rfl, rfl, by decide +kernel, rfl, by decide +kernel, by decide +kernel⟩
abbrev s_check_row : Stmt := top 20
abbrev N_check_row : List PySem.Str := ["row"]
theorem sc_check_row : FnScope N_check_row ["row"] (defScope s_check_row) := ⟨rfl, rfl, rfl, by decide +kernel, rfl, by decide +kernel, by decide +kernel⟩
abbrev s_Machine___init__ : Stmt := inClass (top 24) 0
abbrev N_Machine___init__ : List PySem.Str := ["self", "arrows", "starts", "ends", "counted", "states", "state", "letter", "after", "cost"]
theorem sc_Machine___init__ : FnScope N_Machine___init__ ["self", "arrows", "starts", "ends"] (defScope s_Machine___init__) := ⟨rfl, rfl, rfl, by decide +kernel, rfl, by decide +kernel, by decide +kernel⟩
abbrev s_Machine___eq__ : Stmt := inClass (top 24) 1
abbrev N_Machine___eq__ : List PySem.Str := ["self", "other"]
theorem sc_Machine___eq__ : FnScope N_Machine___eq__ ["self", "other"] (defScope s_Machine___eq__) := ⟨rfl, rfl, rfl, by decide +kernel, rfl, by decide +kernel, by decide +kernel⟩
abbrev s_Machine_arrows : Stmt := inClass (top 24) 2
abbrev N_Machine_arrows : List PySem.Str := ["self"]
theorem sc_Machine_arrows : FnScope N_Machine_arrows ["self"] (defScope s_Machine_arrows) := ⟨rfl, rfl, rfl, by decide +kernel, rfl, by decide +kernel, by decide +kernel⟩
abbrev s_Machine_starts : Stmt := inClass (top 24) 3
abbrev N_Machine_starts : List PySem.Str := ["self"]
theorem sc_Machine_starts : FnScope N_Machine_starts ["self"] (defScope s_Machine_starts) := ⟨rfl, rfl, rfl, by decide +kernel, rfl, by decide +kernel, by decide +kernel⟩
abbrev s_Machine_ends : Stmt := inClass (top 24) 4
abbrev N_Machine_ends : List PySem.Str := ["self"]
theorem sc_Machine_ends : FnScope N_Machine_ends ["self"] (defScope s_Machine_ends) := ⟨rfl, rfl, rfl, by decide +kernel, rfl, by decide +kernel, by decide +kernel⟩
abbrev s_Machine_states : Stmt := inClass (top 24) 5
abbrev N_Machine_states : List PySem.Str := ["self"]
theorem sc_Machine_states : FnScope N_Machine_states ["self"] (defScope s_Machine_states) := ⟨rfl, rfl, rfl, by decide +kernel, rfl, by decide +kernel, by decide +kernel⟩
abbrev s_Machine_letters : Stmt := inClass (top 24) 6
abbrev N_Machine_letters : List PySem.Str := ["self"]
theorem sc_Machine_letters : FnScope N_Machine_letters ["self"] (defScope s_Machine_letters) := ⟨rfl, rfl, rfl, by decide +kernel, rfl, by decide +kernel, by decide +kernel⟩
abbrev s_Machine_text : Stmt := inClass (top 24) 7
abbrev N_Machine_text : List PySem.Str := ["self", "lines", "state", "letter", "after", "cost"]
theorem sc_Machine_text : FnScope N_Machine_text ["self"] (defScope s_Machine_text) := ⟨rfl, rfl, rfl, by decide +kernel, rfl, by decide +kernel, by decide +kernel⟩
abbrev s_Machine_parse : Stmt := inClass (top 24) 8
abbrev N_Machine_parse : List PySem.Str := ["cls", "text"]
abbrev s_check_arrows : Stmt := top 25
abbrev N_check_arrows : List PySem.Str := ["arrows", "line", "arrow"]
theorem sc_check_arrows : FnScope N_check_arrows ["arrows"] (defScope s_check_arrows) := ⟨rfl, rfl, rfl, by decide +kernel, rfl, by decide +kernel, by decide +kernel⟩
abbrev s_check_names : Stmt := top 26
abbrev N_check_names : List PySem.Str := ["states", "state"]
theorem sc_check_names : FnScope N_check_names ["states"] (defScope s_check_names) := ⟨rfl, rfl, rfl, by decide +kernel, rfl, by decide +kernel, by decide +kernel⟩
abbrev s_cheapest : Stmt := top 27
abbrev N_cheapest : List PySem.Str := ["arrows", "costs", "state", "letter", "after", "cost", "step"]
theorem sc_cheapest : FnScope N_cheapest ["arrows"] (defScope s_cheapest) := ⟨rfl, rfl, rfl, by decide +kernel, rfl, by decide +kernel, by decide +kernel⟩
abbrev s_each_once : Stmt := top 28
abbrev N_each_once : List PySem.Str := ["names"]
theorem sc_each_once : FnScope N_each_once ["names"] (defScope s_each_once) := ⟨rfl, rfl, rfl, by decide +kernel, rfl, by decide +kernel, by decide +kernel⟩
abbrev s_all_states : Stmt := top 29
abbrev N_all_states : List PySem.Str := ["arrows", "starts", "ends", "names", "state", "letter", "after", "cost"]
theorem sc_all_states : FnScope N_all_states ["arrows", "starts", "ends"] (defScope s_all_states) := ⟨rfl, rfl, rfl, by decide +kernel, rfl, by decide +kernel, by decide +kernel⟩
abbrev s_price : Stmt := top 31
abbrev N_price : List PySem.Str := ["machine", "row"]
theorem sc_price : FnScope N_price ["machine", "row"] (defScope s_price) := ⟨rfl, rfl, rfl, by decide +kernel, rfl, by decide +kernel, by decide +kernel⟩
abbrev s_least : Stmt := top 32
abbrev N_least : List PySem.Str := ["prices", "states", "state"]
theorem sc_least : FnScope N_least ["prices", "states"] (defScope s_least) := ⟨rfl, rfl, rfl, by decide +kernel, rfl, by decide +kernel, by decide +kernel⟩
abbrev s_follow : Stmt := top 33
abbrev N_follow : List PySem.Str := ["machine", "row", "starts", "moves", "prices", "letter", "state"]
theorem sc_follow : FnScope N_follow ["machine", "row", "starts"] (defScope s_follow) := ⟨rfl, rfl, rfl, by decide +kernel, rfl, by decide +kernel, by decide +kernel⟩
abbrev s_moves_by_letter : Stmt := top 34
abbrev N_moves_by_letter : List PySem.Str := ["machine", "letter", "moves", "state", "after", "cost"]
theorem sc_moves_by_letter : FnScope N_moves_by_letter ["machine"] (defScope s_moves_by_letter) := ⟨rfl, rfl, rfl, by decide +kernel, rfl, by decide +kernel, by decide +kernel⟩
abbrev s_advance : Stmt := top 35
abbrev N_advance : List PySem.Str := ["prices", "moves", "reached", "state", "after", "cost", "total"]
theorem sc_advance : FnScope N_advance ["prices", "moves"] (defScope s_advance) := ⟨rfl, rfl, rfl, by decide +kernel, rfl, by decide +kernel, by decide +kernel⟩
abbrev s_either : Stmt := top 38
abbrev N_either : List PySem.Str := ["one", "other"]
theorem sc_either : FnScope N_either ["one", "other"] (defScope s_either) := ⟨rfl, rfl, rfl, by decide +kernel, rfl, by decide +kernel, by decide +kernel⟩
abbrev s_behind : Stmt := top 39
abbrev N_behind : List PySem.Str := ["one", "other", "arrows", "starts", "ends", "back", "last", "first"]
theorem sc_behind : FnScope N_behind ["one", "other"] (defScope s_behind) := ⟨rfl, rfl, rfl, by decide +kernel, rfl, by decide +kernel, by decide +kernel⟩
abbrev s_within : Stmt := top 40
abbrev N_within : List PySem.Str := ["one", "other", "unpaid", "state", "letter", "after", "cost"]
theorem sc_within : FnScope N_within ["one", "other"] (defScope s_within) := ⟨rfl, rfl, rfl, by decide +kernel, rfl, by decide +kernel, by decide +kernel⟩
abbrev s_summed : Stmt := top 41
abbrev N_summed : List PySem.Str := ["one", "other", "names", "arrows", "starts", "ends", "state", "letter", "after", "cost", "place", "sign", "beyond", "toll"]
theorem sc_summed : FnScope N_summed ["one", "other"] (defScope s_summed) := ⟨rfl, rfl, rfl, by decide +kernel, rfl, by decide +kernel, by decide +kernel⟩
abbrev s_turned : Stmt := top 42
abbrev N_turned : List PySem.Str := ["machine"]
theorem sc_turned : FnScope N_turned ["machine"] (defScope s_turned) := ⟨rfl, rfl, rfl, by decide +kernel, rfl, by decide +kernel, by decide +kernel⟩
abbrev s_backward : Stmt := top 43
abbrev N_backward : List PySem.Str := ["arrows", "state", "letter", "after", "cost"]
theorem sc_backward : FnScope N_backward ["arrows"] (defScope s_backward) := ⟨rfl, rfl, rfl, by decide +kernel, rfl, by decide +kernel, by decide +kernel⟩
abbrev s_joined : Stmt := top 44
abbrev N_joined : List PySem.Str := ["one", "other", "arrows", "state", "letter", "after", "cost", "starts", "start"]
theorem sc_joined : FnScope N_joined ["one", "other"] (defScope s_joined) := ⟨rfl, rfl, rfl, by decide +kernel, rfl, by decide +kernel, by decide +kernel⟩
abbrev s_useful : Stmt := top 45
abbrev N_useful : List PySem.Str := ["arrows", "starts", "ends", "ahead", "back", "kept", "state", "arrow"]
theorem sc_useful : FnScope N_useful ["arrows", "starts", "ends"] (defScope s_useful) := ⟨rfl, rfl, rfl, by decide +kernel, rfl, by decide +kernel, by decide +kernel⟩
abbrev s_reached : Stmt := top 46
abbrev N_reached : List PySem.Str := ["starts", "arrows", "nexts", "state", "letter", "after", "cost", "found", "waiting", "here"]
theorem sc_reached : FnScope N_reached ["starts", "arrows"] (defScope s_reached) := ⟨rfl, rfl, rfl, by decide +kernel, rfl, by decide +kernel, by decide +kernel⟩
abbrev s_renamed : Stmt := top 47
abbrev N_renamed : List PySem.Str := ["machine", "sign", "names", "number", "state", "letter", "after", "cost"]
theorem sc_renamed : FnScope N_renamed ["machine", "sign"] (defScope s_renamed) := ⟨rfl, rfl, rfl, by decide +kernel, rfl, by decide +kernel, by decide +kernel⟩
abbrev s_pair_names : Stmt := top 48
abbrev N_pair_names : List PySem.Str := ["states", "others", "names", "state", "other"]
theorem sc_pair_names : FnScope N_pair_names ["states", "others"] (defScope s_pair_names) := ⟨rfl, rfl, rfl, by decide +kernel, rfl, by decide +kernel, by decide +kernel⟩
abbrev s_name_of : Stmt := top 49
abbrev N_name_of : List PySem.Str := ["number", "name"]
theorem sc_name_of : FnScope N_name_of ["number"] (defScope s_name_of) := ⟨rfl, rfl, rfl, by decide +kernel, rfl, by decide +kernel, by decide +kernel⟩
abbrev s_pieces : Stmt := top 51
abbrev N_pieces : List PySem.Str := ["machine", "cut", "arrows", "state", "letter", "after", "cost", "sources", "targets", "starts", "ends", "source", "toll", "target"]
theorem sc_pieces : FnScope N_pieces ["machine"] (defScope s_pieces) := ⟨rfl, rfl, rfl, by decide +kernel, rfl, by decide +kernel, by decide +kernel⟩
abbrev s_new_name : Stmt := top 52
abbrev N_new_name : List PySem.Str := ["states", "names", "number", "name"]
theorem sc_new_name : FnScope N_new_name ["states"] (defScope s_new_name) := ⟨rfl, rfl, rfl, by decide +kernel, rfl, by decide +kernel, by decide +kernel⟩
abbrev s__law_source : Stmt := top 54
abbrev N__law_source : List PySem.Str := ["_law_script", "_law_great", "_law_seed", "_law_cell"]
theorem sc__law_source : FnScope N__law_source ["_law_script"] (defScope s__law_source) := ⟨rfl, rfl, rfl, by decide +kernel, rfl, by decide +kernel, by decide +kernel⟩
abbrev s__law_draw : Stmt := top 55
abbrev N__law_draw : List PySem.Str := ["_law_source_here", "_law_many", "_law_digit", "_law_mixed"]
theorem sc__law_draw : FnScope N__law_draw ["_law_source_here", "_law_many"] (defScope s__law_draw) := ⟨rfl, rfl, rfl, by decide +kernel, rfl, by decide +kernel, by decide +kernel⟩
abbrev s__law_ring : Stmt := top 56
abbrev N__law_ring : List PySem.Str := ["_law_size", "_law_ends", "_law_names", "_law_arrows", "_law_k"]
theorem sc__law_ring : FnScope N__law_ring ["_law_size", "_law_ends"] (defScope s__law_ring) := ⟨rfl, rfl, rfl, by decide +kernel, rfl, by decide +kernel, by decide +kernel⟩
abbrev s__law_up : Stmt := top 57
abbrev N__law_up : List PySem.Str := ["_law_n", "_law_size"]
theorem sc__law_up : FnScope N__law_up ["_law_n", "_law_size"] (defScope s__law_up) := ⟨rfl, rfl, rfl, by decide +kernel, rfl, by decide +kernel, by decide +kernel⟩
abbrev s_law : Stmt := top 58
abbrev N_law : List PySem.Str := ["_law_script", "_law_source_here", "_law_p", "_law_q", "_law_one", "_law_other", "_law_small", "_law_few", "_law_sizes", "_law_found", "_law_whole", "_law_turn", "_law_n", "_law_row", "_law_cuts", "_law_due", "_law_pieces_due", "_law_k", "_law_machine"]
theorem sc_law : FnScope N_law ["_law_script"] (defScope s_law) := ⟨rfl, rfl, rfl, by decide +kernel, rfl, by decide +kernel, by decide +kernel⟩
structure Cl where
  Machine : Addr
structure Facts (K : PySem.W.Frag) (mg : PySem.Str → Option Value) (kl : Cl) : Prop where
  g_Machine : mg "Machine" = some (.ref kl.Machine)
  cl_Machine : Cls K kl.Machine
  n_Machine_held_arrows : NoAttr K kl.Machine "held_arrows"
  n_Machine_held_starts : NoAttr K kl.Machine "held_starts"
  n_Machine_held_ends : NoAttr K kl.Machine "held_ends"
  n_Machine_held_states : NoAttr K kl.Machine "held_states"
  n_Machine_held_letters : NoAttr K kl.Machine "held_letters"
  i_Machine : InitAt K kl.Machine "Machine.__init__" s_Machine___init__ ["self", "arrows", "starts", "ends"]
  p_Machine_arrows : PropAt K kl.Machine "arrows" "Machine.arrows" s_Machine_arrows
  p_Machine_starts : PropAt K kl.Machine "starts" "Machine.starts" s_Machine_starts
  p_Machine_ends : PropAt K kl.Machine "ends" "Machine.ends" s_Machine_ends
  p_Machine_states : PropAt K kl.Machine "states" "Machine.states" s_Machine_states
  p_Machine_letters : PropAt K kl.Machine "letters" "Machine.letters" s_Machine_letters
  d__wall : DefAt K mg "_wall" s__wall ["k"]
  d_is_integer : DefAt K mg "is_integer" s_is_integer ["value"]
  d_has_only_letters : DefAt K mg "has_only_letters" s_has_only_letters ["text"]
  d_is_name : DefAt K mg "is_name" s_is_name ["value"]
  d_is_letter : DefAt K mg "is_letter" s_is_letter ["value"]
  d_is_price : DefAt K mg "is_price" s_is_price ["value"]
  d_is_row : DefAt K mg "is_row" s_is_row ["value"]
  d_is_list : DefAt K mg "is_list" s_is_list ["value"]
  d_is_arrow : DefAt K mg "is_arrow" s_is_arrow ["value"]
  d_check_row : DefAt K mg "check_row" s_check_row ["row"]
  d_check_arrows : DefAt K mg "check_arrows" s_check_arrows ["arrows"]
  d_check_names : DefAt K mg "check_names" s_check_names ["states"]
  d_cheapest : DefAt K mg "cheapest" s_cheapest ["arrows"]
  d_each_once : DefAt K mg "each_once" s_each_once ["names"]
  d_all_states : DefAt K mg "all_states" s_all_states ["arrows", "starts", "ends"]
  d_price : DefAt K mg "price" s_price ["machine", "row"]
  d_least : DefAt K mg "least" s_least ["prices", "states"]
  d_follow : DefAt K mg "follow" s_follow ["machine", "row", "starts"]
  d_moves_by_letter : DefAt K mg "moves_by_letter" s_moves_by_letter ["machine"]
  d_advance : DefAt K mg "advance" s_advance ["prices", "moves"]
  d_either : DefAt K mg "either" s_either ["one", "other"]
  d_behind : DefAt K mg "behind" s_behind ["one", "other"]
  d_within : DefAt K mg "within" s_within ["one", "other"]
  d_summed : DefAt K mg "summed" s_summed ["one", "other"]
  d_turned : DefAt K mg "turned" s_turned ["machine"]
  d_backward : DefAt K mg "backward" s_backward ["arrows"]
  d_joined : DefAt K mg "joined" s_joined ["one", "other"]
  d_useful : DefAt K mg "useful" s_useful ["arrows", "starts", "ends"]
  d_reached : DefAt K mg "reached" s_reached ["starts", "arrows"]
  d_renamed : DefAt K mg "renamed" s_renamed ["machine", "sign"]
  d_pair_names : DefAt K mg "pair_names" s_pair_names ["states", "others"]
  d_name_of : DefAt K mg "name_of" s_name_of ["number"]
  d_pieces : DefAt K mg "pieces" s_pieces ["machine"]
  d_new_name : DefAt K mg "new_name" s_new_name ["states"]
  d__law_source : DefAt K mg "_law_source" s__law_source ["_law_script"]
  d__law_draw : DefAt K mg "_law_draw" s__law_draw ["_law_source_here", "_law_many"]
  d__law_ring : DefAt K mg "_law_ring" s__law_ring ["_law_size", "_law_ends"]
  d__law_up : DefAt K mg "_law_up" s__law_up ["_law_n", "_law_size"]
  d_law : DefAt K mg "law" s_law ["_law_script"]
  b_int : mg "int" = none
  b_len : mg "len" = none
  b_range : mg "range" = none
  b_sorted : mg "sorted" = none
  b_tuple : mg "tuple" = none
  b_list : mg "list" = none
  b_str : mg "str" = none
  b_set : mg "set" = none
  b_min : mg "min" = none
  b_isinstance : mg "isinstance" = none
  b_enumerate : mg "enumerate" = none
  b_bool : mg "bool" = none
  b_ValueError : mg "ValueError" = none
  c_LONGEST_NAME : ∃ t, mg "LONGEST_NAME" = some (.int 8 t)
  c_LONGEST_ROW : ∃ t, mg "LONGEST_ROW" = some (.int 5000 t)
  c_HIGHEST_PRICE : ∃ t, mg "HIGHEST_PRICE" = some (.int 99 t)
  c_ARROW_PARTS : ∃ t, mg "ARROW_PARTS" = some (.int 4 t)
  c_MOST_ARROWS : ∃ t, mg "MOST_ARROWS" = some (.int 400 t)
  c_MOST_STATES : ∃ t, mg "MOST_STATES" = some (.int 40 t)
  c_SIGNS : ∃ t, mg "SIGNS" = some (.str "abcdefghijklmnopqrstuvwxyz" t)
end Pf

namespace Pf
open PySem PySem.Spec PyProof.Rows L2 Bz
local macro_rules | `(tactic| walk_at "sd") => `(tactic| first
  | rfl | assumption | omega | exact Nat.le_of_ble_eq_true rfl | decide | (refine Or.inl (And.intro ?_ ?_) <;> omega) | (refine Or.inr (And.intro ?_ ?_) <;> omega) | (refine And.intro ?_ ?_ <;> omega) | (refine ⟨?_, ?_, ?_⟩ <;> omega))
local macro_rules | `(tactic| walk_at "sq") => `(tactic| first | assumption | exact SqL.of (by assumption) | exact SqT.of (by assumption) | exact SqL.of upd_same | exact SqT.of upd_same)
local macro_rules | `(tactic| walk_at "hp") => `(tactic| first | assumption | exact upd_same)
local macro_rules | `(tactic| walk_at "rd") => `(tactic| repeat (first
  | (refine ⟨_, rfl, ?_⟩) | (refine ⟨_, _, rfl, rfl, ?_⟩) | (refine ⟨rfl, ?_⟩) | (refine And.intro (by walk_at "sd") ?_)
  | (refine ⟨_, _, _, _, rfl, rfl, (by walk_at "sq"), rfl, ?_⟩)
  | (refine ⟨_, _, _, _, rfl, rfl, (by walk_at "hp"), rfl, ?_⟩)
  | (refine Or.inl ⟨_, rfl, ?_⟩)))
section
variable {P : Program} {w : World} {K : PySem.W.Frag} {mg : PySem.Str → Option Value} {base : Heap} {kl : Cl}
theorem ok__law_source (T : Facts K mg kl) : Keeps P w K mg base CX0 1 "_law_source" ["_law_script"] (spSource K) := by
  refine keeps0 T.d__law_source sc__law_source (fun vs H Q E h => ?_) (fun f cdv A outer s H vs Q E hr h => ?_)
  · obtain ⟨a, ns, rfl, _⟩ := h
    rfl
  · obtain ⟨a, ns, rfl, hS, k⟩ := h
    refine ⟨_, (pss_cons (ps_asg (pe_tup (pa_cons pe_int (pa_cons pe_int pa_nil))) (kpg_tup K rfl (pgs_cons (pg_name (i := 1) sc__law_source.nd rfl (Or.inl rfl)) (pgs_cons (pg_name (i := 2) sc__law_source.nd rfl (Or.inl rfl)) pgs_nil))))
  (pss_cons (ps_for PassesOwn.never rfl (kpi_list K (pv 0)) (pg_name (i := 3) sc__law_source.nd rfl (Or.inl rfl))
  (Evl.pss_cut (ps_if (PW.pt (pw_and (pt_cmpR op_eq (pv 1) pe_int (nomark _)) (pw_and1 (pt_cmpR op_ge (pv 3) (pe_op op_pow pe_int pe_int) (nomark _)))))
  (pss_one (ps_set (i := 1) sc__law_source.nd rfl (Or.inl rfl) (pv 3)))
  pss_nil)
  (pss_one (ps_set (i := 2) sc__law_source.nd rfl (Or.inl rfl) (pe_op op_modN (pe_callTy call_int1 (by rfl) T.b_int (by decide +kernel) (pa_cons (pe_op op_add (pe_op op_add (pe_op op_mul (pv 2) pe_int) (pv 3)) pe_int) pa_nil)) pe_int)))))
  (pss_one (ps_ret (pe_lst (pa_cons (pv 1) (pa_cons (pv 2) (pa_cons pe_int pa_nil)))))))), ?_⟩
    refine ⟨by decide, fun tp htp => ⟨tp, _, rfl, SqT.of upd_same, rfl, _, _, rfl, _, _, rfl, rfl, ?_⟩⟩
    have hs1 : Same H (upd H tp (.tup [.int 0, .int 17])) := same_new htp
    refine ⟨_, rfl, a, rfl, ⟨_, hs1.seq hS⟩, for_list (K := K) (a := a) (xs := ns.map V.int) (fun i σ H' => ∃ (g s : Int) (v : Option V), σ = [some (.ref a), some (.int g), some (.int s), v] ∧ H' = upd H tp (.tup [.int 0, .int 17]) ∧ 0 ≤ s ∧ s < 2147483647)
      ⟨0, 17, none, rfl, rfl, by decide, by decide⟩ (fun i σ H' _ ⟨_, _, _, _, e, _⟩ => by rw [e]; exact hs1.seq hS) ?_ ?_⟩
    · rintro i y σ H' hi ⟨g, s, v, rfl, rfl, h1, h2⟩
      obtain ⟨u, rfl, hu⟩ := map_int hi
      have e1 := Int.fmod_nonneg_of_pos (s * 31 + u + 7) (b := 2147483647) (by decide)
      have e2 := Int.fmod_lt_of_pos (s * 31 + u + 7) (b := 2147483647) (by decide)
      refine ⟨fun σ' H' => ∃ g' : Int, σ' = [some (.ref a), some (.int g'), some (.int s), some (.int u)] ∧ H' = upd H tp (.tup [.int 0, .int 17]), ?_, ?_⟩
      · walk_at "rd"
        refine ite2 (fun hc => ?_) (fun hc => ?_)
        · walk_at "rd"
          refine ite2 (fun hc => ?_) (fun hc => ?_)
          · exact ⟨_, rfl, u, rfl, rfl⟩
          · exact ⟨g, rfl, rfl⟩
        · exact ⟨g, rfl, rfl⟩
      · rintro σ' H' ⟨g', rfl, rfl⟩
        walk_at "rd"
        exact ⟨g', _, _, rfl, rfl, e1, e2⟩
    · rintro σ H' ⟨g, s, v, rfl, rfl, h1, h2⟩
      walk_at "rd"
      refine fun p hp => ?_
      have hp0 := hs1.free hp
      exact k p _ hp0 ⟨g, s, 0, upd_same, h1, h2, by omega, by omega⟩ (same_mut hs1 hp0)
theorem ok__law_draw (T : Facts K mg kl) : Keeps P w K mg base CX0 1 "_law_draw" ["_law_source_here", "_law_many"] spDraw := by
  refine keeps0 T.d__law_draw sc__law_draw (fun vs H Q E h => ?_) (fun f cdv A outer s H vs Q E hr h => ?_)
  · obtain ⟨p, n, c, rfl, _⟩ := h
    rfl
  · obtain ⟨p, n, c, rfl, ⟨g, s, j, hp, h1, h2, h3, h4⟩, hc, n0, n1, k⟩ := h
    refine ⟨_, (pss_cons (ps_asg (pe_op op_add (pe_ix (kix_list K) (pv 0) pe_int (fun _ _ => rfl)) pe_int) (pg_sub (pv 0) pe_int set_list))
  (pss_cons (ps_if (pt_cmpR op_gt (pe_ix (kix_list K) (pv 0) pe_int (fun _ _ => rfl)) pe_int (nomark _))
  (pss_cons (ps_set (i := 2) sc__law_draw.nd rfl (Or.inl rfl) (pe_op op_modN (pe_callTy call_int1 (by rfl) T.b_int (by decide +kernel) (pa_cons (pe_ix (kix_list K) (pv 0) pe_int (fun _ _ => rfl)) pa_nil)) (pv 1)))
  (pss_cons (ps_asg (pe_op op_fdivN (pe_ix (kix_list K) (pv 0) pe_int (fun _ _ => rfl)) (pv 1)) (pg_sub (pv 0) pe_int set_list))
  (pss_one (ps_ret (pv 2)))))
  pss_nil)
  (pss_cons (ps_set (i := 3) sc__law_draw.nd rfl (Or.inl rfl) (pe_op op_modN (pe_op op_pow (pe_op op_add (pe_ix (kix_list K) (pv 0) pe_int (fun _ _ => rfl)) (pe_op op_mul pe_int (pe_ix (kix_list K) (pv 0) pe_int (fun _ _ => rfl)))) pe_int) pe_int))
  (pss_one (ps_ret (pe_op op_modN (pe_op op_modN (pe_op op_pow (pe_op op_add (pe_op op_add (pe_op op_mul (pv 3) pe_int) (pe_op op_mul (pe_op op_mul pe_int (pe_ix (kix_list K) (pv 0) pe_int (fun _ _ => rfl))) (pe_ix (kix_list K) (pv 0) pe_int (fun _ _ => rfl)))) pe_int) pe_int) pe_int) (pv 1))))))), ?_⟩
    walk_at "rd"
    have hb : But p H (upd H p (.lst [.int g, .int s, .int (j + 1)])) := But.upd
    refine ite2 (fun hc => ?_) (fun hc => ?_)
    · walk_at "rd"
      have f1 := Int.fmod_nonneg_of_pos g n0
      have f2 := Int.fmod_lt_of_pos g n0
      exact k _ _ f1 f2 ⟨_, s, j + 1, upd_same, h1, h2, by omega, by omega⟩ (But.trans hb But.upd)
    · walk_at "rd"
      refine And.intro (draw_pow (by omega) (by omega)) ?_
      walk_at "rd"
      exact k _ _ (Int.fmod_nonneg_of_pos _ n0) (Int.fmod_lt_of_pos _ n0) ⟨g, s, j + 1, upd_same, h1, h2, by omega, by omega⟩ hb

end
end Pf

namespace Pf
open PySem PySem.Spec PyProof.Rows L2 Bz
local macro_rules | `(tactic| walk_at "sd") => `(tactic| first
  | rfl | assumption | omega | exact Nat.le_of_ble_eq_true rfl | decide | (refine Or.inl (And.intro ?_ ?_) <;> omega) | (refine Or.inr (And.intro ?_ ?_) <;> omega) | (refine And.intro ?_ ?_ <;> omega) | (refine ⟨?_, ?_, ?_⟩ <;> omega))
local macro_rules | `(tactic| walk_at "sq") => `(tactic| first | assumption | exact SqL.of (by assumption) | exact SqT.of (by assumption) | exact SqL.of upd_same | exact SqT.of upd_same)
local macro_rules | `(tactic| walk_at "hp") => `(tactic| first | assumption | exact upd_same)
local macro_rules | `(tactic| walk_at "rd") => `(tactic| repeat (first
  | (refine ⟨_, rfl, ?_⟩) | (refine ⟨_, _, rfl, rfl, ?_⟩) | (refine ⟨rfl, ?_⟩) | (refine And.intro (by walk_at "sd") ?_)
  | (refine ⟨_, _, _, _, rfl, rfl, (by walk_at "sq"), rfl, ?_⟩)
  | (refine ⟨_, _, _, _, rfl, rfl, (by walk_at "hp"), rfl, ?_⟩)
  | (refine Or.inl ⟨_, rfl, ?_⟩)))
section
variable {P : Program} {w : World} {K : PySem.W.Frag} {mg : PySem.Str → Option Value} {base : Heap} {kl : Cl}
theorem ok_is_integer (T : Facts K mg kl) : Keeps P w K mg base CX0 1 "is_integer" ["value"] (spIsInt K) := by
  refine keeps0 T.d_is_integer sc_is_integer (fun vs H Q E h => ?_) (fun f cdv A outer s H vs Q E hr h => ?_)
  · obtain ⟨v, t, rfl, _⟩ := h
    rfl
  · obtain ⟨v, t, rfl, ty, ht, k⟩ := h
    refine ⟨_, (pss_one (ps_ret (pe_and (pe_callB (kisi K) (by rfl) T.b_isinstance (by decide +kernel) (pa_cons (pv 0) (pa_cons (pe_bltn (v := .ty "int") (by rfl) T.b_int (by decide +kernel) rfl) pa_nil))) (pe_one (pe_not (pe_callB (kisi K) (by rfl) T.b_isinstance (by decide +kernel) (pa_cons (pv 0) (pa_cons (pe_bltn (v := .ty "bool") (by rfl) T.b_bool (by decide +kernel) rfl) pa_nil)))))))), ?_⟩
    obtain ⟨k1, k2, _⟩ := kit_in (K := K) ht
    refine ⟨_, rfl, _, _, _, _, _, rfl, .ty "int", ty, k1, _, rfl, ite2 (fun hc => ?_) (fun hc => ?_)⟩
    · refine ⟨_, rfl, _, _, _, _, _, rfl, .ty "bool", ty, k2, _, rfl, ?_⟩
      have e : (!decide (t = "bool")) = decide (t = "int") := by
        simp only [Bool.or_eq_true, decide_eq_true_eq] at hc
        rcases hc with rfl | rfl <;> decide
      rw [e]
      exact k
    · have e : decide (t = "int") = false := by
        simp only [Bool.or_eq_true, decide_eq_true_eq, not_or] at hc
        exact decide_eq_false hc.1
      rw [e] at k
      exact k
theorem ok_has_only_letters (T : Facts K mg kl) : Keeps P w K mg base CX0 1 "has_only_letters" ["text"] spOnly := by
  refine keeps0 T.d_has_only_letters sc_has_only_letters (fun vs H Q E h => ?_) (fun f cdv A outer s H vs Q E hr h => ?_)
  · obtain ⟨s, rfl, _⟩ := h
    rfl
  · obtain ⟨z, rfl, k⟩ := h
    refine ⟨_, (pss_one (ps_ret (pe_and (kbm0 K PySem.F.plainAttrs_str PySem.F.slot_str_isascii PySem.F.type_str_isascii mt_isascii (pv 0)) (pe_and (pe_m0 PySem.F.slot_str_isalpha PySem.F.type_str_isalpha mt_isalpha (pv 0)) (pe_one (kbm0 K PySem.F.plainAttrs_str PySem.F.slot_str_islower PySem.F.type_str_islower mt_islower (pv 0))))))), ?_⟩
    rw [← only_ok] at k
    refine ⟨_, rfl, rfl, z, rfl, rfl, trivial, _, rfl, ite2 (fun h1 => ?_) (fun h1 => ?_)⟩
    · refine ⟨_, rfl, ⟨_, rfl⟩, z, rfl, rfl, trivial, _, rfl, ite2 (fun h2 => ?_) (fun h2 => ?_)⟩
      · refine ⟨_, rfl, rfl, z, rfl, rfl, trivial, ?_⟩
        rw [h1, h2] at k
        exact k
      · have h2' : Txt.isalpha z = false := by simpa using h2
        rw [h1, h2'] at k
        exact k
    · have h1' : Txt.isascii z = false := by simpa using h1
      rw [h1'] at k
      exact k
theorem ok_is_name (T : Facts K mg kl) : Keeps P w K mg base CX0 2 "is_name" ["value"] spIsName := by
  refine keeps0 T.d_is_name sc_is_name (fun vs H Q E h => ?_) (fun f cdv A outer s H vs Q E hr h => ?_)
  · obtain ⟨s, rfl, _⟩ := h
    rfl
  · obtain ⟨z, rfl, hz, k⟩ := h
    refine ⟨_, (pss_one (ps_ret (pe_and (pe_callB (kisi K) (by rfl) T.b_isinstance (by decide +kernel) (pa_cons (pv 0) (pa_cons (pe_bltn (v := .ty "str") (by rfl) T.b_str (by decide +kernel) rfl) pa_nil))) (pe_and (pe_cmpR op_le (pe_callB call_len_str (by rfl) T.b_len (by decide +kernel) (pa_cons (pv 0) pa_nil)) (pe_cst T.c_LONGEST_NAME) (nomark _)) (pe_one (pe_own (ok_has_only_letters T) hr (pa_cons (pv 0) pa_nil))))))), ?_⟩
    rw [nmB_only] at k
    refine ⟨_, rfl, _, _, _, _, true, rfl, .ty "str", .base (.str z), kit_ty (by decide +kernel), _, rfl, iteT ?_⟩
    refine ⟨_, rfl, _, rfl, Evl.sz_of hz, _, _, rfl, rfl, _, rfl, ite2 (fun hc => ?_) (fun hc => ?_)⟩
    · refine ⟨_, rfl, z, rfl, ?_⟩
      have e : decide (z.length ≤ 8) = true := decide_eq_true (by have := of_decide_eq_true hc; omega)
      rw [e] at k
      exact k
    · have e : decide (z.length ≤ 8) = false := by
        have := hc
        simp only [decide_eq_true_eq] at this
        exact decide_eq_false (by omega)
      rw [e] at k
      exact k
theorem ok_is_letter (T : Facts K mg kl) : Keeps P w K mg base CX0 2 "is_letter" ["value"] spIsLetter := by
  refine keeps0 T.d_is_letter sc_is_letter (fun vs H Q E h => ?_) (fun f cdv A outer s H vs Q E hr h => ?_)
  · obtain ⟨s, rfl, _⟩ := h
    rfl
  · obtain ⟨z, rfl, hz, k⟩ := h
    refine ⟨_, (pss_one (ps_ret (pe_and (pe_callB (kisi K) (by rfl) T.b_isinstance (by decide +kernel) (pa_cons (pv 0) (pa_cons (pe_bltn (v := .ty "str") (by rfl) T.b_str (by decide +kernel) rfl) pa_nil))) (pe_and (pe_cmpR op_eq (pe_callB call_len_str (by rfl) T.b_len (by decide +kernel) (pa_cons (pv 0) pa_nil)) pe_int (nomark _)) (pe_one (pe_own (ok_has_only_letters T) hr (pa_cons (pv 0) pa_nil))))))), ?_⟩
    refine ⟨_, rfl, _, _, _, _, true, rfl, .ty "str", .base (.str z), kit_ty (by decide +kernel), _, rfl, iteT ?_⟩
    refine ⟨_, rfl, _, rfl, Evl.sz_of hz, rfl, _, rfl, ite2 (fun hc => ?_) (fun hc => ?_)⟩
    · refine ⟨_, rfl, z, rfl, ?_⟩
      have e : decide (z.length = 1) = true := by
        have := of_decide_eq_true hc
        exact decide_eq_true (by have := V.int.inj this; omega)
      unfold ltB at k
      rw [e] at k
      exact k
    · have e : decide (z.length = 1) = false := by
        refine decide_eq_false fun q => hc ?_
        rw [q]
        rfl
      unfold ltB at k
      rw [e] at k
      exact k
theorem ok_is_price (T : Facts K mg kl) : Keeps P w K mg base CX0 2 "is_price" ["value"] spIsPrice := by
  refine keeps0 T.d_is_price sc_is_price (fun vs H Q E h => ?_) (fun f cdv A outer s H vs Q E hr h => ?_)
  · obtain ⟨i, rfl, _⟩ := h
    rfl
  · obtain ⟨i, rfl, k⟩ := h
    refine ⟨_, (pss_one (ps_ret (pe_and (pe_own (ok_is_integer T) hr (pa_cons (pv 0) pa_nil)) (pe_one (pe_chain op_le op_le pe_int (pv 0) (pe_cst T.c_HIGHEST_PRICE)))))), ?_⟩
    refine ⟨_, rfl, .int i, "int", rfl, .base (.int i), by decide, true, rfl, iteT ?_⟩
    refine ⟨_, rfl, _, _, rfl, rfl, _, rfl, ite2 (fun hc => ?_) (fun hc => ?_)⟩
    · refine ⟨_, _, rfl, rfl, ?_⟩
      unfold prB at k
      rw [hc] at k
      exact k
    · have e : decide (0 ≤ i) = false := by simpa using hc
      unfold prB at k
      rw [e] at k
      exact k
theorem ok_is_list (T : Facts K mg kl) : Keeps P w K mg base CX0 1 "is_list" ["value"] (spIsList K) := by
  refine keeps0 T.d_is_list sc_is_list (fun vs H Q E h => ?_) (fun f cdv A outer s H vs Q E hr h => ?_)
  · obtain ⟨v, t, rfl, _⟩ := h
    rfl
  · obtain ⟨v, t, rfl, ty, ht, k⟩ := h
    refine ⟨_, (pss_one (ps_ret (pe_callB (kisiT K) (by rfl) T.b_isinstance (by decide +kernel) (pa_cons (pv 0) (pa_cons (pe_tup (pa_cons (pe_bltn (v := .ty "list") (by rfl) T.b_list (by decide +kernel) rfl) (pa_cons (pe_bltn (v := .ty "tuple") (by rfl) T.b_tuple (by decide +kernel) rfl) pa_nil))) pa_nil))))), ?_⟩
    obtain ⟨_, _, _, k4, k5⟩ := kit_in (K := K) ht
    refine ⟨_, rfl, Nat.le_of_ble_eq_true rfl, fun tp htp => ?_⟩
    have sm : Same H (upd H tp (.tup [.ty "list", .ty "tuple"])) := same_new htp
    refine ⟨v, tp, _, _, _, decide (t = "list") || decide (t = "tuple"), rfl, upd_same, .cons (.ty "list") (.cons (.ty "tuple") .nil), tyX_new ty sm, ?_, k _ sm⟩
    refine kitAny_cons (b := decide (t = "list")) k5 (fun z => ?_) (fun z => by rw [z]; rfl)
    rw [z]
    exact kitAny_cons (b := decide (t = "tuple")) k4 (fun y => by rw [y]; rfl) (fun y => by rw [y]; rfl)
theorem ok_is_arrow (T : Facts K mg kl) : Keeps P w K mg base CX0 3 "is_arrow" ["value"] (spIsArrow K) := by
  refine keeps0 T.d_is_arrow sc_is_arrow (fun vs H Q E h => ?_) (fun f cdv A outer s H vs Q E hr h => ?_)
  · obtain ⟨q, x, rfl, _⟩ := h
    rfl
  · obtain ⟨q, x, rfl, hq, z1, z2, z3, k⟩ := h
    refine ⟨_, (pss_cons (ps_if (PW.pt (pw_or (pt_not (pt_val (pe_own (ok_is_list T) hr (pa_cons (pv 0) pa_nil)))) (pw_or1 (pt_cmpR op_ne (pe_callB (kcall_len K) (by rfl) T.b_len (by decide +kernel) (pa_cons (pv 0) pa_nil)) (pe_cst T.c_ARROW_PARTS) (nomark _)))))
  (pss_one (ps_ret pe_bl))
  pss_nil)
  (pss_cons (ps_asg (pv 0) (kpg_tup K rfl (pgs_cons (pg_name (i := 1) sc_is_arrow.nd rfl (Or.inl rfl)) (pgs_cons (pg_name (i := 2) sc_is_arrow.nd rfl (Or.inl rfl)) (pgs_cons (pg_name (i := 3) sc_is_arrow.nd rfl (Or.inl rfl)) (pgs_cons (pg_name (i := 4) sc_is_arrow.nd rfl (Or.inl rfl)) pgs_nil))))))
  (pss_one (ps_ret (pe_and (pe_own (ok_is_name T) hr (pa_cons (pv 1) pa_nil)) (pe_and (pe_own (ok_is_letter T) hr (pa_cons (pv 2) pa_nil)) (pe_and (pe_own (ok_is_name T) hr (pa_cons (pv 3) pa_nil)) (pe_one (pe_own (ok_is_price T) hr (pa_cons (pv 4) pa_nil)))))))))), ?_⟩
    refine ⟨_, rfl, .ref q, "tuple", rfl, .base (.tup hq), by decide, fun H1 sm => ?_⟩
    have hq1 := sm _ _ hq
    refine ⟨true, rfl, ?_⟩
    refine iteF ?_
    refine ⟨_, rfl, _, 4, rfl, .inr ⟨_, SqT.of hq1, rfl⟩, rfl, _, rfl, ?_⟩
    refine iteF ?_
    refine ⟨_, rfl, q, _, rfl, SqT.of hq1, rfl, _, _, rfl, _, _, rfl, _, _, rfl, _, _, rfl, rfl, ?_⟩
    have k' := k _ sm
    unfold arB at k'
    refine ⟨_, rfl, x.s, rfl, z1, _, rfl, ite2 (fun h1 => ?_) (fun h1 => ?_)⟩
    · rw [h1] at k'
      refine ⟨_, rfl, x.l, rfl, z2, _, rfl, ite2 (fun h2 => ?_) (fun h2 => ?_)⟩
      · rw [h2] at k'
        refine ⟨_, rfl, x.t, rfl, z3, _, rfl, ite2 (fun h3 => ?_) (fun h3 => ?_)⟩
        · rw [h3] at k'
          exact ⟨_, rfl, x.c, rfl, k'⟩
        · have e : nmB x.t = false := by simpa using h3
          rw [e] at k'
          exact k'
      · have e : ltB x.l = false := by simpa using h2
        rw [e] at k'
        exact k'
    · have e : nmB x.s = false := by simpa using h1
      rw [e] at k'
      exact k'

end
end Pf

namespace Pf
open PySem PySem.Spec PyProof.Rows L2 Bz
local macro_rules | `(tactic| walk_at "sd") => `(tactic| first
  | rfl | assumption | omega | exact Nat.le_of_ble_eq_true rfl | decide | (refine Or.inl (And.intro ?_ ?_) <;> omega) | (refine Or.inr (And.intro ?_ ?_) <;> omega) | (refine And.intro ?_ ?_ <;> omega) | (refine ⟨?_, ?_, ?_⟩ <;> omega))
local macro_rules | `(tactic| walk_at "sq") => `(tactic| first | assumption | exact SqL.of (by assumption) | exact SqT.of (by assumption) | exact SqL.of upd_same | exact SqT.of upd_same)
local macro_rules | `(tactic| walk_at "hp") => `(tactic| first | assumption | exact upd_same)
local macro_rules | `(tactic| walk_at "rd") => `(tactic| repeat (first
  | (refine ⟨_, rfl, ?_⟩) | (refine ⟨_, _, rfl, rfl, ?_⟩) | (refine ⟨rfl, ?_⟩) | (refine And.intro (by walk_at "sd") ?_)
  | (refine ⟨_, _, _, _, rfl, rfl, (by walk_at "sq"), rfl, ?_⟩)
  | (refine ⟨_, _, _, _, rfl, rfl, (by walk_at "hp"), rfl, ?_⟩)
  | (refine Or.inl ⟨_, rfl, ?_⟩)))
section
variable {P : Program} {w : World} {K : PySem.W.Frag} {mg : PySem.Str → Option Value} {base : Heap} {kl : Cl}
theorem ok_is_row (T : Facts K mg kl) : Keeps P w K mg base CX0 2 "is_row" ["value"] spIsRow := by
  refine keeps0 T.d_is_row sc_is_row (fun vs H Q E h => ?_) (fun f cdv A outer s H vs Q E hr h => ?_)
  · obtain ⟨s, rfl, _⟩ := h
    rfl
  · obtain ⟨z, rfl, hz, k⟩ := h
    refine ⟨_, (pss_cons (ps_if (PW.pt (pw_or (pt_not (pt_val (pe_callB (kisi K) (by rfl) T.b_isinstance (by decide +kernel) (pa_cons (pv 0) (pa_cons (pe_bltn (v := .ty "str") (by rfl) T.b_str (by decide +kernel) rfl) pa_nil))))) (pw_or1 (pt_cmpR op_gt (pe_callB call_len_str (by rfl) T.b_len (by decide +kernel) (pa_cons (pv 0) pa_nil)) (pe_cst T.c_LONGEST_ROW) (nomark _)))))
  (pss_one (ps_ret pe_bl))
  pss_nil)
  (pss_one (ps_ret (pe_or (pe_cmpR op_eq (pv 0) pe_str (nomark _)) (pe_one (pe_own (ok_has_only_letters T) hr (pa_cons (pv 0) pa_nil))))))), ?_⟩
    refine ⟨_, rfl, _, _, _, _, true, rfl, .ty "str", .base (.str z), kit_ty (by decide +kernel), true, rfl, iteF ?_⟩
    have h1 := hz.1
    refine ⟨_, rfl, _, rfl, Evl.sz_of (by omega), _, _, rfl, rfl, _, rfl, ?_⟩
    have e : decide ((5000 : Int) < ((z.length : Nat) : Int)) = false := decide_eq_false (by omega)
    rw [e]
    refine iteF ?_
    refine ⟨_, rfl, rfl, _, rfl, ite2 (fun hc => ?_) (fun hc => ?_)⟩
    · exact k
    · refine ⟨_, rfl, z, rfl, ?_⟩
      have e2 : onlyB z = true := by
        unfold onlyB
        have : z.length ≠ 0 := fun e0 => hc (by
          have : z = "" := by
            refine ext_tl ?_
            have q := len_tl z
            rw [e0] at q
            rw [List.length_eq_zero_iff.mp q.symm]
            decide +kernel
          rw [this]
          decide +kernel)
        simp only [Bool.and_eq_true, decide_eq_true_eq, List.all_eq_true]
        exact ⟨by omega, fun c hc => hz.2 c hc⟩
      rw [e2]
      exact k
theorem ok_check_row (T : Facts K mg kl) : Keeps P w K mg base CX0 3 "check_row" ["row"] spCheckRow := by
  refine keeps0 T.d_check_row sc_check_row (fun vs H Q E h => ?_) (fun f cdv A outer s H vs Q E hr h => ?_)
  · obtain ⟨s, rfl, _⟩ := h
    rfl
  · obtain ⟨z, rfl, hz, k⟩ := h
    refine ⟨_, (pss_one (ps_if (pt_not (pt_val (pe_own (ok_is_row T) hr (pa_cons (pv 0) pa_nil))))
  (pss_one ps_never)
  pss_nil)), ?_⟩
    exact ⟨_, rfl, z, rfl, hz, _, rfl, iteF k⟩

end
end Pf

namespace Pf
open PySem PySem.Spec PyProof.Rows L2 Bz
local macro_rules | `(tactic| walk_at "sd") => `(tactic| first
  | rfl | assumption | omega | exact Nat.le_of_ble_eq_true rfl | decide | (refine Or.inl (And.intro ?_ ?_) <;> omega) | (refine Or.inr (And.intro ?_ ?_) <;> omega) | (refine And.intro ?_ ?_ <;> omega) | (refine ⟨?_, ?_, ?_⟩ <;> omega))
local macro_rules | `(tactic| walk_at "sq") => `(tactic| first | assumption | exact SqL.of (by assumption) | exact SqT.of (by assumption) | exact SqL.of upd_same | exact SqT.of upd_same)
local macro_rules | `(tactic| walk_at "hp") => `(tactic| first | assumption | exact upd_same)
local macro_rules | `(tactic| walk_at "rd") => `(tactic| repeat (first
  | (refine ⟨_, rfl, ?_⟩) | (refine ⟨_, _, rfl, rfl, ?_⟩) | (refine ⟨rfl, ?_⟩) | (refine And.intro (by walk_at "sd") ?_)
  | (refine ⟨_, _, _, _, rfl, rfl, (by walk_at "sq"), rfl, ?_⟩)
  | (refine ⟨_, _, _, _, rfl, rfl, (by walk_at "hp"), rfl, ?_⟩)
  | (refine Or.inl ⟨_, rfl, ?_⟩)))
section
variable {P : Program} {w : World} {K : PySem.W.Frag} {mg : PySem.Str → Option Value} {base : Heap} {kl : Cl}
theorem ok_check_names (T : Facts K mg kl) : Keeps P w K mg base CX0 3 "check_names" ["states"] (spCheckNames K) := by
  refine keeps0 T.d_check_names sc_check_names (fun vs H Q E h => ?_) (fun f cdv A outer s H vs Q E hr h => ?_)
  · obtain ⟨a, ns, rfl, _⟩ := h
    rfl
  · obtain ⟨a, ns, rfl, hS, hN, k⟩ := h
    refine ⟨_, (pss_one (ps_for PassesOwn.never rfl (pi_or (kpi_list K (pv 0)) (kpi_tup K (pv 0))) (pg_name (i := 1) sc_check_names.nd rfl (Or.inl rfl))
  (pss_one (ps_if (pt_not (pt_val (pe_own (ok_is_name T) hr (pa_cons (pv 1) pa_nil))))
  (pss_one ps_never)
  pss_nil)))), ?_⟩
    rcases hS with hS | hS
    · refine .inl ⟨_, rfl, a, rfl, ⟨_, hS⟩, for_list (K := K) (a := a) (xs := ns.map V.str) (fun i σ H' => (∃ v, σ = [some (.ref a), v]) ∧ H' = H) ⟨⟨_, rfl⟩, rfl⟩ (fun i σ H' _ h => by rw [h.2]; exact hS) ?_ ?_⟩
      · rintro i y σ H' hi ⟨⟨v, rfl⟩, rfl⟩
        obtain ⟨u, rfl, hu⟩ := map_str hi
        have hn := hN u (List.mem_of_getElem? hu)
        refine ⟨_, rfl, u, rfl, nm_len hn, ?_⟩
        rw [nmB_iff.mpr hn]
        exact ⟨_, rfl, iteF ⟨⟨_, rfl⟩, rfl⟩⟩
      · rintro σ H' ⟨⟨v, rfl⟩, rfl⟩
        exact k
    · refine .inr ⟨_, rfl, a, rfl, ⟨_, hS⟩, for_tup (K := K) (a := a) (xs := ns.map V.str) (fun i σ H' => (∃ v, σ = [some (.ref a), v]) ∧ H' = H) ⟨⟨_, rfl⟩, rfl⟩ (fun i σ H' _ h => by rw [h.2]; exact hS) ?_ ?_⟩
      · rintro i y σ H' hi ⟨⟨v, rfl⟩, rfl⟩
        obtain ⟨u, rfl, hu⟩ := map_str hi
        have hn := hN u (List.mem_of_getElem? hu)
        refine ⟨_, rfl, u, rfl, nm_len hn, ?_⟩
        rw [nmB_iff.mpr hn]
        exact ⟨_, rfl, iteF ⟨⟨_, rfl⟩, rfl⟩⟩
      · rintro σ H' ⟨⟨v, rfl⟩, rfl⟩
        exact k
theorem ok_check_arrows (T : Facts K mg kl) : Keeps P w K mg base CX0 4 "check_arrows" ["arrows"] (spCheckArrows K) := by
  refine keeps0 T.d_check_arrows sc_check_arrows (fun vs H Q E h => ?_) (fun f cdv A outer s H vs Q E hr h => ?_)
  · obtain ⟨a, us, xs, rfl, _⟩ := h
    rfl
  · obtain ⟨a, us, xs, rfl, hS, hA, hO, hl, k⟩ := h
    refine ⟨_, (pss_one (ps_for PassesOwn.never rfl (pi_or (kpi_enumS K (by rfl) T.b_enumerate (pv 0)) (kpi_enumST K (by rfl) T.b_enumerate (pv 0))) (kpg_tup K rfl (pgs_cons (pg_name (i := 1) sc_check_arrows.nd rfl (Or.inl rfl)) (pgs_cons (pg_name (i := 2) sc_check_arrows.nd rfl (Or.inl rfl)) pgs_nil)))
  (pss_one (ps_if (PW.pt (pw_or (pt_cmpR op_gt (pv 1) (pe_cst T.c_MOST_ARROWS) (nomark _)) (pw_or1 (pt_not (pt_val (pe_own (ok_is_arrow T) hr (pa_cons (pv 2) pa_nil)))))))
  (pss_one ps_never)
  pss_nil)))), ?_⟩
    have hul : us.length = xs.length := Paired.length hA
    rcases hS with hS | hS
    · refine .inl ⟨_, rfl, a, us, rfl, hS, for_it walk_enumS (fun i σ H' => (∃ v v', σ = [some (.ref a), v, v']) ∧ Same H H') ⟨⟨_, _, rfl⟩, .refl H⟩ (fun i σ H' _ h => Same.seq h.2 hS) ?_ ?_⟩
      · rintro i x σ H1 H2 hi ⟨⟨v, v', rfl⟩, hs⟩ ⟨q, y, rfl, hq, rfl, hy⟩
        have hs2 : Same H (upd H1 q (.tup [.int (1 + (i : Int)), y])) := hs.trans (same_new hq)
        refine ⟨q, _, rfl, SqT.of upd_same, rfl, _, _, rfl, _, _, rfl, rfl, ?_⟩
        refine ⟨_, rfl, _, _, rfl, rfl, _, rfl, ?_⟩
        have e : decide (400 < 1 + (i : Int)) = false := decide_eq_false (by omega)
        rw [e]
        refine iteF ?_
        obtain ⟨q', x', rfl, hx', hq'⟩ := ArS.get hA hy
        have ox := hO x' (List.mem_of_getElem? hx')
        refine ⟨_, rfl, q', x', rfl, hs2 _ _ hq', nm_len ox.s, lt_len ox.l, nm_len ox.t, fun H3 hs3 => ?_⟩
        rw [arB_of ox]
        exact ⟨_, rfl, iteF ⟨⟨_, _, rfl⟩, hs2.trans hs3⟩⟩
      · rintro σ H' ⟨⟨v, v', rfl⟩, hs⟩
        exact k _ hs
    · refine .inr ⟨_, rfl, a, us, rfl, hS, for_it walk_enumST (fun i σ H' => (∃ v v', σ = [some (.ref a), v, v']) ∧ Same H H') ⟨⟨_, _, rfl⟩, .refl H⟩ (fun i σ H' _ h => sqt_same h.2 hS) ?_ ?_⟩
      · rintro i x σ H1 H2 hi ⟨⟨v, v', rfl⟩, hs⟩ ⟨q, y, rfl, hq, rfl, hy⟩
        have hs2 : Same H (upd H1 q (.tup [.int (1 + (i : Int)), y])) := hs.trans (same_new hq)
        refine ⟨q, _, rfl, SqT.of upd_same, rfl, _, _, rfl, _, _, rfl, rfl, ?_⟩
        refine ⟨_, rfl, _, _, rfl, rfl, _, rfl, ?_⟩
        have e : decide (400 < 1 + (i : Int)) = false := decide_eq_false (by omega)
        rw [e]
        refine iteF ?_
        obtain ⟨q', x', rfl, hx', hq'⟩ := ArS.get hA hy
        have ox := hO x' (List.mem_of_getElem? hx')
        refine ⟨_, rfl, q', x', rfl, hs2 _ _ hq', nm_len ox.s, lt_len ox.l, nm_len ox.t, fun H3 hs3 => ?_⟩
        rw [arB_of ox]
        exact ⟨_, rfl, iteF ⟨⟨_, _, rfl⟩, hs2.trans hs3⟩⟩
      · rintro σ H' ⟨⟨v, v', rfl⟩, hs⟩
        exact k _ hs
theorem ok_each_once (T : Facts K mg kl) : Keeps P w K mg base CX0 1 "each_once" ["names"] (spOnce K) := by
  refine keeps0 T.d_each_once sc_each_once (fun vs H Q E h => ?_) (fun f cdv A outer s H vs Q E hr h => ?_)
  · obtain ⟨a, ns, rfl, _⟩ := h
    rfl
  · obtain ⟨a, ns, rfl, hS, hl, k⟩ := h
    refine ⟨_, (pss_one (ps_ret (pe_callTy (ktuple_F K) (by rfl) T.b_tuple (by decide +kernel) (pa_cons (pe_callB (cr_sortedSetS rfl) (by rfl) T.b_sorted (by decide +kernel) (pa_cons (pe_callTy (ksetS K rfl) (by rfl) T.b_set (by decide +kernel) (pa_cons (pv 0) pa_nil)) pa_nil)) pa_nil)))), ?_⟩
    refine ⟨_, rfl, a, ns, rfl, hS, hl, fun p hp => ?_⟩
    have s1 := same_new (o := SetSO P w p (fun x => x ∈ ns) ns.length) hp
    refine ⟨p, _, _, rfl, upd_same, fun ys q h1 h2 h3 hq => ?_⟩
    have s2 := s1.trans (same_new (o := .lst (ys.map V.str)) hq)
    refine ⟨q, _, rfl, SqL.of upd_same, fun l u hl hu => ?_⟩
    exact k l ys _ (s2.free hl) ⟨u, upd_same, hu⟩ h1 h2 h3 (s2.trans (same_new hl))
theorem ok_all_states (T : Facts K mg kl) : Keeps P w K mg base CX0 2 "all_states" ["arrows", "starts", "ends"] (spStates K) := by
  refine keeps0 T.d_all_states sc_all_states (fun vs H Q E h => ?_) (fun f cdv A outer s H vs Q E hr h => ?_)
  · obtain ⟨t, a, b, us, xs, ss, es, rfl, _⟩ := h
    rfl
  · obtain ⟨t, a, b, us, xs, ss, es, rfl, ht, hA, ha, hb, l1, l2, l3, k⟩ := h
    refine ⟨_, (pss_cons (ps_set (i := 3) sc_all_states.nd rfl (Or.inl rfl) (pe_lst (kpa_star K (pv 1) (kpa_star K (pv 2) pa_nil))))
  (pss_cons (ps_for PassesOwn.never rfl (kpi_tup K (pv 0)) (kpg_tup K rfl (pgs_cons (pg_name (i := 4) sc_all_states.nd rfl (Or.inl rfl)) (pgs_cons (pg_name (i := 5) sc_all_states.nd rfl (Or.inl rfl)) (pgs_cons (pg_name (i := 6) sc_all_states.nd rfl (Or.inl rfl)) (pgs_cons (pg_name (i := 7) sc_all_states.nd rfl (Or.inl rfl)) pgs_nil)))))
  (pss_one (ps_expr (kbm K PySem.F.plainAttrs_list PySem.F.slot_list_extend PySem.F.type_list_extend mt_extend (pv 3) (pa_cons (pe_lst (pa_cons (pv 4) (pa_cons (pv 6) pa_nil))) pa_nil)))))
  (pss_one (ps_ret (pe_own (ok_each_once T) hr (pa_cons (pv 3) pa_nil)))))), ?_⟩
    refine ⟨_, rfl, a, _, rfl, ha.star, _, rfl, b, _, rfl, hb.star, ?_⟩
    have hul : us.length = xs.length := Paired.length hA
    refine ⟨Evl.sz_of (by simp; omega), fun n hn => ?_⟩
    have s0 : Same H (upd H n (.lst (ss.map V.str ++ (es.map V.str ++ [])))) := same_new hn
    refine ⟨_, rfl, t, rfl, ⟨_, SqT.of (s0 _ _ ht)⟩, for_tup (K := K) (a := t) (xs := us) (fun i σ H' => ∃ (v1 v2 v3 v4 : Option V) (ns : List PySem.Str), σ = [some (.ref t), some (.ref a), some (.ref b), some (.ref n), v1, v2, v3, v4] ∧ H' n = some (.lst (ns.map V.str)) ∧ Same H H' ∧
        (∀ k, k ∈ ns ↔ (k ∈ ss ∨ k ∈ es ∨ ∃ x ∈ xs.take i, k = x.s ∨ k = x.t)) ∧ ns.length ≤ 2000 + 2 * i) ?_ (fun i σ H' _ ⟨_, _, _, _, _, _, _, hs, _⟩ => SqT.of (hs _ _ ht)) ?_ ?_⟩
    · refine ⟨_, _, _, _, ss ++ es, rfl, by rw [List.map_append]; simpa using upd_same, s0, fun k => by simp, by simp; omega⟩
    · rintro i y σ H1 hi ⟨v1, v2, v3, v4, ns, rfl, h1, hs, hm, hlen⟩
      obtain ⟨q, x, rfl, hx, hq⟩ := ArS.get hA hi
      refine ⟨q, _, rfl, SqT.of (hs _ _ hq), rfl, _, _, rfl, _, _, rfl, _, _, rfl, _, _, rfl, rfl, ?_⟩
      refine ⟨_, rfl, .inl ⟨rfl, _, SqL.of h1⟩, _, rfl, _, rfl, Nat.le_of_ble_eq_true rfl, fun l hl => ?_⟩
      have nln : n ≠ l := ne_of_none h1 hl
      have hi' : i < xs.length := by rw [← hul]; exact (List.getElem?_eq_some_iff.mp hi).1
      refine ⟨n, l, ns.map V.str, _, rfl, rfl, (upd_ne nln).trans h1, upd_same, Evl.sz_of (by simp; omega), ?_⟩
      refine ⟨_, _, _, _, ns ++ [x.s, x.t], rfl, by rw [List.map_append]; exact upd_same, same_mut (hs.trans (same_new hl)) hn, fun k => ?_, by simp; omega⟩
      · rw [List.mem_append, hm, List.take_add_one, hx]
        simp only [List.mem_cons, List.not_mem_nil, or_false, List.mem_append, Option.toList_some]
        constructor
        · rintro ((h | h | ⟨z, hz, e⟩) | h)
          · exact .inl h
          · exact .inr (.inl h)
          · exact .inr (.inr ⟨z, .inl hz, e⟩)
          · exact .inr (.inr ⟨x, .inr rfl, h⟩)
        · rintro (h | h | ⟨z, hz | hz, e⟩)
          · exact .inl (.inl h)
          · exact .inl (.inr (.inl h))
          · exact .inl (.inr (.inr ⟨z, hz, e⟩))
          · rw [hz] at e
            exact .inr e
    · rintro σ H1 ⟨v1, v2, v3, v4, ns, rfl, h1, hs, hm, hlen⟩
      refine ⟨_, rfl, n, ns, rfl, .inl (SqL.of h1), by omega, fun q os H2 hq h2 ha' hk hlo hs2 => ?_⟩
      refine k q os H2 (hs.free hq) h2 ha' (fun k => ?_) (hs.trans hs2)
      rw [hk, hm, hul, List.take_length]

end
end Pf

namespace Pf
open PySem PySem.Spec PyProof.Rows L2 Bz
local macro_rules | `(tactic| walk_at "sd") => `(tactic| first
  | rfl | assumption | omega | exact Nat.le_of_ble_eq_true rfl | decide | (refine Or.inl (And.intro ?_ ?_) <;> omega) | (refine Or.inr (And.intro ?_ ?_) <;> omega) | (refine And.intro ?_ ?_ <;> omega) | (refine ⟨?_, ?_, ?_⟩ <;> omega))
local macro_rules | `(tactic| walk_at "sq") => `(tactic| first | assumption | exact SqL.of (by assumption) | exact SqT.of (by assumption) | exact SqL.of upd_same | exact SqT.of upd_same)
local macro_rules | `(tactic| walk_at "hp") => `(tactic| first | assumption | exact upd_same)
local macro_rules | `(tactic| walk_at "rd") => `(tactic| repeat (first
  | (refine ⟨_, rfl, ?_⟩) | (refine ⟨_, _, rfl, rfl, ?_⟩) | (refine ⟨rfl, ?_⟩) | (refine And.intro (by walk_at "sd") ?_)
  | (refine ⟨_, _, _, _, rfl, rfl, (by walk_at "sq"), rfl, ?_⟩)
  | (refine ⟨_, _, _, _, rfl, rfl, (by walk_at "hp"), rfl, ?_⟩)
  | (refine Or.inl ⟨_, rfl, ?_⟩)))
section
variable {P : Program} {w : World} {K : PySem.W.Frag} {mg : PySem.Str → Option Value} {base : Heap} {kl : Cl}
theorem ok_cheapest (T : Facts K mg kl) : Keeps P w K mg base CX0 1 "cheapest" ["arrows"] (spCheapest K) := by
  refine keeps0 T.d_cheapest sc_cheapest (fun vs H Q E h => ?_) (fun f cdv A outer s H vs Q E hr h => ?_)
  · obtain ⟨a, us, xs, rfl, _⟩ := h
    rfl
  · obtain ⟨a, us, xs, rfl, hS, hA, hl, k⟩ := h
    refine ⟨_, (pss_cons (ps_set (i := 1) sc_cheapest.nd rfl (Or.inr rfl) pe_dnewT)
  (pss_cons (ps_for PassesOwn.never rfl (pi_or (kpi_list K (pv 0)) (kpi_tup K (pv 0))) (kpg_tup K rfl (pgs_cons (pg_name (i := 2) sc_cheapest.nd rfl (Or.inl rfl)) (pgs_cons (pg_name (i := 3) sc_cheapest.nd rfl (Or.inl rfl)) (pgs_cons (pg_name (i := 4) sc_cheapest.nd rfl (Or.inl rfl)) (pgs_cons (pg_name (i := 5) sc_cheapest.nd rfl (Or.inl rfl)) pgs_nil)))))
  (pss_cons (ps_set (i := 6) sc_cheapest.nd rfl (Or.inl rfl) (pe_tup (pa_cons (pv 2) (pa_cons (pv 3) (pa_cons (pv 4) pa_nil)))))
  (pss_one (ps_dput (hu_of hr) (pv 1) (pv 6) (pe_callB (call_min2 rfl) (by rfl) T.b_min (by decide +kernel) (pa_cons (pv 5) (pa_cons (pe_dget2 (hu_of hr) (pv 1) (pv 6) (pv 5) ⟨rfl, rfl, rfl, rfl⟩) pa_nil))) rfl))))
  (pss_one (ps_ret (pe_callTy (ktuple_of K) (by rfl) T.b_tuple (by decide +kernel) (pa_cons (pe_callB (ksortK K) (by rfl) T.b_sorted (by decide +kernel) (pa_cons (pe_lock (pe_lc (own := [("step", 6)]) (g := gName 6) (tt := tYes) rfl sc_cheapest.nd (pi_keys (pv 1)) (blkOk_by (own := [("step", 6)]) (N := N_cheapest) (sc := defScope s_cheapest) (by decide +kernel)) (fun _ _ _ _ _ => (pg_name (i := 6) sc_cheapest.nd rfl (Or.inl rfl))) (fun _ _ _ _ _ => pts_nil) (fun _ _ _ _ _ => (pe_tup (kpa_star K (pv 6) (pa_cons (pe_dget (hu_of hr) (pv 1) (pv 6) (fun _ _ => rfl)) pa_nil)))))) pa_nil)) pa_nil)))))), ?_⟩
    have hul : us.length = xs.length := Paired.length hA
    refine fun d hd => ?_
    have s0 : Same H (upd H d (.dT [])) := same_new hd
    rcases hS with hS | hS
    · refine .inl ⟨_, rfl, a, rfl, ⟨_, Same.seq s0 hS⟩, for_list (K := K) (a := a) (xs := us) (fun i σ H' => ∃ (v1 v2 v3 v4 v5 : Option V) (kvs : List (List Ky × V)), σ = [some (.ref a), some (.ref d), v1, v2, v3, v4, v5] ∧ H' d = some (.dT kvs) ∧ Same H H' ∧
          (∀ k, valV kvs k = (minC (xs.take i) k).map V.int) ∧ (kvs.map (·.1)).Nodup ∧ kvs.length ≤ i ∧ ∀ p ∈ kvs, ∃ x ∈ xs, p.1 = x.k3) ?_ (fun i σ H' _ ⟨_, _, _, _, _, _, _, _, hs, _⟩ => Same.seq hs hS) ?_ ?_⟩
      · exact ⟨_, _, _, _, _, [], rfl, upd_same, s0, fun k => rfl, .nil, Nat.le_refl _, fun p hp => by cases hp⟩
      · rintro i y σ H1 hi ⟨v1, v2, v3, v4, v5, kvs, rfl, h1, hs, hv, hnd, hlen, hk⟩
        obtain ⟨q, x, rfl, hx, hq⟩ := ArS.get hA hi
        refine ⟨q, _, rfl, SqT.of (hs _ _ hq), rfl, _, _, rfl, _, _, rfl, _, _, rfl, _, _, rfl, rfl, ?_⟩
        -- the step
        refine ⟨_, rfl, _, rfl, _, rfl, Nat.le_of_ble_eq_true rfl, fun t ht => ?_⟩
        have ndt : d ≠ t := ne_of_none h1 ht
        have hs2 := hs.trans (same_new (o := .tup [.str x.s, .str x.l, .str x.t]) ht)
        have h2 : (upd H1 t (.tup [.str x.s, .str x.l, .str x.t])) d = some (.dT kvs) := (upd_ne ndt).trans h1
        have et : (upd H1 t (.tup [.str x.s, .str x.l, .str x.t])) t = some (.tup (x.k3.map kV)) := upd_same
        have ev : valV kvs x.k3 = (minC (xs.take i) x.k3).map V.int := hv _
        refine ⟨_, rfl, _, rfl, d, rfl, .inr ⟨kvs, .inl h2⟩, _, rfl, _, rfl, _, DGet.t h2 et, ?_⟩
        have hi' : i < xs.length := by rw [← hul]; exact (List.getElem?_eq_some_iff.mp hi).1
        have em : minC (xs.take (i + 1)) x.k3 = some (if (minC (xs.take i) x.k3).getD x.c < x.c then (minC (xs.take i) x.k3).getD x.c else x.c) := by
          rw [List.take_add_one, hx]
          show minC (xs.take i ++ [x]) x.k3 = _
          rw [minC_snoc]
          unfold mstep
          rw [if_pos rfl]
        have eg : (valV kvs x.k3).getD (.int x.c) = .int ((minC (xs.take i) x.k3).getD x.c) := by
          rw [ev]
          cases minC (xs.take i) x.k3 <;> rfl
        refine ⟨_, _, congrArg (fun z => [V.int x.c, z]) eg, ?_⟩
        refine ⟨_, rfl, _, rfl, d, _, rfl, DPut.t h2 et (Nat.lt_of_le_of_lt hlen (Nat.lt_of_lt_of_le hi' (Nat.le_trans hl (by decide)))), ?_⟩
        refine ⟨_, _, _, _, _, _, rfl, upd_same, same_mut hs2 hd, fun k => ?_, putK_nodup hnd, ?_, fun p hp => ?_⟩
        · rw [valV_put]
          by_cases e : k = x.k3
          · rw [if_pos e, e, em]
            rfl
          · rw [if_neg e, hv, List.take_add_one, hx]
            show _ = Option.map V.int (minC (xs.take i ++ [x]) k)
            rw [minC_snoc]
            unfold mstep
            rw [if_neg fun z => e z.symm]
        · have := length_putK kvs x.k3 (.int (if (minC (xs.take i) x.k3).getD x.c < x.c then (minC (xs.take i) x.k3).getD x.c else x.c))
          omega
        · rcases putK_memk hp with e | ⟨p', hp', e⟩
          · exact ⟨x, List.mem_of_getElem? hx, e⟩
          · rw [← e]
            exact hk p' hp'
      · rintro σ H1 ⟨v1, v2, v3, v4, v5, kvs, rfl, h1, hs, hv, hnd, hlen, hk⟩
        rw [hul, List.take_length] at hv
        -- the arrows of the dict, in its order
        refine ⟨d, _, h1, trivial, fun od => ?_⟩
        refine ⟨_, rfl, d, od, rfl, .inr ⟨kvs, upd_same, fun D hD => ?_⟩⟩
        have ndD : d ≠ D := fun z => by
          rw [← z, upd_same] at hD
          cases hD
        have sF : Same H (upd H1 d (.frz od (.dT kvs))) := same_mut hs hd
        have hHD : H D = none := sF.free hD
        refine lcA walk_keysT (fun i acc H' => (∃ zs : List Arw, ArTs K D H' acc zs ∧ zs.map Arw.k3 = (kvs.take i).map (·.1) ∧ ∀ z ∈ zs, minC xs z.k3 = some z.c) ∧ Same H H' ∧ H' d = some (.frz od (.dT kvs))) ⟨⟨[], .nil, rfl, fun z hz => by cases hz⟩, sF, upd_same⟩
          (fun i acc H' o h => ⟨?_, same_mut h.2.1 hHD, (upd_ne ndD).trans h.2.2⟩) (fun i acc H' _ h => h.2.2) ?_ ?_
        · obtain ⟨zs, hz, e1, e2⟩ := h.1
          exact ⟨zs, hz.ext fun b o n e => (upd_ne n).trans e, e1, e2⟩
        · rintro i x acc _ H2 hi ⟨⟨zs, hz, e1, e2⟩, hs2, hd2⟩ hA2 hl2 ⟨rfl, ky, v, q, hkv, rfl, hq⟩
          have hm : (ky, v) ∈ kvs := List.mem_of_getElem? hkv
          obtain ⟨x0, hx0, ek⟩ := hk _ hm
          simp only at ek
          subst ek
          have ev := hv x0.k3
          have ev2 : valV kvs x0.k3 = some v := valV_mem hnd hm
          rw [ev2] at ev
          obtain ⟨m, hm1, rfl⟩ : ∃ m, minC xs x0.k3 = some m ∧ v = .int m := by
            cases hmc : minC xs x0.k3 with
            | none => rw [hmc] at ev; cases ev
            | some m => rw [hmc] at ev; exact ⟨m, rfl, Option.some.inj ev⟩
          refine ⟨rfl, _, rfl, q, _, rfl, .inl (SqT.of hq), _, rfl, _, rfl, d, .int m, rfl, .inr ⟨kvs, x0.k3, q, .inr ⟨od, hd2⟩, rfl, hq, ev2.symm⟩, ?_⟩
          refine ⟨Nat.le_of_ble_eq_true rfl, fun t ht => ?_⟩
          have nDt : D ≠ t := ne_of_none hA2 ht
          have ex : Ext D H2 (upd H2 t (.tup (x0.k3.map kV ++ [.int m]))) := Ext.new ht
          refine LcP.put (fun i acc H' o h => ⟨?_, same_mut h.2.1 hHD, (upd_ne ndD).trans h.2.2⟩) ((upd_ne nDt).trans hA2) hl2 (by omega) ⟨⟨zs ++ [⟨x0.s, x0.l, x0.t, m⟩], (hz.ext ex).snoc nDt.symm upd_same, ?_, fun z hz' => ?_⟩, hs2.trans (same_new ht), ex _ _ ndD hd2⟩
          · obtain ⟨zs, hz, e1, e2⟩ := h.1
            exact ⟨zs, hz.ext fun b o n e => (upd_ne n).trans e, e1, e2⟩
          · rw [List.map_append, e1, List.take_add_one, hkv, List.map_append]
            rfl
          · rcases List.mem_append.mp hz' with h | h
            · exact e2 z h
            · rw [List.mem_singleton.mp h]
              exact hm1
        · rintro acc H2 ⟨⟨zs, hz, e1, e2⟩, hs2, hd2⟩ hA2 hl2
          rw [List.take_length] at e1
          refine ⟨hd2, ?_⟩
          have hA3 : (upd H2 d (.dT kvs)) D = some (.lst acc) := (upd_ne ndD.symm).trans hA2
          have hz3 : ArS (upd H2 d (.dT kvs)) acc zs := Paired.mapP hz fun v x ⟨q, ev, _, hq⟩ => ⟨q, ev, (upd_ne (ne_of hq hd2 (by intro z; cases z))).trans hq⟩
          have hs3 : Same H (upd H2 d (.dT kvs)) := same_mut hs2 hd
          refine ⟨D, acc, keysAt (upd H2 d (.dT kvs)), false, [false, false, true], rfl, SqL.of hA3, fun x hx => ?_, fun ys p hpw hpm hp => ?_⟩
          · obtain ⟨i, hi, ei⟩ := List.getElem_of_mem hx
            obtain ⟨q, z, rfl, hz', hq⟩ := ArS.get hz3 (List.getElem?_eq_some_iff.mpr ⟨hi, ei⟩)
            exact ⟨q, rfl, by rw [keysAt_ar hq]; exact hq, by rw [keysAt_ar hq]; rfl⟩
          · obtain ⟨ws, hw, hwp⟩ := paired_perm hpm hz3
            have s4 : Same H (upd (upd H2 d (.dT kvs)) p (.lst ys)) := hs3.trans (same_new hp)
            refine ⟨p, ys, rfl, .inl ⟨SqL.of upd_same, fun q hq => ?_⟩⟩
            have s5 : Same (upd H2 d (.dT kvs)) (upd (upd (upd H2 d (.dT kvs)) p (.lst ys)) q (.tup ys)) := (same_new hp).trans (same_new hq)
            refine k q ys ws _ (s4.free hq) upd_same (ArS.same hw s5) ?_ (hs3.trans s5)
            -- it is as it should be
            have nd : (ws.map Arw.k3).Nodup := (hwp.map Arw.k3).nodup_iff.mpr (by rw [e1]; exact hnd)
            have ord : ws.Pairwise fun x y => lexK y.ks x.ks = false := paired_pairwise (S := fun x y => lexK (keysAt (upd H2 d (.dT kvs)) y) (keysAt (upd H2 d (.dT kvs)) x) = false) (fun a a' b b' ⟨q1, h1, g1⟩ ⟨q2, h2, g2⟩ h => by
              rw [h1, h2, keysAt_ar g1, keysAt_ar g2] at h
              exact h) hw hpw
            refine ⟨?_, fun y hy => ?_, fun x hx => ?_⟩
            · have nd' : ws.Pairwise fun x y => x.k3 ≠ y.k3 := List.pairwise_map.mp nd
              refine (List.pairwise_and_iff.mpr ⟨ord, nd'⟩).imp fun {x y} ⟨h1, h2⟩ => ?_
              rw [lex_ks h2.symm] at h1
              exact lexK_tot h1 h2.symm
            · have hmc := e2 y (hwp.mem_iff.mp hy)
              obtain ⟨⟨x, hx, ex, ec⟩, hmin⟩ := minC_some hmc
              have e : x = y := Arw.eq_of ex ec
              exact ⟨by rw [← e]; exact hx, hmin⟩
            · cases hmc : minC xs x.k3 with
              | none => exact absurd rfl (minC_none hmc x hx)
              | some m =>
                have hval := hv x.k3
                rw [hmc] at hval
                have hmem : x.k3 ∈ kvs.map (·.1) := by
                  unfold valV at hval
                  cases hf : kvs.find? fun kv => decide (kv.1 = x.k3) with
                  | none => rw [hf] at hval; cases hval
                  | some p =>
                    have := List.find?_some hf
                    exact List.mem_map.mpr ⟨p, List.mem_of_find?_eq_some hf, of_decide_eq_true this⟩
                rw [← e1] at hmem
                obtain ⟨z, hz', ez⟩ := List.mem_map.mp hmem
                exact ⟨z, hwp.mem_iff.mpr hz', ez⟩
    · refine .inr ⟨_, rfl, a, rfl, ⟨_, sqt_same s0 hS⟩, for_tup (K := K) (a := a) (xs := us) (fun i σ H' => ∃ (v1 v2 v3 v4 v5 : Option V) (kvs : List (List Ky × V)), σ = [some (.ref a), some (.ref d), v1, v2, v3, v4, v5] ∧ H' d = some (.dT kvs) ∧ Same H H' ∧
          (∀ k, valV kvs k = (minC (xs.take i) k).map V.int) ∧ (kvs.map (·.1)).Nodup ∧ kvs.length ≤ i ∧ ∀ p ∈ kvs, ∃ x ∈ xs, p.1 = x.k3) ?_ (fun i σ H' _ ⟨_, _, _, _, _, _, _, _, hs, _⟩ => sqt_same hs hS) ?_ ?_⟩
      · exact ⟨_, _, _, _, _, [], rfl, upd_same, s0, fun k => rfl, .nil, Nat.le_refl _, fun p hp => by cases hp⟩
      · rintro i y σ H1 hi ⟨v1, v2, v3, v4, v5, kvs, rfl, h1, hs, hv, hnd, hlen, hk⟩
        obtain ⟨q, x, rfl, hx, hq⟩ := ArS.get hA hi
        refine ⟨q, _, rfl, SqT.of (hs _ _ hq), rfl, _, _, rfl, _, _, rfl, _, _, rfl, _, _, rfl, rfl, ?_⟩
        -- the step
        refine ⟨_, rfl, _, rfl, _, rfl, Nat.le_of_ble_eq_true rfl, fun t ht => ?_⟩
        have ndt : d ≠ t := ne_of_none h1 ht
        have hs2 := hs.trans (same_new (o := .tup [.str x.s, .str x.l, .str x.t]) ht)
        have h2 : (upd H1 t (.tup [.str x.s, .str x.l, .str x.t])) d = some (.dT kvs) := (upd_ne ndt).trans h1
        have et : (upd H1 t (.tup [.str x.s, .str x.l, .str x.t])) t = some (.tup (x.k3.map kV)) := upd_same
        have ev : valV kvs x.k3 = (minC (xs.take i) x.k3).map V.int := hv _
        refine ⟨_, rfl, _, rfl, d, rfl, .inr ⟨kvs, .inl h2⟩, _, rfl, _, rfl, _, DGet.t h2 et, ?_⟩
        have hi' : i < xs.length := by rw [← hul]; exact (List.getElem?_eq_some_iff.mp hi).1
        have em : minC (xs.take (i + 1)) x.k3 = some (if (minC (xs.take i) x.k3).getD x.c < x.c then (minC (xs.take i) x.k3).getD x.c else x.c) := by
          rw [List.take_add_one, hx]
          show minC (xs.take i ++ [x]) x.k3 = _
          rw [minC_snoc]
          unfold mstep
          rw [if_pos rfl]
        have eg : (valV kvs x.k3).getD (.int x.c) = .int ((minC (xs.take i) x.k3).getD x.c) := by
          rw [ev]
          cases minC (xs.take i) x.k3 <;> rfl
        refine ⟨_, _, congrArg (fun z => [V.int x.c, z]) eg, ?_⟩
        refine ⟨_, rfl, _, rfl, d, _, rfl, DPut.t h2 et (Nat.lt_of_le_of_lt hlen (Nat.lt_of_lt_of_le hi' (Nat.le_trans hl (by decide)))), ?_⟩
        refine ⟨_, _, _, _, _, _, rfl, upd_same, same_mut hs2 hd, fun k => ?_, putK_nodup hnd, ?_, fun p hp => ?_⟩
        · rw [valV_put]
          by_cases e : k = x.k3
          · rw [if_pos e, e, em]
            rfl
          · rw [if_neg e, hv, List.take_add_one, hx]
            show _ = Option.map V.int (minC (xs.take i ++ [x]) k)
            rw [minC_snoc]
            unfold mstep
            rw [if_neg fun z => e z.symm]
        · have := length_putK kvs x.k3 (.int (if (minC (xs.take i) x.k3).getD x.c < x.c then (minC (xs.take i) x.k3).getD x.c else x.c))
          omega
        · rcases putK_memk hp with e | ⟨p', hp', e⟩
          · exact ⟨x, List.mem_of_getElem? hx, e⟩
          · rw [← e]
            exact hk p' hp'
      · rintro σ H1 ⟨v1, v2, v3, v4, v5, kvs, rfl, h1, hs, hv, hnd, hlen, hk⟩
        rw [hul, List.take_length] at hv
        -- the arrows of the dict, in its order
        refine ⟨d, _, h1, trivial, fun od => ?_⟩
        refine ⟨_, rfl, d, od, rfl, .inr ⟨kvs, upd_same, fun D hD => ?_⟩⟩
        have ndD : d ≠ D := fun z => by
          rw [← z, upd_same] at hD
          cases hD
        have sF : Same H (upd H1 d (.frz od (.dT kvs))) := same_mut hs hd
        have hHD : H D = none := sF.free hD
        refine lcA walk_keysT (fun i acc H' => (∃ zs : List Arw, ArTs K D H' acc zs ∧ zs.map Arw.k3 = (kvs.take i).map (·.1) ∧ ∀ z ∈ zs, minC xs z.k3 = some z.c) ∧ Same H H' ∧ H' d = some (.frz od (.dT kvs))) ⟨⟨[], .nil, rfl, fun z hz => by cases hz⟩, sF, upd_same⟩
          (fun i acc H' o h => ⟨?_, same_mut h.2.1 hHD, (upd_ne ndD).trans h.2.2⟩) (fun i acc H' _ h => h.2.2) ?_ ?_
        · obtain ⟨zs, hz, e1, e2⟩ := h.1
          exact ⟨zs, hz.ext fun b o n e => (upd_ne n).trans e, e1, e2⟩
        · rintro i x acc _ H2 hi ⟨⟨zs, hz, e1, e2⟩, hs2, hd2⟩ hA2 hl2 ⟨rfl, ky, v, q, hkv, rfl, hq⟩
          have hm : (ky, v) ∈ kvs := List.mem_of_getElem? hkv
          obtain ⟨x0, hx0, ek⟩ := hk _ hm
          simp only at ek
          subst ek
          have ev := hv x0.k3
          have ev2 : valV kvs x0.k3 = some v := valV_mem hnd hm
          rw [ev2] at ev
          obtain ⟨m, hm1, rfl⟩ : ∃ m, minC xs x0.k3 = some m ∧ v = .int m := by
            cases hmc : minC xs x0.k3 with
            | none => rw [hmc] at ev; cases ev
            | some m => rw [hmc] at ev; exact ⟨m, rfl, Option.some.inj ev⟩
          refine ⟨rfl, _, rfl, q, _, rfl, .inl (SqT.of hq), _, rfl, _, rfl, d, .int m, rfl, .inr ⟨kvs, x0.k3, q, .inr ⟨od, hd2⟩, rfl, hq, ev2.symm⟩, ?_⟩
          refine ⟨Nat.le_of_ble_eq_true rfl, fun t ht => ?_⟩
          have nDt : D ≠ t := ne_of_none hA2 ht
          have ex : Ext D H2 (upd H2 t (.tup (x0.k3.map kV ++ [.int m]))) := Ext.new ht
          refine LcP.put (fun i acc H' o h => ⟨?_, same_mut h.2.1 hHD, (upd_ne ndD).trans h.2.2⟩) ((upd_ne nDt).trans hA2) hl2 (by omega) ⟨⟨zs ++ [⟨x0.s, x0.l, x0.t, m⟩], (hz.ext ex).snoc nDt.symm upd_same, ?_, fun z hz' => ?_⟩, hs2.trans (same_new ht), ex _ _ ndD hd2⟩
          · obtain ⟨zs, hz, e1, e2⟩ := h.1
            exact ⟨zs, hz.ext fun b o n e => (upd_ne n).trans e, e1, e2⟩
          · rw [List.map_append, e1, List.take_add_one, hkv, List.map_append]
            rfl
          · rcases List.mem_append.mp hz' with h | h
            · exact e2 z h
            · rw [List.mem_singleton.mp h]
              exact hm1
        · rintro acc H2 ⟨⟨zs, hz, e1, e2⟩, hs2, hd2⟩ hA2 hl2
          rw [List.take_length] at e1
          refine ⟨hd2, ?_⟩
          have hA3 : (upd H2 d (.dT kvs)) D = some (.lst acc) := (upd_ne ndD.symm).trans hA2
          have hz3 : ArS (upd H2 d (.dT kvs)) acc zs := Paired.mapP hz fun v x ⟨q, ev, _, hq⟩ => ⟨q, ev, (upd_ne (ne_of hq hd2 (by intro z; cases z))).trans hq⟩
          have hs3 : Same H (upd H2 d (.dT kvs)) := same_mut hs2 hd
          refine ⟨D, acc, keysAt (upd H2 d (.dT kvs)), false, [false, false, true], rfl, SqL.of hA3, fun x hx => ?_, fun ys p hpw hpm hp => ?_⟩
          · obtain ⟨i, hi, ei⟩ := List.getElem_of_mem hx
            obtain ⟨q, z, rfl, hz', hq⟩ := ArS.get hz3 (List.getElem?_eq_some_iff.mpr ⟨hi, ei⟩)
            exact ⟨q, rfl, by rw [keysAt_ar hq]; exact hq, by rw [keysAt_ar hq]; rfl⟩
          · obtain ⟨ws, hw, hwp⟩ := paired_perm hpm hz3
            have s4 : Same H (upd (upd H2 d (.dT kvs)) p (.lst ys)) := hs3.trans (same_new hp)
            refine ⟨p, ys, rfl, .inl ⟨SqL.of upd_same, fun q hq => ?_⟩⟩
            have s5 : Same (upd H2 d (.dT kvs)) (upd (upd (upd H2 d (.dT kvs)) p (.lst ys)) q (.tup ys)) := (same_new hp).trans (same_new hq)
            refine k q ys ws _ (s4.free hq) upd_same (ArS.same hw s5) ?_ (hs3.trans s5)
            -- it is as it should be
            have nd : (ws.map Arw.k3).Nodup := (hwp.map Arw.k3).nodup_iff.mpr (by rw [e1]; exact hnd)
            have ord : ws.Pairwise fun x y => lexK y.ks x.ks = false := paired_pairwise (S := fun x y => lexK (keysAt (upd H2 d (.dT kvs)) y) (keysAt (upd H2 d (.dT kvs)) x) = false) (fun a a' b b' ⟨q1, h1, g1⟩ ⟨q2, h2, g2⟩ h => by
              rw [h1, h2, keysAt_ar g1, keysAt_ar g2] at h
              exact h) hw hpw
            refine ⟨?_, fun y hy => ?_, fun x hx => ?_⟩
            · have nd' : ws.Pairwise fun x y => x.k3 ≠ y.k3 := List.pairwise_map.mp nd
              refine (List.pairwise_and_iff.mpr ⟨ord, nd'⟩).imp fun {x y} ⟨h1, h2⟩ => ?_
              rw [lex_ks h2.symm] at h1
              exact lexK_tot h1 h2.symm
            · have hmc := e2 y (hwp.mem_iff.mp hy)
              obtain ⟨⟨x, hx, ex, ec⟩, hmin⟩ := minC_some hmc
              have e : x = y := Arw.eq_of ex ec
              exact ⟨by rw [← e]; exact hx, hmin⟩
            · cases hmc : minC xs x.k3 with
              | none => exact absurd rfl (minC_none hmc x hx)
              | some m =>
                have hval := hv x.k3
                rw [hmc] at hval
                have hmem : x.k3 ∈ kvs.map (·.1) := by
                  unfold valV at hval
                  cases hf : kvs.find? fun kv => decide (kv.1 = x.k3) with
                  | none => rw [hf] at hval; cases hval
                  | some p =>
                    have := List.find?_some hf
                    exact List.mem_map.mpr ⟨p, List.mem_of_find?_eq_some hf, of_decide_eq_true this⟩
                rw [← e1] at hmem
                obtain ⟨z, hz', ez⟩ := List.mem_map.mp hmem
                exact ⟨z, hwp.mem_iff.mpr hz', ez⟩

end
end Pf

namespace Pf
open PySem PySem.Spec PyProof.Rows L2 Bz
local macro_rules | `(tactic| walk_at "sd") => `(tactic| first
  | rfl | assumption | omega | exact Nat.le_of_ble_eq_true rfl | decide | (refine Or.inl (And.intro ?_ ?_) <;> omega) | (refine Or.inr (And.intro ?_ ?_) <;> omega) | (refine And.intro ?_ ?_ <;> omega) | (refine ⟨?_, ?_, ?_⟩ <;> omega))
local macro_rules | `(tactic| walk_at "sq") => `(tactic| first | assumption | exact SqL.of (by assumption) | exact SqT.of (by assumption) | exact SqL.of upd_same | exact SqT.of upd_same)
local macro_rules | `(tactic| walk_at "hp") => `(tactic| first | assumption | exact upd_same)
local macro_rules | `(tactic| walk_at "rd") => `(tactic| repeat (first
  | (refine ⟨_, rfl, ?_⟩) | (refine ⟨_, _, rfl, rfl, ?_⟩) | (refine ⟨rfl, ?_⟩) | (refine And.intro (by walk_at "sd") ?_)
  | (refine ⟨_, _, _, _, rfl, rfl, (by walk_at "sq"), rfl, ?_⟩)
  | (refine ⟨_, _, _, _, rfl, rfl, (by walk_at "hp"), rfl, ?_⟩)
  | (refine Or.inl ⟨_, rfl, ?_⟩)))
section
variable {P : Program} {w : World} {K : PySem.W.Frag} {mg : PySem.Str → Option Value} {base : Heap} {kl : Cl}
theorem mk_Machine (T : Facts K mg kl) : Makes P w K mg base kl.Machine 5 ["self", "arrows", "starts", "ends"] (spInit K kl.Machine) := by
  refine makes0 T.i_Machine sc_Machine___init__ (fun vs H Q E h => ?_) (fun f cdv A outer s H vs Q E hr h => ?_)
  · obtain ⟨m, a, b, e, dx, us, xs, ss, es, ns, rfl, _⟩ := h
    rfl
  · obtain ⟨m, a, b, e, dx, us, xs, ss, es, ns, rfl, hm, ha, hA, hO, l1, hb, he, nb, ne, l2, l3, l4, n1, n2, n3, k⟩ := h
    refine ⟨_, (pss_cons (ps_expr (pe_own (ok_check_arrows T) hr (pa_cons (pv 1) pa_nil)))
  (pss_cons (ps_expr (pe_own (ok_check_names T) hr (pa_cons (pv 2) pa_nil)))
  (pss_cons (ps_expr (pe_own (ok_check_names T) hr (pa_cons (pv 3) pa_nil)))
  (pss_cons (ps_set (i := 4) sc_Machine___init__.nd rfl (Or.inl rfl) (pe_own (ok_cheapest T) hr (pa_cons (pv 1) pa_nil)))
  (pss_cons (ps_set (i := 5) sc_Machine___init__.nd rfl (Or.inl rfl) (pe_own (ok_all_states T) hr (pa_cons (pv 4) (pa_cons (pv 2) (pa_cons (pv 3) pa_nil)))))
  (pss_cons (ps_if (pt_cmpR op_gt (pe_callB (kcall_len K) (by rfl) T.b_len (by decide +kernel) (pa_cons (pv 5) pa_nil)) (pe_cst T.c_MOST_STATES) (nomark _))
  (pss_one ps_never)
  pss_nil)
  (pss_cons (ps_fld (pv 0) (pv 4) rfl)
  (pss_cons (ps_fld (pv 0) (pe_own (ok_each_once T) hr (pa_cons (pv 2) pa_nil)) rfl)
  (pss_cons (ps_fld (pv 0) (pe_own (ok_each_once T) hr (pa_cons (pv 3) pa_nil)) rfl)
  (pss_cons (ps_fld (pv 0) (pv 5) rfl)
  (pss_one (ps_fld (pv 0) (pe_own (ok_each_once T) hr (pa_cons (pe_lc (own := [("state", 6), ("letter", 7), ("after", 8), ("cost", 9)]) (g := gTup K 4 (gCons (gName 6) (gCons (gName 7) (gCons (gName 8) (gCons (gName 9) (gNil)))))) (tt := tYes) rfl sc_Machine___init__.nd (kpi_tup K (pv 4)) (blkOk_by (own := [("state", 6), ("letter", 7), ("after", 8), ("cost", 9)]) (N := N_Machine___init__) (sc := defScope s_Machine___init__) (by decide +kernel)) (fun _ _ _ _ _ => (kpg_tup K rfl (pgs_cons (pg_name (i := 6) sc_Machine___init__.nd rfl (Or.inl rfl)) (pgs_cons (pg_name (i := 7) sc_Machine___init__.nd rfl (Or.inl rfl)) (pgs_cons (pg_name (i := 8) sc_Machine___init__.nd rfl (Or.inl rfl)) (pgs_cons (pg_name (i := 9) sc_Machine___init__.nd rfl (Or.inl rfl)) pgs_nil)))))) (fun _ _ _ _ _ => pts_nil) (fun _ _ _ _ _ => (pv 7))) pa_nil)) rfl)))))))))))), ?_⟩
    -- check_arrows(arrows), check_names(starts), check_names(ends)
    refine ⟨_, rfl, a, us, xs, rfl, ha, hA, hO, l1, fun H1 s1 => ?_⟩
    refine ⟨_, rfl, b, ss, rfl, hb.same s1, nb, ?_⟩
    refine ⟨_, rfl, e, es, rfl, he.same s1, ne, ?_⟩
    -- counted, states
    refine ⟨_, rfl, a, us, xs, rfl, ha.same s1, hA.same s1, by omega, fun q1 ws ys H2 f1 h2 hW hC s2 => ?_⟩
    have S2 := s1.trans s2
    have yl : ys.length ≤ 500 := by
      have q := nodup_le (L := ys) (ts := xs) ?_ fun y hy => (hC.sub y hy).1
      · omega
      · exact hC.asc.imp fun {x y} h z => by rw [z, lexK_irr] at h; cases h
    refine ⟨_, rfl, _, rfl, _, rfl, q1, b, e, ws, ys, ss, es, rfl, h2, hW, hb.same S2, he.same S2, yl, l2, l3, fun q2 os H3 f2 h3 ho ho2 s3 => ?_⟩
    obtain ⟨u2, h3, z3⟩ := h3
    have S3 := S2.trans s3
    have ol : os.length ≤ 40 := by
      refine Nat.le_trans (nodup_le ?_ fun k hk => ?_) l4
      · exact ho.imp fun {x y} h z => by rw [z] at h; exact List.lt_irrefl _ h
      · rcases (ho2 k).mp hk with h | h | ⟨x, hx, h | h⟩
        · exact n1 k h
        · exact n2 k h
        · rw [h]
          exact (n3 x (hC.sub x hx).1).1
        · rw [h]
          exact (n3 x (hC.sub x hx).1).2
    refine ⟨_, rfl, _, os.length, rfl, .inr ⟨_, FzT.sq ⟨u2, h3, z3⟩, by rw [List.length_map]⟩, _, _, rfl, rfl, _, rfl, ?_⟩
    have z : decide ((40 : Int) < (os.length : Nat)) = false := decide_eq_false (by omega)
    rw [z]
    refine iteF ?_
    have m3 := S3 _ _ hm
    -- held_arrows
    refine ⟨_, rfl, _, rfl, m, kl.Machine, dx, _, rfl, m3, T.cl_Machine, T.n_Machine_held_arrows, Nat.le_of_ble_eq_true rfl, ?_⟩
    rw [putf0]
    have x4 : Ext m H (upd H3 m (.ins kl.Machine dx [(("held_arrows" : PySem.Str), V.ref q1)])) := (Same.ext S3).trans But.upd.ext
    have b4 := sqe_ins (o := .ins kl.Machine dx [(("held_arrows" : PySem.Str), V.ref q1)]) (hb.same S3) m3
    have e4 := sqe_ins (o := .ins kl.Machine dx [(("held_arrows" : PySem.Str), V.ref q1)]) (he.same S3) m3
    have n1m : q1 ≠ m := ne_of h2 (S2 _ _ hm) (by intro z; cases z)
    have n2m : q2 ≠ m := ne_of h3 m3 (fun z => z3.nins _ _ _ z)
    have x34 : Ext m H3 (upd H3 m (.ins kl.Machine dx [(("held_arrows" : PySem.Str), V.ref q1)])) := But.upd.ext
    -- held_starts
    refine ⟨_, rfl, b, ss, rfl, b4, by omega, fun q3 so H5 f5 h5 hs hs2 hsl s5 => ?_⟩
    obtain ⟨u3, h5, z5⟩ := h5
    have m5 := s5 _ _ upd_same
    have n3m : q3 ≠ m := ne_of h5 m5 (fun z => z5.nins _ _ _ z)
    refine ⟨_, rfl, m, kl.Machine, dx, _, rfl, m5, T.cl_Machine, T.n_Machine_held_starts, Nat.le_of_ble_eq_true rfl, ?_⟩
    rw [putf1]
    have e6 := sqe_ins (o := .ins kl.Machine dx [(("held_arrows" : PySem.Str), V.ref q1), (("held_starts" : PySem.Str), V.ref q3)]) (e4.same s5) m5
    have x36 := (x34.trans (Same.ext s5)).trans (But.upd (p := m) (H := H5) (o := .ins kl.Machine dx [(("held_arrows" : PySem.Str), V.ref q1), (("held_starts" : PySem.Str), V.ref q3)])).ext
    -- held_ends
    refine ⟨_, rfl, e, es, rfl, e6, by omega, fun q4 eo H7 f7 h7 hq hq2 hql s7 => ?_⟩
    obtain ⟨u4, h7, z7⟩ := h7
    have m7 := s7 _ _ upd_same
    have n4m : q4 ≠ m := ne_of h7 m7 (fun z => z7.nins _ _ _ z)
    refine ⟨_, rfl, m, kl.Machine, dx, _, rfl, m7, T.cl_Machine, T.n_Machine_held_ends, Nat.le_of_ble_eq_true rfl, ?_⟩
    rw [putf2]
    have x38 := (x36.trans (Same.ext s7)).trans (But.upd (p := m) (H := H7) (o := .ins kl.Machine dx [(("held_arrows" : PySem.Str), V.ref q1), (("held_starts" : PySem.Str), V.ref q3), (("held_ends" : PySem.Str), V.ref q4)])).ext
    -- held_states
    refine ⟨_, rfl, _, rfl, m, kl.Machine, dx, _, rfl, upd_same, T.cl_Machine, T.n_Machine_held_states, Nat.le_of_ble_eq_true rfl, ?_⟩
    rw [putf3]
    have x39 := x38.trans (But.upd (p := m) (o := .ins kl.Machine dx [(("held_arrows" : PySem.Str), V.ref q1), (("held_starts" : PySem.Str), V.ref q3), (("held_ends" : PySem.Str), V.ref q4), (("held_states" : PySem.Str), V.ref q2)])).ext
    generalize hH9 : upd (upd H7 m (.ins kl.Machine dx [(("held_arrows" : PySem.Str), V.ref q1), (("held_starts" : PySem.Str), V.ref q3), (("held_ends" : PySem.Str), V.ref q4)])) m (.ins kl.Machine dx [(("held_arrows" : PySem.Str), V.ref q1), (("held_starts" : PySem.Str), V.ref q3), (("held_ends" : PySem.Str), V.ref q4), (("held_states" : PySem.Str), V.ref q2)]) = H9 at x39 ⊢
    have m9 : H9 m = some (.ins kl.Machine dx [(("held_arrows" : PySem.Str), V.ref q1), (("held_starts" : PySem.Str), V.ref q3), (("held_ends" : PySem.Str), V.ref q4), (("held_states" : PySem.Str), V.ref q2)]) := by rw [← hH9]; exact upd_same
    have t9 : H9 q1 = some (.tup ws) := x39 _ _ n1m (s3 _ _ h2)
    have w9 : ArS H9 ws ys := Paired.mapP hW fun v x ⟨q, ev, hq⟩ => ⟨q, ev, x39 _ _ (ne_of (s3 _ _ hq) m3 (by intro z; cases z)) (s3 _ _ hq)⟩
    have wl : ws.length = ys.length := Paired.length hW
    -- held_letters
    refine ⟨_, rfl, q1, rfl, ⟨_, SqT.of t9⟩, fun D hD => lcA walk_tup (fun i acc H' => acc = (ys.take i).map (fun x => V.str x.l) ∧ Same H9 H') ⟨rfl, .refl H9⟩ (fun i acc H' o h => ⟨h.1, same_mut h.2 hD⟩) (fun i acc H' _ h => SqT.of (h.2 _ _ t9)) ?_ ?_⟩
    · rintro i x acc _ H10 hi ⟨rfl, s10⟩ hA10 hl10 ⟨rfl, hx⟩
      obtain ⟨q, y, rfl, hy, hq⟩ := ArS.get (w9.same s10) hx
      refine ⟨q, _, rfl, SqT.of hq, rfl, _, _, rfl, _, _, rfl, _, _, rfl, _, _, rfl, rfl, rfl, ?_⟩
      refine ⟨_, rfl, LcP.put (fun i acc H' o h => ⟨h.1, same_mut h.2 hD⟩) hA10 hl10 (by omega) ⟨?_, s10⟩⟩
      rw [List.take_add_one, hy, List.map_append]
      rfl
    · rintro acc H10 ⟨rfl, s10⟩ hA10 hl10
      rw [wl, List.take_length] at hA10
      have hA10' : SqL K H10 D ((ys.map Arw.l).map V.str) := by
        refine SqL.of (hA10.trans ?_)
        rw [List.map_map]
        rfl
      refine ⟨D, ys.map Arw.l, rfl, .inl hA10', by rw [List.length_map]; omega, fun q5 lo H11 f11 h11 hlo hlo2 hll s11 => ?_⟩
      obtain ⟨u5, h11, z11⟩ := h11
      have m11 := s11 _ _ (s10 _ _ m9)
      have n5m : q5 ≠ m := ne_of h11 m11 (fun z => z11.nins _ _ _ z)
      refine ⟨_, rfl, m, kl.Machine, dx, _, rfl, m11, T.cl_Machine, T.n_Machine_held_letters, Nat.le_of_ble_eq_true rfl, ?_⟩
      rw [putf4]
      have xf : Ext m H3 (upd H11 m (.ins kl.Machine dx [(("held_arrows" : PySem.Str), V.ref q1), (("held_starts" : PySem.Str), V.ref q3), (("held_ends" : PySem.Str), V.ref q4), (("held_states" : PySem.Str), V.ref q2), (("held_letters" : PySem.Str), V.ref q5)])) :=
        (x39.trans (Same.ext (s10.trans s11))).trans But.upd.ext
      have x5f : ∀ q o, q ≠ m → H5 q = some o → (upd H11 m (.ins kl.Machine dx [(("held_arrows" : PySem.Str), V.ref q1), (("held_starts" : PySem.Str), V.ref q3), (("held_ends" : PySem.Str), V.ref q4), (("held_states" : PySem.Str), V.ref q2), (("held_letters" : PySem.Str), V.ref q5)])) q = some o := fun q o n h => by
        rw [upd_ne n]
        refine s11 _ _ (s10 _ _ ?_)
        rw [← hH9, upd_ne n, upd_ne n]
        exact s7 _ _ ((upd_ne n).trans h)
      have x7f : ∀ q o, q ≠ m → H7 q = some o → (upd H11 m (.ins kl.Machine dx [(("held_arrows" : PySem.Str), V.ref q1), (("held_starts" : PySem.Str), V.ref q3), (("held_ends" : PySem.Str), V.ref q4), (("held_states" : PySem.Str), V.ref q2), (("held_letters" : PySem.Str), V.ref q5)])) q = some o := fun q o n h => by
        rw [upd_ne n]
        refine s11 _ _ (s10 _ _ ?_)
        rw [← hH9, upd_ne n, upd_ne n]
        exact h
      refine k ⟨ys, so, eo, os, lo⟩ _ ⟨dx, q1, q3, q4, q2, q5, ws, ⟨upd_same, xf _ _ n1m (s3 _ _ h2), ?_, ⟨u3, x5f _ _ n3m h5, z5⟩, ⟨u4, x7f _ _ n4m h7, z7⟩, ⟨u2, xf _ _ n2m h3, z3⟩, ⟨u5, (upd_ne n5m).trans h11, z11⟩⟩⟩ ⟨hC, ⟨hs, hs2⟩, ⟨hq, hq2⟩, ⟨ho, ho2⟩, ⟨hlo, fun k => ?_⟩⟩ fun q o n h => xf q o n (S3 q o h)
      · exact Paired.mapP hW fun v x ⟨q, ev, hq⟩ => ⟨q, ev, xf _ _ (ne_of (s3 _ _ hq) m3 (by intro z; cases z)) (s3 _ _ hq)⟩
      · rw [hlo2]
        simp only [List.mem_map]
        exact ⟨fun ⟨x, hx, e⟩ => ⟨x, hx, e.symm⟩, fun ⟨x, hx, e⟩ => ⟨x, hx, e.symm⟩⟩

end
end Pf

namespace Pf
open PySem PySem.Spec PyProof.Rows L2 Bz
local macro_rules | `(tactic| walk_at "sd") => `(tactic| first
  | rfl | assumption | omega | exact Nat.le_of_ble_eq_true rfl | decide | (refine Or.inl (And.intro ?_ ?_) <;> omega) | (refine Or.inr (And.intro ?_ ?_) <;> omega) | (refine And.intro ?_ ?_ <;> omega) | (refine ⟨?_, ?_, ?_⟩ <;> omega))
local macro_rules | `(tactic| walk_at "sq") => `(tactic| first | assumption | exact SqL.of (by assumption) | exact SqT.of (by assumption) | exact SqL.of upd_same | exact SqT.of upd_same)
local macro_rules | `(tactic| walk_at "hp") => `(tactic| first | assumption | exact upd_same)
local macro_rules | `(tactic| walk_at "rd") => `(tactic| repeat (first
  | (refine ⟨_, rfl, ?_⟩) | (refine ⟨_, _, rfl, rfl, ?_⟩) | (refine ⟨rfl, ?_⟩) | (refine And.intro (by walk_at "sd") ?_)
  | (refine ⟨_, _, _, _, rfl, rfl, (by walk_at "sq"), rfl, ?_⟩)
  | (refine ⟨_, _, _, _, rfl, rfl, (by walk_at "hp"), rfl, ?_⟩)
  | (refine Or.inl ⟨_, rfl, ?_⟩)))
section
variable {P : Program} {w : World} {K : PySem.W.Frag} {mg : PySem.Str → Option Value} {base : Heap} {kl : Cl}
theorem ok_least (T : Facts K mg kl) : Keeps P w K mg base CX0 1 "least" ["prices", "states"] (spLeast K) := by
  refine keeps0 T.d_least sc_least (fun vs H Q E h => ?_) (fun f cdv A outer s H vs Q E hr h => ?_)
  · obtain ⟨d, t, kvs, f, es, rfl, _⟩ := h
    rfl
  · obtain ⟨d, t, kvs, g, es, rfl, hd, hg, ht, hl, k⟩ := h
    refine ⟨_, (pss_one (ps_ret (pe_minD K rfl hr.units (by rfl) T.b_min (pe_lc (own := [("state", 2)]) (g := gName 2) rfl sc_least.nd (pi_or (kpi_list K (pv 1)) (kpi_tup K (pv 1))) (blkOk_by (own := [("state", 2)]) (N := N_least) (sc := defScope s_least) (by decide +kernel)) (fun _ _ _ _ _ => (pg_name (i := 2) sc_least.nd rfl (Or.inl rfl))) (fun _ _ _ _ _ => pts_one (pt_cmp (pc_din (hu_of hr) (pv 2) (pv 0)))) (fun _ _ _ _ _ => (pe_dget (hu_of hr) (pv 0) (pv 2) (fun _ _ => rfl))))))), ?_⟩
    rcases ht with ht | ht
    · refine Or.inl ⟨_, rfl, t, rfl, ⟨_, ht⟩, fun D hD => lcA walk_list (fun i acc H' => acc = ((es.take i).filterMap g).map V.int ∧ Same H H') ⟨rfl, .refl H⟩ (fun i acc H' o h => ⟨h.1, same_mut h.2 hD⟩) (fun i acc H' _ h => h.2.seq ht) ?_ ?_⟩
      · rintro i x acc _ H1 hi ⟨rfl, hs⟩ hA hl1 ⟨rfl, hx⟩
        obtain ⟨u, rfl, hu⟩ := map_str hx
        have tk : es.take (i + 1) = es.take i ++ [u] := by rw [List.take_add_one, hu]; rfl
        have gu : DGet H1 d (.str u) (valV kvs (.inr u)) := DGet.k (k := .inr u) (hs _ _ hd)
        have eu := hg u
        refine ⟨rfl, _, rfl, _, rfl, d, _, rfl, gu, ?_⟩
        cases hgu : g u with
        | none =>
          rw [hgu] at eu
          rw [eu]
          refine ⟨_, rfl, iteF (LcP.skip hA hl1 ⟨?_, hs⟩)⟩
          rw [tk, List.filterMap_append]
          simp [hgu]
        | some n =>
          rw [hgu] at eu
          rw [eu] at gu ⊢
          refine ⟨_, rfl, iteT ⟨_, rfl, _, rfl, d, .int n, rfl, gu, LcP.put (fun i acc H' o h => ⟨h.1, same_mut h.2 hD⟩) hA hl1 (by rw [List.length_map] at hi; omega) ⟨?_, hs⟩⟩⟩
          rw [tk, List.filterMap_append]
          simp [hgu]
      · rintro acc H1 ⟨rfl, hs⟩ hA hl1
        rw [List.length_map, List.take_length] at hA
        refine ⟨D, es.filterMap g, rfl, SqL.of hA, fun o ho => k o _ (ho.iff fun n => List.mem_filterMap) hs⟩
    · refine Or.inr ⟨_, rfl, t, rfl, ⟨_, ht⟩, fun D hD => lcA walk_tup (fun i acc H' => acc = ((es.take i).filterMap g).map V.int ∧ Same H H') ⟨rfl, .refl H⟩ (fun i acc H' o h => ⟨h.1, same_mut h.2 hD⟩) (fun i acc H' _ h => sqt_same h.2 ht) ?_ ?_⟩
      · rintro i x acc _ H1 hi ⟨rfl, hs⟩ hA hl1 ⟨rfl, hx⟩
        obtain ⟨u, rfl, hu⟩ := map_str hx
        have tk : es.take (i + 1) = es.take i ++ [u] := by rw [List.take_add_one, hu]; rfl
        have gu : DGet H1 d (.str u) (valV kvs (.inr u)) := DGet.k (k := .inr u) (hs _ _ hd)
        have eu := hg u
        refine ⟨rfl, _, rfl, _, rfl, d, _, rfl, gu, ?_⟩
        cases hgu : g u with
        | none =>
          rw [hgu] at eu
          rw [eu]
          refine ⟨_, rfl, iteF (LcP.skip hA hl1 ⟨?_, hs⟩)⟩
          rw [tk, List.filterMap_append]
          simp [hgu]
        | some n =>
          rw [hgu] at eu
          rw [eu] at gu ⊢
          refine ⟨_, rfl, iteT ⟨_, rfl, _, rfl, d, .int n, rfl, gu, LcP.put (fun i acc H' o h => ⟨h.1, same_mut h.2 hD⟩) hA hl1 (by rw [List.length_map] at hi; omega) ⟨?_, hs⟩⟩⟩
          rw [tk, List.filterMap_append]
          simp [hgu]
      · rintro acc H1 ⟨rfl, hs⟩ hA hl1
        rw [List.length_map, List.take_length] at hA
        refine ⟨D, es.filterMap g, rfl, SqL.of hA, fun o ho => k o _ (ho.iff fun n => List.mem_filterMap) hs⟩

end
end Pf

namespace Pf
open PySem PySem.Spec PyProof.Rows L2 Bz
local macro_rules | `(tactic| walk_at "sd") => `(tactic| first
  | rfl | assumption | omega | exact Nat.le_of_ble_eq_true rfl | decide | (refine Or.inl (And.intro ?_ ?_) <;> omega) | (refine Or.inr (And.intro ?_ ?_) <;> omega) | (refine And.intro ?_ ?_ <;> omega) | (refine ⟨?_, ?_, ?_⟩ <;> omega))
local macro_rules | `(tactic| walk_at "sq") => `(tactic| first | assumption | exact SqL.of (by assumption) | exact SqT.of (by assumption) | exact SqL.of upd_same | exact SqT.of upd_same)
local macro_rules | `(tactic| walk_at "hp") => `(tactic| first | assumption | exact upd_same)
local macro_rules | `(tactic| walk_at "rd") => `(tactic| repeat (first
  | (refine ⟨_, rfl, ?_⟩) | (refine ⟨_, _, rfl, rfl, ?_⟩) | (refine ⟨rfl, ?_⟩) | (refine And.intro (by walk_at "sd") ?_)
  | (refine ⟨_, _, _, _, rfl, rfl, (by walk_at "sq"), rfl, ?_⟩)
  | (refine ⟨_, _, _, _, rfl, rfl, (by walk_at "hp"), rfl, ?_⟩)
  | (refine Or.inl ⟨_, rfl, ?_⟩)))
section
variable {P : Program} {w : World} {K : PySem.W.Frag} {mg : PySem.Str → Option Value} {base : Heap} {kl : Cl}
theorem ok_advance (T : Facts K mg kl) : Keeps P w K mg base CX0 1 "advance" ["prices", "moves"] (spAdv K) := by
  refine keeps0 T.d_advance sc_advance (fun vs H Q E h => ?_) (fun f cdv A outer s H vs Q E hr h => ?_)
  · obtain ⟨d, a, kvs, f, us, mv, rfl, _⟩ := h
    rfl
  · obtain ⟨d, a, kvs, g, us, mv, rfl, hd, hg, ha, hM, hl, k⟩ := h
    refine ⟨_, (pss_cons (ps_set (i := 2) sc_advance.nd rfl (Or.inl rfl) pe_dnewK)
  (pss_cons (ps_for PassesOwn.never rfl (kpi_list K (pv 1)) (kpg_tup K rfl (pgs_cons (pg_name (i := 3) sc_advance.nd rfl (Or.inl rfl)) (pgs_cons (pg_name (i := 4) sc_advance.nd rfl (Or.inl rfl)) (pgs_cons (pg_name (i := 5) sc_advance.nd rfl (Or.inl rfl)) pgs_nil))))
  (pss_one (ps_if (pt_cmp (pc_din (hu_of hr) (pv 3) (pv 0)))
  (pss_cons (ps_set (i := 6) sc_advance.nd rfl (Or.inl rfl) (pe_op op_add (pe_dget (hu_of hr) (pv 0) (pv 3) (fun _ _ => rfl)) (pv 5)))
  (pss_one (ps_dput (hu_of hr) (pv 2) (pv 4) (pe_callB (call_min2 rfl) (by rfl) T.b_min (by decide +kernel) (pa_cons (pv 6) (pa_cons (pe_dget2 (hu_of hr) (pv 2) (pv 4) (pv 6) ⟨rfl, rfl, rfl, rfl⟩) pa_nil))) rfl)))
  pss_nil)))
  (pss_one (ps_ret (pv 2))))), ?_⟩
    have hul : us.length = mv.length := Paired.length hM
    refine fun r hr0 => ?_
    have s0 : Same H (upd H r (.dK [])) := same_new hr0
    refine ⟨_, rfl, a, rfl, ⟨_, s0.seq ha⟩, for_list (K := K) (a := a) (xs := us) (fun i σ H' => ∃ (v1 v2 v3 v4 : Option V) (ws : List (Ky × V)), σ = [some (.ref d), some (.ref a), some (.ref r), v1, v2, v3, v4] ∧ H' r = some (.dK ws) ∧ Same H H' ∧ Holds1 ws (adv g (mv.take i)) ∧ ws.length ≤ i) ?_ (fun i σ H' _ ⟨_, _, _, _, _, _, _, hs, _⟩ => hs.seq ha) ?_ ?_⟩
    · exact ⟨_, _, _, _, [], rfl, upd_same, s0, fun q => rfl, Nat.le_refl _⟩
    · rintro i y σ H1 hi ⟨v1, v2, v3, v4, ws, rfl, h1, hs, hw, hlen⟩
      obtain ⟨m, hm, q, rfl, hq⟩ := paired_get hM hi
      have hi' : i < us.length := (List.getElem?_eq_some_iff.mp hi).1
      have tk : mv.take (i + 1) = mv.take i ++ [m] := by rw [List.take_add_one, hm]; rfl
      refine ⟨q, _, rfl, SqT.of (hs _ _ hq), rfl, _, _, rfl, _, _, rfl, _, _, rfl, rfl, ?_⟩
      have gu : DGet H1 d (.str m.1) (valV kvs (.inr m.1)) := DGet.k (k := .inr m.1) (hs _ _ hd)
      have eu := hg m.1
      refine ⟨_, rfl, _, rfl, d, _, rfl, gu, ?_⟩
      cases hgu : g m.1 with
      | none =>
        rw [hgu] at eu
        rw [eu]
        refine ⟨_, rfl, iteF ⟨_, _, _, _, ws, rfl, h1, hs, ?_, by omega⟩⟩
        rw [tk, adv_snoc]
        unfold advS
        rw [hgu]
        exact hw
      | some n =>
        rw [hgu] at eu
        rw [eu] at gu ⊢
        refine ⟨_, rfl, iteT ?_⟩
        refine ⟨_, rfl, _, rfl, d, .int n, rfl, gu, _, rfl, _, _, rfl, rfl, ?_⟩
        have g2 : DGet H1 r (.str m.2.1) (valV ws (.inr m.2.1)) := DGet.k (k := .inr m.2.1) h1
        refine ⟨_, rfl, _, rfl, r, rfl, .inl ⟨_, .inl h1⟩, _, rfl, _, rfl, _, g2, ?_⟩
        have e2 : (valV ws (.inr m.2.1)).getD (V.int (n + m.2.2)) = .int ((adv g (mv.take i) m.2.1).getD (n + m.2.2)) := by
          rw [hw m.2.1]
          cases adv g (mv.take i) m.2.1 <;> rfl
        refine ⟨_, _, congrArg (fun z => [V.int (n + m.2.2), z]) e2, ?_⟩
        have dp : DPut H1 r (.str m.2.1) (.int (if (adv g (mv.take i) m.2.1).getD (n + m.2.2) < n + m.2.2 then (adv g (mv.take i) m.2.1).getD (n + m.2.2) else n + m.2.2)) _ := DPut.k (k := .inr m.2.1) h1 (Nat.lt_of_le_of_lt hlen (Nat.lt_of_lt_of_le (show i < 1000 by omega) (by decide)))
        refine ⟨_, rfl, _, rfl, r, _, rfl, dp, ?_⟩
        refine ⟨_, _, _, _, _, rfl, upd_same, same_mut hs hr0, fun k => ?_, ?_⟩
        · rw [valV_put, tk, adv_snoc]
          unfold advS
          rw [hgu]
          simp only
          by_cases e : k = m.2.1
          · rw [e, if_pos rfl, if_pos rfl]
            rfl
          · rw [if_neg (fun z => e (Sum.inr.inj z)), if_neg e]
            exact hw k
        · have := length_putK ws (.inr m.2.1) (.int (if (adv g (mv.take i) m.2.1).getD (n + m.2.2) < n + m.2.2 then (adv g (mv.take i) m.2.1).getD (n + m.2.2) else n + m.2.2))
          omega
    · rintro σ H1 ⟨v1, v2, v3, v4, ws, rfl, h1, hs, hw, hlen⟩
      rw [hul, List.take_length] at hw
      exact ⟨_, rfl, k r ws H1 hr0 h1 hw hs⟩

end
end Pf

namespace Pf
open PySem PySem.Spec PyProof.Rows L2 Bz
local macro_rules | `(tactic| walk_at "sd") => `(tactic| first
  | rfl | assumption | omega | exact Nat.le_of_ble_eq_true rfl | decide | (refine Or.inl (And.intro ?_ ?_) <;> omega) | (refine Or.inr (And.intro ?_ ?_) <;> omega) | (refine And.intro ?_ ?_ <;> omega) | (refine ⟨?_, ?_, ?_⟩ <;> omega))
local macro_rules | `(tactic| walk_at "sq") => `(tactic| first | assumption | exact SqL.of (by assumption) | exact SqT.of (by assumption) | exact SqL.of upd_same | exact SqT.of upd_same)
local macro_rules | `(tactic| walk_at "hp") => `(tactic| first | assumption | exact upd_same)
local macro_rules | `(tactic| walk_at "rd") => `(tactic| repeat (first
  | (refine ⟨_, rfl, ?_⟩) | (refine ⟨_, _, rfl, rfl, ?_⟩) | (refine ⟨rfl, ?_⟩) | (refine And.intro (by walk_at "sd") ?_)
  | (refine ⟨_, _, _, _, rfl, rfl, (by walk_at "sq"), rfl, ?_⟩)
  | (refine ⟨_, _, _, _, rfl, rfl, (by walk_at "hp"), rfl, ?_⟩)
  | (refine Or.inl ⟨_, rfl, ?_⟩)))
section
variable {P : Program} {w : World} {K : PySem.W.Frag} {mg : PySem.Str → Option Value} {base : Heap} {kl : Cl}
theorem ok_moves_by_letter (T : Facts K mg kl) : Keeps P w K mg base CX0 3 "moves_by_letter" ["machine"] (spMoves K kl.Machine) := by
  refine keeps0 T.d_moves_by_letter sc_moves_by_letter (fun vs H Q E h => ?_) (fun f cdv A outer s H vs Q E hr h => ?_)
  · obtain ⟨m, M, rfl, _⟩ := h
    rfl
  · obtain ⟨m, M, rfl, hM, hG, k⟩ := h
    refine ⟨_, (pss_cons (ps_setDc (i := 2) (own := [("letter", 1)]) (g := gName 1) (tt := tYes) rfl sc_moves_by_letter.nd rfl rfl (swD_true rfl rfl rfl (by decide +kernel)) (kpi_tup K (pe_pr (pv 0) hr T.cl_Machine T.p_Machine_letters T.n_Machine_held_letters sc_Machine_letters)) (blkOk_by (own := [("letter", 1)]) (N := N_moves_by_letter) (sc := defScope s_moves_by_letter) (by decide +kernel)) (fun _ _ _ _ _ => (pg_name (i := 1) sc_moves_by_letter.nd rfl (Or.inl rfl))) (fun _ _ _ _ _ => pts_nil) (fun _ _ _ _ _ => (pv 1)) (fun _ _ _ _ _ => (pe_lst pa_nil)))
  (pss_cons (ps_for PassesOwn.never rfl (kpi_tup K (pe_pr (pv 0) hr T.cl_Machine T.p_Machine_arrows T.n_Machine_held_arrows sc_Machine_arrows)) (kpg_tup K rfl (pgs_cons (pg_name (i := 3) sc_moves_by_letter.nd rfl (Or.inl rfl)) (pgs_cons (pg_name (i := 1) sc_moves_by_letter.nd rfl (Or.inl rfl)) (pgs_cons (pg_name (i := 4) sc_moves_by_letter.nd rfl (Or.inl rfl)) (pgs_cons (pg_name (i := 5) sc_moves_by_letter.nd rfl (Or.inl rfl)) pgs_nil)))))
  (pss_one (ps_expr (kbm K PySem.F.plainAttrs_list PySem.F.slot_list_append PySem.F.type_list_append mt_append (pe_dget (hu_of hr) (pv 2) (pv 1) (fun _ _ => rfl)) (pa_cons (pe_tup (pa_cons (pv 3) (pa_cons (pv 4) (pa_cons (pv 5) pa_nil)))) pa_nil)))))
  (pss_one (ps_ret (pv 2))))), ?_⟩
    obtain ⟨dx, t1, t2, t3, t4, t5, ws, hM⟩ := hM
    refine ⟨_, rfl, m, dx, _, rfl, hM.ins, m, dx, _, _, rfl, hM.ins, mfs5 .., t5, rfl, ⟨_, hM.a5.sq⟩, fun D hD => ?_⟩
    refine dc_it walk_tup (fun i H' => ∃ ps : List (PySem.Str × Addr), MvInv H H' D ps (fun _ => []) ∧ ps.map (·.1) = M.lets.take i) ⟨[], ⟨upd_same, .nil, fun p hp => (by cases hp), same_new hD, hD⟩, rfl⟩ (fun i H' _ ⟨ps, h, _⟩ => (hM.a5.on h.same).sq) ?_ ?_
    · rintro i x H1 _ hi ⟨ps, hI, hps⟩ ⟨rfl, hx⟩
      obtain ⟨l, rfl, hl⟩ := map_str hx
      refine ⟨rfl, _, rfl, Nat.zero_le _, fun q hq => ?_⟩
      have nq : D ≠ q := ne_of_none hI.d hq
      have hi' : i < M.lets.length := by rw [List.length_map] at hi; exact hi
      have pl : ps.length = i := by
        have q := congrArg List.length hps
        rw [List.length_map, List.length_take] at q
        omega
      have hll := hG.ll
      refine ⟨ps.map pk, .inr l, rfl, (upd_ne nq).trans hI.d, by rw [List.length_map]; exact Nat.lt_of_lt_of_le (show ps.length < 1000 by omega) (by decide), ps ++ [(l, q)], hI.put ?_ hq, ?_⟩
      · rw [hps]
        have q1 := hG.nd.sublist (List.take_sublist (i + 1) M.lets)
        rw [List.take_add_one, hl] at q1
        exact fun hm => (List.nodup_append.mp q1).2.2 l hm l (List.mem_singleton.mpr rfl) rfl
      · rw [List.map_append, hps, List.take_add_one, hl]
        rfl
    · rintro H1 ⟨ps, hI, hps⟩
      rw [List.length_map, List.take_length] at hps
      have hnd : (ps.map (·.1)).Nodup := by rw [hps]; exact hG.nd
      have wl : ws.length = M.ars.length := Paired.length hM.as
      refine ⟨_, rfl, m, dx, _, rfl, hI.same _ _ hM.ins, m, dx, _, _, rfl, hI.same _ _ hM.ins, mfs1 .., t1, rfl, ⟨_, SqT.of (hI.same _ _ hM.a1)⟩, ?_⟩
      refine for_tup (K := K) (a := t1) (xs := ws) (fun i σ H' => ∃ (v1 v2 v3 v4 : Option V), σ = [some (.ref m), v1, some (.ref D), v2, v3, v4] ∧ MvInv H H' D ps fun l => ((M.ars.take i).filter fun x => decide (x.l = l)).map mvOf) ⟨_, _, _, _, rfl, hI⟩ (fun i σ H' _ ⟨_, _, _, _, _, h⟩ => SqT.of (h.same _ _ hM.a1)) ?_ ?_
      · rintro i y σ H2 hi ⟨v1, v2, v3, v4, rfl, hJ⟩
        obtain ⟨q, x, rfl, hx, hq⟩ := ArS.get hM.as hi
        have hlm : x.l ∈ ps.map (·.1) := by rw [hps]; exact hG.all x (List.mem_of_getElem? hx)
        obtain ⟨p, us, hp, hval, hpu, hmv⟩ := hJ.val hnd hlm
        have hi' : i < M.ars.length := (List.getElem?_eq_some_iff.mp hx).1
        have hal := hG.al
        refine ⟨q, _, rfl, SqT.of (hJ.same _ _ hq), rfl, _, _, rfl, _, _, rfl, _, _, rfl, _, _, rfl, rfl, ?_⟩
        have gd : DGet H2 D (.str x.l) (some (.ref p)) := by
          rw [← hval]
          exact DGet.k (k := .inr x.l) hJ.d
        refine ⟨_, rfl, _, rfl, D, .ref p, rfl, gd, .inl ⟨rfl, _, SqL.of hpu⟩, ?_⟩
        refine ⟨_, rfl, _, rfl, _, rfl, Nat.le_of_ble_eq_true rfl, fun t ht => ?_⟩
        have ntp : p ≠ t := ne_of_none hpu ht
        have ul : us.length ≤ i := by
          rw [Paired.length hmv, List.length_map]
          refine Nat.le_trans (List.length_filter_le _ _) ?_
          rw [List.length_take]
          omega
        refine ⟨p, us, _, rfl, rfl, (upd_ne ntp).trans hpu, Nat.lt_of_le_of_lt (show us.length ≤ 500 by omega) (by decide), ?_⟩
        refine ⟨_, _, _, _, rfl, ?_⟩
        have q2 := hJ.add (m := mvOf x) hnd hp hpu hmv ht
        refine cast (congrArg (MvInv H _ D ps) (funext fun l => ?_)) q2
        rw [List.take_add_one, hx]
        show (if l = x.l then _ else _) = ((M.ars.take i ++ [x]).filter fun x => decide (x.l = l)).map mvOf
        rw [List.filter_append, List.map_append]
        by_cases e : l = x.l
        · subst e
          rw [if_pos rfl]
          simp
        · have z : ([x].filter fun y => decide (y.l = l)) = [] := by
            rw [List.filter_cons_of_neg (by intro c; exact e (of_decide_eq_true c).symm)]
            rfl
          rw [if_neg e, z, List.map_nil, List.append_nil]
      · rintro σ H2 ⟨v1, v2, v3, v4, rfl, hJ⟩
        rw [wl, List.take_length] at hJ
        refine ⟨_, rfl, k D (ps.map pk) H2 hD hJ.d (fun l => ?_) hJ.same⟩
        by_cases hl : l ∈ ps.map (·.1)
        · obtain ⟨q, us, _, h1, h2, h3⟩ := hJ.val hnd hl
          exact .inr ⟨q, us, h1, SqL.of h2, h3⟩
        · refine .inl ⟨valV_none fun c => hl (pk_mem.mp c), fun x hx e => hl ?_⟩
          rw [hps, ← e]
          exact hG.all x hx

end
end Pf

namespace Pf
open PySem PySem.Spec PyProof.Rows L2 Bz
local macro_rules | `(tactic| walk_at "sd") => `(tactic| first
  | rfl | assumption | omega | exact Nat.le_of_ble_eq_true rfl | decide | (refine Or.inl (And.intro ?_ ?_) <;> omega) | (refine Or.inr (And.intro ?_ ?_) <;> omega) | (refine And.intro ?_ ?_ <;> omega) | (refine ⟨?_, ?_, ?_⟩ <;> omega))
local macro_rules | `(tactic| walk_at "sq") => `(tactic| first | assumption | exact SqL.of (by assumption) | exact SqT.of (by assumption) | exact SqL.of upd_same | exact SqT.of upd_same)
local macro_rules | `(tactic| walk_at "hp") => `(tactic| first | assumption | exact upd_same)
local macro_rules | `(tactic| walk_at "rd") => `(tactic| repeat (first
  | (refine ⟨_, rfl, ?_⟩) | (refine ⟨_, _, rfl, rfl, ?_⟩) | (refine ⟨rfl, ?_⟩) | (refine And.intro (by walk_at "sd") ?_)
  | (refine ⟨_, _, _, _, rfl, rfl, (by walk_at "sq"), rfl, ?_⟩)
  | (refine ⟨_, _, _, _, rfl, rfl, (by walk_at "hp"), rfl, ?_⟩)
  | (refine Or.inl ⟨_, rfl, ?_⟩)))
section
variable {P : Program} {w : World} {K : PySem.W.Frag} {mg : PySem.Str → Option Value} {base : Heap} {kl : Cl}
theorem ok_follow (T : Facts K mg kl) : Keeps P w K mg base CX0 4 "follow" ["machine", "row", "starts"] (spFollow K kl.Machine) := by
  refine keeps0 T.d_follow sc_follow (fun vs H Q E h => ?_) (fun f cdv A outer s H vs Q E hr h => ?_)
  · obtain ⟨m, t, M, row, ss, rfl, _⟩ := h
    rfl
  · obtain ⟨m, t, M, row, ss, rfl, hM, hG, ht, hl, k⟩ := h
    refine ⟨_, (pss_cons (ps_set (i := 3) sc_follow.nd rfl (Or.inl rfl) (pe_own (ok_moves_by_letter T) hr (pa_cons (pv 0) pa_nil)))
  (pss_cons (ps_setDc (i := 4) (own := [("state", 6)]) (g := gName 6) (tt := tYes) rfl sc_follow.nd rfl rfl (swD_true rfl rfl rfl (by decide +kernel)) (pi_or (kpi_list K (pv 2)) (kpi_tup K (pv 2))) (blkOk_by (own := [("state", 6)]) (N := N_follow) (sc := defScope s_follow) (by decide +kernel)) (fun _ _ _ _ _ => (pg_name (i := 6) sc_follow.nd rfl (Or.inl rfl))) (fun _ _ _ _ _ => pts_nil) (fun _ _ _ _ _ => (pv 6)) (fun _ _ _ _ _ => pe_int))
  (pss_cons (ps_for PassesOwn.never rfl (pi_str (pv 1)) (pg_name (i := 5) sc_follow.nd rfl (Or.inl rfl))
  (pss_one (ps_set (i := 4) sc_follow.nd rfl (Or.inl rfl) (pe_own (ok_advance T) hr (pa_cons (pv 4) (pa_cons (pe_dget2 (hu_of hr) (pv 3) (pv 5) (pe_lst pa_nil) ⟨rfl, rfl, rfl, rfl⟩) pa_nil))))))
  (pss_one (ps_ret (pv 4)))))), ?_⟩
    refine ⟨_, rfl, m, M, rfl, hM, hG, fun D kvs H1 hD h1 hMv s1 => ?_⟩
    have rest : ∀ (d : Addr) (H2 : Hp) (ws : List (Ky × V)), H2 d = some (.dK ws) → Same H1 H2 → Holds1 ws (fun q => if q ∈ ss then some 0 else none) →
        tSeq (tFor (iStr (tVar 1)) (gName 5) (tAsg (tCall (spAdv K) [] E0 (tCons (tVar 4) (tCons (tDGet2 (tVar 3) (tVar 5) (tLst tNil)) tNil))) (gName 4))) (tRet (tVar 4)) { nx := fun x H' => Q V.non H', rt := Q }
          [some (.ref m), some (.str row), some (.ref t), some (.ref D), some (.ref d), none, none] H2 := by
      intro d H2 ws h2 s2 hw
      refine ⟨_, rfl, row, rfl, for_it walk_str (fun i σ H' => ∃ (v5 v6 : Option V) (e : Addr) (us : List (Ky × V)) (g : PySem.Str → Option Int), σ = [some (.ref m), some (.str row), some (.ref t), some (.ref D), some (.ref e), v5, v6] ∧ H' e = some (.dK us) ∧ Holds1 us g ∧
        (∀ q, LeastO (Rch M.ars ss ((sgnL row).take i) q) (g q)) ∧ Same H1 H') ⟨_, _, d, ws, _, rfl, h2, hw, fun q => ?_, s2⟩ (fun _ _ _ _ _ => trivial) ?_ ?_⟩
      · show LeastO (Rch M.ars ss [] q) (if q ∈ ss then some 0 else none)
        by_cases c : q ∈ ss
        · rw [if_pos c]
          exact ⟨reach_nil.mpr ⟨c, rfl⟩, fun n hn => by rw [(reach_nil.mp hn).2]; exact Int.le_refl _⟩
        · rw [if_neg c]
          exact fun n hn => c (reach_nil.mp hn).1
      · rintro i x σ _ H3 hi ⟨v5, v6, e, us, g, rfl, h3, hg, hr3, s3⟩ ⟨rfl, c, hc, rfl⟩
        have h1' := s3 _ _ h1
        refine ⟨_, rfl, _, rfl, D, rfl, .inl ⟨_, .inl h1'⟩, _, rfl, Nat.zero_le _, fun q hq => ?_⟩
        have s4 : Same H3 (upd H3 q (.lst [])) := same_new hq
        obtain ⟨a, vs, mv, ea, ha, hmv, emv⟩ : ∃ (a : Addr) (vs : List V) (mv : List Mv), (valV kvs (.inr (⟨#[c]⟩ : PySem.Str))).getD (.ref q) = .ref a ∧ SqL K (upd H3 q (.lst [])) a vs ∧ MvS (upd H3 q (.lst [])) vs mv ∧ mv = (M.ars.filter fun x => decide (x.l = (⟨#[c]⟩ : PySem.Str))).map mvOf := by
          rcases hMv (⟨#[c]⟩ : PySem.Str) with ⟨z1, z2⟩ | ⟨a, vs, z1, z2, z3⟩
          · refine ⟨q, [], [], by rw [z1]; rfl, SqL.of upd_same, .nil, ?_⟩
            rw [List.filter_eq_nil_iff.mpr fun x hx z => z2 x hx (of_decide_eq_true z)]
            rfl
          · exact ⟨a, vs, _, by rw [z1]; rfl, (s3.trans s4).seq z2, z3.same (s3.trans s4), rfl⟩
        refine ⟨_, DGet.k (k := .inr (⟨#[c]⟩ : PySem.Str)) (s4 _ _ h1'), ?_⟩
        refine ⟨e, a, us, g, vs, mv, congrArg (fun z => [V.ref e, z]) ea, s4 _ _ h3, hg, ha, hmv, ?_, fun e' us' H5 f5 h5 hg5 s5 => ?_⟩
        · rw [emv, List.length_map]
          have := List.length_filter_le (fun x => decide (x.l = (⟨#[c]⟩ : PySem.Str))) M.ars
          have := hG.al
          omega
        · refine ⟨_, _, e', us', _, rfl, h5, hg5, fun q => ?_, (s3.trans s4).trans s5⟩
          rw [List.take_add_one, sgnL_at hc, emv]
          exact adv_reach hr3 q
      · rintro σ H3 ⟨v5, v6, e, us, g, rfl, h3, hg, hr3, s3⟩
        rw [← sgnL_len, List.take_length] at hr3
        exact ⟨_, rfl, k e us g H3 h3 hg hr3 (s1.trans s3)⟩
    rcases ht with ht | ht
    · refine Or.inl ⟨_, rfl, t, rfl, ⟨_, s1.seq ht⟩, fun d hd => dc_it walk_list (fun i H' => ∃ ws : List (Ky × V), H' d = some (.dK ws) ∧ Same H1 H' ∧ Holds1 ws (fun q => if q ∈ ss.take i then some 0 else none) ∧ ws.length ≤ i) ⟨[], upd_same, same_new hd, fun q => by simp [valV], Nat.le_refl _⟩ (fun i H' _ ⟨ws, _, h, _⟩ => h.seq (s1.seq ht)) ?_ ?_⟩
      · rintro i x H2 _ hi ⟨ws, h2, hs, hw, hlen⟩ ⟨rfl, hx⟩
        obtain ⟨u, rfl, hu⟩ := map_str hx
        rw [List.length_map] at hi
        refine ⟨rfl, _, rfl, ws, .inr u, rfl, h2, Nat.lt_of_le_of_lt (show ws.length ≤ 1000 by omega) (by decide), _, upd_same, same_mut hs hd, fun q => ?_, ?_⟩
        · rw [valV_put, hw q, List.take_add_one, hu]
          by_cases e : q = u
          · subst e
            simp
          · rw [if_neg (fun z => e (Sum.inr.inj z))]
            simp [e]
        · have := length_putK ws (.inr u) (.int 0)
          omega
      · rintro H2 ⟨ws, h2, hs, hw, _⟩
        rw [List.length_map, List.take_length] at hw
        exact rest d H2 ws h2 hs hw
    · refine Or.inr ⟨_, rfl, t, rfl, ⟨_, sqt_same s1 ht⟩, fun d hd => dc_it walk_tup (fun i H' => ∃ ws : List (Ky × V), H' d = some (.dK ws) ∧ Same H1 H' ∧ Holds1 ws (fun q => if q ∈ ss.take i then some 0 else none) ∧ ws.length ≤ i) ⟨[], upd_same, same_new hd, fun q => by simp [valV], Nat.le_refl _⟩ (fun i H' _ ⟨ws, _, h, _⟩ => sqt_same h (sqt_same s1 ht)) ?_ ?_⟩
      · rintro i x H2 _ hi ⟨ws, h2, hs, hw, hlen⟩ ⟨rfl, hx⟩
        obtain ⟨u, rfl, hu⟩ := map_str hx
        rw [List.length_map] at hi
        refine ⟨rfl, _, rfl, ws, .inr u, rfl, h2, Nat.lt_of_le_of_lt (show ws.length ≤ 1000 by omega) (by decide), _, upd_same, same_mut hs hd, fun q => ?_, ?_⟩
        · rw [valV_put, hw q, List.take_add_one, hu]
          by_cases e : q = u
          · subst e
            simp
          · rw [if_neg (fun z => e (Sum.inr.inj z))]
            simp [e]
        · have := length_putK ws (.inr u) (.int 0)
          omega
      · rintro H2 ⟨ws, h2, hs, hw, _⟩
        rw [List.length_map, List.take_length] at hw
        exact rest d H2 ws h2 hs hw

theorem ok_price (T : Facts K mg kl) : Keeps P w K mg base CX0 5 "price" ["machine", "row"] (spPrice kl.Machine) := by
  refine keeps0 T.d_price sc_price (fun vs H Q E h => ?_) (fun f cdv A outer s H vs Q E hr h => ?_)
  · obtain ⟨m, M, row, rfl, _⟩ := h
    rfl
  · obtain ⟨m, M, row, rfl, hM, hG, hR, k⟩ := h
    refine ⟨_, (pss_cons (ps_expr (pe_own (ok_check_row T) hr (pa_cons (pv 1) pa_nil)))
  (pss_one (ps_ret (pe_own (ok_least T) hr (pa_cons (pe_own (ok_follow T) hr (pa_cons (pv 0) (pa_cons (pv 1) (pa_cons (pe_pr (pv 0) hr T.cl_Machine T.p_Machine_starts T.n_Machine_held_starts sc_Machine_starts) pa_nil)))) (pa_cons (pe_pr (pv 0) hr T.cl_Machine T.p_Machine_ends T.n_Machine_held_ends sc_Machine_ends) pa_nil)))))), ?_⟩
    have hM0 := hM
    obtain ⟨dx, t1, t2, t3, t4, t5, ws, hM⟩ := hM
    refine ⟨_, rfl, row, rfl, hR, ?_⟩
    refine ⟨_, rfl, _, rfl, _, rfl, m, dx, _, rfl, hM.ins, m, dx, _, _, rfl, hM.ins, mfs2 .., ?_⟩
    refine ⟨m, t2, M, row, M.sts, rfl, hM0, hG, .inr (hM.a2.sq), hG.sl, fun d kvs g H1 h1 hh hr1 s1 => ?_⟩
    refine ⟨_, rfl, m, dx, _, rfl, s1 _ _ hM.ins, m, dx, _, _, rfl, s1 _ _ hM.ins, mfs3 .., ?_⟩
    exact ⟨d, t3, kvs, g, M.ens, rfl, h1, hh, .inr ((hM.a3.on s1).sq), hG.el, fun o H2 ho s2 => k o H2 (reach_least hr1 ho) (s1.trans s2)⟩

end
end Pf

namespace Pf
open PySem PySem.Spec PyProof.Rows L2 Bz
local macro_rules | `(tactic| walk_at "sd") => `(tactic| first
  | rfl | assumption | omega | exact Nat.le_of_ble_eq_true rfl | decide | (refine Or.inl (And.intro ?_ ?_) <;> omega) | (refine Or.inr (And.intro ?_ ?_) <;> omega) | (refine And.intro ?_ ?_ <;> omega) | (refine ⟨?_, ?_, ?_⟩ <;> omega))
local macro_rules | `(tactic| walk_at "sq") => `(tactic| first | assumption | exact SqL.of (by assumption) | exact SqT.of (by assumption) | exact SqL.of upd_same | exact SqT.of upd_same)
local macro_rules | `(tactic| walk_at "hp") => `(tactic| first | assumption | exact upd_same)
local macro_rules | `(tactic| walk_at "rd") => `(tactic| repeat (first
  | (refine ⟨_, rfl, ?_⟩) | (refine ⟨_, _, rfl, rfl, ?_⟩) | (refine ⟨rfl, ?_⟩) | (refine And.intro (by walk_at "sd") ?_)
  | (refine ⟨_, _, _, _, rfl, rfl, (by walk_at "sq"), rfl, ?_⟩)
  | (refine ⟨_, _, _, _, rfl, rfl, (by walk_at "hp"), rfl, ?_⟩)
  | (refine Or.inl ⟨_, rfl, ?_⟩)))
section
variable {P : Program} {w : World} {K : PySem.W.Frag} {mg : PySem.Str → Option Value} {base : Heap} {kl : Cl}
theorem ok_backward (T : Facts K mg kl) : Keeps P w K mg base CX0 1 "backward" ["arrows"] (spBackward K) := by
  refine keeps0 T.d_backward sc_backward (fun vs H Q E h => ?_) (fun f cdv A outer s H vs Q E hr h => ?_)
  · obtain ⟨a, us, xs, rfl, _⟩ := h
    rfl
  · obtain ⟨a, us, xs, rfl, ha, hA, hl, k⟩ := h
    refine ⟨_, (pss_one (ps_ret (pe_lc (own := [("state", 1), ("letter", 2), ("after", 3), ("cost", 4)]) (g := gTup K 4 (gCons (gName 1) (gCons (gName 2) (gCons (gName 3) (gCons (gName 4) (gNil)))))) (tt := tYes) rfl sc_backward.nd (pi_or (kpi_list K (pv 0)) (kpi_tup K (pv 0))) (blkOk_by (own := [("state", 1), ("letter", 2), ("after", 3), ("cost", 4)]) (N := N_backward) (sc := defScope s_backward) (by decide +kernel)) (fun _ _ _ _ _ => (kpg_tup K rfl (pgs_cons (pg_name (i := 1) sc_backward.nd rfl (Or.inl rfl)) (pgs_cons (pg_name (i := 2) sc_backward.nd rfl (Or.inl rfl)) (pgs_cons (pg_name (i := 3) sc_backward.nd rfl (Or.inl rfl)) (pgs_cons (pg_name (i := 4) sc_backward.nd rfl (Or.inl rfl)) pgs_nil)))))) (fun _ _ _ _ _ => pts_nil) (fun _ _ _ _ _ => (pe_tup (pa_cons (pv 3) (pa_cons (pv 2) (pa_cons (pv 1) (pa_cons (pv 4) pa_nil))))))))), ?_⟩
    have ul : us.length = xs.length := Paired.length hA
    rcases ha with ha | ha
    · refine .inl ⟨_, rfl, a, rfl, ⟨_, ha⟩, fun D hD => lcA walk_list (fun i acc H' => ArD D H' acc ((xs.take i).map swapA) ∧ Same H H') ⟨.nil, .refl _⟩ (fun i acc H' o h => ⟨h.1.upd, same_mut h.2 hD⟩) (fun i acc H' _ h => Same.seq h.2 ha) ?_ ?_⟩
      · rintro i x acc _ H1 hi ⟨hI, hs⟩ hB hl1 ⟨rfl, hx⟩
        obtain ⟨r, y, rfl, hy, hr⟩ := ArS.get (hA.same hs) hx
        refine ⟨r, _, rfl, SqT.of hr, rfl, _, _, rfl, _, _, rfl, _, _, rfl, _, _, rfl, rfl, rfl, ?_⟩
        refine ⟨_, rfl, _, rfl, _, rfl, _, rfl, Nat.le_of_ble_eq_true rfl, fun g hg => ?_⟩
        have s2 : Same H1 (upd H1 g (.tup (swapA y).vals)) := same_new hg
        have ng : g ≠ D := fun z => by
          rw [z, hB] at hg
          cases hg
        refine LcP.put (fun i acc H' o h => ⟨h.1.upd, same_mut h.2 hD⟩) (s2 _ _ hB) hl1 (by omega) ⟨?_, hs.trans s2⟩
        rw [List.take_add_one, hy, Option.toList_some, List.map_append]
        exact (hI.keep s2).snoc (x := swapA y) ng upd_same
      · rintro acc H1 ⟨hI, hs⟩ hB hl1
        rw [ul, List.take_length] at hI
        exact k D acc H1 hD hB hI.ars hs
    · refine .inr ⟨_, rfl, a, rfl, ⟨_, ha⟩, fun D hD => lcA walk_tup (fun i acc H' => ArD D H' acc ((xs.take i).map swapA) ∧ Same H H') ⟨.nil, .refl _⟩ (fun i acc H' o h => ⟨h.1.upd, same_mut h.2 hD⟩) (fun i acc H' _ h => sqt_same h.2 ha) ?_ ?_⟩
      · rintro i x acc _ H1 hi ⟨hI, hs⟩ hB hl1 ⟨rfl, hx⟩
        obtain ⟨r, y, rfl, hy, hr⟩ := ArS.get (hA.same hs) hx
        refine ⟨r, _, rfl, SqT.of hr, rfl, _, _, rfl, _, _, rfl, _, _, rfl, _, _, rfl, rfl, rfl, ?_⟩
        refine ⟨_, rfl, _, rfl, _, rfl, _, rfl, Nat.le_of_ble_eq_true rfl, fun g hg => ?_⟩
        have s2 : Same H1 (upd H1 g (.tup (swapA y).vals)) := same_new hg
        have ng : g ≠ D := fun z => by
          rw [z, hB] at hg
          cases hg
        refine LcP.put (fun i acc H' o h => ⟨h.1.upd, same_mut h.2 hD⟩) (s2 _ _ hB) hl1 (by omega) ⟨?_, hs.trans s2⟩
        rw [List.take_add_one, hy, Option.toList_some, List.map_append]
        exact (hI.keep s2).snoc (x := swapA y) ng upd_same
      · rintro acc H1 ⟨hI, hs⟩ hB hl1
        rw [ul, List.take_length] at hI
        exact k D acc H1 hD hB hI.ars hs

end
end Pf

namespace Pf
open PySem PySem.Spec PyProof.Rows L2 Bz
local macro_rules | `(tactic| walk_at "sd") => `(tactic| first
  | rfl | assumption | omega | exact Nat.le_of_ble_eq_true rfl | decide | (refine Or.inl (And.intro ?_ ?_) <;> omega) | (refine Or.inr (And.intro ?_ ?_) <;> omega) | (refine And.intro ?_ ?_ <;> omega) | (refine ⟨?_, ?_, ?_⟩ <;> omega))
local macro_rules | `(tactic| walk_at "sq") => `(tactic| first | assumption | exact SqL.of (by assumption) | exact SqT.of (by assumption) | exact SqL.of upd_same | exact SqT.of upd_same)
local macro_rules | `(tactic| walk_at "hp") => `(tactic| first | assumption | exact upd_same)
local macro_rules | `(tactic| walk_at "rd") => `(tactic| repeat (first
  | (refine ⟨_, rfl, ?_⟩) | (refine ⟨_, _, rfl, rfl, ?_⟩) | (refine ⟨rfl, ?_⟩) | (refine And.intro (by walk_at "sd") ?_)
  | (refine ⟨_, _, _, _, rfl, rfl, (by walk_at "sq"), rfl, ?_⟩)
  | (refine ⟨_, _, _, _, rfl, rfl, (by walk_at "hp"), rfl, ?_⟩)
  | (refine Or.inl ⟨_, rfl, ?_⟩)))
section
variable {P : Program} {w : World} {K : PySem.W.Frag} {mg : PySem.Str → Option Value} {base : Heap} {kl : Cl}
theorem ok_turned (T : Facts K mg kl) : Keeps P w K mg base CX0 7 "turned" ["machine"] (spTurned kl.Machine) := by
  refine keeps0 T.d_turned sc_turned (fun vs H Q E h => ?_) (fun f cdv A outer s H vs Q E hr h => ?_)
  · obtain ⟨m, M, rfl, _⟩ := h
    rfl
  · obtain ⟨m, M, rfl, hM, hF, k⟩ := h
    refine ⟨_, (pss_one (ps_ret (pe_mk (mk_Machine T) hr T.g_Machine (pa_cons (pe_own (ok_backward T) hr (pa_cons (pe_pr (pv 0) hr T.cl_Machine T.p_Machine_arrows T.n_Machine_held_arrows sc_Machine_arrows) pa_nil)) (pa_cons (pe_pr (pv 0) hr T.cl_Machine T.p_Machine_ends T.n_Machine_held_ends sc_Machine_ends) (pa_cons (pe_pr (pv 0) hr T.cl_Machine T.p_Machine_starts T.n_Machine_held_starts sc_Machine_starts) pa_nil)))))), ?_⟩
    obtain ⟨dx, t1, t2, t3, t4, t5, ws, hM2⟩ := hM
    have l4 := hF.l4
    have sl := hF.sl
    have el := hF.el
    refine ⟨_, rfl, m, dx, _, rfl, hM2.ins, m, dx, _, _, rfl, hM2.ins, mfs1 .., t1, ws, M.ars, rfl, .inr (SqT.of hM2.a1), hM2.as, by omega, fun q1 ws1 H1 f1 e1 hA1 s1 => ?_⟩
    refine ⟨_, rfl, m, dx, _, rfl, s1 _ _ hM2.ins, m, dx, _, _, rfl, s1 _ _ hM2.ins, mfs3 .., ?_⟩
    refine ⟨_, rfl, m, dx, _, rfl, s1 _ _ hM2.ins, m, dx, _, _, rfl, s1 _ _ hM2.ins, mfs2 .., fun x dx2 nx ndx nex => ?_⟩
    have sB : Same H1 (upd (upd H1 dx2 (.own x)) x (.ins kl.Machine dx2 [])) := fun b o e => by
      rw [upd_ne (ne_of_none e nx), upd_ne (ne_of_none e ndx)]
      exact e
    have s2 := s1.trans sB
    refine ⟨x, q1, t3, t2, dx2, ws1, M.ars.map swapA, M.ens, M.sts, M.sta, rfl, upd_same, .inl (SqL.of (sB _ _ e1)), hA1.same sB, fun y hy => ?_, by rw [List.length_map]; exact l4, .inr ((hM2.a3.on s2).sq), .inr ((hM2.a2.on s2).sq), fun s hs => hF.nm s (hF.en s hs), fun s hs => hF.nm s (hF.st s hs), by omega, by omega, hF.nl, hF.en, hF.st, fun y hy => ?_, fun N H6 hMach hMOf keep => ⟨rfl, ?_⟩⟩
    · obtain ⟨z, hz, rfl⟩ := List.mem_map.mp hy
      exact swap_ok (hF.ok z hz)
    · obtain ⟨z, hz, rfl⟩ := List.mem_map.mp hy
      exact ⟨(hF.ar z hz).2, (hF.ar z hz).1⟩
    · exact k x N H6 (s1.free nx) hMach hMOf fun b o e => keep b o (ne_of_none (s1 _ _ e) nx) (s2 b o e)

end
end Pf

namespace Pf
open PySem PySem.Spec PyProof.Rows L2 Bz
local macro_rules | `(tactic| walk_at "sd") => `(tactic| first
  | rfl | assumption | omega | exact Nat.le_of_ble_eq_true rfl | decide | (refine Or.inl (And.intro ?_ ?_) <;> omega) | (refine Or.inr (And.intro ?_ ?_) <;> omega) | (refine And.intro ?_ ?_ <;> omega) | (refine ⟨?_, ?_, ?_⟩ <;> omega))
local macro_rules | `(tactic| walk_at "sq") => `(tactic| first | assumption | exact SqL.of (by assumption) | exact SqT.of (by assumption) | exact SqL.of upd_same | exact SqT.of upd_same)
local macro_rules | `(tactic| walk_at "hp") => `(tactic| first | assumption | exact upd_same)
local macro_rules | `(tactic| walk_at "rd") => `(tactic| repeat (first
  | (refine ⟨_, rfl, ?_⟩) | (refine ⟨_, _, rfl, rfl, ?_⟩) | (refine ⟨rfl, ?_⟩) | (refine And.intro (by walk_at "sd") ?_)
  | (refine ⟨_, _, _, _, rfl, rfl, (by walk_at "sq"), rfl, ?_⟩)
  | (refine ⟨_, _, _, _, rfl, rfl, (by walk_at "hp"), rfl, ?_⟩)
  | (refine Or.inl ⟨_, rfl, ?_⟩)))
section
variable {P : Program} {w : World} {K : PySem.W.Frag} {mg : PySem.Str → Option Value} {base : Heap} {kl : Cl}
theorem ok_reached (T : Facts K mg kl) : Keeps P w K mg base CX0 1 "reached" ["starts", "arrows"] (spReached K) := by
  refine keeps0 T.d_reached sc_reached (fun vs H Q E h => ?_) (fun f cdv A outer s H vs Q E hr h => ?_)
  · obtain ⟨b, a, us, xs, ss, rfl, _⟩ := h
    rfl
  · obtain ⟨b, a, us, xs, ss, rfl, hb, ha, hA, sl, xl, k⟩ := h
    refine ⟨_, (pss_cons (ps_set (i := 2) sc_reached.nd rfl (Or.inl rfl) pe_dnewK)
  (pss_cons (ps_for PassesOwn.never rfl (pi_or (kpi_list K (pv 1)) (kpi_tup K (pv 1))) (kpg_tup K rfl (pgs_cons (pg_name (i := 3) sc_reached.nd rfl (Or.inl rfl)) (pgs_cons (pg_name (i := 4) sc_reached.nd rfl (Or.inl rfl)) (pgs_cons (pg_name (i := 5) sc_reached.nd rfl (Or.inl rfl)) (pgs_cons (pg_name (i := 6) sc_reached.nd rfl (Or.inl rfl)) pgs_nil)))))
  (pss_one (ps_expr (kbm K PySem.F.plainAttrs_list PySem.F.slot_list_append PySem.F.type_list_append mt_append (pe_dsetd (pv 2) (pv 3) (pe_lst pa_nil) ⟨rfl, rfl, rfl, rfl⟩) (pa_cons (pv 5) pa_nil)))))
  (pss_cons (ps_setDc (i := 7) (own := [("state", 3)]) (g := gName 3) (tt := tYes) rfl sc_reached.nd rfl rfl (swD_true rfl rfl rfl (by decide +kernel)) (pi_or (kpi_list K (pv 0)) (kpi_tup K (pv 0))) (blkOk_by (own := [("state", 3)]) (N := N_reached) (sc := defScope s_reached) (by decide +kernel)) (fun _ _ _ _ _ => (pg_name (i := 3) sc_reached.nd rfl (Or.inl rfl))) (fun _ _ _ _ _ => pts_nil) (fun _ _ _ _ _ => (pv 3)) (fun _ _ _ _ _ => pe_bl))
  (pss_cons (ps_set (i := 8) sc_reached.nd rfl (Or.inl rfl) (pe_callTy (klistD rfl) (by rfl) T.b_list (by decide +kernel) (pa_cons (pv 7) pa_nil)))
  (pss_cons (ps_while PassesOwn.never (pt_truth (pv 8) (by intro _; rfl))
  (pss_cons (ps_set (i := 9) sc_reached.nd rfl (Or.inl rfl) (kbm0 K PySem.F.plainAttrs_list PySem.F.slot_list_pop PySem.F.type_list_pop mt_pop (pv 8)))
  (pss_one (ps_for PassesOwn.never rfl (kpi_list K (pe_dget2 (hu_of hr) (pv 2) (pv 9) (pe_lst pa_nil) ⟨rfl, rfl, rfl, rfl⟩)) (pg_name (i := 5) sc_reached.nd rfl (Or.inl rfl))
  (pss_one (ps_if (pt_cmp (pc_dnotin (hu_of hr) (pv 5) (pv 7)))
  (pss_cons (ps_dput (hu_of hr) (pv 7) (pv 5) pe_bl rfl)
  (pss_one (ps_expr (kbm K PySem.F.plainAttrs_list PySem.F.slot_list_append PySem.F.type_list_append mt_append (pv 8) (pa_cons (pv 5) pa_nil)))))
  pss_nil))))))
  (pss_one (ps_ret (pv 7)))))))), ?_⟩
    have ul : us.length = xs.length := Paired.length hA
    -- what each state leads to
    refine fun D hD => ?_
    have s0 : Same H (upd H D (.dK [])) := same_new hD
    rcases ha with ha | ha
    · refine .inl ⟨_, rfl, a, rfl, ⟨_, Same.seq s0 ha⟩, for_list (K := K) (a := a) (xs := us) (fun i σ H' => ∃ (v3 v4 v5 v6 : Option V) (ps : List (PySem.Str × Addr)), σ = [some (.ref b), some (.ref a), some (.ref D), v3, v4, v5, v6, none, none, none] ∧ NxInv H H' D ps (fun z => (((xs.take i).filter fun x => decide (x.s = z)).map Arw.t)) ∧ ps.length ≤ i) ?_ (fun i σ H' _ ⟨_, _, _, _, _, _, h, _⟩ => Same.seq h.same ha) ?_ ?_⟩
      · exact ⟨_, _, _, _, [], rfl, ⟨upd_same, .nil, .nil, fun p hp => (by cases hp), fun s _ => rfl, s0, hD⟩, Nat.le_refl _⟩
      · rintro i y σ H1 hi ⟨v3, v4, v5, v6, ps, rfl, hN, pl⟩
        obtain ⟨r, x, rfl, hx, hr0⟩ := ArS.get (hA.same hN.same) hi
        have hi' : i < us.length := (List.getElem?_eq_some_iff.mp hi).1
        have tk : xs.take (i + 1) = xs.take i ++ [x] := by rw [List.take_add_one, hx]; rfl
        have ec : (fun z => (((xs.take (i + 1)).filter fun x => decide (x.s = z)).map Arw.t)) = fun z => if z = x.s then (((xs.take i).filter fun y => decide (y.s = x.s)).map Arw.t) ++ [x.t] else (((xs.take i).filter fun y => decide (y.s = z)).map Arw.t) := by
          funext z
          rw [tk, List.filter_append, List.map_append]
          by_cases e : z = x.s
          · subst e
            simp
          · rw [if_neg e]
            have : ¬ x.s = z := fun c => e c.symm
            simp [this]
        refine ⟨r, _, rfl, SqT.of hr0, rfl, _, _, rfl, _, _, rfl, _, _, rfl, _, _, rfl, rfl, ?_⟩
        refine ⟨_, rfl, D, rfl, .inl ⟨_, .inl hN.d⟩, _, rfl, Nat.zero_le _, fun q hq => ?_⟩
        have s1 : Same H1 (upd H1 q (.lst [])) := same_new hq
        refine ⟨ps.map pk, .inr x.s, s1 _ _ hN.d, rfl, Nat.lt_of_le_of_lt (show _ ≤ 1000 by rw [List.length_map]; omega) (by decide), fun v hv => ?_, fun hv => ?_⟩
        · -- there
          by_cases hk : x.s ∈ ps.map (·.1)
          · obtain ⟨p, hp, ep⟩ := List.mem_map.mp hk
            have hp' : (x.s, p.2) ∈ ps := by rw [← ep]; exact hp
            rw [pk_val hN.nk hp'] at hv
            obtain rfl := Option.some.inj hv
            obtain ⟨_, _, hl⟩ := hN.each _ hp'
            have hl1 := s1 _ _ hl
            refine ⟨.inl ⟨rfl, _, SqL.of hl1⟩, _, rfl, p.2, _, _, rfl, rfl, hl1, Nat.lt_of_le_of_lt (show _ ≤ 1000 from ?_) (by decide), ?_⟩
            · rw [List.length_map, List.length_map]
              refine Nat.le_trans (List.length_filter_le ..) ?_
              rw [List.length_take]
              omega
            · refine ⟨_, _, _, _, ps, rfl, ?_, by omega⟩
              rw [ec]
              exact hN.old hp' hq
          · rw [valV_none (fun c => hk (pk_mem.mp c))] at hv
            cases hv
        · -- new
          have hk : x.s ∉ ps.map (·.1) := fun c => by
            obtain ⟨p, hp, ep⟩ := List.mem_map.mp c
            have hp' : (x.s, p.2) ∈ ps := by rw [← ep]; exact hp
            rw [pk_val hN.nk hp'] at hv
            cases hv
          have nqD : q ≠ D := fun e => by
            rw [e, hN.d] at hq
            cases hq
          have hq2 : (upd (upd H1 q (.lst [])) D (.dK (putK (ps.map pk) (.inr x.s) (.ref q)))) q = some (.lst []) := (upd_ne nqD).trans upd_same
          refine ⟨.inl ⟨rfl, _, SqL.of hq2⟩, _, rfl, q, _, _, rfl, rfl, hq2, Nat.lt_of_le_of_lt (Nat.zero_le 1000) (by decide), ?_⟩
          refine ⟨_, _, _, _, ps ++ [(x.s, q)], rfl, ?_, by rw [List.length_append, List.length_singleton]; omega⟩
          rw [ec]
          exact hN.new hk hq
      · rintro σ H1 ⟨v3, v4, v5, v6, ps, rfl, hN, pl⟩
        rw [ul, List.take_length] at hN
        -- found: the starts
        rcases hb with hb | hb
        · refine .inl ⟨_, rfl, b, rfl, ⟨_, Same.seq hN.same hb⟩, fun d hd => dc_it walk_list (fun i H' => ∃ F : List PySem.Str, H' d = some (.dK (F.map fT)) ∧ Same H1 H' ∧ F.Nodup ∧ (∀ z, z ∈ F ↔ z ∈ ss.take i) ∧ F.length ≤ i) ⟨[], upd_same, same_new hd, .nil, fun z => Iff.rfl, Nat.le_refl _⟩ (fun i H' _ ⟨_, _, h, _⟩ => Same.seq (hN.same.trans h) hb) ?_ ?_⟩
          · rintro i x H2 _ hi ⟨F, h2, hs, nd, hm, hl⟩ ⟨rfl, hx⟩
            obtain ⟨u, rfl, hu⟩ := map_str hx
            rw [List.length_map] at hi
            have tk : ss.take (i + 1) = ss.take i ++ [u] := by rw [List.take_add_one, hu]; rfl
            refine ⟨rfl, _, rfl, F.map fT, .inr u, rfl, h2, Nat.lt_of_le_of_lt (show _ ≤ 1000 by rw [List.length_map]; omega) (by decide), ?_⟩
            by_cases c : u ∈ F
            · refine ⟨F, ?_, same_mut hs hd, nd, fun z => ?_, by omega⟩
              · rw [put_fT_in c]
                exact upd_same
              · rw [tk, List.mem_append, ← hm, List.mem_singleton]
                exact ⟨.inl, fun h => h.elim id fun e => by rw [e]; exact c⟩
            · refine ⟨F ++ [u], ?_, same_mut hs hd, nodup_snoc2 nd c, fun z => ?_, by rw [List.length_append, List.length_singleton]; omega⟩
              · rw [put_fT_new c]
                exact upd_same
              · rw [tk, List.mem_append, List.mem_append, ← hm]
          rintro H2 ⟨F, h2, s2, nd, hm, hl⟩
          rw [List.length_map, List.take_length] at hm
          -- waiting: all of them
          refine ⟨_, rfl, d, _, rfl, .inl h2, fun wq hwq => ?_⟩
          have ewl : (F.map fT).map (fun kv => kV kv.1) = F.map V.str := by
            rw [List.map_map]
            rfl
          rw [ewl]
          have s3 : Same H2 (upd H2 wq (.lst (F.map V.str))) := same_new hwq
          have S3 := (hN.same.trans s2).trans s3
          have dN : H1 d = none := hd
          have wN : H1 wq = none := s2.free hwq
          have ndw : d ≠ wq := ne_of_none h2 hwq
          refine ⟨fun mm σ' H' => ∃ (v3 v5 v9 : Option V) (F W : List PySem.Str), σ' = [some (.ref b), some (.ref a), some (.ref D), v3, v4, v5, v6, some (.ref d), some (.ref wq), v9] ∧ H' d = some (.dK (F.map fT)) ∧ H' wq = some (.lst (W.map V.str)) ∧ Sch xs ss F W ∧ Same H1 H' ∧ W.length + 2 * (ss.length + xs.length - F.length) ≤ mm ∧ W.length ≤ F.length, ⟨F.length + 2 * (ss.length + xs.length - F.length), _, _, _, F, F, rfl, s3 _ _ h2, upd_same, ⟨nd, fun s hs => (hm s).mpr hs, fun s hs => hs, fun x _ h1 h2 => absurd h1 h2, fun s hs => List.mem_append_left _ ((hm s).mp hs)⟩, s2.trans s3, Nat.le_refl _, Nat.le_refl _⟩, ?_⟩
          rintro mm σ' H3 ⟨v3, v5, v9, F, W, rfl, h3, hw3, hS, hs3, hmm, hWF⟩
          have hFl := hS.len
          refine ⟨_, rfl, _, .inl ⟨_, SqL.of hw3, rfl⟩, ?_⟩
          by_cases cW : W = []
          · subst cW
            refine iteF ⟨_, rfl, ?_⟩
            exact k d F H3 (hN.same.free dN) h3 hS.nd hS.st (fun x hx hf => hS.cl x hx hf List.not_mem_nil) hS.sub (hN.same.trans hs3)
          · obtain ⟨W0, here, eW⟩ : ∃ W0 here, W = W0 ++ [here] := ⟨W.dropLast, W.getLast cW, (List.dropLast_concat_getLast cW).symm⟩
            subst eW
            have eE : (!((W0 ++ [here]).map V.str).isEmpty) = true := by simp
            rw [eE]
            refine iteT ?_
            rw [List.length_append, List.length_singleton] at hmm hWF
            refine ⟨fun σ' H' => ∃ (v3 v5 v9 : Option V) (F W : List PySem.Str), σ' = [some (.ref b), some (.ref a), some (.ref D), v3, v4, v5, v6, some (.ref d), some (.ref wq), v9] ∧ H' d = some (.dK (F.map fT)) ∧ H' wq = some (.lst (W.map V.str)) ∧ Sch xs ss F W ∧ Same H1 H' ∧ W.length + 2 * (ss.length + xs.length - F.length) ≤ mm - 1 ∧ W.length ≤ F.length, fun σ' H' h => ⟨mm - 1, by omega, h⟩, ?_⟩
            -- the last one
            have eL : ((W0 ++ [here]).map V.str)[((W0 ++ [here]).map V.str).length - 1]? = some (.str here) := by
              rw [List.map_append, List.length_append]
              simp
            have eD : ((W0 ++ [here]).map V.str).dropLast = W0.map V.str := by
              rw [List.map_append]
              simp
            refine ⟨_, rfl, .inl ⟨rfl, _, SqL.of hw3⟩, wq, _, _, rfl, rfl, hw3, eL, ?_⟩
            rw [eD]
            have s4 : Same H1 (upd H3 wq (.lst (W0.map V.str))) := same_mut hs3 wN
            have h4 : (upd H3 wq (.lst (W0.map V.str))) d = some (.dK (F.map fT)) := (upd_ne ndw).trans h3
            have w4 : (upd H3 wq (.lst (W0.map V.str))) wq = some (.lst (W0.map V.str)) := upd_same
            generalize upd H3 wq (.lst (W0.map V.str)) = H4 at s4 h4 w4
            have gN : DGet H4 D (.str here) (valV (ps.map pk) (.inr here)) := DGet.k (k := .inr here) (s4 _ _ hN.d)
            -- what it leads to
            refine ⟨_, rfl, D, rfl, .inl ⟨_, .inl (s4 _ _ hN.d)⟩, _, rfl, Nat.zero_le _, fun q0 hq0 => ?_⟩
            have s5 : Same H4 (upd H4 q0 (.lst [])) := same_new hq0
            obtain ⟨ql, eq, hql, cq⟩ : ∃ ql, (valV (ps.map pk) (.inr here)).getD (.ref q0) = .ref ql ∧ (upd H4 q0 (.lst [])) ql = some (.lst (((xs.filter fun x => decide (x.s = here)).map Arw.t).map V.str)) ∧ ql ≠ wq := by
              by_cases hk : here ∈ ps.map (·.1)
              · obtain ⟨p, hp, ep⟩ := List.mem_map.mp hk
                have hp' : (here, p.2) ∈ ps := by rw [← ep]; exact hp
                exact ⟨p.2, by rw [pk_val hN.nk hp']; rfl, s5 _ _ (s4 _ _ (hN.each _ hp').2.2), ne_of_none (hN.each _ hp').2.2 wN⟩
              · refine ⟨q0, by rw [valV_none (fun c => hk (pk_mem.mp c))]; rfl, ?_, (ne_of_none w4 hq0).symm⟩
                have := hN.no here hk
                have e : ((xs.filter fun x => decide (x.s = here)).map Arw.t) = [] := this
                rw [e]
                exact upd_same
            have S5 := s4.trans s5
            have h5 := s5 _ _ h4
            have w5 := s5 _ _ w4
            have d5 : DGet (upd H4 q0 (.lst [])) D (.str here) (valV (ps.map pk) (.inr here)) := DGet.k (k := .inr here) (S5 _ _ hN.d)
            generalize upd H4 q0 (.lst []) = H5 at S5 h5 w5 hql d5
            generalize hts : (xs.filter fun x => decide (x.s = here)).map Arw.t = ts at hql
            have tsl : ts.length ≤ xs.length := by
              rw [← hts, List.length_map]
              exact List.length_filter_le ..
            have tsub : ∀ u ∈ ts, u ∈ ss ++ xs.map Arw.t := fun u hu => by
              rw [← hts] at hu
              obtain ⟨x, hx, rfl⟩ := List.mem_map.mp hu
              exact List.mem_append_right _ (List.mem_map.mpr ⟨x, (List.mem_filter.mp hx).1, rfl⟩)
            have dn5 : ∀ {r : Addr} {o : HO}, H1 r = some o → r ≠ d := fun e => ne_of_none e dN
            have nq : ql ≠ d := ne_of hql h5 (by intro z; cases z)
            refine ⟨_, d5, ql, eq, ⟨_, SqL.of hql⟩, ?_⟩
            refine for_list (K := K) (a := ql) (xs := ts.map V.str) (fun j σ H' => ∃ (v5 : Option V) (F' W' : List PySem.Str), σ = [some (.ref b), some (.ref a), some (.ref D), v3, v4, v5, v6, some (.ref d), some (.ref wq), some (.str here)] ∧ H' d = some (.dK (F'.map fT)) ∧ H' wq = some (.lst (W'.map V.str)) ∧ Trn xs ss F W0 (ts.take j) F' W' ∧ Same H1 H' ∧ H' ql = some (.lst (ts.map V.str))) ?_ (fun j σ H' _ ⟨_, _, _, _, _, _, _, _, h⟩ => SqL.of h) ?_ ?_
            · exact ⟨_, F, W0, rfl, h5, w5, ⟨hS.nd, fun s hs => hs, fun s hs => hs, fun s hs => .inl hs, fun s hs => hS.wf s (List.mem_append_left _ hs), fun s hs => (by cases hs), hS.sub, rfl⟩, S5, hql⟩
            · rintro j y σ H6 hj ⟨v5, F', W', rfl, h6, w6, hT, s6, hq6⟩
              obtain ⟨u, rfl, hu⟩ := map_str hj
              have tk : ts.take (j + 1) = ts.take j ++ [u] := by rw [List.take_add_one, hu]; rfl
              have F'l : F'.length ≤ ss.length + xs.length := by
                have := nodup_le hT.nd hT.sub
                rw [List.length_append, List.length_map] at this
                exact this
              have tlen := hT.len
              have gu : DGet H6 d (.str u) (valV (F'.map fT) (.inr u)) := DGet.k (k := .inr u) h6
              refine ⟨_, rfl, _, rfl, d, _, rfl, gu, ?_⟩
              rw [val_fT]
              by_cases c : u ∈ F'
              · rw [if_pos c]
                refine ⟨_, rfl, iteF ⟨_, F', W', rfl, h6, w6, ⟨hT.nd, hT.f0, hT.w0, hT.fw, hT.wf, fun s hs => ?_, hT.sub, hT.len⟩, s6, hq6⟩⟩
                rw [tk] at hs
                rcases List.mem_append.mp hs with h | h
                · exact hT.ts s h
                · rw [List.mem_singleton.mp h]
                  exact c
              · rw [if_neg c]
                have dp : DPut H6 d (.str u) (.bl true) _ := DPut.k (k := .inr u) h6 (Nat.lt_of_le_of_lt (show _ ≤ 2000 by rw [List.length_map]; omega) (by decide))
                refine ⟨_, rfl, iteT ⟨_, rfl, _, rfl, d, _, rfl, dp, ?_⟩⟩
                rw [put_fT_new c]
                have w7 : (upd H6 d (.dK ((F' ++ [u]).map fT))) wq = some (.lst (W'.map V.str)) := (upd_ne ndw.symm).trans w6
                refine ⟨_, rfl, .inl ⟨rfl, _, SqL.of w7⟩, _, rfl, wq, _, _, rfl, rfl, w7, Nat.lt_of_le_of_lt (show _ ≤ 4000 by rw [List.length_map]; omega) (by decide), ?_⟩
                refine ⟨_, F' ++ [u], W' ++ [u], rfl, (upd_ne ndw).trans upd_same, upd_same.trans (by rw [show (W' ++ [u]).map V.str = W'.map V.str ++ [V.str u] from List.map_append]), ⟨nodup_snoc2 hT.nd c, fun s hs => List.mem_append_left _ (hT.f0 s hs), fun s hs => List.mem_append_left _ (hT.w0 s hs), fun s hs => ?_, fun s hs => ?_, fun s hs => ?_, fun s hs => ?_, ?_⟩, same_mut (same_mut s6 dN) wN, (upd_ne cq).trans ((upd_ne nq).trans hq6)⟩
                · rcases List.mem_append.mp hs with h | h
                  · exact (hT.fw s h).imp id fun h => List.mem_append_left _ h
                  · exact .inr (List.mem_append_right _ h)
                · rcases List.mem_append.mp hs with h | h
                  · exact List.mem_append_left _ (hT.wf s h)
                  · exact List.mem_append_right _ h
                · rw [tk] at hs
                  rcases List.mem_append.mp hs with h | h
                  · exact List.mem_append_left _ (hT.ts s h)
                  · exact List.mem_append_right _ h
                · rcases List.mem_append.mp hs with h | h
                  · exact hT.sub s h
                  · rw [List.mem_singleton.mp h]
                    exact tsub u (List.mem_of_getElem? hu)
                · rw [List.length_append, List.length_append, List.length_singleton]
                  omega
            · rintro σ H6 ⟨v5, F', W', rfl, h6, w6, hT, s6, hq6⟩
              rw [List.length_map, List.take_length, ← hts] at hT
              have tlen := hT.len
              have hF0 := nodup_le hS.nd hT.f0
              have hS' := hT.turn hS
              have F'l := hS'.len
              exact ⟨_, _, _, F', W', rfl, h6, w6, hS', s6, by omega, by omega⟩
        · refine .inr ⟨_, rfl, b, rfl, ⟨_, sqt_same hN.same hb⟩, fun d hd => dc_it walk_tup (fun i H' => ∃ F : List PySem.Str, H' d = some (.dK (F.map fT)) ∧ Same H1 H' ∧ F.Nodup ∧ (∀ z, z ∈ F ↔ z ∈ ss.take i) ∧ F.length ≤ i) ⟨[], upd_same, same_new hd, .nil, fun z => Iff.rfl, Nat.le_refl _⟩ (fun i H' _ ⟨_, _, h, _⟩ => sqt_same (hN.same.trans h) hb) ?_ ?_⟩
          · rintro i x H2 _ hi ⟨F, h2, hs, nd, hm, hl⟩ ⟨rfl, hx⟩
            obtain ⟨u, rfl, hu⟩ := map_str hx
            rw [List.length_map] at hi
            have tk : ss.take (i + 1) = ss.take i ++ [u] := by rw [List.take_add_one, hu]; rfl
            refine ⟨rfl, _, rfl, F.map fT, .inr u, rfl, h2, Nat.lt_of_le_of_lt (show _ ≤ 1000 by rw [List.length_map]; omega) (by decide), ?_⟩
            by_cases c : u ∈ F
            · refine ⟨F, ?_, same_mut hs hd, nd, fun z => ?_, by omega⟩
              · rw [put_fT_in c]
                exact upd_same
              · rw [tk, List.mem_append, ← hm, List.mem_singleton]
                exact ⟨.inl, fun h => h.elim id fun e => by rw [e]; exact c⟩
            · refine ⟨F ++ [u], ?_, same_mut hs hd, nodup_snoc2 nd c, fun z => ?_, by rw [List.length_append, List.length_singleton]; omega⟩
              · rw [put_fT_new c]
                exact upd_same
              · rw [tk, List.mem_append, List.mem_append, ← hm]
          rintro H2 ⟨F, h2, s2, nd, hm, hl⟩
          rw [List.length_map, List.take_length] at hm
          -- waiting: all of them
          refine ⟨_, rfl, d, _, rfl, .inl h2, fun wq hwq => ?_⟩
          have ewl : (F.map fT).map (fun kv => kV kv.1) = F.map V.str := by
            rw [List.map_map]
            rfl
          rw [ewl]
          have s3 : Same H2 (upd H2 wq (.lst (F.map V.str))) := same_new hwq
          have S3 := (hN.same.trans s2).trans s3
          have dN : H1 d = none := hd
          have wN : H1 wq = none := s2.free hwq
          have ndw : d ≠ wq := ne_of_none h2 hwq
          refine ⟨fun mm σ' H' => ∃ (v3 v5 v9 : Option V) (F W : List PySem.Str), σ' = [some (.ref b), some (.ref a), some (.ref D), v3, v4, v5, v6, some (.ref d), some (.ref wq), v9] ∧ H' d = some (.dK (F.map fT)) ∧ H' wq = some (.lst (W.map V.str)) ∧ Sch xs ss F W ∧ Same H1 H' ∧ W.length + 2 * (ss.length + xs.length - F.length) ≤ mm ∧ W.length ≤ F.length, ⟨F.length + 2 * (ss.length + xs.length - F.length), _, _, _, F, F, rfl, s3 _ _ h2, upd_same, ⟨nd, fun s hs => (hm s).mpr hs, fun s hs => hs, fun x _ h1 h2 => absurd h1 h2, fun s hs => List.mem_append_left _ ((hm s).mp hs)⟩, s2.trans s3, Nat.le_refl _, Nat.le_refl _⟩, ?_⟩
          rintro mm σ' H3 ⟨v3, v5, v9, F, W, rfl, h3, hw3, hS, hs3, hmm, hWF⟩
          have hFl := hS.len
          refine ⟨_, rfl, _, .inl ⟨_, SqL.of hw3, rfl⟩, ?_⟩
          by_cases cW : W = []
          · subst cW
            refine iteF ⟨_, rfl, ?_⟩
            exact k d F H3 (hN.same.free dN) h3 hS.nd hS.st (fun x hx hf => hS.cl x hx hf List.not_mem_nil) hS.sub (hN.same.trans hs3)
          · obtain ⟨W0, here, eW⟩ : ∃ W0 here, W = W0 ++ [here] := ⟨W.dropLast, W.getLast cW, (List.dropLast_concat_getLast cW).symm⟩
            subst eW
            have eE : (!((W0 ++ [here]).map V.str).isEmpty) = true := by simp
            rw [eE]
            refine iteT ?_
            rw [List.length_append, List.length_singleton] at hmm hWF
            refine ⟨fun σ' H' => ∃ (v3 v5 v9 : Option V) (F W : List PySem.Str), σ' = [some (.ref b), some (.ref a), some (.ref D), v3, v4, v5, v6, some (.ref d), some (.ref wq), v9] ∧ H' d = some (.dK (F.map fT)) ∧ H' wq = some (.lst (W.map V.str)) ∧ Sch xs ss F W ∧ Same H1 H' ∧ W.length + 2 * (ss.length + xs.length - F.length) ≤ mm - 1 ∧ W.length ≤ F.length, fun σ' H' h => ⟨mm - 1, by omega, h⟩, ?_⟩
            -- the last one
            have eL : ((W0 ++ [here]).map V.str)[((W0 ++ [here]).map V.str).length - 1]? = some (.str here) := by
              rw [List.map_append, List.length_append]
              simp
            have eD : ((W0 ++ [here]).map V.str).dropLast = W0.map V.str := by
              rw [List.map_append]
              simp
            refine ⟨_, rfl, .inl ⟨rfl, _, SqL.of hw3⟩, wq, _, _, rfl, rfl, hw3, eL, ?_⟩
            rw [eD]
            have s4 : Same H1 (upd H3 wq (.lst (W0.map V.str))) := same_mut hs3 wN
            have h4 : (upd H3 wq (.lst (W0.map V.str))) d = some (.dK (F.map fT)) := (upd_ne ndw).trans h3
            have w4 : (upd H3 wq (.lst (W0.map V.str))) wq = some (.lst (W0.map V.str)) := upd_same
            generalize upd H3 wq (.lst (W0.map V.str)) = H4 at s4 h4 w4
            have gN : DGet H4 D (.str here) (valV (ps.map pk) (.inr here)) := DGet.k (k := .inr here) (s4 _ _ hN.d)
            -- what it leads to
            refine ⟨_, rfl, D, rfl, .inl ⟨_, .inl (s4 _ _ hN.d)⟩, _, rfl, Nat.zero_le _, fun q0 hq0 => ?_⟩
            have s5 : Same H4 (upd H4 q0 (.lst [])) := same_new hq0
            obtain ⟨ql, eq, hql, cq⟩ : ∃ ql, (valV (ps.map pk) (.inr here)).getD (.ref q0) = .ref ql ∧ (upd H4 q0 (.lst [])) ql = some (.lst (((xs.filter fun x => decide (x.s = here)).map Arw.t).map V.str)) ∧ ql ≠ wq := by
              by_cases hk : here ∈ ps.map (·.1)
              · obtain ⟨p, hp, ep⟩ := List.mem_map.mp hk
                have hp' : (here, p.2) ∈ ps := by rw [← ep]; exact hp
                exact ⟨p.2, by rw [pk_val hN.nk hp']; rfl, s5 _ _ (s4 _ _ (hN.each _ hp').2.2), ne_of_none (hN.each _ hp').2.2 wN⟩
              · refine ⟨q0, by rw [valV_none (fun c => hk (pk_mem.mp c))]; rfl, ?_, (ne_of_none w4 hq0).symm⟩
                have := hN.no here hk
                have e : ((xs.filter fun x => decide (x.s = here)).map Arw.t) = [] := this
                rw [e]
                exact upd_same
            have S5 := s4.trans s5
            have h5 := s5 _ _ h4
            have w5 := s5 _ _ w4
            have d5 : DGet (upd H4 q0 (.lst [])) D (.str here) (valV (ps.map pk) (.inr here)) := DGet.k (k := .inr here) (S5 _ _ hN.d)
            generalize upd H4 q0 (.lst []) = H5 at S5 h5 w5 hql d5
            generalize hts : (xs.filter fun x => decide (x.s = here)).map Arw.t = ts at hql
            have tsl : ts.length ≤ xs.length := by
              rw [← hts, List.length_map]
              exact List.length_filter_le ..
            have tsub : ∀ u ∈ ts, u ∈ ss ++ xs.map Arw.t := fun u hu => by
              rw [← hts] at hu
              obtain ⟨x, hx, rfl⟩ := List.mem_map.mp hu
              exact List.mem_append_right _ (List.mem_map.mpr ⟨x, (List.mem_filter.mp hx).1, rfl⟩)
            have dn5 : ∀ {r : Addr} {o : HO}, H1 r = some o → r ≠ d := fun e => ne_of_none e dN
            have nq : ql ≠ d := ne_of hql h5 (by intro z; cases z)
            refine ⟨_, d5, ql, eq, ⟨_, SqL.of hql⟩, ?_⟩
            refine for_list (K := K) (a := ql) (xs := ts.map V.str) (fun j σ H' => ∃ (v5 : Option V) (F' W' : List PySem.Str), σ = [some (.ref b), some (.ref a), some (.ref D), v3, v4, v5, v6, some (.ref d), some (.ref wq), some (.str here)] ∧ H' d = some (.dK (F'.map fT)) ∧ H' wq = some (.lst (W'.map V.str)) ∧ Trn xs ss F W0 (ts.take j) F' W' ∧ Same H1 H' ∧ H' ql = some (.lst (ts.map V.str))) ?_ (fun j σ H' _ ⟨_, _, _, _, _, _, _, _, h⟩ => SqL.of h) ?_ ?_
            · exact ⟨_, F, W0, rfl, h5, w5, ⟨hS.nd, fun s hs => hs, fun s hs => hs, fun s hs => .inl hs, fun s hs => hS.wf s (List.mem_append_left _ hs), fun s hs => (by cases hs), hS.sub, rfl⟩, S5, hql⟩
            · rintro j y σ H6 hj ⟨v5, F', W', rfl, h6, w6, hT, s6, hq6⟩
              obtain ⟨u, rfl, hu⟩ := map_str hj
              have tk : ts.take (j + 1) = ts.take j ++ [u] := by rw [List.take_add_one, hu]; rfl
              have F'l : F'.length ≤ ss.length + xs.length := by
                have := nodup_le hT.nd hT.sub
                rw [List.length_append, List.length_map] at this
                exact this
              have tlen := hT.len
              have gu : DGet H6 d (.str u) (valV (F'.map fT) (.inr u)) := DGet.k (k := .inr u) h6
              refine ⟨_, rfl, _, rfl, d, _, rfl, gu, ?_⟩
              rw [val_fT]
              by_cases c : u ∈ F'
              · rw [if_pos c]
                refine ⟨_, rfl, iteF ⟨_, F', W', rfl, h6, w6, ⟨hT.nd, hT.f0, hT.w0, hT.fw, hT.wf, fun s hs => ?_, hT.sub, hT.len⟩, s6, hq6⟩⟩
                rw [tk] at hs
                rcases List.mem_append.mp hs with h | h
                · exact hT.ts s h
                · rw [List.mem_singleton.mp h]
                  exact c
              · rw [if_neg c]
                have dp : DPut H6 d (.str u) (.bl true) _ := DPut.k (k := .inr u) h6 (Nat.lt_of_le_of_lt (show _ ≤ 2000 by rw [List.length_map]; omega) (by decide))
                refine ⟨_, rfl, iteT ⟨_, rfl, _, rfl, d, _, rfl, dp, ?_⟩⟩
                rw [put_fT_new c]
                have w7 : (upd H6 d (.dK ((F' ++ [u]).map fT))) wq = some (.lst (W'.map V.str)) := (upd_ne ndw.symm).trans w6
                refine ⟨_, rfl, .inl ⟨rfl, _, SqL.of w7⟩, _, rfl, wq, _, _, rfl, rfl, w7, Nat.lt_of_le_of_lt (show _ ≤ 4000 by rw [List.length_map]; omega) (by decide), ?_⟩
                refine ⟨_, F' ++ [u], W' ++ [u], rfl, (upd_ne ndw).trans upd_same, upd_same.trans (by rw [show (W' ++ [u]).map V.str = W'.map V.str ++ [V.str u] from List.map_append]), ⟨nodup_snoc2 hT.nd c, fun s hs => List.mem_append_left _ (hT.f0 s hs), fun s hs => List.mem_append_left _ (hT.w0 s hs), fun s hs => ?_, fun s hs => ?_, fun s hs => ?_, fun s hs => ?_, ?_⟩, same_mut (same_mut s6 dN) wN, (upd_ne cq).trans ((upd_ne nq).trans hq6)⟩
                · rcases List.mem_append.mp hs with h | h
                  · exact (hT.fw s h).imp id fun h => List.mem_append_left _ h
                  · exact .inr (List.mem_append_right _ h)
                · rcases List.mem_append.mp hs with h | h
                  · exact List.mem_append_left _ (hT.wf s h)
                  · exact List.mem_append_right _ h
                · rw [tk] at hs
                  rcases List.mem_append.mp hs with h | h
                  · exact List.mem_append_left _ (hT.ts s h)
                  · exact List.mem_append_right _ h
                · rcases List.mem_append.mp hs with h | h
                  · exact hT.sub s h
                  · rw [List.mem_singleton.mp h]
                    exact tsub u (List.mem_of_getElem? hu)
                · rw [List.length_append, List.length_append, List.length_singleton]
                  omega
            · rintro σ H6 ⟨v5, F', W', rfl, h6, w6, hT, s6, hq6⟩
              rw [List.length_map, List.take_length, ← hts] at hT
              have tlen := hT.len
              have hF0 := nodup_le hS.nd hT.f0
              have hS' := hT.turn hS
              have F'l := hS'.len
              exact ⟨_, _, _, F', W', rfl, h6, w6, hS', s6, by omega, by omega⟩
    · refine .inr ⟨_, rfl, a, rfl, ⟨_, sqt_same s0 ha⟩, for_tup (K := K) (a := a) (xs := us) (fun i σ H' => ∃ (v3 v4 v5 v6 : Option V) (ps : List (PySem.Str × Addr)), σ = [some (.ref b), some (.ref a), some (.ref D), v3, v4, v5, v6, none, none, none] ∧ NxInv H H' D ps (fun z => (((xs.take i).filter fun x => decide (x.s = z)).map Arw.t)) ∧ ps.length ≤ i) ?_ (fun i σ H' _ ⟨_, _, _, _, _, _, h, _⟩ => sqt_same h.same ha) ?_ ?_⟩
      · exact ⟨_, _, _, _, [], rfl, ⟨upd_same, .nil, .nil, fun p hp => (by cases hp), fun s _ => rfl, s0, hD⟩, Nat.le_refl _⟩
      · rintro i y σ H1 hi ⟨v3, v4, v5, v6, ps, rfl, hN, pl⟩
        obtain ⟨r, x, rfl, hx, hr0⟩ := ArS.get (hA.same hN.same) hi
        have hi' : i < us.length := (List.getElem?_eq_some_iff.mp hi).1
        have tk : xs.take (i + 1) = xs.take i ++ [x] := by rw [List.take_add_one, hx]; rfl
        have ec : (fun z => (((xs.take (i + 1)).filter fun x => decide (x.s = z)).map Arw.t)) = fun z => if z = x.s then (((xs.take i).filter fun y => decide (y.s = x.s)).map Arw.t) ++ [x.t] else (((xs.take i).filter fun y => decide (y.s = z)).map Arw.t) := by
          funext z
          rw [tk, List.filter_append, List.map_append]
          by_cases e : z = x.s
          · subst e
            simp
          · rw [if_neg e]
            have : ¬ x.s = z := fun c => e c.symm
            simp [this]
        refine ⟨r, _, rfl, SqT.of hr0, rfl, _, _, rfl, _, _, rfl, _, _, rfl, _, _, rfl, rfl, ?_⟩
        refine ⟨_, rfl, D, rfl, .inl ⟨_, .inl hN.d⟩, _, rfl, Nat.zero_le _, fun q hq => ?_⟩
        have s1 : Same H1 (upd H1 q (.lst [])) := same_new hq
        refine ⟨ps.map pk, .inr x.s, s1 _ _ hN.d, rfl, Nat.lt_of_le_of_lt (show _ ≤ 1000 by rw [List.length_map]; omega) (by decide), fun v hv => ?_, fun hv => ?_⟩
        · -- there
          by_cases hk : x.s ∈ ps.map (·.1)
          · obtain ⟨p, hp, ep⟩ := List.mem_map.mp hk
            have hp' : (x.s, p.2) ∈ ps := by rw [← ep]; exact hp
            rw [pk_val hN.nk hp'] at hv
            obtain rfl := Option.some.inj hv
            obtain ⟨_, _, hl⟩ := hN.each _ hp'
            have hl1 := s1 _ _ hl
            refine ⟨.inl ⟨rfl, _, SqL.of hl1⟩, _, rfl, p.2, _, _, rfl, rfl, hl1, Nat.lt_of_le_of_lt (show _ ≤ 1000 from ?_) (by decide), ?_⟩
            · rw [List.length_map, List.length_map]
              refine Nat.le_trans (List.length_filter_le ..) ?_
              rw [List.length_take]
              omega
            · refine ⟨_, _, _, _, ps, rfl, ?_, by omega⟩
              rw [ec]
              exact hN.old hp' hq
          · rw [valV_none (fun c => hk (pk_mem.mp c))] at hv
            cases hv
        · -- new
          have hk : x.s ∉ ps.map (·.1) := fun c => by
            obtain ⟨p, hp, ep⟩ := List.mem_map.mp c
            have hp' : (x.s, p.2) ∈ ps := by rw [← ep]; exact hp
            rw [pk_val hN.nk hp'] at hv
            cases hv
          have nqD : q ≠ D := fun e => by
            rw [e, hN.d] at hq
            cases hq
          have hq2 : (upd (upd H1 q (.lst [])) D (.dK (putK (ps.map pk) (.inr x.s) (.ref q)))) q = some (.lst []) := (upd_ne nqD).trans upd_same
          refine ⟨.inl ⟨rfl, _, SqL.of hq2⟩, _, rfl, q, _, _, rfl, rfl, hq2, Nat.lt_of_le_of_lt (Nat.zero_le 1000) (by decide), ?_⟩
          refine ⟨_, _, _, _, ps ++ [(x.s, q)], rfl, ?_, by rw [List.length_append, List.length_singleton]; omega⟩
          rw [ec]
          exact hN.new hk hq
      · rintro σ H1 ⟨v3, v4, v5, v6, ps, rfl, hN, pl⟩
        rw [ul, List.take_length] at hN
        -- found: the starts
        rcases hb with hb | hb
        · refine .inl ⟨_, rfl, b, rfl, ⟨_, Same.seq hN.same hb⟩, fun d hd => dc_it walk_list (fun i H' => ∃ F : List PySem.Str, H' d = some (.dK (F.map fT)) ∧ Same H1 H' ∧ F.Nodup ∧ (∀ z, z ∈ F ↔ z ∈ ss.take i) ∧ F.length ≤ i) ⟨[], upd_same, same_new hd, .nil, fun z => Iff.rfl, Nat.le_refl _⟩ (fun i H' _ ⟨_, _, h, _⟩ => Same.seq (hN.same.trans h) hb) ?_ ?_⟩
          · rintro i x H2 _ hi ⟨F, h2, hs, nd, hm, hl⟩ ⟨rfl, hx⟩
            obtain ⟨u, rfl, hu⟩ := map_str hx
            rw [List.length_map] at hi
            have tk : ss.take (i + 1) = ss.take i ++ [u] := by rw [List.take_add_one, hu]; rfl
            refine ⟨rfl, _, rfl, F.map fT, .inr u, rfl, h2, Nat.lt_of_le_of_lt (show _ ≤ 1000 by rw [List.length_map]; omega) (by decide), ?_⟩
            by_cases c : u ∈ F
            · refine ⟨F, ?_, same_mut hs hd, nd, fun z => ?_, by omega⟩
              · rw [put_fT_in c]
                exact upd_same
              · rw [tk, List.mem_append, ← hm, List.mem_singleton]
                exact ⟨.inl, fun h => h.elim id fun e => by rw [e]; exact c⟩
            · refine ⟨F ++ [u], ?_, same_mut hs hd, nodup_snoc2 nd c, fun z => ?_, by rw [List.length_append, List.length_singleton]; omega⟩
              · rw [put_fT_new c]
                exact upd_same
              · rw [tk, List.mem_append, List.mem_append, ← hm]
          rintro H2 ⟨F, h2, s2, nd, hm, hl⟩
          rw [List.length_map, List.take_length] at hm
          -- waiting: all of them
          refine ⟨_, rfl, d, _, rfl, .inl h2, fun wq hwq => ?_⟩
          have ewl : (F.map fT).map (fun kv => kV kv.1) = F.map V.str := by
            rw [List.map_map]
            rfl
          rw [ewl]
          have s3 : Same H2 (upd H2 wq (.lst (F.map V.str))) := same_new hwq
          have S3 := (hN.same.trans s2).trans s3
          have dN : H1 d = none := hd
          have wN : H1 wq = none := s2.free hwq
          have ndw : d ≠ wq := ne_of_none h2 hwq
          refine ⟨fun mm σ' H' => ∃ (v3 v5 v9 : Option V) (F W : List PySem.Str), σ' = [some (.ref b), some (.ref a), some (.ref D), v3, v4, v5, v6, some (.ref d), some (.ref wq), v9] ∧ H' d = some (.dK (F.map fT)) ∧ H' wq = some (.lst (W.map V.str)) ∧ Sch xs ss F W ∧ Same H1 H' ∧ W.length + 2 * (ss.length + xs.length - F.length) ≤ mm ∧ W.length ≤ F.length, ⟨F.length + 2 * (ss.length + xs.length - F.length), _, _, _, F, F, rfl, s3 _ _ h2, upd_same, ⟨nd, fun s hs => (hm s).mpr hs, fun s hs => hs, fun x _ h1 h2 => absurd h1 h2, fun s hs => List.mem_append_left _ ((hm s).mp hs)⟩, s2.trans s3, Nat.le_refl _, Nat.le_refl _⟩, ?_⟩
          rintro mm σ' H3 ⟨v3, v5, v9, F, W, rfl, h3, hw3, hS, hs3, hmm, hWF⟩
          have hFl := hS.len
          refine ⟨_, rfl, _, .inl ⟨_, SqL.of hw3, rfl⟩, ?_⟩
          by_cases cW : W = []
          · subst cW
            refine iteF ⟨_, rfl, ?_⟩
            exact k d F H3 (hN.same.free dN) h3 hS.nd hS.st (fun x hx hf => hS.cl x hx hf List.not_mem_nil) hS.sub (hN.same.trans hs3)
          · obtain ⟨W0, here, eW⟩ : ∃ W0 here, W = W0 ++ [here] := ⟨W.dropLast, W.getLast cW, (List.dropLast_concat_getLast cW).symm⟩
            subst eW
            have eE : (!((W0 ++ [here]).map V.str).isEmpty) = true := by simp
            rw [eE]
            refine iteT ?_
            rw [List.length_append, List.length_singleton] at hmm hWF
            refine ⟨fun σ' H' => ∃ (v3 v5 v9 : Option V) (F W : List PySem.Str), σ' = [some (.ref b), some (.ref a), some (.ref D), v3, v4, v5, v6, some (.ref d), some (.ref wq), v9] ∧ H' d = some (.dK (F.map fT)) ∧ H' wq = some (.lst (W.map V.str)) ∧ Sch xs ss F W ∧ Same H1 H' ∧ W.length + 2 * (ss.length + xs.length - F.length) ≤ mm - 1 ∧ W.length ≤ F.length, fun σ' H' h => ⟨mm - 1, by omega, h⟩, ?_⟩
            -- the last one
            have eL : ((W0 ++ [here]).map V.str)[((W0 ++ [here]).map V.str).length - 1]? = some (.str here) := by
              rw [List.map_append, List.length_append]
              simp
            have eD : ((W0 ++ [here]).map V.str).dropLast = W0.map V.str := by
              rw [List.map_append]
              simp
            refine ⟨_, rfl, .inl ⟨rfl, _, SqL.of hw3⟩, wq, _, _, rfl, rfl, hw3, eL, ?_⟩
            rw [eD]
            have s4 : Same H1 (upd H3 wq (.lst (W0.map V.str))) := same_mut hs3 wN
            have h4 : (upd H3 wq (.lst (W0.map V.str))) d = some (.dK (F.map fT)) := (upd_ne ndw).trans h3
            have w4 : (upd H3 wq (.lst (W0.map V.str))) wq = some (.lst (W0.map V.str)) := upd_same
            generalize upd H3 wq (.lst (W0.map V.str)) = H4 at s4 h4 w4
            have gN : DGet H4 D (.str here) (valV (ps.map pk) (.inr here)) := DGet.k (k := .inr here) (s4 _ _ hN.d)
            -- what it leads to
            refine ⟨_, rfl, D, rfl, .inl ⟨_, .inl (s4 _ _ hN.d)⟩, _, rfl, Nat.zero_le _, fun q0 hq0 => ?_⟩
            have s5 : Same H4 (upd H4 q0 (.lst [])) := same_new hq0
            obtain ⟨ql, eq, hql, cq⟩ : ∃ ql, (valV (ps.map pk) (.inr here)).getD (.ref q0) = .ref ql ∧ (upd H4 q0 (.lst [])) ql = some (.lst (((xs.filter fun x => decide (x.s = here)).map Arw.t).map V.str)) ∧ ql ≠ wq := by
              by_cases hk : here ∈ ps.map (·.1)
              · obtain ⟨p, hp, ep⟩ := List.mem_map.mp hk
                have hp' : (here, p.2) ∈ ps := by rw [← ep]; exact hp
                exact ⟨p.2, by rw [pk_val hN.nk hp']; rfl, s5 _ _ (s4 _ _ (hN.each _ hp').2.2), ne_of_none (hN.each _ hp').2.2 wN⟩
              · refine ⟨q0, by rw [valV_none (fun c => hk (pk_mem.mp c))]; rfl, ?_, (ne_of_none w4 hq0).symm⟩
                have := hN.no here hk
                have e : ((xs.filter fun x => decide (x.s = here)).map Arw.t) = [] := this
                rw [e]
                exact upd_same
            have S5 := s4.trans s5
            have h5 := s5 _ _ h4
            have w5 := s5 _ _ w4
            have d5 : DGet (upd H4 q0 (.lst [])) D (.str here) (valV (ps.map pk) (.inr here)) := DGet.k (k := .inr here) (S5 _ _ hN.d)
            generalize upd H4 q0 (.lst []) = H5 at S5 h5 w5 hql d5
            generalize hts : (xs.filter fun x => decide (x.s = here)).map Arw.t = ts at hql
            have tsl : ts.length ≤ xs.length := by
              rw [← hts, List.length_map]
              exact List.length_filter_le ..
            have tsub : ∀ u ∈ ts, u ∈ ss ++ xs.map Arw.t := fun u hu => by
              rw [← hts] at hu
              obtain ⟨x, hx, rfl⟩ := List.mem_map.mp hu
              exact List.mem_append_right _ (List.mem_map.mpr ⟨x, (List.mem_filter.mp hx).1, rfl⟩)
            have dn5 : ∀ {r : Addr} {o : HO}, H1 r = some o → r ≠ d := fun e => ne_of_none e dN
            have nq : ql ≠ d := ne_of hql h5 (by intro z; cases z)
            refine ⟨_, d5, ql, eq, ⟨_, SqL.of hql⟩, ?_⟩
            refine for_list (K := K) (a := ql) (xs := ts.map V.str) (fun j σ H' => ∃ (v5 : Option V) (F' W' : List PySem.Str), σ = [some (.ref b), some (.ref a), some (.ref D), v3, v4, v5, v6, some (.ref d), some (.ref wq), some (.str here)] ∧ H' d = some (.dK (F'.map fT)) ∧ H' wq = some (.lst (W'.map V.str)) ∧ Trn xs ss F W0 (ts.take j) F' W' ∧ Same H1 H' ∧ H' ql = some (.lst (ts.map V.str))) ?_ (fun j σ H' _ ⟨_, _, _, _, _, _, _, _, h⟩ => SqL.of h) ?_ ?_
            · exact ⟨_, F, W0, rfl, h5, w5, ⟨hS.nd, fun s hs => hs, fun s hs => hs, fun s hs => .inl hs, fun s hs => hS.wf s (List.mem_append_left _ hs), fun s hs => (by cases hs), hS.sub, rfl⟩, S5, hql⟩
            · rintro j y σ H6 hj ⟨v5, F', W', rfl, h6, w6, hT, s6, hq6⟩
              obtain ⟨u, rfl, hu⟩ := map_str hj
              have tk : ts.take (j + 1) = ts.take j ++ [u] := by rw [List.take_add_one, hu]; rfl
              have F'l : F'.length ≤ ss.length + xs.length := by
                have := nodup_le hT.nd hT.sub
                rw [List.length_append, List.length_map] at this
                exact this
              have tlen := hT.len
              have gu : DGet H6 d (.str u) (valV (F'.map fT) (.inr u)) := DGet.k (k := .inr u) h6
              refine ⟨_, rfl, _, rfl, d, _, rfl, gu, ?_⟩
              rw [val_fT]
              by_cases c : u ∈ F'
              · rw [if_pos c]
                refine ⟨_, rfl, iteF ⟨_, F', W', rfl, h6, w6, ⟨hT.nd, hT.f0, hT.w0, hT.fw, hT.wf, fun s hs => ?_, hT.sub, hT.len⟩, s6, hq6⟩⟩
                rw [tk] at hs
                rcases List.mem_append.mp hs with h | h
                · exact hT.ts s h
                · rw [List.mem_singleton.mp h]
                  exact c
              · rw [if_neg c]
                have dp : DPut H6 d (.str u) (.bl true) _ := DPut.k (k := .inr u) h6 (Nat.lt_of_le_of_lt (show _ ≤ 2000 by rw [List.length_map]; omega) (by decide))
                refine ⟨_, rfl, iteT ⟨_, rfl, _, rfl, d, _, rfl, dp, ?_⟩⟩
                rw [put_fT_new c]
                have w7 : (upd H6 d (.dK ((F' ++ [u]).map fT))) wq = some (.lst (W'.map V.str)) := (upd_ne ndw.symm).trans w6
                refine ⟨_, rfl, .inl ⟨rfl, _, SqL.of w7⟩, _, rfl, wq, _, _, rfl, rfl, w7, Nat.lt_of_le_of_lt (show _ ≤ 4000 by rw [List.length_map]; omega) (by decide), ?_⟩
                refine ⟨_, F' ++ [u], W' ++ [u], rfl, (upd_ne ndw).trans upd_same, upd_same.trans (by rw [show (W' ++ [u]).map V.str = W'.map V.str ++ [V.str u] from List.map_append]), ⟨nodup_snoc2 hT.nd c, fun s hs => List.mem_append_left _ (hT.f0 s hs), fun s hs => List.mem_append_left _ (hT.w0 s hs), fun s hs => ?_, fun s hs => ?_, fun s hs => ?_, fun s hs => ?_, ?_⟩, same_mut (same_mut s6 dN) wN, (upd_ne cq).trans ((upd_ne nq).trans hq6)⟩
                · rcases List.mem_append.mp hs with h | h
                  · exact (hT.fw s h).imp id fun h => List.mem_append_left _ h
                  · exact .inr (List.mem_append_right _ h)
                · rcases List.mem_append.mp hs with h | h
                  · exact List.mem_append_left _ (hT.wf s h)
                  · exact List.mem_append_right _ h
                · rw [tk] at hs
                  rcases List.mem_append.mp hs with h | h
                  · exact List.mem_append_left _ (hT.ts s h)
                  · exact List.mem_append_right _ h
                · rcases List.mem_append.mp hs with h | h
                  · exact hT.sub s h
                  · rw [List.mem_singleton.mp h]
                    exact tsub u (List.mem_of_getElem? hu)
                · rw [List.length_append, List.length_append, List.length_singleton]
                  omega
            · rintro σ H6 ⟨v5, F', W', rfl, h6, w6, hT, s6, hq6⟩
              rw [List.length_map, List.take_length, ← hts] at hT
              have tlen := hT.len
              have hF0 := nodup_le hS.nd hT.f0
              have hS' := hT.turn hS
              have F'l := hS'.len
              exact ⟨_, _, _, F', W', rfl, h6, w6, hS', s6, by omega, by omega⟩
        · refine .inr ⟨_, rfl, b, rfl, ⟨_, sqt_same hN.same hb⟩, fun d hd => dc_it walk_tup (fun i H' => ∃ F : List PySem.Str, H' d = some (.dK (F.map fT)) ∧ Same H1 H' ∧ F.Nodup ∧ (∀ z, z ∈ F ↔ z ∈ ss.take i) ∧ F.length ≤ i) ⟨[], upd_same, same_new hd, .nil, fun z => Iff.rfl, Nat.le_refl _⟩ (fun i H' _ ⟨_, _, h, _⟩ => sqt_same (hN.same.trans h) hb) ?_ ?_⟩
          · rintro i x H2 _ hi ⟨F, h2, hs, nd, hm, hl⟩ ⟨rfl, hx⟩
            obtain ⟨u, rfl, hu⟩ := map_str hx
            rw [List.length_map] at hi
            have tk : ss.take (i + 1) = ss.take i ++ [u] := by rw [List.take_add_one, hu]; rfl
            refine ⟨rfl, _, rfl, F.map fT, .inr u, rfl, h2, Nat.lt_of_le_of_lt (show _ ≤ 1000 by rw [List.length_map]; omega) (by decide), ?_⟩
            by_cases c : u ∈ F
            · refine ⟨F, ?_, same_mut hs hd, nd, fun z => ?_, by omega⟩
              · rw [put_fT_in c]
                exact upd_same
              · rw [tk, List.mem_append, ← hm, List.mem_singleton]
                exact ⟨.inl, fun h => h.elim id fun e => by rw [e]; exact c⟩
            · refine ⟨F ++ [u], ?_, same_mut hs hd, nodup_snoc2 nd c, fun z => ?_, by rw [List.length_append, List.length_singleton]; omega⟩
              · rw [put_fT_new c]
                exact upd_same
              · rw [tk, List.mem_append, List.mem_append, ← hm]
          rintro H2 ⟨F, h2, s2, nd, hm, hl⟩
          rw [List.length_map, List.take_length] at hm
          -- waiting: all of them
          refine ⟨_, rfl, d, _, rfl, .inl h2, fun wq hwq => ?_⟩
          have ewl : (F.map fT).map (fun kv => kV kv.1) = F.map V.str := by
            rw [List.map_map]
            rfl
          rw [ewl]
          have s3 : Same H2 (upd H2 wq (.lst (F.map V.str))) := same_new hwq
          have S3 := (hN.same.trans s2).trans s3
          have dN : H1 d = none := hd
          have wN : H1 wq = none := s2.free hwq
          have ndw : d ≠ wq := ne_of_none h2 hwq
          refine ⟨fun mm σ' H' => ∃ (v3 v5 v9 : Option V) (F W : List PySem.Str), σ' = [some (.ref b), some (.ref a), some (.ref D), v3, v4, v5, v6, some (.ref d), some (.ref wq), v9] ∧ H' d = some (.dK (F.map fT)) ∧ H' wq = some (.lst (W.map V.str)) ∧ Sch xs ss F W ∧ Same H1 H' ∧ W.length + 2 * (ss.length + xs.length - F.length) ≤ mm ∧ W.length ≤ F.length, ⟨F.length + 2 * (ss.length + xs.length - F.length), _, _, _, F, F, rfl, s3 _ _ h2, upd_same, ⟨nd, fun s hs => (hm s).mpr hs, fun s hs => hs, fun x _ h1 h2 => absurd h1 h2, fun s hs => List.mem_append_left _ ((hm s).mp hs)⟩, s2.trans s3, Nat.le_refl _, Nat.le_refl _⟩, ?_⟩
          rintro mm σ' H3 ⟨v3, v5, v9, F, W, rfl, h3, hw3, hS, hs3, hmm, hWF⟩
          have hFl := hS.len
          refine ⟨_, rfl, _, .inl ⟨_, SqL.of hw3, rfl⟩, ?_⟩
          by_cases cW : W = []
          · subst cW
            refine iteF ⟨_, rfl, ?_⟩
            exact k d F H3 (hN.same.free dN) h3 hS.nd hS.st (fun x hx hf => hS.cl x hx hf List.not_mem_nil) hS.sub (hN.same.trans hs3)
          · obtain ⟨W0, here, eW⟩ : ∃ W0 here, W = W0 ++ [here] := ⟨W.dropLast, W.getLast cW, (List.dropLast_concat_getLast cW).symm⟩
            subst eW
            have eE : (!((W0 ++ [here]).map V.str).isEmpty) = true := by simp
            rw [eE]
            refine iteT ?_
            rw [List.length_append, List.length_singleton] at hmm hWF
            refine ⟨fun σ' H' => ∃ (v3 v5 v9 : Option V) (F W : List PySem.Str), σ' = [some (.ref b), some (.ref a), some (.ref D), v3, v4, v5, v6, some (.ref d), some (.ref wq), v9] ∧ H' d = some (.dK (F.map fT)) ∧ H' wq = some (.lst (W.map V.str)) ∧ Sch xs ss F W ∧ Same H1 H' ∧ W.length + 2 * (ss.length + xs.length - F.length) ≤ mm - 1 ∧ W.length ≤ F.length, fun σ' H' h => ⟨mm - 1, by omega, h⟩, ?_⟩
            -- the last one
            have eL : ((W0 ++ [here]).map V.str)[((W0 ++ [here]).map V.str).length - 1]? = some (.str here) := by
              rw [List.map_append, List.length_append]
              simp
            have eD : ((W0 ++ [here]).map V.str).dropLast = W0.map V.str := by
              rw [List.map_append]
              simp
            refine ⟨_, rfl, .inl ⟨rfl, _, SqL.of hw3⟩, wq, _, _, rfl, rfl, hw3, eL, ?_⟩
            rw [eD]
            have s4 : Same H1 (upd H3 wq (.lst (W0.map V.str))) := same_mut hs3 wN
            have h4 : (upd H3 wq (.lst (W0.map V.str))) d = some (.dK (F.map fT)) := (upd_ne ndw).trans h3
            have w4 : (upd H3 wq (.lst (W0.map V.str))) wq = some (.lst (W0.map V.str)) := upd_same
            generalize upd H3 wq (.lst (W0.map V.str)) = H4 at s4 h4 w4
            have gN : DGet H4 D (.str here) (valV (ps.map pk) (.inr here)) := DGet.k (k := .inr here) (s4 _ _ hN.d)
            -- what it leads to
            refine ⟨_, rfl, D, rfl, .inl ⟨_, .inl (s4 _ _ hN.d)⟩, _, rfl, Nat.zero_le _, fun q0 hq0 => ?_⟩
            have s5 : Same H4 (upd H4 q0 (.lst [])) := same_new hq0
            obtain ⟨ql, eq, hql, cq⟩ : ∃ ql, (valV (ps.map pk) (.inr here)).getD (.ref q0) = .ref ql ∧ (upd H4 q0 (.lst [])) ql = some (.lst (((xs.filter fun x => decide (x.s = here)).map Arw.t).map V.str)) ∧ ql ≠ wq := by
              by_cases hk : here ∈ ps.map (·.1)
              · obtain ⟨p, hp, ep⟩ := List.mem_map.mp hk
                have hp' : (here, p.2) ∈ ps := by rw [← ep]; exact hp
                exact ⟨p.2, by rw [pk_val hN.nk hp']; rfl, s5 _ _ (s4 _ _ (hN.each _ hp').2.2), ne_of_none (hN.each _ hp').2.2 wN⟩
              · refine ⟨q0, by rw [valV_none (fun c => hk (pk_mem.mp c))]; rfl, ?_, (ne_of_none w4 hq0).symm⟩
                have := hN.no here hk
                have e : ((xs.filter fun x => decide (x.s = here)).map Arw.t) = [] := this
                rw [e]
                exact upd_same
            have S5 := s4.trans s5
            have h5 := s5 _ _ h4
            have w5 := s5 _ _ w4
            have d5 : DGet (upd H4 q0 (.lst [])) D (.str here) (valV (ps.map pk) (.inr here)) := DGet.k (k := .inr here) (S5 _ _ hN.d)
            generalize upd H4 q0 (.lst []) = H5 at S5 h5 w5 hql d5
            generalize hts : (xs.filter fun x => decide (x.s = here)).map Arw.t = ts at hql
            have tsl : ts.length ≤ xs.length := by
              rw [← hts, List.length_map]
              exact List.length_filter_le ..
            have tsub : ∀ u ∈ ts, u ∈ ss ++ xs.map Arw.t := fun u hu => by
              rw [← hts] at hu
              obtain ⟨x, hx, rfl⟩ := List.mem_map.mp hu
              exact List.mem_append_right _ (List.mem_map.mpr ⟨x, (List.mem_filter.mp hx).1, rfl⟩)
            have dn5 : ∀ {r : Addr} {o : HO}, H1 r = some o → r ≠ d := fun e => ne_of_none e dN
            have nq : ql ≠ d := ne_of hql h5 (by intro z; cases z)
            refine ⟨_, d5, ql, eq, ⟨_, SqL.of hql⟩, ?_⟩
            refine for_list (K := K) (a := ql) (xs := ts.map V.str) (fun j σ H' => ∃ (v5 : Option V) (F' W' : List PySem.Str), σ = [some (.ref b), some (.ref a), some (.ref D), v3, v4, v5, v6, some (.ref d), some (.ref wq), some (.str here)] ∧ H' d = some (.dK (F'.map fT)) ∧ H' wq = some (.lst (W'.map V.str)) ∧ Trn xs ss F W0 (ts.take j) F' W' ∧ Same H1 H' ∧ H' ql = some (.lst (ts.map V.str))) ?_ (fun j σ H' _ ⟨_, _, _, _, _, _, _, _, h⟩ => SqL.of h) ?_ ?_
            · exact ⟨_, F, W0, rfl, h5, w5, ⟨hS.nd, fun s hs => hs, fun s hs => hs, fun s hs => .inl hs, fun s hs => hS.wf s (List.mem_append_left _ hs), fun s hs => (by cases hs), hS.sub, rfl⟩, S5, hql⟩
            · rintro j y σ H6 hj ⟨v5, F', W', rfl, h6, w6, hT, s6, hq6⟩
              obtain ⟨u, rfl, hu⟩ := map_str hj
              have tk : ts.take (j + 1) = ts.take j ++ [u] := by rw [List.take_add_one, hu]; rfl
              have F'l : F'.length ≤ ss.length + xs.length := by
                have := nodup_le hT.nd hT.sub
                rw [List.length_append, List.length_map] at this
                exact this
              have tlen := hT.len
              have gu : DGet H6 d (.str u) (valV (F'.map fT) (.inr u)) := DGet.k (k := .inr u) h6
              refine ⟨_, rfl, _, rfl, d, _, rfl, gu, ?_⟩
              rw [val_fT]
              by_cases c : u ∈ F'
              · rw [if_pos c]
                refine ⟨_, rfl, iteF ⟨_, F', W', rfl, h6, w6, ⟨hT.nd, hT.f0, hT.w0, hT.fw, hT.wf, fun s hs => ?_, hT.sub, hT.len⟩, s6, hq6⟩⟩
                rw [tk] at hs
                rcases List.mem_append.mp hs with h | h
                · exact hT.ts s h
                · rw [List.mem_singleton.mp h]
                  exact c
              · rw [if_neg c]
                have dp : DPut H6 d (.str u) (.bl true) _ := DPut.k (k := .inr u) h6 (Nat.lt_of_le_of_lt (show _ ≤ 2000 by rw [List.length_map]; omega) (by decide))
                refine ⟨_, rfl, iteT ⟨_, rfl, _, rfl, d, _, rfl, dp, ?_⟩⟩
                rw [put_fT_new c]
                have w7 : (upd H6 d (.dK ((F' ++ [u]).map fT))) wq = some (.lst (W'.map V.str)) := (upd_ne ndw.symm).trans w6
                refine ⟨_, rfl, .inl ⟨rfl, _, SqL.of w7⟩, _, rfl, wq, _, _, rfl, rfl, w7, Nat.lt_of_le_of_lt (show _ ≤ 4000 by rw [List.length_map]; omega) (by decide), ?_⟩
                refine ⟨_, F' ++ [u], W' ++ [u], rfl, (upd_ne ndw).trans upd_same, upd_same.trans (by rw [show (W' ++ [u]).map V.str = W'.map V.str ++ [V.str u] from List.map_append]), ⟨nodup_snoc2 hT.nd c, fun s hs => List.mem_append_left _ (hT.f0 s hs), fun s hs => List.mem_append_left _ (hT.w0 s hs), fun s hs => ?_, fun s hs => ?_, fun s hs => ?_, fun s hs => ?_, ?_⟩, same_mut (same_mut s6 dN) wN, (upd_ne cq).trans ((upd_ne nq).trans hq6)⟩
                · rcases List.mem_append.mp hs with h | h
                  · exact (hT.fw s h).imp id fun h => List.mem_append_left _ h
                  · exact .inr (List.mem_append_right _ h)
                · rcases List.mem_append.mp hs with h | h
                  · exact List.mem_append_left _ (hT.wf s h)
                  · exact List.mem_append_right _ h
                · rw [tk] at hs
                  rcases List.mem_append.mp hs with h | h
                  · exact List.mem_append_left _ (hT.ts s h)
                  · exact List.mem_append_right _ h
                · rcases List.mem_append.mp hs with h | h
                  · exact hT.sub s h
                  · rw [List.mem_singleton.mp h]
                    exact tsub u (List.mem_of_getElem? hu)
                · rw [List.length_append, List.length_append, List.length_singleton]
                  omega
            · rintro σ H6 ⟨v5, F', W', rfl, h6, w6, hT, s6, hq6⟩
              rw [List.length_map, List.take_length, ← hts] at hT
              have tlen := hT.len
              have hF0 := nodup_le hS.nd hT.f0
              have hS' := hT.turn hS
              have F'l := hS'.len
              exact ⟨_, _, _, F', W', rfl, h6, w6, hS', s6, by omega, by omega⟩

end
end Pf

namespace Pf
open PySem PySem.Spec PyProof.Rows L2 Bz
local macro_rules | `(tactic| walk_at "sd") => `(tactic| first
  | rfl | assumption | omega | exact Nat.le_of_ble_eq_true rfl | decide | (refine Or.inl (And.intro ?_ ?_) <;> omega) | (refine Or.inr (And.intro ?_ ?_) <;> omega) | (refine And.intro ?_ ?_ <;> omega) | (refine ⟨?_, ?_, ?_⟩ <;> omega))
local macro_rules | `(tactic| walk_at "sq") => `(tactic| first | assumption | exact SqL.of (by assumption) | exact SqT.of (by assumption) | exact SqL.of upd_same | exact SqT.of upd_same)
local macro_rules | `(tactic| walk_at "hp") => `(tactic| first | assumption | exact upd_same)
local macro_rules | `(tactic| walk_at "rd") => `(tactic| repeat (first
  | (refine ⟨_, rfl, ?_⟩) | (refine ⟨_, _, rfl, rfl, ?_⟩) | (refine ⟨rfl, ?_⟩) | (refine And.intro (by walk_at "sd") ?_)
  | (refine ⟨_, _, _, _, rfl, rfl, (by walk_at "sq"), rfl, ?_⟩)
  | (refine ⟨_, _, _, _, rfl, rfl, (by walk_at "hp"), rfl, ?_⟩)
  | (refine Or.inl ⟨_, rfl, ?_⟩)))
section
variable {P : Program} {w : World} {K : PySem.W.Frag} {mg : PySem.Str → Option Value} {base : Heap} {kl : Cl}
theorem ok_useful (T : Facts K mg kl) : Keeps P w K mg base CX0 2 "useful" ["arrows", "starts", "ends"] (spUseful K) := by
  refine keeps0 T.d_useful sc_useful (fun vs H Q E h => ?_) (fun f cdv A outer s H vs Q E hr h => ?_)
  · obtain ⟨a, b, e, us, xs, ss, es, rfl, _⟩ := h
    rfl
  · obtain ⟨a, b, e, us, xs, ss, es, rfl, ha, hA, hb, he, xl, sl, el, k⟩ := h
    refine ⟨_, (pss_cons (ps_set (i := 3) sc_useful.nd rfl (Or.inl rfl) (pe_own (ok_reached T) hr (pa_cons (pv 1) (pa_cons (pv 0) pa_nil))))
  (pss_cons (ps_set (i := 4) sc_useful.nd rfl (Or.inr rfl) (pe_own (ok_reached T) hr (pa_cons (pv 2) (pa_cons (pe_own (ok_backward T) hr (pa_cons (pv 0) pa_nil)) pa_nil))))
  (pss_cons (ps_set (i := 5) sc_useful.nd rfl (Or.inr rfl) (pe_lock (pe_dc (own := [("state", 6)]) (g := gName 6) rfl sc_useful.nd (pi_keys (pv 3)) (blkOk_by (own := [("state", 6)]) (N := N_useful) (sc := defScope s_useful) (by decide +kernel)) (fun _ _ _ _ _ => (pg_name (i := 6) sc_useful.nd rfl (Or.inl rfl))) (fun _ _ _ _ _ => pts_one (pt_cmp (pc_din (hu_of hr) (pv 6) (pv 4)))) (fun _ _ _ _ _ => (pv 6)) (fun _ _ _ _ _ => pe_bl))))
  (pss_one (ps_ret (pe_tup (pa_cons (pe_own (ok_cheapest T) hr (pa_cons (pe_lc (own := [("arrow", 7)]) (g := gName 7) rfl sc_useful.nd (pi_or (kpi_list K (pv 0)) (kpi_tup K (pv 0))) (blkOk_by (own := [("arrow", 7)]) (N := N_useful) (sc := defScope s_useful) (by decide +kernel)) (fun _ _ _ _ _ => (pg_name (i := 7) sc_useful.nd rfl (Or.inl rfl))) (fun _ _ _ _ _ => pts_one (PW.pt (pw_and (pt_cmp (pc_din (hu_of hr) (pe_ix (kix_tup K) (pv 7) pe_int (fun _ _ => rfl)) (pv 5))) (pw_and1 (pt_cmp (pc_din (hu_of hr) (pe_ix (kix_tup K) (pv 7) pe_int (fun _ _ => rfl)) (pv 5))))))) (fun _ _ _ _ _ => (pv 7))) pa_nil)) (pa_cons (pe_lc (own := [("state", 6)]) (g := gName 6) rfl sc_useful.nd (pi_or (kpi_list K (pv 1)) (kpi_tup K (pv 1))) (blkOk_by (own := [("state", 6)]) (N := N_useful) (sc := defScope s_useful) (by decide +kernel)) (fun _ _ _ _ _ => (pg_name (i := 6) sc_useful.nd rfl (Or.inl rfl))) (fun _ _ _ _ _ => pts_one (pt_cmp (pc_din (hu_of hr) (pv 6) (pv 5)))) (fun _ _ _ _ _ => (pv 6))) (pa_cons (pe_lc (own := [("state", 6)]) (g := gName 6) rfl sc_useful.nd (pi_or (kpi_list K (pv 2)) (kpi_tup K (pv 2))) (blkOk_by (own := [("state", 6)]) (N := N_useful) (sc := defScope s_useful) (by decide +kernel)) (fun _ _ _ _ _ => (pg_name (i := 6) sc_useful.nd rfl (Or.inl rfl))) (fun _ _ _ _ _ => pts_one (pt_cmp (pc_din (hu_of hr) (pv 6) (pv 5)))) (fun _ _ _ _ _ => (pv 6))) pa_nil))))))))), ?_⟩
    have ul : us.length = xs.length := Paired.length hA
    refine ⟨_, rfl, _, rfl, b, a, us, xs, ss, rfl, hb, .inl ha, hA, by omega, by omega, fun d1 F1 H1 f1 h1 n1 st1 cl1 sub1 s1 => ?_⟩
    refine ⟨_, rfl, _, rfl, a, us, xs, rfl, .inl (s1.seq ha), hA.same s1, by omega, fun q ws H2 f2 h2 hW s2 => ?_⟩
    refine ⟨e, q, ws, xs.map swapA, es, rfl, he.same (s1.trans s2), .inl (SqL.of h2), hW, by omega, by rw [List.length_map]; omega, fun d2 F2 H3 f3 h3 n2 st2 cl2 sub2 s3 => ?_⟩
    have hK : Kept xs ss es F1 F2 := ⟨st1, cl1, st2, fun x hx h => cl2 (swapA x) (List.mem_map.mpr ⟨x, hx, rfl⟩) h, sub1⟩
    have S3 := (s1.trans s2).trans s3
    have h13 := (s2.trans s3) _ _ h1
    have F1l : F1.length ≤ ss.length + xs.length := by
      have := nodup_le n1 sub1
      rw [List.length_append, List.length_map] at this
      exact this
    have n12 : d2 ≠ d1 := fun e => by
      rw [e, s2 _ _ h1] at f3
      cases f3
    -- those on some run
    refine ⟨d1, _, h13, trivial, fun od => ?_⟩
    refine ⟨_, rfl, d1, od, rfl, .inl ⟨_, upd_same, fun d hd => ?_⟩⟩
    have sf : ∀ {r : Addr} {o : HO}, r ≠ d1 → H3 r = some o → (upd H3 d1 (.frz od (.dK (F1.map fT)))) r = some o := fun n e => (upd_ne n).trans e
    have ndd : d ≠ d1 := fun e => by
      rw [e, upd_same] at hd
      cases hd
    have hd3 : H3 d = none := by
      rw [upd_ne ndd] at hd
      exact hd
    refine dc_it walk_keys (fun i H' => ∃ F : List PySem.Str, H' d = some (.dK (F.map fT)) ∧ Same (upd H3 d1 (.frz od (.dK (F1.map fT)))) H' ∧ (∀ z, z ∈ F ↔ z ∈ F1.take i ∧ z ∈ F2) ∧ F.length ≤ i) ⟨[], upd_same, same_new hd, fun z => ⟨fun h => (by cases h), fun h => (by cases h.1)⟩, Nat.le_refl _⟩ (fun i H' _ ⟨_, _, h, _⟩ => h _ _ upd_same) ?_ ?_
    · rintro i x _ H4 hi ⟨F, h4, hs, hm, hl⟩ ⟨rfl, kk, v, hkv, rfl⟩
      rw [List.length_map] at hi
      obtain ⟨u, hu, eu⟩ : ∃ u, F1[i]? = some u ∧ fT u = (kk, v) := by
        rw [List.getElem?_map] at hkv
        exact Option.map_eq_some_iff.mp hkv
      cases eu
      have tk : F1.take (i + 1) = F1.take i ++ [u] := by rw [List.take_add_one, hu]; rfl
      have gu : DGet H4 d2 (.str u) (valV (F2.map fT) (.inr u)) := DGet.k (k := .inr u) (hs _ _ (sf n12 h3))
      refine ⟨rfl, _, rfl, _, rfl, d2, _, rfl, gu, ?_⟩
      rw [val_fT]
      by_cases c : u ∈ F2
      · rw [if_pos c]
        refine ⟨_, rfl, iteT ?_⟩
        refine ⟨_, rfl, F.map fT, .inr u, rfl, h4, Nat.lt_of_le_of_lt (show _ ≤ 2000 by rw [List.length_map]; omega) (by decide), ?_⟩
        by_cases c2 : u ∈ F
        · refine ⟨F, ?_, same_mut hs hd, fun z => ?_, by omega⟩
          · rw [put_fT_in c2]
            exact upd_same
          · rw [tk, List.mem_append, hm, List.mem_singleton]
            exact ⟨fun h => ⟨.inl h.1, h.2⟩, fun h => h.1.elim (fun h1 => ⟨h1, h.2⟩) fun e => by rw [e]; exact (hm u).mp c2⟩
        · refine ⟨F ++ [u], ?_, same_mut hs hd, fun z => ?_, by rw [List.length_append, List.length_singleton]; omega⟩
          · rw [put_fT_new c2]
            exact upd_same
          · rw [tk, List.mem_append, List.mem_append, hm, List.mem_singleton]
            exact ⟨fun h => h.elim (fun h => ⟨.inl h.1, h.2⟩) fun e => ⟨.inr e, by rw [e]; exact c⟩, fun h => h.1.elim (fun h1 => .inl ⟨h1, h.2⟩) .inr⟩
      · rw [if_neg c]
        refine ⟨_, rfl, iteF ⟨F, h4, hs, fun z => ?_, by omega⟩⟩
        rw [tk, List.mem_append, hm, List.mem_singleton]
        exact ⟨fun h => ⟨.inl h.1, h.2⟩, fun h => h.1.elim (fun h1 => ⟨h1, h.2⟩) fun e => absurd (by rw [← e]; exact h.2) c⟩
    rintro H4 ⟨F, h4, hs4, hm, hl4⟩
    rw [List.length_map, List.take_length] at hm
    refine ⟨hs4 _ _ upd_same, ?_⟩
    have s5 : Same H3 (upd H4 d1 (.dK (F1.map fT))) := fun r o er => by
      by_cases c : r = d1
      · subst c
        rw [h13] at er
        rw [upd_same]
        exact er
      · rw [upd_ne c]
        exact hs4 _ _ (sf c er)
    have h5 : (upd H4 d1 (.dK (F1.map fT))) d = some (.dK (F.map fT)) := (upd_ne ndd).trans h4
    generalize upd H4 d1 (.dK (F1.map fT)) = H5 at s5 h5
    have S5 := S3.trans s5
    have kpv : ∀ z, valV (F.map fT) (.inr z) = if kp F1 F2 z = true then some (.bl true) else none := fun z => by
      rw [val_fT]
      by_cases c : z ∈ F
      · rw [if_pos c, if_pos (kp_iff.mpr ((hm z).mp c))]
      · rw [if_neg c, if_neg fun q => c ((hm z).mpr (kp_iff.mp q))]
    -- the arrows
    refine .inl ⟨_, rfl, a, rfl, ⟨_, S5.seq ha⟩, fun D1 hD1 => lcA walk_list (fun i acc H' => ArD D1 H' acc ((xs.take i).filter (kpA F1 F2)) ∧ Same H5 H') ⟨.nil, .refl _⟩ (fun i acc H' o h => ⟨h.1.upd, same_mut h.2 hD1⟩) (fun i acc H' _ h => (S5.trans h.2).seq ha) ?_ ?_⟩
    · rintro i x acc _ H6 hi ⟨hz, hs6⟩ hB hl6 ⟨rfl, hx⟩
      obtain ⟨r, y, rfl, hy, hr0⟩ := ArS.get (hA.same S5) hx
      have hr6 := hs6 _ _ hr0
      have nr : r ≠ D1 := ne_of_none hr0 hD1
      have tk : xs.take (i + 1) = xs.take i ++ [y] := by rw [List.take_add_one, hy]; rfl
      have g1 : DGet H6 d (.str y.s) (valV (F.map fT) (.inr y.s)) := DGet.k (k := .inr y.s) (hs6 _ _ h5)
      have g2 : DGet H6 d (.str y.t) (valV (F.map fT) (.inr y.t)) := DGet.k (k := .inr y.t) (hs6 _ _ h5)
      refine ⟨rfl, _, rfl, r, _, 0, _, rfl, rfl, SqT.of hr6, rfl, _, rfl, d, _, rfl, g1, ?_⟩
      rw [kpv]
      by_cases c1 : kp F1 F2 y.s = true
      · rw [if_pos c1]
        refine ⟨_, rfl, iteT ⟨_, rfl, r, _, 2, _, rfl, rfl, SqT.of hr6, rfl, _, rfl, d, _, rfl, g2, ?_⟩⟩
        rw [kpv]
        by_cases c2 : kp F1 F2 y.t = true
        · rw [if_pos c2]
          refine ⟨_, rfl, iteT ⟨_, rfl, LcP.put (fun i acc H' o h => ⟨h.1.upd, same_mut h.2 hD1⟩) hB hl6 (by omega) ⟨?_, hs6⟩⟩⟩
          rw [tk, List.filter_append, List.filter_cons_of_pos (a := y) (by unfold kpA; rw [c1, c2]; rfl)]
          exact hz.snoc (x := y) nr hr6
        · rw [if_neg c2]
          refine ⟨_, rfl, iteF (LcP.skip hB hl6 ⟨?_, hs6⟩)⟩
          rw [tk, List.filter_append, List.filter_cons_of_neg (a := y) (by unfold kpA; rw [Bool.and_eq_true]; exact fun q => c2 q.2)]
          simpa using hz
      · rw [if_neg c1]
        refine ⟨_, rfl, iteF (iteF (LcP.skip hB hl6 ⟨?_, hs6⟩))⟩
        rw [tk, List.filter_append, List.filter_cons_of_neg (a := y) (by unfold kpA; rw [Bool.and_eq_true]; exact fun q => c1 q.1)]
        simpa using hz
    rintro acc H6 ⟨hz, hs6⟩ hB hl6
    rw [ul, List.take_length] at hz
    have fl : (xs.filter (kpA F1 F2)).length ≤ 900 := Nat.le_trans (List.length_filter_le ..) xl
    refine ⟨D1, acc, _, rfl, .inl (SqL.of hB), hz.ars, by omega, fun q1 wq yq H7 f7 h7 hW7 hC7 s7 => ?_⟩
    have S7 := (S5.trans hs6).trans s7
    have h57 := s7 _ _ (hs6 _ _ h5)
    -- the starts
    rcases hb with hb | hb
    · refine .inl ⟨_, rfl, b, rfl, ⟨_, Same.seq S7 hb⟩, fun D2 hD2 => lcA walk_list (fun i acc H' => acc = ((ss.take i).filter (kp F1 F2)).map V.str ∧ Same H7 H') ⟨rfl, .refl _⟩ (fun i acc H' o h => ⟨h.1, same_mut h.2 hD2⟩) (fun i acc H' _ h => Same.seq (S7.trans h.2) hb) ?_ ?_⟩
      · rintro i x acc _ H8 hi ⟨rfl, hs8⟩ hB8 hl8 ⟨rfl, hx⟩
        obtain ⟨u, rfl, hu⟩ := map_str hx
        rw [List.length_map] at hi
        have tk : ss.take (i + 1) = ss.take i ++ [u] := by rw [List.take_add_one, hu]; rfl
        have g1 : DGet H8 d (.str u) (valV (F.map fT) (.inr u)) := DGet.k (k := .inr u) (hs8 _ _ h57)
        refine ⟨rfl, _, rfl, _, rfl, d, _, rfl, g1, ?_⟩
        rw [kpv]
        by_cases c1 : kp F1 F2 u = true
        · rw [if_pos c1]
          refine ⟨_, rfl, iteT ⟨_, rfl, LcP.put (fun i acc H' o h => ⟨h.1, same_mut h.2 hD2⟩) hB8 hl8 (by omega) ⟨?_, hs8⟩⟩⟩
          rw [tk, List.filter_append, List.filter_cons_of_pos c1, List.map_append]
          rfl
        · rw [if_neg c1]
          refine ⟨_, rfl, iteF (LcP.skip hB8 hl8 ⟨?_, hs8⟩)⟩
          rw [tk, List.filter_append, List.filter_cons_of_neg c1]
          simp
      rintro acc2 H8 ⟨rfl, hs8⟩ hB8 hl8
      rw [List.length_map, List.take_length] at hB8
      have S8 := S7.trans hs8
      have h58 := hs8 _ _ h57
      -- the ends
      rcases he with he | he
      · refine .inl ⟨_, rfl, e, rfl, ⟨_, Same.seq S8 he⟩, fun D3 hD3 => lcA walk_list (fun i acc H' => acc = ((es.take i).filter (kp F1 F2)).map V.str ∧ Same H8 H') ⟨rfl, .refl _⟩ (fun i acc H' o h => ⟨h.1, same_mut h.2 hD3⟩) (fun i acc H' _ h => Same.seq (S8.trans h.2) he) ?_ ?_⟩
        · rintro i x acc _ H9 hi ⟨rfl, hs9⟩ hB9 hl9 ⟨rfl, hx⟩
          obtain ⟨u, rfl, hu⟩ := map_str hx
          rw [List.length_map] at hi
          have tk : es.take (i + 1) = es.take i ++ [u] := by rw [List.take_add_one, hu]; rfl
          have g1 : DGet H9 d (.str u) (valV (F.map fT) (.inr u)) := DGet.k (k := .inr u) (hs9 _ _ h58)
          refine ⟨rfl, _, rfl, _, rfl, d, _, rfl, g1, ?_⟩
          rw [kpv]
          by_cases c1 : kp F1 F2 u = true
          · rw [if_pos c1]
            refine ⟨_, rfl, iteT ⟨_, rfl, LcP.put (fun i acc H' o h => ⟨h.1, same_mut h.2 hD3⟩) hB9 hl9 (by omega) ⟨?_, hs9⟩⟩⟩
            rw [tk, List.filter_append, List.filter_cons_of_pos c1, List.map_append]
            rfl
          · rw [if_neg c1]
            refine ⟨_, rfl, iteF (LcP.skip hB9 hl9 ⟨?_, hs9⟩)⟩
            rw [tk, List.filter_append, List.filter_cons_of_neg c1]
            simp
        rintro acc3 H9 ⟨rfl, hs9⟩ hB9 hl9
        rw [List.length_map, List.take_length] at hB9
        refine ⟨Nat.le_of_ble_eq_true rfl, fun t ht => ?_⟩
        have s10 : Same H9 (upd H9 t (.tup [.ref q1, .ref D2, .ref D3])) := same_new ht
        have T10 := (hs8.trans hs9).trans s10
        exact k t q1 D2 D3 wq yq F1 F2 _ upd_same (T10 _ _ h7) (hW7.same T10) hC7 ((hs9.trans s10) _ _ hB8) (s10 _ _ hB9) hK ((S8.trans hs9).trans s10)
      · refine .inr ⟨_, rfl, e, rfl, ⟨_, sqt_same S8 he⟩, fun D3 hD3 => lcA walk_tup (fun i acc H' => acc = ((es.take i).filter (kp F1 F2)).map V.str ∧ Same H8 H') ⟨rfl, .refl _⟩ (fun i acc H' o h => ⟨h.1, same_mut h.2 hD3⟩) (fun i acc H' _ h => sqt_same (S8.trans h.2) he) ?_ ?_⟩
        · rintro i x acc _ H9 hi ⟨rfl, hs9⟩ hB9 hl9 ⟨rfl, hx⟩
          obtain ⟨u, rfl, hu⟩ := map_str hx
          rw [List.length_map] at hi
          have tk : es.take (i + 1) = es.take i ++ [u] := by rw [List.take_add_one, hu]; rfl
          have g1 : DGet H9 d (.str u) (valV (F.map fT) (.inr u)) := DGet.k (k := .inr u) (hs9 _ _ h58)
          refine ⟨rfl, _, rfl, _, rfl, d, _, rfl, g1, ?_⟩
          rw [kpv]
          by_cases c1 : kp F1 F2 u = true
          · rw [if_pos c1]
            refine ⟨_, rfl, iteT ⟨_, rfl, LcP.put (fun i acc H' o h => ⟨h.1, same_mut h.2 hD3⟩) hB9 hl9 (by omega) ⟨?_, hs9⟩⟩⟩
            rw [tk, List.filter_append, List.filter_cons_of_pos c1, List.map_append]
            rfl
          · rw [if_neg c1]
            refine ⟨_, rfl, iteF (LcP.skip hB9 hl9 ⟨?_, hs9⟩)⟩
            rw [tk, List.filter_append, List.filter_cons_of_neg c1]
            simp
        rintro acc3 H9 ⟨rfl, hs9⟩ hB9 hl9
        rw [List.length_map, List.take_length] at hB9
        refine ⟨Nat.le_of_ble_eq_true rfl, fun t ht => ?_⟩
        have s10 : Same H9 (upd H9 t (.tup [.ref q1, .ref D2, .ref D3])) := same_new ht
        have T10 := (hs8.trans hs9).trans s10
        exact k t q1 D2 D3 wq yq F1 F2 _ upd_same (T10 _ _ h7) (hW7.same T10) hC7 ((hs9.trans s10) _ _ hB8) (s10 _ _ hB9) hK ((S8.trans hs9).trans s10)
    · refine .inr ⟨_, rfl, b, rfl, ⟨_, sqt_same S7 hb⟩, fun D2 hD2 => lcA walk_tup (fun i acc H' => acc = ((ss.take i).filter (kp F1 F2)).map V.str ∧ Same H7 H') ⟨rfl, .refl _⟩ (fun i acc H' o h => ⟨h.1, same_mut h.2 hD2⟩) (fun i acc H' _ h => sqt_same (S7.trans h.2) hb) ?_ ?_⟩
      · rintro i x acc _ H8 hi ⟨rfl, hs8⟩ hB8 hl8 ⟨rfl, hx⟩
        obtain ⟨u, rfl, hu⟩ := map_str hx
        rw [List.length_map] at hi
        have tk : ss.take (i + 1) = ss.take i ++ [u] := by rw [List.take_add_one, hu]; rfl
        have g1 : DGet H8 d (.str u) (valV (F.map fT) (.inr u)) := DGet.k (k := .inr u) (hs8 _ _ h57)
        refine ⟨rfl, _, rfl, _, rfl, d, _, rfl, g1, ?_⟩
        rw [kpv]
        by_cases c1 : kp F1 F2 u = true
        · rw [if_pos c1]
          refine ⟨_, rfl, iteT ⟨_, rfl, LcP.put (fun i acc H' o h => ⟨h.1, same_mut h.2 hD2⟩) hB8 hl8 (by omega) ⟨?_, hs8⟩⟩⟩
          rw [tk, List.filter_append, List.filter_cons_of_pos c1, List.map_append]
          rfl
        · rw [if_neg c1]
          refine ⟨_, rfl, iteF (LcP.skip hB8 hl8 ⟨?_, hs8⟩)⟩
          rw [tk, List.filter_append, List.filter_cons_of_neg c1]
          simp
      rintro acc2 H8 ⟨rfl, hs8⟩ hB8 hl8
      rw [List.length_map, List.take_length] at hB8
      have S8 := S7.trans hs8
      have h58 := hs8 _ _ h57
      -- the ends
      rcases he with he | he
      · refine .inl ⟨_, rfl, e, rfl, ⟨_, Same.seq S8 he⟩, fun D3 hD3 => lcA walk_list (fun i acc H' => acc = ((es.take i).filter (kp F1 F2)).map V.str ∧ Same H8 H') ⟨rfl, .refl _⟩ (fun i acc H' o h => ⟨h.1, same_mut h.2 hD3⟩) (fun i acc H' _ h => Same.seq (S8.trans h.2) he) ?_ ?_⟩
        · rintro i x acc _ H9 hi ⟨rfl, hs9⟩ hB9 hl9 ⟨rfl, hx⟩
          obtain ⟨u, rfl, hu⟩ := map_str hx
          rw [List.length_map] at hi
          have tk : es.take (i + 1) = es.take i ++ [u] := by rw [List.take_add_one, hu]; rfl
          have g1 : DGet H9 d (.str u) (valV (F.map fT) (.inr u)) := DGet.k (k := .inr u) (hs9 _ _ h58)
          refine ⟨rfl, _, rfl, _, rfl, d, _, rfl, g1, ?_⟩
          rw [kpv]
          by_cases c1 : kp F1 F2 u = true
          · rw [if_pos c1]
            refine ⟨_, rfl, iteT ⟨_, rfl, LcP.put (fun i acc H' o h => ⟨h.1, same_mut h.2 hD3⟩) hB9 hl9 (by omega) ⟨?_, hs9⟩⟩⟩
            rw [tk, List.filter_append, List.filter_cons_of_pos c1, List.map_append]
            rfl
          · rw [if_neg c1]
            refine ⟨_, rfl, iteF (LcP.skip hB9 hl9 ⟨?_, hs9⟩)⟩
            rw [tk, List.filter_append, List.filter_cons_of_neg c1]
            simp
        rintro acc3 H9 ⟨rfl, hs9⟩ hB9 hl9
        rw [List.length_map, List.take_length] at hB9
        refine ⟨Nat.le_of_ble_eq_true rfl, fun t ht => ?_⟩
        have s10 : Same H9 (upd H9 t (.tup [.ref q1, .ref D2, .ref D3])) := same_new ht
        have T10 := (hs8.trans hs9).trans s10
        exact k t q1 D2 D3 wq yq F1 F2 _ upd_same (T10 _ _ h7) (hW7.same T10) hC7 ((hs9.trans s10) _ _ hB8) (s10 _ _ hB9) hK ((S8.trans hs9).trans s10)
      · refine .inr ⟨_, rfl, e, rfl, ⟨_, sqt_same S8 he⟩, fun D3 hD3 => lcA walk_tup (fun i acc H' => acc = ((es.take i).filter (kp F1 F2)).map V.str ∧ Same H8 H') ⟨rfl, .refl _⟩ (fun i acc H' o h => ⟨h.1, same_mut h.2 hD3⟩) (fun i acc H' _ h => sqt_same (S8.trans h.2) he) ?_ ?_⟩
        · rintro i x acc _ H9 hi ⟨rfl, hs9⟩ hB9 hl9 ⟨rfl, hx⟩
          obtain ⟨u, rfl, hu⟩ := map_str hx
          rw [List.length_map] at hi
          have tk : es.take (i + 1) = es.take i ++ [u] := by rw [List.take_add_one, hu]; rfl
          have g1 : DGet H9 d (.str u) (valV (F.map fT) (.inr u)) := DGet.k (k := .inr u) (hs9 _ _ h58)
          refine ⟨rfl, _, rfl, _, rfl, d, _, rfl, g1, ?_⟩
          rw [kpv]
          by_cases c1 : kp F1 F2 u = true
          · rw [if_pos c1]
            refine ⟨_, rfl, iteT ⟨_, rfl, LcP.put (fun i acc H' o h => ⟨h.1, same_mut h.2 hD3⟩) hB9 hl9 (by omega) ⟨?_, hs9⟩⟩⟩
            rw [tk, List.filter_append, List.filter_cons_of_pos c1, List.map_append]
            rfl
          · rw [if_neg c1]
            refine ⟨_, rfl, iteF (LcP.skip hB9 hl9 ⟨?_, hs9⟩)⟩
            rw [tk, List.filter_append, List.filter_cons_of_neg c1]
            simp
        rintro acc3 H9 ⟨rfl, hs9⟩ hB9 hl9
        rw [List.length_map, List.take_length] at hB9
        refine ⟨Nat.le_of_ble_eq_true rfl, fun t ht => ?_⟩
        have s10 : Same H9 (upd H9 t (.tup [.ref q1, .ref D2, .ref D3])) := same_new ht
        have T10 := (hs8.trans hs9).trans s10
        exact k t q1 D2 D3 wq yq F1 F2 _ upd_same (T10 _ _ h7) (hW7.same T10) hC7 ((hs9.trans s10) _ _ hB8) (s10 _ _ hB9) hK ((S8.trans hs9).trans s10)

end
end Pf

namespace Pf
open PySem PySem.Spec PyProof.Rows L2 Bz
local macro_rules | `(tactic| walk_at "sd") => `(tactic| first
  | rfl | assumption | omega | exact Nat.le_of_ble_eq_true rfl | decide | (refine Or.inl (And.intro ?_ ?_) <;> omega) | (refine Or.inr (And.intro ?_ ?_) <;> omega) | (refine And.intro ?_ ?_ <;> omega) | (refine ⟨?_, ?_, ?_⟩ <;> omega))
local macro_rules | `(tactic| walk_at "sq") => `(tactic| first | assumption | exact SqL.of (by assumption) | exact SqT.of (by assumption) | exact SqL.of upd_same | exact SqT.of upd_same)
local macro_rules | `(tactic| walk_at "hp") => `(tactic| first | assumption | exact upd_same)
local macro_rules | `(tactic| walk_at "rd") => `(tactic| repeat (first
  | (refine ⟨_, rfl, ?_⟩) | (refine ⟨_, _, rfl, rfl, ?_⟩) | (refine ⟨rfl, ?_⟩) | (refine And.intro (by walk_at "sd") ?_)
  | (refine ⟨_, _, _, _, rfl, rfl, (by walk_at "sq"), rfl, ?_⟩)
  | (refine ⟨_, _, _, _, rfl, rfl, (by walk_at "hp"), rfl, ?_⟩)
  | (refine Or.inl ⟨_, rfl, ?_⟩)))
section
variable {P : Program} {w : World} {K : PySem.W.Frag} {mg : PySem.Str → Option Value} {base : Heap} {kl : Cl}
theorem ok_name_of (T : Facts K mg kl) : Keeps P w K mg base CX0 1 "name_of" ["number"] spNameOf := by
  refine keeps0 T.d_name_of sc_name_of (fun vs H Q E h => ?_) (fun f cdv A outer s H vs Q E hr h => ?_)
  · obtain ⟨n, rfl, _⟩ := h
    rfl
  · obtain ⟨n, rfl, hn, k⟩ := h
    refine ⟨_, (pss_cons (ps_set (i := 1) sc_name_of.nd rfl (Or.inl rfl) (pe_ix ix_str (pe_cstS T.c_SIGNS) (pe_op op_modN (pv 0) (pe_callB call_len_str (by rfl) T.b_len (by decide +kernel) (pa_cons (pe_cstS T.c_SIGNS) pa_nil))) (fun _ _ => rfl)))
  (pss_cons (ps_while PassesOwn.never (pt_cmpR op_ge (pv 0) (pe_callB call_len_str (by rfl) T.b_len (by decide +kernel) (pa_cons (pe_cstS T.c_SIGNS) pa_nil)) (nomark _))
  (pss_cons (ps_set (i := 0) sc_name_of.nd rfl (Or.inl rfl) (pe_op op_fdivN (pv 0) (pe_callB call_len_str (by rfl) T.b_len (by decide +kernel) (pa_cons (pe_cstS T.c_SIGNS) pa_nil))))
  (pss_one (ps_set (i := 1) sc_name_of.nd rfl (Or.inl rfl) (pe_op op_add_str (pe_ix ix_str (pe_cstS T.c_SIGNS) (pe_op op_modN (pv 0) (pe_callB call_len_str (by rfl) T.b_len (by decide +kernel) (pa_cons (pe_cstS T.c_SIGNS) pa_nil))) (fun _ _ => rfl)) (pv 1))))))
  (pss_one (ps_ret (pv 1))))), ?_⟩
    have l26 := az_len
    refine ⟨_, rfl, _, rfl, Evl.sz_of (by omega), _, _, rfl, rfl, by rw [l26]; exact (by decide : ((26 : Nat) : Int) ≠ 0), _, _, _, rfl, rfl, Evl.sz_of (by omega), az_atm n, ?_⟩
    refine ⟨fun m σ' H' => H' = H ∧ ((26 ≤ n ∧ σ' = [some (.int (n : Int)), some (.str ⟨#[97 + n % 26]⟩)] ∧ m = 1) ∨ ∃ j : Nat, j < 26 ∧ σ' = [some (.int (j : Int)), some (.str (nmOf n))] ∧ m = 0), ?_, ?_⟩
    · by_cases c : n < 26
      · exact ⟨0, rfl, .inr ⟨n, c, by rw [nm_lt c, Nat.mod_eq_of_lt c]; rfl, rfl⟩⟩
      · exact ⟨1, rfl, .inl ⟨by omega, rfl, rfl⟩⟩
    rintro m σ' H' ⟨rfl, ⟨c, rfl, rfl⟩ | ⟨j, c, rfl, rfl⟩⟩
    · refine ⟨_, rfl, _, rfl, Evl.sz_of (by omega), _, _, rfl, rfl, _, rfl, ?_⟩
      have z : decide ((((("abcdefghijklmnopqrstuvwxyz" : PySem.Str)).length : Nat) : Int) ≤ (n : Int)) = true := decide_eq_true (by rw [l26]; omega)
      rw [z]
      refine iteT ?_
      have e : Int.fdiv (n : Int) (((("abcdefghijklmnopqrstuvwxyz" : PySem.Str)).length : Nat) : Int) = ((n / 26 : Nat) : Int) := by
        rw [l26, Int.fdiv_eq_ediv_of_nonneg _ (by omega)]
        rfl
      refine ⟨fun σ' H'' => σ' = [some (.int ((n / 26 : Nat) : Int)), some (.str (nmOf n))] ∧ H'' = H', fun σ' H'' ⟨e1, e2⟩ => ⟨0, by omega, e2, .inr ⟨n / 26, by omega, e1, rfl⟩⟩, ?_⟩
      refine ⟨_, rfl, _, rfl, Evl.sz_of (by omega), _, _, rfl, rfl, ⟨by rw [l26]; exact (by decide : ((26 : Nat) : Int) ≠ 0), by rw [l26]; decide⟩, ?_⟩
      refine ⟨_, rfl, _, rfl, Evl.sz_of (by omega), _, _, rfl, rfl, by rw [l26]; exact (by decide : ((26 : Nat) : Int) ≠ 0), _, _, _, rfl, rfl, Evl.sz_of (by omega), (show atI _ (Int.fmod (Int.fdiv (n : Int) _) _) = some (97 + n / 26 % 26) from by rw [e]; exact az_atm (n / 26)), _, rfl, _, _, rfl, rfl, Nat.le_of_ble_eq_true rfl, ?_, rfl⟩
      show [some (V.int (Int.fdiv (n : Int) (((("abcdefghijklmnopqrstuvwxyz" : PySem.Str)).length : Nat) : Int))), some (V.str ((⟨#[97 + n / 26 % 26]⟩ : PySem.Str) ++ (⟨#[97 + n % 26]⟩ : PySem.Str)))] = _
      rw [e, nm_ge c, Nat.mod_eq_of_lt (show n / 26 < 26 by omega)]
      rfl
    · refine ⟨_, rfl, _, rfl, Evl.sz_of (by omega), _, _, rfl, rfl, _, rfl, ?_⟩
      have z : decide ((((("abcdefghijklmnopqrstuvwxyz" : PySem.Str)).length : Nat) : Int) ≤ (j : Int)) = false := decide_eq_false (by rw [l26]; omega)
      rw [z]
      exact iteF ⟨_, rfl, k⟩

end
end Pf

namespace Pf
open PySem PySem.Spec PyProof.Rows L2 Bz
local macro_rules | `(tactic| walk_at "sd") => `(tactic| first
  | rfl | assumption | omega | exact Nat.le_of_ble_eq_true rfl | decide | (refine Or.inl (And.intro ?_ ?_) <;> omega) | (refine Or.inr (And.intro ?_ ?_) <;> omega) | (refine And.intro ?_ ?_ <;> omega) | (refine ⟨?_, ?_, ?_⟩ <;> omega))
local macro_rules | `(tactic| walk_at "sq") => `(tactic| first | assumption | exact SqL.of (by assumption) | exact SqT.of (by assumption) | exact SqL.of upd_same | exact SqT.of upd_same)
local macro_rules | `(tactic| walk_at "hp") => `(tactic| first | assumption | exact upd_same)
local macro_rules | `(tactic| walk_at "rd") => `(tactic| repeat (first
  | (refine ⟨_, rfl, ?_⟩) | (refine ⟨_, _, rfl, rfl, ?_⟩) | (refine ⟨rfl, ?_⟩) | (refine And.intro (by walk_at "sd") ?_)
  | (refine ⟨_, _, _, _, rfl, rfl, (by walk_at "sq"), rfl, ?_⟩)
  | (refine ⟨_, _, _, _, rfl, rfl, (by walk_at "hp"), rfl, ?_⟩)
  | (refine Or.inl ⟨_, rfl, ?_⟩)))
section
variable {P : Program} {w : World} {K : PySem.W.Frag} {mg : PySem.Str → Option Value} {base : Heap} {kl : Cl}
theorem ok_renamed (T : Facts K mg kl) : Keeps P w K mg base CX0 7 "renamed" ["machine", "sign"] (spRenamed kl.Machine) := by
  refine keeps0 T.d_renamed sc_renamed (fun vs H Q E h => ?_) (fun f cdv A outer s H vs Q E hr h => ?_)
  · obtain ⟨m, M, g, rfl, _⟩ := h
    rfl
  · obtain ⟨m, M, g, rfl, hM, hF, hst, s20, hg, k⟩ := h
    refine ⟨_, (pss_cons (ps_set (i := 2) sc_renamed.nd rfl (Or.inr rfl) (pe_dc (own := [("number", 3), ("state", 4)]) (g := gTup K 2 (gCons (gName 3) (gCons (gName 4) (gNil)))) (tt := tYes) rfl sc_renamed.nd (kpi_enumEt K (by rfl) T.b_enumerate (pa_cons (pe_pr (pv 0) hr T.cl_Machine T.p_Machine_states T.n_Machine_held_states sc_Machine_states) pa_nil)) (blkOk_by (own := [("number", 3), ("state", 4)]) (N := N_renamed) (sc := defScope s_renamed) (by decide +kernel)) (fun _ _ _ _ _ => (kpg_tup K rfl (pgs_cons (pg_name (i := 3) sc_renamed.nd rfl (Or.inl rfl)) (pgs_cons (pg_name (i := 4) sc_renamed.nd rfl (Or.inl rfl)) pgs_nil)))) (fun _ _ _ _ _ => pts_nil) (fun _ _ _ _ _ => (pv 4)) (fun _ _ _ _ _ => (pe_op op_add_str (pv 1) (pe_own (ok_name_of T) hr (pa_cons (pv 3) pa_nil))))))
  (pss_one (ps_ret (pe_mk (mk_Machine T) hr T.g_Machine (pa_cons (pe_lc (own := [("state", 4), ("letter", 5), ("after", 6), ("cost", 7)]) (g := gTup K 4 (gCons (gName 4) (gCons (gName 5) (gCons (gName 6) (gCons (gName 7) (gNil)))))) (tt := tYes) rfl sc_renamed.nd (kpi_tup K (pe_pr (pv 0) hr T.cl_Machine T.p_Machine_arrows T.n_Machine_held_arrows sc_Machine_arrows)) (blkOk_by (own := [("state", 4), ("letter", 5), ("after", 6), ("cost", 7)]) (N := N_renamed) (sc := defScope s_renamed) (by decide +kernel)) (fun _ _ _ _ _ => (kpg_tup K rfl (pgs_cons (pg_name (i := 4) sc_renamed.nd rfl (Or.inl rfl)) (pgs_cons (pg_name (i := 5) sc_renamed.nd rfl (Or.inl rfl)) (pgs_cons (pg_name (i := 6) sc_renamed.nd rfl (Or.inl rfl)) (pgs_cons (pg_name (i := 7) sc_renamed.nd rfl (Or.inl rfl)) pgs_nil)))))) (fun _ _ _ _ _ => pts_nil) (fun _ _ _ _ _ => (pe_tup (pa_cons (pe_dget (hu_of hr) (pv 2) (pv 4) (fun _ _ => rfl)) (pa_cons (pv 5) (pa_cons (pe_dget (hu_of hr) (pv 2) (pv 6) (fun _ _ => rfl)) (pa_cons (pv 7) pa_nil))))))) (pa_cons (pe_lc (own := [("state", 4)]) (g := gName 4) (tt := tYes) rfl sc_renamed.nd (kpi_tup K (pe_pr (pv 0) hr T.cl_Machine T.p_Machine_starts T.n_Machine_held_starts sc_Machine_starts)) (blkOk_by (own := [("state", 4)]) (N := N_renamed) (sc := defScope s_renamed) (by decide +kernel)) (fun _ _ _ _ _ => (pg_name (i := 4) sc_renamed.nd rfl (Or.inl rfl))) (fun _ _ _ _ _ => pts_nil) (fun _ _ _ _ _ => (pe_dget (hu_of hr) (pv 2) (pv 4) (fun _ _ => rfl)))) (pa_cons (pe_lc (own := [("state", 4)]) (g := gName 4) (tt := tYes) rfl sc_renamed.nd (kpi_tup K (pe_pr (pv 0) hr T.cl_Machine T.p_Machine_ends T.n_Machine_held_ends sc_Machine_ends)) (blkOk_by (own := [("state", 4)]) (N := N_renamed) (sc := defScope s_renamed) (by decide +kernel)) (fun _ _ _ _ _ => (pg_name (i := 4) sc_renamed.nd rfl (Or.inl rfl))) (fun _ _ _ _ _ => pts_nil) (fun _ _ _ _ _ => (pe_dget (hu_of hr) (pv 2) (pv 4) (fun _ _ => rfl)))) pa_nil))))))), ?_⟩
    obtain ⟨dx, t1, t2, t3, t4, t5, ws, hI⟩ := hM
    have l4 := hF.l4
    have sl := hF.sl
    have el := hF.el
    have gl := hg.1
    have wl : ws.length = M.ars.length := Paired.length hI.as
    have nd := asc_nodup hst
    -- the names
    refine ⟨_, rfl, m, dx, _, rfl, hI.ins, m, dx, _, _, rfl, hI.ins, mfs4 .., t4, _, rfl, hI.a4.sq, fun d hd => dc_it walk_enumEt (fun i H' => ∃ vs : List (Ky × V), H' d = some (.dK vs) ∧ Same H H' ∧ (∀ q : PySem.Str, valV vs (.inr q) = if q ∈ M.sta.take i then some (.str (g ++ nmOf (M.sta.idxOf q))) else none) ∧ vs.length ≤ i) ⟨[], upd_same, same_new hd, fun q => by simp [valV], Nat.le_refl _⟩ (fun i H' _ ⟨_, _, h, _⟩ => (hI.a4.on h).sq) ?_ ?_⟩
    · rintro i x H2 H3 hi ⟨us, h2, hs, hw, hlen⟩ ⟨q, y, rfl, hq, rfl, hy⟩
      obtain ⟨u, rfl, hu⟩ := map_str hy
      rw [List.length_map] at hi
      have s3 : Same H2 (upd H2 q (.tup [.int (i : Int), .str u])) := same_new hq
      have ei := idx_eq nd hu
      refine ⟨q, _, rfl, SqT.of upd_same, rfl, _, _, rfl, _, _, rfl, rfl, rfl, ?_⟩
      refine ⟨_, rfl, _, rfl, _, rfl, i, rfl, by omega, _, _, rfl, rfl, Evl.sz_of ?_, us, .inr u, rfl, s3 _ _ h2, Nat.lt_of_le_of_lt (show us.length ≤ 20 by omega) (by decide), _, upd_same, same_mut (hs.trans s3) hd, fun z => ?_, ?_⟩
      · have : (nmOf i).length = 1 := nm_len1 (by omega)
        omega
      · rw [valV_put, hw z, List.take_add_one, hu]
        by_cases e : z = u
        · subst e
          rw [if_pos rfl, ei]
          simp
        · rw [if_neg (fun c => e (Sum.inr.inj c))]
          simp [e]
      · have := length_putK us (.inr u) (.str (g ++ nmOf i))
        omega
    rintro H2 ⟨us, h2, s2, hw, _⟩
    rw [List.length_map, List.take_length] at hw
    generalize hf : (fun q : PySem.Str => g ++ nmOf (M.sta.idxOf q)) = rn
    have hwv : ∀ z ∈ M.sta, valV us (.inr z) = some (.str (rn z)) := fun z hz => by
      rw [hw z, if_pos hz, ← hf]
    have rnOk : RnOf g M rn := by
      refine ⟨fun x hx => ⟨M.sta.idxOf x, ?_, by rw [← hf]⟩, fun a ha b hb e => ?_⟩
      · have := List.idxOf_lt_length_of_mem hx
        omega
      · rw [← hf] at e
        exact idx_inj ha hb (gk_inj e)
    obtain ⟨r1, r2, r3, r4, r5⟩ := rn_ok hg rnOk hF
    have I2 : MachAt kl.Machine H2 m dx t1 t2 t3 t4 t5 ws M := ⟨s2 _ _ hI.ins, s2 _ _ hI.a1, hI.as.same s2, hI.a2.on s2, hI.a3.on s2, hI.a4.on s2, hI.a5.on s2⟩
    -- the arrows
    refine ⟨_, rfl, m, dx, _, rfl, I2.ins, m, dx, _, _, rfl, I2.ins, mfs1 .., t1, rfl, ⟨_, SqT.of I2.a1⟩, fun D1 hD1 => lcA walk_tup (fun i acc H' => ArD D1 H' acc ((M.ars.take i).map (rnA rn)) ∧ Same H2 H') ⟨.nil, .refl _⟩ (fun i acc H' o h => ⟨h.1.upd, same_mut h.2 hD1⟩) (fun i acc H' _ h => SqT.of (h.2 _ _ I2.a1)) ?_ ?_⟩
    · rintro i x acc _ H3 hi ⟨hz, hs⟩ hB hl1 ⟨rfl, hx⟩
      obtain ⟨r, y, rfl, hy, hr⟩ := ArS.get (I2.as.same hs) hx
      have my := hF.ar y (List.mem_of_getElem? hy)
      have g1 : DGet H3 d (.str y.s) (some (.str (rn y.s))) := by
        rw [← hwv _ my.1]
        exact DGet.k (k := .inr y.s) (hs _ _ h2)
      have g2 : DGet H3 d (.str y.t) (some (.str (rn y.t))) := by
        rw [← hwv _ my.2]
        exact DGet.k (k := .inr y.t) (hs _ _ h2)
      refine ⟨r, _, rfl, SqT.of hr, rfl, _, _, rfl, _, _, rfl, _, _, rfl, _, _, rfl, rfl, rfl, ?_⟩
      refine ⟨_, rfl, _, rfl, d, .str (rn y.s), rfl, g1, _, rfl, _, rfl, _, rfl, d, .str (rn y.t), rfl, g2, _, rfl, Nat.le_of_ble_eq_true rfl, fun g3 hg3 => ?_⟩
      have s3 : Same H3 (upd H3 g3 (.tup (rnA rn y).vals)) := same_new hg3
      have ng : g3 ≠ D1 := fun z => by
        rw [z, hB] at hg3
        cases hg3
      refine LcP.put (fun i acc H' o h => ⟨h.1.upd, same_mut h.2 hD1⟩) (s3 _ _ hB) hl1 (by omega) ⟨?_, hs.trans s3⟩
      rw [List.take_add_one, hy, Option.toList_some, List.map_append]
      exact (hz.keep s3).snoc (x := rnA rn y) ng upd_same
    rintro acc1 H3 ⟨hz1, s3⟩ hB1 hl1
    rw [wl, List.take_length] at hz1
    have hA1 := hz1.ars
    have I3 : MachAt kl.Machine H3 m dx t1 t2 t3 t4 t5 ws M := ⟨s3 _ _ I2.ins, s3 _ _ I2.a1, I2.as.same s3, I2.a2.on s3, I2.a3.on s3, I2.a4.on s3, I2.a5.on s3⟩
    -- the starts
    refine ⟨_, rfl, m, dx, _, rfl, I3.ins, m, dx, _, _, rfl, I3.ins, mfs2 .., t2, rfl, ⟨_, I3.a2.sq⟩, fun D2 hD2 => lcA walk_tup (fun i acc H' => acc = ((M.sts.take i).map rn).map V.str ∧ Same H3 H') ⟨rfl, .refl _⟩ (fun i acc H' o h => ⟨h.1, same_mut h.2 hD2⟩) (fun i acc H' _ h => (I3.a2.on h.2).sq) ?_ ?_⟩
    · rintro i x acc _ H4 hi ⟨rfl, hs⟩ hB hl2 ⟨rfl, hx⟩
      obtain ⟨u, rfl, hu⟩ := map_str hx
      rw [List.length_map] at hi
      have g1 : DGet H4 d (.str u) (some (.str (rn u))) := by
        rw [← hwv _ (hF.st _ (List.mem_of_getElem? hu))]
        exact DGet.k (k := .inr u) (hs _ _ (s3 _ _ h2))
      refine ⟨rfl, _, rfl, _, rfl, d, .str (rn u), rfl, g1, LcP.put (fun i acc H' o h => ⟨h.1, same_mut h.2 hD2⟩) hB hl2 (by omega) ⟨?_, hs⟩⟩
      rw [List.take_add_one, hu, Option.toList_some, List.map_append, List.map_append]
      rfl
    rintro acc2 H4 ⟨rfl, s4⟩ hB2 hl2
    rw [List.length_map, List.take_length] at hB2
    have I4 : MachAt kl.Machine H4 m dx t1 t2 t3 t4 t5 ws M := ⟨s4 _ _ I3.ins, s4 _ _ I3.a1, I3.as.same s4, I3.a2.on s4, I3.a3.on s4, I3.a4.on s4, I3.a5.on s4⟩
    -- the ends
    refine ⟨_, rfl, m, dx, _, rfl, I4.ins, m, dx, _, _, rfl, I4.ins, mfs3 .., t3, rfl, ⟨_, I4.a3.sq⟩, fun D3 hD3 => lcA walk_tup (fun i acc H' => acc = ((M.ens.take i).map rn).map V.str ∧ Same H4 H') ⟨rfl, .refl _⟩ (fun i acc H' o h => ⟨h.1, same_mut h.2 hD3⟩) (fun i acc H' _ h => (I4.a3.on h.2).sq) ?_ ?_⟩
    · rintro i x acc _ H5 hi ⟨rfl, hs⟩ hB hl3 ⟨rfl, hx⟩
      obtain ⟨u, rfl, hu⟩ := map_str hx
      rw [List.length_map] at hi
      have g1 : DGet H5 d (.str u) (some (.str (rn u))) := by
        rw [← hwv _ (hF.en _ (List.mem_of_getElem? hu))]
        exact DGet.k (k := .inr u) (hs _ _ (s4 _ _ (s3 _ _ h2)))
      refine ⟨rfl, _, rfl, _, rfl, d, .str (rn u), rfl, g1, LcP.put (fun i acc H' o h => ⟨h.1, same_mut h.2 hD3⟩) hB hl3 (by omega) ⟨?_, hs⟩⟩
      rw [List.take_add_one, hu, Option.toList_some, List.map_append, List.map_append]
      rfl
    rintro acc3 H5 ⟨rfl, s5⟩ hB3 hl3
    rw [List.length_map, List.take_length] at hB3
    refine fun x dx2 nx ndx nex => ?_
    have sB : Same H5 (upd (upd H5 dx2 (.own x)) x (.ins kl.Machine dx2 [])) := fun b o e => by
      rw [upd_ne (ne_of_none e nx), upd_ne (ne_of_none e ndx)]
      exact e
    have S5 := ((s2.trans s3).trans s4).trans s5
    have S6 := S5.trans sB
    refine ⟨x, D1, D2, D3, dx2, acc1, M.ars.map (rnA rn), M.sts.map rn, M.ens.map rn, M.sta.map rn, rfl, upd_same, .inl (SqL.of (sB _ _ (s5 _ _ (s4 _ _ hB1)))), ((hA1.same s4).same s5).same sB, r1, by rw [List.length_map]; exact l4, .inl (SqL.of (sB _ _ (s5 _ _ hB2))), .inl (SqL.of (sB _ _ hB3)), fun s hs => r2 s (r3 s hs), fun s hs => r2 s (r4 s hs), by rw [List.length_map]; exact sl, by rw [List.length_map]; exact el, by rw [List.length_map]; omega, r3, r4, r5, fun R H6 hMach hMOf keep => ⟨rfl, ?_⟩⟩
    exact k x R rn H6 (S5.free nx) hMach hMOf rnOk fun b o e => keep b o (ne_of_none (S5 _ _ e) nx) (S6 b o e)

end
end Pf

namespace Pf
open PySem PySem.Spec PyProof.Rows L2 Bz
local macro_rules | `(tactic| walk_at "sd") => `(tactic| first
  | rfl | assumption | omega | exact Nat.le_of_ble_eq_true rfl | decide | (refine Or.inl (And.intro ?_ ?_) <;> omega) | (refine Or.inr (And.intro ?_ ?_) <;> omega) | (refine And.intro ?_ ?_ <;> omega) | (refine ⟨?_, ?_, ?_⟩ <;> omega))
local macro_rules | `(tactic| walk_at "sq") => `(tactic| first | assumption | exact SqL.of (by assumption) | exact SqT.of (by assumption) | exact SqL.of upd_same | exact SqT.of upd_same)
local macro_rules | `(tactic| walk_at "hp") => `(tactic| first | assumption | exact upd_same)
local macro_rules | `(tactic| walk_at "rd") => `(tactic| repeat (first
  | (refine ⟨_, rfl, ?_⟩) | (refine ⟨_, _, rfl, rfl, ?_⟩) | (refine ⟨rfl, ?_⟩) | (refine And.intro (by walk_at "sd") ?_)
  | (refine ⟨_, _, _, _, rfl, rfl, (by walk_at "sq"), rfl, ?_⟩)
  | (refine ⟨_, _, _, _, rfl, rfl, (by walk_at "hp"), rfl, ?_⟩)
  | (refine Or.inl ⟨_, rfl, ?_⟩)))
section
variable {P : Program} {w : World} {K : PySem.W.Frag} {mg : PySem.Str → Option Value} {base : Heap} {kl : Cl}
theorem ok_either (T : Facts K mg kl) : Keeps P w K mg base CX0 8 "either" ["one", "other"] (spEither kl.Machine) := by
  refine keeps0 T.d_either sc_either (fun vs H Q E h => ?_) (fun f cdv A outer s H vs Q E hr h => ?_)
  · obtain ⟨m, n, M, N, rfl, _⟩ := h
    rfl
  · obtain ⟨m, n, M, N, rfl, hM, hN, fM, fN, aM, aN, lM, lN, xM, xN, k⟩ := h
    refine ⟨_, (pss_cons (ps_par (i := 0) (j := 1) (by rfl) sc_either.nd rfl rfl (by decide) rfl rfl (pa_cons (pe_own (ok_renamed T) hr (pa_cons (pv 0) (pa_cons pe_str pa_nil))) (pa_cons (pe_own (ok_renamed T) hr (pa_cons (pv 1) (pa_cons pe_str pa_nil))) pa_nil)) (by rfl))
  (pss_one (ps_ret (pe_mk (mk_Machine T) hr T.g_Machine (pa_cons (pe_op (kcatA K) (pe_pr (pv 0) hr T.cl_Machine T.p_Machine_arrows T.n_Machine_held_arrows sc_Machine_arrows) (pe_pr (pv 1) hr T.cl_Machine T.p_Machine_arrows T.n_Machine_held_arrows sc_Machine_arrows)) (pa_cons (pe_op (kcatA K) (pe_pr (pv 0) hr T.cl_Machine T.p_Machine_starts T.n_Machine_held_starts sc_Machine_starts) (pe_pr (pv 1) hr T.cl_Machine T.p_Machine_starts T.n_Machine_held_starts sc_Machine_starts)) (pa_cons (pe_op (kcatA K) (pe_pr (pv 0) hr T.cl_Machine T.p_Machine_ends T.n_Machine_held_ends sc_Machine_ends) (pe_pr (pv 1) hr T.cl_Machine T.p_Machine_ends T.n_Machine_held_ends sc_Machine_ends)) pa_nil))))))), ?_⟩
    refine ⟨_, rfl, m, M, "a", rfl, hM, fM, aM, lM, lt_ab.1, fun q1 M' f1 H1 fq1 hM' hO1 rf s1 => ?_⟩
    refine ⟨_, rfl, n, N, "b", rfl, hN.same s1, fN, aN, lN, lt_ab.2, fun q2 N' f2 H2 fq2 hN' hO2 rg s2 => ?_⟩
    refine ⟨_, _, rfl, ?_⟩
    obtain ⟨a1, a2, a3, a4, a5⟩ := rn_ok lt_ab.1 rf fM
    obtain ⟨b1, b2, b3, b4, b5⟩ := rn_ok lt_ab.2 rg fN
    have M2 := hM'.same s2
    obtain ⟨dx, t1, t2, t3, t4, t5, ws, hI⟩ := M2
    obtain ⟨dy, u1, u2, u3, u4, u5, vs, hJ⟩ := hN'
    have l1 : M'.ars.length ≤ 100 := by
      have := nodup_le (cheap_nodup hO1.ars) fun y hy => (hO1.ars.sub y hy).1
      rw [List.length_map] at this
      omega
    have l2 : N'.ars.length ≤ 100 := by
      have := nodup_le (cheap_nodup hO2.ars) fun y hy => (hO2.ars.sub y hy).1
      rw [List.length_map] at this
      omega
    have l3 : M'.sts.length ≤ 20 := by
      have := nodup_le (asc_nodup hO1.sts.1) fun z hz => a3 z ((hO1.sts.2 z).mp hz)
      rw [List.length_map] at this
      omega
    have l4 : M'.ens.length ≤ 20 := by
      have := nodup_le (asc_nodup hO1.ens.1) fun z hz => a4 z ((hO1.ens.2 z).mp hz)
      rw [List.length_map] at this
      omega
    have l5 : N'.sts.length ≤ 20 := by
      have := nodup_le (asc_nodup hO2.sts.1) fun z hz => b3 z ((hO2.sts.2 z).mp hz)
      rw [List.length_map] at this
      omega
    have l6 : N'.ens.length ≤ 20 := by
      have := nodup_le (asc_nodup hO2.ens.1) fun z hz => b4 z ((hO2.ens.2 z).mp hz)
      rw [List.length_map] at this
      omega
    have wl : ws.length = M'.ars.length := Paired.length hI.as
    have vl : vs.length = N'.ars.length := Paired.length hJ.as
    refine ⟨_, rfl, q1, dx, _, rfl, hI.ins, q1, dx, _, _, rfl, hI.ins, mfs1 .., ?_⟩
    refine ⟨_, rfl, q2, dy, _, rfl, hJ.ins, q2, dy, _, _, rfl, hJ.ins, mfs1 .., cat_any (SqT.of hI.a1) (SqT.of hJ.a1) (Evl.sz_of (by omega)) fun p1 H3 hp1 s3 => ?_⟩
    refine ⟨_, rfl, q1, dx, _, rfl, s3 _ _ hI.ins, q1, dx, _, _, rfl, s3 _ _ hI.ins, mfs2 .., ?_⟩
    refine ⟨_, rfl, q2, dy, _, rfl, s3 _ _ hJ.ins, q2, dy, _, _, rfl, s3 _ _ hJ.ins, mfs2 .., cat_any ((hI.a2.on s3).sq) ((hJ.a2.on s3).sq) (Evl.sz_of (by rw [List.length_map, List.length_map]; omega)) fun p2 H4 hp2 s4 => ?_⟩
    have S4 := s3.trans s4
    refine ⟨_, rfl, q1, dx, _, rfl, S4 _ _ hI.ins, q1, dx, _, _, rfl, S4 _ _ hI.ins, mfs3 .., ?_⟩
    refine ⟨_, rfl, q2, dy, _, rfl, S4 _ _ hJ.ins, q2, dy, _, _, rfl, S4 _ _ hJ.ins, mfs3 .., cat_any ((hI.a3.on S4).sq) ((hJ.a3.on S4).sq) (Evl.sz_of (by rw [List.length_map, List.length_map]; omega)) fun p3 H5 hp3 s5 => ?_⟩
    have S5 := S4.trans s5
    refine fun x dx2 nx ndx nex => ?_
    have sB : Same H5 (upd (upd H5 dx2 (.own x)) x (.ins kl.Machine dx2 [])) := fun b o e => by
      rw [upd_ne (ne_of_none e nx), upd_ne (ne_of_none e ndx)]
      exact e
    have S6 := S5.trans sB
    have S0 := (s1.trans s2).trans S5
    have h2 : SqT K H5 p2 ((M'.sts ++ N'.sts).map V.str) := by rw [List.map_append]; exact sqt_same s5 hp2
    have h3 : SqT K H5 p3 ((M'.ens ++ N'.ens).map V.str) := by rw [List.map_append]; exact hp3
    have inA : ∀ z ∈ M'.sts ++ N'.sts, z ∈ M.sta.map f1 ++ N.sta.map f2 := fun z hz => (List.mem_append.mp hz).elim (fun h => List.mem_append_left _ (a3 z ((hO1.sts.2 z).mp h))) fun h => List.mem_append_right _ (b3 z ((hO2.sts.2 z).mp h))
    have inE : ∀ z ∈ M'.ens ++ N'.ens, z ∈ M.sta.map f1 ++ N.sta.map f2 := fun z hz => (List.mem_append.mp hz).elim (fun h => List.mem_append_left _ (a4 z ((hO1.ens.2 z).mp h))) fun h => List.mem_append_right _ (b4 z ((hO2.ens.2 z).mp h))
    have inX : ∀ y ∈ M'.ars ++ N'.ars, y.s ∈ M.sta.map f1 ++ N.sta.map f2 ∧ y.t ∈ M.sta.map f1 ++ N.sta.map f2 := fun y hy => by
      rcases List.mem_append.mp hy with h | h
      · have q := a5 y (hO1.ars.sub y h).1
        exact ⟨List.mem_append_left _ q.1, List.mem_append_left _ q.2⟩
      · have q := b5 y (hO2.ars.sub y h).1
        exact ⟨List.mem_append_right _ q.1, List.mem_append_right _ q.2⟩
    have okX : ∀ y ∈ M'.ars ++ N'.ars, y.Ok := fun y hy => (List.mem_append.mp hy).elim (fun h => a1 y (hO1.ars.sub y h).1) fun h => b1 y (hO2.ars.sub y h).1
    have nmA : ∀ z ∈ M.sta.map f1 ++ N.sta.map f2, Nm z := fun z hz => (List.mem_append.mp hz).elim (a2 z) (b2 z)
    have nl : (M.sta.map f1 ++ N.sta.map f2).length ≤ 40 := by
      rw [List.length_append, List.length_map, List.length_map]
      omega
    have xl : (M'.ars ++ N'.ars).length ≤ 400 := by
      rw [List.length_append]
      omega
    refine ⟨x, p1, p2, p3, dx2, ws ++ vs, M'.ars ++ N'.ars, M'.sts ++ N'.sts, M'.ens ++ N'.ens, M.sta.map f1 ++ N.sta.map f2, rfl, upd_same, .inr (sqt_same ((s4.trans s5).trans sB) hp1), paired_app2 (hI.as.same S6) (hJ.as.same S6), okX, xl, .inr (sqt_same sB h2), .inr (sqt_same sB h3), fun z hz => nmA z (inA z hz), fun z hz => nmA z (inE z hz), by rw [List.length_append]; omega, by rw [List.length_append]; omega, nl, inA, inE, inX, fun R H6 hMach hMOf keep => ⟨rfl, ?_⟩⟩
    exact k x R H6 (S0.free nx) hMach (fine_of hMOf okX xl nmA nl inA inE inX) (either_of fM fN rf rg hO1 hO2 hMOf lt_ab.1 lt_ab.2) fun b o e => keep b o (ne_of_none (S0 _ _ e) nx) (sB b o (S0 b o e))

end
end Pf

namespace Pf
open PySem PySem.Spec PyProof.Rows L2 Bz
local macro_rules | `(tactic| walk_at "sd") => `(tactic| first
  | rfl | assumption | omega | exact Nat.le_of_ble_eq_true rfl | decide | (refine Or.inl (And.intro ?_ ?_) <;> omega) | (refine Or.inr (And.intro ?_ ?_) <;> omega) | (refine And.intro ?_ ?_ <;> omega) | (refine ⟨?_, ?_, ?_⟩ <;> omega))
local macro_rules | `(tactic| walk_at "sq") => `(tactic| first | assumption | exact SqL.of (by assumption) | exact SqT.of (by assumption) | exact SqL.of upd_same | exact SqT.of upd_same)
local macro_rules | `(tactic| walk_at "hp") => `(tactic| first | assumption | exact upd_same)
local macro_rules | `(tactic| walk_at "rd") => `(tactic| repeat (first
  | (refine ⟨_, rfl, ?_⟩) | (refine ⟨_, _, rfl, rfl, ?_⟩) | (refine ⟨rfl, ?_⟩) | (refine And.intro (by walk_at "sd") ?_)
  | (refine ⟨_, _, _, _, rfl, rfl, (by walk_at "sq"), rfl, ?_⟩)
  | (refine ⟨_, _, _, _, rfl, rfl, (by walk_at "hp"), rfl, ?_⟩)
  | (refine Or.inl ⟨_, rfl, ?_⟩)))
section
variable {P : Program} {w : World} {K : PySem.W.Frag} {mg : PySem.Str → Option Value} {base : Heap} {kl : Cl}
theorem ok_pair_names (T : Facts K mg kl) : Keeps P w K mg base CX0 2 "pair_names" ["states", "others"] (spPairNames K) := by
  refine keeps0 T.d_pair_names sc_pair_names (fun vs H Q E h => ?_) (fun f cdv A outer s H vs Q E hr h => ?_)
  · obtain ⟨a, b, ss, os, rfl, _⟩ := h
    rfl
  · obtain ⟨a, b, ss, os, rfl, ha, hb, ns, no, l, k⟩ := h
    refine ⟨_, (pss_cons (ps_set (i := 2) sc_pair_names.nd rfl (Or.inl rfl) pe_dnewT)
  (pss_cons (ps_for PassesOwn.never rfl (kpi_tup K (pv 0)) (pg_name (i := 3) sc_pair_names.nd rfl (Or.inl rfl))
  (pss_one (ps_for PassesOwn.never rfl (kpi_tup K (pv 1)) (pg_name (i := 4) sc_pair_names.nd rfl (Or.inl rfl))
  (pss_one (ps_dput (hu_of hr) (pv 2) (pe_tup (pa_cons (pv 3) (pa_cons (pv 4) pa_nil))) (pe_own (ok_name_of T) hr (pa_cons (pe_callB call_len_dT (by rfl) T.b_len (by decide +kernel) (pa_cons (pv 2) pa_nil)) pa_nil)) rfl)))))
  (pss_one (ps_ret (pv 2))))), ?_⟩
    refine fun d hd => ?_
    have s0 : Same H (upd H d (.dT [])) := same_new hd
    refine ⟨_, rfl, a, rfl, ⟨_, sqt_same s0 ha⟩, for_tup (K := K) (a := a) (xs := ss.map V.str) (fun i σ H' => ∃ (v3 v4 : Option V) (us : List (List Ky × V)), σ = [some (.ref a), some (.ref b), some (.ref d), v3, v4] ∧ H' d = some (.dT us) ∧ PN us (prs (ss.take i) os) ∧ Same H H') ?_ (fun i σ H' _ ⟨_, _, _, _, _, _, h⟩ => sqt_same h ha) ?_ ?_⟩
    · exact ⟨_, _, [], rfl, upd_same, ⟨rfl, .nil, fun s t => rfl⟩, s0⟩
    · rintro i x σ H1 hi ⟨v3, v4, us, rfl, h1, hP, s1⟩
      obtain ⟨u, rfl, hu⟩ := map_str hi
      have tk : ss.take (i + 1) = ss.take i ++ [u] := by rw [List.take_add_one, hu]; rfl
      have il : i < ss.length := (List.getElem?_eq_some_iff.mp hu).1
      refine ⟨_, rfl, b, rfl, ⟨_, sqt_same s1 hb⟩, for_tup (K := K) (a := b) (xs := os.map V.str) (fun j σ H' => ∃ (v4 : Option V) (us : List (List Ky × V)), σ = [some (.ref a), some (.ref b), some (.ref d), some (.str u), v4] ∧ H' d = some (.dT us) ∧ PN us (prs (ss.take i) os ++ (os.take j).map fun t => (u, t)) ∧ Same H H') ?_ (fun j σ H' _ ⟨_, _, _, _, _, h⟩ => sqt_same h hb) ?_ ?_⟩
      · exact ⟨_, us, rfl, h1, by simpa using hP, s1⟩
      · rintro j x σ H2 hj ⟨v4, us, rfl, h2, hP, s2⟩
        obtain ⟨t, rfl, ht⟩ := map_str hj
        have tj : os.take (j + 1) = os.take j ++ [t] := by rw [List.take_add_one, ht]; rfl
        have jl : j < os.length := (List.getElem?_eq_some_iff.mp ht).1
        have fresh : (u, t) ∉ prs (ss.take i) os ++ (os.take j).map fun t => (u, t) := fun c => by
          rcases List.mem_append.mp c with c | c
          · exact not_take ns hu (prs_mem.mp c).1
          · obtain ⟨z, hz, e⟩ := List.mem_map.mp c
            rw [(Prod.mk.inj e).2] at hz
            exact not_take no ht hz
        have ul : us.length < 676 := by
          have e1 : us.length = i * os.length + j := by
            rw [hP.len, List.length_append, prs_len, List.length_map, List.length_take, List.length_take, Nat.min_eq_left (Nat.le_of_lt il), Nat.min_eq_left (Nat.le_of_lt jl)]
          have e2 : (i + 1) * os.length ≤ ss.length * os.length := Nat.mul_le_mul_right _ il
          rw [Nat.succ_mul] at e2
          omega
        have hP' := hP.put fresh
        rw [List.append_assoc, show ((os.take j).map fun t => (u, t)) ++ [(u, t)] = (os.take (j + 1)).map fun t => (u, t) by rw [tj, List.map_append]; rfl] at hP'
        refine ⟨_, rfl, d, us, rfl, h2, us.length, rfl, ul, _, rfl, _, rfl, _, rfl, Nat.le_of_ble_eq_true rfl, fun g hg => ?_⟩
        have s3 : Same H2 (upd H2 g (.tup [.str u, .str t])) := same_new hg
        have dp : DPut (upd H2 g (.tup [.str u, .str t])) d (.ref g) (.str (nmOf us.length)) _ := DPut.t (k := ky2 u t) (s3 _ _ h2) upd_same (Nat.lt_of_lt_of_le ul (by decide))
        exact ⟨d, _, rfl, dp, _, _, rfl, upd_same, hP', same_mut (s2.trans s3) hd⟩
      · rintro σ H2 ⟨v4, us, rfl, h2, hP, s2⟩
        rw [List.length_map, List.take_length] at hP
        refine ⟨_, _, us, rfl, h2, ?_, s2⟩
        rw [tk, prs_snoc]
        exact hP
    · rintro σ H1 ⟨v3, v4, us, rfl, h1, hP, s1⟩
      rw [List.length_map, List.take_length] at hP
      obtain ⟨p1, p2⟩ := hP.end l
      exact ⟨_, rfl, k d us _ H1 hd h1 p2 p1 s1⟩

end
end Pf

namespace Pf
open PySem PySem.Spec PyProof.Rows L2 Bz
local macro_rules | `(tactic| walk_at "sd") => `(tactic| first
  | rfl | assumption | omega | exact Nat.le_of_ble_eq_true rfl | decide | (refine Or.inl (And.intro ?_ ?_) <;> omega) | (refine Or.inr (And.intro ?_ ?_) <;> omega) | (refine And.intro ?_ ?_ <;> omega) | (refine ⟨?_, ?_, ?_⟩ <;> omega))
local macro_rules | `(tactic| walk_at "sq") => `(tactic| first | assumption | exact SqL.of (by assumption) | exact SqT.of (by assumption) | exact SqL.of upd_same | exact SqT.of upd_same)
local macro_rules | `(tactic| walk_at "hp") => `(tactic| first | assumption | exact upd_same)
local macro_rules | `(tactic| walk_at "rd") => `(tactic| repeat (first
  | (refine ⟨_, rfl, ?_⟩) | (refine ⟨_, _, rfl, rfl, ?_⟩) | (refine ⟨rfl, ?_⟩) | (refine And.intro (by walk_at "sd") ?_)
  | (refine ⟨_, _, _, _, rfl, rfl, (by walk_at "sq"), rfl, ?_⟩)
  | (refine ⟨_, _, _, _, rfl, rfl, (by walk_at "hp"), rfl, ?_⟩)
  | (refine Or.inl ⟨_, rfl, ?_⟩)))
section
variable {P : Program} {w : World} {K : PySem.W.Frag} {mg : PySem.Str → Option Value} {base : Heap} {kl : Cl}
theorem ok_summed (T : Facts K mg kl) : Keeps P w K mg base CX0 7 "summed" ["one", "other"] (spSummed kl.Machine) := by
  refine keeps0 T.d_summed sc_summed (fun vs H Q E h => ?_) (fun f cdv A outer s H vs Q E hr h => ?_)
  · obtain ⟨m, n, M, N, rfl, _⟩ := h
    rfl
  · obtain ⟨m, n, M, N, rfl, hM, hN, fM, fN, aM, aN, lM, lN, xM, xN, cM, cN, k⟩ := h
    refine ⟨_, (pss_cons (ps_set (i := 2) sc_summed.nd rfl (Or.inr rfl) (pe_own (ok_pair_names T) hr (pa_cons (pe_pr (pv 0) hr T.cl_Machine T.p_Machine_states T.n_Machine_held_states sc_Machine_states) (pa_cons (pe_pr (pv 1) hr T.cl_Machine T.p_Machine_states T.n_Machine_held_states sc_Machine_states) pa_nil))))
  (pss_cons (ps_setLc2 (i := 3) (own := [("state", 6), ("letter", 7), ("after", 8), ("cost", 9), ("place", 10), ("sign", 11), ("beyond", 12), ("toll", 13)]) (vs1 := [10, 11, 12, 13]) (g := gTup K 4 (gCons (gName 6) (gCons (gName 7) (gCons (gName 8) (gCons (gName 9) (gNil)))))) (g1 := gTup K 4 (gCons (gName 10) (gCons (gName 11) (gCons (gName 12) (gCons (gName 13) (gNil)))))) (tt := tYes) rfl sc_summed.nd rfl rfl (sw_true rfl rfl rfl (by decide +kernel)) (kpi_tup K (pe_pr (pv 0) hr T.cl_Machine T.p_Machine_arrows T.n_Machine_held_arrows sc_Machine_arrows)) (blkOk_by (own := [("state", 6), ("letter", 7), ("after", 8), ("cost", 9), ("place", 10), ("sign", 11), ("beyond", 12), ("toll", 13)]) (N := N_summed) (sc := defScope s_summed) (by decide +kernel)) (by decide) (fun _ _ _ _ _ => (kpg_tup K rfl (pgs_cons (pg_name (i := 6) sc_summed.nd rfl (Or.inl rfl)) (pgs_cons (pg_name (i := 7) sc_summed.nd rfl (Or.inl rfl)) (pgs_cons (pg_name (i := 8) sc_summed.nd rfl (Or.inl rfl)) (pgs_cons (pg_name (i := 9) sc_summed.nd rfl (Or.inl rfl)) pgs_nil)))))) (fun _ _ _ _ _ => pts_nil) (fun _ _ _ _ _ => (kpi_tup K (pe_pr (pv 1) hr T.cl_Machine T.p_Machine_arrows T.n_Machine_held_arrows sc_Machine_arrows))) (fun _ _ _ _ _ => (kpg_tup K rfl (pgs_cons (pg_name (i := 10) sc_summed.nd rfl (Or.inl rfl)) (pgs_cons (pg_name (i := 11) sc_summed.nd rfl (Or.inl rfl)) (pgs_cons (pg_name (i := 12) sc_summed.nd rfl (Or.inl rfl)) (pgs_cons (pg_name (i := 13) sc_summed.nd rfl (Or.inl rfl)) pgs_nil)))))) (fun _ _ _ _ _ => pts_one (pt_cmpR op_eq (pv 11) (pv 7) (nomark _))) (fun _ _ _ _ _ => (pe_tup (pa_cons (pe_dget (hu_of hr) (pv 2) (pe_tup (pa_cons (pv 6) (pa_cons (pv 10) pa_nil))) (fun _ _ => rfl)) (pa_cons (pv 7) (pa_cons (pe_dget (hu_of hr) (pv 2) (pe_tup (pa_cons (pv 8) (pa_cons (pv 12) pa_nil))) (fun _ _ => rfl)) (pa_cons (pe_op op_add (pv 9) (pv 13)) pa_nil)))))))
  (pss_cons (ps_setLc2 (i := 4) (own := [("state", 6), ("place", 10)]) (vs1 := [10]) (g := gName 6) (g1 := gName 10) (tt := tYes) (tt1 := tYes) rfl sc_summed.nd rfl rfl (sw_true rfl rfl rfl (by decide +kernel)) (kpi_tup K (pe_pr (pv 0) hr T.cl_Machine T.p_Machine_starts T.n_Machine_held_starts sc_Machine_starts)) (blkOk_by (own := [("state", 6), ("place", 10)]) (N := N_summed) (sc := defScope s_summed) (by decide +kernel)) (by decide) (fun _ _ _ _ _ => (pg_name (i := 6) sc_summed.nd rfl (Or.inl rfl))) (fun _ _ _ _ _ => pts_nil) (fun _ _ _ _ _ => (kpi_tup K (pe_pr (pv 1) hr T.cl_Machine T.p_Machine_starts T.n_Machine_held_starts sc_Machine_starts))) (fun _ _ _ _ _ => (pg_name (i := 10) sc_summed.nd rfl (Or.inl rfl))) (fun _ _ _ _ _ => pts_nil) (fun _ _ _ _ _ => (pe_dget (hu_of hr) (pv 2) (pe_tup (pa_cons (pv 6) (pa_cons (pv 10) pa_nil))) (fun _ _ => rfl))))
  (pss_cons (ps_setLc2 (i := 5) (own := [("state", 6), ("place", 10)]) (vs1 := [10]) (g := gName 6) (g1 := gName 10) (tt := tYes) (tt1 := tYes) rfl sc_summed.nd rfl rfl (sw_true rfl rfl rfl (by decide +kernel)) (kpi_tup K (pe_pr (pv 0) hr T.cl_Machine T.p_Machine_ends T.n_Machine_held_ends sc_Machine_ends)) (blkOk_by (own := [("state", 6), ("place", 10)]) (N := N_summed) (sc := defScope s_summed) (by decide +kernel)) (by decide) (fun _ _ _ _ _ => (pg_name (i := 6) sc_summed.nd rfl (Or.inl rfl))) (fun _ _ _ _ _ => pts_nil) (fun _ _ _ _ _ => (kpi_tup K (pe_pr (pv 1) hr T.cl_Machine T.p_Machine_ends T.n_Machine_held_ends sc_Machine_ends))) (fun _ _ _ _ _ => (pg_name (i := 10) sc_summed.nd rfl (Or.inl rfl))) (fun _ _ _ _ _ => pts_nil) (fun _ _ _ _ _ => (pe_dget (hu_of hr) (pv 2) (pe_tup (pa_cons (pv 6) (pa_cons (pv 10) pa_nil))) (fun _ _ => rfl))))
  (pss_cons (ps_asg (pe_own (ok_useful T) hr (pa_cons (pv 3) (pa_cons (pv 4) (pa_cons (pv 5) pa_nil)))) (kpg_tup K rfl (pgs_cons (pg_name (i := 3) sc_summed.nd rfl (Or.inl rfl)) (pgs_cons (pg_name (i := 4) sc_summed.nd rfl (Or.inl rfl)) (pgs_cons (pg_name (i := 5) sc_summed.nd rfl (Or.inl rfl)) pgs_nil)))))
  (pss_one (ps_ret (pe_mk (mk_Machine T) hr T.g_Machine (pa_cons (pv 3) (pa_cons (pv 4) (pa_cons (pv 5) pa_nil))))))))))), ?_⟩
    have hM0 := hM
    have hN0 := hN
    obtain ⟨dx, t1, t2, t3, t4, t5, ws, hI⟩ := hM0
    obtain ⟨dy, u1, u2, u3, u4, u5, vs, hJ⟩ := hN0
    have wl : ws.length = M.ars.length := Paired.length hI.as
    have vl : vs.length = N.ars.length := Paired.length hJ.as
    have ndM := asc_nodup aM
    have ndN := asc_nodup aN
    have l25 : M.sta.length * N.sta.length ≤ 36 := Nat.le_trans (Nat.mul_le_mul lM lN) (by decide)
    refine ⟨_, rfl, m, dx, _, rfl, hI.ins, m, dx, _, _, rfl, hI.ins, mfs4 .., ?_⟩
    refine ⟨_, rfl, n, dy, _, rfl, hJ.ins, n, dy, _, _, rfl, hJ.ins, mfs4 .., t4, u4, M.sta, N.sta, rfl, hI.a4.sq, hJ.a4.sq, ndM, ndN, by omega, fun d us f H1 fd h1 hv hf s1 => ?_⟩
    obtain ⟨i1, i2, i3⟩ := prod_in (f := f) fM fN
    have okP := prod_ok fM fN hf cM cN
    have I1 : MachAt kl.Machine H1 m dx t1 t2 t3 t4 t5 ws M := ⟨s1 _ _ hI.ins, s1 _ _ hI.a1, hI.as.same s1, hI.a2.on s1, hI.a3.on s1, hI.a4.on s1, hI.a5.on s1⟩
    have J1 : MachAt kl.Machine H1 n dy u1 u2 u3 u4 u5 vs N := ⟨s1 _ _ hJ.ins, s1 _ _ hJ.a1, hJ.as.same s1, hJ.a2.on s1, hJ.a3.on s1, hJ.a4.on s1, hJ.a5.on s1⟩
    have xl400 : (prodA f M.ars N.ars).length ≤ 400 := Nat.le_trans (prodA_len ..) (Nat.le_trans (Nat.mul_le_mul xM xN) (by decide))
    -- the arrows
    refine ⟨_, rfl, m, dx, _, rfl, I1.ins, m, dx, _, _, rfl, I1.ins, mfs1 .., t1, rfl, ⟨_, SqT.of I1.a1⟩, fun D1 hD1 => ?_⟩
    refine it_gen walk_tup (fun i H' => LcB D1 (fun acc H' => ArD D1 H' acc (prodA f (M.ars.take i) N.ars) ∧ Same H1 H') H') ⟨[], upd_same, .nil, same_new hD1⟩ (fun i H' _ ⟨_, _, h⟩ => SqT.of (h.2 _ _ I1.a1)) ?_ ?_
    · rintro i x _ H2 hi ⟨acc, hB, hz, s2⟩ ⟨rfl, hx⟩
      obtain ⟨r, y, rfl, hy, hr2⟩ := ArS.get (I1.as.same s2) hx
      have tk : M.ars.take (i + 1) = M.ars.take i ++ [y] := by rw [List.take_add_one, hy]; rfl
      have my := fM.ar y (List.mem_of_getElem? hy)
      have e0 : wipe (List.set (L2.start N_summed [V.ref m, V.ref n]) 2 (some (V.ref d))) [6, 7, 8, 9, 10, 11, 12, 13] = [some (.ref m), some (.ref n), some (.ref d), none, none, none, none, none, none, none, none, none, none, none] := rfl
      show gTup K 4 (gCons (gName 6) (gCons (gName 7) (gCons (gName 8) (gCons (gName 9) gNil)))) (V.ref r) (wipe (List.set (L2.start N_summed [V.ref m, V.ref n]) 2 (some (V.ref d))) [6, 7, 8, 9, 10, 11, 12, 13]) H2 fun σ2 H2 => wipe σ2 [6, 7, 8, 9, 10, 11, 12, 13] = wipe (List.set (L2.start N_summed [V.ref m, V.ref n]) 2 (some (V.ref d))) [6, 7, 8, 9, 10, 11, 12, 13] ∧ _
      rw [e0]
      refine ⟨r, _, rfl, SqT.of hr2, rfl, _, _, rfl, _, _, rfl, _, _, rfl, _, _, rfl, rfl, rfl, ?_⟩
      have J2 : MachAt kl.Machine H2 n dy u1 u2 u3 u4 u5 vs N := ⟨s2 _ _ J1.ins, s2 _ _ J1.a1, J1.as.same s2, J1.a2.on s2, J1.a3.on s2, J1.a4.on s2, J1.a5.on s2⟩
      refine ⟨_, rfl, n, dy, _, rfl, J2.ins, n, dy, _, _, rfl, J2.ins, mfs1 .., u1, rfl, ⟨_, SqT.of J2.a1⟩, ?_⟩
      refine it_gen walk_tup (fun j H' => LcB D1 (fun acc H' => ArD D1 H' acc (prodA f (M.ars.take i) N.ars ++ rowA f y (N.ars.take j)) ∧ Same H1 H') H') ⟨acc, hB, by simpa [rowA] using hz, s2⟩ (fun j H' _ ⟨_, _, h⟩ => SqT.of (h.2 _ _ J1.a1)) ?_ ?_
      · rintro j x _ H3 hj ⟨acc, hB, hz, s3⟩ ⟨rfl, hx⟩
        obtain ⟨r', z, rfl, hz', hr3⟩ := ArS.get (J1.as.same s3) hx
        have tj : N.ars.take (j + 1) = N.ars.take j ++ [z] := by rw [List.take_add_one, hz']; rfl
        have mz := fN.ar z (List.mem_of_getElem? hz')
        show gTup K 4 (gCons (gName 10) (gCons (gName 11) (gCons (gName 12) (gCons (gName 13) gNil)))) (V.ref r') [some (V.ref m), some (V.ref n), some (V.ref d), none, none, none, some (V.str y.s), some (V.str y.l), some (V.str y.t), some (V.int y.c), none, none, none, none] H3 fun σ3 H5 => wipe σ3 [10, 11, 12, 13] = [some (V.ref m), some (V.ref n), some (V.ref d), none, none, none, some (V.str y.s), some (V.str y.l), some (V.str y.t), some (V.int y.c), none, none, none, none] ∧ _
        refine ⟨r', _, rfl, SqT.of hr3, rfl, _, _, rfl, _, _, rfl, _, _, rfl, _, _, rfl, rfl, rfl, ?_⟩
        refine ⟨_, rfl, _, rfl, ?_⟩
        have s13 := s1.trans s3
        refine ⟨rfl, _, rfl, ite2 (fun hc => ?_) (fun hc => ?_)⟩
        · have hd3 := s3 _ _ h1
          have m1 : (.ref d : V) = .ref d := rfl
          refine ⟨_, rfl, _, rfl, _, rfl, Nat.le_of_ble_eq_true rfl, fun k1 hk1 => ?_⟩
          have a1 : Same H3 (upd H3 k1 (.tup [.str y.s, .str z.s])) := same_new hk1
          have v1 := hv _ my.1 _ mz.1
          refine ⟨d, .str (f y.s z.s), rfl, by rw [← v1]; exact DGet.t (k := ky2 y.s z.s) (a1 _ _ hd3) upd_same, _, rfl, ?_⟩
          generalize upd H3 k1 (.tup [.str y.s, .str z.s]) = H4 at a1
          refine ⟨_, rfl, _, rfl, _, rfl, Nat.le_of_ble_eq_true rfl, fun k2 hk2 => ?_⟩
          have a2 : Same H4 (upd H4 k2 (.tup [.str y.t, .str z.t])) := same_new hk2
          have v2 := hv _ my.2 _ mz.2
          refine ⟨d, .str (f y.t z.t), rfl, by rw [← v2]; exact DGet.t (k := ky2 y.t z.t) (a2 _ _ (a1 _ _ hd3)) upd_same, ?_⟩
          generalize upd H4 k2 (.tup [.str y.t, .str z.t]) = H5 at a2
          refine ⟨_, rfl, _, rfl, _, _, rfl, rfl, Nat.le_of_ble_eq_true rfl, fun q hq => ?_⟩
          have A2 := a1.trans a2
          have a3 : Same H5 (upd H5 q (.tup (pA f y z).vals)) := same_new hq
          have nq : q ≠ D1 := fun e => by
            rw [e, A2 _ _ hB] at hq
            cases hq
          have zl : z.l = y.l := by simpa using hc
          have al : acc.length ≤ 400 := by
            have e1 := Paired.length hz
            have e2 := prodA_len f (M.ars.take i) N.ars
            have e3 : (M.ars.take i).length * N.ars.length ≤ 19 * 20 := Nat.mul_le_mul (by rw [List.length_take]; omega) xN
            have e4 : (rowA f y (N.ars.take j)).length ≤ j := by
              unfold rowA
              rw [List.length_map]
              exact Nat.le_trans (List.length_filter_le ..) (by rw [List.length_take]; omega)
            rw [List.length_append] at e1
            omega
          refine LcB.put (fun acc H o h => ⟨h.1.upd, same_mut h.2 hD1⟩) ((A2.trans a3) _ _ hB) (by omega) ⟨?_, s3.trans (A2.trans a3)⟩
          rw [tj]
          unfold rowA
          rw [List.filter_append, List.filter_cons_of_pos (by simpa using zl), List.filter_nil, List.map_append, ← List.append_assoc]
          exact (hz.keep (A2.trans a3)).snoc (x := pA f y z) nq upd_same
        · have zl : ¬ z.l = y.l := by simpa using hc
          refine ⟨acc, hB, ?_, s3⟩
          rw [tj]
          unfold rowA
          rw [List.filter_append, List.filter_cons_of_neg (by simpa using zl), List.filter_nil, List.append_nil]
          exact hz
      · rintro H3 ⟨acc, hB, hz, s3⟩
        rw [vl, List.take_length] at hz
        refine ⟨acc, hB, ?_, s3⟩
        rw [tk, prodA_snoc]
        exact hz
    rintro H2 ⟨acc, hB, hz, s2⟩
    rw [wl, List.take_length] at hz
    have S2 := s1.trans s2
    have hAr : ArS H2 acc (prodA f M.ars N.ars) := hz.ars
    have I2 : MachAt kl.Machine H2 m dx t1 t2 t3 t4 t5 ws M := ⟨s2 _ _ I1.ins, s2 _ _ I1.a1, I1.as.same s2, I1.a2.on s2, I1.a3.on s2, I1.a4.on s2, I1.a5.on s2⟩
    have J2 : MachAt kl.Machine H2 n dy u1 u2 u3 u4 u5 vs N := ⟨s2 _ _ J1.ins, s2 _ _ J1.a1, J1.as.same s2, J1.a2.on s2, J1.a3.on s2, J1.a4.on s2, J1.a5.on s2⟩
    have hd2 := s2 _ _ h1
    clear hz
    -- the starts
    refine ⟨_, rfl, m, dx, _, rfl, I2.ins, m, dx, _, _, rfl, I2.ins, mfs2 .., t2, rfl, ⟨_, I2.a2.sq⟩, fun D2 hD2 => ?_⟩
    refine it_gen walk_tup (fun i H' => LcB D2 (fun acc H' => acc = (prodS f (M.sts.take i) N.sts).map V.str ∧ Same H2 H') H') ⟨[], upd_same, rfl, same_new hD2⟩ (fun i H' _ ⟨_, _, h⟩ => (I2.a2.on h.2).sq) ?_ ?_
    · rintro i x _ H3 hi ⟨acc2, hB2, rfl, s3⟩ ⟨rfl, hx⟩
      obtain ⟨u, rfl, hu⟩ := map_str hx
      rw [List.length_map] at hi
      have tk : M.sts.take (i + 1) = M.sts.take i ++ [u] := by rw [List.take_add_one, hu]; rfl
      have mu := fM.st _ (List.mem_of_getElem? hu)
      show gName 6 (V.str u) [some (V.ref m), some (V.ref n), some (V.ref d), some (V.ref D1), none, none, none, none, none, none, none, none, none, none] H3 fun σ2 H2 => wipe σ2 [6, 10] = [some (V.ref m), some (V.ref n), some (V.ref d), some (V.ref D1), none, none, none, none, none, none, none, none, none, none] ∧ _
      refine ⟨rfl, ?_⟩
      refine ⟨_, rfl, n, dy, _, rfl, s3 _ _ J2.ins, n, dy, _, _, rfl, s3 _ _ J2.ins, mfs2 .., u2, rfl, ⟨_, (J2.a2.on s3).sq⟩, ?_⟩
      refine it_gen walk_tup (fun j H' => LcB D2 (fun acc H' => acc = (prodS f (M.sts.take i) N.sts ++ (N.sts.take j).map (f u)).map V.str ∧ Same H2 H') H') ⟨_, hB2, by simp, s3⟩ (fun j H' _ ⟨_, _, h⟩ => (J2.a2.on h.2).sq) ?_ ?_
      · rintro j x _ H4 hj ⟨acc3, hB3, rfl, s4⟩ ⟨rfl, hx⟩
        obtain ⟨z, rfl, hz⟩ := map_str hx
        rw [List.length_map] at hj
        have tj : N.sts.take (j + 1) = N.sts.take j ++ [z] := by rw [List.take_add_one, hz]; rfl
        have mz := fN.st _ (List.mem_of_getElem? hz)
        show gName 10 (V.str z) [some (V.ref m), some (V.ref n), some (V.ref d), some (V.ref D1), none, none, some (V.str u), none, none, none, none, none, none, none] H4 fun σ2 H2 => wipe σ2 [10] = [some (V.ref m), some (V.ref n), some (V.ref d), some (V.ref D1), none, none, some (V.str u), none, none, none, none, none, none, none] ∧ _
        refine ⟨rfl, ?_⟩
        refine ⟨_, rfl, _, rfl, _, rfl, Nat.le_of_ble_eq_true rfl, fun k1 hk1 => ?_⟩
        have a1 : Same H4 (upd H4 k1 (.tup [.str u, .str z])) := same_new hk1
        have v1 := hv _ mu _ mz
        refine ⟨d, .str (f u z), rfl, by rw [← v1]; exact DGet.t (k := ky2 u z) (a1 _ _ (s4 _ _ hd2)) upd_same, ?_⟩
        refine LcB.put (fun acc H o h => ⟨h.1, same_mut h.2 hD2⟩) (a1 _ _ hB3) ?_ ⟨?_, s4.trans a1⟩
        · rw [List.length_map, List.length_append, prodS_len, List.length_map]
          have e1 : (M.sts.take i).length * N.sts.length ≤ 6 * 6 := Nat.mul_le_mul (by have := cM.s; rw [List.length_take]; omega) cN.s
          have e2 := cN.s
          have e3 : (N.sts.take j).length ≤ j := by rw [List.length_take]; omega
          omega
        · rw [tj, List.map_append, List.map_append, List.map_append, List.map_append, List.append_assoc]
          rfl
      · rintro H4 ⟨acc3, hB3, rfl, s4⟩
        rw [List.length_map, List.take_length] at hB3
        refine ⟨_, hB3, ?_, s4⟩
        rw [tk, prodS_snoc]
    rintro H3 ⟨acc2, hB2, rfl, s3⟩
    rw [List.length_map, List.take_length] at hB2
    have S3 := S2.trans s3
    have I3 : MachAt kl.Machine H3 m dx t1 t2 t3 t4 t5 ws M := ⟨s3 _ _ I2.ins, s3 _ _ I2.a1, I2.as.same s3, I2.a2.on s3, I2.a3.on s3, I2.a4.on s3, I2.a5.on s3⟩
    have J3 : MachAt kl.Machine H3 n dy u1 u2 u3 u4 u5 vs N := ⟨s3 _ _ J2.ins, s3 _ _ J2.a1, J2.as.same s3, J2.a2.on s3, J2.a3.on s3, J2.a4.on s3, J2.a5.on s3⟩
    have hd3 := s3 _ _ hd2
    -- the ends
    refine ⟨_, rfl, m, dx, _, rfl, I3.ins, m, dx, _, _, rfl, I3.ins, mfs3 .., t3, rfl, ⟨_, I3.a3.sq⟩, fun D3x hD3x => ?_⟩
    refine it_gen walk_tup (fun i H' => LcB D3x (fun acc H' => acc = (prodS f (M.ens.take i) N.ens).map V.str ∧ Same H3 H') H') ⟨[], upd_same, rfl, same_new hD3x⟩ (fun i H' _ ⟨_, _, h⟩ => (I3.a3.on h.2).sq) ?_ ?_
    · rintro i x _ HQ3 hi ⟨acc2, hB4, rfl, s3⟩ ⟨rfl, hx⟩
      obtain ⟨u, rfl, hu⟩ := map_str hx
      rw [List.length_map] at hi
      have tk : M.ens.take (i + 1) = M.ens.take i ++ [u] := by rw [List.take_add_one, hu]; rfl
      have mu := fM.en _ (List.mem_of_getElem? hu)
      show gName 6 (V.str u) [some (V.ref m), some (V.ref n), some (V.ref d), some (V.ref D1), some (V.ref D2), none, none, none, none, none, none, none, none, none] HQ3 fun σ2 H2 => wipe σ2 [6, 10] = [some (V.ref m), some (V.ref n), some (V.ref d), some (V.ref D1), some (V.ref D2), none, none, none, none, none, none, none, none, none] ∧ _
      refine ⟨rfl, ?_⟩
      refine ⟨_, rfl, n, dy, _, rfl, s3 _ _ J3.ins, n, dy, _, _, rfl, s3 _ _ J3.ins, mfs3 .., u3, rfl, ⟨_, (J3.a3.on s3).sq⟩, ?_⟩
      refine it_gen walk_tup (fun j H' => LcB D3x (fun acc H' => acc = (prodS f (M.ens.take i) N.ens ++ (N.ens.take j).map (f u)).map V.str ∧ Same H3 H') H') ⟨_, hB4, by simp, s3⟩ (fun j H' _ ⟨_, _, h⟩ => (J3.a3.on h.2).sq) ?_ ?_
      · rintro j x _ HQ4 hj ⟨acc3, hB3, rfl, s4⟩ ⟨rfl, hx⟩
        obtain ⟨z, rfl, hz⟩ := map_str hx
        rw [List.length_map] at hj
        have tj : N.ens.take (j + 1) = N.ens.take j ++ [z] := by rw [List.take_add_one, hz]; rfl
        have mz := fN.en _ (List.mem_of_getElem? hz)
        show gName 10 (V.str z) [some (V.ref m), some (V.ref n), some (V.ref d), some (V.ref D1), some (V.ref D2), none, some (V.str u), none, none, none, none, none, none, none] HQ4 fun σ2 H2 => wipe σ2 [10] = [some (V.ref m), some (V.ref n), some (V.ref d), some (V.ref D1), some (V.ref D2), none, some (V.str u), none, none, none, none, none, none, none] ∧ _
        refine ⟨rfl, ?_⟩
        refine ⟨_, rfl, _, rfl, _, rfl, Nat.le_of_ble_eq_true rfl, fun k1 hk1 => ?_⟩
        have a1 : Same HQ4 (upd HQ4 k1 (.tup [.str u, .str z])) := same_new hk1
        have v1 := hv _ mu _ mz
        refine ⟨d, .str (f u z), rfl, by rw [← v1]; exact DGet.t (k := ky2 u z) (a1 _ _ (s4 _ _ hd3)) upd_same, ?_⟩
        refine LcB.put (fun acc H o h => ⟨h.1, same_mut h.2 hD3x⟩) (a1 _ _ hB3) ?_ ⟨?_, s4.trans a1⟩
        · rw [List.length_map, List.length_append, prodS_len, List.length_map]
          have e1 : (M.ens.take i).length * N.ens.length ≤ 6 * 6 := Nat.mul_le_mul (by have := cM.e; rw [List.length_take]; omega) cN.e
          have e2 := cN.e
          have e3 : (N.ens.take j).length ≤ j := by rw [List.length_take]; omega
          omega
        · rw [tj, List.map_append, List.map_append, List.map_append, List.map_append, List.append_assoc]
          rfl
      · rintro HQ4 ⟨acc3, hB3, rfl, s4⟩
        rw [List.length_map, List.take_length] at hB3
        refine ⟨_, hB3, ?_, s4⟩
        rw [tk, prodS_snoc]
    rintro HQ3 ⟨acc2, hB4, rfl, s5⟩
    rw [List.length_map, List.take_length] at hB4
    have sl : (prodS f M.sts N.sts).length ≤ 400 := by
      rw [prodS_len]
      exact Nat.le_trans (Nat.mul_le_mul cM.s cN.s) (by decide)
    have el : (prodS f M.ens N.ens).length ≤ 400 := by
      rw [prodS_len]
      exact Nat.le_trans (Nat.mul_le_mul cM.e cN.e) (by decide)
    have nl : (prodS f M.sta N.sta).length ≤ 40 := by
      rw [prodS_len]
      omega
    -- those on some run
    refine ⟨_, rfl, _, rfl, _, rfl, D1, D2, D3x, acc, prodA f M.ars N.ars, prodS f M.sts N.sts, prodS f M.ens N.ens, rfl, SqL.of (s5 _ _ (s3 _ _ hB)), (hAr.same s3).same s5, .inl (SqL.of (s5 _ _ hB2)), .inl (SqL.of hB4), by omega, sl, el, fun t q1 q2 q3 ws2 ys F1 F2 H6 ht hq1 hA6 hC hq2 hq3 hK s6 => ?_⟩
    have S6 := (S3.trans s5).trans s6
    have ysub : ∀ y ∈ ys, y ∈ prodA f M.ars N.ars := fun y hy => (List.mem_filter.mp (hC.sub y hy).1).1
    have yl : ys.length ≤ 400 := Nat.le_trans (Nat.le_trans (nodup_le (cheap_nodup hC) fun y hy => (hC.sub y hy).1) (List.length_filter_le ..)) xl400
    have ssub : ∀ z ∈ (prodS f M.sts N.sts).filter (kp F1 F2), z ∈ prodS f M.sta N.sta := fun z hz => i1 z (List.mem_filter.mp hz).1
    have esub : ∀ z ∈ (prodS f M.ens N.ens).filter (kp F1 F2), z ∈ prodS f M.sta N.sta := fun z hz => i2 z (List.mem_filter.mp hz).1
    have nmP : ∀ z ∈ prodS f M.sta N.sta, Nm z := fun z hz => by
      obtain ⟨a, ha, b, hb, rfl⟩ := prodS_mem.mp hz
      exact hf.nm a ha b hb
    refine ⟨t, _, rfl, SqT.of ht, rfl, _, _, rfl, _, _, rfl, _, _, rfl, rfl, ?_⟩
    refine ⟨_, rfl, _, rfl, _, rfl, fun x dx2 nx ndx nex => ?_⟩
    have sB : Same H6 (upd (upd H6 dx2 (.own x)) x (.ins kl.Machine dx2 [])) := fun b o e => by
      rw [upd_ne (ne_of_none e nx), upd_ne (ne_of_none e ndx)]
      exact e
    refine ⟨x, q1, q2, q3, dx2, ws2, ys, (prodS f M.sts N.sts).filter (kp F1 F2), (prodS f M.ens N.ens).filter (kp F1 F2), prodS f M.sta N.sta, rfl, upd_same, .inr (SqT.of (sB _ _ hq1)), hA6.same sB, fun y hy => okP y (ysub y hy), yl, .inl (SqL.of (sB _ _ hq2)), .inl (SqL.of (sB _ _ hq3)), fun z hz => nmP z (ssub z hz), fun z hz => nmP z (esub z hz), Nat.le_trans (List.length_filter_le ..) (by omega), Nat.le_trans (List.length_filter_le ..) (by omega), nl, ssub, esub, fun y hy => i3 y (ysub y hy), fun R H7 hMach hMOf keep => ⟨rfl, ?_⟩⟩
    exact k x R H7 (S6.free nx) hMach (fine_of hMOf (fun y hy => okP y (ysub y hy)) yl nmP nl ssub esub fun y hy => i3 y (ysub y hy)) (sum_of fM fN hf hK hC hMOf) fun b o e => keep b o (ne_of_none (S6 _ _ e) nx) (sB b o (S6 b o e))

end
end Pf

namespace Pf
open PySem PySem.Spec PyProof.Rows L2 Bz
local macro_rules | `(tactic| walk_at "sd") => `(tactic| first
  | rfl | assumption | omega | exact Nat.le_of_ble_eq_true rfl | decide | (refine Or.inl (And.intro ?_ ?_) <;> omega) | (refine Or.inr (And.intro ?_ ?_) <;> omega) | (refine And.intro ?_ ?_ <;> omega) | (refine ⟨?_, ?_, ?_⟩ <;> omega))
local macro_rules | `(tactic| walk_at "sq") => `(tactic| first | assumption | exact SqL.of (by assumption) | exact SqT.of (by assumption) | exact SqL.of upd_same | exact SqT.of upd_same)
local macro_rules | `(tactic| walk_at "hp") => `(tactic| first | assumption | exact upd_same)
local macro_rules | `(tactic| walk_at "rd") => `(tactic| repeat (first
  | (refine ⟨_, rfl, ?_⟩) | (refine ⟨_, _, rfl, rfl, ?_⟩) | (refine ⟨rfl, ?_⟩) | (refine And.intro (by walk_at "sd") ?_)
  | (refine ⟨_, _, _, _, rfl, rfl, (by walk_at "sq"), rfl, ?_⟩)
  | (refine ⟨_, _, _, _, rfl, rfl, (by walk_at "hp"), rfl, ?_⟩)
  | (refine Or.inl ⟨_, rfl, ?_⟩)))
section
variable {P : Program} {w : World} {K : PySem.W.Frag} {mg : PySem.Str → Option Value} {base : Heap} {kl : Cl}
theorem ok_within (T : Facts K mg kl) : Keeps P w K mg base CX0 8 "within" ["one", "other"] (spWithin kl.Machine) := by
  refine keeps0 T.d_within sc_within (fun vs H Q E h => ?_) (fun f cdv A outer s H vs Q E hr h => ?_)
  · obtain ⟨m, n, M, N, rfl, _⟩ := h
    rfl
  · obtain ⟨m, n, M, N, rfl, hM, hN, fM, fN, aM, aN, lM, lN, xM, xN, cM, cN, k⟩ := h
    refine ⟨_, (pss_cons (ps_setLc (i := 2) (own := [("state", 3), ("letter", 4), ("after", 5), ("cost", 6)]) (g := gTup K 4 (gCons (gName 3) (gCons (gName 4) (gCons (gName 5) (gCons (gName 6) (gNil)))))) (tt := tYes) rfl sc_within.nd rfl rfl (sw_true rfl rfl rfl (by decide +kernel)) (kpi_tup K (pe_pr (pv 1) hr T.cl_Machine T.p_Machine_arrows T.n_Machine_held_arrows sc_Machine_arrows)) (blkOk_by (own := [("state", 3), ("letter", 4), ("after", 5), ("cost", 6)]) (N := N_within) (sc := defScope s_within) (by decide +kernel)) (fun _ _ _ _ _ => (kpg_tup K rfl (pgs_cons (pg_name (i := 3) sc_within.nd rfl (Or.inl rfl)) (pgs_cons (pg_name (i := 4) sc_within.nd rfl (Or.inl rfl)) (pgs_cons (pg_name (i := 5) sc_within.nd rfl (Or.inl rfl)) (pgs_cons (pg_name (i := 6) sc_within.nd rfl (Or.inl rfl)) pgs_nil)))))) (fun _ _ _ _ _ => pts_nil) (fun _ _ _ _ _ => (pe_tup (pa_cons (pv 3) (pa_cons (pv 4) (pa_cons (pv 5) (pa_cons pe_int pa_nil)))))))
  (pss_one (ps_ret (pe_own (ok_summed T) hr (pa_cons (pv 0) (pa_cons (pe_mk (mk_Machine T) hr T.g_Machine (pa_cons (pv 2) (pa_cons (pe_pr (pv 1) hr T.cl_Machine T.p_Machine_starts T.n_Machine_held_starts sc_Machine_starts) (pa_cons (pe_pr (pv 1) hr T.cl_Machine T.p_Machine_ends T.n_Machine_held_ends sc_Machine_ends) pa_nil)))) pa_nil)))))), ?_⟩
    have hN0 := hN
    obtain ⟨dy, u1, u2, u3, u4, u5, vs, hJ⟩ := hN0
    have vl : vs.length = N.ars.length := Paired.length hJ.as
    refine ⟨_, rfl, n, dy, _, rfl, hJ.ins, n, dy, _, _, rfl, hJ.ins, mfs1 .., u1, rfl, ⟨_, SqT.of hJ.a1⟩, fun D1 hD1 => lcA walk_tup (fun i acc H' => ArD D1 H' acc ((N.ars.take i).map zeroA) ∧ Same H H') ⟨.nil, .refl _⟩ (fun i acc H' o h => ⟨h.1.upd, same_mut h.2 hD1⟩) (fun i acc H' _ h => SqT.of (h.2 _ _ hJ.a1)) ?_ ?_⟩
    · rintro i x acc _ H3 hi ⟨hz, hs⟩ hB hl1 ⟨rfl, hx⟩
      obtain ⟨r, y, rfl, hy, hr⟩ := ArS.get (hJ.as.same hs) hx
      refine ⟨r, _, rfl, SqT.of hr, rfl, _, _, rfl, _, _, rfl, _, _, rfl, _, _, rfl, rfl, rfl, ?_⟩
      refine ⟨_, rfl, _, rfl, _, rfl, Nat.le_of_ble_eq_true rfl, fun g3 hg3 => ?_⟩
      have s3 : Same H3 (upd H3 g3 (.tup (zeroA y).vals)) := same_new hg3
      have ng : g3 ≠ D1 := fun z => by
        rw [z, hB] at hg3
        cases hg3
      refine LcP.put (fun i acc H' o h => ⟨h.1.upd, same_mut h.2 hD1⟩) (s3 _ _ hB) hl1 (by omega) ⟨?_, hs.trans s3⟩
      rw [List.take_add_one, hy, Option.toList_some, List.map_append]
      exact (hz.keep s3).snoc (x := zeroA y) ng upd_same
    rintro acc1 H3 ⟨hz1, s3⟩ hB1 hl1
    rw [vl, List.take_length] at hz1
    have hA1 := hz1.ars
    have J3 : MachAt kl.Machine H3 n dy u1 u2 u3 u4 u5 vs N := ⟨s3 _ _ hJ.ins, s3 _ _ hJ.a1, hJ.as.same s3, hJ.a2.on s3, hJ.a3.on s3, hJ.a4.on s3, hJ.a5.on s3⟩
    have okZ : ∀ x ∈ N.ars.map zeroA, x.Ok := fun x hx => by
      obtain ⟨y, hy, rfl⟩ := List.mem_map.mp hx
      have o := fN.ok y hy
      exact ⟨o.s, o.l, o.t, Int.le_refl 0, (by decide : (0 : Int) ≤ 99)⟩
    have inZ : ∀ x ∈ N.ars.map zeroA, x.s ∈ N.sta ∧ x.t ∈ N.sta := fun x hx => by
      obtain ⟨y, hy, rfl⟩ := List.mem_map.mp hx
      exact fN.ar y hy
    have zl : (N.ars.map zeroA).length ≤ 20 := by
      rw [List.length_map]
      exact xN
    refine ⟨_, rfl, ?_⟩
    refine ⟨_, rfl, _, rfl, n, dy, _, rfl, J3.ins, n, dy, _, _, rfl, J3.ins, mfs2 .., ?_⟩
    refine ⟨_, rfl, n, dy, _, rfl, J3.ins, n, dy, _, _, rfl, J3.ins, mfs3 .., fun x dx2 nx ndx nex => ?_⟩
    have sB : Same H3 (upd (upd H3 dx2 (.own x)) x (.ins kl.Machine dx2 [])) := fun b o e => by
      rw [upd_ne (ne_of_none e nx), upd_ne (ne_of_none e ndx)]
      exact e
    have sl := fN.sl
    have el := fN.el
    refine ⟨x, D1, u2, u3, dx2, acc1, N.ars.map zeroA, N.sts, N.ens, N.sta, rfl, upd_same, .inl (SqL.of (sB _ _ hB1)), hA1.same sB, okZ, by omega, .inr ((J3.a2.on sB).sq), .inr ((J3.a3.on sB).sq), fun z hz => fN.nm z (fN.st z hz), fun z hz => fN.nm z (fN.en z hz), by omega, by omega, fN.nl, fN.st, fN.en, inZ, fun U H4 hMach hMOf keep => ⟨rfl, ?_⟩⟩
    have s4 : Same H3 H4 := fun b o e => keep b o (ne_of_none e nx) (sB b o e)
    have S4 := s3.trans s4
    have fU : MFine U := fine_of hMOf okZ (by omega) fN.nm fN.nl fN.st fN.en inZ
    have lU := Nat.le_trans (zero_sta fN hMOf) lN
    have xU : U.ars.length ≤ 20 := Nat.le_trans (nodup_le (cheap_nodup hMOf.ars) fun y hy => (hMOf.ars.sub y hy).1) zl
    have cU : LowC U := hMOf.low (fun x hx => by
      obtain ⟨y, hy, rfl⟩ := List.mem_map.mp hx
      exact (by decide : (0 : Int) ≤ 40)) lU
    exact ⟨m, x, M, U, rfl, hM.same S4, hMach, fM, fU, aM, hMOf.sta.1, lM, lU, xM, xU, cM, cU, fun q R H5 fq hR fR hS s5 => k q R H5 (S4.free fq) hR fR (in_of fN hMOf hS) (S4.trans s5)⟩

end
end Pf

namespace Pf
open PySem PySem.Spec PyProof.Rows L2 Bz
local macro_rules | `(tactic| walk_at "sd") => `(tactic| first
  | rfl | assumption | omega | exact Nat.le_of_ble_eq_true rfl | decide | (refine Or.inl (And.intro ?_ ?_) <;> omega) | (refine Or.inr (And.intro ?_ ?_) <;> omega) | (refine And.intro ?_ ?_ <;> omega) | (refine ⟨?_, ?_, ?_⟩ <;> omega))
local macro_rules | `(tactic| walk_at "sq") => `(tactic| first | assumption | exact SqL.of (by assumption) | exact SqT.of (by assumption) | exact SqL.of upd_same | exact SqT.of upd_same)
local macro_rules | `(tactic| walk_at "hp") => `(tactic| first | assumption | exact upd_same)
local macro_rules | `(tactic| walk_at "rd") => `(tactic| repeat (first
  | (refine ⟨_, rfl, ?_⟩) | (refine ⟨_, _, rfl, rfl, ?_⟩) | (refine ⟨rfl, ?_⟩) | (refine And.intro (by walk_at "sd") ?_)
  | (refine ⟨_, _, _, _, rfl, rfl, (by walk_at "sq"), rfl, ?_⟩)
  | (refine ⟨_, _, _, _, rfl, rfl, (by walk_at "hp"), rfl, ?_⟩)
  | (refine Or.inl ⟨_, rfl, ?_⟩)))
section
variable {P : Program} {w : World} {K : PySem.W.Frag} {mg : PySem.Str → Option Value} {base : Heap} {kl : Cl}
theorem ok_joined (T : Facts K mg kl) : Keeps P w K mg base CX0 6 "joined" ["one", "other"] (spJoined kl.Machine) := by
  refine keeps0 T.d_joined sc_joined (fun vs H Q E h => ?_) (fun f cdv A outer s H vs Q E hr h => ?_)
  · obtain ⟨m, n, M, N, rfl, _⟩ := h
    rfl
  · obtain ⟨m, n, M, N, rfl, hM, hN, fM, fN, lM, lN, lj, dis, k⟩ := h
    refine ⟨_, (pss_cons (ps_set (i := 2) sc_joined.nd rfl (Or.inl rfl) (pe_callTy (klist_of K) (by rfl) T.b_list (by decide +kernel) (pa_cons (pe_op (kcatA K) (pe_pr (pv 0) hr T.cl_Machine T.p_Machine_arrows T.n_Machine_held_arrows sc_Machine_arrows) (pe_pr (pv 1) hr T.cl_Machine T.p_Machine_arrows T.n_Machine_held_arrows sc_Machine_arrows)) pa_nil)))
  (pss_cons (ps_for PassesOwn.never rfl (kpi_tup K (pe_pr (pv 0) hr T.cl_Machine T.p_Machine_arrows T.n_Machine_held_arrows sc_Machine_arrows)) (kpg_tup K rfl (pgs_cons (pg_name (i := 3) sc_joined.nd rfl (Or.inr rfl)) (pgs_cons (pg_name (i := 4) sc_joined.nd rfl (Or.inr rfl)) (pgs_cons (pg_name (i := 5) sc_joined.nd rfl (Or.inl rfl)) (pgs_cons (pg_name (i := 6) sc_joined.nd rfl (Or.inr rfl)) pgs_nil)))))
  (pss_one (ps_if (pt_cmpR (kin_seq K) (pv 5) (pe_pr (pv 0) hr T.cl_Machine T.p_Machine_ends T.n_Machine_held_ends sc_Machine_ends) (by rfl))
  (pss_one (ps_expr (kbm K PySem.F.plainAttrs_list PySem.F.slot_list_extend PySem.F.type_list_extend mt_extend (pv 2) (pa_cons (pe_lc (own := [("start", 8)]) (g := gName 8) (tt := tYes) rfl sc_joined.nd (kpi_tup K (pe_pr (pv 1) hr T.cl_Machine T.p_Machine_starts T.n_Machine_held_starts sc_Machine_starts)) (blkOk_by (own := [("start", 8)]) (N := N_joined) (sc := defScope s_joined) (by decide +kernel)) (fun _ _ _ _ _ => (pg_name (i := 8) sc_joined.nd rfl (Or.inl rfl))) (fun _ _ _ _ _ => pts_nil) (fun _ _ _ _ _ => (pe_tup (pa_cons (pv 3) (pa_cons (pv 4) (pa_cons (pv 8) (pa_cons (pv 6) pa_nil))))))) pa_nil))))
  pss_nil)))
  (pss_cons (ps_set (i := 7) sc_joined.nd rfl (Or.inl rfl) (pe_callTy (klist_of K) (by rfl) T.b_list (by decide +kernel) (pa_cons (pe_pr (pv 0) hr T.cl_Machine T.p_Machine_starts T.n_Machine_held_starts sc_Machine_starts) pa_nil)))
  (Evl.pss_cut (ps_if (pt_cmpR op_notN (pe_own (ok_price T) hr (pa_cons (pv 0) (pa_cons pe_str pa_nil))) pe_non (nomark _))
  (pss_one (ps_expr (kbm K PySem.F.plainAttrs_list PySem.F.slot_list_extend PySem.F.type_list_extend (kmt_extendT K) (pv 7) (pa_cons (pe_pr (pv 1) hr T.cl_Machine T.p_Machine_starts T.n_Machine_held_starts sc_Machine_starts) pa_nil))))
  pss_nil)
  (pss_one (ps_ret (pe_own (ok_useful T) hr (pa_cons (pv 2) (pa_cons (pv 7) (pa_cons (pe_pr (pv 1) hr T.cl_Machine T.p_Machine_ends T.n_Machine_held_ends sc_Machine_ends) pa_nil)))))))))), ?_⟩
    have hM0 := hM
    have hN0 := hN
    obtain ⟨dx, t1, t2, t3, t4, t5, ws, hI⟩ := hM0
    obtain ⟨dy, u1, u2, u3, u4, u5, vs, hJ⟩ := hN0
    have wl : ws.length = M.ars.length := Paired.length hI.as
    have vl : vs.length = N.ars.length := Paired.length hJ.as
    have x1 := lM.x
    have x2 := lN.x
    refine ⟨_, rfl, m, dx, _, rfl, hI.ins, m, dx, _, _, rfl, hI.ins, mfs1 .., ?_⟩
    refine ⟨_, rfl, n, dy, _, rfl, hJ.ins, n, dy, _, _, rfl, hJ.ins, mfs1 .., cat_any (SqT.of hI.a1) (SqT.of hJ.a1) (Evl.sz_of (by omega)) fun p1 H1 hp1 s1 => ?_⟩
    refine ⟨p1, ws ++ vs, rfl, .inr hp1, fun D hD => ?_⟩
    have s2 : Same H1 (upd H1 D (.lst (ws ++ vs))) := same_new hD
    have A0 : ArD D (upd H1 D (.lst (ws ++ vs))) (ws ++ vs) (M.ars ++ N.ars) := Paired.mapP (paired_app2 (hI.as.same (s1.trans s2)) (hJ.as.same (s1.trans s2))) fun v x ⟨q, ev, hq⟩ => ⟨q, ev, ne_of hq upd_same (by intro z; cases z), hq⟩
    have hDl : (upd H1 D (.lst (ws ++ vs))) D = some (.lst (ws ++ vs)) := upd_same
    generalize upd H1 D (.lst (ws ++ vs)) = H2 at s2 A0 hDl
    have S2 := s1.trans s2
    have dN : H D = none := s1.free hD
    have ls1 := lN.s
    have le1 := lM.e
    -- over to the other
    refine ⟨_, rfl, m, dx, _, rfl, S2 _ _ hI.ins, m, dx, _, _, rfl, S2 _ _ hI.ins, mfs1 .., t1, rfl, ⟨_, SqT.of (S2 _ _ hI.a1)⟩, for_tup (K := K) (a := t1) (xs := ws) (fun i σ H' => ∃ (v3 v4 v5 v6 v8 : Option V) (acc : List V), σ = [some (.ref m), some (.ref n), some (.ref D), v3, v4, v5, v6, none, v8] ∧ H' D = some (.lst acc) ∧ ArD D H' acc (M.ars ++ N.ars ++ lks (M.ars.take i) M.ens N.sts) ∧ Same H H') ?_ (fun i σ H' _ ⟨_, _, _, _, _, _, _, _, _, h⟩ => SqT.of (h _ _ hI.a1)) ?_ ?_⟩
    · exact ⟨_, _, _, _, _, _, rfl, hDl, by simpa [lks] using A0, S2⟩
    · rintro i x σ H3 hi ⟨v3, v4, v5, v6, v8, acc, rfl, h3, hz, hs⟩
      obtain ⟨r, y, rfl, hy, hr3⟩ := ArS.get (hI.as.same hs) hi
      have il : i < M.ars.length := (List.getElem?_eq_some_iff.mp hy).1
      have tk : M.ars.take (i + 1) = M.ars.take i ++ [y] := by rw [List.take_add_one, hy]; rfl
      have al : acc.length ≤ 340 := by
        have e1 := Paired.length hz
        have e2 := lks_take M.ars M.ens N.sts i
        have e3 := lks_len2 M.ars M.ens N.sts
        have e4 : (lks M.ars M.ens N.sts).length ≤ 300 := by rw [e3]; exact lj
        rw [List.length_append, List.length_append] at e1
        have e5 : M.ars.length + N.ars.length ≤ 40 := by omega
        omega
      refine ⟨r, _, rfl, SqT.of hr3, rfl, _, _, rfl, _, _, rfl, _, _, rfl, _, _, rfl, rfl, ?_⟩
      refine ⟨_, rfl, _, rfl, m, dx, _, rfl, hs _ _ hI.ins, m, dx, _, _, rfl, hs _ _ hI.ins, mfs3 .., t3, _, rfl, .inr ((hI.a3.on hs).sq), rfl, flat_str _, decide (y.t ∈ M.ens), by rw [← inV_str]; rfl, ite2 (fun hc => ?_) (fun hc => ?_)⟩
      · have hin : y.t ∈ M.ens := of_decide_eq_true hc
        refine ⟨_, rfl, .inl ⟨rfl, _, SqL.of h3⟩, ?_⟩
        refine ⟨_, rfl, n, dy, _, rfl, hs _ _ hJ.ins, n, dy, _, _, rfl, hs _ _ hJ.ins, mfs2 .., u2, rfl, ⟨_, (hJ.a2.on hs).sq⟩, fun D2 hD2 => lcA walk_tup (fun j acc2 H' => ArDD D2 D H' acc2 (lkA (N.sts.take j) y) ∧ Same H3 H') ⟨.nil, .refl _⟩ (fun j acc2 H' o h => ⟨h.1.upd, same_mut h.2 hD2⟩) (fun j acc2 H' _ h => (hJ.a2.on (hs.trans h.2)).sq) ?_ ?_⟩
        · rintro j x acc2 _ H4 hj ⟨hz2, h4⟩ hA hl4 ⟨rfl, hx⟩
          obtain ⟨u, rfl, hu⟩ := map_str hx
          rw [List.length_map] at hj
          refine ⟨rfl, _, rfl, _, rfl, _, rfl, _, rfl, Nat.le_of_ble_eq_true rfl, fun g hg => ?_⟩
          have s5 : Same H4 (upd H4 g (.tup (Arw.vals ⟨y.s, y.l, u, y.c⟩))) := same_new hg
          have ng : g ≠ D2 := fun e => by
            rw [e, hA] at hg
            cases hg
          have ng2 : g ≠ D := fun e => by
            rw [e, h4 _ _ h3] at hg
            cases hg
          refine LcP.put (fun j acc2 H' o h => ⟨h.1.upd, same_mut h.2 hD2⟩) (s5 _ _ hA) hl4 (by omega) ⟨?_, h4.trans s5⟩
          unfold lkA
          rw [List.take_add_one, hu, Option.toList_some, List.map_append]
          exact (hz2.keep s5).snoc (x := ⟨y.s, y.l, u, y.c⟩) ng ng2 upd_same
        · rintro acc2 H4 ⟨hz2, h4⟩ hA hl4
          rw [List.length_map, List.take_length] at hz2
          rw [List.length_map] at hl4
          refine ⟨D, D2, acc, _, rfl, rfl, h4 _ _ h3, hA, Evl.sz_of (by omega), ?_⟩
          refine ⟨_, _, _, _, _, acc ++ acc2, rfl, upd_same, ?_, same_mut (hs.trans h4) dN⟩
          rw [tk, lks_in hin, ← List.append_assoc]
          exact paired_app2 (hz.keep h4).upd hz2.snd.upd
      · have hout : y.t ∉ M.ens := fun e => hc (decide_eq_true e)
        refine ⟨_, _, _, _, _, acc, rfl, h3, ?_, hs⟩
        rw [tk, lks_out hout]
        exact hz
    · rintro σ H3 ⟨v3, v4, v5, v6, v8, acc, rfl, h3, hz, hs⟩
      rw [wl, List.take_length] at hz
      have hA3 : ArS H3 acc (jA M.ars N.ars M.ens N.sts) := hz.ars
      clear hz
      have ml := lM.s
      have el := lN.e
      refine ⟨_, rfl, m, dx, _, rfl, hs _ _ hI.ins, m, dx, _, _, rfl, hs _ _ hI.ins, mfs2 .., t2, M.sts.map V.str, rfl, .inr ((hI.a2.on hs).sq), fun DS hDS => ?_⟩
      have s4 : Same H3 (upd H3 DS (.lst (M.sts.map V.str))) := same_new hDS
      have hD4 : (upd H3 DS (.lst (M.sts.map V.str))) DS = some (.lst (M.sts.map V.str)) := upd_same
      generalize upd H3 DS (.lst (M.sts.map V.str)) = H4 at s4 hD4
      refine ⟨fun σ' H' => ∃ b : Bool, (b = true ↔ ∃ m, Runs M.ars M.sts M.ens [] m) ∧ σ' = [some (.ref m), some (.ref n), some (.ref D), v3, v4, v5, v6, some (.ref DS), v8] ∧ H' DS = some (.lst ((M.sts ++ if b = true then N.sts else []).map V.str)) ∧ Same H3 H', ?_, ?_⟩
      · refine ⟨_, rfl, m, M, "", rfl, (hM.same hs).same s4, fM.toMGood, ⟨by decide +kernel, fun c hc => ?_⟩, fun o H5 ho s5 => ⟨rfl, _, rfl, ?_⟩⟩
        · have z : TL.tl ("" : PySem.Str) = [] := by decide +kernel
          rw [z] at hc
          cases hc
        have e0 : sgnL ("" : PySem.Str) = [] := by decide +kernel
        rw [e0] at ho
        have hl : LPr M.ars M.sts M.ens [] o := LPr.of_rch.mp ho
        rw [optV_none]
        cases o with
        | none => exact iteF ⟨false, ⟨fun e => (by cases e), fun ⟨q, hq⟩ => absurd hq (hl q)⟩, rfl, by rw [if_neg (by decide), List.append_nil]; exact s5 _ _ hD4, s4.trans s5⟩
        | some q =>
          refine iteT ⟨_, rfl, .inl ⟨rfl, _, SqL.of (s5 _ _ hD4)⟩, ?_⟩
          refine ⟨_, rfl, n, dy, _, rfl, ((hs.trans s4).trans s5) _ _ hJ.ins, n, dy, _, _, rfl, ((hs.trans s4).trans s5) _ _ hJ.ins, mfs2 .., ?_⟩
          refine ⟨DS, u2, M.sts.map V.str, N.sts.map V.str, rfl, rfl, s5 _ _ hD4, (hJ.a2.on ((hs.trans s4).trans s5)).sq, Evl.sz_of (by rw [List.length_map, List.length_map]; omega), ?_⟩
          refine ⟨true, ⟨fun _ => ⟨q, hl.1⟩, fun _ => rfl⟩, rfl, ?_, same_mut (s4.trans s5) hDS⟩
          rw [if_pos rfl, List.map_append]
          exact upd_same
      · rintro σ H5 ⟨b, hb, rfl, h5, s5⟩
        have S5 := hs.trans s5
        refine ⟨_, rfl, _, rfl, _, rfl, n, dy, _, rfl, S5 _ _ hJ.ins, n, dy, _, _, rfl, S5 _ _ hJ.ins, mfs3 .., ?_⟩
        have jl : (jA M.ars N.ars M.ens N.sts).length ≤ 400 := by
          unfold jA
          rw [List.length_append, List.length_append]
          have e3 := lks_len2 M.ars M.ens N.sts
          have e4 : (lks M.ars M.ens N.sts).length ≤ 300 := by rw [e3]; exact lj
          omega
        have sl : (M.sts ++ if b = true then N.sts else []).length ≤ 40 := by
          rw [List.length_append]
          split
          · omega
          · rw [List.length_nil]; omega
        exact ⟨D, DS, u3, acc, jA M.ars N.ars M.ens N.sts, M.sts ++ (if b = true then N.sts else []), N.ens, rfl, SqL.of (s5 _ _ h3), hA3.same s5, .inl (SqL.of h5), .inr ((hJ.a3.on S5).sq), by omega, by omega, by omega, fun t q1 q2 q3 ws2 zs F1 F2 H6 ht hq1 hA6 hC hq2 hq3 hK s6 => k t q1 q2 q3 ws2 zs _ _ H6 ht hq1 hA6 hq2 hq3 (Nat.le_trans (List.length_filter_le ..) sl) (Nat.le_trans (List.length_filter_le ..) (by omega)) (join_of fM fN dis hb hK hC jl) (S5.trans s6)⟩

end
end Pf

namespace Pf
open PySem PySem.Spec PyProof.Rows L2 Bz
local macro_rules | `(tactic| walk_at "sd") => `(tactic| first
  | rfl | assumption | omega | exact Nat.le_of_ble_eq_true rfl | decide | (refine Or.inl (And.intro ?_ ?_) <;> omega) | (refine Or.inr (And.intro ?_ ?_) <;> omega) | (refine And.intro ?_ ?_ <;> omega) | (refine ⟨?_, ?_, ?_⟩ <;> omega))
local macro_rules | `(tactic| walk_at "sq") => `(tactic| first | assumption | exact SqL.of (by assumption) | exact SqT.of (by assumption) | exact SqL.of upd_same | exact SqT.of upd_same)
local macro_rules | `(tactic| walk_at "hp") => `(tactic| first | assumption | exact upd_same)
local macro_rules | `(tactic| walk_at "rd") => `(tactic| repeat (first
  | (refine ⟨_, rfl, ?_⟩) | (refine ⟨_, _, rfl, rfl, ?_⟩) | (refine ⟨rfl, ?_⟩) | (refine And.intro (by walk_at "sd") ?_)
  | (refine ⟨_, _, _, _, rfl, rfl, (by walk_at "sq"), rfl, ?_⟩)
  | (refine ⟨_, _, _, _, rfl, rfl, (by walk_at "hp"), rfl, ?_⟩)
  | (refine Or.inl ⟨_, rfl, ?_⟩)))
section
variable {P : Program} {w : World} {K : PySem.W.Frag} {mg : PySem.Str → Option Value} {base : Heap} {kl : Cl}
theorem ok_behind (T : Facts K mg kl) : Keeps P w K mg base CX0 8 "behind" ["one", "other"] (spBehind kl.Machine) := by
  refine keeps0 T.d_behind sc_behind (fun vs H Q E h => ?_) (fun f cdv A outer s H vs Q E hr h => ?_)
  · obtain ⟨m, n, M, N, rfl, _⟩ := h
    rfl
  · obtain ⟨m, n, M, N, rfl, hM, hN, fM, fN, aM, aN, lM, lN, w1, w2, k⟩ := h
    refine ⟨_, (pss_cons (ps_par (i := 0) (j := 1) (by rfl) sc_behind.nd rfl rfl (by decide) rfl rfl (pa_cons (pe_own (ok_renamed T) hr (pa_cons (pv 0) (pa_cons pe_str pa_nil))) (pa_cons (pe_own (ok_renamed T) hr (pa_cons (pv 1) (pa_cons pe_str pa_nil))) pa_nil)) (by rfl))
  (pss_cons (ps_asg (pe_own (ok_joined T) hr (pa_cons (pv 0) (pa_cons (pv 1) pa_nil))) (kpg_tup K rfl (pgs_cons (pg_name (i := 2) sc_behind.nd rfl (Or.inl rfl)) (pgs_cons (pg_name (i := 3) sc_behind.nd rfl (Or.inl rfl)) (pgs_cons (pg_name (i := 4) sc_behind.nd rfl (Or.inl rfl)) pgs_nil)))))
  (pss_cons (ps_asg (pe_own (ok_joined T) hr (pa_cons (pe_own (ok_turned T) hr (pa_cons (pv 1) pa_nil)) (pa_cons (pe_own (ok_turned T) hr (pa_cons (pv 0) pa_nil)) pa_nil))) (kpg_tup K rfl (pgs_cons (pg_name (i := 5) sc_behind.nd rfl (Or.inl rfl)) (pgs_cons (pg_name (i := 6) sc_behind.nd rfl (Or.inl rfl)) (pgs_cons (pg_name (i := 7) sc_behind.nd rfl (Or.inl rfl)) pgs_nil)))))
  (pss_cons (ps_if (pt_cmpR op_lt (pe_callB (kcall_len K) (by rfl) T.b_len (by decide +kernel) (pa_cons (pv 5) pa_nil)) (pe_callB (kcall_len K) (by rfl) T.b_len (by decide +kernel) (pa_cons (pv 2) pa_nil)) (nomark _))
  (pss_one (ps_ret (pe_mk (mk_Machine T) hr T.g_Machine (pa_cons (pe_own (ok_backward T) hr (pa_cons (pv 5) pa_nil)) (pa_cons (pv 7) (pa_cons (pv 6) pa_nil))))))
  pss_nil)
  (pss_one (ps_ret (pe_mk (mk_Machine T) hr T.g_Machine (pa_cons (pv 2) (pa_cons (pv 3) (pa_cons (pv 4) pa_nil)))))))))), ?_⟩
    have l1 := lM.n
    have l2 := lN.n
    refine ⟨_, rfl, m, M, "a", rfl, hM, fM, aM, by omega, lt_ab.1, fun q1 M' f1 H1 fq1 hM' hO1 rf s1 => ?_⟩
    refine ⟨_, rfl, n, N, "b", rfl, hN.same s1, fN, aN, by omega, lt_ab.2, fun q2 N' f2 H2 fq2 hN' hO2 rg s2 => ⟨_, _, rfl, ?_⟩⟩
    obtain ⟨fM', lM', subM, leM⟩ := rn_fine lt_ab.1 rf fM lM hO1
    obtain ⟨fN', lN', subN, leN⟩ := rn_fine lt_ab.2 rg fN lN hO2
    have apart := ab_apart rf rg
    obtain ⟨m1, m2, m3, m4⟩ := rn_few rf fM hO1
    obtain ⟨m5, m6, m7, m8⟩ := rn_few rg fN hO2
    have dis : ∀ s ∈ M'.sta, s ∉ N'.sta := fun s hs c => apart s (subM s hs) (subN s c)
    have M2 := hM'.same s2
    refine ⟨_, rfl, _, rfl, q1, q2, M', N', rfl, M2, hN', fM', fN', lM', lN', Nat.le_trans (Nat.mul_le_mul m1 m7) w1, dis, fun t a1 a2 a3 ws zs ss es H3 ht h1 hA h2 h3 sl el j s3 => ?_⟩
    refine ⟨t, _, rfl, SqT.of ht, rfl, _, _, rfl, _, _, rfl, _, _, rfl, rfl, ?_⟩
    -- from the other end
    refine ⟨_, rfl, q2, N', rfl, hN'.same s3, fN', fun r1 TN H4 fr1 hTN hOTN s4 => ?_⟩
    refine ⟨_, rfl, q1, M', rfl, (M2.same s3).same s4, fM', fun r2 TM H5 fr2 hTM hOTM s5 => ?_⟩
    obtain ⟨fTN, lTN, subTN, leTN⟩ := turn_fine fN' lN' hOTN
    obtain ⟨fTM, lTM, subTM, leTM⟩ := turn_fine fM' lM' hOTM
    obtain ⟨m9, m10⟩ := turn_few hOTN
    obtain ⟨m11, m12⟩ := turn_few hOTM
    have dis2 : ∀ s ∈ TN.sta, s ∉ TM.sta := fun s hs c => dis s (subTM s c) (subTN s hs)
    refine ⟨r1, r2, TN, TM, rfl, hTN.same s5, hTM, fTN, fTM, lTN, lTM, Nat.le_trans (Nat.mul_le_mul (Nat.le_trans m9 m6) (Nat.le_trans m12 m4)) w2, dis2, fun t' b1 b2 b3 ws' zs' ss' es' H6 ht' h1' hA' h2' h3' sl' el' j' s6 => ?_⟩
    refine ⟨t', _, rfl, SqT.of ht', rfl, _, _, rfl, _, _, rfl, _, _, rfl, rfl, ?_⟩
    have S36 := (s4.trans s5).trans s6
    have S6 := ((s1.trans s2).trans s3).trans S36
    refine ⟨_, rfl, _, ws'.length, rfl, .inr ⟨_, SqT.of h1', rfl⟩, ?_⟩
    refine ⟨_, rfl, _, ws.length, rfl, .inr ⟨_, SqT.of (S36 _ _ h1), rfl⟩, _, _, rfl, rfl, _, rfl, ite2 (fun hc => ?_) (fun hc => ?_)⟩
    · refine ⟨_, rfl, b1, ws', zs', rfl, .inr (SqT.of h1'), hA', by have := j'.xl; omega, fun q ws2 H7 fq hq hA7 s7 => ?_⟩
      refine ⟨_, rfl, _, rfl, fun x dx2 nx ndx nex => ?_⟩
      have sB : Same H7 (upd (upd H7 dx2 (.own x)) x (.ins kl.Machine dx2 [])) := fun b o e => by
        rw [upd_ne (ne_of_none e nx), upd_ne (ne_of_none e ndx)]
        exact e
      have nmT : ∀ z ∈ TN.sta ++ TM.sta, Nm z := fun z hz => (List.mem_append.mp hz).elim (fTN.nm z) (fTM.nm z)
      have S7 := S6.trans s7
      have n1 := lTN.n
      have n2 := lTM.n
      refine ⟨x, q, b3, b2, dx2, ws2, zs'.map swapA, es', ss', TN.sta ++ TM.sta, rfl, upd_same, .inl (SqL.of (sB _ _ hq)), hA7.same sB, fun y hy => ?_, by rw [List.length_map]; exact j'.xl, .inl (SqL.of (sB _ _ (s7 _ _ h3'))), .inl (SqL.of (sB _ _ (s7 _ _ h2'))), fun z hz => nmT z (j'.en z hz), fun z hz => nmT z (j'.st z hz), by omega, by omega, by rw [List.length_append]; omega, j'.en, j'.st, fun y hy => ?_, fun R H8 hMach hMOf keep => ⟨rfl, ?_⟩⟩
      · obtain ⟨z, hz, rfl⟩ := List.mem_map.mp hy
        exact swap_ok (j'.ok z hz)
      · obtain ⟨z, hz, rfl⟩ := List.mem_map.mp hy
        exact ⟨(j'.ar z hz).2, (j'.ar z hz).1⟩
      · exact k x R H8 (S7.free nx) hMach (join_fine' fTN fTM lTN lTM j' hMOf) (BehindOf.rn fM fN rf rg hO1 hO2 leM leN (behind_b hOTM hOTN leTM leTN j' hMOf)) fun b o e => keep b o (ne_of_none (S7 _ _ e) nx) (sB b o (S7 b o e))
    · refine ⟨_, rfl, _, rfl, _, rfl, fun x dx2 nx ndx nex => ?_⟩
      have sB : Same H6 (upd (upd H6 dx2 (.own x)) x (.ins kl.Machine dx2 [])) := fun b o e => by
        rw [upd_ne (ne_of_none e nx), upd_ne (ne_of_none e ndx)]
        exact e
      have nmT : ∀ z ∈ M'.sta ++ N'.sta, Nm z := fun z hz => (List.mem_append.mp hz).elim (fM'.nm z) (fN'.nm z)
      have n1 := lM'.n
      have n2 := lN'.n
      have S3B := S36.trans sB
      refine ⟨x, a1, a2, a3, dx2, ws, zs, ss, es, M'.sta ++ N'.sta, rfl, upd_same, .inr (SqT.of (S3B _ _ h1)), hA.same S3B, j.ok, j.xl, .inl (SqL.of (S3B _ _ h2)), .inl (SqL.of (S3B _ _ h3)), fun z hz => nmT z (j.st z hz), fun z hz => nmT z (j.en z hz), by omega, by omega, by rw [List.length_append]; omega, j.st, j.en, j.ar, fun R H8 hMach hMOf keep => ⟨rfl, ?_⟩⟩
      exact k x R H8 (S6.free nx) hMach (join_fine fM' fN' lM' lN' j hMOf) (BehindOf.rn fM fN rf rg hO1 hO2 leM leN (behind_a j hMOf)) fun b o e => keep b o (ne_of_none (S6 _ _ e) nx) (sB b o (S6 b o e))

end
end Pf

namespace Pf
open PySem PySem.Spec PyProof.Rows L2 Bz
local macro_rules | `(tactic| walk_at "sd") => `(tactic| first
  | rfl | assumption | omega | exact Nat.le_of_ble_eq_true rfl | decide | (refine Or.inl (And.intro ?_ ?_) <;> omega) | (refine Or.inr (And.intro ?_ ?_) <;> omega) | (refine And.intro ?_ ?_ <;> omega) | (refine ⟨?_, ?_, ?_⟩ <;> omega))
local macro_rules | `(tactic| walk_at "sq") => `(tactic| first | assumption | exact SqL.of (by assumption) | exact SqT.of (by assumption) | exact SqL.of upd_same | exact SqT.of upd_same)
local macro_rules | `(tactic| walk_at "hp") => `(tactic| first | assumption | exact upd_same)
local macro_rules | `(tactic| walk_at "rd") => `(tactic| repeat (first
  | (refine ⟨_, rfl, ?_⟩) | (refine ⟨_, _, rfl, rfl, ?_⟩) | (refine ⟨rfl, ?_⟩) | (refine And.intro (by walk_at "sd") ?_)
  | (refine ⟨_, _, _, _, rfl, rfl, (by walk_at "sq"), rfl, ?_⟩)
  | (refine ⟨_, _, _, _, rfl, rfl, (by walk_at "hp"), rfl, ?_⟩)
  | (refine Or.inl ⟨_, rfl, ?_⟩)))
section
variable {P : Program} {w : World} {K : PySem.W.Frag} {mg : PySem.Str → Option Value} {base : Heap} {kl : Cl}
theorem ok_new_name (T : Facts K mg kl) : Keeps P w K mg base CX0 2 "new_name" ["states"] (spNewName K) := by
  refine keeps0 T.d_new_name sc_new_name (fun vs H Q E h => ?_) (fun f cdv A outer s H vs Q E hr h => ?_)
  · obtain ⟨t, ns, rfl, _⟩ := h
    rfl
  · obtain ⟨t, ns, rfl, ht, nl, k⟩ := h
    refine ⟨_, (pss_cons (ps_setLc (i := 1) (own := [("number", 2)]) (g := gName 2) (tt := tYes) rfl sc_new_name.nd rfl rfl (sw_true rfl rfl rfl (by decide +kernel)) (pi_range1 (by rfl) T.b_range (pa_cons (pe_op op_add (pe_callB (kcall_len K) (by rfl) T.b_len (by decide +kernel) (pa_cons (pv 0) pa_nil)) pe_int) pa_nil)) (blkOk_by (own := [("number", 2)]) (N := N_new_name) (sc := defScope s_new_name) (by decide +kernel)) (fun _ _ _ _ _ => (pg_name (i := 2) sc_new_name.nd rfl (Or.inl rfl))) (fun _ _ _ _ _ => pts_nil) (fun _ _ _ _ _ => (pe_own (ok_name_of T) hr (pa_cons (pv 2) pa_nil))))
  (pss_one (ps_ret (pe_ix (kix_list K) (pe_lc (own := [("name", 3)]) (g := gName 3) rfl sc_new_name.nd (kpi_list K (pv 1)) (blkOk_by (own := [("name", 3)]) (N := N_new_name) (sc := defScope s_new_name) (by decide +kernel)) (fun _ _ _ _ _ => (pg_name (i := 3) sc_new_name.nd rfl (Or.inl rfl))) (fun _ _ _ _ _ => pts_one (pt_cmpR (knotIn_seq K) (pv 3) (pv 0) (by rfl))) (fun _ _ _ _ _ => (pv 3))) pe_int (fun _ _ => rfl))))), ?_⟩
    -- the names
    refine ⟨_, rfl, _, ns.length, rfl, .inr ⟨_, ht, by rw [List.length_map]⟩, _, _, rfl, rfl, ((ns.length : Nat) : Int) + 1, rfl, by omega, by omega, fun D hD => lcA walk_range (fun i acc H' => acc = ((List.range i).map nmOf).map V.str ∧ Same H H') ⟨rfl, .refl _⟩ (fun i acc H' o h => ⟨h.1, same_mut h.2 hD⟩) (fun i acc H' hi h => trivial) ?_ ?_⟩
    · rintro i x acc H1 _ hi ⟨rfl, hs⟩ hB hl ⟨rfl, rfl⟩
      refine ⟨rfl, _, rfl, i, by show [V.int (0 + (i : Nat))] = _; rw [Int.zero_add], by omega, ?_⟩
      refine LcP.put (fun i acc H' o h => ⟨h.1, same_mut h.2 hD⟩) hB hl (by omega) ⟨?_, hs⟩
      rw [List.range_succ, List.map_append, List.map_append]
      rfl
    rintro acc H1 ⟨rfl, hs⟩ hB hl
    have hn : (((ns.length : Nat) : Int) + 1).toNat = ns.length + 1 := by omega
    rw [hn] at hB
    generalize hL : (List.range (ns.length + 1)).map nmOf = L at hB
    have Ll : L.length = ns.length + 1 := by rw [← hL, List.length_map, List.length_range]
    have Lnd : L.Nodup := by
      rw [← hL]
      exact List.Pairwise.map nmOf (fun a b h e => h (nm_inj e)) List.nodup_range
    have Lnm : ∀ z ∈ L, Nm z := fun z hz => by
      rw [← hL] at hz
      obtain ⟨k, hk, rfl⟩ := List.mem_map.mp hz
      have := List.mem_range.mp hk
      exact nm_of (by omega)
    -- those that are new
    refine ⟨_, rfl, D, rfl, ⟨_, SqL.of hB⟩, fun D2 hD2 => lcA walk_list (fun i acc H' => acc = ((L.take i).filter fun z => decide (z ∉ ns)).map V.str ∧ Same H1 H') ⟨rfl, .refl _⟩ (fun i acc H' o h => ⟨h.1, same_mut h.2 hD2⟩) (fun i acc H' _ h => h.2.seq (SqL.of hB)) ?_ ?_⟩
    · rintro i x acc _ H2 hi ⟨rfl, hs2⟩ hB2 hl2 ⟨rfl, hx⟩
      obtain ⟨u, rfl, hu⟩ := map_str hx
      rw [List.length_map] at hi
      have tk : L.take (i + 1) = L.take i ++ [u] := by rw [List.take_add_one, hu]; rfl
      refine ⟨rfl, _, rfl, _, rfl, t, _, rfl, .inr (sqt_same (hs.trans hs2) ht), rfl, flat_str _, !decide (u ∈ ns), by rw [← inV_str]; rfl, ?_⟩
      by_cases m : u ∈ ns
      · rw [decide_eq_true m]
        refine iteF (LcP.skip hB2 hl2 ⟨?_, hs2⟩)
        rw [tk, List.filter_append, List.filter_cons_of_neg (by simpa using m)]
        simp
      · rw [decide_eq_false m]
        refine iteT ⟨_, rfl, LcP.put (fun i acc H' o h => ⟨h.1, same_mut h.2 hD2⟩) hB2 hl2 (by omega) ⟨?_, hs2⟩⟩
        rw [tk, List.filter_append, List.filter_cons_of_pos (by simpa using m), List.map_append]
        rfl
    rintro acc H2 ⟨rfl, hs2⟩ hB2 hl2
    rw [List.length_map, List.take_length] at hB2
    have ne : L.filter (fun z => decide (z ∉ ns)) ≠ [] := fun e => by
      have := nodup_le (ts := ns) Lnd fun z hz => Classical.byContradiction fun c => by
        have : z ∈ L.filter (fun z => decide (z ∉ ns)) := List.mem_filter.mpr ⟨hz, decide_eq_true c⟩
        rw [e] at this
        cases this
      omega
    cases hf : L.filter (fun z => decide (z ∉ ns)) with
    | nil => exact absurd hf ne
    | cons c r =>
      have hc : c ∈ L.filter (fun z => decide (z ∉ ns)) := by rw [hf]; exact List.mem_cons_self ..
      obtain ⟨c1, c2⟩ := List.mem_filter.mp hc
      rw [hf] at hB2
      exact ⟨D2, _, 0, _, rfl, rfl, SqL.of hB2, atI_nat (j := 0) rfl, k c H2 (Lnm c c1) (of_decide_eq_true c2) (hs.trans hs2)⟩

end
end Pf

namespace Pf
open PySem PySem.Spec PyProof.Rows L2 Bz
local macro_rules | `(tactic| walk_at "sd") => `(tactic| first
  | rfl | assumption | omega | exact Nat.le_of_ble_eq_true rfl | decide | (refine Or.inl (And.intro ?_ ?_) <;> omega) | (refine Or.inr (And.intro ?_ ?_) <;> omega) | (refine And.intro ?_ ?_ <;> omega) | (refine ⟨?_, ?_, ?_⟩ <;> omega))
local macro_rules | `(tactic| walk_at "sq") => `(tactic| first | assumption | exact SqL.of (by assumption) | exact SqT.of (by assumption) | exact SqL.of upd_same | exact SqT.of upd_same)
local macro_rules | `(tactic| walk_at "hp") => `(tactic| first | assumption | exact upd_same)
local macro_rules | `(tactic| walk_at "rd") => `(tactic| repeat (first
  | (refine ⟨_, rfl, ?_⟩) | (refine ⟨_, _, rfl, rfl, ?_⟩) | (refine ⟨rfl, ?_⟩) | (refine And.intro (by walk_at "sd") ?_)
  | (refine ⟨_, _, _, _, rfl, rfl, (by walk_at "sq"), rfl, ?_⟩)
  | (refine ⟨_, _, _, _, rfl, rfl, (by walk_at "hp"), rfl, ?_⟩)
  | (refine Or.inl ⟨_, rfl, ?_⟩)))
section
variable {P : Program} {w : World} {K : PySem.W.Frag} {mg : PySem.Str → Option Value} {base : Heap} {kl : Cl}
theorem ok_pieces (T : Facts K mg kl) : Keeps P w K mg base CX0 7 "pieces" ["machine"] (spPieces kl.Machine) := by
  refine keeps0 T.d_pieces sc_pieces (fun vs H Q E h => ?_) (fun f cdv A outer s H vs Q E hr h => ?_)
  · obtain ⟨m, M, rfl, _⟩ := h
    rfl
  · obtain ⟨m, M, rfl, hM, fM, nl, xl, k⟩ := h
    refine ⟨_, (pss_cons (ps_set (i := 1) sc_pieces.nd rfl (Or.inl rfl) (pe_own (ok_new_name T) hr (pa_cons (pe_pr (pv 0) hr T.cl_Machine T.p_Machine_states T.n_Machine_held_states sc_Machine_states) pa_nil)))
  (pss_cons (ps_set (i := 2) sc_pieces.nd rfl (Or.inl rfl) (pe_lst pa_nil))
  (pss_cons (ps_for PassesOwn.never rfl (kpi_tup K (pe_pr (pv 0) hr T.cl_Machine T.p_Machine_arrows T.n_Machine_held_arrows sc_Machine_arrows)) (kpg_tup K rfl (pgs_cons (pg_name (i := 3) sc_pieces.nd rfl (Or.inl rfl)) (pgs_cons (pg_name (i := 4) sc_pieces.nd rfl (Or.inr rfl)) (pgs_cons (pg_name (i := 5) sc_pieces.nd rfl (Or.inl rfl)) (pgs_cons (pg_name (i := 6) sc_pieces.nd rfl (Or.inl rfl)) pgs_nil)))))
  (pss_cons (ps_set (i := 7) sc_pieces.nd rfl (Or.inl rfl) (pe_cutE (pe_ifExp (pt_cmpR (kin_seq K) (pv 3) (pe_pr (pv 0) hr T.cl_Machine T.p_Machine_starts T.n_Machine_held_starts sc_Machine_starts) (by rfl)) (pe_lst (pa_cons (pe_tup (pa_cons (pv 3) (pa_cons pe_int pa_nil))) (pa_cons (pe_tup (pa_cons (pv 1) (pa_cons pe_int pa_nil))) pa_nil))) (pe_lst (pa_cons (pe_tup (pa_cons (pv 3) (pa_cons pe_int pa_nil))) pa_nil)))))
  (pss_cons (ps_set (i := 8) sc_pieces.nd rfl (Or.inr rfl) (pe_cutE (pe_ifExp (pt_cmpR (kin_seq K) (pv 5) (pe_pr (pv 0) hr T.cl_Machine T.p_Machine_ends T.n_Machine_held_ends sc_Machine_ends) (by rfl)) (pe_lst (pa_cons (pv 5) (pa_cons (pv 1) pa_nil))) (pe_lst (pa_cons (pv 5) pa_nil)))))
  (pss_one (ps_expr (kbm K PySem.F.plainAttrs_list PySem.F.slot_list_extend PySem.F.type_list_extend mt_extend (pv 2) (pa_cons (pe_lc2 (own := [("source", 11), ("toll", 12), ("target", 13)]) (vs1 := [13]) (g := gTup K 2 (gCons (gName 11) (gCons (gName 12) (gNil)))) (g1 := gName 13) (tt := tYes) (tt1 := tYes) rfl sc_pieces.nd (kpi_list K (pv 7)) (blkOk_by (own := [("source", 11), ("toll", 12), ("target", 13)]) (N := N_pieces) (sc := defScope s_pieces) (by decide +kernel)) (by decide) (fun _ _ _ _ _ => (kpg_tup K rfl (pgs_cons (pg_name (i := 11) sc_pieces.nd rfl (Or.inl rfl)) (pgs_cons (pg_name (i := 12) sc_pieces.nd rfl (Or.inl rfl)) pgs_nil)))) (fun _ _ _ _ _ => pts_nil) (fun _ _ _ _ _ => (kpi_list K (pv 8))) (fun _ _ _ _ _ => (pg_name (i := 13) sc_pieces.nd rfl (Or.inl rfl))) (fun _ _ _ _ _ => pts_nil) (fun _ _ _ _ _ => (pe_tup (pa_cons (pv 11) (pa_cons (pv 4) (pa_cons (pv 13) (pa_cons (pv 12) pa_nil))))))) pa_nil)))))))
  (pss_cons (ps_asg (pe_own (ok_useful T) hr (pa_cons (pv 2) (pa_cons (pe_lst (pa_cons (pv 1) pa_nil)) (pa_cons (pe_lst (pa_cons (pv 1) pa_nil)) pa_nil)))) (kpg_tup K rfl (pgs_cons (pg_name (i := 2) sc_pieces.nd rfl (Or.inl rfl)) (pgs_cons (pg_name (i := 9) sc_pieces.nd rfl (Or.inl rfl)) (pgs_cons (pg_name (i := 10) sc_pieces.nd rfl (Or.inl rfl)) pgs_nil)))))
  (pss_one (ps_ret (pe_mk (mk_Machine T) hr T.g_Machine (pa_cons (pv 2) (pa_cons (pv 9) (pa_cons (pv 10) pa_nil)))))))))), ?_⟩
    have hM0 := hM
    obtain ⟨dx, t1, t2, t3, t4, t5, ws, hI⟩ := hM0
    have wl : ws.length = M.ars.length := Paired.length hI.as
    refine ⟨_, rfl, m, dx, _, rfl, hI.ins, m, dx, _, _, rfl, hI.ins, mfs4 .., t4, M.sta, rfl, hI.a4.sq, nl, fun cut H1 ncut hcut s1 => ?_⟩
    have I1 : MachAt kl.Machine H1 m dx t1 t2 t3 t4 t5 ws M := ⟨s1 _ _ hI.ins, s1 _ _ hI.a1, hI.as.same s1, hI.a2.on s1, hI.a3.on s1, hI.a4.on s1, hI.a5.on s1⟩
    refine ⟨Nat.zero_le _, fun D hD => ?_⟩
    have sD : Same H1 (upd H1 D (.lst [])) := same_new hD
    have tin : (upd H1 D (.lst [])) t1 = some (.tup ws) := sD _ _ I1.a1
    have iin : (upd H1 D (.lst [])) m = some (.ins kl.Machine dx (mfs t1 t2 t3 t4 t5)) := sD _ _ I1.ins
    refine ⟨_, rfl, m, dx, _, rfl, iin, m, dx, _, _, rfl, iin, mfs1 .., t1, rfl, ⟨_, SqT.of tin⟩, for_tup (K := K) (a := t1) (xs := ws) (fun i σ H' => ∃ (v3 v4 v5 v6 v7 v8 : Option V) (acc : List V), σ = [some (.ref m), some (.str cut), some (.ref D), v3, v4, v5, v6, v7, v8, none, none, none, none, none] ∧ H' D = some (.lst acc) ∧ ArD D H' acc (pcA cut M.sts M.ens (M.ars.take i)) ∧ Same H1 H') ?_ (fun i σ H' _ ⟨_, _, _, _, _, _, _, _, _, _, h⟩ => SqT.of (h _ _ I1.a1)) ?_ ?_⟩
    · exact ⟨_, _, _, _, _, _, [], rfl, upd_same, .nil, sD⟩
    · rintro i x σ H2 hi ⟨v3, v4, v5, v6, v7, v8, acc, rfl, hB, hz, s2⟩
      obtain ⟨r, y, rfl, hy, hr2⟩ := ArS.get (I1.as.same s2) hi
      have il : i < ws.length := (List.getElem?_eq_some_iff.mp hi).1
      have tk : M.ars.take (i + 1) = M.ars.take i ++ [y] := by rw [List.take_add_one, hy]; rfl
      have my := fM.ar y (List.mem_of_getElem? hy)
      have I2 : MachAt kl.Machine H2 m dx t1 t2 t3 t4 t5 ws M := ⟨s2 _ _ I1.ins, s2 _ _ I1.a1, I1.as.same s2, I1.a2.on s2, I1.a3.on s2, I1.a4.on s2, I1.a5.on s2⟩
      have al : acc.length ≤ 400 := by
        have e1 := Paired.length hz
        have e2 := pcA_len cut M.sts M.ens (M.ars.take i)
        rw [List.length_take] at e2
        omega
      refine ⟨r, _, rfl, SqT.of hr2, rfl, _, _, rfl, _, _, rfl, _, _, rfl, _, _, rfl, rfl, ?_⟩
      -- where it comes from
      refine ⟨fun v H' => ∃ L us, v = .ref L ∧ H' L = some (.lst us) ∧ SmS H' us (srcA cut M.sts y) ∧ Same H2 H', ?_, ?_⟩
      · refine ⟨_, rfl, _, rfl, m, dx, _, rfl, I2.ins, m, dx, _, _, rfl, I2.ins, mfs2 .., t2, _, rfl, .inr (I2.a2.sq), rfl, flat_str _, decide (y.s ∈ M.sts), by rw [← inV_str]; rfl, ite2 (fun hc => ?_) (fun hc => ?_)⟩
        · have hs : srcA cut M.sts y = [(y.s, 0), (cut, 1)] := if_pos (of_decide_eq_true hc)
          refine ⟨_, rfl, Nat.le_of_ble_eq_true rfl, fun g1 hg1 => ⟨_, rfl, Nat.le_of_ble_eq_true rfl, fun g2 hg2 => ⟨Nat.le_of_ble_eq_true rfl, fun L hL => ?_⟩⟩⟩
          have a1 := same_new (o := .tup [.str y.s, .int 0]) hg1
          have a2 := same_new (o := .tup [.str cut, .int 1]) hg2
          have a3 := same_new (o := .lst [.ref g1, .ref g2]) hL
          refine ⟨L, _, rfl, upd_same, ?_, (a1.trans a2).trans a3⟩
          rw [hs]
          exact .cons ⟨g1, rfl, (a2.trans a3) _ _ upd_same⟩ (.cons ⟨g2, rfl, a3 _ _ upd_same⟩ .nil)
        · have hs : srcA cut M.sts y = [(y.s, 0)] := if_neg fun e => hc (decide_eq_true e)
          refine ⟨_, rfl, Nat.le_of_ble_eq_true rfl, fun g1 hg1 => ⟨Nat.le_of_ble_eq_true rfl, fun L hL => ?_⟩⟩
          have a1 := same_new (o := .tup [.str y.s, .int 0]) hg1
          have a3 := same_new (o := .lst [.ref g1]) hL
          refine ⟨L, _, rfl, upd_same, ?_, a1.trans a3⟩
          rw [hs]
          exact .cons ⟨g1, rfl, a3 _ _ upd_same⟩ .nil
      rintro _ H3 ⟨L1, us, rfl, h1, hU, s3⟩
      -- where it leads to
      have I3 : MachAt kl.Machine H3 m dx t1 t2 t3 t4 t5 ws M := ⟨s3 _ _ I2.ins, s3 _ _ I2.a1, I2.as.same s3, I2.a2.on s3, I2.a3.on s3, I2.a4.on s3, I2.a5.on s3⟩
      refine ⟨fun v H' => ∃ L, v = .ref L ∧ H' L = some (.lst ((tgtA cut M.ens y).map V.str)) ∧ Same H3 H', ?_, ?_⟩
      · refine ⟨_, rfl, _, rfl, m, dx, _, rfl, I3.ins, m, dx, _, _, rfl, I3.ins, mfs3 .., t3, _, rfl, .inr (I3.a3.sq), rfl, flat_str _, decide (y.t ∈ M.ens), by rw [← inV_str]; rfl, ite2 (fun hc => ?_) (fun hc => ?_)⟩
        · have hs : tgtA cut M.ens y = [y.t, cut] := if_pos (of_decide_eq_true hc)
          refine ⟨_, rfl, _, rfl, Nat.le_of_ble_eq_true rfl, fun L hL => ⟨L, rfl, ?_, same_new hL⟩⟩
          rw [hs]
          exact upd_same
        · have hs : tgtA cut M.ens y = [y.t] := if_neg fun e => hc (decide_eq_true e)
          refine ⟨_, rfl, Nat.le_of_ble_eq_true rfl, fun L hL => ⟨L, rfl, ?_, same_new hL⟩⟩
          rw [hs]
          exact upd_same
      rintro _ H4 ⟨L2, rfl, h2, s4⟩
      have hB4 := (s3.trans s4) _ _ hB
      have h14 := s4 _ _ h1
      have hU4 := hU.same s4
      -- both
      refine ⟨_, rfl, .inl ⟨rfl, _, SqL.of hB4⟩, ?_⟩
      have ul : us.length = (srcA cut M.sts y).length := Paired.length hU
      have u2 := srcA_len cut M.sts y
      have tl2 := tgtA_len cut M.ens y
      refine ⟨_, rfl, L1, rfl, ⟨_, SqL.of h14⟩, fun D2 hD2 => ?_⟩
      have dD : D2 ≠ D := fun e => by
        rw [e, hB4] at hD2
        cases hD2
      refine it_gen walk_list (fun j H' => LcB D2 (fun acc2 H' => ArDD D2 D H' acc2 (((srcA cut M.sts y).take j).flatMap (onT y (tgtA cut M.ens y))) ∧ Same H4 H') H') ⟨[], upd_same, .nil, same_new hD2⟩ (fun j H' _ ⟨_, _, h⟩ => SqL.of (h.2 _ _ h14)) ?_ ?_
      · rintro j x _ H5 hj ⟨acc2, hB5, hz5, s5⟩ ⟨rfl, hx⟩
        obtain ⟨p0, hp0, g, rfl, hg⟩ := pget38 (hU4.same s5) hx
        have tk2 : (srcA cut M.sts y).take (j + 1) = (srcA cut M.sts y).take j ++ [p0] := by rw [List.take_add_one, hp0]; rfl
        have fl : (((srcA cut M.sts y).take j).flatMap (onT y (tgtA cut M.ens y))).length ≤ 4 := by
          have e := pcX_len cut M.sts M.ens y
          unfold pcX at e
          have e2 : (srcA cut M.sts y).flatMap (onT y (tgtA cut M.ens y)) = ((srcA cut M.sts y).take j).flatMap (onT y (tgtA cut M.ens y)) ++ ((srcA cut M.sts y).drop j).flatMap (onT y (tgtA cut M.ens y)) := by rw [← List.flatMap_append, List.take_append_drop]
          rw [e2, List.length_append] at e
          omega
        show gTup K 2 (gCons (gName 11) (gCons (gName 12) gNil)) (V.ref g) [some (V.ref m), some (V.str cut), some (V.ref D), some (V.str y.s), some (V.str y.l), some (V.str y.t), some (V.int y.c), some (V.ref L1), some (V.ref L2), none, none, none, none, none] H5 fun σ2 H2 => wipe σ2 [11, 12, 13] = [some (V.ref m), some (V.str cut), some (V.ref D), some (V.str y.s), some (V.str y.l), some (V.str y.t), some (V.int y.c), some (V.ref L1), some (V.ref L2), none, none, none, none, none] ∧ _
        refine ⟨g, _, rfl, SqT.of hg, rfl, _, _, rfl, _, _, rfl, rfl, rfl, ?_⟩
        refine ⟨_, rfl, L2, rfl, ⟨_, SqL.of (s5 _ _ h2)⟩, ?_⟩
        refine it_gen walk_list (fun l H' => LcB D2 (fun acc2 H' => ArDD D2 D H' acc2 (((srcA cut M.sts y).take j).flatMap (onT y (tgtA cut M.ens y)) ++ onT y ((tgtA cut M.ens y).take l) p0) ∧ Same H4 H') H') ⟨acc2, hB5, by simpa [onT] using hz5, s5⟩ (fun l H' _ ⟨_, _, h⟩ => SqL.of (h.2 _ _ h2)) ?_ ?_
        · rintro l x _ H6 hl ⟨acc3, hB6, hz6, s6⟩ ⟨rfl, hx⟩
          obtain ⟨t, rfl, ht⟩ := map_str hx
          have tk3 : (tgtA cut M.ens y).take (l + 1) = (tgtA cut M.ens y).take l ++ [t] := by rw [List.take_add_one, ht]; rfl
          show gName 13 (V.str t) [some (V.ref m), some (V.str cut), some (V.ref D), some (V.str y.s), some (V.str y.l), some (V.str y.t), some (V.int y.c), some (V.ref L1), some (V.ref L2), none, none, some (V.str p0.1), some (V.int p0.2), none] H6 fun σ3 H5 => wipe σ3 [13] = [some (V.ref m), some (V.str cut), some (V.ref D), some (V.str y.s), some (V.str y.l), some (V.str y.t), some (V.int y.c), some (V.ref L1), some (V.ref L2), none, none, some (V.str p0.1), some (V.int p0.2), none] ∧ _
          refine ⟨rfl, _, rfl, _, rfl, _, rfl, _, rfl, Nat.le_of_ble_eq_true rfl, fun q hq => ?_⟩
          have a3 : Same H6 (upd H6 q (.tup (Arw.vals ⟨p0.1, y.l, t, p0.2⟩))) := same_new hq
          have nq : q ≠ D2 := fun e => by
            rw [e, hB6] at hq
            cases hq
          have nq2 : q ≠ D := fun e => by
            rw [e, s6 _ _ hB4] at hq
            cases hq
          have al3 : acc3.length ≤ 100 := by
            have e1 := Paired.length hz6
            rw [List.length_append, onT_len, List.length_take] at e1
            omega
          refine LcB.put (fun acc H o h => ⟨h.1.upd, same_mut h.2 hD2⟩) (a3 _ _ hB6) (by omega) ⟨?_, s6.trans a3⟩
          rw [tk3]
          unfold onT
          rw [List.map_append, ← List.append_assoc]
          exact (hz6.keep a3).snoc nq nq2 upd_same
        · rintro H6 ⟨acc3, hB6, hz6, s6⟩
          rw [List.length_map, List.take_length] at hz6
          refine ⟨acc3, hB6, ?_, s6⟩
          rw [tk2, List.flatMap_append]
          simpa using hz6
      · rintro H5 ⟨acc2, hB5, hz5, s5⟩
        rw [ul, List.take_length] at hz5
        refine ⟨D, D2, acc, _, rfl, rfl, s5 _ _ hB4, hB5, Evl.sz_of (by have e5 := Paired.length hz5; have e6 := pcX_len cut M.sts M.ens y; unfold pcX at e6; omega), ?_⟩
        refine ⟨_, _, _, _, _, _, acc ++ acc2, rfl, upd_same, ?_, same_mut (s2.trans ((s3.trans s4).trans s5)) hD⟩
        rw [tk, pcA_snoc]
        exact paired_app2 (hz.keep ((s3.trans s4).trans s5)).upd hz5.snd.upd
    · rintro σ H2 ⟨v3, v4, v5, v6, v7, v8, acc, rfl, hB, hz, s2⟩
      rw [wl, List.take_length] at hz
      have zl := pcA_len cut M.sts M.ens M.ars
      have ncl := ncut.1
      refine ⟨_, rfl, _, rfl, Nat.le_of_ble_eq_true rfl, fun q1 hq1 => ⟨_, rfl, Nat.le_of_ble_eq_true rfl, fun q2 hq2 => ?_⟩⟩
      have b1 := same_new (o := .lst [.str cut]) hq1
      have b2 := same_new (o := .lst [.str cut]) hq2
      have S3 := b1.trans b2
      have k1 := b2 _ _ (upd_same (H := H2) (a := q1) (o := .lst [.str cut]))
      have k2 := upd_same (H := upd H2 q1 (.lst [.str cut])) (a := q2) (o := .lst [.str cut])
      generalize upd (upd H2 q1 (.lst [.str cut])) q2 (.lst [.str cut]) = H3 at S3 k1 k2 ⊢
      clear b1 b2 hq1 hq2
      refine ⟨D, q1, q2, acc, pcA cut M.sts M.ens M.ars, [cut], [cut], rfl, SqL.of (S3 _ _ hB), hz.ars.same S3, .inl (SqL.of k1), .inl (SqL.of k2), by omega, by simp, by simp, fun t z1 z2 z3 ws2 zs F1 F2 H4 ht hz1 hA4 hC hz2 hz3 hK s4 => ?_⟩
      refine ⟨t, _, rfl, SqT.of ht, rfl, _, _, rfl, _, _, rfl, _, _, rfl, rfl, ?_⟩
      refine ⟨_, rfl, _, rfl, _, rfl, fun x dx2 nx ndx nex => ?_⟩
      have sB : Same H4 (upd (upd H4 dx2 (.own x)) x (.ins kl.Machine dx2 [])) := fun b o e => by
        rw [upd_ne (ne_of_none e nx), upd_ne (ne_of_none e ndx)]
        exact e
      obtain ⟨i1, i2⟩ := pc_in (cut := cut) fM
      have ok := pc_ok fM ncut
      have sub : ∀ z ∈ zs, z ∈ pcA cut M.sts M.ens M.ars := fun z hz' => (List.mem_filter.mp (hC.sub z hz').1).1
      have cs : ∀ s ∈ ([cut] : List PySem.Str).filter (kp F1 F2), s = cut := fun s hs => List.mem_singleton.mp (List.mem_filter.mp hs).1
      have cl : (([cut] : List PySem.Str).filter (kp F1 F2)).length ≤ 1 := List.length_filter_le ..
      have zsl : zs.length ≤ 400 := by
        have := nodup_le (cheap_nodup hC) fun y hy => (hC.sub y hy).1
        have := List.length_filter_le (kpA F1 F2) (pcA cut M.sts M.ens M.ars)
        omega
      refine ⟨x, z1, z2, z3, dx2, ws2, zs, ([cut] : List PySem.Str).filter (kp F1 F2), ([cut] : List PySem.Str).filter (kp F1 F2), M.sta ++ [cut], rfl, upd_same, .inr (SqT.of (sB _ _ hz1)), hA4.same sB, fun z hz' => ok z (sub z hz'), zsl, .inl (SqL.of (sB _ _ hz2)), .inl (SqL.of (sB _ _ hz3)), fun s hs => by rw [cs s hs]; exact ncut, fun s hs => by rw [cs s hs]; exact ncut, by omega, by omega, by rw [List.length_append, List.length_singleton]; omega, fun s hs => by rw [cs s hs]; simp, fun s hs => by rw [cs s hs]; simp, fun z hz' => i1 z (sub z hz'), fun U H5 hMach hMOf keep => ⟨rfl, ?_⟩⟩
      obtain ⟨hp, hf⟩ := piece_of fM ncut hcut xl (by omega) hK hC hMOf
      have s5 : Same H4 H5 := fun b o e => keep b o (ne_of_none e nx) (sB b o e)
      have S4 := s1.trans (s2.trans (S3.trans s4))
      exact k x U H5 (S4.free nx) hMach hf hp (S4.trans s5)

end
end Pf

namespace Pf
open PySem PySem.Spec PyProof.Rows L2 Bz
local macro_rules | `(tactic| walk_at "sd") => `(tactic| first
  | rfl | assumption | omega | exact Nat.le_of_ble_eq_true rfl | decide | (refine Or.inl (And.intro ?_ ?_) <;> omega) | (refine Or.inr (And.intro ?_ ?_) <;> omega) | (refine And.intro ?_ ?_ <;> omega) | (refine ⟨?_, ?_, ?_⟩ <;> omega))
local macro_rules | `(tactic| walk_at "sq") => `(tactic| first | assumption | exact SqL.of (by assumption) | exact SqT.of (by assumption) | exact SqL.of upd_same | exact SqT.of upd_same)
local macro_rules | `(tactic| walk_at "hp") => `(tactic| first | assumption | exact upd_same)
local macro_rules | `(tactic| walk_at "rd") => `(tactic| repeat (first
  | (refine ⟨_, rfl, ?_⟩) | (refine ⟨_, _, rfl, rfl, ?_⟩) | (refine ⟨rfl, ?_⟩) | (refine And.intro (by walk_at "sd") ?_)
  | (refine ⟨_, _, _, _, rfl, rfl, (by walk_at "sq"), rfl, ?_⟩)
  | (refine ⟨_, _, _, _, rfl, rfl, (by walk_at "hp"), rfl, ?_⟩)
  | (refine Or.inl ⟨_, rfl, ?_⟩)))
section
variable {P : Program} {w : World} {K : PySem.W.Frag} {mg : PySem.Str → Option Value} {base : Heap} {kl : Cl}
theorem ok__law_up (T : Facts K mg kl) : Keeps P w K mg base CX0 1 "_law_up" ["_law_n", "_law_size"] spUp := by
  refine keeps0 T.d__law_up sc__law_up (fun vs H Q E h => ?_) (fun f cdv A outer s H vs Q E hr h => ?_)
  · obtain ⟨n, p, rfl, _⟩ := h
    rfl
  · obtain ⟨n, p, rfl, hp, hp2, hn, k⟩ := h
    refine ⟨_, (pss_one (ps_ret (pe_op op_fdivN (pe_callTy call_int1 (by rfl) T.b_int (by decide +kernel) (pa_cons (pe_op op_sub (pe_op op_add (pv 0) (pv 1)) pe_int) pa_nil)) (pv 1)))), ?_⟩
    refine ⟨_, rfl, _, rfl, _, _, rfl, rfl, _, _, rfl, rfl, .inl ⟨_, rfl, _, rfl, _, _, rfl, rfl, ⟨by omega, by omega⟩, ?_⟩⟩
    show Q (.int (Int.fdiv ((n : Int) + (p : Int) - 1) (p : Int))) H
    rw [upN_int hp]
    exact k
theorem ok__law_ring (T : Facts K mg kl) : Keeps P w K mg base CX0 7 "_law_ring" ["_law_size", "_law_ends"] (spRing kl.Machine) := by
  refine keeps0 T.d__law_ring sc__law_ring (fun vs H Q E h => ?_) (fun f cdv A outer s H vs Q E hr h => ?_)
  · obtain ⟨p, e, rfl, _⟩ := h
    rfl
  · obtain ⟨p, e, rfl, hp, h20, he, k⟩ := h
    refine ⟨_, (pss_cons (ps_set (i := 2) sc__law_ring.nd rfl (Or.inr rfl) (pe_lc (own := [("_law_k", 4)]) (g := gName 4) (tt := tYes) rfl sc__law_ring.nd (pi_range1 (by rfl) T.b_range (pa_cons (pv 0) pa_nil)) (blkOk_by (own := [("_law_k", 4)]) (N := N__law_ring) (sc := defScope s__law_ring) (by decide +kernel)) (fun _ _ _ _ _ => (pg_name (i := 4) sc__law_ring.nd rfl (Or.inl rfl))) (fun _ _ _ _ _ => pts_nil) (fun _ _ _ _ _ => (pe_op op_add_str (pe_ix ix_str pe_str (pe_op op_fdivN (pv 4) pe_int) (fun _ _ => rfl)) (pe_ix ix_str pe_str (pe_op op_modN (pv 4) pe_int) (fun _ _ => rfl))))))
  (pss_cons (ps_setLc (i := 3) (own := [("_law_k", 4)]) (g := gName 4) (tt := tYes) rfl sc__law_ring.nd rfl rfl (sw_true rfl rfl rfl (by decide +kernel)) (pi_range1 (by rfl) T.b_range (pa_cons (pv 0) pa_nil)) (blkOk_by (own := [("_law_k", 4)]) (N := N__law_ring) (sc := defScope s__law_ring) (by decide +kernel)) (fun _ _ _ _ _ => (pg_name (i := 4) sc__law_ring.nd rfl (Or.inl rfl))) (fun _ _ _ _ _ => pts_nil) (fun _ _ _ _ _ => (pe_tup (pa_cons (pe_ix (kix_list K) (pv 2) (pv 4) (fun _ _ => rfl)) (pa_cons pe_str (pa_cons (pe_ix (kix_list K) (pe_op op_cat (pv 2) (pv 2)) (pe_op op_add (pv 4) pe_int) (fun _ _ => rfl)) (pa_cons (pe_callTy call_int1 (by rfl) T.b_int (by decide +kernel) (pa_cons (pe_cmpR op_eq (pv 4) pe_int (nomark _)) pa_nil)) pa_nil)))))))
  (pss_one (ps_ret (pe_mk (mk_Machine T) hr T.g_Machine (pa_cons (pv 3) (pa_cons (pe_slice (ksl_list K) (pv 2) po_none (po_some pe_int)) (pa_cons (pe_slice (ksl_list K) (pv 2) po_none (po_some (pv 1))) pa_nil)))))))), ?_⟩
    refine ⟨_, rfl, (p : Nat), rfl, by omega, by omega, fun D hD => lcA walk_range (fun i acc H' => acc = ((List.range i).map rgN).map V.str ∧ Same H H') ⟨rfl, .refl _⟩ (fun i acc H' o h => ⟨h.1, same_mut h.2 hD⟩) (fun i acc H' hi h => trivial) ?_ ?_⟩
    · rintro i x acc _ H1 hi ⟨rfl, s1⟩ hA hl ⟨rfl, rfl⟩
      have hi : i < p := by omega
      refine ⟨rfl, _, rfl, _, _, rfl, rfl, ⟨by decide, by decide⟩, _, _, _, rfl, rfl, Nat.le_of_ble_eq_true rfl, rg_at1 ⟨i, by omega⟩, _, rfl, _, _, rfl, rfl, (by decide : (13 : Int) ≠ 0), _, _, _, rfl, rfl, Nat.le_of_ble_eq_true rfl, rg_at2 ⟨i, by omega⟩, _, _, rfl, rfl, Nat.le_of_ble_eq_true rfl, ?_⟩
      refine LcP.put (fun i acc H' o h => ⟨h.1, same_mut h.2 hD⟩) hA hl (by omega) ⟨?_, s1⟩
      rw [List.range_succ, List.map_append, List.map_append]
      rfl
    · rintro acc H1 ⟨rfl, s1⟩ hA hl
      have pn : ((p : Nat) : Int).toNat = p := by omega
      rw [pn] at hA
      have hA : H1 D = some (.lst ((ringN p).map V.str)) := hA
      clear hl pn
      refine ⟨_, rfl, (p : Nat), rfl, by omega, by omega, fun D2 hD2 => lcA walk_range (fun i acc H' => ArD D2 H' acc ((List.range i).map (ringX p)) ∧ Same H1 H') ⟨.nil, .refl _⟩ (fun i acc H' o h => ⟨h.1.upd, same_mut h.2 hD2⟩) (fun i acc H' hi h => trivial) ?_ ?_⟩
      · rintro i x acc _ H2 hi ⟨hz, s2⟩ hA2 hl2 ⟨rfl, rfl⟩
        have hi : i < p := by omega
        have z0 : (0 : Int) + (i : Nat) = ((i : Nat) : Int) := Int.zero_add _
        have at1 : atI ((ringN p).map V.str) ((0 : Int) + (i : Nat)) = some (.str (rgN i)) := by
          rw [z0]
          exact atI_nat (ringN_at hi)
        have at2 : atI ((ringN p).map V.str ++ (ringN p).map V.str) ((0 : Int) + (i : Nat) + 1) = some (.str (rgN ((i + 1) % p))) := by
          rw [z0, show ((i : Nat) : Int) + 1 = ((i + 1 : Nat) : Int) by omega]
          exact atI_nat (ringN_next hi)
        have hD1 := s2 _ _ hA
        have pl : ((ringN p).map V.str).length = p := by rw [List.length_map, ringN_len]
        refine ⟨rfl, _, rfl, _, rfl, D, _, _, _, rfl, rfl, SqL.of hD1, at1, _, rfl, _, rfl, D, D, _, _, rfl, rfl, hD1, hD1, Evl.sz_of (by omega), fun L hL => ?_⟩
        have s3 := same_new (o := .lst ((ringN p).map V.str ++ (ringN p).map V.str)) hL
        have k3 := upd_same (H := H2) (a := L) (o := .lst ((ringN p).map V.str ++ (ringN p).map V.str))
        generalize upd H2 L (.lst ((ringN p).map V.str ++ (ringN p).map V.str)) = H3 at s3 k3 ⊢
        refine ⟨_, rfl, _, _, rfl, rfl, L, _, _, _, rfl, rfl, SqL.of k3, at2, _, rfl, rfl, .inr ⟨_, rfl, Nat.le_of_ble_eq_true rfl, fun g hg => ?_⟩⟩
        have ec : (if decide (V.int ((0 : Int) + (i : Nat)) = V.int 0) = true then (1 : Int) else 0) = if i = 0 then 1 else 0 := by
          rw [z0]
          by_cases c : i = 0
          · rw [if_pos c, if_pos (decide_eq_true (by rw [c]; rfl))]
          · rw [if_neg c, if_neg (fun z => c (by have := V.int.inj (of_decide_eq_true z); omega))]
        have s4 : Same H3 (upd H3 g (.tup (ringX p i).vals)) := same_new hg
        have ng : g ≠ D2 := fun e => by
          rw [e, s3 _ _ hA2] at hg
          cases hg
        rw [ec]
        refine LcP.put (fun i acc H' o h => ⟨h.1.upd, same_mut h.2 hD2⟩) ((s3.trans s4) _ _ hA2) hl2 (by omega) ⟨?_, s2.trans (s3.trans s4)⟩
        rw [List.range_succ, List.map_append]
        exact (hz.keep (s3.trans s4)).snoc (x := ringX p i) ng upd_same
      · rintro acc H2 ⟨hz, s2⟩ hA2 hl2
        have pn : ((p : Nat) : Int).toNat = p := by omega
        rw [pn] at hz
        have hz : ArS H2 acc (ringA p) := hz.ars
        have hD1 := s2 _ _ hA
        refine ⟨_, rfl, _, rfl, 1, rfl, D, _, rfl, SqL.of hD1, fun q1 hq1 => ?_⟩
        have c1 : cutV ((ringN p).map V.str) none (some (1 : Int)) = ([rgN 0] : List PySem.Str).map V.str := by
          rw [show cutV ((ringN p).map V.str) none (some (1 : Int)) = ((ringN p).map V.str).take 1 from cutV_tk _ 1, ← List.map_take]
          unfold ringN
          rw [← List.map_take, List.take_range, Nat.min_eq_left hp]
          rfl
        rw [c1]
        have s3 := same_new (o := .lst (([rgN 0] : List PySem.Str).map V.str)) hq1
        have k1 := upd_same (H := H2) (a := q1) (o := .lst (([rgN 0] : List PySem.Str).map V.str))
        generalize upd H2 q1 (.lst (([rgN 0] : List PySem.Str).map V.str)) = H3 at s3 k1 ⊢
        refine ⟨_, rfl, _, rfl, _, rfl, D, _, rfl, SqL.of (s3 _ _ hD1), fun q2 hq2 => ?_⟩
        rw [cutV_tk, ← List.map_take]
        have s4 := same_new (o := .lst (((ringN p).take e).map V.str)) hq2
        have k2 := upd_same (H := H3) (a := q2) (o := .lst (((ringN p).take e).map V.str))
        generalize upd H3 q2 (.lst (((ringN p).take e).map V.str)) = H4 at s4 k2 ⊢
        obtain ⟨i1, i2, i3⟩ := ring_in (e := e) hp
        have nmR : ∀ s ∈ ringN p, Nm s := fun s hs => by
          obtain ⟨k, hk, rfl⟩ := ringN_mem.mp hs
          exact rgN_nm (by omega)
        refine fun x dx2 nx ndx nex => ?_
        have sB : Same H4 (upd (upd H4 dx2 (.own x)) x (.ins kl.Machine dx2 [])) := fun b o e => by
          rw [upd_ne (ne_of_none e nx), upd_ne (ne_of_none e ndx)]
          exact e
        have S4 := s3.trans s4
        refine ⟨x, D2, q1, q2, dx2, acc, ringA p, [rgN 0], (ringN p).take e, ringN p, rfl, upd_same, .inl (SqL.of (sB _ _ (S4 _ _ hA2))), (hz.same S4).same sB, ring_ok hp h20, by rw [ringA_len]; omega, .inl (SqL.of (sB _ _ (s4 _ _ k1))), .inl (SqL.of (sB _ _ k2)), fun s hs => nmR s (i1 s hs), fun s hs => nmR s (i2 s hs), by simp, by have := List.length_take_le e (ringN p); omega, by rw [ringN_len]; omega, i1, i2, i3, fun M H5 hMach hMOf keep => ⟨rfl, ?_⟩⟩
        have s5 : Same H4 H5 := fun b o e => keep b o (ne_of_none e nx) (sB b o e)
        have S0 := (s1.trans s2).trans S4
        exact k x M H5 (S0.free nx) hMach (ring_of hp h20 hMOf) (S0.trans s5)

end
end Pf

namespace Pf
open PySem PySem.Spec PyProof.Rows L2 Bz
local macro_rules | `(tactic| walk_at "sd") => `(tactic| first
  | rfl | assumption | omega | exact Nat.le_of_ble_eq_true rfl | decide | (refine Or.inl (And.intro ?_ ?_) <;> omega) | (refine Or.inr (And.intro ?_ ?_) <;> omega) | (refine And.intro ?_ ?_ <;> omega) | (refine ⟨?_, ?_, ?_⟩ <;> omega))
local macro_rules | `(tactic| walk_at "sq") => `(tactic| first | assumption | exact SqL.of (by assumption) | exact SqT.of (by assumption) | exact SqL.of upd_same | exact SqT.of upd_same)
local macro_rules | `(tactic| walk_at "hp") => `(tactic| first | assumption | exact upd_same)
local macro_rules | `(tactic| walk_at "rd") => `(tactic| repeat (first
  | (refine ⟨_, rfl, ?_⟩) | (refine ⟨_, _, rfl, rfl, ?_⟩) | (refine ⟨rfl, ?_⟩) | (refine And.intro (by walk_at "sd") ?_)
  | (refine ⟨_, _, _, _, rfl, rfl, (by walk_at "sq"), rfl, ?_⟩)
  | (refine ⟨_, _, _, _, rfl, rfl, (by walk_at "hp"), rfl, ?_⟩)
  | (refine Or.inl ⟨_, rfl, ?_⟩)))
section
variable {P : Program} {w : World} {K : PySem.W.Frag} {mg : PySem.Str → Option Value} {base : Heap} {kl : Cl}
theorem fn_law (T : Facts K mg kl) {f : Addr} {fd : FuncData} (F : Fun K "law" "law" s_law f fd) : FnOk P w K mg base CX0 9 f fd ["_law_script"] (spLaw K) := by
  refine F.ok sc_law (fun vs H Q E h => ?_) (fun cdv A outer s H vs Q E hr h => ?_)
  · obtain ⟨a, ns, rfl, _⟩ := h
    rfl
  · obtain ⟨a, ns, rfl, ha, k⟩ := h
    refine ⟨_, (pss_cons (ps_set (i := 1) sc_law.nd rfl (Or.inl rfl) (pe_own (ok__law_source T) hr (pa_cons (pv 0) pa_nil)))
  (pss_cons (ps_asg (pe_tup (pa_cons (pe_op op_add pe_int (pe_own (ok__law_draw T) hr (pa_cons (pv 1) (pa_cons pe_int pa_nil)))) (pa_cons (pe_op op_add pe_int (pe_own (ok__law_draw T) hr (pa_cons (pv 1) (pa_cons pe_int pa_nil)))) pa_nil))) (kpg_tup K rfl (pgs_cons (pg_name (i := 2) sc_law.nd rfl (Or.inr rfl)) (pgs_cons (pg_name (i := 3) sc_law.nd rfl (Or.inr rfl)) pgs_nil))))
  (pss_cons (ps_par (i := 4) (j := 5) (by rfl) sc_law.nd rfl rfl (by decide) rfl rfl (pa_cons (pe_own (ok__law_ring T) hr (pa_cons (pv 2) (pa_cons (pv 2) pa_nil))) (pa_cons (pe_own (ok__law_ring T) hr (pa_cons (pv 3) (pa_cons (pv 3) pa_nil))) pa_nil)) (by rfl))
  (pss_cons (ps_par (i := 6) (j := 7) (by rfl) sc_law.nd rfl rfl (by decide) rfl rfl (pa_cons (pe_own (ok__law_ring T) hr (pa_cons (pe_op op_add pe_int (pe_own (ok__law_draw T) hr (pa_cons (pv 1) (pa_cons pe_int pa_nil)))) (pa_cons pe_int pa_nil))) (pa_cons (pe_own (ok__law_ring T) hr (pa_cons (pe_op op_add pe_int (pe_own (ok__law_draw T) hr (pa_cons (pv 1) (pa_cons pe_int pa_nil)))) (pa_cons pe_int pa_nil))) pa_nil)) (by rfl))
  (pss_cons (ps_set (i := 8) sc_law.nd rfl (Or.inl rfl) (pe_lst (pa_cons (pe_callB (kcall_len K) (by rfl) T.b_len (by decide +kernel) (pa_cons (pe_pr (pv 6) hr T.cl_Machine T.p_Machine_states T.n_Machine_held_states sc_Machine_states) pa_nil)) (pa_cons (pe_callB (kcall_len K) (by rfl) T.b_len (by decide +kernel) (pa_cons (pe_pr (pv 7) hr T.cl_Machine T.p_Machine_states T.n_Machine_held_states sc_Machine_states) pa_nil)) pa_nil))))
  (pss_cons (ps_set (i := 9) sc_law.nd rfl (Or.inl rfl) (pe_lst (pa_cons (pe_own (ok_either T) hr (pa_cons (pv 4) (pa_cons (pv 5) pa_nil))) (pa_cons (pe_own (ok_behind T) hr (pa_cons (pv 4) (pa_cons (pv 5) pa_nil))) (pa_cons (pe_own (ok_within T) hr (pa_cons (pv 6) (pa_cons (pv 7) pa_nil))) (pa_cons (pe_own (ok_summed T) hr (pa_cons (pv 6) (pa_cons (pv 7) pa_nil))) (pa_cons (pe_own (ok_turned T) hr (pa_cons (pv 4) pa_nil)) pa_nil)))))))
  (pss_cons (ps_set (i := 10) sc_law.nd rfl (Or.inl rfl) (pe_own (ok_pieces T) hr (pa_cons (pe_own (ok__law_ring T) hr (pa_cons (pv 2) (pa_cons pe_int pa_nil))) pa_nil)))
  (pss_cons (ps_for PassesOwn.never rfl (pi_range1 (by rfl) T.b_range (pa_cons pe_int pa_nil)) (pg_name (i := 11) sc_law.nd rfl (Or.inl rfl))
  (pss_cons (ps_set (i := 12) sc_law.nd rfl (Or.inr rfl) (pe_own (ok__law_draw T) hr (pa_cons (pv 1) (pa_cons pe_int pa_nil))))
  (pss_cons (ps_set (i := 13) sc_law.nd rfl (Or.inr rfl) (pe_op op_repTxt pe_str (pv 12)))
  (pss_cons (ps_setLc (i := 14) (own := [("_law_k", 17)]) (g := gName 17) (tt := tYes) rfl sc_law.nd rfl rfl (sw_true rfl rfl rfl (by decide +kernel)) (pi_range1 (by rfl) T.b_range (pa_cons (pe_op op_add (pv 12) pe_int) pa_nil)) (blkOk_by (own := [("_law_k", 17)]) (N := N_law) (sc := defScope s_law) (by decide +kernel)) (fun _ _ _ _ _ => (pg_name (i := 17) sc_law.nd rfl (Or.inl rfl))) (fun _ _ _ _ _ => pts_nil) (fun _ _ _ _ _ => (pe_op op_add (pe_own (ok__law_up T) hr (pa_cons (pv 17) (pa_cons (pv 2) pa_nil))) (pe_own (ok__law_up T) hr (pa_cons (pe_op op_sub (pv 12) (pv 17)) (pa_cons (pv 3) pa_nil))))))
  (pss_cons (ps_set (i := 15) sc_law.nd rfl (Or.inl rfl) (pe_lst (pa_cons (pe_callB (call_min2 rfl) (by rfl) T.b_min (by decide +kernel) (pa_cons (pe_own (ok__law_up T) hr (pa_cons (pv 12) (pa_cons (pv 2) pa_nil))) (pa_cons (pe_own (ok__law_up T) hr (pa_cons (pv 12) (pa_cons (pv 3) pa_nil))) pa_nil))) (pa_cons (pe_callB (kmin1 K rfl) (by rfl) T.b_min (by decide +kernel) (pa_cons (pv 14) pa_nil)) (pa_cons (pe_own (ok__law_up T) hr (pa_cons (pv 12) (pa_cons (pe_ix (kix_list K) (pv 8) pe_int (fun _ _ => rfl)) pa_nil))) pa_nil)))))
  (pss_cons (ps_set (i := 15) sc_law.nd rfl (Or.inl rfl) (pe_op op_cat (pv 15) (pe_lst (pa_cons (pe_op op_add (pe_own (ok__law_up T) hr (pa_cons (pv 12) (pa_cons (pe_ix (kix_list K) (pv 8) pe_int (fun _ _ => rfl)) pa_nil))) (pe_own (ok__law_up T) hr (pa_cons (pv 12) (pa_cons (pe_ix (kix_list K) (pv 8) pe_int (fun _ _ => rfl)) pa_nil)))) (pa_cons (pe_own (ok__law_up T) hr (pa_cons (pv 12) (pa_cons (pv 2) pa_nil))) pa_nil)))))
  (pss_cons (ps_if (pt_cmpR (kneD K hr.units) (pe_lc (own := [("_law_machine", 18)]) (g := gName 18) (tt := tYes) rfl sc_law.nd (kpi_list K (pv 9)) (blkOk_by (own := [("_law_machine", 18)]) (N := N_law) (sc := defScope s_law) (by decide +kernel)) (fun _ _ _ _ _ => (pg_name (i := 18) sc_law.nd rfl (Or.inl rfl))) (fun _ _ _ _ _ => pts_nil) (fun _ _ _ _ _ => (pe_own (ok_price T) hr (pa_cons (pv 18) (pa_cons (pv 13) pa_nil))))) (pv 15) (nomark _))
  (pss_one (ps_ret pe_bl))
  pss_nil)
  (pss_cons (ps_set (i := 16) sc_law.nd rfl (Or.inl rfl) (pe_ifExp (pt_cmpR op_eq (pe_op op_modN (pv 12) (pv 2)) pe_int (nomark _)) (pe_callTy call_int1 (by rfl) T.b_int (by decide +kernel) (pa_cons (pe_cmpR op_gt (pv 12) pe_int (nomark _)) pa_nil)) pe_non))
  (pss_one (ps_if (PW.pt (pw_or (pt_cmpR op_ne (pe_own (ok_price T) hr (pa_cons (pv 10) (pa_cons (pv 13) pa_nil))) (pv 16) (nomark _)) (pw_or1 (pt_cmpR op_ne (pe_own (ok_price T) hr (pa_cons (pv 4) (pa_cons (pv 13) pa_nil))) (pe_own (ok__law_up T) hr (pa_cons (pv 12) (pa_cons (pv 2) pa_nil))) (nomark _)))))
  (pss_one (ps_ret pe_bl))
  pss_nil))))))))))
  (pss_one (ps_ret pe_bl)))))))))), ?_⟩
    refine ⟨_, rfl, a, ns, rfl, ha, fun src H1 hp hS s1 => ?_⟩
    refine ⟨_, rfl, src, 20, 0, rfl, hS, by omega, by omega, by omega, fun r1 H2 r10 r1m hS2 b2 => ⟨_, _, rfl, rfl, ?_⟩⟩
    have g2 : Go src 1 H1 H2 := (Go.start hS).but hS2 b2
    refine ⟨_, rfl, src, 20, 1, rfl, hS2, by omega, by omega, by omega, fun r2 H3 r20 r2m hS3 b3 => ⟨_, _, rfl, rfl, Nat.le_of_ble_eq_true rfl, fun tp htp => ?_⟩⟩
    have g3 : Go src 2 H1 H3 := g2.but hS3 b3
    obtain ⟨p, rfl⟩ : ∃ n : Nat, r1 = (n : Int) := ⟨r1.toNat, by omega⟩
    obtain ⟨q, rfl⟩ : ∃ n : Nat, r2 = (n : Int) := ⟨r2.toNat, by omega⟩
    refine ⟨tp, _, rfl, SqT.of upd_same, rfl, _, _, rfl, _, _, rfl, rfl, ?_⟩
    have g4 := g3.new (o := .tup [.int (1 + (p : Int)), .int (1 + (q : Int))]) htp
    generalize upd H3 tp _ = H4 at g4 ⊢
    -- the rings
    refine ⟨_, rfl, _, rfl, 1 + p, 1 + p, rfl, by omega, by omega, by omega, fun m1 M1 H5 f1 hM1 R1 s5 => ?_⟩
    refine ⟨_, rfl, _, rfl, 1 + q, 1 + q, rfl, by omega, by omega, by omega, fun m2 M2 H6 f2 hM2 R2 s6 => ⟨_, _, rfl, ?_⟩⟩
    have g6 := (g4.same s5).same s6
    refine ⟨_, rfl, src, 6, 2, rfl, g6.src, by omega, by omega, by omega, fun r3 H7 r30 r3m hS7 b7 => ⟨_, _, rfl, rfl, ?_⟩⟩
    obtain ⟨p3, rfl⟩ : ∃ n : Nat, r3 = (n : Int) := ⟨r3.toNat, by omega⟩
    have g7 := g6.but hS7 b7
    refine ⟨1 + p3, 6, rfl, by omega, by omega, by omega, fun m3 M3 H8 f3 hM3 R3 s8 => ?_⟩
    have g8 := g7.same s8
    refine ⟨_, rfl, src, 6, 3, rfl, g8.src, by omega, by omega, by omega, fun r4 H9 r40 r4m hS9 b9 => ⟨_, _, rfl, rfl, ?_⟩⟩
    obtain ⟨p4, rfl⟩ : ∃ n : Nat, r4 = (n : Int) := ⟨r4.toNat, by omega⟩
    have g9 := g8.but hS9 b9
    refine ⟨1 + p4, 6, rfl, by omega, by omega, by omega, fun m4 M4 H10 f4 hM4 R4 s10 => ⟨_, _, rfl, ?_⟩⟩
    have g10 := g9.same s10
    have X6 := (b7.ext.trans (Same.ext s8)).trans (b9.ext.trans (Same.ext s10))
    have hM1 := (hM1.same s6).ext g6.src X6
    have hM2 := hM2.ext g6.src X6
    have hM3 := hM3.ext g8.src (b9.ext.trans (Same.ext s10))
    clear X6 b2 b3 b7 b9 g2 g3 g4 g6 g7 g8 g9 s5 s6 s8 s10 hS2 hS3 hS7 hS9 htp f1 f2 f3 f4
    have S10 := g10.src
    clear g10 hS s1 hp
    obtain ⟨d3, x1, x2, x3, x4, x5, ws3, hI3⟩ := id hM3
    obtain ⟨d4, y1, y2, y3, y4, y5, ws4, hI4⟩ := id hM4
    refine ⟨_, rfl, m3, d3, _, rfl, hI3.ins, m3, d3, _, _, rfl, hI3.ins, mfs4 .., _, M3.sta.length, rfl, .inr ⟨_, hI3.a4.sq, by rw [List.length_map]⟩, ?_⟩
    refine ⟨_, rfl, m4, d4, _, rfl, hI4.ins, m4, d4, _, _, rfl, hI4.ins, mfs4 .., _, M4.sta.length, rfl, .inr ⟨_, hI4.a4.sq, by rw [List.length_map]⟩, Nat.le_of_ble_eq_true rfl, fun L8 hL8 => ?_⟩
    rw [R3.sta, R4.sta]
    clear hI3 hI4
    have s11 := same_new (o := .lst [.int ((1 + p3 : Nat) : Int), .int ((1 + p4 : Nat) : Int)]) hL8
    have e8 := upd_same (H := H10) (a := L8) (o := .lst [.int ((1 + p3 : Nat) : Int), .int ((1 + p4 : Nat) : Int)])
    have n8 : L8 ≠ src := S10.ne hL8
    generalize upd H10 L8 (.lst [.int ((1 + p3 : Nat) : Int), .int ((1 + p4 : Nat) : Int)]) = H11 at s11 e8 ⊢
    -- what is made of them
    have st : ∀ {M : MachV} {p e : Nat}, RingOf M p e → Asc M.sta := fun h => h.of.sta.1
    refine ⟨_, rfl, _, rfl, m1, m2, M1, M2, rfl, hM1.same s11, hM2.same s11, R1.fine, R2.fine, st R1, st R2, by rw [R1.sta]; omega, by rw [R2.sta]; omega, by have := R1.ars; omega, by have := R2.ars; omega, fun u1 N1 H12 f12 hN1 fN1 oN1 s12 => ?_⟩
    have S12 := s11.trans s12
    have w1 : inE M1 * M2.sts.length ≤ 300 := Nat.le_trans (Nat.mul_le_mul (R1.inE (by omega)) R2.sts) (by decide)
    have w2 : outS M2 * M1.ens.length ≤ 300 := Nat.le_trans (Nat.mul_le_mul R2.out (Nat.le_trans R1.ens (show 1 + p ≤ 20 by omega))) (by decide)
    refine ⟨_, rfl, _, rfl, m1, m2, M1, M2, rfl, hM1.same S12, hM2.same S12, R1.fine, R2.fine, st R1, st R2, R1.lit (by omega), R2.lit (by omega), w1, w2, fun u2 N2 H13 f13 hN2 fN2 oN2 s13 => ?_⟩
    have S13 := S12.trans s13
    refine ⟨_, rfl, _, rfl, m3, m4, M3, M4, rfl, hM3.same S13, hM4.same S13, R3.fine, R4.fine, st R3, st R4, by rw [R3.sta]; omega, by rw [R4.sta]; omega, by have := R3.ars; omega, by have := R4.ars; omega, R3.lowc (by omega), R4.lowc (by omega), fun u3 N3 H14 f14 hN3 fN3 oN3 s14 => ?_⟩
    have S14 := S13.trans s14
    refine ⟨_, rfl, _, rfl, m3, m4, M3, M4, rfl, hM3.same S14, hM4.same S14, R3.fine, R4.fine, st R3, st R4, by rw [R3.sta]; omega, by rw [R4.sta]; omega, by have := R3.ars; omega, by have := R4.ars; omega, R3.lowc (by omega), R4.lowc (by omega), fun u4 N4 H15 f15 hN4 fN4 oN4 s15 => ?_⟩
    have S15 := S14.trans s15
    refine ⟨_, rfl, m1, M1, rfl, hM1.same S15, R1.fine, fun u5 N5 H16 f16 hN5 oN5 s16 => ⟨Nat.le_of_ble_eq_true rfl, fun L9 hL9 => ?_⟩⟩
    have S16 := S15.trans s16
    have s17 := same_new (o := .lst [.ref u1, .ref u2, .ref u3, .ref u4, .ref u5]) hL9
    have e9 := upd_same (H := H16) (a := L9) (o := .lst [.ref u1, .ref u2, .ref u3, .ref u4, .ref u5])
    have n9 : L9 ≠ src := fun e => by
      obtain ⟨o, ho⟩ := S10.here
      have := S16 _ _ ho
      rw [← e, hL9] at this
      cases this
    generalize upd H16 L9 (.lst [.ref u1, .ref u2, .ref u3, .ref u4, .ref u5]) = H17 at s17 e9 ⊢
    have S17 := S16.trans s17
    have hN1 := hN1.same (s13.trans (s14.trans (s15.trans (s16.trans s17))))
    have hN2 := hN2.same (s14.trans (s15.trans (s16.trans s17)))
    have hN3 := hN3.same (s15.trans (s16.trans s17))
    have hN4 := hN4.same (s16.trans s17)
    have hN5 := hN5.same s17
    have fN5 := R1.fine.turn oN5
    -- its pieces
    refine ⟨_, rfl, 1 + p, 1, rfl, by omega, by omega, by omega, fun m5 M5 H18 f18 hM5 R5 s18 => ?_⟩
    refine ⟨m5, M5, rfl, hM5, R5.fine, by rw [R5.sta]; omega, by have := R5.ars; omega, fun u6 N6 H19 f19 hN6 fN6 oN6 s19 => ?_⟩
    have s20 := s18.trans s19
    have S20 := S17.trans s20
    have G20 := (Go.start S10).same S20
    have hN1 := hN1.same s20
    have hN2 := hN2.same s20
    have hN3 := hN3.same s20
    have hN4 := hN4.same s20
    have hN5 := hN5.same s20
    have hM1 := hM1.same S20
    have e8 := ((s12.trans (s13.trans (s14.trans (s15.trans (s16.trans s17))))).trans s20) _ _ e8
    have e9 := s20 _ _ e9
    have T20 := G20.src
    clear s11 s12 s13 s14 s15 s16 s17 s18 s19 s20 S12 S13 S14 S15 S16 S17 S20 G20 S10 hM2 hM3 hM4 hM5 hL8 hL9 f12 f13 f14 f15 f16 f18 f19
    refine ⟨4, rfl, by omega, by omega, for_range (lo := 0) (n := 4) (fun i σ H' => ∃ v11 v12 v13 v14 v15 v16 : Option V, σ = [some (.ref a), some (.ref src), some (.int (1 + (p : Int))), some (.int (1 + (q : Int))), some (.ref m1), some (.ref m2), some (.ref m3), some (.ref m4), some (.ref L8), some (.ref L9), some (.ref u6), v11, v12, v13, v14, v15, v16, none, none] ∧ Go src (4 + i) H19 H') ⟨_, _, _, _, _, _, rfl, Go.start T20⟩ ?_ ?_⟩
    · rintro i σ HA hi ⟨v11, v12, v13, v14, v15, v16, rfl, gA⟩
      refine ⟨_, rfl, src, 46, 4 + i, rfl, gA.src, by omega, by omega, by omega, fun r HB rB0 rBm hSB bB => ?_⟩
      obtain ⟨n, rfl⟩ : ∃ n : Nat, r = (n : Int) := ⟨r.toNat, by omega⟩
      have gB : Go src (4 + (i + 1)) H19 HB := gA.but hSB bB
      refine ⟨_, rfl, "a", _, rfl, rfl, by omega, by omega, Nat.le_trans (Nat.mul_le_mul (show ("a" : PySem.Str).length ≤ 1 by decide) (show ((n : Nat) : Int).toNat ≤ 46 by omega)) (by decide), ?_⟩
      have hE8 := gB.get n8 e8
      have hE9 := gB.get n9 e9
      have hN1 := hN1.ext T20 gB.ext
      have hN2 := hN2.ext T20 gB.ext
      have hN3 := hN3.ext T20 gB.ext
      have hN4 := hN4.ext T20 gB.ext
      have hN5 := hN5.ext T20 gB.ext
      have hN6 := hN6.ext T20 gB.ext
      have hM1 := hM1.ext T20 gB.ext
      have rowOk : RowOk (repS "a" (n : Int)) := ⟨by rw [repS_len]; exact Nat.le_trans (Nat.mul_le_mul (show ((n : Nat) : Int).toNat ≤ 46 by omega) (show ("a" : PySem.Str).length ≤ 1 by decide)) (by decide), repS_sg (abcd_lt "a" (by simp)).2⟩
      -- the cuts
      refine ⟨_, rfl, _, _, rfl, rfl, ((n : Nat) : Int) + 1, rfl, by omega, by omega, fun D hD => lcA walk_range (fun i acc H' => acc = ((List.range i).map fun k => (((upN k (1 + p) + upN (n - k) (1 + q) : Nat)) : Int)).map V.int ∧ Same HB H') ⟨rfl, .refl _⟩ (fun i acc H' o h => ⟨h.1, same_mut h.2 hD⟩) (fun i acc H' hi h => trivial) ?_ ?_⟩
      · rintro j x acc _ HC hj ⟨rfl, sC⟩ hA hl ⟨rfl, rfl⟩
        have ej : (0 : Int) + (j : Nat) = ((j : Nat) : Int) := Int.zero_add _
        have ek : ((n : Nat) : Int) - ((0 : Int) + (j : Nat)) = ((n - j : Nat) : Int) := by omega
        refine ⟨rfl, _, rfl, _, rfl, j, 1 + p, by show [V.int ((0 : Int) + (j : Nat)), V.int (1 + (p : Int))] = _; rw [ej]; rfl, by omega, by omega, by omega, _, rfl, _, rfl, _, _, rfl, rfl, _, rfl, n - j, 1 + q, by show [V.int (((n : Nat) : Int) - ((0 : Int) + (j : Nat))), V.int (1 + (q : Int))] = _; rw [ek]; rfl, by omega, by omega, by omega, _, _, rfl, rfl, ?_⟩
        refine LcP.put (fun i acc H' o h => ⟨h.1, same_mut h.2 hD⟩) hA hl (by omega) ⟨?_, sC⟩
        rw [List.range_succ, List.map_append, List.map_append]
        rfl
      rintro acc HC ⟨rfl, sC⟩ hA hl
      rw [show (((n : Nat) : Int) + 1).toNat = n + 1 by omega] at hA
      have P1 : 1 ≤ 1 + p := by omega
      have Q1 : 1 ≤ 1 + q := by omega
      have C1 : 1 ≤ 1 + p3 := by omega
      have D1 : 1 ≤ 1 + p4 := by omega
      have hE8 := sC _ _ hE8
      have hE9 := sC _ _ hE9
      refine ⟨_, rfl, _, rfl, n, 1 + p, rfl, by omega, by omega, by omega, _, rfl, _, rfl, n, 1 + q, rfl, by omega, by omega, by omega, _, _, rfl, ?_⟩
      refine ⟨_, rfl, D, _, rfl, SqL.of hA, by rw [List.length_map, List.length_range]; omega, fun mc hmc hle => ?_⟩
      refine ⟨_, rfl, _, rfl, L8, _, _, _, rfl, rfl, SqL.of hE8, atI_nat (j := 0) rfl, n, 1 + p3, rfl, by omega, by omega, by omega, Nat.le_of_ble_eq_true rfl, fun LA hLA => ?_⟩
      generalize hd0 : (if ((upN n (1 + q) : Nat) : Int) < ((upN n (1 + p) : Nat) : Int) then ((upN n (1 + q) : Nat) : Int) else ((upN n (1 + p) : Nat) : Int)) = d0
      have sD := same_new (o := .lst [.int d0, .int mc, .int ((upN n (1 + p3) : Nat) : Int)]) hLA
      have kA := upd_same (H := HC) (a := LA) (o := .lst [.int d0, .int mc, .int ((upN n (1 + p3) : Nat) : Int)])
      generalize upd HC LA (.lst [.int d0, .int mc, .int ((upN n (1 + p3) : Nat) : Int)]) = HD at sD kA ⊢
      have hE8 := sD _ _ hE8
      refine ⟨_, rfl, _, rfl, _, rfl, L8, _, _, _, rfl, rfl, SqL.of hE8, atI_nat (j := 0) rfl, n, 1 + p3, rfl, by omega, by omega, by omega, _, rfl, _, rfl, L8, _, _, _, rfl, rfl, SqL.of hE8, atI_nat (j := 1) rfl, n, 1 + p4, rfl, by omega, by omega, by omega, _, _, rfl, rfl, ?_⟩
      refine ⟨_, rfl, _, rfl, n, 1 + p, rfl, by omega, by omega, by omega, Nat.le_of_ble_eq_true rfl, fun LB hLB => ?_⟩
      have sE := same_new (o := .lst [.int (((upN n (1 + p3) : Nat) : Int) + ((upN n (1 + p4) : Nat) : Int)), .int ((upN n (1 + p) : Nat) : Int)]) hLB
      have kB := upd_same (H := HD) (a := LB) (o := .lst [.int (((upN n (1 + p3) : Nat) : Int) + ((upN n (1 + p4) : Nat) : Int)), .int ((upN n (1 + p) : Nat) : Int)])
      generalize upd HD LB (.lst [.int (((upN n (1 + p3) : Nat) : Int) + ((upN n (1 + p4) : Nat) : Int)), .int ((upN n (1 + p) : Nat) : Int)]) = HE at sE kB ⊢
      refine ⟨LA, LB, _, _, rfl, rfl, sE _ _ kA, kB, Nat.le_of_ble_eq_true rfl, fun LC hLC => ?_⟩
      generalize hdl : ([d0, mc, ((upN n (1 + p3) : Nat) : Int), ((upN n (1 + p3) : Nat) : Int) + ((upN n (1 + p4) : Nat) : Int), ((upN n (1 + p) : Nat) : Int)] : List Int) = dl
      have edl : ([.int d0, .int mc, .int ((upN n (1 + p3) : Nat) : Int)] ++ [.int (((upN n (1 + p3) : Nat) : Int) + ((upN n (1 + p4) : Nat) : Int)), .int ((upN n (1 + p) : Nat) : Int)] : List V) = dl.map V.int := by rw [← hdl]; rfl
      rw [edl]
      have sF := same_new (o := .lst (dl.map V.int)) hLC
      have kC := upd_same (H := HE) (a := LC) (o := .lst (dl.map V.int))
      generalize upd HE LC (.lst (dl.map V.int)) = HF at sF kC ⊢
      have SF := sC.trans (sD.trans (sE.trans sF))
      have hE9 := (sD.trans (sE.trans sF)) _ _ hE9
      generalize hLs : ([(u1, N1), (u2, N2), (u3, N3), (u4, N4), (u5, N5)] : List (Addr × MachV)) = Ls
      have els : ([.ref u1, .ref u2, .ref u3, .ref u4, .ref u5] : List V) = Ls.map fun u => .ref u.1 := by rw [← hLs]; rfl
      rw [els] at hE9
      have hIs : ∀ u ∈ Ls, IsMach kl.Machine HF u.1 u.2 ∧ MFine u.2 := fun u hu => by
        rw [← hLs] at hu
        simp only [List.mem_cons, List.not_mem_nil, or_false] at hu
        rcases hu with rfl | rfl | rfl | rfl | rfl
        · exact ⟨hN1.same SF, fN1⟩
        · exact ⟨hN2.same SF, fN2⟩
        · exact ⟨hN3.same SF, fN3⟩
        · exact ⟨hN4.same SF, fN4⟩
        · exact ⟨hN5.same SF, fN5⟩
      have lsl : Ls.length = 5 := by rw [← hLs]; rfl
      have dll : dl.length = 5 := by rw [← hdl]; rfl
      have l1 : LPr M1.ars M1.sts M1.ens (List.replicate n aS) (some ((upN n (1 + p) : Nat) : Int)) := by rw [← ringO_all (e := 1 + p) (n := n) P1 (Nat.le_refl _)]; exact R1.lpr P1
      have l2 : LPr M2.ars M2.sts M2.ens (List.replicate n aS) (some ((upN n (1 + q) : Nat) : Int)) := by rw [← ringO_all (e := 1 + q) (n := n) Q1 (Nat.le_refl _)]; exact R2.lpr Q1
      have l3 : LPr M3.ars M3.sts M3.ens (List.replicate n aS) (some ((upN n (1 + p3) : Nat) : Int)) := by rw [← ringO_all (e := 6) (n := n) C1 (by omega)]; exact R3.lpr C1
      have l4 : LPr M4.ars M4.sts M4.ens (List.replicate n aS) (some ((upN n (1 + p4) : Nat) : Int)) := by rw [← ringO_all (e := 6) (n := n) D1 (by omega)]; exact R4.lpr D1
      have prc : ∀ (i : Nat) (u : Addr × MachV), Ls[i]? = some u → ∀ o, LeastO (fun n' => ∃ e ∈ u.2.ens, Rch u.2.ars u.2.sts (sgnL (repS "a" (n : Int))) e n') o → ∃ v, dl[i]? = some v ∧ o = some v := fun i u hu o ho => by
        rw [sgnL_as] at ho
        have hi5 : i < 5 := by
          have := (List.getElem?_eq_some_iff.mp hu).1
          omega
        rw [← hLs] at hu
        rw [← hdl]
        rcases (show i = 0 ∨ i = 1 ∨ i = 2 ∨ i = 3 ∨ i = 4 by omega) with rfl | rfl | rfl | rfl | rfl
        · obtain rfl : (u1, N1) = u := Option.some.inj hu
          refine ⟨_, rfl, ?_⟩
          rw [min_two (oN1.price _ _ _ _ l1 l2 ho), ← hd0]
          congr 1
          split <;> omega
        · obtain rfl : (u2, N2) = u := Option.some.inj hu
          refine ⟨_, rfl, ?_⟩
          have h := oN2.price _ (fun i => some ((upN i (1 + p) : Nat) : Int)) (fun i => some ((upN (n - i) (1 + q) : Nat) : Int)) o (fun i hi => ?_) (fun i hi => ?_) ho
          · rw [List.length_replicate] at h
            exact h.uniq (ring_cut hmc hle)
          · rw [List.length_replicate] at hi
            rw [List.take_replicate, Nat.min_eq_left hi]
            rw [← ringO_all (e := 1 + p) (n := i) P1 (Nat.le_refl _)]
            exact R1.lpr P1
          · rw [List.length_replicate] at hi
            rw [List.drop_replicate]
            rw [← ringO_all (e := 1 + q) (n := n - i) Q1 (Nat.le_refl _)]
            exact R2.lpr Q1
        · obtain rfl : (u3, N3) = u := Option.some.inj hu
          refine ⟨_, rfl, ?_⟩
          rw [oN3.price _ _ _ _ l3 l4 ho]
          show some (((upN n (1 + p3) : Nat) : Int) + 0) = _
          rw [Int.add_zero]
        · obtain rfl : (u4, N4) = u := Option.some.inj hu
          exact ⟨_, rfl, oN4.price _ _ _ _ l3 l4 ho⟩
        · obtain rfl : (u5, N5) = u := Option.some.inj hu
          refine ⟨_, rfl, ?_⟩
          have h := oN5.turned' ho
          rw [List.reverse_replicate] at h
          exact h.uniq l1
      have pcq : ∀ o, LeastO (fun n' => ∃ e ∈ N6.ens, Rch N6.ars N6.sts (sgnL (repS "a" (n : Int))) e n') o → o = pieceO (1 + p) n := fun o ho => by
        rw [sgnL_as] at ho
        have h := oN6.price _ _ ho
        refine (h.iff fun m => ?_).uniq (ring_pcn P1)
        unfold PcN
        exact ⟨fun ⟨k, e, h⟩ => ⟨k, e, (pc_iff (fun a => reads_cheap R5.of.ars R5.of.sts.2 R5.of.ens.2) k _).mp h⟩, fun ⟨k, e, h⟩ => ⟨k, e, (pc_iff (fun a => reads_cheap R5.of.ars R5.of.sts.2 R5.of.ens.2) k _).mpr h⟩⟩
      refine ⟨_, rfl, L9, rfl, ⟨_, SqL.of hE9⟩, fun D2 hD2 => lcA walk_list (fun i acc H' => acc = (dl.take i).map V.int ∧ Same HF H') ⟨rfl, .refl _⟩ (fun i acc H' o h => ⟨h.1, same_mut h.2 hD2⟩) (fun i acc H' _ h => SqL.of (h.2 _ _ hE9)) ?_ ?_⟩
      · rintro j x acc _ HG hj ⟨rfl, sG⟩ hA1 hl1 ⟨rfl, hx⟩
        obtain ⟨u, rfl, hu⟩ := map_get hx
        rw [List.length_map] at hj
        obtain ⟨iu, fu⟩ := hIs u (List.mem_of_getElem? hu)
        refine ⟨rfl, _, rfl, _, rfl, u.1, u.2, _, rfl, iu.same sG, fu.toMGood, rowOk, fun o HY ho sY => ?_⟩
        obtain ⟨v, hv, rfl⟩ := prc j u hu o ho
        refine LcP.put (fun i acc H' o h => ⟨h.1, same_mut h.2 hD2⟩) (sY _ _ hA1) hl1 (by omega) ⟨?_, sG.trans sY⟩
        rw [List.take_add_one, hv, Option.toList_some, List.map_append]
        rfl
      rintro acc HG ⟨rfl, sG⟩ hA1 hl1
      rw [List.length_map, lsl, ← dll, List.take_length] at hA1
      refine ⟨_, rfl, _, _, .lst (SqL.of hA1) (dp_ints _), .lst (SqL.of (sG _ _ kC)) (dp_ints _), shaped_ints _, shaped_ints _, _, rfl, ?_⟩
      rw [eqv_intsX]
      refine iteF ?_
      have SJ := SF.trans sG
      have fm : Int.fmod (n : Int) (1 + (p : Int)) = ((n % (1 + p) : Nat) : Int) := by
        rw [show (1 : Int) + (p : Int) = ((1 + p : Nat) : Int) by omega, Int.fmod_eq_emod_of_nonneg _ (by omega)]
        rfl
      refine ⟨_, rfl, _, rfl, _, _, rfl, rfl, (show (1 : Int) + (p : Int) ≠ 0 by omega), rfl, _, rfl, ite2 (fun hc => ?_) (fun hc => ?_)⟩
      · have hm : n % (1 + p) = 0 := by
          have := V.int.inj (of_decide_eq_true hc)
          rw [fm] at this
          omega
        refine ⟨_, rfl, _, _, rfl, rfl, .inr ⟨_, rfl, ?_⟩⟩
        · have ee : pieceO (1 + p) n = some (if decide ((0 : Int) < (n : Int)) = true then 1 else 0) := by
            unfold pieceO
            rw [if_pos hm]
            by_cases c : 0 < n
            · rw [if_pos c, if_pos (decide_eq_true (by omega))]
            · rw [if_neg c, if_neg (fun z => c (by have := of_decide_eq_true z; omega))]
          refine ⟨_, rfl, _, rfl, u6, N6, _, rfl, hN6.same SJ, fN6.toMGood, rowOk, fun o6 HK ho6 sK => ?_⟩
          have e6 := pcq o6 ho6
          rw [ee] at e6
          subst e6
          refine ⟨_, rfl, rfl, _, rfl, ?_⟩
          rw [show decide (optV (some (if decide ((0 : Int) < (n : Int)) = true then 1 else 0)) = V.int (if decide ((0 : Int) < (n : Int)) = true then 1 else 0)) = true from decide_eq_true rfl]
          refine iteF ⟨_, rfl, _, rfl, m1, M1, _, rfl, (hM1.same SJ).same sK, R1.fine.toMGood, rowOk, fun o7 HL ho7 sL => ⟨_, rfl, _, rfl, n, 1 + p, rfl, by omega, by omega, by omega, ?_⟩⟩
          have e7 : o7 = some ((upN n (1 + p) : Nat) : Int) := (LPr.of_rch.mp ho7).uniq (by rw [sgnL_as, ← ringO_all (e := 1 + p) (n := n) (show 1 ≤ 1 + p by omega) (Nat.le_refl _)]; exact R1.lpr (by omega))
          subst e7
          refine ⟨rfl, _, rfl, ?_⟩
          rw [show decide (optV (some ((upN n (1 + p) : Nat) : Int)) = V.int ((upN n (1 + p) : Nat) : Int)) = true from decide_eq_true rfl]
          exact iteF ⟨_, _, _, _, _, _, rfl, gB.same (SJ.trans (sK.trans sL))⟩
      · have ee : pieceO (1 + p) n = none := by
          unfold pieceO
          rw [if_neg fun z => hc (decide_eq_true (by show V.int (Int.fmod (n : Int) (1 + (p : Int))) = V.int 0; rw [fm, z]; rfl))]
        · skip
          refine ⟨_, rfl, _, rfl, u6, N6, _, rfl, hN6.same SJ, fN6.toMGood, rowOk, fun o6 HK ho6 sK => ?_⟩
          have e6 := pcq o6 ho6
          rw [ee] at e6
          subst e6
          refine ⟨_, rfl, rfl, _, rfl, ?_⟩
          rw [show decide (optV none = V.non) = true from decide_eq_true rfl]
          refine iteF ⟨_, rfl, _, rfl, m1, M1, _, rfl, (hM1.same SJ).same sK, R1.fine.toMGood, rowOk, fun o7 HL ho7 sL => ⟨_, rfl, _, rfl, n, 1 + p, rfl, by omega, by omega, by omega, ?_⟩⟩
          have e7 : o7 = some ((upN n (1 + p) : Nat) : Int) := (LPr.of_rch.mp ho7).uniq (by rw [sgnL_as, ← ringO_all (e := 1 + p) (n := n) (show 1 ≤ 1 + p by omega) (Nat.le_refl _)]; exact R1.lpr (by omega))
          subst e7
          refine ⟨rfl, _, rfl, ?_⟩
          rw [show decide (optV (some ((upN n (1 + p) : Nat) : Int)) = V.int ((upN n (1 + p) : Nat) : Int)) = true from decide_eq_true rfl]
          exact iteF ⟨_, _, _, _, _, _, rfl, gB.same (SJ.trans (sK.trans sL))⟩
    · exact fun _ _ _ => k _

end
end Pf

namespace Pf
open PySem PySem.Spec PyProof.Rows L2 Bz
/-- what the top has left of a def -/
structure DefK (K : PySem.W.Frag) (x qual : PySem.Str) (st : Stmt) (f : Addr) : Prop where
  ex : ∃ (oc : Value) (od : Option Addr) (kV doc pm : Value) (an : Option Addr) (cdv ct : Value) (osl : Array (Option Value)),
    K.lookup f = some ⟨oc, od, .func (PySem.W.fnOf x qual (defArgs st) (defBody st) (defScope st) .none kV doc pm an cdv ct), osl⟩ ∧ PySem.W.codeIn K cdv qual = true
  kp : PySem.W.keepIn K (.ref f) = true
theorem defK_mk {K : PySem.W.Frag} {x qual : PySem.Str} {st : Stmt} {f : Addr} {oc : Value} {od : Option Addr} {kV doc pm : Value} {an : Option Addr} {cdv ct : Value} {osl : Array (Option Value)}
    (l : K.lookup f = some ⟨oc, od, .func (PySem.W.fnOf x qual (defArgs st) (defBody st) (defScope st) .none kV doc pm an cdv ct), osl⟩) (c : PySem.W.codeIn K cdv qual = true) (k : PySem.W.keepIn K (.ref f) = true) : DefK K x qual st f := ⟨⟨oc, od, kV, doc, pm, an, cdv, ct, osl, l, c⟩, k⟩
theorem propOf_mk {K : PySem.W.Frag} {C : Addr} {f : PySem.Str} {p g : Addr} {rest : List Value} (h1 : PySem.W.findIn K (.ref C) f = some (some (.ref p))) (h2 : PySem.W.specialIn K (.ref p) "__get__" = some (some (.builtin "property.__get__"))) (h3 : PySem.W.takesIn K (.ref p) = some true)
    (h4 : PySem.W.recIn K p "property" = some (.ref g :: rest)) : PropOf K C f p g := ⟨h1, h2, h3, rest, h4⟩
theorem DefK.fn {K : PySem.W.Frag} {x qual : PySem.Str} {st : Stmt} {f : Addr} (D : DefK K x qual st f) : ∃ fd, Fun K x qual st f fd := by
  obtain ⟨⟨oc, od, kV, doc, pm, an, cdv, ct, osl, l, c⟩, k⟩ := D
  exact ⟨_, fun_mk l c k⟩
theorem DefK.at_ {K : PySem.W.Frag} {mg : PySem.Str → Option Value} {x : PySem.Str} {st : Stmt} {f : Addr} {ps : List PySem.Str} (D : DefK K x x st f) (m : mg x = some (.ref f))
    (h : ∀ (kV doc pm : Value) (an : Option Addr) (cdv ct : Value) (us : List Value), us.length = ps.length → bindArgs (PySem.W.fnOf x x (defArgs st) (defBody st) (defScope st) .none kV doc pm an cdv ct) ⟨us, []⟩ = pure (ps.zip us)) : DefAt K mg x st ps := by
  obtain ⟨fd, F⟩ := D.fn
  exact ⟨f, fd, F, m, F.binds h⟩
theorem DefK.init_ {K : PySem.W.Frag} {C : Addr} {qual : PySem.Str} {st : Stmt} {f : Addr} {ps : List PySem.Str} (D : DefK K "__init__" qual st f) (m : Mk K C f)
    (h : ∀ (kV doc pm : Value) (an : Option Addr) (cdv ct : Value) (us : List Value), us.length = ps.length → bindArgs (PySem.W.fnOf "__init__" qual (defArgs st) (defBody st) (defScope st) .none kV doc pm an cdv ct) ⟨us, []⟩ = pure (ps.zip us)) : InitAt K C qual st ps := by
  obtain ⟨fd, F⟩ := D.fn
  exact ⟨f, fd, m, F, F.binds h⟩
theorem DefK.prop_ {K : PySem.W.Frag} {C : Addr} {x qual : PySem.Str} {st : Stmt} {p f : Addr} (D : DefK K x qual st f) (m : PropOf K C x p f)
    (h : ∀ (kV doc pm : Value) (an : Option Addr) (cdv ct : Value) (us : List Value), us.length = (["self"] : List PySem.Str).length → bindArgs (PySem.W.fnOf x qual (defArgs st) (defBody st) (defScope st) .none kV doc pm an cdv ct) ⟨us, []⟩ = pure ((["self"] : List PySem.Str).zip us)) : PropAt K C x qual st := by
  obtain ⟨fd, F⟩ := D.fn
  exact ⟨p, f, fd, m, F, F.binds h⟩
theorem all_mk {l : PySem.W.OpenLaw} {w : World} {K : PySem.W.Frag} {h : Heap} {mg : PySem.Str → Option Value} {fa : Addr} (X : K.In h) (G : h.Ns mainGlobals mg) (hfa : mg "law" = some (.ref fa))
    {C_Machine f1 f3 p3 f4 p4 f5 p5 f6 p6 f7 p7 f10 f11 f12 f13 f14 f15 f16 f17 f18 f19 f20 f21 f22 f23 f24 f25 f26 f27 f28 f29 f30 f31 f32 f33 f34 f35 f36 f37 f38 f39 f40 f41 f42 f43 f44 f45 f46 f47 f48 : Addr} {t_LONGEST_NAME t_LONGEST_ROW t_HIGHEST_PRICE t_ARROW_PARTS t_MOST_ARROWS t_MOST_STATES t_SIGNS : Tok}
    (gC_Machine : PySem.W.nsIn K mainGlobals "Machine" = some (some (.ref C_Machine)))
    (sC_Machine : Cls K C_Machine)
    (nC_Machine_held_arrows : PySem.W.findIn K (.ref C_Machine) "held_arrows" = some none)
    (nC_Machine_held_starts : PySem.W.findIn K (.ref C_Machine) "held_starts" = some none)
    (nC_Machine_held_ends : PySem.W.findIn K (.ref C_Machine) "held_ends" = some none)
    (nC_Machine_held_states : PySem.W.findIn K (.ref C_Machine) "held_states" = some none)
    (nC_Machine_held_letters : PySem.W.findIn K (.ref C_Machine) "held_letters" = some none)
    (m1 : Mk K C_Machine f1)
    (D1 : DefK K "__init__" "Machine.__init__" s_Machine___init__ f1)
    (m3 : PropOf K C_Machine "arrows" p3 f3)
    (D3 : DefK K "arrows" "Machine.arrows" s_Machine_arrows f3)
    (m4 : PropOf K C_Machine "starts" p4 f4)
    (D4 : DefK K "starts" "Machine.starts" s_Machine_starts f4)
    (m5 : PropOf K C_Machine "ends" p5 f5)
    (D5 : DefK K "ends" "Machine.ends" s_Machine_ends f5)
    (m6 : PropOf K C_Machine "states" p6 f6)
    (D6 : DefK K "states" "Machine.states" s_Machine_states f6)
    (m7 : PropOf K C_Machine "letters" p7 f7)
    (D7 : DefK K "letters" "Machine.letters" s_Machine_letters f7)
    (a10 : PySem.W.nsIn K mainGlobals "_wall" = some (some (.ref f10)))
    (D10 : DefK K "_wall" "_wall" s__wall f10)
    (a11 : PySem.W.nsIn K mainGlobals "is_integer" = some (some (.ref f11)))
    (D11 : DefK K "is_integer" "is_integer" s_is_integer f11)
    (a12 : PySem.W.nsIn K mainGlobals "has_only_letters" = some (some (.ref f12)))
    (D12 : DefK K "has_only_letters" "has_only_letters" s_has_only_letters f12)
    (a13 : PySem.W.nsIn K mainGlobals "is_name" = some (some (.ref f13)))
    (D13 : DefK K "is_name" "is_name" s_is_name f13)
    (a14 : PySem.W.nsIn K mainGlobals "is_letter" = some (some (.ref f14)))
    (D14 : DefK K "is_letter" "is_letter" s_is_letter f14)
    (a15 : PySem.W.nsIn K mainGlobals "is_price" = some (some (.ref f15)))
    (D15 : DefK K "is_price" "is_price" s_is_price f15)
    (a16 : PySem.W.nsIn K mainGlobals "is_row" = some (some (.ref f16)))
    (D16 : DefK K "is_row" "is_row" s_is_row f16)
    (a17 : PySem.W.nsIn K mainGlobals "is_list" = some (some (.ref f17)))
    (D17 : DefK K "is_list" "is_list" s_is_list f17)
    (a18 : PySem.W.nsIn K mainGlobals "is_arrow" = some (some (.ref f18)))
    (D18 : DefK K "is_arrow" "is_arrow" s_is_arrow f18)
    (a19 : PySem.W.nsIn K mainGlobals "check_row" = some (some (.ref f19)))
    (D19 : DefK K "check_row" "check_row" s_check_row f19)
    (a20 : PySem.W.nsIn K mainGlobals "check_arrows" = some (some (.ref f20)))
    (D20 : DefK K "check_arrows" "check_arrows" s_check_arrows f20)
    (a21 : PySem.W.nsIn K mainGlobals "check_names" = some (some (.ref f21)))
    (D21 : DefK K "check_names" "check_names" s_check_names f21)
    (a22 : PySem.W.nsIn K mainGlobals "cheapest" = some (some (.ref f22)))
    (D22 : DefK K "cheapest" "cheapest" s_cheapest f22)
    (a23 : PySem.W.nsIn K mainGlobals "each_once" = some (some (.ref f23)))
    (D23 : DefK K "each_once" "each_once" s_each_once f23)
    (a24 : PySem.W.nsIn K mainGlobals "all_states" = some (some (.ref f24)))
    (D24 : DefK K "all_states" "all_states" s_all_states f24)
    (a25 : PySem.W.nsIn K mainGlobals "price" = some (some (.ref f25)))
    (D25 : DefK K "price" "price" s_price f25)
    (a26 : PySem.W.nsIn K mainGlobals "least" = some (some (.ref f26)))
    (D26 : DefK K "least" "least" s_least f26)
    (a27 : PySem.W.nsIn K mainGlobals "follow" = some (some (.ref f27)))
    (D27 : DefK K "follow" "follow" s_follow f27)
    (a28 : PySem.W.nsIn K mainGlobals "moves_by_letter" = some (some (.ref f28)))
    (D28 : DefK K "moves_by_letter" "moves_by_letter" s_moves_by_letter f28)
    (a29 : PySem.W.nsIn K mainGlobals "advance" = some (some (.ref f29)))
    (D29 : DefK K "advance" "advance" s_advance f29)
    (a30 : PySem.W.nsIn K mainGlobals "either" = some (some (.ref f30)))
    (D30 : DefK K "either" "either" s_either f30)
    (a31 : PySem.W.nsIn K mainGlobals "behind" = some (some (.ref f31)))
    (D31 : DefK K "behind" "behind" s_behind f31)
    (a32 : PySem.W.nsIn K mainGlobals "within" = some (some (.ref f32)))
    (D32 : DefK K "within" "within" s_within f32)
    (a33 : PySem.W.nsIn K mainGlobals "summed" = some (some (.ref f33)))
    (D33 : DefK K "summed" "summed" s_summed f33)
    (a34 : PySem.W.nsIn K mainGlobals "turned" = some (some (.ref f34)))
    (D34 : DefK K "turned" "turned" s_turned f34)
    (a35 : PySem.W.nsIn K mainGlobals "backward" = some (some (.ref f35)))
    (D35 : DefK K "backward" "backward" s_backward f35)
    (a36 : PySem.W.nsIn K mainGlobals "joined" = some (some (.ref f36)))
    (D36 : DefK K "joined" "joined" s_joined f36)
    (a37 : PySem.W.nsIn K mainGlobals "useful" = some (some (.ref f37)))
    (D37 : DefK K "useful" "useful" s_useful f37)
    (a38 : PySem.W.nsIn K mainGlobals "reached" = some (some (.ref f38)))
    (D38 : DefK K "reached" "reached" s_reached f38)
    (a39 : PySem.W.nsIn K mainGlobals "renamed" = some (some (.ref f39)))
    (D39 : DefK K "renamed" "renamed" s_renamed f39)
    (a40 : PySem.W.nsIn K mainGlobals "pair_names" = some (some (.ref f40)))
    (D40 : DefK K "pair_names" "pair_names" s_pair_names f40)
    (a41 : PySem.W.nsIn K mainGlobals "name_of" = some (some (.ref f41)))
    (D41 : DefK K "name_of" "name_of" s_name_of f41)
    (a42 : PySem.W.nsIn K mainGlobals "pieces" = some (some (.ref f42)))
    (D42 : DefK K "pieces" "pieces" s_pieces f42)
    (a43 : PySem.W.nsIn K mainGlobals "new_name" = some (some (.ref f43)))
    (D43 : DefK K "new_name" "new_name" s_new_name f43)
    (a44 : PySem.W.nsIn K mainGlobals "_law_source" = some (some (.ref f44)))
    (D44 : DefK K "_law_source" "_law_source" s__law_source f44)
    (a45 : PySem.W.nsIn K mainGlobals "_law_draw" = some (some (.ref f45)))
    (D45 : DefK K "_law_draw" "_law_draw" s__law_draw f45)
    (a46 : PySem.W.nsIn K mainGlobals "_law_ring" = some (some (.ref f46)))
    (D46 : DefK K "_law_ring" "_law_ring" s__law_ring f46)
    (a47 : PySem.W.nsIn K mainGlobals "_law_up" = some (some (.ref f47)))
    (D47 : DefK K "_law_up" "_law_up" s__law_up f47)
    (a48 : PySem.W.nsIn K mainGlobals "law" = some (some (.ref f48)))
    (D48 : DefK K "law" "law" s_law f48)
    (b_int : PySem.W.nsIn K mainGlobals "int" = some none)
    (b_len : PySem.W.nsIn K mainGlobals "len" = some none)
    (b_range : PySem.W.nsIn K mainGlobals "range" = some none)
    (b_sorted : PySem.W.nsIn K mainGlobals "sorted" = some none)
    (b_tuple : PySem.W.nsIn K mainGlobals "tuple" = some none)
    (b_list : PySem.W.nsIn K mainGlobals "list" = some none)
    (b_str : PySem.W.nsIn K mainGlobals "str" = some none)
    (b_set : PySem.W.nsIn K mainGlobals "set" = some none)
    (b_min : PySem.W.nsIn K mainGlobals "min" = some none)
    (b_isinstance : PySem.W.nsIn K mainGlobals "isinstance" = some none)
    (b_enumerate : PySem.W.nsIn K mainGlobals "enumerate" = some none)
    (b_bool : PySem.W.nsIn K mainGlobals "bool" = some none)
    (b_ValueError : PySem.W.nsIn K mainGlobals "ValueError" = some none)
    (c_LONGEST_NAME : PySem.W.nsIn K mainGlobals "LONGEST_NAME" = some (some (.int 8 t_LONGEST_NAME)))
    (c_LONGEST_ROW : PySem.W.nsIn K mainGlobals "LONGEST_ROW" = some (some (.int 5000 t_LONGEST_ROW)))
    (c_HIGHEST_PRICE : PySem.W.nsIn K mainGlobals "HIGHEST_PRICE" = some (some (.int 99 t_HIGHEST_PRICE)))
    (c_ARROW_PARTS : PySem.W.nsIn K mainGlobals "ARROW_PARTS" = some (some (.int 4 t_ARROW_PARTS)))
    (c_MOST_ARROWS : PySem.W.nsIn K mainGlobals "MOST_ARROWS" = some (some (.int 400 t_MOST_ARROWS)))
    (c_MOST_STATES : PySem.W.nsIn K mainGlobals "MOST_STATES" = some (some (.int 40 t_MOST_STATES)))
    (c_SIGNS : PySem.W.nsIn K mainGlobals "SIGNS" = some (some (.str "abcdefghijklmnopqrstuvwxyz" t_SIGNS))) :
    ∃ fd : FuncData, (∀ (s : Shared) (v : Value), BindsTo s fd ⟨[v], []⟩ [("_law_script", v)]) ∧ ∀ base : Heap, K.In base → base.Ns mainGlobals mg → FnOk l.prog w K mg base CX0 9 fa fd ["_law_script"] (spLaw K) := by
  have e := hfa.symm.trans (PySem.W.mg_of X G a48)
  cases e
  have T : Facts K mg ⟨C_Machine⟩ := {
    g_Machine := PySem.W.mg_of X G gC_Machine
    cl_Machine := sC_Machine
    n_Machine_held_arrows := nC_Machine_held_arrows
    n_Machine_held_starts := nC_Machine_held_starts
    n_Machine_held_ends := nC_Machine_held_ends
    n_Machine_held_states := nC_Machine_held_states
    n_Machine_held_letters := nC_Machine_held_letters
    i_Machine := D1.init_ m1 (fun _ _ _ _ _ _ us hl => match us, hl with | [_, _, _, _], _ => rfl)
    p_Machine_arrows := D3.prop_ m3 (fun _ _ _ _ _ _ us hl => match us, hl with | [_], _ => rfl)
    p_Machine_starts := D4.prop_ m4 (fun _ _ _ _ _ _ us hl => match us, hl with | [_], _ => rfl)
    p_Machine_ends := D5.prop_ m5 (fun _ _ _ _ _ _ us hl => match us, hl with | [_], _ => rfl)
    p_Machine_states := D6.prop_ m6 (fun _ _ _ _ _ _ us hl => match us, hl with | [_], _ => rfl)
    p_Machine_letters := D7.prop_ m7 (fun _ _ _ _ _ _ us hl => match us, hl with | [_], _ => rfl)
    d__wall := D10.at_ (PySem.W.mg_of X G a10) (fun _ _ _ _ _ _ us hl => match us, hl with | [_], _ => rfl)
    d_is_integer := D11.at_ (PySem.W.mg_of X G a11) (fun _ _ _ _ _ _ us hl => match us, hl with | [_], _ => rfl)
    d_has_only_letters := D12.at_ (PySem.W.mg_of X G a12) (fun _ _ _ _ _ _ us hl => match us, hl with | [_], _ => rfl)
    d_is_name := D13.at_ (PySem.W.mg_of X G a13) (fun _ _ _ _ _ _ us hl => match us, hl with | [_], _ => rfl)
    d_is_letter := D14.at_ (PySem.W.mg_of X G a14) (fun _ _ _ _ _ _ us hl => match us, hl with | [_], _ => rfl)
    d_is_price := D15.at_ (PySem.W.mg_of X G a15) (fun _ _ _ _ _ _ us hl => match us, hl with | [_], _ => rfl)
    d_is_row := D16.at_ (PySem.W.mg_of X G a16) (fun _ _ _ _ _ _ us hl => match us, hl with | [_], _ => rfl)
    d_is_list := D17.at_ (PySem.W.mg_of X G a17) (fun _ _ _ _ _ _ us hl => match us, hl with | [_], _ => rfl)
    d_is_arrow := D18.at_ (PySem.W.mg_of X G a18) (fun _ _ _ _ _ _ us hl => match us, hl with | [_], _ => rfl)
    d_check_row := D19.at_ (PySem.W.mg_of X G a19) (fun _ _ _ _ _ _ us hl => match us, hl with | [_], _ => rfl)
    d_check_arrows := D20.at_ (PySem.W.mg_of X G a20) (fun _ _ _ _ _ _ us hl => match us, hl with | [_], _ => rfl)
    d_check_names := D21.at_ (PySem.W.mg_of X G a21) (fun _ _ _ _ _ _ us hl => match us, hl with | [_], _ => rfl)
    d_cheapest := D22.at_ (PySem.W.mg_of X G a22) (fun _ _ _ _ _ _ us hl => match us, hl with | [_], _ => rfl)
    d_each_once := D23.at_ (PySem.W.mg_of X G a23) (fun _ _ _ _ _ _ us hl => match us, hl with | [_], _ => rfl)
    d_all_states := D24.at_ (PySem.W.mg_of X G a24) (fun _ _ _ _ _ _ us hl => match us, hl with | [_, _, _], _ => rfl)
    d_price := D25.at_ (PySem.W.mg_of X G a25) (fun _ _ _ _ _ _ us hl => match us, hl with | [_, _], _ => rfl)
    d_least := D26.at_ (PySem.W.mg_of X G a26) (fun _ _ _ _ _ _ us hl => match us, hl with | [_, _], _ => rfl)
    d_follow := D27.at_ (PySem.W.mg_of X G a27) (fun _ _ _ _ _ _ us hl => match us, hl with | [_, _, _], _ => rfl)
    d_moves_by_letter := D28.at_ (PySem.W.mg_of X G a28) (fun _ _ _ _ _ _ us hl => match us, hl with | [_], _ => rfl)
    d_advance := D29.at_ (PySem.W.mg_of X G a29) (fun _ _ _ _ _ _ us hl => match us, hl with | [_, _], _ => rfl)
    d_either := D30.at_ (PySem.W.mg_of X G a30) (fun _ _ _ _ _ _ us hl => match us, hl with | [_, _], _ => rfl)
    d_behind := D31.at_ (PySem.W.mg_of X G a31) (fun _ _ _ _ _ _ us hl => match us, hl with | [_, _], _ => rfl)
    d_within := D32.at_ (PySem.W.mg_of X G a32) (fun _ _ _ _ _ _ us hl => match us, hl with | [_, _], _ => rfl)
    d_summed := D33.at_ (PySem.W.mg_of X G a33) (fun _ _ _ _ _ _ us hl => match us, hl with | [_, _], _ => rfl)
    d_turned := D34.at_ (PySem.W.mg_of X G a34) (fun _ _ _ _ _ _ us hl => match us, hl with | [_], _ => rfl)
    d_backward := D35.at_ (PySem.W.mg_of X G a35) (fun _ _ _ _ _ _ us hl => match us, hl with | [_], _ => rfl)
    d_joined := D36.at_ (PySem.W.mg_of X G a36) (fun _ _ _ _ _ _ us hl => match us, hl with | [_, _], _ => rfl)
    d_useful := D37.at_ (PySem.W.mg_of X G a37) (fun _ _ _ _ _ _ us hl => match us, hl with | [_, _, _], _ => rfl)
    d_reached := D38.at_ (PySem.W.mg_of X G a38) (fun _ _ _ _ _ _ us hl => match us, hl with | [_, _], _ => rfl)
    d_renamed := D39.at_ (PySem.W.mg_of X G a39) (fun _ _ _ _ _ _ us hl => match us, hl with | [_, _], _ => rfl)
    d_pair_names := D40.at_ (PySem.W.mg_of X G a40) (fun _ _ _ _ _ _ us hl => match us, hl with | [_, _], _ => rfl)
    d_name_of := D41.at_ (PySem.W.mg_of X G a41) (fun _ _ _ _ _ _ us hl => match us, hl with | [_], _ => rfl)
    d_pieces := D42.at_ (PySem.W.mg_of X G a42) (fun _ _ _ _ _ _ us hl => match us, hl with | [_], _ => rfl)
    d_new_name := D43.at_ (PySem.W.mg_of X G a43) (fun _ _ _ _ _ _ us hl => match us, hl with | [_], _ => rfl)
    d__law_source := D44.at_ (PySem.W.mg_of X G a44) (fun _ _ _ _ _ _ us hl => match us, hl with | [_], _ => rfl)
    d__law_draw := D45.at_ (PySem.W.mg_of X G a45) (fun _ _ _ _ _ _ us hl => match us, hl with | [_, _], _ => rfl)
    d__law_ring := D46.at_ (PySem.W.mg_of X G a46) (fun _ _ _ _ _ _ us hl => match us, hl with | [_, _], _ => rfl)
    d__law_up := D47.at_ (PySem.W.mg_of X G a47) (fun _ _ _ _ _ _ us hl => match us, hl with | [_, _], _ => rfl)
    d_law := D48.at_ (PySem.W.mg_of X G a48) (fun _ _ _ _ _ _ us hl => match us, hl with | [_], _ => rfl)
    b_int := PySem.W.mg_none_of X G b_int
    b_len := PySem.W.mg_none_of X G b_len
    b_range := PySem.W.mg_none_of X G b_range
    b_sorted := PySem.W.mg_none_of X G b_sorted
    b_tuple := PySem.W.mg_none_of X G b_tuple
    b_list := PySem.W.mg_none_of X G b_list
    b_str := PySem.W.mg_none_of X G b_str
    b_set := PySem.W.mg_none_of X G b_set
    b_min := PySem.W.mg_none_of X G b_min
    b_isinstance := PySem.W.mg_none_of X G b_isinstance
    b_enumerate := PySem.W.mg_none_of X G b_enumerate
    b_bool := PySem.W.mg_none_of X G b_bool
    b_ValueError := PySem.W.mg_none_of X G b_ValueError
    c_LONGEST_NAME := ⟨_, PySem.W.mg_of X G c_LONGEST_NAME⟩
    c_LONGEST_ROW := ⟨_, PySem.W.mg_of X G c_LONGEST_ROW⟩
    c_HIGHEST_PRICE := ⟨_, PySem.W.mg_of X G c_HIGHEST_PRICE⟩
    c_ARROW_PARTS := ⟨_, PySem.W.mg_of X G c_ARROW_PARTS⟩
    c_MOST_ARROWS := ⟨_, PySem.W.mg_of X G c_MOST_ARROWS⟩
    c_MOST_STATES := ⟨_, PySem.W.mg_of X G c_MOST_STATES⟩
    c_SIGNS := ⟨_, PySem.W.mg_of X G c_SIGNS⟩ }
  obtain ⟨⟨oc, od, kV, doc, pm, an, cdv, ct, osl, l1, c1⟩, k1⟩ := D48
  exact ⟨PySem.W.fnOf "law" "law" (defArgs s_law) (defBody s_law) (defScope s_law) .none kV doc pm an cdv ct, fun s v => .of_eq rfl, fun base _ _ => fn_law T (fun_mk l1 c1 k1)⟩
theorem walkE {l : PySem.W.OpenLaw} {q : Program} {loose : List PySem.Str} {XP : (PySem.Str → Option Value) → Heap → Prop} {YP : World → Heap → Prop} {d : DefRec} {K : Params → PySem.W.Frag} (hn : l.most = some 63) (hdf : d.params.defaults = [])
    (hY : ∀ (w : World) (h : Heap), YP w h → (K w.params).In h)
    (F : ∀ (w : World) (mg : PySem.Str → Option Value) (fa : Addr) (h : Heap), (K w.params).In h → h.Ns mainGlobals mg → mg d.name = some (.ref fa) →
      ∃ fd : FuncData, (∀ (s : Shared) (u : Value), BindsTo s fd ⟨[u], []⟩ [("_law_script", u)]) ∧ ∀ base : Heap, (K w.params).In base → base.Ns mainGlobals mg → FnOk l.prog w (K w.params) mg base CX0 9 fa fd ["_law_script"] (spLaw (K w.params))) :
    PySem.W.WalkO q loose XP YP l.row.toRowW d [] (fun f vs => PySem.call f vs) :=
  L2.walk_of (n := 63) (k := 9) (x := "_law_script") (CX := fun _ => CX0) (sp := fun w => spLaw (K w.params)) hn (by decide) hdf ⟨rfl, by decide, by decide⟩ hY F (fun _ _ a ns hl _ hS => ⟨a, ns, rfl, hS, fun _ => rfl⟩) fun _ _ _ _ _ z => z
end Pf
open PySem PySem.W PyProof.Rows in
set_option maxRecDepth 100000 in
set_option maxHeartbeats 0 in
theorem PySem.Challenge.cw_enoughpaid_k30_great_machines_made_holds : PySem.Challenge.rw_enoughpaid_k30_great_machines_made.Holds := by
  w_on; o_law; k_head; (case hw => w_witness2)
  k_fill
  refine Pf.walkE (l := PySem.Challenge.rw_enoughpaid_k30_great_machines_made) rfl rfl (fun w h Y => PySem.W.kIn_of Y) ?F
  case F =>
    intro w mg fa h KX G hmg
    refine' Pf.all_mk KX G hmg ?gC_Machine ⟨?pgC_Machine, ?hdC_Machine, ?poC_Machine, ?saC_Machine⟩ ?nC_Machine_held_arrows ?nC_Machine_held_starts ?nC_Machine_held_ends ?nC_Machine_held_states ?nC_Machine_held_letters ⟨?mm1, ?mi1, ?mf1, ?mk1⟩ (Pf.defK_mk ?l1 ?c1 ?k1) (Pf.propOf_mk ?pa3 ?pb3 ?pc3 ?pd3) (Pf.defK_mk ?l3 ?c3 ?k3) (Pf.propOf_mk ?pa4 ?pb4 ?pc4 ?pd4) (Pf.defK_mk ?l4 ?c4 ?k4) (Pf.propOf_mk ?pa5 ?pb5 ?pc5 ?pd5) (Pf.defK_mk ?l5 ?c5 ?k5) (Pf.propOf_mk ?pa6 ?pb6 ?pc6 ?pd6) (Pf.defK_mk ?l6 ?c6 ?k6) (Pf.propOf_mk ?pa7 ?pb7 ?pc7 ?pd7) (Pf.defK_mk ?l7 ?c7 ?k7) ?a10 (Pf.defK_mk ?l10 ?c10 ?k10) ?a11 (Pf.defK_mk ?l11 ?c11 ?k11) ?a12 (Pf.defK_mk ?l12 ?c12 ?k12) ?a13 (Pf.defK_mk ?l13 ?c13 ?k13) ?a14 (Pf.defK_mk ?l14 ?c14 ?k14) ?a15 (Pf.defK_mk ?l15 ?c15 ?k15) ?a16 (Pf.defK_mk ?l16 ?c16 ?k16) ?a17 (Pf.defK_mk ?l17 ?c17 ?k17) ?a18 (Pf.defK_mk ?l18 ?c18 ?k18) ?a19 (Pf.defK_mk ?l19 ?c19 ?k19) ?a20 (Pf.defK_mk ?l20 ?c20 ?k20) ?a21 (Pf.defK_mk ?l21 ?c21 ?k21) ?a22 (Pf.defK_mk ?l22 ?c22 ?k22) ?a23 (Pf.defK_mk ?l23 ?c23 ?k23) ?a24 (Pf.defK_mk ?l24 ?c24 ?k24) ?a25 (Pf.defK_mk ?l25 ?c25 ?k25) ?a26 (Pf.defK_mk ?l26 ?c26 ?k26) ?a27 (Pf.defK_mk ?l27 ?c27 ?k27) ?a28 (Pf.defK_mk ?l28 ?c28 ?k28) ?a29 (Pf.defK_mk ?l29 ?c29 ?k29) ?a30 (Pf.defK_mk ?l30 ?c30 ?k30) ?a31 (Pf.defK_mk ?l31 ?c31 ?k31) ?a32 (Pf.defK_mk ?l32 ?c32 ?k32) ?a33 (Pf.defK_mk ?l33 ?c33 ?k33) ?a34 (Pf.defK_mk ?l34 ?c34 ?k34) ?a35 (Pf.defK_mk ?l35 ?c35 ?k35) ?a36 (Pf.defK_mk ?l36 ?c36 ?k36) ?a37 (Pf.defK_mk ?l37 ?c37 ?k37) ?a38 (Pf.defK_mk ?l38 ?c38 ?k38) ?a39 (Pf.defK_mk ?l39 ?c39 ?k39) ?a40 (Pf.defK_mk ?l40 ?c40 ?k40) ?a41 (Pf.defK_mk ?l41 ?c41 ?k41) ?a42 (Pf.defK_mk ?l42 ?c42 ?k42) ?a43 (Pf.defK_mk ?l43 ?c43 ?k43) ?a44 (Pf.defK_mk ?l44 ?c44 ?k44) ?a45 (Pf.defK_mk ?l45 ?c45 ?k45) ?a46 (Pf.defK_mk ?l46 ?c46 ?k46) ?a47 (Pf.defK_mk ?l47 ?c47 ?k47) ?a48 (Pf.defK_mk ?l48 ?c48 ?k48) ?b_int ?b_len ?b_range ?b_sorted ?b_tuple ?b_list ?b_str ?b_set ?b_min ?b_isinstance ?b_enumerate ?b_bool ?b_ValueError ?c_LONGEST_NAME ?c_LONGEST_ROW ?c_HIGHEST_PRICE ?c_ARROW_PARTS ?c_MOST_ARROWS ?c_MOST_STATES ?c_SIGNS
    (case gC_Machine => k_is)
    (case pgC_Machine => k_is)
    (case hdC_Machine => k_is)
    (case poC_Machine => k_is)
    (case saC_Machine => k_is)
    (case nC_Machine_held_arrows => k_is)
    (case nC_Machine_held_starts => k_is)
    (case nC_Machine_held_ends => k_is)
    (case nC_Machine_held_states => k_is)
    (case nC_Machine_held_letters => k_is)
    (case mm1 => k_is)
    (case mi1 => k_is)
    (case mf1 => k_is)
    (case mk1 => k_is)
    (case l1 => k_is)
    (case c1 => k_is)
    (case k1 => k_is)
    (case pa3 => k_is)
    (case pb3 => k_is)
    (case pc3 => k_is)
    (case pd3 => k_is)
    (case l3 => k_is)
    (case c3 => k_is)
    (case k3 => k_is)
    (case pa4 => k_is)
    (case pb4 => k_is)
    (case pc4 => k_is)
    (case pd4 => k_is)
    (case l4 => k_is)
    (case c4 => k_is)
    (case k4 => k_is)
    (case pa5 => k_is)
    (case pb5 => k_is)
    (case pc5 => k_is)
    (case pd5 => k_is)
    (case l5 => k_is)
    (case c5 => k_is)
    (case k5 => k_is)
    (case pa6 => k_is)
    (case pb6 => k_is)
    (case pc6 => k_is)
    (case pd6 => k_is)
    (case l6 => k_is)
    (case c6 => k_is)
    (case k6 => k_is)
    (case pa7 => k_is)
    (case pb7 => k_is)
    (case pc7 => k_is)
    (case pd7 => k_is)
    (case l7 => k_is)
    (case c7 => k_is)
    (case k7 => k_is)
    (case a10 => k_is)
    (case l10 => k_is)
    (case c10 => k_is)
    (case k10 => k_is)
    (case a11 => k_is)
    (case l11 => k_is)
    (case c11 => k_is)
    (case k11 => k_is)
    (case a12 => k_is)
    (case l12 => k_is)
    (case c12 => k_is)
    (case k12 => k_is)
    (case a13 => k_is)
    (case l13 => k_is)
    (case c13 => k_is)
    (case k13 => k_is)
    (case a14 => k_is)
    (case l14 => k_is)
    (case c14 => k_is)
    (case k14 => k_is)
    (case a15 => k_is)
    (case l15 => k_is)
    (case c15 => k_is)
    (case k15 => k_is)
    (case a16 => k_is)
    (case l16 => k_is)
    (case c16 => k_is)
    (case k16 => k_is)
    (case a17 => k_is)
    (case l17 => k_is)
    (case c17 => k_is)
    (case k17 => k_is)
    (case a18 => k_is)
    (case l18 => k_is)
    (case c18 => k_is)
    (case k18 => k_is)
    (case a19 => k_is)
    (case l19 => k_is)
    (case c19 => k_is)
    (case k19 => k_is)
    (case a20 => k_is)
    (case l20 => k_is)
    (case c20 => k_is)
    (case k20 => k_is)
    (case a21 => k_is)
    (case l21 => k_is)
    (case c21 => k_is)
    (case k21 => k_is)
    (case a22 => k_is)
    (case l22 => k_is)
    (case c22 => k_is)
    (case k22 => k_is)
    (case a23 => k_is)
    (case l23 => k_is)
    (case c23 => k_is)
    (case k23 => k_is)
    (case a24 => k_is)
    (case l24 => k_is)
    (case c24 => k_is)
    (case k24 => k_is)
    (case a25 => k_is)
    (case l25 => k_is)
    (case c25 => k_is)
    (case k25 => k_is)
    (case a26 => k_is)
    (case l26 => k_is)
    (case c26 => k_is)
    (case k26 => k_is)
    (case a27 => k_is)
    (case l27 => k_is)
    (case c27 => k_is)
    (case k27 => k_is)
    (case a28 => k_is)
    (case l28 => k_is)
    (case c28 => k_is)
    (case k28 => k_is)
    (case a29 => k_is)
    (case l29 => k_is)
    (case c29 => k_is)
    (case k29 => k_is)
    (case a30 => k_is)
    (case l30 => k_is)
    (case c30 => k_is)
    (case k30 => k_is)
    (case a31 => k_is)
    (case l31 => k_is)
    (case c31 => k_is)
    (case k31 => k_is)
    (case a32 => k_is)
    (case l32 => k_is)
    (case c32 => k_is)
    (case k32 => k_is)
    (case a33 => k_is)
    (case l33 => k_is)
    (case c33 => k_is)
    (case k33 => k_is)
    (case a34 => k_is)
    (case l34 => k_is)
    (case c34 => k_is)
    (case k34 => k_is)
    (case a35 => k_is)
    (case l35 => k_is)
    (case c35 => k_is)
    (case k35 => k_is)
    (case a36 => k_is)
    (case l36 => k_is)
    (case c36 => k_is)
    (case k36 => k_is)
    (case a37 => k_is)
    (case l37 => k_is)
    (case c37 => k_is)
    (case k37 => k_is)
    (case a38 => k_is)
    (case l38 => k_is)
    (case c38 => k_is)
    (case k38 => k_is)
    (case a39 => k_is)
    (case l39 => k_is)
    (case c39 => k_is)
    (case k39 => k_is)
    (case a40 => k_is)
    (case l40 => k_is)
    (case c40 => k_is)
    (case k40 => k_is)
    (case a41 => k_is)
    (case l41 => k_is)
    (case c41 => k_is)
    (case k41 => k_is)
    (case a42 => k_is)
    (case l42 => k_is)
    (case c42 => k_is)
    (case k42 => k_is)
    (case a43 => k_is)
    (case l43 => k_is)
    (case c43 => k_is)
    (case k43 => k_is)
    (case a44 => k_is)
    (case l44 => k_is)
    (case c44 => k_is)
    (case k44 => k_is)
    (case a45 => k_is)
    (case l45 => k_is)
    (case c45 => k_is)
    (case k45 => k_is)
    (case a46 => k_is)
    (case l46 => k_is)
    (case c46 => k_is)
    (case k46 => k_is)
    (case a47 => k_is)
    (case l47 => k_is)
    (case c47 => k_is)
    (case k47 => k_is)
    (case a48 => k_is)
    (case l48 => k_is)
    (case c48 => k_is)
    (case k48 => k_is)
    (case b_int => k_is)
    (case b_len => k_is)
    (case b_range => k_is)
    (case b_sorted => k_is)
    (case b_tuple => k_is)
    (case b_list => k_is)
    (case b_str => k_is)
    (case b_set => k_is)
    (case b_min => k_is)
    (case b_isinstance => k_is)
    (case b_enumerate => k_is)
    (case b_bool => k_is)
    (case b_ValueError => k_is)
    (case c_LONGEST_NAME => k_is)
    (case c_LONGEST_ROW => k_is)
    (case c_HIGHEST_PRICE => k_is)
    (case c_ARROW_PARTS => k_is)
    (case c_MOST_ARROWS => k_is)
    (case c_MOST_STATES => k_is)
    (case c_SIGNS => k_is)


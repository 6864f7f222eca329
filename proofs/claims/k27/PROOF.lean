import PyProof.Rows.All
import Wide.All
import OpenK.AllK
import Wide.FinOn
import HandS.ForMost
import HandS.Star
import HandS.NoneIn
import HandS.Property
import HandS.IsInst
import HandS.StrMore
import HandS.FStr
import HandS.DictComp
import HandS.Conv
import HandS.Evl
import HandS.Walk
import HandS.SortRule
import PyProof.Rows.SortKeyStr
import KE.GoesEnumKw
import HandS.Iter
import HandS.Strs
import HandS.SetFor
import HandS.ExcInit
import HandS.ExcOwn
import HandS.WordsExc
import HandS.TryOnly
import HandS.ExcIs
import HandS.ExcField
import HandS.OwnEq
import HandS.Zip
import KE.DatumOrd
import KE.KRevSl
import HandS.Style
import PyProof.Rows.StrRev
import KE.GoesMore
import PyProof.EnumMake
import HandS.TupAny
import HandS.SetKeys
import HandS.TupLen
import KE.KItemsList
import KE.KStar
import HandS.Flt
import HandS.ClsMeth
import HandS.TupLe
import HandS.TryMany
import HandS.MakeKw
import HandS.MakeKwOnly
import PySem.Challenge.RW_enoughpaid_k27_errors_made
set_option Elab.async false
set_option linter.all false
set_option maxRecDepth 100000
set_option maxHeartbeats 4000000
namespace Bz
open PySem PySem.Spec PyProof.Rows L2
/-! ### a def that keeps its promise, with all that a caller asks -/
structure DefAt (K : PySem.W.Frag) (mg : PySem.Str → Option Value) (x : PySem.Str) (st : Stmt) (ps : List PySem.Str) : Prop where
  ex : ∃ f fd, Fun K x x st f fd ∧ mg x = some (.ref f) ∧ Binds K fd ps []
structure Keeps (P : Program) (w : World) (K : PySem.W.Frag) (mg : PySem.Str → Option Value) (base : Heap) (CX : CXT) (k : Nat) (x : PySem.Str) (ps : List PySem.Str) (sp : Sp) : Prop where
  ex : ∃ f fd, FnOk P w K mg base CX k f fd ps sp ∧ mg x = some (.ref f) ∧ PySem.W.keepIn K (.ref f) = true ∧ Binds K fd ps []
section
variable {P : Program} {w : World} {K : PySem.W.Frag} {mg : PySem.Str → Option Value} {base : Heap} {CX : CXT} {k : Nat} {x : PySem.Str} {st : Stmt} {ps : List PySem.Str} {sp : Sp}
theorem keeps_of (D : DefAt K mg x st ps) (h : ∀ f fd, Fun K x x st f fd → FnOk P w K mg base CX k f fd ps sp) : Keeps P w K mg base CX k x ps sp := by
  obtain ⟨f, fd, F, m, b⟩ := D.ex
  exact ⟨f, fd, h f fd F, m, F.kp, b⟩
/-- the plain way: no error leaves the def -/
theorem keeps0 {N : List PySem.Str} (D : DefAt K mg x st ps) (S : FnScope N ps (defScope st)) (len : ∀ vs H Q E, sp vs H Q E → vs.length = ps.length)
    (hbody : ∀ (f : Addr) (cdv : Value) (A : Around) (outer : List Env) (s : Shared) (H : Hp) (vs : List V) (Q : VK) (E : XK), Room k (A.deeper (envOfC x (defScope st) s.heap.objs.size f cdv)) → sp vs H Q E →
      ∃ t, PSs (cxOf CX0 P w K mg base N x (defScope st) f cdv A outer s H E).nox (defBody st) t ∧ t { nx := fun _ H' => Q .non H', rt := Q } (start N vs) H) : Keeps P w K mg base CX0 (k + 1) x ps sp :=
  keeps_of D fun f fd F => F.ok S len (hbody f)
end
section
variable {X : Cx} {k : Nat} {x : PySem.Str} {ps : List PySem.Str} {sp : Sp} {e : Expr} {es : List Expr} {p pos : Pos} {t : TA}
theorem pe_own {j : Nat} (F : Keeps X.prog X.w X.K X.mg X.base CX0 k x ps sp) (hr : Room j X.A) (ha : PA X (e :: es) t) (hj : k ≤ j := by decide) (hg : Gl X x := by rfl)
    (hdb : (x == ("__debug__" : PySem.Str)) = false := by decide) (he : starEach (e :: es) X.env = (false, eval e X.env) :: starEach es X.env := by rfl) (hpl : (backTo pos (starEach es X.env)).any (·.1) = false := by rfl) :
    PE X (.Call (.Name x p) (e :: es) [] pos) (tCall sp [] E0 t) := by
  obtain ⟨f, fd, G, m, kp, b⟩ := F.ex
  exact pe_call G (hr.mono hj) hg m kp b .nil pass0 ha hdb he hpl
end
/-! ### the rules that speak of the written part, with it told -/
section
variable (K : PySem.W.Frag) {X : Cx}
theorem kix_list (h : X.K = K := by rfl) : IxR X (rIxL K) := by subst h; exact ix_list
theorem keqD (hu : X.A.units + 64 < cLine) (h : X.K = K := by rfl) : OpR X (compareOp .Eq) (rEqD K) := by subst h; exact op_eqD hu
theorem kneD (hu : X.A.units + 64 < cLine) (h : X.K = K := by rfl) : OpR X (compareOp .NotEq) (rNeD K) := by subst h; exact op_neD hu
def rLenK : List V → Hp → VK → Prop := fun xs H Q => ∃ x n, xs = [x] ∧ LenV K x H n ∧ Q (.int n) H
theorem kcall_len (h : X.K = K := by rfl) : CallR X (.builtin "len") (rLenK K) := by subst h; exact call_len
theorem kpi_list {tg l : Expr} {tl : TE} (hl : PE X l tl) (h : X.K = K := by rfl) : PI X tg l (iList K tl) := by subst h; exact pi_list hl
theorem kpg_tup {pos : Pos} {es : List Expr} {k : Nat} {t : TGs} {n : Nat} (hc : X.calm = true) (hp : PGs X es t)
    (hn : (assignEach es X.env).length = n := by rfl) (hst : (assignEach es X.env).findIdx? (·.1) = none := by rfl) (h : X.K = K := by rfl) : PG X (.Tuple es k pos) (gTup K n t) := by
  subst h
  exact pg_tup hc hp hn hst
end
/-! ### heaps -/
/-- only p may differ -/
def But (p : Addr) (H H' : Hp) : Prop := ∀ b, b ≠ p → H' b = H b
theorem But.refl (p : Addr) (H : Hp) : But p H H := fun _ _ => rfl
theorem But.trans {p : Addr} {H H1 H2 : Hp} (a : But p H H1) (b : But p H1 H2) : But p H H2 := fun x n => (b x n).trans (a x n)
theorem But.upd {p : Addr} {H : Hp} {o : HO} : But p H (upd H p o) := fun b h => upd_ne h
/-- what stood apart from p stands: new objects may have come -/
def Ext (p : Addr) (H H' : Hp) : Prop := ∀ b o, b ≠ p → H b = some o → H' b = some o
theorem Ext.refl (p : Addr) (H : Hp) : Ext p H H := fun _ _ _ h => h
theorem Ext.trans {p : Addr} {H H1 H2 : Hp} (a : Ext p H H1) (b : Ext p H1 H2) : Ext p H H2 := fun x o n h => b x o n (a x o n h)
theorem But.ext {p : Addr} {H H' : Hp} (h : But p H H') : Ext p H H' := fun b o n e => (h b n).trans e
theorem Ext.new {p q : Addr} {H : Hp} {o : HO} (h : H q = none) : Ext p H (L2.upd H q o) := fun b u _ e => by
  rw [upd_ne (ne_of_none e h)]
  exact e
theorem Ext.sq {p : Addr} {K : PySem.W.Frag} {H H' : Hp} (e : Ext p H H') {a : Addr} {xs : List V} (n : a ≠ p) (h : SqL K H a xs) : SqL K H' a xs := by
  rcases h with (h | ⟨o, h⟩) | h
  · exact .inl (.inl (e _ _ n h))
  · exact .inl (.inr ⟨o, e _ _ n h⟩)
  · exact .inr h
theorem Ext.free {p : Addr} {H H' : Hp} (e : Ext p H H') {l : Addr} (n : l ≠ p) (h : H' l = Option.none) : H l = Option.none := by
  cases q : H l with
  | none => rfl
  | some o =>
    rw [e l o n q] at h
    cases h
theorem same_new {H : Hp} {q : Addr} {o : HO} (h : H q = none) : Same H (L2.upd H q o) := fun b u e => by
  rw [upd_ne (ne_of_none e h)]
  exact e
theorem same_mut {H H' : Hp} {q : Addr} {o : HO} (e : Same H H') (h : H q = none) : Same H (L2.upd H' q o) := fun b u eb => by
  rw [upd_ne (ne_of_none eb h)]
  exact e b u eb
theorem Same.ext {p : Addr} {H H' : Hp} (e : Same H H') : Ext p H H' := fun b o _ h => e b o h
theorem map_int {ns : List Int} {i : Nat} {y : V} (hi : (ns.map V.int)[i]? = some y) : ∃ u, y = V.int u ∧ ns[i]? = some u := by
  rw [List.getElem?_map] at hi
  cases e : ns[i]? with
  | none => rw [e] at hi; cases hi
  | some u => rw [e] at hi; exact ⟨u, (Option.some.inj hi).symm, rfl⟩
/-! ### the source of the draws -/
/-- at p the law's source, with at most c draws so far -/
def Src (H : Hp) (p : Addr) (c : Nat) : Prop := ∃ g s k : Int, H p = some (.lst [.int g, .int s, .int k]) ∧ 0 ≤ s ∧ s < 2147483647 ∧ 0 ≤ k ∧ k ≤ (c : Int)
theorem Src.mono {H : Hp} {p : Addr} {c d : Nat} (h : Src H p c) (hc : c ≤ d) : Src H p d := by
  obtain ⟨g, s, k, e, h1, h2, h3, h4⟩ := h
  exact ⟨g, s, k, e, h1, h2, h3, by omega⟩
theorem Src.here {H : Hp} {p : Addr} {c : Nat} (h : Src H p c) : ∃ o, H p = some o := by
  obtain ⟨g, s, k, e, _⟩ := h
  exact ⟨_, e⟩
theorem Src.ne {H : Hp} {p q : Addr} {c : Nat} (h : Src H p c) (n : H q = none) : q ≠ p := fun z => by
  obtain ⟨g, s, k, e, _⟩ := h
  rw [z, e] at n
  cases n
theorem Src.new {H : Hp} {p q : Addr} {c : Nat} {o : HO} (h : Src H p c) (n : q ≠ p) : Src (upd H q o) p c := by
  obtain ⟨g, s, k, e, h1, h2, h3, h4⟩ := h
  exact ⟨g, s, k, by rw [upd_ne n.symm]; exact e, h1, h2, h3, h4⟩
def spSource (K : PySem.W.Frag) : Sp := fun vs H Q _ => ∃ (a : Addr) (ns : List Int), vs = [.ref a] ∧ SqL K H a (ns.map V.int) ∧ ∀ p H', H p = none → Src H' p 0 → Same H H' → Q (.ref p) H'
def spDraw : Sp := fun vs H Q _ => ∃ (p : Addr) (n : Int) (c : Nat), vs = [.ref p, .int n] ∧ Src H p c ∧ c ≤ 1000000 ∧ 0 < n ∧ n < 1073741824 ∧
  ∀ (r : Int) H', 0 ≤ r → r < n → Src H' p (c + 1) → But p H H' → Q (.int r) H'
def spPick (K : PySem.W.Frag) : Sp := fun vs H Q _ => ∃ (p a : Addr) (xs : List V) (c : Nat), vs = [.ref p, .ref a] ∧ Src H p c ∧ c ≤ 1000000 ∧ SqL K H a xs ∧ a ≠ p ∧ xs ≠ [] ∧ xs.length ≤ 1000000 ∧
  ∀ v H', v ∈ xs → Src H' p (c + 1) → But p H H' → Q v H'
theorem draw_pow {m x : Int} (h1 : 0 ≤ x) (h2 : x ≤ 1000001) : CPow (Int.fmod m 2147483629 * 48271 + 16807 * x * x + 11) 3 := by
  have e1 := Int.fmod_nonneg_of_pos m (b := 2147483629) (by decide)
  have e2 := Int.fmod_lt_of_pos m (b := 2147483629) (by decide)
  have e3 : 16807 * x * x ≤ 16807 * 1000001 * 1000001 := Int.mul_le_mul (by omega) h2 h1 (by omega)
  have e4 : 0 ≤ 16807 * x * x := Int.mul_nonneg (by omega) h1
  exact ⟨by omega, by omega, by omega⟩
/-- slots known by name of the goal's parts -/
theorem atI_of {α : Type} {xs : List α} {r : Int} (h0 : 0 ≤ r) (h1 : r < xs.length) : ∃ v, v ∈ xs ∧ atI xs r = some v := by
  have hlt : r.toNat < xs.length := by omega
  have e : r = ((r.toNat : Nat) : Int) := by omega
  have q : ∀ z : Int, z = ((r.toNat : Nat) : Int) → atI xs z = some xs[r.toNat] := fun z hz => by
    rw [hz]
    exact atI_nat (List.getElem?_eq_getElem hlt)
  exact ⟨xs[r.toNat], List.getElem_mem hlt, q r e⟩
/-! ### tuples that are known to have no attributes of their own -/
def IsFz (u : HO) (xs : List V) : Prop := ∃ o : Obj, u = .frz o (.tup xs) ∧ o.dict = none ∧ o.cls = .type "tuple"
def FzT (H : Hp) (a : Addr) (xs : List V) : Prop := ∃ u, H a = some u ∧ IsFz u xs
theorem FzT.on {H H' : Hp} {a : Addr} {xs : List V} (h : FzT H a xs) (s : Same H H') : FzT H' a xs := by
  obtain ⟨u, e, q⟩ := h
  exact ⟨u, s _ _ e, q⟩
theorem IsFz.nlst {u : HO} {xs : List V} (h : IsFz u xs) : ∀ ys, u ≠ .lst ys := by
  obtain ⟨o, rfl, _⟩ := h
  intro ys z
  cases z
end Bz
namespace Bz
open PySem PySem.Spec PyProof.Rows L2
/-! ### how the heap goes on while draws are made -/
structure Go (p : Addr) (c : Nat) (H0 H : Hp) : Prop where
  src : Src H p c
  ext : Ext p H0 H
  old : ∃ o, H0 p = some o
section
variable {p q : Addr} {c d : Nat} {H0 H H1 H2 : Hp} {o : HO} {K : PySem.W.Frag}
theorem Go.start (h : Src H p c) : Go p c H H := ⟨h, .refl p H, h.here⟩
theorem Go.mono (g : Go p c H0 H) (h : c ≤ d) : Go p d H0 H := ⟨g.src.mono h, g.ext, g.old⟩
theorem Go.trans (a : Go p c H0 H1) (b : Go p d H1 H2) : Go p d H0 H2 := ⟨b.src, a.ext.trans b.ext, a.old⟩
theorem Go.ne (g : Go p c H0 H) (n : H q = none) : q ≠ p := g.src.ne n
theorem Go.new (g : Go p c H0 H) (n : H q = none) : Go p c H0 (upd H q o) := ⟨g.src.new (g.ne n), g.ext.trans (Ext.new n), g.old⟩
theorem Go.but (g : Go p c H0 H) (s : Src H1 p d) (b : But p H H1) : Go p d H0 H1 := ⟨s, g.ext.trans b.ext, g.old⟩
theorem Go.same (g : Go p c H0 H) (b : Same H H1) : Go p c H0 H1 := by
  obtain ⟨g', s, k, e, r⟩ := g.src
  exact ⟨⟨g', s, k, b _ _ e, r⟩, g.ext.trans (Same.ext b), g.old⟩
theorem Go.get (g : Go p c H0 H) (n : q ≠ p) (e : H0 q = some o) : H q = some o := g.ext q o n e
theorem Go.free (g : Go p c H0 H) (h : H q = none) : H0 q = none := g.ext.free (g.ne h) h
end
/-- a comprehension's list at D so far: I by the turn, the list and the heap (whatever D holds) -/
def LcP (D : Addr) (I : Nat → List V → Hp → Prop) (i : Nat) (H : Hp) : Prop := ∃ acc, H D = some (.lst acc) ∧ acc.length ≤ i ∧ I i acc H
section
variable {D : Addr} {I : Nat → List V → Hp → Prop} {i : Nat} {H : Hp} {acc : List V} {y : V}
theorem LcP.put (hst : ∀ i acc H o, I i acc H → I i acc (upd H D o)) (h : H D = some (.lst acc)) (hl : acc.length ≤ i) (hi : i < 1000000) (hI : I (i + 1) (acc ++ [y]) H) :
    ∃ acc, H D = some (.lst acc) ∧ acc.length < sizeLine ∧ LcP D I (i + 1) (upd H D (.lst (acc ++ [y]))) :=
  ⟨acc, h, Nat.lt_of_le_of_lt hl (Nat.lt_of_lt_of_le hi (by decide)), acc ++ [y], upd_same, by rw [List.length_append, List.length_singleton]; omega, hst _ _ _ _ hI⟩
end
theorem lcA {J : It} {n : Nat} {G : Hp → Prop} {Y : Nat → Hp → V → Hp → Prop} (w : Walk J n G Y) {g : TG} {tt : TT} {te : TE} {vs : List Nat} {σ : L2.St} {H1 : Hp} {D : Addr} {Qd : Hp → Prop} (I : Nat → List V → Hp → Prop) (h0 : I 0 [] H1)
    (hst : ∀ i acc H o, I i acc H → I i acc (upd H D o)) (hG : ∀ i acc H, i ≤ n → I i acc H → G H)
    (hs : ∀ i x acc H H', i < n → I i acc H → H D = some (.lst acc) → acc.length ≤ i → Y i H x H' → g x (wipe σ vs) H' fun σ2 H2 => wipe σ2 vs = wipe σ vs ∧ tt σ2 H2 fun b H3 =>
      if b = true then te σ2 H3 fun y H4 => ∃ acc, H4 D = some (.lst acc) ∧ acc.length < sizeLine ∧ LcP D I (i + 1) (upd H4 D (.lst (acc ++ [y]))) else LcP D I (i + 1) H3)
    (hd : ∀ acc H, I n acc H → H D = some (.lst acc) → acc.length ≤ n → Qd H) :
    ∃ W : Nat → Nat → Hp → Prop, (∃ m, W 0 m (upd H1 D (.lst []))) ∧ ∀ i m H, W i m H →
      (J.stop i H ∧ Qd H) ∨ (J.go i H ∧ ∃ Nx : Hp → Prop, (∀ H', Nx H' → ∃ m', m' < m ∧ W (i + 1) m' H') ∧ ∀ x H', J.yld i H x H' → g x (wipe σ vs) H' fun σ2 H2 => wipe σ2 vs = wipe σ vs ∧ tt σ2 H2 fun b H3 =>
        if b = true then te σ2 H3 fun y H4 => ∃ acc, H4 D = some (.lst acc) ∧ acc.length < sizeLine ∧ Nx (upd H4 D (.lst (acc ++ [y]))) else Nx H3) :=
  lc_it w (LcP D I) ⟨[], upd_same, Nat.le_refl _, hst _ _ _ _ h0⟩ (fun i H hi ⟨acc, _, _, hI⟩ => hG i acc H hi hI) (fun i x H H' hi ⟨acc, hA, hl, hI⟩ hy => hs i x acc H H' hi hI hA hl hy) (fun H ⟨acc, hA, hl, hI⟩ => hd acc H hI hA hl)
/-! ### names -/
def Sg (c : Nat) : Prop := 97 ≤ c ∧ c ≤ 122
def Nm (s : PySem.Str) : Prop := 1 ≤ s.length ∧ s.length ≤ 8 ∧ ∀ c ∈ TL.tl s, Sg c
theorem len_tl (s : PySem.Str) : s.length = (TL.tl s).length := by
  show s.cps.size = s.cps.toList.length
  rw [Array.length_toList]
theorem nodup_le {α : Type} [DecidableEq α] : ∀ {L ts : List α}, L.Nodup → (∀ s ∈ L, s ∈ ts) → L.length ≤ ts.length
  | [], _, _, _ => Nat.zero_le _
  | a :: L, ts, hn, hs => by
    have ha := hs a (List.mem_cons_self ..)
    obtain ⟨h1, h2⟩ := List.nodup_cons.mp hn
    have ih := nodup_le (ts := ts.erase a) h2 fun s hsL => by
      have ne : s ≠ a := fun e => h1 (e ▸ hsL)
      exact (List.mem_erase_of_ne ne).mpr (hs s (List.mem_cons_of_mem _ hsL))
    rw [List.length_erase_of_mem ha] at ih
    have := List.length_pos_of_mem ha
    rw [List.length_cons]
    omega
/-! ### promises of the drawing helpers -/
/-! ### arrows -/
structure Arw where
  s : PySem.Str
  l : PySem.Str
  t : PySem.Str
  c : Int
  deriving DecidableEq
abbrev Arw.vals (x : Arw) : List V := [.str x.s, .str x.l, .str x.t, .int x.c]
/-- a list of arrows, tuples all: none of them at p -/
def ArTs (K : PySem.W.Frag) (p : Addr) (H : Hp) (vs : List V) (xs : List Arw) : Prop := Paired (fun v x => ∃ q, v = V.ref q ∧ q ≠ p ∧ H q = some (.tup x.vals)) vs xs
/-- well made: names, a letter, a price -/
def Lt (s : PySem.Str) : Prop := s.length = 1 ∧ ∀ c ∈ TL.tl s, Sg c
structure Arw.Ok (x : Arw) : Prop where
  s : Nm x.s
  l : Lt x.l
  t : Nm x.t
  c0 : 0 ≤ x.c
  c1 : x.c ≤ 99
end Bz
namespace Bz
open PySem PySem.Spec PyProof.Rows L2
/-! ### sorted, of tuples of texts and ints -/
abbrev Ky := L2.Key
def ltK : Ky → Ky → Bool
  | .inl a, .inl b => decide (a < b)
  | .inr a, .inr b => decide (a.cps.toList < b.cps.toList)
  | .inl _, .inr _ => true
  | .inr _, .inl _ => false
def lexK : List Ky → List Ky → Bool
  | [], [] => false
  | [], _ :: _ => true
  | _ :: _, [] => false
  | a :: as, b :: bs => if a = b then lexK as bs else ltK a b
section
variable {prog : Program} {w : World} {A : Around} {E : Value → Shared → Prop} {s : Shared}
/-- a tuple of such keys -/
def IsKeys (h : Heap) (v : Value) (ks : List Ky) : Prop := ∃ a o us n, v = .ref a ∧ h.get? a = some o ∧ o.cls = .type "tuple" ∧ o.data = .seq us n ∧ Vals (ks.map kV) us.toList
theorem IsKeys.keeps {h h' : Heap} {v : Value} {ks : List Ky} (p : IsKeys h v ks) (k : ∀ b o, h.get? b = some o → o.cls = .type "tuple" → h'.get? b = some o) : IsKeys h' v ks := by
  obtain ⟨a, o, us, n, e, ho, hc, hd, r⟩ := p
  exact ⟨a, o, us, n, e, k _ _ ho hc, hc, hd, r⟩
end
end Bz
namespace Bz
open PySem PySem.Spec PyProof.Rows L2
/-! ### enumerate(xs, start=1), xs a list -/
/-! the same of a tuple -/
end Bz
namespace Bz
open PySem PySem.Spec PyProof.Rows L2
/-! ### texts in order -/
/-! ### a set of texts, its table told as far as a walk over it asks -/
def skey (e : Int × Value) : PySem.Str := strOf e.2
structure StrR (P : Program) (w : World) (h : Heap) (a : Addr) (M : PySem.Str → Prop) (b : Nat) (es : Array (Int × Value)) (ep : Nat) (t : SetTable) : Prop where
  ob : ∃ o, h.get? a = some o ∧ o.ExactSet ∧ o.data = .set es ep t
  el : ElemsOf (strKind P w) es.toList
  nd : (es.toList.map skey).Nodup
  mem : ∀ k, M k ↔ k ∈ es.toList.map skey
  size : es.size ≤ b
  few : b < scanBound
  fits : t.fits es.size = true
  ris : Ris t.place.toList
  led : w.params.followText "set-order" = true ∨ t.led = true
section
variable {P : Program} {w : World} {A : Around} {E : Value → Shared → Prop} {s : Shared} {a : Addr} {M : PySem.Str → Prop} {b : Nat} {es : Array (Int × Value)} {ep : Nat} {t : SetTable}
theorem StrR.at {h h' : Heap} (R : StrR P w h a M b es ep t) (k : ∀ o, h.get? a = some o → h'.get? a = some o) : StrR P w h' a M b es ep t := by
  obtain ⟨o, ho, r⟩ := R.ob
  exact { R with ob := ⟨o, k o ho, r⟩ }
end
end Bz
namespace Bz
open PySem PySem.Spec PyProof.Rows L2
/-- texts, each once, ascending -/
def Asc (ys : List PySem.Str) : Prop := ys.Pairwise fun x y => x.cps.toList < y.cps.toList
/-- at t: a list or a tuple -/
def SqE (K : PySem.W.Frag) (H : Hp) (t : Addr) (xs : List V) : Prop := SqL K H t xs ∨ SqT K H t xs
end Bz
namespace Bz
open PySem PySem.Spec PyProof.Rows L2
/-! ### names, letters, prices, as the program asks for them -/
end Bz
namespace Bz
open PySem PySem.Spec PyProof.Rows L2
/-! ### of arrows alike but for the price the cheapest -/
def Arw.k3 (x : Arw) : List Ky := [.inr x.s, .inr x.l, .inr x.t]
/-- at each v of vs the arrow of xs, a tuple -/
def ArS (H : Hp) (vs : List V) (xs : List Arw) : Prop := Paired (fun v x => ∃ q, v = V.ref q ∧ H q = some (.tup x.vals)) vs xs
theorem ArTs.s {K : PySem.W.Frag} {p : Addr} {H : Hp} {vs : List V} {xs : List Arw} (h : ArTs K p H vs xs) : ArS H vs xs := Paired.mapP h fun v x ⟨q, ev, _, hq⟩ => ⟨q, ev, hq⟩
/-! ### dicts -/
/-! ### dicts -/
theorem valV_mem {κ : Type} [DecidableEq κ] {kvs : List (κ × V)} (h : (kvs.map (·.1)).Nodup) {p : κ × V} (hp : p ∈ kvs) : valV kvs p.1 = some p.2 := by
  unfold valV
  induction kvs with
  | nil => cases hp
  | cons q kvs ih =>
    rw [List.map_cons] at h
    obtain ⟨h1, h2⟩ := List.nodup_cons.mp h
    rcases List.mem_cons.mp hp with rfl | hp
    · rw [List.find?_cons_of_pos (by simp)]
      rfl
    · have ne : ¬ q.1 = p.1 := fun e => h1 (by rw [e]; exact List.mem_map.mpr ⟨p, hp, rfl⟩)
      rw [List.find?_cons_of_neg (by simpa using ne)]
      exact ih h2 hp
/-! ### promises of the machine's helpers -/
end Bz
namespace Bz
open PySem PySem.Spec PyProof.Rows L2
/-! ### own errors: made, raised, caught -/
def spPass : Sp := fun vs H Q _ => ∃ a : Addr, vs = [.ref a] ∧ Q .non H
section
variable {X : Cx}
/-- the end of C() with an __init__ that does nothing: the exception is let go -/
theorem mk_endP {pins : List (Addr × Obj)} {σ : L2.St} {H1 : Hp} {hp hp2 h2 : Heap} {g1 g2 : Array GenState} {d1 d2 : Drawn} {t1 t2 : Nat} {os1 os2 : OsState} {a C : Addr} (I1 : Inv X pins σ H1 ⟨hp, g1, d1, t1, os1⟩)
    (ha : hp.objs.size ≤ a) (k : ∀ b o, hp.get? b = some o → hp2.get? b = some o) (un : Un (frs X.stack) [] (upd H1 a (exo a C none)) (upd H1 a (exo a C none)) hp2 h2) (hok : HOk X.prog X.w (upd H1 a (exo a C none)) h2) (ho : os2 = os1) (hb : AllBare g2) :
    ∃ (t0 : Addr) (G : Heap), Inv X pins σ H1 ⟨G, g2, d2, t2, os2⟩ ∧ (∀ b o, G.get? b = some o → h2.get? b = some o) ∧ G.get? a = none ∧
      h2.get? a = some ({ cls := .ref C, dict := none, data := .fields #[.ref t0, .none, .none, .none, .bool false, .none] } : Obj) ∧ H1 a = none := by
  obtain ⟨t0, hoe⟩ := exo_at hok upd_same
  have hn : H1 a = none := I1.hok.fresh ha
  obtain ⟨G, g1', g2'⟩ := restrict h2 fun b => decide (b ≠ a)
  have gk : ∀ b, b ≠ a → G.get? b = h2.get? b := fun b hb => g1' b (decide_eq_true hb)
  have ge : G.get? a = none := g2' a (by simp)
  have nha : ∀ {b : Addr} {o : Obj}, hp.get? b = some o → b ≠ a := fun {b o} z => Nat.ne_of_lt (Nat.lt_of_lt_of_le (Heap.lt_size z) ha)
  have up : ∀ {b : Addr}, b ≠ a → H1 b = none → upd H1 a (exo a C none) b = none := fun {b} hb n => by rw [upd_ne hb]; exact n
  have U : Un (frs X.stack) [] H1 H1 hp G := {
    keep := fun b o z n hf hx => by
      rw [gk b (nha z)]
      exact un.keep b o (k b o z) (up (nha z) n) hf hx
    slot := fun b o z n hf hx => by
      rw [gk b (nha z)]
      exact un.slot b o (k b o z) (up (nha z) n) hf hx
    free := fun b o z n hx => n
    there := fun b o z hx => by
      rw [gk b (nha z)]
      exact un.there b o (k b o z) hx
    tups := fun b xs z => z
    frzs := fun b o v z => z
    tbls := fun b ps z => ⟨#[], by rw [z]; simp⟩ }
  have hok3 : HOk X.prog X.w H1 G := fun b o z => by
    have hba : b ≠ a := ne_of_none z hn
    have z' : upd H1 a (exo a C none) b = some o := by rw [upd_ne hba]; exact z
    have noa : ∀ {c : Addr}, upd H1 a (exo a C none) c = some (.own b) → c ≠ a := fun {c} hc e => by
      rw [e, upd_same] at hc
      exact exo_own (Option.some.inj hc)
    exact (hok b o z').stay (fun c v hc y => by
        have hca : c ≠ a := by
          rcases hc with hc | hc
          · rw [hc]
            exact hba
          · exact noa hc
        rw [gk c hca]
        exact y)
      (fun c hc => by
        have q := noa hc
        rw [upd_ne q] at hc
        exact hc) (fun c xs hc => by
        have q : c ≠ a := fun e => by
          rw [e, upd_same] at hc
          exact exo_tup (Option.some.inj hc)
        rw [upd_ne q] at hc
        exact hc)
  have J : Inv X pins σ H1 ⟨G, g2, d2, t2, os2⟩ := I1.call' (ch := []) ho U hok3 hb (fun b z => absurd z (by simp))
  refine ⟨t0, G, J, fun b o z => ?_, ge, hoe, hn⟩
  by_cases hba : b = a
  · rw [hba, ge] at z
    cases z
  · exact (gk b hba).symm.trans z
variable {k : Nat} {x : PySem.Str} {p pos : Pos}
theorem pmk_pass {CX : CXT} {C fI : Addr} {fd : FuncData} (T : OexC X.K C) (iC : PySem.W.findIn X.K (.ref C) "__init__" = some (some (.ref fI))) (tI : PySem.W.typeIn X.K (.ref fI) = some (.type "function"))
    (F1 : FnOk X.prog X.w X.K X.mg X.base CX k fI fd ["self"] spPass) (hr : Room (k + 1) X.A) (hb : Binds X.K fd ["self"] []) (hx : Passes CX X (fun _ _ _ => False)) (hg : Gl X x) (hm : X.mg x = some (.ref C))
    (hdb : (x == ("__debug__" : PySem.Str)) = false := by decide) :
    PMk X (.Call (.Name x p) [] [] pos) (fun _ H Q => Q (.ref C) none H) := by
  intro pins s σ H Q I h
  obtain ⟨nm, q, N, bs, bm, sn, sub, ab, col, dd, k0, k1, k2, k3, k5, hC, hbm⟩ := T.cls
  refine wpAny_Call_Name_kw (ld_glob I hg hm ?_ hdb)
  refine PySem.W.callWith_K0 I.kIn T.kC ?_
  show wpAny _ _ (call (.ref C) []) _ _ _
  obtain ⟨hp, g, dr, tk, os⟩ := s
  have hsz : hp.objs.size ≤ hp.objs.size + 1 := Nat.le_succ _
  have hn : H (hp.objs.size + 1) = none := I.hok.fresh hsz
  have kk : ∀ b o, hp.get? b = some o → ((hp.push (PySem.W.kdv_tup [])).push (PySem.HandSPX.excO C hp.objs.size)).get? b = some o := fun b o e => Heap.get?_push_of_some _ (Heap.get?_push_of_some _ e)
  have hget : ((hp.push (PySem.W.kdv_tup [])).push (PySem.HandSPX.excO C hp.objs.size)).get? (hp.objs.size + 1) = some (PySem.HandSPX.excO C hp.objs.size) := by heap_get
  have I2 : Inv X pins σ (upd H (hp.objs.size + 1) (exo (hp.objs.size + 1) C none)) ⟨(hp.push (PySem.W.kdv_tup [])).push (PySem.HandSPX.excO C hp.objs.size), g, dr, tk, os⟩ :=
    I.laid (t' := tk) (a := hp.objs.size + 1) (o := exo (hp.objs.size + 1) C none) (h' := (hp.push (PySem.W.kdv_tup [])).push (PySem.HandSPX.excO C hp.objs.size)) kk hsz (exo_ok hget)
  have r2 : Vals [V.ref (hp.objs.size + 1)] [Value.ref (hp.objs.size + 1)] := .cons rfl .nil
  have hus : ([] : List Value).length ≤ sizeLine := Nat.zero_le _
  have hq : spPass [V.ref (hp.objs.size + 1)] (upd H (hp.objs.size + 1) (exo (hp.objs.size + 1) C none)) (fun v H2 => v = .non ∧ H2 = upd H (hp.objs.size + 1) (exo (hp.objs.size + 1) C none)) (fun _ _ _ => False) := ⟨_, rfl, rfl, rfl⟩
  have hl : ([Value.ref (hp.objs.size + 1)] : List Value).length = (["self"] : List PySem.Str).length := rfl
  have hbb := hb _ [Value.ref (hp.objs.size + 1)] I2.kIn (by rw [List.append_nil]; exact hl)
  rw [List.append_nil] at hbb
  refine wpAny_call (PySem.HandSPX.call_own F.excBase_ValueError (fun Y => PySem.HandSPX.refsVE_contains Y bm hbm) (I.kIn _ _ hC) (PySem.W.looks_findIn I.kIn iC) (fun self => PySem.W.bind_fn I.kIn self tI) hus
    (codeAny_mono (F1.run _ X.stack _ _ ⟨[Value.ref (hp.objs.size + 1)], []⟩ [Value.ref (hp.objs.size + 1)] [V.ref (hp.objs.size + 1)] (fun v H2 => v = .non ∧ H2 = upd H (hp.objs.size + 1) (exo (hp.objs.size + 1) C none)) (fun _ _ _ => False) (hr.make C [] []) (I2.env0.make C [] []) hbb r2 hq) fun r s' hq' => ?_))
  cases r with
  | error er => exact hx pins σ _ _ er s' I2 hq'
  | ok fl =>
    cases fl with
    | ret u =>
      obtain ⟨v, H2, os2, bare2, un2, hok2, rv, ev, eH⟩ := hq'
      subst ev
      subst eH
      obtain ⟨h2, g2, d2, t2, os'⟩ := s'
      obtain ⟨t0, G, J, kG, ge, hoe, na⟩ := mk_endP (d2 := d2) (t2 := t2) I hsz kk un2 hok2 os2 bare2
      exact ⟨rv, ⟨_, _, _, ⟨G, g2, d2, t2, os'⟩, _, .ref C, none, rfl, J, kG, ge, hoe, ⟨rfl, rfl⟩, rfl, rfl, na, rfl, bare2, raises_own T.exC T.tyC, h⟩⟩
    | next => exact False.elim hq'
    | brk => exact False.elim hq'
    | cont => exact False.elim hq'
end
/-- an error class over the package's own base, whose __init__ does nothing -/
structure Err0 (K : PySem.W.Frag) (mg : PySem.Str → Option Value) (x qual : PySem.Str) (C : Addr) (st : Stmt) : Prop where
  g : mg x = some (.ref C)
  o : OexC K C
  hd : PySem.W.hasDictIn K C = true
  ss : PySem.W.subIn K (.ref C) (.ref C) = some true
  ex : ∃ fI fd, PySem.W.findIn K (.ref C) "__init__" = some (some (.ref fI)) ∧ PySem.W.typeIn K (.ref fI) = some (.type "function") ∧ Fun K "__init__" qual st fI fd ∧ Binds K fd ["self"] []
/-- .. whose __init__ keeps its one argument -/
structure Err1 (K : PySem.W.Frag) (mg : PySem.Str → Option Value) (x qual f : PySem.Str) (C : Addr) (st : Stmt) : Prop where
  g : mg x = some (.ref C)
  o : OexC K C
  hd : PySem.W.hasDictIn K C = true
  ss : PySem.W.subIn K (.ref C) (.ref C) = some true
  no : PySem.W.findIn K (.ref C) f = some none
  ga : PySem.W.findIn K (.ref C) "__getattribute__" = some (some (.builtin "BaseException.__getattribute__"))
  gg : PySem.W.findIn K (.ref C) "__getattr__" = some none
  ex : ∃ fI fd, PySem.W.findIn K (.ref C) "__init__" = some (some (.ref fI)) ∧ PySem.W.typeIn K (.ref fI) = some (.type "function") ∧ Fun K "__init__" qual st fI fd ∧ Binds K fd ["self", f] []
theorem Err1.xf {K : PySem.W.Frag} {mg : PySem.Str → Option Value} {x qual f : PySem.Str} {C : Addr} {st : Stmt} (T : Err1 K mg x qual f C st) : XfC K C := ⟨T.ga, T.gg, T.o.exC, T.hd⟩
theorem Err0.exm {K : PySem.W.Frag} {mg : PySem.Str → Option Value} {x qual : PySem.Str} {C : Addr} {st : Stmt} (T : Err0 K mg x qual C st) : PySem.W.exmOne K (.ref C) (.ref C) = some true := PySem.W.exm_ref T.o.exC T.hd T.o.tyC T.ss
theorem Err1.exm {K : PySem.W.Frag} {mg : PySem.Str → Option Value} {x qual f : PySem.Str} {C : Addr} {st : Stmt} (T : Err1 K mg x qual f C st) : PySem.W.exmOne K (.ref C) (.ref C) = some true := PySem.W.exm_ref T.o.exC T.hd T.o.tyC T.ss
theorem pass00 {X : Cx} {E : XK} : Passes CX0 X E := fun _ _ _ _ _ _ _ h => h.elim
section
variable {X : Cx} {x qual f : PySem.Str} {C : Addr} {st : Stmt} {p pos : Pos} {j : Nat}
theorem pmk_e0 {p3 : Pos} (T : Err0 X.K X.mg x qual C st) (S : FnScope ["self"] ["self"] (defScope st)) (hr : Room j X.A) (hg : Gl X x := by rfl) (hb : defBody st = [.Pass p3] := by rfl) (hj : 2 ≤ j := by decide)
    (hdb : (x == ("__debug__" : PySem.Str)) = false := by decide) : PMk X (.Call (.Name x p) [] [] pos) (fun _ H Q => Q (.ref C) none H) := by
  obtain ⟨fI, fd, iC, tI, F, b⟩ := T.ex
  have F1 : FnOk X.prog X.w X.K X.mg X.base CX0 1 fI fd ["self"] spPass := F.ok S (fun vs H Q E ⟨a, h, _⟩ => by rw [h]; rfl) fun cdv A outer s H vs Q E hr h => by
    obtain ⟨a, rfl, q⟩ := h
    refine ⟨_, by rw [hb]; exact pss_one ps_pass, q⟩
  exact pmk_pass T.o iC tI F1 (hr.mono hj) b pass00 hg T.g hdb
/-- self.f = f -/
def spFld (K : PySem.W.Frag) (f : PySem.Str) : Sp := fun vs H Q _ => ∃ (a C : Addr) (v : V), vs = [.ref a, v] ∧ OexC K C ∧ PySem.W.findIn K (.ref C) f = some none ∧ H a = some (exo a C none) ∧
  ∀ dx, H dx = none → dx ≠ a → Q .non (upd (upd H dx (exd dx [(f, v)])) a (exo a C (some dx)))
def tMkE (C : Addr) (f : PySem.Str) (ta : TA) : L2.St → Hp → XK → Prop := fun σ H Q => ta σ H fun vs H1 => ∃ v, vs = [v] ∧ ∀ d, H1 d = none → Q (.ref C) (some d) (upd H1 d (.xd [(f, v)]))
theorem pa_weak {es : List Expr} {t : TA} (h : PA X es t) : PA X es (fun σ H Q' => ∃ Q, t σ H Q ∧ ∀ vs H1, Q vs H1 → Q' vs H1) :=
  ⟨fun pos pins s σ H Q' I ⟨Q, hq, k⟩ => thn (h.run pos pins s σ H Q I hq) fun us s' ⟨vs, H1, I1, r, q⟩ => ⟨vs, H1, I1, r, k _ _ q⟩⟩
theorem pmk_e1 {e : Expr} {ta : TA} {p0 p1 p2 p3 : Pos} (T : Err1 X.K X.mg x qual f C st) (S : FnScope ["self", f] ["self", f] (defScope st)) (hr : Room j X.A) (ha : PA X [e] ta) (hg : Gl X x := by rfl)
    (hb : defBody st = [.Assign [.Attribute (.Name "self" p0) f p1] (.Name f p2) p3] := by rfl) (hj : 2 ≤ j := by decide)
    (f1 : (f == ("__debug__" : PySem.Str)) = false := by decide) (f2 : (f == ("__classdict__" : PySem.Str)) = false := by decide)
    (hdb : (x == ("__debug__" : PySem.Str)) = false := by decide) (he : starEach [e] X.env = (false, eval e X.env) :: starEach [] X.env := by rfl) (hpl : (backTo pos (starEach [] X.env)).any (·.1) = false := by rfl)
    (hsw : ∀ (A : Around) (P : Program) (env : Env), swapsWith (.Name f p2) (some (.Attribute (.Name "self" p0) f p1)) p3.line env = pure false := by intros; rfl) :
    PMk X (.Call (.Name x p) [e] [] pos) (tMkE C f ta) := by
  obtain ⟨fI, fd, iC, tI, F, b⟩ := T.ex
  have F1 : FnOk X.prog X.w X.K X.mg X.base CX0 1 fI fd ["self", f] (spFld X.K f) := F.ok S (fun vs H Q E ⟨a, C, v, h, _⟩ => by rw [h]; rfl) fun cdv A outer s H vs Q E hr h => by
    obtain ⟨a, C, v, rfl, o, n, ea, q⟩ := h
    have h0 : PE (cxOf CX0 X.prog X.w X.K X.mg X.base ["self", f] qual (defScope st) fI cdv A outer s H E).nox (.Name "self" p0) (tVar 0) := pe_var (i := 0) rfl ((S.par "self" (List.Mem.head _)).elim (fun z => .inl z) (fun z => .inr (.inl z)))
    have h1 : PE (cxOf CX0 X.prog X.w X.K X.mg X.base ["self", f] qual (defScope st) fI cdv A outer s H E).nox (.Name f p2) (tVar 1) := pe_var (i := 1) rfl ((S.par f (List.mem_cons_of_mem _ (List.Mem.head _))).elim (fun z => .inl z) (fun z => .inr (.inl z))) f1 f2
    refine ⟨_, by rw [hb]; exact pss_one (ps_ost h0 h1 (hsw A X.prog _)), ?_⟩
    exact ⟨_, rfl, _, rfl, a, C, rfl, o, n, .inl ⟨ea, fun dx n1 n2 => q dx n1 n2⟩⟩
  intro pins s σ H Q I h
  refine pmk_oex (dvs := []) (ds := []) T.o iC tI F1 (hr.mono hj) b .nil pass00 hg T.g (pa_weak ha) hdb he hpl pins s σ H Q I ⟨_, h, fun vs H1 ⟨v, ev, k⟩ => ?_⟩
  subst ev
  refine ⟨by simp, fun a na => ⟨a, C, v, rfl, T.o, T.no, upd_same, fun dx nx ne => ⟨rfl, dx, _, upd_same, (upd_ne ne).trans upd_same, (upd_ne ne).symm.trans nx, ?_⟩⟩⟩
  have nd : H1 dx = none := (upd_ne ne).symm.trans nx
  have e : upd (del (upd (upd (upd H1 a (exo a C none)) dx (exd dx [(f, v)])) a (exo a C (some dx))) a) dx (.xd [(f, v)]) = upd H1 dx (.xd [(f, v)]) := by
    funext b
    by_cases h1 : b = dx
    · rw [h1, upd_same, upd_same]
    · rw [upd_ne h1, upd_ne h1]
      by_cases h2 : b = a
      · rw [h2, del_same, na]
      · rw [del_ne h2, upd_ne h2, upd_ne h1, upd_ne h2]
  rw [e]
  exact k dx nd
end
end Bz
namespace Bz
open PySem PySem.Spec PyProof.Rows L2
/-! ### own classes: made, their properties read -/
/-- what stands in a machine -/
structure MachV where
  ars : List Arw
  sts : List PySem.Str
  ens : List PySem.Str
  sta : List PySem.Str
  lets : List PySem.Str
end Bz
namespace Bz
open PySem PySem.Spec PyProof.Rows L2
/-! ### min of a list of ints, what stands where there are none told -/
/-- o tells the least of what P says -/
def LeastO (P : Int → Prop) (o : Option Int) : Prop := match o with
  | none => ∀ n, ¬ P n
  | some m => P m ∧ ∀ n, P n → m ≤ n
theorem LeastO.iff {P Q : Int → Prop} (h : ∀ n, P n ↔ Q n) {o : Option Int} (k : LeastO P o) : LeastO Q o := by
  have e : P = Q := funext fun n => propext (h n)
  rw [← e]
  exact k
end Bz
namespace Bz
open PySem PySem.Spec PyProof.Rows L2
/-! ### runs and their sums -/
/-! ### one letter further -/
abbrev Mv := PySem.Str × PySem.Str × Int
abbrev mvV (m : Mv) : List V := [.str m.1, .str m.2.1, .int m.2.2]
/-! ### as the heap has it -/
/-- a list's items, tuples of a state, the state behind it and a price -/
abbrev MvS (H : Hp) (us : List V) (mv : List Mv) : Prop := Paired (fun v m => ∃ q, v = V.ref q ∧ H q = some (.tup (mvV m))) us mv
/-- the dict kvs holds f -/
def Holds1 (kvs : List (Ky × V)) (f : PySem.Str → Option Int) : Prop := ∀ q : PySem.Str, valV kvs (.inr q) = (f q).map V.int
structure MGood (M : MachV) : Prop where
  nd : M.lets.Nodup
  all : ∀ x ∈ M.ars, x.l ∈ M.lets
  al : M.ars.length ≤ 500
  ll : M.lets.length ≤ 500
  sl : M.sts.length ≤ 1000
  el : M.ens.length ≤ 1000
end Bz
namespace Bz
open PySem PySem.Spec PyProof.Rows L2
/-! ### a name given a dict comprehension on one line -/
/-- a letter and where its list stands -/
abbrev pk (p : PySem.Str × Addr) : Ky × V := (.inr p.1, .ref p.2)
structure MvInv (H H' : Hp) (D : Addr) (ps : List (PySem.Str × Addr)) (c : PySem.Str → List Mv) : Prop where
  d : H' D = some (.dK (ps.map pk))
  nd : (ps.map (·.2)).Nodup
  each : ∀ p ∈ ps, H p.2 = none ∧ p.2 ≠ D ∧ ∃ us, H' p.2 = some (.lst us) ∧ MvS H' us (c p.1)
  same : Same H H'
  hD : H D = none
theorem pk_keys (ps : List (PySem.Str × Addr)) : (ps.map pk).map (·.1) = (ps.map (·.1)).map Sum.inr := by
  rw [List.map_map, List.map_map]
  rfl
theorem pk_nodup {ps : List (PySem.Str × Addr)} (h : (ps.map (·.1)).Nodup) : ((ps.map pk).map (·.1)).Nodup := by
  rw [pk_keys]
  exact List.pairwise_map.mpr (h.imp fun n e => n (Sum.inr.inj e))
theorem MvInv.val {H H' : Hp} {D : Addr} {ps : List (PySem.Str × Addr)} {c : PySem.Str → List Mv} (h : MvInv H H' D ps c) (hk : (ps.map (·.1)).Nodup) {l : PySem.Str} (hl : l ∈ ps.map (·.1)) :
    ∃ q us, (l, q) ∈ ps ∧ valV (ps.map pk) (.inr l) = some (.ref q) ∧ H' q = some (.lst us) ∧ MvS H' us (c l) := by
  obtain ⟨p, hp, rfl⟩ := List.mem_map.mp hl
  obtain ⟨_, _, us, e1, e2⟩ := h.each p hp
  exact ⟨p.2, us, hp, valV_mem (pk_nodup hk) (List.mem_map.mpr ⟨p, hp, rfl⟩), e1, e2⟩
end Bz
namespace Bz
open PySem PySem.Spec PyProof.Rows L2
/-! ### a law's own helpers -/
/-- .. none of them at D -/
def SmD (D : Addr) (H : Hp) (us : List V) (ps : List (PySem.Str × Int)) : Prop := Paired (fun v p => ∃ q, v = V.ref q ∧ q ≠ D ∧ H q = some (.tup [.str p.1, .int p.2])) us ps
theorem SmD.keep {D : Addr} {H H' : Hp} {us : List V} {ps : List (PySem.Str × Int)} (h : SmD D H us ps) (s : Same H H') : SmD D H' us ps := Paired.mapP h fun v p ⟨r, e, n, hr⟩ => ⟨r, e, n, s _ _ hr⟩
end Bz
namespace Bz
open PySem PySem.Spec PyProof.Rows L2
def spLaw (K : PySem.W.Frag) : Sp := fun vs H Q _ => ∃ (a : Addr) (ns : List Int), vs = [.ref a] ∧ SqL K H a (ns.map V.int) ∧ ∀ H', Q (.bl true) H'
end Bz
namespace Bz
open PySem PySem.Spec PyProof.Rows L2
/-! ### a text backwards, a list backwards -/
end Bz
namespace Bz
open PySem PySem.Spec PyProof.Rows L2
/-! ### min of a list of tuples of an int and a text -/
abbrev PIS := Int × PySem.Str
def kP (p : PIS) : List Ky := [.inl p.1, .inr p.2]
end Bz
namespace Bz
open PySem PySem.Spec PyProof.Rows L2
/-! ### enumerate(text) -/
end Bz
namespace Bz
open PySem PySem.Spec PyProof.Rows L2
/-! ### prices of what comes behind -/
def MvD (D : Addr) (H : Hp) (us : List V) (ms : List Mv) : Prop := Paired (fun v m => ∃ q, v = V.ref q ∧ q ≠ D ∧ H q = some (.tup (mvV m))) us ms
theorem MvD.keep {D : Addr} {H H' : Hp} {us : List V} {ms : List Mv} (h : MvD D H us ms) (s : Same H H') : MvD D H' us ms := Paired.mapP h fun v p ⟨r, e, n, hr⟩ => ⟨r, e, n, s _ _ hr⟩
end Bz
namespace Bz
open PySem PySem.Spec PyProof.Rows L2
/-! ### the next state of a best run -/
def PsD (D : Addr) (H : Hp) (us : List V) (ps : List PIS) : Prop := Paired (fun v p => ∃ q, v = V.ref q ∧ q ≠ D ∧ H q = some (.tup [.int p.1, .str p.2])) us ps
theorem PsD.keep {D : Addr} {H H' : Hp} {us : List V} {ps : List PIS} (h : PsD D H us ps) (s : Same H H') : PsD D H' us ps := Paired.mapP h fun v p ⟨r, e, n, hr⟩ => ⟨r, e, n, s _ _ hr⟩
theorem PsD.ps {D : Addr} {H : Hp} {us : List V} {ps : List PIS} (h : PsD D H us ps) : Paired (fun v p => ∃ q, v = V.ref q ∧ H q = some (.tup [.int p.1, .str p.2])) us ps := Paired.mapP h fun v p ⟨r, e, _, hr⟩ => ⟨r, e, hr⟩
end Bz
namespace Bz
open PySem PySem.Spec PyProof.Rows L2
/-! ### runs, read from their first letter on -/
def RunS (xs : List Arw) : List PySem.Str → PySem.Str → PySem.Str → Int → Prop
  | [], a, b, n => a = b ∧ n = 0
  | l :: ls, a, b, n => ∃ x ∈ xs, x.s = a ∧ x.l = l ∧ ∃ m, RunS xs ls x.t b m ∧ n = x.c + m
theorem run_sub {xs ys : List Arw} (s : ∀ x ∈ xs, x ∈ ys) : ∀ (ls : List PySem.Str) (a b : PySem.Str) (n : Int), RunS xs ls a b n → RunS ys ls a b n
  | [], _, _, _, h => h
  | l :: ls, a, b, n, h => by
    obtain ⟨x, hx, e1, e2, m, h, e⟩ := h
    exact ⟨x, s x hx, e1, e2, m, run_sub s ls _ _ _ h, e⟩
/-- the price of the letters ls with these arrows, starts and ends -/
def LPr (xs : List Arw) (ss es ls : List PySem.Str) (o : Option Int) : Prop := LeastO (fun n => ∃ s ∈ ss, ∃ e ∈ es, RunS xs ls s e n) o
/-! ### a machine that machines can be made of -/
structure MFine (M : MachV) : Prop extends MGood M where
  ok : ∀ x ∈ M.ars, x.Ok
  l4 : M.ars.length ≤ 400
  nm : ∀ s ∈ M.sta, Nm s
  nl : M.sta.length ≤ 40
  st : ∀ s ∈ M.sts, s ∈ M.sta
  en : ∀ s ∈ M.ens, s ∈ M.sta
  ar : ∀ x ∈ M.ars, x.s ∈ M.sta ∧ x.t ∈ M.sta
/-- arrows, none of them at D -/
def ArD (D : Addr) (H : Hp) (us : List V) (xs : List Arw) : Prop := Paired (fun v x => ∃ q, v = V.ref q ∧ q ≠ D ∧ H q = some (.tup x.vals)) us xs
theorem ArD.keep {D : Addr} {H H' : Hp} {us : List V} {xs : List Arw} (h : ArD D H us xs) (s : Same H H') : ArD D H' us xs := Paired.mapP h fun v p ⟨r, e, n, hr⟩ => ⟨r, e, n, s _ _ hr⟩
theorem ArD.ars {D : Addr} {H : Hp} {us : List V} {xs : List Arw} (h : ArD D H us xs) : ArS H us xs := Paired.mapP h fun v p ⟨r, e, _, hr⟩ => ⟨r, e, hr⟩
/-! ### what a law's and the program's defs promise -/
def SgRow (n : Nat) (r : PySem.Str) : Prop := r.length ≤ n ∧ ∀ c ∈ TL.tl r, Sg c
/-! ### a text some times over -/
/-! ### dict(..) of pairs -/
theorem SgRow.nil : SgRow 0 "" := ⟨by decide +kernel, fun c hc => by
  have z : TL.tl ("" : PySem.Str) = [] := by decide +kernel
  rw [z] at hc
  cases hc⟩
end Bz
namespace Bz
open PySem PySem.Spec PyProof.Rows L2
/-! ### the best run: the first of those with the least sum -/
def Rest (xs : List Arw) (es ls : List PySem.Str) (q : PySem.Str) (o : Option Int) : Prop := LeastO (fun n => ∃ e ∈ es, RunS xs ls q e n) o
def BStep (xs : List Arw) (es ls : List PySem.Str) (l q q' : PySem.Str) : Prop := ∃ x ∈ xs, x.s = q ∧ x.l = l ∧ x.t = q' ∧ ∃ n, Rest xs es ls x.t (some n) ∧ ∀ y ∈ xs, y.s = q → y.l = l → ∀ m, Rest xs es ls y.t (some m) → lexK (kP (y.c + m, y.t)) (kP (x.c + n, x.t)) = false
def BestFrom (xs : List Arw) (es : List PySem.Str) : List PySem.Str → PySem.Str → List PySem.Str → Prop
  | [], _, r => r = []
  | l :: ls, q, r => ∃ q' r', r = q' :: r' ∧ BStep xs es ls l q q' ∧ BestFrom xs es ls q' r'
/-! ### all runs, as a law finds them -/
abbrev RunI := List PySem.Str × Int
end Bz
namespace Bz
open PySem PySem.Spec PyProof.Rows L2
/-! ### as the program finds it -/
/-- r0, the run behind its start s, up to the i-th letter -/
def BPre (xs : List Arw) (es ls : List PySem.Str) (s : PySem.Str) (i : Nat) (r0 : List PySem.Str) : Prop :=
  r0.length = i ∧ (∀ r', BestFrom xs es (ls.drop i) (r0.getLastD s) r' → BestFrom xs es ls s (r0 ++ r')) ∧ ∃ n, Rest xs es (ls.drop i) (r0.getLastD s) (some n)
theorem BPre.done {xs : List Arw} {es ls : List PySem.Str} {s : PySem.Str} {r0 : List PySem.Str} (h : BPre xs es ls s ls.length r0) : BestFrom xs es ls s r0 := by
  have := h.2.1 []
  rw [List.append_nil, List.drop_length] at this
  exact this rfl
end Bz
namespace Bz
open PySem PySem.Spec PyProof.Rows L2
/-! ### runs on the heap: a tuple of states and their sum -/
def RnD (D : Addr) (H : Hp) (us : List V) (ps : List RunI) : Prop := Paired (fun v p => ∃ q t, v = V.ref q ∧ q ≠ D ∧ t ≠ D ∧ H q = some (.tup [.ref t, .int p.2]) ∧ H t = some (.tup (p.1.map V.str))) us ps
theorem RnD.keep {D : Addr} {H H' : Hp} {us : List V} {ps : List RunI} (h : RnD D H us ps) (e : Same H H') : RnD D H' us ps := Paired.mapP h fun v p ⟨q, t, ev, n1, n2, h1, h2⟩ => ⟨q, t, ev, n1, n2, e _ _ h1, e _ _ h2⟩
/-- first texts of runs, at D no more -/
def TsD (D : Addr) (H : Hp) (us : List V) (ps : List RunI) : Prop := Paired (fun v p => ∃ t, v = V.ref t ∧ t ≠ D ∧ H t = some (.tup (p.1.map V.str))) us ps
theorem TsD.keep {D : Addr} {H H' : Hp} {us : List V} {ps : List RunI} (h : TsD D H us ps) (e : Same H H') : TsD D H' us ps := Paired.mapP h fun v p ⟨t, ev, n, h1⟩ => ⟨t, ev, n, e _ _ h1⟩
end Bz
namespace Bz
open PySem PySem.Spec PyProof.Rows L2
/-! ### prices put together -/
/-! a run's sum, letter by letter -/
/-! cut texts -/
/-! the first of the least -/
/-- dicts of what is left, none of them at D -/
def AhD (D : Addr) (H : Hp) (ds : List V) (gs : List (PySem.Str → Option Int)) : Prop := Paired (fun v g => ∃ d kvs, v = V.ref d ∧ d ≠ D ∧ H d = some (.dK kvs) ∧ Holds1 kvs g) ds gs
theorem AhD.keep {D : Addr} {H H' : Hp} {ds : List V} {gs : List (PySem.Str → Option Int)} (h : AhD D H ds gs) (e : Same H H') : AhD D H' ds gs := Paired.mapP h fun v g ⟨d, kvs, ev, n, hd, hg⟩ => ⟨d, kvs, ev, n, e _ _ hd, hg⟩
end Bz
namespace Bz
open PySem PySem.Spec PyProof.Rows L2
open AutoSeq1 (wpAny_loadPart')
/-! ### enumerate(tuple) -/
/-! ### t + u, either of them empty -/
/-! ### a text as a constant -/
/-! ### == by a class's own way -/
theorem pe_cls {X : Cx} {x : PySem.Str} {C : Addr} {pos : Pos} (hg : Gl X x) (hm : X.mg x = some (.ref C)) (hdb : (x == ("__debug__" : PySem.Str)) = false := by decide) : PE X (.Name x pos) (tC (.ref C)) := pe_glob hg hm rfl hdb
end Bz
namespace Bz
open PySem PySem.Spec PyProof.Rows L2
/-! ### other names for states -/
/-! ### two beside each other -/
/-! ### specs -/
end Bz
namespace Bz
open PySem PySem.Spec PyProof.Rows L2
end Bz
namespace Bz
open PySem PySem.Spec PyProof.Rows L2
/-! ### what a law drew, in general -/
end Bz
namespace Bz
open PySem PySem.Spec PyProof.Rows L2
end Bz
namespace Bz
open PySem PySem.Spec PyProof.Rows L2
/-! ### states that arrows lead to -/
theorem nodup_fst {α β : Type} {ps : List (α × β)} (h : (ps.map (·.1)).Nodup) {p r : α × β} (hp : p ∈ ps) (hr : r ∈ ps) (e : p.1 = r.1) : p = r := by
  induction ps with
  | nil => cases hp
  | cons z ps ih =>
    rw [List.map_cons] at h
    obtain ⟨h1, h2⟩ := List.nodup_cons.mp h
    rcases List.mem_cons.mp hp with e1 | hp <;> rcases List.mem_cons.mp hr with e2 | hr
    · rw [e1, e2]
    · exact absurd (List.mem_map.mpr ⟨r, hr, by rw [← e, e1]⟩) h1
    · exact absurd (List.mem_map.mpr ⟨p, hp, by rw [e, e2]⟩) h1
    · exact ih h2 hp hr
theorem nodup_snd {α β : Type} {ps : List (α × β)} (h : (ps.map (·.2)).Nodup) {p r : α × β} (hp : p ∈ ps) (hr : r ∈ ps) (e : p.2 = r.2) : p = r := by
  induction ps with
  | nil => cases hp
  | cons z ps ih =>
    rw [List.map_cons] at h
    obtain ⟨h1, h2⟩ := List.nodup_cons.mp h
    rcases List.mem_cons.mp hp with e1 | hp <;> rcases List.mem_cons.mp hr with e2 | hr
    · rw [e1, e2]
    · exact absurd (List.mem_map.mpr ⟨r, hr, by rw [← e, e1]⟩) h1
    · exact absurd (List.mem_map.mpr ⟨p, hp, by rw [e, e2]⟩) h1
    · exact ih h2 hp hr
/-- the dict of what each state leads to -/
structure NxInv (H H' : Hp) (D : Addr) (ps : List (PySem.Str × Addr)) (c : PySem.Str → List PySem.Str) : Prop where
  d : H' D = some (.dK (ps.map pk))
  nk : (ps.map (·.1)).Nodup
  na : (ps.map (·.2)).Nodup
  each : ∀ p ∈ ps, p.2 ≠ D ∧ H p.2 = none ∧ H' p.2 = some (.lst ((c p.1).map V.str))
  no : ∀ s, s ∉ ps.map (·.1) → c s = []
  same : Same H H'
  hD : H D = none
theorem NxInv.old {H H' : Hp} {D q q0 : Addr} {ps : List (PySem.Str × Addr)} {c : PySem.Str → List PySem.Str} {s t : PySem.Str} (h : NxInv H H' D ps c) (hp : (s, q) ∈ ps) (hq : H' q0 = none) :
    NxInv H (upd (upd H' q0 (.lst [])) q (.lst ((c s).map V.str ++ [.str t]))) D ps fun z => if z = s then c s ++ [t] else c z := by
  obtain ⟨a, b, d⟩ := h.each _ hp
  have a' : q ≠ D := a
  have n0 : ∀ {p : Addr} {o : HO}, H' p = some o → p ≠ q0 := fun e => ne_of_none e hq
  refine ⟨?_, h.nk, h.na, fun p hp' => ?_, fun z hz => ?_, ?_, h.hD⟩
  · rw [upd_ne a'.symm, upd_ne (n0 h.d)]
    exact h.d
  · obtain ⟨a2, b2, d2⟩ := h.each p hp'
    refine ⟨a2, b2, ?_⟩
    by_cases e : p = (s, q)
    · rw [e, if_pos rfl, List.map_append]
      exact upd_same
    · have n1 : p.1 ≠ s := fun e1 => e (nodup_fst h.nk hp' hp e1)
      have n2 : p.2 ≠ q := fun e1 => e (nodup_snd h.na hp' hp e1)
      rw [if_neg n1, upd_ne n2, upd_ne (n0 d2)]
      exact d2
  · have n2 : z ≠ s := fun e => hz (List.mem_map.mpr ⟨(s, q), hp, e.symm⟩)
    rw [if_neg n2]
    exact h.no z hz
  · exact same_mut (h.same.trans (same_new hq)) b
/-- what a search keeps: F found, W still to be looked at -/
structure Sch (xs : List Arw) (ss F W : List PySem.Str) : Prop where
  nd : F.Nodup
  st : ∀ s ∈ ss, s ∈ F
  wf : ∀ s ∈ W, s ∈ F
  cl : ∀ x ∈ xs, x.s ∈ F → x.s ∉ W → x.t ∈ F
  sub : ∀ s ∈ F, s ∈ ss ++ xs.map Arw.t
theorem Sch.len {xs : List Arw} {ss F W : List PySem.Str} (h : Sch xs ss F W) : F.length ≤ ss.length + xs.length := by
  have := nodup_le h.nd h.sub
  rw [List.length_append, List.length_map] at this
  exact this
end Bz
namespace Bz
open PySem PySem.Spec PyProof.Rows L2
/-- the states that are on some run -/
structure Kept (xs : List Arw) (ss es F1 F2 : List PySem.Str) : Prop where
  s1 : ∀ s ∈ ss, s ∈ F1
  c1 : ∀ x ∈ xs, x.s ∈ F1 → x.t ∈ F1
  s2 : ∀ s ∈ es, s ∈ F2
  c2 : ∀ x ∈ xs, x.t ∈ F2 → x.s ∈ F2
  sub : ∀ s ∈ F1, s ∈ ss ++ xs.map Arw.t
def kp (F1 F2 : List PySem.Str) (z : PySem.Str) : Bool := decide (z ∈ F1) && decide (z ∈ F2)
theorem kp_iff {F1 F2 : List PySem.Str} {z : PySem.Str} : kp F1 F2 z = true ↔ z ∈ F1 ∧ z ∈ F2 := by
  unfold kp
  rw [Bool.and_eq_true, decide_eq_true_eq, decide_eq_true_eq]
def kpA (F1 F2 : List PySem.Str) (x : Arw) : Bool := kp F1 F2 x.s && kp F1 F2 x.t
theorem run_kept {xs : List Arw} {ss es F1 F2 : List PySem.Str} (h : Kept xs ss es F1 F2) : ∀ (ls : List PySem.Str) (a b : PySem.Str) (n : Int), a ∈ F1 → b ∈ F2 → RunS xs ls a b n → RunS (xs.filter (kpA F1 F2)) ls a b n ∧ a ∈ F2 ∧ b ∈ F1
  | [], a, b, n, ha, hb, r => ⟨r, by rw [r.1]; exact hb, by rw [← r.1]; exact ha⟩
  | l :: ls, a, b, n, ha, hb, r => by
    obtain ⟨x, hx, e1, e2, m, r, e⟩ := r
    have t1 := h.c1 x hx (by rw [e1]; exact ha)
    obtain ⟨r', t2, b1⟩ := run_kept h ls x.t b m t1 hb r
    have a2 := h.c2 x hx t2
    refine ⟨⟨x, List.mem_filter.mpr ⟨hx, ?_⟩, e1, e2, m, r', e⟩, by rw [← e1]; exact a2, b1⟩
    unfold kpA
    rw [kp_iff.mpr ⟨by rw [e1]; exact ha, a2⟩, kp_iff.mpr ⟨t1, t2⟩]
    rfl
theorem LPr.kept {xs : List Arw} {ss es F1 F2 ls : List PySem.Str} (h : Kept xs ss es F1 F2) {o : Option Int} : LPr (xs.filter (kpA F1 F2)) (ss.filter (kp F1 F2)) (es.filter (kp F1 F2)) ls o ↔ LPr xs ss es ls o := by
  have key : ∀ n, (∃ s ∈ ss.filter (kp F1 F2), ∃ e ∈ es.filter (kp F1 F2), RunS (xs.filter (kpA F1 F2)) ls s e n) ↔ (∃ s ∈ ss, ∃ e ∈ es, RunS xs ls s e n) := fun n => by
    constructor
    · rintro ⟨s, h1, e, h2, r⟩
      exact ⟨s, (List.mem_filter.mp h1).1, e, (List.mem_filter.mp h2).1, run_sub (fun x hx => (List.mem_filter.mp hx).1) _ _ _ _ r⟩
    · rintro ⟨s, h1, e, h2, r⟩
      obtain ⟨r', a, b⟩ := run_kept h _ _ _ _ (h.s1 s h1) (h.s2 e h2) r
      exact ⟨s, List.mem_filter.mpr ⟨h1, kp_iff.mpr ⟨h.s1 s h1, a⟩⟩, e, List.mem_filter.mpr ⟨h2, kp_iff.mpr ⟨b, h.s2 e h2⟩⟩, r'⟩
  exact ⟨LeastO.iff key, LeastO.iff fun n => (key n).symm⟩
end Bz
namespace Bz
open PySem PySem.Spec PyProof.Rows L2
/-! ### two loops in one list -/
/-! ### pairs -/
/-! ### the product -/
/-! ### unpaid -/
end Bz
namespace Bz
open PySem PySem.Spec PyProof.Rows L2
end Bz
namespace Bz
open PySem PySem.Spec PyProof.Rows L2
end Bz
namespace Bz
open PySem PySem.Spec PyProof.Rows L2
end Bz
namespace Bz
open PySem PySem.Spec PyProof.Rows L2
/-! ### one behind the other -/
def ArDD (D E : Addr) (H : Hp) (us : List V) (xs : List Arw) : Prop := Paired (fun v x => ∃ q, v = V.ref q ∧ q ≠ D ∧ q ≠ E ∧ H q = some (.tup x.vals)) us xs
theorem ArDD.keep {D E : Addr} {H H' : Hp} {us : List V} {xs : List Arw} (h : ArDD D E H us xs) (s : Same H H') : ArDD D E H' us xs := Paired.mapP h fun v p ⟨r, e, n, m, hr⟩ => ⟨r, e, n, m, s _ _ hr⟩
end Bz
namespace Bz
open PySem PySem.Spec PyProof.Rows L2
open AutoSeq1 (wpAny_loadPart')
/-! ### xs.extend(tuple) -/
end Bz
namespace Bz
open PySem PySem.Spec PyProof.Rows L2
end Bz
namespace Bz
open PySem PySem.Spec PyProof.Rows L2
end Bz
namespace Bz
open PySem PySem.Spec PyProof.Rows L2
end Bz
namespace Bz
open PySem PySem.Spec PyProof.Rows L2
/-! ### defs that may raise, methods, properties that are worked out, own == and != -/
section
variable {P : Program} {w : World} {K : PySem.W.Frag} {mg : PySem.Str → Option Value} {base : Heap} {k : Nat} {x m qual : PySem.Str} {C : Addr} {st : Stmt} {ps N : List PySem.Str} {sp : Sp}
theorem keepsX (D : DefAt K mg x st ps) (S : FnScope N ps (defScope st)) (len : ∀ vs H Q E, sp vs H Q E → vs.length = ps.length)
    (hbody : ∀ (f : Addr) (cdv : Value) (A : Around) (outer : List Env) (s : Shared) (H : Hp) (vs : List V) (Q : VK) (E : XK), Room k (A.deeper (envOfC x (defScope st) s.heap.objs.size f cdv)) → sp vs H Q E →
      ∃ t, PSs (cxOf (L2.CX P w) P w K mg base N x (defScope st) f cdv A outer s H E) (defBody st) t ∧ t { nx := fun _ H' => Q .non H', rt := Q } (start N vs) H) : Keeps P w K mg base (L2.CX P w) (k + 1) x ps sp :=
  keeps_of D fun f fd F => F.okX S len (hbody f)
end
section
variable {X : Cx} {CX : CXT} {k j : Nat} {x m : PySem.Str} {C : Addr} {ps : List PySem.Str} {sp : Sp} {e o : Expr} {es : List Expr} {p pos apos : Pos} {t : TA} {ta : TE} {W : WX} {E : XK}
/-- .. in a try's body -/
theorem pe_ownS (F : Keeps X.prog X.w X.K X.mg X.base (L2.CX X.prog X.w) k x ps sp) (hr : Room j X.A) (tk : Takes X W) (ha : PA X (e :: es) t) (hj : k ≤ j := by decide) (hg : Gl X x := by rfl)
    (hdb : (x == ("__debug__" : PySem.Str)) = false := by decide) (he : starEach (e :: es) X.env = (false, eval e X.env) :: starEach es X.env := by rfl) (hpl : (backTo pos (starEach es X.env)).any (·.1) = false := by rfl) :
    PE X (.Call (.Name x p) (e :: es) [] pos) (tCallS sp (WE W) t) := by
  obtain ⟨f, fd, G, m, kp, b⟩ := F.ex
  exact pe_callS G (hr.mono hj) hg m kp b (fun σ => passAt tk σ) ha hdb he hpl
end
/-! ### own ==, != with any answer -/
end Bz
namespace Bz
open PySem PySem.Spec PyProof.Rows L2
/-! ### list(zip(*rows)): rows are tuples of one length -/
/-- zip over n tuples: its iterators from B on, then the two tuples that it holds, then itself -/
structure ZSt (h : Heap) (B n : Nat) (ls : List Addr) (i : Nat) (f0 f1 : Value) : Prop where
  z : h.get? (B + n + 2) = some { cls := .type "zip", data := .fields #[f0, f1, .bool false, .ref (B + n), .ref (B + n + 1)] }
  ti : h.get? (B + n) = some { cls := .type "tuple", data := .seq ((List.range n).map fun j => Value.ref (B + j)).toArray }
  to : ∃ olds : List Value, olds.length = n ∧ h.get? (B + n + 1) = some { cls := .type "tuple", data := .seq olds.toArray }
  its : ∀ j l, ls[j]? = some l → h.IsTupleIter (B + j) l i
/-- the rows: tuples below B, of m values each -/
def ZRw (h : Heap) (B m : Nat) (ls : List Addr) (vs : Nat → List Value) : Prop := ∀ j l, ls[j]? = some l → l < B ∧ (vs j).length = m ∧ h.IsTuple l (vs j).toArray
theorem ZRw.keep {h h' : Heap} {B m : Nat} {ls : List Addr} {vs : Nat → List Value} (r : ZRw h B m ls vs) (k : ∀ b o, b < B → h.get? b = some o → h'.get? b = some o) : ZRw h' B m ls vs := fun j l e => by
  obtain ⟨a, b, c⟩ := r j l e
  exact ⟨a, b, c.at fun o q => k l o a q⟩
def zcol (vs : Nat → List Value) (n i : Nat) : List Value := (List.range n).map fun j => (vs j).getD i .none
section
variable {prog : Program} {w : World} {A : Around} {E : Value → Shared → Prop} {s : Shared} {B n m i : Nat} {ls : List Addr} {vs : Nat → List Value}
theorem ane {a b : Nat} (h : a < b ∨ b < a) : a ≠ b := by omega
/-- one turn: Nx h i: the walk stands ahead of turn i -/
def ZWk (h : Heap) (B m : Nat) (ls : List Addr) (vs : Nat → List Value) (S i : Nat) : Prop := ZRw h B m ls vs ∧
  ((i = 0 ∧ ZSt h B ls.length ls 0 .none (.bool false)) ∨ (0 < i ∧ ∃ (a : Addr) (f : Bool) (oa : Obj), ZSt h B ls.length ls i (rawInt a) (.bool f) ∧ h.get? a = some oa ∧ B + ls.length + 2 < a ∧ a ≠ S))
theorem ZWk.keep {h h' : Heap} {S : Nat} (x : ZWk h B m ls vs S i) (k : ∀ b o, b ≠ S → h.get? b = some o → h'.get? b = some o) (hS : B + ls.length + 2 < S) (hr : ∀ l ∈ ls, l ≠ S) : ZWk h' B m ls vs S i := by
  have zk : ∀ {i f0 f1}, ZSt h B ls.length ls i f0 f1 → ZSt h' B ls.length ls i f0 f1 := fun st => by
    obtain ⟨olds, ho, hto⟩ := st.to
    exact ⟨k _ _ (ane (by omega)) st.z, k _ _ (ane (by omega)) st.ti, ⟨olds, ho, k _ _ (ane (by omega)) hto⟩, fun j l e => (st.its j l e).at fun o q => k _ _ (ane (by have := (List.getElem?_eq_some_iff.mp e).1; omega)) q⟩
  refine ⟨fun j l e => ?_, ?_⟩
  · obtain ⟨a, b, c⟩ := x.1 j l e
    exact ⟨a, b, c.at fun o q => k l o (hr l (List.mem_of_getElem? e)) q⟩
  · rcases x.2 with ⟨e, st⟩ | ⟨e, a, f, oa, st, ha, hz, hs⟩
    · exact .inl ⟨e, zk st⟩
    · exact .inr ⟨e, a, f, oa, zk st, k _ _ hs ha, hz, hs⟩
end
structure ZG (vs : Nat → List Value) (n lo : Nat) (h : Heap) (as : List Addr) : Prop where
  rise : as.Pairwise (· < ·)
  above : ∀ a ∈ as, lo < a
  cols : ∀ (j : Nat) (a : Addr), as[j]? = some a → h.get? a = some { cls := .type "tuple", data := .seq (zcol vs n j).toArray }
theorem ZG.there {vs : Nat → List Value} {n lo : Nat} {h : Heap} {as : List Addr} (g : ZG vs n lo h as) {a : Addr} (ha : a ∈ as) : a < h.objs.size := by
  obtain ⟨j, hj⟩ := List.mem_iff_getElem?.mp ha
  exact Heap.lt_size (g.cols j a hj)
/-! ### as a rule -/
end Bz
namespace Bz
open PySem PySem.Spec PyProof.Rows L2
/-! ### for x, y in zip(xs, ys): each a list or a tuple -/
/-- a list (false) or a tuple (true) -/
def SqK (k : Bool) (K : PySem.W.Frag) (H : Hp) (a : Addr) (xs : List V) : Prop := match k with | true => SqT K H a xs | false => SqL K H a xs
def IsS (k : Bool) (h : Heap) (a : Addr) (its : Array Value) : Prop := match k with | true => h.IsTuple a its | false => h.IsList a its
def ItAt (k : Bool) (h : Heap) (it a : Addr) (i : Nat) : Prop := match k with | true => h.IsTupleIter it a i | false => h.IsListIter it a i
theorem SqK.e {k : Bool} {K : PySem.W.Frag} {H : Hp} {a : Addr} {xs : List V} (h : SqK k K H a xs) : SqE K H a xs := by
  cases k
  · exact .inl h
  · exact .inr h
theorem SqK.ins {k : Bool} {X : Cx} {pins : List (Addr × Obj)} {σ : L2.St} {H : Hp} {s : Shared} {a : Addr} {xs : List V} (h : SqK k X.K H a xs) (I : Inv X pins σ H s) : ∃ its : List Value, Vals xs its ∧ IsS k s.heap a its.toArray := by
  cases k
  · obtain ⟨its, r, p, _⟩ := I.list h
    exact ⟨its, r, p.isList⟩
  · obtain ⟨its, r, p, _⟩ := I.tuple h
    exact ⟨its, r, p⟩
theorem SqK.inj {k : Bool} {X : Cx} {pins : List (Addr × Obj)} {σ : L2.St} {H : Hp} {s : Shared} {a : Addr} {xs ys : List V} (I : Inv X pins σ H s) (h : SqK k X.K H a xs) (h' : SqK k X.K H a ys) : xs = ys := by
  cases k
  · exact I.list_inj h h'
  · exact I.tuple_inj h h'
theorem IsS.at {k : Bool} {h h' : Heap} {a : Addr} {its : Array Value} (x : IsS k h a its) (kp : ∀ o, h.get? a = some o → h'.get? a = some o) : IsS k h' a its := by
  cases k
  · exact Heap.IsList.at x kp
  · exact Heap.IsTuple.at x kp
theorem ItAt.at {k : Bool} {h h' : Heap} {it a : Addr} {i : Nat} (x : ItAt k h it a i) (kp : ∀ o, h.get? it = some o → h'.get? it = some o) : ItAt k h' it a i := by
  cases k
  · exact Heap.IsListIter.at x kp
  · exact Heap.IsTupleIter.at x kp
end Bz
namespace Bz
open PySem PySem.Spec PyProof.Rows L2
/-! ### rules: either of two; sorted(list or tuple of texts); len(set); tuples of the top -/
end Bz
namespace Bz
open PySem PySem.Spec PyProof.Rows L2
/-! ### tallies: the mathematics -/
def mkW : List PySem.Str := ["free", "some", "many", "never"]
/-- the least of some ranks -/
def lowN (l : List Nat) : Nat := l.foldr min 3
theorem lowN_le {l : List Nat} {r : Nat} : lowN l ≤ r ↔ 3 ≤ r ∨ ∃ x ∈ l, x ≤ r := by
  induction l with
  | nil => simp [lowN]
  | cons x l ih =>
    show min x (lowN l) ≤ r ↔ _
    have mn : min x (lowN l) ≤ r ↔ x ≤ r ∨ lowN l ≤ r := by omega
    rw [mn, ih]
    simp only [List.mem_cons, exists_eq_or_imp]
    constructor
    · rintro (h | h | h)
      · exact .inr (.inl h)
      · exact .inl h
      · exact .inr (.inr h)
    · rintro (h | h | h)
      · exact .inr (.inl h)
      · exact .inl h
      · exact .inr (.inr h)
abbrev Rk := List (List Nat)
def ent (R : Rk) (i j : Nat) : Nat := (R.getD i []).getD j 3
structure Sq4 (n : Nat) (R : Rk) : Prop where
  len : R.length = n
  row : ∀ r ∈ R, r.length = n ∧ ∀ k ∈ r, k ≤ 3
def mkR (n : Nat) (f : Nat → Nat → Nat) : Rk := (List.range n).map fun i => (List.range n).map fun j => f i j
theorem ent_mk {n i j : Nat} {f : Nat → Nat → Nat} (hi : i < n) (hj : j < n) : ent (mkR n f) i j = f i j := by
  unfold ent mkR
  simp [List.getD_eq_getElem?_getD, hi, hj]
def rowN (n : Nat) (f : Nat → Nat) : List Nat := (List.range n).map f
theorem lowN_row {n r : Nat} {f : Nat → Nat} : lowN (rowN n f) ≤ r ↔ 3 ≤ r ∨ ∃ k, k < n ∧ f k ≤ r := by
  rw [lowN_le]
  unfold rowN
  constructor
  · rintro (h | ⟨x, hx, h⟩)
    · exact .inl h
    · obtain ⟨k, hk, rfl⟩ := List.mem_map.mp hx
      exact .inr ⟨k, List.mem_range.mp hk, h⟩
  · rintro (h | ⟨k, hk, h⟩)
    · exact .inl h
    · exact .inr ⟨_, List.mem_map.mpr ⟨k, List.mem_range.mpr hk, rfl⟩, h⟩
/-- one put behind the other -/
def putE (n : Nat) (A B : Rk) (i j : Nat) : Nat := lowN (rowN n fun k => max (ent A i k) (ent B k j))
def putR (n : Nat) (A B : Rk) : Rk := mkR n (putE n A B)
theorem putE_le {n r i j : Nat} {A B : Rk} : putE n A B i j ≤ r ↔ 3 ≤ r ∨ ∃ k, k < n ∧ ent A i k ≤ r ∧ ent B k j ≤ r := by
  unfold putE
  rw [lowN_row]
  simp only [Nat.max_le]
/-! ### as data -/
/-! ### where a tally stands -/
structure TalV where
  sts : List PySem.Str
  rk : Rk
  deriving DecidableEq
/-- the rows of whole numbers at ws, tuples -/
def RkS (H : Hp) (ws : List V) (R : Rk) : Prop := Paired (fun v r => ∃ q, v = V.ref q ∧ H q = some (.tup (r.map fun n => V.int (n : Nat)))) ws R
def tfs (a b : Addr) : List (PySem.Str × V) := [("held_states", .ref a), ("held_ranks", .ref b)]
structure TalAt (C : Addr) (H : Hp) (t dx a b : Addr) (ws : List V) (T : TalV) : Prop where
  ins : H t = some (.ins C dx (tfs a b))
  st : FzT H a (T.sts.map V.str)
  rk : H b = some (.tup ws)
  rows : RkS H ws T.rk
def IsTal (C : Addr) (H : Hp) (t : Addr) (T : TalV) : Prop := ∃ dx a b ws, TalAt C H t dx a b ws T
end Bz
namespace Bz
open PySem PySem.Spec PyProof.Rows L2
/-! ### values of any kind, as a tally's making is passed them -/
inductive Kn (H : Hp) : V → String → Prop where
  | non : Kn H .non "NoneType"
  | bl (b : Bool) : Kn H (.bl b) "bool"
  | int (i : Int) : Kn H (.int i) "int"
  | str (s : PySem.Str) (h : s.length ≤ 100000) : Kn H (.str s) "str"
  | lst {a : Addr} {xs : List V} (e : H a = some (.lst xs)) : Kn H (.ref a) "list"
  | tup {a : Addr} {xs : List V} (e : H a = some (.tup xs)) : Kn H (.ref a) "tuple"
  | dct {a : Addr} {kvs : List (Ky × V)} (e : H a = some (.dK kvs)) : Kn H (.ref a) "dict"
  | ftp {a : Addr} {xs : List V} (e : FzT H a xs) : Kn H (.ref a) "tuple"
theorem Kn.ty {K : PySem.W.Frag} {H : Hp} {v : V} {t : String} (h : Kn H v t) : TyX K H v (.type t) := by
  cases h with
  | non => exact .base .non
  | bl b => exact .base (.bl b)
  | int i => exact .base (.int i)
  | str s _ => exact .base (.str s)
  | lst e => exact .base (.lst e)
  | tup e => exact .base (.tup e)
  | dct e => exact .base (.dK e)
  | ftp e =>
    obtain ⟨u, e, o, rfl, _⟩ := e
    exact .fTuple e
theorem Kn.mem {H : Hp} {v : V} {t : String} (h : Kn H v t) : t ∈ ["NoneType", "bool", "int", "str", "list", "tuple", "dict", "float", "set", "bytes"] := by
  cases h <;> decide
def markV : V → Bool
  | .str s => decide (s ∈ mkW)
  | _ => false
def rowB (o : Option (List V)) (n : Nat) : Bool := match o with
  | some xs => decide (xs.length = n) && xs.all markV
  | none => false
/-- rows, each a list or a tuple -/
def RkE (K : PySem.W.Frag) (H : Hp) (ws : List V) (R : Rk) : Prop := Paired (fun v r => ∃ q, v = V.ref q ∧ SqE K H q (r.map fun n => V.int (n : Nat))) ws R
theorem RkS.e {K : PySem.W.Frag} {H : Hp} {ws : List V} {R : Rk} (h : RkS H ws R) : RkE K H ws R := Paired.mapP h fun v r ⟨q, a, b⟩ => ⟨q, a, .inr (SqT.of b)⟩
end Bz
namespace Bz
open PySem PySem.Spec PyProof.Rows L2
/-! ### rows, tuples, while a list of them is made at D -/
def RowD {α : Type} (g : α → List V) (D : Addr) (H : Hp) (ws : List V) (R : List α) : Prop := Paired (fun v r => ∃ q, v = V.ref q ∧ q ≠ D ∧ H q = some (.tup (g r))) ws R
section
variable {α : Type} {g : α → List V} {D : Addr} {H H' : Hp} {ws : List V} {R : List α} {o : HO} {q : Addr} {x : α}
theorem RowD.keep (h : RowD g D H ws R) (s : Same H H') : RowD g D H' ws R := Paired.mapP h fun v r ⟨q, e, n, hq⟩ => ⟨q, e, n, s _ _ hq⟩
end
end Bz
namespace Bz
open PySem PySem.Spec PyProof.Rows L2
/-! ### a law's helpers for tallies -/
theorem IsTal.ext {C : Addr} {H H' : Hp} {t p : Addr} {c : Nat} {T : TalV} (h : IsTal C H t T) (s : Src H p c) (e : Ext p H H') : IsTal C H' t T := by
  obtain ⟨g, sd, k, hp, _⟩ := s
  have ne : ∀ {q : Addr} {o : HO}, H q = some o → o ≠ .lst [.int g, .int sd, .int k] → q ≠ p := fun {q o} h1 h2 z => by
    rw [z, hp] at h1
    exact h2 (Option.some.inj h1).symm
  obtain ⟨dx, a, b, ws, hI⟩ := h
  obtain ⟨u, hu, fu⟩ := hI.st
  refine ⟨dx, a, b, ws, e _ _ (ne hI.ins (by intro z; cases z)) hI.ins, ⟨u, e _ _ (ne hu (fu.nlst _)) hu, fu⟩, e _ _ (ne hI.rk (by intro z; cases z)) hI.rk, Paired.mapP hI.rows fun v r ⟨q, ev, hq⟩ => ⟨q, ev, e _ _ (ne hq (by intro z; cases z)) hq⟩⟩
theorem IsTal.go {C : Addr} {H H' : Hp} {t p : Addr} {c d : Nat} {T : TalV} (h : IsTal C H t T) (s : Src H p c) (g : Go p d H H') : IsTal C H' t T := h.ext s g.ext
/-- rows of marks, lists, while a list of them is made at D -/
def RowK (n : Nat) (D p : Addr) (H : Hp) (v : V) : Prop := ∃ (q : Addr) (zs : List V), v = .ref q ∧ q ≠ D ∧ q ≠ p ∧ H q = some (.lst zs) ∧ zs.length = n ∧ ∀ z ∈ zs, markV z = true
def lstAt (H : Hp) (v : V) : Option (List V) := match v with
  | .ref q => match H q with
    | some (.lst zs) => some zs
    | _ => none
  | _ => none
theorem RowK.at {n : Nat} {D p : Addr} {H : Hp} {v : V} (h : RowK n D p H v) : ∃ q zs, v = .ref q ∧ H q = some (.lst zs) ∧ lstAt H v = some zs ∧ zs.length = n ∧ ∀ z ∈ zs, markV z = true := by
  obtain ⟨q, zs, rfl, nd, np, hq, k1, k2⟩ := h
  refine ⟨q, zs, rfl, hq, ?_, k1, k2⟩
  unfold lstAt
  dsimp only
  rw [hq]
/-! ### tallies while a list of them is made at D -/
/-- lists of names, each but P -/
def NmsD (P : Addr) (H : Hp) (us : List V) (os : List (List PySem.Str)) : Prop := Paired (fun v o => ∃ q, v = V.ref q ∧ q ≠ P ∧ H q = some (.lst (o.map V.str))) us os
theorem NmsD.keep {P : Addr} {H H' : Hp} {us : List V} {os : List (List PySem.Str)} (h : NmsD P H us os) (s : Same H H') : NmsD P H' us os := Paired.mapP h fun v r ⟨q, e, n, hq⟩ => ⟨q, e, n, s _ _ hq⟩
end Bz
namespace Bz
open PySem PySem.Spec PyProof.Rows L2
/-! ### names other than one -/
/-! ### settled tallies, and tallies repeated -/
section
variable {n : Nat} {A : Rk} (hs : putR n A A = A)
include hs
theorem set_le {i j r : Nat} (hi : i < n) (hj : j < n) : ent A i j ≤ r ↔ 3 ≤ r ∨ ∃ k, k < n ∧ ent A i k ≤ r ∧ ent A k j ≤ r := by
  have e : ent A i j = ent (putR n A A) i j := by rw [hs]
  rw [e]
  unfold putR
  rw [ent_mk hi hj]
  exact putE_le
end
/-! ### rows, lists, while a list of them is made at D -/
def RowL {α : Type} (g : α → List V) (D : Addr) (H : Hp) (ws : List V) (R : List α) : Prop := Paired (fun v r => ∃ q, v = V.ref q ∧ q ≠ D ∧ H q = some (.lst (g r))) ws R
section
variable {α : Type} {g : α → List V} {D : Addr} {H H' : Hp} {ws : List V} {R : List α} {o : HO} {q : Addr} {x : α}
theorem RowL.keep (h : RowL g D H ws R) (s : Same H H') : RowL g D H' ws R := Paired.mapP h fun v r ⟨q, e, n, hq⟩ => ⟨q, e, n, s _ _ hq⟩
end
end Bz
namespace Bz
open PySem PySem.Spec PyProof.Rows L2
/-! ### what stands in the heap, lists and tuples within one another -/
mutual
inductive Nd (H : Hp) : V → PyData → Prop
  | non : Nd H .non .none
  | bl (b : Bool) : Nd H (.bl b) (.bool b)
  | int (i : Int) : Nd H (.int i) (.int i)
  | str (s : PySem.Str) (h : s.length ≤ 100000) : Nd H (.str s) (.str s)
  | lst {a : Addr} {xs : List V} {ds : List PyData} (e : H a = some (.lst xs)) (l : xs.length ≤ 1000) (h : NdAll H xs ds) : Nd H (.ref a) (.list ds)
  | tup {a : Addr} {xs : List V} {ds : List PyData} (e : H a = some (.tup xs)) (l : xs.length ≤ 1000) (h : NdAll H xs ds) : Nd H (.ref a) (.tuple ds)
  | dct {a : Addr} (e : H a = some (.dK [])) : Nd H (.ref a) (.dict [])
  | ftp {a : Addr} {xs : List V} {ds : List PyData} (e : FzT H a xs) (l : xs.length ≤ 1000) (h : NdAll H xs ds) : Nd H (.ref a) (.tuple ds)
inductive NdAll (H : Hp) : List V → List PyData → Prop
  | nil : NdAll H [] []
  | cons {v : V} {vs : List V} {d : PyData} {ds : List PyData} (a : Nd H v d) (r : NdAll H vs ds) : NdAll H (v :: vs) (d :: ds)
end
section
variable {H H' : Hp}
mutual
theorem Nd.same (s : Same H H') : ∀ (d : PyData) (v : V), Nd H v d → Nd H' v d
  | .none, _, .non => .non
  | .bool _, _, .bl b => .bl b
  | .int _, _, .int i => .int i
  | .str _, _, .str s h => .str s h
  | .list ds, _, .lst (xs := xs) e l h => .lst (s _ _ e) l (NdAll.same s ds xs h)
  | .tuple ds, _, .tup (xs := xs) e l h => .tup (s _ _ e) l (NdAll.same s ds xs h)
  | .dict _, _, .dct e => .dct (s _ _ e)
  | .tuple ds, _, .ftp (xs := xs) e l h => .ftp (e.on s) l (NdAll.same s ds xs h)
theorem NdAll.same (s : Same H H') : ∀ (ds : List PyData) (vs : List V), NdAll H vs ds → NdAll H' vs ds
  | [], _, .nil => .nil
  | d :: ds, _, .cons (v := v) (vs := vs) a r => .cons (Nd.same s d v a) (NdAll.same s ds vs r)
end
theorem Nd.on {d : PyData} {v : V} (h : Nd H v d) (s : Same H H') : Nd H' v d := Nd.same s d v h
theorem NdAll.on {ds : List PyData} {vs : List V} (h : NdAll H vs ds) (s : Same H H') : NdAll H' vs ds := NdAll.same s ds vs h
theorem NdAll.len {ds : List PyData} {vs : List V} (h : NdAll H vs ds) : vs.length = ds.length := by
  induction vs generalizing ds with
  | nil => cases h; rfl
  | cons v vs ih => cases h with | cons a r => simp [ih r]
theorem NdAll.mem {ds : List PyData} {vs : List V} (h : NdAll H vs ds) : ∀ v ∈ vs, ∃ d, Nd H v d := by
  induction vs generalizing ds with
  | nil => intro v hv; cases hv
  | cons v vs ih =>
    cases h with
    | cons a r =>
      intro z hz
      rcases List.mem_cons.mp hz with rfl | hz
      · exact ⟨_, a⟩
      · exact ih r z hz
end
def seqAt (H : Hp) (v : V) : Option (List V) := match v with
  | .ref a => match H a with
    | some (.lst xs) => some xs
    | some (.tup xs) => some xs
    | some (.frz _ (.tup xs)) => some xs
    | _ => none
  | _ => none
theorem FzT.seqAt {H : Hp} {a : Addr} {xs : List V} (h : FzT H a xs) : seqAt H (.ref a) = some xs := by
  obtain ⟨u, e, o, rfl, _⟩ := h
  unfold Bz.seqAt
  simp only [e]
def seqD : PyData → Option (List PyData)
  | .list xs => some xs
  | .tuple xs => some xs
  | _ => none
def markD : PyData → Bool
  | .str s => decide (s ∈ mkW)
  | _ => false
def rowDD (d : PyData) (n : Nat) : Bool := match seqD d with
  | some xs => decide (xs.length = n) && xs.all markD
  | none => false
section
variable {H : Hp}
theorem Nd.seq {v : V} {d : PyData} (h : Nd H v d) : (seqD d = none ∧ seqAt H v = none) ∨ ∃ xs ds, seqD d = some ds ∧ seqAt H v = some xs ∧ NdAll H xs ds ∧ xs.length ≤ 1000 := by
  cases h with
  | non => exact .inl ⟨rfl, rfl⟩
  | bl b => exact .inl ⟨rfl, rfl⟩
  | int i => exact .inl ⟨rfl, rfl⟩
  | str s h => exact .inl ⟨rfl, rfl⟩
  | lst e l h => exact .inr ⟨_, _, rfl, by unfold seqAt; simp only [e], h, l⟩
  | tup e l h => exact .inr ⟨_, _, rfl, by unfold seqAt; simp only [e], h, l⟩
  | dct e => exact .inl ⟨rfl, by unfold seqAt; simp only [e]⟩
  | ftp e l h => exact .inr ⟨_, _, rfl, e.seqAt, h, l⟩
theorem Nd.markV {v : V} {d : PyData} (h : Nd H v d) : markV v = markD d := by cases h <;> rfl
theorem NdAll.all {f : V → Bool} {g : PyData → Bool} (fg : ∀ v d, Nd H v d → f v = g d) : ∀ {vs : List V} {ds : List PyData}, NdAll H vs ds → vs.all f = ds.all g
  | _, _, .nil => rfl
  | _, _, .cons a r => by simp only [List.all_cons, fg _ _ a, NdAll.all fg r]
theorem Nd.row {v : V} {d : PyData} (h : Nd H v d) (n : Nat) : rowB (seqAt H v) n = rowDD d n := by
  unfold rowDD
  rcases h.seq with ⟨a, z⟩ | ⟨ys, ds, a, z, q, l⟩
  · rw [a, z]; rfl
  · rw [a, z]
    show (decide (ys.length = n) && ys.all Bz.markV) = _
    rw [q.len, q.all fun v d h => h.markV]
end
end Bz
namespace Bz
open PySem PySem.Spec PyProof.Rows L2
/-! ### rows and states that may be wrong -/
/-! ### the least mark between some states -/
/-! ### tallies of rows -/
def rankO : Option Int → Nat
  | none => 3
  | some n => if n = 0 then 0 else 1
end Bz
namespace Bz
open PySem PySem.Spec PyProof.Rows L2
/-! ### tallies of rows: the mathematics -/
def RowM (M : MachV) (ls : List PySem.Str) (R : Rk) : Prop := Sq4 M.sta.length R ∧ ∀ i j s u, M.sta[i]? = some s → M.sta[j]? = some u → ∃ o, LPr M.ars [s] [u] ls o ∧ ent R i j = rankO o
/-! ### a law's machine -/
/-! ### what is told of a row that is none -/
end Bz
namespace Bz
open PySem PySem.Spec PyProof.Rows L2
/-! ### a row many times over -/
section
variable {M : MachV} (f : MFine M) {w : List PySem.Str} {R : Rk} (hR : RowM M w R) (hs : putR M.sta.length R R = R)
include f hR hs
/-- a way of n steps of at most r -/
theorem walk_of {r : Nat} (r3 : r < 3) : ∀ (n i j : Nat), i < M.sta.length → j < M.sta.length → ent R i j ≤ r → ∃ g : Nat → Nat, g 0 = i ∧ g (n + 1) = j ∧ (∀ t, t ≤ n + 1 → g t < M.sta.length) ∧ ∀ t, t < n + 1 → ent R (g t) (g (t + 1)) ≤ r
  | 0, i, j, hi, hj, h => by
    refine ⟨fun t => if t = 0 then i else j, rfl, rfl, fun t _ => by dsimp only; split <;> assumption, fun t ht => ?_⟩
    have e : t = 0 := by omega
    subst e
    exact h
  | n + 1, i, j, hi, hj, h => by
    rcases (set_le hs hi hj).mp h with h | ⟨k, hk, h1, h2⟩
    · omega
    · obtain ⟨g, g0, gn, gl, gs⟩ := walk_of r3 n k j hk hj h2
      refine ⟨fun t => if t = 0 then i else g (t - 1), rfl, ?_, fun t ht => ?_, fun t ht => ?_⟩
      · show (if n + 1 + 1 = 0 then i else g (n + 1 + 1 - 1)) = j
        rw [if_neg (by omega)]
        exact gn
      · dsimp only
        split
        · exact hi
        · exact gl _ (by omega)
      · dsimp only
        by_cases e : t = 0
        · subst e
          rw [if_pos rfl, if_neg (by omega)]
          show ent R i (g 0) ≤ r
          rw [g0]
          exact h1
        · rw [if_neg e, if_neg (by omega)]
          have := gs (t - 1) (by omega)
          rw [show t - 1 + 1 = t + 1 - 1 by omega] at this
          exact this
end
/-! ### prices of the row many times over -/
end Bz
namespace Bz
open PySem PySem.Spec PyProof.Rows L2
/-! ### the law over rows many times over -/
/-! ### the law's claim about a pair of states -/
end Bz
namespace Bz
open PySem PySem.Spec PyProof.Rows L2
/-! ### x == y, x of an own class, y anything whose type is known -/
/-- other types are none of the class -/
structure KitN (K : PySem.W.Frag) (C : Addr) : Prop where
  a : PySem.W.isClsIn K C = true
  b : PySem.W.typeIn K (.ref C) = some (.type "type")
  c : PySem.W.subIn K (.type "str") (.ref C) = some false
  d : PySem.W.subIn K (.type "tuple") (.ref C) = some false
  e : PySem.W.subIn K (.type "NoneType") (.ref C) = some false
theorem KitN.of {K : PySem.W.Frag} {C : Addr} (k : KitN K C) {n : String} (h : PySem.W.subIn K (.type n) (.ref C) = some false) : PySem.W.kitOne K (.type n) (.ref C) = some false := by
  unfold PySem.W.kitOne
  rw [if_neg (by simp)]
  unfold PySem.W.kitCls
  have a := k.a
  unfold PySem.W.isClsIn at a
  simp only [a, k.b, Bool.true_and, beq_self_eq_true, if_true, h]
theorem KitN.s {K : PySem.W.Frag} {C : Addr} (k : KitN K C) : PySem.W.kitOne K (.type "str") (.ref C) = some false := k.of k.c
theorem KitN.t {K : PySem.W.Frag} {C : Addr} (k : KitN K C) : PySem.W.kitOne K (.type "tuple") (.ref C) = some false := k.of k.d
theorem KitN.n {K : PySem.W.Frag} {C : Addr} (k : KitN K C) : PySem.W.kitOne K (.type "NoneType") (.ref C) = some false := k.of k.e
/-! ### a list or a tuple taken apart -/
/-! ### arrows told as tuples or as lists -/
def ArO (H : Hp) (q : Addr) (x : Arw) : Prop := H q = some (.tup x.vals) ∨ H q = some (.lst x.vals)
def ArE (H : Hp) (vs : List V) (xs : List Arw) : Prop := Paired (fun v x => ∃ q, v = V.ref q ∧ ArO H q x) vs xs
theorem ArS.e {H : Hp} {vs : List V} {xs : List Arw} (h : ArS H vs xs) : ArE H vs xs := Paired.mapP h fun v x ⟨q, e, hq⟩ => ⟨q, e, .inl hq⟩
/-! ### machines compared -/
/-! ### what is told of a machine -/
/-- all but lists is kept -/
def KeepN (H H' : Hp) : Prop := ∀ b o, H b = some o → (∀ xs, o ≠ .lst xs) → H' b = some o
theorem KeepN.tup {H H' : Hp} {t : Addr} {xs : List V} (k : KeepN H H') (h : H t = some (.tup xs)) : H' t = some (.tup xs) := k _ _ h fun ys e => by cases e
/-! ### lengths of texts put together -/
theorem joinL_le (S : List Nat) : ∀ xs : List (List Nat), (TL.joinL S xs).length ≤ (xs.map (·.length)).sum + xs.length * S.length
  | [] => by simp [TL.joinL]
  | [x] => by simp [TL.joinL]
  | x :: y :: xs => by
    have ih := joinL_le S (y :: xs)
    simp only [TL.joinL, List.length_append, List.map_cons, List.sum_cons, List.length_cons, Nat.succ_mul] at ih ⊢
    omega
theorem join_le (a : PySem.Str) (ys : List PySem.Str) : (Txt.join a ys).length ≤ (ys.map (·.length)).sum + ys.length * a.length := by
  rw [len_tl, TL.join_eq, TL.tl_join]
  refine Nat.le_trans (joinL_le _ _) ?_
  rw [List.map_map, List.length_map, len_tl a]
  exact Nat.le_of_eq rfl
end Bz
namespace Bz
open PySem PySem.Spec PyProof.Rows L2
/-! ### the law of machines told -/
end Bz
namespace Bz
open PySem PySem.Spec PyProof.Rows L2
/-! ### >= of tuples of texts -/
/-! ### cls(e, ..), cls a local that holds the class -/
/-! ### C.m(e, ..), m a classmethod -/
/-! ### enumerate(xs, start=b), xs a list -/
/-! ### the text of a machine -/
def costS (c : Int) : PySem.Str := PySem.Str.ofString (toString c)
def arP (x : Arw) : List PySem.Str := [x.s, x.l, x.t, costS x.c]
def arL (x : Arw) : PySem.Str := Txt.join " " (arP x)
def linesM (ss es : List PySem.Str) (xs : List Arw) : List PySem.Str := Txt.join " " ("start" :: ss) :: Txt.join " " ("end" :: es) :: xs.map arL
def textM (ss es : List PySem.Str) (xs : List Arw) : PySem.Str := Txt.join "\n" (linesM ss es xs)
theorem cost_tab : ∀ i : Fin 100, (costS ((i.val : Nat) : Int)).length ≤ 2 ∧ 1 ≤ (costS ((i.val : Nat) : Int)).length ∧ Txt.isascii (costS ((i.val : Nat) : Int)) = true ∧ Txt.isdigit (costS ((i.val : Nat) : Int)) = true ∧ PySem.intText? (costS ((i.val : Nat) : Int)) = some ((i.val : Nat) : Int) ∧ ((TL.tl (costS ((i.val : Nat) : Int))).all fun c => decide (48 ≤ c) && decide (c ≤ 57)) = true := by decide +kernel
structure CostS (c : Int) : Prop where
  l2 : (costS c).length ≤ 2
  l1 : 1 ≤ (costS c).length
  a : Txt.isascii (costS c) = true
  d : Txt.isdigit (costS c) = true
  i : PySem.intText? (costS c) = some c
  s : ∀ k ∈ TL.tl (costS c), 48 ≤ k ∧ k ≤ 57
theorem cost_ok {c : Int} (h0 : 0 ≤ c) (h1 : c ≤ 99) : CostS c := by
  obtain ⟨n, rfl⟩ : ∃ n : Nat, c = n := ⟨c.toNat, by omega⟩
  obtain ⟨a, b, d, e, f, g⟩ := cost_tab ⟨n, by omega⟩
  refine ⟨a, b, d, e, f, fun k hk => ?_⟩
  have := List.all_eq_true.mp g k hk
  simpa using this
theorem line_len {ws : List PySem.Str} {n : Nat} (h : ∀ p ∈ ws, p.length ≤ n) : (Txt.join " " ws).length ≤ (n + 1) * ws.length := by
  refine Nat.le_trans (join_le _ _) ?_
  have lsp : ((" " : PySem.Str)).length = 1 := by decide +kernel
  have : ∀ {ws : List PySem.Str}, (∀ p ∈ ws, p.length ≤ n) → (ws.map (·.length)).sum ≤ n * ws.length := by
    intro ws
    induction ws with
    | nil => simp
    | cons s ls ih =>
      intro h
      have h1 := ih fun t ht => h t (List.mem_cons_of_mem _ ht)
      have h2 := h s (List.mem_cons_self ..)
      rw [List.map_cons, List.sum_cons, List.length_cons, Nat.mul_succ]
      omega
  have := this h
  rw [lsp, Nat.add_mul]
  omega
/-- what the lines of a text ask -/
structure TxtOk (ss es : List PySem.Str) (xs : List Arw) : Prop where
  ok : ∀ x ∈ xs, x.Ok
  sn : ∀ s ∈ ss, Nm s
  en : ∀ s ∈ es, Nm s
  xl : xs.length ≤ 400
  sl : ss.length ≤ 40
  el : es.length ≤ 40
  sa : Asc ss
  ea : Asc es
  xa : xs.Pairwise fun x y => lexK x.k3 y.k3 = true
theorem arP_len {x : Arw} (h : x.Ok) : ∀ p ∈ arP x, p.length ≤ 8 := by
  intro p hp
  unfold arP at hp
  simp only [List.mem_cons, List.not_mem_nil, or_false] at hp
  rcases hp with rfl | rfl | rfl | rfl
  · exact h.s.2.1
  · have := h.l.1; omega
  · exact h.t.2.1
  · have := (cost_ok h.c0 h.c1).l2; omega
theorem arL_len {x : Arw} (h : x.Ok) : (arL x).length ≤ 36 := line_len (n := 8) (arP_len h)
theorem TxtOk.lines_len {ss es : List PySem.Str} {xs : List Arw} (h : TxtOk ss es xs) : ∀ p ∈ linesM ss es xs, p.length ≤ 369 := by
  have l5 : ("start" : PySem.Str).length = 5 := by decide +kernel
  have l3 : ("end" : PySem.Str).length = 3 := by decide +kernel
  intro p hp
  unfold linesM at hp
  simp only [List.mem_cons, List.mem_map] at hp
  have sl := h.sl
  have el := h.el
  rcases hp with rfl | rfl | ⟨x, hx, rfl⟩
  · refine Nat.le_trans (line_len (n := 8) fun q hq => (List.mem_cons.mp hq).elim (fun e => by rw [e, l5]; omega) fun hq => (h.sn q hq).2.1) ?_
    rw [List.length_cons]; omega
  · refine Nat.le_trans (line_len (n := 8) fun q hq => (List.mem_cons.mp hq).elim (fun e => by rw [e, l3]; omega) fun hq => (h.en q hq).2.1) ?_
    rw [List.length_cons]; omega
  · have := arL_len (h.ok x hx); omega
theorem sum_le {ws : List PySem.Str} {n : Nat} (h : ∀ p ∈ ws, p.length ≤ n) : (ws.map (·.length)).sum ≤ n * ws.length := by
  induction ws with
  | nil => simp
  | cons s ls ih =>
    have h1 := ih fun t ht => h t (List.mem_cons_of_mem _ ht)
    have h2 := h s (List.mem_cons_self ..)
    rw [List.map_cons, List.sum_cons, List.length_cons, Nat.mul_succ]
    omega
theorem linesM_len (ss es : List PySem.Str) (xs : List Arw) : (linesM ss es xs).length = xs.length + 2 := by unfold linesM; simp
theorem TxtOk.fit {ss es : List PySem.Str} {xs : List Arw} (h : TxtOk ss es xs) : ((linesM ss es xs).map (·.length)).sum + (linesM ss es xs).length * ("\n" : PySem.Str).length ≤ 200000 := by
  have l1 : ("\n" : PySem.Str).length = 1 := by decide +kernel
  have := sum_le h.lines_len
  rw [linesM_len] at this ⊢
  have := h.xl
  rw [l1]
  omega
theorem TxtOk.len {ss es : List PySem.Str} {xs : List Arw} (h : TxtOk ss es xs) : (textM ss es xs).length ≤ 200000 := Nat.le_trans (join_le _ _) h.fit
/-! ### what the readers promise -/
end Bz
namespace Bz
open PySem PySem.Spec PyProof.Rows L2
/-! ### several clauses, each with or without a name of its own -/
abbrev Cl1 := Value × Option Nat × (Addr → Value → Option Addr → TS)
def endsOff (o : Option Nat) (D : Ends) : Ends := match o with
  | some i => { nx := fun σ' H' => D.nx (σ'.set i none) H', rt := D.rt, bk := fun σ' H' => D.bk (σ'.set i none) H', ct := fun σ' H' => D.ct (σ'.set i none) H' }
  | none => D
def slotOn (o : Option Nat) (a : Addr) (σ : L2.St) : L2.St := match o with
  | some i => σ.set i (some (.ref a))
  | none => σ
def wClauses (K : PySem.W.Frag) (Wo : WX) (D : Ends) : List Cl1 → WX
  | [] => Wo
  | (c, o, ts) :: r => fun cls d σ H => ∃ b, PySem.W.exmOne K cls c = some b ∧ (b = true → ∀ a, H a = none → ts a cls d (endsOff o D) (slotOn o a σ) H) ∧ (b = false → wClauses K Wo D r cls d σ H)
inductive Clauses (X : Cx) : List ExceptHandler → List Cl1 → Prop
  | nil : Clauses X [] []
  | plain {x : PySem.Str} {c : Value} {ts : Addr → Value → Option Addr → TS} {b₁ : Stmt} {bs : List Stmt} {p q : Pos} {hs : List ExceptHandler} {ls : List Cl1} (nm : Names X x c)
      (run : ∀ (a : Addr) (oe : Obj) (cls : Value) (d : Option Addr) (pn : List (Addr × Obj)), Zc cls d oe → (∃ vs, oe.data = .fields vs) → PSs (X.suite a ((a, oe) :: pn)) (b₁ :: bs) (ts a cls d)) (rest : Clauses X hs ls) :
      Clauses X (.ExceptHandler (some (.Name x p)) none (b₁ :: bs) q :: hs) ((c, none, ts) :: ls)
  | named {x n : PySem.Str} {i : Nat} {c : Value} {ts : Addr → Value → Option Addr → TS} {b₁ : Stmt} {bs : List Stmt} {p q : Pos} {hs : List ExceptHandler} {ls : List Cl1} (nd : X.N.Nodup) (at_ : X.N[i]? = some n) (kd : X.env.kindOf n = some .local) (nm : Names X x c)
      (run : ∀ (a : Addr) (oe : Obj) (cls : Value) (d : Option Addr) (pn : List (Addr × Obj)), Zc cls d oe → (∃ vs, oe.data = .fields vs) → PSs (X.suite a ((a, oe) :: pn)) (b₁ :: bs) (ts a cls d)) (rest : Clauses X hs ls) :
      Clauses X (.ExceptHandler (some (.Name x p)) (some n) (b₁ :: bs) q :: hs) ((c, some i, ts) :: ls)
section
variable {X : Cx} {Wo : WX} {D : Ends}
/-- the error at e has landed: what is known of the place -/
structure Landed (X : Cx) (pins : List (Addr × Obj)) (e : Addr) (B : Heap) (u v : Shared) (τ : L2.St) (G : Hp) (cls : Value) (d : Option Addr) : Prop where
  old : Inv X pins τ G u
  grd : ∀ b o, u.heap.get? b = some o → b ∉ frs X.stack → B.get? b = some o
  ups : u.heap.UpToSlots v.heap
  fly : HandSPX.FlyingZ B (X.env :: X.outer) e (Zc cls d) v.heap
  new : G e = none
  oss : v.os = u.os
  gen : AllBare v.gens
theorem Landed.nFr {pins : List (Addr × Obj)} {e : Addr} {B : Heap} {u v : Shared} {τ : L2.St} {G : Hp} {cls : Value} {d : Option Addr} (Z : Landed X pins e B u v τ G cls d) : e ∉ frs (X.env :: X.outer) := fun hm => by
  obtain ⟨oe, vs, he, _, hd⟩ := Z.fly.there
  obtain ⟨_, o2, e2, no⟩ := (show v.heap.FunFrames B (X.env :: X.outer) from Z.fly.2.2.1).mem hm
  rw [he] at e2
  cases e2
  exact no _ hd
theorem Landed.nLoc {pins : List (Addr × Obj)} {e : Addr} {B : Heap} {u v : Shared} {τ : L2.St} {G : Hp} {cls : Value} {d : Option Addr} (Z : Landed X pins e B u v τ G cls d) (hf : X.env.frame = some X.env.locals) : e ≠ X.env.locals := fun z =>
  Z.nFr (List.mem_filterMap.mpr ⟨X.env, List.mem_cons_self, hf.trans (congrArg some z.symm)⟩)
theorem Landed.nFs {pins : List (Addr × Obj)} {e : Addr} {B : Heap} {u v : Shared} {τ : L2.St} {G : Hp} {cls : Value} {d : Option Addr} (Z : Landed X pins e B u v τ G cls d) : e ∉ X.fs := fun hm => by
  obtain ⟨ev, h1, h2⟩ := List.mem_filterMap.mp hm
  exact Z.nFr (List.mem_filterMap.mpr ⟨ev, .tail _ h1, h2⟩)
theorem Landed.inv {pins : List (Addr × Obj)} {e : Addr} {B : Heap} {u v : Shared} {τ : L2.St} {G : Hp} {cls : Value} {d : Option Addr} (Z : Landed X pins e B u v τ G cls d) : Inv X pins τ G v := Z.old.landed Z.grd Z.fly.1 Z.ups Z.oss Z.gen
/-- in a clause's suite -/
theorem Landed.inS {pins : List (Addr × Obj)} {e : Addr} {B : Heap} {u v : Shared} {τ : L2.St} {G : Hp} {cls : Value} {d : Option Addr} (Z : Landed X pins e B u v τ G cls d) (hf : X.env.frame = some X.env.locals) :
    ∃ oe vs, Zc cls d oe ∧ oe.data = .fields vs ∧ v.heap.get? e = some oe ∧ Inv (X.suite e ((e, oe) :: (X.pn ++ pins))) [] τ G v := by
  obtain ⟨oe, vs, he, hz, hd⟩ := Z.fly.there
  exact ⟨oe, vs, hz, hd, he, Z.inv.suite he hd Z.new (Z.nLoc hf) Z.nFs⟩
theorem Landed.more {pins : List (Addr × Obj)} {e : Addr} {B : Heap} {u v : Shared} {τ : L2.St} {G : Hp} {cls : Value} {d : Option Addr} (Z : Landed X pins e B u v τ G cls d) {h : Heap} (f : HandSPX.FlyingZ B (X.env :: X.outer) e (Zc cls d) h) (k : v.heap.UpToSlots h) : Landed X pins e B u { v with heap := h } τ G cls d :=
  ⟨Z.old, Z.grd, Z.ups.trans k, f, Z.new, Z.oss, Z.gen⟩
/-- a clause's class is asked -/
theorem Landed.ask {pins : List (Addr × Obj)} {e : Addr} {B : Heap} {u v : Shared} {τ : L2.St} {G : Hp} {cls : Value} {d : Option Addr} (Z : Landed X pins e B u v τ G cls d) (hf : X.env.frame = some X.env.locals) {x : PySem.Str} {p : Pos} {c : Value} {Q E : Value → Shared → Prop} (nm : Names X x c) (q : Q c v) :
    wpAny (model X.prog X.w) (X.A.mark (some (.ref e))) (eval (.Name x p) X.env) Q E v := by
  obtain ⟨oe, vs, hz, hd, he, S⟩ := Z.inS hf
  obtain ⟨gl, db, k | ⟨k, bt, nn⟩⟩ := nm
  · exact ld_glob (X := X.suite e ((e, oe) :: (X.pn ++ pins))) S gl k q db
  · exact ld_blt (X := X.suite e ((e, oe) :: (X.pn ++ pins))) S gl k bt q nn db
theorem Landed.look {pins : List (Addr × Obj)} {e : Addr} {B : Heap} {u v : Shared} {τ : L2.St} {G : Hp} {cls : Value} {d : Option Addr} (Z : Landed X pins e B u v τ G cls d) : PySem.W.Looks (model X.prog X.w) v.heap (typeOf (.ref e)) cls := by
  obtain ⟨oe, vs, he, hz, hd⟩ := Z.fly.there
  exact fun A Q E s k q => wpAny_typeOf_ref (k _ _ he) (by rw [hz.1] <;> exact q)
/-- the clauses are asked, one behind the other, of an error that has landed -/
theorem clauses_run (hst : X.stack = X.env :: X.outer) (hf : X.env.frame = some X.env.locals) (tk : Takes X Wo) {pins : List (Addr × Obj)} {e : Addr} {B : Heap} {u : Shared} {τ : L2.St} {G : Hp} {cls : Value} {d : Option Addr} {hs : List ExceptHandler} {ls : List Cl1} (C : Clauses X hs ls) :
    ∀ (v : Shared), Landed X pins e B u v τ G cls d → wClauses X.K Wo D ls cls d τ G → wpAny (model X.prog X.w) X.A (handleBy (.ref e) X.env hs) (SP X pins D) X.xe v := by
  induction C with
  | nil =>
    intro v Z w
    refine wpAny_handleBy_nil ?_
    obtain ⟨_, _, _, oe, vs, T, oT, ts, he, _, hd, h1, _⟩ := id Z.fly
    unfold PySem.passOn
    refine wpAny_bind (wpAny_field he hd h1 ?_)
    rw [if_neg (show ¬ ((Value.ref T == Value.none) = true) from by simp)]
    have last : wpAny (model X.prog X.w) X.A (setFlight (.ref e) X.env.frame) (fun _ s4 => wpAny (model X.prog X.w) X.A (throw (.ref e) : Sem Flow) (SP X pins D) X.xe s4) X.xe v := by
      rw [hf]
      exact HandSPX.setFlight_upZ Z.fly fun h4 held k4 => wpAny_throw (tk _ _ ⟨e, B, u, pins, τ, G, cls, d, rfl, Z.old, Z.grd, Z.ups.trans k4, .inr (.inr (by rw [hst] <;> exact held)), Z.new, Z.oss, Z.gen, w⟩)
    first | exact wpAny_bind (wpAny_pure (wpAny_bind last)) | exact wpAny_bind last
  | @plain x c ts b₁ bs p q hs ls nm run rest ih =>
    rintro v Z ⟨b, hb, yes, no⟩
    refine wpAny_handleBy_cons (codeAny_handlers_test (Z.ask hf nm ((PySem.W.exm_one (M := model X.prog X.w) Z.inv.kIn Z.look hb).here ?_))) (by intro z; cases z)
    cases b with
    | false => exact ih v Z (no rfl)
    | true =>
      refine codeAny_handlers_suite (HandSPX.lands_againZ Z.fly fun h4 f4 k4 => ?_)
      have Z4 := Z.more f4 k4
      obtain ⟨oe, vs, hz, hd, he, S⟩ := Z4.inS hf
      refine wpAny_mono ((run e oe cls d (X.pn ++ pins) hz ⟨_, hd⟩).run [] _ _ G _ S (yes rfl e Z.new)) (fun f s6 r => ?_) (fun _ _ z => z.elim)
      have ok := Z.old.ok
      cases f with
      | ret y => exact let ⟨a1, a2, a3, I6, a4, a5⟩ := r; ⟨a1, a2, a3, I6.unsuite ok, a4, a5⟩
      | next => exact let ⟨a2, a3, I6, a5⟩ := r; ⟨a2, a3, I6.unsuite ok, a5⟩
      | brk => exact let ⟨a2, a3, I6, a5⟩ := r; ⟨a2, a3, I6.unsuite ok, a5⟩
      | cont => exact let ⟨a2, a3, I6, a5⟩ := r; ⟨a2, a3, I6.unsuite ok, a5⟩
  | @named x n i c ts b₁ bs p q hs ls nd at_ kd nm run rest ih =>
    rintro v Z ⟨b, hb, yes, no⟩
    refine wpAny_handleBy_cons (codeAny_handlers_test (Z.ask hf nm ((PySem.W.exm_one (M := model X.prog X.w) Z.inv.kIn Z.look hb).here ?_))) (by intro z; cases z)
    cases b with
    | false => exact ih v Z (no rfl)
    | true =>
      refine codeAny_handlers_suite_as (HandSPX.lands_againZ Z.fly fun h4 f4 k4 => ?_)
      have Z4 := Z.more f4 k4
      obtain ⟨oe, vs, hz, hd, he, S⟩ := Z4.inS hf
      have ok := Z.old.ok
      refine store_ok (X := X.suite e ((e, oe) :: (X.pn ++ pins))) (v := .ref e) S nd at_ (.inl kd) rfl (fun s5 S5 => ?_) (.inr kd)
      refine wpAny_mono ((run e oe cls d (X.pn ++ pins) hz ⟨_, hd⟩).run [] s5 _ G _ S5 (yes rfl e Z.new)) (fun f s6 r => ?_) (fun _ _ z => z.elim)
      have off : ∀ {σ6 : L2.St} {H6 : Hp} {R : Shared → Prop}, Inv (X.suite e ((e, oe) :: (X.pn ++ pins))) [] σ6 H6 s6 → (∀ s7, Inv X pins (σ6.set i none) H6 s7 → R s7) → wpAny (model X.prog X.w) X.A (do bindName X.env n .none; unbindBehindTheSuite X.env n q) (fun _ s7 => R s7) X.xe s6 :=
        fun {σ6 H6 R} I6 k => gone_ok (I6.unsuite ok) nd at_ kd k
      cases f with
      | ret y => exact let ⟨a1, a2, a3, I6, a4, a5⟩ := r; off I6 fun s7 J7 => ⟨a1, _, a3, J7, a4, a5⟩
      | next => exact let ⟨a2, a3, I6, a5⟩ := r; off I6 fun s7 J7 => ⟨_, a3, J7, a5⟩
      | brk => exact let ⟨a2, a3, I6, a5⟩ := r; off I6 fun s7 J7 => ⟨_, a3, J7, a5⟩
      | cont => exact let ⟨a2, a3, I6, a5⟩ := r; off I6 fun s7 J7 => ⟨_, a3, J7, a5⟩
variable {body : List Stmt} {h₁ : ExceptHandler} {hs : List ExceptHandler} {ls : List Cl1} {pos : Pos} {tb : WX → TS}
theorem ps_tryAll (hst : X.stack = X.env :: X.outer) (hf : X.env.frame = some X.env.locals) (tk : Takes X Wo) (hb : ∀ (W : WX) (pn : List (Addr × Obj)) (xe : Value → Shared → Prop), Takes (X.tr pn xe) W → PassesOwn (model X.prog X.w) X.A X.env xe → PSs (X.tr pn xe) body (tb W)) (C : Clauses X (h₁ :: hs) ls) :
    PS X (.Try body (h₁ :: hs) [] [] pos) (fun D σ H => tb (wClauses X.K Wo D ls) D σ H) := by
  refine ⟨fun pins s σ H D I h => ?_⟩
  have ok := I.ok
  have frm : X.A.frames = some (X.env :: X.outer) := ok.frames.trans (congrArg some hst)
  refine wpAny_Try_except (wpAny_mono ((hb (wClauses X.K Wo D ls) (X.pn ++ pins) (fun e s₁ => wpAny (model X.prog X.w) X.A (noteFrame e X.env) (fun _ s₂ => wpAny (model X.prog X.w) X.A (setFlight e none) (fun _ s₃ => wpAny (model X.prog X.w) X.A (handleBy e X.env (h₁ :: hs)) (SP X pins D) X.xe s₃) X.xe s₂) X.xe s₁)
    (fun z s' xx => ?_) PassesOwn.looking).run [] s σ H D (I.toTry _) h) (fun f s1 r => ?_) (fun e s1 he => he))
  · obtain ⟨e, B, u, pn', τ, G, cls, d, rfl, J, nb, up, sky, na, os, ag, w⟩ := xx
    show wpAny (model X.prog X.w) X.A (noteFrame (.ref e) X.env) _ _ _
    refine Sky.land Zc.steady frm hf (show Sky B (X.env :: X.outer) e (Zc cls d) X.env.locals s'.heap from by rw [← hst] <;> exact sky) fun h3 fl up3 => ?_
    exact clauses_run hst hf tk C _ ⟨J.ofTry ok, nb, up.trans up3, fl, na, os, ag⟩ w
  · cases f with
    | ret y => exact let ⟨a1, a2, a3, J, a4, a5⟩ := r; ⟨a1, a2, a3, J.ofTry ok, a4, a5⟩
    | next => exact let ⟨a2, a3, J, a5⟩ := r; wpAny_execs_nil ⟨a2, a3, J.ofTry ok, a5⟩
    | brk => exact let ⟨a2, a3, J, a5⟩ := r; ⟨a2, a3, J.ofTry ok, a5⟩
    | cont => exact let ⟨a2, a3, J, a5⟩ := r; ⟨a2, a3, J.ofTry ok, a5⟩
end
end Bz
/-! own errors made by a keyword and read at once; isinstance of a caught error that has fields -/
namespace PySem
namespace BzExK
open HandSPX Builtin Builtin.ObjectAttr
section
variable {M : Model} {A : Around} {E : Value → Shared → Prop} {h : Heap} {g : Array GenState} {d : Drawn} {t : Nat} {os : OsState}
variable {nm q : Str} {C N : Addr} {bs bm bmB : List Value} {hdct : Bool} {sn : List Str} {sub : List Value} {ab : Bool} {col : Option Bool} {dd : Option Addr} {k0 k1 k2 k3 k5 : Option Value} {B newId initId : String}
theorem check_new_ownK (F : ExcBaseFacts B newId initId bmB) (hT : ∀ X : String, bm.contains (.type X) = bmB.contains (.type X)) {rest : List Value} {kw : List (Str × Value)} {Q : Unit → Shared → Prop}
    (hC : h.get? C = some (excClassObj nm q C N bs bm hdct sn sub ab col dd k0 k1 k2 k3 k5 newId)) (hq : Q () ⟨h, g, d, t, os⟩) : wpAny M A (checkBuiltinCall newId ⟨.ref C :: rest, kw⟩) Q E ⟨h, g, d, t, os⟩ := by
  have hcont : (Value.ref C :: bm).contains (.type B) = true := by rw [List.contains_cons, hT, F.hasB, Bool.or_true]
  have hstar := F.noStar
  simp only [checkBuiltinCall, F.newKind, F.newSplit, F.newRow]
  repeat (first | refine wpAny_loadPart_at hC ?_ | (refine wpAny_isSubtype_exc hC ?_; rw [hcont]) | refine wpAny_staticBase_exc hC ?_ | refine wpAny_madeBy_exc hC ?_ | simp only [bne_self_eq_false, Bool.false_eq_true, if_false] | wp_step)
  exact hq
theorem check_type_callK {rest : List Value} {kw : List (Str × Value)} {Q : Unit → Shared → Prop} (hC : h.get? C = some (excClassObj nm q C N bs bm hdct sn sub ab col dd k0 k1 k2 k3 k5 newId))
    (hq : Q () ⟨h, g, d, t, os⟩) : wpAny M A (checkBuiltinCall "type.__call__" ⟨.ref C :: rest, kw⟩) Q E ⟨h, g, d, t, os⟩ := by
  have f3 := tc_sub
  have hT : (⟨h, g, d, t, os⟩ : Shared).TypeIs (.ref C) "type" := ⟨_, hC, rfl⟩
  simp only [checkBuiltinCall, tc_kind, tc_split]
  repeat (any_goals (first | assumption | with_reducible refine wpAny_loadPart_at hC ?_ | with_reducible refine wpAny_onRaise ?_ | with_reducible refine wpAny_map ?_ | wp_step))
end
section
variable {prog : Program} {w : World} {A : Around} {E : Value → Shared → Prop} {R : Result → Shared → Prop} {h : Heap} {g : Array GenState} {d : Drawn} {t : Nat} {os : OsState}
variable {nm q : Str} {C N : Addr} {bs bm bmB : List Value} {hdct : Bool} {sn : List Str} {sub : List Value} {ab : Bool} {col : Option Bool} {dd : Option Addr} {k0 k1 k2 k3 k5 : Option Value} {B newId initId : String}
theorem new_ownK (F : ExcBaseFacts B newId initId bmB) (hT : ∀ X : String, bm.contains (.type X) = bmB.contains (.type X)) {rest : List Value} {kw : List (Str × Value)}
    (hC : h.get? C = some (excClassObj nm q C N bs bm hdct sn sub ab col dd k0 k1 k2 k3 k5 newId))
    (hq : R (.ok (.ret (.ref (h.objs.size + 1)))) ⟨(h.push { cls := .type "tuple", data := .seq rest.toArray }).push
      { cls := .ref C, data := .fields #[.ref h.objs.size, .none, .none, .none, .bool false, .none] }, g, d, t, os⟩) (hrest : rest.length ≤ sizeLine) :
    codeAny (model prog w) A (.builtin newId ⟨.ref C :: rest, kw⟩) R ⟨h, g, d, t, os⟩ := by
  have hends := F.ends
  have hcB : (Value.ref C :: bm).contains (.type B) = true := by rw [List.contains_cons, hT, F.hasB, Bool.or_true]
  have hcA : (Value.ref C :: bm).contains (.type "AttributeError") = false := by rw [List.contains_cons, hT, F.noAttr]; rfl
  have hcN : (Value.ref C :: bm).contains (.type "NameError") = false := by rw [List.contains_cons, hT, F.noName]; rfl
  refine codeAny_builtinAt F.entry ?_
  unfold Builtin.«BaseException.__new__»
  refine wpAt_bind ?_
  show wpAt _ _ _ (stack >>= _) _ _ _
  refine wpAt_bind (wpAt_stack fun p below => wpAt_of_wpAny ?_)
  wp_walk
  refine wpAt_of_wpAny ?_
  rw [F.owner]
  repeat (first | with_reducible refine wpAny_madeHere_exc F.canon hC ?_ | with_reducible refine wpAny_loadPart_at hC ?_ | (with_reducible refine wpAny_isSubtype_exc hC ?_; first | rw [hcB] | rw [hcA] | rw [hcN]) | wp_step)
  show R _ _
  rw [Heap.size_push]
  exact hq
theorem type_call_ownK (F : ExcBaseFacts B newId initId bmB) (hT : ∀ X : String, bm.contains (.type X) = bmB.contains (.type X)) {rest : List Value} {kw : List (Str × Value)} {fI : Addr} {Q : Fin → Shared → Prop}
    (hC : h.get? C = some (excClassObj nm q C N bs bm hdct sn sub ab col dd k0 k1 k2 k3 k5 newId))
    (hi : W.Looks (model prog w) h (typeLookup (.ref C) "__init__") (some (.ref fI))) (hb : ∀ self, W.Looks (model prog w) h (bindSpecial (.ref fI) self) (.ref fI, [self])) (hrest : rest.length ≤ sizeLine)
    (hq : codeAny (model prog w) A (.call (.ref fI) ⟨.ref (h.objs.size + 1) :: rest, kw⟩)
      (fun r s' => match r with | .ok (.ret v) => v = .none ∧ Q (.done (.ret (.ref (h.objs.size + 1)))) s' | .ok _ => False | .error e => E e s')
      ⟨(h.push (W.kdv_tup rest)).push (excO C h.objs.size), g, d, t, os⟩) :
    wpAny (model prog w) A (Builtin.«type.__call__» ⟨.ref C :: rest, kw⟩) Q E ⟨h, g, d, t, os⟩ := by
  repeat (first | with_reducible refine wpAny_loadPart_at hC ?_ | with_reducible refine wpAny_madeBy_exc hC ?_ | wp_step)
  refine codeAny_call_builtin_code (Code.quiet_builtin _ F.quiet) (check_new_ownK F hT hC ?_)
  refine new_ownK F hT hC ?_ hrest
  show wpAny _ _ _ _ _ _
  have k : ∀ b o, h.get? b = some o → ((h.push (W.kdv_tup rest)).push (excO C h.objs.size)).get? b = some o := fun b o e => Heap.get?_push_of_some _ (Heap.get?_push_of_some _ e)
  have hC₁ := k _ _ hC
  have hget : ((h.push (W.kdv_tup rest)).push (excO C h.objs.size)).get? (h.objs.size + 1) = some (excO C h.objs.size) := by heap_get
  have hcC : (Value.ref C :: bm).contains (.ref C) = true := by simp
  have i1 := hi.keeps k
  have b1 := (hb (.ref (h.objs.size + 1))).keeps k
  unfold isInstance
  repeat (first | with_reducible refine wpAny_loadPart_at hget ?_ | (with_reducible refine wpAny_isSubtype_exc hC₁ ?_; rw [hcC]) | wp_step)
  show wpAny _ _ (typeLookup (.ref C) _) _ _ _
  refine i1.at ?_
  refine wpAny_holding (wpAny_bind (b1.at ?_))
  refine wpAny_bind (wpAny_call (codeAny_mono hq fun r s' z => ?_))
  rcases r with e | (v | _ | _ | _) <;> first | exact z | exact z.elim | skip
  obtain ⟨rfl, z⟩ := z
  first
    | exact wpAny_pure (wpAny_pure z)
    | (wp_walk; exact z)
theorem call_ownK (F : ExcBaseFacts B newId initId bmB) (hT : ∀ X : String, bm.contains (.type X) = bmB.contains (.type X)) {rest : List Value} {kw : List (Str × Value)} {fI : Addr}
    (hC : h.get? C = some (excClassObj nm q C N bs bm hdct sn sub ab col dd k0 k1 k2 k3 k5 newId))
    (hi : W.Looks (model prog w) h (typeLookup (.ref C) "__init__") (some (.ref fI))) (hb : ∀ self, W.Looks (model prog w) h (bindSpecial (.ref fI) self) (.ref fI, [self])) (hrest : rest.length ≤ sizeLine)
    (hq : codeAny (model prog w) (A.under (.builtin "type.__call__" ⟨.ref C :: rest, kw⟩)) (.call (.ref fI) ⟨.ref (h.objs.size + 1) :: rest, kw⟩) (W.InitBack (h.objs.size + 1) R)
      ⟨(h.push (W.kdv_tup rest)).push (excO C h.objs.size), g, d, t, os⟩) :
    codeAny (model prog w) A (.call (.ref C) ⟨rest, kw⟩) R ⟨h, g, d, t, os⟩ := by
  have f1 := tc_lookup
  have f2 := tc_bind (.ref C)
  have hTy : (⟨h, g, d, t, os⟩ : Shared).TypeIs (.ref C) "type" := ⟨_, hC, rfl⟩
  refine codeAny_of_tree ?_
  show wpAny _ _ (callAny (.ref C) _) _ _ _
  repeat (any_goals (first | assumption | with_reducible refine wpAny_loadPart_at hC ?_ | wp_step))
  refine ⟨rfl, ?_⟩
  refine codeAny_call_builtin_at (Code.quiet_builtin _ (by decide +kernel)) entry_typeCall (check_type_callK hC (type_call_ownK F hT hC hi hb hrest ?_))
  refine codeAny_mono hq fun r s' z => ?_
  rcases r with e | (v | _ | _ | _) <;> exact z
end
end BzExK
end PySem
namespace Bz
open PySem PySem.Spec PyProof.Rows L2
section
variable {X : Cx} {x qual f : PySem.Str} {C : Addr} {st : Stmt} {p pos pos2 kp : Pos} {j : Nat}
/-- C(f=e).f : made by the field's name, read, let go -/
def tXkw (f : PySem.Str) (ta : TA) : TE := fun σ H Q => ta σ H fun vs H1 => ∃ v, vs = [v] ∧ ∀ d, H1 d = none → Q v (upd H1 d (.xd [(f, v)]))
theorem pe_xkw {e : Expr} {ta : TA} {p0 p1 p2 p3 : Pos} (T : Err1 X.K X.mg x qual f C st) (S : FnScope ["self", f] ["self", f] (defScope st)) (hr : Room j X.A)
    (hkw : PK X [⟨some f, e, kp⟩] ta) (hbk : ∀ (kV doc pm : Value) (an : Option Addr) (cdv ct : Value) (u w : Value), bindArgs (PySem.W.fnOf "__init__" qual (defArgs st) (defBody st) (defScope st) .none kV doc pm an cdv ct) ⟨[u], [(f, w)]⟩ = pure [(("self" : PySem.Str), u), (f, w)] := by intros; rfl) (hg : Gl X x := by rfl)
    (hb : defBody st = [.Assign [.Attribute (.Name "self" p0) f p1] (.Name f p2) p3] := by rfl) (hj : 2 ≤ j := by decide)
    (f1 : (f == ("__debug__" : PySem.Str)) = false := by decide) (f2 : (f == ("__classdict__" : PySem.Str)) = false := by decide)
    (hdb : (x == ("__debug__" : PySem.Str)) = false := by decide)
    (hsw : ∀ (A : Around) (P : Program) (env : Env), swapsWith (.Name f p2) (some (.Attribute (.Name "self" p0) f p1)) p3.line env = pure false := by intros; rfl)
    (hall : (backToKw pos (keywordEach [⟨some f, e, kp⟩] X.env)).all (·.1.isSome) = true := by rfl) (hks : (backToKw pos (keywordEach [⟨some f, e, kp⟩] X.env)).filterMap (·.1) = [f] := by rfl)
    (hpl : ((backTo pos (starEach [] X.env)).any (·.1) || (backToKw pos (keywordEach [⟨some f, e, kp⟩] X.env)).any (·.1.isNone)) = false := by rfl)
    (hab : attributeBase (.Call (.Name x p) [] [⟨some f, e, kp⟩] pos) f X.env (eval (.Call (.Name x p) [] [⟨some f, e, kp⟩] pos) X.env) = eval (.Call (.Name x p) [] [⟨some f, e, kp⟩] pos) X.env := by rfl) :
    PE X (.Attribute (.Call (.Name x p) [] [⟨some f, e, kp⟩] pos) f pos2) (tXkw f ta) := by
  obtain ⟨fI, fd, iC, tI, F, b⟩ := T.ex
  have F1 : FnOk X.prog X.w X.K X.mg X.base CX0 1 fI fd ["self", f] (spFld X.K f) := F.ok S (fun vs H Q E ⟨a, C, v, h, _⟩ => by rw [h]; rfl) fun cdv A outer s H vs Q E hr h => by
    obtain ⟨a, C, v, rfl, o, n, ea, q⟩ := h
    have h0 : PE (cxOf CX0 X.prog X.w X.K X.mg X.base ["self", f] qual (defScope st) fI cdv A outer s H E).nox (.Name "self" p0) (tVar 0) := pe_var (i := 0) rfl ((S.par "self" (List.Mem.head _)).elim (fun z => .inl z) (fun z => .inr (.inl z)))
    have h1 : PE (cxOf CX0 X.prog X.w X.K X.mg X.base ["self", f] qual (defScope st) fI cdv A outer s H E).nox (.Name f p2) (tVar 1) := pe_var (i := 1) rfl ((S.par f (List.mem_cons_of_mem _ (List.Mem.head _))).elim (fun z => .inl z) (fun z => .inr (.inl z))) f1 f2
    refine ⟨_, by rw [hb]; exact pss_one (ps_ost h0 h1 (hsw A X.prog _)), ?_⟩
    exact ⟨_, rfl, _, rfl, a, C, rfl, o, n, .inl ⟨ea, fun dx n1 n2 => q dx n1 n2⟩⟩
  have bk : ∀ (s : Shared) (u w : Value), BindsTo s fd ⟨[u], [(f, w)]⟩ [(("self" : PySem.Str), u), (f, w)] := fun s u w => by
    obtain ⟨oc, od, kV, doc, pm, an, cdv, ct, osl, e1, _⟩ := F.ex
    subst e1
    exact .of_eq (hbk _ _ _ _ _ _ _ _)
  refine ⟨fun pins s σ H Q I h => ?_⟩
  refine attr_of hab ?_
  obtain ⟨nm, q, N, bs, bm, sn, sub, ab, col, dd, k0, k1, k2, k3, k5, hC, hbm⟩ := T.o.cls
  refine wpAny_Call_Name_kw (ld_glob I hg T.g ?_ hdb)
  refine PySem.W.callWith_KW0 (h₀ := X.base) I.ok.mod.kin T.o.kC hall ?_ hpl
  refine thn (hkw.run pos pins s σ H _ I h) fun ws s1 ⟨zs, H1, I1, r1, hz⟩ => ⟨I1.kIn, ?_⟩
  obtain ⟨v, rfl, qd⟩ := hz
  rw [hks]
  obtain ⟨u, rfl, ru⟩ : ∃ u, ws = [u] ∧ RelV v u := by
    cases r1 with
    | cons ru rn =>
      cases rn
      exact ⟨_, rfl, ru⟩
  show wpAny _ _ (call (.ref C) [] [(f, u)]) _ _ _
  obtain ⟨hp, g, dr, tk, os⟩ := s1
  have hsz : hp.objs.size ≤ hp.objs.size + 1 := Nat.le_succ _
  have hn : H1 (hp.objs.size + 1) = none := I1.hok.fresh hsz
  have kk : ∀ b o, hp.get? b = some o → ((hp.push (PySem.W.kdv_tup [])).push (PySem.HandSPX.excO C hp.objs.size)).get? b = some o := fun b o e => Heap.get?_push_of_some _ (Heap.get?_push_of_some _ e)
  have hget : ((hp.push (PySem.W.kdv_tup [])).push (PySem.HandSPX.excO C hp.objs.size)).get? (hp.objs.size + 1) = some (PySem.HandSPX.excO C hp.objs.size) := by heap_get
  have I2 : Inv X pins σ (upd H1 (hp.objs.size + 1) (exo (hp.objs.size + 1) C none)) ⟨(hp.push (PySem.W.kdv_tup [])).push (PySem.HandSPX.excO C hp.objs.size), g, dr, tk, os⟩ :=
    I1.laid (t' := tk) (a := hp.objs.size + 1) (o := exo (hp.objs.size + 1) C none) (h' := (hp.push (PySem.W.kdv_tup [])).push (PySem.HandSPX.excO C hp.objs.size)) kk hsz (exo_ok hget)
  have r2 : Vals [V.ref (hp.objs.size + 1), v] [Value.ref (hp.objs.size + 1), u] := .cons rfl (.cons ru .nil)
  have hus : ([] : List Value).length ≤ sizeLine := Nat.zero_le _
  have hq : spFld X.K f [V.ref (hp.objs.size + 1), v] (upd H1 (hp.objs.size + 1) (exo (hp.objs.size + 1) C none)) (fun x H2 => x = .non ∧ ∃ d, H1 d = none ∧ d ≠ hp.objs.size + 1 ∧ H2 = upd (upd (upd H1 (hp.objs.size + 1) (exo (hp.objs.size + 1) C none)) d (exd d [(f, v)])) (hp.objs.size + 1) (exo (hp.objs.size + 1) C (some d))) (fun _ _ _ => False) :=
    ⟨_, C, v, rfl, T.o, T.no, upd_same, fun dx n1 n2 => ⟨rfl, dx, (upd_ne n2).symm.trans n1, n2, rfl⟩⟩
  refine wpAny_call (PySem.BzExK.call_ownK PySem.F.excBase_ValueError (fun Y => PySem.HandSPX.refsVE_contains Y bm hbm) (I1.kIn _ _ hC) (PySem.W.looks_findIn I1.kIn iC) (fun self => PySem.W.bind_fn I1.kIn self tI) hus
    (codeAny_mono (F1.run _ X.stack _ _ ⟨[Value.ref (hp.objs.size + 1)], [(f, u)]⟩ [Value.ref (hp.objs.size + 1), u] _ _ (fun _ _ _ => False) ((hr.mono hj).make C [] [(f, u)]) (I2.env0.make C [] [(f, u)]) (bk _ _ _) r2 hq) fun r s' hq' => ?_))
  cases r with
  | error er => exact (show False from hq').elim
  | ok fl =>
    cases fl with
    | ret y =>
      obtain ⟨yv, H2, os2, bare2, un2, hok2, rv, ev, dx, nd, ne, eH⟩ := hq'
      subst ev
      have ea : H2 (hp.objs.size + 1) = some (exo (hp.objs.size + 1) C (some dx)) := by rw [eH, upd_same]
      have ed : H2 dx = some (exd dx [(f, v)]) := by rw [eH, upd_ne ne, upd_same]
      obtain ⟨h2, g2, d2, t2, os'⟩ := s'
      obtain ⟨t0, G, J, kG, ge, hoe, na⟩ := mk_end0 (d2 := d2) (t2 := t2) I1 hsz kk un2 hok2 os2 bare2 ea ed nd
      refine ⟨rv, ?_⟩
      have e3 : upd (del H2 (hp.objs.size + 1)) dx (.xd [(f, v)]) = upd H1 dx (.xd [(f, v)]) := by
        rw [eH]
        funext b
        by_cases h1 : b = dx
        · rw [h1, upd_same, upd_same]
        · rw [upd_ne h1, upd_ne h1]
          by_cases h2 : b = hp.objs.size + 1
          · rw [h2, del_same, hn]
          · rw [del_ne h2, upd_ne h2, upd_ne h1, upd_ne h2]
      rw [e3] at J
      have Ik : Inv X pins σ (upd H1 dx (.xd [(f, v)])) ⟨h2, g2, d2, t2, os'⟩ := by
        have z := J.kept (t' := t2) kG
        skip
        exact z
      have hx : ObjOk X.prog X.w (upd H1 dx (.xd [(f, v)])) h2 dx (.xd [(f, v)]) := Ik.hok dx _ upd_same
      obtain ⟨mA, hns, hr2⟩ := hx
      obtain ⟨od, ho, hl⟩ := lookIn_ns hns
      obtain ⟨u3, hu3, ru3⟩ := RelO.some_of (v := v) (o := mA f) (by
        have z := hr2 f
        rwa [show ([(f, v)] : List (PySem.Str × V)).lookup f = some v from by simp [List.lookup]] at z)
      have Jx : PySem.W.InstAt h2 (hp.objs.size + 1) _ C (some od) := ⟨hoe, rfl, rfl, ho⟩
      have T2 := T.xf
      exact HandSPX.exc_get Ik.kIn Jx T2.ga T2.gg T2.exC (PySem.W.findObj_own T2.hdC T.no rfl (by rw [hl, hu3])) (handed_of ru3) ⟨v, _, Ik.tok _, ru3, qd dx nd⟩
    | next => exact False.elim hq'
    | brk => exact False.elim hq'
    | cont => exact False.elim hq'
end
/-! isinstance of a caught error, whatever its dict -/
theorem kin_classE2 {prog : Program} {w : World} {A : Around} {E : Value → Shared → Prop} {s : Shared} {K : PySem.W.Frag} {x D : Addr} {ox : Obj} {od : Option Obj} {Q : Option Value → Shared → Prop} (C : ExcC K D)
    (X : K.In s.heap) (I : PySem.W.InstAt s.heap x ox D od) (h : Q (some (.ref D)) { s with toks := s.toks + 1 }) : wpAny (model prog w) A (getAttr? (.ref x) "__class__") Q E s := by
  obtain ⟨hga, hgt, hsub, hdct, ha, hn, htk, hm⟩ := C
  have hf : PySem.W.findObj K D od "__class__" = some (.bind (.builtin "getset_descriptor.__get__") (.builtin "object.__class__")) := by
    obtain ⟨cd, hc, _⟩ := PySem.W.any_some hdct
    unfold PySem.W.findObj
    rw [hc, Option.bind_some, ha, Option.bind_some]
    simp [hn, htk]
  obtain ⟨hp, g, d, t, os⟩ := s
  have L0 := I.type (M := model prog w)
  have L1 := PySem.W.looks_findIn (M := model prog w) X hga
  have L2 := PySem.W.looks_findIn (M := model prog w) X hgt
  have L3 := PySem.W.looks_find (M := model prog w) X I hf
  have sub : PySem.W.Looks (model prog w) hp (isInstance (.ref x) (.type "BaseException")) true := L0.andThen (PySem.W.looks_subIn X hsub)
  have hx0 : (false && onTheHeap (Value.builtin "BaseException.__getattribute__")) = false := rfl
  have hx2 : (Value.builtin "BaseException.__getattribute__" == Value.builtin "object.__getattribute__") = false := by decide +kernel
  have hx1 : (onTheHeap (Value.ref D) && Value.builtin "BaseException.__getattribute__" == Value.builtin "object.__getattribute__") = false := by rw [hx2]; rfl
  unfold getAttr? getAttrBy? getAttrBy
  refine wpAny_bind (wpAny_mkText (wpAny_bind (wpAny_attempt (wpAny_holding (wpAny_bind (L0.at (wpAny_bind (L1.at ?_))))))))
  show wpAny _ _ (if (onTheHeap (Value.ref D) && Value.builtin "BaseException.__getattribute__" == Value.builtin "object.__getattribute__") = true then _ else _) _ _ _
  rw [hx1, if_neg Bool.false_ne_true]
  unfold getAttrByItsOwn hookBefore
  refine wpAny_bind ?_
  rw [if_pos (show onTheHeap (Value.ref D) = true from rfl)]
  refine L2.at ?_
  refine wpAny_bind (wpAny_attempt (wpAny_holding ?_))
  unfold callGetattribute
  rw [hx0, if_neg Bool.false_ne_true]
  unfold boundAndCalled
  rw [PySem.F.excAttr_ValueError.ga.bind (.ref x)]
  refine wpAny_bind (wpAny_pure ?_)
  show wpAny _ _ (call (.builtin "BaseException.__getattribute__") [.ref x, .str "__class__" t]) _ _ _
  refine wpAny_call (codeAny_call_builtin PySem.F.excAttr_ValueError.ga.plain PySem.F.entry_bexc_ga ?_)
  refine @PySem.W.check_slot (model prog w) _ _ ⟨hp, g, d, t + 1, os⟩ "BaseException.__getattribute__" "BaseException" "__getattribute__" (.ref x) [.str "__class__" t] [] _ (by decide +kernel) (by decide +kernel) sub (PySem.F.args_bexc_ga (.ref x) (.str "__class__" t)) ?_
  unfold Builtin.«object.__getattribute__»
  refine wpAny_bind (wpAny_of_eq (a := ((Value.ref x : Value), [Value.str "__class__" t])) (by first | rfl | (simp only [slotArgs]; rfl)) ?_)
  refine wpAny_bind (wpAny_pure (wpAny_bind (L0.at (wpAny_bind (L3.at ?_)))))
  show wpAny _ _ (holding [Value.builtin "object.__class__"] (call (.builtin "getset_descriptor.__get__") [.builtin "object.__class__", .ref x, .ref D]) >>= ret) _ _ _
  refine wpAny_bind (wpAny_holding (wpAny_call (PySem.W.class_get (s := ⟨hp, g, d, t + 1, os⟩) (ox := ox) (od := od) X I hm ?_)))
  refine wpAny_pure ?_
  show wpAny _ _ (handedOut (.ref D)) _ _ _
  rw [PySem.W.handedOut_of (v := .ref D) rfl]
  first
    | exact wpAny_pure (wpAny_pure h)
    | exact wpAny_pure h
    | exact wpAny_pure (wpAny_bind (wpAny_pure (wpAny_pure h)))
theorem kitx_excE {K : PySem.W.Frag} {x D : Addr} {ox : Obj} (C : ExcC K D) :
    PySem.W.KitX K (.ref x) (.ref D) (fun h => ∃ od, PySem.W.InstAt h x ox D od) where
  ty := fun _ _ _ ⟨_, I⟩ => I.type
  it := fun _ _ X _ => by
    obtain ⟨cdD, hcD, _⟩ := PySem.W.any_some C.hd
    unfold PySem.W.clsIn at hcD
    split at hcD
    · rename_i c' d' cd' sl' ho
      intro A' Q' E' s' k q
      unfold isType loadHead
      exact wpAny_bind (wpAny_loadPart (k _ _ (X _ _ ho)) (wpAny_pure q))
    · cases hcD
  ne := fun h tp dd its n sl X htp => by
    obtain ⟨cdD, hcD, _⟩ := PySem.W.any_some C.hd
    refine Bool.eq_false_iff.mpr fun q => ?_
    have e : D = tp := Value.ref.inj (beq_iff_eq.mp q)
    subst e
    unfold PySem.W.clsIn at hcD
    split at hcD
    · rename_i c' d' cd' sl' ho
      have z := (X _ _ ho).symm.trans htp
      cases z
    · cases hcD
  ca := fun X ⟨_, I⟩ k => kin_classE2 C X I k
/-- isinstance(e, c), e the error that the suite holds: a field's dict may stand -/
def rIsD (K : PySem.W.Frag) (a : Addr) (cls : Value) (d : Option Addr) : List V → Hp → VK → Prop := fun xs H Q => ∃ (D : Addr) (c : V) (cv : Value) (b : Bool), cls = .ref D ∧ ExcC K D ∧ (∀ dd, d = some dd → ∃ fs, H dd = some (.xd fs)) ∧ xs = [.ref a, c] ∧ (∀ u, RelV c u → u = cv) ∧ PySem.W.kitOne K (.ref D) cv = some b ∧ Q (.bl b) H
theorem call_isD {X : Cx} {a : Addr} {cls : Value} {d : Option Addr} {oe : Obj} {pn : List (Addr × Obj)} (hz : Zc cls d oe) (hf : ∃ vs, oe.data = .fields vs) : CallR (X.suite a ((a, oe) :: pn)) (.builtin "isinstance") (rIsD X.K a cls d) := by
  intro pins s σ H xs us Q I r h
  obtain ⟨D, c, cv, b, rfl, C, hd, rfl, hcv, e, q⟩ := h
  cases r with
  | cons rx rr =>
    cases rr with
    | cons rt rr =>
      cases rr
      cases rx
      have ec := hcv _ rt
      subst ec
      obtain ⟨hget, _⟩ := I.pin (a, oe) (List.mem_append.mpr (.inl List.mem_cons_self))
      obtain ⟨vs, hv⟩ := hf
      have J : ∃ od, PySem.W.InstAt s.heap a oe (D : Addr) od := by
        obtain ⟨oc, odd, oda, osl⟩ := oe
        obtain ⟨h1, h2⟩ := hz
        dsimp only at h1 h2 hv
        subst h1 h2 hv
        cases odd with
        | none => exact ⟨none, hget, rfl, rfl, trivial⟩
        | some dd =>
          obtain ⟨fs, ed⟩ := hd dd rfl
          obtain ⟨mA, hns, _⟩ := (show ObjOk X.prog X.w H s.heap dd (.xd fs) from I.hok dd _ ed)
          obtain ⟨od, ho, _⟩ := lookIn_ns hns
          exact ⟨some od, hget, rfl, rfl, ho⟩
      exact PySem.W.kia_one (kitx_excE C) I.kIn J e (fun z => nomatch z) fun tk => ⟨.bl b, H, I.kept (t' := tk) fun _ _ z => z, rfl, q⟩
/-- several own errors, told by number: all is known of them that except and isinstance ask -/
def excCB (K : PySem.W.Frag) (D : Addr) : Bool := decide (PySem.W.findIn K (.ref D) "__getattribute__" = some (some (.builtin "BaseException.__getattribute__"))) && (decide (PySem.W.findIn K (.ref D) "__getattr__" = some none) && (decide (PySem.W.subIn K (.ref D) (.type "BaseException") = some true) && (PySem.W.hasDictIn K D
  && (decide (PySem.W.findIn K (.ref D) "__class__" = some (some (.builtin "object.__class__"))) && (decide (PySem.W.specialIn K (.builtin "object.__class__") "__get__" = some (some (.builtin "getset_descriptor.__get__"))) && (decide (PySem.W.takesIn K (.builtin "object.__class__") = some true) && decide (PySem.W.mroIn K D (.type "object") = some true)))))))
theorem excC_of {K : PySem.W.Frag} {D : Addr} (h : excCB K D = true) : ExcC K D := by
  unfold excCB at h
  simp only [Bool.and_eq_true, decide_eq_true_eq] at h
  obtain ⟨h1, h2, h3, h4, h5, h6, h7, h8⟩ := h
  exact ⟨h1, h2, h3, h4, h5, h6, h7, h8⟩
def tabE (K : PySem.W.Frag) (Cs : List Addr) (P : Addr) : Bool :=
  ((List.range Cs.length).all fun i => excCB K (Cs.getD i 0) && (decide (PySem.W.exmOne K (.ref (Cs.getD i 0)) (.ref P) = some true) && (decide (PySem.W.kitOne K (.ref (Cs.getD i 0)) (.type "ValueError") = some true)
    && ((List.range Cs.length).all fun j => decide (PySem.W.kitOne K (.ref (Cs.getD i 0)) (.ref (Cs.getD j 0)) = some (i == j)) && decide (PySem.W.exmOne K (.ref (Cs.getD i 0)) (.ref (Cs.getD j 0)) = some (i == j))))))
structure TabE (K : PySem.W.Frag) (Cs : List Addr) (P : Addr) (i : Nat) : Prop where
  exc : ExcC K (Cs.getD i 0)
  top : PySem.W.exmOne K (.ref (Cs.getD i 0)) (.ref P) = some true
  ve : PySem.W.kitOne K (.ref (Cs.getD i 0)) (.type "ValueError") = some true
  kit : ∀ j, j < Cs.length → PySem.W.kitOne K (.ref (Cs.getD i 0)) (.ref (Cs.getD j 0)) = some (i == j)
  exm : ∀ j, j < Cs.length → PySem.W.exmOne K (.ref (Cs.getD i 0)) (.ref (Cs.getD j 0)) = some (i == j)
theorem tabE_of {K : PySem.W.Frag} {Cs : List Addr} {P : Addr} (h : tabE K Cs P = true) {i : Nat} (hi : i < Cs.length) : TabE K Cs P i := by
  have z := List.all_eq_true.mp h i (List.mem_range.mpr hi)
  simp only [Bool.and_eq_true, decide_eq_true_eq] at z
  obtain ⟨h1, h2, h3, h4⟩ := z
  have k := fun j hj => by
    have y := List.all_eq_true.mp h4 j (List.mem_range.mpr hj)
    simp only [Bool.and_eq_true, decide_eq_true_eq] at y
    exact y
  exact ⟨excC_of h1, h2, h3, fun j hj => (k j hj).1, fun j hj => (k j hj).2⟩
end Bz
namespace Pf
open PySem PySem.Spec PyProof.Rows L2 Bz
def top (i : Nat) : Stmt := PySem.Challenge.pw_enoughpaid_k27_errors_made.main.body.getD i (.Pass ⟨0, 0, 0, 0⟩)
abbrev s_BadArrow___init__ : Stmt := inClass (top 2) 0
abbrev N_BadArrow___init__ : List PySem.Str := ["self", "line"]
theorem sc_BadArrow___init__ : FnScope N_BadArrow___init__ ["self", "line"] (defScope s_BadArrow___init__) := ⟨rfl, rfl, rfl, by decide +kernel, rfl, by decide +kernel, by decide +kernel⟩
abbrev s_BadState___init__ : Stmt := inClass (top 3) 0
abbrev N_BadState___init__ : List PySem.Str := ["self", "state"]
theorem sc_BadState___init__ : FnScope N_BadState___init__ ["self", "state"] (defScope s_BadState___init__) := ⟨rfl, rfl, rfl, by decide +kernel, rfl, by decide +kernel, by decide +kernel⟩
abbrev s_TooMany___init__ : Stmt := inClass (top 4) 0
abbrev N_TooMany___init__ : List PySem.Str := ["self", "count"]
theorem sc_TooMany___init__ : FnScope N_TooMany___init__ ["self", "count"] (defScope s_TooMany___init__) := ⟨rfl, rfl, rfl, by decide +kernel, rfl, by decide +kernel, by decide +kernel⟩
abbrev s_BadText___init__ : Stmt := inClass (top 5) 0
abbrev N_BadText___init__ : List PySem.Str := ["self", "line"]
theorem sc_BadText___init__ : FnScope N_BadText___init__ ["self", "line"] (defScope s_BadText___init__) := ⟨rfl, rfl, rfl, by decide +kernel, rfl, by decide +kernel, by decide +kernel⟩
abbrev s_BadRow___init__ : Stmt := inClass (top 6) 0
abbrev N_BadRow___init__ : List PySem.Str := ["self", "row"]
theorem sc_BadRow___init__ : FnScope N_BadRow___init__ ["self", "row"] (defScope s_BadRow___init__) := ⟨rfl, rfl, rfl, by decide +kernel, rfl, by decide +kernel, by decide +kernel⟩
abbrev s_UnknownState___init__ : Stmt := inClass (top 7) 0
abbrev N_UnknownState___init__ : List PySem.Str := ["self", "state"]
theorem sc_UnknownState___init__ : FnScope N_UnknownState___init__ ["self", "state"] (defScope s_UnknownState___init__) := ⟨rfl, rfl, rfl, by decide +kernel, rfl, by decide +kernel, by decide +kernel⟩
abbrev s_UnknownArrow___init__ : Stmt := inClass (top 8) 0
abbrev N_UnknownArrow___init__ : List PySem.Str := ["self", "arrow"]
theorem sc_UnknownArrow___init__ : FnScope N_UnknownArrow___init__ ["self", "arrow"] (defScope s_UnknownArrow___init__) := ⟨rfl, rfl, rfl, by decide +kernel, rfl, by decide +kernel, by decide +kernel⟩
abbrev s_BadNumber___init__ : Stmt := inClass (top 9) 0
abbrev N_BadNumber___init__ : List PySem.Str := ["self", "number"]
theorem sc_BadNumber___init__ : FnScope N_BadNumber___init__ ["self", "number"] (defScope s_BadNumber___init__) := ⟨rfl, rfl, rfl, by decide +kernel, rfl, by decide +kernel, by decide +kernel⟩
abbrev s_BadExpression___init__ : Stmt := inClass (top 10) 0
abbrev N_BadExpression___init__ : List PySem.Str := ["self", "place"]
theorem sc_BadExpression___init__ : FnScope N_BadExpression___init__ ["self", "place"] (defScope s_BadExpression___init__) := ⟨rfl, rfl, rfl, by decide +kernel, rfl, by decide +kernel, by decide +kernel⟩
abbrev s_NotSettled___init__ : Stmt := inClass (top 11) 0
abbrev N_NotSettled___init__ : List PySem.Str := ["self", "part"]
theorem sc_NotSettled___init__ : FnScope N_NotSettled___init__ ["self", "part"] (defScope s_NotSettled___init__) := ⟨rfl, rfl, rfl, by decide +kernel, rfl, by decide +kernel, by decide +kernel⟩
abbrev s_BadTally___init__ : Stmt := inClass (top 12) 0
abbrev N_BadTally___init__ : List PySem.Str := ["self"]
theorem sc_BadTally___init__ : FnScope N_BadTally___init__ ["self"] (defScope s_BadTally___init__) := ⟨rfl, rfl, rfl, by decide +kernel, rfl, by decide +kernel, by decide +kernel⟩
abbrev s_Unbounded___init__ : Stmt := inClass (top 13) 0
abbrev N_Unbounded___init__ : List PySem.Str := ["self"]
theorem sc_Unbounded___init__ : FnScope N_Unbounded___init__ ["self"] (defScope s_Unbounded___init__) := ⟨rfl, rfl, rfl, by decide +kernel, rfl, by decide +kernel, by decide +kernel⟩
abbrev s__law_source : Stmt := top 15
abbrev N__law_source : List PySem.Str := ["_law_script", "_law_great", "_law_seed", "_law_cell"]
theorem sc__law_source : FnScope N__law_source ["_law_script"] (defScope s__law_source) := ⟨rfl, rfl, rfl, by decide +kernel, rfl, by decide +kernel, by decide +kernel⟩
abbrev s__law_draw : Stmt := top 16
abbrev N__law_draw : List PySem.Str := ["_law_source_here", "_law_many", "_law_digit", "_law_mixed"]
theorem sc__law_draw : FnScope N__law_draw ["_law_source_here", "_law_many"] (defScope s__law_draw) := ⟨rfl, rfl, rfl, by decide +kernel, rfl, by decide +kernel, by decide +kernel⟩
abbrev s__law_pick : Stmt := top 17
abbrev N__law_pick : List PySem.Str := ["_law_source_here", "_law_things"]
theorem sc__law_pick : FnScope N__law_pick ["_law_source_here", "_law_things"] (defScope s__law_pick) := ⟨rfl, rfl, rfl, by decide +kernel, rfl, by decide +kernel, by decide +kernel⟩
abbrev s__law_raised : Stmt := top 18
abbrev N__law_raised : List PySem.Str := ["_law_how", "_law_a"]
theorem sc__law_raised : FnScope N__law_raised ["_law_how", "_law_a"] (defScope s__law_raised) := ⟨rfl, rfl, rfl, by decide +kernel, rfl, by decide +kernel, by decide +kernel⟩
abbrev s__law_fields : Stmt := top 19
abbrev N__law_fields : List PySem.Str := ["_law_how", "_law_a", "_law_found", "e"]
theorem sc__law_fields : FnScope N__law_fields ["_law_how", "_law_a"] (defScope s__law_fields) := ⟨rfl, rfl, rfl, by decide +kernel, rfl, by decide +kernel, by decide +kernel⟩
abbrev s__law_kinds : Stmt := top 20
abbrev N__law_kinds : List PySem.Str := ["_law_how", "_law_a", "_law_found", "e"]
theorem sc__law_kinds : FnScope N__law_kinds ["_law_how", "_law_a"] (defScope s__law_kinds) := ⟨rfl, rfl, rfl, by decide +kernel, rfl, by decide +kernel, by decide +kernel⟩
abbrev s_law : Stmt := top 21
abbrev N_law : List PySem.Str := ["_law_script", "_law_source_here", "_law_things", "_law_how", "_law_a", "_law_named", "_law_k"]
theorem sc_law : FnScope N_law ["_law_script"] (defScope s_law) := ⟨rfl, rfl, rfl, by decide +kernel, rfl, by decide +kernel, by decide +kernel⟩
structure Cl where
  BadArrow : Addr
  BadState : Addr
  TooMany : Addr
  BadText : Addr
  BadRow : Addr
  UnknownState : Addr
  UnknownArrow : Addr
  BadNumber : Addr
  BadExpression : Addr
  NotSettled : Addr
  BadTally : Addr
  Unbounded : Addr
  PaidError : Addr
structure Facts (K : PySem.W.Frag) (mg : PySem.Str → Option Value) (kl : Cl) : Prop where
  x_BadArrow : Err1 K mg "BadArrow" "BadArrow.__init__" "line" kl.BadArrow s_BadArrow___init__
  x_BadState : Err1 K mg "BadState" "BadState.__init__" "state" kl.BadState s_BadState___init__
  x_TooMany : Err1 K mg "TooMany" "TooMany.__init__" "count" kl.TooMany s_TooMany___init__
  x_BadText : Err1 K mg "BadText" "BadText.__init__" "line" kl.BadText s_BadText___init__
  x_BadRow : Err1 K mg "BadRow" "BadRow.__init__" "row" kl.BadRow s_BadRow___init__
  x_UnknownState : Err1 K mg "UnknownState" "UnknownState.__init__" "state" kl.UnknownState s_UnknownState___init__
  x_UnknownArrow : Err1 K mg "UnknownArrow" "UnknownArrow.__init__" "arrow" kl.UnknownArrow s_UnknownArrow___init__
  x_BadNumber : Err1 K mg "BadNumber" "BadNumber.__init__" "number" kl.BadNumber s_BadNumber___init__
  x_BadExpression : Err1 K mg "BadExpression" "BadExpression.__init__" "place" kl.BadExpression s_BadExpression___init__
  x_NotSettled : Err1 K mg "NotSettled" "NotSettled.__init__" "part" kl.NotSettled s_NotSettled___init__
  x_BadTally : Err0 K mg "BadTally" "BadTally.__init__" kl.BadTally s_BadTally___init__
  x_Unbounded : Err0 K mg "Unbounded" "Unbounded.__init__" kl.Unbounded s_Unbounded___init__
  g_PaidError : mg "PaidError" = some (.ref kl.PaidError)
  etab : tabE K [kl.BadArrow, kl.BadState, kl.TooMany, kl.BadText, kl.BadRow, kl.UnknownState, kl.UnknownArrow, kl.BadNumber, kl.BadExpression, kl.NotSettled, kl.BadTally, kl.Unbounded] kl.PaidError = true
  d__law_source : DefAt K mg "_law_source" s__law_source ["_law_script"]
  d__law_draw : DefAt K mg "_law_draw" s__law_draw ["_law_source_here", "_law_many"]
  d__law_pick : DefAt K mg "_law_pick" s__law_pick ["_law_source_here", "_law_things"]
  d__law_raised : DefAt K mg "_law_raised" s__law_raised ["_law_how", "_law_a"]
  d__law_fields : DefAt K mg "_law_fields" s__law_fields ["_law_how", "_law_a"]
  d__law_kinds : DefAt K mg "_law_kinds" s__law_kinds ["_law_how", "_law_a"]
  b_int : mg "int" = none
  b_len : mg "len" = none
  b_range : mg "range" = none
  b_isinstance : mg "isinstance" = none
  b_ValueError : mg "ValueError" = none
end Pf
namespace Pf
open PySem PySem.Spec PyProof.Rows L2 Bz
local macro_rules | `(tactic| walk_at "sd") => `(tactic| first
  | rfl | assumption | omega | exact Nat.le_of_ble_eq_true rfl | decide | (refine Or.inl (And.intro ?_ ?_) <;> omega) | (refine Or.inr (And.intro ?_ ?_) <;> omega) | (refine And.intro ?_ ?_ <;> omega) | (refine ⟨?_, ?_, ?_⟩ <;> omega))
local macro_rules | `(tactic| walk_at "sq") => `(tactic| first | assumption | exact SqL.of (by assumption) | exact SqT.of (by assumption) | exact SqL.of upd_same | exact SqT.of upd_same)
local macro_rules | `(tactic| walk_at "hp") => `(tactic| first | assumption | exact upd_same)
local macro_rules | `(tactic| walk_at "rd") => `(tactic| repeat (first
  | (refine ⟨_, rfl, ?_⟩) | (refine ⟨_, _, rfl, rfl, ?_⟩) | (refine ⟨rfl, ?_⟩) | (refine And.intro (by walk_at "sd") ?_)
  | (refine ⟨_, _, _, _, rfl, rfl, (by walk_at "sq"), rfl, ?_⟩)
  | (refine ⟨_, _, _, _, rfl, rfl, (by walk_at "hp"), rfl, ?_⟩)
  | (refine Or.inl ⟨_, rfl, ?_⟩)))
section
variable {P : Program} {w : World} {K : PySem.W.Frag} {mg : PySem.Str → Option Value} {base : Heap} {kl : Cl}
theorem ok__law_source (T : Facts K mg kl) : Keeps P w K mg base CX0 1 "_law_source" ["_law_script"] (spSource K) := by
  refine keeps0 T.d__law_source sc__law_source (fun vs H Q E h => ?_) (fun f cdv A outer s H vs Q E hr h => ?_)
  · obtain ⟨a, ns, rfl, _⟩ := h
    rfl
  · obtain ⟨a, ns, rfl, hS, k⟩ := h
    refine ⟨_, (pss_cons (ps_asg (pe_tup (pa_cons pe_int (pa_cons pe_int pa_nil))) (kpg_tup K rfl (pgs_cons (pg_name (i := 1) sc__law_source.nd rfl (Or.inl rfl)) (pgs_cons (pg_name (i := 2) sc__law_source.nd rfl (Or.inl rfl)) pgs_nil))))
  (pss_cons (ps_for PassesOwn.never rfl (kpi_list K (pv 0)) (pg_name (i := 3) sc__law_source.nd rfl (Or.inl rfl))
  (Evl.pss_cut (ps_if (PW.pt (pw_and (pt_cmpR op_eq (pv 1) pe_int (nomark _)) (pw_and1 (pt_cmpR op_ge (pv 3) (pe_op op_pow pe_int pe_int) (nomark _)))))
  (pss_one (ps_set (i := 1) sc__law_source.nd rfl (Or.inl rfl) (pv 3)))
  pss_nil)
  (pss_one (ps_set (i := 2) sc__law_source.nd rfl (Or.inl rfl) (pe_op op_modN (pe_callTy call_int1 (by rfl) T.b_int (by decide +kernel) (pa_cons (pe_op op_add (pe_op op_add (pe_op op_mul (pv 2) pe_int) (pv 3)) pe_int) pa_nil)) pe_int)))))
  (pss_one (ps_ret (pe_lst (pa_cons (pv 1) (pa_cons (pv 2) (pa_cons pe_int pa_nil)))))))), ?_⟩
    refine ⟨by decide, fun tp htp => ⟨tp, _, rfl, SqT.of upd_same, rfl, _, _, rfl, _, _, rfl, rfl, ?_⟩⟩
    have hs1 : Same H (upd H tp (.tup [.int 0, .int 17])) := same_new htp
    refine ⟨_, rfl, a, rfl, ⟨_, hs1.seq hS⟩, for_list (K := K) (a := a) (xs := ns.map V.int) (fun i σ H' => ∃ (g s : Int) (v : Option V), σ = [some (.ref a), some (.int g), some (.int s), v] ∧ H' = upd H tp (.tup [.int 0, .int 17]) ∧ 0 ≤ s ∧ s < 2147483647)
      ⟨0, 17, none, rfl, rfl, by decide, by decide⟩ (fun i σ H' _ ⟨_, _, _, _, e, _⟩ => by rw [e]; exact hs1.seq hS) ?_ ?_⟩
    · rintro i y σ H' hi ⟨g, s, v, rfl, rfl, h1, h2⟩
      obtain ⟨u, rfl, hu⟩ := map_int hi
      have e1 := Int.fmod_nonneg_of_pos (s * 31 + u + 7) (b := 2147483647) (by decide)
      have e2 := Int.fmod_lt_of_pos (s * 31 + u + 7) (b := 2147483647) (by decide)
      refine ⟨fun σ' H' => ∃ g' : Int, σ' = [some (.ref a), some (.int g'), some (.int s), some (.int u)] ∧ H' = upd H tp (.tup [.int 0, .int 17]), ?_, ?_⟩
      · walk_at "rd"
        refine ite2 (fun hc => ?_) (fun hc => ?_)
        · walk_at "rd"
          refine ite2 (fun hc => ?_) (fun hc => ?_)
          · exact ⟨_, rfl, u, rfl, rfl⟩
          · exact ⟨g, rfl, rfl⟩
        · exact ⟨g, rfl, rfl⟩
      · rintro σ' H' ⟨g', rfl, rfl⟩
        walk_at "rd"
        exact ⟨g', _, _, rfl, rfl, e1, e2⟩
    · rintro σ H' ⟨g, s, v, rfl, rfl, h1, h2⟩
      walk_at "rd"
      refine fun p hp => ?_
      have hp0 := hs1.free hp
      exact k p _ hp0 ⟨g, s, 0, upd_same, h1, h2, by omega, by omega⟩ (same_mut hs1 hp0)
theorem ok__law_draw (T : Facts K mg kl) : Keeps P w K mg base CX0 1 "_law_draw" ["_law_source_here", "_law_many"] spDraw := by
  refine keeps0 T.d__law_draw sc__law_draw (fun vs H Q E h => ?_) (fun f cdv A outer s H vs Q E hr h => ?_)
  · obtain ⟨p, n, c, rfl, _⟩ := h
    rfl
  · obtain ⟨p, n, c, rfl, ⟨g, s, j, hp, h1, h2, h3, h4⟩, hc, n0, n1, k⟩ := h
    refine ⟨_, (pss_cons (ps_asg (pe_op op_add (pe_ix (kix_list K) (pv 0) pe_int (fun _ _ => rfl)) pe_int) (pg_sub (pv 0) pe_int set_list))
  (pss_cons (ps_if (pt_cmpR op_gt (pe_ix (kix_list K) (pv 0) pe_int (fun _ _ => rfl)) pe_int (nomark _))
  (pss_cons (ps_set (i := 2) sc__law_draw.nd rfl (Or.inl rfl) (pe_op op_modN (pe_callTy call_int1 (by rfl) T.b_int (by decide +kernel) (pa_cons (pe_ix (kix_list K) (pv 0) pe_int (fun _ _ => rfl)) pa_nil)) (pv 1)))
  (pss_cons (ps_asg (pe_op op_fdivN (pe_ix (kix_list K) (pv 0) pe_int (fun _ _ => rfl)) (pv 1)) (pg_sub (pv 0) pe_int set_list))
  (pss_one (ps_ret (pv 2)))))
  pss_nil)
  (pss_cons (ps_set (i := 3) sc__law_draw.nd rfl (Or.inl rfl) (pe_op op_modN (pe_op op_pow (pe_op op_add (pe_ix (kix_list K) (pv 0) pe_int (fun _ _ => rfl)) (pe_op op_mul pe_int (pe_ix (kix_list K) (pv 0) pe_int (fun _ _ => rfl)))) pe_int) pe_int))
  (pss_one (ps_ret (pe_op op_modN (pe_op op_modN (pe_op op_pow (pe_op op_add (pe_op op_add (pe_op op_mul (pv 3) pe_int) (pe_op op_mul (pe_op op_mul pe_int (pe_ix (kix_list K) (pv 0) pe_int (fun _ _ => rfl))) (pe_ix (kix_list K) (pv 0) pe_int (fun _ _ => rfl)))) pe_int) pe_int) pe_int) (pv 1))))))), ?_⟩
    walk_at "rd"
    have hb : But p H (upd H p (.lst [.int g, .int s, .int (j + 1)])) := But.upd
    refine ite2 (fun hc => ?_) (fun hc => ?_)
    · walk_at "rd"
      have f1 := Int.fmod_nonneg_of_pos g n0
      have f2 := Int.fmod_lt_of_pos g n0
      exact k _ _ f1 f2 ⟨_, s, j + 1, upd_same, h1, h2, by omega, by omega⟩ (But.trans hb But.upd)
    · walk_at "rd"
      refine And.intro (draw_pow (by omega) (by omega)) ?_
      walk_at "rd"
      exact k _ _ (Int.fmod_nonneg_of_pos _ n0) (Int.fmod_lt_of_pos _ n0) ⟨g, s, j + 1, upd_same, h1, h2, by omega, by omega⟩ hb
theorem ok__law_pick (T : Facts K mg kl) : Keeps P w K mg base CX0 2 "_law_pick" ["_law_source_here", "_law_things"] (spPick K) := by
  refine keeps0 T.d__law_pick sc__law_pick (fun vs H Q E h => ?_) (fun f cdv A outer s H vs Q E hr h => ?_)
  · obtain ⟨p, a, xs, c, rfl, _⟩ := h
    rfl
  · obtain ⟨p, a, xs, c, rfl, hS, hc, hx, hne, h0, hl, k⟩ := h
    refine ⟨_, (pss_one (ps_ret (pe_ix (kix_list K) (pv 1) (pe_own (ok__law_draw T) hr (pa_cons (pv 0) (pa_cons (pe_callB (kcall_len K) (by rfl) T.b_len (by decide +kernel) (pa_cons (pv 1) pa_nil)) pa_nil))) (fun _ _ => rfl)))), ?_⟩
    have hpos : 0 < xs.length := List.length_pos_iff.mpr h0
    refine ⟨_, rfl, _, rfl, _, rfl, _, xs.length, rfl, .inl ⟨xs, hx, rfl⟩, p, (xs.length : Int), c, rfl, hS, hc, by omega, by omega, fun r H' r0 r1 hS' hb => ?_⟩
    obtain ⟨v, hv, ha⟩ := atI_of r0 r1
    exact ⟨_, _, _, _, rfl, rfl, hb.ext.sq hne hx, ha, k v H' hv hS' hb⟩
end
end Pf
namespace Pf
open PySem PySem.Spec PyProof.Rows L2 Bz
local macro_rules | `(tactic| walk_at "sd") => `(tactic| first
  | rfl | assumption | omega | exact Nat.le_of_ble_eq_true rfl | decide | (refine Or.inl (And.intro ?_ ?_) <;> omega) | (refine Or.inr (And.intro ?_ ?_) <;> omega) | (refine And.intro ?_ ?_ <;> omega) | (refine ⟨?_, ?_, ?_⟩ <;> omega))
local macro_rules | `(tactic| walk_at "sq") => `(tactic| first | assumption | exact SqL.of (by assumption) | exact SqT.of (by assumption) | exact SqL.of upd_same | exact SqT.of upd_same)
local macro_rules | `(tactic| walk_at "hp") => `(tactic| first | assumption | exact upd_same)
local macro_rules | `(tactic| walk_at "rd") => `(tactic| repeat (first
  | (refine ⟨_, rfl, ?_⟩) | (refine ⟨_, _, rfl, rfl, ?_⟩) | (refine ⟨rfl, ?_⟩) | (refine And.intro (by walk_at "sd") ?_)
  | (refine ⟨_, _, _, _, rfl, rfl, (by walk_at "sq"), rfl, ?_⟩)
  | (refine ⟨_, _, _, _, rfl, rfl, (by walk_at "hp"), rfl, ?_⟩)
  | (refine Or.inl ⟨_, rfl, ?_⟩)))
section
variable {P : Program} {w : World} {K : PySem.W.Frag} {mg : PySem.Str → Option Value} {base : Heap} {kl : Cl}
abbrev csE (kl : Cl) : List Addr := [kl.BadArrow, kl.BadState, kl.TooMany, kl.BadText, kl.BadRow, kl.UnknownState, kl.UnknownArrow, kl.BadNumber, kl.BadExpression, kl.NotSettled, kl.BadTally, kl.Unbounded]
def flE : Nat → Option PySem.Str
  | 0 => some "line"
  | 1 => some "state"
  | 2 => some "count"
  | 3 => some "line"
  | 4 => some "row"
  | 5 => some "state"
  | 6 => some "arrow"
  | 7 => some "number"
  | 8 => some "place"
  | 9 => some "part"
  | _ => none
def spRaised (kl : Cl) : Sp := fun vs H _ E => ∃ (n : Nat) (v : V), vs = [.int n, v] ∧ n < 12 ∧ (∀ f, flE n = some f → ∀ d, H d = none → E (.ref ((csE kl).getD n 0)) (some d) (upd H d (.xd [(f, v)]))) ∧ (flE n = none → E (.ref ((csE kl).getD n 0)) none H)
theorem ok__law_raised (T : Facts K mg kl) : Keeps P w K mg base (L2.CX P w) 3 "_law_raised" ["_law_how", "_law_a"] (spRaised kl) := by
  refine keepsX T.d__law_raised sc__law_raised (fun vs H Q E h => ?_) (fun f cdv A outer s H vs Q E hr h => ?_)
  · obtain ⟨n, v, rfl, _⟩ := h
    rfl
  · obtain ⟨n, v, rfl, hn, h1, h2⟩ := h
    refine ⟨_, (pss_cons (ps_if (pt_cmpR op_eq (pv 0) pe_int (nomark _))
  (pss_one (ps_raise rfl (takes_of rfl rfl rfl rfl) (pmk_e1 T.x_BadArrow sc_BadArrow___init__ hr (pa_cons (pv 1) pa_nil))))
  pss_nil)
  (pss_cons (ps_if (pt_cmpR op_eq (pv 0) pe_int (nomark _))
  (pss_one (ps_raise rfl (takes_of rfl rfl rfl rfl) (pmk_e1 T.x_BadState sc_BadState___init__ hr (pa_cons (pv 1) pa_nil))))
  pss_nil)
  (pss_cons (ps_if (pt_cmpR op_eq (pv 0) pe_int (nomark _))
  (pss_one (ps_raise rfl (takes_of rfl rfl rfl rfl) (pmk_e1 T.x_TooMany sc_TooMany___init__ hr (pa_cons (pv 1) pa_nil))))
  pss_nil)
  (pss_cons (ps_if (pt_cmpR op_eq (pv 0) pe_int (nomark _))
  (pss_one (ps_raise rfl (takes_of rfl rfl rfl rfl) (pmk_e1 T.x_BadText sc_BadText___init__ hr (pa_cons (pv 1) pa_nil))))
  pss_nil)
  (pss_cons (ps_if (pt_cmpR op_eq (pv 0) pe_int (nomark _))
  (pss_one (ps_raise rfl (takes_of rfl rfl rfl rfl) (pmk_e1 T.x_BadRow sc_BadRow___init__ hr (pa_cons (pv 1) pa_nil))))
  pss_nil)
  (pss_cons (ps_if (pt_cmpR op_eq (pv 0) pe_int (nomark _))
  (pss_one (ps_raise rfl (takes_of rfl rfl rfl rfl) (pmk_e1 T.x_UnknownState sc_UnknownState___init__ hr (pa_cons (pv 1) pa_nil))))
  pss_nil)
  (pss_cons (ps_if (pt_cmpR op_eq (pv 0) pe_int (nomark _))
  (pss_one (ps_raise rfl (takes_of rfl rfl rfl rfl) (pmk_e1 T.x_UnknownArrow sc_UnknownArrow___init__ hr (pa_cons (pv 1) pa_nil))))
  pss_nil)
  (pss_cons (ps_if (pt_cmpR op_eq (pv 0) pe_int (nomark _))
  (pss_one (ps_raise rfl (takes_of rfl rfl rfl rfl) (pmk_e1 T.x_BadNumber sc_BadNumber___init__ hr (pa_cons (pv 1) pa_nil))))
  pss_nil)
  (pss_cons (ps_if (pt_cmpR op_eq (pv 0) pe_int (nomark _))
  (pss_one (ps_raise rfl (takes_of rfl rfl rfl rfl) (pmk_e1 T.x_BadExpression sc_BadExpression___init__ hr (pa_cons (pv 1) pa_nil))))
  pss_nil)
  (pss_cons (ps_if (pt_cmpR op_eq (pv 0) pe_int (nomark _))
  (pss_one (ps_raise rfl (takes_of rfl rfl rfl rfl) (pmk_e1 T.x_NotSettled sc_NotSettled___init__ hr (pa_cons (pv 1) pa_nil))))
  pss_nil)
  (pss_cons (ps_if (pt_cmpR op_eq (pv 0) pe_int (nomark _))
  (pss_one (ps_raise rfl (takes_of rfl rfl rfl rfl) (pmk_e0 T.x_BadTally sc_BadTally___init__ hr)))
  pss_nil)
  (pss_one (ps_raise rfl (takes_of rfl rfl rfl rfl) (pmk_e0 T.x_Unbounded sc_Unbounded___init__ hr)))))))))))))), ?_⟩
    walk_at "rd"
    refine ite2 (fun hc => ?_) (fun hc => ?_)
    · have e : n = 0 := by
        simp at hc
        omega
      subst e
      exact ⟨_, rfl, _, rfl, fun d hd => h1 _ rfl d hd⟩
    have n0 : n ≠ 0 := fun z => by
      rw [z] at hc
      simp at hc
    walk_at "rd"
    refine ite2 (fun hc => ?_) (fun hc => ?_)
    · have e : n = 1 := by
        simp at hc
        omega
      subst e
      exact ⟨_, rfl, _, rfl, fun d hd => h1 _ rfl d hd⟩
    have n1 : n ≠ 1 := fun z => by
      rw [z] at hc
      simp at hc
    walk_at "rd"
    refine ite2 (fun hc => ?_) (fun hc => ?_)
    · have e : n = 2 := by
        simp at hc
        omega
      subst e
      exact ⟨_, rfl, _, rfl, fun d hd => h1 _ rfl d hd⟩
    have n2 : n ≠ 2 := fun z => by
      rw [z] at hc
      simp at hc
    walk_at "rd"
    refine ite2 (fun hc => ?_) (fun hc => ?_)
    · have e : n = 3 := by
        simp at hc
        omega
      subst e
      exact ⟨_, rfl, _, rfl, fun d hd => h1 _ rfl d hd⟩
    have n3 : n ≠ 3 := fun z => by
      rw [z] at hc
      simp at hc
    walk_at "rd"
    refine ite2 (fun hc => ?_) (fun hc => ?_)
    · have e : n = 4 := by
        simp at hc
        omega
      subst e
      exact ⟨_, rfl, _, rfl, fun d hd => h1 _ rfl d hd⟩
    have n4 : n ≠ 4 := fun z => by
      rw [z] at hc
      simp at hc
    walk_at "rd"
    refine ite2 (fun hc => ?_) (fun hc => ?_)
    · have e : n = 5 := by
        simp at hc
        omega
      subst e
      exact ⟨_, rfl, _, rfl, fun d hd => h1 _ rfl d hd⟩
    have n5 : n ≠ 5 := fun z => by
      rw [z] at hc
      simp at hc
    walk_at "rd"
    refine ite2 (fun hc => ?_) (fun hc => ?_)
    · have e : n = 6 := by
        simp at hc
        omega
      subst e
      exact ⟨_, rfl, _, rfl, fun d hd => h1 _ rfl d hd⟩
    have n6 : n ≠ 6 := fun z => by
      rw [z] at hc
      simp at hc
    walk_at "rd"
    refine ite2 (fun hc => ?_) (fun hc => ?_)
    · have e : n = 7 := by
        simp at hc
        omega
      subst e
      exact ⟨_, rfl, _, rfl, fun d hd => h1 _ rfl d hd⟩
    have n7 : n ≠ 7 := fun z => by
      rw [z] at hc
      simp at hc
    walk_at "rd"
    refine ite2 (fun hc => ?_) (fun hc => ?_)
    · have e : n = 8 := by
        simp at hc
        omega
      subst e
      exact ⟨_, rfl, _, rfl, fun d hd => h1 _ rfl d hd⟩
    have n8 : n ≠ 8 := fun z => by
      rw [z] at hc
      simp at hc
    walk_at "rd"
    refine ite2 (fun hc => ?_) (fun hc => ?_)
    · have e : n = 9 := by
        simp at hc
        omega
      subst e
      exact ⟨_, rfl, _, rfl, fun d hd => h1 _ rfl d hd⟩
    have n9 : n ≠ 9 := fun z => by
      rw [z] at hc
      simp at hc
    walk_at "rd"
    refine ite2 (fun hc => ?_) (fun hc => ?_)
    · have e : n = 10 := by
        simp at hc
        omega
      subst e
      exact h2 rfl
    have n10 : n ≠ 10 := fun z => by
      rw [z] at hc
      simp at hc
    have e : n = 11 := by omega
    subst e
    exact h2 rfl
end
end Pf
namespace Pf
open PySem PySem.Spec PyProof.Rows L2 Bz
local macro_rules | `(tactic| walk_at "sd") => `(tactic| first
  | rfl | assumption | omega | exact Nat.le_of_ble_eq_true rfl | decide | (refine Or.inl (And.intro ?_ ?_) <;> omega) | (refine Or.inr (And.intro ?_ ?_) <;> omega) | (refine And.intro ?_ ?_ <;> omega) | (refine ⟨?_, ?_, ?_⟩ <;> omega))
local macro_rules | `(tactic| walk_at "sq") => `(tactic| first | assumption | exact SqL.of (by assumption) | exact SqT.of (by assumption) | exact SqL.of upd_same | exact SqT.of upd_same)
local macro_rules | `(tactic| walk_at "hp") => `(tactic| first | assumption | exact upd_same)
local macro_rules | `(tactic| walk_at "rd") => `(tactic| repeat (first
  | (refine ⟨_, rfl, ?_⟩) | (refine ⟨_, _, rfl, rfl, ?_⟩) | (refine ⟨rfl, ?_⟩) | (refine And.intro (by walk_at "sd") ?_)
  | (refine ⟨_, _, _, _, rfl, rfl, (by walk_at "sq"), rfl, ?_⟩)
  | (refine ⟨_, _, _, _, rfl, rfl, (by walk_at "hp"), rfl, ?_⟩)
  | (refine Or.inl ⟨_, rfl, ?_⟩)))
section
variable {P : Program} {w : World} {K : PySem.W.Frag} {mg : PySem.Str → Option Value} {base : Heap} {kl : Cl}
/-- what a def hands back that makes a list -/
def spListed (f : Nat → V → List V) : Sp := fun vs H Q _ => ∃ (n : Nat) (v : V), vs = [.int n, v] ∧ n < 12 ∧ ∀ a H', Same H H' → H a = none → H' a = some (.lst (f n v)) → Q (.ref a) H'
theorem ok__law_fields (T : Facts K mg kl) : Keeps P w K mg base CX0 4 "_law_fields" ["_law_how", "_law_a"] (spListed fun n v => [.int n, v]) := by
  refine keeps0 T.d__law_fields sc__law_fields (fun vs H Q E h => ?_) (fun f cdv A outer s H vs Q E hr h => ?_)
  · obtain ⟨n, v, rfl, _⟩ := h
    rfl
  · obtain ⟨n, v, rfl, hn, k⟩ := h
    refine ⟨_, (pss_cons (ps_set (i := 2) sc__law_fields.nd rfl (Or.inl rfl) (pe_lst pa_nil))
  (pss_cons (ps_tryAll rfl rfl takes0 (fun W pn xe tk po =>
  (pss_one (ps_expr (pe_ownS (ok__law_raised T) hr tk (pa_cons (pv 0) (pa_cons (pv 1) pa_nil))))))
  (.named (i := 3) sc__law_fields.nd rfl rfl ⟨rfl, by decide, .inl T.x_BadArrow.g⟩ (fun a oe cls d pn hz hf =>
  (pss_one (ps_set (i := 2) sc__law_fields.nd rfl (Or.inl rfl) (pe_lst (pa_cons pe_int (pa_cons (pe_xf T.x_BadArrow.xf T.x_BadArrow.no hz hf (pv 3)) pa_nil))))))
  (.named (i := 3) sc__law_fields.nd rfl rfl ⟨rfl, by decide, .inl T.x_BadState.g⟩ (fun a oe cls d pn hz hf =>
  (pss_one (ps_set (i := 2) sc__law_fields.nd rfl (Or.inl rfl) (pe_lst (pa_cons pe_int (pa_cons (pe_xf T.x_BadState.xf T.x_BadState.no hz hf (pv 3)) pa_nil))))))
  (.named (i := 3) sc__law_fields.nd rfl rfl ⟨rfl, by decide, .inl T.x_TooMany.g⟩ (fun a oe cls d pn hz hf =>
  (pss_one (ps_set (i := 2) sc__law_fields.nd rfl (Or.inl rfl) (pe_lst (pa_cons pe_int (pa_cons (pe_xf T.x_TooMany.xf T.x_TooMany.no hz hf (pv 3)) pa_nil))))))
  (.named (i := 3) sc__law_fields.nd rfl rfl ⟨rfl, by decide, .inl T.x_BadText.g⟩ (fun a oe cls d pn hz hf =>
  (pss_one (ps_set (i := 2) sc__law_fields.nd rfl (Or.inl rfl) (pe_lst (pa_cons pe_int (pa_cons (pe_xf T.x_BadText.xf T.x_BadText.no hz hf (pv 3)) pa_nil))))))
  (.named (i := 3) sc__law_fields.nd rfl rfl ⟨rfl, by decide, .inl T.x_BadRow.g⟩ (fun a oe cls d pn hz hf =>
  (pss_one (ps_set (i := 2) sc__law_fields.nd rfl (Or.inl rfl) (pe_lst (pa_cons pe_int (pa_cons (pe_xf T.x_BadRow.xf T.x_BadRow.no hz hf (pv 3)) pa_nil))))))
  (.named (i := 3) sc__law_fields.nd rfl rfl ⟨rfl, by decide, .inl T.x_UnknownState.g⟩ (fun a oe cls d pn hz hf =>
  (pss_one (ps_set (i := 2) sc__law_fields.nd rfl (Or.inl rfl) (pe_lst (pa_cons pe_int (pa_cons (pe_xf T.x_UnknownState.xf T.x_UnknownState.no hz hf (pv 3)) pa_nil))))))
  (.named (i := 3) sc__law_fields.nd rfl rfl ⟨rfl, by decide, .inl T.x_UnknownArrow.g⟩ (fun a oe cls d pn hz hf =>
  (pss_one (ps_set (i := 2) sc__law_fields.nd rfl (Or.inl rfl) (pe_lst (pa_cons pe_int (pa_cons (pe_xf T.x_UnknownArrow.xf T.x_UnknownArrow.no hz hf (pv 3)) pa_nil))))))
  (.named (i := 3) sc__law_fields.nd rfl rfl ⟨rfl, by decide, .inl T.x_BadNumber.g⟩ (fun a oe cls d pn hz hf =>
  (pss_one (ps_set (i := 2) sc__law_fields.nd rfl (Or.inl rfl) (pe_lst (pa_cons pe_int (pa_cons (pe_xf T.x_BadNumber.xf T.x_BadNumber.no hz hf (pv 3)) pa_nil))))))
  (.named (i := 3) sc__law_fields.nd rfl rfl ⟨rfl, by decide, .inl T.x_BadExpression.g⟩ (fun a oe cls d pn hz hf =>
  (pss_one (ps_set (i := 2) sc__law_fields.nd rfl (Or.inl rfl) (pe_lst (pa_cons pe_int (pa_cons (pe_xf T.x_BadExpression.xf T.x_BadExpression.no hz hf (pv 3)) pa_nil))))))
  (.named (i := 3) sc__law_fields.nd rfl rfl ⟨rfl, by decide, .inl T.x_NotSettled.g⟩ (fun a oe cls d pn hz hf =>
  (pss_one (ps_set (i := 2) sc__law_fields.nd rfl (Or.inl rfl) (pe_lst (pa_cons pe_int (pa_cons (pe_xf T.x_NotSettled.xf T.x_NotSettled.no hz hf (pv 3)) pa_nil))))))
  (.plain ⟨rfl, by decide, .inl T.x_BadTally.g⟩ (fun a oe cls d pn _ _ =>
  (pss_one (ps_set (i := 2) sc__law_fields.nd rfl (Or.inl rfl) (pe_lst (pa_cons pe_int (pa_cons (pv 1) pa_nil))))))
  (.plain ⟨rfl, by decide, .inl T.x_Unbounded.g⟩ (fun a oe cls d pn _ _ =>
  (pss_one (ps_set (i := 2) sc__law_fields.nd rfl (Or.inl rfl) (pe_lst (pa_cons pe_int (pa_cons (pv 1) pa_nil))))))
  .nil)))))))))))))
  (pss_one (ps_ret (pv 2))))), ?_⟩
    refine ⟨Nat.le_of_ble_eq_true rfl, fun b0 hb0 => ?_⟩
    have s0 := same_new (o := .lst []) hb0
    generalize upd H b0 (.lst []) = H0 at s0 ⊢
    have ex := fun (j : Nat) (hj : j < 12) => (tabE_of T.etab (i := n) hn).exm j hj
    refine ⟨_, rfl, _, rfl, n, v, rfl, hn, fun f hf d hd => ?_, fun hf => ?_⟩
    · have sd := s0.trans (same_new (o := .xd [(f, v)]) hd)
      have c : n = 0 ∨ n = 1 ∨ n = 2 ∨ n = 3 ∨ n = 4 ∨ n = 5 ∨ n = 6 ∨ n = 7 ∨ n = 8 ∨ n = 9 ∨ n = 10 ∨ n = 11 := by omega
      rcases c with rfl | rfl | rfl | rfl | rfl | rfl | rfl | rfl | rfl | rfl | rfl | rfl
      · cases hf
        refine ⟨true, ex 0 (by decide), fun _ a ha => ?_, fun z => (by cases z)⟩
        refine ⟨_, rfl, rfl, rfl, d, _, _, rfl, upd_same, rfl, Nat.le_of_ble_eq_true rfl, fun q hq => ?_⟩
        exact ⟨_, rfl, k q _ (sd.trans (same_new hq)) (sd.free hq) upd_same⟩
      · cases hf
        refine ⟨false, ex 0 (by decide), fun z => (by cases z), fun _ => ?_⟩
        refine ⟨true, ex 1 (by decide), fun _ a ha => ?_, fun z => (by cases z)⟩
        refine ⟨_, rfl, rfl, rfl, d, _, _, rfl, upd_same, rfl, Nat.le_of_ble_eq_true rfl, fun q hq => ?_⟩
        exact ⟨_, rfl, k q _ (sd.trans (same_new hq)) (sd.free hq) upd_same⟩
      · cases hf
        refine ⟨false, ex 0 (by decide), fun z => (by cases z), fun _ => ?_⟩
        refine ⟨false, ex 1 (by decide), fun z => (by cases z), fun _ => ?_⟩
        refine ⟨true, ex 2 (by decide), fun _ a ha => ?_, fun z => (by cases z)⟩
        refine ⟨_, rfl, rfl, rfl, d, _, _, rfl, upd_same, rfl, Nat.le_of_ble_eq_true rfl, fun q hq => ?_⟩
        exact ⟨_, rfl, k q _ (sd.trans (same_new hq)) (sd.free hq) upd_same⟩
      · cases hf
        refine ⟨false, ex 0 (by decide), fun z => (by cases z), fun _ => ?_⟩
        refine ⟨false, ex 1 (by decide), fun z => (by cases z), fun _ => ?_⟩
        refine ⟨false, ex 2 (by decide), fun z => (by cases z), fun _ => ?_⟩
        refine ⟨true, ex 3 (by decide), fun _ a ha => ?_, fun z => (by cases z)⟩
        refine ⟨_, rfl, rfl, rfl, d, _, _, rfl, upd_same, rfl, Nat.le_of_ble_eq_true rfl, fun q hq => ?_⟩
        exact ⟨_, rfl, k q _ (sd.trans (same_new hq)) (sd.free hq) upd_same⟩
      · cases hf
        refine ⟨false, ex 0 (by decide), fun z => (by cases z), fun _ => ?_⟩
        refine ⟨false, ex 1 (by decide), fun z => (by cases z), fun _ => ?_⟩
        refine ⟨false, ex 2 (by decide), fun z => (by cases z), fun _ => ?_⟩
        refine ⟨false, ex 3 (by decide), fun z => (by cases z), fun _ => ?_⟩
        refine ⟨true, ex 4 (by decide), fun _ a ha => ?_, fun z => (by cases z)⟩
        refine ⟨_, rfl, rfl, rfl, d, _, _, rfl, upd_same, rfl, Nat.le_of_ble_eq_true rfl, fun q hq => ?_⟩
        exact ⟨_, rfl, k q _ (sd.trans (same_new hq)) (sd.free hq) upd_same⟩
      · cases hf
        refine ⟨false, ex 0 (by decide), fun z => (by cases z), fun _ => ?_⟩
        refine ⟨false, ex 1 (by decide), fun z => (by cases z), fun _ => ?_⟩
        refine ⟨false, ex 2 (by decide), fun z => (by cases z), fun _ => ?_⟩
        refine ⟨false, ex 3 (by decide), fun z => (by cases z), fun _ => ?_⟩
        refine ⟨false, ex 4 (by decide), fun z => (by cases z), fun _ => ?_⟩
        refine ⟨true, ex 5 (by decide), fun _ a ha => ?_, fun z => (by cases z)⟩
        refine ⟨_, rfl, rfl, rfl, d, _, _, rfl, upd_same, rfl, Nat.le_of_ble_eq_true rfl, fun q hq => ?_⟩
        exact ⟨_, rfl, k q _ (sd.trans (same_new hq)) (sd.free hq) upd_same⟩
      · cases hf
        refine ⟨false, ex 0 (by decide), fun z => (by cases z), fun _ => ?_⟩
        refine ⟨false, ex 1 (by decide), fun z => (by cases z), fun _ => ?_⟩
        refine ⟨false, ex 2 (by decide), fun z => (by cases z), fun _ => ?_⟩
        refine ⟨false, ex 3 (by decide), fun z => (by cases z), fun _ => ?_⟩
        refine ⟨false, ex 4 (by decide), fun z => (by cases z), fun _ => ?_⟩
        refine ⟨false, ex 5 (by decide), fun z => (by cases z), fun _ => ?_⟩
        refine ⟨true, ex 6 (by decide), fun _ a ha => ?_, fun z => (by cases z)⟩
        refine ⟨_, rfl, rfl, rfl, d, _, _, rfl, upd_same, rfl, Nat.le_of_ble_eq_true rfl, fun q hq => ?_⟩
        exact ⟨_, rfl, k q _ (sd.trans (same_new hq)) (sd.free hq) upd_same⟩
      · cases hf
        refine ⟨false, ex 0 (by decide), fun z => (by cases z), fun _ => ?_⟩
        refine ⟨false, ex 1 (by decide), fun z => (by cases z), fun _ => ?_⟩
        refine ⟨false, ex 2 (by decide), fun z => (by cases z), fun _ => ?_⟩
        refine ⟨false, ex 3 (by decide), fun z => (by cases z), fun _ => ?_⟩
        refine ⟨false, ex 4 (by decide), fun z => (by cases z), fun _ => ?_⟩
        refine ⟨false, ex 5 (by decide), fun z => (by cases z), fun _ => ?_⟩
        refine ⟨false, ex 6 (by decide), fun z => (by cases z), fun _ => ?_⟩
        refine ⟨true, ex 7 (by decide), fun _ a ha => ?_, fun z => (by cases z)⟩
        refine ⟨_, rfl, rfl, rfl, d, _, _, rfl, upd_same, rfl, Nat.le_of_ble_eq_true rfl, fun q hq => ?_⟩
        exact ⟨_, rfl, k q _ (sd.trans (same_new hq)) (sd.free hq) upd_same⟩
      · cases hf
        refine ⟨false, ex 0 (by decide), fun z => (by cases z), fun _ => ?_⟩
        refine ⟨false, ex 1 (by decide), fun z => (by cases z), fun _ => ?_⟩
        refine ⟨false, ex 2 (by decide), fun z => (by cases z), fun _ => ?_⟩
        refine ⟨false, ex 3 (by decide), fun z => (by cases z), fun _ => ?_⟩
        refine ⟨false, ex 4 (by decide), fun z => (by cases z), fun _ => ?_⟩
        refine ⟨false, ex 5 (by decide), fun z => (by cases z), fun _ => ?_⟩
        refine ⟨false, ex 6 (by decide), fun z => (by cases z), fun _ => ?_⟩
        refine ⟨false, ex 7 (by decide), fun z => (by cases z), fun _ => ?_⟩
        refine ⟨true, ex 8 (by decide), fun _ a ha => ?_, fun z => (by cases z)⟩
        refine ⟨_, rfl, rfl, rfl, d, _, _, rfl, upd_same, rfl, Nat.le_of_ble_eq_true rfl, fun q hq => ?_⟩
        exact ⟨_, rfl, k q _ (sd.trans (same_new hq)) (sd.free hq) upd_same⟩
      · cases hf
        refine ⟨false, ex 0 (by decide), fun z => (by cases z), fun _ => ?_⟩
        refine ⟨false, ex 1 (by decide), fun z => (by cases z), fun _ => ?_⟩
        refine ⟨false, ex 2 (by decide), fun z => (by cases z), fun _ => ?_⟩
        refine ⟨false, ex 3 (by decide), fun z => (by cases z), fun _ => ?_⟩
        refine ⟨false, ex 4 (by decide), fun z => (by cases z), fun _ => ?_⟩
        refine ⟨false, ex 5 (by decide), fun z => (by cases z), fun _ => ?_⟩
        refine ⟨false, ex 6 (by decide), fun z => (by cases z), fun _ => ?_⟩
        refine ⟨false, ex 7 (by decide), fun z => (by cases z), fun _ => ?_⟩
        refine ⟨false, ex 8 (by decide), fun z => (by cases z), fun _ => ?_⟩
        refine ⟨true, ex 9 (by decide), fun _ a ha => ?_, fun z => (by cases z)⟩
        refine ⟨_, rfl, rfl, rfl, d, _, _, rfl, upd_same, rfl, Nat.le_of_ble_eq_true rfl, fun q hq => ?_⟩
        exact ⟨_, rfl, k q _ (sd.trans (same_new hq)) (sd.free hq) upd_same⟩
      · cases hf
      · cases hf
    · have c : n = 0 ∨ n = 1 ∨ n = 2 ∨ n = 3 ∨ n = 4 ∨ n = 5 ∨ n = 6 ∨ n = 7 ∨ n = 8 ∨ n = 9 ∨ n = 10 ∨ n = 11 := by omega
      rcases c with rfl | rfl | rfl | rfl | rfl | rfl | rfl | rfl | rfl | rfl | rfl | rfl
      · cases hf
      · cases hf
      · cases hf
      · cases hf
      · cases hf
      · cases hf
      · cases hf
      · cases hf
      · cases hf
      · cases hf
      · clear hf
        refine ⟨false, ex 0 (by decide), fun z => (by cases z), fun _ => ?_⟩
        refine ⟨false, ex 1 (by decide), fun z => (by cases z), fun _ => ?_⟩
        refine ⟨false, ex 2 (by decide), fun z => (by cases z), fun _ => ?_⟩
        refine ⟨false, ex 3 (by decide), fun z => (by cases z), fun _ => ?_⟩
        refine ⟨false, ex 4 (by decide), fun z => (by cases z), fun _ => ?_⟩
        refine ⟨false, ex 5 (by decide), fun z => (by cases z), fun _ => ?_⟩
        refine ⟨false, ex 6 (by decide), fun z => (by cases z), fun _ => ?_⟩
        refine ⟨false, ex 7 (by decide), fun z => (by cases z), fun _ => ?_⟩
        refine ⟨false, ex 8 (by decide), fun z => (by cases z), fun _ => ?_⟩
        refine ⟨false, ex 9 (by decide), fun z => (by cases z), fun _ => ?_⟩
        refine ⟨true, ex 10 (by decide), fun _ a ha => ?_, fun z => (by cases z)⟩
        refine ⟨_, rfl, Nat.le_of_ble_eq_true rfl, fun q hq => ?_⟩
        exact ⟨_, rfl, k q _ (s0.trans (same_new hq)) (s0.free hq) upd_same⟩
      · clear hf
        refine ⟨false, ex 0 (by decide), fun z => (by cases z), fun _ => ?_⟩
        refine ⟨false, ex 1 (by decide), fun z => (by cases z), fun _ => ?_⟩
        refine ⟨false, ex 2 (by decide), fun z => (by cases z), fun _ => ?_⟩
        refine ⟨false, ex 3 (by decide), fun z => (by cases z), fun _ => ?_⟩
        refine ⟨false, ex 4 (by decide), fun z => (by cases z), fun _ => ?_⟩
        refine ⟨false, ex 5 (by decide), fun z => (by cases z), fun _ => ?_⟩
        refine ⟨false, ex 6 (by decide), fun z => (by cases z), fun _ => ?_⟩
        refine ⟨false, ex 7 (by decide), fun z => (by cases z), fun _ => ?_⟩
        refine ⟨false, ex 8 (by decide), fun z => (by cases z), fun _ => ?_⟩
        refine ⟨false, ex 9 (by decide), fun z => (by cases z), fun _ => ?_⟩
        refine ⟨false, ex 10 (by decide), fun z => (by cases z), fun _ => ?_⟩
        refine ⟨true, ex 11 (by decide), fun _ a ha => ?_, fun z => (by cases z)⟩
        refine ⟨_, rfl, Nat.le_of_ble_eq_true rfl, fun q hq => ?_⟩
        exact ⟨_, rfl, k q _ (s0.trans (same_new hq)) (s0.free hq) upd_same⟩
end
end Pf
namespace Pf
open PySem PySem.Spec PyProof.Rows L2 Bz
local macro_rules | `(tactic| walk_at "sd") => `(tactic| first
  | rfl | assumption | omega | exact Nat.le_of_ble_eq_true rfl | decide | (refine Or.inl (And.intro ?_ ?_) <;> omega) | (refine Or.inr (And.intro ?_ ?_) <;> omega) | (refine And.intro ?_ ?_ <;> omega) | (refine ⟨?_, ?_, ?_⟩ <;> omega))
local macro_rules | `(tactic| walk_at "sq") => `(tactic| first | assumption | exact SqL.of (by assumption) | exact SqT.of (by assumption) | exact SqL.of upd_same | exact SqT.of upd_same)
local macro_rules | `(tactic| walk_at "hp") => `(tactic| first | assumption | exact upd_same)
local macro_rules | `(tactic| walk_at "rd") => `(tactic| repeat (first
  | (refine ⟨_, rfl, ?_⟩) | (refine ⟨_, _, rfl, rfl, ?_⟩) | (refine ⟨rfl, ?_⟩) | (refine And.intro (by walk_at "sd") ?_)
  | (refine ⟨_, _, _, _, rfl, rfl, (by walk_at "sq"), rfl, ?_⟩)
  | (refine ⟨_, _, _, _, rfl, rfl, (by walk_at "hp"), rfl, ?_⟩)
  | (refine Or.inl ⟨_, rfl, ?_⟩)))
section
variable {P : Program} {w : World} {K : PySem.W.Frag} {mg : PySem.Str → Option Value} {base : Heap} {kl : Cl}
def kindsL (n : Nat) : List V := (List.range 12).map (fun j => V.bl (n == j)) ++ [.bl true]
theorem ok__law_kinds (T : Facts K mg kl) : Keeps P w K mg base CX0 4 "_law_kinds" ["_law_how", "_law_a"] (spListed fun n _ => kindsL n) := by
  refine keeps0 T.d__law_kinds sc__law_kinds (fun vs H Q E h => ?_) (fun f cdv A outer s H vs Q E hr h => ?_)
  · obtain ⟨n, v, rfl, _⟩ := h
    rfl
  · obtain ⟨n, v, rfl, hn, k⟩ := h
    refine ⟨_, (pss_cons (ps_set (i := 2) sc__law_kinds.nd rfl (Or.inl rfl) (pe_lst pa_nil))
  (pss_cons (ps_try_as (i := 3) rfl rfl sc__law_kinds.nd rfl rfl ⟨rfl, by decide, .inl T.g_PaidError⟩ takes0 (fun W pn xe tk po =>
  (pss_one (ps_expr (pe_ownS (ok__law_raised T) hr tk (pa_cons (pv 0) (pa_cons (pv 1) pa_nil)))))) (fun a oe cls d pn hz hf =>
  (pss_cons (ps_set (i := 2) sc__law_kinds.nd rfl (Or.inl rfl) (pe_lst (pa_cons (pe_callB (call_isD hz hf) (by rfl) T.b_isinstance (by decide +kernel) (pa_cons (pv 3) (pa_cons (pe_cls rfl T.x_BadArrow.g) pa_nil))) (pa_cons (pe_callB (call_isD hz hf) (by rfl) T.b_isinstance (by decide +kernel) (pa_cons (pv 3) (pa_cons (pe_cls rfl T.x_BadState.g) pa_nil))) (pa_cons (pe_callB (call_isD hz hf) (by rfl) T.b_isinstance (by decide +kernel) (pa_cons (pv 3) (pa_cons (pe_cls rfl T.x_TooMany.g) pa_nil))) (pa_cons (pe_callB (call_isD hz hf) (by rfl) T.b_isinstance (by decide +kernel) (pa_cons (pv 3) (pa_cons (pe_cls rfl T.x_BadText.g) pa_nil))) pa_nil))))))
  (pss_cons (ps_set (i := 2) sc__law_kinds.nd rfl (Or.inl rfl) (pe_op op_cat (pv 2) (pe_lst (pa_cons (pe_callB (call_isD hz hf) (by rfl) T.b_isinstance (by decide +kernel) (pa_cons (pv 3) (pa_cons (pe_cls rfl T.x_BadRow.g) pa_nil))) (pa_cons (pe_callB (call_isD hz hf) (by rfl) T.b_isinstance (by decide +kernel) (pa_cons (pv 3) (pa_cons (pe_cls rfl T.x_UnknownState.g) pa_nil))) (pa_cons (pe_callB (call_isD hz hf) (by rfl) T.b_isinstance (by decide +kernel) (pa_cons (pv 3) (pa_cons (pe_cls rfl T.x_UnknownArrow.g) pa_nil))) pa_nil))))))
  (pss_cons (ps_set (i := 2) sc__law_kinds.nd rfl (Or.inl rfl) (pe_op op_cat (pv 2) (pe_lst (pa_cons (pe_callB (call_isD hz hf) (by rfl) T.b_isinstance (by decide +kernel) (pa_cons (pv 3) (pa_cons (pe_cls rfl T.x_BadNumber.g) pa_nil))) (pa_cons (pe_callB (call_isD hz hf) (by rfl) T.b_isinstance (by decide +kernel) (pa_cons (pv 3) (pa_cons (pe_cls rfl T.x_BadExpression.g) pa_nil))) (pa_cons (pe_callB (call_isD hz hf) (by rfl) T.b_isinstance (by decide +kernel) (pa_cons (pv 3) (pa_cons (pe_cls rfl T.x_NotSettled.g) pa_nil))) pa_nil))))))
  (pss_one (ps_set (i := 2) sc__law_kinds.nd rfl (Or.inl rfl) (pe_op op_cat (pv 2) (pe_lst (pa_cons (pe_callB (call_isD hz hf) (by rfl) T.b_isinstance (by decide +kernel) (pa_cons (pv 3) (pa_cons (pe_cls rfl T.x_BadTally.g) pa_nil))) (pa_cons (pe_callB (call_isD hz hf) (by rfl) T.b_isinstance (by decide +kernel) (pa_cons (pv 3) (pa_cons (pe_cls rfl T.x_Unbounded.g) pa_nil))) (pa_cons (pe_callB (call_isD hz hf) (by rfl) T.b_isinstance (by decide +kernel) (pa_cons (pv 3) (pa_cons (pe_bltn (v := .ty "ValueError") (by rfl) T.b_ValueError (by decide +kernel) rfl) pa_nil))) pa_nil))))))))))))
  (pss_one (ps_ret (pv 2))))), ?_⟩
    refine ⟨Nat.le_of_ble_eq_true rfl, fun b0 hb0 => ?_⟩
    have s0 := same_new (o := .lst []) hb0
    generalize upd H b0 (.lst []) = H0 at s0 ⊢
    have te := tabE_of T.etab (i := n) hn
    have kit := fun (j : Nat) (hj : j < 12) => te.kit j hj
    refine ⟨_, rfl, _, rfl, n, v, rfl, hn, fun f hf d hd => ?_, fun hf => ?_⟩
    · have sd := s0.trans (same_new (o := .xd [(f, v)]) hd)
      have hx : ∀ dd, some d = some dd → ∃ fs, (upd H0 d (.xd [(f, v)])) dd = some (.xd fs) := fun dd e => by
        cases e
        exact ⟨_, upd_same⟩
      generalize upd H0 d (.xd [(f, v)]) = H1 at sd hx ⊢
      refine ⟨true, te.top, fun _ a ha => ?_, fun z => (by cases z)⟩
      refine ⟨_, rfl, _, _, _, _, rfl, te.exc, hx, rfl, fun u h => h, kit 0 (by decide), _, rfl, _, _, _, _, rfl, te.exc, hx, rfl, fun u h => h, kit 1 (by decide), _, rfl, _, _, _, _, rfl, te.exc, hx, rfl, fun u h => h, kit 2 (by decide), _, rfl, _, _, _, _, rfl, te.exc, hx, rfl, fun u h => h, kit 3 (by decide), Nat.le_of_ble_eq_true rfl, fun q0 hq0 => ?_⟩
      have t0 := same_new (o := .lst [.bl (n == 0), .bl (n == 1), .bl (n == 2), .bl (n == 3)]) hq0
      have k0 := upd_same (H := H1) (a := q0) (o := .lst [.bl (n == 0), .bl (n == 1), .bl (n == 2), .bl (n == 3)])
      have hx := fun dd e => (hx dd e).imp fun fs z => t0 _ _ z
      generalize upd H1 q0 (.lst [.bl (n == 0), .bl (n == 1), .bl (n == 2), .bl (n == 3)]) = H2 at t0 k0 hx ⊢
      have S0 := sd.trans t0
      refine ⟨_, rfl, _, rfl, _, _, _, _, rfl, te.exc, hx, rfl, fun u h => h, kit 4 (by decide), _, rfl, _, _, _, _, rfl, te.exc, hx, rfl, fun u h => h, kit 5 (by decide), _, rfl, _, _, _, _, rfl, te.exc, hx, rfl, fun u h => h, kit 6 (by decide), Nat.le_of_ble_eq_true rfl, fun p0 hp0 => ?_⟩
      have u0 := same_new (o := .lst [.bl (n == 4), .bl (n == 5), .bl (n == 6)]) hp0
      refine ⟨_, _, _, _, rfl, rfl, u0 _ _ k0, upd_same, Nat.le_of_ble_eq_true rfl, fun q1 hq1 => ?_⟩
      have w0 := u0.trans (same_new hq1 (o := .lst [.bl (n == 0), .bl (n == 1), .bl (n == 2), .bl (n == 3), .bl (n == 4), .bl (n == 5), .bl (n == 6)]))
      have k1 := upd_same (H := upd H2 p0 (.lst [.bl (n == 4), .bl (n == 5), .bl (n == 6)])) (a := q1) (o := .lst [.bl (n == 0), .bl (n == 1), .bl (n == 2), .bl (n == 3), .bl (n == 4), .bl (n == 5), .bl (n == 6)])
      have hx := fun dd e => (hx dd e).imp fun fs z => w0 _ _ z
      have S1 := S0.trans w0
      show tSeq _ _ _ _ (upd (upd H2 p0 (.lst [.bl (n == 4), .bl (n == 5), .bl (n == 6)])) q1 (.lst [.bl (n == 0), .bl (n == 1), .bl (n == 2), .bl (n == 3), .bl (n == 4), .bl (n == 5), .bl (n == 6)]))
      generalize upd (upd H2 p0 (.lst [.bl (n == 4), .bl (n == 5), .bl (n == 6)])) q1 (.lst [.bl (n == 0), .bl (n == 1), .bl (n == 2), .bl (n == 3), .bl (n == 4), .bl (n == 5), .bl (n == 6)]) = H4 at k1 hx S1 ⊢
      refine ⟨_, rfl, _, rfl, _, _, _, _, rfl, te.exc, hx, rfl, fun u h => h, kit 7 (by decide), _, rfl, _, _, _, _, rfl, te.exc, hx, rfl, fun u h => h, kit 8 (by decide), _, rfl, _, _, _, _, rfl, te.exc, hx, rfl, fun u h => h, kit 9 (by decide), Nat.le_of_ble_eq_true rfl, fun p1 hp1 => ?_⟩
      have u1 := same_new (o := .lst [.bl (n == 7), .bl (n == 8), .bl (n == 9)]) hp1
      refine ⟨_, _, _, _, rfl, rfl, u1 _ _ k1, upd_same, Nat.le_of_ble_eq_true rfl, fun q2 hq2 => ?_⟩
      have w1 := u1.trans (same_new hq2 (o := .lst [.bl (n == 0), .bl (n == 1), .bl (n == 2), .bl (n == 3), .bl (n == 4), .bl (n == 5), .bl (n == 6), .bl (n == 7), .bl (n == 8), .bl (n == 9)]))
      have k2 := upd_same (H := upd H4 p1 (.lst [.bl (n == 7), .bl (n == 8), .bl (n == 9)])) (a := q2) (o := .lst [.bl (n == 0), .bl (n == 1), .bl (n == 2), .bl (n == 3), .bl (n == 4), .bl (n == 5), .bl (n == 6), .bl (n == 7), .bl (n == 8), .bl (n == 9)])
      have hx := fun dd e => (hx dd e).imp fun fs z => w1 _ _ z
      have S2 := S1.trans w1
      show tSeq _ _ _ _ (upd (upd H4 p1 (.lst [.bl (n == 7), .bl (n == 8), .bl (n == 9)])) q2 (.lst [.bl (n == 0), .bl (n == 1), .bl (n == 2), .bl (n == 3), .bl (n == 4), .bl (n == 5), .bl (n == 6), .bl (n == 7), .bl (n == 8), .bl (n == 9)]))
      generalize upd (upd H4 p1 (.lst [.bl (n == 7), .bl (n == 8), .bl (n == 9)])) q2 (.lst [.bl (n == 0), .bl (n == 1), .bl (n == 2), .bl (n == 3), .bl (n == 4), .bl (n == 5), .bl (n == 6), .bl (n == 7), .bl (n == 8), .bl (n == 9)]) = H6 at k2 hx S2 ⊢
      refine ⟨_, rfl, _, rfl, _, _, _, _, rfl, te.exc, hx, rfl, fun u h => h, kit 10 (by decide), _, rfl, _, _, _, _, rfl, te.exc, hx, rfl, fun u h => h, kit 11 (by decide), _, rfl, _, _, _, _, rfl, te.exc, hx, rfl, fun u h => h, te.ve, Nat.le_of_ble_eq_true rfl, fun p2 hp2 => ?_⟩
      have u2 := same_new (o := .lst [.bl (n == 10), .bl (n == 11), .bl true]) hp2
      refine ⟨_, _, _, _, rfl, rfl, u2 _ _ k2, upd_same, Nat.le_of_ble_eq_true rfl, fun q3 hq3 => ?_⟩
      have w2 := u2.trans (same_new hq3 (o := .lst [.bl (n == 0), .bl (n == 1), .bl (n == 2), .bl (n == 3), .bl (n == 4), .bl (n == 5), .bl (n == 6), .bl (n == 7), .bl (n == 8), .bl (n == 9), .bl (n == 10), .bl (n == 11), .bl true]))
      exact ⟨_, rfl, k _ _ (S2.trans w2) (((S2.trans u2)).free hq3) upd_same⟩
    · have sd := s0
      have hx : ∀ dd, (none : Option Addr) = some dd → ∃ fs, H0 dd = some (.xd fs) := fun dd e => (by cases e)
      generalize H0 = H1 at sd hx ⊢
      refine ⟨true, te.top, fun _ a ha => ?_, fun z => (by cases z)⟩
      refine ⟨_, rfl, _, _, _, _, rfl, te.exc, hx, rfl, fun u h => h, kit 0 (by decide), _, rfl, _, _, _, _, rfl, te.exc, hx, rfl, fun u h => h, kit 1 (by decide), _, rfl, _, _, _, _, rfl, te.exc, hx, rfl, fun u h => h, kit 2 (by decide), _, rfl, _, _, _, _, rfl, te.exc, hx, rfl, fun u h => h, kit 3 (by decide), Nat.le_of_ble_eq_true rfl, fun q0 hq0 => ?_⟩
      have t0 := same_new (o := .lst [.bl (n == 0), .bl (n == 1), .bl (n == 2), .bl (n == 3)]) hq0
      have k0 := upd_same (H := H1) (a := q0) (o := .lst [.bl (n == 0), .bl (n == 1), .bl (n == 2), .bl (n == 3)])
      have hx := fun dd e => (hx dd e).imp fun fs z => t0 _ _ z
      generalize upd H1 q0 (.lst [.bl (n == 0), .bl (n == 1), .bl (n == 2), .bl (n == 3)]) = H2 at t0 k0 hx ⊢
      have S0 := sd.trans t0
      refine ⟨_, rfl, _, rfl, _, _, _, _, rfl, te.exc, hx, rfl, fun u h => h, kit 4 (by decide), _, rfl, _, _, _, _, rfl, te.exc, hx, rfl, fun u h => h, kit 5 (by decide), _, rfl, _, _, _, _, rfl, te.exc, hx, rfl, fun u h => h, kit 6 (by decide), Nat.le_of_ble_eq_true rfl, fun p0 hp0 => ?_⟩
      have u0 := same_new (o := .lst [.bl (n == 4), .bl (n == 5), .bl (n == 6)]) hp0
      refine ⟨_, _, _, _, rfl, rfl, u0 _ _ k0, upd_same, Nat.le_of_ble_eq_true rfl, fun q1 hq1 => ?_⟩
      have w0 := u0.trans (same_new hq1 (o := .lst [.bl (n == 0), .bl (n == 1), .bl (n == 2), .bl (n == 3), .bl (n == 4), .bl (n == 5), .bl (n == 6)]))
      have k1 := upd_same (H := upd H2 p0 (.lst [.bl (n == 4), .bl (n == 5), .bl (n == 6)])) (a := q1) (o := .lst [.bl (n == 0), .bl (n == 1), .bl (n == 2), .bl (n == 3), .bl (n == 4), .bl (n == 5), .bl (n == 6)])
      have hx := fun dd e => (hx dd e).imp fun fs z => w0 _ _ z
      have S1 := S0.trans w0
      show tSeq _ _ _ _ (upd (upd H2 p0 (.lst [.bl (n == 4), .bl (n == 5), .bl (n == 6)])) q1 (.lst [.bl (n == 0), .bl (n == 1), .bl (n == 2), .bl (n == 3), .bl (n == 4), .bl (n == 5), .bl (n == 6)]))
      generalize upd (upd H2 p0 (.lst [.bl (n == 4), .bl (n == 5), .bl (n == 6)])) q1 (.lst [.bl (n == 0), .bl (n == 1), .bl (n == 2), .bl (n == 3), .bl (n == 4), .bl (n == 5), .bl (n == 6)]) = H4 at k1 hx S1 ⊢
      refine ⟨_, rfl, _, rfl, _, _, _, _, rfl, te.exc, hx, rfl, fun u h => h, kit 7 (by decide), _, rfl, _, _, _, _, rfl, te.exc, hx, rfl, fun u h => h, kit 8 (by decide), _, rfl, _, _, _, _, rfl, te.exc, hx, rfl, fun u h => h, kit 9 (by decide), Nat.le_of_ble_eq_true rfl, fun p1 hp1 => ?_⟩
      have u1 := same_new (o := .lst [.bl (n == 7), .bl (n == 8), .bl (n == 9)]) hp1
      refine ⟨_, _, _, _, rfl, rfl, u1 _ _ k1, upd_same, Nat.le_of_ble_eq_true rfl, fun q2 hq2 => ?_⟩
      have w1 := u1.trans (same_new hq2 (o := .lst [.bl (n == 0), .bl (n == 1), .bl (n == 2), .bl (n == 3), .bl (n == 4), .bl (n == 5), .bl (n == 6), .bl (n == 7), .bl (n == 8), .bl (n == 9)]))
      have k2 := upd_same (H := upd H4 p1 (.lst [.bl (n == 7), .bl (n == 8), .bl (n == 9)])) (a := q2) (o := .lst [.bl (n == 0), .bl (n == 1), .bl (n == 2), .bl (n == 3), .bl (n == 4), .bl (n == 5), .bl (n == 6), .bl (n == 7), .bl (n == 8), .bl (n == 9)])
      have hx := fun dd e => (hx dd e).imp fun fs z => w1 _ _ z
      have S2 := S1.trans w1
      show tSeq _ _ _ _ (upd (upd H4 p1 (.lst [.bl (n == 7), .bl (n == 8), .bl (n == 9)])) q2 (.lst [.bl (n == 0), .bl (n == 1), .bl (n == 2), .bl (n == 3), .bl (n == 4), .bl (n == 5), .bl (n == 6), .bl (n == 7), .bl (n == 8), .bl (n == 9)]))
      generalize upd (upd H4 p1 (.lst [.bl (n == 7), .bl (n == 8), .bl (n == 9)])) q2 (.lst [.bl (n == 0), .bl (n == 1), .bl (n == 2), .bl (n == 3), .bl (n == 4), .bl (n == 5), .bl (n == 6), .bl (n == 7), .bl (n == 8), .bl (n == 9)]) = H6 at k2 hx S2 ⊢
      refine ⟨_, rfl, _, rfl, _, _, _, _, rfl, te.exc, hx, rfl, fun u h => h, kit 10 (by decide), _, rfl, _, _, _, _, rfl, te.exc, hx, rfl, fun u h => h, kit 11 (by decide), _, rfl, _, _, _, _, rfl, te.exc, hx, rfl, fun u h => h, te.ve, Nat.le_of_ble_eq_true rfl, fun p2 hp2 => ?_⟩
      have u2 := same_new (o := .lst [.bl (n == 10), .bl (n == 11), .bl true]) hp2
      refine ⟨_, _, _, _, rfl, rfl, u2 _ _ k2, upd_same, Nat.le_of_ble_eq_true rfl, fun q3 hq3 => ?_⟩
      have w2 := u2.trans (same_new hq3 (o := .lst [.bl (n == 0), .bl (n == 1), .bl (n == 2), .bl (n == 3), .bl (n == 4), .bl (n == 5), .bl (n == 6), .bl (n == 7), .bl (n == 8), .bl (n == 9), .bl (n == 10), .bl (n == 11), .bl true]))
      exact ⟨_, rfl, k _ _ (S2.trans w2) (((S2.trans u2)).free hq3) upd_same⟩
end
end Pf
namespace Pf
open PySem PySem.Spec PyProof.Rows L2 Bz
local macro_rules | `(tactic| walk_at "sd") => `(tactic| first
  | rfl | assumption | omega | exact Nat.le_of_ble_eq_true rfl | decide | (refine Or.inl (And.intro ?_ ?_) <;> omega) | (refine Or.inr (And.intro ?_ ?_) <;> omega) | (refine And.intro ?_ ?_ <;> omega) | (refine ⟨?_, ?_, ?_⟩ <;> omega))
local macro_rules | `(tactic| walk_at "sq") => `(tactic| first | assumption | exact SqL.of (by assumption) | exact SqT.of (by assumption) | exact SqL.of upd_same | exact SqT.of upd_same)
local macro_rules | `(tactic| walk_at "hp") => `(tactic| first | assumption | exact upd_same)
local macro_rules | `(tactic| walk_at "rd") => `(tactic| repeat (first
  | (refine ⟨_, rfl, ?_⟩) | (refine ⟨_, _, rfl, rfl, ?_⟩) | (refine ⟨rfl, ?_⟩) | (refine And.intro (by walk_at "sd") ?_)
  | (refine ⟨_, _, _, _, rfl, rfl, (by walk_at "sq"), rfl, ?_⟩)
  | (refine ⟨_, _, _, _, rfl, rfl, (by walk_at "hp"), rfl, ?_⟩)
  | (refine Or.inl ⟨_, rfl, ?_⟩)))
section
variable {P : Program} {w : World} {K : PySem.W.Frag} {mg : PySem.Str → Option Value} {base : Heap} {kl : Cl}
theorem dpAll_bl {K : PySem.W.Frag} {H : Hp} : ∀ bs : List Bool, DpAll K H (bs.map V.bl) (bs.map PyData.bool)
  | [] => .nil
  | b :: bs => .cons (.bl b) (dpAll_bl bs)
theorem bl_lay : ∀ bs : List Bool, PyData.canLayAll0 (bs.map PyData.bool) = true ∧ PyData.depthAll (bs.map PyData.bool) ≤ 1
  | [] => ⟨rfl, Nat.le_of_ble_eq_true rfl⟩
  | b :: bs => by
    obtain ⟨h1, h2⟩ := bl_lay bs
    simp only [List.map_cons, PyData.canLayAll0, PyData.depthAll, PyData.canLay0, PyData.depth, h1]
    exact ⟨rfl, by omega⟩
theorem shaped_bl (bs : List Bool) : SeqAt.shaped (.list (bs.map PyData.bool)) = true := by
  obtain ⟨h1, h2⟩ := bl_lay bs
  unfold SeqAt.shaped
  simp only [PyData.canLay0, PyData.depth, h1, Bool.true_and]
  exact decide_eq_true (by omega)
theorem eqv_bl (bs : List Bool) : PyData.eqv (.list (bs.map PyData.bool)) (.list (bs.map PyData.bool)) = true := by
  have h : ∀ bs : List Bool, PyData.eqvAll (bs.map PyData.bool) (bs.map PyData.bool) = true := by
    intro bs
    induction bs with
    | nil => simp [PyData.eqvAll]
    | cons b bs ih => simp [PyData.eqvAll, PyData.eqv, ih]
  simp [PyData.eqv, h]
theorem fn_law (T : Facts K mg kl) {f : Addr} {fd : FuncData} (F : Fun K "law" "law" s_law f fd) : FnOk P w K mg base CX0 5 f fd ["_law_script"] (spLaw K) := by
  refine F.ok sc_law (fun vs H Q E h => ?_) (fun cdv A outer s H vs Q E hr h => ?_)
  · obtain ⟨a, ns, rfl, _⟩ := h
    rfl
  · obtain ⟨a, ns, rfl, ha, k⟩ := h
    refine ⟨_, (pss_cons (ps_set (i := 1) sc_law.nd rfl (Or.inl rfl) (pe_own (ok__law_source T) hr (pa_cons (pv 0) pa_nil)))
  (pss_cons (ps_set (i := 2) sc_law.nd rfl (Or.inl rfl) (pe_lst (pa_cons (pe_op op_sub (pe_own (ok__law_draw T) hr (pa_cons (pv 1) (pa_cons pe_int pa_nil))) pe_int) (pa_cons pe_str (pa_cons pe_str (pa_cons (pe_tup (pa_cons pe_int (pa_cons pe_int pa_nil))) (pa_cons pe_non (pa_cons pe_bl (pa_cons (pe_op op_pow pe_int pe_int) (pa_cons (pe_tup pa_nil) pa_nil))))))))))
  (pss_cons (ps_for PassesOwn.never rfl (pi_range1 (by rfl) T.b_range (pa_cons pe_int pa_nil)) (pg_name (i := 3) sc_law.nd rfl (Or.inr rfl))
  (pss_cons (ps_set (i := 4) sc_law.nd rfl (Or.inl rfl) (pe_own (ok__law_pick T) hr (pa_cons (pv 1) (pa_cons (pv 2) pa_nil))))
  (pss_one (ps_if (PW.pt (pw_or (pt_cmpR (kneD K hr.units) (pe_own (ok__law_fields T) hr (pa_cons (pv 3) (pa_cons (pv 4) pa_nil))) (pe_lst (pa_cons (pv 3) (pa_cons (pv 4) pa_nil))) (nomark _)) (pw_or1 (pt_cmpR (kneD K hr.units) (pe_own (ok__law_kinds T) hr (pa_cons (pv 3) (pa_cons (pv 4) pa_nil))) (pe_op op_cat (pe_lc (own := [("_law_k", 6)]) (g := gName 6) (tt := tYes) rfl sc_law.nd (pi_range1 (by rfl) T.b_range (pa_cons pe_int pa_nil)) (blkOk_by (own := [("_law_k", 6)]) (N := N_law) (sc := defScope s_law) (by decide +kernel)) (fun _ _ _ _ _ => (pg_name (i := 6) sc_law.nd rfl (Or.inl rfl))) (fun _ _ _ _ _ => pts_nil) (fun _ _ _ _ _ => (pe_cmpR op_eq (pv 6) (pv 3) (nomark _)))) (pe_lst (pa_cons pe_bl pa_nil))) (nomark _)))))
  (pss_one (ps_ret pe_bl))
  pss_nil))))
  (pss_cons (ps_set (i := 5) sc_law.nd rfl (Or.inl rfl) (pe_lst (pa_cons (pe_xkw T.x_BadArrow sc_BadArrow___init__ hr (pk_cons pe_int pk_nil)) (pa_cons (pe_xkw T.x_BadState sc_BadState___init__ hr (pk_cons pe_str pk_nil)) (pa_cons (pe_xkw T.x_TooMany sc_TooMany___init__ hr (pk_cons pe_int pk_nil)) (pa_cons (pe_xkw T.x_BadText sc_BadText___init__ hr (pk_cons pe_int pk_nil)) pa_nil))))))
  (pss_cons (ps_set (i := 5) sc_law.nd rfl (Or.inl rfl) (pe_op op_cat (pv 5) (pe_lst (pa_cons (pe_xkw T.x_BadRow sc_BadRow___init__ hr (pk_cons pe_int pk_nil)) (pa_cons (pe_xkw T.x_UnknownState sc_UnknownState___init__ hr (pk_cons pe_int pk_nil)) (pa_cons (pe_xkw T.x_UnknownArrow sc_UnknownArrow___init__ hr (pk_cons pe_int pk_nil)) pa_nil))))))
  (pss_cons (ps_set (i := 5) sc_law.nd rfl (Or.inl rfl) (pe_op op_cat (pv 5) (pe_lst (pa_cons (pe_xkw T.x_BadNumber sc_BadNumber___init__ hr (pk_cons pe_int pk_nil)) (pa_cons (pe_xkw T.x_BadExpression sc_BadExpression___init__ hr (pk_cons pe_int pk_nil)) (pa_cons (pe_xkw T.x_NotSettled sc_NotSettled___init__ hr (pk_cons pe_int pk_nil)) pa_nil))))))
  (pss_one (ps_ret (pe_cmpR (keqD K hr.units) (pv 5) (pe_lst (pa_cons pe_int (pa_cons pe_str (pa_cons pe_int (pa_cons pe_int (pa_cons pe_int (pa_cons pe_int (pa_cons pe_int (pa_cons pe_int (pa_cons pe_int (pa_cons pe_int pa_nil))))))))))) (nomark _)))))))))), ?_⟩
    refine ⟨_, rfl, a, ns, rfl, ha, fun p H1 hp hS s1 => ?_⟩
    refine ⟨_, rfl, p, _, 0, rfl, hS, by omega, by omega, by omega, fun r H2 r0 r1 hS2 b2 => ?_⟩
    have g2 : Go p 1 H1 H2 := (Go.start hS).but hS2 b2
    refine ⟨_, _, rfl, rfl, ?_⟩
    refine ⟨Nat.le_of_ble_eq_true rfl, fun t1 ht1 => ?_⟩
    have g3 := g2.new (o := .tup [.int 1, .int 2]) ht1
    have e1 := upd_same (H := H2) (a := t1) (o := .tup [.int 1, .int 2])
    have n1 := g2.ne ht1
    generalize upd H2 t1 (.tup [.int 1, .int 2]) = H3 at g3 e1 ⊢
    refine ⟨_, _, rfl, rfl, ⟨by omega, by omega, by omega⟩, Nat.le_of_ble_eq_true rfl, fun t2 ht2 => ?_⟩
    have g4 := g3.new (o := .tup []) ht2
    have e2 := upd_same (H := H3) (a := t2) (o := .tup [])
    have n2 := g3.ne ht2
    have e1 := (same_new (o := .tup []) ht2) _ _ e1
    generalize upd H3 t2 (.tup []) = H4 at g4 e1 e2 ⊢
    refine ⟨Nat.le_of_ble_eq_true rfl, fun L hL => ?_⟩
    have g5 := g4.new (o := .lst [.int (r - 50), .str "a b", .str "", .ref t1, .non, .bl true, .int (10 ^ 40), .ref t2]) hL
    have eL := upd_same (H := H4) (a := L) (o := .lst [.int (r - 50), .str "a b", .str "", .ref t1, .non, .bl true, .int (10 ^ 40), .ref t2])
    have nL := g4.ne hL
    have e1 := (same_new (o := .lst [.int (r - 50), .str "a b", .str "", .ref t1, .non, .bl true, .int (10 ^ 40), .ref t2]) hL) _ _ e1
    have e2 := (same_new (o := .lst [.int (r - 50), .str "a b", .str "", .ref t1, .non, .bl true, .int (10 ^ 40), .ref t2]) hL) _ _ e2
    show gName 2 (.ref L) [some (.ref a), some (.ref p), none, none, none, none, none] (upd H4 L (.lst [.int (r - 50), .str "a b", .str "", .ref t1, .non, .bl true, .int (10 ^ 40), .ref t2])) _
    generalize upd H4 L (.lst [.int (r - 50), .str "a b", .str "", .ref t1, .non, .bl true, .int (10 ^ 40), .ref t2]) = H5 at g5 e1 e2 eL ⊢
    refine ⟨12, rfl, by omega, by omega, for_range (lo := 0) (n := 12) (fun i σ H' => ∃ v3 v4 v6 : Option V, σ = [some (.ref a), some (.ref p), some (.ref L), v3, v4, none, v6] ∧ Go p (1 + i) H5 H') ⟨_, _, _, rfl, Go.start g5.src⟩ ?_ ?_⟩
    · rintro i σ H6 hi ⟨v3, v4, v6, rfl, g6⟩
      refine ⟨_, rfl, _, rfl, p, L, _, 1 + i, rfl, g6.src, by omega, SqL.of (g6.get nL eL), nL, List.cons_ne_nil _ _, Nat.le_of_ble_eq_true rfl, fun v H7 hv hS7 b7 => ?_⟩
      have g7 := g6.but hS7 b7
      have e71 := g7.get n1 e1
      have e72 := g7.get n2 e2
      obtain ⟨d, hd, ed, hsh⟩ : ∃ d, (∀ H', Same H7 H' → Dp K H' v d) ∧ PyData.eqv d d = true ∧ ∀ j : Int, SeqAt.shaped (.list [.int j, d]) = true := by
        simp only [List.mem_cons, List.not_mem_nil, or_false] at hv
        rcases hv with rfl | rfl | rfl | rfl | rfl | rfl | rfl | rfl
        · exact ⟨_, fun H' _ => .int _, by simp [PyData.eqv], fun _ => rfl⟩
        · exact ⟨_, fun H' _ => .str _, by simp [PyData.eqv], fun _ => (by unfold SeqAt.shaped; simp only [PyData.canLay0, PyData.canLayAll0, Bool.true_and, Bool.and_true]; exact Bool.and_eq_true_iff.mpr ⟨by decide +kernel, rfl⟩)⟩
        · exact ⟨_, fun H' _ => .str _, by simp [PyData.eqv], fun _ => (by unfold SeqAt.shaped; simp only [PyData.canLay0, PyData.canLayAll0, Bool.true_and, Bool.and_true]; exact Bool.and_eq_true_iff.mpr ⟨by decide +kernel, rfl⟩)⟩
        · exact ⟨_, fun H' s => .tup (SqT.of (s _ _ e71)) (.cons (.int _) (.cons (.int _) .nil)), by simp [PyData.eqv, PyData.eqvAll], fun _ => rfl⟩
        · exact ⟨_, fun H' _ => .non, by simp [PyData.eqv], fun _ => rfl⟩
        · exact ⟨_, fun H' _ => .bl _, by simp [PyData.eqv], fun _ => rfl⟩
        · exact ⟨_, fun H' _ => .int _, by simp [PyData.eqv], fun _ => rfl⟩
        · exact ⟨_, fun H' s => .tup (SqT.of (s _ _ e72)) .nil, by simp [PyData.eqv, PyData.eqvAll], fun _ => rfl⟩
      refine ⟨_, rfl, _, rfl, i, v, (by simp), hi, fun q H8 s8 hq eq8 => ?_⟩
      refine ⟨_, rfl, _, rfl, Nat.le_of_ble_eq_true rfl, fun q2 hq2 => ?_⟩
      have s9 := same_new (o := .lst [.int (0 + (i : Int)), v]) hq2
      have ei : (0 : Int) + (i : Int) = (i : Int) := by omega
      rw [ei] at s9 ⊢
      have sA := s8.trans s9
      refine ⟨_, _, .lst (SqL.of (s9 _ _ eq8)) (.cons (.int _) (.cons (hd _ sA) .nil)), .lst (SqL.of upd_same) (.cons (.int _) (.cons (hd _ sA) .nil)), hsh _, hsh _, _, rfl, ?_⟩
      rw [show PyData.eqv (.list [.int (i : Int), d]) (.list [.int (i : Int), d]) = true from by simp [PyData.eqv, PyData.eqvAll, ed]]
      refine iteF ?_
      generalize upd H8 q2 (.lst [.int (i : Int), v]) = H9 at sA ⊢
      refine ⟨_, rfl, _, rfl, i, v, (by simp), hi, fun q3 H10 s10 hq3 eq10 => ?_⟩
      have g10 := (g7.same sA).same s10
      refine ⟨12, rfl, by omega, by omega, fun D hD => lcA walk_range (fun j acc H' => acc = (List.range j).map (fun m => V.bl (i == m)) ∧ Same H10 H') ⟨rfl, .refl _⟩ (fun j acc H' o h => ⟨h.1, same_mut h.2 hD⟩) (fun j acc H' _ h => trivial) ?_ ?_⟩
      · rintro j u acc _ H11 hj ⟨rfl, s11⟩ hA11 hl11 ⟨rfl, rfl⟩
        have hj' : j < 12 := hj
        have e0 : (0 : Int) + (j : Int) = (j : Int) := by omega
        show gName 6 (.int (0 + (j : Int))) [some (.ref a), some (.ref p), some (.ref L), some (.int (i : Int)), some v, none, none] H11 _
        rw [e0]
        refine ⟨rfl, _, rfl, _, rfl, ?_⟩
        refine ⟨rfl, LcP.put (fun i acc H' o h => ⟨h.1, same_mut h.2 hD⟩) hA11 hl11 (by omega) ⟨?_, s11⟩⟩
        rw [List.range_succ, List.map_append, List.map_singleton, dec_int]
        congr 3
        rw [Bool.eq_iff_iff]
        simp only [beq_iff_eq]
        omega
      · rintro acc H11 ⟨rfl, s11⟩ hA11 hl11
        refine ⟨Nat.le_of_ble_eq_true rfl, fun q4 hq4 => ?_⟩
        have t1' := same_new (o := .lst [V.bl true]) hq4
        refine ⟨_, _, _, _, rfl, rfl, t1' _ _ hA11, upd_same, Nat.le_of_ble_eq_true rfl, fun q5 hq5 => ?_⟩
        have t2' := t1'.trans (same_new (o := .lst (List.map (fun m => V.bl (i == m)) (List.range (Int.toNat 12)) ++ [V.bl true])) hq5)
        have ek : (fun n (_ : V) => kindsL n) i v = ((List.range 12).map (fun m => i == m) ++ [true]).map V.bl := by
          show (List.range 12).map (fun j => V.bl (i == j)) ++ [V.bl true] = _
          rw [List.map_append, List.map_map]
          rfl
        have er : List.map (fun m => V.bl (i == m)) (List.range (Int.toNat 12)) ++ [V.bl true] = ((List.range 12).map (fun m => i == m) ++ [true]).map V.bl := by
          rw [List.map_append, List.map_map]
          rfl
        rw [ek] at eq10
        rw [er] at t2' ⊢
        refine ⟨_, _, .lst (SqL.of (t2' _ _ (s11 _ _ eq10))) (dpAll_bl _), .lst (SqL.of upd_same) (dpAll_bl _), shaped_bl _, shaped_bl _, _, rfl, ?_⟩
        rw [eqv_bl]
        refine iteF ?_
        exact ⟨_, _, _, rfl, ((g10.same s11).same t2').mono (by omega)⟩
    · rintro σ H6 ⟨v3, v4, v6, rfl, g6⟩
      clear g6 e1 e2 eL
      refine ⟨_, rfl, fun d0 hd0 => ⟨_, rfl, fun d1 hd1 => ⟨_, rfl, fun d2 hd2 => ⟨_, rfl, fun d3 hd3 => ⟨Nat.le_of_ble_eq_true rfl, fun q0 hq0 => ?_⟩⟩⟩⟩⟩
      have k0 := upd_same (H := upd (upd (upd (upd H6 d0 (.xd [("line", .int 5)])) d1 (.xd [("state", .str "x")])) d2 (.xd [("count", .int 1)])) d3 (.xd [("line", .int 2)])) (a := q0) (o := .lst [.int 5, .str "x", .int 1, .int 2])
      generalize upd (upd (upd (upd (upd H6 d0 (.xd [("line", .int 5)])) d1 (.xd [("state", .str "x")])) d2 (.xd [("count", .int 1)])) d3 (.xd [("line", .int 2)])) q0 (.lst [.int 5, .str "x", .int 1, .int 2]) = H7 at k0 ⊢
      clear hd0 hd1 hd2 hd3 hq0
      refine ⟨_, rfl, _, rfl, fun d0 hd0 => ⟨_, rfl, fun d1 hd1 => ⟨_, rfl, fun d2 hd2 => ⟨Nat.le_of_ble_eq_true rfl, fun p0 hp0 => ?_⟩⟩⟩⟩
      have s0 := (((same_new hd0).trans (same_new hd1)).trans (same_new hd2)).trans (same_new (o := .lst [.int 3, .int 4, .int 6]) hp0)
      refine ⟨_, _, _, _, rfl, rfl, s0 _ _ k0, upd_same, Nat.le_of_ble_eq_true rfl, fun q1 hq1 => ?_⟩
      have k0' := upd_same (H := upd (upd (upd (upd H7 d0 (.xd [("row", .int 3)])) d1 (.xd [("state", .int 4)])) d2 (.xd [("arrow", .int 6)])) p0 (.lst [.int 3, .int 4, .int 6])) (a := q1) (o := .lst ([.int 5, .str "x", .int 1, .int 2] ++ [.int 3, .int 4, .int 6]))
      generalize upd (upd (upd (upd (upd H7 d0 (.xd [("row", .int 3)])) d1 (.xd [("state", .int 4)])) d2 (.xd [("arrow", .int 6)])) p0 (.lst [.int 3, .int 4, .int 6])) q1 (.lst ([.int 5, .str "x", .int 1, .int 2] ++ [.int 3, .int 4, .int 6])) = H8 at k0' ⊢
      clear hd0 hd1 hd2 hp0 hq1 s0
      refine ⟨_, rfl, _, rfl, fun d0 hd0 => ⟨_, rfl, fun d1 hd1 => ⟨_, rfl, fun d2 hd2 => ⟨Nat.le_of_ble_eq_true rfl, fun p0 hp0 => ?_⟩⟩⟩⟩
      have s0 := (((same_new hd0).trans (same_new hd1)).trans (same_new hd2)).trans (same_new (o := .lst [.int 7, .int 8, .int 9]) hp0)
      refine ⟨_, _, _, _, rfl, rfl, s0 _ _ k0', upd_same, Nat.le_of_ble_eq_true rfl, fun q1 hq1 => ?_⟩
      have k0'' := upd_same (H := upd (upd (upd (upd H8 d0 (.xd [("number", .int 7)])) d1 (.xd [("place", .int 8)])) d2 (.xd [("part", .int 9)])) p0 (.lst [.int 7, .int 8, .int 9])) (a := q1) (o := .lst (([.int 5, .str "x", .int 1, .int 2] ++ [.int 3, .int 4, .int 6]) ++ [.int 7, .int 8, .int 9]))
      generalize upd (upd (upd (upd (upd H8 d0 (.xd [("number", .int 7)])) d1 (.xd [("place", .int 8)])) d2 (.xd [("part", .int 9)])) p0 (.lst [.int 7, .int 8, .int 9])) q1 (.lst (([.int 5, .str "x", .int 1, .int 2] ++ [.int 3, .int 4, .int 6]) ++ [.int 7, .int 8, .int 9])) = H9 at k0'' ⊢
      clear hd0 hd1 hd2 hp0 hq1 s0
      refine ⟨_, rfl, Nat.le_of_ble_eq_true rfl, fun q2 hq2 => ?_⟩
      have s2 := same_new (o := .lst [.int 5, .str "x", .int 1, .int 2, .int 3, .int 4, .int 6, .int 7, .int 8, .int 9]) hq2
      have hD : ∀ {H' : Hp}, DpAll K H' [.int 5, .str "x", .int 1, .int 2, .int 3, .int 4, .int 6, .int 7, .int 8, .int 9] [.int 5, .str "x", .int 1, .int 2, .int 3, .int 4, .int 6, .int 7, .int 8, .int 9] := .cons (.int _) (.cons (.str _) (.cons (.int _) (.cons (.int _) (.cons (.int _) (.cons (.int _) (.cons (.int _) (.cons (.int _) (.cons (.int _) (.cons (.int _) .nil)))))))))
      have hs : SeqAt.shaped (.list [.int 5, .str "x", .int 1, .int 2, .int 3, .int 4, .int 6, .int 7, .int 8, .int 9]) = true := by decide +kernel
      refine ⟨_, _, .lst (SqL.of (s2 _ _ k0'')) hD, .lst (SqL.of upd_same) hD, hs, hs, ?_⟩
      rw [show PyData.eqv (.list [.int 5, .str "x", .int 1, .int 2, .int 3, .int 4, .int 6, .int 7, .int 8, .int 9]) (.list [.int 5, .str "x", .int 1, .int 2, .int 3, .int 4, .int 6, .int 7, .int 8, .int 9]) = true from by decide +kernel]
      exact k _
end
end Pf
namespace Pf
open PySem PySem.Spec PyProof.Rows L2 Bz
/-- what the top has left of a def -/
structure DefK (K : PySem.W.Frag) (x qual : PySem.Str) (st : Stmt) (f : Addr) : Prop where
  ex : ∃ (oc : Value) (od : Option Addr) (kV doc pm : Value) (an : Option Addr) (cdv ct : Value) (osl : Array (Option Value)),
    K.lookup f = some ⟨oc, od, .func (PySem.W.fnOf x qual (defArgs st) (defBody st) (defScope st) .none kV doc pm an cdv ct), osl⟩ ∧ PySem.W.codeIn K cdv qual = true
  kp : PySem.W.keepIn K (.ref f) = true
theorem defK_mk {K : PySem.W.Frag} {x qual : PySem.Str} {st : Stmt} {f : Addr} {oc : Value} {od : Option Addr} {kV doc pm : Value} {an : Option Addr} {cdv ct : Value} {osl : Array (Option Value)}
    (l : K.lookup f = some ⟨oc, od, .func (PySem.W.fnOf x qual (defArgs st) (defBody st) (defScope st) .none kV doc pm an cdv ct), osl⟩) (c : PySem.W.codeIn K cdv qual = true) (k : PySem.W.keepIn K (.ref f) = true) : DefK K x qual st f := ⟨⟨oc, od, kV, doc, pm, an, cdv, ct, osl, l, c⟩, k⟩
theorem DefK.fn {K : PySem.W.Frag} {x qual : PySem.Str} {st : Stmt} {f : Addr} (D : DefK K x qual st f) : ∃ fd, Fun K x qual st f fd := by
  obtain ⟨⟨oc, od, kV, doc, pm, an, cdv, ct, osl, l, c⟩, k⟩ := D
  exact ⟨_, fun_mk l c k⟩
theorem DefK.at_ {K : PySem.W.Frag} {mg : PySem.Str → Option Value} {x : PySem.Str} {st : Stmt} {f : Addr} {ps : List PySem.Str} (D : DefK K x x st f) (m : mg x = some (.ref f))
    (h : ∀ (kV doc pm : Value) (an : Option Addr) (cdv ct : Value) (us : List Value), us.length = ps.length → bindArgs (PySem.W.fnOf x x (defArgs st) (defBody st) (defScope st) .none kV doc pm an cdv ct) ⟨us, []⟩ = pure (ps.zip us)) : DefAt K mg x st ps := by
  obtain ⟨fd, F⟩ := D.fn
  exact ⟨f, fd, F, m, F.binds h⟩
theorem oexC_mk {K : PySem.W.Frag} {C P : Addr} {nm q : PySem.Str} {N : Addr} {bs : List Value} {sn : List PySem.Str} {sub : List Value} {ab : Bool} {col : Option Bool} {dd : Option Addr} {m0 m1 m2 m3 m5 : Option Value}
    (xL : K.lookup C = some (excClassObj nm q C N bs [.ref P, .type "ValueError", .type "Exception", .type "BaseException", .type "object"] true sn sub ab col dd m0 m1 m2 m3 m5 "ValueError.__new__"))
    (sa : PySem.W.findIn K (.ref C) "__setattr__" = some (some (.builtin "object.__setattr__"))) (ex : PySem.W.subIn K (.ref C) (.type "BaseException") = some true) (ty : PySem.W.typeIn K (.ref C) = some (.type "type")) (kc : PySem.W.keepIn K (.ref C) = true) : OexC K C :=
  ⟨⟨nm, q, N, bs, _, sn, sub, ab, col, dd, m0, m1, m2, m3, m5, xL, by exact (by decide +kernel : PySem.HandSPX.refsVE [.type "ValueError", .type "Exception", .type "BaseException", .type "object"] = true)⟩, sa, ex, ty, kc⟩
theorem DefK.err0_ {K : PySem.W.Frag} {mg : PySem.Str → Option Value} {C : Addr} {x qual : PySem.Str} {st : Stmt} {f : Addr} (D : DefK K "__init__" qual st f) (g : mg x = some (.ref C)) (o : OexC K C) (hd : PySem.W.hasDictIn K C = true) (ss : PySem.W.subIn K (.ref C) (.ref C) = some true)
    (i : PySem.W.findIn K (.ref C) "__init__" = some (some (.ref f))) (t : PySem.W.typeIn K (.ref f) = some (.type "function"))
    (h : ∀ (kV doc pm : Value) (an : Option Addr) (cdv ct : Value) (us : List Value), us.length = (["self"] : List PySem.Str).length → bindArgs (PySem.W.fnOf "__init__" qual (defArgs st) (defBody st) (defScope st) .none kV doc pm an cdv ct) ⟨us, []⟩ = pure ((["self"] : List PySem.Str).zip us)) : Err0 K mg x qual C st := by
  obtain ⟨fd, F⟩ := D.fn
  exact ⟨g, o, hd, ss, f, fd, i, t, F, F.binds h⟩
theorem DefK.err1_ {K : PySem.W.Frag} {mg : PySem.Str → Option Value} {C : Addr} {x qual fl : PySem.Str} {st : Stmt} {f : Addr} (D : DefK K "__init__" qual st f) (g : mg x = some (.ref C)) (o : OexC K C) (hd : PySem.W.hasDictIn K C = true) (ss : PySem.W.subIn K (.ref C) (.ref C) = some true)
    (no : PySem.W.findIn K (.ref C) fl = some none) (ga : PySem.W.findIn K (.ref C) "__getattribute__" = some (some (.builtin "BaseException.__getattribute__"))) (gg : PySem.W.findIn K (.ref C) "__getattr__" = some none)
    (i : PySem.W.findIn K (.ref C) "__init__" = some (some (.ref f))) (t : PySem.W.typeIn K (.ref f) = some (.type "function"))
    (h : ∀ (kV doc pm : Value) (an : Option Addr) (cdv ct : Value) (us : List Value), us.length = (["self", fl] : List PySem.Str).length → bindArgs (PySem.W.fnOf "__init__" qual (defArgs st) (defBody st) (defScope st) .none kV doc pm an cdv ct) ⟨us, []⟩ = pure ((["self", fl] : List PySem.Str).zip us)) : Err1 K mg x qual fl C st := by
  obtain ⟨fd, F⟩ := D.fn
  exact ⟨g, o, hd, ss, no, ga, gg, f, fd, i, t, F, F.binds h⟩
theorem all_mk {l : PySem.W.OpenLaw} {w : World} {K : PySem.W.Frag} {h : Heap} {mg : PySem.Str → Option Value} {fa : Addr} (X : K.In h) (G : h.Ns mainGlobals mg) (hfa : mg "law" = some (.ref fa))
    {C_BadArrow P_BadArrow f1 C_BadState P_BadState f2 C_TooMany P_TooMany f3 C_BadText P_BadText f4 C_BadRow P_BadRow f5 C_UnknownState P_UnknownState f6 C_UnknownArrow P_UnknownArrow f7 C_BadNumber P_BadNumber f8 C_BadExpression P_BadExpression f9 C_NotSettled P_NotSettled f10 C_BadTally P_BadTally f11 C_Unbounded P_Unbounded f12 C_PaidError f13 f14 f15 f16 f17 f18 f19 : Addr} {nm_1 q_1 : PySem.Str} {N_1 : Addr} {bs_1 : List Value} {sn_1 : List PySem.Str} {sub_1 : List Value} {ab_1 : Bool} {col_1 : Option Bool} {dd_1 : Option Addr} {v0_1 v1_1 v2_1 v3_1 v5_1 : Option Value} {nm_2 q_2 : PySem.Str} {N_2 : Addr} {bs_2 : List Value} {sn_2 : List PySem.Str} {sub_2 : List Value} {ab_2 : Bool} {col_2 : Option Bool} {dd_2 : Option Addr} {v0_2 v1_2 v2_2 v3_2 v5_2 : Option Value} {nm_3 q_3 : PySem.Str} {N_3 : Addr} {bs_3 : List Value} {sn_3 : List PySem.Str} {sub_3 : List Value} {ab_3 : Bool} {col_3 : Option Bool} {dd_3 : Option Addr} {v0_3 v1_3 v2_3 v3_3 v5_3 : Option Value} {nm_4 q_4 : PySem.Str} {N_4 : Addr} {bs_4 : List Value} {sn_4 : List PySem.Str} {sub_4 : List Value} {ab_4 : Bool} {col_4 : Option Bool} {dd_4 : Option Addr} {v0_4 v1_4 v2_4 v3_4 v5_4 : Option Value} {nm_5 q_5 : PySem.Str} {N_5 : Addr} {bs_5 : List Value} {sn_5 : List PySem.Str} {sub_5 : List Value} {ab_5 : Bool} {col_5 : Option Bool} {dd_5 : Option Addr} {v0_5 v1_5 v2_5 v3_5 v5_5 : Option Value} {nm_6 q_6 : PySem.Str} {N_6 : Addr} {bs_6 : List Value} {sn_6 : List PySem.Str} {sub_6 : List Value} {ab_6 : Bool} {col_6 : Option Bool} {dd_6 : Option Addr} {v0_6 v1_6 v2_6 v3_6 v5_6 : Option Value} {nm_7 q_7 : PySem.Str} {N_7 : Addr} {bs_7 : List Value} {sn_7 : List PySem.Str} {sub_7 : List Value} {ab_7 : Bool} {col_7 : Option Bool} {dd_7 : Option Addr} {v0_7 v1_7 v2_7 v3_7 v5_7 : Option Value} {nm_8 q_8 : PySem.Str} {N_8 : Addr} {bs_8 : List Value} {sn_8 : List PySem.Str} {sub_8 : List Value} {ab_8 : Bool} {col_8 : Option Bool} {dd_8 : Option Addr} {v0_8 v1_8 v2_8 v3_8 v5_8 : Option Value} {nm_9 q_9 : PySem.Str} {N_9 : Addr} {bs_9 : List Value} {sn_9 : List PySem.Str} {sub_9 : List Value} {ab_9 : Bool} {col_9 : Option Bool} {dd_9 : Option Addr} {v0_9 v1_9 v2_9 v3_9 v5_9 : Option Value} {nm_10 q_10 : PySem.Str} {N_10 : Addr} {bs_10 : List Value} {sn_10 : List PySem.Str} {sub_10 : List Value} {ab_10 : Bool} {col_10 : Option Bool} {dd_10 : Option Addr} {v0_10 v1_10 v2_10 v3_10 v5_10 : Option Value} {nm_11 q_11 : PySem.Str} {N_11 : Addr} {bs_11 : List Value} {sn_11 : List PySem.Str} {sub_11 : List Value} {ab_11 : Bool} {col_11 : Option Bool} {dd_11 : Option Addr} {v0_11 v1_11 v2_11 v3_11 v5_11 : Option Value} {nm_12 q_12 : PySem.Str} {N_12 : Addr} {bs_12 : List Value} {sn_12 : List PySem.Str} {sub_12 : List Value} {ab_12 : Bool} {col_12 : Option Bool} {dd_12 : Option Addr} {v0_12 v1_12 v2_12 v3_12 v5_12 : Option Value}
    (gC_BadArrow : PySem.W.nsIn K mainGlobals "BadArrow" = some (some (.ref C_BadArrow)))
    (xC_BadArrow : K.lookup C_BadArrow = some (excClassObj nm_1 q_1 C_BadArrow N_1 bs_1 [.ref P_BadArrow, .type "ValueError", .type "Exception", .type "BaseException", .type "object"] true sn_1 sub_1 ab_1 col_1 dd_1 v0_1 v1_1 v2_1 v3_1 v5_1 "ValueError.__new__"))
    (saC_BadArrow : PySem.W.findIn K (.ref C_BadArrow) "__setattr__" = some (some (.builtin "object.__setattr__")))
    (exC_BadArrow : PySem.W.subIn K (.ref C_BadArrow) (.type "BaseException") = some true)
    (tyC_BadArrow : PySem.W.typeIn K (.ref C_BadArrow) = some (.type "type"))
    (kcC_BadArrow : PySem.W.keepIn K (.ref C_BadArrow) = true)
    (hdC_BadArrow : PySem.W.hasDictIn K C_BadArrow = true)
    (ssC_BadArrow : PySem.W.subIn K (.ref C_BadArrow) (.ref C_BadArrow) = some true)
    (noC_BadArrow : PySem.W.findIn K (.ref C_BadArrow) "line" = some none)
    (gaC_BadArrow : PySem.W.findIn K (.ref C_BadArrow) "__getattribute__" = some (some (.builtin "BaseException.__getattribute__")))
    (ggC_BadArrow : PySem.W.findIn K (.ref C_BadArrow) "__getattr__" = some none)
    (iC_BadArrow : PySem.W.findIn K (.ref C_BadArrow) "__init__" = some (some (.ref f1)))
    (tC_BadArrow : PySem.W.typeIn K (.ref f1) = some (.type "function"))
    (D1 : DefK K "__init__" "BadArrow.__init__" s_BadArrow___init__ f1)
    (gC_BadState : PySem.W.nsIn K mainGlobals "BadState" = some (some (.ref C_BadState)))
    (xC_BadState : K.lookup C_BadState = some (excClassObj nm_2 q_2 C_BadState N_2 bs_2 [.ref P_BadState, .type "ValueError", .type "Exception", .type "BaseException", .type "object"] true sn_2 sub_2 ab_2 col_2 dd_2 v0_2 v1_2 v2_2 v3_2 v5_2 "ValueError.__new__"))
    (saC_BadState : PySem.W.findIn K (.ref C_BadState) "__setattr__" = some (some (.builtin "object.__setattr__")))
    (exC_BadState : PySem.W.subIn K (.ref C_BadState) (.type "BaseException") = some true)
    (tyC_BadState : PySem.W.typeIn K (.ref C_BadState) = some (.type "type"))
    (kcC_BadState : PySem.W.keepIn K (.ref C_BadState) = true)
    (hdC_BadState : PySem.W.hasDictIn K C_BadState = true)
    (ssC_BadState : PySem.W.subIn K (.ref C_BadState) (.ref C_BadState) = some true)
    (noC_BadState : PySem.W.findIn K (.ref C_BadState) "state" = some none)
    (gaC_BadState : PySem.W.findIn K (.ref C_BadState) "__getattribute__" = some (some (.builtin "BaseException.__getattribute__")))
    (ggC_BadState : PySem.W.findIn K (.ref C_BadState) "__getattr__" = some none)
    (iC_BadState : PySem.W.findIn K (.ref C_BadState) "__init__" = some (some (.ref f2)))
    (tC_BadState : PySem.W.typeIn K (.ref f2) = some (.type "function"))
    (D2 : DefK K "__init__" "BadState.__init__" s_BadState___init__ f2)
    (gC_TooMany : PySem.W.nsIn K mainGlobals "TooMany" = some (some (.ref C_TooMany)))
    (xC_TooMany : K.lookup C_TooMany = some (excClassObj nm_3 q_3 C_TooMany N_3 bs_3 [.ref P_TooMany, .type "ValueError", .type "Exception", .type "BaseException", .type "object"] true sn_3 sub_3 ab_3 col_3 dd_3 v0_3 v1_3 v2_3 v3_3 v5_3 "ValueError.__new__"))
    (saC_TooMany : PySem.W.findIn K (.ref C_TooMany) "__setattr__" = some (some (.builtin "object.__setattr__")))
    (exC_TooMany : PySem.W.subIn K (.ref C_TooMany) (.type "BaseException") = some true)
    (tyC_TooMany : PySem.W.typeIn K (.ref C_TooMany) = some (.type "type"))
    (kcC_TooMany : PySem.W.keepIn K (.ref C_TooMany) = true)
    (hdC_TooMany : PySem.W.hasDictIn K C_TooMany = true)
    (ssC_TooMany : PySem.W.subIn K (.ref C_TooMany) (.ref C_TooMany) = some true)
    (noC_TooMany : PySem.W.findIn K (.ref C_TooMany) "count" = some none)
    (gaC_TooMany : PySem.W.findIn K (.ref C_TooMany) "__getattribute__" = some (some (.builtin "BaseException.__getattribute__")))
    (ggC_TooMany : PySem.W.findIn K (.ref C_TooMany) "__getattr__" = some none)
    (iC_TooMany : PySem.W.findIn K (.ref C_TooMany) "__init__" = some (some (.ref f3)))
    (tC_TooMany : PySem.W.typeIn K (.ref f3) = some (.type "function"))
    (D3 : DefK K "__init__" "TooMany.__init__" s_TooMany___init__ f3)
    (gC_BadText : PySem.W.nsIn K mainGlobals "BadText" = some (some (.ref C_BadText)))
    (xC_BadText : K.lookup C_BadText = some (excClassObj nm_4 q_4 C_BadText N_4 bs_4 [.ref P_BadText, .type "ValueError", .type "Exception", .type "BaseException", .type "object"] true sn_4 sub_4 ab_4 col_4 dd_4 v0_4 v1_4 v2_4 v3_4 v5_4 "ValueError.__new__"))
    (saC_BadText : PySem.W.findIn K (.ref C_BadText) "__setattr__" = some (some (.builtin "object.__setattr__")))
    (exC_BadText : PySem.W.subIn K (.ref C_BadText) (.type "BaseException") = some true)
    (tyC_BadText : PySem.W.typeIn K (.ref C_BadText) = some (.type "type"))
    (kcC_BadText : PySem.W.keepIn K (.ref C_BadText) = true)
    (hdC_BadText : PySem.W.hasDictIn K C_BadText = true)
    (ssC_BadText : PySem.W.subIn K (.ref C_BadText) (.ref C_BadText) = some true)
    (noC_BadText : PySem.W.findIn K (.ref C_BadText) "line" = some none)
    (gaC_BadText : PySem.W.findIn K (.ref C_BadText) "__getattribute__" = some (some (.builtin "BaseException.__getattribute__")))
    (ggC_BadText : PySem.W.findIn K (.ref C_BadText) "__getattr__" = some none)
    (iC_BadText : PySem.W.findIn K (.ref C_BadText) "__init__" = some (some (.ref f4)))
    (tC_BadText : PySem.W.typeIn K (.ref f4) = some (.type "function"))
    (D4 : DefK K "__init__" "BadText.__init__" s_BadText___init__ f4)
    (gC_BadRow : PySem.W.nsIn K mainGlobals "BadRow" = some (some (.ref C_BadRow)))
    (xC_BadRow : K.lookup C_BadRow = some (excClassObj nm_5 q_5 C_BadRow N_5 bs_5 [.ref P_BadRow, .type "ValueError", .type "Exception", .type "BaseException", .type "object"] true sn_5 sub_5 ab_5 col_5 dd_5 v0_5 v1_5 v2_5 v3_5 v5_5 "ValueError.__new__"))
    (saC_BadRow : PySem.W.findIn K (.ref C_BadRow) "__setattr__" = some (some (.builtin "object.__setattr__")))
    (exC_BadRow : PySem.W.subIn K (.ref C_BadRow) (.type "BaseException") = some true)
    (tyC_BadRow : PySem.W.typeIn K (.ref C_BadRow) = some (.type "type"))
    (kcC_BadRow : PySem.W.keepIn K (.ref C_BadRow) = true)
    (hdC_BadRow : PySem.W.hasDictIn K C_BadRow = true)
    (ssC_BadRow : PySem.W.subIn K (.ref C_BadRow) (.ref C_BadRow) = some true)
    (noC_BadRow : PySem.W.findIn K (.ref C_BadRow) "row" = some none)
    (gaC_BadRow : PySem.W.findIn K (.ref C_BadRow) "__getattribute__" = some (some (.builtin "BaseException.__getattribute__")))
    (ggC_BadRow : PySem.W.findIn K (.ref C_BadRow) "__getattr__" = some none)
    (iC_BadRow : PySem.W.findIn K (.ref C_BadRow) "__init__" = some (some (.ref f5)))
    (tC_BadRow : PySem.W.typeIn K (.ref f5) = some (.type "function"))
    (D5 : DefK K "__init__" "BadRow.__init__" s_BadRow___init__ f5)
    (gC_UnknownState : PySem.W.nsIn K mainGlobals "UnknownState" = some (some (.ref C_UnknownState)))
    (xC_UnknownState : K.lookup C_UnknownState = some (excClassObj nm_6 q_6 C_UnknownState N_6 bs_6 [.ref P_UnknownState, .type "ValueError", .type "Exception", .type "BaseException", .type "object"] true sn_6 sub_6 ab_6 col_6 dd_6 v0_6 v1_6 v2_6 v3_6 v5_6 "ValueError.__new__"))
    (saC_UnknownState : PySem.W.findIn K (.ref C_UnknownState) "__setattr__" = some (some (.builtin "object.__setattr__")))
    (exC_UnknownState : PySem.W.subIn K (.ref C_UnknownState) (.type "BaseException") = some true)
    (tyC_UnknownState : PySem.W.typeIn K (.ref C_UnknownState) = some (.type "type"))
    (kcC_UnknownState : PySem.W.keepIn K (.ref C_UnknownState) = true)
    (hdC_UnknownState : PySem.W.hasDictIn K C_UnknownState = true)
    (ssC_UnknownState : PySem.W.subIn K (.ref C_UnknownState) (.ref C_UnknownState) = some true)
    (noC_UnknownState : PySem.W.findIn K (.ref C_UnknownState) "state" = some none)
    (gaC_UnknownState : PySem.W.findIn K (.ref C_UnknownState) "__getattribute__" = some (some (.builtin "BaseException.__getattribute__")))
    (ggC_UnknownState : PySem.W.findIn K (.ref C_UnknownState) "__getattr__" = some none)
    (iC_UnknownState : PySem.W.findIn K (.ref C_UnknownState) "__init__" = some (some (.ref f6)))
    (tC_UnknownState : PySem.W.typeIn K (.ref f6) = some (.type "function"))
    (D6 : DefK K "__init__" "UnknownState.__init__" s_UnknownState___init__ f6)
    (gC_UnknownArrow : PySem.W.nsIn K mainGlobals "UnknownArrow" = some (some (.ref C_UnknownArrow)))
    (xC_UnknownArrow : K.lookup C_UnknownArrow = some (excClassObj nm_7 q_7 C_UnknownArrow N_7 bs_7 [.ref P_UnknownArrow, .type "ValueError", .type "Exception", .type "BaseException", .type "object"] true sn_7 sub_7 ab_7 col_7 dd_7 v0_7 v1_7 v2_7 v3_7 v5_7 "ValueError.__new__"))
    (saC_UnknownArrow : PySem.W.findIn K (.ref C_UnknownArrow) "__setattr__" = some (some (.builtin "object.__setattr__")))
    (exC_UnknownArrow : PySem.W.subIn K (.ref C_UnknownArrow) (.type "BaseException") = some true)
    (tyC_UnknownArrow : PySem.W.typeIn K (.ref C_UnknownArrow) = some (.type "type"))
    (kcC_UnknownArrow : PySem.W.keepIn K (.ref C_UnknownArrow) = true)
    (hdC_UnknownArrow : PySem.W.hasDictIn K C_UnknownArrow = true)
    (ssC_UnknownArrow : PySem.W.subIn K (.ref C_UnknownArrow) (.ref C_UnknownArrow) = some true)
    (noC_UnknownArrow : PySem.W.findIn K (.ref C_UnknownArrow) "arrow" = some none)
    (gaC_UnknownArrow : PySem.W.findIn K (.ref C_UnknownArrow) "__getattribute__" = some (some (.builtin "BaseException.__getattribute__")))
    (ggC_UnknownArrow : PySem.W.findIn K (.ref C_UnknownArrow) "__getattr__" = some none)
    (iC_UnknownArrow : PySem.W.findIn K (.ref C_UnknownArrow) "__init__" = some (some (.ref f7)))
    (tC_UnknownArrow : PySem.W.typeIn K (.ref f7) = some (.type "function"))
    (D7 : DefK K "__init__" "UnknownArrow.__init__" s_UnknownArrow___init__ f7)
    (gC_BadNumber : PySem.W.nsIn K mainGlobals "BadNumber" = some (some (.ref C_BadNumber)))
    (xC_BadNumber : K.lookup C_BadNumber = some (excClassObj nm_8 q_8 C_BadNumber N_8 bs_8 [.ref P_BadNumber, .type "ValueError", .type "Exception", .type "BaseException", .type "object"] true sn_8 sub_8 ab_8 col_8 dd_8 v0_8 v1_8 v2_8 v3_8 v5_8 "ValueError.__new__"))
    (saC_BadNumber : PySem.W.findIn K (.ref C_BadNumber) "__setattr__" = some (some (.builtin "object.__setattr__")))
    (exC_BadNumber : PySem.W.subIn K (.ref C_BadNumber) (.type "BaseException") = some true)
    (tyC_BadNumber : PySem.W.typeIn K (.ref C_BadNumber) = some (.type "type"))
    (kcC_BadNumber : PySem.W.keepIn K (.ref C_BadNumber) = true)
    (hdC_BadNumber : PySem.W.hasDictIn K C_BadNumber = true)
    (ssC_BadNumber : PySem.W.subIn K (.ref C_BadNumber) (.ref C_BadNumber) = some true)
    (noC_BadNumber : PySem.W.findIn K (.ref C_BadNumber) "number" = some none)
    (gaC_BadNumber : PySem.W.findIn K (.ref C_BadNumber) "__getattribute__" = some (some (.builtin "BaseException.__getattribute__")))
    (ggC_BadNumber : PySem.W.findIn K (.ref C_BadNumber) "__getattr__" = some none)
    (iC_BadNumber : PySem.W.findIn K (.ref C_BadNumber) "__init__" = some (some (.ref f8)))
    (tC_BadNumber : PySem.W.typeIn K (.ref f8) = some (.type "function"))
    (D8 : DefK K "__init__" "BadNumber.__init__" s_BadNumber___init__ f8)
    (gC_BadExpression : PySem.W.nsIn K mainGlobals "BadExpression" = some (some (.ref C_BadExpression)))
    (xC_BadExpression : K.lookup C_BadExpression = some (excClassObj nm_9 q_9 C_BadExpression N_9 bs_9 [.ref P_BadExpression, .type "ValueError", .type "Exception", .type "BaseException", .type "object"] true sn_9 sub_9 ab_9 col_9 dd_9 v0_9 v1_9 v2_9 v3_9 v5_9 "ValueError.__new__"))
    (saC_BadExpression : PySem.W.findIn K (.ref C_BadExpression) "__setattr__" = some (some (.builtin "object.__setattr__")))
    (exC_BadExpression : PySem.W.subIn K (.ref C_BadExpression) (.type "BaseException") = some true)
    (tyC_BadExpression : PySem.W.typeIn K (.ref C_BadExpression) = some (.type "type"))
    (kcC_BadExpression : PySem.W.keepIn K (.ref C_BadExpression) = true)
    (hdC_BadExpression : PySem.W.hasDictIn K C_BadExpression = true)
    (ssC_BadExpression : PySem.W.subIn K (.ref C_BadExpression) (.ref C_BadExpression) = some true)
    (noC_BadExpression : PySem.W.findIn K (.ref C_BadExpression) "place" = some none)
    (gaC_BadExpression : PySem.W.findIn K (.ref C_BadExpression) "__getattribute__" = some (some (.builtin "BaseException.__getattribute__")))
    (ggC_BadExpression : PySem.W.findIn K (.ref C_BadExpression) "__getattr__" = some none)
    (iC_BadExpression : PySem.W.findIn K (.ref C_BadExpression) "__init__" = some (some (.ref f9)))
    (tC_BadExpression : PySem.W.typeIn K (.ref f9) = some (.type "function"))
    (D9 : DefK K "__init__" "BadExpression.__init__" s_BadExpression___init__ f9)
    (gC_NotSettled : PySem.W.nsIn K mainGlobals "NotSettled" = some (some (.ref C_NotSettled)))
    (xC_NotSettled : K.lookup C_NotSettled = some (excClassObj nm_10 q_10 C_NotSettled N_10 bs_10 [.ref P_NotSettled, .type "ValueError", .type "Exception", .type "BaseException", .type "object"] true sn_10 sub_10 ab_10 col_10 dd_10 v0_10 v1_10 v2_10 v3_10 v5_10 "ValueError.__new__"))
    (saC_NotSettled : PySem.W.findIn K (.ref C_NotSettled) "__setattr__" = some (some (.builtin "object.__setattr__")))
    (exC_NotSettled : PySem.W.subIn K (.ref C_NotSettled) (.type "BaseException") = some true)
    (tyC_NotSettled : PySem.W.typeIn K (.ref C_NotSettled) = some (.type "type"))
    (kcC_NotSettled : PySem.W.keepIn K (.ref C_NotSettled) = true)
    (hdC_NotSettled : PySem.W.hasDictIn K C_NotSettled = true)
    (ssC_NotSettled : PySem.W.subIn K (.ref C_NotSettled) (.ref C_NotSettled) = some true)
    (noC_NotSettled : PySem.W.findIn K (.ref C_NotSettled) "part" = some none)
    (gaC_NotSettled : PySem.W.findIn K (.ref C_NotSettled) "__getattribute__" = some (some (.builtin "BaseException.__getattribute__")))
    (ggC_NotSettled : PySem.W.findIn K (.ref C_NotSettled) "__getattr__" = some none)
    (iC_NotSettled : PySem.W.findIn K (.ref C_NotSettled) "__init__" = some (some (.ref f10)))
    (tC_NotSettled : PySem.W.typeIn K (.ref f10) = some (.type "function"))
    (D10 : DefK K "__init__" "NotSettled.__init__" s_NotSettled___init__ f10)
    (gC_BadTally : PySem.W.nsIn K mainGlobals "BadTally" = some (some (.ref C_BadTally)))
    (xC_BadTally : K.lookup C_BadTally = some (excClassObj nm_11 q_11 C_BadTally N_11 bs_11 [.ref P_BadTally, .type "ValueError", .type "Exception", .type "BaseException", .type "object"] true sn_11 sub_11 ab_11 col_11 dd_11 v0_11 v1_11 v2_11 v3_11 v5_11 "ValueError.__new__"))
    (saC_BadTally : PySem.W.findIn K (.ref C_BadTally) "__setattr__" = some (some (.builtin "object.__setattr__")))
    (exC_BadTally : PySem.W.subIn K (.ref C_BadTally) (.type "BaseException") = some true)
    (tyC_BadTally : PySem.W.typeIn K (.ref C_BadTally) = some (.type "type"))
    (kcC_BadTally : PySem.W.keepIn K (.ref C_BadTally) = true)
    (hdC_BadTally : PySem.W.hasDictIn K C_BadTally = true)
    (ssC_BadTally : PySem.W.subIn K (.ref C_BadTally) (.ref C_BadTally) = some true)
    (iC_BadTally : PySem.W.findIn K (.ref C_BadTally) "__init__" = some (some (.ref f11)))
    (tC_BadTally : PySem.W.typeIn K (.ref f11) = some (.type "function"))
    (D11 : DefK K "__init__" "BadTally.__init__" s_BadTally___init__ f11)
    (gC_Unbounded : PySem.W.nsIn K mainGlobals "Unbounded" = some (some (.ref C_Unbounded)))
    (xC_Unbounded : K.lookup C_Unbounded = some (excClassObj nm_12 q_12 C_Unbounded N_12 bs_12 [.ref P_Unbounded, .type "ValueError", .type "Exception", .type "BaseException", .type "object"] true sn_12 sub_12 ab_12 col_12 dd_12 v0_12 v1_12 v2_12 v3_12 v5_12 "ValueError.__new__"))
    (saC_Unbounded : PySem.W.findIn K (.ref C_Unbounded) "__setattr__" = some (some (.builtin "object.__setattr__")))
    (exC_Unbounded : PySem.W.subIn K (.ref C_Unbounded) (.type "BaseException") = some true)
    (tyC_Unbounded : PySem.W.typeIn K (.ref C_Unbounded) = some (.type "type"))
    (kcC_Unbounded : PySem.W.keepIn K (.ref C_Unbounded) = true)
    (hdC_Unbounded : PySem.W.hasDictIn K C_Unbounded = true)
    (ssC_Unbounded : PySem.W.subIn K (.ref C_Unbounded) (.ref C_Unbounded) = some true)
    (iC_Unbounded : PySem.W.findIn K (.ref C_Unbounded) "__init__" = some (some (.ref f12)))
    (tC_Unbounded : PySem.W.typeIn K (.ref f12) = some (.type "function"))
    (D12 : DefK K "__init__" "Unbounded.__init__" s_Unbounded___init__ f12)
    (gPE : PySem.W.nsIn K mainGlobals "PaidError" = some (some (.ref C_PaidError)))
    (etab : tabE K [C_BadArrow, C_BadState, C_TooMany, C_BadText, C_BadRow, C_UnknownState, C_UnknownArrow, C_BadNumber, C_BadExpression, C_NotSettled, C_BadTally, C_Unbounded] C_PaidError = true)
    (a13 : PySem.W.nsIn K mainGlobals "_law_source" = some (some (.ref f13)))
    (D13 : DefK K "_law_source" "_law_source" s__law_source f13)
    (a14 : PySem.W.nsIn K mainGlobals "_law_draw" = some (some (.ref f14)))
    (D14 : DefK K "_law_draw" "_law_draw" s__law_draw f14)
    (a15 : PySem.W.nsIn K mainGlobals "_law_pick" = some (some (.ref f15)))
    (D15 : DefK K "_law_pick" "_law_pick" s__law_pick f15)
    (a16 : PySem.W.nsIn K mainGlobals "_law_raised" = some (some (.ref f16)))
    (D16 : DefK K "_law_raised" "_law_raised" s__law_raised f16)
    (a17 : PySem.W.nsIn K mainGlobals "_law_fields" = some (some (.ref f17)))
    (D17 : DefK K "_law_fields" "_law_fields" s__law_fields f17)
    (a18 : PySem.W.nsIn K mainGlobals "_law_kinds" = some (some (.ref f18)))
    (D18 : DefK K "_law_kinds" "_law_kinds" s__law_kinds f18)
    (a19 : PySem.W.nsIn K mainGlobals "law" = some (some (.ref f19)))
    (D19 : DefK K "law" "law" s_law f19)
    (b_int : PySem.W.nsIn K mainGlobals "int" = some none)
    (b_len : PySem.W.nsIn K mainGlobals "len" = some none)
    (b_range : PySem.W.nsIn K mainGlobals "range" = some none)
    (b_isinstance : PySem.W.nsIn K mainGlobals "isinstance" = some none)
    (b_ValueError : PySem.W.nsIn K mainGlobals "ValueError" = some none) :
    ∃ fd : FuncData, (∀ (s : Shared) (v : Value), BindsTo s fd ⟨[v], []⟩ [("_law_script", v)]) ∧ ∀ base : Heap, K.In base → base.Ns mainGlobals mg → FnOk l.prog w K mg base CX0 5 fa fd ["_law_script"] (spLaw K) := by
  have e := hfa.symm.trans (PySem.W.mg_of X G a19)
  cases e
  have T : Facts K mg ⟨C_BadArrow, C_BadState, C_TooMany, C_BadText, C_BadRow, C_UnknownState, C_UnknownArrow, C_BadNumber, C_BadExpression, C_NotSettled, C_BadTally, C_Unbounded, C_PaidError⟩ := {
    x_BadArrow := D1.err1_ (PySem.W.mg_of X G gC_BadArrow) (oexC_mk xC_BadArrow saC_BadArrow exC_BadArrow tyC_BadArrow kcC_BadArrow) hdC_BadArrow ssC_BadArrow noC_BadArrow gaC_BadArrow ggC_BadArrow iC_BadArrow tC_BadArrow (fun _ _ _ _ _ _ us hl => match us, hl with | [_, _], _ => rfl)
    x_BadState := D2.err1_ (PySem.W.mg_of X G gC_BadState) (oexC_mk xC_BadState saC_BadState exC_BadState tyC_BadState kcC_BadState) hdC_BadState ssC_BadState noC_BadState gaC_BadState ggC_BadState iC_BadState tC_BadState (fun _ _ _ _ _ _ us hl => match us, hl with | [_, _], _ => rfl)
    x_TooMany := D3.err1_ (PySem.W.mg_of X G gC_TooMany) (oexC_mk xC_TooMany saC_TooMany exC_TooMany tyC_TooMany kcC_TooMany) hdC_TooMany ssC_TooMany noC_TooMany gaC_TooMany ggC_TooMany iC_TooMany tC_TooMany (fun _ _ _ _ _ _ us hl => match us, hl with | [_, _], _ => rfl)
    x_BadText := D4.err1_ (PySem.W.mg_of X G gC_BadText) (oexC_mk xC_BadText saC_BadText exC_BadText tyC_BadText kcC_BadText) hdC_BadText ssC_BadText noC_BadText gaC_BadText ggC_BadText iC_BadText tC_BadText (fun _ _ _ _ _ _ us hl => match us, hl with | [_, _], _ => rfl)
    x_BadRow := D5.err1_ (PySem.W.mg_of X G gC_BadRow) (oexC_mk xC_BadRow saC_BadRow exC_BadRow tyC_BadRow kcC_BadRow) hdC_BadRow ssC_BadRow noC_BadRow gaC_BadRow ggC_BadRow iC_BadRow tC_BadRow (fun _ _ _ _ _ _ us hl => match us, hl with | [_, _], _ => rfl)
    x_UnknownState := D6.err1_ (PySem.W.mg_of X G gC_UnknownState) (oexC_mk xC_UnknownState saC_UnknownState exC_UnknownState tyC_UnknownState kcC_UnknownState) hdC_UnknownState ssC_UnknownState noC_UnknownState gaC_UnknownState ggC_UnknownState iC_UnknownState tC_UnknownState (fun _ _ _ _ _ _ us hl => match us, hl with | [_, _], _ => rfl)
    x_UnknownArrow := D7.err1_ (PySem.W.mg_of X G gC_UnknownArrow) (oexC_mk xC_UnknownArrow saC_UnknownArrow exC_UnknownArrow tyC_UnknownArrow kcC_UnknownArrow) hdC_UnknownArrow ssC_UnknownArrow noC_UnknownArrow gaC_UnknownArrow ggC_UnknownArrow iC_UnknownArrow tC_UnknownArrow (fun _ _ _ _ _ _ us hl => match us, hl with | [_, _], _ => rfl)
    x_BadNumber := D8.err1_ (PySem.W.mg_of X G gC_BadNumber) (oexC_mk xC_BadNumber saC_BadNumber exC_BadNumber tyC_BadNumber kcC_BadNumber) hdC_BadNumber ssC_BadNumber noC_BadNumber gaC_BadNumber ggC_BadNumber iC_BadNumber tC_BadNumber (fun _ _ _ _ _ _ us hl => match us, hl with | [_, _], _ => rfl)
    x_BadExpression := D9.err1_ (PySem.W.mg_of X G gC_BadExpression) (oexC_mk xC_BadExpression saC_BadExpression exC_BadExpression tyC_BadExpression kcC_BadExpression) hdC_BadExpression ssC_BadExpression noC_BadExpression gaC_BadExpression ggC_BadExpression iC_BadExpression tC_BadExpression (fun _ _ _ _ _ _ us hl => match us, hl with | [_, _], _ => rfl)
    x_NotSettled := D10.err1_ (PySem.W.mg_of X G gC_NotSettled) (oexC_mk xC_NotSettled saC_NotSettled exC_NotSettled tyC_NotSettled kcC_NotSettled) hdC_NotSettled ssC_NotSettled noC_NotSettled gaC_NotSettled ggC_NotSettled iC_NotSettled tC_NotSettled (fun _ _ _ _ _ _ us hl => match us, hl with | [_, _], _ => rfl)
    x_BadTally := D11.err0_ (PySem.W.mg_of X G gC_BadTally) (oexC_mk xC_BadTally saC_BadTally exC_BadTally tyC_BadTally kcC_BadTally) hdC_BadTally ssC_BadTally iC_BadTally tC_BadTally (fun _ _ _ _ _ _ us hl => match us, hl with | [_], _ => rfl)
    x_Unbounded := D12.err0_ (PySem.W.mg_of X G gC_Unbounded) (oexC_mk xC_Unbounded saC_Unbounded exC_Unbounded tyC_Unbounded kcC_Unbounded) hdC_Unbounded ssC_Unbounded iC_Unbounded tC_Unbounded (fun _ _ _ _ _ _ us hl => match us, hl with | [_], _ => rfl)
    g_PaidError := PySem.W.mg_of X G gPE
    etab := etab
    d__law_source := D13.at_ (PySem.W.mg_of X G a13) (fun _ _ _ _ _ _ us hl => match us, hl with | [_], _ => rfl)
    d__law_draw := D14.at_ (PySem.W.mg_of X G a14) (fun _ _ _ _ _ _ us hl => match us, hl with | [_, _], _ => rfl)
    d__law_pick := D15.at_ (PySem.W.mg_of X G a15) (fun _ _ _ _ _ _ us hl => match us, hl with | [_, _], _ => rfl)
    d__law_raised := D16.at_ (PySem.W.mg_of X G a16) (fun _ _ _ _ _ _ us hl => match us, hl with | [_, _], _ => rfl)
    d__law_fields := D17.at_ (PySem.W.mg_of X G a17) (fun _ _ _ _ _ _ us hl => match us, hl with | [_, _], _ => rfl)
    d__law_kinds := D18.at_ (PySem.W.mg_of X G a18) (fun _ _ _ _ _ _ us hl => match us, hl with | [_, _], _ => rfl)
    b_int := PySem.W.mg_none_of X G b_int
    b_len := PySem.W.mg_none_of X G b_len
    b_range := PySem.W.mg_none_of X G b_range
    b_isinstance := PySem.W.mg_none_of X G b_isinstance
    b_ValueError := PySem.W.mg_none_of X G b_ValueError }
  obtain ⟨⟨oc, od, kV, doc, pm, an, cdv, ct, osl, l1, c1⟩, k1⟩ := D19
  exact ⟨PySem.W.fnOf "law" "law" (defArgs s_law) (defBody s_law) (defScope s_law) .none kV doc pm an cdv ct, fun s v => .of_eq rfl, fun base _ _ => fn_law T (fun_mk l1 c1 k1)⟩
theorem walkE {l : PySem.W.OpenLaw} {q : Program} {loose : List PySem.Str} {XP : (PySem.Str → Option Value) → Heap → Prop} {YP : World → Heap → Prop} {d : DefRec} {K : Params → PySem.W.Frag} (hn : l.most = some 63) (hdf : d.params.defaults = [])
    (hY : ∀ (w : World) (h : Heap), YP w h → (K w.params).In h)
    (F : ∀ (w : World) (mg : PySem.Str → Option Value) (fa : Addr) (h : Heap), (K w.params).In h → h.Ns mainGlobals mg → mg d.name = some (.ref fa) →
      ∃ fd : FuncData, (∀ (s : Shared) (u : Value), BindsTo s fd ⟨[u], []⟩ [("_law_script", u)]) ∧ ∀ base : Heap, (K w.params).In base → base.Ns mainGlobals mg → FnOk l.prog w (K w.params) mg base CX0 5 fa fd ["_law_script"] (spLaw (K w.params))) :
    PySem.W.WalkO q loose XP YP l.row.toRowW d [] (fun f vs => PySem.call f vs) :=
  L2.walk_of (n := 63) (k := 5) (x := "_law_script") (CX := fun _ => CX0) (sp := fun w => spLaw (K w.params)) hn (by decide) hdf ⟨rfl, by decide, by decide⟩ hY F (fun _ _ a ns hl _ hS => ⟨a, ns, rfl, hS, fun _ => rfl⟩) fun _ _ _ _ _ z => z
end Pf
open PySem PySem.W PyProof.Rows in
set_option maxRecDepth 100000 in
set_option maxHeartbeats 0 in
theorem PySem.Challenge.cw_enoughpaid_k27_errors_made_holds : PySem.Challenge.rw_enoughpaid_k27_errors_made.Holds := by
  w_on; o_law; k_head; (case hw => w_witness2)
  k_fill
  refine Pf.walkE (l := PySem.Challenge.rw_enoughpaid_k27_errors_made) rfl rfl (fun w h Y => PySem.W.kIn_of Y) ?F
  case F =>
    intro w mg fa h KX G hmg
    refine' Pf.all_mk KX G hmg ?gC_BadArrow ?xC_BadArrow ?saC_BadArrow ?exC_BadArrow ?tyC_BadArrow ?kcC_BadArrow ?hdC_BadArrow ?ssC_BadArrow ?noC_BadArrow ?gaC_BadArrow ?ggC_BadArrow ?iC_BadArrow ?tC_BadArrow (Pf.defK_mk ?l1 ?c1 ?k1) ?gC_BadState ?xC_BadState ?saC_BadState ?exC_BadState ?tyC_BadState ?kcC_BadState ?hdC_BadState ?ssC_BadState ?noC_BadState ?gaC_BadState ?ggC_BadState ?iC_BadState ?tC_BadState (Pf.defK_mk ?l2 ?c2 ?k2) ?gC_TooMany ?xC_TooMany ?saC_TooMany ?exC_TooMany ?tyC_TooMany ?kcC_TooMany ?hdC_TooMany ?ssC_TooMany ?noC_TooMany ?gaC_TooMany ?ggC_TooMany ?iC_TooMany ?tC_TooMany (Pf.defK_mk ?l3 ?c3 ?k3) ?gC_BadText ?xC_BadText ?saC_BadText ?exC_BadText ?tyC_BadText ?kcC_BadText ?hdC_BadText ?ssC_BadText ?noC_BadText ?gaC_BadText ?ggC_BadText ?iC_BadText ?tC_BadText (Pf.defK_mk ?l4 ?c4 ?k4) ?gC_BadRow ?xC_BadRow ?saC_BadRow ?exC_BadRow ?tyC_BadRow ?kcC_BadRow ?hdC_BadRow ?ssC_BadRow ?noC_BadRow ?gaC_BadRow ?ggC_BadRow ?iC_BadRow ?tC_BadRow (Pf.defK_mk ?l5 ?c5 ?k5) ?gC_UnknownState ?xC_UnknownState ?saC_UnknownState ?exC_UnknownState ?tyC_UnknownState ?kcC_UnknownState ?hdC_UnknownState ?ssC_UnknownState ?noC_UnknownState ?gaC_UnknownState ?ggC_UnknownState ?iC_UnknownState ?tC_UnknownState (Pf.defK_mk ?l6 ?c6 ?k6) ?gC_UnknownArrow ?xC_UnknownArrow ?saC_UnknownArrow ?exC_UnknownArrow ?tyC_UnknownArrow ?kcC_UnknownArrow ?hdC_UnknownArrow ?ssC_UnknownArrow ?noC_UnknownArrow ?gaC_UnknownArrow ?ggC_UnknownArrow ?iC_UnknownArrow ?tC_UnknownArrow (Pf.defK_mk ?l7 ?c7 ?k7) ?gC_BadNumber ?xC_BadNumber ?saC_BadNumber ?exC_BadNumber ?tyC_BadNumber ?kcC_BadNumber ?hdC_BadNumber ?ssC_BadNumber ?noC_BadNumber ?gaC_BadNumber ?ggC_BadNumber ?iC_BadNumber ?tC_BadNumber (Pf.defK_mk ?l8 ?c8 ?k8) ?gC_BadExpression ?xC_BadExpression ?saC_BadExpression ?exC_BadExpression ?tyC_BadExpression ?kcC_BadExpression ?hdC_BadExpression ?ssC_BadExpression ?noC_BadExpression ?gaC_BadExpression ?ggC_BadExpression ?iC_BadExpression ?tC_BadExpression (Pf.defK_mk ?l9 ?c9 ?k9) ?gC_NotSettled ?xC_NotSettled ?saC_NotSettled ?exC_NotSettled ?tyC_NotSettled ?kcC_NotSettled ?hdC_NotSettled ?ssC_NotSettled ?noC_NotSettled ?gaC_NotSettled ?ggC_NotSettled ?iC_NotSettled ?tC_NotSettled (Pf.defK_mk ?l10 ?c10 ?k10) ?gC_BadTally ?xC_BadTally ?saC_BadTally ?exC_BadTally ?tyC_BadTally ?kcC_BadTally ?hdC_BadTally ?ssC_BadTally ?iC_BadTally ?tC_BadTally (Pf.defK_mk ?l11 ?c11 ?k11) ?gC_Unbounded ?xC_Unbounded ?saC_Unbounded ?exC_Unbounded ?tyC_Unbounded ?kcC_Unbounded ?hdC_Unbounded ?ssC_Unbounded ?iC_Unbounded ?tC_Unbounded (Pf.defK_mk ?l12 ?c12 ?k12) ?gPE ?etab ?a13 (Pf.defK_mk ?l13 ?c13 ?k13) ?a14 (Pf.defK_mk ?l14 ?c14 ?k14) ?a15 (Pf.defK_mk ?l15 ?c15 ?k15) ?a16 (Pf.defK_mk ?l16 ?c16 ?k16) ?a17 (Pf.defK_mk ?l17 ?c17 ?k17) ?a18 (Pf.defK_mk ?l18 ?c18 ?k18) ?a19 (Pf.defK_mk ?l19 ?c19 ?k19) ?b_int ?b_len ?b_range ?b_isinstance ?b_ValueError
    (case gC_BadArrow => k_is)
    (case xC_BadArrow => k_is)
    (case saC_BadArrow => k_is)
    (case exC_BadArrow => k_is)
    (case tyC_BadArrow => k_is)
    (case kcC_BadArrow => k_is)
    (case hdC_BadArrow => k_is)
    (case ssC_BadArrow => k_is)
    (case noC_BadArrow => k_is)
    (case gaC_BadArrow => k_is)
    (case ggC_BadArrow => k_is)
    (case iC_BadArrow => k_is)
    (case tC_BadArrow => k_is)
    (case l1 => k_is)
    (case c1 => k_is)
    (case k1 => k_is)
    (case gC_BadState => k_is)
    (case xC_BadState => k_is)
    (case saC_BadState => k_is)
    (case exC_BadState => k_is)
    (case tyC_BadState => k_is)
    (case kcC_BadState => k_is)
    (case hdC_BadState => k_is)
    (case ssC_BadState => k_is)
    (case noC_BadState => k_is)
    (case gaC_BadState => k_is)
    (case ggC_BadState => k_is)
    (case iC_BadState => k_is)
    (case tC_BadState => k_is)
    (case l2 => k_is)
    (case c2 => k_is)
    (case k2 => k_is)
    (case gC_TooMany => k_is)
    (case xC_TooMany => k_is)
    (case saC_TooMany => k_is)
    (case exC_TooMany => k_is)
    (case tyC_TooMany => k_is)
    (case kcC_TooMany => k_is)
    (case hdC_TooMany => k_is)
    (case ssC_TooMany => k_is)
    (case noC_TooMany => k_is)
    (case gaC_TooMany => k_is)
    (case ggC_TooMany => k_is)
    (case iC_TooMany => k_is)
    (case tC_TooMany => k_is)
    (case l3 => k_is)
    (case c3 => k_is)
    (case k3 => k_is)
    (case gC_BadText => k_is)
    (case xC_BadText => k_is)
    (case saC_BadText => k_is)
    (case exC_BadText => k_is)
    (case tyC_BadText => k_is)
    (case kcC_BadText => k_is)
    (case hdC_BadText => k_is)
    (case ssC_BadText => k_is)
    (case noC_BadText => k_is)
    (case gaC_BadText => k_is)
    (case ggC_BadText => k_is)
    (case iC_BadText => k_is)
    (case tC_BadText => k_is)
    (case l4 => k_is)
    (case c4 => k_is)
    (case k4 => k_is)
    (case gC_BadRow => k_is)
    (case xC_BadRow => k_is)
    (case saC_BadRow => k_is)
    (case exC_BadRow => k_is)
    (case tyC_BadRow => k_is)
    (case kcC_BadRow => k_is)
    (case hdC_BadRow => k_is)
    (case ssC_BadRow => k_is)
    (case noC_BadRow => k_is)
    (case gaC_BadRow => k_is)
    (case ggC_BadRow => k_is)
    (case iC_BadRow => k_is)
    (case tC_BadRow => k_is)
    (case l5 => k_is)
    (case c5 => k_is)
    (case k5 => k_is)
    (case gC_UnknownState => k_is)
    (case xC_UnknownState => k_is)
    (case saC_UnknownState => k_is)
    (case exC_UnknownState => k_is)
    (case tyC_UnknownState => k_is)
    (case kcC_UnknownState => k_is)
    (case hdC_UnknownState => k_is)
    (case ssC_UnknownState => k_is)
    (case noC_UnknownState => k_is)
    (case gaC_UnknownState => k_is)
    (case ggC_UnknownState => k_is)
    (case iC_UnknownState => k_is)
    (case tC_UnknownState => k_is)
    (case l6 => k_is)
    (case c6 => k_is)
    (case k6 => k_is)
    (case gC_UnknownArrow => k_is)
    (case xC_UnknownArrow => k_is)
    (case saC_UnknownArrow => k_is)
    (case exC_UnknownArrow => k_is)
    (case tyC_UnknownArrow => k_is)
    (case kcC_UnknownArrow => k_is)
    (case hdC_UnknownArrow => k_is)
    (case ssC_UnknownArrow => k_is)
    (case noC_UnknownArrow => k_is)
    (case gaC_UnknownArrow => k_is)
    (case ggC_UnknownArrow => k_is)
    (case iC_UnknownArrow => k_is)
    (case tC_UnknownArrow => k_is)
    (case l7 => k_is)
    (case c7 => k_is)
    (case k7 => k_is)
    (case gC_BadNumber => k_is)
    (case xC_BadNumber => k_is)
    (case saC_BadNumber => k_is)
    (case exC_BadNumber => k_is)
    (case tyC_BadNumber => k_is)
    (case kcC_BadNumber => k_is)
    (case hdC_BadNumber => k_is)
    (case ssC_BadNumber => k_is)
    (case noC_BadNumber => k_is)
    (case gaC_BadNumber => k_is)
    (case ggC_BadNumber => k_is)
    (case iC_BadNumber => k_is)
    (case tC_BadNumber => k_is)
    (case l8 => k_is)
    (case c8 => k_is)
    (case k8 => k_is)
    (case gC_BadExpression => k_is)
    (case xC_BadExpression => k_is)
    (case saC_BadExpression => k_is)
    (case exC_BadExpression => k_is)
    (case tyC_BadExpression => k_is)
    (case kcC_BadExpression => k_is)
    (case hdC_BadExpression => k_is)
    (case ssC_BadExpression => k_is)
    (case noC_BadExpression => k_is)
    (case gaC_BadExpression => k_is)
    (case ggC_BadExpression => k_is)
    (case iC_BadExpression => k_is)
    (case tC_BadExpression => k_is)
    (case l9 => k_is)
    (case c9 => k_is)
    (case k9 => k_is)
    (case gC_NotSettled => k_is)
    (case xC_NotSettled => k_is)
    (case saC_NotSettled => k_is)
    (case exC_NotSettled => k_is)
    (case tyC_NotSettled => k_is)
    (case kcC_NotSettled => k_is)
    (case hdC_NotSettled => k_is)
    (case ssC_NotSettled => k_is)
    (case noC_NotSettled => k_is)
    (case gaC_NotSettled => k_is)
    (case ggC_NotSettled => k_is)
    (case iC_NotSettled => k_is)
    (case tC_NotSettled => k_is)
    (case l10 => k_is)
    (case c10 => k_is)
    (case k10 => k_is)
    (case gC_BadTally => k_is)
    (case xC_BadTally => k_is)
    (case saC_BadTally => k_is)
    (case exC_BadTally => k_is)
    (case tyC_BadTally => k_is)
    (case kcC_BadTally => k_is)
    (case hdC_BadTally => k_is)
    (case ssC_BadTally => k_is)
    (case iC_BadTally => k_is)
    (case tC_BadTally => k_is)
    (case l11 => k_is)
    (case c11 => k_is)
    (case k11 => k_is)
    (case gC_Unbounded => k_is)
    (case xC_Unbounded => k_is)
    (case saC_Unbounded => k_is)
    (case exC_Unbounded => k_is)
    (case tyC_Unbounded => k_is)
    (case kcC_Unbounded => k_is)
    (case hdC_Unbounded => k_is)
    (case ssC_Unbounded => k_is)
    (case iC_Unbounded => k_is)
    (case tC_Unbounded => k_is)
    (case l12 => k_is)
    (case c12 => k_is)
    (case k12 => k_is)
    (case gPE => k_is)
    (case a13 => k_is)
    (case l13 => k_is)
    (case c13 => k_is)
    (case k13 => k_is)
    (case a14 => k_is)
    (case l14 => k_is)
    (case c14 => k_is)
    (case k14 => k_is)
    (case a15 => k_is)
    (case l15 => k_is)
    (case c15 => k_is)
    (case k15 => k_is)
    (case a16 => k_is)
    (case l16 => k_is)
    (case c16 => k_is)
    (case k16 => k_is)
    (case a17 => k_is)
    (case l17 => k_is)
    (case c17 => k_is)
    (case k17 => k_is)
    (case a18 => k_is)
    (case l18 => k_is)
    (case c18 => k_is)
    (case k18 => k_is)
    (case a19 => k_is)
    (case l19 => k_is)
    (case c19 => k_is)
    (case k19 => k_is)
    (case b_int => k_is)
    (case b_len => k_is)
    (case b_range => k_is)
    (case b_isinstance => k_is)
    (case b_ValueError => k_is)
    (case etab => first | rfl | decide +kernel)

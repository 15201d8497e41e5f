import PyProof.Rows.All
import Wide.All
import OpenK.AllK
import Wide.FinOn
import HandS.ForMost
import HandS.IsInst
import HandS.Defaults
import HandS.Wide
import HandS.TupAny
import HandS.TupMul
import HandS.Style
import HandS.Codes
import KE.KDictDisplayH
import HandS.ForExc
import HandS.ExcInit
import HandS.ExcField
import HandS.ExcIs
import KE.KExcIs
import KE.GoesEnum
import KE.KDictZip
import PySem.Challenge.RW_oneseat_k03_houses_by_form
set_option Elab.async false
set_option maxRecDepth 100000
set_option maxHeartbeats 4000000
set_option linter.all false
/-! Oneseat's own layer over HandS: defs whose callers stand under no guard (so that repr tells the whole text), calls of any shape, list + list of what is only read, small rules. -/
namespace Og
open PySem PySem.Spec PyProof.Rows L2

/-! ### defs under no guard -/
structure FnG (P : Program) (w : World) (K : PySem.W.Frag) (mg : Str → Option Value)
    (base : Heap) (CX : CXT) (k : Nat) (f : Addr) (fd : FuncData) (ps : List Str) (sp : Sp) : Prop where
  len : ∀ vs H Q E, sp vs H Q E → vs.length = ps.length
  run : ∀ (A : Around) (outer : List Env) (s : Shared) (H : Hp) (args : Args) (us : List Value) (vs : List V) (Q : VK) (E : XK),
    Room k A → A.guards = some [] → Env0 P w K mg base A outer s H → BindsTo s fd args (ps.zip us) → Vals vs us → sp vs H Q E →
    codeAny (model P w) A (.call (.ref f) args) (CR CX outer P w H s Q E) s
section
variable {P : Program} {w : World} {K : PySem.W.Frag} {mg : Str → Option Value} {base : Heap} {CX : CXT}
theorem FnG.ofOk {k : Nat} {f : Addr} {fd : FuncData} {ps : List Str} {sp : Sp} (F : FnOk P w K mg base CX k f fd ps sp) :
    FnG P w K mg base CX k f fd ps sp :=
  ⟨F.len, fun A o s H a us vs Q E r _ e b v h => F.run A o s H a us vs Q E r e b v h⟩
theorem FnG.mono {j k : Nat} {f : Addr} {fd : FuncData} {ps : List Str} {sp : Sp} (F : FnG P w K mg base CX j f fd ps sp) (h : j ≤ k) :
    FnG P w K mg base CX k f fd ps sp :=
  ⟨F.len, fun A o s H a us vs Q E r => F.run A o s H a us vs Q E (r.mono h)⟩
/-- a def by its body -/
theorem fnG {k : Nat} {f : Addr} {name qual : Str} {params : Arguments} {body : List Stmt} {scope : Scope}
    {dV kV doc pm cdv ct oc : Value} {an od : Option Addr} {osl : Array (Option Value)} {N ps : List Str} {sp : Sp}
    (lk : K.lookup f = some ⟨oc, od, .func (PySem.W.fnOf name qual params body scope dV kV doc pm an cdv ct), osl⟩)
    (hcd : PySem.W.codeIn K cdv qual = true) (S : FnScope N ps scope) (len : ∀ vs H Q E, sp vs H Q E → vs.length = ps.length)
    (hb : ∀ (A : Around) (outer : List Env) (s : Shared) (H : Hp) (vs : List V) (Q : VK) (E : XK),
      Room k (A.deeper (envOfC qual scope s.heap.objs.size f cdv)) → A.guards = some [] → sp vs H Q E →
      ∃ t, PSs (cxOf CX P w K mg base N qual scope f cdv A outer s H E) body t ∧
        t { nx := fun _ H' => Q .non H', rt := Q } (start N vs) H) :
    FnG P w K mg base CX (k + 1) f (PySem.W.fnOf name qual params body scope dV kV doc pm an cdv ct) ps sp := by
  refine ⟨len, fun A outer s H args us vs Q E hr hgd e0 hbd r hsp => ?_⟩
  have hl := len _ _ _ _ hsp
  have KX : K.In s.heap := e0.mod.kin.keeps fun b o z => (e0.bs b o z).1
  have lim : s.heap.NoLimit := e0.mod.nolimit.keeps fun b o z => (e0.bs b o z).1
  have kd : ∀ y ∈ ps.zip us, scope.names.lookup y.1 = some .local ∨
      (scope.names.lookup y.1 = some .cell ∧ ((cellsFrom (s.heap.objs.size + 1) scope.names []).lookup y.1).isSome = true) := by
    rintro ⟨n, v⟩ hy
    rcases S.par n (List.of_mem_zip hy).1 with q | q
    · exact .inl q
    · exact .inr ⟨q, PySem.W.cellsFrom_some _ _ _ (.inl q)⟩
  refine codeAny_call_function hr.depth (KX _ _ lk) rfl S.co S.gen rfl (PySem.W.codeRec_of KX hcd) (hbd _ _ _ _ ?_)
  refine wpAny_newFunctionEnv_cells S.kind kd fun env he s1 x => ?_
  subst he
  refine ⟨lim.keeps x.toInCall.keep, codeAny_func ?_⟩
  obtain ⟨t, ht, hq⟩ := hb A outer s H vs Q E (hr.deeper _) hgd hsp
  have I := inv_start (CX := CX) (E := E) S hr.hd e0 hl r x
  refine wpAny_mono (ht.run [] s1 (start N vs) H _ I hq) (fun fl s' hs => ?_) fun e s' hs => hs
  cases fl with
  | ret u =>
    obtain ⟨v, σ', H', J, rv, q⟩ := hs
    exact ⟨v, H', J.os, J.bare, J.base, J.hok, rv, q⟩
  | next =>
    obtain ⟨σ', H', J, q⟩ := hs
    exact ⟨V.non, H', J.os, J.bare, J.base, J.hok, rfl, q⟩
  | brk =>
    obtain ⟨_, _, _, q⟩ := hs
    exact False.elim q
  | cont =>
    obtain ⟨_, _, _, q⟩ := hs
    exact False.elim q
/-- of a def without positional defaults (Fun), nothing leaves it -/
theorem Fun.okG {x qual : Str} {st : Stmt} {f : Addr} {fd : FuncData} {N ps : List Str} {k : Nat} {sp : Sp} (F : Fun K x qual st f fd)
    (S : FnScope N ps (defScope st)) (len : ∀ vs H Q E, sp vs H Q E → vs.length = ps.length)
    (hb : ∀ (cdv : Value) (A : Around) (outer : List Env) (s : Shared) (H : Hp) (vs : List V) (Q : VK) (E : XK),
      Room k (A.deeper (envOfC qual (defScope st) s.heap.objs.size f cdv)) →
      (A.deeper (envOfC qual (defScope st) s.heap.objs.size f cdv)).guards = some [] → sp vs H Q E →
      ∃ t, PSs (cxOf CX0 P w K mg base N qual (defScope st) f cdv A outer s H E).nox (defBody st) t ∧
        t { nx := fun _ H' => Q .non H', rt := Q } (start N vs) H) : FnG P w K mg base CX0 (k + 1) f fd ps sp := by
  obtain ⟨oc, od, kV, doc, pm, an, cdv, ct, osl, rfl, lk, hcd⟩ := F.ex
  refine fnG lk hcd S len fun A outer s H vs Q E hr hg hsp => ?_
  obtain ⟨t, h, q⟩ := hb cdv A outer s H vs Q E hr hg hsp
  exact ⟨t, h.nox, q⟩
end

/-! ### a call of any shape: n positional values, keywords ks; gV puts them (and the defaults) in the parameters' order -/
structure CalG (P : Program) (w : World) (K : PySem.W.Frag) (mg : Str → Option Value) (base : Heap) (CX : CXT)
    (k : Nat) (x : Str) (sp : Sp) (n : Nat) (ks : List Str) (gV : List V → List V → List V) : Prop where
  ex : ∃ (f : Addr) (fd : FuncData) (ps : List Str) (g : List Value → List Value → List Value),
    FnG P w K mg base CX k f fd ps sp ∧ mg x = some (.ref f) ∧ PySem.W.keepIn K (.ref f) = true ∧ KBn K fd ps n ks g gV
def tG (n m : Nat) (sp : Sp) (gV : List V → List V → List V) (E : XK) (t tk : TA) : TE :=
  fun σ H Q => t σ H fun vs H1 => tk σ H1 fun zs H2 => vs.length = n ∧ zs.length = m ∧ sp (gV vs zs) H2 Q E
section
variable {X : Cx} {CX : CXT} {j k n : Nat} {ks : List Str} {sp : Sp} {E : XK} {x : Str} {p pos : Pos} {e : Expr} {es : List Expr} {kws : List Keyword}
  {t tk : TA} {gV : List V → List V → List V}
theorem run_g {pins : List (Addr × Obj)} {σ : L2.St} {H : Hp} {s : Shared} {Q : VK} {us ws : List Value} {vs zs : List V} {f : Addr} {fd : FuncData}
    {ps : List Str} {g : List Value → List Value → List Value} (F : FnG X.prog X.w X.K X.mg X.base CX k f fd ps sp) (hr : Room k X.A)
    (hg : X.A.guards = some []) (hb : KBn X.K fd ps n ks g gV) (hx : Passes CX X E) (I : Inv X pins σ H s) (r : Vals vs us) (rz : Vals zs ws)
    (l1 : vs.length = n) (l2 : zs.length = ks.length) (h : sp (gV vs zs) H Q E) :
    wpAny (model X.prog X.w) X.A (call (.ref f) us (ks.zip ws)) (EP X pins σ Q) X.xe s := by
  refine wpAny_call (codeAny_mono (F.run X.A X.stack s H ⟨us, ks.zip ws⟩ (g us ws) (gV vs zs) Q E hr hg I.env0
    (hb.to s us ws I.kIn (r.length.symm.trans l1) (rz.length.symm.trans l2)) (hb.rel r rz) h) fun r s' hq => ?_)
  cases r with
  | error e => exact hx pins σ H s e s' I hq
  | ok fl =>
    cases fl with
    | ret u => exact I.after hq
    | next => exact False.elim hq
    | brk => exact False.elim hq
    | cont => exact False.elim hq
theorem pe_g2x (c : CalG X.prog X.w X.K X.mg X.base CX k x sp n ks gV) (hr : Room j X.A) (hkj : k ≤ j) (hgd : X.A.guards = some []) (hx : Passes CX X E)
    (hg : Gl X x) (ha : PA X (e :: es) t) (hkw : PK X kws tk)
    (hall : (backToKw pos (keywordEach kws X.env)).all (·.1.isSome) = true := by rfl)
    (hks : (backToKw pos (keywordEach kws X.env)).filterMap (·.1) = ks := by rfl) (hdb : (x == ("__debug__" : Str)) = false := by decide)
    (he : starEach (e :: es) X.env = (false, eval e X.env) :: starEach es X.env := by rfl)
    (hpl : ((backTo pos (starEach (e :: es) X.env)).any (·.1) || (backToKw pos (keywordEach kws X.env)).any (·.1.isNone)) = false := by rfl) :
    PE X (.Call (.Name x p) (e :: es) kws pos) (tG n ks.length sp gV E t tk) := by
  obtain ⟨f, fd, ps, g, F, hm, hk, hb⟩ := c.ex
  refine ⟨fun pins s σ H Q I h => ?_⟩
  refine wpAny_Call_Name_kw (ld_glob I hg hm ?_ hdb)
  refine PySem.W.callWith_KW (h₀ := X.base) I.ok.mod.kin hk hall (thn (ha.run pos pins s σ H _ I h) fun us s1 ⟨vs, H1, I1, r, q⟩ => ?_) hpl he
  refine thn (hkw.run pos pins s1 σ H1 _ I1 q) fun ws s2 ⟨zs, H2, I2, rz, l1, l2, q2⟩ => ⟨I2.kIn, ?_⟩
  rw [hks]
  exact run_g F (hr.mono hkj) hgd hb hx I2 r rz l1 l2 q2
theorem pe_g3x (c : CalG X.prog X.w X.K X.mg X.base CX k x sp n ks gV) (hr : Room j X.A) (hkj : k ≤ j) (hgd : X.A.guards = some []) (hx : Passes CX X E)
    (hg : Gl X x) (hkw : PK X kws tk)
    (hall : (backToKw pos (keywordEach kws X.env)).all (·.1.isSome) = true := by rfl)
    (hks : (backToKw pos (keywordEach kws X.env)).filterMap (·.1) = ks := by rfl) (hdb : (x == ("__debug__" : Str)) = false := by decide)
    (hpl : ((backTo pos (starEach [] X.env)).any (·.1) || (backToKw pos (keywordEach kws X.env)).any (·.1.isNone)) = false := by rfl) :
    PE X (.Call (.Name x p) [] kws pos) (tG n ks.length sp gV E tNil tk) := by
  obtain ⟨f, fd, ps, g, F, hm, hk, hb⟩ := c.ex
  refine ⟨fun pins s σ H Q I h => ?_⟩
  refine wpAny_Call_Name_kw (ld_glob I hg hm ?_ hdb)
  refine PySem.W.callWith_KW0 (h₀ := X.base) I.ok.mod.kin hk hall ?_ hpl
  refine thn (hkw.run pos pins s σ H _ I h) fun ws s2 ⟨zs, H2, I2, rz, l1, l2, q2⟩ => ⟨I2.kIn, ?_⟩
  rw [hks]
  exact run_g (us := []) (vs := []) F (hr.mono hkj) hgd hb hx I2 .nil rz l1 l2 q2
theorem pe_g1x (c : CalG X.prog X.w X.K X.mg X.base CX k x sp n [] gV) (hr : Room j X.A) (hkj : k ≤ j) (hgd : X.A.guards = some []) (hx : Passes CX X E)
    (hg : Gl X x) (ha : PA X (e :: es) t) (hdb : (x == ("__debug__" : Str)) = false := by decide)
    (he : starEach (e :: es) X.env = (false, eval e X.env) :: starEach es X.env := by rfl) (hpl : (backTo pos (starEach es X.env)).any (·.1) = false := by rfl) :
    PE X (.Call (.Name x p) (e :: es) [] pos) (tG n 0 sp gV E t tNil) := by
  obtain ⟨f, fd, ps, g, F, hm, hk, hb⟩ := c.ex
  refine ⟨fun pins s σ H Q I h => ?_⟩
  refine wpAny_Call_Name_kw (ld_glob I hg hm ?_ hdb)
  refine PySem.W.callWith_K (h₀ := X.base) I.ok.mod.kin hk (thn (ha.run pos pins s σ H _ I h) fun us s1 ⟨vs, H1, I1, r, l1, l2, q⟩ => ⟨I1.kIn, ?_⟩) he hpl
  exact run_g (ws := []) F (hr.mono hkj) hgd hb hx I1 r .nil l1 l2 q
theorem pe_g0x (c : CalG X.prog X.w X.K X.mg X.base CX k x sp n [] gV) (hr : Room j X.A) (hkj : k ≤ j) (hgd : X.A.guards = some []) (hx : Passes CX X E)
    (hg : Gl X x) (hdb : (x == ("__debug__" : Str)) = false := by decide) :
    PE X (.Call (.Name x p) [] [] pos) (tG n 0 sp gV E tNil tNil) := by
  obtain ⟨f, fd, ps, g, F, hm, hk, hb⟩ := c.ex
  refine ⟨fun pins s σ H Q I h => ?_⟩
  refine wpAny_Call_Name_kw (ld_glob I hg hm ?_ hdb)
  obtain ⟨l1, l2, q⟩ := h
  exact PySem.W.callWith_K0 I.kIn hk (run_g (us := []) (ws := []) F (hr.mono hkj) hgd hb hx I .nil .nil l1 l2 q)
end
section
variable {X : Cx} {j k n : Nat} {ks : List Str} {sp : Sp} {x : Str} {p pos : Pos} {e : Expr} {es : List Expr} {kws : List Keyword} {t tk : TA} {gV : List V → List V → List V}
theorem pe_g1 (c : CalG X.prog X.w X.K X.mg X.base CX0 k x sp n [] gV) (hr : Room j X.A) (hkj : k ≤ j) (hgd : X.A.guards = some [])
    (hg : Gl X x) (ha : PA X (e :: es) t) (hdb : (x == ("__debug__" : Str)) = false := by decide)
    (he : starEach (e :: es) X.env = (false, eval e X.env) :: starEach es X.env := by rfl) (hpl : (backTo pos (starEach es X.env)).any (·.1) = false := by rfl) :
    PE X (.Call (.Name x p) (e :: es) [] pos) (tG n 0 sp gV E0 t tNil) := pe_g1x c hr hkj hgd pass0 hg ha hdb he hpl
theorem pe_g0 (c : CalG X.prog X.w X.K X.mg X.base CX0 k x sp n [] gV) (hr : Room j X.A) (hkj : k ≤ j) (hgd : X.A.guards = some [])
    (hg : Gl X x) (hdb : (x == ("__debug__" : Str)) = false := by decide) :
    PE X (.Call (.Name x p) [] [] pos) (tG n 0 sp gV E0 tNil tNil) := pe_g0x c hr hkj hgd pass0 hg hdb
theorem pe_g2 (c : CalG X.prog X.w X.K X.mg X.base CX0 k x sp n ks gV) (hr : Room j X.A) (hkj : k ≤ j) (hgd : X.A.guards = some [])
    (hg : Gl X x) (ha : PA X (e :: es) t) (hkw : PK X kws tk)
    (hall : (backToKw pos (keywordEach kws X.env)).all (·.1.isSome) = true := by rfl)
    (hks : (backToKw pos (keywordEach kws X.env)).filterMap (·.1) = ks := by rfl) (hdb : (x == ("__debug__" : Str)) = false := by decide)
    (he : starEach (e :: es) X.env = (false, eval e X.env) :: starEach es X.env := by rfl)
    (hpl : ((backTo pos (starEach (e :: es) X.env)).any (·.1) || (backToKw pos (keywordEach kws X.env)).any (·.1.isNone)) = false := by rfl) :
    PE X (.Call (.Name x p) (e :: es) kws pos) (tG n ks.length sp gV E0 t tk) := pe_g2x c hr hkj hgd pass0 hg ha hkw hall hks hdb he hpl
theorem pe_g3 (c : CalG X.prog X.w X.K X.mg X.base CX0 k x sp n ks gV) (hr : Room j X.A) (hkj : k ≤ j) (hgd : X.A.guards = some [])
    (hg : Gl X x) (hkw : PK X kws tk)
    (hall : (backToKw pos (keywordEach kws X.env)).all (·.1.isSome) = true := by rfl)
    (hks : (backToKw pos (keywordEach kws X.env)).filterMap (·.1) = ks := by rfl) (hdb : (x == ("__debug__" : Str)) = false := by decide)
    (hpl : ((backTo pos (starEach [] X.env)).any (·.1) || (backToKw pos (keywordEach kws X.env)).any (·.1.isNone)) = false := by rfl) :
    PE X (.Call (.Name x p) [] kws pos) (tG n ks.length sp gV E0 tNil tk) := pe_g3x c hr hkj hgd pass0 hg hkw hall hks hdb hpl
end

/-! ### how arguments bind -/
section
variable {K : PySem.W.Frag} {x qual : Str} {params : Arguments} {body : List Stmt} {scope : Scope} {kws : List (Str × V)} {f : Addr} {fd : FuncData} {ps : List Str} {st : Stmt}
/-- no positional defaults; ms: the keyword-only parameters with a default that lack -/
theorem kbn (F : FunD K x qual params body scope [] kws f fd) (n : Nat) (ks : List Str) (ms : List (Str × V))
    (g : {α : Type} → List α → List α → List α → List α) (hk : kws ≠ []) (hms : ∀ q ∈ ms, q ∈ kws)
    (hrel : ∀ {vs mz zs : List V} {us mv ws : List Value}, Vals vs us → Vals mz mv → Vals zs ws → Vals (g vs mz zs) (g us mv ws))
    (h : ∀ (D : Addr) (doc pm : Value) (an : Option Addr) (cdv ct : Value) (us mv ws : List Value), us.length = n → mv.length = ms.length → ws.length = ks.length →
      KwChain D ((ms.map (·.1)).zip mv) (bindArgs (PySem.W.fnOf x qual params body scope .none (.ref D) doc pm an cdv ct) ⟨us, ks.zip ws⟩) (ps.zip (g us mv ws))) :
    ∃ mv : List Value, KBn K fd ps n ks (fun us ws => g us mv ws) (fun vs zs => g vs (ms.map (·.2)) zs) := by
  obtain ⟨oc, od, dV, kV, doc, pm, an, cdv, ct, osl, rfl, lk, hcd, hD, hK⟩ := F.ex
  rcases hD with ⟨_, rfl⟩ | ⟨e, _⟩
  · rcases hK with e | ⟨D, rfl, hq⟩
    · exact absurd e hk
    · obtain ⟨mv, hl, rk, hks⟩ := kwd_vals (ms := ms) fun q hm => hq q (hms q hm)
      refine ⟨mv, ⟨fun s us ws X l1 l2 => ?_, fun r1 r2 => hrel r1 rk r2⟩⟩
      exact BindsTo.of_looks fun M => KwChain.looks X hks (h D doc pm an cdv ct us mv ws l1 hl l2)
  · exact absurd rfl e
/-- no defaults at all -/
theorem kbnF (F : Fun K x qual st f fd) (n : Nat) (ks : List Str) (g : {α : Type} → List α → List α → List α)
    (hrel : ∀ {vs zs : List V} {us ws : List Value}, Vals vs us → Vals zs ws → Vals (g vs zs) (g us ws))
    (h : ∀ (kV doc pm : Value) (an : Option Addr) (cdv ct : Value) (us ws : List Value), us.length = n → ws.length = ks.length →
      bindArgs (PySem.W.fnOf x qual (defArgs st) (defBody st) (defScope st) .none kV doc pm an cdv ct) ⟨us, ks.zip ws⟩ = pure (ps.zip (g us ws))) :
    KBn K fd ps n ks (fun us ws => g us ws) (fun vs zs => g vs zs) := by
  obtain ⟨oc, od, kV, doc, pm, an, cdv, ct, osl, rfl, lk, hcd⟩ := F.ex
  refine ⟨fun s us ws X l1 l2 => ?_, fun r1 r2 => hrel r1 r2⟩
  exact .of_eq (h kV doc pm an cdv ct us ws l1 l2)
end

/-! ### small rules -/
section
variable {X : Cx}
def rCatX (K : PySem.W.Frag) : R2 := fun x y H Q => ∃ l b xs zs, x = .ref l ∧ y = .ref b ∧ SqL K H l xs ∧ SqL K H b zs ∧
  xs.length + zs.length ≤ sizeLine ∧ ∀ p, H p = none → Q (.ref p) (upd H p (.lst (xs ++ zs)))
theorem op_catX : OpR X (binaryOp .Add) (rCatX X.K) := by
  intro pins s σ H x y v u Q I rx ry h
  obtain ⟨l, b, xs, zs, rfl, rfl, hl, hb, hz, q⟩ := h
  cases rx
  cases ry
  obtain ⟨its, r, ⟨⟨c1, d1, a1, s1⟩, n1, e1, g1, g2, g3⟩, z1⟩ := I.list hl
  obtain ⟨its2, r2, ⟨⟨c2, d2, a2, s2⟩, n2, e2, f1, f2, f3⟩, z2⟩ := I.list hb
  simp only at g1 g2 g3 f1 f2 f3
  subst g1 g2 g3 f1 f2 f3
  have ea : its.toArray ++ its2.toArray = (its ++ its2).toArray := by simp
  have hs : its.toArray.size + its2.toArray.size ≤ sizeLine := by
    rw [List.size_toArray, List.size_toArray, ← r.length, ← r2.length]
    exact hz
  refine concat_meets ⟨_, e1, rfl⟩ ⟨_, e2, rfl⟩ noFill_list_add seq_list_add PySem.F.slot_list_add PySem.F.entry_list_add (PySem.F.args_list_add_2 _ _)
    (list_addW l b its.toArray its2.toArray n1 n2 none none s1 s2 hs) ⟨e1, e2, ?_⟩
  rw [ea]
  exact ⟨.ref _, _, I.lnew (t' := s.toks) (r.append r2) (by rw [List.length_append]; omega), rfl, q _ I.fresh⟩
theorem call_repr_bl : CallR X (.builtin "repr") (fun xs H Q => ∃ b, xs = [.bl b] ∧ Q (.str (if b then "True" else "False")) H) := by
  intro pins s σ H xs us Q I r h
  obtain ⟨b, rfl, q⟩ := h
  obtain ⟨u, rfl, r1⟩ := vals1 r
  cases r1
  exact PySem.P.repr_of_bool ⟨.str _, H, I.tok _, ⟨_, rfl⟩, q⟩
end

/-! ### a def with keyword-only defaults, by its body; its calls -/
section
variable {P : Program} {w : World} {K : PySem.W.Frag} {mg : Str → Option Value} {base : Heap} {x qual : Str} {params : Arguments} {body : List Stmt} {scope : Scope}
  {dvs : List V} {kws : List (Str × V)} {f : Addr} {fd : FuncData} {ps : List Str}
theorem okG {N : List Str} {k : Nat} {sp : Sp} (F : FunD K x qual params body scope dvs kws f fd)
    (S : FnScope N ps scope) (len : ∀ vs H Q E, sp vs H Q E → vs.length = ps.length)
    (hb : ∀ (cdv : Value) (A : Around) (outer : List Env) (s : Shared) (H : Hp) (vs : List V) (Q : VK) (E : XK),
      Room k (A.deeper (envOfC qual scope s.heap.objs.size f cdv)) →
      (A.deeper (envOfC qual scope s.heap.objs.size f cdv)).guards = some [] → sp vs H Q E →
      ∃ t, PSs (cxOf CX0 P w K mg base N qual scope f cdv A outer s H E).nox body t ∧
        t { nx := fun _ H' => Q .non H', rt := Q } (start N vs) H) : FnG P w K mg base CX0 (k + 1) f fd ps sp := by
  obtain ⟨oc, od, dV, kV, doc, pm, an, cdv, ct, osl, rfl, lk, hcd, _, _⟩ := F.ex
  refine fnG lk hcd S len fun A outer s H vs Q E hr hg hsp => ?_
  obtain ⟨t, h, q⟩ := hb cdv A outer s H vs Q E hr hg hsp
  exact ⟨t, h.nox, q⟩
/-- no positional defaults, nothing lacks -/
theorem kbn0 (F : FunD K x qual params body scope [] kws f fd) (n : Nat) (ks : List Str) (g : {α : Type} → List α → List α → List α)
    (hrel : ∀ {vs zs : List V} {us ws : List Value}, Vals vs us → Vals zs ws → Vals (g vs zs) (g us ws))
    (h : ∀ (kV doc pm : Value) (an : Option Addr) (cdv ct : Value) (us ws : List Value), us.length = n → ws.length = ks.length →
      bindArgs (PySem.W.fnOf x qual params body scope .none kV doc pm an cdv ct) ⟨us, ks.zip ws⟩ = pure (ps.zip (g us ws))) :
    ∃ g' : List Value → List Value → List Value, KBn K fd ps n ks g' (fun vs zs => g vs zs) := by
  obtain ⟨oc, od, dV, kV, doc, pm, an, cdv, ct, osl, rfl, lk, hcd, hD, hK⟩ := F.ex
  rcases hD with ⟨_, rfl⟩ | ⟨e, _⟩
  · exact ⟨fun us ws => g us ws, fun s us ws X l1 l2 => .of_eq (h kV doc pm an cdv ct us ws l1 l2), fun r1 r2 => hrel r1 r2⟩
  · exact absurd rfl e
theorem kbn1 (F : FunD K x qual params body scope [] kws f fd) (n : Nat) (ks : List Str) (ms : List (Str × V))
    (g : {α : Type} → List α → List α → List α → List α) (hk : kws ≠ []) (hms : ∀ q ∈ ms, q ∈ kws)
    (hrel : ∀ {vs mz zs : List V} {us mv ws : List Value}, Vals vs us → Vals mz mv → Vals zs ws → Vals (g vs mz zs) (g us mv ws))
    (h : ∀ (D : Addr) (doc pm : Value) (an : Option Addr) (cdv ct : Value) (us mv ws : List Value), us.length = n → mv.length = ms.length → ws.length = ks.length →
      KwChain D ((ms.map (·.1)).zip mv) (bindArgs (PySem.W.fnOf x qual params body scope .none (.ref D) doc pm an cdv ct) ⟨us, ks.zip ws⟩) (ps.zip (g us mv ws))) :
    ∃ g' : List Value → List Value → List Value, KBn K fd ps n ks g' (fun vs zs => g vs (ms.map (·.2)) zs) := by
  obtain ⟨mv, b⟩ := kbn F n ks ms g hk hms hrel h
  exact ⟨_, b⟩
theorem calG {CX : CXT} {k n : Nat} {ks : List Str} {sp : Sp} {gV : List V → List V → List V} (F : FunD K x qual params body scope dvs kws f fd) (G : FnG P w K mg base CX k f fd ps sp)
    (hm : mg x = some (.ref f)) (b : ∃ g' : List Value → List Value → List Value, KBn K fd ps n ks g' gV) : CalG P w K mg base CX k x sp n ks gV := by
  obtain ⟨g', b⟩ := b
  exact ⟨f, fd, ps, g', G, hm, F.kp, b⟩
theorem funD_mk {oc : Value} {od an : Option Addr} {osl : Array (Option Value)} {kV doc pm cdv ct : Value} (l : K.lookup f = some ⟨oc, od, .func (PySem.W.fnOf x qual params body scope .none kV doc pm an cdv ct), osl⟩)
    (c : PySem.W.codeIn K cdv qual = true) (k : PySem.W.keepIn K (.ref f) = true) (hk : KwdV K kV kws) :
    FunD K x qual params body scope [] kws f (PySem.W.fnOf x qual params body scope .none kV doc pm an cdv ct) :=
  ⟨⟨oc, od, .none, kV, doc, pm, an, cdv, ct, osl, rfl, l, c, .inl ⟨rfl, rfl⟩, hk⟩, k⟩
end

end Og
namespace Og
open PySem PySem.Spec PyProof.Rows L2

/-! ### readings, step by step -/
/-- a new object o at any free place (a word of its own, so that Q stays as it is) -/
def New (Q : VK) (H : Hp) (o : HO) : Prop := ∀ p, H p = none → Q (.ref p) (upd H p o)
section
variable {σ : L2.St} {H : Hp} {Q : VK} {D : Ends} {ta tb te tc : TE} {t u : TS} {r r' : R2} {g : TG} {c c2 : TT} {B : Prop}
theorem r_seq (h : t { D with nx := u D } σ H) : tSeq t u D σ H := h
theorem r_asg (h : te σ H fun x H1 => g x σ H1 D.nx) : tAsg te g D σ H := h
theorem r_name {i : Nat} {v : V} {Q : L2.St → Hp → Prop} (h : Q (σ.set i (some v)) H) : gName i v σ H Q := h
theorem r_var {i : Nat} {v : V} (e : σ[i]? = some (some v)) (h : Q v H) : tVar i σ H Q := ⟨v, e, h⟩
theorem r_c {v : V} (h : Q v H) : tC v σ H Q := h
theorem r_op (h : ta σ H fun x H1 => tb σ H1 fun y H2 => r x y H2 Q) : tOp r ta tb σ H Q := h
theorem r_un {r : V → Hp → VK → Prop} (h : ta σ H fun x H1 => r x H1 Q) : tUn r ta σ H Q := h
theorem r_I0 {f : Int → Int → V} {i j : Int} (h : Q (f i j) H) : rI0 f (.int i) (.int j) H Q := ⟨i, j, rfl, rfl, h⟩
theorem r_I {f : Int → Int → V} {C : Int → Int → Prop} {i j : Int} (k : C i j) (h : Q (f i j) H) : rI C f (.int i) (.int j) H Q := ⟨i, j, rfl, rfl, k, h⟩
theorem r_ret (h : te σ H D.rt) : tRet te D σ H := h
theorem r_drop (h : te σ H fun _ H1 => D.nx σ H1) : tDrop te D σ H := h
theorem r_ifS (h : c σ H fun b H1 => if b = true then t D σ H1 else u D σ H1) : tIfS c t u D σ H := h
theorem r_next (h : D.nx σ H) : tNext D σ H := h
theorem r_test {Q : Bool → Hp → Prop} (h : te σ H fun x H1 => ∃ k, x = .bl k ∧ Q k H1) : tTest te σ H Q := h
theorem r_tB {Q : Bool → Hp → Prop} (h : te σ H fun x H1 => ∃ k, x = .bl k ∧ Q k H1) : tB te σ H Q := h
theorem r_bl {b : Bool} {Q : Bool → Prop} (h : Q b) : ∃ k, V.bl b = .bl k ∧ Q k := ⟨b, rfl, h⟩
theorem r_not {Q : Bool → Hp → Prop} (h : c σ H fun b H1 => Q (!b) H1) : tNot c σ H Q := h
theorem r_or {Q : Bool → Hp → Prop} (h : c σ H fun b H1 => if b = true then Q true H1 else c2 σ H1 Q) : tOr c c2 σ H Q := h
theorem r_and {Q : Bool → Hp → Prop} (h : c σ H fun b H1 => if b = true then c2 σ H1 Q else Q false H1) : tAnd c c2 σ H Q := h
theorem r_andV (h : ta σ H fun x H1 => ∃ k, x = .bl k ∧ if k = true then tb σ H1 Q else Q (.bl false) H1) : tAndV ta tb σ H Q := h
theorem r_orV (h : ta σ H fun x H1 => ∃ k, x = .bl k ∧ if k = true then Q (.bl true) H1 else tb σ H1 Q) : tOrV ta tb σ H Q := h
theorem r_if (h : c σ H fun b H1 => if b = true then ta σ H1 Q else tb σ H1 Q) : tIf c ta tb σ H Q := h
theorem r_chain (h : ta σ H fun x H1 => tb σ H1 fun y H2 => r x y H2 fun z H3 => ∃ k, z = .bl k ∧ (if k = true then tc σ H3 fun w' H4 => r' y w' H4 Q else Q (.bl false) H3)) :
    tChain r r' ta tb tc σ H Q := h
theorem r_nil {Q : List V → Hp → Prop} (h : Q [] H) : tNil σ H Q := h
theorem r_cons {tr : TA} {Q : List V → Hp → Prop} (h : ta σ H fun x H1 => tr σ H1 fun xs H2 => Q (x :: xs) H2) : tCons ta tr σ H Q := h
theorem r_cb {rr : List V → Hp → VK → Prop} {tr : TA} (h : tr σ H fun vs H1 => rr vs H1 Q) : tCB rr tr σ H Q := h
theorem r_g {n m : Nat} {sp : Sp} {gV : List V → List V → List V} {E : XK} {tr tk : TA}
    (h : tr σ H fun vs H1 => tk σ H1 fun zs H2 => vs.length = n ∧ zs.length = m ∧ sp (gV vs zs) H2 Q E) : tG n m sp gV E tr tk σ H Q := h
theorem r_lst {tr : TA} (h : tr σ H fun xs H1 => xs.length ≤ sizeLine ∧ New Q H1 (.lst xs)) : tLst tr σ H Q := h
theorem r_tup {tr : TA} (h : tr σ H fun xs H1 => xs.length ≤ sizeLine ∧ New Q H1 (.tup xs)) : tTup tr σ H Q := h
theorem r_dget (h : ta σ H fun x H1 => tb σ H1 fun y H2 => ∃ a v, x = .ref a ∧ DGet H2 a y (some v) ∧ Q v H2) : tDGet ta tb σ H Q := h
theorem r_par {i j : Nat} {tr : TA} (h : tr σ H fun vs H1 => ∃ v w, vs = [v, w] ∧ D.nx ((σ.set i (some v)).set j (some w)) H1) : tPar i j tr D σ H := h
theorem r_par2 {v w : V} {Q : V → V → Prop} (h : Q v w) : ∃ v' w', ([v, w] : List V) = [v', w'] ∧ Q v' w' := ⟨v, w, rfl, h⟩
/-- == of two ints -/
theorem r_eqI {i j : Int} (h : Q (.bl (decide (i = j))) H) : rEq (.int i) (.int j) H Q := by
  refine ⟨rfl, ?_⟩
  have e : decide (V.int i = V.int j) = decide (i = j) := by
    by_cases q : i = j
    · rw [q, decide_eq_true rfl, decide_eq_true rfl]
    · rw [decide_eq_false q, decide_eq_false fun z => q (V.int.inj z)]
  rw [e]
  exact h
theorem r_neI {i j : Int} (h : Q (.bl (!decide (i = j))) H) : rNe (.int i) (.int j) H Q := by
  refine ⟨rfl, ?_⟩
  have e : decide (V.int i = V.int j) = decide (i = j) := by
    by_cases q : i = j
    · rw [q, decide_eq_true rfl, decide_eq_true rfl]
    · rw [decide_eq_false q, decide_eq_false fun z => q (V.int.inj z)]
  rw [e]
  exact h
theorem r_disp {l : List (TE × TE)} (h : ∀ p, H p = none → tPairs l σ (upd H p (.dK [])) fun ps H2 => H2 p = some (.dK []) ∧ ∃ kvs : List (Key × V),
    ps = kvs.map (fun kv => (kV kv.1, kv.2)) ∧ kvs.length ≤ 15 ∧ Q (.ref p) (upd H2 p (.dK (mergeK [] kvs)))) : tDisp l σ H Q := h
theorem r_pn {Q : List (V × V) → Hp → Prop} (h : Q [] H) : tPairs [] σ H Q := h
theorem r_pc {l : List (TE × TE)} {Q : List (V × V) → Hp → Prop} (h : ta σ H fun x H1 => tb σ H1 fun y H2 => tPairs l σ H2 fun ps H3 => Q ((x, y) :: ps) H3) :
    tPairs ((ta, tb) :: l) σ H Q := h
theorem r_dnew (h : New Q H (.dK [])) : tDNewK σ H Q := h
/-- {k: v}, both written -/
theorem al_disp1 {k : Key} {v : V} (h : New Q H (.dK [(k, v)])) : tDisp [(tC (kV k), tC v)] σ H Q := fun p hp => by
  refine ⟨upd_same, [(k, v)], rfl, (by show 1 ≤ 15; decide), ?_⟩
  rw [upd_upd]
  exact h p hp
/-- {t: v}, t a tuple of two ints -/
def tDispT (ta tv : TE) : TE := fun σ H Q => ∀ p, H p = none → ta σ (upd H p (.dT [])) fun x H1 => tv σ H1 fun y H2 => ∃ (a : Addr) (i j : Int),
  x = .ref a ∧ H2 a = some (.tup [.int i, .int j]) ∧ H2 p = some (.dT []) ∧ Q (.ref p) (upd H2 p (.dT [([Sum.inl i, Sum.inl j], y)]))
theorem al_dispT {a : Addr} {i j : Int} {n : Nat} {v : V} (hv : σ[n]? = some (some (.ref a))) (h1 : H a = some (.tup [.int i, .int j])) (h : New Q H (.dT [([Sum.inl i, Sum.inl j], v)])) : tDispT (tVar n) (tC v) σ H Q := fun p hp => by
  refine ⟨_, hv, a, i, j, rfl, ?_, upd_same, ?_⟩
  · rw [upd_ne (ne_of_none h1 hp)]
    exact h1
  · rw [upd_upd]
    exact h p hp
/-- == of alike data -/
theorem r_eqDe {K : PySem.W.Frag} {x y : V} {d : PyData} (h1 : Dp K H x d) (h2 : Dp K H y d) (s1 : SeqAt.shaped d = true) (h : Q (.bl true) H) : rEqD K x y H Q := ⟨d, d, h1, h2, s1, s1, by rw [SeqAt.eqv_refl d (SeqAt.canLay_of_shaped s1)]; exact h⟩
theorem r_neDe {K : PySem.W.Frag} {x y : V} {d : PyData} (h1 : Dp K H x d) (h2 : Dp K H y d) (s1 : SeqAt.shaped d = true) (h : Q (.bl false) H) : rNeD K x y H Q := ⟨d, d, h1, h2, s1, s1, by rw [SeqAt.eqv_refl d (SeqAt.canLay_of_shaped s1)]; exact h⟩
/-! loops -/
def Loop (J : It) (g : TG) (tb : TS) (D : Ends) (σ : L2.St) (H : Hp) : Prop := ∃ W : Nat → Nat → L2.St → Hp → Prop, (∃ m, W 0 m σ H) ∧ ∀ i m σ H, W i m σ H →
  (J.stop i H ∧ D.nx σ H) ∨ (J.go i H ∧ ∃ N : L2.St → Hp → Prop, (∀ σ' H', N σ' H' → ∃ m', m' < m ∧ W (i + 1) m' σ' H') ∧
    ∀ x H', J.yld i H x H' → g x σ H' fun σ2 H2 => tb { D with nx := N, ct := N, bk := D.nx } σ2 H2)
theorem r_for {wi : TI} (h : wi σ H fun J H1 => Loop J g t D σ H1) : tFor wi g t D σ H := h
theorem r_rng1 {tr : TA} {R : It → Hp → Prop} (h : tr σ H fun vs H1 => ∃ j : Int, vs = [.int j] ∧ -(2 ^ 62) ≤ j ∧ j < 2 ^ 62 ∧ R (Itr 0 j.toNat) H1) : iRng1 tr σ H R := h
theorem r_rng1e {j : Int} {R : Int → Prop} (h0 : 0 ≤ j) (h1 : j < 2 ^ 62) (h : R j) : ∃ j' : Int, ([.int j] : List V) = [.int j'] ∧ -(2 ^ 62) ≤ j' ∧ j' < 2 ^ 62 ∧ R j' :=
  ⟨j, rfl, by omega, h1, h⟩
theorem loop_rng {n : Nat} (Pv : Nat → L2.St → Hp → Prop) (h0 : Pv 0 σ H)
    (hs : ∀ i σ H, i < n → Pv i σ H → g (.int (i : Nat)) σ H fun σ2 H2 => t { D with nx := Pv (i + 1), ct := Pv (i + 1), bk := D.nx } σ2 H2) (hd : ∀ σ H, Pv n σ H → D.nx σ H) :
    Loop (Itr 0 n) g t D σ H := for_range (lo := 0) Pv h0 (fun i σ H hi hp => by rw [show (0 : Int) + (i : Nat) = (i : Nat) from Int.zero_add _]; exact hs i σ H hi hp) hd
theorem r_ilist {K : PySem.W.Frag} {R : It → Hp → Prop} (h : ta σ H fun x H1 => ∃ a, x = .ref a ∧ (∃ xs, SqL K H1 a xs) ∧ R (Itl K a) H1) : iList K ta σ H R := h
theorem loop_lst {K : PySem.W.Frag} {a : Addr} {xs : List V} (Pv : Nat → L2.St → Hp → Prop) (h0 : Pv 0 σ H) (hl : ∀ i σ H, i ≤ xs.length → Pv i σ H → SqL K H a xs)
    (hs : ∀ i x σ H, xs[i]? = some x → Pv i σ H → g x σ H fun σ2 H2 => t { D with nx := Pv (i + 1), ct := Pv (i + 1), bk := D.nx } σ2 H2) (hd : ∀ σ H, Pv xs.length σ H → D.nx σ H) :
    Loop (Itl K a) g t D σ H := for_list Pv h0 hl hs hd
/-- a comprehension's loop -/
def LcLoop (J : It) (g : TG) (c : TT) (te : TE) (vs : List Nat) (σ : L2.St) (H : Hp) (D : Addr) (Q : VK) : Prop := ∃ W : Nat → Nat → Hp → Prop, (∃ m, W 0 m H) ∧ ∀ i m H, W i m H →
  (J.stop i H ∧ Q (.ref D) H) ∨ (J.go i H ∧ ∃ Nx : Hp → Prop, (∀ H', Nx H' → ∃ m', m' < m ∧ W (i + 1) m' H') ∧ ∀ x H', J.yld i H x H' → g x (wipe σ vs) H' fun σ2 H2 => wipe σ2 vs = wipe σ vs ∧ c σ2 H2 fun b H3 =>
    if b = true then te σ2 H3 fun y H4 => ∃ acc, H4 D = some (.lst acc) ∧ acc.length < sizeLine ∧ Nx (upd H4 D (.lst (acc ++ [y]))) else Nx H3)
theorem r_lc {wi : TI} {vs : List Nat} (h : wi σ H fun J H1 => ∀ D, H1 D = none → LcLoop J g c te vs σ (upd H1 D (.lst [])) D Q) : tLc wi g c te vs σ H Q := h
theorem lcl_lst {K : PySem.W.Frag} {a D : Addr} {xs : List V} {vs : List Nat} (Pv : Nat → Hp → Prop) (h0 : Pv 0 (upd H D (.lst []))) (hl : ∀ i H, i ≤ xs.length → Pv i H → SqL K H a xs)
    (hs : ∀ i x H, xs[i]? = some x → Pv i H → g x (wipe σ vs) H fun σ2 H2 => wipe σ2 vs = wipe σ vs ∧ c σ2 H2 fun b H3 =>
      if b = true then te σ2 H3 fun y H4 => ∃ acc, H4 D = some (.lst acc) ∧ acc.length < sizeLine ∧ Pv (i + 1) (upd H4 D (.lst (acc ++ [y]))) else Pv (i + 1) H3) (hd : ∀ H, Pv xs.length H → Q (.ref D) H) :
    LcLoop (Itl K a) g c te vs σ (upd H D (.lst [])) D Q := lc_list (Qd := fun H => Q (.ref D) H) Pv h0 hl hs hd
theorem r_tYes {Q : Bool → Hp → Prop} (h : Q true H) : tYes σ H Q := h
theorem r_bm {K : PySem.W.Frag} {T : String} {rr : V → List V → Hp → VK → Prop} {tr : TA} (h : ta σ H fun x H1 => tyV K T x H1 ∧ tr σ H1 fun xs H2 => rr x xs H2 Q) : tBM K T rr ta tr σ H Q := h
theorem ty_list {K : PySem.W.Frag} {p : Addr} {xs : List V} {A : Prop} (h : SqL K H p xs) (k : A) : tyV K "list" (.ref p) H ∧ A := ⟨.inl ⟨rfl, _, h⟩, k⟩
theorem r_app {l : Addr} {xs : List V} {y : V} (e : H l = some (.lst xs)) (hl : xs.length < sizeLine) (h : Q .non (upd H l (.lst (xs ++ [y])))) : rAppend (.ref l) [y] H Q := ⟨l, xs, y, rfl, rfl, e, hl, h⟩
/-! values at once: chains, and, or of what is only read -/
theorem r_chainLL {x y z : Int} (ha : ∀ Q' : VK, Q' (.int x) H → ta σ H Q') (hb : ∀ Q' : VK, Q' (.int y) H → tb σ H Q') (hc : ∀ Q' : VK, Q' (.int z) H → tc σ H Q') (h : Q (.bl (decide (x ≤ y) && decide (y ≤ z))) H) :
    tChain (rI0 fun i j => .bl (decide (i ≤ j))) (rI0 fun i j => .bl (decide (i ≤ j))) ta tb tc σ H Q := by
  refine ha _ (hb _ ⟨x, y, rfl, rfl, _, rfl, ?_⟩)
  by_cases e : x ≤ y
  · rw [decide_eq_true e] at h ⊢
    exact iteT (hc _ ⟨y, z, rfl, rfl, h⟩)
  · rw [decide_eq_false e] at h ⊢
    exact iteF h
theorem r_andVp {b k : Bool} (ha : ∀ Q' : VK, Q' (.bl b) H → ta σ H Q') (hb : ∀ Q' : VK, Q' (.bl k) H → tb σ H Q') (h : Q (.bl (b && k)) H) : tAndV ta tb σ H Q := by
  refine ha _ ⟨b, rfl, ?_⟩
  cases b with
  | true => exact iteT (hb _ h)
  | false => exact iteF h
theorem r_orVp {b k : Bool} (ha : ∀ Q' : VK, Q' (.bl b) H → ta σ H Q') (hb : ∀ Q' : VK, Q' (.bl k) H → tb σ H Q') (h : Q (.bl (b || k)) H) : tOrV ta tb σ H Q := by
  refine ha _ ⟨b, rfl, ?_⟩
  cases b with
  | false => exact iteF (hb _ h)
  | true => exact iteT h
theorem r_catA {K : PySem.W.Frag} {a b : Addr} {xs ys : List V} (h1 : SqT K H a xs) (h2 : SqT K H b ys) (hl : xs.length + ys.length ≤ sizeLine) (hx : xs ≠ []) (hy : ys ≠ []) (h : New Q H (.tup (xs ++ ys))) :
    rCatA K (.ref a) (.ref b) H Q := ⟨a, b, xs, ys, rfl, rfl, h1, h2, hl, fun e => absurd e hx, fun _ e => absurd e hy, fun _ _ => h⟩
theorem r_sl {rr : V → Option Int → Option Int → Hp → VK → Prop} {tl th : TO} (h : te σ H fun x H1 => tl σ H1 fun l H2 => th σ H2 fun u H3 => rr x l u H3 Q) : tSl rr te tl th σ H Q := h
theorem r_np {Q : Option Int → Hp → Prop} (h : Q none H) : tNoPart σ H Q := h
theorem r_pt {Q : Option Int → Hp → Prop} (h : te σ H fun x H1 => ∃ i, x = .int i ∧ Q (some i) H1) : tPart te σ H Q := h
theorem r_int {i : Int} {Q : Int → Prop} (h : Q i) : ∃ j, V.int i = .int j ∧ Q j := ⟨i, rfl, h⟩
theorem r_slA {K : PySem.W.Frag} {a : Addr} {xs : List V} {lo hi : Option Int} (h1 : SqT K H a xs) (ne : ¬ (HT.sIx xs.length 0 lo = 0 ∧ HT.sIx xs.length xs.length hi = xs.length)) (h : New Q H (.tup (cutV xs lo hi))) :
    rSlA K (.ref a) lo hi H Q := ⟨a, xs, rfl, h1, fun e => absurd e ne, fun _ => h⟩
def rListOf (K : PySem.W.Frag) : List V → Hp → VK → Prop := fun xs H Q => ∃ p ys, xs = [.ref p] ∧ (SqL K H p ys ∨ SqT K H p ys) ∧ New Q H (.lst ys)
theorem call_listN {X : Cx} : CallR X (.type "list") (rListOf X.K) := call_list_of
theorem r_listN {K : PySem.W.Frag} {p : Addr} {ys : List V} (h1 : SqL K H p ys ∨ SqT K H p ys) (h : New Q H (.lst ys)) : rListOf K [.ref p] H Q := ⟨p, ys, rfl, h1, h⟩
theorem r_catX {K : PySem.W.Frag} {l b : Addr} {xs zs : List V} (h1 : SqL K H l xs) (h2 : SqL K H b zs) (hl : xs.length + zs.length ≤ sizeLine) (h : New Q H (.lst (xs ++ zs))) :
    rCatX K (.ref l) (.ref b) H Q := ⟨l, b, xs, zs, rfl, rfl, h1, h2, hl, h⟩
theorem r_ixL {K : PySem.W.Frag} {p : Addr} {xs : List V} {i : Int} {v : V} (h1 : SqL K H p xs) (h2 : atI xs i = some v) (h : Q v H) : rIxL K (.ref p) (.int i) H Q := ⟨p, xs, i, v, rfl, rfl, h1, h2, h⟩
theorem r_ixT {K : PySem.W.Frag} {p : Addr} {xs : List V} {i : Int} {v : V} (h1 : SqT K H p xs) (h2 : atI xs i = some v) (h : Q v H) : rIxT K (.ref p) (.int i) H Q := ⟨p, xs, i, v, rfl, rfl, h1, h2, h⟩
theorem r_rep {l : Addr} {k : Int} {xs : List V} (h1 : H l = some (.lst xs)) (h0 : 0 ≤ k) (hk : k < 2 ^ 63) (hl : xs.length * k.toNat ≤ sizeLine) (h : New Q H (.lst (List.replicate k.toNat xs).flatten)) :
    rRep (.ref l) (.int k) H Q := ⟨l, k, xs, rfl, rfl, h1, by omega, hk, hl, h⟩
theorem r_eqD {K : PySem.W.Frag} {x y : V} {d e : PyData} (h1 : Dp K H x d) (h2 : Dp K H y e) (s1 : SeqAt.shaped d = true) (s2 : SeqAt.shaped e = true) (h : Q (.bl (PyData.eqv d e)) H) : rEqD K x y H Q := ⟨d, e, h1, h2, s1, s2, h⟩
theorem r_neD {K : PySem.W.Frag} {x y : V} {d e : PyData} (h1 : Dp K H x d) (h2 : Dp K H y e) (s1 : SeqAt.shaped d = true) (s2 : SeqAt.shaped e = true) (h : Q (.bl (!PyData.eqv d e)) H) : rNeD K x y H Q := ⟨d, e, h1, h2, s1, s2, h⟩
theorem r_dput (h : te σ H fun v H1 => ta σ H1 fun x H2 => tb σ H2 fun y H3 => ∃ a H4, x = .ref a ∧ DPut H3 a y v H4 ∧ D.nx σ H4) : sDPut ta tb te D σ H := h
/-- != of one text with itself -/
theorem r_neS {x : Str} (h : Q (.bl false) H) : rNe (.str x) (.str x) H Q := ⟨rfl, by rw [decide_eq_true rfl]; exact h⟩
theorem r_eqS {x : Str} (h : Q (.bl true) H) : rEq (.str x) (.str x) H Q := ⟨rfl, by rw [decide_eq_true rfl]; exact h⟩
theorem r_rfl {x : V} {A : Prop} (h : A) : x = x ∧ A := ⟨rfl, h⟩
end
theorem r_ifT {b : Bool} {A B : Prop} (e : b = true) (h : A) : if b = true then A else B := by
  rw [if_pos e]
  exact h
theorem r_ifF {b : Bool} {A B : Prop} (e : b = false) (h : B) : if b = true then A else B := by
  rw [e]
  exact iteF h
/-! ### the state: the draws' dict at d (m draws are left at the most), what is never changed any more (B), what is still changed (ms) -/
/-- all that is in B stands in H as well -/
theorem same_new {H : Hp} {p : Addr} {o : HO} (h : H p = none) : Same H (upd H p o) := by
  intro b x e
  rw [upd_ne (ne_of_none e h)]
  exact e
def dk (a : Addr) (t l u : Int) : List (Key × V) := [(Sum.inr "cells", .ref a), (Sum.inr "at", .int t), (Sum.inr "left", .int l), (Sum.inr "used", .int u)]
structure Draw (K : PySem.W.Frag) (d : Addr) (m : Nat) (B H : Hp) : Prop where
  ex : ∃ (a : Addr) (ns : List Int) (t l u : Int), H d = some (.dK (dk a t l u)) ∧ SqL K B a (ns.map V.int) ∧ ns ≠ [] ∧ ns.length ≤ 64 ∧ 0 ≤ t ∧ 0 ≤ u ∧ t + m ≤ 2 ^ 40 ∧ u + m ≤ 2 ^ 40
  out : B d = none
/-- sys.modules' own dict as it stood at the law's entry (or an object of the written part): no new object is taken for it -/
def sysO (o : Obj) : HO := .frz o (.own 0)
def Sys (K : PySem.W.Frag) (H : Hp) : Prop := (∃ o es ep, H sysModules = some (sysO o) ∧ o.data = .dict es ep) ∨ ∃ o es ep, K.lookup sysModules = some o ∧ o.data = .dict es ep
theorem Sys.grow {K : PySem.W.Frag} {H H' : Hp} (x : Sys K H) (s : Same H H') : Sys K H' := by
  rcases x with ⟨o, es, ep, e, d⟩ | x
  · exact .inl ⟨o, es, ep, s _ _ e, d⟩
  · exact .inr x
structure Wd (K : PySem.W.Frag) (d : Addr) (m : Nat) (ms : List (Addr × HO)) (B H : Hp) : Prop where
  sy : Sys K B
  sb : Same B H
  dr : Draw K d m B H
  mu : ∀ q ∈ ms, H q.1 = some q.2 ∧ B q.1 = none ∧ q.1 ≠ d
  nd : (ms.map Prod.fst).Nodup
section
variable {K : PySem.W.Frag} {d p : Addr} {m : Nat} {ms : List (Addr × HO)} {B H : Hp} {o o' : HO}
theorem Draw.grow {B' H' : Hp} (x : Draw K d m B H) (s : Same B B') (n : B' d = none) (e : H' d = H d) : Draw K d m B' H' := by
  obtain ⟨a, ns, t, l, u, h1, h2, h3⟩ := x.ex
  exact ⟨⟨a, ns, t, l, u, e.trans h1, s.seq h2, h3⟩, n⟩
theorem Draw.ne (x : Draw K d m B H) (h : H p = none) : d ≠ p := by
  obtain ⟨a, ns, t, l, u, h1, _⟩ := x.ex
  exact ne_of_none h1 h
theorem Draw.le {m' : Nat} (x : Draw K d m B H) (h : m' ≤ m) : Draw K d m' B H := by
  obtain ⟨a, ns, t, l, u, h1, h2, h3, h4, h5, h6, h7, h8⟩ := x.ex
  exact ⟨⟨a, ns, t, l, u, h1, h2, h3, h4, h5, h6, by omega, by omega⟩, x.out⟩
theorem Wd.le {m' : Nat} (w : Wd K d m ms B H) (h : m' ≤ m) : Wd K d m' ms B H := ⟨w.sy, w.sb, w.dr.le h, w.mu, w.nd⟩
theorem Wd.bn (w : Wd K d m ms B H) (hp : H p = none) : B p = none := w.sb.free hp
/-- a new thing that is never changed -/
theorem Wd.new (w : Wd K d m ms B H) (hp : H p = none) : Wd K d m ms (upd B p o) (upd H p o) := by
  have bp := w.bn hp
  refine ⟨w.sy.grow (same_new bp), fun b x e => ?_, w.dr.grow (same_new bp) ?_ (upd_ne (w.dr.ne hp)), fun q hq => ?_, w.nd⟩
  · by_cases hb : b = p
    · subst hb
      rw [upd_same] at e
      rw [upd_same]
      exact e
    · rw [upd_ne hb] at e
      rw [upd_ne hb]
      exact w.sb b x e
  · rw [upd_ne (w.dr.ne hp)]
    exact w.dr.out
  · obtain ⟨h1, h2, h3⟩ := w.mu q hq
    have n : q.1 ≠ p := ne_of_none h1 hp
    rw [upd_ne n, upd_ne n]
    exact ⟨h1, h2, h3⟩
/-- a new thing that is still changed -/
theorem Wd.mut (w : Wd K d m ms B H) (hp : H p = none) : Wd K d m ((p, o) :: ms) B (upd H p o) := by
  have bp := w.bn hp
  refine ⟨w.sy, w.sb.trans (same_new hp), w.dr.grow (Same.refl B) w.dr.out (upd_ne (w.dr.ne hp)), fun q hq => ?_, ?_⟩
  · rcases List.mem_cons.mp hq with rfl | hq
    · exact ⟨upd_same, bp, (w.dr.ne hp).symm⟩
    · obtain ⟨h1, h2, h3⟩ := w.mu q hq
      rw [upd_ne (ne_of_none h1 hp)]
      exact ⟨h1, h2, h3⟩
  · refine List.nodup_cons.mpr ⟨fun hm => ?_, w.nd⟩
    obtain ⟨q, hq, e⟩ := List.mem_map.mp hm
    obtain ⟨h1, _⟩ := w.mu q hq
    rw [e, hp] at h1
    cases h1
theorem Wd.get (w : Wd K d m ((p, o) :: ms) B H) : H p = some o := (w.mu _ List.mem_cons_self).1
theorem Wd.set (w : Wd K d m ((p, o) :: ms) B H) : Wd K d m ((p, o') :: ms) B (upd H p o') := by
  obtain ⟨h1, h2, h3⟩ := w.mu _ List.mem_cons_self
  have n0 : ∀ q ∈ ms, q.1 ≠ p := fun q hq e => (List.nodup_cons.mp w.nd).1 (List.mem_map.mpr ⟨q, hq, e⟩)
  refine ⟨w.sy, fun b x e => ?_, w.dr.grow (Same.refl B) w.dr.out (upd_ne (Ne.symm h3)), fun q hq => ?_, w.nd⟩
  · have : b ≠ p := fun z => by
      subst z
      rw [h2] at e
      cases e
    rw [upd_ne this]
    exact w.sb b x e
  · rcases List.mem_cons.mp hq with rfl | hq
    · exact ⟨upd_same, h2, h3⟩
    · rw [upd_ne (n0 q hq)]
      exact w.mu q (List.mem_cons_of_mem _ hq)
/-- it is never changed any more -/
theorem Wd.frz (w : Wd K d m ((p, o) :: ms) B H) : Wd K d m ms (upd B p o) H := by
  obtain ⟨h1, h2, h3⟩ := w.mu _ List.mem_cons_self
  have n0 : ∀ q ∈ ms, q.1 ≠ p := fun q hq e => (List.nodup_cons.mp w.nd).1 (List.mem_map.mpr ⟨q, hq, e⟩)
  refine ⟨w.sy.grow (same_new h2), fun b x e => ?_, w.dr.grow (same_new h2) ?_ rfl, fun q hq => ?_, (List.nodup_cons.mp w.nd).2⟩
  · by_cases hb : b = p
    · subst hb
      rw [upd_same] at e
      cases e
      exact h1
    · rw [upd_ne hb] at e
      exact w.sb b x e
  · rw [upd_ne (Ne.symm h3)]
    exact w.dr.out
  · rw [upd_ne (n0 q hq)]
    exact w.mu q (List.mem_cons_of_mem _ hq)
theorem Wd.swap {q q' : Addr × HO} (w : Wd K d m (q :: q' :: ms) B H) : Wd K d m (q' :: q :: ms) B H := by
  refine ⟨w.sy, w.sb, w.dr, fun x hx => w.mu x ?_, ?_⟩
  · rcases List.mem_cons.mp hx with rfl | hx
    · exact List.mem_cons_of_mem _ List.mem_cons_self
    · rcases List.mem_cons.mp hx with rfl | hx
      · exact List.mem_cons_self
      · exact List.mem_cons_of_mem _ (List.mem_cons_of_mem _ hx)
  · have := w.nd
    simp only [List.map_cons, List.nodup_cons, List.mem_cons, not_or] at this ⊢
    exact ⟨⟨fun e => this.1.1 e.symm, this.2.1⟩, this.1.2, this.2.2⟩
theorem Wd.drop {q : Addr × HO} (w : Wd K d m (q :: ms) B H) : Wd K d m ms B H :=
  ⟨w.sy, w.sb, w.dr, fun x hx => w.mu x (List.mem_cons_of_mem _ hx), (List.nodup_cons.mp w.nd).2⟩
theorem Wd.seq {a : Addr} {xs : List V} (w : Wd K d m ms B H) (h : SqL K B a xs) : SqL K H a xs := w.sb.seq h
/-- a display that is never changed: what follows holds at a larger B -/
theorem al_new {Q : VK} (w : Wd K d m ms B H) (h : ∀ p B' H', Wd K d m ms B' H' → Same B B' → B' p = some o → Q (.ref p) H') : New Q H o :=
  fun p hp => h p _ _ (w.new hp) (same_new (w.bn hp)) upd_same
theorem al_mut {Q : VK} (w : Wd K d m ms B H) (h : ∀ p H', Wd K d m ((p, o) :: ms) B H' → Q (.ref p) H') : New Q H o :=
  fun p hp => h p _ (w.mut hp)
/-- the draws' dict: read, written -/
theorem str_ne {x y : Str} (h : ¬ x = y) : ¬ (Sum.inr x : Key) = Sum.inr y := fun e => h (Sum.inr.inj e)
theorem dk_cells (a : Addr) (t l u : Int) : valV (dk a t l u) (Sum.inr ("cells" : Str)) = some (.ref a) := valV_pos rfl
theorem key_ne {x y : Str} (h : ¬ x = y) : ¬ (Sum.inr x : Key) = Sum.inr y := str_ne h
theorem k1 : ¬ (Sum.inr ("cells" : Str) : Key) = Sum.inr ("at" : Str) := str_ne (by decide +kernel)
theorem k2 : ¬ (Sum.inr ("cells" : Str) : Key) = Sum.inr ("left" : Str) := str_ne (by decide +kernel)
theorem k3 : ¬ (Sum.inr ("cells" : Str) : Key) = Sum.inr ("used" : Str) := str_ne (by decide +kernel)
theorem k4 : ¬ (Sum.inr ("at" : Str) : Key) = Sum.inr ("left" : Str) := str_ne (by decide +kernel)
theorem k5 : ¬ (Sum.inr ("at" : Str) : Key) = Sum.inr ("used" : Str) := str_ne (by decide +kernel)
theorem k6 : ¬ (Sum.inr ("left" : Str) : Key) = Sum.inr ("used" : Str) := str_ne (by decide +kernel)
theorem dk_at (a : Addr) (t l u : Int) : valV (dk a t l u) (Sum.inr ("at" : Str)) = some (.int t) :=
  (valV_neg k1).trans (valV_pos rfl)
theorem dk_left (a : Addr) (t l u : Int) : valV (dk a t l u) (Sum.inr ("left" : Str)) = some (.int l) :=
  (valV_neg k2).trans ((valV_neg k4).trans (valV_pos rfl))
theorem dk_used (a : Addr) (t l u : Int) : valV (dk a t l u) (Sum.inr ("used" : Str)) = some (.int u) :=
  (valV_neg k3).trans ((valV_neg k5).trans ((valV_neg k6).trans (valV_pos rfl)))
theorem put_at (a : Addr) (t l u z : Int) : putK (dk a t l u) (Sum.inr ("at" : Str)) (.int z) = dk a z l u := by
  have h1 : ¬ (Sum.inr ("cells" : Str) : Key) = Sum.inr ("at" : Str) := str_ne (by decide +kernel)
  have h2 : ¬ (Sum.inr ("left" : Str) : Key) = Sum.inr ("at" : Str) := str_ne (by decide +kernel)
  have h3 : ¬ (Sum.inr ("used" : Str) : Key) = Sum.inr ("at" : Str) := str_ne (by decide +kernel)
  simp [putK, dk, h1, h2, h3]
theorem put_left (a : Addr) (t l u z : Int) : putK (dk a t l u) (Sum.inr ("left" : Str)) (.int z) = dk a t z u := by
  have h1 : ¬ (Sum.inr ("cells" : Str) : Key) = Sum.inr ("left" : Str) := str_ne (by decide +kernel)
  have h2 : ¬ (Sum.inr ("at" : Str) : Key) = Sum.inr ("left" : Str) := str_ne (by decide +kernel)
  have h3 : ¬ (Sum.inr ("used" : Str) : Key) = Sum.inr ("left" : Str) := str_ne (by decide +kernel)
  simp [putK, dk, h1, h2, h3]
theorem put_used (a : Addr) (t l u z : Int) : putK (dk a t l u) (Sum.inr ("used" : Str)) (.int z) = dk a t l z := by
  have h1 : ¬ (Sum.inr ("cells" : Str) : Key) = Sum.inr ("used" : Str) := str_ne (by decide +kernel)
  have h2 : ¬ (Sum.inr ("at" : Str) : Key) = Sum.inr ("used" : Str) := str_ne (by decide +kernel)
  have h3 : ¬ (Sum.inr ("left" : Str) : Key) = Sum.inr ("used" : Str) := str_ne (by decide +kernel)
  simp [putK, dk, h1, h2, h3]
end
section
variable {H : Hp} {d a : Addr} {t l u z : Int}
theorem get_left (e : H d = some (.dK (dk a t l u))) : DGet H d (.str "left") (some (.int l)) := dk_left a t l u ▸ DGet.k (k := Sum.inr "left") e
theorem get_at (e : H d = some (.dK (dk a t l u))) : DGet H d (.str "at") (some (.int t)) := dk_at a t l u ▸ DGet.k (k := Sum.inr "at") e
theorem get_used (e : H d = some (.dK (dk a t l u))) : DGet H d (.str "used") (some (.int u)) := dk_used a t l u ▸ DGet.k (k := Sum.inr "used") e
theorem get_cells (e : H d = some (.dK (dk a t l u))) : DGet H d (.str "cells") (some (.ref a)) := dk_cells a t l u ▸ DGet.k (k := Sum.inr "cells") e
theorem set_left (e : H d = some (.dK (dk a t l u))) : DPut H d (.str "left") (.int z) (upd H d (.dK (dk a t z u))) := put_left a t l u z ▸ DPut.k (k := Sum.inr "left") e (by show 4 < sizeLine; decide)
theorem set_at (e : H d = some (.dK (dk a t l u))) : DPut H d (.str "at") (.int z) (upd H d (.dK (dk a z l u))) := put_at a t l u z ▸ DPut.k (k := Sum.inr "at") e (by show 4 < sizeLine; decide)
theorem set_used (e : H d = some (.dK (dk a t l u))) : DPut H d (.str "used") (.int z) (upd H d (.dK (dk a t l z))) := put_used a t l u z ▸ DPut.k (k := Sum.inr "used") e (by show 4 < sizeLine; decide)
end
/-- the draws' dict is changed: the state's rest stays -/
theorem Wd.draw {K : PySem.W.Frag} {d : Addr} {m m' : Nat} {ms : List (Addr × HO)} {B H : Hp} {a : Addr} {ns : List Int} {t l u : Int} (w : Wd K d m ms B H)
    (h : SqL K B a (ns.map V.int) ∧ ns ≠ [] ∧ ns.length ≤ 64 ∧ 0 ≤ t ∧ 0 ≤ u ∧ t + m' ≤ 2 ^ 40 ∧ u + m' ≤ 2 ^ 40) :
    Wd K d m' ms B (upd H d (.dK (dk a t l u))) := by
  refine ⟨w.sy, fun b x e => ?_, ⟨⟨a, ns, t, l, u, upd_same, h⟩, w.dr.out⟩, fun q hq => ?_, w.nd⟩
  · have : b ≠ d := fun z => by
      subst z
      rw [w.dr.out] at e
      cases e
    rw [upd_ne this]
    exact w.sb b x e
  · obtain ⟨h1, h2, h3⟩ := w.mu q hq
    rw [upd_ne h3]
    exact ⟨h1, h2, h3⟩

theorem gcI {mg : Str → Option Value} {x : Str} {n : Int} (h : ∃ k, mg x = some (.int n k)) : ∃ u, mg x = some u ∧ RelV (V.int n) u := by
  obtain ⟨k, h⟩ := h
  exact ⟨_, h, k, rfl⟩
/-! ### conditions of numbers -/
theorem cm {i j : Int} (hi : i.natAbs < 2 ^ 400000) (hj : j.natAbs < 2 ^ 400000) : CMulW i j := wide_mul hi hj (by decide) (by decide) (by decide)
theorem lt_big {n b : Nat} (h : n < 2 ^ b) (hb : b ≤ 400000) : n < 2 ^ 400000 := Nat.lt_of_lt_of_le h (Nat.pow_le_pow_right (by decide) hb)
theorem big64 {i : Int} (h : i.natAbs < 2 ^ 64) : i.natAbs < 2 ^ 400000 := lt_big h (by decide)
theorem big200 {i : Int} (h : i.natAbs < 2 ^ 200) : i.natAbs < 2 ^ 400000 := lt_big h (by decide)
theorem cm64 {i j : Int} (hi : i.natAbs < 2 ^ 64) (hj : j.natAbs < 2 ^ 64) : CMulW i j := cm (big64 hi) (big64 hj)
theorem cm200 {i j : Int} (hi : i.natAbs < 2 ^ 200) (hj : j.natAbs < 2 ^ 200) : CMulW i j := cm (big200 hi) (big200 hj)
theorem cdiv {i j : Int} (h : 0 < j) (hj : j.natAbs < 2 ^ 64) : CDivW i j := wide_div h hj (by decide) (by decide)
theorem mod_abs {i n : Int} (hn : 0 < n) (h : n ≤ 2 ^ 63) : (i % n).natAbs < 2 ^ 64 := by
  have h1 := Int.emod_nonneg i (Int.ne_of_gt hn)
  have h2 := Int.emod_lt_of_pos i hn
  omega
theorem mul_abs {i j : Int} {a b c : Nat} (hi : i.natAbs < 2 ^ a) (hj : j.natAbs < 2 ^ b) (h : a + b ≤ c) : (i * j).natAbs < 2 ^ c :=
  Nat.lt_of_lt_of_le (wide_lt hi hj) (Nat.pow_le_pow_right (by decide) h)
/-- a built-in class as a value -/
theorem pe_ty {X : Cx} {x : Str} {pos : Pos} (n : String) (hg : Gl X x) (hm : X.mg x = none) (hv : bootBuiltins x = some (.type n))
    (hn : x ≠ "__name__" := by decide) (hd : (x == ("__debug__" : Str)) = false := by decide) : PE X (.Name x pos) (tC (.ty n)) :=
  pe_bltn hg hm hv (show RelV (.ty n) (.type n) from rfl) hn hd
theorem dk_make (a : Addr) (x y z : Int) :
    mergeK [] [((Sum.inr ("cells" : Str) : Key), V.ref a), (Sum.inr ("at" : Str), .int x), (Sum.inr ("left" : Str), .int y), (Sum.inr ("used" : Str), .int z)] = dk a x y z := by
  have e1 : ¬ ("cells" : Str) = "at" := by decide +kernel
  have e2 : ¬ ("cells" : Str) = "left" := by decide +kernel
  have e3 : ¬ ("cells" : Str) = "used" := by decide +kernel
  have e4 : ¬ ("at" : Str) = "left" := by decide +kernel
  have e5 : ¬ ("at" : Str) = "used" := by decide +kernel
  have e6 : ¬ ("left" : Str) = "used" := by decide +kernel
  simp [mergeK, putK, dk, e1, e2, e3, e4, e5, e6]
theorem pe_dispT {X : Cx} {k v : Expr} {pos : Pos} {ta tv : TE} (hu : X.A.units + 1 < cLine) (hk : PE X k ta) (hv : PE X v tv) : PE X (.Dict [some k] [v] pos) (tDispT ta tv) := by
  refine ⟨fun pins s σ H Q I q => ?_⟩
  have hn := I.hok.fresh (Nat.le_refl s.heap.objs.size)
  have I1 := I.laid (a := s.heap.objs.size) (o := .dT []) (h' := s.heap.push { cls := .type "dict", data := .dict #[] }) (t' := s.toks) (fun _ _ q => Heap.get?_push_of_some _ q) (Nat.le_refl _) (dt_empty s.heap I.big)
  have hp := (pps_cons (pos := pos) hk hv pps_nil).run pins _ σ _ (fun ps H2 => match ps with
    | [(x, y)] => ∃ (a : Addr) (i j : Int), x = .ref a ∧ H2 a = some (.tup [.int i, .int j]) ∧ H2 s.heap.objs.size = some (.dT []) ∧ Q (.ref s.heap.objs.size) (upd H2 s.heap.objs.size (.dT [([Sum.inl i, Sum.inl j], y)]))
    | _ => False) I1 (q _ hn)
  have hl : (pairTrees [some k] [v] X.env pos).length = 1 := pairTrees_length [some k] [v] X.env pos rfl rfl
  have h0 : pairTrees [some k] [v] X.env pos ≠ [] := fun e => by
    rw [e] at hl
    cases hl
  rw [arm_eval_Dict, zip_pairTrees [some k] [v] X.env pos rfl rfl, dictDisplay_pairs (pairTrees [some k] [v] X.env pos) h0 (by rw [hl]; decide)]
  refine wpAny_bind (wpAny_standAt (wpAny_bind (wpAny_subDictH (knd := tupleKind (mixKind X.prog X.w)) (Q := fun d s' => wpAny (model X.prog X.w) X.A (pure (Value.ref d)) _ _ s') (show X.A.units < cLine by omega) (by rw [hl]; decide) (thn hp fun vs s2 h2 => ?_))))
  obtain ⟨ps, H2, I2, rel, h2⟩ := h2
  match ps, rel, h2 with
  | [(x, y)], rel, ⟨a, i, j, ex, ea, ep, q2⟩ =>
    cases rel with
    | @cons _ b _ bs r rest =>
      cases rest
      obtain ⟨b1, b2⟩ := b
      obtain ⟨r1, r2⟩ := r
      subst ex
      cases (show b1 = Value.ref a from r1)
      obtain ⟨z, hd, xs, rx, dd⟩ := dt_of I2.hok ep
      cases rx
      have hkey := key_of (ks := [Sum.inl i, Sum.inl j]) I2.hok ea
      refine ⟨[([Sum.inl i, Sum.inl j], a, b2)], ⟨rfl, rfl, hkey, trivial⟩, dd, fun h' tk dd' hs => ?_⟩
      refine wpAny_pure ?_
      obtain ⟨o, es, epo, ho, h3, h4, h5, _, h6⟩ := dd'
      refine ⟨.ref s.heap.objs.size, _, ?_, rfl, q2⟩
      refine d_write I2 (by rw [ep]; exact True.intro) hs ⟨o, ho⟩ ⟨by show 1 ≤ sizeLine; decide, hd, _, ?_, o, es, epo, ho, h3, h4, h5, h6⟩
      refine .cons ⟨rfl, ?_, r2⟩ .nil
      rw [upd_ne (ne_of ea ep (fun z => nomatch z))]
      exact ea
/-- a module's constant that is an int -/
theorem pe_gcI {X : Cx} {x : Str} {n : Int} {pos : Pos} (hg : Gl X x) (h : ∃ k, X.mg x = some (.int n k)) (hd : (x == ("__debug__" : Str)) = false := by decide) : PE X (.Name x pos) (tC (.int n)) := by
  obtain ⟨k, h⟩ := h
  exact pe_glob hg h ⟨k, rfl⟩ hd
/-! ### the same rules, the written part K told (so that a comprehension's block says nothing of itself) -/
section
variable {X : Cx} {K : PySem.W.Frag}
theorem call_isiE (h : X.K = K) : CallR X (.builtin "isinstance") (rIsi K) := h ▸ call_isi
theorem call_isiTE (h : X.K = K) : CallR X (.builtin "isinstance") (rIsiT K) := h ▸ call_isiT
def rLen (K : PySem.W.Frag) : List V → Hp → VK → Prop := fun xs H Q => ∃ p ys, xs = [.ref p] ∧ (SqL K H p ys ∨ SqT K H p ys) ∧ Q (.int ys.length) H
theorem call_lenE (h : X.K = K) : CallR X (.builtin "len") (rLen K) := h ▸ call_len_seq
theorem call_listE (h : X.K = K) : CallR X (.type "list") (rListOf K) := h ▸ call_listN
theorem ix_listE (h : X.K = K) : IxR X (rIxL K) := h ▸ ix_list
theorem ix_tupE (h : X.K = K) : IxR X (rIxT K) := h ▸ ix_tup
theorem op_eqDE (h : X.K = K) (hu : X.A.units + 64 < cLine) : OpR X (compareOp .Eq) (rEqD K) := h ▸ op_eqD hu
theorem op_neDE (h : X.K = K) (hu : X.A.units + 64 < cLine) : OpR X (compareOp .NotEq) (rNeD K) := h ▸ op_neD hu
theorem op_catXE (h : X.K = K) : OpR X (binaryOp .Add) (rCatX K) := h ▸ op_catX
theorem op_catAE (h : X.K = K) : OpR X (binaryOp .Add) (rCatA K) := h ▸ op_catA
theorem sl_listE (h : X.K = K) : SlR X (rSlL K) := h ▸ sl_list
theorem sl_tupAE (h : X.K = K) : SlR X (rSlA K) := h ▸ sl_tupA
theorem pi_listE {tg l : Expr} {tl : TE} (h : X.K = K) (hl : PE X l tl) : PI X tg l (iList K tl) := h ▸ pi_list hl
theorem pi_tupE {tg l : Expr} {tl : TE} (h : X.K = K) (hl : PE X l tl) : PI X tg l (iTup K tl) := h ▸ pi_tup hl
theorem pg_tupE {es : List Expr} {k : Nat} {t : TGs} {n : Nat} {pos : Pos} (hK : X.K = K) (hc : X.calm = true) (h : PGs X es t)
    (hn : (assignEach es X.env).length = n := by rfl) (hst : (assignEach es X.env).findIdx? (·.1) = none := by rfl) : PG X (.Tuple es k pos) (gTup K n t) := hK ▸ pg_tup hc h hn hst
theorem pe_bmE {o e : Expr} {es : List Expr} {to : TE} {t : TA} {name : Str} {apos cpos : Pos} {T id : String} {r : V → List V → Hp → VK → Prop} (hK : X.K = K)
    (pa : PlainAttrs T) (slot : Slot T name id) (hty : typeOf (.builtin id) = pure (.type "method_descriptor")) (hm : MtR X id r) (ho : PE X o to) (ha : PA X (e :: es) t)
    (hbase : attributeBase o name X.env (eval o X.env) = eval o X.env := by rfl)
    (hfew : ((backTo cpos (starEach (e :: es) X.env)).all (fun x => !x.1) && (backToKw cpos (keywordEach [] X.env)).all (fun x => x.1.isSome) && decide ((e :: es).length + ([] : List Keyword).length + (if ([] : List Keyword).isEmpty then 0 else 1) < 30)) = true := by rfl)
    (hline : (apos.endLine == cpos.line) = true := by rfl) (hs : starEach (e :: es) X.env = (false, eval e X.env) :: starEach es X.env := by rfl)
    (hpl : (backTo cpos (starEach es X.env)).any (·.1) = false := by rfl) :
    PE X (.Call (.Attribute o name apos) (e :: es) [] cpos) (tBM K T r to t) := hK ▸ pe_bm pa slot hty hm ho ha hbase hfew hline hs hpl
theorem pe_bm0E {o : Expr} {to : TE} {name : Str} {apos cpos : Pos} {T id : String} {r : V → List V → Hp → VK → Prop} (hK : X.K = K)
    (pa : PlainAttrs T) (slot : Slot T name id) (hty : typeOf (.builtin id) = pure (.type "method_descriptor")) (hm : MtR X id r) (ho : PE X o to)
    (hbase : attributeBase o name X.env (eval o X.env) = eval o X.env := by rfl) (hline : (apos.endLine == cpos.line) = true := by rfl) :
    PE X (.Call (.Attribute o name apos) [] [] cpos) (tBM0 K T r to) := hK ▸ pe_bm0 pa slot hty hm ho hbase hline
end
section
variable {K : PySem.W.Frag} {H : Hp} {Q : VK}
theorem r_lenL {p : Addr} {ys : List V} (h1 : SqL K H p ys) (h : Q (.int ys.length) H) : rLen K [.ref p] H Q := ⟨p, ys, rfl, .inl h1, h⟩
theorem r_lenT {p : Addr} {ys : List V} (h1 : SqT K H p ys) (h : Q (.int ys.length) H) : rLen K [.ref p] H Q := ⟨p, ys, rfl, .inr h1, h⟩
theorem g_tup {a : Addr} {xs : List V} {n : Nat} {t : TGs} {σ : L2.St} {Q : L2.St → Hp → Prop} (h1 : SqT K H a xs) (hl : xs.length = n) (h : t xs σ H Q) : gTup K n t (.ref a) σ H Q := ⟨a, xs, rfl, h1, hl, h⟩
theorem r_gcons {g : TG} {t : TGs} {v : V} {r : List V} {σ : L2.St} {Q : L2.St → Hp → Prop} (h : g v σ H fun σ' H' => t r σ' H' Q) : gCons g t (v :: r) σ H Q := ⟨v, r, rfl, h⟩
theorem r_gnil {σ : L2.St} {Q : L2.St → Hp → Prop} (h : Q σ H) : gNil [] σ H Q := ⟨rfl, h⟩
end
/-! ### the law's end: its own call, under no guard -/
theorem law_runG {P : Program} {w : World} {K : PySem.W.Frag} {mg mb : Str → Option Value} {k : Nat} {fa a : Addr} {fd : FuncData} {x : Str} {sp : Sp}
    {z : Shared} {vs : List Value} {ns : List Int} (KX : K.In z.heap) (hns : z.heap.Ns mainGlobals mg) (hb : z.heap.Ns builtinsNs mb)
    (hbb : ∀ x : Str, x ≠ "__name__" → mb x = bootBuiltins x) (hlim : z.heap.NoLimit) (hg : z.gens = #[])
    (hsys : ∃ mm, z.heap.Ns sysModules mm) (ha : z.heap.get? a = some { cls := .type "list", data := .seq vs.toArray }) (hi : IntsAre vs ns) (hl : ns.length ≤ sizeLine) (hr : Room k callerA)
    (F : ∀ base : Heap, K.In base → base.Ns mainGlobals mg → FnG P w K mg base CX0 k fa fd [x] sp)
    (hbind : ∀ (s : Shared) (u : Value), BindsTo s fd ⟨[u], []⟩ [(x, u)])
    (hsp : ∀ H : Hp, Sys K H → SqL K H a (ns.map V.int) → sp [.ref a] H (fun v _ => v = .bl true) fun _ _ _ => False) :
    codeAny (model P w) callerA (.call (.ref fa) ⟨[.ref a], []⟩)
      (fun r s' => r = .ok (.ret (.bool true)) ∧ OldK z.heap s'.heap ∧ s'.os = z.os ∧ AllBare s'.gens) z := by
  have rv := vals_ints hi
  have lenV := hi.length
  obtain ⟨oS, hoS, eD, eP, hdS⟩ : ∃ oS, z.heap.get? sysModules = some oS ∧ ∃ es ep, oS.data = .dict es ep := by
    obtain ⟨mm, o, es, ep, h1, h2, _⟩ := hsys
    exact ⟨o, h1, es, ep, h2⟩
  have hsa : sysModules ≠ a := fun q => by
    rw [q, ha] at hoS
    cases hoS
    cases hdS
  have nA : sysModules ≠ mainGlobals := by decide
  have nB : sysModules ≠ builtinsNs := by decide
  have nC : sysModules ≠ cStatics := by decide
  obtain ⟨H, Ha, Hs, Ho⟩ : ∃ H : Hp, H a = (if (K.lookup a).isSome then none else some (.frz { cls := .type "list", data := .seq vs.toArray } (.lst (ns.map V.int)))) ∧
      H sysModules = (if (K.lookup sysModules).isSome then none else some (sysO oS)) ∧ ∀ b, b ≠ a → b ≠ sysModules → H b = none :=
    ⟨fun b => if b = a then (if (K.lookup a).isSome then none else some (.frz { cls := .type "list", data := .seq vs.toArray } (.lst (ns.map V.int))))
      else if b = sysModules then (if (K.lookup sysModules).isSome then none else some (sysO oS)) else none,
      if_pos rfl, (if_neg hsa).trans (if_pos rfl), fun b h1 h2 => (if_neg h1).trans (if_neg h2)⟩
  have what : ∀ b u, H b = some u → (b = a ∧ K.lookup a = none ∧ u = .frz { cls := .type "list", data := .seq vs.toArray } (.lst (ns.map V.int))) ∨ (b = sysModules ∧ K.lookup sysModules = none ∧ u = sysO oS) := by
    intro b u e
    by_cases h1 : b = a
    · subst h1
      rw [Ha] at e
      cases hk : K.lookup b with
      | some o => rw [hk] at e; cases e
      | none => rw [hk] at e; exact .inl ⟨rfl, rfl, (Option.some.inj e).symm⟩
    · by_cases h2 : b = sysModules
      · subst h2
        rw [Hs] at e
        cases hk : K.lookup sysModules with
        | some o => rw [hk] at e; cases e
        | none => rw [hk] at e; exact .inr ⟨rfl, rfl, (Option.some.inj e).symm⟩
      · rw [Ho b h1 h2] at e
        cases e
  have bo : ∀ {b : Addr} {o : Obj}, z.heap.get? b = some o → H b = none → (hidT z.heap H).get? b = some o := fun e n => hidT_get e n
  have noA : ∀ {b : Addr} {o : Obj} {es : Array DictEntry} {ep : Nat}, b ≠ sysModules → z.heap.get? b = some o → o.data = .dict es ep → H b = none := by
    intro b o es ep hb e d
    by_cases h1 : b = a
    · subst h1
      rw [ha] at e
      cases e
      cases (show Data.seq vs.toArray _ = Data.dict es ep from d)
    · exact Ho b h1 hb
  have nsK : ∀ {b : Addr} {m : Str → Option Value}, sysModules ≠ b → z.heap.Ns b m → (hidT z.heap H).Ns b m := by
    rintro b m hb ⟨o, es, ep, e, d, r⟩
    exact ⟨o, es, ep, bo e (noA (Ne.symm hb) e d), d, r⟩
  have hKb : K.In (hidT z.heap H) := fun b o e => bo (KX b o e) (by
    cases q : H b with
    | none => rfl
    | some u =>
      rcases what b u q with ⟨rfl, hk, _⟩ | ⟨rfl, hk, _⟩
      · rw [hk] at e
        cases e
      · rw [hk] at e
        cases e)
  have hS : SqL K H a (ns.map V.int) := by
    cases hk : K.lookup a with
    | none => exact .inl (.inr ⟨_, by rw [Ha, hk]; rfl⟩)
    | some o =>
      have e := KX a o hk
      rw [ha] at e
      cases e
      exact .inr ⟨_, vs.toArray, _, hk, rfl, rfl, rfl, by rw [List.size_toArray, lenV]; exact hl, by simpa using rv⟩
  have hSy : Sys K H := by
    cases hk : K.lookup sysModules with
    | none => exact .inl ⟨oS, eD, eP, by rw [Hs, hk]; rfl, hdS⟩
    | some o =>
      have e := KX _ o hk
      rw [hoS] at e
      cases e
      exact .inr ⟨_, eD, eP, hk, hdS⟩
  have ok : HOk P w H z.heap := fun b u q => by
    rcases what b u q with ⟨rfl, _, rfl⟩ | ⟨rfl, _, rfl⟩
    · exact ⟨ha, by rw [List.length_map]; exact hl, vs, _, rv, ha⟩
    · exact ⟨hoS, oS, hoS⟩
  have hM : Mod K mg (hidT z.heap H) := ⟨hKb, nsK nA hns, ⟨mb, nsK nB hb, hbb⟩, let ⟨mc, h1, h2⟩ := hlim; ⟨mc, nsK nC h1, h2⟩⟩
  have n0 : ∀ b : Addr, ¬ b ∈ frs [] := fun b q => by cases q
  have e0 : Env0 P w K mg (hidT z.heap H) callerA [] z H :=
    ⟨rfl, hM, fun b o e => of_hidT e, Nat.le_of_eq (hidT_size _ _), trivial, fun b q => absurd q (n0 b), ok, .of_eq hg⟩
  refine codeAny_mono ((F _ hKb (nsK nA hns)).run callerA [] z H ⟨[.ref a], []⟩ [.ref a] [.ref a] _ _ hr rfl e0 (hbind z (.ref a)) (.cons rfl .nil) (hsp H hSy hS)) fun r s' h => ?_
  cases r with
  | error e => exact False.elim h
  | ok fl =>
    cases fl with
    | next => exact False.elim h
    | brk => exact False.elim h
    | cont => exact False.elim h
    | ret u =>
      obtain ⟨v, H', os, bare, un, ok', r', q⟩ := h
      cases (show v = .bl true from q)
      cases (show u = Value.bool true from r')
      refine ⟨rfl, OldK.of_keep fun b o e => ?_, os, bare⟩
      cases q : H b with
      | none => exact un.keep b o e q (n0 b) (by intro z; cases z)
      | some u =>
        obtain ⟨ob, uu, rfl⟩ : ∃ ob uu, u = .frz ob uu := by
          rcases what b u q with ⟨_, _, rfl⟩ | ⟨_, _, rfl⟩
          · exact ⟨_, _, rfl⟩
          · exact ⟨_, _, rfl⟩
        obtain ⟨e1, _⟩ := ok b _ q
        obtain ⟨e2, _⟩ := ok' b _ (un.frzs b ob _ q)
        rw [e] at e1
        cases e1
        exact e2
theorem walk_G {l : PySem.W.OpenLaw} {n k : Nat} {q : Program} {loose : List Str} {XP : (Str → Option Value) → Heap → Prop} {YP : World → Heap → Prop} {d : DefRec}
    {K : Params → PySem.W.Frag} {sp : PySem.W.Frag → Sp} {x : Str} (hi : importsNone q = true) (hn : l.most = some n) (hn2 : n ≤ sizeLine) (hdf : d.params.defaults = []) (hr : Room k callerA)
    (hY : ∀ (w : World) (h : Heap), YP w h → (K w.params).In h)
    (F : ∀ (w : World) (mg : Str → Option Value) (fa : Addr) (h : Heap), (K w.params).In h → h.Ns mainGlobals mg → mg d.name = some (.ref fa) →
      ∃ fd : FuncData, (∀ (s : Shared) (u : Value), BindsTo s fd ⟨[u], []⟩ [(x, u)]) ∧
        ∀ base : Heap, (K w.params).In base → base.Ns mainGlobals mg → FnG l.prog w (K w.params) mg base CX0 k fa fd [x] (sp (K w.params)))
    (hsp : ∀ (K : PySem.W.Frag) (H : Hp) (a : Addr) (ns : List Int), ns.length ≤ n → Sys K H → SqL K H a (ns.map V.int) →
      sp K [.ref a] H (fun v _ => v = .bl true) fun _ _ _ => False) :
    PySem.W.WalkO q loose XP YP l.row.toRowW d [] (fun f vs => PySem.call f vs) := by
  refine Att.attach_call hn hdf fun w s₀ s₁ mg mb fa o pm cd doc a vs ns G Y ho hd hcd hmg hobj hints hlen hg => ?_
  obtain ⟨fd, hb, hF⟩ := F w mg fa _ (hY w _ Y) G.T.g hmg
  exact law_runG (hY w _ Y) G.T.g G.T.b G.T.builtins G.T.nolimit hg (let ⟨mm, h, _⟩ := (G.T.seer hi).mods; ⟨mm, h⟩) hobj hints (Nat.le_trans hlen hn2) hr hF hb fun H hO hS => hsp _ H a ns hlen hO hS
end Og
namespace Og
open PySem PySem.Spec PyProof.Rows L2

/-! ### an exception that is held as a value -/
/-- at a: an exception of the class cls, its own dict d; nothing more is said of it -/
def exq (a : Addr) (cls : Value) (d : Option Addr) : HO := .ext fun h => ∃ (oe : Obj) (vs : Array Value), h.get? a = some oe ∧ Zc cls d oe ∧ oe.data = .fields vs
theorem exq_ok {P : Program} {w : World} {H : Hp} {h : Heap} {a : Addr} {cls : Value} {d : Option Addr} {oe : Obj} {vs : Array Value} (he : h.get? a = some oe) (hz : Zc cls d oe) (hd : oe.data = .fields vs) :
    ObjOk P w H h a (exq a cls d) :=
  ⟨⟨oe, vs, he, hz, hd⟩, ⟨oe, he⟩, fun h1 h2 z k => by
    obtain ⟨o1, v1, e1, z1, d1⟩ := z
    exact ⟨o1, v1, k _ e1, z1, d1⟩⟩
theorem exq_at {P : Program} {w : World} {H : Hp} {h : Heap} {a : Addr} {cls : Value} {d : Option Addr} (ok : HOk P w H h) (e : H a = some (exq a cls d)) :
    ∃ (oe : Obj) (vs : Array Value), h.get? a = some oe ∧ Zc cls d oe ∧ oe.data = .fields vs := by
  have x : ObjOk P w H h a (.ext fun h => ∃ (oe : Obj) (vs : Array Value), h.get? a = some oe ∧ Zc cls d oe ∧ oe.data = .fields vs) := ok a _ e
  exact x.1
/-- what the written part says of the class, so that isinstance and a field are asked rightly -/
structure ExC (K : PySem.W.Frag) (D : Addr) : Prop where
  ga : PySem.W.findIn K (.ref D) "__getattribute__" = some (some (.builtin "BaseException.__getattribute__"))
  gg : PySem.W.findIn K (.ref D) "__getattr__" = some none
  exC : PySem.W.subIn K (.ref D) (.type "BaseException") = some true
  hdC : PySem.W.hasDictIn K D = true
  ha : PySem.W.findIn K (.ref D) "__class__" = some (some (.builtin "object.__class__"))
  hn : PySem.W.specialIn K (.builtin "object.__class__") "__get__" = some (some (.builtin "getset_descriptor.__get__"))
  ht : PySem.W.takesIn K (.builtin "object.__class__") = some true
  hm : PySem.W.mroIn K D (.type "object") = some true
theorem ExC.cl {K : PySem.W.Frag} {D : Addr} (T : ExC K D) : (PySem.W.clsIn K D).isSome = true := by
  obtain ⟨cd, hc, _⟩ := PySem.W.any_some T.hdC
  rw [hc]
  rfl
/-- it stands so at a: class D, its own dict (if any) with its fields -/
def Xat (H : Hp) (a D : Addr) (fs : List (Str × V)) : Prop :=
  (H a = some (exq a (.ref D) none) ∧ fs = []) ∨ ∃ dd, H a = some (exq a (.ref D) (some dd)) ∧ H dd = some (.xd fs)
section
variable {X : Cx} {pins : List (Addr × Obj)} {σ : L2.St} {H : Hp} {s : Shared}
theorem Xat.inst {a D : Addr} {fs : List (Str × V)} (I : Inv X pins σ H s) (h : Xat H a D fs) : ∃ oe od, PySem.W.InstAt s.heap a oe D od := by
  rcases h with ⟨e, _⟩ | ⟨dd, e, e2⟩
  · obtain ⟨oe, vs, h1, hz, hd⟩ := exq_at I.hok e
    exact ⟨oe, none, h1, hz.1, by unfold PySem.W.notCls; rw [hd] <;> rfl, by rw [hz.2]; exact True.intro⟩
  · obtain ⟨oe, vs, h1, hz, hd⟩ := exq_at I.hok e
    have hx : ObjOk X.prog X.w H s.heap dd (.xd fs) := I.hok dd _ e2
    obtain ⟨mA, hns, hr⟩ := hx
    obtain ⟨od, ho, hl⟩ := lookIn_ns hns
    exact ⟨oe, some od, h1, hz.1, by unfold PySem.W.notCls; rw [hd] <;> rfl, by rw [hz.2]; exact ho⟩
/-- isinstance(e, C), isinstance(e, (C, ..)) of a held exception -/
def rIsQ (K : PySem.W.Frag) : List V → Hp → VK → Prop := fun xs H Q => ∃ (a D : Addr) (fs : List (Str × V)) (c : V) (u : Value) (b : Bool), xs = [.ref a, c] ∧ Xat H a D fs ∧ ExC K D ∧ ClsV c u ∧ PySem.W.kitOne K (.ref D) u = some b ∧ Q (.bl b) H
theorem call_isQ {K : PySem.W.Frag} (hK : X.K = K) : CallR X (.builtin "isinstance") (rIsQ K) := by
  subst hK
  intro pins s σ H xs us Q I r h
  obtain ⟨a, D, fs, c, u, b, rfl, hx, T, k, e, q⟩ := h
  obtain ⟨u1, u2, rfl, r1, r2⟩ := vals2 r
  cases (show u1 = Value.ref a from r1)
  have e2 := k.eq r2
  subst e2
  obtain ⟨oe, od, J⟩ := hx.inst I
  exact PySem.W.kia_one (PySem.W.kitx_exc T.cl T.ga T.gg T.exC T.ha T.hn T.ht T.hm) I.kIn J e (fun z => nomatch z) fun tk => ⟨.bl b, H, I.tok tk, rfl, q⟩
def rIsQT (K : PySem.W.Frag) : List V → Hp → VK → Prop := fun xs H Q => ∃ (a D tp : Addr) (fs : List (Str × V)) (cs : List V) (us : List Value) (b : Bool), xs = [.ref a, .ref tp] ∧ Xat H a D fs ∧ ExC K D ∧ H tp = some (.tup cs) ∧ Paired ClsV cs us ∧ PySem.W.kitAny K (.ref D) us = some b ∧ Q (.bl b) H
theorem call_isQT {K : PySem.W.Frag} (hK : X.K = K) : CallR X (.builtin "isinstance") (rIsQT K) := by
  subst hK
  intro pins s σ H xs us Q I r h
  obtain ⟨a, D, tp, fs, cs, ws, b, rfl, hx, T, hT, k, e, q⟩ := h
  obtain ⟨u1, u2, rfl, r1, r2⟩ := vals2 r
  cases (show u1 = Value.ref a from r1)
  cases (show u2 = Value.ref tp from r2)
  obtain ⟨oe, od, J⟩ := hx.inst I
  obtain ⟨_, its, rv, o, h1, h2, n, h3⟩ := (show ObjOk X.prog X.w H s.heap tp (.tup cs) from I.hok tp _ hT)
  have e3 := ClsV.all k rv
  subst e3
  obtain ⟨oc, odd, dt, sl⟩ := o
  simp only at h2 h3
  subst h2 h3
  exact PySem.W.kia_tup (PySem.W.kitx_exc T.cl T.ga T.gg T.exC T.ha T.hn T.ht T.hm) I.kIn J h1 e (fun z => nomatch z) fun tk => ⟨.bl b, H, I.tok tk, rfl, q⟩
/-- e.f of a held exception -/
def tXq (K : PySem.W.Frag) (n : Str) (te : TE) : TE := fun σ H Q => te σ H fun x H1 => ∃ (a C dd : Addr) (fs : List (Str × V)) (v : V), x = .ref a ∧ H1 a = some (exq a (.ref C) (some dd)) ∧ H1 dd = some (.xd fs) ∧ ExC K C ∧
  PySem.W.findIn K (.ref C) n = some none ∧ fs.lookup n = some v ∧ Q v H1
theorem pe_xq {K : PySem.W.Frag} {e : Expr} {te : TE} {pos : Pos} {n : Str} (hK : X.K = K) (he : PE X e te) (hb : attributeBase e n X.env (eval e X.env) = eval e X.env := by rfl) : PE X (.Attribute e n pos) (tXq K n te) := by
  subst hK
  refine ⟨fun pins s σ H Q I h => ?_⟩
  refine attr_of hb (thn (he.run pins s σ H _ I h) fun u s1 hh => ?_)
  obtain ⟨x, H1, I1, rx, a, C, dd, fs, v, ex, ea, ed, T, hno, l, q⟩ := hh
  subst ex
  obtain rfl : u = Value.ref a := rx
  obtain ⟨oe, vs, ha, hz, hd⟩ := exq_at I1.hok ea
  have hx : ObjOk X.prog X.w H1 s1.heap dd (.xd fs) := I1.hok dd _ ed
  obtain ⟨mA, hns, hr⟩ := hx
  obtain ⟨od, ho, hl⟩ := lookIn_ns hns
  obtain ⟨u, hu, ru⟩ := RelO.some_of (v := v) (o := mA n) (by rw [← l]; exact hr n)
  have J : PySem.W.InstAt s1.heap a oe C (some od) := ⟨ha, hz.1, by unfold PySem.W.notCls; rw [hd] <;> rfl, by rw [hz.2]; exact ho⟩
  exact HandSPX.exc_get I1.kIn J T.ga T.gg T.exC (PySem.W.findObj_own T.hdC hno rfl (by rw [hl, hu])) (handed_of ru) ⟨v, H1, I1.tok _, ru, q⟩
/-- an exception that came in is tracked from now on -/
theorem Inv.track {a : Addr} {oe : Obj} {vs : Array Value} {cls : Value} {d : Option Addr} (I : Inv X pins σ H s) (ha : s.heap.get? a = some oe) (hz : Zc cls d oe) (hd : oe.data = .fields vs)
    (na : H a = none) (nL : a ≠ X.env.locals) (n0 : X.s_0.heap.get? a = none) (np : ∀ p ∈ X.pn ++ pins, p.1 ≠ a) : Inv X pins σ (upd H a (exq a cls d)) s := by
  have nb : ∀ b o, X.s_0.heap.get? b = some o → b ≠ a := fun b o e z => by
    rw [z, n0] at e
    cases e
  refine ⟨I.ok, I.os, I.bare, ⟨fun b o e n hb hx => I.base.keep b o e n hb hx, fun b o e n hb hx => I.base.slot b o e n hb hx, fun b o e n hx => ?_, I.base.there, fun b xs e => ?_, fun b o u e => ?_, fun b ps e => ?_⟩,
    I.loc, I.cell, ?_, fun x c e => ?_, fun p hp => ?_, fun b o e => ?_, I.len⟩
  · rw [upd_ne (nb b o e)]
    exact I.base.free b o e n hx
  · rw [upd_ne (ne_of_none (I.base.tups b xs e) na)]
    exact I.base.tups b xs e
  · rw [upd_ne (ne_of_none (I.base.frzs b o u e) na)]
    exact I.base.frzs b o u e
  · obtain ⟨m, q⟩ := I.base.tbls b ps e
    exact ⟨m, by rw [upd_ne (ne_of_none q na)]; exact q⟩
  · rw [upd_ne (Ne.symm nL)]
    exact I.free
  · obtain ⟨v, o, ho, hc⟩ := I.cell x c e
    have : c ≠ a := fun z => by
      rw [z, ha] at ho
      cases ho
      rw [hd] at hc
      cases hc
    rw [upd_ne this]
    exact I.freeC x c e
  · obtain ⟨e, n, r⟩ := I.pin p hp
    exact ⟨e, by rw [upd_ne (np p hp)]; exact n, r⟩
  · by_cases hb : b = a
    · subst hb
      rw [upd_same] at e
      cases e
      exact exq_ok ha hz hd
    · rw [upd_ne hb] at e
      exact (I.hok b o e).stay (fun c v _ q => q) (fun c q => by rw [upd_ne (ne_of_none q na)]; exact q) fun c xs q => by rw [upd_ne (ne_of_none q na)]; exact q
end
/-- what the clause 'except x as n' wishes: the exception is tracked, also behind the suite -/
def wK (K : PySem.W.Frag) (c : Value) (i : Nat) (ts : Addr → TS) (Wout : WX) (D : Ends) : WX := fun cls d σ H =>
  ∃ b, PySem.W.exmOne K cls c = some b ∧ (b = true → ∀ a, H a = none →
    ts a { nx := fun σ' H' => D.nx (σ'.set i none) H', rt := D.rt, bk := fun σ' H' => D.bk (σ'.set i none) H', ct := fun σ' H' => D.ct (σ'.set i none) H' } (σ.set i (some (.ref a))) (upd H a (exq a cls d))) ∧
    (b = false → Wout cls d σ H)
section
variable {X : Cx} {x n : Str} {c : Value} {i : Nat} {body suite : List Stmt} {b₀ : Stmt} {np pos pos' : Pos} {tb : WX → TS} {ts : Addr → TS} {Wout : WX}
theorem ps_tryK (hs : X.stack = X.env :: X.outer) (hf : X.env.frame = some X.env.locals) (hex : X.ex = []) (hN : X.N.Nodup) (hi : X.N[i]? = some n) (hln : X.env.kindOf n = some .local) (hc : Names X x c) (tk : Takes X Wout)
    (hb : ∀ (W : WX) (pn : List (Addr × Obj)) (xe : Value → Shared → Prop), Takes (X.tr pn xe) W → PassesOwn (model X.prog X.w) X.A X.env xe → PSs (X.tr pn xe) body (tb W))
    (hsu : ∀ (a : Addr) (pn : List (Addr × Obj)), PSs (X.suite a pn) (b₀ :: suite) (ts a)) :
    PS X (.Try body [.ExceptHandler (some (.Name x np)) (some n) (b₀ :: suite) pos'] [] [] pos) (fun D σ H => tb (wK X.K c i ts Wout D) D σ H) := by
  refine ⟨fun pins s σ H D I h => ?_⟩
  have ok := I.ok
  have hfr : X.A.frames = some (X.env :: X.outer) := by rw [ok.frames, hs]
  have hloc : Loc X.env.scope n := .inl hln
  refine wpAny_Try_except ?_
  refine wpAny_mono ((hb (wK X.K c i ts Wout D) (X.pn ++ pins) (fun e s₁ => wpAny (model X.prog X.w) X.A (noteFrame e X.env) (fun _ s₂ => wpAny (model X.prog X.w) X.A (setFlight e none) (fun _ s₃ =>
    wpAny (model X.prog X.w) X.A (handleBy e X.env [.ExceptHandler (some (.Name x np)) (some n) (b₀ :: suite) pos']) (SP X pins D) X.xe s₃) X.xe s₂) X.xe s₁) (fun u s' xx => ?_) PassesOwn.looking).run [] s σ H D (I.toTry _) h) (fun f s1 hsp => ?_) (fun e s1 he => he)
  · obtain ⟨a, B, sI, pins', σ', H', cls, d, rfl, J', nb, up, sky, na, os, ag, b, hb1, hyes, hno⟩ := xx
    have J : Inv X pins σ' H' sI := J'.ofTry ok
    have sky' : Sky B (X.env :: X.outer) a (Zc cls d) X.env.locals s'.heap := by rw [← hs]; exact sky
    show wpAny (model X.prog X.w) X.A (noteFrame (.ref a) X.env) _ _ _
    refine Sky.land Zc.steady hfr hf sky' fun h3 fl3 up3 => ?_
    have J3 : Inv X pins σ' H' { s' with heap := h3 } := J.landed nb fl3.1 (up.trans up3) os ag
    obtain ⟨oe3, vs3, he3, hz3, hd3⟩ := fl3.there
    have nfr : a ∉ frs (X.env :: X.outer) := fun hm => by
      obtain ⟨_, o', e', hnf⟩ := fl3.2.2.1.mem hm
      rw [he3] at e'
      cases e'
      exact hnf _ hd3
    have nL : a ≠ X.env.locals := fun z => nfr (List.mem_filterMap.mpr ⟨X.env, List.mem_cons_self, by rw [hf, z]⟩)
    have nF : a ∉ X.fs := fun hm => by
      obtain ⟨e, he, q⟩ := List.mem_filterMap.mp hm
      exact nfr (List.mem_filterMap.mpr ⟨e, List.mem_cons_of_mem _ he, q⟩)
    have nI : sI.heap.get? a = none := by
      cases q : sI.heap.get? a with
      | none => rfl
      | some o =>
        have z := nb a o q (by rw [hs]; exact nfr)
        rw [fl3.2.1] at z
        cases z
    have n0 : X.s_0.heap.get? a = none := by
      cases q : X.s_0.heap.get? a with
      | none => rfl
      | some o =>
        obtain ⟨o', z⟩ := J.base.there a o q (by rw [hex]; exact List.not_mem_nil)
        rw [nI] at z
        cases z
    have npn : ∀ p ∈ X.pn ++ pins, p.1 ≠ a := fun p hp z => by
      have e := (J.pin p hp).1
      rw [z, nI] at e
      cases e
    have S3 := J3.suite he3 hd3 na nL nF
    refine wpAny_handleBy_cons (codeAny_handlers_test ?_) (by intro q; cases q)
    have LT : PySem.W.Looks (model X.prog X.w) h3 (typeOf (.ref a)) cls := fun A Q E s k q => wpAny_typeOf_ref (k _ _ he3) (by rw [hz3.1]; exact q)
    have LM := PySem.W.exm_one (M := model X.prog X.w) (J3.kIn) LT hb1
    have test : ∀ {Q : Value → Shared → Prop} {E : Value → Shared → Prop}, Q c { s' with heap := h3 } → wpAny (model X.prog X.w) (X.A.mark (some (.ref a))) (eval (.Name x np) X.env) Q E { s' with heap := h3 } := fun {Q E} q => by
      obtain ⟨hg, hdbg, hm | ⟨hm, hv, hnn⟩⟩ := hc
      · exact ld_glob (X := X.suite a ((a, oe3) :: (X.pn ++ pins))) S3 hg hm q hdbg
      · exact ld_blt (X := X.suite a ((a, oe3) :: (X.pn ++ pins))) S3 hg hm hv q hnn hdbg
    refine test (LM.here ?_)
    cases b with
    | true =>
      refine codeAny_handlers_suite_as ?_
      refine HandSPX.lands_againZ fl3 fun h4 fl4 up4 => ?_
      have J4 : Inv X pins σ' H' { s' with heap := h4 } := J.landed nb fl4.1 ((up.trans up3).trans up4) os ag
      obtain ⟨oe4, vs4, he4, hz4, hd4⟩ := fl4.there
      have T4 := Og.Inv.track J4 he4 hz4 hd4 na nL n0 npn
      have S4 : Inv (X.suite a (X.pn ++ pins)) [] σ' (upd H' a (exq a cls d)) { s' with heap := h4 } :=
        ⟨T4.ok.suite _ _, T4.os, T4.bare, T4.base, T4.loc, T4.cell, T4.free, T4.freeC, fun p hp => T4.pin p (by rw [List.append_nil] at hp; exact hp), T4.hok, T4.len⟩
      refine store_ok (X := X.suite a (X.pn ++ pins)) (v := .ref a) S4 hN hi hloc rfl (fun s5 S5 => ?_) (.inr hln)
      refine wpAny_mono ((hsu a (X.pn ++ pins)).run [] s5 _ _ _ S5 (hyes rfl a na)) (fun f s6 hsp => ?_) (fun _ _ z => False.elim z)
      have back : ∀ {σ6 : L2.St} {H6 : Hp}, Inv (X.suite a (X.pn ++ pins)) [] σ6 H6 s6 → Inv X pins σ6 H6 s6 := fun {σ6 H6} S =>
        ⟨ok, S.os, S.bare, S.base, S.loc, S.cell, S.free, S.freeC, fun p hp => S.pin p (List.mem_append_left _ hp), S.hok, S.len⟩
      have end_ : ∀ {σ6 : L2.St} {H6 : Hp} {Q : Shared → Prop}, Inv (X.suite a (X.pn ++ pins)) [] σ6 H6 s6 → (∀ s7, Inv X pins (σ6.set i none) H6 s7 → Q s7) →
          wpAny (model X.prog X.w) X.A (do bindName X.env n .none; unbindBehindTheSuite X.env n pos') (fun _ s7 => Q s7) X.xe s6 := fun {σ6 H6 Q} S6 hq => gone_ok (back S6) hN hi hln hq
      cases f with
      | next =>
        obtain ⟨σ6, H6, S6, q6⟩ := hsp
        exact end_ S6 fun s7 J7 => ⟨_, _, J7, q6⟩
      | brk =>
        obtain ⟨σ6, H6, S6, q6⟩ := hsp
        exact end_ S6 fun s7 J7 => ⟨_, _, J7, q6⟩
      | cont =>
        obtain ⟨σ6, H6, S6, q6⟩ := hsp
        exact end_ S6 fun s7 J7 => ⟨_, _, J7, q6⟩
      | ret u =>
        obtain ⟨v6, σ6, H6, S6, r6, q6⟩ := hsp
        exact end_ S6 fun s7 J7 => ⟨_, _, _, J7, r6, q6⟩
    | false =>
      show wpAny _ X.A (handleBy (.ref a) X.env []) _ _ _
      refine wpAny_handleBy_nil ?_
      obtain ⟨k1, k2, k3, oe, vs, T, oT, ts', he, hz, hd, h1, hr⟩ := id fl3
      unfold PySem.passOn
      refine wpAny_bind (wpAny_field he hd h1 ?_)
      rw [if_neg (show ¬ ((Value.ref T == Value.none) = true) from by simp)]
      have fin : wpAny (model X.prog X.w) X.A (setFlight (.ref a) X.env.frame) (fun _ s4 => wpAny (model X.prog X.w) X.A (throw (.ref a) : Sem Flow) (SP X pins D) X.xe s4) X.xe { s' with heap := h3 } := by
        rw [hf]
        refine HandSPX.setFlight_upZ fl3 fun h4 hh4 up4 => wpAny_throw (tk _ _ ?_)
        exact ⟨a, B, sI, pins, σ', H', cls, d, rfl, J, nb, (up.trans up3).trans up4, .inr (.inr (by rw [hs]; exact hh4)), na, os, ag, hno rfl⟩
      first
        | exact wpAny_bind (wpAny_pure (wpAny_bind fin))
        | exact wpAny_bind fin
  · cases f with
    | next =>
      obtain ⟨σ', H', J', q⟩ := hsp
      exact wpAny_execs_nil ⟨σ', H', J'.ofTry ok, q⟩
    | brk =>
      obtain ⟨σ', H', J', q⟩ := hsp
      exact ⟨σ', H', J'.ofTry ok, q⟩
    | cont =>
      obtain ⟨σ', H', J', q⟩ := hsp
      exact ⟨σ', H', J'.ofTry ok, q⟩
    | ret u =>
      obtain ⟨v, σ', H', J', r, q⟩ := hsp
      exact ⟨v, σ', H', J'.ofTry ok, r, q⟩
end

/-! ### defs that raise -/
section
variable {P : Program} {w : World} {K : PySem.W.Frag} {mg : Str → Option Value} {base : Heap} {x qual : Str} {params : Arguments} {body : List Stmt} {scope : Scope}
  {dvs : List V} {kws : List (Str × V)} {f : Addr} {fd : FuncData} {ps : List Str}
theorem okGX {N : List Str} {k : Nat} {sp : Sp} (F : FunD K x qual params body scope dvs kws f fd)
    (S : FnScope N ps scope) (len : ∀ vs H Q E, sp vs H Q E → vs.length = ps.length)
    (hb : ∀ (cdv : Value) (A : Around) (outer : List Env) (s : Shared) (H : Hp) (vs : List V) (Q : VK) (E : XK),
      Room k (A.deeper (envOfC qual scope s.heap.objs.size f cdv)) →
      (A.deeper (envOfC qual scope s.heap.objs.size f cdv)).guards = some [] → sp vs H Q E →
      ∃ t, PSs (cxOf (L2.CX P w) P w K mg base N qual scope f cdv A outer s H E) body t ∧
        t { nx := fun _ H' => Q .non H', rt := Q } (start N vs) H) : FnG P w K mg base (L2.CX P w) (k + 1) f fd ps sp := by
  obtain ⟨oc, od, dV, kV, doc, pm, an, cdv, ct, osl, rfl, lk, hcd, _, _⟩ := F.ex
  exact fnG lk hcd S len fun A outer s H vs Q E hr hg hsp => hb cdv A outer s H vs Q E hr hg hsp
/-- a def that lets nothing out is one that may raise -/
theorem FnG.toX {k : Nat} {sp : Sp} (G : FnG P w K mg base CX0 k f fd ps sp) : FnG P w K mg base (L2.CX P w) k f fd ps sp :=
  ⟨G.len, fun A o s H a us vs Q E hr hg e b v h => codeAny_mono (G.run A o s H a us vs Q E hr hg e b v h) fun r s' q => by
    cases r with
    | error e => exact False.elim q
    | ok fl => cases fl <;> exact q⟩
end
def tGS (n m : Nat) (sp : Sp) (gV : List V → List V → List V) (E : L2.St → XK) (t tk : TA) : TE :=
  fun σ H Q => t σ H fun vs H1 => tk σ H1 fun zs H2 => vs.length = n ∧ zs.length = m ∧ sp (gV vs zs) H2 Q (E σ)
section
variable {X : Cx} {CX : CXT} {j k n : Nat} {ks : List Str} {sp : Sp} {E : L2.St → XK} {x : Str} {p pos : Pos} {e : Expr} {es : List Expr} {kws : List Keyword}
  {t tk : TA} {gV : List V → List V → List V}
theorem run_gS {pins : List (Addr × Obj)} {σ : L2.St} {H : Hp} {s : Shared} {Q : VK} {us ws : List Value} {vs zs : List V} {f : Addr} {fd : FuncData}
    {ps : List Str} {g : List Value → List Value → List Value} (F : FnG X.prog X.w X.K X.mg X.base CX k f fd ps sp) (hr : Room k X.A)
    (hg : X.A.guards = some []) (hb : KBn X.K fd ps n ks g gV) (hx : PassesAt CX X σ (E σ)) (I : Inv X pins σ H s) (r : Vals vs us) (rz : Vals zs ws)
    (l1 : vs.length = n) (l2 : zs.length = ks.length) (h : sp (gV vs zs) H Q (E σ)) :
    wpAny (model X.prog X.w) X.A (call (.ref f) us (ks.zip ws)) (EP X pins σ Q) X.xe s := by
  refine wpAny_call (codeAny_mono (F.run X.A X.stack s H ⟨us, ks.zip ws⟩ (g us ws) (gV vs zs) Q (E σ) hr hg I.env0
    (hb.to s us ws I.kIn (r.length.symm.trans l1) (rz.length.symm.trans l2)) (hb.rel r rz) h) fun r s' hq => ?_)
  cases r with
  | error e => exact hx pins H s e s' I hq
  | ok fl =>
    cases fl with
    | ret u => exact I.after hq
    | next => exact False.elim hq
    | brk => exact False.elim hq
    | cont => exact False.elim hq
theorem pe_gS2 (c : CalG X.prog X.w X.K X.mg X.base CX k x sp n ks gV) (hr : Room j X.A) (hkj : k ≤ j) (hgd : X.A.guards = some []) (hx : ∀ σ, PassesAt CX X σ (E σ))
    (hg : Gl X x) (ha : PA X (e :: es) t) (hkw : PK X kws tk)
    (hall : (backToKw pos (keywordEach kws X.env)).all (·.1.isSome) = true := by rfl)
    (hks : (backToKw pos (keywordEach kws X.env)).filterMap (·.1) = ks := by rfl) (hdb : (x == ("__debug__" : Str)) = false := by decide)
    (he : starEach (e :: es) X.env = (false, eval e X.env) :: starEach es X.env := by rfl)
    (hpl : ((backTo pos (starEach (e :: es) X.env)).any (·.1) || (backToKw pos (keywordEach kws X.env)).any (·.1.isNone)) = false := by rfl) :
    PE X (.Call (.Name x p) (e :: es) kws pos) (tGS n ks.length sp gV E t tk) := by
  obtain ⟨f, fd, ps, g, F, hm, hk, hb⟩ := c.ex
  refine ⟨fun pins s σ H Q I h => ?_⟩
  refine wpAny_Call_Name_kw (ld_glob I hg hm ?_ hdb)
  refine PySem.W.callWith_KW (h₀ := X.base) I.ok.mod.kin hk hall (thn (ha.run pos pins s σ H _ I h) fun us s1 ⟨vs, H1, I1, r, q⟩ => ?_) hpl he
  refine thn (hkw.run pos pins s1 σ H1 _ I1 q) fun ws s2 ⟨zs, H2, I2, rz, l1, l2, q2⟩ => ⟨I2.kIn, ?_⟩
  rw [hks]
  exact run_gS F (hr.mono hkj) hgd hb (hx σ) I2 r rz l1 l2 q2
theorem pe_gS3 (c : CalG X.prog X.w X.K X.mg X.base CX k x sp n ks gV) (hr : Room j X.A) (hkj : k ≤ j) (hgd : X.A.guards = some []) (hx : ∀ σ, PassesAt CX X σ (E σ))
    (hg : Gl X x) (hkw : PK X kws tk)
    (hall : (backToKw pos (keywordEach kws X.env)).all (·.1.isSome) = true := by rfl)
    (hks : (backToKw pos (keywordEach kws X.env)).filterMap (·.1) = ks := by rfl) (hdb : (x == ("__debug__" : Str)) = false := by decide)
    (hpl : ((backTo pos (starEach [] X.env)).any (·.1) || (backToKw pos (keywordEach kws X.env)).any (·.1.isNone)) = false := by rfl) :
    PE X (.Call (.Name x p) [] kws pos) (tGS n ks.length sp gV E tNil tk) := by
  obtain ⟨f, fd, ps, g, F, hm, hk, hb⟩ := c.ex
  refine ⟨fun pins s σ H Q I h => ?_⟩
  refine wpAny_Call_Name_kw (ld_glob I hg hm ?_ hdb)
  refine PySem.W.callWith_KW0 (h₀ := X.base) I.ok.mod.kin hk hall ?_ hpl
  refine thn (hkw.run pos pins s σ H _ I h) fun ws s2 ⟨zs, H2, I2, rz, l1, l2, q2⟩ => ⟨I2.kIn, ?_⟩
  rw [hks]
  exact run_gS (us := []) (vs := []) F (hr.mono hkj) hgd hb (hx σ) I2 .nil rz l1 l2 q2
theorem pe_gS1 (c : CalG X.prog X.w X.K X.mg X.base CX k x sp n [] gV) (hr : Room j X.A) (hkj : k ≤ j) (hgd : X.A.guards = some []) (hx : ∀ σ, PassesAt CX X σ (E σ))
    (hg : Gl X x) (ha : PA X (e :: es) t) (hdb : (x == ("__debug__" : Str)) = false := by decide)
    (he : starEach (e :: es) X.env = (false, eval e X.env) :: starEach es X.env := by rfl) (hpl : (backTo pos (starEach es X.env)).any (·.1) = false := by rfl) :
    PE X (.Call (.Name x p) (e :: es) [] pos) (tGS n 0 sp gV E t tNil) := by
  obtain ⟨f, fd, ps, g, F, hm, hk, hb⟩ := c.ex
  refine ⟨fun pins s σ H Q I h => ?_⟩
  refine wpAny_Call_Name_kw (ld_glob I hg hm ?_ hdb)
  refine PySem.W.callWith_K (h₀ := X.base) I.ok.mod.kin hk (thn (ha.run pos pins s σ H _ I h) fun us s1 ⟨vs, H1, I1, r, l1, l2, q⟩ => ⟨I1.kIn, ?_⟩) he hpl
  exact run_gS (ws := []) F (hr.mono hkj) hgd hb (hx σ) I1 r .nil l1 l2 q
end
section
variable {σ : L2.St} {H : Hp} {Q : VK}
theorem r_gS {n m : Nat} {sp : Sp} {gV : List V → List V → List V} {E : L2.St → XK} {tr tk : TA}
    (h : tr σ H fun vs H1 => tk σ H1 fun zs H2 => vs.length = n ∧ zs.length = m ∧ sp (gV vs zs) H2 Q (E σ)) : tGS n m sp gV E tr tk σ H Q := h
theorem r_isQ {K : PySem.W.Frag} {a D : Addr} {fs : List (Str × V)} {c : V} {u : Value} {b : Bool} (h : Xat H a D fs) (T : ExC K D) (k : ClsV c u) (e : PySem.W.kitOne K (.ref D) u = some b) (q : Q (.bl b) H) : rIsQ K [.ref a, c] H Q :=
  ⟨a, D, fs, c, u, b, rfl, h, T, k, e, q⟩
end

/-! ### own exceptions made -/
/-- C(..), C's own __init__ walked: where it stands and what has changed -/
theorem oex_run {X : Cx} {pins : List (Addr × Obj)} {σ : L2.St} {H1 : Hp} {s1 : Shared} {CX : CXT} {C fI : Addr} {k : Nat} {fd : FuncData} {ps : List Str} {sp : Sp} {ds : List Value} {dvs vs : List V} {us : List Value}
    (T : OexC X.K C) (iC : PySem.W.findIn X.K (.ref C) "__init__" = some (some (.ref fI))) (tI : PySem.W.typeIn X.K (.ref fI) = some (.type "function"))
    (F1 : FnOk X.prog X.w X.K X.mg X.base CX k fI fd ps sp) (hr : Room (k + 1) X.A) (hb : Binds X.K fd ps ds) (hd : Vals dvs ds) (hx : Passes CX X (fun _ _ _ => False))
    (I1 : Inv X pins σ H1 s1) (r1 : Vals vs us) (hz : vs.length ≤ 1000) {R : Addr → Hp → Prop}
    (q : ∀ a, H1 a = none → sp (.ref a :: (vs ++ dvs)) (upd H1 a (exo a C none)) (fun v H2 => v = .non ∧ R a H2) (fun _ _ _ => False)) :
    wpAny (model X.prog X.w) X.A (call (.ref C) us) (fun u s' => ∃ (a : Addr) (H2 : Hp) (hp2 : Heap), u = .ref a ∧ s1.heap.objs.size ≤ a ∧ (∀ b o, s1.heap.get? b = some o → hp2.get? b = some o) ∧
      Inv X pins σ (upd H1 a (exo a C none)) { s1 with heap := hp2 } ∧
      Un (frs X.stack) [] (upd H1 a (exo a C none)) H2 hp2 s'.heap ∧ HOk X.prog X.w H2 s'.heap ∧ s'.os = s1.os ∧ AllBare s'.gens ∧ R a H2) X.xe s1 := by
  obtain ⟨nm, qn, N, bs, bm, sn, sub, ab, col, dd, k0, k1, k2, k3, k5, hC, hbm⟩ := T.cls
  obtain ⟨hp, g, dr, tk, os⟩ := s1
  have hsz : hp.objs.size ≤ hp.objs.size + 1 := Nat.le_succ _
  have hq := q (hp.objs.size + 1) (I1.hok.fresh hsz)
  have kk : ∀ b o, hp.get? b = some o → ((hp.push (PySem.W.kdv_tup us)).push (PySem.HandSPX.excO C hp.objs.size)).get? b = some o := fun b o e => Heap.get?_push_of_some _ (Heap.get?_push_of_some _ e)
  have hget : ((hp.push (PySem.W.kdv_tup us)).push (PySem.HandSPX.excO C hp.objs.size)).get? (hp.objs.size + 1) = some (PySem.HandSPX.excO C hp.objs.size) := by heap_get
  have I2 := I1.laid (t' := tk) (a := hp.objs.size + 1) (o := exo (hp.objs.size + 1) C none) (h' := (hp.push (PySem.W.kdv_tup us)).push (PySem.HandSPX.excO C hp.objs.size)) kk hsz (exo_ok hget)
  have r2 : Vals (V.ref (hp.objs.size + 1) :: (vs ++ dvs)) (Value.ref (hp.objs.size + 1) :: (us ++ ds)) := .cons rfl (r1.append hd)
  have hl : (Value.ref (hp.objs.size + 1) :: us ++ ds).length = ps.length := by
    have e := r2.length
    rw [F1.len _ _ _ _ hq] at e
    exact e.symm
  have hus : us.length ≤ sizeLine := by
    rw [← Paired.length r1, sizeLine_eq]
    omega
  refine wpAny_call (PySem.HandSPX.call_own F.excBase_ValueError (fun Y => PySem.HandSPX.refsVE_contains Y bm hbm) (I1.kIn _ _ hC) (PySem.W.looks_findIn I1.kIn iC) (fun self => PySem.W.bind_fn I1.kIn self tI) hus
    (codeAny_mono (F1.run _ X.stack _ _ ⟨Value.ref (hp.objs.size + 1) :: us, []⟩ (Value.ref (hp.objs.size + 1) :: (us ++ ds)) _ _ (fun _ _ _ => False) (hr.make C us []) (I2.env0.make C us []) (hb _ (Value.ref (hp.objs.size + 1) :: us) I2.kIn hl) r2 hq) fun r s' hq' => ?_))
  cases r with
  | error er => exact hx pins σ _ _ er s' I2 hq'
  | ok fl =>
    cases fl with
    | ret u =>
      obtain ⟨v, H2, os2, bare2, un2, hok2, rv, ev, q2⟩ := hq'
      subst ev
      exact ⟨rv, _, H2, _, rfl, hsz, kk, I2, un2, hok2, os2, bare2, q2⟩
    | next => exact False.elim hq'
    | brk => exact False.elim hq'
    | cont => exact False.elim hq'
section
variable {X : Cx} {CX : CXT} {x : Str} {C fI : Addr} {k : Nat} {fd : FuncData} {ps : List Str} {sp : Sp} {ds : List Value} {dvs : List V} {p pos : Pos} {e : Expr} {es : List Expr} {ta : TA}
/-- raise C(e, ..), raise C() -/
theorem pmk_o1 (T : OexC X.K C) (iC : PySem.W.findIn X.K (.ref C) "__init__" = some (some (.ref fI))) (tI : PySem.W.typeIn X.K (.ref fI) = some (.type "function"))
    (F1 : FnOk X.prog X.w X.K X.mg X.base CX0 k fI fd ps sp) (hr : Room (k + 1) X.A) (hb : Binds X.K fd ps ds) (hd : Vals dvs ds) (hg : Gl X x) (hm : X.mg x = some (.ref C)) (ha : PA X (e :: es) ta)
    (hdb : (x == ("__debug__" : Str)) = false := by decide) (he : starEach (e :: es) X.env = (false, eval e X.env) :: starEach es X.env := by rfl) (hpl : (backTo pos (starEach es X.env)).any (·.1) = false := by rfl) :
    PMk X (.Call (.Name x p) (e :: es) [] pos) (tMkO C sp dvs ta) := pmk_oex T iC tI F1 hr hb hd pass0 hg hm ha hdb he hpl
theorem pmk_o0 (T : OexC X.K C) (iC : PySem.W.findIn X.K (.ref C) "__init__" = some (some (.ref fI))) (tI : PySem.W.typeIn X.K (.ref fI) = some (.type "function"))
    (F1 : FnOk X.prog X.w X.K X.mg X.base CX0 k fI fd ps sp) (hr : Room (k + 1) X.A) (hb : Binds X.K fd ps ds) (hd : Vals dvs ds) (hg : Gl X x) (hm : X.mg x = some (.ref C))
    (hdb : (x == ("__debug__" : Str)) = false := by decide) : PMk X (.Call (.Name x p) [] [] pos) (tMkO C sp dvs tNil) := by
  intro pins s σ H Q I h
  refine wpAny_Call_Name_kw (ld_glob I hg hm ?_ hdb)
  obtain ⟨_, h⟩ := h
  refine PySem.W.callWith_K0 I.kIn T.kC ?_
  refine thn (oex_run (vs := []) (us := []) T iC tI F1 hr hb hd pass0 I .nil (Nat.zero_le _) h) ?_
  rintro u s' ⟨a, H2, hp2, rfl, hsz, kk, I2, un, hok, ho, hba, d, fs, ea, ed, hd1, q⟩
  obtain ⟨hp, g, dr, tk, os⟩ := s
  obtain ⟨h2, g2, d2, t2, os'⟩ := s'
  exact mk_end (raises_own T.exC T.tyC) I hsz kk un hok ho hba ea ed hd1 q
/-- B.__init__(self, ..), B an own class over ValueError without __init__ -/
structure BiC (K : PySem.W.Frag) (B : Addr) : Prop where
  sg : PySem.W.specialIn K (.ref B) "__getattribute__" = some (some (.builtin "type.__getattribute__"))
  ty : PySem.W.typeIn K (.ref B) = some (.type "type")
  rd : PySem.W.readsIn K B (.type "type") = true
  fv : PySem.W.findCls K (.ref B) (.type "type") "__init__" = some (.val (.builtin "ValueError.__init__"))
theorem pe_binit {pl : Sem Bool} {B : Addr} {p1 p2 : Pos} (hg : Gl X x) (hm : X.mg x = some (.ref B)) (T : BiC X.K B) (ha : PA X (e :: es) ta)
    (hc : eval (.Call (.Attribute (.Name x p1) "__init__" p2) (e :: es) [] pos) X.env = (do
      let ov ← eval (.Name x p1) X.env
      standAt p2.atName
      let (f, first) ← holding [ov] (getMethod ov "__init__" pl)
      callWith pos f first (backTo pos (starEach (e :: es) X.env)) (backToKw pos (keywordEach [] X.env))) := by rfl) (hdb : (x == ("__debug__" : Str)) = false := by decide)
    (he : starEach (e :: es) X.env = (false, eval e X.env) :: starEach es X.env := by rfl) (hpl : (backTo pos (starEach es X.env)).any (·.1) = false := by rfl) :
    PE X (.Call (.Attribute (.Name x p1) "__init__" p2) (e :: es) [] pos) (tVeI X.K ta) := by
  refine ⟨fun pins s σ H Q I h => ?_⟩
  refine PySem.W.methodCall_KW (ld_glob I hg hm ?_ hdb) hc
  obtain ⟨m, fr⟩ := I.fr
  refine PySem.W.method_of_cls fr I.ok.mod.kin T.sg (PySem.W.cls_val fr I.ok.mod.kin T.ty T.rd T.fv rfl ?_)
  show wpAny _ _ (callWith pos (Value.builtin "ValueError.__init__") [] (backTo pos (starEach (e :: es) X.env)) []) _ _ _
  refine PyProof.Rows.callWith_method1 (thn (ha.run pos pins _ σ H _ (I.tok _) h) fun us s1 ⟨vs, H1, I1, r1, a, C, ws, ev, hl, T, ea, q⟩ => ?_) he hpl
  subst ev
  cases r1 with
  | @cons _ u0 _ ur ra rw' =>
    obtain rfl : u0 = Value.ref a := ra
    have hlen : ur.length ≤ sizeLine := by
      rw [← Paired.length rw', sizeLine_eq]
      omega
    exact oinit_ok T I1 ea hlen fun s' J => ⟨.non, H1, J, rfl, q⟩
end
end Og
namespace Og
open PySem PySem.Spec PyProof.Rows L2

/-! ### data that is shown: none, bools, ints, texts, lists, tuples, dicts of any depth -/
def kD : Key → PyData
  | .inl i => .int i
  | .inr x => .str x
mutual
inductive Rp (K : PySem.W.Frag) (H : Hp) : V → PyData → Prop
  | non : Rp K H .non .none
  | bl (b : Bool) : Rp K H (.bl b) (.bool b)
  | int (i : Int) : Rp K H (.int i) (.int i)
  | str (x : Str) : Rp K H (.str x) (.str x)
  | lst {a : Addr} {xs : List V} {ds : List PyData} : SqL K H a xs → RpAll K H xs ds → Rp K H (.ref a) (.list ds)
  | tup {a : Addr} {xs : List V} {ds : List PyData} : SqT K H a xs → RpAll K H xs ds → Rp K H (.ref a) (.tuple ds)
  | dct {a : Addr} {kvs : List (Key × V)} {ds : List PyData} : H a = some (.dK kvs) → RpAll K H (kvs.map Prod.snd) ds → Rp K H (.ref a) (.dict ((kvs.map fun kv => kD kv.1).zip ds))
inductive RpAll (K : PySem.W.Frag) (H : Hp) : List V → List PyData → Prop
  | nil : RpAll K H [] []
  | cons {v : V} {vs : List V} {d : PyData} {ds : List PyData} : Rp K H v d → RpAll K H vs ds → RpAll K H (v :: vs) (d :: ds)
end
section
variable {K : PySem.W.Frag} {H H' : Hp}
theorem sqT_grow {a : Addr} {xs : List V} (e : Same H H') (h : SqT K H a xs) : SqT K H' a xs := by
  rcases h with h | h
  · refine .inl ?_
    rcases h with h | ⟨o, h⟩
    · exact .inl (e _ _ h)
    · exact .inr ⟨o, e _ _ h⟩
  · exact .inr h
theorem Rp.of_dp {v : V} {d : PyData} (h : Dp K H v d) : Rp K H v d :=
  Dp.rec (motive_1 := fun v d _ => Rp K H v d) (motive_2 := fun vs ds _ => RpAll K H vs ds) .non .bl .int .str (fun h _ i => .lst h i) (fun h _ i => .tup h i) .nil (fun _ _ i j => .cons i j) h
theorem RpAll.of_dp {vs : List V} {ds : List PyData} (h : DpAll K H vs ds) : RpAll K H vs ds :=
  DpAll.rec (motive_1 := fun v d _ => Rp K H v d) (motive_2 := fun vs ds _ => RpAll K H vs ds) .non .bl .int .str (fun h _ i => .lst h i) (fun h _ i => .tup h i) .nil (fun _ _ i j => .cons i j) h
theorem Rp.grow {v : V} {d : PyData} (s : Same H H') (h : Rp K H v d) : Rp K H' v d :=
  Rp.rec (motive_1 := fun v d _ => Rp K H' v d) (motive_2 := fun vs ds _ => RpAll K H' vs ds) .non .bl .int .str (fun h _ i => .lst (s.seq h) i) (fun h _ i => .tup (sqT_grow s h) i) (fun h _ i => .dct (s _ _ h) i) .nil (fun _ _ i j => .cons i j) h
theorem RpAll.grow {vs : List V} {ds : List PyData} (s : Same H H') (h : RpAll K H vs ds) : RpAll K H' vs ds :=
  RpAll.rec (motive_1 := fun v d _ => Rp K H' v d) (motive_2 := fun vs ds _ => RpAll K H' vs ds) .non .bl .int .str (fun h _ i => .lst (s.seq h) i) (fun h _ i => .tup (sqT_grow s h) i) (fun h _ i => .dct (s _ _ h) i) .nil (fun _ _ i j => .cons i j) h
theorem Dp.grow {v : V} {d : PyData} (s : Same H H') (h : Dp K H v d) : Dp K H' v d :=
  Dp.rec (motive_1 := fun v d _ => Dp K H' v d) (motive_2 := fun vs ds _ => DpAll K H' vs ds) .non .bl .int .str (fun h _ i => .lst (s.seq h) i) (fun h _ i => .tup (sqT_grow s h) i) .nil (fun _ _ i j => .cons i j) h
theorem DpAll.grow {vs : List V} {ds : List PyData} (s : Same H H') (h : DpAll K H vs ds) : DpAll K H' vs ds :=
  DpAll.rec (motive_1 := fun v d _ => Dp K H' v d) (motive_2 := fun vs ds _ => DpAll K H' vs ds) .non .bl .int .str (fun h _ i => .lst (s.seq h) i) (fun h _ i => .tup (sqT_grow s h) i) .nil (fun _ _ i j => .cons i j) h
theorem RpAll.append {vs ws : List V} {ds es : List PyData} (h : RpAll K H vs ds) (k : RpAll K H ws es) : RpAll K H (vs ++ ws) (ds ++ es) := by
  induction vs generalizing ds with
  | nil => cases h; exact k
  | cons v vs ih => cases h with | cons h1 h2 => exact .cons h1 (ih h2)
theorem RpAll.length {vs : List V} {ds : List PyData} (h : RpAll K H vs ds) : vs.length = ds.length := by
  induction vs generalizing ds with
  | nil => cases h; rfl
  | cons v vs ih => cases h with | cons h1 h2 => exact congrArg (· + 1) (ih h2)
theorem RpAll.take {vs : List V} {ds : List PyData} (n : Nat) (h : RpAll K H vs ds) : RpAll K H (vs.take n) (ds.take n) := by
  induction n generalizing vs ds with
  | zero => exact .nil
  | succ n ih => cases h with | nil => exact .nil | cons h1 h2 => exact .cons h1 (ih h2)
theorem RpAll.drop {vs : List V} {ds : List PyData} (n : Nat) (h : RpAll K H vs ds) : RpAll K H (vs.drop n) (ds.drop n) := by
  induction n generalizing vs ds with
  | zero => exact h
  | succ n ih => cases h with | nil => exact .nil | cons h1 h2 => exact ih h2
end
section
variable {X : Cx} {pins : List (Addr × Obj)} {σ : L2.St} {H : Hp} {s : Shared}
theorem Sys.there (I : Inv X pins σ H s) (h : Sys X.K H) : ∃ o es ep, s.heap.get? sysModules = some o ∧ o.data = .dict es ep := by
  rcases h with ⟨o, es, ep, e, d⟩ | ⟨o, es, ep, e, d⟩
  · exact ⟨o, es, ep, (I.hok _ _ e).1, d⟩
  · exact ⟨o, es, ep, I.kIn _ _ e, d⟩
theorem readsKeys {P : Program} {w : World} {h : Heap} : ∀ {es : List DictEntry} {vs : List (Key × Value)}, Pairs (mixKind P w) es vs → ReadsAll h (es.map (·.key)) (vs.map fun kv => kD kv.1) []
  | [], _, p => by cases p; exact .nil
  | e :: es, _, p => by
    cases p with
    | cons h1 h2 h3 =>
      rename_i kv kvs
      have r := readsKeys (h := h) h3
      rcases keyIs_shape h1 with ⟨i, t, e1, e2⟩ | ⟨x, t, e1, e2⟩
      · show ReadsAll h (e.key :: _) (kD kv.1 :: _) _
        rw [e1, e2]
        exact .cons (as := []) (bs := []) (.int i t) r
      · show ReadsAll h (e.key :: _) (kD kv.1 :: _) _
        rw [e1, e2]
        exact .cons (as := []) (bs := []) (.str x t) r
theorem pairs_vals {P : Program} {w : World} : ∀ {es : List DictEntry} {vs : List (Key × Value)}, Pairs (mixKind P w) es vs → es.map (·.val) = vs.map Prod.snd
  | [], _, p => by cases p; rfl
  | e :: es, _, p => by
    cases p with
    | cons h1 h2 h3 => show e.val :: _ = _ :: _; rw [h2, pairs_vals h3]
theorem kv_keys : ∀ {kvs : List (Key × V)} {vs : List (Key × Value)}, KV kvs vs → (kvs.map fun kv => kD kv.1) = vs.map fun kv => kD kv.1
  | [], _, p => by cases p; rfl
  | e :: es, _, p => by
    cases p with
    | cons h1 h3 => show kD e.1 :: _ = kD _ :: _; rw [h1.1, kv_keys h3]
theorem kv_vals : ∀ {kvs : List (Key × V)} {vs : List (Key × Value)}, KV kvs vs → Vals (kvs.map Prod.snd) (vs.map Prod.snd)
  | [], _, p => by cases p; exact .nil
  | e :: es, _, p => by
    cases p with
    | cons h1 h3 => exact .cons h1.2 (kv_vals h3)
theorem zip_fst {α β : Type} : ∀ (xs : List α) (ys : List β), xs.length = ys.length → (xs.zip ys).map Prod.fst = xs
  | [], [], _ => rfl
  | x :: xs, y :: ys, h => congrArg (x :: ·) (zip_fst xs ys (Nat.succ.inj h))
theorem zip_snd {α β : Type} : ∀ (xs : List α) (ys : List β), xs.length = ys.length → (xs.zip ys).map Prod.snd = ys
  | [], [], _ => rfl
  | x :: xs, y :: ys, h => congrArg (y :: ·) (zip_snd xs ys (Nat.succ.inj h))
theorem Rp.reads (I : Inv X pins σ H s) (S : Sys X.K H) {v : V} {d : PyData} (h : Rp X.K H v d) : ∀ u, RelV v u → ∃ as, Reads s.heap u d as ∧ sysModules ∉ as := by
  obtain ⟨oS, eS, pS, hS, dS⟩ := S.there I
  refine Rp.rec (motive_1 := fun v d _ => ∀ u, RelV v u → ∃ as, Reads s.heap u d as ∧ sysModules ∉ as)
    (motive_2 := fun vs ds _ => ∀ us, Vals vs us → ∃ as, ReadsAll s.heap us ds as ∧ sysModules ∉ as) ?_ ?_ ?_ ?_ ?_ ?_ ?_ ?_ ?_ h
  · intro u r
    cases r
    exact ⟨_, .none, List.not_mem_nil⟩
  · intro b u r
    cases r
    exact ⟨_, .bool b, List.not_mem_nil⟩
  · intro i u r
    obtain ⟨t, rfl⟩ := r
    exact ⟨_, .int i t, List.not_mem_nil⟩
  · intro x u r
    obtain ⟨t, rfl⟩ := r
    exact ⟨_, .str x t, List.not_mem_nil⟩
  · intro a xs ds hs _ ih u r
    cases r
    obtain ⟨its, rv, ⟨o, n, ho, hc, _, hd⟩, _⟩ := I.list hs
    obtain ⟨as, hr, hn⟩ := ih its rv
    refine ⟨_, Reads.list ho hc hd hr, fun m => ?_⟩
    rcases List.mem_cons.mp m with rfl | m
    · rw [hS] at ho
      cases ho
      rw [dS] at hd
      cases hd
    · exact hn m
  · intro a xs ds hs _ ih u r
    cases r
    obtain ⟨its, rv, ⟨o, ho, hc, n, hd⟩, _⟩ := I.tuple hs
    obtain ⟨as, hr, hn⟩ := ih its rv
    exact ⟨_, Reads.tuple ho hc hd hr, hn⟩
  · intro a kvs ds e ha ih u r
    cases r
    obtain ⟨_, hne, vs, rv, o, es, ep, ho, hx, hd, _, hp, _⟩ := (show ObjOk X.prog X.w H s.heap a (.dK kvs) from I.hok a _ e)
    obtain ⟨bs, hb, hn⟩ := ih _ (kv_vals rv)
    have hk := readsKeys (h := s.heap) hp
    have hl : (kvs.map fun kv => kD kv.1).length = ds.length := by
      rw [List.length_map, ← ha.length, List.length_map]
    refine ⟨a :: [] ++ bs, Reads.dict ho hx.1 hd (as := []) (bs := bs) ?_ ?_, fun m => ?_⟩
    · rw [zip_fst _ _ hl, kv_keys rv]
      exact hk
    · rw [zip_snd _ _ hl, pairs_vals hp]
      exact hb
    · rcases List.mem_cons.mp m with rfl | m
      · exact absurd hne (by decide)
      · exact hn m
  · intro us r
    cases r
    exact ⟨_, .nil, List.not_mem_nil⟩
  · intro v vs d ds _ _ i1 i2 us r
    cases r with
    | cons r1 r2 =>
      obtain ⟨as, q1, n1⟩ := i1 _ r1
      obtain ⟨bs, q2, n2⟩ := i2 _ r2
      exact ⟨_, .cons q1 q2, fun m => (List.mem_append.mp m).elim n1 n2⟩
end

/-! ### small data: what it costs to show it -/
/-- n bounds its weight, k its depth -/
structure Sm (n k : Nat) (d : PyData) : Prop where
  sh : d.showable = true
  lv : d.leavesShort 60 = true
  wt : d.weight ≤ n
  dp : d.depth ≤ k
structure SmAll (n k : Nat) (ds : List PyData) : Prop where
  sh : PyData.showableAll ds = true
  lv : PyData.leavesShortAll 60 ds = true
  wt : PyData.weightAll ds ≤ n
  dp : PyData.depthAll ds ≤ k
theorem Sm.non {n k : Nat} : Sm n k .none := ⟨rfl, rfl, Nat.zero_le _, Nat.zero_le _⟩
theorem Sm.bl {n k : Nat} (b : Bool) : Sm n k (.bool b) := ⟨rfl, rfl, Nat.zero_le _, Nat.zero_le _⟩
theorem Sm.int {n k : Nat} {i : Int} (h : i.natAbs < 2 ^ 140) (hn : 140 ≤ n) : Sm n k (.int i) := by
  have h1 : i.natAbs.log2 < 140 := by
    rcases Nat.eq_zero_or_pos i.natAbs with z | z
    · rw [z]
      decide
    · exact (Nat.log2_lt (by omega)).mpr h
  refine ⟨?_, ?_, ?_, Nat.zero_le _⟩
  · show decide (i.natAbs.log2 < 1920) = true
    exact decide_eq_true (by omega)
  · show decide ((PyData.shown (.int i)).length ≤ 60) = true
    refine decide_eq_true ?_
    have h2 := int_text_length_le10 (a := i) (k := 59) (by decide) (Nat.lt_trans h (by decide))
    show (Str.ofString (toString i)).length ≤ 60
    rw [PySem.ofString_length]
    exact h2
  · show (if i == 0 then 0 else i.natAbs.log2 + 1) ≤ n
    split <;> omega
theorem Sm.str {n k : Nat} {x : Str} (h : (x.cps.toList.all fun c => decide (c < 16 ^ 8)) = true) (hn : x.cps.size ≤ n) : Sm n k (.str x) := ⟨rfl, h, hn, Nat.zero_le _⟩
theorem SmAll.nil {n k : Nat} : SmAll n k [] := ⟨rfl, rfl, Nat.zero_le _, Nat.zero_le _⟩
theorem SmAll.cons {m n p k : Nat} {d : PyData} {ds : List PyData} (h : Sm m k d) (g : SmAll n k ds) (e : m + 1 + n ≤ p := by omega) : SmAll p k (d :: ds) :=
  ⟨by show (_ && _) = true; rw [h.sh, g.sh]; rfl, by show (_ && _) = true; rw [h.lv, g.lv]; rfl, by show d.weight + 1 + PyData.weightAll ds ≤ p; have := h.wt; have := g.wt; omega,
    Nat.max_le.mpr ⟨h.dp, g.dp⟩⟩
theorem Sm.list {n k : Nat} {ds : List PyData} (h : SmAll n k ds) : Sm n (k + 1) (.list ds) := ⟨h.sh, h.lv, h.wt, Nat.succ_le_succ h.dp⟩
theorem Sm.tuple {n k : Nat} {ds : List PyData} (h : SmAll n k ds) : Sm n (k + 1) (.tuple ds) := ⟨h.sh, h.lv, h.wt, Nat.succ_le_succ h.dp⟩
theorem Sm.dict0 {n k : Nat} : Sm n (k + 1) (.dict []) := ⟨rfl, rfl, Nat.zero_le _, Nat.succ_le_succ (Nat.zero_le _)⟩
theorem Sm.le {m n k j : Nat} {d : PyData} (h : Sm m k d) (e : m ≤ n) (f : k ≤ j) : Sm n j d := ⟨h.sh, h.lv, Nat.le_trans h.wt e, Nat.le_trans h.dp f⟩
theorem SmAll.le {m n k j : Nat} {d : List PyData} (h : SmAll m k d) (e : m ≤ n) (f : k ≤ j) : SmAll n j d := ⟨h.sh, h.lv, Nat.le_trans h.wt e, Nat.le_trans h.dp f⟩
/-- all alike bounds -/
theorem SmAll.of {m k : Nat} : ∀ {ds : List PyData}, (∀ d ∈ ds, Sm m k d) → SmAll ((m + 1) * ds.length) k ds
  | [], _ => .nil
  | d :: ds, h => SmAll.cons (h d List.mem_cons_self) (SmAll.of fun e he => h e (List.mem_cons_of_mem _ he)) (by rw [List.length_cons, Nat.mul_succ]; omega)
theorem Sm.fits {n k : Nat} {d : PyData} (h : Sm n k d) (hn : n ≤ 200000) : d.shown.length ≤ sizeLine := by
  have e := PyData.shown_le 60 (by decide) d h.lv
  have := h.wt
  rw [sizeLine_eq]
  omega
section
variable {X : Cx}
def rRepr (K : PySem.W.Frag) : List V → Hp → VK → Prop := fun xs H Q => ∃ (v : V) (d : PyData) (n k : Nat), xs = [v] ∧ Rp K H v d ∧ Sys K H ∧ Sm n k d ∧ n ≤ 200000 ∧ k ≤ 64 ∧ Q (.str d.shown) H
theorem call_reprD {j : Nat} (hr : Room j X.A) (hg : X.A.guards = some []) : CallR X (.builtin "repr") (rRepr X.K) := by
  intro pins s σ H xs us Q I r h
  obtain ⟨v, d, n, k, rfl, hv, hS, hs, hn, hk, q⟩ := h
  obtain ⟨u, rfl, r1⟩ := vals1 r
  have hz := hs.fits hn
  obtain ⟨as, rd, hm⟩ := hv.reads I hS u r1
  cases rd with
  | none => exact PySem.P.repr_of_none ⟨.str _, H, I.tok _, ⟨_, rfl⟩, q⟩
  | bool b => exact PySem.P.repr_of_bool ⟨.str _, H, I.tok _, ⟨_, rfl⟩, q⟩
  | int i t => exact PySem.P.repr_of_int (of_decide_eq_true hs.sh) ⟨.str _, H, I.tok _, ⟨_, rfl⟩, q⟩
  | str x t => exact PySem.P.repr_of_str ⟨.str _, H, I.tok _, ⟨_, rfl⟩, q⟩ hz
  | list h1 h2 h3 h4 =>
    exact repr_of_reads' (Reads.list h1 h2 h3 h4) hs.sh (fun _ => hm) hg (by have := hs.dp; have := hr.un; omega) (fun _ _ e => e)
      (fun h' u tk hk => ⟨.str _, H, I.kept hk, ⟨_, rfl⟩, q⟩) hz
  | tuple h1 h2 h3 h4 =>
    exact repr_of_reads' (Reads.tuple h1 h2 h3 h4) hs.sh (fun _ => hm) hg (by have := hs.dp; have := hr.un; omega) (fun _ _ e => e)
      (fun h' u tk hk => ⟨.str _, H, I.kept hk, ⟨_, rfl⟩, q⟩) hz
  | dict h1 h2 h3 h4 h5 =>
    exact repr_of_reads' (Reads.dict h1 h2 h3 h4 h5) hs.sh (fun _ => hm) hg (by have := hs.dp; have := hr.un; omega) (fun _ _ e => e)
      (fun h' u tk hk => ⟨.str _, H, I.kept hk, ⟨_, rfl⟩, q⟩) hz
theorem call_reprDE {K : PySem.W.Frag} {j : Nat} (hK : X.K = K) (hr : Room j X.A) (hg : X.A.guards = some []) : CallR X (.builtin "repr") (rRepr K) := by
  subst hK
  exact call_reprD hr hg
theorem r_repr {K : PySem.W.Frag} {H : Hp} {Q : VK} {v : V} {d : PyData} {n k : Nat} (h1 : Rp K H v d) (h2 : Sys K H) (h3 : Sm n k d) (hn : n ≤ 200000) (hk : k ≤ 64) (q : Q (.str d.shown) H) : rRepr K [v] H Q := ⟨v, d, n, k, rfl, h1, h2, h3, hn, hk, q⟩
end
end Og
namespace Og
open PySem PySem.Spec PyProof.Rows L2

/-! ### enumerate(tuple) -/
theorem meets_enumerate_new1 {v : Value} {o : Obj} {H : Heap → Prop} (B : Begins v o H) :
    Meets (Builtin.«enumerate.__new__» ⟨[.type "enumerate", v], []⟩) (fun _ R s => H s.heap ∧
      R (.ok (.ret (.ref (s.heap.push o).objs.size))) { s with heap := (s.heap.push o).push { cls := .type "enumerate", data := .fields #[.none, .bool false, .ref s.heap.objs.size, rawInt 0, .none, .none] } }) :=
  .of_wp fun prog w A R s h => by
    obtain ⟨hp, g, d, tk, os⟩ := s; obtain ⟨h1, h⟩ := h
    have hsub := sub_enumerate
    have q1 : ∀ {A' : Around} {E : Value → Shared → Prop} {Q : Value → Shared → Prop}, Q (.ref hp.objs.size) ⟨hp.push o, g, d, tk, os⟩ → wpAny (model prog w) A' (pyIter v) Q E ⟨hp, g, d, tk, os⟩ :=
      fun q => B.iter prog w _ _ ⟨hp, g, d, tk, os⟩ _ h1 q
    wp_walk using q1
    refine wpAny_stack_any fun st => wpAny_pure ?_
    split
    · rename_i c _ _ _ _ _
      cases (c == Value.type "enumerate")
      · wp_walk using q1
        exact ⟨_, rfl, h⟩
      · wp_walk using q1
        exact ⟨_, rfl, h⟩
    · wp_walk using q1
      exact ⟨_, rfl, h⟩
theorem enum_begins1 {prog : Program} {w : World} {A : Around} {E : Value → Shared → Prop} {s : Shared} {v : Value} {o : Obj} {H : Heap → Prop} {Q : Value → Shared → Prop} (B : Begins v o H) (h1 : H s.heap)
    (h : ∀ h', IsEnum h' (s.heap.objs.size + 1) s.heap.objs.size 0 .none → h'.get? s.heap.objs.size = some o → h'.objs.size = s.heap.objs.size + 2 →
      (∀ b o, s.heap.get? b = some o → h'.get? b = some o) → Q (.ref (s.heap.objs.size + 1)) { s with heap := h' }) :
    wpAny (model prog w) A (call (.type "enumerate") [v]) Q E s := by
  refine callType_new F.called_enumerate (by decide) (F.typeCall_enumerate_1 _) (F.newCall_enumerate_1 _) (fun obj => F.args_object_init_2 obj _) F.entry_enumerate_new
    (meets_enumerate_new1 B) ⟨h1, ?_⟩
  have hz : (s.heap.push o).objs.size = s.heap.objs.size + 1 := Heap.size_push ..
  show _ ∧ _
  rw [hz]
  have he : IsEnum ((s.heap.push o).push { cls := .type "enumerate", data := .fields #[.none, .bool false, .ref s.heap.objs.size, rawInt 0, .none, .none] }) (s.heap.objs.size + 1) s.heap.objs.size 0 .none := by
    have := Heap.get?_push_size (s.heap.push o) (o := { cls := .type "enumerate", data := .fields #[.none, .bool false, .ref s.heap.objs.size, rawInt 0, .none, .none] }) rfl
    rw [hz] at this; exact this
  refine ⟨⟨_, he, rfl⟩, h _ he (Heap.get?_push_of_some _ (Heap.get?_push_size _ B.free)) (by rw [Heap.size_push, hz]) fun b o x => Heap.get?_push_of_some _ (Heap.get?_push_of_some _ x)⟩

/-- the tuple at a, each item in a new pair -/
def Iet (K : PySem.W.Frag) (a : Addr) : It :=
  ⟨fun i H => ∃ (xs : List V) (x : V), SqT K H a xs ∧ xs[i]? = some x, fun i H v H' => ∃ T x, v = .ref T ∧ H T = none ∧ H' = upd H T (.tup [.int (i : Nat), x]) ∧ ∀ xs, SqT K H a xs → xs[i]? = some x, fun i H => ∃ xs : List V, SqT K H a xs ∧ xs.length = i⟩
theorem turn_enumT {P : Program} {w : World} {K : PySem.W.Frag} {elts : List Expr} {kk : Nat} {tpos : Pos} (a e it : Addr) :
    Turn P w K (.Tuple elts kk tpos) (Iet K a) [e, it] e (fun i h => (∃ old, IsEnum h e it ((i : Nat) : Int) old) ∧ h.IsTupleIter it a i ∧ e ≠ it) where
  mem := by simp
  obj := fun i h st b hb => by
    obtain ⟨⟨old, he⟩, ⟨o, ho, hc, hd⟩, _⟩ := st
    have e' : b = e ∨ b = it := by simpa using hb
    rcases e' with z | z
    · rw [z]; exact ⟨_, he, fun v q => nomatch q⟩
    · rw [z]; exact ⟨o, ho, fun v q => by rw [hd] at q; cases q⟩
  keep := fun i h h' st k => let ⟨⟨old, he⟩, hi, hne⟩ := st; ⟨⟨old, k e (by simp) _ he⟩, hi.at fun o q => k it (by simp) o q, hne⟩
  item := by
    intro X hP hw hK hc i pins s σ H E I hf st hg
    subst hP hw hK
    obtain ⟨⟨old, he⟩, hit, hne⟩ := st
    obtain ⟨xs, x, hq, hx⟩ := hg
    obtain ⟨its, rv, p, hz⟩ := I.tuple hq
    obtain ⟨u, hu, ru⟩ := rv.get hx
    have hel : e < s.heap.objs.size := Heap.lt_size he
    have hil : it < s.heap.objs.size := by obtain ⟨_, q, _⟩ := hit; exact Heap.lt_size q
    have hta : a ≠ it := fun z => by
      obtain ⟨o1, q1, c1, _⟩ := p
      obtain ⟨o2, q2, c2, _⟩ := hit
      rw [z] at q1
      rw [q1] at q2
      cases q2
      exact absurd (Value.type.inj (c1.symm.trans c2)) (by decide)
    have hea : e ≠ a := fun z => by
      obtain ⟨o1, q1, c1, _⟩ := p
      rw [← z] at q1
      have q2 : s.heap.get? e = some _ := he
      rw [q1] at q2
      cases q2
      exact absurd (Value.type.inj c1) (by decide)
    have hul : its.toArray[i]? = some u := by simpa using hu
    have hlt : i < its.toArray.size := by
      obtain ⟨h1, _⟩ := Array.getElem?_eq_some_iff.mp hul
      exact h1
    refine wpAny_pyNext_enum_itemD (Draws.tuple (A := X.A.in1) (I.ok.hd hc) it a hta its.toArray) he ⟨hit, p⟩ hlt hne (by simp [hne, hea]) fun x' h' tk hx' ho hst' hT hsz hk => ?_
    have : x' = u := Option.some.inj (hx'.symm.trans hul)
    subst this
    refine ⟨_, rfl, wpAny_letOwnedTupleGo_enum (s := { s with heap := h', toks := tk + 1 }) ho fun h'' he' sb => ?_⟩
    have hT2 : h''.get? s.heap.objs.size = some { cls := .type "tuple", data := .seq #[.int i tk, x'] } := (sb.2 _ (Nat.ne_of_gt hel)).trans hT
    have new : ObjOk X.prog X.w (upd H s.heap.objs.size (.tup [.int (i : Nat), x])) h'' s.heap.objs.size (.tup [.int (i : Nat), x]) :=
      ⟨by show 2 ≤ sizeLine; decide, [.int i tk, x'], .cons ⟨_, rfl⟩ (.cons ru .nil), ⟨_, hT2, rfl, _, rfl⟩⟩
    have I1 : Inv X pins σ (upd H s.heap.objs.size (.tup [.int (i : Nat), x])) { s with heap := h'', toks := tk + 1 } :=
      I.turnedNew (ch := [e, it]) (fun b ob hb q => (sb.2 b (fun z => hb (by simp [z]))).trans (hk b ob (fun z => hb (by simp [z])) (fun z => hb (by simp [z])) q)) hf (Nat.le_refl _) new
    refine ⟨.ref s.heap.objs.size, _, I1, rfl, ⟨_, x, rfl, I.hok.fresh (Nat.le_refl _), rfl, fun ys hy => by rw [I.tuple_inj hy hq]; exact hx⟩, ⟨⟨x', ?_⟩, hst'.1.at fun o q => (sb.2 it (Ne.symm hne)).trans q, hne⟩, fun b hb => ?_⟩
    · have e1 : ((i + 1 : Nat) : Int) = (i : Int) + 1 := by omega
      rw [e1]; exact he'
    · have hb' : b < s.heap.objs.size := by
        have e' : b = e ∨ b = it := by simpa using hb
        rcases e' with z | z
        · rw [z]; exact hel
        · rw [z]; exact hil
      rw [upd_ne (Nat.ne_of_lt hb')]
      exact (hf b hb).1
  done := by
    intro X hP hw hK hc i pins s σ H E I hf st hg
    subst hP hw hK
    obtain ⟨⟨old, he⟩, hit, hne⟩ := st
    obtain ⟨xs, hq, hx⟩ := hg
    obtain ⟨its, rv, p, hz⟩ := I.tuple hq
    obtain ⟨f0, f1, f2, f3, f4, f5⟩ := hf it (by simp)
    have hl := rv.length
    have hta : a ≠ it := fun z => by
      obtain ⟨o1, q1, c1, _⟩ := p
      obtain ⟨o2, q2, c2, _⟩ := hit
      rw [z] at q1
      rw [q1] at q2
      cases q2
      exact absurd (Value.type.inj (c1.symm.trans c2)) (by decide)
    have hi : its.toArray.size = i := by
      rw [List.size_toArray]
      omega
    exact wpAny_pyNext_enum_endD (Draws.tuple (A := X.A.in1) (I.ok.hd hc) it a hta its.toArray) he (by rw [hi]; exact ⟨hit, p⟩) fun h' eb => ⟨rfl, I.turned (t' := s.toks) (fun b o hb q => eb b o hb q) f0 f1 f3 f4 f5⟩
  self := fun A i s Q E st h => let ⟨⟨_, he⟩, _⟩ := st; wpAny_pyIter_enum he h
def iEnumT (K : PySem.W.Frag) (ta : TA) : TI := fun σ H R => ta σ H fun vs H1 => ∃ a xs, vs = [.ref a] ∧ SqT K H1 a xs ∧ R (Iet K a) H1
theorem pi_enumT {X : Cx} {K : PySem.W.Frag} {e : Expr} {ta : TA} {p pos tpos : Pos} {elts : List Expr} {kk : Nat} (hK : X.K = K) (hg : Gl X "enumerate") (hm : X.mg "enumerate" = none) (ha : PA X [e] ta) (hs : starEach [e] X.env = [(false, eval e X.env)] := by rfl) :
    PI X (.Tuple elts kk tpos) (.Call (.Name "enumerate" p) [e] [] pos) (iEnumT K ta) := by
  subst hK
  refine ⟨fun pins s σ H R I h => ?_⟩
  refine Call_ (ld_blt I hg hm boot_enumerate (PyProof.Rows.callWith_type1 (thn (ha.run pos pins s σ H _ I h) fun us s1 ⟨vs, H1, I1, r1, q1⟩ => ?_) hs rfl))
  obtain ⟨a, xs, ex, hq, q⟩ := q1
  subst ex
  cases r1 with
  | cons r rr =>
    cases rr
    cases r
    obtain ⟨its, rv, p', hz⟩ := I1.tuple hq
    refine enum_begins1 (begins_tuple a its.toArray) p' fun h' he hit hsz hk => wpAny_pyIter_enum he ?_
    have I2 : Inv X pins σ H1 { s1 with heap := h' } := I1.kept (t' := s1.toks) hk
    refine ⟨s1.heap.objs.size + 1, [s1.heap.objs.size + 1, s1.heap.objs.size], _, _, H1, rfl, I2, turn_enumT a (s1.heap.objs.size + 1) s1.heap.objs.size, ⟨⟨.none, he⟩, ⟨_, hit, rfl, rfl⟩, Nat.succ_ne_self _⟩, fun b hb => ?_, q⟩
    have e' : b = s1.heap.objs.size + 1 ∨ b = s1.heap.objs.size := by simpa using hb
    have hle : s1.heap.objs.size ≤ b := by
      rcases e' with z | z
      · rw [z]; exact Nat.le_add_right _ _
      · rw [z]; exact Nat.le_refl _
    exact I1.fpOk hle (I1.hok.fresh hle)
end Og
namespace Og
open PySem PySem.Spec PyProof.Rows L2

/-! ### an own exception class with one field: its __init__ calls the base's and stores the field -/
def spInit (K : PySem.W.Frag) (fld : Str) : Sp := fun vs H Q _ => ∃ (a C : Addr) (y : V), vs = [.ref a, y] ∧ OexC K C ∧ PySem.W.findIn K (.ref C) fld = some none ∧ H a = some (exo a C none) ∧
  ∀ dx, H dx = none → dx ≠ a → Q .non (upd (upd H dx (exd dx [(fld, y)])) a (exo a C (some dx)))
theorem r_vei {K : PySem.W.Frag} {σ : L2.St} {H : Hp} {Q : VK} {ta : TA} (h : ta σ H fun vs H1 => ∃ (a C : Addr) (ws : List V), vs = .ref a :: ws ∧ ws.length ≤ 1000 ∧ OexC K C ∧ H1 a = some (exo a C none) ∧ Q .non H1) : tVeI K ta σ H Q := h
/-- the exception class x at C: its field, a default for it (dv), all that is asked of it -/
structure ExF (P : Program) (w : World) (K : PySem.W.Frag) (mg : Str → Option Value) (base : Heap) (x : Str) (C : Addr) (fld : Str) (dv : Option V) : Prop where
  T : OexC K C
  X : ExC K C
  hm : mg x = some (.ref C)
  no : PySem.W.findIn K (.ref C) fld = some none
  ex : ∃ (fI : Addr) (fd : FuncData) (ps : List Str), PySem.W.findIn K (.ref C) "__init__" = some (some (.ref fI)) ∧ PySem.W.typeIn K (.ref fI) = some (.type "function") ∧
    FnOk P w K mg base CX0 1 fI fd ps (spInit K fld) ∧ Binds K fd ps [] ∧ ∀ d, dv = some d → ∃ u, Vals [d] [u] ∧ Binds K fd ps [u]
/-- C(y) is raised: a new exception, its own dict at d -/
def RsG (K : PySem.W.Frag) (C : Addr) (fld : Str) (dvs vs : List V) (H1 : Hp) (Q : XK) : Prop := vs.length ≤ 1000 ∧ ∀ a, H1 a = none → spInit K fld (.ref a :: (vs ++ dvs)) (upd H1 a (exo a C none))
  (fun v H2 => v = .non ∧ ∃ (d : Addr) (fs : List (Str × V)), H2 a = some (exo a C (some d)) ∧ H2 d = some (exd d fs) ∧ H1 d = none ∧ Q (.ref C) (some d) (upd (del H2 a) d (.xd fs))) (fun _ _ _ => False)
def tRs (K : PySem.W.Frag) (C : Addr) (fld : Str) (dvs : List V) (ta : TA) : L2.St → Hp → XK → Prop := tMkO C (spInit K fld) dvs ta
theorem rs_heap {H : Hp} {a d C : Addr} {fs : List (Str × V)} {o : HO} (ha : H a = none) (ne : d ≠ a) : upd (del (upd (upd (upd H a (exo a C none)) d o) a (exo a C (some d))) a) d (.xd fs) = upd H d (.xd fs) := by
  funext b
  by_cases hd : b = d
  · rw [hd, upd_same, upd_same]
  · rw [upd_ne hd, upd_ne hd]
    by_cases hb : b = a
    · rw [hb, del_same, ha]
    · rw [del_ne hb, upd_ne hb, upd_ne hd, upd_ne hb]
section
variable {P : Program} {w : World} {K : PySem.W.Frag} {mg : Str → Option Value} {base : Heap} {x fld : Str} {C : Addr} {dv : Option V}
theorem ExF.to (c : ExF P w K mg base x C fld dv) {H1 : Hp} {y : V} {Q : XK} (q : ∀ d, H1 d = none → Q (.ref C) (some d) (upd H1 d (.xd [(fld, y)]))) (a : Addr) (ha : H1 a = none) :
    spInit K fld [.ref a, y] (upd H1 a (exo a C none))
      (fun v H2 => v = .non ∧ ∃ (d : Addr) (fs : List (Str × V)), H2 a = some (exo a C (some d)) ∧ H2 d = some (exd d fs) ∧ H1 d = none ∧ Q (.ref C) (some d) (upd (del H2 a) d (.xd fs))) (fun _ _ _ => False) := by
  refine ⟨a, C, y, rfl, c.T, c.no, upd_same, fun dx hdx ne => ⟨rfl, dx, [(fld, y)], upd_same, ?_, ?_, ?_⟩⟩
  · rw [upd_ne ne, upd_same]
  · rw [upd_ne ne] at hdx
    exact hdx
  · rw [rs_heap ha ne]
    rw [upd_ne ne] at hdx
    exact q dx hdx
/-- what C(y), C() wish, once their values are there -/
theorem ExF.rs (c : ExF P w K mg base x C fld dv) {H1 : Hp} {y : V} {Q : XK} (q : ∀ d, H1 d = none → Q (.ref C) (some d) (upd H1 d (.xd [(fld, y)]))) : RsG K C fld [] [y] H1 Q :=
  ⟨by show 1 ≤ 1000; decide, fun a hn => c.to q a hn⟩
theorem ExF.rs0 (c : ExF P w K mg base x C fld dv) {H1 : Hp} {y : V} {Q : XK} (q : ∀ d, H1 d = none → Q (.ref C) (some d) (upd H1 d (.xd [(fld, y)]))) : RsG K C fld [y] [] H1 Q :=
  ⟨by show 0 ≤ 1000; decide, fun a hn => c.to q a hn⟩
end
section
variable {X : Cx} {x fld : Str} {C : Addr} {dv : Option V} {j : Nat} {p pos : Pos} {e : Expr} {es : List Expr} {ta : TA}
theorem pmk_e1 (c : ExF X.prog X.w X.K X.mg X.base x C fld dv) (hr : Room j X.A) (hj : 2 ≤ j) (hg : Gl X x) (ha : PA X (e :: es) ta)
    (hdb : (x == ("__debug__" : Str)) = false := by decide) (he : starEach (e :: es) X.env = (false, eval e X.env) :: starEach es X.env := by rfl) (hpl : (backTo pos (starEach es X.env)).any (·.1) = false := by rfl) :
    PMk X (.Call (.Name x p) (e :: es) [] pos) (tRs X.K C fld [] ta) := by
  obtain ⟨fI, fd, ps, iC, tI, F1, b1, _⟩ := c.ex
  exact pmk_o1 c.T iC tI F1 (hr.mono hj) b1 .nil hg c.hm ha hdb he hpl
theorem pmk_e0 {d : V} (c : ExF X.prog X.w X.K X.mg X.base x C fld (some d)) (hr : Room j X.A) (hj : 2 ≤ j) (hg : Gl X x) (hdb : (x == ("__debug__" : Str)) = false := by decide) :
    PMk X (.Call (.Name x p) [] [] pos) (tRs X.K C fld [d] tNil) := by
  obtain ⟨fI, fd, ps, iC, tI, F1, _, b0⟩ := c.ex
  obtain ⟨u, ru, b⟩ := b0 d rfl
  exact pmk_o0 c.T iC tI F1 (hr.mono hj) b ru hg c.hm hdb
end
section
variable {σ : L2.St} {H : Hp} {W : WX} {K : PySem.W.Frag} {C : Addr} {fld : Str} {dvs : List V} {ta : TA} {Q : XK}
theorem r_rs (h : ta σ H fun vs H1 => RsG K C fld dvs vs H1 Q) : tRs K C fld dvs ta σ H Q := h
end
end Og
namespace Og
open PySem PySem.Spec PyProof.Rows L2

/-! ### kinds of things, as they stand -/
inductive NotI (H : Hp) : V → Prop
  | non : NotI H .non
  | bl (b : Bool) : NotI H (.bl b)
  | str (x : Str) : NotI H (.str x)
  | lst {a : Addr} {xs : List V} (e : H a = some (.lst xs)) : NotI H (.ref a)
  | tup {a : Addr} {xs : List V} (e : H a = some (.tup xs)) : NotI H (.ref a)
  | dK {a : Addr} {kvs : List (Key × V)} (e : H a = some (.dK kvs)) : NotI H (.ref a)
inductive NotT (H : Hp) : V → Prop
  | non : NotT H .non
  | bl (b : Bool) : NotT H (.bl b)
  | int (i : Int) : NotT H (.int i)
  | str (x : Str) : NotT H (.str x)
  | lst {a : Addr} {xs : List V} (e : H a = some (.lst xs)) : NotT H (.ref a)
  | dK {a : Addr} {kvs : List (Key × V)} (e : H a = some (.dK kvs)) : NotT H (.ref a)
section
variable {K : PySem.W.Frag} {H H' : Hp} {x : V}
theorem NotI.kit (h : NotI H x) : ∃ t b1 b2, TyX K H x t ∧ PySem.W.kitOne K t (.type "int") = some b1 ∧ PySem.W.kitOne K t (.type "bool") = some b2 ∧ (b1 && !b2) = false := by
  cases h with
  | non => exact ⟨_, false, false, .base .non, kit_ty (by decide +kernel), kit_ty (by decide +kernel), rfl⟩
  | bl b => exact ⟨_, true, true, .base (.bl b), kit_ty (by decide +kernel), kit_ty (by decide +kernel), rfl⟩
  | str y => exact ⟨_, false, false, .base (.str y), kit_ty (by decide +kernel), kit_ty (by decide +kernel), rfl⟩
  | lst e => exact ⟨_, false, false, .base (.lst e), kit_ty (by decide +kernel), kit_ty (by decide +kernel), rfl⟩
  | tup e => exact ⟨_, false, false, .base (.tup e), kit_ty (by decide +kernel), kit_ty (by decide +kernel), rfl⟩
  | dK e => exact ⟨_, false, false, .base (.dK e), kit_ty (by decide +kernel), kit_ty (by decide +kernel), rfl⟩
theorem NotT.kit (h : NotT H x) : ∃ t, TyX K H x t ∧ PySem.W.kitOne K t (.type "tuple") = some false := by
  cases h with
  | non => exact ⟨_, .base .non, kit_ty (by decide +kernel)⟩
  | bl b => exact ⟨_, .base (.bl b), kit_ty (by decide +kernel)⟩
  | int i => exact ⟨_, .base (.int i), kit_ty (by decide +kernel)⟩
  | str y => exact ⟨_, .base (.str y), kit_ty (by decide +kernel)⟩
  | lst e => exact ⟨_, .base (.lst e), kit_ty (by decide +kernel)⟩
  | dK e => exact ⟨_, .base (.dK e), kit_ty (by decide +kernel)⟩
theorem NotI.grow (s : Same H H') (h : NotI H x) : NotI H' x := by
  cases h with
  | non => exact .non
  | bl b => exact .bl b
  | str y => exact .str y
  | lst e => exact .lst (s _ _ e)
  | tup e => exact .tup (s _ _ e)
  | dK e => exact .dK (s _ _ e)
theorem NotT.grow (s : Same H H') (h : NotT H x) : NotT H' x := by
  cases h with
  | non => exact .non
  | bl b => exact .bl b
  | int i => exact .int i
  | str y => exact .str y
  | lst e => exact .lst (s _ _ e)
  | dK e => exact .dK (s _ _ e)
end
/-! ### whole numbers, errands, houses -/
def loOk : V → Int → Bool
  | .int l, i => decide (l ≤ i)
  | _, _ => true
def hiOk : V → Int → Bool
  | .int l, i => decide (i ≤ l)
  | _, _ => true
def Bd (v : V) : Prop := v = .non ∨ ∃ l, v = .int l
def Whole (H : Hp) (x lo hi : V) (b : Bool) : Prop := (∃ i, x = .int i ∧ b = (loOk lo i && hiOk hi i)) ∨ (NotI H x ∧ b = false)
def Errand (H : Hp) (x : V) (fl : Int) (b : Bool) : Prop :=
  (∃ (a : Addr) (u v : V) (b1 b2 : Bool), x = .ref a ∧ H a = some (.tup [u, v]) ∧ Whole H u (.int 0) (.int (fl - 1)) b1 ∧ Whole H v (.int 1) (.int (3 * fl)) b2 ∧ b = (b1 && b2)) ∨
    (b = false ∧ (NotT H x ∨ ∃ a xs, x = .ref a ∧ H a = some (.tup xs) ∧ xs.length ≠ 2))
/-- the first place at which x is no house (none: it is one) -/
inductive HP (H : Hp) : V → Option V → Prop
  | kind {x : V} (h : NotT H x) : HP H x (some .non)
  | len {a : Addr} {xs : List V} (e : H a = some (.tup xs)) (h : xs.length ≠ 3) : HP H (.ref a) (some .non)
  | floors {a : Addr} {f s e : V} (h : H a = some (.tup [f, s, e])) (w : Whole H f (.int 2) (.int 16) false) : HP H (.ref a) (some (.str "floors"))
  | start {a : Addr} {fl : Int} {s e : V} (h : H a = some (.tup [.int fl, s, e])) (l : 2 ≤ fl) (u : fl ≤ 16) (w : Whole H s (.int 0) (.int (fl - 1)) false) : HP H (.ref a) (some (.str "start"))
  | errK {a : Addr} {fl : Int} {s e : V} (h : H a = some (.tup [.int fl, s, e])) (l : 2 ≤ fl) (u : fl ≤ 16) (w : Whole H s (.int 0) (.int (fl - 1)) true) (k : NotT H e) : HP H (.ref a) (some (.str "errands"))
  | errL {a c : Addr} {fl : Int} {s : V} {xs : List V} (h : H a = some (.tup [.int fl, s, .ref c])) (l : 2 ≤ fl) (u : fl ≤ 16) (w : Whole H s (.int 0) (.int (fl - 1)) true) (e : H c = some (.tup xs)) (m : 40 < xs.length) : HP H (.ref a) (some (.str "errands"))
  | err {a c : Addr} {fl : Int} {s y : V} {xs : List V} {i : Nat} (h : H a = some (.tup [.int fl, s, .ref c])) (l : 2 ≤ fl) (u : fl ≤ 16) (w : Whole H s (.int 0) (.int (fl - 1)) true) (e : H c = some (.tup xs)) (m : xs.length ≤ 40)
      (hi : xs[i]? = some y) (bad : Errand H y fl false) (ok : ∀ (j : Nat) (z : V), j < i → xs[j]? = some z → Errand H z fl true) : HP H (.ref a) (some (.int (i : Nat)))
  | ok {a c : Addr} {fl : Int} {s : V} {xs : List V} (h : H a = some (.tup [.int fl, s, .ref c])) (l : 2 ≤ fl) (u : fl ≤ 16) (w : Whole H s (.int 0) (.int (fl - 1)) true) (e : H c = some (.tup xs)) (m : xs.length ≤ 40)
      (ok : ∀ (j : Nat) (z : V), xs[j]? = some z → Errand H z fl true) : HP H (.ref a) none
section
variable {H H' : Hp} {x lo hi : V} {b : Bool} {fl : Int} {r : Option V}
theorem Whole.grow (s : Same H H') (h : Whole H x lo hi b) : Whole H' x lo hi b := h.imp id fun ⟨a, e⟩ => ⟨a.grow s, e⟩
theorem Errand.grow (s : Same H H') (h : Errand H x fl b) : Errand H' x fl b := by
  rcases h with ⟨a, u, v, b1, b2, e, ha, w1, w2, eb⟩ | ⟨e, k | ⟨a, xs, e1, ha, l⟩⟩
  · exact .inl ⟨a, u, v, b1, b2, e, s _ _ ha, w1.grow s, w2.grow s, eb⟩
  · exact .inr ⟨e, .inl (k.grow s)⟩
  · exact .inr ⟨e, .inr ⟨a, xs, e1, s _ _ ha, l⟩⟩
theorem HP.grow (s : Same H H') (h : HP H x r) : HP H' x r := by
  cases h with
  | kind h => exact .kind (h.grow s)
  | len e h => exact .len (s _ _ e) h
  | floors h w => exact .floors (s _ _ h) (w.grow s)
  | start h l u w => exact .start (s _ _ h) l u (w.grow s)
  | errK h l u w k => exact .errK (s _ _ h) l u (w.grow s) (k.grow s)
  | errL h l u w e m => exact .errL (s _ _ h) l u (w.grow s) (s _ _ e) m
  | err h l u w e m hi bad ok => exact .err (s _ _ h) l u (w.grow s) (s _ _ e) m hi (bad.grow s) fun j z hj hz => (ok j z hj hz).grow s
  | ok h l u w e m ok => exact .ok (s _ _ h) l u (w.grow s) (s _ _ e) m fun j z hz => (ok j z hz).grow s
theorem Whole.i (i : Int) : Whole H (.int i) lo hi (loOk lo i && hiOk hi i) := .inl ⟨i, rfl, rfl⟩
theorem whole_t {l h i : Int} (h1 : l ≤ i) (h2 : i ≤ h) : Whole H (.int i) (.int l) (.int h) true := by
  refine .inl ⟨i, rfl, ?_⟩
  show true = (decide (l ≤ i) && decide (i ≤ h))
  rw [decide_eq_true h1, decide_eq_true h2]
  rfl
theorem whole_f {l h i : Int} (h1 : i < l ∨ h < i) : Whole H (.int i) (.int l) (.int h) false := by
  refine .inl ⟨i, rfl, ?_⟩
  show false = (decide (l ≤ i) && decide (i ≤ h))
  rcases h1 with h1 | h1
  · rw [decide_eq_false (show ¬ l ≤ i by omega)]
    rfl
  · rw [decide_eq_false (show ¬ i ≤ h by omega), Bool.and_false]
theorem whole_any (H : Hp) (i l h : Int) : ∃ b, Whole H (.int i) (.int l) (.int h) b ∧ (b = true ↔ l ≤ i ∧ i ≤ h) := by
  by_cases z : l ≤ i ∧ i ≤ h
  · exact ⟨true, whole_t z.1 z.2, fun _ => z, fun _ => rfl⟩
  · exact ⟨false, whole_f (by omega), fun q => (by cases q), fun q => absurd q z⟩
theorem Whole.inv {l h : Int} (w : Whole H x (.int l) (.int h) true) : ∃ i, x = .int i ∧ l ≤ i ∧ i ≤ h := by
  rcases w with ⟨i, rfl, e⟩ | ⟨_, e⟩
  · have e2 : true = (decide (l ≤ i) && decide (i ≤ h)) := e
    have e3 := (Bool.and_eq_true_iff.mp e2.symm)
    exact ⟨i, rfl, of_decide_eq_true e3.1, of_decide_eq_true e3.2⟩
  · cases e
end
/-! ### specs of what many laws share -/
def spWhole (K : PySem.W.Frag) : Sp := fun vs H Q _ => ∃ (x lo hi : V) (b : Bool), vs = [x, lo, hi] ∧ Bd lo ∧ Bd hi ∧ Whole H x lo hi b ∧ Q (.bl b) H
def spErrand (K : PySem.W.Frag) : Sp := fun vs H Q _ => ∃ (x : V) (fl : Int) (b : Bool), vs = [x, .int fl] ∧ fl.natAbs < 2 ^ 64 ∧ Errand H x fl b ∧ Q (.bl b) H
def spBegin (K : PySem.W.Frag) : Sp := fun vs H Q _ => ∃ (a : Addr) (ns : List Int), vs = [.ref a] ∧ Sys K H ∧ SqL K H a (ns.map V.int) ∧ ns.length ≤ 63 ∧
  ∀ d B H', Same H B → Wd K d (2 ^ 39) [] B H' → Q (.ref d) H'
def spMixed (K : PySem.W.Frag) : Sp := fun vs H Q _ => ∃ (c k : Int), vs = [.int c, .int k] ∧ 0 ≤ k ∧ k ≤ 2 ^ 40 ∧ ∀ r : Int, Q (.int r) H
def spNext (K : PySem.W.Frag) : Sp := fun vs H Q _ => ∃ (d : Addr) (m : Nat) (ms : List (Addr × HO)) (B : Hp) (n : Int), vs = [.ref d, .int n] ∧ Wd K d (m + 1) ms B H ∧ 0 < n ∧ n ≤ 2 ^ 40 ∧
  ∀ H' r, Wd K d m ms B H' → 0 ≤ r → r < n → Q (.int r) H'
/-- an errand of a ring of fl floors, made -/
def Erd (B : Hp) (v : V) (fl : Int) : Prop := ∃ (a : Addr) (b s : Int), v = .ref a ∧ B a = some (.tup [.int b, .int s]) ∧ 0 ≤ b ∧ b < fl ∧ 1 ≤ s ∧ s ≤ 3 * fl
def spErr (K : PySem.W.Frag) : Sp := fun vs H Q _ => ∃ (d : Addr) (m : Nat) (ms : List (Addr × HO)) (B : Hp) (n : Int), vs = [.ref d, .int n] ∧ Wd K d (m + 5) ms B H ∧ 2 ≤ n ∧ n ≤ 16 ∧
  ∀ B' H' v, Wd K d m ms B' H' → Same B B' → Erd B' v n → Q v H'
def spWay (K : PySem.W.Frag) : Sp := fun vs H Q _ => ∃ (d : Addr) (m : Nat) (ms : List (Addr × HO)) (B : Hp) (n : Int), vs = [.ref d, .int n] ∧ Wd K d (m + 17) ms B H ∧ 2 ≤ n ∧ n ≤ 16 ∧
  ∀ B' H' a xs, Wd K d m ms B' H' → Same B B' → B' a = some (.lst xs) → xs.length ≤ 16 → xs ≠ [] → (∀ v ∈ xs, Erd B' v n) → Q (.ref a) H'
/-- a house of fl floors, made -/
structure Hs (B : Hp) (v : V) (fl st : Int) (c : Addr) (xs : List V) (most : Nat) : Prop where
  at_ : ∃ a, v = .ref a ∧ B a = some (.tup [.int fl, .int st, .ref c])
  es : B c = some (.tup xs)
  l2 : 2 ≤ fl
  u16 : fl ≤ 16
  s0 : 0 ≤ st
  s1 : st < fl
  len : xs.length ≤ most
  all : ∀ e ∈ xs, Erd B e fl
def spHouse (K : PySem.W.Frag) : Sp := fun vs H Q _ => ∃ (d : Addr) (m : Nat) (ms : List (Addr × HO)) (B : Hp) (n : Int) (most : Nat), vs = [.ref d, .int n, .int most] ∧ Wd K d (m + 100) ms B H ∧ 2 ≤ n ∧ n ≤ 16 ∧ most ≤ 40 ∧
  ∀ B' H' v st c xs, Wd K d m ms B' H' → Same B B' → Hs B' v n st c xs most → Q v H'
section
variable {K : PySem.W.Frag} {H H' B B' : Hp} {v : V} {fl st : Int} {c : Addr} {xs : List V} {most : Nat} {d : Addr} {m : Nat} {ms : List (Addr × HO)}
theorem Erd.grow (s : Same B B') (h : Erd B v fl) : Erd B' v fl := by
  obtain ⟨a, b, t, e, h1, h2⟩ := h
  exact ⟨a, b, t, e, s _ _ h1, h2⟩
theorem Erd.ok (h : Erd B v fl) : Errand B v fl true := by
  obtain ⟨a, b, t, e, h1, h2, h3, h4, h5⟩ := h
  exact .inl ⟨a, _, _, true, true, e, h1, whole_t h2 (by omega), whole_t h4 h5, rfl⟩
theorem Hs.grow (s : Same B B') (h : Hs B v fl st c xs most) : Hs B' v fl st c xs most := by
  obtain ⟨a, e, h1⟩ := h.at_
  exact ⟨⟨a, e, s _ _ h1⟩, s _ _ h.es, h.l2, h.u16, h.s0, h.s1, h.len, fun e he => (h.all e he).grow s⟩
theorem Hs.hp (h : Hs B v fl st c xs most) (hm : most ≤ 40) : HP B v none := by
  obtain ⟨a, rfl, h1⟩ := h.at_
  exact .ok h1 h.l2 h.u16 (whole_t h.s0 (by have := h.s1; omega)) h.es (Nat.le_trans h.len hm) fun j z hz => (h.all z (List.mem_of_getElem? hz)).ok
theorem Erd.rp (h : Erd B v fl) (u : fl ≤ 16) : ∃ d, Rp K B v d ∧ Sm 300 1 d := by
  obtain ⟨a, b, t, rfl, h1, h2, h3, h4, h5⟩ := h
  refine ⟨.tuple [.int b, .int t], .tup (SqT.of h1) (.cons (.int _) (.cons (.int _) .nil)), Sm.tuple (k := 0) (SmAll.cons (m := 140) (n := 141) (Sm.int ?_ (Nat.le_refl _)) (SmAll.cons (m := 140) (n := 0) (Sm.int ?_ (Nat.le_refl _)) .nil))⟩
  · have : b.natAbs < 64 := by omega
    exact Nat.lt_trans this (by decide)
  · have : t.natAbs < 64 := by omega
    exact Nat.lt_trans this (by decide)
theorem erds_rp (K : PySem.W.Frag) (u : fl ≤ 16) : ∀ {xs : List V}, (∀ e ∈ xs, Erd B e fl) → ∃ ds, RpAll K B xs ds ∧ ∀ d ∈ ds, Sm 300 1 d
  | [], _ => ⟨[], .nil, fun d hd => by cases hd⟩
  | x :: xs, h => by
    obtain ⟨d, r, s⟩ := (h x List.mem_cons_self).rp (K := K) u
    obtain ⟨ds, r2, s2⟩ := erds_rp K u fun e he => h e (List.mem_cons_of_mem _ he)
    refine ⟨d :: ds, .cons r r2, fun e he => ?_⟩
    rcases List.mem_cons.mp he with rfl | he
    · exact s
    · exact s2 _ he
theorem Hs.rp (h : Hs B v fl st c xs most) (hm : most ≤ 40) : ∃ d, Rp K B v d ∧ Sm 13000 3 d := by
  obtain ⟨a, rfl, h1⟩ := h.at_
  obtain ⟨ds, r, s⟩ := erds_rp K h.u16 h.all
  have hl : ds.length ≤ 40 := by
    rw [← r.length]
    exact Nat.le_trans h.len hm
  have e1 := h.l2
  have e2 := h.u16
  have e3 := h.s0
  have e4 := h.s1
  have S := (SmAll.of s).le (n := 301 * 40) (j := 1) (Nat.mul_le_mul_left _ hl) (Nat.le_refl _)
  refine ⟨.tuple [.int fl, .int st, .tuple ds], .tup (SqT.of h1) (.cons (.int _) (.cons (.int _) (.cons (.tup (SqT.of h.es) r) .nil))),
    Sm.tuple (k := 2) (SmAll.cons (m := 140) (n := 12400) (Sm.int ?_ (Nat.le_refl _)) (SmAll.cons (m := 140) (n := 12200) (Sm.int ?_ (Nat.le_refl _)) (SmAll.cons (m := 301 * 40) (n := 0) (Sm.tuple S) .nil)))⟩
  · have : fl.natAbs < 64 := by omega
    exact Nat.lt_trans this (by decide)
  · have : st.natAbs < 64 := by omega
    exact Nat.lt_trans this (by decide)
theorem Wd.grow (w : Wd K d m ms B H) (s : Same H H') : Wd K d m ms B H' := by
  refine ⟨w.sy, w.sb.trans s, w.dr.grow (Same.refl B) w.dr.out ?_, fun q hq => ?_, w.nd⟩
  · obtain ⟨a, ns, t, l, u, h1, _⟩ := w.dr.ex
    rw [h1, s _ _ h1]
  · obtain ⟨h1, h2, h3⟩ := w.mu q hq
    exact ⟨s _ _ h1, h2, h3⟩
end
/-! ### more readings -/
section
variable {σ : L2.St} {H : Hp} {Q : VK} {D : Ends} {ta tb te tc : TE} {t u : TS} {g : TG}
theorem loop_enumT {K : PySem.W.Frag} {a : Addr} {xs : List V} (Pv : Nat → L2.St → Hp → Prop) (h0 : Pv 0 σ H) (hl : ∀ i σ H, i ≤ xs.length → Pv i σ H → SqT K H a xs)
    (hs : ∀ i x σ H T, xs[i]? = some x → Pv i σ H → H T = none → g (.ref T) σ (upd H T (.tup [.int (i : Nat), x])) fun σ2 H2 => t { D with nx := Pv (i + 1), ct := Pv (i + 1), bk := D.nx } σ2 H2) (hd : ∀ σ H, Pv xs.length σ H → D.nx σ H) :
    Loop (Iet K a) g t D σ H := by
  refine ⟨fun i m σ H => m = xs.length - i ∧ i ≤ xs.length ∧ Pv i σ H, ⟨_, rfl, Nat.zero_le _, h0⟩, fun i m σ H hw => ?_⟩
  obtain ⟨em, hi, hp⟩ := hw
  have hq := hl i σ H hi hp
  by_cases z : i = xs.length
  · subst z
    exact .inl ⟨⟨xs, hq, rfl⟩, hd σ H hp⟩
  · have hlt : i < xs.length := by omega
    refine .inr ⟨⟨xs, xs[i], hq, List.getElem?_eq_getElem hlt⟩, Pv (i + 1), fun σ' H' hn => ⟨xs.length - (i + 1), by omega, rfl, by omega, hn⟩, fun v H' y => ?_⟩
    obtain ⟨T, x, rfl, hT, rfl, hx⟩ := y
    exact hs i x σ H T (hx xs hq) hp hT
theorem r_ienumT {K : PySem.W.Frag} {tr : TA} {R : It → Hp → Prop} (h : tr σ H fun vs H1 => ∃ a xs, vs = [.ref a] ∧ SqT K H1 a xs ∧ R (Iet K a) H1) : iEnumT K tr σ H R := h
theorem r_isi {K : PySem.W.Frag} {x : V} {t : Value} {n : String} {b : Bool} (ty : TyX K H x t) (e : PySem.W.kitOne K t (.type n) = some b) (h : Q (.bl b) H) : rIsi K [x, .ty n] H Q :=
  ⟨x, .ty n, t, .type n, b, rfl, .ty n, ty, e, h⟩
theorem qb {b c : Bool} (q : Q (.bl b) H) (e : b = c) : Q (.bl c) H := e ▸ q
theorem r_ost {K : PySem.W.Frag} {f : Str} {to te : TE} (h : te σ H fun y H1 => to σ H1 fun x H2 => ∃ a C : Addr, x = .ref a ∧ OexC K C ∧ PySem.W.findIn K (.ref C) f = some none ∧
  ((H2 a = some (exo a C none) ∧ ∀ dx, H2 dx = none → dx ≠ a → D.nx σ (upd (upd H2 dx (exd dx [(f, y)])) a (exo a C (some dx)))) ∨
    ∃ (dx : Addr) (fs : List (Str × V)), H2 a = some (exo a C (some dx)) ∧ H2 dx = some (exd dx fs) ∧ fs.length ≤ 900 ∧ D.nx σ (upd H2 dx (exd dx ((f, y) :: fs))))) : tOst K f to te D σ H := h
/-- a raise, the wish at hand -/
theorem r_while {c : TT} (h : tWhile c t D σ H) : tWhile c t D σ H := h
end

/-! ### more rules and readings -/
theorem mem_cutV {xs : List V} {lo hi : Option Int} {v : V} (h : v ∈ cutV xs lo hi) : v ∈ xs := List.mem_of_mem_drop (List.mem_of_mem_take h)
def rTupOf (K : PySem.W.Frag) : List V → Hp → VK → Prop := fun xs H Q => ∃ p ys, xs = [.ref p] ∧ ((SqL K H p ys ∧ ∀ l, H l = none → Q (.ref l) (upd H l (.tup ys))) ∨ (SqT K H p ys ∧ Q (.ref p) H))
theorem call_tupE {X : Cx} {K : PySem.W.Frag} (h : X.K = K) : CallR X (.type "tuple") (rTupOf K) := h ▸ call_tuple_of
section
variable {σ : L2.St} {H B : Hp} {Q : VK} {D : Ends} {ta tb te tc : TE} {t u : TS} {g : TG} {K : PySem.W.Frag} {p q : Addr} {xs ys : List V}
theorem r_tupOf (h1 : SqL K H p ys) (h : New Q H (.tup ys)) : rTupOf K [.ref p] H Q := ⟨p, ys, rfl, .inl ⟨h1, h⟩⟩
theorem r_tupOfT (h1 : SqT K H p ys) (h : Q (.ref p) H) : rTupOf K [.ref p] H Q := ⟨p, ys, rfl, .inr ⟨h1, h⟩⟩
theorem r_slL {lo hi : Option Int} (h1 : SqL K H p xs) (h : New Q H (.lst (cutV xs lo hi))) : rSlL K (.ref p) lo hi H Q := ⟨p, xs, rfl, h1, h⟩
theorem r_par3 {i j l : Nat} {tr : TA} (h : tr σ H fun vs H1 => ∃ u v w, vs = [u, v, w] ∧ D.nx (((σ.set i (some u)).set j (some v)).set l (some w)) H1) : tPar3 i j l tr D σ H := h
theorem r_par33 {a b c : V} {Q : V → V → V → Prop} (h : Q a b c) : ∃ u v w, ([a, b, c] : List V) = [u, v, w] ∧ Q u v w := ⟨a, b, c, rfl, h⟩
/-- an if whose ways come together again, with P behind it -/
theorem r_ifJ {c : TT} {D : Ends} (P : L2.St → Hp → Prop) (hK : ∀ σ H, P σ H → D.nx σ H) (h : ∀ nx' : L2.St → Hp → Prop, (∀ σ H, P σ H → nx' σ H) → tIfS c t u { D with nx := nx' } σ H) : tIfS c t u D σ H := h D.nx hK
/-- the same for x if c else y -/
theorem r_ifEJ {c : TT} (P : V → Hp → Prop) (hK : ∀ v H, P v H → Q v H) (h : ∀ Q' : VK, (∀ v H, P v H → Q' v H) → tIf c ta tb σ H Q') : tIf c ta tb σ H Q := h Q hK
theorem while_m {c : TT} {tb : TS} (Pv : Nat → L2.St → Hp → Prop) (h0 : ∃ m, Pv m σ H)
    (hs : ∀ m σ H, Pv m σ H → c σ H fun b H1 => if b = true then ∃ N : L2.St → Hp → Prop, (∀ σ' H', N σ' H' → ∃ m', m' < m ∧ Pv m' σ' H') ∧ tb { D with nx := N, ct := N, bk := D.nx } σ H1 else D.nx σ H1) : tWhile c tb D σ H := ⟨Pv, h0, hs⟩
theorem r_turn {m : Nat} {Pv : Nat → L2.St → Hp → Prop} {A : (L2.St → Hp → Prop) → Prop} (h : A fun σ' H' => ∃ m', m' < m ∧ Pv m' σ' H') : ∃ N : L2.St → Hp → Prop, (∀ σ' H', N σ' H' → ∃ m', m' < m ∧ Pv m' σ' H') ∧ A N := ⟨_, fun _ _ h => h, h⟩
theorem r_popAt {i : Int} (e : H p = some (.lst xs)) (h1 : 0 ≤ i) (h2 : i < 2 ^ 62) (hk : i.toNat < xs.length) (q : ∀ y, y ∈ xs → Q y (upd H p (.lst (xs.eraseIdx i.toNat)))) : rPopAt (.ref p) [.int i] H Q := by
  refine ⟨p, xs, i, i.toNat, xs[i.toNat], rfl, rfl, e, by omega, by omega, ?_, List.getElem?_eq_getElem hk, q _ (List.getElem_mem hk)⟩
  unfold seqIndex?
  simp only [if_neg (show ¬ i < 0 by omega)]
  rw [if_pos]
  exact Bool.and_eq_true_iff.mpr ⟨decide_eq_true h1, decide_eq_true (by omega)⟩
/-- of two ints the lesser one -/
theorem r_min2 {i j : Int} {Q : V → Prop} (h : ∀ k : Int, (k = i ∨ k = j) → k ≤ i → k ≤ j → Q (.int k)) : ∃ a b : Int, ([.int i, .int j] : List V) = [.int a, .int b] ∧ Q (.int (if b < a then b else a)) := by
  refine ⟨i, j, rfl, ?_⟩
  split
  · exact h j (.inr rfl) (by omega) (Int.le_refl _)
  · exact h i (.inl rfl) (Int.le_refl _) (by omega)
/-- != [] -/
theorem r_neNil {ds : List PyData} (h1 : SqL K H p xs) (h2 : SqL K H q []) (dp : DpAll K H xs ds) (c : PyData.canLayAll0 ds = true) (dd : PyData.depthAll ds ≤ 60) (h : Q (.bl (!xs.isEmpty)) H) : rNeD K (.ref p) (.ref q) H Q := by
  refine ⟨.list ds, .list [], .lst h1 dp, .lst h2 .nil, ?_, rfl, ?_⟩
  · show (PyData.canLayAll0 ds && decide (PyData.depthAll ds + 1 ≤ 64)) = true
    rw [c, decide_eq_true (by omega)]
    rfl
  · have e : PyData.eqv (.list ds) (.list []) = xs.isEmpty := by
      cases dp with
      | nil => rfl
      | cons _ _ => rfl
    rw [e]
    exact h
end
theorem atI_ok {xs : List V} {r : Int} (h0 : 0 ≤ r) (h1 : r < xs.length) : ∃ v ∈ xs, atI xs r = some v := by
  have hlt : r.toNat < xs.length := by omega
  refine ⟨xs[r.toNat], List.getElem_mem hlt, ?_⟩
  have e := atI_nat (List.getElem?_eq_getElem hlt)
  rw [Int.toNat_of_nonneg h0] at e
  exact e
theorem cutV_most (xs : List V) (k : Nat) : (cutV xs none (some (k : Int))).length ≤ k := by
  unfold cutV
  rw [HT.sIx_nat, List.length_take]
  omega
theorem Erd.dp {K : PySem.W.Frag} {B : Hp} {v : V} {fl : Int} (h : Erd B v fl) : ∃ b t : Int, Dp K B v (.tuple [.int b, .int t]) := by
  obtain ⟨a, b, t, rfl, h1, _⟩ := h
  exact ⟨b, t, .tup (SqT.of h1) (.cons (.int _) (.cons (.int _) .nil))⟩
theorem erds_dp (K : PySem.W.Frag) {B : Hp} {fl : Int} : ∀ {xs : List V}, (∀ e ∈ xs, Erd B e fl) → ∃ ds, DpAll K B xs ds ∧ PyData.canLayAll0 ds = true ∧ PyData.depthAll ds ≤ 1
  | [], _ => ⟨[], .nil, rfl, Nat.zero_le _⟩
  | x :: xs, h => by
    obtain ⟨b, t, r⟩ := (h x List.mem_cons_self).dp (K := K)
    obtain ⟨ds, r2, c, l⟩ := erds_dp K fun e he => h e (List.mem_cons_of_mem _ he)
    exact ⟨_ :: ds, .cons r r2, c, Nat.max_le.mpr ⟨Nat.le_refl _, l⟩⟩
end Og
namespace Og
open PySem PySem.Spec PyProof.Rows L2

/-! ### things whose whole make is known: n bounds the weight, k the depth -/
inductive Kn (B : Hp) : Nat → Nat → V → Prop
  | non {n k : Nat} : Kn B n k .non
  | bl {n k : Nat} (b : Bool) : Kn B n k (.bl b)
  | int {n k : Nat} {i : Int} (h : i.natAbs < 2 ^ 140) (hn : 140 ≤ n) : Kn B n k (.int i)
  | str {n k : Nat} {x : Str} (h : (x.cps.toList.all fun c => decide (c < 16 ^ 8)) = true) (hn : x.cps.size ≤ n) : Kn B n k (.str x)
  | tup {n k m : Nat} {a : Addr} {xs : List V} (e : B a = some (.tup xs)) (h : ∀ x ∈ xs, Kn B m k x) (hn : (m + 1) * xs.length ≤ n) : Kn B n (k + 1) (.ref a)
  | lst {n k m : Nat} {a : Addr} {xs : List V} (e : B a = some (.lst xs)) (h : ∀ x ∈ xs, Kn B m k x) (hn : (m + 1) * xs.length ≤ n) : Kn B n (k + 1) (.ref a)
  | dK {n k m : Nat} {a : Addr} {kvs : List (Key × V)} (e : B a = some (.dK kvs)) (h : ∀ x ∈ kvs, Kn B m k x.2) (hk : ∀ x ∈ kvs, Sm m k (kD x.1)) (hn : 2 * (m + 1) * kvs.length ≤ n) : Kn B n (k + 1) (.ref a)
theorem Kn.grow {B B' : Hp} {n k : Nat} {v : V} (s : Same B B') (h : Kn B n k v) : Kn B' n k v := by
  induction h with
  | non => exact .non
  | bl b => exact .bl b
  | int h hn => exact .int h hn
  | str h hn => exact .str h hn
  | tup e h hn ih => exact .tup (s _ _ e) ih hn
  | lst e h hn ih => exact .lst (s _ _ e) ih hn
  | dK e h hk hn ih => exact .dK (s _ _ e) ih hk hn
theorem Kn.le {B : Hp} {n k n' k' : Nat} {v : V} (h : Kn B n k v) (hn : n ≤ n') (hk : k ≤ k') : Kn B n' k' v := by
  induction h generalizing n' k' with
  | non => exact .non
  | bl b => exact .bl b
  | int h h2 => exact .int h (Nat.le_trans h2 hn)
  | str h h2 => exact .str h (Nat.le_trans h2 hn)
  | tup e h h2 ih =>
    obtain ⟨j, rfl⟩ : ∃ j, k' = j + 1 := ⟨k' - 1, by omega⟩
    exact .tup e (fun x hx => ih x hx (Nat.le_refl _) (by omega)) (Nat.le_trans h2 hn)
  | lst e h h2 ih =>
    obtain ⟨j, rfl⟩ : ∃ j, k' = j + 1 := ⟨k' - 1, by omega⟩
    exact .lst e (fun x hx => ih x hx (Nat.le_refl _) (by omega)) (Nat.le_trans h2 hn)
  | dK e h hk0 h2 ih =>
    obtain ⟨j, rfl⟩ : ∃ j, k' = j + 1 := ⟨k' - 1, by omega⟩
    exact .dK e (fun x hx => ih x hx (Nat.le_refl _) (by omega)) (fun x hx => (hk0 x hx).le (Nat.le_refl _) (by omega)) (Nat.le_trans h2 hn)
theorem datas {K : PySem.W.Frag} {B : Hp} {m k : Nat} : ∀ {xs : List V}, (∀ x ∈ xs, ∃ d, Rp K B x d ∧ Sm m k d) → ∃ ds, RpAll K B xs ds ∧ SmAll ((m + 1) * xs.length) k ds
  | [], _ => ⟨[], .nil, .nil⟩
  | x :: xs, h => by
    obtain ⟨d, r, s⟩ := h x List.mem_cons_self
    obtain ⟨ds, r2, s2⟩ := datas fun e he => h e (List.mem_cons_of_mem _ he)
    exact ⟨d :: ds, .cons r r2, SmAll.cons s s2 (by rw [List.length_cons, Nat.mul_succ]; omega)⟩
structure SmKv (n k : Nat) (ds : List (PyData × PyData)) : Prop where
  sh : PyData.showableKv ds = true
  lv : PyData.leavesShortKv 60 ds = true
  wt : PyData.weightKv ds ≤ n
  dp : PyData.depthKv ds ≤ k
theorem smKv {m k : Nat} : ∀ {ds : List (PyData × PyData)}, (∀ x ∈ ds, Sm m k x.1 ∧ Sm m k x.2) → SmKv (2 * (m + 1) * ds.length) k ds
  | [], _ => ⟨rfl, rfl, Nat.zero_le _, Nat.zero_le _⟩
  | (a, b) :: ds, h => by
    obtain ⟨h1, h2⟩ := h (a, b) List.mem_cons_self
    have g := smKv fun e he => h e (List.mem_cons_of_mem _ he)
    refine ⟨?_, ?_, ?_, Nat.max_le.mpr ⟨Nat.max_le.mpr ⟨h1.dp, h2.dp⟩, g.dp⟩⟩
    · show (_ && _ && _) = true
      rw [h1.sh, h2.sh, g.sh]
      rfl
    · show (_ && _ && _) = true
      rw [h1.lv, h2.lv, g.lv]
      rfl
    · show a.weight + b.weight + 2 + PyData.weightKv ds ≤ _
      have := h1.wt
      have := h2.wt
      have := g.wt
      rw [List.length_cons, Nat.mul_succ]
      simp only at *
      omega
theorem Kn.data (K : PySem.W.Frag) {B : Hp} {n k : Nat} {v : V} (h : Kn B n k v) : ∃ d, Rp K B v d ∧ Sm n k d := by
  induction h with
  | non => exact ⟨_, .non, .non⟩
  | bl b => exact ⟨_, .bl b, .bl b⟩
  | int h hn => exact ⟨_, .int _, .int h hn⟩
  | str h hn => exact ⟨_, .str _, .str h hn⟩
  | tup e h hn ih =>
    obtain ⟨ds, r, s⟩ := datas ih
    exact ⟨_, .tup (SqT.of e) r, (Sm.tuple s).le hn (Nat.le_refl _)⟩
  | lst e h hn ih =>
    obtain ⟨ds, r, s⟩ := datas ih
    exact ⟨_, .lst (SqL.of e) r, (Sm.list s).le hn (Nat.le_refl _)⟩
  | @dK n k m a kvs e h hk hn ih =>
    obtain ⟨ds, r, s⟩ : ∃ ds, RpAll K B (kvs.map Prod.snd) ds ∧ ∀ d ∈ ds, Sm m k d := by
      clear e hn hk
      induction kvs with
      | nil => exact ⟨[], .nil, fun d hd => by cases hd⟩
      | cons q kvs ih2 =>
        obtain ⟨d, r, s⟩ := ih q List.mem_cons_self
        obtain ⟨ds, r2, s2⟩ := ih2 (fun x hx => h x (List.mem_cons_of_mem _ hx)) fun x hx => ih x (List.mem_cons_of_mem _ hx)
        refine ⟨d :: ds, .cons r r2, fun y hy => ?_⟩
        rcases List.mem_cons.mp hy with rfl | hy
        · exact s
        · exact s2 _ hy
    have hl := r.length
    rw [List.length_map] at hl
    have g := smKv (m := m) (k := k) (ds := (kvs.map fun kv => kD kv.1).zip ds) fun x hx => by
      have h1 := (List.of_mem_zip hx).1
      have h2 := (List.of_mem_zip hx).2
      obtain ⟨q, hq, e1⟩ := List.mem_map.mp h1
      exact ⟨e1 ▸ hk q hq, s _ h2⟩
    refine ⟨_, .dct e r, ?_⟩
    have hz : ((kvs.map fun kv => kD kv.1).zip ds).length = kvs.length := by
      rw [List.length_zip, List.length_map, ← hl, Nat.min_self]
    exact ⟨g.sh, g.lv, Nat.le_trans g.wt (by rw [hz]; exact hn), Nat.succ_le_succ g.dp⟩

/-! ### what kind a thing is known to be -/
def Ki (B : Hp) (v : V) : Prop := NotI B v ∨ ∃ i, v = .int i
def Ke (B : Hp) (v : V) : Prop := NotT B v ∨ ∃ a xs, v = .ref a ∧ B a = some (.tup xs) ∧ ∀ x ∈ xs, Ki B x
def Kh (B : Hp) (v : V) : Prop := NotT B v ∨ ∃ a xs, v = .ref a ∧ B a = some (.tup xs) ∧ ∀ f s e, xs = [f, s, e] → Ki B f ∧ Ki B s ∧ (NotT B e ∨ ∃ c ys, e = .ref c ∧ B c = some (.tup ys) ∧ ∀ y ∈ ys, Ke B y)
section
variable {B : Hp} {v : V} {n k : Nat}
theorem Kn.ki (h : Kn B n k v) : Ki B v := by
  cases h with
  | non => exact .inl .non
  | bl b => exact .inl (.bl b)
  | int h hn => exact .inr ⟨_, rfl⟩
  | str h hn => exact .inl (.str _)
  | tup e h hn => exact .inl (.tup e)
  | lst e h hn => exact .inl (.lst e)
  | dK e h hk hn => exact .inl (.dK e)
theorem Kn.ke (h : Kn B n k v) : Ke B v := by
  cases h with
  | non => exact .inl .non
  | bl b => exact .inl (.bl b)
  | int h hn => exact .inl (.int _)
  | str h hn => exact .inl (.str _)
  | tup e h hn => exact .inr ⟨_, _, rfl, e, fun x hx => (h x hx).ki⟩
  | lst e h hn => exact .inl (.lst e)
  | dK e h hk hn => exact .inl (.dK e)
theorem Kn.nt (h : Kn B n k v) : NotT B v ∨ ∃ a xs m j, v = .ref a ∧ B a = some (.tup xs) ∧ ∀ x ∈ xs, Kn B m j x := by
  cases h with
  | non => exact .inl .non
  | bl b => exact .inl (.bl b)
  | int h hn => exact .inl (.int _)
  | str h hn => exact .inl (.str _)
  | tup e h hn => exact .inr ⟨_, _, _, _, rfl, e, h⟩
  | lst e h hn => exact .inl (.lst e)
  | dK e h hk hn => exact .inl (.dK e)
theorem Kn.kh (h : Kn B n k v) : Kh B v := by
  rcases h.nt with h | ⟨a, xs, m, j, rfl, e, h⟩
  · exact .inl h
  · refine .inr ⟨a, xs, rfl, e, fun f s t he => ?_⟩
    subst he
    refine ⟨(h f (by simp)).ki, (h s (by simp)).ki, ?_⟩
    rcases (h t (by simp)).nt with h2 | ⟨c, ys, m2, j2, rfl, e2, h2⟩
    · exact .inl h2
    · exact .inr ⟨c, ys, rfl, e2, fun y hy => (h2 y hy).ke⟩
theorem Ki.whole (h : Ki B v) (lo hi : Int) : ∃ b, Whole B v (.int lo) (.int hi) b := by
  rcases h with h | ⟨i, rfl⟩
  · exact ⟨false, .inr ⟨h, rfl⟩⟩
  · exact ⟨_, .i i⟩
theorem Ke.errand (h : Ke B v) (fl : Int) : ∃ b, Errand B v fl b := by
  rcases h with h | ⟨a, xs, rfl, e, h⟩
  · exact ⟨false, .inr ⟨rfl, .inl h⟩⟩
  · by_cases hl : xs.length = 2
    · match xs, hl with
      | [u, w], _ =>
        obtain ⟨b1, w1⟩ := (h u (by simp)).whole 0 (fl - 1)
        obtain ⟨b2, w2⟩ := (h w (by simp)).whole 1 (3 * fl)
        exact ⟨_, .inl ⟨a, u, w, b1, b2, rfl, e, w1, w2, rfl⟩⟩
    · exact ⟨false, .inr ⟨rfl, .inr ⟨a, xs, rfl, e, hl⟩⟩⟩
theorem first_bad {fl : Int} : ∀ {xs : List V}, (∀ y ∈ xs, Ke B y) → (∀ (j : Nat) (z : V), xs[j]? = some z → Errand B z fl true) ∨
    ∃ (i : Nat) (y : V), xs[i]? = some y ∧ Errand B y fl false ∧ ∀ (j : Nat) (z : V), j < i → xs[j]? = some z → Errand B z fl true
  | [], _ => .inl fun j z hz => by cases hz
  | x :: xs, h => by
    obtain ⟨b, e⟩ := (h x List.mem_cons_self).errand fl
    cases b with
    | false => exact .inr ⟨0, x, rfl, e, fun j z hj => absurd hj (Nat.not_lt_zero _)⟩
    | true =>
      rcases first_bad (fl := fl) fun y hy => h y (List.mem_cons_of_mem _ hy) with g | ⟨i, y, hi, bad, ok⟩
      · refine .inl fun j z hz => ?_
        cases j with
        | zero => cases hz; exact e
        | succ j => exact g j z hz
      · refine .inr ⟨i + 1, y, hi, bad, fun j z hj hz => ?_⟩
        cases j with
        | zero => cases hz; exact e
        | succ j => exact ok j z (Nat.lt_of_succ_lt_succ hj) hz
theorem Kh.hp (h : Kh B v) : ∃ r, HP B v r := by
  rcases h with h | ⟨a, xs, rfl, e, h⟩
  · exact ⟨_, .kind h⟩
  · by_cases hl : xs.length = 3
    · match xs, hl with
      | [f, s, t], _ =>
        obtain ⟨kf, ks, kt⟩ := h f s t rfl
        obtain ⟨b1, w1⟩ := kf.whole 2 16
        cases b1 with
        | false => exact ⟨_, .floors e w1⟩
        | true =>
          obtain ⟨fl, rfl, l2, u16⟩ := w1.inv
          obtain ⟨b2, w2⟩ := ks.whole 0 (fl - 1)
          cases b2 with
          | false => exact ⟨_, .start e l2 u16 w2⟩
          | true =>
            rcases kt with kt | ⟨c, ys, rfl, e2, kt⟩
            · exact ⟨_, .errK e l2 u16 w2 kt⟩
            · by_cases hm : 40 < ys.length
              · exact ⟨_, .errL e l2 u16 w2 e2 hm⟩
              · rcases first_bad (fl := fl) kt with g | ⟨i, y, hi, bad, ok⟩
                · exact ⟨_, .ok e l2 u16 w2 e2 (by omega) g⟩
                · exact ⟨_, .err e l2 u16 w2 e2 (by omega) hi bad ok⟩
    · exact ⟨_, .len e hl⟩
theorem Errand.erd {fl : Int} (h : Errand B v fl true) : Erd B v fl := by
  rcases h with ⟨a, u, w, b1, b2, rfl, e, w1, w2, eb⟩ | ⟨e, _⟩
  · obtain ⟨rfl, rfl⟩ := Bool.and_eq_true_iff.mp eb.symm
    obtain ⟨i, rfl, i0, i1⟩ := w1.inv
    obtain ⟨j, rfl, j0, j1⟩ := w2.inv
    exact ⟨a, i, j, rfl, e, i0, by omega, j0, j1⟩
  · cases e
theorem HP.hs (h : HP B v none) : ∃ fl st c xs, Hs B v fl st c xs 40 := by
  cases h with
  | ok h l u w e m ok =>
    obtain ⟨i, rfl, i0, i1⟩ := w.inv
    refine ⟨_, i, _, _, ⟨_, rfl, h⟩, e, l, u, i0, by omega, m, fun y hy => ?_⟩
    obtain ⟨j, hj⟩ := List.mem_iff_getElem?.mp hy
    exact (ok j y hj).erd
theorem Erd.kn {fl : Int} (h : Erd B v fl) (u : fl ≤ 16) : Kn B 300 1 v := by
  obtain ⟨a, b, t, rfl, h1, h2, h3, h4, h5⟩ := h
  refine .tup (m := 140) h1 (fun x hx => ?_) (by show 141 * 2 ≤ 300; decide)
  have : ∃ i : Int, x = .int i ∧ i.natAbs < 64 := by
    simp only [List.mem_cons, List.not_mem_nil, or_false] at hx
    rcases hx with rfl | rfl
    · exact ⟨b, rfl, by omega⟩
    · exact ⟨t, rfl, by omega⟩
  obtain ⟨i, rfl, hi⟩ := this
  exact .int (Nat.lt_trans hi (by decide)) (Nat.le_refl _)
theorem kn_int {i : Int} (h0 : -1000 ≤ i) (h1 : i ≤ 1000) (hn : 140 ≤ n) : Kn B n k (.int i) := by
  have : i.natAbs < 2000 := by omega
  exact .int (Nat.lt_trans this (by decide)) hn
/-- a tuple of three: floors, start, errands, whatever they are -/
theorem kn3 {a : Addr} {x y z : V} (e : B a = some (.tup [x, y, z])) (hx : Kn B 42000 4 x) (hy : Kn B 42000 4 y) (hz : Kn B 42000 4 z) : Kn B 126003 5 (.ref a) := by
  refine .tup e (m := 42000) (fun w hw => ?_) (by show 42001 * 3 ≤ 126003; decide)
  simp only [List.mem_cons, List.not_mem_nil, or_false] at hw
  rcases hw with rfl | rfl | rfl
  · exact hx
  · exact hy
  · exact hz
/-- errands in a row, others among them -/
theorem knE {a : Addr} {xs : List V} (e : B a = some (.tup xs)) (h : ∀ x ∈ xs, Kn B 1000 3 x) (hl : xs.length ≤ 41) : Kn B 42000 4 (.ref a) :=
  .tup e h (Nat.le_trans (Nat.mul_le_mul_left _ hl) (by decide))
end

/-! ### readings with tuples that may be handed on as they are -/
section
variable {K : PySem.W.Frag} {d p q a b : Addr} {m : Nat} {ms : List (Addr × HO)} {B H : Hp} {Q : VK} {xs ys : List V} {σ : L2.St} {D : Ends} {t : TS} {g : TG}
theorem r_slAB {lo hi : Option Int} (w : Wd K d m ms B H) (h1 : B a = some (.tup xs)) (h : ∀ p B' H', Wd K d m ms B' H' → Same B B' → B' p = some (.tup (cutV xs lo hi)) → Q (.ref p) H') : rSlA K (.ref a) lo hi H Q := by
  refine ⟨a, xs, rfl, SqT.of (w.sb _ _ h1), fun e => ?_, fun _ => al_new w h⟩
  have z : cutV xs lo hi = xs := by
    unfold cutV
    rw [e.1, e.2, List.drop_zero, Nat.sub_zero, List.take_length]
  exact h a B H w (Same.refl _) (z.symm ▸ h1)
theorem r_catAB (w : Wd K d m ms B H) (h1 : B a = some (.tup xs)) (h2 : B b = some (.tup ys)) (hl : xs.length + ys.length ≤ 1000) (h : ∀ p B' H', Wd K d m ms B' H' → Same B B' → B' p = some (.tup (xs ++ ys)) → Q (.ref p) H') :
    rCatA K (.ref a) (.ref b) H Q := by
  refine ⟨a, b, xs, ys, rfl, rfl, SqT.of (w.sb _ _ h1), SqT.of (w.sb _ _ h2), Nat.le_trans hl (by decide), fun e => ?_, fun _ e => ?_, fun _ _ => al_new w h⟩
  · subst e
    exact h b B H w (Same.refl _) h2
  · subst e
    rw [List.append_nil] at h
    exact h a B H w (Same.refl _) h1
theorem cutV_two (xs : List V) (i : Int) : (cutV xs none (some i)).length + (cutV xs (some i) none).length ≤ xs.length := by
  unfold cutV
  have e : HT.sIx xs.length 0 (some i) = HT.sIx xs.length xs.length (some i) := rfl
  rw [HT.sIx_none, HT.sIx_none, e, List.length_take, List.length_take, List.length_drop, List.length_drop]
  omega
theorem r_repT {k : Int} (h1 : SqT K H a xs) (ne : xs ≠ []) (k2 : 2 ≤ k) (k3 : k ≤ 1000) (hl : xs.length ≤ 1000) (h : New Q H (.tup (List.replicate k.toNat xs).flatten)) : rRepT K (.ref a) (.int k) H Q := ⟨a, k, xs, rfl, rfl, h1, ne, k2, k3, hl, h⟩
theorem r_itup {ta : TE} {R : It → Hp → Prop} (h : ta σ H fun x H1 => ∃ a, x = .ref a ∧ (∃ xs, SqT K H1 a xs) ∧ R (Itt K a) H1) : iTup K ta σ H R := h
theorem loop_tup (Pv : Nat → L2.St → Hp → Prop) (h0 : Pv 0 σ H) (hl : ∀ i σ H, i ≤ xs.length → Pv i σ H → SqT K H a xs)
    (hs : ∀ i x σ H, xs[i]? = some x → Pv i σ H → g x σ H fun σ2 H2 => t { D with nx := Pv (i + 1), ct := Pv (i + 1), bk := D.nx } σ2 H2) (hd : ∀ σ H, Pv xs.length σ H → D.nx σ H) :
    Loop (Itt K a) g t D σ H := for_tup Pv h0 hl hs hd
theorem r_isQ1 {x D' : Addr} {fs : List (Str × V)} {C : Addr} {b : Bool} (h : Xat H x D' fs) (T : ExC K D') (e : PySem.W.kitOne K (.ref D') (.ref C) = some b) (q : Q (.bl b) H) : rIsQ K [.ref x, .ref C] H Q := ⟨x, D', fs, .ref C, .ref C, b, rfl, h, T, .own C, e, q⟩
theorem r_isQ2 {x D' tp : Addr} {fs : List (Str × V)} {C1 C2 : Addr} (h : Xat H x D' fs) (T : ExC K D') (ht : H tp = some (.tup [.ref C1, .ref C2])) (e1 : PySem.W.kitOne K (.ref D') (.ref C1) = some false) (e2 : PySem.W.kitOne K (.ref D') (.ref C2) = some false)
    (q : Q (.bl false) H) : rIsQT K [.ref x, .ref tp] H Q := by
  refine ⟨x, D', tp, fs, [.ref C1, .ref C2], [.ref C1, .ref C2], false, rfl, h, T, ht, .cons (.own C1) (.cons (.own C2) .nil), ?_, q⟩
  unfold PySem.W.kitAny
  rw [e1]
  unfold PySem.W.kitAny
  rw [e2]
  rfl
theorem r_xq {te : TE} {n : Str} (h : te σ H fun x H1 => ∃ (a C dd : Addr) (fs : List (Str × V)) (v : V), x = .ref a ∧ H1 a = some (exq a (.ref C) (some dd)) ∧ H1 dd = some (.xd fs) ∧ ExC K C ∧ PySem.W.findIn K (.ref C) n = some none ∧ fs.lookup n = some v ∧ Q v H1) : tXq K n te σ H Q := h
/-- == [] -/
theorem r_eqNil {ds : List PyData} (h1 : SqL K H p xs) (h2 : SqL K H q []) (dp : DpAll K H xs ds) (c : PyData.canLayAll0 ds = true) (dd : PyData.depthAll ds ≤ 60) (h : Q (.bl xs.isEmpty) H) : rEqD K (.ref p) (.ref q) H Q := by
  refine ⟨.list ds, .list [], .lst h1 dp, .lst h2 .nil, ?_, rfl, ?_⟩
  · show (PyData.canLayAll0 ds && decide (PyData.depthAll ds + 1 ≤ 64)) = true
    rw [c, decide_eq_true (by omega)]
    rfl
  · have e : PyData.eqv (.list ds) (.list []) = xs.isEmpty := by
      cases dp with
      | nil => rfl
      | cons _ _ => rfl
    rw [e]
    exact h
/-- two alike lists of plain things -/
theorem r_neSame {ds : List PyData} (h1 : SqL K H p xs) (h2 : SqL K H q xs) (dp : DpAll K H xs ds) (c : PyData.canLayAll0 ds = true) (dd : PyData.depthAll ds ≤ 60) (h : Q (.bl false) H) : rNeD K (.ref p) (.ref q) H Q := by
  refine r_neDe (.lst h1 dp) (.lst h2 dp) ?_ h
  show (PyData.canLayAll0 ds && decide (PyData.depthAll ds + 1 ≤ 64)) = true
  rw [c, decide_eq_true (by omega)]
  rfl
end
/-- what a look at the place tells, as a list -/
def plV : Option V → List V
  | none => []
  | some v => [v]
theorem HP.pl {H : Hp} {x : V} {r : Option V} (h : HP H x r) (K : PySem.W.Frag) (H' : Hp) : ∃ ds, DpAll K H' (plV r) ds ∧ PyData.canLayAll0 ds = true ∧ PyData.depthAll ds ≤ 60 := by
  have d60 : (0 : Nat) ≤ 60 := by decide
  cases h with
  | kind h => exact ⟨_, .cons .non .nil, rfl, d60⟩
  | len e h => exact ⟨_, .cons .non .nil, rfl, d60⟩
  | floors h w => exact ⟨_, .cons (.str _) .nil, by decide +kernel, d60⟩
  | start h l u w => exact ⟨_, .cons (.str _) .nil, by decide +kernel, d60⟩
  | errK h l u w k => exact ⟨_, .cons (.str _) .nil, by decide +kernel, d60⟩
  | errL h l u w e m => exact ⟨_, .cons (.str _) .nil, by decide +kernel, d60⟩
  | err h l u w e m hi bad ok => exact ⟨_, .cons (.int _) .nil, rfl, d60⟩
  | ok h l u w e m ok => exact ⟨_, .nil, rfl, d60⟩
theorem pl_empty (r : Option V) : (plV r).isEmpty = r.isNone := by cases r <;> rfl
theorem pl_none {r : Option V} (h : (plV r).isEmpty = true) : r = none := by
  cases r with
  | none => rfl
  | some v => cases h
/-- a house's own make -/
theorem Hs.kn {B : Hp} {v : V} {fl st : Int} {c : Addr} {xs : List V} {most : Nat} (h : Hs B v fl st c xs most) (hm : most ≤ 40) : Kn B 40000 3 v := by
  obtain ⟨a, rfl, h1⟩ := h.at_
  have e1 := h.l2
  have e2 := h.u16
  have e3 := h.s0
  have e4 := h.s1
  have hl := Nat.le_trans h.len hm
  refine .tup h1 (m := 13000) (fun x hx => ?_) (by show 13001 * 3 ≤ 40000; decide)
  simp only [List.mem_cons, List.not_mem_nil, or_false] at hx
  rcases hx with rfl | rfl | rfl
  · exact kn_int (by omega) (by omega) (by decide)
  · exact kn_int (by omega) (by omega) (by decide)
  · exact .tup h.es (fun x hx => (h.all x hx).kn h.u16) (Nat.le_trans (Nat.mul_le_mul_left _ hl) (by decide))
theorem Hs.esKn {B : Hp} {v : V} {fl st : Int} {c : Addr} {xs : List V} {most : Nat} (h : Hs B v fl st c xs most) (hm : most ≤ 40) : Kn B 13000 2 (.ref c) :=
  .tup h.es (fun x hx => (h.all x hx).kn h.u16) (Nat.le_trans (Nat.mul_le_mul_left _ (Nat.le_trans h.len hm)) (by decide))

/-! ### classes -/
theorem exm_pair {K : PySem.W.Frag} {X Y : Addr} {b : Bool} (h1 : PySem.W.subIn K (.ref Y) (.type "BaseException") = some true) (h2 : PySem.W.isClsIn K Y = true) (h3 : PySem.W.typeIn K (.ref Y) = some (.type "type")) (h4 : PySem.W.subIn K (.ref X) (.ref Y) = some b) :
    PySem.W.exmOne K (.ref X) (.ref Y) = some b := by
  have e1 : (PySem.W.subIn K (.ref Y) (.type "BaseException") == some true) = true := by rw [h1] <;> rfl
  have e2 : ((PySem.W.clsIn K Y).isSome && PySem.W.typeIn K (.ref Y) == some (.type "type")) = true := by
    have h2' : (PySem.W.clsIn K Y).isSome = true := h2
    rw [h2', h3] <;> rfl
  show (if (PySem.W.subIn K (.ref Y) (.type "BaseException") == some true) = true then (if ((PySem.W.clsIn K Y).isSome && PySem.W.typeIn K (.ref Y) == some (.type "type")) = true then PySem.W.subIn K (.ref X) (.ref Y) else none) else none) = some b
  rw [if_pos e1, if_pos e2]
  exact h4
theorem kit_pair {K : PySem.W.Frag} {X Y : Addr} {b : Bool} (h1 : (Value.ref X == Value.ref Y) = false) (h2 : PySem.W.isClsIn K Y = true) (h3 : PySem.W.typeIn K (.ref Y) = some (.type "type")) (h4 : PySem.W.subIn K (.ref X) (.ref Y) = some b) :
    PySem.W.kitOne K (.ref X) (.ref Y) = some b := by
  have e2 : ((PySem.W.clsIn K Y).isSome && PySem.W.typeIn K (.ref Y) == some (.type "type")) = true := by
    have h2' : (PySem.W.clsIn K Y).isSome = true := h2
    rw [h2', h3] <;> rfl
  show (if (Value.ref X == Value.ref Y) = true then some true else (if ((PySem.W.clsIn K Y).isSome && PySem.W.typeIn K (.ref Y) == some (.type "type")) = true then PySem.W.subIn K (.ref X) (.ref Y) else none)) = some b
  rw [h1, if_pos e2]
  exact h4
theorem kit_self {K : PySem.W.Frag} {X : Addr} : PySem.W.kitOne K (.ref X) (.ref X) = some true := by
  have e : (Value.ref X == Value.ref X) = true := beq_self_eq_true _
  show (if (Value.ref X == Value.ref X) = true then some true else _) = some true
  rw [if_pos e]
theorem r_isN {H : Hp} {Q : VK} {x : V} (h : Q (.bl (decide (x = .non))) H) : V.non = .non ∧ Q (.bl (decide (x = .non))) H := ⟨rfl, h⟩
theorem r_notV {σ : L2.St} {H : Hp} {Q : VK} {ta : TE} (h : ta σ H fun x H1 => ∃ c, x = .bl c ∧ Q (.bl (!c)) H1) : tNotV ta σ H Q := h

/-! ### vast things -/
def VO (B : Hp) (x : V) : Prop := (∃ i, x = .int i ∧ (i < 0 ∨ 48 < i)) ∨ ∃ a q ys, x = .ref a ∧ B a = some (.tup [.ref q]) ∧ B q = some (.tup ys) ∧ ys.length ≤ 1
section
variable {B B' : Hp} {x : V} {l h fl : Int}
theorem VO.grow (s : Same B B') (v : VO B x) : VO B' x := v.imp id fun ⟨a, q, ys, e, h1, h2, h3⟩ => ⟨a, q, ys, e, s _ _ h1, s _ _ h2, h3⟩
theorem VO.nw (v : VO B x) (hl : 0 ≤ l) (hh : h ≤ 48) : Whole B x (.int l) (.int h) false := by
  rcases v with ⟨i, rfl, hi⟩ | ⟨a, q, ys, rfl, h1, _⟩
  · exact whole_f (by omega)
  · exact .inr ⟨.tup h1, rfl⟩
theorem VO.hp0 (v : VO B x) : HP B x (some .non) := by
  rcases v with ⟨i, rfl, hi⟩ | ⟨a, q, ys, rfl, h1, _⟩
  · exact .kind (.int i)
  · exact .len h1 (by show 1 ≠ 3; decide)
theorem VO.err (v : VO B x) : Errand B x fl false := by
  rcases v with ⟨i, rfl, hi⟩ | ⟨a, q, ys, rfl, h1, _⟩
  · exact .inr ⟨rfl, .inl (.int i)⟩
  · exact .inr ⟨rfl, .inr ⟨a, _, rfl, h1, by show 1 ≠ 2; decide⟩⟩
theorem VO.last (v : VO B x) {a : Addr} {s : V} (e : B a = some (.tup [.int fl, s, x])) (l2 : 2 ≤ fl) (u : fl ≤ 16) (w : Whole B s (.int 0) (.int (fl - 1)) true) : ∃ r, HP B (.ref a) (some r) := by
  rcases v with ⟨i, rfl, hi⟩ | ⟨b, q, ys, rfl, h1, h2, h3⟩
  · exact ⟨_, .errK e l2 u w (.int i)⟩
  · refine ⟨_, .err (i := 0) (y := .ref q) e l2 u w h1 (by show 1 ≤ 40; decide) rfl (.inr ⟨rfl, .inr ⟨q, ys, rfl, h2, by omega⟩⟩) fun j z hj => absurd hj (Nat.not_lt_zero _)⟩
theorem err_last {a c : Addr} {fl : Int} {s one : V} {ys : List V} (e : B a = some (.tup [.int fl, s, .ref c])) (l2 : 2 ≤ fl) (u : fl ≤ 16) (w : Whole B s (.int 0) (.int (fl - 1)) true) (e2 : B c = some (.tup (ys ++ [one]))) (hl : ys.length ≤ 9)
    (ho : Errand B one fl false) (hy : ∀ y ∈ ys, Erd B y fl) : HP B (.ref a) (some (.int (ys.length : Nat))) := by
  refine .err e l2 u w e2 (by rw [List.length_append]; show ys.length + 1 ≤ 40; omega) (List.getElem?_concat_length ..) ho fun j z hj hz => ?_
  rw [List.getElem?_append_left hj] at hz
  exact (hy z (List.mem_of_getElem? hz)).ok
end
end Og
namespace Og
open PySem PySem.Spec PyProof.Rows L2
/-! ### dict(enumerate(tuple)) -/
def enumK {α : Type} : Nat → List α → List (Key × α)
  | _, [] => []
  | i, x :: xs => (Sum.inl (i : Int), x) :: enumK (i + 1) xs
theorem enumK_length {α : Type} : ∀ (i : Nat) (xs : List α), (enumK i xs).length = xs.length
  | _, [] => rfl
  | i, x :: xs => congrArg (· + 1) (enumK_length (i + 1) xs)
theorem enumK_mem {α : Type} : ∀ {i : Nat} {xs : List α} {q : Key × α}, q ∈ enumK i xs → q.2 ∈ xs ∧ ∃ j : Nat, q.1 = Sum.inl (j : Int) ∧ i ≤ j ∧ j < i + xs.length
  | i, x :: xs, q, h => by
    rcases List.mem_cons.mp h with rfl | h
    · exact ⟨List.mem_cons_self, i, rfl, Nat.le_refl _, by rw [List.length_cons]; omega⟩
    · obtain ⟨h1, j, h2, h3, h4⟩ := enumK_mem h
      exact ⟨List.mem_cons_of_mem _ h1, j, h2, by omega, by rw [List.length_cons]; omega⟩
theorem enumK_nodup {α : Type} : ∀ (i : Nat) (xs : List α), ((enumK i xs).map Prod.fst).Nodup
  | _, [] => List.nodup_nil
  | i, x :: xs => by
    refine List.nodup_cons.mpr ⟨fun h => ?_, enumK_nodup (i + 1) xs⟩
    obtain ⟨q, hq, e⟩ := List.mem_map.mp h
    obtain ⟨_, j, e2, h3, _⟩ := enumK_mem hq
    rw [e2] at e
    have := Sum.inl.inj e
    omega
theorem enumK_kv : ∀ (i : Nat) {xs : List V} {us : List Value}, Vals xs us → KV (enumK i xs) (enumK i us)
  | _, [], _, h => by cases h; exact .nil
  | i, x :: xs, _, h => by
    cases h with
    | cons h1 h2 => exact .cons ⟨rfl, h1⟩ (enumK_kv (i + 1) h2)
theorem enumK_get {α : Type} : ∀ (i : Nat) (xs : List α) (j : Nat) (x : α), xs[j]? = some x → (enumK i xs)[j]? = some (Sum.inl ((i + j : Nat) : Int), x)
  | i, y :: ys, 0, x, h => by
    cases h
    rfl
  | i, y :: ys, j + 1, x, h => by
    show (enumK (i + 1) ys)[j]? = _
    rw [enumK_get (i + 1) ys j x h]
    have : i + 1 + j = i + (j + 1) := by omega
    rw [this]
/-- a dict of things by their numbers -/
theorem enumK_kn {B : Hp} {a : Addr} {xs : List V} (e : B a = some (.dK (enumK 0 xs))) (h : ∀ x ∈ xs, Kn B 300 1 x) (hl : xs.length ≤ 40) : Kn B 42000 4 (.ref a) := by
  refine Kn.le (.dK (n := 42000) (k := 1) (m := 300) e (fun q hq => h _ (enumK_mem hq).1) (fun q hq => ?_) ?_) (Nat.le_refl _) (by decide)
  · obtain ⟨_, j, e1, _, hj⟩ := enumK_mem hq
    rw [e1]
    have : (j : Int).natAbs < 64 := by omega
    exact Sm.int (Nat.lt_trans this (by decide)) (by decide)
  · rw [enumK_length]
    exact Nat.le_trans (Nat.mul_le_mul_left _ hl) (by decide)
def tDictEnumT (K : PySem.W.Frag) (te : TE) : TE := fun σ H Q => te σ H fun x H1 => ∃ a xs, x = .ref a ∧ SqT K H1 a xs ∧ xs.length ≤ 1000 ∧ New Q H1 (.dK (enumK 0 xs))
/-! enumerate over what draws (a tuple's iterator), the tuple it gave out last still being held -/
section
open PySem
theorem enum_next_heldD {prog : Program} {w : World} {A : Around} {E : Value → Shared → Prop} {s : Shared} {e it T : Addr} {fp : List Addr} {n i : Nat} {P : Nat → Value → Prop} {St : Nat → Heap → Prop} {old : Value} {f : Bool} {oT : Obj} {Q : Value → Shared → Prop}
    (D : Draws prog w A it fp n P St) (he : IsEnumHeld s.heap e it i old T f) (hT : s.heap.get? T = some oT) (hTe : T ≠ e) (hTi : T ≠ it) (hst : St i s.heap) (hlt : i < n) (hne : e ≠ it) (hef : e ∉ fp)
    (hQ : ∀ x h' tk, P i x → IsEnumHeld h' e it ((i : Int) + 1) old T true → St (i + 1) h' → h'.get? s.heap.objs.size = some { cls := .type "tuple", data := .seq #[.int i tk, x] } → h'.objs.size = s.heap.objs.size + 1 →
      (∀ b o, b ≠ e → b ≠ it → s.heap.get? b = some o → h'.get? b = some o) → Q (.ref s.heap.objs.size) { s with heap := h', toks := tk + 1 }) :
    wpAny (model prog w) A (Builtin.«enumerate.__next__» ⟨[.ref e], []⟩) (fun fin s' => ∃ v, fin = .done (.ret v) ∧ Q v s') E s := by
  obtain ⟨hp, g, d, tk0, os⟩ := s
  show wpAny _ _ (field (.ref e) 2 >>= _) _ _ _
  refine wpAny_bind (wpAny_field he rfl (x := .ref it) rfl ?_)
  refine wpAny_bind (D.item i ⟨hp, g, d, tk0, os⟩ _ _ hlt hst fun x h1 tk hPx st1 k1 => ?_)
  replace k1 : Heap.SameBut it hp h1 := k1
  have a1 : IsEnumHeld h1 e it i old T f := (k1.2 e hne).trans he
  show wpAny _ _ (field (.ref e) 3 >>= _) _ _ ⟨h1, g, d, tk, os⟩
  refine wpAny_bind (wpAny_field a1 rfl (x := rawInt i) rfl ?_)
  show wpAny _ _ (field (.ref e) 4 >>= _) _ _ ⟨h1, g, d, tk, os⟩
  refine wpAny_bind (wpAny_field a1 rfl (x := .none) rfl ?_)
  show wpAny _ _ (mkInt i >>= _) _ _ ⟨h1, g, d, tk, os⟩
  refine wpAny_bind (wpAny_mkInt ?_)
  show wpAny _ _ (setField (.ref e) 3 (rawInt ((i : Int) + 1)) >>= _) _ _ ⟨h1, g, d, tk + 1, os⟩
  refine wpAny_bind (wpAny_setField_rec a1 (by simp) fun h2 a2 k2 => ?_)
  replace k2 : Heap.SameBut e h1 h2 := k2
  replace a2 : IsEnumHeld h2 e it ((i : Int) + 1) old T f := a2
  show wpAny _ _ (setField (.ref e) 4 .none >>= _) _ _ ⟨h2, g, d, tk + 1, os⟩
  refine wpAny_bind (wpAny_setField_rec a2 (by simp) fun h3 a3 k3 => ?_)
  replace k3 : Heap.SameBut e h2 h3 := k3
  replace a3 : IsEnumHeld h3 e it ((i : Int) + 1) old T f := a3
  show wpAny _ _ (newTuple [.int i tk, x] >>= _) _ _ ⟨h3, g, d, tk + 1, os⟩
  refine wpAny_bind (wpAny_newTuple ?_)
  have a4 : IsEnumHeld (h3.push { cls := .type "tuple", data := .seq #[.int i tk, x] }) e it ((i : Int) + 1) old T f := Heap.get?_push_of_some _ a3
  have st3 : St (i + 1) (h3.push { cls := .type "tuple", data := .seq #[.int i tk, x] }) := D.frame _ _ _ st1 fun b hb o y => by
    have hbe : b ≠ e := fun q => hef (q ▸ hb)
    exact Heap.get?_push_of_some _ (k3.extBut b o hbe (k2.extBut b o hbe y))
  generalize hh4 : h3.push { cls := .type "tuple", data := .seq #[.int i tk, x] } = h4 at a4 st3
  have hsz : h3.objs.size = hp.objs.size := by rw [k3.1, k2.1, k1.1]
  have hel : e < hp.objs.size := Heap.lt_size he
  have t4 : h4.get? hp.objs.size = some { cls := .type "tuple", data := .seq #[.int i tk, x] } := by
    rw [← hh4, ← hsz]
    exact Heap.get?_push_size _ rfl
  have z4 : h4.objs.size = hp.objs.size + 1 := by rw [← hh4, Heap.size_push, hsz]
  have k4 : ∀ b o, b ≠ e → b ≠ it → hp.get? b = some o → h4.get? b = some o := fun b o hbe hbi hb => by
    rw [← hh4]
    exact Heap.get?_push_of_some _ (k3.extBut b o hbe (k2.extBut b o hbe (k1.extBut b o hbi hb)))
  show wpAny _ _ (Builtin.SmallTypes.ownedTupleIsFree (.ref e) >>= _) _ _ ⟨h4, g, d, tk + 1, os⟩
  rw [hsz]
  refine wpAny_bind (wpAny_tupleHeld_enum (s := ⟨h4, g, d, tk + 1, os⟩) a4 (k4 T oT hTe hTi hT) fun h5 a5 k5 => ?_)
  replace k5 : Heap.SameBut e h4 h5 := k5
  simp only [Bool.false_eq_true, if_false]
  refine wpAny_pure ⟨_, rfl, hQ x h5 tk hPx a5 (D.frame _ _ _ st3 fun b hb o y => k5.extBut b o (fun q => hef (q ▸ hb)) y) (k5.extBut _ _ (Nat.ne_of_gt hel) t4) ?_ fun b o hbe hbi hb => k5.extBut b o hbe (k4 b o hbe hbi hb)⟩
  show h5.objs.size = hp.objs.size + 1
  rw [k5.1, z4]
theorem pyNext_enum_heldD {prog : Program} {w : World} {A : Around} {E : Value → Shared → Prop} {s : Shared} {e it T : Addr} {fp : List Addr} {n i : Nat} {P : Nat → Value → Prop} {St : Nat → Heap → Prop} {old : Value} {f : Bool} {oT : Obj} {Q : Option Value → Shared → Prop}
    (D : Draws prog w A.in1 it fp n P St) (he : IsEnumHeld s.heap e it i old T f) (hT : s.heap.get? T = some oT) (hTe : T ≠ e) (hTi : T ≠ it) (hst : St i s.heap) (hlt : i < n) (hne : e ≠ it) (hef : e ∉ fp)
    (hQ : ∀ x h' tk, P i x → IsEnumHeld h' e it ((i : Int) + 1) old T true → St (i + 1) h' → h'.get? s.heap.objs.size = some { cls := .type "tuple", data := .seq #[.int i tk, x] } → h'.objs.size = s.heap.objs.size + 1 →
      (∀ b o, b ≠ e → b ≠ it → s.heap.get? b = some o → h'.get? b = some o) → Q (some (.ref s.heap.objs.size)) { s with heap := h', toks := tk + 1 }) :
    wpAny (model prog w) A (pyNext (.ref e)) Q E s := by
  have ty : s.TypeIs (.ref e) "enumerate" := ⟨_, he, rfl⟩
  unfold pyNext
  exact wpAny_bind (wpAny_attempt (wpAny_callSpecial?_slot (name := Str.ofString "__next__") ty F.slot_enumerate_next
    (wpAny_call_entry F.slot_enumerate_next ty F.entry_enumerate_next
      (enum_next_heldD D he hT hTe hTi hst hlt hne hef fun x h' tk b0 b1 b2 b3 b4 b5 => wpAny_pure (hQ x h' tk b0 b1 b2 b3 b4 b5)) (F.args_enumerate_next_1 _))))
theorem pyNext_enum_end_heldD {prog : Program} {w : World} {A : Around} {E : Value → Shared → Prop} {s : Shared} {e it T : Addr} {fp : List Addr} {n : Nat} {P : Nat → Value → Prop} {St : Nat → Heap → Prop} {i : Int} {old : Value} {f : Bool} {Q : Option Value → Shared → Prop}
    (D : Draws prog w A.in1 it fp n P St) (he : IsEnumHeld s.heap e it i old T f) (hst : St n s.heap) (hQ : ∀ h', Heap.ExtBut it s.heap h' → Q none { s with heap := h' }) : wpAny (model prog w) A (pyNext (.ref e)) Q E s := by
  have ty : s.TypeIs (.ref e) "enumerate" := ⟨_, he, rfl⟩
  unfold pyNext
  refine wpAny_bind (wpAny_attempt (wpAny_callSpecial?_slot (name := Str.ofString "__next__") ty F.slot_enumerate_next
    (wpAny_call_entry F.slot_enumerate_next ty F.entry_enumerate_next ?_ (F.args_enumerate_next_1 _))))
  show wpAny _ _ (field (.ref e) 2 >>= _) _ _ _
  refine wpAny_bind (wpAny_field he rfl (x := .ref it) rfl ?_)
  refine wpAny_bind (D.done _ _ _ hst fun h' x k hx => ?_)
  obtain ⟨o, ho, hc⟩ := hx
  refine wpAny_bind (wpAny_isInstance (T := "StopIteration") (b := true) ⟨o, ho, hc⟩ isSubtype_stop ?_)
  exact wpAny_pure (hQ _ k)
/-- enumerate(tuple) as what dict() is made of -/
theorem pairArg_enumT {prog : Program} {w : World} (e it l : Addr) (hei : e ≠ it) (hle : l ≠ e) (hli : l ≠ it) (items : Array Value) :
    PairArg prog w "enumerate" e [e, it, l] [e, it] items.size (fun i k v => (∃ t, k = .int i t) ∧ items[i]? = some v)
      (fun h => (∃ old, IsEnum h e it 0 old) ∧ h.IsTupleIter it l 0 ∧ h.IsTuple l items) where
  type := fun s ok => let ⟨⟨_, he⟩, _⟩ := ok; ⟨_, he, rfl⟩
  notDict := by decide
  keep := fun h h' ok hk => by
    obtain ⟨⟨old, he⟩, hit, hl⟩ := ok
    exact ⟨⟨old, hk _ _ he⟩, hit.at fun o x => hk _ o x, hl.at fun o x => hk _ o x⟩
  there := fun h ok b hb => by
    obtain ⟨⟨old, he⟩, ⟨o1, h1, _⟩, ⟨o2, h2, _⟩⟩ := ok
    simp only [List.mem_cons, List.not_mem_nil, or_false] at hb
    rcases hb with rfl | rfl | rfl
    all_goals first | exact ⟨_, he⟩ | exact ⟨_, h1⟩ | exact ⟨_, h2⟩
  sub := fun b hb => by
    simp only [List.mem_cons, List.not_mem_nil, or_false] at hb ⊢
    rcases hb with rfl | rfl
    · exact .inl rfl
    · exact .inr (.inl rfl)
  noKeys := fun A s Q E hA ok h => let ⟨⟨_, he⟩, _⟩ := ok; getAttrOr_miss_enumerate he rfl rfl rfl enumerate_no_keys (by decide +kernel) hA h
  iter := fun A s d Q E hA ok hd hdf h => by
    obtain ⟨⟨old, he⟩, hit, hl⟩ := ok
    simp only [List.mem_cons, List.not_mem_nil, or_false, not_or] at hdf
    obtain ⟨de, dit, dl⟩ := hdf
    have D := Draws.tuple (prog := prog) (w := w) (A := A.in1) hA it l hli items
    have hef : e ∉ [it, l] := by simp [hei, Ne.symm hle]
    refine wpAny_pyIter_enum he (h e [e, it] (fun i h => (h.IsTupleIter it l i ∧ h.IsTuple l items) ∧ ((∃ old, IsEnum h e it i old) ∨ ∃ old T f oT, IsEnumHeld h e it i old T f ∧ h.get? T = some oT ∧ T ≠ e ∧ T ≠ it ∧ T ≠ d)) s.heap s.toks ?_
      ⟨⟨hit, hl⟩, .inl ⟨old, he⟩⟩ (fun _ _ e => e) fun b hb => .inl hb)
    exact {
      off := fun hm => by
        simp only [List.mem_cons, List.not_mem_nil, or_false] at hm
        exact hm.elim de dit
      frame := fun i h₁ h₂ st hk => by
        obtain ⟨st, he⟩ := st
        refine ⟨D.frame _ _ _ st fun b hb o x => hk b o (fun z => ?_) x, ?_⟩
        · simp only [List.mem_cons, List.not_mem_nil, or_false] at hb
          rcases hb with q | q
          · exact dit (z.symm.trans q)
          · exact dl (z.symm.trans q)
        · rcases he with ⟨old, he⟩ | ⟨old, T, f, oT, he, hT, r1, r2, r3⟩
          · exact .inl ⟨old, hk _ _ (Ne.symm de) he⟩
          · exact .inr ⟨old, T, f, oT, hk _ _ (Ne.symm de) he, hk _ _ r3 hT, r1, r2, r3⟩
      item := fun i s₁ Q₁ E₁ hi st hds hQ => by
        obtain ⟨st, he⟩ := st
        have ec : ((i + 1 : Nat) : Int) = (i : Int) + 1 := by omega
        have nit : s₁.heap.objs.size ≠ it := let ⟨_, x, _⟩ := st.1; Nat.ne_of_gt (Heap.lt_size x)
        rcases he with ⟨old, he⟩ | ⟨old, T, f, oT, he, hT, r1, r2, r3⟩
        · refine wpAny_pyNext_enum_itemD D he st hi hei hef fun x h' tk px ho st' hT hsz hk => ?_
          exact hQ s₁.heap.objs.size _ _ h' (tk + 1) ⟨⟨_, rfl⟩, px⟩ (.inl ⟨_, hT, rfl, _, rfl⟩)
            ⟨st', .inr ⟨_, s₁.heap.objs.size, false, _, (by rw [ec]; exact ho), hT, Nat.ne_of_gt (Heap.lt_size he), nit, Nat.ne_of_gt hds⟩⟩
            fun b o hb x => hk b o (fun y => hb (by simp [y])) (fun y => hb (by simp [y])) x
        · refine pyNext_enum_heldD D he hT r1 r2 st hi hei hef fun x h' tk px ho st' hT' hsz hk => ?_
          exact hQ s₁.heap.objs.size _ _ h' (tk + 1) ⟨⟨_, rfl⟩, px⟩ (.inl ⟨_, hT', rfl, _, rfl⟩)
            ⟨st', .inr ⟨old, T, true, oT, (by rw [ec]; exact ho), hk _ _ r1 r2 hT, r1, r2, r3⟩⟩
            fun b o hb x => hk b o (fun y => hb (by simp [y])) (fun y => hb (by simp [y])) x
      done := fun s₁ Q₁ E₁ st hQ => by
        obtain ⟨st, he⟩ := st
        rcases he with ⟨old, he⟩ | ⟨old, T, f, oT, he, hT, r1, r2, r3⟩
        · exact wpAny_pyNext_enum_endD D he st fun h' hk => hQ h' s₁.toks fun b o hb x => hk b o (fun y => hb (by simp [y])) x
        · exact pyNext_enum_end_heldD D he st fun h' hk => hQ h' s₁.toks fun b o hb x => hk b o (fun y => hb (by simp [y])) x }
end
theorem pe_dictEnumT {X : Cx} {K : PySem.W.Frag} {j : Nat} {e : Expr} {te : TE} {p p2 pos pos2 : Pos} (hK : X.K = K) (hr : Room j X.A) (hg : Gl X "dict") (hm : X.mg "dict" = none) (hg2 : Gl X "enumerate") (hm2 : X.mg "enumerate" = none) (he : PE X e te)
    (hs : starEach [e] X.env = [(false, eval e X.env)] := by rfl) (hs2 : starEach [.Call (.Name "enumerate" p2) [e] [] pos2] X.env = [(false, eval (.Call (.Name "enumerate" p2) [e] [] pos2) X.env)] := by rfl) :
    PE X (.Call (.Name "dict" p) [.Call (.Name "enumerate" p2) [e] [] pos2] [] pos) (tDictEnumT K te) := by
  subst hK
  refine ⟨fun pins s σ H Q I h => ?_⟩
  refine PySem.Call_name1 hs2 (ld_blt I hg hm PyProof.Rows.boot_dict ?_ (by decide) (by decide))
  refine PySem.callWith_type1 ?_
  refine PySem.Call_name1 hs (ld_blt I hg2 hm2 boot_enumerate ?_ (by decide) (by decide))
  refine PySem.callWith_type1 (thn (he.run pins s σ H _ I h) fun u s1 ⟨x, H1, I1, r1, a, xs, ex, hq, hl, q⟩ => ?_)
  subst ex
  cases r1
  obtain ⟨its, rv, p', hz⟩ := I1.tuple hq
  have hlen := rv.length
  refine enum_begins1 (begins_tuple a its.toArray) p' fun h' hE hit hsz hk => ?_
  have hal : a < s1.heap.objs.size := by
    obtain ⟨o, ho, _⟩ := p'
    exact Heap.lt_size ho
  have hli : a ≠ s1.heap.objs.size := Nat.ne_of_lt hal
  have hle : a ≠ s1.heap.objs.size + 1 := Nat.ne_of_lt (Nat.lt_succ_of_lt hal)
  have hei : s1.heap.objs.size + 1 ≠ s1.heap.objs.size := Nat.succ_ne_self _
  have pT : h'.IsTuple a its.toArray := by
    obtain ⟨o, ho, r⟩ := p'
    exact ⟨o, hk _ _ ho, r⟩
  refine call_dict_pairs (s := { s1 with heap := h' }) (knd := mixKind X.prog X.w) (kvs := enumK 0 its) (pairArg_enumT (s1.heap.objs.size + 1) s1.heap.objs.size a hei hle hli its.toArray) hr.hd ⟨⟨.none, hE⟩, ⟨_, hit, rfl, rfl⟩, pT⟩ ?_ ?_ fun h2 tk hD hkeep => ?_
  · refine ⟨by rw [enumK_length, List.size_toArray], fun i key v hrel => ?_⟩
    obtain ⟨⟨t, rfl⟩, hv⟩ := hrel
    refine ⟨Sum.inl ((0 + i : Nat) : Int), enumK_get 0 its i v (by simpa using hv), ?_⟩
    rw [Nat.zero_add]
    exact kV_is (k := Sum.inl (i : Int)) ⟨t, rfl⟩
  · rw [List.size_toArray, ← hlen]
    exact Nat.le_trans hl (by decide)
  · have hm : merged [] (enumK 0 its) = enumK 0 its := merged_append_of_fresh [] _ (enumK_nodup 0 its)
    rw [hm] at hD
    have hs2' : h'.objs.size = s1.heap.objs.size + 2 := hsz
    have hns : (h'.objs.size == sysModules) = false := by
      rw [hs2']
      exact beq_eq_false_iff_ne.mpr (show s1.heap.objs.size + 2 ≠ 1 by omega)
    have kk : ∀ b u, s1.heap.get? b = some u → h2.get? b = some u := fun b u e => hkeep b u (fun hmem => by
      have hb := Heap.lt_size e
      simp only [List.mem_cons, List.not_mem_nil, or_false] at hmem
      rcases hmem with z | z <;> rw [z] at hb
      · exact Nat.lt_irrefl _ (Nat.lt_of_succ_lt hb)
      · exact Nat.lt_irrefl _ hb) (hk b u e)
    have hp : s1.heap.objs.size ≤ h'.objs.size := by rw [hs2']; exact Nat.le_add_right _ _
    exact ⟨.ref h'.objs.size, _, I1.laid (t' := tk) (a := h'.objs.size) (o := .dK (enumK 0 xs)) kk hp ⟨by rw [enumK_length]; exact Nat.le_trans hl (by decide), hns, _, enumK_kv 0 rv, hD⟩, rfl, q _ (I1.hok.fresh hp)⟩
theorem r_dictEnumT {K : PySem.W.Frag} {σ : L2.St} {H : Hp} {Q : VK} {te : TE} (h : te σ H fun x H1 => ∃ a xs, x = .ref a ∧ SqT K H1 a xs ∧ xs.length ≤ 1000 ∧ New Q H1 (.dK (enumK 0 xs))) : tDictEnumT K te σ H Q := h
end Og
namespace Os
open PySem PySem.Spec PyProof.Rows L2 Og
/-- all that needs no choice -/
local macro_rules | `(tactic| walk_at "og") => `(tactic| repeat' (first
  | (with_reducible refine Og.r_seq ?_) | (with_reducible refine Og.r_asg ?_) | (with_reducible refine Og.r_name ?_)
  | ((with_reducible refine' Og.r_var ?e ?_); (case e => rfl)) | (with_reducible refine Og.r_c ?_) | (with_reducible refine Og.r_op ?_) | (with_reducible refine Og.r_un ?_)
  | (with_reducible refine Og.r_I0 ?_) | (with_reducible refine Og.r_ret ?_) | (with_reducible refine Og.r_drop ?_) | (with_reducible refine Og.r_ifS ?_) | (with_reducible refine Og.r_next ?_)
  | (with_reducible refine Og.r_test ?_) | (with_reducible refine Og.r_tB ?_) | (with_reducible refine Og.r_bl ?_) | (with_reducible refine Og.r_not ?_) | (with_reducible refine Og.r_or ?_)
  | (with_reducible refine Og.r_and ?_) | (with_reducible refine Og.r_if ?_)
  | (with_reducible refine Og.r_nil ?_) | (with_reducible refine Og.r_cons ?_) | (with_reducible refine Og.r_cb ?_) | (with_reducible refine Og.r_g ?_) | (with_reducible refine Og.r_lst ?_)
  | (with_reducible refine Og.r_tup ?_) | (with_reducible refine Og.r_dget ?_) | (with_reducible refine Og.r_par ?_) | (with_reducible refine Og.r_par2 ?_)
  | (with_reducible refine Og.r_dictEnumT ?_) | (with_reducible refine Og.r_notV ?_) | (with_reducible refine Og.r_itup ?_) | (with_reducible refine Og.r_xq ?_) | (with_reducible refine Og.r_par3 ?_) | (with_reducible refine Og.r_par33 ?_) | (with_reducible refine Og.r_gS ?_) | (with_reducible refine Og.r_ienumT ?_) | (with_reducible refine Og.r_rs ?_)
  | (with_reducible refine Og.r_eqI ?_) | (with_reducible refine Og.r_neI ?_) | (with_reducible refine Og.r_rfl ?_) | (with_reducible refine Og.r_gcons ?_) | (with_reducible refine Og.r_gnil ?_) | (with_reducible refine Og.r_for ?_) | (with_reducible refine Og.r_rng1 ?_) | (with_reducible refine Og.r_ilist ?_) | (with_reducible refine Og.r_lc ?_) | (with_reducible refine Og.r_tYes ?_) | (with_reducible refine Og.r_bm ?_) | (with_reducible refine Og.r_sl ?_) | (with_reducible refine Og.r_np ?_) | (with_reducible refine Og.r_pt ?_) | (with_reducible refine Og.r_int ?_) | (with_reducible refine Og.r_dput ?_) | (with_reducible refine Og.r_pn ?_) | (with_reducible refine Og.r_pc ?_) | (with_reducible refine Og.r_dnew ?_)
  | ((with_reducible refine Og.r_ifT ?e ?_); (case e => rfl)) | ((with_reducible refine Og.r_ifF ?e ?_); (case e => rfl)) | fail))
/-- the same, but it halts at an if -/
local macro_rules | `(tactic| walk_at "oj") => `(tactic| repeat' (first
  | (with_reducible refine Og.r_seq ?_) | (with_reducible refine Og.r_asg ?_) | (with_reducible refine Og.r_name ?_)
  | ((with_reducible refine' Og.r_var ?e ?_); (case e => rfl)) | (with_reducible refine Og.r_c ?_) | (with_reducible refine Og.r_op ?_) | (with_reducible refine Og.r_un ?_)
  | (with_reducible refine Og.r_I0 ?_) | (with_reducible refine Og.r_ret ?_) | (with_reducible refine Og.r_drop ?_) | (with_reducible refine Og.r_next ?_)
  | (with_reducible refine Og.r_test ?_) | (with_reducible refine Og.r_tB ?_) | (with_reducible refine Og.r_bl ?_) | (with_reducible refine Og.r_not ?_) | (with_reducible refine Og.r_or ?_)
  | (with_reducible refine Og.r_and ?_) 
  | (with_reducible refine Og.r_nil ?_) | (with_reducible refine Og.r_cons ?_) | (with_reducible refine Og.r_cb ?_) | (with_reducible refine Og.r_g ?_) | (with_reducible refine Og.r_lst ?_)
  | (with_reducible refine Og.r_tup ?_) | (with_reducible refine Og.r_dget ?_) | (with_reducible refine Og.r_par ?_) | (with_reducible refine Og.r_par2 ?_)
  | (with_reducible refine Og.r_dictEnumT ?_) | (with_reducible refine Og.r_notV ?_) | (with_reducible refine Og.r_itup ?_) | (with_reducible refine Og.r_xq ?_) | (with_reducible refine Og.r_par3 ?_) | (with_reducible refine Og.r_par33 ?_) | (with_reducible refine Og.r_gS ?_) | (with_reducible refine Og.r_ienumT ?_) | (with_reducible refine Og.r_rs ?_)
  | (with_reducible refine Og.r_eqI ?_) | (with_reducible refine Og.r_neI ?_) | (with_reducible refine Og.r_rfl ?_) | (with_reducible refine Og.r_gcons ?_) | (with_reducible refine Og.r_gnil ?_) | (with_reducible refine Og.r_for ?_) | (with_reducible refine Og.r_rng1 ?_) | (with_reducible refine Og.r_ilist ?_) | (with_reducible refine Og.r_lc ?_) | (with_reducible refine Og.r_tYes ?_) | (with_reducible refine Og.r_bm ?_) | (with_reducible refine Og.r_sl ?_) | (with_reducible refine Og.r_np ?_) | (with_reducible refine Og.r_pt ?_) | (with_reducible refine Og.r_int ?_) | (with_reducible refine Og.r_dput ?_) | (with_reducible refine Og.r_pn ?_) | (with_reducible refine Og.r_pc ?_) | (with_reducible refine Og.r_dnew ?_)
  | ((with_reducible refine Og.r_ifT ?e ?_); (case e => rfl)) | ((with_reducible refine Og.r_ifF ?e ?_); (case e => rfl)) | fail))

/-! ### the text by places -/
def topS (i : Nat) : Stmt := PySem.Challenge.pw_oneseat_k03_houses_by_form.main.body.getD i (.Pass ⟨0, 0, 0, 0⟩)
abbrev sis_whole : Stmt := topS 8
theorem sc_is_whole : FnScope ["thing", "least", "most"] ["thing", "least", "most"] (defScope sis_whole) := ⟨rfl, rfl, rfl, by decide +kernel, rfl, by decide +kernel, by decide +kernel⟩
abbrev sis_errand : Stmt := topS 9
theorem sc_is_errand : FnScope ["thing", "floors", "begin", "steps"] ["thing", "floors"] (defScope sis_errand) := ⟨rfl, rfl, rfl, by decide +kernel, rfl, by decide +kernel, by decide +kernel⟩
abbrev sneed_house : Stmt := topS 12
theorem sc_need_house : FnScope ["house", "floors", "start", "errands", "number", "errand"] ["house"] (defScope sneed_house) := ⟨rfl, rfl, rfl, by decide +kernel, rfl, by decide +kernel, by decide +kernel⟩
abbrev sis_house : Stmt := topS 11
theorem sc_is_house : FnScope ["thing"] ["thing"] (defScope sis_house) := ⟨rfl, rfl, rfl, by decide +kernel, rfl, by decide +kernel, by decide +kernel⟩
abbrev s_law_begin : Stmt := topS 14
theorem sc__law_begin : FnScope ["script"] ["script"] (defScope s_law_begin) := ⟨rfl, rfl, rfl, by decide +kernel, rfl, by decide +kernel, by decide +kernel⟩
abbrev s_law_mixed : Stmt := topS 15
theorem sc__law_mixed : FnScope ["cell", "k", "number"] ["cell", "k"] (defScope s_law_mixed) := ⟨rfl, rfl, rfl, by decide +kernel, rfl, by decide +kernel, by decide +kernel⟩
abbrev s_law_next : Stmt := topS 16
theorem sc__law_next : FnScope ["draw", "many", "found", "cells", "cell"] ["draw", "many"] (defScope s_law_next) := ⟨rfl, rfl, rfl, by decide +kernel, rfl, by decide +kernel, by decide +kernel⟩
abbrev s_law_errand : Stmt := topS 17
theorem sc__law_errand : FnScope ["draw", "floors", "steps"] ["draw", "floors"] (defScope s_law_errand) := ⟨rfl, rfl, rfl, by decide +kernel, rfl, by decide +kernel, by decide +kernel⟩
abbrev s_law_way : Stmt := topS 18
theorem sc__law_way : FnScope ["draw", "floors", "begin", "left", "found", "steps"] ["draw", "floors"] (defScope s_law_way) := ⟨rfl, rfl, rfl, by decide +kernel, rfl, by decide +kernel, by decide +kernel⟩
abbrev s_law_house : Stmt := topS 19
theorem sc__law_house : FnScope ["draw", "floors", "many", "way", "start", "found", "k", "at"] ["draw", "floors", "many"] (defScope s_law_house) := ⟨rfl, rfl, rfl, by decide +kernel, rfl, by decide +kernel, by decide +kernel⟩
abbrev s_law_is_within : Stmt := topS 21
theorem sc__law_is_within : FnScope ["what", "low", "high"] ["what", "low", "high"] (defScope s_law_is_within) := ⟨rfl, rfl, rfl, by decide +kernel, rfl, by decide +kernel, by decide +kernel⟩
abbrev s_law_place : Stmt := topS 20
theorem sc__law_place : FnScope ["what", "number", "one"] ["what"] (defScope s_law_place) := ⟨rfl, rfl, rfl, by decide +kernel, rfl, by decide +kernel, by decide +kernel⟩
abbrev s_law_odd : Stmt := topS 22
theorem sc__law_odd : FnScope ["draw", "some"] ["draw"] (defScope s_law_odd) := ⟨rfl, rfl, rfl, by decide +kernel, rfl, by decide +kernel, by decide +kernel⟩
abbrev s_law_bent : Stmt := topS 23
theorem sc__law_bent : FnScope ["draw", "base", "floors", "start", "errands", "at", "way", "odd", "many", "begin", "steps", "some"] ["draw", "base"] (defScope s_law_bent) := ⟨rfl, rfl, rfl, by decide +kernel, rfl, by decide +kernel, by decide +kernel⟩
abbrev s_law_said : Stmt := topS 24
theorem sc__law_said : FnScope ["what", "caught", "found", "e"] ["what"] (defScope s_law_said) := ⟨rfl, rfl, rfl, by decide +kernel, rfl, by decide +kernel, by decide +kernel⟩
abbrev s_law_vast_right : Stmt := topS 25
theorem sc__law_vast_right : FnScope ["base", "deep", "great", "k", "floors", "start", "errands", "odd", "what", "one"] ["base"] (defScope s_law_vast_right) := ⟨rfl, rfl, rfl, by decide +kernel, rfl, by decide +kernel, by decide +kernel⟩
abbrev slaw : Stmt := topS 26
theorem sc_law : FnScope ["script", "draw", "turn", "base", "some", "other", "what", "due", "stays", "again", "told"] ["script"] (defScope slaw) := ⟨rfl, rfl, rfl, by decide +kernel, rfl, by decide +kernel, by decide +kernel⟩
abbrev sBadHouse_init : Stmt := (match topS 2 with | .ClassDef (body := b) .. => b | _ => []).getD 0 (.Pass ⟨0, 0, 0, 0⟩)
theorem sc_BadHouse_init : FnScope ["self", "place"] ["self", "place"] (defScope sBadHouse_init) := ⟨rfl, rfl, rfl, by decide +kernel, rfl, by decide +kernel, by decide +kernel⟩
/-- where the classes stand -/
structure Cl where
  RideError : Addr
  BadHouse : Addr
  BadErrand : Addr
  BadNumber : Addr
/-- what the module's names hold -/
structure Txt (K : PySem.W.Frag) (mg : Str → Option Value) (c : Cl) : Prop where
  g_RideError : mg "RideError" = some (.ref c.RideError)
  g_BadHouse : mg "BadHouse" = some (.ref c.BadHouse)
  g_BadErrand : mg "BadErrand" = some (.ref c.BadErrand)
  g_BadNumber : mg "BadNumber" = some (.ref c.BadNumber)
  b_RideError : BiC K c.RideError
  x_BadHouse : ExC K c.BadHouse
  n_BadHouse : PySem.W.findIn K (.ref c.BadHouse) "place" = some none
  em_BadHouse_BadHouse : PySem.W.exmOne K (.ref c.BadHouse) (.ref c.BadHouse) = some true
  em_BadHouse_RideError : PySem.W.exmOne K (.ref c.BadHouse) (.ref c.RideError) = some true
  ki_BadHouse_BadErrand : PySem.W.kitOne K (.ref c.BadHouse) (.ref c.BadErrand) = some false
  ki_BadHouse_BadHouse : PySem.W.kitOne K (.ref c.BadHouse) (.ref c.BadHouse) = some true
  ki_BadHouse_BadNumber : PySem.W.kitOne K (.ref c.BadHouse) (.ref c.BadNumber) = some false
  z_bool : mg "bool" = none
  z_dict : mg "dict" = none
  z_enumerate : mg "enumerate" = none
  z_int : mg "int" = none
  z_isinstance : mg "isinstance" = none
  z_len : mg "len" = none
  z_list : mg "list" = none
  z_max : mg "max" = none
  z_min : mg "min" = none
  z_range : mg "range" = none
  z_repr : mg "repr" = none
  z_tuple : mg "tuple" = none
  c_MOST_ERRANDS : ∃ k, mg "MOST_ERRANDS" = some (.int 40 k)
  c_MOST_FLOORS : ∃ k, mg "MOST_FLOORS" = some (.int 16 k)
abbrev gv_is_whole_1_least_most : List V → List V → List V := fun vs zs => vs.take 1 ++ zs.take 1 ++ (zs.drop 1).take 1
abbrev gv_is_whole_1_most : List V → List V → List V := fun vs zs => vs.take 1 ++ [V.int 0] ++ zs.take 1
abbrev gv_is_errand_1_floors : List V → List V → List V := fun vs zs => vs.take 1 ++ zs.take 1
abbrev gv_need_house_1 : List V → List V → List V := fun vs zs => vs.take 1
abbrev gv__law_mixed_2 : List V → List V → List V := fun vs zs => vs.take 1 ++ (vs.drop 1).take 1
abbrev gv__law_next_2 : List V → List V → List V := fun vs zs => vs.take 1 ++ (vs.drop 1).take 1
abbrev gv__law_errand_2 : List V → List V → List V := fun vs zs => vs.take 1 ++ (vs.drop 1).take 1
abbrev gv__law_way_2 : List V → List V → List V := fun vs zs => vs.take 1 ++ (vs.drop 1).take 1
abbrev gv__law_is_within_3 : List V → List V → List V := fun vs zs => vs.take 1 ++ (vs.drop 1).take 1 ++ (vs.drop 2).take 1
abbrev gv__law_odd_1 : List V → List V → List V := fun vs zs => vs.take 1
abbrev gv_need_house_0_house : List V → List V → List V := fun vs zs => zs.take 1
abbrev gv__law_place_1 : List V → List V → List V := fun vs zs => vs.take 1
abbrev gv__law_said_1 : List V → List V → List V := fun vs zs => vs.take 1
abbrev gv_is_house_1 : List V → List V → List V := fun vs zs => vs.take 1
abbrev gv__law_begin_1 : List V → List V → List V := fun vs zs => vs.take 1
abbrev gv__law_bent_2 : List V → List V → List V := fun vs zs => vs.take 1 ++ (vs.drop 1).take 1
abbrev gv__law_house_3 : List V → List V → List V := fun vs zs => vs.take 1 ++ (vs.drop 1).take 1 ++ (vs.drop 2).take 1
abbrev gv__law_vast_right_1 : List V → List V → List V := fun vs zs => vs.take 1
abbrev gv_is_house_0_thing : List V → List V → List V := fun vs zs => zs.take 1

def spNeed (K : PySem.W.Frag) (c : Cl) : Sp := fun vs H Q E => ∃ (x : V) (r : Option V), vs = [x] ∧ HP H x r ∧ (r = none → ∀ H', Same H H' → Q .non H') ∧
  ∀ pl, r = some pl → ∀ H' d, Same H H' → H' d = some (.xd [("place", pl)]) → E (.ref c.BadHouse) (some d) H'
def spIsHouse (K : PySem.W.Frag) : Sp := fun vs H Q _ => ∃ (x : V) (r : Option V), vs = [x] ∧ HP H x r ∧ ∀ H', Same H H' → Q (.bl r.isNone) H'
def spWithin (K : PySem.W.Frag) : Sp := fun vs H Q _ => ∃ (x : V) (l h : Int) (b : Bool), vs = [x, .int l, .int h] ∧ Whole H x (.int l) (.int h) b ∧ Q (.bl b) H
def spPlace (K : PySem.W.Frag) : Sp := fun vs H Q _ => ∃ (x : V) (r : Option V), vs = [x] ∧ HP H x r ∧ ∀ H', Same H H' → New Q H' (.lst (plV r))
def spSaid (K : PySem.W.Frag) : Sp := fun vs H Q _ => ∃ (x : V) (r : Option V), vs = [x] ∧ HP H x r ∧ ∀ H', Same H H' → New Q H' (.lst (plV r))
def spOdd (K : PySem.W.Frag) : Sp := fun vs H Q _ => ∃ (d : Addr) (m : Nat) (ms : List (Addr × HO)) (B : Hp), vs = [.ref d] ∧ Wd K d (m + 1) ms B H ∧
  ∀ B' H' v, Wd K d m ms B' H' → Same B B' → Kn B' 450 1 v → Q v H'
def spBent (K : PySem.W.Frag) : Sp := fun vs H Q _ => ∃ (d : Addr) (m : Nat) (ms : List (Addr × HO)) (B : Hp) (v : V) (fl st : Int) (c : Addr) (xs : List V), vs = [.ref d, v] ∧ Wd K d (m + 10) ms B H ∧ Hs B v fl st c xs 40 ∧
  ∀ B' H' u, Wd K d m ms B' H' → Same B B' → Kn B' 126003 5 u → Q u H'
def spVast (K : PySem.W.Frag) : Sp := fun vs H Q _ => ∃ (d : Addr) (m : Nat) (ms : List (Addr × HO)) (B : Hp) (v : V) (fl st : Int) (c : Addr) (xs : List V), vs = [v] ∧ Wd K d m ms B H ∧ Hs B v fl st c xs 40 ∧
  ∀ B' H', Wd K d m ms B' H' → Same B B' → Q (.bl true) H'
def spLaw (K : PySem.W.Frag) : Sp := fun vs H Q _ => ∃ (a : Addr) (ns : List Int), vs = [.ref a] ∧ Sys K H ∧ SqL K H a (ns.map V.int) ∧ ns.length ≤ 63 ∧ ∀ H', Q (.bl true) H'
theorem law_sp (K : PySem.W.Frag) (H : Hp) (a : Addr) (ns : List Int) (h : ns.length ≤ 63) (hy : Sys K H) (hS : SqL K H a (ns.map V.int)) : spLaw K [.ref a] H (fun v _ => v = .bl true) fun _ _ _ => False :=
  ⟨a, ns, rfl, hy, hS, h, fun _ => rfl⟩
section
variable {P : Program} {w : World} {K : PySem.W.Frag} {mg : Str → Option Value} {base : Heap} {c : Cl}
theorem ok_BadHouse_init {f : Addr} {fd : FuncData} (F : FunD K "__init__" "BadHouse.__init__" (defArgs sBadHouse_init) (defBody sBadHouse_init) (defScope sBadHouse_init) [V.non] [] f fd) (T : Txt K mg c) : FnOk P w K mg base CX0 1 f fd ["self", "place"] (spInit K "place") := by
  refine FunD.ok F sc_BadHouse_init (fun vs H Q E h => ?_) (fun cdv A outer s H vs Q E hr h => ?_)
  · obtain ⟨a, C, y, rfl, _⟩ := h
    rfl
  · obtain ⟨a, C, y, rfl, T1, no, ha, q⟩ := h
    refine ⟨_, pss_cons (ps_expr (pe_binit (by rfl) T.g_RideError T.b_RideError (pa_cons (pv 0) (pa_cons pe_str pa_nil)))) (pss_one (ps_ost (pv 0) (pv 1))), ?_⟩
    walk_at "og"
    with_reducible refine Og.r_vei ?_
    walk_at "og"
    refine ⟨a, C, _, rfl, by show 1 ≤ 1000; decide, T1, ha, ?_⟩
    walk_at "og"
    with_reducible refine Og.r_ost ?_
    walk_at "og"
    exact ⟨a, C, rfl, T1, no, .inl ⟨ha, q⟩⟩

theorem ok_is_whole {f : Addr} {fd : FuncData} (F : FunD K "is_whole" "is_whole" (defArgs sis_whole) (defBody sis_whole) (defScope sis_whole) [] [("least", V.int 0), ("most", V.non)] f fd) (T : Txt K mg c)
     :
    FnG P w K mg base CX0 1 f fd ["thing", "least", "most"] (spWhole K) := by
  refine okG F sc_is_whole (fun vs H Q E h => ?_) (fun cdv A outer s H vs Q E hr hg h => ?_)
  · obtain ⟨x, lo, hi, b, rfl, _⟩ := h
    rfl
  · obtain ⟨x, lo, hi, b, rfl, bl, bh, hw, q⟩ := h
    have hu := hu_of hr
    refine ⟨_, (pss_cons (ps_if (PW.pt (pw_or (pt_not (pt_val (pe_callB (id := "isinstance") (call_isiE (K := K) rfl) (by rfl) T.z_isinstance (by decide +kernel) (pa_cons (pv 0) (pa_cons (pe_ty "int" (by rfl) T.z_int (by decide +kernel)) pa_nil))))) (pw_or1 (pt_val (pe_callB (id := "isinstance") (call_isiE (K := K) rfl) (by rfl) T.z_isinstance (by decide +kernel) (pa_cons (pv 0) (pa_cons (pe_ty "bool" (by rfl) T.z_bool (by decide +kernel)) pa_nil)))))))
        (pss_one (ps_ret pe_bl))
        pss_nil)
      (pss_cons (ps_if (PW.pt (pw_and (pt_cmpR op_notN (pv 1) pe_non (nomark _)) (pw_and1 (pt_cmpR op_lt (pv 0) (pv 1) (nomark _)))))
        (pss_one (ps_ret pe_bl))
        pss_nil)
      (pss_one (ps_ret (pe_or (pe_cmpR op_isN (pv 2) pe_non (nomark _)) (pe_one (pe_cmpR op_le (pv 0) (pv 2) (nomark _)))))))), ?_⟩
    rcases hw with ⟨i, rfl, rfl⟩ | ⟨nt, rfl⟩
    · rcases bl with rfl | ⟨l, rfl⟩ <;> rcases bh with rfl | ⟨m, rfl⟩
      all_goals
        walk_at "og"
        refine r_isi (.base (.int i)) (kit_ty (b := "int") (r := true) (by decide +kernel)) ?_
        walk_at "og"
        refine r_isi (.base (.int i)) (kit_ty (b := "bool") (r := false) (by decide +kernel)) ?_
        walk_at "og"
      · refine r_orV ?_
        walk_at "og"
        exact q
      · refine r_orV ?_
        walk_at "og"
        exact qb q (Bool.true_and _)
      all_goals
        refine ite2 (fun c => ?_) (fun c => ?_)
        · walk_at "og"
          refine qb q ?_
          have c' := of_decide_eq_true c
          rw [show loOk (V.int l) i = false from decide_eq_false (by omega)]
          rfl
        · walk_at "og"
          refine r_orV ?_
          walk_at "og"
          refine qb q ?_
          have c' : ¬ i < l := fun z => c (decide_eq_true z)
          rw [show loOk (V.int l) i = true from decide_eq_true (by omega)]
          exact Bool.true_and _
    · obtain ⟨t, b1, b2, ty, e1, e2, e3⟩ := nt.kit (K := K)
      walk_at "og"
      refine r_isi ty e1 ?_
      cases b1 with
      | false =>
        walk_at "og"
        exact q
      | true =>
        walk_at "og"
        refine r_isi ty e2 ?_
        cases b2 with
        | false => cases e3
        | true =>
          walk_at "og"
          exact q
theorem r_chnX {σ : L2.St} {H : Hp} {Q : VK} {r r' : R2} {ta tb tc : TE} (h : ta σ H fun x H1 => tb σ H1 fun y H2 => r x y H2 fun z H3 => ∃ k, z = .bl k ∧ (if k = true then tc σ H3 fun w' H4 => r' y w' H4 Q else Q (.bl false) H3)) : tChain r r' ta tb tc σ H Q := h
theorem ok_is_errand {f : Addr} {fd : FuncData} (F : FunD K "is_errand" "is_errand" (defArgs sis_errand) (defBody sis_errand) (defScope sis_errand) [] [] f fd) (T : Txt K mg c)
    (C_is_whole_1_least_most : CalG P w K mg base CX0 1 "is_whole" (spWhole K) 1 ["least", "most"] gv_is_whole_1_least_most) (C_is_whole_1_most : CalG P w K mg base CX0 1 "is_whole" (spWhole K) 1 ["most"] gv_is_whole_1_most) :
    FnG P w K mg base CX0 2 f fd ["thing", "floors"] (spErrand K) := by
  refine okG F sc_is_errand (fun vs H Q E h => ?_) (fun cdv A outer s H vs Q E hr hg h => ?_)
  · obtain ⟨x, fl, b, rfl, _⟩ := h
    rfl
  · obtain ⟨x, fl, b, rfl, hf, he, q⟩ := h
    have hu := hu_of hr
    refine ⟨_, (pss_cons (ps_if (PW.pt (pw_or (pt_not (pt_val (pe_callB (id := "isinstance") (call_isiE (K := K) rfl) (by rfl) T.z_isinstance (by decide +kernel) (pa_cons (pv 0) (pa_cons (pe_ty "tuple" (by rfl) T.z_tuple (by decide +kernel)) pa_nil))))) (pw_or1 (pt_cmpR op_ne (pe_callB (id := "len") (call_lenE (K := K) rfl) (by rfl) T.z_len (by decide +kernel) (pa_cons (pv 0) pa_nil)) pe_int (nomark _)))))
        (pss_one (ps_ret pe_bl))
        pss_nil)
      (pss_cons (ps_asg (pv 0) (pg_tupE (K := K) rfl rfl (pgs_cons (pg_name (i := 2) sc_is_errand.nd rfl (Or.inl rfl)) (pgs_cons (pg_name (i := 3) sc_is_errand.nd rfl (Or.inl rfl)) pgs_nil))))
      (pss_cons (ps_if (PW.pt (pw_or (pt_not (pt_val (pe_callB (id := "isinstance") (call_isiE (K := K) rfl) (by rfl) T.z_isinstance (by decide +kernel) (pa_cons (pv 2) (pa_cons (pe_ty "int" (by rfl) T.z_int (by decide +kernel)) pa_nil))))) (pw_or (pt_not (pt_val (pe_callB (id := "isinstance") (call_isiE (K := K) rfl) (by rfl) T.z_isinstance (by decide +kernel) (pa_cons (pv 3) (pa_cons (pe_ty "int" (by rfl) T.z_int (by decide +kernel)) pa_nil))))) (pw_or (pt_val (pe_callB (id := "isinstance") (call_isiE (K := K) rfl) (by rfl) T.z_isinstance (by decide +kernel) (pa_cons (pv 2) (pa_cons (pe_ty "bool" (by rfl) T.z_bool (by decide +kernel)) pa_nil)))) (pw_or1 (pt_val (pe_callB (id := "isinstance") (call_isiE (K := K) rfl) (by rfl) T.z_isinstance (by decide +kernel) (pa_cons (pv 3) (pa_cons (pe_ty "bool" (by rfl) T.z_bool (by decide +kernel)) pa_nil)))))))))
        (pss_one (ps_ret pe_bl))
        pss_nil)
      (pss_one (ps_ret (pe_and (pe_chain op_le op_lt pe_int (pv 2) (pv 1)) (pe_one (pe_chain op_lt op_le pe_int (pv 3) (pe_op op_mulW pe_int (pv 1)))))))))), ?_⟩
    have kI : PySem.W.kitOne K (.type "int") (.type "int") = some true := kit_ty (by decide +kernel)
    have kB : PySem.W.kitOne K (.type "int") (.type "bool") = some false := kit_ty (by decide +kernel)
    rcases he with ⟨a, u, v, b1, b2, rfl, ha, hw1, hw2, rfl⟩ | ⟨rfl, nt | ⟨a, xs, rfl, ha, hl⟩⟩
    · walk_at "og"
      refine r_isi (.base (.tup ha)) (kit_ty (b := "tuple") (r := true) (by decide +kernel)) ?_
      walk_at "og"
      refine r_lenT (SqT.of ha) ?_
      walk_at "og"
      refine g_tup (SqT.of ha) rfl ?_
      walk_at "og"
      rcases hw1 with ⟨i, rfl, rfl⟩ | ⟨nt, rfl⟩
      · refine r_isi (.base (.int i)) kI ?_
        walk_at "og"
        rcases hw2 with ⟨j, rfl, rfl⟩ | ⟨nt, rfl⟩
        · refine r_isi (.base (.int j)) kI ?_
          walk_at "og"
          refine r_isi (.base (.int i)) kB ?_
          walk_at "og"
          refine r_isi (.base (.int j)) kB ?_
          walk_at "og"
          refine r_andV ?_
          walk_at "og"
          refine r_chnX ?_
          walk_at "og"
          refine ite2 (fun c0 => ?_) (fun c0 => ?_)
          · walk_at "og"
            refine ite2 (fun c1 => ?_) (fun c1 => ?_)
            · refine r_chnX ?_
              walk_at "og"
              have c0' := of_decide_eq_true c0
              have c1' := of_decide_eq_true c1
              refine ite2 (fun c2 => ?_) (fun c2 => ?_)
              · have c2' := of_decide_eq_true c2
                walk_at "og"
                refine r_I (cm64 (by decide) hf) ?_
                walk_at "og"
                refine qb q ?_
                show (decide (0 ≤ i) && decide (i ≤ fl - 1) && (decide (1 ≤ j) && decide (j ≤ 3 * fl))) = decide (j ≤ 3 * fl)
                rw [decide_eq_true c0', decide_eq_true (show i ≤ fl - 1 by omega), decide_eq_true (show 1 ≤ j by omega)]
                rfl
              · have c2' : ¬ 0 < j := fun z => c2 (decide_eq_true z)
                walk_at "og"
                refine qb q ?_
                show (decide (0 ≤ i) && decide (i ≤ fl - 1) && (decide (1 ≤ j) && decide (j ≤ 3 * fl))) = false
                rw [decide_eq_false (show ¬ 1 ≤ j by omega)]
                simp
            · have c1' : ¬ i < fl := fun z => c1 (decide_eq_true z)
              walk_at "og"
              refine qb q ?_
              show (decide (0 ≤ i) && decide (i ≤ fl - 1) && (decide (1 ≤ j) && decide (j ≤ 3 * fl))) = false
              rw [decide_eq_false (show ¬ i ≤ fl - 1 by omega)]
              simp
          · have c0' : ¬ 0 ≤ i := fun z => c0 (decide_eq_true z)
            walk_at "og"
            refine qb q ?_
            show (decide (0 ≤ i) && decide (i ≤ fl - 1) && (decide (1 ≤ j) && decide (j ≤ 3 * fl))) = false
            rw [decide_eq_false c0']
            rfl
        · obtain ⟨t, b1, b2, ty, e1, e2, e3⟩ := nt.kit (K := K)
          refine r_isi ty e1 ?_
          cases b1 with
          | false =>
            walk_at "og"
            exact qb q (Bool.and_false _)
          | true =>
            walk_at "og"
            refine r_isi (.base (.int i)) kB ?_
            walk_at "og"
            refine r_isi ty e2 ?_
            cases b2 with
            | false => cases e3
            | true =>
              walk_at "og"
              exact qb q (Bool.and_false _)
      · obtain ⟨t, b1, b2, ty, e1, e2, e3⟩ := nt.kit (K := K)
        refine r_isi ty e1 ?_
        cases b1 with
        | false =>
          walk_at "og"
          exact q
        | true =>
          walk_at "og"
          rcases hw2 with ⟨j, rfl, rfl⟩ | ⟨nt', rfl⟩
          · refine r_isi (.base (.int j)) kI ?_
            walk_at "og"
            refine r_isi ty e2 ?_
            cases b2 with
            | false => cases e3
            | true =>
              walk_at "og"
              exact q
          · obtain ⟨t', c1, c2, ty', f1, f2, f3⟩ := nt'.kit (K := K)
            refine r_isi ty' f1 ?_
            cases c1 with
            | false =>
              walk_at "og"
              exact q
            | true =>
              walk_at "og"
              refine r_isi ty e2 ?_
              cases b2 with
              | false => cases e3
              | true =>
                walk_at "og"
                exact q
    · obtain ⟨t, ty, e⟩ := nt.kit (K := K)
      walk_at "og"
      refine r_isi ty e ?_
      walk_at "og"
      exact q
    · walk_at "og"
      refine r_isi (.base (.tup ha)) (kit_ty (b := "tuple") (r := true) (by decide +kernel)) ?_
      walk_at "og"
      refine r_lenT (SqT.of ha) ?_
      walk_at "og"
      refine r_ifT ?_ ?_
      · have : ¬ (xs.length : Int) = 2 := by omega
        rw [decide_eq_false this]
        rfl
      · walk_at "og"
        exact q
theorem ok_need_house {f : Addr} {fd : FuncData} (F : FunD K "need_house" "need_house" (defArgs sneed_house) (defBody sneed_house) (defScope sneed_house) [] [] f fd) (T : Txt K mg c)
    (C_is_errand_1_floors : CalG P w K mg base CX0 2 "is_errand" (spErrand K) 1 ["floors"] gv_is_errand_1_floors) (C_is_whole_1_least_most : CalG P w K mg base CX0 1 "is_whole" (spWhole K) 1 ["least", "most"] gv_is_whole_1_least_most) (C_is_whole_1_most : CalG P w K mg base CX0 1 "is_whole" (spWhole K) 1 ["most"] gv_is_whole_1_most)(X_BadHouse : ExF P w K mg base "BadHouse" c.BadHouse "place" (some V.non)) :
    FnG P w K mg base (L2.CX P w) 3 f fd ["house"] (spNeed K c) := by
  refine okGX F sc_need_house (fun vs H Q E h => ?_) (fun cdv A outer s H vs Q E hr hg h => ?_)
  · obtain ⟨x, r, rfl, _⟩ := h
    rfl
  · obtain ⟨x, r, rfl, hp, q0, q1⟩ := h
    have hu := hu_of hr
    refine ⟨_, (pss_cons (ps_if (PW.pt (pw_or (pt_not (pt_val (pe_callB (id := "isinstance") (call_isiE (K := K) rfl) (by rfl) T.z_isinstance (by decide +kernel) (pa_cons (pv 0) (pa_cons (pe_ty "tuple" (by rfl) T.z_tuple (by decide +kernel)) pa_nil))))) (pw_or1 (pt_cmpR op_ne (pe_callB (id := "len") (call_lenE (K := K) rfl) (by rfl) T.z_len (by decide +kernel) (pa_cons (pv 0) pa_nil)) pe_int (nomark _)))))
        (pss_one (ps_raise rfl (takes_of rfl rfl rfl rfl) (pmk_e0 X_BadHouse hr (by decide) (by rfl))))
        pss_nil)
      (pss_cons (ps_asg (pv 0) (pg_tupE (K := K) rfl rfl (pgs_cons (pg_name (i := 1) sc_need_house.nd rfl (Or.inl rfl)) (pgs_cons (pg_name (i := 2) sc_need_house.nd rfl (Or.inl rfl)) (pgs_cons (pg_name (i := 3) sc_need_house.nd rfl (Or.inl rfl)) pgs_nil)))))
      (pss_cons (ps_if (pt_not (pt_val (pe_g2 C_is_whole_1_least_most hr (by decide) hg (by rfl) (pa_cons (pv 1) pa_nil) (pk_cons pe_int (pk_cons (pe_gcI (by rfl) T.c_MOST_FLOORS) pk_nil)))))
        (pss_one (ps_raise rfl (takes_of rfl rfl rfl rfl) (pmk_e1 X_BadHouse hr (by decide) (by rfl) (pa_cons pe_str pa_nil))))
        pss_nil)
      (pss_cons (ps_if (pt_not (pt_val (pe_g2 C_is_whole_1_most hr (by decide) hg (by rfl) (pa_cons (pv 2) pa_nil) (pk_cons (pe_op op_sub (pv 1) pe_int) pk_nil))))
        (pss_one (ps_raise rfl (takes_of rfl rfl rfl rfl) (pmk_e1 X_BadHouse hr (by decide) (by rfl) (pa_cons pe_str pa_nil))))
        pss_nil)
      (pss_cons (ps_if (PW.pt (pw_or (pt_not (pt_val (pe_callB (id := "isinstance") (call_isiE (K := K) rfl) (by rfl) T.z_isinstance (by decide +kernel) (pa_cons (pv 3) (pa_cons (pe_ty "tuple" (by rfl) T.z_tuple (by decide +kernel)) pa_nil))))) (pw_or1 (pt_cmpR op_gt (pe_callB (id := "len") (call_lenE (K := K) rfl) (by rfl) T.z_len (by decide +kernel) (pa_cons (pv 3) pa_nil)) (pe_gcI (by rfl) T.c_MOST_ERRANDS) (nomark _)))))
        (pss_one (ps_raise rfl (takes_of rfl rfl rfl rfl) (pmk_e1 X_BadHouse hr (by decide) (by rfl) (pa_cons pe_str pa_nil))))
        pss_nil)
      (pss_one (ps_for (passes_of rfl) rfl (pi_enumT (K := K) rfl (by rfl) T.z_enumerate (pa_cons (pv 3) pa_nil)) (pg_tupE (K := K) rfl rfl (pgs_cons (pg_name (i := 4) sc_need_house.nd rfl (Or.inl rfl)) (pgs_cons (pg_name (i := 5) sc_need_house.nd rfl (Or.inl rfl)) pgs_nil)))
        (pss_one (ps_if (pt_not (pt_val (pe_g2 C_is_errand_1_floors hr (by decide) hg (by rfl) (pa_cons (pv 5) pa_nil) (pk_cons (pv 1) pk_nil))))
        (pss_one (ps_raise rfl (takes_of rfl rfl rfl rfl) (pmk_e1 X_BadHouse hr (by decide) (by rfl) (pa_cons (pv 4) pa_nil))))
        pss_nil))))))))), ?_⟩
    have lt : ∀ (a : Addr) (xs : List V), H a = some (.tup xs) → TyX K H (.ref a) (.type "tuple") := fun a xs e => .base (.tup e)
    have tk : PySem.W.kitOne K (.type "tuple") (.type "tuple") = some true := kit_ty (by decide +kernel)
    have ra : ∀ {pl : V}, r = some pl → RsG K c.BadHouse "place" [] [pl] H fun cls d H' => E cls d H' := fun e => X_BadHouse.rs fun d hd => q1 _ e _ _ (same_new hd) upd_same
    cases hp with
    | kind k =>
      obtain ⟨t, ty, e⟩ := k.kit (K := K)
      walk_at "og"
      refine r_isi ty e ?_
      walk_at "og"
      exact X_BadHouse.rs0 fun d hd => q1 _ rfl _ _ (same_new hd) upd_same
    | len e k =>
      walk_at "og"
      refine r_isi (lt _ _ e) tk ?_
      walk_at "og"
      refine r_lenT (SqT.of e) ?_
      walk_at "og"
      refine r_ifT ?_ ?_
      · rw [decide_eq_false (by omega)]
        rfl
      walk_at "og"
      exact X_BadHouse.rs0 fun d hd => q1 _ rfl _ _ (same_new hd) upd_same
    | floors e w =>
      walk_at "og"
      refine r_isi (lt _ _ e) tk ?_
      walk_at "og"
      refine r_lenT (SqT.of e) ?_
      walk_at "og"
      refine g_tup (SqT.of e) rfl ?_
      walk_at "og"
      refine ⟨rfl, rfl, _, .int 2, .int 16, false, rfl, .inr ⟨_, rfl⟩, .inr ⟨_, rfl⟩, w, ?_⟩
      walk_at "og"
      exact ra rfl
    | start e l u w =>
      walk_at "og"
      refine r_isi (lt _ _ e) tk ?_
      walk_at "og"
      refine r_lenT (SqT.of e) ?_
      walk_at "og"
      refine g_tup (SqT.of e) rfl ?_
      walk_at "og"
      refine ⟨rfl, rfl, _, .int 2, .int 16, true, rfl, .inr ⟨_, rfl⟩, .inr ⟨_, rfl⟩, whole_t l u, ?_⟩
      walk_at "og"
      refine ⟨rfl, rfl, _, .int 0, .int _, false, rfl, .inr ⟨_, rfl⟩, .inr ⟨_, rfl⟩, w, ?_⟩
      walk_at "og"
      exact ra rfl
    | errK e l u w k =>
      obtain ⟨t, ty, e3⟩ := k.kit (K := K)
      walk_at "og"
      refine r_isi (lt _ _ e) tk ?_
      walk_at "og"
      refine r_lenT (SqT.of e) ?_
      walk_at "og"
      refine g_tup (SqT.of e) rfl ?_
      walk_at "og"
      refine ⟨rfl, rfl, _, .int 2, .int 16, true, rfl, .inr ⟨_, rfl⟩, .inr ⟨_, rfl⟩, whole_t l u, ?_⟩
      walk_at "og"
      refine ⟨rfl, rfl, _, .int 0, .int _, true, rfl, .inr ⟨_, rfl⟩, .inr ⟨_, rfl⟩, w, ?_⟩
      walk_at "og"
      refine r_isi ty e3 ?_
      walk_at "og"
      exact ra rfl
    | errL e l u w e2 m =>
      walk_at "og"
      refine r_isi (lt _ _ e) tk ?_
      walk_at "og"
      refine r_lenT (SqT.of e) ?_
      walk_at "og"
      refine g_tup (SqT.of e) rfl ?_
      walk_at "og"
      refine ⟨rfl, rfl, _, .int 2, .int 16, true, rfl, .inr ⟨_, rfl⟩, .inr ⟨_, rfl⟩, whole_t l u, ?_⟩
      walk_at "og"
      refine ⟨rfl, rfl, _, .int 0, .int _, true, rfl, .inr ⟨_, rfl⟩, .inr ⟨_, rfl⟩, w, ?_⟩
      walk_at "og"
      refine r_isi (lt _ _ e2) tk ?_
      walk_at "og"
      refine r_lenT (SqT.of e2) ?_
      walk_at "og"
      refine r_ifT (decide_eq_true (by omega)) ?_
      exact ra rfl
    | @err a ce fl s y xs i e l u w e2 m hi bad ok =>
      walk_at "og"
      refine r_isi (lt _ _ e) tk ?_
      walk_at "og"
      refine r_lenT (SqT.of e) ?_
      walk_at "og"
      refine g_tup (SqT.of e) rfl ?_
      walk_at "og"
      refine ⟨rfl, rfl, _, .int 2, .int 16, true, rfl, .inr ⟨_, rfl⟩, .inr ⟨_, rfl⟩, whole_t l u, ?_⟩
      walk_at "og"
      refine ⟨rfl, rfl, _, .int 0, .int _, true, rfl, .inr ⟨_, rfl⟩, .inr ⟨_, rfl⟩, w, ?_⟩
      walk_at "og"
      refine r_isi (lt _ _ e2) tk ?_
      walk_at "og"
      refine r_lenT (SqT.of e2) ?_
      walk_at "og"
      refine r_ifF (decide_eq_false (by omega)) ?_
      walk_at "og"
      refine ⟨_, _, rfl, SqT.of e2, ?_⟩
      have hil : i < xs.length := (List.getElem?_eq_some_iff.mp hi).1
      refine loop_enumT (xs := xs) (fun j σ H' => ∃ n4 n5, σ = [some (.ref a), some (.int fl), some s, some (.ref ce), n4, n5] ∧ Same H H' ∧ j ≤ i) ⟨none, none, rfl, Same.refl _, Nat.zero_le _⟩ ?_ ?_ ?_
      · rintro j σ H' _ ⟨_, _, _, sm, _⟩
        exact SqT.of (sm _ _ e2)
      · rintro j z σ H' T0 hz ⟨n4, n5, rfl, sm, hj⟩ hT
        have sm2 : Same H (upd H' T0 (.tup [.int (j : Nat), z])) := sm.trans (same_new hT)
        refine g_tup (SqT.of upd_same) rfl ?_
        walk_at "og"
        by_cases hji : j = i
        · subst hji
          have := hi.symm.trans hz
          cases this
          refine ⟨rfl, rfl, y, fl, false, rfl, by omega, bad.grow sm2, ?_⟩
          walk_at "og"
          exact X_BadHouse.rs fun d hd => q1 _ rfl _ _ (sm2.trans (same_new hd)) upd_same
        · refine ⟨rfl, rfl, z, fl, true, rfl, by omega, (ok j z (by omega) hz).grow sm2, ?_⟩
          walk_at "og"
          exact ⟨_, _, rfl, sm2, by omega⟩
      · rintro σ H' ⟨_, _, _, _, hj⟩
        omega
    | @ok a ce fl s xs e l u w e2 m ok =>
      walk_at "og"
      refine r_isi (lt _ _ e) tk ?_
      walk_at "og"
      refine r_lenT (SqT.of e) ?_
      walk_at "og"
      refine g_tup (SqT.of e) rfl ?_
      walk_at "og"
      refine ⟨rfl, rfl, _, .int 2, .int 16, true, rfl, .inr ⟨_, rfl⟩, .inr ⟨_, rfl⟩, whole_t l u, ?_⟩
      walk_at "og"
      refine ⟨rfl, rfl, _, .int 0, .int _, true, rfl, .inr ⟨_, rfl⟩, .inr ⟨_, rfl⟩, w, ?_⟩
      walk_at "og"
      refine r_isi (lt _ _ e2) tk ?_
      walk_at "og"
      refine r_lenT (SqT.of e2) ?_
      walk_at "og"
      refine r_ifF (decide_eq_false (by omega)) ?_
      walk_at "og"
      refine ⟨_, _, rfl, SqT.of e2, ?_⟩
      refine loop_enumT (xs := xs) (fun j σ H' => ∃ n4 n5, σ = [some (.ref a), some (.int fl), some s, some (.ref ce), n4, n5] ∧ Same H H') ⟨none, none, rfl, Same.refl _⟩ ?_ ?_ ?_
      · rintro j σ H' _ ⟨_, _, _, sm⟩
        exact SqT.of (sm _ _ e2)
      · rintro j z σ H' T0 hz ⟨n4, n5, rfl, sm⟩ hT
        have sm2 : Same H (upd H' T0 (.tup [.int (j : Nat), z])) := sm.trans (same_new hT)
        refine g_tup (SqT.of upd_same) rfl ?_
        walk_at "og"
        refine ⟨rfl, rfl, z, fl, true, rfl, by omega, (ok j z hz).grow sm2, ?_⟩
        walk_at "og"
        exact ⟨_, _, rfl, sm2⟩
      · rintro σ H' ⟨_, _, rfl, sm⟩
        walk_at "og"
        exact q0 rfl _ sm
theorem ok_is_house {f : Addr} {fd : FuncData} (F : FunD K "is_house" "is_house" (defArgs sis_house) (defBody sis_house) (defScope sis_house) [] [] f fd) (T : Txt K mg c)
    (C_need_house_1 : CalG P w K mg base (L2.CX P w) 3 "need_house" (spNeed K c) 1 [] gv_need_house_1) :
    FnG P w K mg base CX0 4 f fd ["thing"] (spIsHouse K) := by
  refine okG F sc_is_house (fun vs H Q E h => ?_) (fun cdv A outer s H vs Q E hr hg h => ?_)
  · obtain ⟨x, r, rfl, _⟩ := h
    rfl
  · obtain ⟨x, r, rfl, hp, q⟩ := h
    have hu := hu_of hr
    refine ⟨_, (pss_cons (ps_try_only (Wout := fun _ _ _ _ => False) rfl rfl ⟨by rfl, by decide, Or.inl T.g_BadHouse⟩ takes0
        (fun W pn xe tk po => (pss_one (ps_expr (pe_gS1 C_need_house_1 hr (by decide) hg (fun σ => passAt tk σ) (by rfl) (pa_cons (pv 0) pa_nil)))))
        (fun a oe cls d pn hz hf => (pss_one (ps_ret pe_bl))))
      (pss_one (ps_ret pe_bl))), ?_⟩
    walk_at "og"
    refine ⟨rfl, rfl, x, r, rfl, hp, fun e H' s => ?_, fun pl e H' d s hd => ⟨true, T.em_BadHouse_BadHouse, fun _ a ha => ?_, fun z => by cases z⟩⟩
    · subst e
      walk_at "og"
      exact q _ s
    · subst e
      walk_at "og"
      exact q _ s
theorem ok__law_begin {f : Addr} {fd : FuncData} (F : FunD K "_law_begin" "_law_begin" (defArgs s_law_begin) (defBody s_law_begin) (defScope s_law_begin) [] [] f fd) (T : Txt K mg c)
     :
    FnG P w K mg base CX0 1 f fd ["script"] (spBegin K) := by
  refine okG F sc__law_begin (fun vs H Q E h => ?_) (fun cdv A outer s H vs Q E hr hg h => ?_)
  · obtain ⟨a, ns, rfl, _⟩ := h
    rfl
  · obtain ⟨a, ns, rfl, hsy, ha, hl, q⟩ := h
    have hu := hu_of hr
    refine ⟨_, (pss_one (ps_ret (pe_disp (pps_cons pe_str (pe_op (op_catXE (K := K) rfl) (pv 0) (pe_lst (pa_cons pe_int pa_nil))) (pps_cons pe_str pe_int (pps_cons pe_str pe_int (pps_cons pe_str pe_int pps_nil)))) (by rfl) (by rfl) (fun z => by cases z) (by decide)))), ?_⟩
    walk_at "og"
    refine r_disp ?_
    intro d hd
    walk_at "og"
    refine ⟨by decide, ?_⟩
    intro p hp
    have s1 : Same H (upd H d (.dK [])) := same_new hd
    have s2 : Same (upd H d (.dK [])) (upd (upd H d (.dK [])) p (.lst [.int 0])) := same_new hp
    refine r_catX (s2.seq (s1.seq ha)) (SqL.of upd_same) ?_ ?_
    · rw [List.length_map]
      exact Nat.le_trans (Nat.add_le_add_right hl 1) (by decide)
    intro r hr'
    have s3 := same_new (o := HO.lst (ns.map V.int ++ [.int 0])) hr'
    walk_at "og"
    have pd : d ≠ p := ne_of_none upd_same hp
    have rd : d ≠ r := fun e => by
      subst e
      rw [upd_ne pd, upd_same] at hr'
      cases hr'
    refine ⟨?_, [(Sum.inr "cells", .ref r), (Sum.inr "at", .int 0), (Sum.inr "left", .int 0), (Sum.inr "used", .int 0)], rfl, (by show 4 ≤ 15; decide), ?_⟩
    · rw [upd_ne rd, upd_ne pd, upd_same]
    rw [dk_make]
    refine q d (upd H r (.lst ((ns ++ [0]).map V.int))) _ (same_new (s1.free (s2.free hr'))) ⟨hsy.grow (same_new (s1.free (s2.free hr'))), fun b o e => ?_, ⟨⟨r, ns ++ [0], 0, 0, 0, upd_same, SqL.of upd_same, ?_, ?_, by decide, by decide, by decide, by decide⟩, ?_⟩, fun q hq => absurd hq List.not_mem_nil, List.nodup_nil⟩
    · have hb : b ≠ d := fun z => by
        subst z
        rw [upd_ne rd, hd] at e
        cases e
      rw [upd_ne hb]
      by_cases br : b = r
      · subst br
        rw [upd_same] at e
        cases e
        rw [upd_same, List.map_append]
        rfl
      · rw [upd_ne br] at e
        rw [upd_ne br]
        exact s2 _ _ (s1 _ _ e)
    · intro z
      cases ns <;> cases z
    · rw [List.length_append]
      exact Nat.add_le_add_right hl 1
    · rw [upd_ne rd]
      exact hd
theorem ok__law_mixed {f : Addr} {fd : FuncData} (F : FunD K "_law_mixed" "_law_mixed" (defArgs s_law_mixed) (defBody s_law_mixed) (defScope s_law_mixed) [] [] f fd) (T : Txt K mg c)
     :
    FnG P w K mg base CX0 1 f fd ["cell", "k"] (spMixed K) := by
  refine okG F sc__law_mixed (fun vs H Q E h => ?_) (fun cdv A outer s H vs Q E hr hg h => ?_)
  · obtain ⟨c, k, rfl, _⟩ := h
    rfl
  · obtain ⟨c, k, rfl, hk0, hk, q⟩ := h
    have hu := hu_of hr
    refine ⟨_, (pss_cons (ps_set (i := 2) sc__law_mixed.nd rfl (Or.inl rfl) (pe_op op_mod (pe_op op_add (pe_op op_add (pe_op op_add (pe_op op_mod (pv 0) pe_int) (pe_op op_mulW (pe_op op_mulW pe_int (pv 1)) (pv 1))) (pe_op op_mulW pe_int (pv 1))) pe_int) pe_int))
      (pss_cons (ps_set (i := 2) sc__law_mixed.nd rfl (Or.inl rfl) (pe_op op_mod (pe_op op_mulW (pe_op op_mod (pe_op op_mulW (pv 2) (pv 2)) pe_int) (pv 2)) pe_int))
      (pss_one (ps_ret (pe_op op_fdivW (pe_op op_mod (pe_op op_mulW (pv 2) (pe_op op_add pe_int (pe_op op_mulW pe_int (pe_op op_mod (pv 1) pe_int)))) pe_int) pe_int))))), ?_⟩
    have a1 : (7919 : Int).natAbs < 2 ^ 20 := by decide
    have a2 : k.natAbs < 2 ^ 41 := by omega
    have a3 : (7919 * k).natAbs < 2 ^ 64 := mul_abs a1 a2 (by decide)
    walk_at "og"
    refine r_I (by decide) ?_
    walk_at "og"
    refine r_I (cm64 (by decide) (by omega)) ?_
    walk_at "og"
    refine r_I (cm64 a3 (by omega)) ?_
    walk_at "og"
    refine r_I (cm64 (by decide) (by omega)) ?_
    walk_at "og"
    refine r_I (by decide) ?_
    walk_at "og"
    generalize hx : (c % 1000000007 + 7919 * k * k + 31 * k + 7) % 2147483647 = x
    have b1 : x.natAbs < 2 ^ 32 := by
      have h1 := Int.emod_nonneg (c % 1000000007 + 7919 * k * k + 31 * k + 7) (b := 2147483647) (by decide)
      have h2 := Int.emod_lt_of_pos (c % 1000000007 + 7919 * k * k + 31 * k + 7) (b := 2147483647) (by decide)
      omega
    have m31 : ∀ i : Int, (i % 2147483647).natAbs < 2 ^ 64 := fun i => mod_abs (by decide) (by decide)
    refine r_I (cm64 (by omega) (by omega)) ?_
    walk_at "og"
    refine r_I (by decide) ?_
    walk_at "og"
    refine r_I (cm64 (m31 _) (by omega)) ?_
    walk_at "og"
    refine r_I (by decide) ?_
    walk_at "og"
    generalize hy : x * x % 2147483647 * x % 2147483629 = y
    have b2 : y.natAbs < 2 ^ 64 := by
      rw [← hy]
      exact mod_abs (by decide) (by decide)
    refine r_I (by decide) ?_
    walk_at "og"
    refine r_I (cm64 (by decide) (mod_abs (by decide) (by decide))) ?_
    walk_at "og"
    refine r_I (cm64 b2 ?_) ?_
    · have h1 := Int.emod_nonneg k (b := 1000) (by decide)
      have h2 := Int.emod_lt_of_pos k (b := 1000) (by decide)
      omega
    walk_at "og"
    refine r_I (by decide) ?_
    walk_at "og"
    refine r_I (cdiv (by decide) (by decide)) ?_
    exact q _
theorem ok__law_next {f : Addr} {fd : FuncData} (F : FunD K "_law_next" "_law_next" (defArgs s_law_next) (defBody s_law_next) (defScope s_law_next) [] [] f fd) (T : Txt K mg c)
    (C__law_mixed_2 : CalG P w K mg base CX0 1 "_law_mixed" (spMixed K) 2 [] gv__law_mixed_2) :
    FnG P w K mg base CX0 2 f fd ["draw", "many"] (spNext K) := by
  refine okG F sc__law_next (fun vs H Q E h => ?_) (fun cdv A outer s H vs Q E hr hg h => ?_)
  · obtain ⟨d, m, ms, B, n, rfl, _⟩ := h
    rfl
  · obtain ⟨d, m, ms, B, n, rfl, w, n0, n1, q⟩ := h
    have hu := hu_of hr
    have na : n.natAbs < 2 ^ 64 := by omega
    obtain ⟨⟨a, ns, t, l, u, hd, ha, ne, hl, ht, hus, hm, hm2⟩, dn⟩ := w.dr
    have hA : SqL K H a (ns.map V.int) := w.seq ha
    have ln : ns.length ≠ 0 := fun z => ne (List.eq_nil_of_length_eq_zero z)
    refine ⟨_, (pss_cons (ps_if (pt_cmpR op_gt (pe_dget hu (pv 0) pe_str (fun _ _ => rfl)) pe_int (nomark _))
        (pss_cons (ps_set (i := 2) sc__law_next.nd rfl (Or.inl rfl) (pe_op op_mod (pe_dget hu (pv 0) pe_str (fun _ _ => rfl)) (pv 1)))
      (pss_cons (ps_dput hu (pv 0) pe_str (pe_op op_fdivW (pe_dget hu (pv 0) pe_str (fun _ _ => rfl)) (pv 1)) rfl)
      (pss_one (ps_ret (pv 2)))))
        pss_nil)
      (pss_cons (ps_set (i := 3) sc__law_next.nd rfl (Or.inl rfl) (pe_dget hu (pv 0) pe_str (fun _ _ => rfl)))
      (pss_cons (ps_set (i := 4) sc__law_next.nd rfl (Or.inl rfl) (pe_ix (ix_listE (K := K) rfl) (pv 3) (pe_op op_mod (pe_dget hu (pv 0) pe_str (fun _ _ => rfl)) (pe_callB (id := "len") (call_lenE (K := K) rfl) (by rfl) T.z_len (by decide +kernel) (pa_cons (pv 3) pa_nil))) (fun _ _ => rfl)))
      (pss_cons (ps_dput hu (pv 0) pe_str (pe_op op_add (pe_dget hu (pv 0) pe_str (fun _ _ => rfl)) pe_int) rfl)
      (pss_cons (ps_if (PW.pt (pw_and (pt_cmpR op_ge (pv 4) (pe_op op_pow pe_int pe_int) (nomark _)) (pw_and1 (pt_cmpR op_le (pe_dget hu (pv 0) pe_str (fun _ _ => rfl)) (pe_callB (id := "len") (call_lenE (K := K) rfl) (by rfl) T.z_len (by decide +kernel) (pa_cons (pv 3) pa_nil)) (nomark _)))))
        (pss_cons (ps_dput hu (pv 0) pe_str (pe_op op_fdivW (pv 4) (pv 1)) rfl)
      (pss_one (ps_ret (pe_op op_mod (pv 4) (pv 1)))))
        pss_nil)
      (pss_cons (ps_dput hu (pv 0) pe_str (pe_op op_add (pe_dget hu (pv 0) pe_str (fun _ _ => rfl)) pe_int) rfl)
      (pss_one (ps_ret (pe_op op_mod (pe_g1 C__law_mixed_2 hr (by decide) hg (by rfl) (pa_cons (pe_g1 C__law_mixed_2 hr (by decide) hg (by rfl) (pa_cons (pv 4) (pa_cons (pe_dget hu (pv 0) pe_str (fun _ _ => rfl)) pa_nil))) (pa_cons (pe_dget hu (pv 0) pe_str (fun _ _ => rfl)) pa_nil))) (pv 1)))))))))), ?_⟩
    walk_at "og"
    refine ⟨d, _, rfl, get_left hd, ?_⟩
    walk_at "og"
    refine ite2 (fun c => ?_) (fun c => ?_)
    · walk_at "og"
      refine ⟨d, _, rfl, get_left hd, ?_⟩
      walk_at "og"
      refine r_I n0 ?_
      walk_at "og"
      refine ⟨d, _, rfl, get_left hd, ?_⟩
      walk_at "og"
      refine r_I (cdiv n0 na) ?_
      walk_at "og"
      refine ⟨d, _, rfl, set_left hd, ?_⟩
      walk_at "og"
      refine q _ _ (w.draw ⟨ha, ne, hl, ht, hus, by omega, by omega⟩) (Int.emod_nonneg _ (by omega)) (Int.emod_lt_of_pos _ n0)
    · walk_at "og"
      refine ⟨d, _, rfl, get_cells hd, ?_⟩
      walk_at "og"
      refine ⟨d, _, rfl, get_at hd, ?_⟩
      walk_at "og"
      refine r_lenL hA ?_
      have l0 : (0 : Int) < (ns.map V.int).length := by
        rw [List.length_map]
        omega
      refine r_I l0 ?_
      have m0 := Int.emod_nonneg t (b := (ns.map V.int).length) (by omega)
      have m1 := Int.emod_lt_of_pos t l0
      generalize hj : t % ((ns.map V.int).length : Int) = j at m0 m1 ⊢
      have hj2 : (j.toNat : Int) = j := Int.toNat_of_nonneg m0
      have hlt : j.toNat < ns.length := by
        rw [List.length_map] at m1
        omega
      have hget : (ns.map V.int)[j.toNat]? = some (.int (ns[j.toNat]'hlt)) := by
        rw [List.getElem?_map, List.getElem?_eq_getElem hlt]
        rfl
      refine r_ixL hA (hj2 ▸ atI_nat hget) ?_
      generalize ns[j.toNat]'hlt = cell
      walk_at "og"
      refine ⟨d, _, rfl, get_at hd, ?_⟩
      walk_at "og"
      refine ⟨d, _, rfl, set_at hd, ?_⟩
      have w1 : Wd K d m ms B (upd H d (.dK (dk a (t + 1) l u))) := w.draw ⟨ha, ne, hl, by omega, hus, by omega, by omega⟩
      have e1 : (upd H d (.dK (dk a (t + 1) l u))) d = some (.dK (dk a (t + 1) l u)) := upd_same
      walk_at "og"
      refine r_I ⟨by decide, by decide, by decide⟩ ?_
      walk_at "og"
      refine ite2 (fun c1 => ?_) (fun c1 => ?_)
      · walk_at "og"
        refine ⟨d, _, rfl, get_at e1, ?_⟩
        walk_at "og"
        refine r_lenL (w1.seq ha) ?_
        walk_at "og"
        refine ite2 (fun c2 => ?_) (fun c2 => ?_)
        · walk_at "og"
          refine r_I (cdiv n0 na) ?_
          walk_at "og"
          refine ⟨d, _, rfl, set_left e1, ?_⟩
          walk_at "og"
          refine r_I n0 ?_
          exact q _ _ (w1.draw ⟨ha, ne, hl, by omega, hus, by omega, by omega⟩) (Int.emod_nonneg _ (by omega)) (Int.emod_lt_of_pos _ n0)
        · walk_at "og"
          refine ⟨d, _, rfl, get_used e1, ?_⟩
          walk_at "og"
          refine ⟨d, _, rfl, set_used e1, ?_⟩
          have w2 : Wd K d m ms B (upd (upd H d (.dK (dk a (t + 1) l u))) d (.dK (dk a (t + 1) l (u + 1)))) := w1.draw ⟨ha, ne, hl, by omega, by omega, by omega, by omega⟩
          have e2 : (upd (upd H d (.dK (dk a (t + 1) l u))) d (.dK (dk a (t + 1) l (u + 1)))) d = some (.dK (dk a (t + 1) l (u + 1))) := upd_same
          walk_at "og"
          refine ⟨d, _, rfl, get_at e2, ?_⟩
          walk_at "og"
          refine ⟨rfl, rfl, cell, t + 1, rfl, by omega, by omega, fun r1 => ?_⟩
          walk_at "og"
          refine ⟨d, _, rfl, get_used e2, ?_⟩
          walk_at "og"
          refine ⟨rfl, rfl, r1, u + 1, rfl, by omega, by omega, fun r2 => ?_⟩
          walk_at "og"
          refine r_I n0 ?_
          exact q _ _ w2 (Int.emod_nonneg _ (by omega)) (Int.emod_lt_of_pos _ n0)
      · walk_at "og"
        refine ⟨d, _, rfl, get_used e1, ?_⟩
        walk_at "og"
        refine ⟨d, _, rfl, set_used e1, ?_⟩
        have w2 : Wd K d m ms B (upd (upd H d (.dK (dk a (t + 1) l u))) d (.dK (dk a (t + 1) l (u + 1)))) := w1.draw ⟨ha, ne, hl, by omega, by omega, by omega, by omega⟩
        have e2 : (upd (upd H d (.dK (dk a (t + 1) l u))) d (.dK (dk a (t + 1) l (u + 1)))) d = some (.dK (dk a (t + 1) l (u + 1))) := upd_same
        walk_at "og"
        refine ⟨d, _, rfl, get_at e2, ?_⟩
        walk_at "og"
        refine ⟨rfl, rfl, cell, t + 1, rfl, by omega, by omega, fun r1 => ?_⟩
        walk_at "og"
        refine ⟨d, _, rfl, get_used e2, ?_⟩
        walk_at "og"
        refine ⟨rfl, rfl, r1, u + 1, rfl, by omega, by omega, fun r2 => ?_⟩
        walk_at "og"
        refine r_I n0 ?_
        exact q _ _ w2 (Int.emod_nonneg _ (by omega)) (Int.emod_lt_of_pos _ n0)
theorem ok__law_errand {f : Addr} {fd : FuncData} (F : FunD K "_law_errand" "_law_errand" (defArgs s_law_errand) (defBody s_law_errand) (defScope s_law_errand) [] [] f fd) (T : Txt K mg c)
    (C__law_next_2 : CalG P w K mg base CX0 2 "_law_next" (spNext K) 2 [] gv__law_next_2) :
    FnG P w K mg base CX0 3 f fd ["draw", "floors"] (spErr K) := by
  refine okG F sc__law_errand (fun vs H Q E h => ?_) (fun cdv A outer s H vs Q E hr hg h => ?_)
  · obtain ⟨d, m, ms, B, n, rfl, _⟩ := h
    rfl
  · obtain ⟨d, m, ms, B, n, rfl, w, n2, n16, q⟩ := h
    have hu := hu_of hr
    refine ⟨_, (pss_cons (ps_set (i := 2) sc__law_errand.nd rfl (Or.inl rfl) (pe_lst (pa_cons (pe_op op_add pe_int (pe_g1 C__law_next_2 hr (by decide) hg (by rfl) (pa_cons (pv 0) (pa_cons pe_int pa_nil)))) (pa_cons (pe_op op_add pe_int (pe_g1 C__law_next_2 hr (by decide) hg (by rfl) (pa_cons (pv 0) (pa_cons (pv 1) pa_nil)))) (pa_cons (pv 1) (pa_cons (pe_op op_add pe_int (pe_g1 C__law_next_2 hr (by decide) hg (by rfl) (pa_cons (pv 0) (pa_cons (pe_op op_mulW pe_int (pv 1)) pa_nil)))) pa_nil))))))
      (pss_one (ps_ret (pe_tup (pa_cons (pe_g1 C__law_next_2 hr (by decide) hg (by rfl) (pa_cons (pv 0) (pa_cons (pv 1) pa_nil))) (pa_cons (pe_ix (ix_listE (K := K) rfl) (pv 2) (pe_g1 C__law_next_2 hr (by decide) hg (by rfl) (pa_cons (pv 0) (pa_cons pe_int pa_nil))) (fun _ _ => rfl)) pa_nil)))))), ?_⟩
    walk_at "og"
    refine ⟨rfl, rfl, d, m + 4, ms, B, 3, rfl, w, by decide, by decide, fun H1 r1 w1 a1 b1 => ?_⟩
    walk_at "og"
    refine ⟨rfl, rfl, d, m + 3, ms, B, n, rfl, w1, by omega, by omega, fun H2 r2 w2 a2 b2 => ?_⟩
    walk_at "og"
    refine r_I (cm64 (by decide) (by omega)) ?_
    walk_at "og"
    refine ⟨rfl, rfl, d, m + 2, ms, B, 3 * n, rfl, w2, by omega, by omega, fun H3 r3 w3 a3 b3 => ?_⟩
    walk_at "og"
    refine ⟨by show 4 ≤ sizeLine; decide, al_new w3 fun p4 B4 H4 w4 s4 e4 => ?_⟩
    walk_at "og"
    refine ⟨rfl, rfl, d, m + 1, ms, B4, n, rfl, w4, by omega, by omega, fun H5 r5 w5 a5 b5 => ?_⟩
    walk_at "og"
    refine ⟨rfl, rfl, d, m, ms, B4, 4, rfl, w5, by decide, by decide, fun H6 r6 w6 a6 b6 => ?_⟩
    obtain ⟨st, gst, st1, st2⟩ : ∃ st, atI [V.int (1 + r1), .int (1 + r2), .int n, .int (1 + r3)] r6 = some (.int st) ∧ 1 ≤ st ∧ st ≤ 3 * n := by
      have : r6 = 0 ∨ r6 = 1 ∨ r6 = 2 ∨ r6 = 3 := by omega
      rcases this with rfl | rfl | rfl | rfl
      · exact ⟨_, rfl, by omega, by omega⟩
      · exact ⟨_, rfl, by omega, by omega⟩
      · exact ⟨_, rfl, by omega, by omega⟩
      · exact ⟨_, rfl, by omega, by omega⟩
    refine r_ixL (w6.seq (SqL.of e4)) gst ?_
    walk_at "og"
    refine ⟨by show 2 ≤ sizeLine; decide, al_new w6 fun p7 B7 H7 w7 s7 e7 => ?_⟩
    exact q _ _ _ w7 (s4.trans s7) ⟨p7, r5, st, rfl, e7, a5, b5, st1, st2⟩
theorem ok__law_way {f : Addr} {fd : FuncData} (F : FunD K "_law_way" "_law_way" (defArgs s_law_way) (defBody s_law_way) (defScope s_law_way) [] [] f fd) (T : Txt K mg c)
    (C__law_next_2 : CalG P w K mg base CX0 2 "_law_next" (spNext K) 2 [] gv__law_next_2) :
    FnG P w K mg base CX0 3 f fd ["draw", "floors"] (spWay K) := by
  refine okG F sc__law_way (fun vs H Q E h => ?_) (fun cdv A outer s H vs Q E hr hg h => ?_)
  · obtain ⟨d, m, ms, B, n, rfl, _⟩ := h
    rfl
  · obtain ⟨d, m, ms, B, n, rfl, w, n2, n16, q⟩ := h
    have hu := hu_of hr
    refine ⟨_, (pss_cons (ps_par3 (i := 2) (j := 3) (l := 4) (by rfl) sc__law_way.nd rfl rfl rfl (by decide) (by decide) (by decide) rfl rfl rfl (pa_cons (pe_g1 C__law_next_2 hr (by decide) hg (by rfl) (pa_cons (pv 0) (pa_cons (pv 1) pa_nil))) (pa_cons (pv 1) (pa_cons (pe_lst pa_nil) pa_nil))) (by rfl))
      (pss_cons (ps_while PassesOwn.never (pt_cmpR op_gt (pv 3) pe_int (nomark _))
        (pss_cons (ps_set (i := 5) sc__law_way.nd rfl (Or.inl rfl) (pe_callB (id := "min") (call_min2 rfl) (by rfl) T.z_min (by decide +kernel) (pa_cons (pv 3) (pa_cons (pe_op op_add pe_int (pe_g1 C__law_next_2 hr (by decide) hg (by rfl) (pa_cons (pv 0) (pa_cons (pv 1) pa_nil)))) pa_nil))))
      (pss_cons (ps_expr (pe_bmE (K := K) rfl PySem.F.plainAttrs_list PySem.F.slot_list_append PySem.F.type_list_append mt_append (pv 4) (pa_cons (pe_tup (pa_cons (pe_op op_mod (pe_op op_sub (pe_op op_add (pv 2) (pv 1)) (pv 3)) (pv 1)) (pa_cons (pv 5) pa_nil))) pa_nil)))
      (pss_one (ps_set (i := 3) sc__law_way.nd rfl (Or.inl rfl) (pe_op op_sub (pv 3) (pv 5)))))))
      (pss_one (ps_ret (pv 4))))), ?_⟩
    walk_at "og"
    refine ⟨rfl, rfl, d, m + 16, ms, B, n, rfl, w, by omega, by omega, fun H1 be w1 a1 b1 => ?_⟩
    walk_at "og"
    refine ⟨by decide, al_mut w1 fun p H2 w2 => ?_⟩
    walk_at "og"
    refine while_m (fun k σ H' => ∃ (B' : Hp) (xs : List V) (x5 : Option V), σ = [some (.ref d), some (.int n), some (.int be), some (.int (k : Nat)), some (.ref p), x5] ∧ k ≤ n ∧
      Wd K d (m + k) ((p, .lst xs) :: ms) B' H' ∧ Same B B' ∧ xs.length + k ≤ n ∧ ((k : Int) < n → xs ≠ []) ∧ ∀ v ∈ xs, Erd B' v n)
      ⟨n.toNat, B, [], none, ?_, by omega, w2.le (by omega), Same.refl _, by show ((([] : List V).length : Nat) : Int) + _ ≤ n; rw [List.length_nil]; omega, fun z => by omega, fun v hv => by cases hv⟩ ?_
    · rw [Int.toNat_of_nonneg (by omega)]
      rfl
    · rintro k σ H' ⟨B', xs, x5, rfl, kn, w', s', hl, hne, ha⟩
      walk_at "og"
      refine ite2 (fun c => r_turn ?_) (fun c => ?_)
      · have c' : 0 < (k : Int) := of_decide_eq_true c
        obtain ⟨j, rfl⟩ : ∃ j, k = j + 1 := ⟨k - 1, by omega⟩
        walk_at "og"
        refine ⟨rfl, rfl, d, m + j, _, B', n, rfl, w', by omega, by omega, fun H3 r3 w3 a3 b3 => ?_⟩
        walk_at "og"
        refine ⟨_, _, rfl, ?_⟩
        generalize hst : (if 1 + r3 < ((j + 1 : Nat) : Int) then 1 + r3 else ((j + 1 : Nat) : Int)) = st
        have sp : 1 ≤ st ∧ st ≤ ((j + 1 : Nat) : Int) := by
          split at hst <;> omega
        have st2 := sp.2
        walk_at "og"
        refine ty_list (SqL.of w3.get) ?_
        walk_at "og"
        refine r_I (by omega) ?_
        walk_at "og"
        have m0 := Int.emod_nonneg (be + n - (((j + 1 : Nat) : Int))) (b := n) (by omega)
        have m1 := Int.emod_lt_of_pos (be + n - (((j + 1 : Nat) : Int))) (show 0 < n by omega)
        refine ⟨by show 2 ≤ sizeLine; decide, al_new w3 fun p4 B4 H4 w4 s4 e4 => ?_⟩
        walk_at "og"
        refine r_app w4.get (Nat.lt_of_le_of_lt (show xs.length ≤ 1000 by omega) (by decide)) ?_
        have w5 := w4.set (o' := .lst (xs ++ [.ref p4]))
        walk_at "og"
        refine ⟨(((j + 1 : Nat) : Int) - st).toNat, by omega, B4, xs ++ [.ref p4], some (.int st), ?_, by omega, w5.le (by omega), s'.trans s4, ?_, fun _ => by simp, fun v hv => ?_⟩
        · rw [Int.toNat_of_nonneg (by omega)]
          rfl
        · rw [List.length_append]
          show ((xs.length + 1 : Nat) : Int) + _ ≤ n
          omega
        · rcases List.mem_append.mp hv with hv | hv
          · exact (ha v hv).grow s4
          · cases List.mem_singleton.mp hv
            exact ⟨p4, _, _, rfl, e4, m0, m1, sp.1, by omega⟩
      · have c' : ¬ 0 < (k : Int) := fun z => c (decide_eq_true z)
        walk_at "og"
        refine q _ _ p xs (w'.frz.le (by omega)) (s'.trans (same_new ?_)) upd_same (by omega) (hne (by omega)) fun v hv => (ha v hv).grow (same_new ?_)
        · exact (w'.mu _ List.mem_cons_self).2.1
        · exact (w'.mu _ List.mem_cons_self).2.1
theorem ok__law_house {f : Addr} {fd : FuncData} (F : FunD K "_law_house" "_law_house" (defArgs s_law_house) (defBody s_law_house) (defScope s_law_house) [] [] f fd) (T : Txt K mg c)
    (C__law_errand_2 : CalG P w K mg base CX0 3 "_law_errand" (spErr K) 2 [] gv__law_errand_2) (C__law_next_2 : CalG P w K mg base CX0 2 "_law_next" (spNext K) 2 [] gv__law_next_2) (C__law_way_2 : CalG P w K mg base CX0 3 "_law_way" (spWay K) 2 [] gv__law_way_2) :
    FnG P w K mg base CX0 4 f fd ["draw", "floors", "many"] (spHouse K) := by
  refine okG F sc__law_house (fun vs H Q E h => ?_) (fun cdv A outer s H vs Q E hr hg h => ?_)
  · obtain ⟨d, m, ms, B, n, most, rfl, _⟩ := h
    rfl
  · obtain ⟨d, m, ms, B, n, most, rfl, w, n2, n16, hmost, q⟩ := h
    have hu := hu_of hr
    refine ⟨_, (pss_cons (ps_par3 (i := 3) (j := 4) (l := 5) (by rfl) sc__law_house.nd rfl rfl rfl (by decide) (by decide) (by decide) rfl rfl rfl (pa_cons (pe_g1 C__law_next_2 hr (by decide) hg (by rfl) (pa_cons (pv 0) (pa_cons pe_int pa_nil))) (pa_cons (pe_g1 C__law_next_2 hr (by decide) hg (by rfl) (pa_cons (pv 0) (pa_cons (pv 1) pa_nil))) (pa_cons (pe_lst pa_nil) pa_nil))) (by rfl))
      (pss_cons (ps_if (pt_cmpR op_gt (pv 3) pe_int (nomark _))
        (pss_one (ps_for PassesOwn.never rfl (pi_range1 (by rfl) T.z_range (pa_cons (pe_op op_add pe_int (pe_g1 C__law_next_2 hr (by decide) hg (by rfl) (pa_cons (pv 0) (pa_cons pe_int pa_nil)))) pa_nil)) (pg_name (i := 6) sc__law_house.nd rfl (Or.inl rfl))
        (pss_one (ps_set (i := 5) sc__law_house.nd rfl (Or.inl rfl) (pe_op (op_catXE (K := K) rfl) (pv 5) (pe_g1 C__law_way_2 hr (by decide) hg (by rfl) (pa_cons (pv 0) (pa_cons (pv 1) pa_nil))))))))
        pss_nil)
      (pss_cons (ps_for PassesOwn.never rfl (pi_range1 (by rfl) T.z_range (pa_cons (pe_ix (ix_listE (K := K) rfl) (pe_lst (pa_cons (pe_g1 C__law_next_2 hr (by decide) hg (by rfl) (pa_cons (pv 0) (pa_cons pe_int pa_nil))) (pa_cons pe_int (pa_cons pe_int (pa_cons pe_int pa_nil))))) (pv 3) (fun _ _ => rfl)) pa_nil)) (pg_name (i := 6) sc__law_house.nd rfl (Or.inl rfl))
        (pss_one (ps_expr (pe_bmE (K := K) rfl PySem.F.plainAttrs_list PySem.F.slot_list_append PySem.F.type_list_append mt_append (pv 5) (pa_cons (pe_g1 C__law_errand_2 hr (by decide) hg (by rfl) (pa_cons (pv 0) (pa_cons (pv 1) pa_nil))) pa_nil)))))
      (pss_cons (ps_if (pt_cmpR op_eq (pv 3) pe_int (nomark _))
        (pss_one (ps_expr (pe_bmE (K := K) rfl PySem.F.plainAttrs_list PySem.F.slot_list_pop PySem.F.type_list_pop mt_popAt (pv 5) (pa_cons (pe_g1 C__law_next_2 hr (by decide) hg (by rfl) (pa_cons (pv 0) (pa_cons (pe_callB (id := "len") (call_lenE (K := K) rfl) (by rfl) T.z_len (by decide +kernel) (pa_cons (pv 5) pa_nil)) pa_nil))) pa_nil))))
        pss_nil)
      (pss_cons (ps_if (PW.pt (pw_and (pt_cmpR (op_neDE (K := K) rfl hr.units) (pv 5) (pe_lst pa_nil) (nomark _)) (pw_and1 (pt_cmpR op_eq (pe_g1 C__law_next_2 hr (by decide) hg (by rfl) (pa_cons (pv 0) (pa_cons pe_int pa_nil))) pe_int (nomark _)))))
        (pss_one (ps_expr (pe_bmE (K := K) rfl PySem.F.plainAttrs_list PySem.F.slot_list_append PySem.F.type_list_append mt_append (pv 5) (pa_cons (pe_ix (ix_listE (K := K) rfl) (pv 5) (pe_g1 C__law_next_2 hr (by decide) hg (by rfl) (pa_cons (pv 0) (pa_cons (pe_callB (id := "len") (call_lenE (K := K) rfl) (by rfl) T.z_len (by decide +kernel) (pa_cons (pv 5) pa_nil)) pa_nil))) (fun _ _ => rfl)) pa_nil))))
        pss_nil)
      (pss_cons (ps_set (i := 7) sc__law_house.nd rfl (Or.inl rfl) (pe_g1 C__law_next_2 hr (by decide) hg (by rfl) (pa_cons (pv 0) (pa_cons (pe_op op_add (pe_callB (id := "len") (call_lenE (K := K) rfl) (by rfl) T.z_len (by decide +kernel) (pa_cons (pv 5) pa_nil)) pe_int) pa_nil))))
      (pss_one (ps_ret (pe_tup (pa_cons (pv 1) (pa_cons (pv 4) (pa_cons (pe_callTy (T := "tuple") (call_tupE (K := K) rfl) (by rfl) T.z_tuple (by decide +kernel) (pa_cons (pe_slice (sl_listE (K := K) rfl) (pe_op (op_catXE (K := K) rfl) (pe_slice (sl_listE (K := K) rfl) (pv 5) (po_some (pv 7)) po_none) (pe_slice (sl_listE (K := K) rfl) (pv 5) po_none (po_some (pv 7)))) po_none (po_some (pv 2))) pa_nil)) pa_nil)))))))))))), ?_⟩
    walk_at "og"
    refine ⟨rfl, rfl, d, m + 99, ms, B, 4, rfl, w, by decide, by decide, fun H1 wy w1 a1 b1 => ?_⟩
    walk_at "og"
    refine ⟨rfl, rfl, d, m + 98, ms, B, n, rfl, w1, by omega, by omega, fun H2 st w2 a2 b2 => ?_⟩
    walk_at "og"
    refine ⟨by decide, al_mut w2 fun p H3 w3 => ?_⟩
    walk_at "oj"
    -- what holds behind the ways
    let P1 : L2.St → Hp → Prop := fun σ H' => ∃ (B' : Hp) (xs : List V) (p : Addr) (k : Option V), σ = [some (.ref d), some (.int n), some (.int most), some (.int wy), some (.int st), some (.ref p), k, none] ∧
      Wd K d (m + 28) ((p, .lst xs) :: ms) B' H' ∧ Same B B' ∧ xs.length ≤ 64 ∧ (0 < wy → xs ≠ []) ∧ ∀ v ∈ xs, Erd B' v n
    with_reducible refine r_ifJ P1 ?_ ?_
    rotate_left
    · intro nx' K1
      walk_at "og"
      refine ite2 (fun c => ?_) (fun c => ?_)
      · walk_at "og"
        refine ⟨rfl, rfl, d, m + 97, _, B, 4, rfl, w3, by decide, by decide, fun H4 r4 w4 a4 b4 => ?_⟩
        walk_at "og"
        refine r_rng1e (j := 1 + r4) (by omega) (by omega) ?_
        refine loop_rng (fun i σ H' => ∃ (B' : Hp) (xs : List V) (p : Addr) (k : Option V), σ = [some (.ref d), some (.int n), some (.int most), some (.int wy), some (.int st), some (.ref p), k, none] ∧
          Wd K d (m + 28 + 17 * (4 - i)) ((p, .lst xs) :: ms) B' H' ∧ Same B B' ∧ xs.length ≤ 16 * i ∧ (0 < i → xs ≠ []) ∧ ∀ v ∈ xs, Erd B' v n) ⟨B, [], p, none, rfl, w4.le (by omega), Same.refl _, Nat.zero_le _, fun z => absurd z (Nat.lt_irrefl _), fun v hv => by cases hv⟩ ?_ ?_
        · rintro i σ H' hi ⟨B', xs, p', k, rfl, w', s', hl, hne, ha⟩
          have w0 := w'.le (show m + 28 + 17 * (4 - (i + 1)) + 17 ≤ m + 28 + 17 * (4 - i) by omega)
          walk_at "og"
          refine ⟨rfl, rfl, d, _, _, B', n, rfl, w0, n2, n16, fun B5 H5 a5 ys w5 s5 e5 l5 ne5 h5 => ?_⟩
          refine r_catX (SqL.of w5.get) (w5.seq (SqL.of e5)) (Nat.le_trans (show xs.length + ys.length ≤ 1000 by omega) (by decide)) ?_
          refine al_mut w5 fun p6 H6 w6 => ?_
          walk_at "og"
          refine ⟨B5, xs ++ ys, p6, _, rfl, w6.swap.drop, s'.trans s5, by rw [List.length_append]; omega, fun _ z => ne5 (List.append_eq_nil_iff.mp z).2, fun v hv => ?_⟩
          rcases List.mem_append.mp hv with hv | hv
          · exact (ha v hv).grow s5
          · exact h5 v hv
        · rintro σ H' ⟨B', xs, p', k, rfl, w', s', hl, hne, ha⟩
          walk_at "og"
          exact K1 _ _ ⟨B', xs, p', k, rfl, w'.le (by omega), s', by omega, fun _ => hne (by omega), ha⟩
      · walk_at "og"
        refine K1 _ _ ⟨B, [], p, none, rfl, w3.le (by omega), Same.refl _, Nat.zero_le _, fun z => absurd (decide_eq_true z) c, fun v hv => by cases hv⟩
    rintro σ H' ⟨B1, xs, p1, k1, rfl, wA, sA, lA, neA, hA⟩
    walk_at "og"
    refine ⟨rfl, rfl, d, m + 27, _, B1, 5, rfl, wA, by decide, by decide, fun H4 r4 w4 a4 b4 => ?_⟩
    walk_at "og"
    refine ⟨by show 4 ≤ sizeLine; decide, al_new w4 fun p5 B5 H5 w5 s5 e5 => ?_⟩
    obtain ⟨cnt, gc, c0, c4⟩ : ∃ cnt, atI [V.int r4, .int 0, .int 1, .int 0] wy = some (.int cnt) ∧ 0 ≤ cnt ∧ cnt ≤ 4 := by
      have : wy = 0 ∨ wy = 1 ∨ wy = 2 ∨ wy = 3 := by omega
      rcases this with rfl | rfl | rfl | rfl
      · exact ⟨_, rfl, by omega, by omega⟩
      · exact ⟨_, rfl, by omega, by omega⟩
      · exact ⟨_, rfl, by omega, by omega⟩
      · exact ⟨_, rfl, by omega, by omega⟩
    walk_at "og"
    refine r_ixL (w5.seq (SqL.of e5)) gc ?_
    walk_at "og"
    refine r_rng1e (j := cnt) (by omega) (by omega) ?_
    refine loop_rng (fun i σ H' => ∃ (B' : Hp) (xs : List V) (k : Option V), σ = [some (.ref d), some (.int n), some (.int most), some (.int wy), some (.int st), some (.ref p1), k, none] ∧
      Wd K d (m + 7 + 5 * (4 - i)) ((p1, .lst xs) :: ms) B' H' ∧ Same B B' ∧ xs.length ≤ 64 + i ∧ (0 < wy → xs ≠ []) ∧ ∀ v ∈ xs, Erd B' v n) ⟨B5, xs, k1, rfl, w5.le (by omega), sA.trans s5, lA, neA, fun v hv => (hA v hv).grow s5⟩ ?_ ?_
    · rintro i σ H' hi ⟨B', xs, k, rfl, w', s', hl, hne, ha⟩
      have w0 := w'.le (show m + 7 + 5 * (4 - (i + 1)) + 5 ≤ m + 7 + 5 * (4 - i) by omega)
      walk_at "og"
      refine ty_list (SqL.of w'.get) ?_
      walk_at "og"
      refine ⟨rfl, rfl, d, _, _, B', n, rfl, w0, n2, n16, fun B6 H6 v w6 s6 e6 => ?_⟩
      walk_at "og"
      refine r_app w6.get (Nat.lt_of_le_of_lt (show xs.length ≤ 1000 by omega) (by decide)) ?_
      have w7 := w6.set (o' := .lst (xs ++ [v]))
      walk_at "og"
      refine ⟨B6, xs ++ [v], _, rfl, w7, s'.trans s6, by rw [List.length_append]; show xs.length + 1 ≤ _; omega, fun _ => by simp, fun u hu => ?_⟩
      rcases List.mem_append.mp hu with hu | hu
      · exact (ha u hu).grow s6
      · cases List.mem_singleton.mp hu
        exact e6
    · rintro σ H' ⟨B2, xs, k2, rfl, wB, sB, lB, neB, hB⟩
      walk_at "oj"
      let P2 : L2.St → Hp → Prop := fun σ H' => ∃ (B' : Hp) (xs : List V), σ = [some (.ref d), some (.int n), some (.int most), some (.int wy), some (.int st), some (.ref p1), k2, none] ∧
        Wd K d (m + 6) ((p1, .lst xs) :: ms) B' H' ∧ Same B B' ∧ xs.length ≤ 68 ∧ ∀ v ∈ xs, Erd B' v n
      with_reducible refine r_ifJ P2 ?_ ?_
      rotate_left
      · intro nx' K2
        walk_at "og"
        refine ite2 (fun c => ?_) (fun c => ?_)
        · have c' : wy = 3 := of_decide_eq_true c
          have hx : 0 < xs.length := List.length_pos_iff.mpr (neB (by omega))
          walk_at "og"
          refine ty_list (SqL.of wB.get) ?_
          walk_at "og"
          refine r_lenL (SqL.of wB.get) ?_
          walk_at "og"
          refine ⟨rfl, rfl, d, m + 6, _, B2, (xs.length : Nat), rfl, wB.le (by omega), by omega, by omega, fun H6 r6 w6 a6 b6 => ?_⟩
          walk_at "og"
          refine r_popAt w6.get a6 (by omega) (by omega) fun y hy => ?_
          walk_at "og"
          exact K2 _ _ ⟨B2, _, rfl, w6.set, sB, Nat.le_trans (List.length_eraseIdx_le _ _) (by omega), fun v hv => hB v (List.mem_of_mem_eraseIdx hv)⟩
        · walk_at "og"
          exact K2 _ _ ⟨B2, xs, rfl, wB.le (by omega), sB, by omega, hB⟩
      rintro σ H' ⟨B3, xs, rfl, wC, sC, lC, hC⟩
      walk_at "oj"
      let P3 : L2.St → Hp → Prop := fun σ H' => ∃ (B' : Hp) (xs : List V), σ = [some (.ref d), some (.int n), some (.int most), some (.int wy), some (.int st), some (.ref p1), k2, none] ∧
        Wd K d (m + 1) ((p1, .lst xs) :: ms) B' H' ∧ Same B B' ∧ xs.length ≤ 69 ∧ ∀ v ∈ xs, Erd B' v n
      with_reducible refine r_ifJ P3 ?_ ?_
      rotate_left
      · intro nx' K3
        walk_at "og"
        refine ⟨by decide, al_new wC fun p6 B6 H6 w6 s6 e6 => ?_⟩
        obtain ⟨ds, dp, dc, dd⟩ := erds_dp K (B := H6) fun v hv => ((hC v hv).grow s6).grow w6.sb
        refine r_neNil (SqL.of w6.get) (w6.seq (SqL.of e6)) dp dc (by omega) ?_
        walk_at "og"
        refine ite2 (fun c => ?_) (fun c => ?_)
        · have hx : 0 < xs.length := by
            cases xs with
            | nil => cases c
            | cons _ _ => exact Nat.succ_pos _
          walk_at "og"
          refine ⟨rfl, rfl, d, m + 5, _, B6, 4, rfl, w6, by decide, by decide, fun H7 r7 w7 a7 b7 => ?_⟩
          walk_at "og"
          refine ite2 (fun c => ?_) (fun c => ?_)
          · walk_at "og"
            refine ty_list (SqL.of w7.get) ?_
            walk_at "og"
            refine r_lenL (SqL.of w7.get) ?_
            walk_at "og"
            refine ⟨rfl, rfl, d, m + 4, _, B6, (xs.length : Nat), rfl, w7, by omega, by omega, fun H8 r8 w8 a8 b8 => ?_⟩
            obtain ⟨v, hv, gv⟩ := atI_ok (xs := xs) a8 b8
            refine r_ixL (SqL.of w8.get) gv ?_
            walk_at "og"
            refine r_app w8.get (Nat.lt_of_le_of_lt (show xs.length ≤ 1000 by omega) (by decide)) ?_
            have w9 := w8.set (o' := .lst (xs ++ [v]))
            walk_at "og"
            refine K3 _ _ ⟨B6, xs ++ [v], rfl, w9.le (by omega), sC.trans s6, by rw [List.length_append]; show xs.length + 1 ≤ _; omega, fun u hu => ?_⟩
            rcases List.mem_append.mp hu with hu | hu
            · exact (hC u hu).grow s6
            · cases List.mem_singleton.mp hu
              exact (hC v hv).grow s6
          · walk_at "og"
            exact K3 _ _ ⟨B6, xs, rfl, w7.le (by omega), sC.trans s6, by omega, fun u hu => (hC u hu).grow s6⟩
        · walk_at "og"
          exact K3 _ _ ⟨B6, xs, rfl, w6.le (by omega), sC.trans s6, by omega, fun u hu => (hC u hu).grow s6⟩
      rintro σ H' ⟨B4, xs, rfl, wD, sD, lD, hD⟩
      walk_at "og"
      refine r_lenL (SqL.of wD.get) ?_
      walk_at "og"
      refine ⟨rfl, rfl, d, m, _, B4, ((xs.length : Nat) : Int) + 1, rfl, wD, by omega, by omega, fun H5 r5 w5 a5 b5 => ?_⟩
      walk_at "og"
      refine r_slL (SqL.of w5.get) (al_new w5 fun p6 B6 H6 w6 s6 e6 => ?_)
      walk_at "og"
      refine r_slL (SqL.of w6.get) (al_new w6 fun p7 B7 H7 w7 s7 e7 => ?_)
      refine r_catX (w7.seq (SqL.of (s7 _ _ e6))) (w7.seq (SqL.of e7)) ?_ (al_new w7 fun p8 B8 H8 w8 s8 e8 => ?_)
      · have h1 := cutV_length xs (some r5) none
        have h2 := cutV_length xs none (some r5)
        exact Nat.le_trans (show _ ≤ 1000 by omega) (by decide)
      walk_at "og"
      refine r_slL (w8.seq (SqL.of e8)) (al_new w8 fun p9 B9 H9 w9 s9 e9 => ?_)
      walk_at "og"
      refine r_tupOf (w9.seq (SqL.of e9)) (al_new w9 fun pa Ba Ha wa sa ea => ?_)
      walk_at "og"
      refine ⟨by show 3 ≤ sizeLine; decide, al_new wa fun pb Bb Hb wb sb eb => ?_⟩
      have sz : Same B4 Bb := s6.trans (s7.trans (s8.trans (s9.trans (sa.trans sb))))
      refine q _ _ _ st pa _ wb.drop (sD.trans sz) ⟨⟨pb, rfl, eb⟩, sb _ _ ea, n2, n16, a2, b2, cutV_most _ _, fun v hv => ?_⟩
      have hm := mem_cutV hv
      rcases List.mem_append.mp hm with hm | hm
      · exact (hD v (mem_cutV hm)).grow sz
      · exact (hD v (mem_cutV hm)).grow sz
theorem ok__law_is_within {f : Addr} {fd : FuncData} (F : FunD K "_law_is_within" "_law_is_within" (defArgs s_law_is_within) (defBody s_law_is_within) (defScope s_law_is_within) [] [] f fd) (T : Txt K mg c)
     :
    FnG P w K mg base CX0 1 f fd ["what", "low", "high"] (spWithin K) := by
  refine okG F sc__law_is_within (fun vs H Q E h => ?_) (fun cdv A outer s H vs Q E hr hg h => ?_)
  · obtain ⟨x, l, h, b, rfl, _⟩ := h
    rfl
  · obtain ⟨x, l, hi, b, rfl, hw, q⟩ := h
    have hu := hu_of hr
    refine ⟨_, (pss_one (ps_ret (pe_and (pe_callB (id := "isinstance") (call_isiE (K := K) rfl) (by rfl) T.z_isinstance (by decide +kernel) (pa_cons (pv 0) (pa_cons (pe_ty "int" (by rfl) T.z_int (by decide +kernel)) pa_nil))) (pe_and (pe_not (pe_callB (id := "isinstance") (call_isiE (K := K) rfl) (by rfl) T.z_isinstance (by decide +kernel) (pa_cons (pv 0) (pa_cons (pe_ty "bool" (by rfl) T.z_bool (by decide +kernel)) pa_nil)))) (pe_one (pe_chain op_le op_le (pv 1) (pv 0) (pv 2))))))), ?_⟩
    rcases hw with ⟨i, rfl, rfl⟩ | ⟨nt, rfl⟩
    · refine r_andV ?_
      walk_at "og"
      refine r_isi (.base (.int i)) (kit_ty (b := "int") (r := true) (by decide +kernel)) ?_
      walk_at "og"
      refine r_andV ?_
      walk_at "og"
      refine r_isi (.base (.int i)) (kit_ty (b := "bool") (r := false) (by decide +kernel)) ?_
      walk_at "og"
      exact r_chainLL (x := l) (y := i) (z := hi) (fun _ z => ⟨_, rfl, z⟩) (fun _ z => ⟨_, rfl, z⟩) (fun _ z => ⟨_, rfl, z⟩) q
    · obtain ⟨t, b1, b2, ty, e1, e2, e3⟩ := nt.kit (K := K)
      refine r_andV ?_
      walk_at "og"
      refine r_isi ty e1 ?_
      cases b1 with
      | false =>
        walk_at "og"
        exact q
      | true =>
        walk_at "og"
        refine r_andV ?_
        walk_at "og"
        refine r_isi ty e2 ?_
        cases b2 with
        | false => cases e3
        | true =>
          walk_at "og"
          exact q
theorem ok__law_place {f : Addr} {fd : FuncData} (F : FunD K "_law_place" "_law_place" (defArgs s_law_place) (defBody s_law_place) (defScope s_law_place) [] [] f fd) (T : Txt K mg c)
    (C__law_is_within_3 : CalG P w K mg base CX0 1 "_law_is_within" (spWithin K) 3 [] gv__law_is_within_3) :
    FnG P w K mg base CX0 2 f fd ["what"] (spPlace K) := by
  refine okG F sc__law_place (fun vs H Q E h => ?_) (fun cdv A outer s H vs Q E hr hg h => ?_)
  · obtain ⟨x, r, rfl, _⟩ := h
    rfl
  · obtain ⟨x, r, rfl, hp, q⟩ := h
    have hu := hu_of hr
    refine ⟨_, (pss_cons (ps_if (PW.pt (pw_or (pt_not (pt_val (pe_callB (id := "isinstance") (call_isiE (K := K) rfl) (by rfl) T.z_isinstance (by decide +kernel) (pa_cons (pv 0) (pa_cons (pe_ty "tuple" (by rfl) T.z_tuple (by decide +kernel)) pa_nil))))) (pw_or1 (pt_cmpR op_ne (pe_callB (id := "len") (call_lenE (K := K) rfl) (by rfl) T.z_len (by decide +kernel) (pa_cons (pv 0) pa_nil)) pe_int (nomark _)))))
        (pss_one (ps_ret (pe_lst (pa_cons pe_non pa_nil))))
        pss_nil)
      (pss_cons (ps_if (pt_not (pt_val (pe_g1 C__law_is_within_3 hr (by decide) hg (by rfl) (pa_cons (pe_ix (ix_tupE (K := K) rfl) (pv 0) pe_int (fun _ _ => rfl)) (pa_cons pe_int (pa_cons pe_int pa_nil))))))
        (pss_one (ps_ret (pe_lst (pa_cons pe_str pa_nil))))
        pss_nil)
      (pss_cons (ps_if (pt_not (pt_val (pe_g1 C__law_is_within_3 hr (by decide) hg (by rfl) (pa_cons (pe_ix (ix_tupE (K := K) rfl) (pv 0) pe_int (fun _ _ => rfl)) (pa_cons pe_int (pa_cons (pe_op op_sub (pe_ix (ix_tupE (K := K) rfl) (pv 0) pe_int (fun _ _ => rfl)) pe_int) pa_nil))))))
        (pss_one (ps_ret (pe_lst (pa_cons pe_str pa_nil))))
        pss_nil)
      (pss_cons (ps_if (PW.pt (pw_or (pt_not (pt_val (pe_callB (id := "isinstance") (call_isiE (K := K) rfl) (by rfl) T.z_isinstance (by decide +kernel) (pa_cons (pe_ix (ix_tupE (K := K) rfl) (pv 0) pe_int (fun _ _ => rfl)) (pa_cons (pe_ty "tuple" (by rfl) T.z_tuple (by decide +kernel)) pa_nil))))) (pw_or1 (pt_cmpR op_gt (pe_callB (id := "len") (call_lenE (K := K) rfl) (by rfl) T.z_len (by decide +kernel) (pa_cons (pe_ix (ix_tupE (K := K) rfl) (pv 0) pe_int (fun _ _ => rfl)) pa_nil)) pe_int (nomark _)))))
        (pss_one (ps_ret (pe_lst (pa_cons pe_str pa_nil))))
        pss_nil)
      (pss_cons (ps_for PassesOwn.never rfl (pi_enumT (K := K) rfl (by rfl) T.z_enumerate (pa_cons (pe_ix (ix_tupE (K := K) rfl) (pv 0) pe_int (fun _ _ => rfl)) pa_nil)) (pg_tupE (K := K) rfl rfl (pgs_cons (pg_name (i := 1) sc__law_place.nd rfl (Or.inl rfl)) (pgs_cons (pg_name (i := 2) sc__law_place.nd rfl (Or.inl rfl)) pgs_nil)))
        (pss_cons (ps_if (PW.pt (pw_or (pt_not (pt_val (pe_callB (id := "isinstance") (call_isiE (K := K) rfl) (by rfl) T.z_isinstance (by decide +kernel) (pa_cons (pv 2) (pa_cons (pe_ty "tuple" (by rfl) T.z_tuple (by decide +kernel)) pa_nil))))) (pw_or (pt_cmpR op_ne (pe_callB (id := "len") (call_lenE (K := K) rfl) (by rfl) T.z_len (by decide +kernel) (pa_cons (pv 2) pa_nil)) pe_int (nomark _)) (pw_or1 (pt_not (pt_val (pe_g1 C__law_is_within_3 hr (by decide) hg (by rfl) (pa_cons (pe_ix (ix_tupE (K := K) rfl) (pv 2) pe_int (fun _ _ => rfl)) (pa_cons pe_int (pa_cons (pe_op op_sub (pe_ix (ix_tupE (K := K) rfl) (pv 0) pe_int (fun _ _ => rfl)) pe_int) pa_nil))))))))))
        (pss_one (ps_ret (pe_lst (pa_cons (pv 1) pa_nil))))
        pss_nil)
      (pss_one (ps_if (pt_not (pt_val (pe_g1 C__law_is_within_3 hr (by decide) hg (by rfl) (pa_cons (pe_ix (ix_tupE (K := K) rfl) (pv 2) pe_int (fun _ _ => rfl)) (pa_cons pe_int (pa_cons (pe_op op_mulW pe_int (pe_ix (ix_tupE (K := K) rfl) (pv 0) pe_int (fun _ _ => rfl))) pa_nil))))))
        (pss_one (ps_ret (pe_lst (pa_cons (pv 1) pa_nil))))
        pss_nil))))
      (pss_one (ps_ret (pe_lst pa_nil)))))))), ?_⟩
    have tk : PySem.W.kitOne K (.type "tuple") (.type "tuple") = some true := kit_ty (by decide +kernel)
    have fin : ∀ (H' : Hp) (v : V), Same H H' → r = some v → [v].length ≤ sizeLine ∧ New Q H' (.lst [v]) := fun H' v s e => ⟨by show 1 ≤ sizeLine; decide, by
      have z := q _ s
      rw [e] at z
      exact z⟩
    cases hp with
    | kind k =>
      obtain ⟨t, ty, e⟩ := k.kit (K := K)
      walk_at "og"
      refine r_isi ty e ?_
      walk_at "og"
      exact fin _ _ (Same.refl _) rfl
    | len e k =>
      walk_at "og"
      refine r_isi (.base (.tup e)) tk ?_
      walk_at "og"
      refine r_lenT (SqT.of e) ?_
      walk_at "og"
      refine r_ifT ?_ ?_
      · rw [decide_eq_false (by omega)]
        rfl
      walk_at "og"
      exact fin _ _ (Same.refl _) rfl
    | floors e w =>
      walk_at "og"
      refine r_isi (.base (.tup e)) tk ?_
      walk_at "og"
      refine r_lenT (SqT.of e) ?_
      walk_at "og"
      refine r_ixT (SqT.of e) rfl ?_
      walk_at "og"
      refine ⟨rfl, rfl, _, 2, 16, false, rfl, w, ?_⟩
      walk_at "og"
      exact fin _ _ (Same.refl _) rfl
    | @start a fl s t e l u w =>
      walk_at "og"
      refine r_isi (.base (.tup e)) tk ?_
      walk_at "og"
      refine r_lenT (SqT.of e) ?_
      walk_at "og"
      refine r_ixT (SqT.of e) rfl ?_
      walk_at "og"
      refine ⟨rfl, rfl, _, 2, 16, true, rfl, whole_t l u, ?_⟩
      walk_at "og"
      refine r_ixT (SqT.of e) rfl ?_
      walk_at "og"
      refine r_ixT (SqT.of e) rfl ?_
      walk_at "og"
      refine ⟨rfl, rfl, _, 0, _, false, rfl, w, ?_⟩
      walk_at "og"
      exact fin _ _ (Same.refl _) rfl
    | @errK a fl s t e l u w k =>
      obtain ⟨ty, tx, e3⟩ := k.kit (K := K)
      walk_at "og"
      refine r_isi (.base (.tup e)) tk ?_
      walk_at "og"
      refine r_lenT (SqT.of e) ?_
      walk_at "og"
      refine r_ixT (SqT.of e) rfl ?_
      walk_at "og"
      refine ⟨rfl, rfl, _, 2, 16, true, rfl, whole_t l u, ?_⟩
      walk_at "og"
      refine r_ixT (SqT.of e) rfl ?_
      walk_at "og"
      refine r_ixT (SqT.of e) rfl ?_
      walk_at "og"
      refine ⟨rfl, rfl, _, 0, _, true, rfl, w, ?_⟩
      walk_at "og"
      refine r_ixT (SqT.of e) rfl ?_
      walk_at "og"
      refine r_isi tx e3 ?_
      walk_at "og"
      exact fin _ _ (Same.refl _) rfl
    | @errL a ce fl s xs e l u w e2 m =>
      walk_at "og"
      refine r_isi (.base (.tup e)) tk ?_
      walk_at "og"
      refine r_lenT (SqT.of e) ?_
      walk_at "og"
      refine r_ixT (SqT.of e) rfl ?_
      walk_at "og"
      refine ⟨rfl, rfl, _, 2, 16, true, rfl, whole_t l u, ?_⟩
      walk_at "og"
      refine r_ixT (SqT.of e) rfl ?_
      walk_at "og"
      refine r_ixT (SqT.of e) rfl ?_
      walk_at "og"
      refine ⟨rfl, rfl, _, 0, _, true, rfl, w, ?_⟩
      walk_at "og"
      refine r_ixT (SqT.of e) rfl ?_
      walk_at "og"
      refine r_isi (.base (.tup e2)) tk ?_
      walk_at "og"
      refine r_ixT (SqT.of e) rfl ?_
      walk_at "og"
      refine r_lenT (SqT.of e2) ?_
      walk_at "og"
      refine r_ifT (decide_eq_true (by omega)) ?_
      walk_at "og"
      exact fin _ _ (Same.refl _) rfl
    | @err a ce fl s y xs i e l u w e2 m hi bad ok =>
      walk_at "og"
      refine r_isi (.base (.tup e)) tk ?_
      walk_at "og"
      refine r_lenT (SqT.of e) ?_
      walk_at "og"
      refine r_ixT (SqT.of e) rfl ?_
      walk_at "og"
      refine ⟨rfl, rfl, _, 2, 16, true, rfl, whole_t l u, ?_⟩
      walk_at "og"
      refine r_ixT (SqT.of e) rfl ?_
      walk_at "og"
      refine r_ixT (SqT.of e) rfl ?_
      walk_at "og"
      refine ⟨rfl, rfl, _, 0, _, true, rfl, w, ?_⟩
      walk_at "og"
      refine r_ixT (SqT.of e) rfl ?_
      walk_at "og"
      refine r_isi (.base (.tup e2)) tk ?_
      walk_at "og"
      refine r_ixT (SqT.of e) rfl ?_
      walk_at "og"
      refine r_lenT (SqT.of e2) ?_
      walk_at "og"
      refine r_ifF (decide_eq_false (by omega)) ?_
      walk_at "og"
      refine r_ixT (SqT.of e) rfl ?_
      walk_at "og"
      refine ⟨_, _, rfl, SqT.of e2, ?_⟩
      have hil : i < xs.length := (List.getElem?_eq_some_iff.mp hi).1
      refine loop_enumT (xs := xs) (fun j σ H' => ∃ n4 n5, σ = [some (.ref a), n4, n5] ∧ Same H H' ∧ j ≤ i) ⟨none, none, rfl, Same.refl _, Nat.zero_le _⟩ ?_ ?_ ?_
      · rintro j σ H' _ ⟨_, _, _, sm, _⟩
        exact SqT.of (sm _ _ e2)
      · rintro j z σ H' T0 hz ⟨n4, n5, rfl, sm, hj⟩ hT
        have sm2 : Same H (upd H' T0 (.tup [.int (j : Nat), z])) := sm.trans (same_new hT)
        refine g_tup (SqT.of upd_same) rfl ?_
        walk_at "og"
        by_cases hji : j = i
        · subst hji
          have := hi.symm.trans hz
          cases this
          have bad2 := bad.grow sm2
          have fin2 := fin _ (.int (j : Nat)) sm2 rfl
          rcases bad2 with ⟨b, u1, v1, b1, b2, rfl, hb, wa, wb, eb⟩ | ⟨_, nt | ⟨b, ys, rfl, hb, hl⟩⟩
          · refine r_isi (.base (.tup hb)) tk ?_
            walk_at "og"
            refine r_lenT (SqT.of hb) ?_
            walk_at "og"
            refine r_ixT (SqT.of hb) rfl ?_
            walk_at "og"
            refine r_ixT (SqT.of (sm2 _ _ e)) rfl ?_
            walk_at "og"
            refine ⟨rfl, rfl, _, 0, _, b1, rfl, wa, ?_⟩
            walk_at "og"
            cases b1 with
            | false =>
              walk_at "og"
              exact fin2
            | true =>
              cases b2 with
              | true => cases eb
              | false =>
                walk_at "og"
                refine r_ixT (SqT.of hb) rfl ?_
                walk_at "og"
                refine r_ixT (SqT.of (sm2 _ _ e)) rfl ?_
                walk_at "og"
                refine r_I (cm64 (by decide) (by omega)) ?_
                walk_at "og"
                refine ⟨rfl, rfl, _, 1, _, false, rfl, wb, ?_⟩
                walk_at "og"
                exact fin2
          · obtain ⟨ty, tx, e3⟩ := nt.kit (K := K)
            refine r_isi tx e3 ?_
            walk_at "og"
            exact fin2
          · refine r_isi (.base (.tup hb)) tk ?_
            walk_at "og"
            refine r_lenT (SqT.of hb) ?_
            walk_at "og"
            refine r_ifT ?_ ?_
            · rw [decide_eq_false (by omega)]
              rfl
            walk_at "og"
            exact fin2
        · obtain ⟨b, u1, v1, rfl, hb, l1, l2, l3, l4⟩ := ((ok j z (by omega) hz).grow sm2).erd
          refine r_isi (.base (.tup hb)) tk ?_
          walk_at "og"
          refine r_lenT (SqT.of hb) ?_
          walk_at "og"
          refine r_ixT (SqT.of hb) rfl ?_
          walk_at "og"
          refine r_ixT (SqT.of (sm2 _ _ e)) rfl ?_
          walk_at "og"
          refine ⟨rfl, rfl, _, 0, _, true, rfl, whole_t l1 (by omega), ?_⟩
          walk_at "og"
          refine r_ixT (SqT.of hb) rfl ?_
          walk_at "og"
          refine r_ixT (SqT.of (sm2 _ _ e)) rfl ?_
          walk_at "og"
          refine r_I (cm64 (by decide) (by omega)) ?_
          walk_at "og"
          refine ⟨rfl, rfl, _, 1, _, true, rfl, whole_t l3 l4, ?_⟩
          walk_at "og"
          exact ⟨_, _, rfl, sm2, by omega⟩
      · rintro σ H' ⟨_, _, _, _, hj⟩
        omega
    | @ok a ce fl s xs e l u w e2 m ok =>
      walk_at "og"
      refine r_isi (.base (.tup e)) tk ?_
      walk_at "og"
      refine r_lenT (SqT.of e) ?_
      walk_at "og"
      refine r_ixT (SqT.of e) rfl ?_
      walk_at "og"
      refine ⟨rfl, rfl, _, 2, 16, true, rfl, whole_t l u, ?_⟩
      walk_at "og"
      refine r_ixT (SqT.of e) rfl ?_
      walk_at "og"
      refine r_ixT (SqT.of e) rfl ?_
      walk_at "og"
      refine ⟨rfl, rfl, _, 0, _, true, rfl, w, ?_⟩
      walk_at "og"
      refine r_ixT (SqT.of e) rfl ?_
      walk_at "og"
      refine r_isi (.base (.tup e2)) tk ?_
      walk_at "og"
      refine r_ixT (SqT.of e) rfl ?_
      walk_at "og"
      refine r_lenT (SqT.of e2) ?_
      walk_at "og"
      refine r_ifF (decide_eq_false (by omega)) ?_
      walk_at "og"
      refine r_ixT (SqT.of e) rfl ?_
      walk_at "og"
      refine ⟨_, _, rfl, SqT.of e2, ?_⟩
      refine loop_enumT (xs := xs) (fun j σ H' => ∃ n4 n5, σ = [some (.ref a), n4, n5] ∧ Same H H') ⟨none, none, rfl, Same.refl _⟩ ?_ ?_ ?_
      · rintro j σ H' _ ⟨_, _, _, sm⟩
        exact SqT.of (sm _ _ e2)
      · rintro j z σ H' T0 hz ⟨n4, n5, rfl, sm⟩ hT
        have sm2 : Same H (upd H' T0 (.tup [.int (j : Nat), z])) := sm.trans (same_new hT)
        refine g_tup (SqT.of upd_same) rfl ?_
        walk_at "og"
        · obtain ⟨b, u1, v1, rfl, hb, l1, l2, l3, l4⟩ := ((ok j z hz).grow sm2).erd
          refine r_isi (.base (.tup hb)) tk ?_
          walk_at "og"
          refine r_lenT (SqT.of hb) ?_
          walk_at "og"
          refine r_ixT (SqT.of hb) rfl ?_
          walk_at "og"
          refine r_ixT (SqT.of (sm2 _ _ e)) rfl ?_
          walk_at "og"
          refine ⟨rfl, rfl, _, 0, _, true, rfl, whole_t l1 (by omega), ?_⟩
          walk_at "og"
          refine r_ixT (SqT.of hb) rfl ?_
          walk_at "og"
          refine r_ixT (SqT.of (sm2 _ _ e)) rfl ?_
          walk_at "og"
          refine r_I (cm64 (by decide) (by omega)) ?_
          walk_at "og"
          refine ⟨rfl, rfl, _, 1, _, true, rfl, whole_t l3 l4, ?_⟩
          walk_at "og"
          exact ⟨_, _, rfl, sm2⟩
      · rintro σ H' ⟨_, _, rfl, sm⟩
        walk_at "og"
        exact ⟨by decide, q _ sm⟩
theorem ok__law_odd {f : Addr} {fd : FuncData} (F : FunD K "_law_odd" "_law_odd" (defArgs s_law_odd) (defBody s_law_odd) (defScope s_law_odd) [] [] f fd) (T : Txt K mg c)
    (C__law_next_2 : CalG P w K mg base CX0 2 "_law_next" (spNext K) 2 [] gv__law_next_2) :
    FnG P w K mg base CX0 3 f fd ["draw"] (spOdd K) := by
  refine okG F sc__law_odd (fun vs H Q E h => ?_) (fun cdv A outer s H vs Q E hr hg h => ?_)
  · obtain ⟨d, m, ms, B, rfl, _⟩ := h
    rfl
  · obtain ⟨d, m, ms, B, rfl, w, q⟩ := h
    have hu := hu_of hr
    refine ⟨_, (pss_cons (ps_set (i := 1) sc__law_odd.nd rfl (Or.inl rfl) (pe_lst (pa_cons pe_non (pa_cons pe_bl (pa_cons pe_bl (pa_cons pe_str (pa_cons (pe_lst pa_nil) (pa_cons (pe_tup pa_nil) (pa_cons pe_dnewK (pa_cons (pe_tup (pa_cons pe_int (pa_cons pe_int pa_nil))) (pa_cons (pe_lst (pa_cons pe_int (pa_cons pe_int pa_nil))) (pa_cons (pe_op op_sub pe_int pe_int) (pa_cons pe_int (pa_cons pe_str (pa_cons (pe_tup (pa_cons pe_int (pa_cons pe_int (pa_cons pe_int pa_nil)))) (pa_cons (pe_op op_pow pe_int pe_int) pa_nil))))))))))))))))
      (pss_one (ps_ret (pe_ix (ix_listE (K := K) rfl) (pv 1) (pe_g1 C__law_next_2 hr (by decide) hg (by rfl) (pa_cons (pv 0) (pa_cons pe_int pa_nil))) (fun _ _ => rfl))))), ?_⟩
    walk_at "og"
    refine ⟨by decide, al_new w fun p1 B1 H1 w1 s1 e1 => ?_⟩
    walk_at "og"
    refine ⟨by decide, al_new w1 fun p2 B2 H2 w2 s2 e2 => ?_⟩
    walk_at "og"
    refine al_new w2 fun p3 B3 H3 w3 s3 e3 => ?_
    walk_at "og"
    refine ⟨by show 2 ≤ sizeLine; decide, al_new w3 fun p4 B4 H4 w4 s4 e4 => ?_⟩
    walk_at "og"
    refine ⟨by show 2 ≤ sizeLine; decide, al_new w4 fun p5 B5 H5 w5 s5 e5 => ?_⟩
    walk_at "og"
    refine ⟨by show 3 ≤ sizeLine; decide, al_new w5 fun p6 B6 H6 w6 s6 e6 => ?_⟩
    walk_at "og"
    refine r_I ⟨by decide, by decide, by decide⟩ ?_
    walk_at "og"
    refine ⟨by show 14 ≤ sizeLine; decide, al_new w6 fun p8 B8 H8 w8 s8 e8 => ?_⟩
    walk_at "og"
    refine ⟨rfl, rfl, d, m, ms, B8, 14, rfl, w8, by decide, by decide, fun H9 r w9 r0 r1 => ?_⟩
    have t8 : Same B B8 := s1.trans (s2.trans (s3.trans (s4.trans (s5.trans (s6.trans s8)))))
    have sq := w9.seq (SqL.of e8)
    have rr : r = 0 ∨ r = 1 ∨ r = 2 ∨ r = 3 ∨ r = 4 ∨ r = 5 ∨ r = 6 ∨ r = 7 ∨ r = 8 ∨ r = 9 ∨ r = 10 ∨ r = 11 ∨ r = 12 ∨ r = 13 := by omega
    have k1 : ∀ x : V, x = .int 1 → Kn B8 140 0 x := fun x e => by
      subst e
      exact kn_int (by decide) (by decide) (by decide)
    rcases rr with rfl | rfl | rfl | rfl | rfl | rfl | rfl | rfl | rfl | rfl | rfl | rfl | rfl | rfl
    · exact r_ixL sq rfl (q _ _ _ w9 t8 .non)
    · exact r_ixL sq rfl (q _ _ _ w9 t8 (.bl _))
    · exact r_ixL sq rfl (q _ _ _ w9 t8 (.bl _))
    · exact r_ixL sq rfl (q _ _ _ w9 t8 (.str (by decide +kernel) (by decide +kernel)))
    · exact r_ixL sq rfl (q _ _ _ w9 t8 (.lst (m := 0) (s8 _ _ (s6 _ _ (s5 _ _ (s4 _ _ (s3 _ _ (s2 _ _ e1)))))) (fun x hx => by cases hx) (by decide)))
    · exact r_ixL sq rfl (q _ _ _ w9 t8 (.tup (m := 0) (s8 _ _ (s6 _ _ (s5 _ _ (s4 _ _ (s3 _ _ e2))))) (fun x hx => by cases hx) (by decide)))
    · exact r_ixL sq rfl (q _ _ _ w9 t8 (.dK (m := 0) (s8 _ _ (s6 _ _ (s5 _ _ (s4 _ _ e3)))) (fun x hx => by cases hx) (fun x hx => by cases hx) (by decide)))
    · exact r_ixL sq rfl (q _ _ _ w9 t8 (.tup (m := 140) (s8 _ _ (s6 _ _ (s5 _ _ e4))) (fun x hx => k1 x (by simpa using hx)) (by show 141 * 2 ≤ 450; decide)))
    · exact r_ixL sq rfl (q _ _ _ w9 t8 (.lst (m := 140) (s8 _ _ (s6 _ _ e5)) (fun x hx => k1 x (by simpa using hx)) (by show 141 * 2 ≤ 450; decide)))
    · exact r_ixL sq rfl (q _ _ _ w9 t8 (kn_int (by decide) (by decide) (by decide)))
    · exact r_ixL sq rfl (q _ _ _ w9 t8 (kn_int (by decide) (by decide) (by decide)))
    · exact r_ixL sq rfl (q _ _ _ w9 t8 (.str (by decide +kernel) (by decide +kernel)))
    · refine r_ixL sq rfl (q _ _ _ w9 t8 (.tup (m := 140) (s8 _ _ e6) (fun x hx => ?_) (by show 141 * 3 ≤ 450; decide)))
      simp only [List.mem_cons, List.not_mem_nil, or_false] at hx
      rcases hx with rfl | rfl | rfl <;> exact kn_int (by decide) (by decide) (by decide)
    · exact r_ixL sq rfl (q _ _ _ w9 t8 (.int (by decide +kernel) (by decide)))
theorem ok__law_bent {f : Addr} {fd : FuncData} (F : FunD K "_law_bent" "_law_bent" (defArgs s_law_bent) (defBody s_law_bent) (defScope s_law_bent) [] [] f fd) (T : Txt K mg c)
    (C__law_errand_2 : CalG P w K mg base CX0 3 "_law_errand" (spErr K) 2 [] gv__law_errand_2) (C__law_next_2 : CalG P w K mg base CX0 2 "_law_next" (spNext K) 2 [] gv__law_next_2) (C__law_odd_1 : CalG P w K mg base CX0 3 "_law_odd" (spOdd K) 1 [] gv__law_odd_1) :
    FnG P w K mg base CX0 4 f fd ["draw", "base"] (spBent K) := by
  refine okG F sc__law_bent (fun vs H Q E h => ?_) (fun cdv A outer s H vs Q E hr hg h => ?_)
  · obtain ⟨d, m, ms, B, v, fl, st, c, xs, rfl, _⟩ := h
    rfl
  · obtain ⟨d, m, ms, B, v, fl, st, ce, xs, rfl, w, hs, q⟩ := h
    have hu := hu_of hr
    refine ⟨_, (pss_cons (ps_asg (pv 1) (pg_tupE (K := K) rfl rfl (pgs_cons (pg_name (i := 2) sc__law_bent.nd rfl (Or.inl rfl)) (pgs_cons (pg_name (i := 3) sc__law_bent.nd rfl (Or.inl rfl)) (pgs_cons (pg_name (i := 4) sc__law_bent.nd rfl (Or.inl rfl)) pgs_nil)))))
      (pss_cons (ps_par3 (i := 5) (j := 6) (l := 7) (by rfl) sc__law_bent.nd rfl rfl rfl (by decide) (by decide) (by decide) rfl rfl rfl (pa_cons (pe_g1 C__law_next_2 hr (by decide) hg (by rfl) (pa_cons (pv 0) (pa_cons (pe_op op_add (pe_callB (id := "len") (call_lenE (K := K) rfl) (by rfl) T.z_len (by decide +kernel) (pa_cons (pv 4) pa_nil)) pe_int) pa_nil))) (pa_cons (pe_g1 C__law_next_2 hr (by decide) hg (by rfl) (pa_cons (pv 0) (pa_cons pe_int pa_nil))) (pa_cons (pe_g1 C__law_odd_1 hr (by decide) hg (by rfl) (pa_cons (pv 0) pa_nil)) pa_nil))) (by rfl))
      (pss_cons (ps_if (pt_cmpR op_eq (pv 6) pe_int (nomark _))
        (pss_one (ps_ret (pe_ix (ix_listE (K := K) rfl) (pe_lst (pa_cons (pv 7) (pa_cons (pe_slice (sl_tupAE (K := K) rfl) (pv 1) po_none (po_some pe_int)) (pa_cons (pe_op (op_catAE (K := K) rfl) (pv 1) (pe_tup (pa_cons pe_int pa_nil))) (pa_cons (pe_callTy (T := "list") (call_listE (K := K) rfl) (by rfl) T.z_list (by decide +kernel) (pa_cons (pv 1) pa_nil)) (pa_cons (pe_tup pa_nil) (pa_cons (pv 4) (pa_cons (pe_tup (pa_cons (pv 1) pa_nil)) (pa_cons (pv 3) pa_nil))))))))) (pe_g1 C__law_next_2 hr (by decide) hg (by rfl) (pa_cons (pv 0) (pa_cons pe_int pa_nil))) (fun _ _ => rfl))))
        pss_nil)
      (pss_cons (ps_if (pt_cmpR op_eq (pv 6) pe_int (nomark _))
        (pss_one (ps_ret (pe_tup (pa_cons (pe_ix (ix_listE (K := K) rfl) (pe_lst (pa_cons pe_int (pa_cons pe_int (pa_cons pe_int (pa_cons (pv 7) (pa_cons (pe_op op_sub (pv 2) pe_int) (pa_cons (pe_op op_add (pv 2) pe_int) pa_nil))))))) (pe_g1 C__law_next_2 hr (by decide) hg (by rfl) (pa_cons (pv 0) (pa_cons pe_int pa_nil))) (fun _ _ => rfl)) (pa_cons (pv 3) (pa_cons (pv 4) pa_nil))))))
        pss_nil)
      (pss_cons (ps_if (pt_cmpR op_eq (pv 6) pe_int (nomark _))
        (pss_one (ps_ret (pe_tup (pa_cons (pv 2) (pa_cons (pe_ix (ix_listE (K := K) rfl) (pe_lst (pa_cons (pv 2) (pa_cons (pe_op op_sub pe_int pe_int) (pa_cons (pv 7) (pa_cons (pe_op op_sub (pv 2) pe_int) pa_nil))))) (pe_g1 C__law_next_2 hr (by decide) hg (by rfl) (pa_cons (pv 0) (pa_cons pe_int pa_nil))) (fun _ _ => rfl)) (pa_cons (pv 4) pa_nil))))))
        pss_nil)
      (pss_cons (ps_if (pt_cmpR op_eq (pv 6) pe_int (nomark _))
        (pss_one (ps_ret (pe_tup (pa_cons (pv 2) (pa_cons (pv 3) (pa_cons (pe_ix (ix_listE (K := K) rfl) (pe_lst (pa_cons (pe_callTy (T := "list") (call_listE (K := K) rfl) (by rfl) T.z_list (by decide +kernel) (pa_cons (pv 4) pa_nil)) (pa_cons (pv 7) (pa_cons (pe_dictEnumT (K := K) rfl hr (by rfl) T.z_dict (by rfl) T.z_enumerate (pv 4)) (pa_cons (pe_slice (sl_tupAE (K := K) rfl) (pv 4) po_none (po_some (pv 5))) pa_nil))))) (pe_g1 C__law_next_2 hr (by decide) hg (by rfl) (pa_cons (pv 0) (pa_cons pe_int pa_nil))) (fun _ _ => rfl)) pa_nil))))))
        pss_nil)
      (pss_cons (ps_if (pt_cmpR op_eq (pv 6) pe_int (nomark _))
        (pss_cons (ps_set (i := 8) sc__law_bent.nd rfl (Or.inl rfl) (pe_op op_add pe_int (pe_g1 C__law_next_2 hr (by decide) hg (by rfl) (pa_cons (pv 0) (pa_cons pe_int pa_nil)))))
      (pss_one (ps_ret (pe_tup (pa_cons (pv 2) (pa_cons (pv 3) (pa_cons (pe_slice (sl_tupAE (K := K) rfl) (pe_op op_repT (pe_op (op_catAE (K := K) rfl) (pv 4) (pe_tup (pa_cons (pe_tup (pa_cons pe_int (pa_cons pe_int pa_nil))) pa_nil))) pe_int) po_none (po_some (pv 8))) pa_nil)))))))
        pss_nil)
      (pss_cons (ps_asg (pe_g1 C__law_errand_2 hr (by decide) hg (by rfl) (pa_cons (pv 0) (pa_cons (pv 2) pa_nil))) (pg_tupE (K := K) rfl rfl (pgs_cons (pg_name (i := 9) sc__law_bent.nd rfl (Or.inl rfl)) (pgs_cons (pg_name (i := 10) sc__law_bent.nd rfl (Or.inl rfl)) pgs_nil))))
      (pss_cons (ps_set (i := 11) sc__law_bent.nd rfl (Or.inl rfl) (pe_lst (pa_cons (pe_tup (pa_cons (pv 9) (pa_cons pe_int pa_nil))) (pa_cons (pe_tup (pa_cons (pv 9) (pa_cons (pe_op op_add (pe_op op_mulW pe_int (pv 2)) pe_int) pa_nil))) (pa_cons (pe_tup (pa_cons (pv 2) (pa_cons (pv 10) pa_nil))) (pa_cons (pe_tup (pa_cons (pe_op op_sub pe_int pe_int) (pa_cons (pv 10) pa_nil))) (pa_cons (pe_tup (pa_cons (pv 9) (pa_cons (pv 7) pa_nil))) (pa_cons (pe_tup (pa_cons (pv 7) (pa_cons (pv 10) pa_nil))) (pa_cons (pv 7) pa_nil)))))))))
      (pss_cons (ps_set (i := 11) sc__law_bent.nd rfl (Or.inl rfl) (pe_op (op_catXE (K := K) rfl) (pv 11) (pe_lst (pa_cons (pe_tup (pa_cons (pv 9) (pa_cons (pv 10) (pa_cons pe_int pa_nil)))) (pa_cons (pe_tup (pa_cons (pv 9) pa_nil)) (pa_cons (pe_lst (pa_cons (pv 9) (pa_cons (pv 10) pa_nil))) (pa_cons (pe_tup (pa_cons (pv 9) (pa_cons (pe_op op_mulW pe_int (pv 2)) pa_nil))) (pa_cons (pe_tup (pa_cons (pe_op op_sub (pv 2) pe_int) (pa_cons (pv 10) pa_nil))) pa_nil))))))))
      (pss_one (ps_ret (pe_tup (pa_cons (pv 2) (pa_cons (pv 3) (pa_cons (pe_op (op_catAE (K := K) rfl) (pe_op (op_catAE (K := K) rfl) (pe_slice (sl_tupAE (K := K) rfl) (pv 4) po_none (po_some (pv 5))) (pe_tup (pa_cons (pe_ix (ix_listE (K := K) rfl) (pv 11) (pe_g1 C__law_next_2 hr (by decide) hg (by rfl) (pa_cons (pv 0) (pa_cons pe_int pa_nil))) (fun _ _ => rfl)) pa_nil))) (pe_slice (sl_tupAE (K := K) rfl) (pv 4) (po_some (pv 5)) po_none)) pa_nil)))))))))))))))), ?_⟩
    obtain ⟨av, rfl, hv⟩ := hs.at_
    have l2 := hs.l2
    have u16 := hs.u16
    have t0 := hs.s0
    have t1 := hs.s1
    have hlen := hs.len
    have ret3 : ∀ {B' H' : Hp} {m' : Nat} {x y z : V}, Wd K d m' ms B' H' → Same B B' → m ≤ m' → Kn B' 42000 4 x → Kn B' 42000 4 y → Kn B' 42000 4 z → [x, y, z].length ≤ sizeLine ∧ New Q H' (.tup [x, y, z]) := fun {B' H' m' x y z} w' s' hm hx hy hz =>
      ⟨by show 3 ≤ sizeLine; decide, al_new w' fun p B2 H2 w2 s2 e2 => q _ _ _ (w2.le hm) (s'.trans s2) (kn3 e2 (hx.grow s2) (hy.grow s2) (hz.grow s2))⟩
    have kfl : ∀ {B' : Hp}, Kn B' 42000 4 (.int fl) := kn_int (by omega) (by omega) (by decide)
    have kst : ∀ {B' : Hp}, Kn B' 42000 4 (.int st) := kn_int (by omega) (by omega) (by decide)
    have kes : ∀ {B' : Hp}, Same B B' → Kn B' 42000 4 (.ref ce) := fun s' => ((hs.grow s').esKn (by decide)).le (by decide) (by decide)
    have kxs : ∀ {B' : Hp}, Same B B' → ∀ x ∈ xs, Kn B' 300 1 x := fun s' x hx => ((hs.all x hx).kn u16).grow s'
    walk_at "og"
    refine g_tup (SqT.of (w.sb _ _ hv)) rfl ?_
    walk_at "og"
    refine r_lenT (SqT.of (w.sb _ _ hs.es)) ?_
    walk_at "og"
    refine ⟨rfl, rfl, d, m + 9, ms, B, ((xs.length : Nat) : Int) + 1, rfl, w, by omega, by omega, fun H1 at' w1 a1 b1 => ?_⟩
    walk_at "og"
    refine ⟨rfl, rfl, d, m + 8, ms, B, 10, rfl, w1, by decide, by decide, fun H2 way w2 a2 b2 => ?_⟩
    walk_at "og"
    refine ⟨rfl, rfl, d, m + 7, ms, B, rfl, w2, fun B3 H3 od w3 s3 ko => ?_⟩
    walk_at "og"
    have hs3 := hs.grow s3
    have hv3 := s3 _ _ hv
    refine ite2 (fun c => ?_) (fun c => ?_)
    · walk_at "og"
      refine r_slAB w3 hv3 fun p4 B4 H4 w4 s4 e4 => ?_
      walk_at "og"
      refine ⟨by show 1 ≤ sizeLine; decide, al_new w4 fun p5 B5 H5 w5 s5 e5 => ?_⟩
      refine r_catAB w5 (s5 _ _ (s4 _ _ hv3)) e5 (by show 3 + 1 ≤ 1000; decide) fun p6 B6 H6 w6 s6 e6 => ?_
      walk_at "og"
      refine r_listN (.inr (SqT.of (w6.sb _ _ (s6 _ _ (s5 _ _ (s4 _ _ hv3)))))) (al_new w6 fun p7 B7 H7 w7 s7 e7 => ?_)
      walk_at "og"
      refine ⟨by decide, al_new w7 fun p8 B8 H8 w8 s8 e8 => ?_⟩
      walk_at "og"
      refine ⟨by show 1 ≤ sizeLine; decide, al_new w8 fun p9 B9 H9 w9 s9 e9 => ?_⟩
      walk_at "og"
      refine ⟨by show 8 ≤ sizeLine; decide, al_new w9 fun pa Ba Ha wa sa ea => ?_⟩
      walk_at "og"
      refine ⟨rfl, rfl, d, m + 6, ms, Ba, 8, rfl, wa, by decide, by decide, fun Hb r wb a5 b5 => ?_⟩
      obtain ⟨u, hu2, gu⟩ := atI_ok (xs := [od, .ref p4, .ref p6, .ref p7, .ref p8, .ref ce, .ref p9, .int st]) a5 b5
      refine r_ixL (wb.seq (SqL.of ea)) gu ?_
      have u9 := s9.trans sa
      have u8 := s8.trans u9
      have u7 := s7.trans u8
      have u6 := s6.trans u7
      have u5 := s5.trans u6
      have u4 := s4.trans u5
      have u3 := s3.trans u4
      have kb : ∀ x ∈ [V.int fl, .int st, .ref ce], Kn Ba 13000 2 x := fun x hx => by
        simp only [List.mem_cons, List.not_mem_nil, or_false] at hx
        rcases hx with rfl | rfl | rfl
        · exact kn_int (by omega) (by omega) (by decide)
        · exact kn_int (by omega) (by omega) (by decide)
        · exact (hs.grow u3).esKn (by decide)
      refine q _ _ _ (wb.le (by omega)) u3 ?_
      simp only [List.mem_cons, List.not_mem_nil, or_false] at hu2
      rcases hu2 with rfl | rfl | rfl | rfl | rfl | rfl | rfl | rfl
      · exact (ko.grow u4).le (by decide) (by decide)
      · have hc := cutV_length [V.int fl, .int st, .ref ce] none (some 2)
        exact Kn.le (.tup (n := 126003) (k := 2) (m := 13000) (u5 _ _ e4) (fun x hx => kb x (mem_cutV hx)) (Nat.le_trans (Nat.mul_le_mul_left _ hc) (by show 13001 * 3 ≤ 126003; decide))) (Nat.le_refl _) (by decide)
      · refine Kn.le (.tup (n := 126003) (k := 2) (m := 13000) (u7 _ _ e6) (fun x hx => ?_) (by show 13001 * 4 ≤ 126003; decide)) (Nat.le_refl _) (by decide)
        rcases List.mem_append.mp hx with hx | hx
        · exact kb x hx
        · cases List.mem_singleton.mp hx
          exact kn_int (by decide) (by decide) (by decide)
      · exact Kn.le (.lst (n := 126003) (k := 2) (m := 13000) (u8 _ _ e7) kb (by show 13001 * 3 ≤ 126003; decide)) (Nat.le_refl _) (by decide)
      · exact .tup (m := 0) (u9 _ _ e8) (fun x hx => by cases hx) (by decide)
      · exact (kes u3).le (by decide) (by decide)
      · refine Kn.le (.tup (n := 126003) (k := 3) (m := 40000) (sa _ _ e9) (fun x hx => ?_) (by show 40001 * 1 ≤ 126003; decide)) (Nat.le_refl _) (by decide)
        cases List.mem_singleton.mp hx
        exact (hs.grow u3).kn (by decide)
      · exact kst.le (by decide) (by decide)
    walk_at "og"
    refine ite2 (fun c => ?_) (fun c => ?_)
    · walk_at "og"
      refine ⟨by show 6 ≤ sizeLine; decide, al_new w3 fun p4 B4 H4 w4 s4 e4 => ?_⟩
      walk_at "og"
      refine ⟨rfl, rfl, d, m + 6, ms, B4, 6, rfl, w4, by decide, by decide, fun H5 r w5 a5 b5 => ?_⟩
      obtain ⟨u, hu2, gu⟩ := atI_ok (xs := [V.int 1, .int 17, .int 0, od, .int (fl - 1), .int (fl + 1)]) a5 b5
      refine r_ixL (w5.seq (SqL.of e4)) gu ?_
      walk_at "og"
      refine ret3 w5 (s3.trans s4) (by omega) ?_ kst (kes (s3.trans s4))
      simp only [List.mem_cons, List.not_mem_nil, or_false] at hu2
      rcases hu2 with rfl | rfl | rfl | rfl | rfl | rfl
      · exact kn_int (by decide) (by decide) (by decide)
      · exact kn_int (by decide) (by decide) (by decide)
      · exact kn_int (by decide) (by decide) (by decide)
      · exact (ko.grow s4).le (by decide) (by decide)
      · exact kn_int (by omega) (by omega) (by decide)
      · exact kn_int (by omega) (by omega) (by decide)
    walk_at "og"
    refine ite2 (fun c => ?_) (fun c => ?_)
    · walk_at "og"
      refine ⟨by show 4 ≤ sizeLine; decide, al_new w3 fun p4 B4 H4 w4 s4 e4 => ?_⟩
      walk_at "og"
      refine ⟨rfl, rfl, d, m + 6, ms, B4, 4, rfl, w4, by decide, by decide, fun H5 r w5 a5 b5 => ?_⟩
      obtain ⟨u, hu2, gu⟩ := atI_ok (xs := [V.int fl, .int (0 - 1), od, .int (fl - 1)]) a5 b5
      refine r_ixL (w5.seq (SqL.of e4)) gu ?_
      walk_at "og"
      refine ret3 w5 (s3.trans s4) (by omega) kfl ?_ (kes (s3.trans s4))
      simp only [List.mem_cons, List.not_mem_nil, or_false] at hu2
      rcases hu2 with rfl | rfl | rfl | rfl
      · exact kfl
      · exact kn_int (by decide) (by decide) (by decide)
      · exact (ko.grow s4).le (by decide) (by decide)
      · exact kn_int (by omega) (by omega) (by decide)
    walk_at "og"
    refine ite2 (fun c => ?_) (fun c => ?_)
    · walk_at "og"
      refine r_listN (.inr (SqT.of (w3.sb _ _ hs3.es))) (al_new w3 fun p4 B4 H4 w4 s4 e4 => ?_)
      walk_at "og"
      refine ⟨ce, xs, rfl, SqT.of (w4.sb _ _ (s4 _ _ hs3.es)), by omega, al_new w4 fun p5 B5 H5 w5 s5 e5 => ?_⟩
      walk_at "og"
      refine r_slAB w5 (s5 _ _ (s4 _ _ hs3.es)) fun p6 B6 H6 w6 s6 e6 => ?_
      walk_at "og"
      refine ⟨by show 4 ≤ sizeLine; decide, al_new w6 fun p7 B7 H7 w7 s7 e7 => ?_⟩
      walk_at "og"
      refine ⟨rfl, rfl, d, m + 6, ms, B7, 4, rfl, w7, by decide, by decide, fun H8 r w8 a5 b5 => ?_⟩
      obtain ⟨u, hu2, gu⟩ := atI_ok (xs := [V.ref p4, od, .ref p5, .ref p6]) a5 b5
      refine r_ixL (w8.seq (SqL.of e7)) gu ?_
      walk_at "og"
      have u6 := s6.trans s7
      have u5 := s5.trans u6
      have u4 := s4.trans u5
      refine ret3 w8 (s3.trans u4) (by omega) kfl kst ?_
      simp only [List.mem_cons, List.not_mem_nil, or_false] at hu2
      rcases hu2 with rfl | rfl | rfl | rfl
      · exact Kn.le (.lst (n := 42000) (k := 1) (m := 300) (u5 _ _ e4) (kxs (s3.trans u4)) (Nat.le_trans (Nat.mul_le_mul_left _ hlen) (by decide))) (Nat.le_refl _) (by decide)
      · exact (ko.grow u4).le (by decide) (by decide)
      · exact enumK_kn (u6 _ _ e5) (kxs (s3.trans u4)) hlen
      · exact Kn.le (.tup (n := 42000) (k := 1) (m := 300) (s7 _ _ e6) (fun x hx => kxs (s3.trans u4) x (mem_cutV hx)) (Nat.le_trans (Nat.mul_le_mul_left _ (Nat.le_trans (cutV_length _ _ _) hlen)) (by decide))) (Nat.le_refl _) (by decide)
    walk_at "og"
    refine ite2 (fun c => ?_) (fun c => ?_)
    · walk_at "og"
      refine ⟨rfl, rfl, d, m + 6, ms, B3, 3, rfl, w3, by decide, by decide, fun H4 r w4 a5 b5 => ?_⟩
      walk_at "og"
      refine ⟨by show 2 ≤ sizeLine; decide, al_new w4 fun p5 B5 H5 w5 s5 e5 => ?_⟩
      walk_at "og"
      refine ⟨by show 1 ≤ sizeLine; decide, al_new w5 fun p6 B6 H6 w6 s6 e6 => ?_⟩
      refine r_catAB w6 (s6 _ _ (s5 _ _ hs3.es)) e6 (by show xs.length + 1 ≤ 1000; omega) fun p7 B7 H7 w7 s7 e7 => ?_
      walk_at "og"
      refine r_repT (SqT.of (w7.sb _ _ e7)) (by simp) (by decide) (by decide) (by rw [List.length_append]; show xs.length + 1 ≤ 1000; omega) (al_new w7 fun p8 B8 H8 w8 s8 e8 => ?_)
      walk_at "og"
      refine r_slAB w8 e8 fun p9 B9 H9 w9 s9 e9 => ?_
      walk_at "og"
      have u8 := s8.trans s9
      have u7 := s7.trans u8
      have u6 := s6.trans u7
      have u3 := s3.trans (s5.trans u6)
      refine ret3 w9 u3 (by omega) kfl kst (knE e9 (fun x hx => ?_) ?_)
      · obtain ⟨l, hl1, hl2⟩ := List.mem_flatten.mp (mem_cutV hx)
        have hl3 := (List.mem_replicate.mp hl1).2
        subst hl3
        rcases List.mem_append.mp hl2 with hl2 | hl2
        · exact (kxs u3 x hl2).le (by decide) (by decide)
        · cases List.mem_singleton.mp hl2
          refine Kn.le (.tup (n := 1000) (k := 0) (m := 140) (u6 _ _ e5) (fun y hy => ?_) (by show 141 * 2 ≤ 1000; decide)) (Nat.le_refl _) (by decide)
          simp only [List.mem_cons, List.not_mem_nil, or_false] at hy
          rcases hy with rfl | rfl <;> exact kn_int (by decide) (by decide) (by decide)
      · obtain ⟨k, hk⟩ : ∃ k : Nat, (39 : Int) + r = (k : Int) := ⟨(39 + r).toNat, by omega⟩
        rw [hk]
        exact Nat.le_trans (cutV_most _ _) (by omega)
    walk_at "og"
    refine ⟨rfl, rfl, d, m + 2, ms, B3, fl, rfl, w3, l2, u16, fun B4 H4 v4 w4 s4 ev => ?_⟩
    obtain ⟨pe, be, ste, rfl, he, g1, g2, g3, g4⟩ := ev
    refine g_tup (SqT.of (w4.sb _ _ he)) rfl ?_
    walk_at "og"
    refine ⟨by show 2 ≤ sizeLine; decide, al_new w4 fun p5 B5 H5 w5 s5 e5 => ?_⟩
    walk_at "og"
    refine r_I (cm64 (by decide) (by omega)) ?_
    walk_at "og"
    refine ⟨by show 2 ≤ sizeLine; decide, al_new w5 fun p6 B6 H6 w6 s6 e6 => ?_⟩
    walk_at "og"
    refine ⟨by show 2 ≤ sizeLine; decide, al_new w6 fun p7 B7 H7 w7 s7 e7 => ?_⟩
    walk_at "og"
    refine ⟨by show 2 ≤ sizeLine; decide, al_new w7 fun p8 B8 H8 w8 s8 e8 => ?_⟩
    walk_at "og"
    refine ⟨by show 2 ≤ sizeLine; decide, al_new w8 fun p9 B9 H9 w9 s9 e9 => ?_⟩
    walk_at "og"
    refine ⟨by show 2 ≤ sizeLine; decide, al_new w9 fun p10 B10 H10 w10 s10 e10 => ?_⟩
    walk_at "og"
    refine ⟨by show 7 ≤ sizeLine; decide, al_new w10 fun p11 B11 H11 w11 s11 e11 => ?_⟩
    walk_at "og"
    refine ⟨by show 3 ≤ sizeLine; decide, al_new w11 fun p12 B12 H12 w12 s12 e12 => ?_⟩
    walk_at "og"
    refine ⟨by show 1 ≤ sizeLine; decide, al_new w12 fun p13 B13 H13 w13 s13 e13 => ?_⟩
    walk_at "og"
    refine ⟨by show 2 ≤ sizeLine; decide, al_new w13 fun p14 B14 H14 w14 s14 e14 => ?_⟩
    walk_at "og"
    refine r_I (cm64 (by decide) (by omega)) ?_
    walk_at "og"
    refine ⟨by show 2 ≤ sizeLine; decide, al_new w14 fun p15 B15 H15 w15 s15 e15 => ?_⟩
    walk_at "og"
    refine ⟨by show 2 ≤ sizeLine; decide, al_new w15 fun p16 B16 H16 w16 s16 e16 => ?_⟩
    walk_at "og"
    refine ⟨by show 5 ≤ sizeLine; decide, al_new w16 fun p17 B17 H17 w17 s17 e17 => ?_⟩
    have u16' := s16.trans s17
    have u15 := s15.trans u16'
    have u14 := s14.trans u15
    have u13 := s13.trans u14
    have u12 := s12.trans u13
    refine r_catX (w17.seq (SqL.of (u12 _ _ e11))) (w17.seq (SqL.of e17)) (by show 7 + 5 ≤ sizeLine; decide) (al_new w17 fun p18 B18 H18 w18 s18 e18 => ?_)
    walk_at "og"
    have u17 := s17.trans s18
    have v16 := s16.trans u17
    have v15 := s15.trans v16
    have v14 := s14.trans v15
    have v13 := s13.trans v14
    have v12 := s12.trans v13
    have v11 := s11.trans v12
    have v10 := s10.trans v11
    have v9 := s9.trans v10
    have v8 := s8.trans v9
    have v7 := s7.trans v8
    have v6 := s6.trans v7
    have v5 := s5.trans v6
    have v4 := s4.trans v5
    have hs18 := hs3.grow v4
    refine r_slAB w18 hs18.es fun p19 B19 H19 w19 s19 e19 => ?_
    walk_at "og"
    refine ⟨rfl, rfl, d, m + 1, ms, B19, 12, rfl, w19, by decide, by decide, fun H20 r w20 a5 b5 => ?_⟩
    obtain ⟨u, hu2, gu⟩ := atI_ok (xs := [V.ref p5, .ref p6, .ref p7, .ref p8, .ref p9, .ref p10, od] ++ [V.ref p12, .ref p13, .ref p14, .ref p15, .ref p16]) a5 b5
    refine r_ixL (w20.seq (SqL.of (s19 _ _ e18))) gu ?_
    have kI : ∀ {B' : Hp} {i : Int}, -1000 ≤ i → i ≤ 1000 → Kn B' 450 1 (.int i) := fun h0 h1 => kn_int h0 h1 (by decide)
    have ku : Kn B18 1000 3 u := by
      have two : ∀ {p : Addr} {x y : V}, B18 p = some (.tup [x, y]) → Kn B18 450 1 x → Kn B18 450 1 y → Kn B18 1000 3 (.ref p) := fun {p x y} e hx hy => by
        refine Kn.le (.tup (n := 1000) (k := 1) (m := 450) e (fun z hz => ?_) (by show 451 * 2 ≤ 1000; decide)) (Nat.le_refl _) (by decide)
        simp only [List.mem_cons, List.not_mem_nil, or_false] at hz
        rcases hz with rfl | rfl
        · exact hx
        · exact hy
      have kod := ko.grow v4
      simp only [List.cons_append, List.nil_append, List.mem_cons, List.not_mem_nil, or_false] at hu2
      rcases hu2 with rfl | rfl | rfl | rfl | rfl | rfl | rfl | rfl | rfl | rfl | rfl | rfl
      · exact two (v6 _ _ e5) (kI (by omega) (by omega)) (kI (by decide) (by decide))
      · exact two (v7 _ _ e6) (kI (by omega) (by omega)) (kI (by omega) (by omega))
      · exact two (v8 _ _ e7) (kI (by omega) (by omega)) (kI (by omega) (by omega))
      · exact two (v9 _ _ e8) (kI (by decide) (by decide)) (kI (by omega) (by omega))
      · exact two (v10 _ _ e9) (kI (by omega) (by omega)) kod
      · exact two (v11 _ _ e10) kod (kI (by omega) (by omega))
      · exact kod.le (by decide) (by decide)
      · refine Kn.le (.tup (n := 1000) (k := 1) (m := 140) (v13 _ _ e12) (fun z hz => ?_) (by show 141 * 3 ≤ 1000; decide)) (Nat.le_refl _) (by decide)
        simp only [List.mem_cons, List.not_mem_nil, or_false] at hz
        rcases hz with rfl | rfl | rfl <;> exact kn_int (by omega) (by omega) (by decide)
      · refine Kn.le (.tup (n := 1000) (k := 1) (m := 140) (v14 _ _ e13) (fun z hz => ?_) (by show 141 * 1 ≤ 1000; decide)) (Nat.le_refl _) (by decide)
        cases List.mem_singleton.mp hz
        exact kn_int (by omega) (by omega) (by decide)
      · refine Kn.le (.lst (n := 1000) (k := 1) (m := 140) (v15 _ _ e14) (fun z hz => ?_) (by show 141 * 2 ≤ 1000; decide)) (Nat.le_refl _) (by decide)
        simp only [List.mem_cons, List.not_mem_nil, or_false] at hz
        rcases hz with rfl | rfl <;> exact kn_int (by omega) (by omega) (by decide)
      · exact two (v16 _ _ e15) (kI (by omega) (by omega)) (kI (by omega) (by omega))
      · exact two (u17 _ _ e16) (kI (by omega) (by omega)) (kI (by omega) (by omega))
    walk_at "og"
    refine ⟨by show 1 ≤ sizeLine; decide, al_new w20 fun p21 B21 H21 w21 s21 e21 => ?_⟩
    have c1 := cutV_length xs none (some at')
    have c2 := cutV_length xs (some at') none
    refine r_catAB w21 (s21 _ _ e19) e21 (by show _ + 1 ≤ 1000; omega) fun p22 B22 H22 w22 s22 e22 => ?_
    walk_at "og"
    refine r_slAB w22 (s22 _ _ (s21 _ _ (s19 _ _ hs18.es))) fun p23 B23 H23 w23 s23 e23 => ?_
    refine r_catAB w23 (s23 _ _ e22) e23 (by rw [List.length_append]; show _ + 1 + _ ≤ 1000; omega) fun p24 B24 H24 w24 s24 e24 => ?_
    walk_at "og"
    have z1 := s19.trans (s21.trans (s22.trans (s23.trans s24)))
    have z3 := s3.trans (v4.trans z1)
    refine ret3 w24 z3 (by omega) kfl kst (knE e24 (fun x hx => ?_) ?_)
    · rcases List.mem_append.mp hx with hx | hx
      · rcases List.mem_append.mp hx with hx | hx
        · exact (kxs z3 x (mem_cutV hx)).le (by decide) (by decide)
        · cases List.mem_singleton.mp hx
          exact ku.grow z1
      · exact (kxs z3 x (mem_cutV hx)).le (by decide) (by decide)
    · have c3 := cutV_two xs at'
      rw [List.length_append, List.length_append]
      show _ + 1 + _ ≤ 41
      omega
theorem ok__law_said {f : Addr} {fd : FuncData} (F : FunD K "_law_said" "_law_said" (defArgs s_law_said) (defBody s_law_said) (defScope s_law_said) [] [] f fd) (T : Txt K mg c)
    (C_need_house_0_house : CalG P w K mg base (L2.CX P w) 3 "need_house" (spNeed K c) 0 ["house"] gv_need_house_0_house) :
    FnG P w K mg base CX0 4 f fd ["what"] (spSaid K) := by
  refine okG F sc__law_said (fun vs H Q E h => ?_) (fun cdv A outer s H vs Q E hr hg h => ?_)
  · obtain ⟨x, r, rfl, _⟩ := h
    rfl
  · obtain ⟨x, r, rfl, hp, q⟩ := h
    have hu := hu_of hr
    refine ⟨_, (pss_cons (ps_asg (pe_tup (pa_cons pe_non (pa_cons pe_str pa_nil))) (pg_tupE (K := K) rfl rfl (pgs_cons (pg_name (i := 1) sc__law_said.nd rfl (Or.inl rfl)) (pgs_cons (pg_name (i := 2) sc__law_said.nd rfl (Or.inl rfl)) pgs_nil))))
      (pss_cons (ps_tryK (i := 3) (Wout := fun _ _ _ _ => False) rfl rfl rfl sc__law_said.nd rfl rfl ⟨by rfl, by decide, Or.inl T.g_RideError⟩ takes0
        (fun W pn xe tk po => (pss_one (ps_set (i := 2) sc__law_said.nd rfl (Or.inl rfl) (pe_gS3 C_need_house_0_house hr (by decide) hg (fun σ => passAt tk σ) (by rfl) (pk_cons (pv 0) pk_nil)))))
        (fun a pn => (pss_one (ps_set (i := 1) sc__law_said.nd rfl (Or.inl rfl) (pv 3)))))
      (pss_cons (ps_if (pt_cmpR op_isN (pv 1) pe_non (nomark _))
        (pss_one (ps_ret (pe_ifExp (pt_cmpR op_isN (pv 2) pe_non (nomark _)) (pe_lst pa_nil) pe_str)))
        pss_nil)
      (pss_cons (ps_if (PW.pt (pw_or (pt_val (pe_callB (id := "isinstance") (call_isQT (K := K) rfl) (by rfl) T.z_isinstance (by decide +kernel) (pa_cons (pv 1) (pa_cons (pe_tup (pa_cons (pe_glob (v := V.ref c.BadErrand) (by rfl) T.g_BadErrand rfl) (pa_cons (pe_glob (v := V.ref c.BadNumber) (by rfl) T.g_BadNumber rfl) pa_nil))) pa_nil)))) (pw_or1 (pt_not (pt_val (pe_callB (id := "isinstance") (call_isQ (K := K) rfl) (by rfl) T.z_isinstance (by decide +kernel) (pa_cons (pv 1) (pa_cons (pe_glob (v := V.ref c.BadHouse) (by rfl) T.g_BadHouse rfl) pa_nil))))))))
        (pss_one (ps_ret pe_str))
        pss_nil)
      (pss_one (ps_ret (pe_lst (pa_cons (pe_xq (K := K) rfl (pv 1)) pa_nil)))))))), ?_⟩
    walk_at "og"
    refine ⟨by show 2 ≤ sizeLine; decide, fun p1 h1 => ?_⟩
    have s1 : Same H (upd H p1 (.tup [.non, .str "more"])) := same_new h1
    refine g_tup (SqT.of upd_same) rfl ?_
    walk_at "og"
    refine ⟨rfl, rfl, x, r, rfl, hp.grow s1, fun e H' s => ?_, fun pl e H' d s hd => ⟨true, T.em_BadHouse_RideError, fun _ a ha => ?_, fun z => by cases z⟩⟩
    · subst e
      walk_at "og"
      exact ⟨by decide, q _ (s1.trans s)⟩
    · subst e
      have s2 := (s1.trans s).trans (same_new (o := exq a (.ref c.BadHouse) (some d)) ha)
      have ea : (upd H' a (exq a (.ref c.BadHouse) (some d))) a = some (exq a (.ref c.BadHouse) (some d)) := upd_same
      have ed : (upd H' a (exq a (.ref c.BadHouse) (some d))) d = some (.xd [("place", pl)]) := by
        rw [upd_ne (ne_of_none hd ha)]
        exact hd
      walk_at "og"
      refine ⟨by show 2 ≤ sizeLine; decide, fun p3 h3 => ?_⟩
      have s3 := same_new (o := HO.tup [.ref c.BadErrand, .ref c.BadNumber]) h3
      walk_at "og"
      refine r_isQ2 (.inr ⟨d, s3 _ _ ea, s3 _ _ ed⟩) T.x_BadHouse upd_same T.ki_BadHouse_BadErrand T.ki_BadHouse_BadNumber ?_
      walk_at "og"
      refine r_isQ1 (.inr ⟨d, s3 _ _ ea, s3 _ _ ed⟩) T.x_BadHouse T.ki_BadHouse_BadHouse ?_
      walk_at "og"
      refine ⟨a, c.BadHouse, d, _, pl, rfl, s3 _ _ ea, s3 _ _ ed, T.x_BadHouse, T.n_BadHouse, rfl, ?_⟩
      walk_at "og"
      exact ⟨by show 1 ≤ sizeLine; decide, q _ (s2.trans s3)⟩
theorem ok__law_vast_right {f : Addr} {fd : FuncData} (F : FunD K "_law_vast_right" "_law_vast_right" (defArgs s_law_vast_right) (defBody s_law_vast_right) (defScope s_law_vast_right) [] [] f fd) (T : Txt K mg c)
    (C__law_place_1 : CalG P w K mg base CX0 2 "_law_place" (spPlace K) 1 [] gv__law_place_1) (C__law_said_1 : CalG P w K mg base CX0 4 "_law_said" (spSaid K) 1 [] gv__law_said_1) (C_is_house_1 : CalG P w K mg base CX0 4 "is_house" (spIsHouse K) 1 [] gv_is_house_1) :
    FnG P w K mg base CX0 5 f fd ["base"] (spVast K) := by
  refine okG F sc__law_vast_right (fun vs H Q E h => ?_) (fun cdv A outer s H vs Q E hr hg h => ?_)
  · obtain ⟨d, m, ms, B, v, fl, st, c, xs, rfl, _⟩ := h
    rfl
  · obtain ⟨d, m, ms, B, v, fl, st, ce, xs, rfl, w, hs, q⟩ := h
    have hu := hu_of hr
    refine ⟨_, (pss_cons (ps_asg (pe_tup (pa_cons (pe_tup pa_nil) (pa_cons pe_int pa_nil))) (pg_tupE (K := K) rfl rfl (pgs_cons (pg_name (i := 1) sc__law_vast_right.nd rfl (Or.inl rfl)) (pgs_cons (pg_name (i := 2) sc__law_vast_right.nd rfl (Or.inl rfl)) pgs_nil))))
      (pss_cons (ps_for PassesOwn.never rfl (pi_range1 (by rfl) T.z_range (pa_cons pe_int pa_nil)) (pg_name (i := 3) sc__law_vast_right.nd rfl (Or.inl rfl))
        (pss_one (ps_par (i := 1) (j := 2) (by rfl) sc__law_vast_right.nd rfl rfl (by decide) rfl rfl (pa_cons (pe_tup (pa_cons (pv 1) pa_nil)) (pa_cons (pe_op op_mulW (pv 2) (pe_op op_pow pe_int pe_int)) pa_nil)) (by rfl))))
      (pss_cons (ps_asg (pv 0) (pg_tupE (K := K) rfl rfl (pgs_cons (pg_name (i := 4) sc__law_vast_right.nd rfl (Or.inl rfl)) (pgs_cons (pg_name (i := 5) sc__law_vast_right.nd rfl (Or.inl rfl)) (pgs_cons (pg_name (i := 6) sc__law_vast_right.nd rfl (Or.inl rfl)) pgs_nil)))))
      (pss_cons (ps_for PassesOwn.never rfl (pi_tupE (K := K) rfl (pe_tup (pa_cons (pv 1) (pa_cons (pv 2) (pa_cons (pe_op op_sub pe_int (pv 2)) pa_nil))))) (pg_name (i := 7) sc__law_vast_right.nd rfl (Or.inl rfl))
        (pss_cons (ps_for PassesOwn.never rfl (pi_tupE (K := K) rfl (pe_tup (pa_cons (pv 7) (pa_cons (pe_tup (pa_cons (pv 7) (pa_cons (pv 5) (pa_cons (pv 6) pa_nil)))) (pa_cons (pe_tup (pa_cons (pv 4) (pa_cons (pv 7) (pa_cons (pv 6) pa_nil)))) (pa_cons (pe_tup (pa_cons (pv 4) (pa_cons (pv 5) (pa_cons (pv 7) pa_nil)))) pa_nil)))))) (pg_name (i := 8) sc__law_vast_right.nd rfl (Or.inl rfl))
        (pss_one (ps_if (PW.pt (pw_or (pt_val (pe_g1 C_is_house_1 hr (by decide) hg (by rfl) (pa_cons (pv 8) pa_nil))) (pw_or1 (pt_cmpR (op_neDE (K := K) rfl hr.units) (pe_g1 C__law_said_1 hr (by decide) hg (by rfl) (pa_cons (pv 8) pa_nil)) (pe_g1 C__law_place_1 hr (by decide) hg (by rfl) (pa_cons (pv 8) pa_nil)) (nomark _)))))
        (pss_one (ps_ret pe_bl))
        pss_nil)))
      (pss_one (ps_for PassesOwn.never rfl (pi_tupE (K := K) rfl (pe_tup (pa_cons (pv 7) (pa_cons (pe_tup (pa_cons (pv 7) (pa_cons pe_int pa_nil))) (pa_cons (pe_tup (pa_cons pe_int (pa_cons (pv 7) pa_nil))) pa_nil))))) (pg_name (i := 9) sc__law_vast_right.nd rfl (Or.inl rfl))
        (pss_one (ps_if (pt_cmpR (op_neDE (K := K) rfl hr.units) (pe_g1 C__law_said_1 hr (by decide) hg (by rfl) (pa_cons (pe_tup (pa_cons (pv 4) (pa_cons (pv 5) (pa_cons (pe_op (op_catAE (K := K) rfl) (pe_slice (sl_tupAE (K := K) rfl) (pv 6) po_none (po_some pe_int)) (pe_tup (pa_cons (pv 9) pa_nil))) pa_nil)))) pa_nil)) (pe_lst (pa_cons (pe_callB (id := "len") (call_lenE (K := K) rfl) (by rfl) T.z_len (by decide +kernel) (pa_cons (pe_slice (sl_tupAE (K := K) rfl) (pv 6) po_none (po_some pe_int)) pa_nil)) pa_nil)) (nomark _))
        (pss_one (ps_ret pe_bl))
        pss_nil))))))
      (pss_one (ps_ret pe_bl)))))), ?_⟩
    walk_at "og"
    refine ⟨by decide, al_new w fun p1 B1 H1 w1 s1 e1 => ?_⟩
    walk_at "og"
    refine ⟨by show 2 ≤ sizeLine; decide, al_new w1 fun p2 B2 H2 w2 s2 e2 => ?_⟩
    refine g_tup (SqT.of (w2.sb _ _ e2)) rfl ?_
    walk_at "og"
    refine r_rng1e (j := 25) (by decide) (by decide) ?_
    refine loop_rng (fun i σ H' => ∃ (B' : Hp) (g : Int) (pd : Addr) (zs : List V) (k : Option V), σ = [some v, some (.ref pd), some (.int g), k, none, none, none, none, none, none] ∧ Wd K d m ms B' H' ∧ Same B B' ∧
      g.natAbs < 2 ^ (130 * i + 1) ∧ 1 ≤ g ∧ (0 < i → 100 ≤ g) ∧ B' pd = some (.tup zs) ∧ zs.length ≤ 1 ∧ (0 < i → ∃ q ys, zs = [.ref q] ∧ B' q = some (.tup ys) ∧ ys.length ≤ 1))
      ⟨B2, 1, p1, [], none, rfl, w2, s1.trans s2, by decide, by decide, fun z => absurd z (Nat.lt_irrefl _), s2 _ _ e1, by decide, fun z => absurd z (Nat.lt_irrefl _)⟩ ?_ ?_
    · rintro i σ H' hi ⟨B', g, pd, zs, k, rfl, w', s', hg, g1, g2, hd, hz, hq⟩
      walk_at "og"
      refine ⟨by show 1 ≤ sizeLine; decide, al_new w' fun p3 B3 H3 w3 s3 e3 => ?_⟩
      walk_at "og"
      refine r_I ⟨by decide, by decide, by decide⟩ ?_
      refine r_I (cm (lt_big hg (by omega)) (big200 (by decide))) ?_
      walk_at "og"
      refine ⟨B3, _, p3, _, _, rfl, w3, s'.trans s3, mul_abs (a := 130 * i + 1) (b := 130) hg (by decide) (by omega), ?_, fun _ => ?_, e3, by show 1 ≤ 1; decide, fun _ => ⟨pd, zs, rfl, s3 _ _ hd, hz⟩⟩
      · have : (1 : Int) * 1 ≤ g * (10 ^ (39 : Int).toNat) := Int.mul_le_mul g1 (by decide) (by decide) (by omega)
        omega
      · have : (1 : Int) * 100 ≤ g * (10 ^ (39 : Int).toNat) := Int.mul_le_mul g1 (by decide) (by decide) (by omega)
        omega
    rintro σ H' ⟨B3, g, pd, zs, k, rfl, w3, s3, _, _, g2, hd, hz, hq⟩
    have g3 := g2 (by decide)
    obtain ⟨pq, ys, rfl, hq1, hq2⟩ := hq (by decide)
    have hs3 := hs.grow s3
    obtain ⟨av, rfl, hv⟩ := hs3.at_
    have l2 := hs.l2
    have u16 := hs.u16
    have ws : ∀ {B' : Hp}, Whole B' (.int st) (.int 0) (.int (fl - 1)) true := whole_t hs.s0 (by have := hs.s1; omega)
    walk_at "og"
    refine g_tup (SqT.of (w3.sb _ _ hv)) rfl ?_
    walk_at "og"
    refine ⟨by show 3 ≤ sizeLine; decide, al_new w3 fun p4 B4 H4 w4 s4 e4 => ?_⟩
    refine ⟨p4, rfl, ⟨_, SqT.of (w4.sb _ _ e4)⟩, ?_⟩
    refine loop_tup (xs := [.ref pd, .int g, .int (0 - g)]) (fun i σ H' => ∃ (B' : Hp) (k7 k8 k9 : Option V), σ = [some (.ref av), some (.ref pd), some (.int g), k, some (.int fl), some (.int st), some (.ref ce), k7, k8, k9] ∧ Wd K d m ms B' H' ∧ Same B4 B')
      ⟨B4, none, none, none, rfl, w4, Same.refl _⟩ ?_ ?_ ?_
    · rintro i σ H' _ ⟨B', _, _, _, _, w', s'⟩
      exact SqT.of (w'.sb _ _ (s' _ _ e4))
    · rintro i od σ H' hi ⟨B5, k7, k8, k9, rfl, w5, s5⟩
      have s35 := s4.trans s5
      have ho : VO B5 od := by
        have hm := List.mem_of_getElem? hi
        simp only [List.mem_cons, List.not_mem_nil, or_false] at hm
        rcases hm with rfl | rfl | rfl
        · exact .inr ⟨pd, pq, ys, rfl, s35 _ _ hd, s35 _ _ hq1, hq2⟩
        · exact .inl ⟨g, rfl, by omega⟩
        · exact .inl ⟨0 - g, rfl, by omega⟩
      have hs5 := hs3.grow s35
      walk_at "og"
      refine ⟨by show 3 ≤ sizeLine; decide, al_new w5 fun p6 B6 H6 w6 s6 e6 => ?_⟩
      walk_at "og"
      refine ⟨by show 3 ≤ sizeLine; decide, al_new w6 fun p7 B7 H7 w7 s7 e7 => ?_⟩
      walk_at "og"
      refine ⟨by show 3 ≤ sizeLine; decide, al_new w7 fun p8 B8 H8 w8 s8 e8 => ?_⟩
      walk_at "og"
      refine ⟨by show 4 ≤ sizeLine; decide, al_new w8 fun p9 B9 H9 w9 s9 e9 => ?_⟩
      have s59 := s6.trans (s7.trans (s8.trans s9))
      have e6' := s9 _ _ (s8 _ _ (s7 _ _ e6))
      have e7' := s9 _ _ (s8 _ _ e7)
      have e8' := s9 _ _ e8
      have ho9 := ho.grow s59
      refine ⟨p9, rfl, ⟨_, SqT.of (w9.sb _ _ e9)⟩, ?_⟩
      refine loop_tup (xs := [od, .ref p6, .ref p7, .ref p8]) (fun i σ H' => ∃ (B' : Hp) (k8 : Option V), σ = [some (.ref av), some (.ref pd), some (.int g), k, some (.int fl), some (.int st), some (.ref ce), some od, k8, k9] ∧ Wd K d m ms B' H' ∧ Same B9 B')
        ⟨B9, k8, rfl, w9, Same.refl _⟩ ?_ ?_ ?_
      · rintro i σ H' _ ⟨_, _, _, w', s'⟩
        exact SqT.of (w'.sb _ _ (s' _ _ e9))
      · rintro i wh σ H' hi ⟨BA, k8, rfl, wA, sA⟩
        obtain ⟨r, hp⟩ : ∃ r, HP B9 wh (some r) := by
          have hm := List.mem_of_getElem? hi
          simp only [List.mem_cons, List.not_mem_nil, or_false] at hm
          rcases hm with rfl | rfl | rfl | rfl
          · exact ⟨_, ho9.hp0⟩
          · exact ⟨_, .floors e6' (ho9.nw (by decide) (by decide))⟩
          · exact ⟨_, .start e7' l2 u16 (ho9.nw (by decide) (by omega))⟩
          · exact ho9.last e8' l2 u16 ws
        walk_at "og"
        have hpA := hp.grow sA
        refine ⟨rfl, rfl, wh, some r, rfl, hpA.grow wA.sb, fun Ha sa => ?_⟩
        have wB := wA.grow sa
        walk_at "og"
        refine ⟨rfl, rfl, wh, some r, rfl, hpA.grow wB.sb, fun Hb sb => al_new (wB.grow sb) fun pb Bb Hb' wC tb eb => ?_⟩
        walk_at "og"
        refine ⟨rfl, rfl, wh, some r, rfl, (hpA.grow tb).grow wC.sb, fun Hc sc => al_new (wC.grow sc) fun pc Bc Hc' wD tc ec => ?_⟩
        obtain ⟨ds, dp, dc, dd⟩ := hp.pl K Hc'
        refine r_neSame (SqL.of (wD.sb _ _ (tc _ _ eb))) (SqL.of (wD.sb _ _ ec)) dp dc dd ?_
        walk_at "og"
        exact ⟨Bc, _, rfl, wD, sA.trans (tb.trans tc)⟩
      rintro σ H' ⟨BA, k8, rfl, wA, sA⟩
      walk_at "og"
      refine ⟨by show 2 ≤ sizeLine; decide, al_new wA fun q1 C1 J1 v1 t1 f1 => ?_⟩
      walk_at "og"
      refine ⟨by show 2 ≤ sizeLine; decide, al_new v1 fun q2 C2 J2 v2 t2 f2 => ?_⟩
      walk_at "og"
      refine ⟨by show 3 ≤ sizeLine; decide, al_new v2 fun q3 C3 J3 v3 t3 f3 => ?_⟩
      have s93 := sA.trans (t1.trans (t2.trans t3))
      have s53 := s59.trans s93
      have ho3 := ho.grow s53
      refine ⟨q3, rfl, ⟨_, SqT.of (v3.sb _ _ f3)⟩, ?_⟩
      refine loop_tup (xs := [od, .ref q1, .ref q2]) (fun i σ H' => ∃ (B' : Hp) (k9 : Option V), σ = [some (.ref av), some (.ref pd), some (.int g), k, some (.int fl), some (.int st), some (.ref ce), some od, k8, k9] ∧ Wd K d m ms B' H' ∧ Same C3 B')
        ⟨C3, k9, rfl, v3, Same.refl _⟩ ?_ ?_ ?_
      · rintro i σ H' _ ⟨B', _, _, w', s'⟩
        exact SqT.of (w'.sb _ _ (s' _ _ f3))
      · rintro i one σ H' hi ⟨B', k9, rfl, v4, t4⟩
        have hbad : Errand C3 one fl false := by
          have hm := List.mem_of_getElem? hi
          simp only [List.mem_cons, List.not_mem_nil, or_false] at hm
          rcases hm with rfl | rfl | rfl
          · exact ho3.err
          · obtain ⟨b, wb, _⟩ := whole_any C3 1 1 (3 * fl)
            exact .inl ⟨q1, _, _, false, b, rfl, t3 _ _ (t2 _ _ f1), ho3.nw (by decide) (by omega), wb, rfl⟩
          · obtain ⟨b, wb, _⟩ := whole_any C3 0 0 (fl - 1)
            exact .inl ⟨q2, _, _, b, false, rfl, t3 _ _ f2, wb, ho3.nw (by decide) (by omega), (Bool.and_false _).symm⟩
        have hs4 := hs5.grow (s53.trans t4)
        walk_at "og"
        refine r_slAB v4 hs4.es fun q5 C5 J5 v5 t5 f5 => ?_
        walk_at "og"
        refine ⟨by show 1 ≤ sizeLine; decide, al_new v5 fun q6 C6 J6 v6 t6 f6 => ?_⟩
        have l9 := cutV_most xs 9
        refine r_catAB v6 (t6 _ _ f5) f6 (by show (cutV xs none (some ((9 : Nat) : Int))).length + 1 ≤ 1000; omega) fun q7 C7 J7 v7 t7 f7 => ?_
        walk_at "og"
        refine ⟨by show 3 ≤ sizeLine; decide, al_new v7 fun q8 C8 J8 v8 t8 f8 => ?_⟩
        walk_at "og"
        have t58 := t5.trans (t6.trans (t7.trans t8))
        have hp : HP C8 (.ref q8) (some (.int ((cutV xs none (some 9)).length : Nat))) := err_last f8 l2 u16 ws (t8 _ _ f7) l9 (hbad.grow (t4.trans t58)) fun y hy => (hs4.all y (mem_cutV hy)).grow t58
        refine ⟨rfl, rfl, .ref q8, _, rfl, hp.grow v8.sb, fun Ha sa => al_new (v8.grow sa) fun pa Ca Ja va ta ea => ?_⟩
        walk_at "og"
        refine r_slAB va (ta _ _ (t58 _ _ hs4.es)) fun q10 C10 J10 v10 t10 f10 => ?_
        walk_at "og"
        refine r_lenT (SqT.of (v10.sb _ _ f10)) ?_
        walk_at "og"
        refine ⟨by show 1 ≤ sizeLine; decide, al_new v10 fun q11 C11 J11 v11 t11 f11 => ?_⟩
        obtain ⟨ds, dp, dc, dd⟩ := hp.pl K J11
        refine r_neSame (SqL.of (v11.sb _ _ (t11 _ _ (t10 _ _ ea)))) (SqL.of (v11.sb _ _ f11)) dp dc dd ?_
        walk_at "og"
        exact ⟨C11, _, rfl, v11, t4.trans (t58.trans (ta.trans (t10.trans t11)))⟩
      · rintro σ H' ⟨B', k9, rfl, v4, t4⟩
        walk_at "og"
        exact ⟨B', _, _, _, rfl, v4, (s5.trans (s53.trans t4))⟩
    · rintro σ H' ⟨B', k7, k8, k9, rfl, w', s'⟩
      walk_at "og"
      exact q _ _ w' (s3.trans (s4.trans s'))
theorem ok_law {f : Addr} {fd : FuncData} (F : FunD K "law" "law" (defArgs slaw) (defBody slaw) (defScope slaw) [] [] f fd) (T : Txt K mg c)
    (C__law_begin_1 : CalG P w K mg base CX0 1 "_law_begin" (spBegin K) 1 [] gv__law_begin_1) (C__law_bent_2 : CalG P w K mg base CX0 4 "_law_bent" (spBent K) 2 [] gv__law_bent_2) (C__law_house_3 : CalG P w K mg base CX0 4 "_law_house" (spHouse K) 3 [] gv__law_house_3) (C__law_next_2 : CalG P w K mg base CX0 2 "_law_next" (spNext K) 2 [] gv__law_next_2) (C__law_odd_1 : CalG P w K mg base CX0 3 "_law_odd" (spOdd K) 1 [] gv__law_odd_1) (C__law_place_1 : CalG P w K mg base CX0 2 "_law_place" (spPlace K) 1 [] gv__law_place_1) (C__law_said_1 : CalG P w K mg base CX0 4 "_law_said" (spSaid K) 1 [] gv__law_said_1) (C__law_vast_right_1 : CalG P w K mg base CX0 5 "_law_vast_right" (spVast K) 1 [] gv__law_vast_right_1) (C_is_house_0_thing : CalG P w K mg base CX0 4 "is_house" (spIsHouse K) 0 ["thing"] gv_is_house_0_thing) (C_is_house_1 : CalG P w K mg base CX0 4 "is_house" (spIsHouse K) 1 [] gv_is_house_1) :
    FnG P w K mg base CX0 6 f fd ["script"] (spLaw K) := by
  refine okG F sc_law (fun vs H Q E h => ?_) (fun cdv A outer s H vs Q E hr hg h => ?_)
  · obtain ⟨a, ns, rfl, _⟩ := h
    rfl
  · obtain ⟨a, ns, rfl, hsy, ha, hl, q⟩ := h
    have hu := hu_of hr
    refine ⟨_, (pss_cons (ps_set (i := 1) sc_law.nd rfl (Or.inl rfl) (pe_g1 C__law_begin_1 hr (by decide) hg (by rfl) (pa_cons (pv 0) pa_nil)))
      (pss_cons (ps_for PassesOwn.never rfl (pi_range1 (by rfl) T.z_range (pa_cons (pe_callB (id := "min") (call_min2 rfl) (by rfl) T.z_min (by decide +kernel) (pa_cons pe_int (pa_cons (pe_op op_add pe_int (pe_callB (id := "len") (call_lenE (K := K) rfl) (by rfl) T.z_len (by decide +kernel) (pa_cons (pv 0) pa_nil))) pa_nil))) pa_nil)) (pg_name (i := 2) sc_law.nd rfl (Or.inl rfl))
        (pss_cons (ps_set (i := 3) sc_law.nd rfl (Or.inl rfl) (pe_g1 C__law_house_3 hr (by decide) hg (by rfl) (pa_cons (pv 1) (pa_cons (pe_ix (ix_listE (K := K) rfl) (pe_lst (pa_cons pe_int (pa_cons pe_int (pa_cons pe_int (pa_cons (pe_op op_add pe_int (pe_g1 C__law_next_2 hr (by decide) hg (by rfl) (pa_cons (pv 1) (pa_cons pe_int pa_nil)))) pa_nil))))) (pe_g1 C__law_next_2 hr (by decide) hg (by rfl) (pa_cons (pv 1) (pa_cons pe_int pa_nil))) (fun _ _ => rfl)) (pa_cons pe_int pa_nil)))))
      (pss_cons (ps_set (i := 4) sc_law.nd rfl (Or.inl rfl) (pe_lst (pa_cons (pv 3) (pa_cons (pe_g1 C__law_odd_1 hr (by decide) hg (by rfl) (pa_cons (pv 1) pa_nil)) (pa_cons (pe_g1 C__law_bent_2 hr (by decide) hg (by rfl) (pa_cons (pv 1) (pa_cons (pv 3) pa_nil))) (pa_cons (pe_g1 C__law_bent_2 hr (by decide) hg (by rfl) (pa_cons (pv 1) (pa_cons (pv 3) pa_nil))) pa_nil))))))
      (pss_cons (ps_set (i := 5) sc_law.nd rfl (Or.inl rfl) (pe_g1 C__law_bent_2 hr (by decide) hg (by rfl) (pa_cons (pv 1) (pa_cons (pv 3) pa_nil))))
      (pss_cons (ps_expr (pe_bmE (K := K) rfl PySem.F.plainAttrs_list PySem.F.slot_list_append PySem.F.type_list_append mt_append (pv 4) (pa_cons (pe_ifExp (pt_cmpR (op_neDE (K := K) rfl hr.units) (pe_g1 C__law_place_1 hr (by decide) hg (by rfl) (pa_cons (pv 5) pa_nil)) (pe_lst pa_nil) (nomark _)) (pv 5) (pe_g1 C__law_bent_2 hr (by decide) hg (by rfl) (pa_cons (pv 1) (pa_cons (pv 5) pa_nil)))) pa_nil)))
      (pss_cons (ps_for PassesOwn.never rfl (pi_listE (K := K) rfl (pe_op (op_catXE (K := K) rfl) (pv 4) (pe_lst (pa_cons (pe_tup (pa_cons (pe_callB (id := "max") (call_max2 rfl) (by rfl) T.z_max (by decide +kernel) (pa_cons pe_int (pa_cons (pe_op op_sub (pe_ix (ix_tupE (K := K) rfl) (pv 3) pe_int (fun _ _ => rfl)) pe_int) pa_nil))) (pa_cons (pe_ix (ix_tupE (K := K) rfl) (pv 3) pe_int (fun _ _ => rfl)) (pa_cons (pe_ix (ix_tupE (K := K) rfl) (pv 3) pe_int (fun _ _ => rfl)) pa_nil)))) pa_nil)))) (pg_name (i := 6) sc_law.nd rfl (Or.inl rfl))
        (pss_cons (ps_par (i := 7) (j := 8) (by rfl) sc_law.nd rfl rfl (by decide) rfl rfl (pa_cons (pe_g1 C__law_place_1 hr (by decide) hg (by rfl) (pa_cons (pv 6) pa_nil)) (pa_cons (pe_callB (id := "repr") (call_reprDE (K := K) rfl hr hg) (by rfl) T.z_repr (by decide +kernel) (pa_cons (pv 6) pa_nil)) pa_nil)) (by rfl))
      (pss_one (ps_for PassesOwn.never rfl (pi_range1 (by rfl) T.z_range (pa_cons pe_int pa_nil)) (pg_name (i := 9) sc_law.nd rfl (Or.inl rfl))
        (pss_cons (ps_set (i := 10) sc_law.nd rfl (Or.inl rfl) (pe_ifExp (pt_cmpR op_eq (pv 9) pe_int (nomark _)) (pe_g1 C_is_house_1 hr (by decide) hg (by rfl) (pa_cons (pv 6) pa_nil)) (pe_g3 C_is_house_0_thing hr (by decide) hg (by rfl) (pk_cons (pv 6) pk_nil))))
      (pss_one (ps_if (PW.pt (pw_or (pt_cmpR (op_neDE (K := K) rfl hr.units) (pe_g1 C__law_said_1 hr (by decide) hg (by rfl) (pa_cons (pv 6) pa_nil)) (pv 7) (nomark _)) (pw_or (pt_cmpR op_ne (pe_callB (id := "repr") call_repr_bl (by rfl) T.z_repr (by decide +kernel) (pa_cons (pv 10) pa_nil)) (pe_callB (id := "repr") call_repr_bl (by rfl) T.z_repr (by decide +kernel) (pa_cons (pe_cmpR (op_eqDE (K := K) rfl hr.units) (pv 7) (pe_lst pa_nil) (nomark _)) pa_nil)) (nomark _)) (pw_or1 (pt_cmpR op_ne (pe_callB (id := "repr") (call_reprDE (K := K) rfl hr hg) (by rfl) T.z_repr (by decide +kernel) (pa_cons (pv 6) pa_nil)) (pv 8) (nomark _))))))
        (pss_one (ps_ret pe_bl))
        pss_nil)))))))
      (pss_one (ps_if (PW.pt (pw_and (pt_cmpR op_eq (pv 2) pe_int (nomark _)) (pw_and1 (pt_not (pt_val (pe_g1 C__law_vast_right_1 hr (by decide) hg (by rfl) (pa_cons (pv 3) pa_nil)))))))
        (pss_one (ps_ret pe_bl))
        pss_nil))))))))
      (pss_one (ps_ret pe_bl)))), ?_⟩
    walk_at "og"
    refine ⟨rfl, rfl, a, ns, rfl, hsy, ha, hl, fun d B0 H0 s0 w0 => ?_⟩
    walk_at "og"
    refine r_lenL (w0.seq (s0.seq ha)) ?_
    walk_at "og"
    refine ⟨_, _, rfl, ?_⟩
    generalize hmin : (if 5 + ((ns.map V.int).length : Int) < 24 then 5 + ((ns.map V.int).length : Int) else 24) = turns
    have ht : 0 ≤ turns ∧ turns ≤ 24 := by
      split at hmin <;> omega
    walk_at "og"
    refine r_rng1e (j := turns) ht.1 (by omega) ?_
    refine loop_rng (fun i σ H' => ∃ (B' : Hp) (x2 x3 x4 x5 x6 x7 x8 x9 x10 : Option V), σ = [some (.ref a), some (.ref d), x2, x3, x4, x5, x6, x7, x8, x9, x10] ∧ Wd K d (200 * (24 - i)) [] B' H')
      ⟨B0, none, none, none, none, none, none, none, none, none, rfl, w0.le (by decide)⟩ ?_ ?_
    · rintro i σ H' hi ⟨B', x2, x3, x4, x5, x6, x7, x8, x9, x10, rfl, w'⟩
      have w1 := w'.le (show 200 * (24 - (i + 1)) + 200 ≤ 200 * (24 - i) by omega)
      generalize hm : 200 * (24 - (i + 1)) = m at w1
      walk_at "og"
      refine ⟨rfl, rfl, d, m + 199, [], B', 15, rfl, w1, by decide, by decide, fun H2 r2 w2 a2 b2 => ?_⟩
      walk_at "og"
      refine ⟨by show 4 ≤ sizeLine; decide, al_new w2 fun p3 B3 H3 w3 s3 e3 => ?_⟩
      walk_at "og"
      refine ⟨rfl, rfl, d, m + 198, [], B3, 4, rfl, w3, by decide, by decide, fun H4 r4 w4 a4 b4 => ?_⟩
      obtain ⟨n, gn, n2, n16⟩ : ∃ n, atI [V.int 2, .int 3, .int 16, .int (2 + r2)] r4 = some (.int n) ∧ 2 ≤ n ∧ n ≤ 16 := by
        have : r4 = 0 ∨ r4 = 1 ∨ r4 = 2 ∨ r4 = 3 := by omega
        rcases this with rfl | rfl | rfl | rfl
        · exact ⟨_, rfl, by omega, by omega⟩
        · exact ⟨_, rfl, by omega, by omega⟩
        · exact ⟨_, rfl, by omega, by omega⟩
        · exact ⟨_, rfl, by omega, by omega⟩
      refine r_ixL (w4.seq (SqL.of e3)) gn ?_
      walk_at "og"
      refine ⟨rfl, rfl, d, m + 98, [], B3, n, 40, rfl, w4.le (by omega), n2, n16, by decide, fun B5 H5 v st c5 xs w5 s5 hs => ?_⟩
      walk_at "og"
      refine ⟨rfl, rfl, d, m + 97, [], B5, rfl, w5, fun B6 H6 o1 w6 s6 k6 => ?_⟩
      walk_at "og"
      have hs6 := hs.grow s6
      refine ⟨rfl, rfl, d, m + 87, [], B6, v, n, st, c5, xs, rfl, w6.le (by omega), hs6, fun B7 H7 o2 w7 s7 k7 => ?_⟩
      walk_at "og"
      have hs7 := hs6.grow s7
      refine ⟨rfl, rfl, d, m + 77, [], B7, v, n, st, c5, xs, rfl, w7.le (by omega), hs7, fun B8 H8 o3 w8 s8 k8 => ?_⟩
      walk_at "og"
      have hs8 := hs7.grow s8
      refine ⟨by show 4 ≤ sizeLine; decide, al_mut w8 fun ps H9 w9 => ?_⟩
      walk_at "og"
      refine ⟨rfl, rfl, d, m + 67, _, B8, v, n, st, c5, xs, rfl, w9.le (by omega), hs8, fun B10 H10 o4 w10 s10 k10 => ?_⟩
      have hs10 := hs8.grow s10
      walk_at "og"
      refine ty_list (SqL.of w10.get) ?_
      walk_at "oj"
      with_reducible refine r_ifEJ (fun o5 H' => ∃ B13, Wd K d (m + 47) [(ps, .lst [v, o1, o2, o3])] B13 H' ∧ Same B10 B13 ∧ Kn B13 126003 5 o5) ?_ ?_
      rotate_left
      · intro Q' K1
        walk_at "og"
        obtain ⟨r4', hp4⟩ := k10.kh.hp
        refine ⟨rfl, rfl, o4, r4', rfl, hp4.grow w10.sb, fun Ha sa => al_new (w10.grow sa) fun pa B11 H11 w11 s11 e11 => ?_⟩
        walk_at "og"
        refine ⟨by decide, al_new w11 fun pb B12 H12 w12 s12 e12 => ?_⟩
        obtain ⟨ds, dp, dc, dd⟩ := hp4.pl K H12
        refine r_neNil (SqL.of (w12.sb _ _ (s12 _ _ e11))) (SqL.of (w12.sb _ _ e12)) dp dc dd ?_
        walk_at "og"
        refine ite2 (fun c => ?_) (fun c => ?_)
        · walk_at "og"
          exact K1 _ _ ⟨B12, w12.le (by omega), s11.trans s12, k10.grow (s11.trans s12)⟩
        · have e0 : (plV r4').isEmpty = true := by
            cases z : (plV r4').isEmpty with
            | true => rfl
            | false => rw [z] at c; exact absurd rfl c
          have e1 := pl_none e0
          subst e1
          obtain ⟨f4, st4, c4, xs4, hs4⟩ := (hp4.grow (s11.trans s12)).hs
          walk_at "og"
          refine ⟨rfl, rfl, d, m + 47, _, B12, o4, f4, st4, c4, xs4, rfl, w12.le (by omega), hs4, fun B13 H13 o5 w13 s13 k13 => ?_⟩
          exact K1 _ _ ⟨B13, w13, s11.trans (s12.trans s13), k13⟩
      rintro o5 H13 ⟨B13, w13, s13, k13⟩
      walk_at "og"
      refine r_app w13.get (by show 4 < sizeLine; decide) ?_
      have w14 := w13.set (o' := .lst [v, o1, o2, o3, o5])
      walk_at "og"
      have hs13 := hs10.grow s13
      obtain ⟨av, rfl, hv⟩ := hs13.at_
      refine r_ixT (SqT.of (w14.sb _ _ hv)) rfl ?_
      walk_at "og"
      refine ⟨_, _, rfl, ?_⟩
      generalize hmx : (if n - 1 > 2 then n - 1 else 2) = mx
      have hx : 2 ≤ mx ∧ mx ≤ 16 := by
        split at hmx <;> omega
      walk_at "og"
      refine r_ixT (SqT.of (w14.sb _ _ hv)) rfl ?_
      walk_at "og"
      refine r_ixT (SqT.of (w14.sb _ _ hv)) rfl ?_
      walk_at "og"
      refine ⟨by show 3 ≤ sizeLine; decide, al_new w14 fun pt B15 H15 w15 s15 e15 => ?_⟩
      walk_at "og"
      refine ⟨by show 1 ≤ sizeLine; decide, al_new w15 fun pu B16 H16 w16 s16 e16 => ?_⟩
      refine r_catX (SqL.of w16.get) (w16.seq (SqL.of e16)) (by show 5 + 1 ≤ sizeLine; decide) (al_new w16 fun pl B17 H17 w17 s17 e17 => ?_)
      refine ⟨pl, rfl, ⟨_, w17.seq (SqL.of e17)⟩, ?_⟩
      have t17 := s15.trans (s16.trans s17)
      have hs17 := hs13.grow t17
      have s0 := hs17.s0
      have s1 := hs17.s1
      have kn17 : ∀ x ∈ [.ref av, o1, o2, o3, o5] ++ [V.ref pt], Kn B17 126003 5 x := by
        have u1 := s10.trans (s13.trans t17)
        intro x hx'
        simp only [List.cons_append, List.nil_append, List.mem_cons, List.not_mem_nil, or_false] at hx'
        rcases hx' with rfl | rfl | rfl | rfl | rfl | rfl
        · exact (hs17.kn (by decide)).le (by decide) (by decide)
        · exact (k6.grow (s7.trans (s8.trans u1))).le (by decide) (by decide)
        · exact k7.grow (s8.trans u1)
        · exact k8.grow u1
        · exact k13.grow t17
        · exact kn3 (s17 _ _ (s16 _ _ e15)) (kn_int (by omega) (by omega) (by decide)) (kn_int (by omega) (by omega) (by decide)) ((hs17.esKn (by decide)).le (by decide) (by decide))
      refine loop_lst (xs := [.ref av, o1, o2, o3, o5] ++ [V.ref pt]) (fun i2 σ H' => ∃ (B' : Hp) (y6 y7 y8 y9 y10 : Option V), σ = [some (.ref a), some (.ref d), some (.int i), some (.ref av), some (.ref ps), some o4, y6, y7, y8, y9, y10] ∧ Wd K d (m + 47) [(ps, .lst [.ref av, o1, o2, o3, o5])] B' H' ∧ Same B17 B')
        ⟨B17, _, _, _, _, _, rfl, w17, Same.refl _⟩ ?_ ?_ ?_
      · rintro i2 σ H' _ ⟨B', _, _, _, _, _, _, w', s'⟩
        exact w'.seq (SqL.of (s' _ _ e17))
      · rintro i2 wh σ H' hi2 ⟨B18, y6, y7, y8, y9, y10, rfl, w18, s18⟩
        have kw := (kn17 wh (List.mem_of_getElem? hi2)).grow s18
        obtain ⟨r, hp⟩ := kw.kh.hp
        obtain ⟨dt, rp, sm⟩ := kw.data K
        walk_at "og"
        refine ⟨rfl, rfl, wh, r, rfl, hp.grow w18.sb, fun Ha sa => al_new (w18.grow sa) fun pd B19 H19 w19 s19 e19 => ?_⟩
        walk_at "og"
        refine r_repr ((rp.grow s19).grow w19.sb) (w19.sy.grow w19.sb) sm (by decide) (by decide) ?_
        walk_at "og"
        refine r_rng1e (j := 2) (by decide) (by decide) ?_
        refine loop_rng (fun i3 σ H' => ∃ (B' : Hp) (y9 y10 : Option V), σ = [some (.ref a), some (.ref d), some (.int i), some (.ref av), some (.ref ps), some o4, some wh, some (.ref pd), some (.str dt.shown), y9, y10] ∧ Wd K d (m + 47) [(ps, .lst [.ref av, o1, o2, o3, o5])] B' H' ∧ Same B19 B')
          ⟨B19, _, _, rfl, w19, Same.refl _⟩ ?_ ?_
        · rintro i3 σ H' hi3 ⟨B20, y9, y10, rfl, w20, s20⟩
          have hp20 := hp.grow (s19.trans s20)
          walk_at "oj"
          with_reducible refine r_ifEJ (fun u H' => u = .bl r.isNone ∧ Wd K d (m + 47) [(ps, .lst [.ref av, o1, o2, o3, o5])] B20 H') ?_ ?_
          rotate_left
          · intro Q' K2
            walk_at "og"
            refine ite2 (fun c => ?_) (fun c => ?_)
            · walk_at "og"
              exact ⟨rfl, rfl, wh, r, rfl, hp20.grow w20.sb, fun Ha sa => K2 _ _ ⟨rfl, w20.grow sa⟩⟩
            · walk_at "og"
              exact ⟨rfl, rfl, wh, r, rfl, hp20.grow w20.sb, fun Ha sa => K2 _ _ ⟨rfl, w20.grow sa⟩⟩
          rintro _ H21 ⟨rfl, w21⟩
          walk_at "og"
          refine ⟨rfl, rfl, wh, r, rfl, hp20.grow w21.sb, fun Ha sa => al_new (w21.grow sa) fun pe B22 H22 w22 s22 e22 => ?_⟩
          walk_at "og"
          obtain ⟨ds, dp, dc, dd⟩ := hp.pl K H22
          refine r_neSame (SqL.of (w22.sb _ _ e22)) (SqL.of (w22.sb _ _ (s22 _ _ (s20 _ _ e19)))) dp dc dd ?_
          walk_at "og"
          refine ⟨_, rfl, ?_⟩
          walk_at "og"
          refine ⟨by decide, al_new w22 fun pf B23 H23 w23 s23 e23 => ?_⟩
          obtain ⟨ds2, dp2, dc2, dd2⟩ := hp.pl K H23
          refine r_eqNil (SqL.of (w23.sb _ _ (s23 _ _ (s22 _ _ (s20 _ _ e19))))) (SqL.of (w23.sb _ _ e23)) dp2 dc2 dd2 ?_
          rw [pl_empty]
          walk_at "og"
          refine ⟨_, rfl, ?_⟩
          refine r_neS ?_
          walk_at "og"
          have u23 := s20.trans (s22.trans s23)
          refine r_repr (((rp.grow s19).grow u23).grow w23.sb) (w23.sy.grow w23.sb) sm (by decide) (by decide) ?_
          walk_at "og"
          refine r_neS ?_
          walk_at "og"
          exact ⟨B23, _, _, rfl, w23, u23⟩
        · rintro σ H' ⟨B20, y9, y10, rfl, w20, s20⟩
          walk_at "og"
          exact ⟨B20, _, _, _, _, _, rfl, w20, s18.trans (s19.trans s20)⟩
      · rintro σ H' ⟨B18, y6, y7, y8, y9, y10, rfl, w18, s18⟩
        walk_at "og"
        refine ite2 (fun c => ?_) (fun c => ?_)
        · walk_at "og"
          refine ⟨rfl, rfl, d, _, _, B18, .ref av, n, st, c5, xs, rfl, w18, hs17.grow s18, fun B24 H24 w24 s24 => ?_⟩
          walk_at "og"
          exact ⟨B24, _, _, _, _, _, _, _, _, _, rfl, w24.drop.le (by omega)⟩
        · walk_at "og"
          exact ⟨B18, _, _, _, _, _, _, _, _, _, rfl, w18.drop.le (by omega)⟩
    · rintro σ H' ⟨B', _, _, _, _, _, _, _, _, _, rfl, w'⟩
      walk_at "og"
      exact q _
end
theorem all_mk {l : PySem.W.OpenLaw} {w : World} {K : PySem.W.Frag} {h : Heap} {mg : Str → Option Value} {fa f0 f1 f2 f3 f4 f5 f6 f7 f8 f9 f10 f11 f12 f13 f14 f15 f16 D0 cRideError cBadHouse cBadErrand cBadNumber : Addr} (X : K.In h) (G : h.Ns mainGlobals mg) (hfa : mg "law" = some (.ref fa))
    {od0 an0 od1 an1 od2 an2 od3 an3 od4 an4 od5 an5 od6 an6 od7 an7 od8 an8 od9 an9 od10 an10 od11 an11 od12 an12 od13 an13 od14 an14 od15 an15 od16 an16 : Option Addr} {sl0 sl1 sl2 sl3 sl4 sl5 sl6 sl7 sl8 sl9 sl10 sl11 sl12 sl13 sl14 sl15 sl16 : Array (Option Value)} {oc0 dc0 pm0 cd0 ct0 oc1 dc1 pm1 cd1 ct1 kV1 oc2 dc2 pm2 cd2 ct2 kV2 oc3 dc3 pm3 cd3 ct3 kV3 oc4 dc4 pm4 cd4 ct4 kV4 oc5 dc5 pm5 cd5 ct5 kV5 oc6 dc6 pm6 cd6 ct6 kV6 oc7 dc7 pm7 cd7 ct7 kV7 oc8 dc8 pm8 cd8 ct8 kV8 oc9 dc9 pm9 cd9 ct9 kV9 oc10 dc10 pm10 cd10 ct10 kV10 oc11 dc11 pm11 cd11 ct11 kV11 oc12 dc12 pm12 cd12 ct12 kV12 oc13 dc13 pm13 cd13 ct13 kV13 oc14 dc14 pm14 cd14 ct14 kV14 oc15 dc15 pm15 cd15 ct15 kV15 oc16 dc16 pm16 cd16 ct16 kV16 : Value} {t0_0 tc_MOST_ERRANDS tc_MOST_FLOORS : Tok}
    
    {nm_BadHouse q_BadHouse : Str} {N_BadHouse : Addr} {bs_BadHouse : List Value} {sn_BadHouse : List Str} {sub_BadHouse : List Value} {ab_BadHouse : Bool} {co_BadHouse : Option Bool} {dd_BadHouse : Option Addr} {m0_BadHouse m1_BadHouse m2_BadHouse m3_BadHouse m5_BadHouse : Option Value}
    {odx_BadHouse anx_BadHouse : Option Addr} {slx_BadHouse : Array (Option Value)} {ocx_BadHouse dcx_BadHouse pmx_BadHouse cdx_BadHouse ctx_BadHouse kVx_BadHouse : Value} {fI_BadHouse : Addr}
    {T_BadHouse : Addr} {oT_BadHouse : Value} {nT_BadHouse : Nat} {dT_BadHouse : Option Addr} {sT_BadHouse : Array (Option Value)}
    (a0 : PySem.W.nsIn K mainGlobals "is_whole" = some (some (.ref f0)))
    (l0 : K.lookup f0 = some ⟨oc0, od0, .func (PySem.W.fnOf "is_whole" "is_whole" (defArgs sis_whole) (defBody sis_whole) (defScope sis_whole) .none (.ref D0) dc0 pm0 an0 cd0 ct0), sl0⟩)
    (e0 : PySem.W.codeIn K cd0 "is_whole" = true)
    (k0 : PySem.W.keepIn K (.ref f0) = true)
    (n0_0 : PySem.W.nsIn K D0 "least" = some (some (.int 0 t0_0)))
    (n0_1 : PySem.W.nsIn K D0 "most" = some (some .none))
    (a1 : PySem.W.nsIn K mainGlobals "is_errand" = some (some (.ref f1)))
    (l1 : K.lookup f1 = some ⟨oc1, od1, .func (PySem.W.fnOf "is_errand" "is_errand" (defArgs sis_errand) (defBody sis_errand) (defScope sis_errand) .none kV1 dc1 pm1 an1 cd1 ct1), sl1⟩)
    (e1 : PySem.W.codeIn K cd1 "is_errand" = true)
    (k1 : PySem.W.keepIn K (.ref f1) = true)
    (a2 : PySem.W.nsIn K mainGlobals "need_house" = some (some (.ref f2)))
    (l2 : K.lookup f2 = some ⟨oc2, od2, .func (PySem.W.fnOf "need_house" "need_house" (defArgs sneed_house) (defBody sneed_house) (defScope sneed_house) .none kV2 dc2 pm2 an2 cd2 ct2), sl2⟩)
    (e2 : PySem.W.codeIn K cd2 "need_house" = true)
    (k2 : PySem.W.keepIn K (.ref f2) = true)
    (a3 : PySem.W.nsIn K mainGlobals "is_house" = some (some (.ref f3)))
    (l3 : K.lookup f3 = some ⟨oc3, od3, .func (PySem.W.fnOf "is_house" "is_house" (defArgs sis_house) (defBody sis_house) (defScope sis_house) .none kV3 dc3 pm3 an3 cd3 ct3), sl3⟩)
    (e3 : PySem.W.codeIn K cd3 "is_house" = true)
    (k3 : PySem.W.keepIn K (.ref f3) = true)
    (a4 : PySem.W.nsIn K mainGlobals "_law_begin" = some (some (.ref f4)))
    (l4 : K.lookup f4 = some ⟨oc4, od4, .func (PySem.W.fnOf "_law_begin" "_law_begin" (defArgs s_law_begin) (defBody s_law_begin) (defScope s_law_begin) .none kV4 dc4 pm4 an4 cd4 ct4), sl4⟩)
    (e4 : PySem.W.codeIn K cd4 "_law_begin" = true)
    (k4 : PySem.W.keepIn K (.ref f4) = true)
    (a5 : PySem.W.nsIn K mainGlobals "_law_mixed" = some (some (.ref f5)))
    (l5 : K.lookup f5 = some ⟨oc5, od5, .func (PySem.W.fnOf "_law_mixed" "_law_mixed" (defArgs s_law_mixed) (defBody s_law_mixed) (defScope s_law_mixed) .none kV5 dc5 pm5 an5 cd5 ct5), sl5⟩)
    (e5 : PySem.W.codeIn K cd5 "_law_mixed" = true)
    (k5 : PySem.W.keepIn K (.ref f5) = true)
    (a6 : PySem.W.nsIn K mainGlobals "_law_next" = some (some (.ref f6)))
    (l6 : K.lookup f6 = some ⟨oc6, od6, .func (PySem.W.fnOf "_law_next" "_law_next" (defArgs s_law_next) (defBody s_law_next) (defScope s_law_next) .none kV6 dc6 pm6 an6 cd6 ct6), sl6⟩)
    (e6 : PySem.W.codeIn K cd6 "_law_next" = true)
    (k6 : PySem.W.keepIn K (.ref f6) = true)
    (a7 : PySem.W.nsIn K mainGlobals "_law_errand" = some (some (.ref f7)))
    (l7 : K.lookup f7 = some ⟨oc7, od7, .func (PySem.W.fnOf "_law_errand" "_law_errand" (defArgs s_law_errand) (defBody s_law_errand) (defScope s_law_errand) .none kV7 dc7 pm7 an7 cd7 ct7), sl7⟩)
    (e7 : PySem.W.codeIn K cd7 "_law_errand" = true)
    (k7 : PySem.W.keepIn K (.ref f7) = true)
    (a8 : PySem.W.nsIn K mainGlobals "_law_way" = some (some (.ref f8)))
    (l8 : K.lookup f8 = some ⟨oc8, od8, .func (PySem.W.fnOf "_law_way" "_law_way" (defArgs s_law_way) (defBody s_law_way) (defScope s_law_way) .none kV8 dc8 pm8 an8 cd8 ct8), sl8⟩)
    (e8 : PySem.W.codeIn K cd8 "_law_way" = true)
    (k8 : PySem.W.keepIn K (.ref f8) = true)
    (a9 : PySem.W.nsIn K mainGlobals "_law_house" = some (some (.ref f9)))
    (l9 : K.lookup f9 = some ⟨oc9, od9, .func (PySem.W.fnOf "_law_house" "_law_house" (defArgs s_law_house) (defBody s_law_house) (defScope s_law_house) .none kV9 dc9 pm9 an9 cd9 ct9), sl9⟩)
    (e9 : PySem.W.codeIn K cd9 "_law_house" = true)
    (k9 : PySem.W.keepIn K (.ref f9) = true)
    (a10 : PySem.W.nsIn K mainGlobals "_law_is_within" = some (some (.ref f10)))
    (l10 : K.lookup f10 = some ⟨oc10, od10, .func (PySem.W.fnOf "_law_is_within" "_law_is_within" (defArgs s_law_is_within) (defBody s_law_is_within) (defScope s_law_is_within) .none kV10 dc10 pm10 an10 cd10 ct10), sl10⟩)
    (e10 : PySem.W.codeIn K cd10 "_law_is_within" = true)
    (k10 : PySem.W.keepIn K (.ref f10) = true)
    (a11 : PySem.W.nsIn K mainGlobals "_law_place" = some (some (.ref f11)))
    (l11 : K.lookup f11 = some ⟨oc11, od11, .func (PySem.W.fnOf "_law_place" "_law_place" (defArgs s_law_place) (defBody s_law_place) (defScope s_law_place) .none kV11 dc11 pm11 an11 cd11 ct11), sl11⟩)
    (e11 : PySem.W.codeIn K cd11 "_law_place" = true)
    (k11 : PySem.W.keepIn K (.ref f11) = true)
    (a12 : PySem.W.nsIn K mainGlobals "_law_odd" = some (some (.ref f12)))
    (l12 : K.lookup f12 = some ⟨oc12, od12, .func (PySem.W.fnOf "_law_odd" "_law_odd" (defArgs s_law_odd) (defBody s_law_odd) (defScope s_law_odd) .none kV12 dc12 pm12 an12 cd12 ct12), sl12⟩)
    (e12 : PySem.W.codeIn K cd12 "_law_odd" = true)
    (k12 : PySem.W.keepIn K (.ref f12) = true)
    (a13 : PySem.W.nsIn K mainGlobals "_law_bent" = some (some (.ref f13)))
    (l13 : K.lookup f13 = some ⟨oc13, od13, .func (PySem.W.fnOf "_law_bent" "_law_bent" (defArgs s_law_bent) (defBody s_law_bent) (defScope s_law_bent) .none kV13 dc13 pm13 an13 cd13 ct13), sl13⟩)
    (e13 : PySem.W.codeIn K cd13 "_law_bent" = true)
    (k13 : PySem.W.keepIn K (.ref f13) = true)
    (a14 : PySem.W.nsIn K mainGlobals "_law_said" = some (some (.ref f14)))
    (l14 : K.lookup f14 = some ⟨oc14, od14, .func (PySem.W.fnOf "_law_said" "_law_said" (defArgs s_law_said) (defBody s_law_said) (defScope s_law_said) .none kV14 dc14 pm14 an14 cd14 ct14), sl14⟩)
    (e14 : PySem.W.codeIn K cd14 "_law_said" = true)
    (k14 : PySem.W.keepIn K (.ref f14) = true)
    (a15 : PySem.W.nsIn K mainGlobals "_law_vast_right" = some (some (.ref f15)))
    (l15 : K.lookup f15 = some ⟨oc15, od15, .func (PySem.W.fnOf "_law_vast_right" "_law_vast_right" (defArgs s_law_vast_right) (defBody s_law_vast_right) (defScope s_law_vast_right) .none kV15 dc15 pm15 an15 cd15 ct15), sl15⟩)
    (e15 : PySem.W.codeIn K cd15 "_law_vast_right" = true)
    (k15 : PySem.W.keepIn K (.ref f15) = true)
    (a16 : PySem.W.nsIn K mainGlobals "law" = some (some (.ref f16)))
    (l16 : K.lookup f16 = some ⟨oc16, od16, .func (PySem.W.fnOf "law" "law" (defArgs slaw) (defBody slaw) (defScope slaw) .none kV16 dc16 pm16 an16 cd16 ct16), sl16⟩)
    (e16 : PySem.W.codeIn K cd16 "law" = true)
    (k16 : PySem.W.keepIn K (.ref f16) = true)
    (g_RideError : PySem.W.nsIn K mainGlobals "RideError" = some (some (.ref cRideError)))
    (g_BadHouse : PySem.W.nsIn K mainGlobals "BadHouse" = some (some (.ref cBadHouse)))
    (g_BadErrand : PySem.W.nsIn K mainGlobals "BadErrand" = some (some (.ref cBadErrand)))
    (g_BadNumber : PySem.W.nsIn K mainGlobals "BadNumber" = some (some (.ref cBadNumber)))
    (bs_RideError : PySem.W.specialIn K (.ref cRideError) "__getattribute__" = some (some (.builtin "type.__getattribute__")))
    (bt_RideError : PySem.W.typeIn K (.ref cRideError) = some (.type "type"))
    (br_RideError : PySem.W.readsIn K cRideError (.type "type") = true)
    (bf_RideError : PySem.W.findCls K (.ref cRideError) (.type "type") "__init__" = some (.val (.builtin "ValueError.__init__")))
    (xl_BadHouse : K.lookup cBadHouse = some (excClassObj nm_BadHouse q_BadHouse cBadHouse N_BadHouse bs_BadHouse [.ref cRideError, .type "ValueError", .type "Exception", .type "BaseException", .type "object"] true sn_BadHouse sub_BadHouse ab_BadHouse co_BadHouse dd_BadHouse m0_BadHouse m1_BadHouse m2_BadHouse m3_BadHouse m5_BadHouse "ValueError.__new__"))
    (xs_BadHouse : PySem.W.findIn K (.ref cBadHouse) "__setattr__" = some (some (.builtin "object.__setattr__")))
    (xe_BadHouse : PySem.W.subIn K (.ref cBadHouse) (.type "BaseException") = some true)
    (xt_BadHouse : PySem.W.typeIn K (.ref cBadHouse) = some (.type "type"))
    (xk_BadHouse : PySem.W.keepIn K (.ref cBadHouse) = true)
    (xa_BadHouse : PySem.W.findIn K (.ref cBadHouse) "__getattribute__" = some (some (.builtin "BaseException.__getattribute__")))
    (xg_BadHouse : PySem.W.findIn K (.ref cBadHouse) "__getattr__" = some none)
    (xh_BadHouse : PySem.W.hasDictIn K cBadHouse = true)
    (xc_BadHouse : PySem.W.findIn K (.ref cBadHouse) "__class__" = some (some (.builtin "object.__class__")))
    (xm_BadHouse : PySem.W.mroIn K cBadHouse (.type "object") = some true)
    (xn_BadHouse : PySem.W.findIn K (.ref cBadHouse) "place" = some none)
    (xi_BadHouse : PySem.W.findIn K (.ref cBadHouse) "__init__" = some (some (.ref fI_BadHouse)))
    (xf_BadHouse : PySem.W.typeIn K (.ref fI_BadHouse) = some (.type "function"))
    (xo_BadHouse : K.lookup fI_BadHouse = some ⟨ocx_BadHouse, odx_BadHouse, .func (PySem.W.fnOf "__init__" "BadHouse.__init__" (defArgs sBadHouse_init) (defBody sBadHouse_init) (defScope sBadHouse_init) (.ref T_BadHouse) kVx_BadHouse dcx_BadHouse pmx_BadHouse anx_BadHouse cdx_BadHouse ctx_BadHouse), slx_BadHouse⟩)
    (xd_BadHouse : PySem.W.codeIn K cdx_BadHouse "BadHouse.__init__" = true)
    (xp_BadHouse : PySem.W.keepIn K (.ref fI_BadHouse) = true)
    (xT_BadHouse : K.lookup T_BadHouse = some ⟨oT_BadHouse, dT_BadHouse, .seq #[.none] nT_BadHouse, sT_BadHouse⟩)
    (su_BadHouse_BadErrand : PySem.W.subIn K (.ref cBadHouse) (.ref cBadErrand) = some false)
    (su_BadHouse_BadHouse : PySem.W.subIn K (.ref cBadHouse) (.ref cBadHouse) = some true)
    (su_BadHouse_BadNumber : PySem.W.subIn K (.ref cBadHouse) (.ref cBadNumber) = some false)
    (su_BadHouse_RideError : PySem.W.subIn K (.ref cBadHouse) (.ref cRideError) = some true)
    (ne_BadHouse_BadErrand : (Value.ref cBadHouse == Value.ref cBadErrand) = false)
    (ne_BadHouse_BadNumber : (Value.ref cBadHouse == Value.ref cBadNumber) = false)
    (ic_BadErrand : PySem.W.isClsIn K cBadErrand = true)
    (ty_BadErrand : PySem.W.typeIn K (.ref cBadErrand) = some (.type "type"))
    (eb_BadErrand : PySem.W.subIn K (.ref cBadErrand) (.type "BaseException") = some true)
    (ic_BadHouse : PySem.W.isClsIn K cBadHouse = true)
    (ty_BadHouse : PySem.W.typeIn K (.ref cBadHouse) = some (.type "type"))
    (eb_BadHouse : PySem.W.subIn K (.ref cBadHouse) (.type "BaseException") = some true)
    (ic_BadNumber : PySem.W.isClsIn K cBadNumber = true)
    (ty_BadNumber : PySem.W.typeIn K (.ref cBadNumber) = some (.type "type"))
    (eb_BadNumber : PySem.W.subIn K (.ref cBadNumber) (.type "BaseException") = some true)
    (ic_RideError : PySem.W.isClsIn K cRideError = true)
    (ty_RideError : PySem.W.typeIn K (.ref cRideError) = some (.type "type"))
    (eb_RideError : PySem.W.subIn K (.ref cRideError) (.type "BaseException") = some true)
    (xsp : PySem.W.specialIn K (.builtin "object.__class__") "__get__" = some (some (.builtin "getset_descriptor.__get__")))
    (xtk : PySem.W.takesIn K (.builtin "object.__class__") = some true)
    (z_bool : PySem.W.nsIn K mainGlobals "bool" = some none)
    (z_dict : PySem.W.nsIn K mainGlobals "dict" = some none)
    (z_enumerate : PySem.W.nsIn K mainGlobals "enumerate" = some none)
    (z_int : PySem.W.nsIn K mainGlobals "int" = some none)
    (z_isinstance : PySem.W.nsIn K mainGlobals "isinstance" = some none)
    (z_len : PySem.W.nsIn K mainGlobals "len" = some none)
    (z_list : PySem.W.nsIn K mainGlobals "list" = some none)
    (z_max : PySem.W.nsIn K mainGlobals "max" = some none)
    (z_min : PySem.W.nsIn K mainGlobals "min" = some none)
    (z_range : PySem.W.nsIn K mainGlobals "range" = some none)
    (z_repr : PySem.W.nsIn K mainGlobals "repr" = some none)
    (z_tuple : PySem.W.nsIn K mainGlobals "tuple" = some none)
    (c_MOST_ERRANDS : PySem.W.nsIn K mainGlobals "MOST_ERRANDS" = some (some (.int 40 tc_MOST_ERRANDS)))
    (c_MOST_FLOORS : PySem.W.nsIn K mainGlobals "MOST_FLOORS" = some (some (.int 16 tc_MOST_FLOORS))) :
    ∃ fd : FuncData, (∀ (s : Shared) (v : Value), BindsTo s fd ⟨[v], []⟩ [("script", v)]) ∧ ∀ base : Heap, K.In base → base.Ns mainGlobals mg → FnG l.prog w K mg base CX0 6 fa fd ["script"] (spLaw K) := by
  have e := hfa.symm.trans (PySem.W.mg_of X G a16)
  cases e
  let c : Cl := ⟨cRideError, cBadHouse, cBadErrand, cBadNumber⟩
  have T : Txt K mg c := ⟨PySem.W.mg_of X G g_RideError, PySem.W.mg_of X G g_BadHouse, PySem.W.mg_of X G g_BadErrand, PySem.W.mg_of X G g_BadNumber, ⟨bs_RideError, bt_RideError, br_RideError, bf_RideError⟩, ⟨xa_BadHouse, xg_BadHouse, xe_BadHouse, xh_BadHouse, xc_BadHouse, xsp, xtk, xm_BadHouse⟩, xn_BadHouse, exm_pair eb_BadHouse ic_BadHouse ty_BadHouse su_BadHouse_BadHouse, exm_pair eb_RideError ic_RideError ty_RideError su_BadHouse_RideError, kit_pair ne_BadHouse_BadErrand ic_BadErrand ty_BadErrand su_BadHouse_BadErrand, kit_self, kit_pair ne_BadHouse_BadNumber ic_BadNumber ty_BadNumber su_BadHouse_BadNumber, PySem.W.mg_none_of X G z_bool, PySem.W.mg_none_of X G z_dict, PySem.W.mg_none_of X G z_enumerate, PySem.W.mg_none_of X G z_int, PySem.W.mg_none_of X G z_isinstance, PySem.W.mg_none_of X G z_len, PySem.W.mg_none_of X G z_list, PySem.W.mg_none_of X G z_max, PySem.W.mg_none_of X G z_min, PySem.W.mg_none_of X G z_range, PySem.W.mg_none_of X G z_repr, PySem.W.mg_none_of X G z_tuple, ⟨_, PySem.W.mg_of X G c_MOST_ERRANDS⟩, ⟨_, PySem.W.mg_of X G c_MOST_FLOORS⟩⟩
  obtain ⟨fd0, F0⟩ : ∃ fd, FunD K "is_whole" "is_whole" (defArgs sis_whole) (defBody sis_whole) (defScope sis_whole) [] [("least", V.int 0), ("most", V.non)] f0 fd := by
    refine ⟨_, funD_mk l0 e0 k0 (.inr ⟨D0, rfl, fun q hq => ?_⟩)⟩
    simp only [List.mem_cons, List.not_mem_nil, or_false] at hq
    rcases hq with rfl | rfl
    · exact ⟨_, n0_0, ⟨_, rfl⟩⟩
    · exact ⟨_, n0_1, rfl⟩
  have F1 : FunD K "is_errand" "is_errand" (defArgs sis_errand) (defBody sis_errand) (defScope sis_errand) [] [] f1 _ := funD_mk l1 e1 k1 (.inl rfl)
  have F2 : FunD K "need_house" "need_house" (defArgs sneed_house) (defBody sneed_house) (defScope sneed_house) [] [] f2 _ := funD_mk l2 e2 k2 (.inl rfl)
  have F3 : FunD K "is_house" "is_house" (defArgs sis_house) (defBody sis_house) (defScope sis_house) [] [] f3 _ := funD_mk l3 e3 k3 (.inl rfl)
  have F4 : FunD K "_law_begin" "_law_begin" (defArgs s_law_begin) (defBody s_law_begin) (defScope s_law_begin) [] [] f4 _ := funD_mk l4 e4 k4 (.inl rfl)
  have F5 : FunD K "_law_mixed" "_law_mixed" (defArgs s_law_mixed) (defBody s_law_mixed) (defScope s_law_mixed) [] [] f5 _ := funD_mk l5 e5 k5 (.inl rfl)
  have F6 : FunD K "_law_next" "_law_next" (defArgs s_law_next) (defBody s_law_next) (defScope s_law_next) [] [] f6 _ := funD_mk l6 e6 k6 (.inl rfl)
  have F7 : FunD K "_law_errand" "_law_errand" (defArgs s_law_errand) (defBody s_law_errand) (defScope s_law_errand) [] [] f7 _ := funD_mk l7 e7 k7 (.inl rfl)
  have F8 : FunD K "_law_way" "_law_way" (defArgs s_law_way) (defBody s_law_way) (defScope s_law_way) [] [] f8 _ := funD_mk l8 e8 k8 (.inl rfl)
  have F9 : FunD K "_law_house" "_law_house" (defArgs s_law_house) (defBody s_law_house) (defScope s_law_house) [] [] f9 _ := funD_mk l9 e9 k9 (.inl rfl)
  have F10 : FunD K "_law_is_within" "_law_is_within" (defArgs s_law_is_within) (defBody s_law_is_within) (defScope s_law_is_within) [] [] f10 _ := funD_mk l10 e10 k10 (.inl rfl)
  have F11 : FunD K "_law_place" "_law_place" (defArgs s_law_place) (defBody s_law_place) (defScope s_law_place) [] [] f11 _ := funD_mk l11 e11 k11 (.inl rfl)
  have F12 : FunD K "_law_odd" "_law_odd" (defArgs s_law_odd) (defBody s_law_odd) (defScope s_law_odd) [] [] f12 _ := funD_mk l12 e12 k12 (.inl rfl)
  have F13 : FunD K "_law_bent" "_law_bent" (defArgs s_law_bent) (defBody s_law_bent) (defScope s_law_bent) [] [] f13 _ := funD_mk l13 e13 k13 (.inl rfl)
  have F14 : FunD K "_law_said" "_law_said" (defArgs s_law_said) (defBody s_law_said) (defScope s_law_said) [] [] f14 _ := funD_mk l14 e14 k14 (.inl rfl)
  have F15 : FunD K "_law_vast_right" "_law_vast_right" (defArgs s_law_vast_right) (defBody s_law_vast_right) (defScope s_law_vast_right) [] [] f15 _ := funD_mk l15 e15 k15 (.inl rfl)
  have F16 : FunD K "law" "law" (defArgs slaw) (defBody slaw) (defScope slaw) [] [] fa _ := funD_mk l16 e16 k16 (.inl rfl)
  refine ⟨PySem.W.fnOf "law" "law" (defArgs slaw) (defBody slaw) (defScope slaw) .none kV16 dc16 pm16 an16 cd16 ct16, fun s v => .of_eq rfl, fun base _ _ => ?_⟩
  have FX_BadHouse : FunD K "__init__" "BadHouse.__init__" (defArgs sBadHouse_init) (defBody sBadHouse_init) (defScope sBadHouse_init) [V.non] [] fI_BadHouse _ := ⟨⟨_, _, _, _, _, _, _, _, _, _, rfl, xo_BadHouse, xd_BadHouse, .inr ⟨List.cons_ne_nil _ _, T_BadHouse, _, [.none], _, rfl, xT_BadHouse, rfl, .cons rfl .nil⟩, .inl rfl⟩, xp_BadHouse⟩
  have X_BadHouse : ExF l.prog w K mg base "BadHouse" c.BadHouse "place" (some V.non) := by
    refine ⟨⟨⟨_, _, _, _, _, _, _, _, _, _, _, _, _, _, _, xl_BadHouse, by rfl⟩, xs_BadHouse, xe_BadHouse, xt_BadHouse, xk_BadHouse⟩, ⟨xa_BadHouse, xg_BadHouse, xe_BadHouse, xh_BadHouse, xc_BadHouse, xsp, xtk, xm_BadHouse⟩, PySem.W.mg_of X G g_BadHouse, xn_BadHouse, fI_BadHouse, _, ["self", "place"], xi_BadHouse, xf_BadHouse, ok_BadHouse_init FX_BadHouse T, ?_, ?_⟩
    · obtain ⟨dss, r, b⟩ := FunD.binds1 (ps := ["self", "place"]) FX_BadHouse 2 1 (List.cons_ne_nil _ _) rfl (fun T kV dc pm an cd ct us its h1 h2 => match us, its, h1, h2 with | [_, _], [_], _, _ => ⟨_, rfl, rfl⟩)
      cases r
      exact b
    · intro d hd
      cases hd
      obtain ⟨dss, r, b⟩ := FunD.binds1 (ps := ["self", "place"]) FX_BadHouse 1 0 (List.cons_ne_nil _ _) rfl (fun T kV dc pm an cd ct us its h1 h2 => match us, its, h1, h2 with | [_], [_], _, _ => ⟨_, rfl, rfl⟩)
      match dss, r with
      | [u], .cons r1 .nil => exact ⟨u, .cons r1 .nil, b⟩
  have ok0 := ok_is_whole (P := l.prog) (w := w) (base := base) F0 T 
  have C_is_whole_1_least_most : CalG l.prog w K mg base CX0 1 "is_whole" (spWhole K) 1 ["least", "most"] gv_is_whole_1_least_most := by
    refine calG F0 ok0 (PySem.W.mg_of X G a0) ?_
    refine kbn0 F0 1 ["least", "most"] (fun vs zs => vs.take 1 ++ zs.take 1 ++ (zs.drop 1).take 1) (fun a c => (((a.take 1).append (c.take 1)).append ((c.drop 1).take 1))) ?_
    intro kV doc pm an cdv ct us ws l1 l2
    match us, ws, l1, l2 with
    | [_], [_, _], _, _ => rfl
  have C_is_whole_1_most : CalG l.prog w K mg base CX0 1 "is_whole" (spWhole K) 1 ["most"] gv_is_whole_1_most := by
    refine calG F0 ok0 (PySem.W.mg_of X G a0) ?_
    refine kbn1 F0 1 ["most"] [("least", V.int 0)] (fun vs mz zs => vs.take 1 ++ mz.take 1 ++ zs.take 1) (by simp) (by simp) (fun a b c => (((a.take 1).append (b.take 1)).append (c.take 1))) ?_
    intro D doc pm an cdv ct us mv ws l1 l2 l3
    match us, mv, ws, l1, l2, l3 with
    | [_], [_], [_], _, _, _ => exact ⟨_, _, _, _, _, _, rfl, rfl, rfl⟩
  have ok1 := ok_is_errand (P := l.prog) (w := w) (base := base) F1 T C_is_whole_1_least_most C_is_whole_1_most
  have C_is_errand_1_floors : CalG l.prog w K mg base CX0 2 "is_errand" (spErrand K) 1 ["floors"] gv_is_errand_1_floors := by
    refine calG F1 ok1 (PySem.W.mg_of X G a1) ?_
    refine kbn0 F1 1 ["floors"] (fun vs zs => vs.take 1 ++ zs.take 1) (fun a c => ((a.take 1).append (c.take 1))) ?_
    intro kV doc pm an cdv ct us ws l1 l2
    match us, ws, l1, l2 with
    | [_], [_], _, _ => rfl
  have ok2 := ok_need_house (P := l.prog) (w := w) (base := base) F2 T C_is_errand_1_floors C_is_whole_1_least_most C_is_whole_1_most X_BadHouse
  have C_need_house_1 : CalG l.prog w K mg base (L2.CX l.prog w) 3 "need_house" (spNeed K c) 1 [] gv_need_house_1 := by
    refine calG F2 ok2 (PySem.W.mg_of X G a2) ?_
    refine kbn0 F2 1 [] (fun vs zs => vs.take 1) (fun a c => (a.take 1)) ?_
    intro kV doc pm an cdv ct us ws l1 l2
    match us, ws, l1, l2 with
    | [_], [], _, _ => rfl
  have ok3 := ok_is_house (P := l.prog) (w := w) (base := base) F3 T C_need_house_1
  have ok4 := ok__law_begin (P := l.prog) (w := w) (base := base) F4 T 
  have ok5 := ok__law_mixed (P := l.prog) (w := w) (base := base) F5 T 
  have C__law_mixed_2 : CalG l.prog w K mg base CX0 1 "_law_mixed" (spMixed K) 2 [] gv__law_mixed_2 := by
    refine calG F5 ok5 (PySem.W.mg_of X G a5) ?_
    refine kbn0 F5 2 [] (fun vs zs => vs.take 1 ++ (vs.drop 1).take 1) (fun a c => ((a.take 1).append ((a.drop 1).take 1))) ?_
    intro kV doc pm an cdv ct us ws l1 l2
    match us, ws, l1, l2 with
    | [_, _], [], _, _ => rfl
  have ok6 := ok__law_next (P := l.prog) (w := w) (base := base) F6 T C__law_mixed_2
  have C__law_next_2 : CalG l.prog w K mg base CX0 2 "_law_next" (spNext K) 2 [] gv__law_next_2 := by
    refine calG F6 ok6 (PySem.W.mg_of X G a6) ?_
    refine kbn0 F6 2 [] (fun vs zs => vs.take 1 ++ (vs.drop 1).take 1) (fun a c => ((a.take 1).append ((a.drop 1).take 1))) ?_
    intro kV doc pm an cdv ct us ws l1 l2
    match us, ws, l1, l2 with
    | [_, _], [], _, _ => rfl
  have ok7 := ok__law_errand (P := l.prog) (w := w) (base := base) F7 T C__law_next_2
  have ok8 := ok__law_way (P := l.prog) (w := w) (base := base) F8 T C__law_next_2
  have C__law_errand_2 : CalG l.prog w K mg base CX0 3 "_law_errand" (spErr K) 2 [] gv__law_errand_2 := by
    refine calG F7 ok7 (PySem.W.mg_of X G a7) ?_
    refine kbn0 F7 2 [] (fun vs zs => vs.take 1 ++ (vs.drop 1).take 1) (fun a c => ((a.take 1).append ((a.drop 1).take 1))) ?_
    intro kV doc pm an cdv ct us ws l1 l2
    match us, ws, l1, l2 with
    | [_, _], [], _, _ => rfl
  have C__law_way_2 : CalG l.prog w K mg base CX0 3 "_law_way" (spWay K) 2 [] gv__law_way_2 := by
    refine calG F8 ok8 (PySem.W.mg_of X G a8) ?_
    refine kbn0 F8 2 [] (fun vs zs => vs.take 1 ++ (vs.drop 1).take 1) (fun a c => ((a.take 1).append ((a.drop 1).take 1))) ?_
    intro kV doc pm an cdv ct us ws l1 l2
    match us, ws, l1, l2 with
    | [_, _], [], _, _ => rfl
  have ok9 := ok__law_house (P := l.prog) (w := w) (base := base) F9 T C__law_errand_2 C__law_next_2 C__law_way_2
  have ok10 := ok__law_is_within (P := l.prog) (w := w) (base := base) F10 T 
  have C__law_is_within_3 : CalG l.prog w K mg base CX0 1 "_law_is_within" (spWithin K) 3 [] gv__law_is_within_3 := by
    refine calG F10 ok10 (PySem.W.mg_of X G a10) ?_
    refine kbn0 F10 3 [] (fun vs zs => vs.take 1 ++ (vs.drop 1).take 1 ++ (vs.drop 2).take 1) (fun a c => (((a.take 1).append ((a.drop 1).take 1)).append ((a.drop 2).take 1))) ?_
    intro kV doc pm an cdv ct us ws l1 l2
    match us, ws, l1, l2 with
    | [_, _, _], [], _, _ => rfl
  have ok11 := ok__law_place (P := l.prog) (w := w) (base := base) F11 T C__law_is_within_3
  have ok12 := ok__law_odd (P := l.prog) (w := w) (base := base) F12 T C__law_next_2
  have C__law_odd_1 : CalG l.prog w K mg base CX0 3 "_law_odd" (spOdd K) 1 [] gv__law_odd_1 := by
    refine calG F12 ok12 (PySem.W.mg_of X G a12) ?_
    refine kbn0 F12 1 [] (fun vs zs => vs.take 1) (fun a c => (a.take 1)) ?_
    intro kV doc pm an cdv ct us ws l1 l2
    match us, ws, l1, l2 with
    | [_], [], _, _ => rfl
  have ok13 := ok__law_bent (P := l.prog) (w := w) (base := base) F13 T C__law_errand_2 C__law_next_2 C__law_odd_1
  have C_need_house_0_house : CalG l.prog w K mg base (L2.CX l.prog w) 3 "need_house" (spNeed K c) 0 ["house"] gv_need_house_0_house := by
    refine calG F2 ok2 (PySem.W.mg_of X G a2) ?_
    refine kbn0 F2 0 ["house"] (fun vs zs => zs.take 1) (fun a c => (c.take 1)) ?_
    intro kV doc pm an cdv ct us ws l1 l2
    match us, ws, l1, l2 with
    | [], [_], _, _ => rfl
  have ok14 := ok__law_said (P := l.prog) (w := w) (base := base) F14 T C_need_house_0_house
  have C__law_place_1 : CalG l.prog w K mg base CX0 2 "_law_place" (spPlace K) 1 [] gv__law_place_1 := by
    refine calG F11 ok11 (PySem.W.mg_of X G a11) ?_
    refine kbn0 F11 1 [] (fun vs zs => vs.take 1) (fun a c => (a.take 1)) ?_
    intro kV doc pm an cdv ct us ws l1 l2
    match us, ws, l1, l2 with
    | [_], [], _, _ => rfl
  have C__law_said_1 : CalG l.prog w K mg base CX0 4 "_law_said" (spSaid K) 1 [] gv__law_said_1 := by
    refine calG F14 ok14 (PySem.W.mg_of X G a14) ?_
    refine kbn0 F14 1 [] (fun vs zs => vs.take 1) (fun a c => (a.take 1)) ?_
    intro kV doc pm an cdv ct us ws l1 l2
    match us, ws, l1, l2 with
    | [_], [], _, _ => rfl
  have C_is_house_1 : CalG l.prog w K mg base CX0 4 "is_house" (spIsHouse K) 1 [] gv_is_house_1 := by
    refine calG F3 ok3 (PySem.W.mg_of X G a3) ?_
    refine kbn0 F3 1 [] (fun vs zs => vs.take 1) (fun a c => (a.take 1)) ?_
    intro kV doc pm an cdv ct us ws l1 l2
    match us, ws, l1, l2 with
    | [_], [], _, _ => rfl
  have ok15 := ok__law_vast_right (P := l.prog) (w := w) (base := base) F15 T C__law_place_1 C__law_said_1 C_is_house_1
  have C__law_begin_1 : CalG l.prog w K mg base CX0 1 "_law_begin" (spBegin K) 1 [] gv__law_begin_1 := by
    refine calG F4 ok4 (PySem.W.mg_of X G a4) ?_
    refine kbn0 F4 1 [] (fun vs zs => vs.take 1) (fun a c => (a.take 1)) ?_
    intro kV doc pm an cdv ct us ws l1 l2
    match us, ws, l1, l2 with
    | [_], [], _, _ => rfl
  have C__law_bent_2 : CalG l.prog w K mg base CX0 4 "_law_bent" (spBent K) 2 [] gv__law_bent_2 := by
    refine calG F13 ok13 (PySem.W.mg_of X G a13) ?_
    refine kbn0 F13 2 [] (fun vs zs => vs.take 1 ++ (vs.drop 1).take 1) (fun a c => ((a.take 1).append ((a.drop 1).take 1))) ?_
    intro kV doc pm an cdv ct us ws l1 l2
    match us, ws, l1, l2 with
    | [_, _], [], _, _ => rfl
  have C__law_house_3 : CalG l.prog w K mg base CX0 4 "_law_house" (spHouse K) 3 [] gv__law_house_3 := by
    refine calG F9 ok9 (PySem.W.mg_of X G a9) ?_
    refine kbn0 F9 3 [] (fun vs zs => vs.take 1 ++ (vs.drop 1).take 1 ++ (vs.drop 2).take 1) (fun a c => (((a.take 1).append ((a.drop 1).take 1)).append ((a.drop 2).take 1))) ?_
    intro kV doc pm an cdv ct us ws l1 l2
    match us, ws, l1, l2 with
    | [_, _, _], [], _, _ => rfl
  have C__law_vast_right_1 : CalG l.prog w K mg base CX0 5 "_law_vast_right" (spVast K) 1 [] gv__law_vast_right_1 := by
    refine calG F15 ok15 (PySem.W.mg_of X G a15) ?_
    refine kbn0 F15 1 [] (fun vs zs => vs.take 1) (fun a c => (a.take 1)) ?_
    intro kV doc pm an cdv ct us ws l1 l2
    match us, ws, l1, l2 with
    | [_], [], _, _ => rfl
  have C_is_house_0_thing : CalG l.prog w K mg base CX0 4 "is_house" (spIsHouse K) 0 ["thing"] gv_is_house_0_thing := by
    refine calG F3 ok3 (PySem.W.mg_of X G a3) ?_
    refine kbn0 F3 0 ["thing"] (fun vs zs => zs.take 1) (fun a c => (c.take 1)) ?_
    intro kV doc pm an cdv ct us ws l1 l2
    match us, ws, l1, l2 with
    | [], [_], _, _ => rfl
  have ok16 := ok_law (P := l.prog) (w := w) (base := base) F16 T C__law_begin_1 C__law_bent_2 C__law_house_3 C__law_next_2 C__law_odd_1 C__law_place_1 C__law_said_1 C__law_vast_right_1 C_is_house_0_thing C_is_house_1
  exact ok16
end Os
open PySem PySem.W PyProof.Rows
set_option maxRecDepth 100000 in
set_option maxHeartbeats 0 in
theorem PySem.Challenge.cw_oneseat_k03_houses_by_form_holds : PySem.Challenge.rw_oneseat_k03_houses_by_form.Holds := by
  w_on; o_law; k_head; (case hw => w_witness2)
  k_fill
  refine Og.walk_G (l := PySem.Challenge.rw_oneseat_k03_houses_by_form) (n := 63) (k := 6) (x := "script") (sp := Os.spLaw) (by rfl) rfl (by decide) rfl ⟨rfl, by decide, by decide⟩ (fun w h Y => PySem.W.kIn_of Y) ?F Os.law_sp
  case F =>
    intro w mg fa h KX G hmg
    refine' Os.all_mk KX G hmg ?a0 ?l0 ?e0 ?k0 ?n0_0 ?n0_1 ?a1 ?l1 ?e1 ?k1 ?a2 ?l2 ?e2 ?k2 ?a3 ?l3 ?e3 ?k3 ?a4 ?l4 ?e4 ?k4 ?a5 ?l5 ?e5 ?k5 ?a6 ?l6 ?e6 ?k6 ?a7 ?l7 ?e7 ?k7 ?a8 ?l8 ?e8 ?k8 ?a9 ?l9 ?e9 ?k9 ?a10 ?l10 ?e10 ?k10 ?a11 ?l11 ?e11 ?k11 ?a12 ?l12 ?e12 ?k12 ?a13 ?l13 ?e13 ?k13 ?a14 ?l14 ?e14 ?k14 ?a15 ?l15 ?e15 ?k15 ?a16 ?l16 ?e16 ?k16 ?g_RideError ?g_BadHouse ?g_BadErrand ?g_BadNumber ?bs_RideError ?bt_RideError ?br_RideError ?bf_RideError ?xl_BadHouse ?xs_BadHouse ?xe_BadHouse ?xt_BadHouse ?xk_BadHouse ?xa_BadHouse ?xg_BadHouse ?xh_BadHouse ?xc_BadHouse ?xm_BadHouse ?xn_BadHouse ?xi_BadHouse ?xf_BadHouse ?xo_BadHouse ?xd_BadHouse ?xp_BadHouse ?xT_BadHouse ?su_BadHouse_BadErrand ?su_BadHouse_BadHouse ?su_BadHouse_BadNumber ?su_BadHouse_RideError ?ne_BadHouse_BadErrand ?ne_BadHouse_BadNumber ?ic_BadErrand ?ty_BadErrand ?eb_BadErrand ?ic_BadHouse ?ty_BadHouse ?eb_BadHouse ?ic_BadNumber ?ty_BadNumber ?eb_BadNumber ?ic_RideError ?ty_RideError ?eb_RideError ?xsp ?xtk ?z_bool ?z_dict ?z_enumerate ?z_int ?z_isinstance ?z_len ?z_list ?z_max ?z_min ?z_range ?z_repr ?z_tuple ?c_MOST_ERRANDS ?c_MOST_FLOORS
    (case a0 => k_is)
    (case l0 => k_is)
    (case e0 => k_is)
    (case k0 => k_is)
    (case n0_0 => k_is)
    (case n0_1 => k_is)
    (case a1 => k_is)
    (case l1 => k_is)
    (case e1 => k_is)
    (case k1 => k_is)
    (case a2 => k_is)
    (case l2 => k_is)
    (case e2 => k_is)
    (case k2 => k_is)
    (case a3 => k_is)
    (case l3 => k_is)
    (case e3 => k_is)
    (case k3 => k_is)
    (case a4 => k_is)
    (case l4 => k_is)
    (case e4 => k_is)
    (case k4 => k_is)
    (case a5 => k_is)
    (case l5 => k_is)
    (case e5 => k_is)
    (case k5 => k_is)
    (case a6 => k_is)
    (case l6 => k_is)
    (case e6 => k_is)
    (case k6 => k_is)
    (case a7 => k_is)
    (case l7 => k_is)
    (case e7 => k_is)
    (case k7 => k_is)
    (case a8 => k_is)
    (case l8 => k_is)
    (case e8 => k_is)
    (case k8 => k_is)
    (case a9 => k_is)
    (case l9 => k_is)
    (case e9 => k_is)
    (case k9 => k_is)
    (case a10 => k_is)
    (case l10 => k_is)
    (case e10 => k_is)
    (case k10 => k_is)
    (case a11 => k_is)
    (case l11 => k_is)
    (case e11 => k_is)
    (case k11 => k_is)
    (case a12 => k_is)
    (case l12 => k_is)
    (case e12 => k_is)
    (case k12 => k_is)
    (case a13 => k_is)
    (case l13 => k_is)
    (case e13 => k_is)
    (case k13 => k_is)
    (case a14 => k_is)
    (case l14 => k_is)
    (case e14 => k_is)
    (case k14 => k_is)
    (case a15 => k_is)
    (case l15 => k_is)
    (case e15 => k_is)
    (case k15 => k_is)
    (case a16 => k_is)
    (case l16 => k_is)
    (case e16 => k_is)
    (case k16 => k_is)
    (case g_RideError => k_is)
    (case g_BadHouse => k_is)
    (case g_BadErrand => k_is)
    (case g_BadNumber => k_is)
    (case bs_RideError => k_is)
    (case bt_RideError => k_is)
    (case br_RideError => k_is)
    (case bf_RideError => k_is)
    (case xl_BadHouse => k_is)
    (case xs_BadHouse => k_is)
    (case xe_BadHouse => k_is)
    (case xt_BadHouse => k_is)
    (case xk_BadHouse => k_is)
    (case xa_BadHouse => k_is)
    (case xg_BadHouse => k_is)
    (case xh_BadHouse => k_is)
    (case xc_BadHouse => k_is)
    (case xm_BadHouse => k_is)
    (case xn_BadHouse => k_is)
    (case xi_BadHouse => k_is)
    (case xf_BadHouse => k_is)
    (case xo_BadHouse => k_is)
    (case xd_BadHouse => k_is)
    (case xp_BadHouse => k_is)
    (case xT_BadHouse => k_is)
    (case su_BadHouse_BadErrand => first | rfl | k_is)
    (case su_BadHouse_BadHouse => first | rfl | k_is)
    (case su_BadHouse_BadNumber => first | rfl | k_is)
    (case su_BadHouse_RideError => first | rfl | k_is)
    (case ne_BadHouse_BadErrand => decide)
    (case ne_BadHouse_BadNumber => decide)
    (case ic_BadErrand => k_is)
    (case ty_BadErrand => k_is)
    (case eb_BadErrand => k_is)
    (case ic_BadHouse => k_is)
    (case ty_BadHouse => k_is)
    (case eb_BadHouse => k_is)
    (case ic_BadNumber => k_is)
    (case ty_BadNumber => k_is)
    (case eb_BadNumber => k_is)
    (case ic_RideError => k_is)
    (case ty_RideError => k_is)
    (case eb_RideError => k_is)
    (case xsp => k_is)
    (case xtk => k_is)
    (case z_bool => k_is)
    (case z_dict => k_is)
    (case z_enumerate => k_is)
    (case z_int => k_is)
    (case z_isinstance => k_is)
    (case z_len => k_is)
    (case z_list => k_is)
    (case z_max => k_is)
    (case z_min => k_is)
    (case z_range => k_is)
    (case z_repr => k_is)
    (case z_tuple => k_is)
    (case c_MOST_ERRANDS => k_is)
    (case c_MOST_FLOORS => k_is)


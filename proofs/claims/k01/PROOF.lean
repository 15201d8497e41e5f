import PyProof.Rows.All
import Wide.All
import OpenK.AllK
import Wide.FinOn
import HandS.ForMost
import HandS.IsInst
import HandS.Defaults
import HandS.Wide
import HandS.TupAny
import HandS.TupMul
import HandS.Style
import HandS.Codes
import KE.KDictDisplayH
import PySem.Challenge.RW_oneseat_k01_numbers_and_errands
set_option Elab.async false
set_option maxRecDepth 100000
set_option maxHeartbeats 4000000
set_option linter.all false
/-! Oneseat's own layer over HandS: defs whose callers stand under no guard (so that repr tells the whole text), calls of any shape, list + list of what is only read, small rules. -/
namespace Og
open PySem PySem.Spec PyProof.Rows L2

/-! ### defs under no guard -/
structure FnG (P : Program) (w : World) (K : PySem.W.Frag) (mg : Str → Option Value)
    (base : Heap) (CX : CXT) (k : Nat) (f : Addr) (fd : FuncData) (ps : List Str) (sp : Sp) : Prop where
  len : ∀ vs H Q E, sp vs H Q E → vs.length = ps.length
  run : ∀ (A : Around) (outer : List Env) (s : Shared) (H : Hp) (args : Args) (us : List Value) (vs : List V) (Q : VK) (E : XK),
    Room k A → A.guards = some [] → Env0 P w K mg base A outer s H → BindsTo s fd args (ps.zip us) → Vals vs us → sp vs H Q E →
    codeAny (model P w) A (.call (.ref f) args) (CR CX outer P w H s Q E) s
section
variable {P : Program} {w : World} {K : PySem.W.Frag} {mg : Str → Option Value} {base : Heap} {CX : CXT}
theorem FnG.ofOk {k : Nat} {f : Addr} {fd : FuncData} {ps : List Str} {sp : Sp} (F : FnOk P w K mg base CX k f fd ps sp) :
    FnG P w K mg base CX k f fd ps sp :=
  ⟨F.len, fun A o s H a us vs Q E r _ e b v h => F.run A o s H a us vs Q E r e b v h⟩
theorem FnG.mono {j k : Nat} {f : Addr} {fd : FuncData} {ps : List Str} {sp : Sp} (F : FnG P w K mg base CX j f fd ps sp) (h : j ≤ k) :
    FnG P w K mg base CX k f fd ps sp :=
  ⟨F.len, fun A o s H a us vs Q E r => F.run A o s H a us vs Q E (r.mono h)⟩
/-- a def by its body -/
theorem fnG {k : Nat} {f : Addr} {name qual : Str} {params : Arguments} {body : List Stmt} {scope : Scope}
    {dV kV doc pm cdv ct oc : Value} {an od : Option Addr} {osl : Array (Option Value)} {N ps : List Str} {sp : Sp}
    (lk : K.lookup f = some ⟨oc, od, .func (PySem.W.fnOf name qual params body scope dV kV doc pm an cdv ct), osl⟩)
    (hcd : PySem.W.codeIn K cdv qual = true) (S : FnScope N ps scope) (len : ∀ vs H Q E, sp vs H Q E → vs.length = ps.length)
    (hb : ∀ (A : Around) (outer : List Env) (s : Shared) (H : Hp) (vs : List V) (Q : VK) (E : XK),
      Room k (A.deeper (envOfC qual scope s.heap.objs.size f cdv)) → A.guards = some [] → sp vs H Q E →
      ∃ t, PSs (cxOf CX P w K mg base N qual scope f cdv A outer s H E) body t ∧
        t { nx := fun _ H' => Q .non H', rt := Q } (start N vs) H) :
    FnG P w K mg base CX (k + 1) f (PySem.W.fnOf name qual params body scope dV kV doc pm an cdv ct) ps sp := by
  refine ⟨len, fun A outer s H args us vs Q E hr hgd e0 hbd r hsp => ?_⟩
  have hl := len _ _ _ _ hsp
  have KX : K.In s.heap := e0.mod.kin.keeps fun b o z => (e0.bs b o z).1
  have lim : s.heap.NoLimit := e0.mod.nolimit.keeps fun b o z => (e0.bs b o z).1
  have kd : ∀ y ∈ ps.zip us, scope.names.lookup y.1 = some .local ∨
      (scope.names.lookup y.1 = some .cell ∧ ((cellsFrom (s.heap.objs.size + 1) scope.names []).lookup y.1).isSome = true) := by
    rintro ⟨n, v⟩ hy
    rcases S.par n (List.of_mem_zip hy).1 with q | q
    · exact .inl q
    · exact .inr ⟨q, PySem.W.cellsFrom_some _ _ _ (.inl q)⟩
  refine codeAny_call_function hr.depth (KX _ _ lk) rfl S.co S.gen rfl (PySem.W.codeRec_of KX hcd) (hbd _ _ _ _ ?_)
  refine wpAny_newFunctionEnv_cells S.kind kd fun env he s1 x => ?_
  subst he
  refine ⟨lim.keeps x.toInCall.keep, codeAny_func ?_⟩
  obtain ⟨t, ht, hq⟩ := hb A outer s H vs Q E (hr.deeper _) hgd hsp
  have I := inv_start (CX := CX) (E := E) S hr.hd e0 hl r x
  refine wpAny_mono (ht.run [] s1 (start N vs) H _ I hq) (fun fl s' hs => ?_) fun e s' hs => hs
  cases fl with
  | ret u =>
    obtain ⟨v, σ', H', J, rv, q⟩ := hs
    exact ⟨v, H', J.os, J.bare, J.base, J.hok, rv, q⟩
  | next =>
    obtain ⟨σ', H', J, q⟩ := hs
    exact ⟨V.non, H', J.os, J.bare, J.base, J.hok, rfl, q⟩
  | brk =>
    obtain ⟨_, _, _, q⟩ := hs
    exact False.elim q
  | cont =>
    obtain ⟨_, _, _, q⟩ := hs
    exact False.elim q
/-- of a def without positional defaults (Fun), nothing leaves it -/
theorem Fun.okG {x qual : Str} {st : Stmt} {f : Addr} {fd : FuncData} {N ps : List Str} {k : Nat} {sp : Sp} (F : Fun K x qual st f fd)
    (S : FnScope N ps (defScope st)) (len : ∀ vs H Q E, sp vs H Q E → vs.length = ps.length)
    (hb : ∀ (cdv : Value) (A : Around) (outer : List Env) (s : Shared) (H : Hp) (vs : List V) (Q : VK) (E : XK),
      Room k (A.deeper (envOfC qual (defScope st) s.heap.objs.size f cdv)) →
      (A.deeper (envOfC qual (defScope st) s.heap.objs.size f cdv)).guards = some [] → sp vs H Q E →
      ∃ t, PSs (cxOf CX0 P w K mg base N qual (defScope st) f cdv A outer s H E).nox (defBody st) t ∧
        t { nx := fun _ H' => Q .non H', rt := Q } (start N vs) H) : FnG P w K mg base CX0 (k + 1) f fd ps sp := by
  obtain ⟨oc, od, kV, doc, pm, an, cdv, ct, osl, rfl, lk, hcd⟩ := F.ex
  refine fnG lk hcd S len fun A outer s H vs Q E hr hg hsp => ?_
  obtain ⟨t, h, q⟩ := hb cdv A outer s H vs Q E hr hg hsp
  exact ⟨t, h.nox, q⟩
end

/-! ### a call of any shape: n positional values, keywords ks; gV puts them (and the defaults) in the parameters' order -/
structure CalG (P : Program) (w : World) (K : PySem.W.Frag) (mg : Str → Option Value) (base : Heap) (CX : CXT)
    (k : Nat) (x : Str) (sp : Sp) (n : Nat) (ks : List Str) (gV : List V → List V → List V) : Prop where
  ex : ∃ (f : Addr) (fd : FuncData) (ps : List Str) (g : List Value → List Value → List Value),
    FnG P w K mg base CX k f fd ps sp ∧ mg x = some (.ref f) ∧ PySem.W.keepIn K (.ref f) = true ∧ KBn K fd ps n ks g gV
def tG (n m : Nat) (sp : Sp) (gV : List V → List V → List V) (E : XK) (t tk : TA) : TE :=
  fun σ H Q => t σ H fun vs H1 => tk σ H1 fun zs H2 => vs.length = n ∧ zs.length = m ∧ sp (gV vs zs) H2 Q E
section
variable {X : Cx} {CX : CXT} {j k n : Nat} {ks : List Str} {sp : Sp} {E : XK} {x : Str} {p pos : Pos} {e : Expr} {es : List Expr} {kws : List Keyword}
  {t tk : TA} {gV : List V → List V → List V}
theorem run_g {pins : List (Addr × Obj)} {σ : L2.St} {H : Hp} {s : Shared} {Q : VK} {us ws : List Value} {vs zs : List V} {f : Addr} {fd : FuncData}
    {ps : List Str} {g : List Value → List Value → List Value} (F : FnG X.prog X.w X.K X.mg X.base CX k f fd ps sp) (hr : Room k X.A)
    (hg : X.A.guards = some []) (hb : KBn X.K fd ps n ks g gV) (hx : Passes CX X E) (I : Inv X pins σ H s) (r : Vals vs us) (rz : Vals zs ws)
    (l1 : vs.length = n) (l2 : zs.length = ks.length) (h : sp (gV vs zs) H Q E) :
    wpAny (model X.prog X.w) X.A (call (.ref f) us (ks.zip ws)) (EP X pins σ Q) X.xe s := by
  refine wpAny_call (codeAny_mono (F.run X.A X.stack s H ⟨us, ks.zip ws⟩ (g us ws) (gV vs zs) Q E hr hg I.env0
    (hb.to s us ws I.kIn (r.length.symm.trans l1) (rz.length.symm.trans l2)) (hb.rel r rz) h) fun r s' hq => ?_)
  cases r with
  | error e => exact hx pins σ H s e s' I hq
  | ok fl =>
    cases fl with
    | ret u => exact I.after hq
    | next => exact False.elim hq
    | brk => exact False.elim hq
    | cont => exact False.elim hq
theorem pe_g2x (c : CalG X.prog X.w X.K X.mg X.base CX k x sp n ks gV) (hr : Room j X.A) (hkj : k ≤ j) (hgd : X.A.guards = some []) (hx : Passes CX X E)
    (hg : Gl X x) (ha : PA X (e :: es) t) (hkw : PK X kws tk)
    (hall : (backToKw pos (keywordEach kws X.env)).all (·.1.isSome) = true := by rfl)
    (hks : (backToKw pos (keywordEach kws X.env)).filterMap (·.1) = ks := by rfl) (hdb : (x == ("__debug__" : Str)) = false := by decide)
    (he : starEach (e :: es) X.env = (false, eval e X.env) :: starEach es X.env := by rfl)
    (hpl : ((backTo pos (starEach (e :: es) X.env)).any (·.1) || (backToKw pos (keywordEach kws X.env)).any (·.1.isNone)) = false := by rfl) :
    PE X (.Call (.Name x p) (e :: es) kws pos) (tG n ks.length sp gV E t tk) := by
  obtain ⟨f, fd, ps, g, F, hm, hk, hb⟩ := c.ex
  refine ⟨fun pins s σ H Q I h => ?_⟩
  refine wpAny_Call_Name_kw (ld_glob I hg hm ?_ hdb)
  refine PySem.W.callWith_KW (h₀ := X.base) I.ok.mod.kin hk hall (thn (ha.run pos pins s σ H _ I h) fun us s1 ⟨vs, H1, I1, r, q⟩ => ?_) hpl he
  refine thn (hkw.run pos pins s1 σ H1 _ I1 q) fun ws s2 ⟨zs, H2, I2, rz, l1, l2, q2⟩ => ⟨I2.kIn, ?_⟩
  rw [hks]
  exact run_g F (hr.mono hkj) hgd hb hx I2 r rz l1 l2 q2
theorem pe_g3x (c : CalG X.prog X.w X.K X.mg X.base CX k x sp n ks gV) (hr : Room j X.A) (hkj : k ≤ j) (hgd : X.A.guards = some []) (hx : Passes CX X E)
    (hg : Gl X x) (hkw : PK X kws tk)
    (hall : (backToKw pos (keywordEach kws X.env)).all (·.1.isSome) = true := by rfl)
    (hks : (backToKw pos (keywordEach kws X.env)).filterMap (·.1) = ks := by rfl) (hdb : (x == ("__debug__" : Str)) = false := by decide)
    (hpl : ((backTo pos (starEach [] X.env)).any (·.1) || (backToKw pos (keywordEach kws X.env)).any (·.1.isNone)) = false := by rfl) :
    PE X (.Call (.Name x p) [] kws pos) (tG n ks.length sp gV E tNil tk) := by
  obtain ⟨f, fd, ps, g, F, hm, hk, hb⟩ := c.ex
  refine ⟨fun pins s σ H Q I h => ?_⟩
  refine wpAny_Call_Name_kw (ld_glob I hg hm ?_ hdb)
  refine PySem.W.callWith_KW0 (h₀ := X.base) I.ok.mod.kin hk hall ?_ hpl
  refine thn (hkw.run pos pins s σ H _ I h) fun ws s2 ⟨zs, H2, I2, rz, l1, l2, q2⟩ => ⟨I2.kIn, ?_⟩
  rw [hks]
  exact run_g (us := []) (vs := []) F (hr.mono hkj) hgd hb hx I2 .nil rz l1 l2 q2
theorem pe_g1x (c : CalG X.prog X.w X.K X.mg X.base CX k x sp n [] gV) (hr : Room j X.A) (hkj : k ≤ j) (hgd : X.A.guards = some []) (hx : Passes CX X E)
    (hg : Gl X x) (ha : PA X (e :: es) t) (hdb : (x == ("__debug__" : Str)) = false := by decide)
    (he : starEach (e :: es) X.env = (false, eval e X.env) :: starEach es X.env := by rfl) (hpl : (backTo pos (starEach es X.env)).any (·.1) = false := by rfl) :
    PE X (.Call (.Name x p) (e :: es) [] pos) (tG n 0 sp gV E t tNil) := by
  obtain ⟨f, fd, ps, g, F, hm, hk, hb⟩ := c.ex
  refine ⟨fun pins s σ H Q I h => ?_⟩
  refine wpAny_Call_Name_kw (ld_glob I hg hm ?_ hdb)
  refine PySem.W.callWith_K (h₀ := X.base) I.ok.mod.kin hk (thn (ha.run pos pins s σ H _ I h) fun us s1 ⟨vs, H1, I1, r, l1, l2, q⟩ => ⟨I1.kIn, ?_⟩) he hpl
  exact run_g (ws := []) F (hr.mono hkj) hgd hb hx I1 r .nil l1 l2 q
theorem pe_g0x (c : CalG X.prog X.w X.K X.mg X.base CX k x sp n [] gV) (hr : Room j X.A) (hkj : k ≤ j) (hgd : X.A.guards = some []) (hx : Passes CX X E)
    (hg : Gl X x) (hdb : (x == ("__debug__" : Str)) = false := by decide) :
    PE X (.Call (.Name x p) [] [] pos) (tG n 0 sp gV E tNil tNil) := by
  obtain ⟨f, fd, ps, g, F, hm, hk, hb⟩ := c.ex
  refine ⟨fun pins s σ H Q I h => ?_⟩
  refine wpAny_Call_Name_kw (ld_glob I hg hm ?_ hdb)
  obtain ⟨l1, l2, q⟩ := h
  exact PySem.W.callWith_K0 I.kIn hk (run_g (us := []) (ws := []) F (hr.mono hkj) hgd hb hx I .nil .nil l1 l2 q)
end
section
variable {X : Cx} {j k n : Nat} {ks : List Str} {sp : Sp} {x : Str} {p pos : Pos} {e : Expr} {es : List Expr} {kws : List Keyword} {t tk : TA} {gV : List V → List V → List V}
theorem pe_g1 (c : CalG X.prog X.w X.K X.mg X.base CX0 k x sp n [] gV) (hr : Room j X.A) (hkj : k ≤ j) (hgd : X.A.guards = some [])
    (hg : Gl X x) (ha : PA X (e :: es) t) (hdb : (x == ("__debug__" : Str)) = false := by decide)
    (he : starEach (e :: es) X.env = (false, eval e X.env) :: starEach es X.env := by rfl) (hpl : (backTo pos (starEach es X.env)).any (·.1) = false := by rfl) :
    PE X (.Call (.Name x p) (e :: es) [] pos) (tG n 0 sp gV E0 t tNil) := pe_g1x c hr hkj hgd pass0 hg ha hdb he hpl
theorem pe_g0 (c : CalG X.prog X.w X.K X.mg X.base CX0 k x sp n [] gV) (hr : Room j X.A) (hkj : k ≤ j) (hgd : X.A.guards = some [])
    (hg : Gl X x) (hdb : (x == ("__debug__" : Str)) = false := by decide) :
    PE X (.Call (.Name x p) [] [] pos) (tG n 0 sp gV E0 tNil tNil) := pe_g0x c hr hkj hgd pass0 hg hdb
theorem pe_g2 (c : CalG X.prog X.w X.K X.mg X.base CX0 k x sp n ks gV) (hr : Room j X.A) (hkj : k ≤ j) (hgd : X.A.guards = some [])
    (hg : Gl X x) (ha : PA X (e :: es) t) (hkw : PK X kws tk)
    (hall : (backToKw pos (keywordEach kws X.env)).all (·.1.isSome) = true := by rfl)
    (hks : (backToKw pos (keywordEach kws X.env)).filterMap (·.1) = ks := by rfl) (hdb : (x == ("__debug__" : Str)) = false := by decide)
    (he : starEach (e :: es) X.env = (false, eval e X.env) :: starEach es X.env := by rfl)
    (hpl : ((backTo pos (starEach (e :: es) X.env)).any (·.1) || (backToKw pos (keywordEach kws X.env)).any (·.1.isNone)) = false := by rfl) :
    PE X (.Call (.Name x p) (e :: es) kws pos) (tG n ks.length sp gV E0 t tk) := pe_g2x c hr hkj hgd pass0 hg ha hkw hall hks hdb he hpl
theorem pe_g3 (c : CalG X.prog X.w X.K X.mg X.base CX0 k x sp n ks gV) (hr : Room j X.A) (hkj : k ≤ j) (hgd : X.A.guards = some [])
    (hg : Gl X x) (hkw : PK X kws tk)
    (hall : (backToKw pos (keywordEach kws X.env)).all (·.1.isSome) = true := by rfl)
    (hks : (backToKw pos (keywordEach kws X.env)).filterMap (·.1) = ks := by rfl) (hdb : (x == ("__debug__" : Str)) = false := by decide)
    (hpl : ((backTo pos (starEach [] X.env)).any (·.1) || (backToKw pos (keywordEach kws X.env)).any (·.1.isNone)) = false := by rfl) :
    PE X (.Call (.Name x p) [] kws pos) (tG n ks.length sp gV E0 tNil tk) := pe_g3x c hr hkj hgd pass0 hg hkw hall hks hdb hpl
end

/-! ### how arguments bind -/
section
variable {K : PySem.W.Frag} {x qual : Str} {params : Arguments} {body : List Stmt} {scope : Scope} {kws : List (Str × V)} {f : Addr} {fd : FuncData} {ps : List Str} {st : Stmt}
/-- no positional defaults; ms: the keyword-only parameters with a default that lack -/
theorem kbn (F : FunD K x qual params body scope [] kws f fd) (n : Nat) (ks : List Str) (ms : List (Str × V))
    (g : {α : Type} → List α → List α → List α → List α) (hk : kws ≠ []) (hms : ∀ q ∈ ms, q ∈ kws)
    (hrel : ∀ {vs mz zs : List V} {us mv ws : List Value}, Vals vs us → Vals mz mv → Vals zs ws → Vals (g vs mz zs) (g us mv ws))
    (h : ∀ (D : Addr) (doc pm : Value) (an : Option Addr) (cdv ct : Value) (us mv ws : List Value), us.length = n → mv.length = ms.length → ws.length = ks.length →
      KwChain D ((ms.map (·.1)).zip mv) (bindArgs (PySem.W.fnOf x qual params body scope .none (.ref D) doc pm an cdv ct) ⟨us, ks.zip ws⟩) (ps.zip (g us mv ws))) :
    ∃ mv : List Value, KBn K fd ps n ks (fun us ws => g us mv ws) (fun vs zs => g vs (ms.map (·.2)) zs) := by
  obtain ⟨oc, od, dV, kV, doc, pm, an, cdv, ct, osl, rfl, lk, hcd, hD, hK⟩ := F.ex
  rcases hD with ⟨_, rfl⟩ | ⟨e, _⟩
  · rcases hK with e | ⟨D, rfl, hq⟩
    · exact absurd e hk
    · obtain ⟨mv, hl, rk, hks⟩ := kwd_vals (ms := ms) fun q hm => hq q (hms q hm)
      refine ⟨mv, ⟨fun s us ws X l1 l2 => ?_, fun r1 r2 => hrel r1 rk r2⟩⟩
      exact BindsTo.of_looks fun M => KwChain.looks X hks (h D doc pm an cdv ct us mv ws l1 hl l2)
  · exact absurd rfl e
/-- no defaults at all -/
theorem kbnF (F : Fun K x qual st f fd) (n : Nat) (ks : List Str) (g : {α : Type} → List α → List α → List α)
    (hrel : ∀ {vs zs : List V} {us ws : List Value}, Vals vs us → Vals zs ws → Vals (g vs zs) (g us ws))
    (h : ∀ (kV doc pm : Value) (an : Option Addr) (cdv ct : Value) (us ws : List Value), us.length = n → ws.length = ks.length →
      bindArgs (PySem.W.fnOf x qual (defArgs st) (defBody st) (defScope st) .none kV doc pm an cdv ct) ⟨us, ks.zip ws⟩ = pure (ps.zip (g us ws))) :
    KBn K fd ps n ks (fun us ws => g us ws) (fun vs zs => g vs zs) := by
  obtain ⟨oc, od, kV, doc, pm, an, cdv, ct, osl, rfl, lk, hcd⟩ := F.ex
  refine ⟨fun s us ws X l1 l2 => ?_, fun r1 r2 => hrel r1 r2⟩
  exact .of_eq (h kV doc pm an cdv ct us ws l1 l2)
end

/-! ### small rules -/
section
variable {X : Cx}
def rCatX (K : PySem.W.Frag) : R2 := fun x y H Q => ∃ l b xs zs, x = .ref l ∧ y = .ref b ∧ SqL K H l xs ∧ SqL K H b zs ∧
  xs.length + zs.length ≤ sizeLine ∧ ∀ p, H p = none → Q (.ref p) (upd H p (.lst (xs ++ zs)))
theorem op_catX : OpR X (binaryOp .Add) (rCatX X.K) := by
  intro pins s σ H x y v u Q I rx ry h
  obtain ⟨l, b, xs, zs, rfl, rfl, hl, hb, hz, q⟩ := h
  cases rx
  cases ry
  obtain ⟨its, r, ⟨⟨c1, d1, a1, s1⟩, n1, e1, g1, g2, g3⟩, z1⟩ := I.list hl
  obtain ⟨its2, r2, ⟨⟨c2, d2, a2, s2⟩, n2, e2, f1, f2, f3⟩, z2⟩ := I.list hb
  simp only at g1 g2 g3 f1 f2 f3
  subst g1 g2 g3 f1 f2 f3
  have ea : its.toArray ++ its2.toArray = (its ++ its2).toArray := by simp
  have hs : its.toArray.size + its2.toArray.size ≤ sizeLine := by
    rw [List.size_toArray, List.size_toArray, ← r.length, ← r2.length]
    exact hz
  refine concat_meets ⟨_, e1, rfl⟩ ⟨_, e2, rfl⟩ noFill_list_add seq_list_add PySem.F.slot_list_add PySem.F.entry_list_add (PySem.F.args_list_add_2 _ _)
    (list_addW l b its.toArray its2.toArray n1 n2 none none s1 s2 hs) ⟨e1, e2, ?_⟩
  rw [ea]
  exact ⟨.ref _, _, I.lnew (t' := s.toks) (r.append r2) (by rw [List.length_append]; omega), rfl, q _ I.fresh⟩
theorem call_repr_bl : CallR X (.builtin "repr") (fun xs H Q => ∃ b, xs = [.bl b] ∧ Q (.str (if b then "True" else "False")) H) := by
  intro pins s σ H xs us Q I r h
  obtain ⟨b, rfl, q⟩ := h
  obtain ⟨u, rfl, r1⟩ := vals1 r
  cases r1
  exact PySem.P.repr_of_bool ⟨.str _, H, I.tok _, ⟨_, rfl⟩, q⟩
end

/-! ### a def with keyword-only defaults, by its body; its calls -/
section
variable {P : Program} {w : World} {K : PySem.W.Frag} {mg : Str → Option Value} {base : Heap} {x qual : Str} {params : Arguments} {body : List Stmt} {scope : Scope}
  {dvs : List V} {kws : List (Str × V)} {f : Addr} {fd : FuncData} {ps : List Str}
theorem okG {N : List Str} {k : Nat} {sp : Sp} (F : FunD K x qual params body scope dvs kws f fd)
    (S : FnScope N ps scope) (len : ∀ vs H Q E, sp vs H Q E → vs.length = ps.length)
    (hb : ∀ (cdv : Value) (A : Around) (outer : List Env) (s : Shared) (H : Hp) (vs : List V) (Q : VK) (E : XK),
      Room k (A.deeper (envOfC qual scope s.heap.objs.size f cdv)) →
      (A.deeper (envOfC qual scope s.heap.objs.size f cdv)).guards = some [] → sp vs H Q E →
      ∃ t, PSs (cxOf CX0 P w K mg base N qual scope f cdv A outer s H E).nox body t ∧
        t { nx := fun _ H' => Q .non H', rt := Q } (start N vs) H) : FnG P w K mg base CX0 (k + 1) f fd ps sp := by
  obtain ⟨oc, od, dV, kV, doc, pm, an, cdv, ct, osl, rfl, lk, hcd, _, _⟩ := F.ex
  refine fnG lk hcd S len fun A outer s H vs Q E hr hg hsp => ?_
  obtain ⟨t, h, q⟩ := hb cdv A outer s H vs Q E hr hg hsp
  exact ⟨t, h.nox, q⟩
/-- no positional defaults, nothing lacks -/
theorem kbn0 (F : FunD K x qual params body scope [] kws f fd) (n : Nat) (ks : List Str) (g : {α : Type} → List α → List α → List α)
    (hrel : ∀ {vs zs : List V} {us ws : List Value}, Vals vs us → Vals zs ws → Vals (g vs zs) (g us ws))
    (h : ∀ (kV doc pm : Value) (an : Option Addr) (cdv ct : Value) (us ws : List Value), us.length = n → ws.length = ks.length →
      bindArgs (PySem.W.fnOf x qual params body scope .none kV doc pm an cdv ct) ⟨us, ks.zip ws⟩ = pure (ps.zip (g us ws))) :
    ∃ g' : List Value → List Value → List Value, KBn K fd ps n ks g' (fun vs zs => g vs zs) := by
  obtain ⟨oc, od, dV, kV, doc, pm, an, cdv, ct, osl, rfl, lk, hcd, hD, hK⟩ := F.ex
  rcases hD with ⟨_, rfl⟩ | ⟨e, _⟩
  · exact ⟨fun us ws => g us ws, fun s us ws X l1 l2 => .of_eq (h kV doc pm an cdv ct us ws l1 l2), fun r1 r2 => hrel r1 r2⟩
  · exact absurd rfl e
theorem kbn1 (F : FunD K x qual params body scope [] kws f fd) (n : Nat) (ks : List Str) (ms : List (Str × V))
    (g : {α : Type} → List α → List α → List α → List α) (hk : kws ≠ []) (hms : ∀ q ∈ ms, q ∈ kws)
    (hrel : ∀ {vs mz zs : List V} {us mv ws : List Value}, Vals vs us → Vals mz mv → Vals zs ws → Vals (g vs mz zs) (g us mv ws))
    (h : ∀ (D : Addr) (doc pm : Value) (an : Option Addr) (cdv ct : Value) (us mv ws : List Value), us.length = n → mv.length = ms.length → ws.length = ks.length →
      KwChain D ((ms.map (·.1)).zip mv) (bindArgs (PySem.W.fnOf x qual params body scope .none (.ref D) doc pm an cdv ct) ⟨us, ks.zip ws⟩) (ps.zip (g us mv ws))) :
    ∃ g' : List Value → List Value → List Value, KBn K fd ps n ks g' (fun vs zs => g vs (ms.map (·.2)) zs) := by
  obtain ⟨mv, b⟩ := kbn F n ks ms g hk hms hrel h
  exact ⟨_, b⟩
theorem calG {CX : CXT} {k n : Nat} {ks : List Str} {sp : Sp} {gV : List V → List V → List V} (F : FunD K x qual params body scope dvs kws f fd) (G : FnG P w K mg base CX k f fd ps sp)
    (hm : mg x = some (.ref f)) (b : ∃ g' : List Value → List Value → List Value, KBn K fd ps n ks g' gV) : CalG P w K mg base CX k x sp n ks gV := by
  obtain ⟨g', b⟩ := b
  exact ⟨f, fd, ps, g', G, hm, F.kp, b⟩
theorem funD_mk {oc : Value} {od an : Option Addr} {osl : Array (Option Value)} {kV doc pm cdv ct : Value} (l : K.lookup f = some ⟨oc, od, .func (PySem.W.fnOf x qual params body scope .none kV doc pm an cdv ct), osl⟩)
    (c : PySem.W.codeIn K cdv qual = true) (k : PySem.W.keepIn K (.ref f) = true) (hk : KwdV K kV kws) :
    FunD K x qual params body scope [] kws f (PySem.W.fnOf x qual params body scope .none kV doc pm an cdv ct) :=
  ⟨⟨oc, od, .none, kV, doc, pm, an, cdv, ct, osl, rfl, l, c, .inl ⟨rfl, rfl⟩, hk⟩, k⟩
end

/-! ### the law's end: its own call, under no guard -/
theorem law_runG {P : Program} {w : World} {K : PySem.W.Frag} {mg mb : Str → Option Value} {k : Nat} {fa a : Addr} {fd : FuncData} {x : Str} {sp : Sp}
    {z : Shared} {vs : List Value} {ns : List Int} (KX : K.In z.heap) (hns : z.heap.Ns mainGlobals mg) (hb : z.heap.Ns builtinsNs mb)
    (hbb : ∀ x : Str, x ≠ "__name__" → mb x = bootBuiltins x) (hlim : z.heap.NoLimit) (hg : z.gens = #[])
    (ha : z.heap.get? a = some { cls := .type "list", data := .seq vs.toArray }) (hi : IntsAre vs ns) (hl : ns.length ≤ sizeLine) (hr : Room k callerA)
    (F : ∀ base : Heap, K.In base → base.Ns mainGlobals mg → FnG P w K mg base CX0 k fa fd [x] sp)
    (hbind : ∀ (s : Shared) (u : Value), BindsTo s fd ⟨[u], []⟩ [(x, u)])
    (hsp : ∀ H : Hp, Only H → SqL K H a (ns.map V.int) → sp [.ref a] H (fun v _ => v = .bl true) fun _ _ _ => False) :
    codeAny (model P w) callerA (.call (.ref fa) ⟨[.ref a], []⟩)
      (fun r s' => r = .ok (.ret (.bool true)) ∧ OldK z.heap s'.heap ∧ s'.os = z.os ∧ AllBare s'.gens) z := by
  have rv := vals_ints hi
  have lenV := hi.length
  have core : ∀ H : Hp, Only H → SqL K H a (ns.map V.int) → HOk P w H z.heap → (∀ b, H b ≠ none → b = a) → (H a ≠ none → K.lookup a = none) →
      codeAny (model P w) callerA (.call (.ref fa) ⟨[.ref a], []⟩)
        (fun r s' => r = .ok (.ret (.bool true)) ∧ OldK z.heap s'.heap ∧ s'.os = z.os ∧ AllBare s'.gens) z := by
    intro H hO hS ok hA hK
    have bo : ∀ {b : Addr} {o : Obj}, z.heap.get? b = some o → H b = none → (hidT z.heap H).get? b = some o := fun e n => hidT_get e n
    have hne : ∀ {b : Addr} {u : HO}, H b = some u → b = a := fun {b u} q => hA b (by rw [q]; exact Option.some_ne_none u)
    have noA : ∀ {b : Addr} {o : Obj} {es : Array DictEntry} {ep : Nat}, z.heap.get? b = some o → o.data = .dict es ep → H b = none := by
      intro b o es ep e d
      cases q : H b with
      | none => rfl
      | some u =>
        cases hne q
        rw [ha] at e
        cases e
        cases (show Data.seq vs.toArray _ = Data.dict es ep from d)
    have nsK : ∀ {b : Addr} {m : Str → Option Value}, z.heap.Ns b m → (hidT z.heap H).Ns b m := by
      rintro b m ⟨o, es, ep, e, d, r⟩
      exact ⟨o, es, ep, bo e (noA e d), d, r⟩
    have hKb : K.In (hidT z.heap H) := fun b o e => bo (KX b o e) (by
      cases q : H b with
      | none => rfl
      | some u =>
        cases hne q
        rw [hK (by rw [q]; exact Option.some_ne_none u)] at e
        cases e)
    have hM : Mod K mg (hidT z.heap H) := ⟨hKb, nsK hns, ⟨mb, nsK hb, hbb⟩, let ⟨mc, h1, h2⟩ := hlim; ⟨mc, nsK h1, h2⟩⟩
    have n0 : ∀ b : Addr, ¬ b ∈ frs [] := fun b q => by cases q
    have e0 : Env0 P w K mg (hidT z.heap H) callerA [] z H :=
      ⟨rfl, hM, fun b o e => of_hidT e, Nat.le_of_eq (hidT_size _ _), trivial, fun b q => absurd q (n0 b), ok, .of_eq hg⟩
    refine codeAny_mono ((F _ hKb (nsK hns)).run callerA [] z H ⟨[.ref a], []⟩ [.ref a] [.ref a] _ _ hr rfl e0 (hbind z (.ref a)) (.cons rfl .nil) (hsp H hO hS)) fun r s' h => ?_
    cases r with
    | error e => exact False.elim h
    | ok fl =>
      cases fl with
      | next => exact False.elim h
      | brk => exact False.elim h
      | cont => exact False.elim h
      | ret u =>
        obtain ⟨v, H', os, bare, un, ok', r', q⟩ := h
        cases (show v = .bl true from q)
        cases (show u = Value.bool true from r')
        refine ⟨rfl, OldK.of_keep fun b o e => ?_, os, bare⟩
        cases q : H b with
        | none => exact un.keep b o e q (n0 b) (by intro z; cases z)
        | some u =>
          rcases hO b with y | ⟨ob, xs, y⟩
          · rw [q] at y
            cases y
          · obtain ⟨e1, _⟩ := ok b _ y
            obtain ⟨e2, _⟩ := ok' b _ (un.frzs b ob _ y)
            rw [e] at e1
            cases e1
            exact e2
  cases hk : K.lookup a with
  | some o =>
    have e := KX a o hk
    rw [ha] at e
    cases e
    exact core (fun _ => none) (fun _ => .inl rfl) (.inr ⟨_, vs.toArray, _, hk, rfl, rfl, rfl, by rw [List.size_toArray, lenV]; exact hl, by simpa using rv⟩)
      (fun b u y => by cases (show (none : Option HO) = some u from y)) (fun b y => absurd rfl y) fun y => absurd rfl y
  | none =>
    have at1 : ∀ b u, (if b = a then some (HO.frz { cls := .type "list", data := .seq vs.toArray } (.lst (ns.map V.int))) else none) = some u → b = a ∧ u = .frz { cls := .type "list", data := .seq vs.toArray } (.lst (ns.map V.int)) := by
      intro b u y
      by_cases hb : b = a
      · rw [if_pos hb] at y
        exact ⟨hb, (Option.some.inj y).symm⟩
      · rw [if_neg hb] at y
        cases y
    refine core (fun b => if b = a then some (.frz { cls := .type "list", data := .seq vs.toArray } (.lst (ns.map V.int))) else none) (fun b => ?_)
      (.inl (.inr ⟨_, if_pos rfl⟩)) (fun b u y => ?_) (fun b y => ?_) fun _ => hk
    · by_cases hb : b = a
      · exact .inr ⟨_, _, if_pos hb⟩
      · exact .inl (if_neg hb)
    · obtain ⟨rfl, rfl⟩ := at1 b u y
      exact ⟨ha, by rw [List.length_map]; exact hl, vs, _, rv, ha⟩
    · by_cases hb : b = a
      · exact hb
      · exact absurd (if_neg hb) y
theorem walk_G {l : PySem.W.OpenLaw} {n k : Nat} {q : Program} {loose : List Str} {XP : (Str → Option Value) → Heap → Prop} {YP : World → Heap → Prop} {d : DefRec}
    {K : Params → PySem.W.Frag} {sp : PySem.W.Frag → Sp} {x : Str} (hn : l.most = some n) (hn2 : n ≤ sizeLine) (hdf : d.params.defaults = []) (hr : Room k callerA)
    (hY : ∀ (w : World) (h : Heap), YP w h → (K w.params).In h)
    (F : ∀ (w : World) (mg : Str → Option Value) (fa : Addr) (h : Heap), (K w.params).In h → h.Ns mainGlobals mg → mg d.name = some (.ref fa) →
      ∃ fd : FuncData, (∀ (s : Shared) (u : Value), BindsTo s fd ⟨[u], []⟩ [(x, u)]) ∧
        ∀ base : Heap, (K w.params).In base → base.Ns mainGlobals mg → FnG l.prog w (K w.params) mg base CX0 k fa fd [x] (sp (K w.params)))
    (hsp : ∀ (K : PySem.W.Frag) (H : Hp) (a : Addr) (ns : List Int), ns.length ≤ n → Only H → SqL K H a (ns.map V.int) →
      sp K [.ref a] H (fun v _ => v = .bl true) fun _ _ _ => False) :
    PySem.W.WalkO q loose XP YP l.row.toRowW d [] (fun f vs => PySem.call f vs) := by
  refine Att.attach_call hn hdf fun w s₀ s₁ mg mb fa o pm cd doc a vs ns G Y ho hd hcd hmg hobj hints hlen hg => ?_
  obtain ⟨fd, hb, hF⟩ := F w mg fa _ (hY w _ Y) G.T.g hmg
  exact law_runG (hY w _ Y) G.T.g G.T.b G.T.builtins G.T.nolimit hg hobj hints (Nat.le_trans hlen hn2) hr hF hb fun H hO hS => hsp _ H a ns hlen hO hS
end Og
namespace Og
open PySem PySem.Spec PyProof.Rows L2

/-! ### readings, step by step -/
/-- a new object o at any free place (a word of its own, so that Q stays as it is) -/
def New (Q : VK) (H : Hp) (o : HO) : Prop := ∀ p, H p = none → Q (.ref p) (upd H p o)
section
variable {σ : L2.St} {H : Hp} {Q : VK} {D : Ends} {ta tb te tc : TE} {t u : TS} {r r' : R2} {g : TG} {c c2 : TT} {B : Prop}
theorem r_seq (h : t { D with nx := u D } σ H) : tSeq t u D σ H := h
theorem r_asg (h : te σ H fun x H1 => g x σ H1 D.nx) : tAsg te g D σ H := h
theorem r_name {i : Nat} {v : V} {Q : L2.St → Hp → Prop} (h : Q (σ.set i (some v)) H) : gName i v σ H Q := h
theorem r_var {i : Nat} {v : V} (e : σ[i]? = some (some v)) (h : Q v H) : tVar i σ H Q := ⟨v, e, h⟩
theorem r_c {v : V} (h : Q v H) : tC v σ H Q := h
theorem r_op (h : ta σ H fun x H1 => tb σ H1 fun y H2 => r x y H2 Q) : tOp r ta tb σ H Q := h
theorem r_un {r : V → Hp → VK → Prop} (h : ta σ H fun x H1 => r x H1 Q) : tUn r ta σ H Q := h
theorem r_I0 {f : Int → Int → V} {i j : Int} (h : Q (f i j) H) : rI0 f (.int i) (.int j) H Q := ⟨i, j, rfl, rfl, h⟩
theorem r_I {f : Int → Int → V} {C : Int → Int → Prop} {i j : Int} (k : C i j) (h : Q (f i j) H) : rI C f (.int i) (.int j) H Q := ⟨i, j, rfl, rfl, k, h⟩
theorem r_ret (h : te σ H D.rt) : tRet te D σ H := h
theorem r_drop (h : te σ H fun _ H1 => D.nx σ H1) : tDrop te D σ H := h
theorem r_ifS (h : c σ H fun b H1 => if b = true then t D σ H1 else u D σ H1) : tIfS c t u D σ H := h
theorem r_next (h : D.nx σ H) : tNext D σ H := h
theorem r_test {Q : Bool → Hp → Prop} (h : te σ H fun x H1 => ∃ k, x = .bl k ∧ Q k H1) : tTest te σ H Q := h
theorem r_tB {Q : Bool → Hp → Prop} (h : te σ H fun x H1 => ∃ k, x = .bl k ∧ Q k H1) : tB te σ H Q := h
theorem r_bl {b : Bool} {Q : Bool → Prop} (h : Q b) : ∃ k, V.bl b = .bl k ∧ Q k := ⟨b, rfl, h⟩
theorem r_not {Q : Bool → Hp → Prop} (h : c σ H fun b H1 => Q (!b) H1) : tNot c σ H Q := h
theorem r_or {Q : Bool → Hp → Prop} (h : c σ H fun b H1 => if b = true then Q true H1 else c2 σ H1 Q) : tOr c c2 σ H Q := h
theorem r_and {Q : Bool → Hp → Prop} (h : c σ H fun b H1 => if b = true then c2 σ H1 Q else Q false H1) : tAnd c c2 σ H Q := h
theorem r_andV (h : ta σ H fun x H1 => ∃ k, x = .bl k ∧ if k = true then tb σ H1 Q else Q (.bl false) H1) : tAndV ta tb σ H Q := h
theorem r_orV (h : ta σ H fun x H1 => ∃ k, x = .bl k ∧ if k = true then Q (.bl true) H1 else tb σ H1 Q) : tOrV ta tb σ H Q := h
theorem r_if (h : c σ H fun b H1 => if b = true then ta σ H1 Q else tb σ H1 Q) : tIf c ta tb σ H Q := h
theorem r_chain (h : ta σ H fun x H1 => tb σ H1 fun y H2 => r x y H2 fun z H3 => ∃ k, z = .bl k ∧ (if k = true then tc σ H3 fun w' H4 => r' y w' H4 Q else Q (.bl false) H3)) :
    tChain r r' ta tb tc σ H Q := h
theorem r_nil {Q : List V → Hp → Prop} (h : Q [] H) : tNil σ H Q := h
theorem r_cons {tr : TA} {Q : List V → Hp → Prop} (h : ta σ H fun x H1 => tr σ H1 fun xs H2 => Q (x :: xs) H2) : tCons ta tr σ H Q := h
theorem r_cb {rr : List V → Hp → VK → Prop} {tr : TA} (h : tr σ H fun vs H1 => rr vs H1 Q) : tCB rr tr σ H Q := h
theorem r_g {n m : Nat} {sp : Sp} {gV : List V → List V → List V} {E : XK} {tr tk : TA}
    (h : tr σ H fun vs H1 => tk σ H1 fun zs H2 => vs.length = n ∧ zs.length = m ∧ sp (gV vs zs) H2 Q E) : tG n m sp gV E tr tk σ H Q := h
theorem r_lst {tr : TA} (h : tr σ H fun xs H1 => xs.length ≤ sizeLine ∧ New Q H1 (.lst xs)) : tLst tr σ H Q := h
theorem r_tup {tr : TA} (h : tr σ H fun xs H1 => xs.length ≤ sizeLine ∧ New Q H1 (.tup xs)) : tTup tr σ H Q := h
theorem r_dget (h : ta σ H fun x H1 => tb σ H1 fun y H2 => ∃ a v, x = .ref a ∧ DGet H2 a y (some v) ∧ Q v H2) : tDGet ta tb σ H Q := h
theorem r_par {i j : Nat} {tr : TA} (h : tr σ H fun vs H1 => ∃ v w, vs = [v, w] ∧ D.nx ((σ.set i (some v)).set j (some w)) H1) : tPar i j tr D σ H := h
theorem r_par2 {v w : V} {Q : V → V → Prop} (h : Q v w) : ∃ v' w', ([v, w] : List V) = [v', w'] ∧ Q v' w' := ⟨v, w, rfl, h⟩
/-- == of two ints -/
theorem r_eqI {i j : Int} (h : Q (.bl (decide (i = j))) H) : rEq (.int i) (.int j) H Q := by
  refine ⟨rfl, ?_⟩
  have e : decide (V.int i = V.int j) = decide (i = j) := by
    by_cases q : i = j
    · rw [q, decide_eq_true rfl, decide_eq_true rfl]
    · rw [decide_eq_false q, decide_eq_false fun z => q (V.int.inj z)]
  rw [e]
  exact h
theorem r_neI {i j : Int} (h : Q (.bl (!decide (i = j))) H) : rNe (.int i) (.int j) H Q := by
  refine ⟨rfl, ?_⟩
  have e : decide (V.int i = V.int j) = decide (i = j) := by
    by_cases q : i = j
    · rw [q, decide_eq_true rfl, decide_eq_true rfl]
    · rw [decide_eq_false q, decide_eq_false fun z => q (V.int.inj z)]
  rw [e]
  exact h
theorem r_disp {l : List (TE × TE)} (h : ∀ p, H p = none → tPairs l σ (upd H p (.dK [])) fun ps H2 => H2 p = some (.dK []) ∧ ∃ kvs : List (Key × V),
    ps = kvs.map (fun kv => (kV kv.1, kv.2)) ∧ kvs.length ≤ 15 ∧ Q (.ref p) (upd H2 p (.dK (mergeK [] kvs)))) : tDisp l σ H Q := h
theorem r_pn {Q : List (V × V) → Hp → Prop} (h : Q [] H) : tPairs [] σ H Q := h
theorem r_pc {l : List (TE × TE)} {Q : List (V × V) → Hp → Prop} (h : ta σ H fun x H1 => tb σ H1 fun y H2 => tPairs l σ H2 fun ps H3 => Q ((x, y) :: ps) H3) :
    tPairs ((ta, tb) :: l) σ H Q := h
theorem r_dnew (h : New Q H (.dK [])) : tDNewK σ H Q := h
/-- {k: v}, both written -/
theorem al_disp1 {k : Key} {v : V} (h : New Q H (.dK [(k, v)])) : tDisp [(tC (kV k), tC v)] σ H Q := fun p hp => by
  refine ⟨upd_same, [(k, v)], rfl, (by show 1 ≤ 15; decide), ?_⟩
  rw [upd_upd]
  exact h p hp
/-- {t: v}, t a tuple of two ints -/
def tDispT (ta tv : TE) : TE := fun σ H Q => ∀ p, H p = none → ta σ (upd H p (.dT [])) fun x H1 => tv σ H1 fun y H2 => ∃ (a : Addr) (i j : Int),
  x = .ref a ∧ H2 a = some (.tup [.int i, .int j]) ∧ H2 p = some (.dT []) ∧ Q (.ref p) (upd H2 p (.dT [([Sum.inl i, Sum.inl j], y)]))
theorem al_dispT {a : Addr} {i j : Int} {n : Nat} {v : V} (hv : σ[n]? = some (some (.ref a))) (h1 : H a = some (.tup [.int i, .int j])) (h : New Q H (.dT [([Sum.inl i, Sum.inl j], v)])) : tDispT (tVar n) (tC v) σ H Q := fun p hp => by
  refine ⟨_, hv, a, i, j, rfl, ?_, upd_same, ?_⟩
  · rw [upd_ne (ne_of_none h1 hp)]
    exact h1
  · rw [upd_upd]
    exact h p hp
/-- == of alike data -/
theorem r_eqDe {K : PySem.W.Frag} {x y : V} {d : PyData} (h1 : Dp K H x d) (h2 : Dp K H y d) (s1 : SeqAt.shaped d = true) (h : Q (.bl true) H) : rEqD K x y H Q := ⟨d, d, h1, h2, s1, s1, by rw [SeqAt.eqv_refl d (SeqAt.canLay_of_shaped s1)]; exact h⟩
theorem r_neDe {K : PySem.W.Frag} {x y : V} {d : PyData} (h1 : Dp K H x d) (h2 : Dp K H y d) (s1 : SeqAt.shaped d = true) (h : Q (.bl false) H) : rNeD K x y H Q := ⟨d, d, h1, h2, s1, s1, by rw [SeqAt.eqv_refl d (SeqAt.canLay_of_shaped s1)]; exact h⟩
/-! loops -/
def Loop (J : It) (g : TG) (tb : TS) (D : Ends) (σ : L2.St) (H : Hp) : Prop := ∃ W : Nat → Nat → L2.St → Hp → Prop, (∃ m, W 0 m σ H) ∧ ∀ i m σ H, W i m σ H →
  (J.stop i H ∧ D.nx σ H) ∨ (J.go i H ∧ ∃ N : L2.St → Hp → Prop, (∀ σ' H', N σ' H' → ∃ m', m' < m ∧ W (i + 1) m' σ' H') ∧
    ∀ x H', J.yld i H x H' → g x σ H' fun σ2 H2 => tb { D with nx := N, ct := N, bk := D.nx } σ2 H2)
theorem r_for {wi : TI} (h : wi σ H fun J H1 => Loop J g t D σ H1) : tFor wi g t D σ H := h
theorem r_rng1 {tr : TA} {R : It → Hp → Prop} (h : tr σ H fun vs H1 => ∃ j : Int, vs = [.int j] ∧ -(2 ^ 62) ≤ j ∧ j < 2 ^ 62 ∧ R (Itr 0 j.toNat) H1) : iRng1 tr σ H R := h
theorem r_rng1e {j : Int} {R : Int → Prop} (h0 : 0 ≤ j) (h1 : j < 2 ^ 62) (h : R j) : ∃ j' : Int, ([.int j] : List V) = [.int j'] ∧ -(2 ^ 62) ≤ j' ∧ j' < 2 ^ 62 ∧ R j' :=
  ⟨j, rfl, by omega, h1, h⟩
theorem loop_rng {n : Nat} (Pv : Nat → L2.St → Hp → Prop) (h0 : Pv 0 σ H)
    (hs : ∀ i σ H, i < n → Pv i σ H → g (.int (i : Nat)) σ H fun σ2 H2 => t { D with nx := Pv (i + 1), ct := Pv (i + 1), bk := D.nx } σ2 H2) (hd : ∀ σ H, Pv n σ H → D.nx σ H) :
    Loop (Itr 0 n) g t D σ H := for_range (lo := 0) Pv h0 (fun i σ H hi hp => by rw [show (0 : Int) + (i : Nat) = (i : Nat) from Int.zero_add _]; exact hs i σ H hi hp) hd
theorem r_ilist {K : PySem.W.Frag} {R : It → Hp → Prop} (h : ta σ H fun x H1 => ∃ a, x = .ref a ∧ (∃ xs, SqL K H1 a xs) ∧ R (Itl K a) H1) : iList K ta σ H R := h
theorem loop_lst {K : PySem.W.Frag} {a : Addr} {xs : List V} (Pv : Nat → L2.St → Hp → Prop) (h0 : Pv 0 σ H) (hl : ∀ i σ H, i ≤ xs.length → Pv i σ H → SqL K H a xs)
    (hs : ∀ i x σ H, xs[i]? = some x → Pv i σ H → g x σ H fun σ2 H2 => t { D with nx := Pv (i + 1), ct := Pv (i + 1), bk := D.nx } σ2 H2) (hd : ∀ σ H, Pv xs.length σ H → D.nx σ H) :
    Loop (Itl K a) g t D σ H := for_list Pv h0 hl hs hd
/-- a comprehension's loop -/
def LcLoop (J : It) (g : TG) (c : TT) (te : TE) (vs : List Nat) (σ : L2.St) (H : Hp) (D : Addr) (Q : VK) : Prop := ∃ W : Nat → Nat → Hp → Prop, (∃ m, W 0 m H) ∧ ∀ i m H, W i m H →
  (J.stop i H ∧ Q (.ref D) H) ∨ (J.go i H ∧ ∃ Nx : Hp → Prop, (∀ H', Nx H' → ∃ m', m' < m ∧ W (i + 1) m' H') ∧ ∀ x H', J.yld i H x H' → g x (wipe σ vs) H' fun σ2 H2 => wipe σ2 vs = wipe σ vs ∧ c σ2 H2 fun b H3 =>
    if b = true then te σ2 H3 fun y H4 => ∃ acc, H4 D = some (.lst acc) ∧ acc.length < sizeLine ∧ Nx (upd H4 D (.lst (acc ++ [y]))) else Nx H3)
theorem r_lc {wi : TI} {vs : List Nat} (h : wi σ H fun J H1 => ∀ D, H1 D = none → LcLoop J g c te vs σ (upd H1 D (.lst [])) D Q) : tLc wi g c te vs σ H Q := h
theorem lcl_lst {K : PySem.W.Frag} {a D : Addr} {xs : List V} {vs : List Nat} (Pv : Nat → Hp → Prop) (h0 : Pv 0 (upd H D (.lst []))) (hl : ∀ i H, i ≤ xs.length → Pv i H → SqL K H a xs)
    (hs : ∀ i x H, xs[i]? = some x → Pv i H → g x (wipe σ vs) H fun σ2 H2 => wipe σ2 vs = wipe σ vs ∧ c σ2 H2 fun b H3 =>
      if b = true then te σ2 H3 fun y H4 => ∃ acc, H4 D = some (.lst acc) ∧ acc.length < sizeLine ∧ Pv (i + 1) (upd H4 D (.lst (acc ++ [y]))) else Pv (i + 1) H3) (hd : ∀ H, Pv xs.length H → Q (.ref D) H) :
    LcLoop (Itl K a) g c te vs σ (upd H D (.lst [])) D Q := lc_list (Qd := fun H => Q (.ref D) H) Pv h0 hl hs hd
theorem r_tYes {Q : Bool → Hp → Prop} (h : Q true H) : tYes σ H Q := h
theorem r_bm {K : PySem.W.Frag} {T : String} {rr : V → List V → Hp → VK → Prop} {tr : TA} (h : ta σ H fun x H1 => tyV K T x H1 ∧ tr σ H1 fun xs H2 => rr x xs H2 Q) : tBM K T rr ta tr σ H Q := h
theorem ty_list {K : PySem.W.Frag} {p : Addr} {xs : List V} {A : Prop} (h : SqL K H p xs) (k : A) : tyV K "list" (.ref p) H ∧ A := ⟨.inl ⟨rfl, _, h⟩, k⟩
theorem r_app {l : Addr} {xs : List V} {y : V} (e : H l = some (.lst xs)) (hl : xs.length < sizeLine) (h : Q .non (upd H l (.lst (xs ++ [y])))) : rAppend (.ref l) [y] H Q := ⟨l, xs, y, rfl, rfl, e, hl, h⟩
/-! values at once: chains, and, or of what is only read -/
theorem r_chainLL {x y z : Int} (ha : ∀ Q' : VK, Q' (.int x) H → ta σ H Q') (hb : ∀ Q' : VK, Q' (.int y) H → tb σ H Q') (hc : ∀ Q' : VK, Q' (.int z) H → tc σ H Q') (h : Q (.bl (decide (x ≤ y) && decide (y ≤ z))) H) :
    tChain (rI0 fun i j => .bl (decide (i ≤ j))) (rI0 fun i j => .bl (decide (i ≤ j))) ta tb tc σ H Q := by
  refine ha _ (hb _ ⟨x, y, rfl, rfl, _, rfl, ?_⟩)
  by_cases e : x ≤ y
  · rw [decide_eq_true e] at h ⊢
    exact iteT (hc _ ⟨y, z, rfl, rfl, h⟩)
  · rw [decide_eq_false e] at h ⊢
    exact iteF h
theorem r_andVp {b k : Bool} (ha : ∀ Q' : VK, Q' (.bl b) H → ta σ H Q') (hb : ∀ Q' : VK, Q' (.bl k) H → tb σ H Q') (h : Q (.bl (b && k)) H) : tAndV ta tb σ H Q := by
  refine ha _ ⟨b, rfl, ?_⟩
  cases b with
  | true => exact iteT (hb _ h)
  | false => exact iteF h
theorem r_orVp {b k : Bool} (ha : ∀ Q' : VK, Q' (.bl b) H → ta σ H Q') (hb : ∀ Q' : VK, Q' (.bl k) H → tb σ H Q') (h : Q (.bl (b || k)) H) : tOrV ta tb σ H Q := by
  refine ha _ ⟨b, rfl, ?_⟩
  cases b with
  | false => exact iteF (hb _ h)
  | true => exact iteT h
theorem r_catA {K : PySem.W.Frag} {a b : Addr} {xs ys : List V} (h1 : SqT K H a xs) (h2 : SqT K H b ys) (hl : xs.length + ys.length ≤ sizeLine) (hx : xs ≠ []) (hy : ys ≠ []) (h : New Q H (.tup (xs ++ ys))) :
    rCatA K (.ref a) (.ref b) H Q := ⟨a, b, xs, ys, rfl, rfl, h1, h2, hl, fun e => absurd e hx, fun _ e => absurd e hy, fun _ _ => h⟩
theorem r_sl {rr : V → Option Int → Option Int → Hp → VK → Prop} {tl th : TO} (h : te σ H fun x H1 => tl σ H1 fun l H2 => th σ H2 fun u H3 => rr x l u H3 Q) : tSl rr te tl th σ H Q := h
theorem r_np {Q : Option Int → Hp → Prop} (h : Q none H) : tNoPart σ H Q := h
theorem r_pt {Q : Option Int → Hp → Prop} (h : te σ H fun x H1 => ∃ i, x = .int i ∧ Q (some i) H1) : tPart te σ H Q := h
theorem r_int {i : Int} {Q : Int → Prop} (h : Q i) : ∃ j, V.int i = .int j ∧ Q j := ⟨i, rfl, h⟩
theorem r_slA {K : PySem.W.Frag} {a : Addr} {xs : List V} {lo hi : Option Int} (h1 : SqT K H a xs) (ne : ¬ (HT.sIx xs.length 0 lo = 0 ∧ HT.sIx xs.length xs.length hi = xs.length)) (h : New Q H (.tup (cutV xs lo hi))) :
    rSlA K (.ref a) lo hi H Q := ⟨a, xs, rfl, h1, fun e => absurd e ne, fun _ => h⟩
def rListOf (K : PySem.W.Frag) : List V → Hp → VK → Prop := fun xs H Q => ∃ p ys, xs = [.ref p] ∧ (SqL K H p ys ∨ SqT K H p ys) ∧ New Q H (.lst ys)
theorem call_listN {X : Cx} : CallR X (.type "list") (rListOf X.K) := call_list_of
theorem r_listN {K : PySem.W.Frag} {p : Addr} {ys : List V} (h1 : SqL K H p ys ∨ SqT K H p ys) (h : New Q H (.lst ys)) : rListOf K [.ref p] H Q := ⟨p, ys, rfl, h1, h⟩
theorem r_catX {K : PySem.W.Frag} {l b : Addr} {xs zs : List V} (h1 : SqL K H l xs) (h2 : SqL K H b zs) (hl : xs.length + zs.length ≤ sizeLine) (h : New Q H (.lst (xs ++ zs))) :
    rCatX K (.ref l) (.ref b) H Q := ⟨l, b, xs, zs, rfl, rfl, h1, h2, hl, h⟩
theorem r_ixL {K : PySem.W.Frag} {p : Addr} {xs : List V} {i : Int} {v : V} (h1 : SqL K H p xs) (h2 : atI xs i = some v) (h : Q v H) : rIxL K (.ref p) (.int i) H Q := ⟨p, xs, i, v, rfl, rfl, h1, h2, h⟩
theorem r_ixT {K : PySem.W.Frag} {p : Addr} {xs : List V} {i : Int} {v : V} (h1 : SqT K H p xs) (h2 : atI xs i = some v) (h : Q v H) : rIxT K (.ref p) (.int i) H Q := ⟨p, xs, i, v, rfl, rfl, h1, h2, h⟩
theorem r_rep {l : Addr} {k : Int} {xs : List V} (h1 : H l = some (.lst xs)) (h0 : 0 ≤ k) (hk : k < 2 ^ 63) (hl : xs.length * k.toNat ≤ sizeLine) (h : New Q H (.lst (List.replicate k.toNat xs).flatten)) :
    rRep (.ref l) (.int k) H Q := ⟨l, k, xs, rfl, rfl, h1, by omega, hk, hl, h⟩
theorem r_eqD {K : PySem.W.Frag} {x y : V} {d e : PyData} (h1 : Dp K H x d) (h2 : Dp K H y e) (s1 : SeqAt.shaped d = true) (s2 : SeqAt.shaped e = true) (h : Q (.bl (PyData.eqv d e)) H) : rEqD K x y H Q := ⟨d, e, h1, h2, s1, s2, h⟩
theorem r_neD {K : PySem.W.Frag} {x y : V} {d e : PyData} (h1 : Dp K H x d) (h2 : Dp K H y e) (s1 : SeqAt.shaped d = true) (s2 : SeqAt.shaped e = true) (h : Q (.bl (!PyData.eqv d e)) H) : rNeD K x y H Q := ⟨d, e, h1, h2, s1, s2, h⟩
theorem r_dput (h : te σ H fun v H1 => ta σ H1 fun x H2 => tb σ H2 fun y H3 => ∃ a H4, x = .ref a ∧ DPut H3 a y v H4 ∧ D.nx σ H4) : sDPut ta tb te D σ H := h
/-- != of one text with itself -/
theorem r_neS {x : Str} (h : Q (.bl false) H) : rNe (.str x) (.str x) H Q := ⟨rfl, by rw [decide_eq_true rfl]; exact h⟩
theorem r_eqS {x : Str} (h : Q (.bl true) H) : rEq (.str x) (.str x) H Q := ⟨rfl, by rw [decide_eq_true rfl]; exact h⟩
theorem r_rfl {x : V} {A : Prop} (h : A) : x = x ∧ A := ⟨rfl, h⟩
end
theorem r_ifT {b : Bool} {A B : Prop} (e : b = true) (h : A) : if b = true then A else B := by
  rw [if_pos e]
  exact h
theorem r_ifF {b : Bool} {A B : Prop} (e : b = false) (h : B) : if b = true then A else B := by
  rw [e]
  exact iteF h
/-! ### the state: the draws' dict at d (m draws are left at the most), what is never changed any more (B), what is still changed (ms) -/
/-- all that is in B stands in H as well -/
theorem same_new {H : Hp} {p : Addr} {o : HO} (h : H p = none) : Same H (upd H p o) := by
  intro b x e
  rw [upd_ne (ne_of_none e h)]
  exact e
def dk (a : Addr) (t l u : Int) : List (Key × V) := [(Sum.inr "cells", .ref a), (Sum.inr "at", .int t), (Sum.inr "left", .int l), (Sum.inr "used", .int u)]
structure Draw (K : PySem.W.Frag) (d : Addr) (m : Nat) (B H : Hp) : Prop where
  ex : ∃ (a : Addr) (ns : List Int) (t l u : Int), H d = some (.dK (dk a t l u)) ∧ SqL K B a (ns.map V.int) ∧ ns ≠ [] ∧ ns.length ≤ 64 ∧ 0 ≤ t ∧ 0 ≤ u ∧ t + m ≤ 2 ^ 40 ∧ u + m ≤ 2 ^ 40
  out : B d = none
structure Wd (K : PySem.W.Frag) (d : Addr) (m : Nat) (ms : List (Addr × HO)) (B H : Hp) : Prop where
  sb : Same B H
  dr : Draw K d m B H
  mu : ∀ q ∈ ms, H q.1 = some q.2 ∧ B q.1 = none ∧ q.1 ≠ d
  nd : (ms.map Prod.fst).Nodup
section
variable {K : PySem.W.Frag} {d p : Addr} {m : Nat} {ms : List (Addr × HO)} {B H : Hp} {o o' : HO}
theorem Draw.grow {B' H' : Hp} (x : Draw K d m B H) (s : Same B B') (n : B' d = none) (e : H' d = H d) : Draw K d m B' H' := by
  obtain ⟨a, ns, t, l, u, h1, h2, h3⟩ := x.ex
  exact ⟨⟨a, ns, t, l, u, e.trans h1, s.seq h2, h3⟩, n⟩
theorem Draw.ne (x : Draw K d m B H) (h : H p = none) : d ≠ p := by
  obtain ⟨a, ns, t, l, u, h1, _⟩ := x.ex
  exact ne_of_none h1 h
theorem Draw.le {m' : Nat} (x : Draw K d m B H) (h : m' ≤ m) : Draw K d m' B H := by
  obtain ⟨a, ns, t, l, u, h1, h2, h3, h4, h5, h6, h7, h8⟩ := x.ex
  exact ⟨⟨a, ns, t, l, u, h1, h2, h3, h4, h5, h6, by omega, by omega⟩, x.out⟩
theorem Wd.le {m' : Nat} (w : Wd K d m ms B H) (h : m' ≤ m) : Wd K d m' ms B H := ⟨w.sb, w.dr.le h, w.mu, w.nd⟩
theorem Wd.bn (w : Wd K d m ms B H) (hp : H p = none) : B p = none := w.sb.free hp
/-- a new thing that is never changed -/
theorem Wd.new (w : Wd K d m ms B H) (hp : H p = none) : Wd K d m ms (upd B p o) (upd H p o) := by
  have bp := w.bn hp
  refine ⟨fun b x e => ?_, w.dr.grow (same_new bp) ?_ (upd_ne (w.dr.ne hp)), fun q hq => ?_, w.nd⟩
  · by_cases hb : b = p
    · subst hb
      rw [upd_same] at e
      rw [upd_same]
      exact e
    · rw [upd_ne hb] at e
      rw [upd_ne hb]
      exact w.sb b x e
  · rw [upd_ne (w.dr.ne hp)]
    exact w.dr.out
  · obtain ⟨h1, h2, h3⟩ := w.mu q hq
    have n : q.1 ≠ p := ne_of_none h1 hp
    rw [upd_ne n, upd_ne n]
    exact ⟨h1, h2, h3⟩
/-- a new thing that is still changed -/
theorem Wd.mut (w : Wd K d m ms B H) (hp : H p = none) : Wd K d m ((p, o) :: ms) B (upd H p o) := by
  have bp := w.bn hp
  refine ⟨w.sb.trans (same_new hp), w.dr.grow (Same.refl B) w.dr.out (upd_ne (w.dr.ne hp)), fun q hq => ?_, ?_⟩
  · rcases List.mem_cons.mp hq with rfl | hq
    · exact ⟨upd_same, bp, (w.dr.ne hp).symm⟩
    · obtain ⟨h1, h2, h3⟩ := w.mu q hq
      rw [upd_ne (ne_of_none h1 hp)]
      exact ⟨h1, h2, h3⟩
  · refine List.nodup_cons.mpr ⟨fun hm => ?_, w.nd⟩
    obtain ⟨q, hq, e⟩ := List.mem_map.mp hm
    obtain ⟨h1, _⟩ := w.mu q hq
    rw [e, hp] at h1
    cases h1
theorem Wd.get (w : Wd K d m ((p, o) :: ms) B H) : H p = some o := (w.mu _ List.mem_cons_self).1
theorem Wd.set (w : Wd K d m ((p, o) :: ms) B H) : Wd K d m ((p, o') :: ms) B (upd H p o') := by
  obtain ⟨h1, h2, h3⟩ := w.mu _ List.mem_cons_self
  have n0 : ∀ q ∈ ms, q.1 ≠ p := fun q hq e => (List.nodup_cons.mp w.nd).1 (List.mem_map.mpr ⟨q, hq, e⟩)
  refine ⟨fun b x e => ?_, w.dr.grow (Same.refl B) w.dr.out (upd_ne (Ne.symm h3)), fun q hq => ?_, w.nd⟩
  · have : b ≠ p := fun z => by
      subst z
      rw [h2] at e
      cases e
    rw [upd_ne this]
    exact w.sb b x e
  · rcases List.mem_cons.mp hq with rfl | hq
    · exact ⟨upd_same, h2, h3⟩
    · rw [upd_ne (n0 q hq)]
      exact w.mu q (List.mem_cons_of_mem _ hq)
/-- it is never changed any more -/
theorem Wd.frz (w : Wd K d m ((p, o) :: ms) B H) : Wd K d m ms (upd B p o) H := by
  obtain ⟨h1, h2, h3⟩ := w.mu _ List.mem_cons_self
  have n0 : ∀ q ∈ ms, q.1 ≠ p := fun q hq e => (List.nodup_cons.mp w.nd).1 (List.mem_map.mpr ⟨q, hq, e⟩)
  refine ⟨fun b x e => ?_, w.dr.grow (same_new h2) ?_ rfl, fun q hq => ?_, (List.nodup_cons.mp w.nd).2⟩
  · by_cases hb : b = p
    · subst hb
      rw [upd_same] at e
      cases e
      exact h1
    · rw [upd_ne hb] at e
      exact w.sb b x e
  · rw [upd_ne (Ne.symm h3)]
    exact w.dr.out
  · rw [upd_ne (n0 q hq)]
    exact w.mu q (List.mem_cons_of_mem _ hq)
theorem Wd.swap {q q' : Addr × HO} (w : Wd K d m (q :: q' :: ms) B H) : Wd K d m (q' :: q :: ms) B H := by
  refine ⟨w.sb, w.dr, fun x hx => w.mu x ?_, ?_⟩
  · rcases List.mem_cons.mp hx with rfl | hx
    · exact List.mem_cons_of_mem _ List.mem_cons_self
    · rcases List.mem_cons.mp hx with rfl | hx
      · exact List.mem_cons_self
      · exact List.mem_cons_of_mem _ (List.mem_cons_of_mem _ hx)
  · have := w.nd
    simp only [List.map_cons, List.nodup_cons, List.mem_cons, not_or] at this ⊢
    exact ⟨⟨fun e => this.1.1 e.symm, this.2.1⟩, this.1.2, this.2.2⟩
theorem Wd.drop {q : Addr × HO} (w : Wd K d m (q :: ms) B H) : Wd K d m ms B H :=
  ⟨w.sb, w.dr, fun x hx => w.mu x (List.mem_cons_of_mem _ hx), (List.nodup_cons.mp w.nd).2⟩
theorem Wd.seq {a : Addr} {xs : List V} (w : Wd K d m ms B H) (h : SqL K B a xs) : SqL K H a xs := w.sb.seq h
/-- a display that is never changed: what follows holds at a larger B -/
theorem al_new {Q : VK} (w : Wd K d m ms B H) (h : ∀ p B' H', Wd K d m ms B' H' → Same B B' → B' p = some o → Q (.ref p) H') : New Q H o :=
  fun p hp => h p _ _ (w.new hp) (same_new (w.bn hp)) upd_same
theorem al_mut {Q : VK} (w : Wd K d m ms B H) (h : ∀ p H', Wd K d m ((p, o) :: ms) B H' → Q (.ref p) H') : New Q H o :=
  fun p hp => h p _ (w.mut hp)
/-- the draws' dict: read, written -/
theorem str_ne {x y : Str} (h : ¬ x = y) : ¬ (Sum.inr x : Key) = Sum.inr y := fun e => h (Sum.inr.inj e)
theorem dk_cells (a : Addr) (t l u : Int) : valV (dk a t l u) (Sum.inr ("cells" : Str)) = some (.ref a) := valV_pos rfl
theorem key_ne {x y : Str} (h : ¬ x = y) : ¬ (Sum.inr x : Key) = Sum.inr y := str_ne h
theorem k1 : ¬ (Sum.inr ("cells" : Str) : Key) = Sum.inr ("at" : Str) := str_ne (by decide +kernel)
theorem k2 : ¬ (Sum.inr ("cells" : Str) : Key) = Sum.inr ("left" : Str) := str_ne (by decide +kernel)
theorem k3 : ¬ (Sum.inr ("cells" : Str) : Key) = Sum.inr ("used" : Str) := str_ne (by decide +kernel)
theorem k4 : ¬ (Sum.inr ("at" : Str) : Key) = Sum.inr ("left" : Str) := str_ne (by decide +kernel)
theorem k5 : ¬ (Sum.inr ("at" : Str) : Key) = Sum.inr ("used" : Str) := str_ne (by decide +kernel)
theorem k6 : ¬ (Sum.inr ("left" : Str) : Key) = Sum.inr ("used" : Str) := str_ne (by decide +kernel)
theorem dk_at (a : Addr) (t l u : Int) : valV (dk a t l u) (Sum.inr ("at" : Str)) = some (.int t) :=
  (valV_neg k1).trans (valV_pos rfl)
theorem dk_left (a : Addr) (t l u : Int) : valV (dk a t l u) (Sum.inr ("left" : Str)) = some (.int l) :=
  (valV_neg k2).trans ((valV_neg k4).trans (valV_pos rfl))
theorem dk_used (a : Addr) (t l u : Int) : valV (dk a t l u) (Sum.inr ("used" : Str)) = some (.int u) :=
  (valV_neg k3).trans ((valV_neg k5).trans ((valV_neg k6).trans (valV_pos rfl)))
theorem put_at (a : Addr) (t l u z : Int) : putK (dk a t l u) (Sum.inr ("at" : Str)) (.int z) = dk a z l u := by
  have h1 : ¬ (Sum.inr ("cells" : Str) : Key) = Sum.inr ("at" : Str) := str_ne (by decide +kernel)
  have h2 : ¬ (Sum.inr ("left" : Str) : Key) = Sum.inr ("at" : Str) := str_ne (by decide +kernel)
  have h3 : ¬ (Sum.inr ("used" : Str) : Key) = Sum.inr ("at" : Str) := str_ne (by decide +kernel)
  simp [putK, dk, h1, h2, h3]
theorem put_left (a : Addr) (t l u z : Int) : putK (dk a t l u) (Sum.inr ("left" : Str)) (.int z) = dk a t z u := by
  have h1 : ¬ (Sum.inr ("cells" : Str) : Key) = Sum.inr ("left" : Str) := str_ne (by decide +kernel)
  have h2 : ¬ (Sum.inr ("at" : Str) : Key) = Sum.inr ("left" : Str) := str_ne (by decide +kernel)
  have h3 : ¬ (Sum.inr ("used" : Str) : Key) = Sum.inr ("left" : Str) := str_ne (by decide +kernel)
  simp [putK, dk, h1, h2, h3]
theorem put_used (a : Addr) (t l u z : Int) : putK (dk a t l u) (Sum.inr ("used" : Str)) (.int z) = dk a t l z := by
  have h1 : ¬ (Sum.inr ("cells" : Str) : Key) = Sum.inr ("used" : Str) := str_ne (by decide +kernel)
  have h2 : ¬ (Sum.inr ("at" : Str) : Key) = Sum.inr ("used" : Str) := str_ne (by decide +kernel)
  have h3 : ¬ (Sum.inr ("left" : Str) : Key) = Sum.inr ("used" : Str) := str_ne (by decide +kernel)
  simp [putK, dk, h1, h2, h3]
end
section
variable {H : Hp} {d a : Addr} {t l u z : Int}
theorem get_left (e : H d = some (.dK (dk a t l u))) : DGet H d (.str "left") (some (.int l)) := dk_left a t l u ▸ DGet.k (k := Sum.inr "left") e
theorem get_at (e : H d = some (.dK (dk a t l u))) : DGet H d (.str "at") (some (.int t)) := dk_at a t l u ▸ DGet.k (k := Sum.inr "at") e
theorem get_used (e : H d = some (.dK (dk a t l u))) : DGet H d (.str "used") (some (.int u)) := dk_used a t l u ▸ DGet.k (k := Sum.inr "used") e
theorem get_cells (e : H d = some (.dK (dk a t l u))) : DGet H d (.str "cells") (some (.ref a)) := dk_cells a t l u ▸ DGet.k (k := Sum.inr "cells") e
theorem set_left (e : H d = some (.dK (dk a t l u))) : DPut H d (.str "left") (.int z) (upd H d (.dK (dk a t z u))) := put_left a t l u z ▸ DPut.k (k := Sum.inr "left") e (by show 4 < sizeLine; decide)
theorem set_at (e : H d = some (.dK (dk a t l u))) : DPut H d (.str "at") (.int z) (upd H d (.dK (dk a z l u))) := put_at a t l u z ▸ DPut.k (k := Sum.inr "at") e (by show 4 < sizeLine; decide)
theorem set_used (e : H d = some (.dK (dk a t l u))) : DPut H d (.str "used") (.int z) (upd H d (.dK (dk a t l z))) := put_used a t l u z ▸ DPut.k (k := Sum.inr "used") e (by show 4 < sizeLine; decide)
end
/-- the draws' dict is changed: the state's rest stays -/
theorem Wd.draw {K : PySem.W.Frag} {d : Addr} {m m' : Nat} {ms : List (Addr × HO)} {B H : Hp} {a : Addr} {ns : List Int} {t l u : Int} (w : Wd K d m ms B H)
    (h : SqL K B a (ns.map V.int) ∧ ns ≠ [] ∧ ns.length ≤ 64 ∧ 0 ≤ t ∧ 0 ≤ u ∧ t + m' ≤ 2 ^ 40 ∧ u + m' ≤ 2 ^ 40) :
    Wd K d m' ms B (upd H d (.dK (dk a t l u))) := by
  refine ⟨fun b x e => ?_, ⟨⟨a, ns, t, l, u, upd_same, h⟩, w.dr.out⟩, fun q hq => ?_, w.nd⟩
  · have : b ≠ d := fun z => by
      subst z
      rw [w.dr.out] at e
      cases e
    rw [upd_ne this]
    exact w.sb b x e
  · obtain ⟨h1, h2, h3⟩ := w.mu q hq
    rw [upd_ne h3]
    exact ⟨h1, h2, h3⟩

theorem gcI {mg : Str → Option Value} {x : Str} {n : Int} (h : ∃ k, mg x = some (.int n k)) : ∃ u, mg x = some u ∧ RelV (V.int n) u := by
  obtain ⟨k, h⟩ := h
  exact ⟨_, h, k, rfl⟩
/-! ### conditions of numbers -/
theorem cm {i j : Int} (hi : i.natAbs < 2 ^ 400000) (hj : j.natAbs < 2 ^ 400000) : CMulW i j := wide_mul hi hj (by decide) (by decide) (by decide)
theorem lt_big {n b : Nat} (h : n < 2 ^ b) (hb : b ≤ 400000) : n < 2 ^ 400000 := Nat.lt_of_lt_of_le h (Nat.pow_le_pow_right (by decide) hb)
theorem big64 {i : Int} (h : i.natAbs < 2 ^ 64) : i.natAbs < 2 ^ 400000 := lt_big h (by decide)
theorem big200 {i : Int} (h : i.natAbs < 2 ^ 200) : i.natAbs < 2 ^ 400000 := lt_big h (by decide)
theorem cm64 {i j : Int} (hi : i.natAbs < 2 ^ 64) (hj : j.natAbs < 2 ^ 64) : CMulW i j := cm (big64 hi) (big64 hj)
theorem cm200 {i j : Int} (hi : i.natAbs < 2 ^ 200) (hj : j.natAbs < 2 ^ 200) : CMulW i j := cm (big200 hi) (big200 hj)
theorem cdiv {i j : Int} (h : 0 < j) (hj : j.natAbs < 2 ^ 64) : CDivW i j := wide_div h hj (by decide) (by decide)
theorem mod_abs {i n : Int} (hn : 0 < n) (h : n ≤ 2 ^ 63) : (i % n).natAbs < 2 ^ 64 := by
  have h1 := Int.emod_nonneg i (Int.ne_of_gt hn)
  have h2 := Int.emod_lt_of_pos i hn
  omega
theorem mul_abs {i j : Int} {a b c : Nat} (hi : i.natAbs < 2 ^ a) (hj : j.natAbs < 2 ^ b) (h : a + b ≤ c) : (i * j).natAbs < 2 ^ c :=
  Nat.lt_of_lt_of_le (wide_lt hi hj) (Nat.pow_le_pow_right (by decide) h)
/-- a built-in class as a value -/
theorem pe_ty {X : Cx} {x : Str} {pos : Pos} (n : String) (hg : Gl X x) (hm : X.mg x = none) (hv : bootBuiltins x = some (.type n))
    (hn : x ≠ "__name__" := by decide) (hd : (x == ("__debug__" : Str)) = false := by decide) : PE X (.Name x pos) (tC (.ty n)) :=
  pe_bltn hg hm hv (show RelV (.ty n) (.type n) from rfl) hn hd
theorem dk_make (a : Addr) (x y z : Int) :
    mergeK [] [((Sum.inr ("cells" : Str) : Key), V.ref a), (Sum.inr ("at" : Str), .int x), (Sum.inr ("left" : Str), .int y), (Sum.inr ("used" : Str), .int z)] = dk a x y z := by
  have e1 : ¬ ("cells" : Str) = "at" := by decide +kernel
  have e2 : ¬ ("cells" : Str) = "left" := by decide +kernel
  have e3 : ¬ ("cells" : Str) = "used" := by decide +kernel
  have e4 : ¬ ("at" : Str) = "left" := by decide +kernel
  have e5 : ¬ ("at" : Str) = "used" := by decide +kernel
  have e6 : ¬ ("left" : Str) = "used" := by decide +kernel
  simp [mergeK, putK, dk, e1, e2, e3, e4, e5, e6]
theorem pe_dispT {X : Cx} {k v : Expr} {pos : Pos} {ta tv : TE} (hu : X.A.units + 1 < cLine) (hk : PE X k ta) (hv : PE X v tv) : PE X (.Dict [some k] [v] pos) (tDispT ta tv) := by
  refine ⟨fun pins s σ H Q I q => ?_⟩
  have hn := I.hok.fresh (Nat.le_refl s.heap.objs.size)
  have I1 := I.laid (a := s.heap.objs.size) (o := .dT []) (h' := s.heap.push { cls := .type "dict", data := .dict #[] }) (t' := s.toks) (fun _ _ q => Heap.get?_push_of_some _ q) (Nat.le_refl _) (dt_empty s.heap I.big)
  have hp := (pps_cons (pos := pos) hk hv pps_nil).run pins _ σ _ (fun ps H2 => match ps with
    | [(x, y)] => ∃ (a : Addr) (i j : Int), x = .ref a ∧ H2 a = some (.tup [.int i, .int j]) ∧ H2 s.heap.objs.size = some (.dT []) ∧ Q (.ref s.heap.objs.size) (upd H2 s.heap.objs.size (.dT [([Sum.inl i, Sum.inl j], y)]))
    | _ => False) I1 (q _ hn)
  have hl : (pairTrees [some k] [v] X.env pos).length = 1 := pairTrees_length [some k] [v] X.env pos rfl rfl
  have h0 : pairTrees [some k] [v] X.env pos ≠ [] := fun e => by
    rw [e] at hl
    cases hl
  rw [arm_eval_Dict, zip_pairTrees [some k] [v] X.env pos rfl rfl, dictDisplay_pairs (pairTrees [some k] [v] X.env pos) h0 (by rw [hl]; decide)]
  refine wpAny_bind (wpAny_standAt (wpAny_bind (wpAny_subDictH (knd := tupleKind (mixKind X.prog X.w)) (Q := fun d s' => wpAny (model X.prog X.w) X.A (pure (Value.ref d)) _ _ s') (show X.A.units < cLine by omega) (by rw [hl]; decide) (thn hp fun vs s2 h2 => ?_))))
  obtain ⟨ps, H2, I2, rel, h2⟩ := h2
  match ps, rel, h2 with
  | [(x, y)], rel, ⟨a, i, j, ex, ea, ep, q2⟩ =>
    cases rel with
    | @cons _ b _ bs r rest =>
      cases rest
      obtain ⟨b1, b2⟩ := b
      obtain ⟨r1, r2⟩ := r
      subst ex
      cases (show b1 = Value.ref a from r1)
      obtain ⟨z, hd, xs, rx, dd⟩ := dt_of I2.hok ep
      cases rx
      have hkey := key_of (ks := [Sum.inl i, Sum.inl j]) I2.hok ea
      refine ⟨[([Sum.inl i, Sum.inl j], a, b2)], ⟨rfl, rfl, hkey, trivial⟩, dd, fun h' tk dd' hs => ?_⟩
      refine wpAny_pure ?_
      obtain ⟨o, es, epo, ho, h3, h4, h5, _, h6⟩ := dd'
      refine ⟨.ref s.heap.objs.size, _, ?_, rfl, q2⟩
      refine d_write I2 (by rw [ep]; exact True.intro) hs ⟨o, ho⟩ ⟨by show 1 ≤ sizeLine; decide, hd, _, ?_, o, es, epo, ho, h3, h4, h5, h6⟩
      refine .cons ⟨rfl, ?_, r2⟩ .nil
      rw [upd_ne (ne_of ea ep (fun z => nomatch z))]
      exact ea
/-- a module's constant that is an int -/
theorem pe_gcI {X : Cx} {x : Str} {n : Int} {pos : Pos} (hg : Gl X x) (h : ∃ k, X.mg x = some (.int n k)) (hd : (x == ("__debug__" : Str)) = false := by decide) : PE X (.Name x pos) (tC (.int n)) := by
  obtain ⟨k, h⟩ := h
  exact pe_glob hg h ⟨k, rfl⟩ hd
/-! ### the same rules, the written part K told (so that a comprehension's block says nothing of itself) -/
section
variable {X : Cx} {K : PySem.W.Frag}
theorem call_isiE (h : X.K = K) : CallR X (.builtin "isinstance") (rIsi K) := h ▸ call_isi
theorem call_isiTE (h : X.K = K) : CallR X (.builtin "isinstance") (rIsiT K) := h ▸ call_isiT
def rLen (K : PySem.W.Frag) : List V → Hp → VK → Prop := fun xs H Q => ∃ p ys, xs = [.ref p] ∧ (SqL K H p ys ∨ SqT K H p ys) ∧ Q (.int ys.length) H
theorem call_lenE (h : X.K = K) : CallR X (.builtin "len") (rLen K) := h ▸ call_len_seq
theorem call_listE (h : X.K = K) : CallR X (.type "list") (rListOf K) := h ▸ call_listN
theorem ix_listE (h : X.K = K) : IxR X (rIxL K) := h ▸ ix_list
theorem ix_tupE (h : X.K = K) : IxR X (rIxT K) := h ▸ ix_tup
theorem op_eqDE (h : X.K = K) (hu : X.A.units + 64 < cLine) : OpR X (compareOp .Eq) (rEqD K) := h ▸ op_eqD hu
theorem op_neDE (h : X.K = K) (hu : X.A.units + 64 < cLine) : OpR X (compareOp .NotEq) (rNeD K) := h ▸ op_neD hu
theorem op_catXE (h : X.K = K) : OpR X (binaryOp .Add) (rCatX K) := h ▸ op_catX
theorem op_catAE (h : X.K = K) : OpR X (binaryOp .Add) (rCatA K) := h ▸ op_catA
theorem sl_listE (h : X.K = K) : SlR X (rSlL K) := h ▸ sl_list
theorem sl_tupAE (h : X.K = K) : SlR X (rSlA K) := h ▸ sl_tupA
theorem pi_listE {tg l : Expr} {tl : TE} (h : X.K = K) (hl : PE X l tl) : PI X tg l (iList K tl) := h ▸ pi_list hl
theorem pi_tupE {tg l : Expr} {tl : TE} (h : X.K = K) (hl : PE X l tl) : PI X tg l (iTup K tl) := h ▸ pi_tup hl
theorem pg_tupE {es : List Expr} {k : Nat} {t : TGs} {n : Nat} {pos : Pos} (hK : X.K = K) (hc : X.calm = true) (h : PGs X es t)
    (hn : (assignEach es X.env).length = n := by rfl) (hst : (assignEach es X.env).findIdx? (·.1) = none := by rfl) : PG X (.Tuple es k pos) (gTup K n t) := hK ▸ pg_tup hc h hn hst
theorem pe_bmE {o e : Expr} {es : List Expr} {to : TE} {t : TA} {name : Str} {apos cpos : Pos} {T id : String} {r : V → List V → Hp → VK → Prop} (hK : X.K = K)
    (pa : PlainAttrs T) (slot : Slot T name id) (hty : typeOf (.builtin id) = pure (.type "method_descriptor")) (hm : MtR X id r) (ho : PE X o to) (ha : PA X (e :: es) t)
    (hbase : attributeBase o name X.env (eval o X.env) = eval o X.env := by rfl)
    (hfew : ((backTo cpos (starEach (e :: es) X.env)).all (fun x => !x.1) && (backToKw cpos (keywordEach [] X.env)).all (fun x => x.1.isSome) && decide ((e :: es).length + ([] : List Keyword).length + (if ([] : List Keyword).isEmpty then 0 else 1) < 30)) = true := by rfl)
    (hline : (apos.endLine == cpos.line) = true := by rfl) (hs : starEach (e :: es) X.env = (false, eval e X.env) :: starEach es X.env := by rfl)
    (hpl : (backTo cpos (starEach es X.env)).any (·.1) = false := by rfl) :
    PE X (.Call (.Attribute o name apos) (e :: es) [] cpos) (tBM K T r to t) := hK ▸ pe_bm pa slot hty hm ho ha hbase hfew hline hs hpl
theorem pe_bm0E {o : Expr} {to : TE} {name : Str} {apos cpos : Pos} {T id : String} {r : V → List V → Hp → VK → Prop} (hK : X.K = K)
    (pa : PlainAttrs T) (slot : Slot T name id) (hty : typeOf (.builtin id) = pure (.type "method_descriptor")) (hm : MtR X id r) (ho : PE X o to)
    (hbase : attributeBase o name X.env (eval o X.env) = eval o X.env := by rfl) (hline : (apos.endLine == cpos.line) = true := by rfl) :
    PE X (.Call (.Attribute o name apos) [] [] cpos) (tBM0 K T r to) := hK ▸ pe_bm0 pa slot hty hm ho hbase hline
end
section
variable {K : PySem.W.Frag} {H : Hp} {Q : VK}
theorem r_lenL {p : Addr} {ys : List V} (h1 : SqL K H p ys) (h : Q (.int ys.length) H) : rLen K [.ref p] H Q := ⟨p, ys, rfl, .inl h1, h⟩
theorem r_lenT {p : Addr} {ys : List V} (h1 : SqT K H p ys) (h : Q (.int ys.length) H) : rLen K [.ref p] H Q := ⟨p, ys, rfl, .inr h1, h⟩
theorem g_tup {a : Addr} {xs : List V} {n : Nat} {t : TGs} {σ : L2.St} {Q : L2.St → Hp → Prop} (h1 : SqT K H a xs) (hl : xs.length = n) (h : t xs σ H Q) : gTup K n t (.ref a) σ H Q := ⟨a, xs, rfl, h1, hl, h⟩
theorem r_gcons {g : TG} {t : TGs} {v : V} {r : List V} {σ : L2.St} {Q : L2.St → Hp → Prop} (h : g v σ H fun σ' H' => t r σ' H' Q) : gCons g t (v :: r) σ H Q := ⟨v, r, rfl, h⟩
theorem r_gnil {σ : L2.St} {Q : L2.St → Hp → Prop} (h : Q σ H) : gNil [] σ H Q := ⟨rfl, h⟩
end
end Og
namespace Os
open PySem PySem.Spec PyProof.Rows L2 Og
/-- all that needs no choice -/
local macro_rules | `(tactic| walk_at "og") => `(tactic| repeat' (first
  | (with_reducible refine Og.r_seq ?_) | (with_reducible refine Og.r_asg ?_) | (with_reducible refine Og.r_name ?_)
  | ((with_reducible refine' Og.r_var ?e ?_); (case e => rfl)) | (with_reducible refine Og.r_c ?_) | (with_reducible refine Og.r_op ?_) | (with_reducible refine Og.r_un ?_)
  | (with_reducible refine Og.r_I0 ?_) | (with_reducible refine Og.r_ret ?_) | (with_reducible refine Og.r_drop ?_) | (with_reducible refine Og.r_ifS ?_) | (with_reducible refine Og.r_next ?_)
  | (with_reducible refine Og.r_test ?_) | (with_reducible refine Og.r_tB ?_) | (with_reducible refine Og.r_bl ?_) | (with_reducible refine Og.r_not ?_) | (with_reducible refine Og.r_or ?_)
  | (with_reducible refine Og.r_and ?_) | (with_reducible refine Og.r_if ?_)
  | (with_reducible refine Og.r_nil ?_) | (with_reducible refine Og.r_cons ?_) | (with_reducible refine Og.r_cb ?_) | (with_reducible refine Og.r_g ?_) | (with_reducible refine Og.r_lst ?_)
  | (with_reducible refine Og.r_tup ?_) | (with_reducible refine Og.r_dget ?_) | (with_reducible refine Og.r_par ?_) | (with_reducible refine Og.r_par2 ?_)
  | (with_reducible refine Og.r_eqI ?_) | (with_reducible refine Og.r_neI ?_) | (with_reducible refine Og.r_rfl ?_) | (with_reducible refine Og.r_gcons ?_) | (with_reducible refine Og.r_gnil ?_) | (with_reducible refine Og.r_for ?_) | (with_reducible refine Og.r_rng1 ?_) | (with_reducible refine Og.r_ilist ?_) | (with_reducible refine Og.r_lc ?_) | (with_reducible refine Og.r_tYes ?_) | (with_reducible refine Og.r_bm ?_) | (with_reducible refine Og.r_sl ?_) | (with_reducible refine Og.r_np ?_) | (with_reducible refine Og.r_pt ?_) | (with_reducible refine Og.r_int ?_) | (with_reducible refine Og.r_dput ?_) | (with_reducible refine Og.r_pn ?_) | (with_reducible refine Og.r_pc ?_) | (with_reducible refine Og.r_dnew ?_)
  | ((with_reducible refine Og.r_ifT ?e ?_); (case e => rfl)) | ((with_reducible refine Og.r_ifF ?e ?_); (case e => rfl)) | fail))

/-! ### the text by places -/
def topS (i : Nat) : Stmt := PySem.Challenge.pw_oneseat_k01_numbers_and_errands.main.body.getD i (.Pass ⟨0, 0, 0, 0⟩)
abbrev sis_whole : Stmt := topS 5
theorem sc_is_whole : FnScope ["thing", "least", "most"] ["thing", "least", "most"] (defScope sis_whole) := ⟨rfl, rfl, rfl, by decide +kernel, rfl, by decide +kernel, by decide +kernel⟩
abbrev sis_errand : Stmt := topS 6
theorem sc_is_errand : FnScope ["thing", "floors", "begin", "steps"] ["thing", "floors"] (defScope sis_errand) := ⟨rfl, rfl, rfl, by decide +kernel, rfl, by decide +kernel, by decide +kernel⟩
abbrev s_law_begin : Stmt := topS 8
theorem sc__law_begin : FnScope ["script"] ["script"] (defScope s_law_begin) := ⟨rfl, rfl, rfl, by decide +kernel, rfl, by decide +kernel, by decide +kernel⟩
abbrev s_law_mixed : Stmt := topS 9
theorem sc__law_mixed : FnScope ["cell", "k", "number"] ["cell", "k"] (defScope s_law_mixed) := ⟨rfl, rfl, rfl, by decide +kernel, rfl, by decide +kernel, by decide +kernel⟩
abbrev s_law_next : Stmt := topS 10
theorem sc__law_next : FnScope ["draw", "many", "found", "cells", "cell"] ["draw", "many"] (defScope s_law_next) := ⟨rfl, rfl, rfl, by decide +kernel, rfl, by decide +kernel, by decide +kernel⟩
abbrev s_law_odd : Stmt := topS 11
theorem sc__law_odd : FnScope ["draw", "some"] ["draw"] (defScope s_law_odd) := ⟨rfl, rfl, rfl, by decide +kernel, rfl, by decide +kernel, by decide +kernel⟩
abbrev s_law_bounds_right : Stmt := topS 12
theorem sc__law_bounds_right : FnScope ["draw", "low", "high", "great", "k", "number", "got", "due", "odd", "one"] ["draw"] (defScope s_law_bounds_right) := ⟨rfl, rfl, rfl, by decide +kernel, rfl, by decide +kernel, by decide +kernel⟩
abbrev s_law_errands_right : Stmt := topS 13
theorem sc__law_errands_right : FnScope ["draw", "size", "odd", "begins", "steps", "j", "k", "good", "some", "one"] ["draw", "size"] (defScope s_law_errands_right) := ⟨rfl, rfl, rfl, by decide +kernel, rfl, by decide +kernel, by decide +kernel⟩
abbrev slaw : Stmt := topS 14
theorem sc_law : FnScope ["script", "draw", "turn"] ["script"] (defScope slaw) := ⟨rfl, rfl, rfl, by decide +kernel, rfl, by decide +kernel, by decide +kernel⟩
/-- what the module's names hold -/
structure Txt (mg : Str → Option Value) : Prop where
  z_bool : mg "bool" = none
  z_int : mg "int" = none
  z_isinstance : mg "isinstance" = none
  z_len : mg "len" = none
  z_list : mg "list" = none
  z_min : mg "min" = none
  z_range : mg "range" = none
  z_repr : mg "repr" = none
  z_tuple : mg "tuple" = none
  c_MOST_ERRANDS : ∃ k, mg "MOST_ERRANDS" = some (.int 40 k)
  c_MOST_FLOORS : ∃ k, mg "MOST_FLOORS" = some (.int 16 k)
  c_MOST_ROUNDS : ∃ k, mg "MOST_ROUNDS" = some (.int 130 k)
  c_MOST_SEATS : ∃ k, mg "MOST_SEATS" = some (.int 6 k)
abbrev gv_is_whole_1_least_most : List V → List V → List V := fun vs zs => vs.take 1 ++ zs.take 1 ++ (zs.drop 1).take 1
abbrev gv_is_whole_1_most : List V → List V → List V := fun vs zs => vs.take 1 ++ [V.int 0] ++ zs.take 1
abbrev gv__law_mixed_2 : List V → List V → List V := fun vs zs => vs.take 1 ++ (vs.drop 1).take 1
abbrev gv__law_next_2 : List V → List V → List V := fun vs zs => vs.take 1 ++ (vs.drop 1).take 1
abbrev gv__law_odd_1 : List V → List V → List V := fun vs zs => vs.take 1
abbrev gv_is_whole_0_most_least_thing : List V → List V → List V := fun vs zs => (zs.drop 2).take 1 ++ (zs.drop 1).take 1 ++ zs.take 1
abbrev gv_is_whole_0_thing_least : List V → List V → List V := fun vs zs => zs.take 1 ++ (zs.drop 1).take 1 ++ [V.non]
abbrev gv_is_whole_1 : List V → List V → List V := fun vs zs => vs.take 1 ++ [V.int 0] ++ [V.non]
abbrev gv_is_errand_0_thing_floors : List V → List V → List V := fun vs zs => zs.take 1 ++ (zs.drop 1).take 1
abbrev gv_is_errand_1_floors : List V → List V → List V := fun vs zs => vs.take 1 ++ zs.take 1
abbrev gv__law_begin_1 : List V → List V → List V := fun vs zs => vs.take 1
abbrev gv__law_bounds_right_1 : List V → List V → List V := fun vs zs => vs.take 1
abbrev gv__law_errands_right_2 : List V → List V → List V := fun vs zs => vs.take 1 ++ (vs.drop 1).take 1

/-! ### whole numbers -/
def NotInt (K : PySem.W.Frag) (H : Hp) (x : V) : Prop := ∃ t b1 b2, TyX K H x t ∧ PySem.W.kitOne K t (.type "int") = some b1 ∧ PySem.W.kitOne K t (.type "bool") = some b2 ∧ (b1 && !b2) = false
def loOk : V → Int → Bool
  | .int l, i => decide (l ≤ i)
  | _, _ => true
def hiOk : V → Int → Bool
  | .int l, i => decide (i ≤ l)
  | _, _ => true
def Bd (v : V) : Prop := v = .non ∨ ∃ l, v = .int l
def Whole (K : PySem.W.Frag) (H : Hp) (x lo hi : V) (b : Bool) : Prop := (∃ i, x = .int i ∧ b = (loOk lo i && hiOk hi i)) ∨ (NotInt K H x ∧ b = false)
def spWhole (K : PySem.W.Frag) : Sp := fun vs H Q _ => ∃ (x lo hi : V) (b : Bool), vs = [x, lo, hi] ∧ Bd lo ∧ Bd hi ∧ Whole K H x lo hi b ∧ Q (.bl b) H
theorem r_isi {K : PySem.W.Frag} {H : Hp} {Q : VK} {x : V} {t : Value} {n : String} {b : Bool} (ty : TyX K H x t) (e : PySem.W.kitOne K t (.type n) = some b) (h : Q (.bl b) H) : rIsi K [x, .ty n] H Q :=
  ⟨x, .ty n, t, .type n, b, rfl, .ty n, ty, e, h⟩
theorem qb {Q : VK} {H : Hp} {b c : Bool} (q : Q (.bl b) H) (e : b = c) : Q (.bl c) H := e ▸ q
def Errand (K : PySem.W.Frag) (H : Hp) (x : V) (fl : Int) (b : Bool) : Prop :=
  (∃ (a : Addr) (u v : V) (b1 b2 : Bool), x = .ref a ∧ H a = some (.tup [u, v]) ∧ Whole K H u (.int 0) (.int (fl - 1)) b1 ∧ Whole K H v (.int 1) (.int (3 * fl)) b2 ∧ b = (b1 && b2)) ∨
    (b = false ∧ ((∃ t, TyX K H x t ∧ PySem.W.kitOne K t (.type "tuple") = some false) ∨ ∃ a xs, x = .ref a ∧ H a = some (.tup xs) ∧ xs.length ≠ 2))
def spErrand (K : PySem.W.Frag) : Sp := fun vs H Q _ => ∃ (x : V) (fl : Int) (b : Bool), vs = [x, .int fl] ∧ fl.natAbs < 2 ^ 64 ∧ Errand K H x fl b ∧ Q (.bl b) H
def spBegin (K : PySem.W.Frag) : Sp := fun vs H Q _ => ∃ (a : Addr) (ns : List Int), vs = [.ref a] ∧ SqL K H a (ns.map V.int) ∧ ns.length ≤ 63 ∧
  ∀ d B H', Same H B → Wd K d (2 ^ 39) [] B H' → Q (.ref d) H'
def spMixed (K : PySem.W.Frag) : Sp := fun vs H Q _ => ∃ (c k : Int), vs = [.int c, .int k] ∧ 0 ≤ k ∧ k ≤ 2 ^ 40 ∧ ∀ r : Int, Q (.int r) H
def spNext (K : PySem.W.Frag) : Sp := fun vs H Q _ => ∃ (d : Addr) (m : Nat) (ms : List (Addr × HO)) (B : Hp) (n : Int), vs = [.ref d, .int n] ∧ Wd K d (m + 1) ms B H ∧ 0 < n ∧ n ≤ 2 ^ 40 ∧
  ∀ H' r, Wd K d m ms B H' → 0 ≤ r → r < n → Q (.int r) H'
/-- a thing of another kind -/
def Odd (B : Hp) (v : V) : Prop := v = .non ∨ (∃ b, v = .bl b) ∨ (∃ x, v = .str x) ∨ (∃ a xs, v = .ref a ∧ B a = some (.lst xs)) ∨ (∃ a kvs, v = .ref a ∧ B a = some (.dK kvs)) ∨
  ∃ a xs, v = .ref a ∧ B a = some (.tup xs) ∧ (xs = [.int 1] ∨ xs = [] ∨ xs = [.non, .int 1])
theorem dp8 {K : PySem.W.Frag} {H : Hp} : DpAll K H [.bl false, .bl false, .bl false, .bl false, .bl false, .bl false, .bl false, .bl false]
    [.bool false, .bool false, .bool false, .bool false, .bool false, .bool false, .bool false, .bool false] :=
  .cons (.bl _) (.cons (.bl _) (.cons (.bl _) (.cons (.bl _) (.cons (.bl _) (.cons (.bl _) (.cons (.bl _) (.cons (.bl _) .nil)))))))
def spLaw (K : PySem.W.Frag) : Sp := fun vs H Q _ => ∃ (a : Addr) (ns : List Int), vs = [.ref a] ∧ SqL K H a (ns.map V.int) ∧ ns.length ≤ 63 ∧ ∀ H', Q (.bl true) H'
theorem law_sp (K : PySem.W.Frag) (H : Hp) (a : Addr) (ns : List Int) (h : ns.length ≤ 63) (_ : Only H) (hS : SqL K H a (ns.map V.int)) : spLaw K [.ref a] H (fun v _ => v = .bl true) fun _ _ _ => False :=
  ⟨a, ns, rfl, hS, h, fun _ => rfl⟩
theorem whole_t {l h i : Int} (h1 : l ≤ i) (h2 : i ≤ h) : true = (loOk (.int l) i && hiOk (.int h) i) := by
  show true = (decide (l ≤ i) && decide (i ≤ h))
  rw [decide_eq_true h1, decide_eq_true h2]
  rfl
theorem whole_f {l h i : Int} (h1 : i < l ∨ h < i) : false = (loOk (.int l) i && hiOk (.int h) i) := by
  show false = (decide (l ≤ i) && decide (i ≤ h))
  rcases h1 with h1 | h1
  · rw [decide_eq_false (show ¬ l ≤ i by omega)]
    rfl
  · rw [decide_eq_false (show ¬ i ≤ h by omega), Bool.and_false]
theorem notInt_bl {K : PySem.W.Frag} {H : Hp} (b : Bool) : NotInt K H (.bl b) := ⟨_, true, true, .base (.bl b), kit_ty (by decide +kernel), kit_ty (by decide +kernel), rfl⟩
theorem notInt_tup {K : PySem.W.Frag} {H : Hp} {a : Addr} {xs : List V} (e : H a = some (.tup xs)) : NotInt K H (.ref a) := ⟨_, false, false, .base (.tup e), kit_ty (by decide +kernel), kit_ty (by decide +kernel), rfl⟩
theorem Odd.errand {K : PySem.W.Frag} {B H : Hp} {v : V} {n : Int} (h : Odd B v) (s : Same B H) : Errand K H v n false := by
  rcases h with rfl | ⟨b, rfl⟩ | ⟨x, rfl⟩ | ⟨a, xs, rfl, e⟩ | ⟨a, kvs, rfl, e⟩ | ⟨a, xs, rfl, e, rfl | rfl | rfl⟩
  · exact .inr ⟨rfl, .inl ⟨_, .base .non, kit_ty (by decide +kernel)⟩⟩
  · exact .inr ⟨rfl, .inl ⟨_, .base (.bl b), kit_ty (by decide +kernel)⟩⟩
  · exact .inr ⟨rfl, .inl ⟨_, .base (.str x), kit_ty (by decide +kernel)⟩⟩
  · exact .inr ⟨rfl, .inl ⟨_, .base (.lst (s _ _ e)), kit_ty (by decide +kernel)⟩⟩
  · exact .inr ⟨rfl, .inl ⟨_, .base (.dK (s _ _ e)), kit_ty (by decide +kernel)⟩⟩
  · exact .inr ⟨rfl, .inr ⟨_, _, rfl, s _ _ e, by show 1 ≠ 2; decide⟩⟩
  · exact .inr ⟨rfl, .inr ⟨_, _, rfl, s _ _ e, by show 0 ≠ 2; decide⟩⟩
  · exact .inl ⟨_, _, _, false, (loOk (.int 1) 1 && hiOk (.int (3 * n)) 1), rfl, s _ _ e, .inr ⟨⟨_, false, false, .base .non, kit_ty (by decide +kernel), kit_ty (by decide +kernel), rfl⟩, rfl⟩, .inl ⟨1, rfl, rfl⟩, rfl⟩
theorem Odd.notInt {K : PySem.W.Frag} {B H : Hp} {v : V} (h : Odd B v) (s : Same B H) : NotInt K H v := by
  rcases h with rfl | ⟨b, rfl⟩ | ⟨x, rfl⟩ | ⟨a, xs, rfl, e⟩ | ⟨a, kvs, rfl, e⟩ | ⟨a, xs, rfl, e, _⟩
  · exact ⟨_, false, false, .base .non, kit_ty (by decide +kernel), kit_ty (by decide +kernel), rfl⟩
  · exact ⟨_, true, true, .base (.bl b), kit_ty (by decide +kernel), kit_ty (by decide +kernel), rfl⟩
  · exact ⟨_, false, false, .base (.str x), kit_ty (by decide +kernel), kit_ty (by decide +kernel), rfl⟩
  · exact ⟨_, false, false, .base (.lst (s _ _ e)), kit_ty (by decide +kernel), kit_ty (by decide +kernel), rfl⟩
  · exact ⟨_, false, false, .base (.dK (s _ _ e)), kit_ty (by decide +kernel), kit_ty (by decide +kernel), rfl⟩
  · exact ⟨_, false, false, .base (.tup (s _ _ e)), kit_ty (by decide +kernel), kit_ty (by decide +kernel), rfl⟩
def spOdd (K : PySem.W.Frag) : Sp := fun vs H Q _ => ∃ (d : Addr) (m : Nat) (ms : List (Addr × HO)) (B : Hp), vs = [.ref d] ∧ Wd K d (m + 1) ms B H ∧
  ∀ B' H' v, Wd K d m ms B' H' → Same B B' → Odd B' v → Q v H'
def spBounds (K : PySem.W.Frag) : Sp := fun vs H Q _ => ∃ (d : Addr) (m : Nat) (ms : List (Addr × HO)) (B : Hp), vs = [.ref d] ∧ Wd K d (m + 3) ms B H ∧
  ∀ B' H', Wd K d m ms B' H' → Same B B' → Q (.bl true) H'
def spErrands (K : PySem.W.Frag) : Sp := fun vs H Q _ => ∃ (d : Addr) (m : Nat) (ms : List (Addr × HO)) (B : Hp) (n : Int), vs = [.ref d, .int n] ∧ Wd K d (m + 3) ms B H ∧ 2 ≤ n ∧ n ≤ 16 ∧
  ∀ B' H', Wd K d m ms B' H' → Same B B' → Q (.bl true) H'
section
variable {P : Program} {w : World} {K : PySem.W.Frag} {mg : Str → Option Value} {base : Heap}
theorem ok_is_whole {f : Addr} {fd : FuncData} (F : FunD K "is_whole" "is_whole" (defArgs sis_whole) (defBody sis_whole) (defScope sis_whole) [] [("least", V.int 0), ("most", V.non)] f fd) (T : Txt mg)
     :
    FnG P w K mg base CX0 1 f fd ["thing", "least", "most"] (spWhole K) := by
  refine okG F sc_is_whole (fun vs H Q E h => ?_) (fun cdv A outer s H vs Q E hr hg h => ?_)
  · obtain ⟨x, lo, hi, b, rfl, _⟩ := h
    rfl
  · obtain ⟨x, lo, hi, b, rfl, bl, bh, hw, q⟩ := h
    have hu := hu_of hr
    refine ⟨_, (pss_cons (ps_if (PW.pt (pw_or (pt_not (pt_val (pe_callB (id := "isinstance") (call_isiE (K := K) rfl) (by rfl) T.z_isinstance (by decide +kernel) (pa_cons (pv 0) (pa_cons (pe_ty "int" (by rfl) T.z_int (by decide +kernel)) pa_nil))))) (pw_or1 (pt_val (pe_callB (id := "isinstance") (call_isiE (K := K) rfl) (by rfl) T.z_isinstance (by decide +kernel) (pa_cons (pv 0) (pa_cons (pe_ty "bool" (by rfl) T.z_bool (by decide +kernel)) pa_nil)))))))
        (pss_one (ps_ret pe_bl))
        pss_nil)
      (pss_cons (ps_if (PW.pt (pw_and (pt_cmpR op_notN (pv 1) pe_non (nomark _)) (pw_and1 (pt_cmpR op_lt (pv 0) (pv 1) (nomark _)))))
        (pss_one (ps_ret pe_bl))
        pss_nil)
      (pss_one (ps_ret (pe_or (pe_cmpR op_isN (pv 2) pe_non (nomark _)) (pe_one (pe_cmpR op_le (pv 0) (pv 2) (nomark _)))))))), ?_⟩
    rcases hw with ⟨i, rfl, rfl⟩ | ⟨⟨t, b1, b2, ty, e1, e2, e3⟩, rfl⟩
    · rcases bl with rfl | ⟨l, rfl⟩ <;> rcases bh with rfl | ⟨m, rfl⟩
      all_goals
        walk_at "og"
        refine r_isi (.base (.int i)) (kit_ty (b := "int") (r := true) (by decide +kernel)) ?_
        walk_at "og"
        refine r_isi (.base (.int i)) (kit_ty (b := "bool") (r := false) (by decide +kernel)) ?_
        walk_at "og"
      · refine r_orV ?_
        walk_at "og"
        exact q
      · refine r_orV ?_
        walk_at "og"
        exact qb q (Bool.true_and _)
      all_goals
        refine ite2 (fun c => ?_) (fun c => ?_)
        · walk_at "og"
          refine qb q ?_
          have c' := of_decide_eq_true c
          rw [show loOk (V.int l) i = false from decide_eq_false (by omega)]
          rfl
        · walk_at "og"
          refine r_orV ?_
          walk_at "og"
          refine qb q ?_
          have c' : ¬ i < l := fun z => c (decide_eq_true z)
          rw [show loOk (V.int l) i = true from decide_eq_true (by omega)]
          exact Bool.true_and _
    · walk_at "og"
      refine r_isi ty e1 ?_
      cases b1 with
      | false =>
        walk_at "og"
        exact q
      | true =>
        walk_at "og"
        refine r_isi ty e2 ?_
        cases b2 with
        | false => cases e3
        | true =>
          walk_at "og"
          exact q
theorem r_chnX {σ : L2.St} {H : Hp} {Q : VK} {r r' : R2} {ta tb tc : TE} (h : ta σ H fun x H1 => tb σ H1 fun y H2 => r x y H2 fun z H3 => ∃ k, z = .bl k ∧ (if k = true then tc σ H3 fun w' H4 => r' y w' H4 Q else Q (.bl false) H3)) : tChain r r' ta tb tc σ H Q := h
theorem ok_is_errand {f : Addr} {fd : FuncData} (F : FunD K "is_errand" "is_errand" (defArgs sis_errand) (defBody sis_errand) (defScope sis_errand) [] [] f fd) (T : Txt mg)
    (C_is_whole_1_least_most : CalG P w K mg base CX0 1 "is_whole" (spWhole K) 1 ["least", "most"] gv_is_whole_1_least_most) (C_is_whole_1_most : CalG P w K mg base CX0 1 "is_whole" (spWhole K) 1 ["most"] gv_is_whole_1_most) :
    FnG P w K mg base CX0 2 f fd ["thing", "floors"] (spErrand K) := by
  refine okG F sc_is_errand (fun vs H Q E h => ?_) (fun cdv A outer s H vs Q E hr hg h => ?_)
  · obtain ⟨x, fl, b, rfl, _⟩ := h
    rfl
  · obtain ⟨x, fl, b, rfl, hf, he, q⟩ := h
    have hu := hu_of hr
    refine ⟨_, (pss_cons (ps_if (PW.pt (pw_or (pt_not (pt_val (pe_callB (id := "isinstance") (call_isiE (K := K) rfl) (by rfl) T.z_isinstance (by decide +kernel) (pa_cons (pv 0) (pa_cons (pe_ty "tuple" (by rfl) T.z_tuple (by decide +kernel)) pa_nil))))) (pw_or1 (pt_cmpR op_ne (pe_callB (id := "len") (call_lenE (K := K) rfl) (by rfl) T.z_len (by decide +kernel) (pa_cons (pv 0) pa_nil)) pe_int (nomark _)))))
        (pss_one (ps_ret pe_bl))
        pss_nil)
      (pss_cons (ps_asg (pv 0) (pg_tupE (K := K) rfl rfl (pgs_cons (pg_name (i := 2) sc_is_errand.nd rfl (Or.inl rfl)) (pgs_cons (pg_name (i := 3) sc_is_errand.nd rfl (Or.inl rfl)) pgs_nil))))
      (pss_cons (ps_if (PW.pt (pw_or (pt_not (pt_val (pe_callB (id := "isinstance") (call_isiE (K := K) rfl) (by rfl) T.z_isinstance (by decide +kernel) (pa_cons (pv 2) (pa_cons (pe_ty "int" (by rfl) T.z_int (by decide +kernel)) pa_nil))))) (pw_or (pt_not (pt_val (pe_callB (id := "isinstance") (call_isiE (K := K) rfl) (by rfl) T.z_isinstance (by decide +kernel) (pa_cons (pv 3) (pa_cons (pe_ty "int" (by rfl) T.z_int (by decide +kernel)) pa_nil))))) (pw_or (pt_val (pe_callB (id := "isinstance") (call_isiE (K := K) rfl) (by rfl) T.z_isinstance (by decide +kernel) (pa_cons (pv 2) (pa_cons (pe_ty "bool" (by rfl) T.z_bool (by decide +kernel)) pa_nil)))) (pw_or1 (pt_val (pe_callB (id := "isinstance") (call_isiE (K := K) rfl) (by rfl) T.z_isinstance (by decide +kernel) (pa_cons (pv 3) (pa_cons (pe_ty "bool" (by rfl) T.z_bool (by decide +kernel)) pa_nil)))))))))
        (pss_one (ps_ret pe_bl))
        pss_nil)
      (pss_one (ps_ret (pe_and (pe_chain op_le op_lt pe_int (pv 2) (pv 1)) (pe_one (pe_chain op_lt op_le pe_int (pv 3) (pe_op op_mulW pe_int (pv 1)))))))))), ?_⟩
    have kI : PySem.W.kitOne K (.type "int") (.type "int") = some true := kit_ty (by decide +kernel)
    have kB : PySem.W.kitOne K (.type "int") (.type "bool") = some false := kit_ty (by decide +kernel)
    rcases he with ⟨a, u, v, b1, b2, rfl, ha, hw1, hw2, rfl⟩ | ⟨rfl, ⟨t, ty, e⟩ | ⟨a, xs, rfl, ha, hl⟩⟩
    · walk_at "og"
      refine r_isi (.base (.tup ha)) (kit_ty (b := "tuple") (r := true) (by decide +kernel)) ?_
      walk_at "og"
      refine r_lenT (SqT.of ha) ?_
      walk_at "og"
      refine g_tup (SqT.of ha) rfl ?_
      walk_at "og"
      rcases hw1 with ⟨i, rfl, rfl⟩ | ⟨nt, rfl⟩
      · refine r_isi (.base (.int i)) kI ?_
        walk_at "og"
        rcases hw2 with ⟨j, rfl, rfl⟩ | ⟨nt, rfl⟩
        · refine r_isi (.base (.int j)) kI ?_
          walk_at "og"
          refine r_isi (.base (.int i)) kB ?_
          walk_at "og"
          refine r_isi (.base (.int j)) kB ?_
          walk_at "og"
          refine r_andV ?_
          walk_at "og"
          refine r_chnX ?_
          walk_at "og"
          refine ite2 (fun c0 => ?_) (fun c0 => ?_)
          · walk_at "og"
            refine ite2 (fun c1 => ?_) (fun c1 => ?_)
            · refine r_chnX ?_
              walk_at "og"
              have c0' := of_decide_eq_true c0
              have c1' := of_decide_eq_true c1
              refine ite2 (fun c2 => ?_) (fun c2 => ?_)
              · have c2' := of_decide_eq_true c2
                walk_at "og"
                refine r_I (cm64 (by decide) hf) ?_
                walk_at "og"
                refine qb q ?_
                show (decide (0 ≤ i) && decide (i ≤ fl - 1) && (decide (1 ≤ j) && decide (j ≤ 3 * fl))) = decide (j ≤ 3 * fl)
                rw [decide_eq_true c0', decide_eq_true (show i ≤ fl - 1 by omega), decide_eq_true (show 1 ≤ j by omega)]
                rfl
              · have c2' : ¬ 0 < j := fun z => c2 (decide_eq_true z)
                walk_at "og"
                refine qb q ?_
                show (decide (0 ≤ i) && decide (i ≤ fl - 1) && (decide (1 ≤ j) && decide (j ≤ 3 * fl))) = false
                rw [decide_eq_false (show ¬ 1 ≤ j by omega)]
                simp
            · have c1' : ¬ i < fl := fun z => c1 (decide_eq_true z)
              walk_at "og"
              refine qb q ?_
              show (decide (0 ≤ i) && decide (i ≤ fl - 1) && (decide (1 ≤ j) && decide (j ≤ 3 * fl))) = false
              rw [decide_eq_false (show ¬ i ≤ fl - 1 by omega)]
              simp
          · have c0' : ¬ 0 ≤ i := fun z => c0 (decide_eq_true z)
            walk_at "og"
            refine qb q ?_
            show (decide (0 ≤ i) && decide (i ≤ fl - 1) && (decide (1 ≤ j) && decide (j ≤ 3 * fl))) = false
            rw [decide_eq_false c0']
            rfl
        · obtain ⟨t, b1, b2, ty, e1, e2, e3⟩ := nt
          refine r_isi ty e1 ?_
          cases b1 with
          | false =>
            walk_at "og"
            exact qb q (Bool.and_false _)
          | true =>
            walk_at "og"
            refine r_isi (.base (.int i)) kB ?_
            walk_at "og"
            refine r_isi ty e2 ?_
            cases b2 with
            | false => cases e3
            | true =>
              walk_at "og"
              exact qb q (Bool.and_false _)
      · obtain ⟨t, b1, b2, ty, e1, e2, e3⟩ := nt
        refine r_isi ty e1 ?_
        cases b1 with
        | false =>
          walk_at "og"
          exact q
        | true =>
          walk_at "og"
          rcases hw2 with ⟨j, rfl, rfl⟩ | ⟨nt', rfl⟩
          · refine r_isi (.base (.int j)) kI ?_
            walk_at "og"
            refine r_isi ty e2 ?_
            cases b2 with
            | false => cases e3
            | true =>
              walk_at "og"
              exact q
          · obtain ⟨t', c1, c2, ty', f1, f2, f3⟩ := nt'
            refine r_isi ty' f1 ?_
            cases c1 with
            | false =>
              walk_at "og"
              exact q
            | true =>
              walk_at "og"
              refine r_isi ty e2 ?_
              cases b2 with
              | false => cases e3
              | true =>
                walk_at "og"
                exact q
    · walk_at "og"
      refine r_isi ty e ?_
      walk_at "og"
      exact q
    · walk_at "og"
      refine r_isi (.base (.tup ha)) (kit_ty (b := "tuple") (r := true) (by decide +kernel)) ?_
      walk_at "og"
      refine r_lenT (SqT.of ha) ?_
      walk_at "og"
      refine r_ifT ?_ ?_
      · have : ¬ (xs.length : Int) = 2 := by omega
        rw [decide_eq_false this]
        rfl
      · walk_at "og"
        exact q
theorem ok__law_begin {f : Addr} {fd : FuncData} (F : FunD K "_law_begin" "_law_begin" (defArgs s_law_begin) (defBody s_law_begin) (defScope s_law_begin) [] [] f fd) (T : Txt mg)
     :
    FnG P w K mg base CX0 1 f fd ["script"] (spBegin K) := by
  refine okG F sc__law_begin (fun vs H Q E h => ?_) (fun cdv A outer s H vs Q E hr hg h => ?_)
  · obtain ⟨a, ns, rfl, _⟩ := h
    rfl
  · obtain ⟨a, ns, rfl, ha, hl, q⟩ := h
    have hu := hu_of hr
    refine ⟨_, (pss_one (ps_ret (pe_disp (pps_cons pe_str (pe_op (op_catXE (K := K) rfl) (pv 0) (pe_lst (pa_cons pe_int pa_nil))) (pps_cons pe_str pe_int (pps_cons pe_str pe_int (pps_cons pe_str pe_int pps_nil)))) (by rfl) (by rfl) (fun z => by cases z) (by decide)))), ?_⟩
    walk_at "og"
    refine r_disp ?_
    intro d hd
    walk_at "og"
    refine ⟨by decide, ?_⟩
    intro p hp
    have s1 : Same H (upd H d (.dK [])) := same_new hd
    have s2 : Same (upd H d (.dK [])) (upd (upd H d (.dK [])) p (.lst [.int 0])) := same_new hp
    refine r_catX (s2.seq (s1.seq ha)) (SqL.of upd_same) ?_ ?_
    · rw [List.length_map]
      exact Nat.le_trans (Nat.add_le_add_right hl 1) (by decide)
    intro r hr'
    have s3 := same_new (o := HO.lst (ns.map V.int ++ [.int 0])) hr'
    walk_at "og"
    have pd : d ≠ p := ne_of_none upd_same hp
    have rd : d ≠ r := fun e => by
      subst e
      rw [upd_ne pd, upd_same] at hr'
      cases hr'
    refine ⟨?_, [(Sum.inr "cells", .ref r), (Sum.inr "at", .int 0), (Sum.inr "left", .int 0), (Sum.inr "used", .int 0)], rfl, (by show 4 ≤ 15; decide), ?_⟩
    · rw [upd_ne rd, upd_ne pd, upd_same]
    rw [dk_make]
    refine q d (upd H r (.lst ((ns ++ [0]).map V.int))) _ (same_new (s1.free (s2.free hr'))) ⟨fun b o e => ?_, ⟨⟨r, ns ++ [0], 0, 0, 0, upd_same, SqL.of upd_same, ?_, ?_, by decide, by decide, by decide, by decide⟩, ?_⟩, fun q hq => absurd hq List.not_mem_nil, List.nodup_nil⟩
    · have hb : b ≠ d := fun z => by
        subst z
        rw [upd_ne rd, hd] at e
        cases e
      rw [upd_ne hb]
      by_cases br : b = r
      · subst br
        rw [upd_same] at e
        cases e
        rw [upd_same, List.map_append]
        rfl
      · rw [upd_ne br] at e
        rw [upd_ne br]
        exact s2 _ _ (s1 _ _ e)
    · intro z
      cases ns <;> cases z
    · rw [List.length_append]
      exact Nat.add_le_add_right hl 1
    · rw [upd_ne rd]
      exact hd
theorem ok__law_mixed {f : Addr} {fd : FuncData} (F : FunD K "_law_mixed" "_law_mixed" (defArgs s_law_mixed) (defBody s_law_mixed) (defScope s_law_mixed) [] [] f fd) (T : Txt mg)
     :
    FnG P w K mg base CX0 1 f fd ["cell", "k"] (spMixed K) := by
  refine okG F sc__law_mixed (fun vs H Q E h => ?_) (fun cdv A outer s H vs Q E hr hg h => ?_)
  · obtain ⟨c, k, rfl, _⟩ := h
    rfl
  · obtain ⟨c, k, rfl, hk0, hk, q⟩ := h
    have hu := hu_of hr
    refine ⟨_, (pss_cons (ps_set (i := 2) sc__law_mixed.nd rfl (Or.inl rfl) (pe_op op_mod (pe_op op_add (pe_op op_add (pe_op op_add (pe_op op_mod (pv 0) pe_int) (pe_op op_mulW (pe_op op_mulW pe_int (pv 1)) (pv 1))) (pe_op op_mulW pe_int (pv 1))) pe_int) pe_int))
      (pss_cons (ps_set (i := 2) sc__law_mixed.nd rfl (Or.inl rfl) (pe_op op_mod (pe_op op_mulW (pe_op op_mod (pe_op op_mulW (pv 2) (pv 2)) pe_int) (pv 2)) pe_int))
      (pss_one (ps_ret (pe_op op_fdivW (pe_op op_mod (pe_op op_mulW (pv 2) (pe_op op_add pe_int (pe_op op_mulW pe_int (pe_op op_mod (pv 1) pe_int)))) pe_int) pe_int))))), ?_⟩
    have a1 : (7919 : Int).natAbs < 2 ^ 20 := by decide
    have a2 : k.natAbs < 2 ^ 41 := by omega
    have a3 : (7919 * k).natAbs < 2 ^ 64 := mul_abs a1 a2 (by decide)
    walk_at "og"
    refine r_I (by decide) ?_
    walk_at "og"
    refine r_I (cm64 (by decide) (by omega)) ?_
    walk_at "og"
    refine r_I (cm64 a3 (by omega)) ?_
    walk_at "og"
    refine r_I (cm64 (by decide) (by omega)) ?_
    walk_at "og"
    refine r_I (by decide) ?_
    walk_at "og"
    generalize hx : (c % 1000000007 + 7919 * k * k + 31 * k + 7) % 2147483647 = x
    have b1 : x.natAbs < 2 ^ 32 := by
      have h1 := Int.emod_nonneg (c % 1000000007 + 7919 * k * k + 31 * k + 7) (b := 2147483647) (by decide)
      have h2 := Int.emod_lt_of_pos (c % 1000000007 + 7919 * k * k + 31 * k + 7) (b := 2147483647) (by decide)
      omega
    have m31 : ∀ i : Int, (i % 2147483647).natAbs < 2 ^ 64 := fun i => mod_abs (by decide) (by decide)
    refine r_I (cm64 (by omega) (by omega)) ?_
    walk_at "og"
    refine r_I (by decide) ?_
    walk_at "og"
    refine r_I (cm64 (m31 _) (by omega)) ?_
    walk_at "og"
    refine r_I (by decide) ?_
    walk_at "og"
    generalize hy : x * x % 2147483647 * x % 2147483629 = y
    have b2 : y.natAbs < 2 ^ 64 := by
      rw [← hy]
      exact mod_abs (by decide) (by decide)
    refine r_I (by decide) ?_
    walk_at "og"
    refine r_I (cm64 (by decide) (mod_abs (by decide) (by decide))) ?_
    walk_at "og"
    refine r_I (cm64 b2 ?_) ?_
    · have h1 := Int.emod_nonneg k (b := 1000) (by decide)
      have h2 := Int.emod_lt_of_pos k (b := 1000) (by decide)
      omega
    walk_at "og"
    refine r_I (by decide) ?_
    walk_at "og"
    refine r_I (cdiv (by decide) (by decide)) ?_
    exact q _
theorem ok__law_next {f : Addr} {fd : FuncData} (F : FunD K "_law_next" "_law_next" (defArgs s_law_next) (defBody s_law_next) (defScope s_law_next) [] [] f fd) (T : Txt mg)
    (C__law_mixed_2 : CalG P w K mg base CX0 1 "_law_mixed" (spMixed K) 2 [] gv__law_mixed_2) :
    FnG P w K mg base CX0 2 f fd ["draw", "many"] (spNext K) := by
  refine okG F sc__law_next (fun vs H Q E h => ?_) (fun cdv A outer s H vs Q E hr hg h => ?_)
  · obtain ⟨d, m, ms, B, n, rfl, _⟩ := h
    rfl
  · obtain ⟨d, m, ms, B, n, rfl, w, n0, n1, q⟩ := h
    have hu := hu_of hr
    have na : n.natAbs < 2 ^ 64 := by omega
    obtain ⟨⟨a, ns, t, l, u, hd, ha, ne, hl, ht, hus, hm, hm2⟩, dn⟩ := w.dr
    have hA : SqL K H a (ns.map V.int) := w.seq ha
    have ln : ns.length ≠ 0 := fun z => ne (List.eq_nil_of_length_eq_zero z)
    refine ⟨_, (pss_cons (ps_if (pt_cmpR op_gt (pe_dget hu (pv 0) pe_str (fun _ _ => rfl)) pe_int (nomark _))
        (pss_cons (ps_set (i := 2) sc__law_next.nd rfl (Or.inl rfl) (pe_op op_mod (pe_dget hu (pv 0) pe_str (fun _ _ => rfl)) (pv 1)))
      (pss_cons (ps_dput hu (pv 0) pe_str (pe_op op_fdivW (pe_dget hu (pv 0) pe_str (fun _ _ => rfl)) (pv 1)) rfl)
      (pss_one (ps_ret (pv 2)))))
        pss_nil)
      (pss_cons (ps_set (i := 3) sc__law_next.nd rfl (Or.inl rfl) (pe_dget hu (pv 0) pe_str (fun _ _ => rfl)))
      (pss_cons (ps_set (i := 4) sc__law_next.nd rfl (Or.inl rfl) (pe_ix (ix_listE (K := K) rfl) (pv 3) (pe_op op_mod (pe_dget hu (pv 0) pe_str (fun _ _ => rfl)) (pe_callB (id := "len") (call_lenE (K := K) rfl) (by rfl) T.z_len (by decide +kernel) (pa_cons (pv 3) pa_nil))) (fun _ _ => rfl)))
      (pss_cons (ps_dput hu (pv 0) pe_str (pe_op op_add (pe_dget hu (pv 0) pe_str (fun _ _ => rfl)) pe_int) rfl)
      (pss_cons (ps_if (PW.pt (pw_and (pt_cmpR op_ge (pv 4) (pe_op op_pow pe_int pe_int) (nomark _)) (pw_and1 (pt_cmpR op_le (pe_dget hu (pv 0) pe_str (fun _ _ => rfl)) (pe_callB (id := "len") (call_lenE (K := K) rfl) (by rfl) T.z_len (by decide +kernel) (pa_cons (pv 3) pa_nil)) (nomark _)))))
        (pss_cons (ps_dput hu (pv 0) pe_str (pe_op op_fdivW (pv 4) (pv 1)) rfl)
      (pss_one (ps_ret (pe_op op_mod (pv 4) (pv 1)))))
        pss_nil)
      (pss_cons (ps_dput hu (pv 0) pe_str (pe_op op_add (pe_dget hu (pv 0) pe_str (fun _ _ => rfl)) pe_int) rfl)
      (pss_one (ps_ret (pe_op op_mod (pe_g1 C__law_mixed_2 hr (by decide) hg (by rfl) (pa_cons (pe_g1 C__law_mixed_2 hr (by decide) hg (by rfl) (pa_cons (pv 4) (pa_cons (pe_dget hu (pv 0) pe_str (fun _ _ => rfl)) pa_nil))) (pa_cons (pe_dget hu (pv 0) pe_str (fun _ _ => rfl)) pa_nil))) (pv 1)))))))))), ?_⟩
    walk_at "og"
    refine ⟨d, _, rfl, get_left hd, ?_⟩
    walk_at "og"
    refine ite2 (fun c => ?_) (fun c => ?_)
    · walk_at "og"
      refine ⟨d, _, rfl, get_left hd, ?_⟩
      walk_at "og"
      refine r_I n0 ?_
      walk_at "og"
      refine ⟨d, _, rfl, get_left hd, ?_⟩
      walk_at "og"
      refine r_I (cdiv n0 na) ?_
      walk_at "og"
      refine ⟨d, _, rfl, set_left hd, ?_⟩
      walk_at "og"
      refine q _ _ (w.draw ⟨ha, ne, hl, ht, hus, by omega, by omega⟩) (Int.emod_nonneg _ (by omega)) (Int.emod_lt_of_pos _ n0)
    · walk_at "og"
      refine ⟨d, _, rfl, get_cells hd, ?_⟩
      walk_at "og"
      refine ⟨d, _, rfl, get_at hd, ?_⟩
      walk_at "og"
      refine r_lenL hA ?_
      have l0 : (0 : Int) < (ns.map V.int).length := by
        rw [List.length_map]
        omega
      refine r_I l0 ?_
      have m0 := Int.emod_nonneg t (b := (ns.map V.int).length) (by omega)
      have m1 := Int.emod_lt_of_pos t l0
      generalize hj : t % ((ns.map V.int).length : Int) = j at m0 m1 ⊢
      have hj2 : (j.toNat : Int) = j := Int.toNat_of_nonneg m0
      have hlt : j.toNat < ns.length := by
        rw [List.length_map] at m1
        omega
      have hget : (ns.map V.int)[j.toNat]? = some (.int (ns[j.toNat]'hlt)) := by
        rw [List.getElem?_map, List.getElem?_eq_getElem hlt]
        rfl
      refine r_ixL hA (hj2 ▸ atI_nat hget) ?_
      generalize ns[j.toNat]'hlt = cell
      walk_at "og"
      refine ⟨d, _, rfl, get_at hd, ?_⟩
      walk_at "og"
      refine ⟨d, _, rfl, set_at hd, ?_⟩
      have w1 : Wd K d m ms B (upd H d (.dK (dk a (t + 1) l u))) := w.draw ⟨ha, ne, hl, by omega, hus, by omega, by omega⟩
      have e1 : (upd H d (.dK (dk a (t + 1) l u))) d = some (.dK (dk a (t + 1) l u)) := upd_same
      walk_at "og"
      refine r_I ⟨by decide, by decide, by decide⟩ ?_
      walk_at "og"
      refine ite2 (fun c1 => ?_) (fun c1 => ?_)
      · walk_at "og"
        refine ⟨d, _, rfl, get_at e1, ?_⟩
        walk_at "og"
        refine r_lenL (w1.seq ha) ?_
        walk_at "og"
        refine ite2 (fun c2 => ?_) (fun c2 => ?_)
        · walk_at "og"
          refine r_I (cdiv n0 na) ?_
          walk_at "og"
          refine ⟨d, _, rfl, set_left e1, ?_⟩
          walk_at "og"
          refine r_I n0 ?_
          exact q _ _ (w1.draw ⟨ha, ne, hl, by omega, hus, by omega, by omega⟩) (Int.emod_nonneg _ (by omega)) (Int.emod_lt_of_pos _ n0)
        · walk_at "og"
          refine ⟨d, _, rfl, get_used e1, ?_⟩
          walk_at "og"
          refine ⟨d, _, rfl, set_used e1, ?_⟩
          have w2 : Wd K d m ms B (upd (upd H d (.dK (dk a (t + 1) l u))) d (.dK (dk a (t + 1) l (u + 1)))) := w1.draw ⟨ha, ne, hl, by omega, by omega, by omega, by omega⟩
          have e2 : (upd (upd H d (.dK (dk a (t + 1) l u))) d (.dK (dk a (t + 1) l (u + 1)))) d = some (.dK (dk a (t + 1) l (u + 1))) := upd_same
          walk_at "og"
          refine ⟨d, _, rfl, get_at e2, ?_⟩
          walk_at "og"
          refine ⟨rfl, rfl, cell, t + 1, rfl, by omega, by omega, fun r1 => ?_⟩
          walk_at "og"
          refine ⟨d, _, rfl, get_used e2, ?_⟩
          walk_at "og"
          refine ⟨rfl, rfl, r1, u + 1, rfl, by omega, by omega, fun r2 => ?_⟩
          walk_at "og"
          refine r_I n0 ?_
          exact q _ _ w2 (Int.emod_nonneg _ (by omega)) (Int.emod_lt_of_pos _ n0)
      · walk_at "og"
        refine ⟨d, _, rfl, get_used e1, ?_⟩
        walk_at "og"
        refine ⟨d, _, rfl, set_used e1, ?_⟩
        have w2 : Wd K d m ms B (upd (upd H d (.dK (dk a (t + 1) l u))) d (.dK (dk a (t + 1) l (u + 1)))) := w1.draw ⟨ha, ne, hl, by omega, by omega, by omega, by omega⟩
        have e2 : (upd (upd H d (.dK (dk a (t + 1) l u))) d (.dK (dk a (t + 1) l (u + 1)))) d = some (.dK (dk a (t + 1) l (u + 1))) := upd_same
        walk_at "og"
        refine ⟨d, _, rfl, get_at e2, ?_⟩
        walk_at "og"
        refine ⟨rfl, rfl, cell, t + 1, rfl, by omega, by omega, fun r1 => ?_⟩
        walk_at "og"
        refine ⟨d, _, rfl, get_used e2, ?_⟩
        walk_at "og"
        refine ⟨rfl, rfl, r1, u + 1, rfl, by omega, by omega, fun r2 => ?_⟩
        walk_at "og"
        refine r_I n0 ?_
        exact q _ _ w2 (Int.emod_nonneg _ (by omega)) (Int.emod_lt_of_pos _ n0)
theorem ok__law_odd {f : Addr} {fd : FuncData} (F : FunD K "_law_odd" "_law_odd" (defArgs s_law_odd) (defBody s_law_odd) (defScope s_law_odd) [] [] f fd) (T : Txt mg)
    (C__law_next_2 : CalG P w K mg base CX0 2 "_law_next" (spNext K) 2 [] gv__law_next_2) :
    FnG P w K mg base CX0 3 f fd ["draw"] (spOdd K) := by
  refine okG F sc__law_odd (fun vs H Q E h => ?_) (fun cdv A outer s H vs Q E hr hg h => ?_)
  · obtain ⟨d, m, ms, B, rfl, _⟩ := h
    rfl
  · obtain ⟨d, m, ms, B, rfl, w, q⟩ := h
    have hu := hu_of hr
    refine ⟨_, (pss_cons (ps_set (i := 1) sc__law_odd.nd rfl (Or.inl rfl) (pe_lst (pa_cons pe_non (pa_cons pe_bl (pa_cons pe_bl (pa_cons pe_str (pa_cons pe_str (pa_cons (pe_lst (pa_cons pe_int pa_nil)) (pa_cons (pe_tup (pa_cons pe_int pa_nil)) (pa_cons (pe_tup pa_nil) (pa_cons pe_dnewK (pa_cons (pe_disp (pps_cons pe_int pe_int pps_nil) (by rfl) (by rfl) (fun z => by cases z) (by decide)) (pa_cons pe_str (pa_cons (pe_tup (pa_cons pe_non (pa_cons pe_int pa_nil))) (pa_cons (pe_lst (pa_cons pe_int (pa_cons pe_int pa_nil))) pa_nil)))))))))))))))
      (pss_one (ps_ret (pe_ix (ix_listE (K := K) rfl) (pv 1) (pe_g1 C__law_next_2 hr (by decide) hg (by rfl) (pa_cons (pv 0) (pa_cons pe_int pa_nil))) (fun _ _ => rfl))))), ?_⟩
    walk_at "og"
    refine ⟨by decide, al_new w fun p1 B1 H1 w1 s1 e1 => ?_⟩
    walk_at "og"
    refine ⟨by decide, al_new w1 fun p2 B2 H2 w2 s2 e2 => ?_⟩
    walk_at "og"
    refine ⟨by decide, al_new w2 fun p3 B3 H3 w3 s3 e3 => ?_⟩
    walk_at "og"
    refine al_new w3 fun p4 B4 H4 w4 s4 e4 => ?_
    walk_at "og"
    refine al_disp1 (k := Sum.inl 1) (al_new w4 fun p5 B5 H5 w5 s5 e5 => ?_)
    walk_at "og"
    refine ⟨by show 2 ≤ sizeLine; decide, al_new w5 fun p6 B6 H6 w6 s6 e6 => ?_⟩
    walk_at "og"
    refine ⟨by show 2 ≤ sizeLine; decide, al_new w6 fun p7 B7 H7 w7 s7 e7 => ?_⟩
    walk_at "og"
    refine ⟨by show 13 ≤ sizeLine; decide, al_new w7 fun p8 B8 H8 w8 s8 e8 => ?_⟩
    walk_at "og"
    refine ⟨rfl, rfl, d, m, ms, B8, 13, rfl, w8, by decide, by decide, fun H9 r w9 r0 r1 => ?_⟩
    have t8 : Same B B8 := s1.trans (s2.trans (s3.trans (s4.trans (s5.trans (s6.trans (s7.trans s8))))))
    have sq := w9.seq (SqL.of e8)
    have rr : r = 0 ∨ r = 1 ∨ r = 2 ∨ r = 3 ∨ r = 4 ∨ r = 5 ∨ r = 6 ∨ r = 7 ∨ r = 8 ∨ r = 9 ∨ r = 10 ∨ r = 11 ∨ r = 12 := by omega
    rcases rr with rfl | rfl | rfl | rfl | rfl | rfl | rfl | rfl | rfl | rfl | rfl | rfl | rfl
    · exact r_ixL sq rfl (q _ _ _ w9 t8 (.inl rfl))
    · exact r_ixL sq rfl (q _ _ _ w9 t8 (.inr (.inl ⟨_, rfl⟩)))
    · exact r_ixL sq rfl (q _ _ _ w9 t8 (.inr (.inl ⟨_, rfl⟩)))
    · exact r_ixL sq rfl (q _ _ _ w9 t8 (.inr (.inr (.inl ⟨_, rfl⟩))))
    · exact r_ixL sq rfl (q _ _ _ w9 t8 (.inr (.inr (.inl ⟨_, rfl⟩))))
    · exact r_ixL sq rfl (q _ _ _ w9 t8 (.inr (.inr (.inr (.inl ⟨_, _, rfl, s8 _ _ (s7 _ _ (s6 _ _ (s5 _ _ (s4 _ _ (s3 _ _ (s2 _ _ e1))))))⟩)))))
    · exact r_ixL sq rfl (q _ _ _ w9 t8 (.inr (.inr (.inr (.inr (.inr ⟨_, _, rfl, s8 _ _ (s7 _ _ (s6 _ _ (s5 _ _ (s4 _ _ (s3 _ _ e2))))), .inl rfl⟩))))))
    · exact r_ixL sq rfl (q _ _ _ w9 t8 (.inr (.inr (.inr (.inr (.inr ⟨_, _, rfl, s8 _ _ (s7 _ _ (s6 _ _ (s5 _ _ (s4 _ _ e3)))), .inr (.inl rfl)⟩))))))
    · exact r_ixL sq rfl (q _ _ _ w9 t8 (.inr (.inr (.inr (.inr (.inl ⟨_, _, rfl, s8 _ _ (s7 _ _ (s6 _ _ (s5 _ _ e4)))⟩))))))
    · exact r_ixL sq rfl (q _ _ _ w9 t8 (.inr (.inr (.inr (.inr (.inl ⟨_, _, rfl, s8 _ _ (s7 _ _ (s6 _ _ e5))⟩))))))
    · exact r_ixL sq rfl (q _ _ _ w9 t8 (.inr (.inr (.inl ⟨_, rfl⟩))))
    · exact r_ixL sq rfl (q _ _ _ w9 t8 (.inr (.inr (.inr (.inr (.inr ⟨_, _, rfl, s8 _ _ (s7 _ _ e6), .inr (.inr rfl)⟩))))))
    · exact r_ixL sq rfl (q _ _ _ w9 t8 (.inr (.inr (.inr (.inl ⟨_, _, rfl, s8 _ _ e7⟩)))))
theorem ok__law_bounds_right {f : Addr} {fd : FuncData} (F : FunD K "_law_bounds_right" "_law_bounds_right" (defArgs s_law_bounds_right) (defBody s_law_bounds_right) (defScope s_law_bounds_right) [] [] f fd) (T : Txt mg)
    (C__law_next_2 : CalG P w K mg base CX0 2 "_law_next" (spNext K) 2 [] gv__law_next_2) (C__law_odd_1 : CalG P w K mg base CX0 3 "_law_odd" (spOdd K) 1 [] gv__law_odd_1) (C_is_whole_0_most_least_thing : CalG P w K mg base CX0 1 "is_whole" (spWhole K) 0 ["most", "least", "thing"] gv_is_whole_0_most_least_thing) (C_is_whole_0_thing_least : CalG P w K mg base CX0 1 "is_whole" (spWhole K) 0 ["thing", "least"] gv_is_whole_0_thing_least) (C_is_whole_1_least_most : CalG P w K mg base CX0 1 "is_whole" (spWhole K) 1 ["least", "most"] gv_is_whole_1_least_most) (C_is_whole_1_most : CalG P w K mg base CX0 1 "is_whole" (spWhole K) 1 ["most"] gv_is_whole_1_most) (C_is_whole_1 : CalG P w K mg base CX0 1 "is_whole" (spWhole K) 1 [] gv_is_whole_1) :
    FnG P w K mg base CX0 4 f fd ["draw"] (spBounds K) := by
  refine okG F sc__law_bounds_right (fun vs H Q E h => ?_) (fun cdv A outer s H vs Q E hr hg h => ?_)
  · obtain ⟨d, m, ms, B, rfl, _⟩ := h
    rfl
  · obtain ⟨d, m, ms, B, rfl, w, q⟩ := h
    have hu := hu_of hr
    refine ⟨_, (pss_cons (ps_par (i := 1) (j := 2) (by rfl) sc__law_bounds_right.nd rfl rfl (by decide) rfl rfl (pa_cons (pe_op op_sub (pe_g1 C__law_next_2 hr (by decide) hg (by rfl) (pa_cons (pv 0) (pa_cons pe_int pa_nil))) pe_int) (pa_cons (pe_op op_sub (pe_g1 C__law_next_2 hr (by decide) hg (by rfl) (pa_cons (pv 0) (pa_cons pe_int pa_nil))) pe_int) pa_nil)) (by rfl))
      (pss_cons (ps_set (i := 3) sc__law_bounds_right.nd rfl (Or.inl rfl) pe_int)
      (pss_cons (ps_for PassesOwn.never rfl (pi_range1 (by rfl) T.z_range (pa_cons pe_int pa_nil)) (pg_name (i := 4) sc__law_bounds_right.nd rfl (Or.inl rfl))
        (pss_one (ps_set (i := 3) sc__law_bounds_right.nd rfl (Or.inl rfl) (pe_op op_mulW (pv 3) (pe_op op_pow pe_int pe_int)))))
      (pss_cons (ps_for PassesOwn.never rfl (pi_listE (K := K) rfl (pe_lst (pa_cons (pe_op op_sub (pv 1) pe_int) (pa_cons (pv 1) (pa_cons (pe_op op_add (pv 1) pe_int) (pa_cons (pe_op op_sub (pv 2) pe_int) (pa_cons (pv 2) (pa_cons (pe_op op_add (pv 2) pe_int) (pa_cons pe_int (pa_cons pe_int (pa_cons (pe_op op_sub pe_int pe_int) (pa_cons (pv 3) (pa_cons (pe_op op_sub pe_int (pv 3)) pa_nil))))))))))))) (pg_name (i := 5) sc__law_bounds_right.nd rfl (Or.inl rfl))
        (pss_cons (ps_set (i := 6) sc__law_bounds_right.nd rfl (Or.inl rfl) (pe_lst (pa_cons (pe_g1 C_is_whole_1 hr (by decide) hg (by rfl) (pa_cons (pv 5) pa_nil)) (pa_cons (pe_g3 C_is_whole_0_thing_least hr (by decide) hg (by rfl) (pk_cons (pv 5) (pk_cons (pv 1) pk_nil))) (pa_cons (pe_g2 C_is_whole_1_most hr (by decide) hg (by rfl) (pa_cons (pv 5) pa_nil) (pk_cons (pv 2) pk_nil)) pa_nil)))))
      (pss_cons (ps_set (i := 7) sc__law_bounds_right.nd rfl (Or.inl rfl) (pe_lst (pa_cons (pe_cmpR op_ge (pv 5) pe_int (nomark _)) (pa_cons (pe_cmpR op_ge (pv 5) (pv 1) (nomark _)) (pa_cons (pe_chain op_le op_le pe_int (pv 5) (pv 2)) pa_nil)))))
      (pss_cons (ps_expr (pe_bmE (K := K) rfl PySem.F.plainAttrs_list PySem.F.slot_list_append PySem.F.type_list_append mt_append (pv 6) (pa_cons (pe_g3 C_is_whole_0_most_least_thing hr (by decide) hg (by rfl) (pk_cons (pv 2) (pk_cons (pv 1) (pk_cons (pv 5) pk_nil)))) pa_nil)))
      (pss_one (ps_if (PW.pt (pw_or (pt_cmpR (op_neDE (K := K) rfl hr.units) (pv 6) (pe_op (op_catXE (K := K) rfl) (pv 7) (pe_lst (pa_cons (pe_chain op_le op_le (pv 1) (pv 5) (pv 2)) pa_nil))) (nomark _)) (pw_or1 (pt_cmpR (op_neDE (K := K) rfl hr.units) (pe_lc (own := [("one", 9)]) (g := gName 9) rfl sc__law_bounds_right.nd (pi_listE (K := K) rfl (pv 6)) (blkOk_by (N := ["draw", "low", "high", "great", "k", "number", "got", "due", "odd", "one"]) (sc := defScope s_law_bounds_right) (by decide +kernel)) (fun _ _ _ _ _ => (pg_name (i := 9) sc__law_bounds_right.nd rfl (Or.inl rfl))) (fun _ _ _ _ _ => pts_one (pt_not (pt_val (pe_callB (id := "isinstance") (call_isiE (K := K) rfl) (by rfl) T.z_isinstance (by decide +kernel) (pa_cons (pv 9) (pa_cons (pe_ty "bool" (by rfl) T.z_bool (by decide +kernel)) pa_nil)))))) (fun _ _ _ _ _ => (pv 9))) (pe_lst pa_nil) (nomark _)))))
        (pss_one (ps_ret pe_bl))
        pss_nil))))))
      (pss_cons (ps_set (i := 8) sc__law_bounds_right.nd rfl (Or.inl rfl) (pe_g1 C__law_odd_1 hr (by decide) hg (by rfl) (pa_cons (pv 0) pa_nil)))
      (pss_one (ps_ret (pe_cmpR (op_eqDE (K := K) rfl hr.units) (pe_lst (pa_cons (pe_g1 C_is_whole_1 hr (by decide) hg (by rfl) (pa_cons (pv 8) pa_nil)) (pa_cons (pe_g2 C_is_whole_1_least_most hr (by decide) hg (by rfl) (pa_cons (pv 8) pa_nil) (pk_cons (pv 1) (pk_cons (pv 2) pk_nil))) (pa_cons (pe_g2 C_is_whole_1_most hr (by decide) hg (by rfl) (pa_cons (pv 8) pa_nil) (pk_cons pe_int pk_nil)) pa_nil)))) (pe_op op_rep (pe_lst (pa_cons pe_bl pa_nil)) pe_int) (nomark _))))))))), ?_⟩
    walk_at "og"
    refine ⟨rfl, rfl, d, m + 2, ms, B, 41, rfl, w, by decide, by decide, fun H1 r w1 _ _ => ?_⟩
    walk_at "og"
    refine ⟨rfl, rfl, d, m + 1, ms, B, 41, rfl, w1, by decide, by decide, fun H2 r' w2 _ _ => ?_⟩
    walk_at "og"
    generalize r - 20 = low
    generalize r' - 20 = high
    refine r_rng1e (j := 90) (by decide) (by decide) ?_
    refine loop_rng (fun i σ H' => ∃ (g : Int) (k : Option V), σ = [some (.ref d), some (.int low), some (.int high), some (.int g), k, none, none, none, none, none] ∧ H' = H2 ∧ g.natAbs < 2 ^ (40 * i + 1)) ⟨1, none, rfl, rfl, by decide⟩ ?_ ?_
    · rintro i σ H' hi ⟨g, k, rfl, rfl, hgb⟩
      walk_at "og"
      refine r_I ⟨by decide, by decide, by decide⟩ ?_
      refine r_I (cm (lt_big hgb (by omega)) (big64 (by decide))) ?_
      walk_at "og"
      refine ⟨_, _, rfl, rfl, ?_⟩
      exact mul_abs (a := 40 * i + 1) (b := 40) hgb (by decide) (by omega)
    · rintro σ H' ⟨great, k4, rfl, rfl, _⟩
      walk_at "og"
      refine ⟨by show 11 ≤ sizeLine; decide, al_new w2 fun pl B3 H3 w3 s3 e3 => ?_⟩
      refine ⟨pl, rfl, ⟨_, w3.seq (SqL.of e3)⟩, ?_⟩
      refine loop_lst (xs := [.int (low - 1), .int low, .int (low + 1), .int (high - 1), .int high, .int (high + 1), .int 0, .int 1, .int (0 - 1), .int great, .int (0 - great)])
        (fun i σ H' => ∃ B' x5 x6 x7, σ = [some (.ref d), some (.int low), some (.int high), some (.int great), k4, x5, x6, x7, none, none] ∧ Wd K d (m + 1) ms B' H' ∧ Same B3 B') ⟨B3, none, none, none, rfl, w3, Same.refl _⟩ ?_ ?_ ?_
      · rintro i σ H' _ ⟨B', _, _, _, _, w', s'⟩
        exact w'.seq (SqL.of (s' _ _ e3))
      · rintro i y σ H' hi ⟨B', x5, x6, x7, rfl, w', s'⟩
        obtain ⟨z, rfl⟩ : ∃ z, y = .int z := by
          have hm := List.mem_of_getElem? hi
          simp only [List.mem_cons, List.not_mem_nil, or_false] at hm
          rcases hm with h | h | h | h | h | h | h | h | h | h | h <;> exact ⟨_, h⟩
        walk_at "og"
        refine ⟨rfl, rfl, .int z, .int 0, .non, decide (0 ≤ z), rfl, .inr ⟨_, rfl⟩, .inl rfl, .inl ⟨z, rfl, (Bool.and_true _).symm⟩, ?_⟩
        walk_at "og"
        refine ⟨rfl, rfl, .int z, .int low, .non, decide (low ≤ z), rfl, .inr ⟨_, rfl⟩, .inl rfl, .inl ⟨z, rfl, (Bool.and_true _).symm⟩, ?_⟩
        walk_at "og"
        refine ⟨rfl, rfl, .int z, .int 0, .int high, decide (0 ≤ z) && decide (z ≤ high), rfl, .inr ⟨_, rfl⟩, .inr ⟨_, rfl⟩, .inl ⟨z, rfl, rfl⟩, ?_⟩
        walk_at "og"
        refine ⟨by show 3 ≤ sizeLine; decide, al_mut w' fun pg H4 w4 => ?_⟩
        walk_at "og"
        refine r_chainLL (x := 0) (y := z) (z := high) (fun _ h => h) (fun _ h => ⟨_, rfl, h⟩) (fun _ h => ⟨_, rfl, h⟩) ?_
        walk_at "og"
        refine ⟨by show 3 ≤ sizeLine; decide, al_new w4 fun pd B5 H5 w5 s5 e5 => ?_⟩
        walk_at "og"
        refine ty_list (SqL.of w5.get) ?_
        walk_at "og"
        refine ⟨rfl, rfl, .int z, .int low, .int high, decide (low ≤ z) && decide (z ≤ high), rfl, .inr ⟨_, rfl⟩, .inr ⟨_, rfl⟩, .inl ⟨z, rfl, rfl⟩, ?_⟩
        walk_at "og"
        refine r_app w5.get (by show 3 < sizeLine; decide) ?_
        have w6 := w5.set (o' := .lst ([.bl (decide (0 ≤ z)), .bl (decide (low ≤ z)), .bl (decide (0 ≤ z) && decide (z ≤ high))] ++ [.bl (decide (low ≤ z) && decide (z ≤ high))]))
        walk_at "og"
        refine r_chainLL (x := low) (y := z) (z := high) (fun _ h => ⟨_, rfl, h⟩) (fun _ h => ⟨_, rfl, h⟩) (fun _ h => ⟨_, rfl, h⟩) ?_
        walk_at "og"
        refine ⟨by show 1 ≤ sizeLine; decide, al_new w6 fun p7 B7 H7 w7 s7 e7 => ?_⟩
        refine r_catX (w7.seq (SqL.of (s7 _ _ e5))) (w7.seq (SqL.of e7)) (by show 3 + 1 ≤ sizeLine; decide) (al_new w7 fun p8 B8 H8 w8 s8 e8 => ?_)
        refine r_neDe (.lst (SqL.of w8.get) (.cons (.bl _) (.cons (.bl _) (.cons (.bl _) (.cons (.bl _) .nil))))) (.lst (w8.seq (SqL.of e8)) (.cons (.bl _) (.cons (.bl _) (.cons (.bl _) (.cons (.bl _) .nil))))) rfl ?_
        walk_at "og"
        refine ⟨pg, rfl, ⟨_, SqL.of w8.get⟩, ?_⟩
        intro D hD
        have w9 := w8.mut (o := .lst []) hD
        generalize hH9 : upd H8 D (.lst []) = H9 at w9
        rw [← hH9]
        refine lcl_lst (xs := [.bl (decide (0 ≤ z)), .bl (decide (low ≤ z)), .bl (decide (0 ≤ z) && decide (z ≤ high)), .bl (decide (low ≤ z) && decide (z ≤ high))]) (fun _ H' => H' = H9) hH9 ?_ ?_ ?_
        · rintro i H' _ rfl
          exact SqL.of w9.swap.get
        · rintro i y H' hi rfl
          obtain ⟨b, rfl⟩ : ∃ b, y = .bl b := by
            have hm := List.mem_of_getElem? hi
            simp only [List.mem_cons, List.not_mem_nil, or_false] at hm
            rcases hm with h | h | h | h <;> exact ⟨_, h⟩
          walk_at "og"
          refine ⟨rfl, ?_⟩
          walk_at "og"
          refine r_isi (.base (.bl _)) (kit_ty (b := "bool") (r := true) (by decide +kernel)) ?_
          walk_at "og"
          rfl
        · rintro H' rfl
          walk_at "og"
          refine ⟨Nat.zero_le _, al_new w9 fun p10 B10 H10 w10 s10 e10 => ?_⟩
          refine r_neDe (.lst (SqL.of w10.get) .nil) (.lst (w10.seq (SqL.of e10)) .nil) rfl ?_
          walk_at "og"
          exact ⟨B10, _, _, _, rfl, w10.drop.drop, s'.trans (s5.trans (s7.trans (s8.trans s10)))⟩
      · rintro σ H' ⟨B', x5, x6, x7, rfl, w', s'⟩
        walk_at "og"
        refine ⟨rfl, rfl, d, m, ms, B', rfl, w', fun B6 H6 v w6 s6 hv => ?_⟩
        have nv := hv.notInt (K := K) w6.sb
        walk_at "og"
        refine ⟨rfl, rfl, v, .int 0, .non, false, rfl, .inr ⟨_, rfl⟩, .inl rfl, .inr ⟨nv, rfl⟩, ?_⟩
        walk_at "og"
        refine ⟨rfl, rfl, v, .int low, .int high, false, rfl, .inr ⟨_, rfl⟩, .inr ⟨_, rfl⟩, .inr ⟨nv, rfl⟩, ?_⟩
        walk_at "og"
        refine ⟨rfl, rfl, v, .int 0, .int 9, false, rfl, .inr ⟨_, rfl⟩, .inr ⟨_, rfl⟩, .inr ⟨nv, rfl⟩, ?_⟩
        walk_at "og"
        refine ⟨by show 3 ≤ sizeLine; decide, al_new w6 fun p7 B7 H7 w7 s7 e7 => ?_⟩
        walk_at "og"
        refine ⟨by show 1 ≤ sizeLine; decide, al_new w7 fun p8 B8 H8 w8 s8 e8 => ?_⟩
        walk_at "og"
        refine r_rep (w8.sb _ _ e8) (by decide) (by decide) (by decide) (al_new w8 fun p9 B9 H9 w9 s9 e9 => ?_)
        refine r_eqDe (.lst (w9.seq (SqL.of (s9 _ _ (s8 _ _ e7)))) (.cons (.bl _) (.cons (.bl _) (.cons (.bl _) .nil)))) (.lst (w9.seq (SqL.of e9)) (.cons (.bl _) (.cons (.bl _) (.cons (.bl _) .nil)))) rfl ?_
        exact q _ _ w9 (s3.trans (s'.trans (s6.trans (s7.trans (s8.trans s9)))))
theorem ok__law_errands_right {f : Addr} {fd : FuncData} (F : FunD K "_law_errands_right" "_law_errands_right" (defArgs s_law_errands_right) (defBody s_law_errands_right) (defScope s_law_errands_right) [] [] f fd) (T : Txt mg)
    (C__law_next_2 : CalG P w K mg base CX0 2 "_law_next" (spNext K) 2 [] gv__law_next_2) (C__law_odd_1 : CalG P w K mg base CX0 3 "_law_odd" (spOdd K) 1 [] gv__law_odd_1) (C_is_errand_0_thing_floors : CalG P w K mg base CX0 2 "is_errand" (spErrand K) 0 ["thing", "floors"] gv_is_errand_0_thing_floors) (C_is_errand_1_floors : CalG P w K mg base CX0 2 "is_errand" (spErrand K) 1 ["floors"] gv_is_errand_1_floors) :
    FnG P w K mg base CX0 4 f fd ["draw", "size"] (spErrands K) := by
  refine okG F sc__law_errands_right (fun vs H Q E h => ?_) (fun cdv A outer s H vs Q E hr hg h => ?_)
  · obtain ⟨d, m, ms, B, n, rfl, _⟩ := h
    rfl
  · obtain ⟨d, m, ms, B, n, rfl, w, n2, n16, q⟩ := h
    have hu := hu_of hr
    have na : n.natAbs < 2 ^ 64 := by omega
    refine ⟨_, (pss_cons (ps_set (i := 2) sc__law_errands_right.nd rfl (Or.inl rfl) (pe_g1 C__law_odd_1 hr (by decide) hg (by rfl) (pa_cons (pv 0) pa_nil)))
      (pss_cons (ps_set (i := 3) sc__law_errands_right.nd rfl (Or.inl rfl) (pe_lst (pa_cons pe_int (pa_cons (pe_op op_sub (pv 1) pe_int) (pa_cons (pe_g1 C__law_next_2 hr (by decide) hg (by rfl) (pa_cons (pv 0) (pa_cons (pv 1) pa_nil))) (pa_cons (pe_op op_sub pe_int pe_int) (pa_cons (pv 1) (pa_cons pe_bl (pa_cons pe_bl (pa_cons (pv 2) pa_nil))))))))))
      (pss_cons (ps_set (i := 4) sc__law_errands_right.nd rfl (Or.inl rfl) (pe_lst (pa_cons pe_int (pa_cons (pe_op op_mulW pe_int (pv 1)) (pa_cons (pe_op op_add pe_int (pe_g1 C__law_next_2 hr (by decide) hg (by rfl) (pa_cons (pv 0) (pa_cons (pe_op op_mulW pe_int (pv 1)) pa_nil)))) (pa_cons pe_int (pa_cons (pe_op op_add (pe_op op_mulW pe_int (pv 1)) pe_int) (pa_cons (pe_op op_sub pe_int pe_int) (pa_cons pe_bl (pa_cons (pv 2) pa_nil))))))))))
      (pss_cons (ps_for PassesOwn.never rfl (pi_range1 (by rfl) T.z_range (pa_cons pe_int pa_nil)) (pg_name (i := 5) sc__law_errands_right.nd rfl (Or.inl rfl))
        (pss_one (ps_for PassesOwn.never rfl (pi_range1 (by rfl) T.z_range (pa_cons pe_int pa_nil)) (pg_name (i := 6) sc__law_errands_right.nd rfl (Or.inl rfl))
        (pss_one (ps_if (pt_cmpR op_ne (pe_callB (id := "repr") call_repr_bl (by rfl) T.z_repr (by decide +kernel) (pa_cons (pe_g2 C_is_errand_1_floors hr (by decide) hg (by rfl) (pa_cons (pe_tup (pa_cons (pe_ix (ix_listE (K := K) rfl) (pv 3) (pv 5) (fun _ _ => rfl)) (pa_cons (pe_ix (ix_listE (K := K) rfl) (pv 4) (pv 6) (fun _ _ => rfl)) pa_nil))) pa_nil) (pk_cons (pv 1) pk_nil)) pa_nil)) (pe_callB (id := "repr") call_repr_bl (by rfl) T.z_repr (by decide +kernel) (pa_cons (pe_and (pe_cmpR op_lt (pv 5) pe_int (nomark _)) (pe_one (pe_cmpR op_lt (pv 6) pe_int (nomark _)))) pa_nil)) (nomark _))
        (pss_one (ps_ret pe_bl))
        pss_nil)))))
      (pss_cons (ps_set (i := 7) sc__law_errands_right.nd rfl (Or.inl rfl) (pe_tup (pa_cons (pe_ix (ix_listE (K := K) rfl) (pv 3) pe_int (fun _ _ => rfl)) (pa_cons (pe_ix (ix_listE (K := K) rfl) (pv 4) pe_int (fun _ _ => rfl)) pa_nil))))
      (pss_cons (ps_set (i := 8) sc__law_errands_right.nd rfl (Or.inl rfl) (pe_lst (pa_cons (pv 2) (pa_cons (pe_op (op_catAE (K := K) rfl) (pv 7) (pe_tup (pa_cons pe_int pa_nil))) (pa_cons (pe_slice (sl_tupAE (K := K) rfl) (pv 7) po_none (po_some pe_int)) (pa_cons (pe_callTy (T := "list") (call_listE (K := K) rfl) (by rfl) T.z_list (by decide +kernel) (pa_cons (pv 7) pa_nil)) (pa_cons (pe_tup (pa_cons (pv 7) pa_nil)) (pa_cons (pe_dispT hu (pv 7) pe_int) (pa_cons (pe_tup (pa_cons (pv 7) (pa_cons (pv 7) pa_nil))) (pa_cons pe_int pa_nil))))))))))
      (pss_one (ps_ret (pe_cmpR (op_eqDE (K := K) rfl hr.units) (pe_lc (own := [("one", 9)]) (g := gName 9) (tt := tYes) rfl sc__law_errands_right.nd (pi_listE (K := K) rfl (pv 8)) (blkOk_by (N := ["draw", "size", "odd", "begins", "steps", "j", "k", "good", "some", "one"]) (sc := defScope s_law_errands_right) (by decide +kernel)) (fun _ _ _ _ _ => (pg_name (i := 9) sc__law_errands_right.nd rfl (Or.inl rfl))) (fun _ _ _ _ _ => pts_nil) (fun _ _ _ _ _ => (pe_g3 C_is_errand_0_thing_floors hr (by decide) hg (by rfl) (pk_cons (pv 9) (pk_cons (pv 1) pk_nil))))) (pe_op op_rep (pe_lst (pa_cons pe_bl pa_nil)) pe_int) (nomark _)))))))))), ?_⟩
    walk_at "og"
    refine ⟨rfl, rfl, d, m + 2, ms, B, rfl, w, fun B1 H1 v w1 s1 hv => ?_⟩
    walk_at "og"
    refine ⟨rfl, rfl, d, m + 1, ms, B1, n, rfl, w1, by omega, by omega, fun H2 r w2 r0 r1 => ?_⟩
    walk_at "og"
    refine ⟨by show 8 ≤ sizeLine; decide, al_new w2 fun p3 B3 H3 w3 s3 e3 => ?_⟩
    walk_at "og"
    refine r_I (cm64 (by decide) na) ?_
    walk_at "og"
    refine r_I (cm64 (by decide) na) ?_
    walk_at "og"
    refine ⟨rfl, rfl, d, m, ms, B3, 3 * n, rfl, w3, by omega, by omega, fun H4 r' w4 q0 q1 => ?_⟩
    walk_at "og"
    refine r_I (cm64 (by decide) na) ?_
    walk_at "og"
    refine ⟨by show 8 ≤ sizeLine; decide, al_new w4 fun p5 B5 H5 w5 s5 e5 => ?_⟩
    have e3' := s5 _ _ e3
    have s15 : Same B1 B5 := s3.trans s5
    -- what stands in each place of the two lists
    have pb : ∀ (j : Nat), j < 8 → ∃ x : V, ([.int 0, .int (n - 1), .int r, .int (0 - 1), .int n, .bl true, .bl false, v] : List V)[j]? = some x ∧
        ∀ H' : Hp, Same B5 H' → Whole K H' x (.int 0) (.int (n - 1)) (decide (j < 3)) := by
      intro j hj
      have c : j = 0 ∨ j = 1 ∨ j = 2 ∨ j = 3 ∨ j = 4 ∨ j = 5 ∨ j = 6 ∨ j = 7 := by omega
      rcases c with rfl | rfl | rfl | rfl | rfl | rfl | rfl | rfl
      · exact ⟨_, rfl, fun H' _ => .inl ⟨_, rfl, whole_t (by omega) (by omega)⟩⟩
      · exact ⟨_, rfl, fun H' _ => .inl ⟨_, rfl, whole_t (by omega) (by omega)⟩⟩
      · exact ⟨_, rfl, fun H' _ => .inl ⟨_, rfl, whole_t (by omega) (by omega)⟩⟩
      · exact ⟨_, rfl, fun H' _ => .inl ⟨_, rfl, whole_f (by omega)⟩⟩
      · exact ⟨_, rfl, fun H' _ => .inl ⟨_, rfl, whole_f (by omega)⟩⟩
      · exact ⟨_, rfl, fun H' _ => .inr ⟨notInt_bl true, rfl⟩⟩
      · exact ⟨_, rfl, fun H' _ => .inr ⟨notInt_bl false, rfl⟩⟩
      · exact ⟨_, rfl, fun H' s => .inr ⟨hv.notInt (s15.trans s), rfl⟩⟩
    have ps : ∀ (j : Nat), j < 8 → ∃ x : V, ([.int 1, .int (3 * n), .int (1 + r'), .int 0, .int (3 * n + 1), .int (0 - 1), .bl true, v] : List V)[j]? = some x ∧
        ∀ H' : Hp, Same B5 H' → Whole K H' x (.int 1) (.int (3 * n)) (decide (j < 3)) := by
      intro j hj
      have c : j = 0 ∨ j = 1 ∨ j = 2 ∨ j = 3 ∨ j = 4 ∨ j = 5 ∨ j = 6 ∨ j = 7 := by omega
      rcases c with rfl | rfl | rfl | rfl | rfl | rfl | rfl | rfl
      · exact ⟨_, rfl, fun H' _ => .inl ⟨_, rfl, whole_t (by omega) (by omega)⟩⟩
      · exact ⟨_, rfl, fun H' _ => .inl ⟨_, rfl, whole_t (by omega) (by omega)⟩⟩
      · exact ⟨_, rfl, fun H' _ => .inl ⟨_, rfl, whole_t (by omega) (by omega)⟩⟩
      · exact ⟨_, rfl, fun H' _ => .inl ⟨_, rfl, whole_f (by omega)⟩⟩
      · exact ⟨_, rfl, fun H' _ => .inl ⟨_, rfl, whole_f (by omega)⟩⟩
      · exact ⟨_, rfl, fun H' _ => .inl ⟨_, rfl, whole_f (by omega)⟩⟩
      · exact ⟨_, rfl, fun H' _ => .inr ⟨notInt_bl true, rfl⟩⟩
      · exact ⟨_, rfl, fun H' s => .inr ⟨hv.notInt (s15.trans s), rfl⟩⟩
    walk_at "og"
    refine r_rng1e (j := 8) (by decide) (by decide) ?_
    refine loop_rng (fun i σ H' => ∃ B' x5 x6, σ = [some (.ref d), some (.int n), some v, some (.ref p3), some (.ref p5), x5, x6, none, none, none] ∧ Wd K d m ms B' H' ∧ Same B5 B') ⟨B5, none, none, rfl, w5, Same.refl _⟩ ?_ ?_
    · rintro j σ H' hj ⟨B', x5, x6, rfl, w', s'⟩
      walk_at "og"
      refine r_rng1e (j := 8) (by decide) (by decide) ?_
      refine loop_rng (fun i σ H' => ∃ B' x6, σ = [some (.ref d), some (.int n), some v, some (.ref p3), some (.ref p5), some (.int j), x6, none, none, none] ∧ Wd K d m ms B' H' ∧ Same B5 B') ⟨B', x6, rfl, w', s'⟩ ?_ ?_
      · rintro k σ H' hk ⟨B', x6, rfl, w', s'⟩
        obtain ⟨x, gx, hx⟩ := pb j hj
        obtain ⟨y, gy, hy⟩ := ps k hk
        walk_at "og"
        refine r_ixL (w'.seq (SqL.of (s' _ _ e3'))) (atI_nat gx) ?_
        walk_at "og"
        refine r_ixL (w'.seq (SqL.of (s' _ _ e5))) (atI_nat gy) ?_
        walk_at "og"
        refine ⟨by show 2 ≤ sizeLine; decide, al_new w' fun p6 B6 H6 w6 s6 e6 => ?_⟩
        walk_at "og"
        have s56 : Same B5 H6 := s'.trans (s6.trans w6.sb)
        refine ⟨rfl, rfl, .ref p6, n, decide (j < 3) && decide (k < 3), rfl, na, .inl ⟨p6, x, y, decide (j < 3), decide (k < 3), rfl, w6.sb _ _ e6, hx _ s56, hy _ s56, rfl⟩, ?_⟩
        walk_at "og"
        refine ⟨_, rfl, ?_⟩
        walk_at "og"
        refine r_andVp (b := decide ((j : Int) < 3)) (k := decide ((k : Int) < 3)) (fun _ h => ⟨_, rfl, _, _, rfl, rfl, h⟩) (fun _ h => ⟨_, rfl, _, _, rfl, rfl, h⟩) ?_
        walk_at "og"
        refine ⟨_, rfl, ?_⟩
        walk_at "og"
        have ej : decide ((j : Int) < 3) = decide (j < 3) := decide_eq_decide.mpr (by omega)
        have ek : decide ((k : Int) < 3) = decide (k < 3) := decide_eq_decide.mpr (by omega)
        rw [ej, ek]
        refine r_neS ?_
        walk_at "og"
        exact ⟨B6, _, rfl, w6, s'.trans s6⟩
      · rintro σ H' ⟨B', x6, rfl, w', s'⟩
        exact ⟨B', _, x6, rfl, w', s'⟩
    · rintro σ H' ⟨B', x5, x6, rfl, w', s'⟩
      walk_at "og"
      have H3' := w'.seq (SqL.of (s' _ _ e3'))
      have H5' := w'.seq (SqL.of (s' _ _ e5))
      refine r_ixL H3' (atI_nat (j := 2) rfl) ?_
      walk_at "og"
      refine r_ixL H5' (atI_nat (j := 2) rfl) ?_
      walk_at "og"
      refine ⟨by show 2 ≤ sizeLine; decide, al_new w' fun g B6 H6 w6 s6 e6 => ?_⟩
      walk_at "og"
      refine ⟨by show 1 ≤ sizeLine; decide, al_new w6 fun p7 B7 H7 w7 s7 e7 => ?_⟩
      have g7 := s7 _ _ e6
      refine r_catA (SqT.of (w7.sb _ _ g7)) (SqT.of (w7.sb _ _ e7)) (by show 3 ≤ sizeLine; decide) (by simp) (by simp) (al_new w7 fun p8 B8 H8 w8 s8 e8 => ?_)
      have g8 := s8 _ _ g7
      walk_at "og"
      refine r_slA (SqT.of (w8.sb _ _ g8)) (by show ¬ (HT.sIx 2 0 none = 0 ∧ HT.sIx 2 2 (some 1) = 2); decide) (al_new w8 fun p9 B9 H9 w9 s9 e9 => ?_)
      have g9 := s9 _ _ g8
      walk_at "og"
      refine r_listN (.inr (SqT.of (w9.sb _ _ g9))) (al_new w9 fun p10 B10 H10 w10 s10 e10 => ?_)
      have g10 := s10 _ _ g9
      walk_at "og"
      refine ⟨by show 1 ≤ sizeLine; decide, al_new w10 fun p11 B11 H11 w11 s11 e11 => ?_⟩
      have g11 := s11 _ _ g10
      walk_at "og"
      refine al_dispT rfl (w11.sb _ _ g11) (al_new w11 fun p12 B12 H12 w12 s12 e12 => ?_)
      have g12 := s12 _ _ g11
      walk_at "og"
      refine ⟨by show 2 ≤ sizeLine; decide, al_new w12 fun p13 B13 H13 w13 s13 e13 => ?_⟩
      walk_at "og"
      refine ⟨by show 8 ≤ sizeLine; decide, al_new w13 fun p14 B14 H14 w14 s14 e14 => ?_⟩
      walk_at "og"
      have f13 := s14 _ _ e13
      have f12 := s14 _ _ (s13 _ _ e12)
      have f11 := s14 _ _ (s13 _ _ (s12 _ _ e11))
      have f10 := s14 _ _ (s13 _ _ (s12 _ _ (s11 _ _ e10)))
      have f9 := s14 _ _ (s13 _ _ (s12 _ _ (s11 _ _ (s10 _ _ e9))))
      have f8 := s14 _ _ (s13 _ _ (s12 _ _ (s11 _ _ (s10 _ _ (s9 _ _ e8)))))
      have fg := s14 _ _ (s13 _ _ g12)
      have t14 : Same B1 B14 := s15.trans (s'.trans (s6.trans (s7.trans (s8.trans (s9.trans (s10.trans (s11.trans (s12.trans (s13.trans s14)))))))))
      have pe : ∀ (j : Nat) (y : V), ([v, .ref p8, .ref p9, .ref p10, .ref p11, .ref p12, .ref p13, .int 5] : List V)[j]? = some y → ∀ H' : Hp, Same B14 H' → Errand K H' y n false := by
        intro j y hj H' s
        have hm := List.mem_of_getElem? hj
        simp only [List.mem_cons, List.not_mem_nil, or_false] at hm
        rcases hm with rfl | rfl | rfl | rfl | rfl | rfl | rfl | rfl
        · exact hv.errand (t14.trans s)
        · exact .inr ⟨rfl, .inr ⟨_, _, rfl, s _ _ f8, by show 3 ≠ 2; decide⟩⟩
        · exact .inr ⟨rfl, .inr ⟨_, _, rfl, s _ _ f9, by show 1 ≠ 2; decide⟩⟩
        · exact .inr ⟨rfl, .inl ⟨_, .base (.lst (s _ _ f10)), kit_ty (by decide +kernel)⟩⟩
        · exact .inr ⟨rfl, .inr ⟨_, _, rfl, s _ _ f11, by show 1 ≠ 2; decide⟩⟩
        · exact .inr ⟨rfl, .inl ⟨_, .base (.dT (s _ _ f12)), kit_ty (by decide +kernel)⟩⟩
        · exact .inl ⟨_, _, _, false, false, rfl, s _ _ f13, .inr ⟨notInt_tup (s _ _ fg), rfl⟩, .inr ⟨notInt_tup (s _ _ fg), rfl⟩, rfl⟩
        · exact .inr ⟨rfl, .inl ⟨_, .base (.int 5), kit_ty (by decide +kernel)⟩⟩
      refine ⟨p14, rfl, ⟨_, w14.seq (SqL.of e14)⟩, ?_⟩
      intro D hD
      refine lcl_lst (xs := [v, .ref p8, .ref p9, .ref p10, .ref p11, .ref p12, .ref p13, .int 5]) (fun i H' => ∃ B', Wd K d m ((D, .lst (List.replicate i (.bl false))) :: ms) B' H' ∧ Same B14 B') ⟨B14, w14.mut hD, Same.refl _⟩ ?_ ?_ ?_
      · rintro i H' _ ⟨B', w', s'⟩
        exact w'.seq (SqL.of (s' _ _ e14))
      · rintro i y H' hi ⟨B', w', s'⟩
        have hi8 : i < 8 := (List.getElem?_eq_some_iff.mp hi).1
        walk_at "og"
        refine ⟨rfl, ?_⟩
        walk_at "og"
        refine ⟨rfl, rfl, y, n, false, rfl, na, pe i y hi _ (s'.trans w'.sb), ?_⟩
        refine ⟨_, w'.get, ?_, B', ?_, s'⟩
        · rw [List.length_replicate]
          exact Nat.lt_trans hi8 (by decide)
        · rw [← List.replicate_succ']
          exact w'.set
      · rintro H' ⟨B', w', s'⟩
        walk_at "og"
        refine ⟨by show 1 ≤ sizeLine; decide, al_new w' fun p16 B16 H16 w16 s16 e16 => ?_⟩
        walk_at "og"
        refine r_rep (w16.sb _ _ e16) (by decide) (by decide) (by decide) (al_new w16 fun p17 B17 H17 w17 s17 e17 => ?_)
        have w18 : Wd K d m ((D, .lst [.bl false, .bl false, .bl false, .bl false, .bl false, .bl false, .bl false, .bl false]) :: ms) B17 H17 := w17
        refine r_eqDe (.lst (SqL.of w18.get) dp8) (.lst (w17.seq (SqL.of e17)) dp8) rfl ?_
        exact q _ _ w17.drop (s1.trans (t14.trans (s'.trans (s16.trans s17))))
theorem ok_law {f : Addr} {fd : FuncData} (F : FunD K "law" "law" (defArgs slaw) (defBody slaw) (defScope slaw) [] [] f fd) (T : Txt mg)
    (C__law_begin_1 : CalG P w K mg base CX0 1 "_law_begin" (spBegin K) 1 [] gv__law_begin_1) (C__law_bounds_right_1 : CalG P w K mg base CX0 4 "_law_bounds_right" (spBounds K) 1 [] gv__law_bounds_right_1) (C__law_errands_right_2 : CalG P w K mg base CX0 4 "_law_errands_right" (spErrands K) 2 [] gv__law_errands_right_2) (C__law_next_2 : CalG P w K mg base CX0 2 "_law_next" (spNext K) 2 [] gv__law_next_2) :
    FnG P w K mg base CX0 5 f fd ["script"] (spLaw K) := by
  refine okG F sc_law (fun vs H Q E h => ?_) (fun cdv A outer s H vs Q E hr hg h => ?_)
  · obtain ⟨a, ns, rfl, _⟩ := h
    rfl
  · obtain ⟨a, ns, rfl, ha, hl, q⟩ := h
    have hu := hu_of hr
    refine ⟨_, (pss_cons (ps_set (i := 1) sc_law.nd rfl (Or.inl rfl) (pe_g1 C__law_begin_1 hr (by decide) hg (by rfl) (pa_cons (pv 0) pa_nil)))
      (pss_cons (ps_if (pt_cmpR (op_neDE (K := K) rfl hr.units) (pe_lst (pa_cons (pe_gcI (by rfl) T.c_MOST_FLOORS) (pa_cons (pe_gcI (by rfl) T.c_MOST_ERRANDS) (pa_cons (pe_gcI (by rfl) T.c_MOST_ROUNDS) (pa_cons (pe_gcI (by rfl) T.c_MOST_SEATS) pa_nil))))) (pe_lst (pa_cons pe_int (pa_cons pe_int (pa_cons pe_int (pa_cons pe_int pa_nil))))) (nomark _))
        (pss_one (ps_ret pe_bl))
        pss_nil)
      (pss_cons (ps_for PassesOwn.never rfl (pi_range1 (by rfl) T.z_range (pa_cons (pe_callB (id := "min") (call_min2 rfl) (by rfl) T.z_min (by decide +kernel) (pa_cons pe_int (pa_cons (pe_op op_add pe_int (pe_callB (id := "len") (call_lenE (K := K) rfl) (by rfl) T.z_len (by decide +kernel) (pa_cons (pv 0) pa_nil))) pa_nil))) pa_nil)) (pg_name (i := 2) sc_law.nd rfl (Or.inl rfl))
        (pss_one (ps_if (PW.pt (pw_or (pt_not (pt_val (pe_g1 C__law_bounds_right_1 hr (by decide) hg (by rfl) (pa_cons (pv 1) pa_nil)))) (pw_or1 (pt_not (pt_val (pe_g1 C__law_errands_right_2 hr (by decide) hg (by rfl) (pa_cons (pv 1) (pa_cons (pe_op op_add pe_int (pe_g1 C__law_next_2 hr (by decide) hg (by rfl) (pa_cons (pv 1) (pa_cons pe_int pa_nil)))) pa_nil))))))))
        (pss_one (ps_ret pe_bl))
        pss_nil)))
      (pss_one (ps_ret pe_bl))))), ?_⟩
    walk_at "og"
    refine ⟨rfl, rfl, a, ns, rfl, ha, hl, fun d B H1 s1 w1 => ?_⟩
    walk_at "og"
    refine ⟨by show 4 ≤ sizeLine; decide, al_new w1 fun p2 B2 H2 w2 s2 e2 => ?_⟩
    walk_at "og"
    refine ⟨by show 4 ≤ sizeLine; decide, al_new w2 fun p3 B3 H3 w3 s3 e3 => ?_⟩
    refine r_neDe (.lst (w3.seq (SqL.of (s3 _ _ e2))) (.cons (.int _) (.cons (.int _) (.cons (.int _) (.cons (.int _) .nil))))) (.lst (w3.seq (SqL.of e3)) (.cons (.int _) (.cons (.int _) (.cons (.int _) (.cons (.int _) .nil))))) rfl ?_
    walk_at "og"
    have s13 : Same H B3 := s1.trans (s2.trans s3)
    refine r_lenL (w3.seq (s13.seq ha)) ?_
    walk_at "og"
    have hlen : (ns.map V.int).length = ns.length := List.length_map ..
    refine ⟨12, _, rfl, ?_⟩
    rw [hlen]
    generalize hN : (if (3 + (ns.length : Int)) < 12 then (3 + (ns.length : Int)) else 12) = N
    have n0 : 0 ≤ N := by
      rw [← hN]
      split <;> omega
    have n12 : N ≤ 12 := by
      rw [← hN]
      split <;> omega
    walk_at "og"
    refine r_rng1e (j := N) n0 (by omega) ?_
    refine loop_rng (fun i σ H' => ∃ B' x2, σ = [some (.ref a), some (.ref d), x2] ∧ Wd K d (7 * (12 - i)) [] B' H') ⟨B3, none, rfl, w3.le (by decide)⟩ ?_ ?_
    · rintro i σ H' hi ⟨B', x2, rfl, w'⟩
      have w0 := w'.le (show 7 * (12 - (i + 1)) + 4 + 3 ≤ 7 * (12 - i) by omega)
      walk_at "og"
      refine ⟨rfl, rfl, d, _, [], B', rfl, w0, fun B4 H4 w4 s4 => ?_⟩
      walk_at "og"
      refine ⟨rfl, rfl, d, _, [], B4, 15, rfl, w4, by decide, by decide, fun H5 r w5 r0 r1 => ?_⟩
      walk_at "og"
      refine ⟨rfl, rfl, d, _, [], B4, 2 + r, rfl, w5, by omega, by omega, fun B6 H6 w6 s6 => ?_⟩
      walk_at "og"
      exact ⟨B6, _, rfl, w6⟩
    · rintro σ H' ⟨B', x2, rfl, w'⟩
      walk_at "og"
      exact q _
end
theorem all_mk {l : PySem.W.OpenLaw} {w : World} {K : PySem.W.Frag} {h : Heap} {mg : Str → Option Value} {fa f0 f1 f2 f3 f4 f5 f6 f7 f8 D0 : Addr} (X : K.In h) (G : h.Ns mainGlobals mg) (hfa : mg "law" = some (.ref fa))
    {od0 an0 od1 an1 od2 an2 od3 an3 od4 an4 od5 an5 od6 an6 od7 an7 od8 an8 : Option Addr} {sl0 sl1 sl2 sl3 sl4 sl5 sl6 sl7 sl8 : Array (Option Value)} {oc0 dc0 pm0 cd0 ct0 oc1 dc1 pm1 cd1 ct1 kV1 oc2 dc2 pm2 cd2 ct2 kV2 oc3 dc3 pm3 cd3 ct3 kV3 oc4 dc4 pm4 cd4 ct4 kV4 oc5 dc5 pm5 cd5 ct5 kV5 oc6 dc6 pm6 cd6 ct6 kV6 oc7 dc7 pm7 cd7 ct7 kV7 oc8 dc8 pm8 cd8 ct8 kV8 : Value} {t0_0 tc_MOST_ERRANDS tc_MOST_FLOORS tc_MOST_ROUNDS tc_MOST_SEATS : Tok}
    (a0 : PySem.W.nsIn K mainGlobals "is_whole" = some (some (.ref f0)))
    (l0 : K.lookup f0 = some ⟨oc0, od0, .func (PySem.W.fnOf "is_whole" "is_whole" (defArgs sis_whole) (defBody sis_whole) (defScope sis_whole) .none (.ref D0) dc0 pm0 an0 cd0 ct0), sl0⟩)
    (e0 : PySem.W.codeIn K cd0 "is_whole" = true)
    (k0 : PySem.W.keepIn K (.ref f0) = true)
    (n0_0 : PySem.W.nsIn K D0 "least" = some (some (.int 0 t0_0)))
    (n0_1 : PySem.W.nsIn K D0 "most" = some (some .none))
    (a1 : PySem.W.nsIn K mainGlobals "is_errand" = some (some (.ref f1)))
    (l1 : K.lookup f1 = some ⟨oc1, od1, .func (PySem.W.fnOf "is_errand" "is_errand" (defArgs sis_errand) (defBody sis_errand) (defScope sis_errand) .none kV1 dc1 pm1 an1 cd1 ct1), sl1⟩)
    (e1 : PySem.W.codeIn K cd1 "is_errand" = true)
    (k1 : PySem.W.keepIn K (.ref f1) = true)
    (a2 : PySem.W.nsIn K mainGlobals "_law_begin" = some (some (.ref f2)))
    (l2 : K.lookup f2 = some ⟨oc2, od2, .func (PySem.W.fnOf "_law_begin" "_law_begin" (defArgs s_law_begin) (defBody s_law_begin) (defScope s_law_begin) .none kV2 dc2 pm2 an2 cd2 ct2), sl2⟩)
    (e2 : PySem.W.codeIn K cd2 "_law_begin" = true)
    (k2 : PySem.W.keepIn K (.ref f2) = true)
    (a3 : PySem.W.nsIn K mainGlobals "_law_mixed" = some (some (.ref f3)))
    (l3 : K.lookup f3 = some ⟨oc3, od3, .func (PySem.W.fnOf "_law_mixed" "_law_mixed" (defArgs s_law_mixed) (defBody s_law_mixed) (defScope s_law_mixed) .none kV3 dc3 pm3 an3 cd3 ct3), sl3⟩)
    (e3 : PySem.W.codeIn K cd3 "_law_mixed" = true)
    (k3 : PySem.W.keepIn K (.ref f3) = true)
    (a4 : PySem.W.nsIn K mainGlobals "_law_next" = some (some (.ref f4)))
    (l4 : K.lookup f4 = some ⟨oc4, od4, .func (PySem.W.fnOf "_law_next" "_law_next" (defArgs s_law_next) (defBody s_law_next) (defScope s_law_next) .none kV4 dc4 pm4 an4 cd4 ct4), sl4⟩)
    (e4 : PySem.W.codeIn K cd4 "_law_next" = true)
    (k4 : PySem.W.keepIn K (.ref f4) = true)
    (a5 : PySem.W.nsIn K mainGlobals "_law_odd" = some (some (.ref f5)))
    (l5 : K.lookup f5 = some ⟨oc5, od5, .func (PySem.W.fnOf "_law_odd" "_law_odd" (defArgs s_law_odd) (defBody s_law_odd) (defScope s_law_odd) .none kV5 dc5 pm5 an5 cd5 ct5), sl5⟩)
    (e5 : PySem.W.codeIn K cd5 "_law_odd" = true)
    (k5 : PySem.W.keepIn K (.ref f5) = true)
    (a6 : PySem.W.nsIn K mainGlobals "_law_bounds_right" = some (some (.ref f6)))
    (l6 : K.lookup f6 = some ⟨oc6, od6, .func (PySem.W.fnOf "_law_bounds_right" "_law_bounds_right" (defArgs s_law_bounds_right) (defBody s_law_bounds_right) (defScope s_law_bounds_right) .none kV6 dc6 pm6 an6 cd6 ct6), sl6⟩)
    (e6 : PySem.W.codeIn K cd6 "_law_bounds_right" = true)
    (k6 : PySem.W.keepIn K (.ref f6) = true)
    (a7 : PySem.W.nsIn K mainGlobals "_law_errands_right" = some (some (.ref f7)))
    (l7 : K.lookup f7 = some ⟨oc7, od7, .func (PySem.W.fnOf "_law_errands_right" "_law_errands_right" (defArgs s_law_errands_right) (defBody s_law_errands_right) (defScope s_law_errands_right) .none kV7 dc7 pm7 an7 cd7 ct7), sl7⟩)
    (e7 : PySem.W.codeIn K cd7 "_law_errands_right" = true)
    (k7 : PySem.W.keepIn K (.ref f7) = true)
    (a8 : PySem.W.nsIn K mainGlobals "law" = some (some (.ref f8)))
    (l8 : K.lookup f8 = some ⟨oc8, od8, .func (PySem.W.fnOf "law" "law" (defArgs slaw) (defBody slaw) (defScope slaw) .none kV8 dc8 pm8 an8 cd8 ct8), sl8⟩)
    (e8 : PySem.W.codeIn K cd8 "law" = true)
    (k8 : PySem.W.keepIn K (.ref f8) = true)
    (z_bool : PySem.W.nsIn K mainGlobals "bool" = some none)
    (z_int : PySem.W.nsIn K mainGlobals "int" = some none)
    (z_isinstance : PySem.W.nsIn K mainGlobals "isinstance" = some none)
    (z_len : PySem.W.nsIn K mainGlobals "len" = some none)
    (z_list : PySem.W.nsIn K mainGlobals "list" = some none)
    (z_min : PySem.W.nsIn K mainGlobals "min" = some none)
    (z_range : PySem.W.nsIn K mainGlobals "range" = some none)
    (z_repr : PySem.W.nsIn K mainGlobals "repr" = some none)
    (z_tuple : PySem.W.nsIn K mainGlobals "tuple" = some none)
    (c_MOST_ERRANDS : PySem.W.nsIn K mainGlobals "MOST_ERRANDS" = some (some (.int 40 tc_MOST_ERRANDS)))
    (c_MOST_FLOORS : PySem.W.nsIn K mainGlobals "MOST_FLOORS" = some (some (.int 16 tc_MOST_FLOORS)))
    (c_MOST_ROUNDS : PySem.W.nsIn K mainGlobals "MOST_ROUNDS" = some (some (.int 130 tc_MOST_ROUNDS)))
    (c_MOST_SEATS : PySem.W.nsIn K mainGlobals "MOST_SEATS" = some (some (.int 6 tc_MOST_SEATS))) :
    ∃ fd : FuncData, (∀ (s : Shared) (v : Value), BindsTo s fd ⟨[v], []⟩ [("script", v)]) ∧ ∀ base : Heap, K.In base → base.Ns mainGlobals mg → FnG l.prog w K mg base CX0 5 fa fd ["script"] (spLaw K) := by
  have e := hfa.symm.trans (PySem.W.mg_of X G a8)
  cases e
  have T : Txt mg := ⟨PySem.W.mg_none_of X G z_bool, PySem.W.mg_none_of X G z_int, PySem.W.mg_none_of X G z_isinstance, PySem.W.mg_none_of X G z_len, PySem.W.mg_none_of X G z_list, PySem.W.mg_none_of X G z_min, PySem.W.mg_none_of X G z_range, PySem.W.mg_none_of X G z_repr, PySem.W.mg_none_of X G z_tuple, ⟨_, PySem.W.mg_of X G c_MOST_ERRANDS⟩, ⟨_, PySem.W.mg_of X G c_MOST_FLOORS⟩, ⟨_, PySem.W.mg_of X G c_MOST_ROUNDS⟩, ⟨_, PySem.W.mg_of X G c_MOST_SEATS⟩⟩
  obtain ⟨fd0, F0⟩ : ∃ fd, FunD K "is_whole" "is_whole" (defArgs sis_whole) (defBody sis_whole) (defScope sis_whole) [] [("least", V.int 0), ("most", V.non)] f0 fd := by
    refine ⟨_, funD_mk l0 e0 k0 (.inr ⟨D0, rfl, fun q hq => ?_⟩)⟩
    simp only [List.mem_cons, List.not_mem_nil, or_false] at hq
    rcases hq with rfl | rfl
    · exact ⟨_, n0_0, ⟨_, rfl⟩⟩
    · exact ⟨_, n0_1, rfl⟩
  have F1 : FunD K "is_errand" "is_errand" (defArgs sis_errand) (defBody sis_errand) (defScope sis_errand) [] [] f1 _ := funD_mk l1 e1 k1 (.inl rfl)
  have F2 : FunD K "_law_begin" "_law_begin" (defArgs s_law_begin) (defBody s_law_begin) (defScope s_law_begin) [] [] f2 _ := funD_mk l2 e2 k2 (.inl rfl)
  have F3 : FunD K "_law_mixed" "_law_mixed" (defArgs s_law_mixed) (defBody s_law_mixed) (defScope s_law_mixed) [] [] f3 _ := funD_mk l3 e3 k3 (.inl rfl)
  have F4 : FunD K "_law_next" "_law_next" (defArgs s_law_next) (defBody s_law_next) (defScope s_law_next) [] [] f4 _ := funD_mk l4 e4 k4 (.inl rfl)
  have F5 : FunD K "_law_odd" "_law_odd" (defArgs s_law_odd) (defBody s_law_odd) (defScope s_law_odd) [] [] f5 _ := funD_mk l5 e5 k5 (.inl rfl)
  have F6 : FunD K "_law_bounds_right" "_law_bounds_right" (defArgs s_law_bounds_right) (defBody s_law_bounds_right) (defScope s_law_bounds_right) [] [] f6 _ := funD_mk l6 e6 k6 (.inl rfl)
  have F7 : FunD K "_law_errands_right" "_law_errands_right" (defArgs s_law_errands_right) (defBody s_law_errands_right) (defScope s_law_errands_right) [] [] f7 _ := funD_mk l7 e7 k7 (.inl rfl)
  have F8 : FunD K "law" "law" (defArgs slaw) (defBody slaw) (defScope slaw) [] [] fa _ := funD_mk l8 e8 k8 (.inl rfl)
  refine ⟨PySem.W.fnOf "law" "law" (defArgs slaw) (defBody slaw) (defScope slaw) .none kV8 dc8 pm8 an8 cd8 ct8, fun s v => .of_eq rfl, fun base _ _ => ?_⟩
  have ok0 := ok_is_whole (P := l.prog) (w := w) (base := base) F0 T 
  have C_is_whole_1_least_most : CalG l.prog w K mg base CX0 1 "is_whole" (spWhole K) 1 ["least", "most"] gv_is_whole_1_least_most := by
    refine calG F0 ok0 (PySem.W.mg_of X G a0) ?_
    refine kbn0 F0 1 ["least", "most"] (fun vs zs => vs.take 1 ++ zs.take 1 ++ (zs.drop 1).take 1) (fun a c => (((a.take 1).append (c.take 1)).append ((c.drop 1).take 1))) ?_
    intro kV doc pm an cdv ct us ws l1 l2
    match us, ws, l1, l2 with
    | [_], [_, _], _, _ => rfl
  have C_is_whole_1_most : CalG l.prog w K mg base CX0 1 "is_whole" (spWhole K) 1 ["most"] gv_is_whole_1_most := by
    refine calG F0 ok0 (PySem.W.mg_of X G a0) ?_
    refine kbn1 F0 1 ["most"] [("least", V.int 0)] (fun vs mz zs => vs.take 1 ++ mz.take 1 ++ zs.take 1) (by simp) (by simp) (fun a b c => (((a.take 1).append (b.take 1)).append (c.take 1))) ?_
    intro D doc pm an cdv ct us mv ws l1 l2 l3
    match us, mv, ws, l1, l2, l3 with
    | [_], [_], [_], _, _, _ => exact ⟨_, _, _, _, _, _, rfl, rfl, rfl⟩
  have ok1 := ok_is_errand (P := l.prog) (w := w) (base := base) F1 T C_is_whole_1_least_most C_is_whole_1_most
  have ok2 := ok__law_begin (P := l.prog) (w := w) (base := base) F2 T 
  have ok3 := ok__law_mixed (P := l.prog) (w := w) (base := base) F3 T 
  have C__law_mixed_2 : CalG l.prog w K mg base CX0 1 "_law_mixed" (spMixed K) 2 [] gv__law_mixed_2 := by
    refine calG F3 ok3 (PySem.W.mg_of X G a3) ?_
    refine kbn0 F3 2 [] (fun vs zs => vs.take 1 ++ (vs.drop 1).take 1) (fun a c => ((a.take 1).append ((a.drop 1).take 1))) ?_
    intro kV doc pm an cdv ct us ws l1 l2
    match us, ws, l1, l2 with
    | [_, _], [], _, _ => rfl
  have ok4 := ok__law_next (P := l.prog) (w := w) (base := base) F4 T C__law_mixed_2
  have C__law_next_2 : CalG l.prog w K mg base CX0 2 "_law_next" (spNext K) 2 [] gv__law_next_2 := by
    refine calG F4 ok4 (PySem.W.mg_of X G a4) ?_
    refine kbn0 F4 2 [] (fun vs zs => vs.take 1 ++ (vs.drop 1).take 1) (fun a c => ((a.take 1).append ((a.drop 1).take 1))) ?_
    intro kV doc pm an cdv ct us ws l1 l2
    match us, ws, l1, l2 with
    | [_, _], [], _, _ => rfl
  have ok5 := ok__law_odd (P := l.prog) (w := w) (base := base) F5 T C__law_next_2
  have C__law_odd_1 : CalG l.prog w K mg base CX0 3 "_law_odd" (spOdd K) 1 [] gv__law_odd_1 := by
    refine calG F5 ok5 (PySem.W.mg_of X G a5) ?_
    refine kbn0 F5 1 [] (fun vs zs => vs.take 1) (fun a c => (a.take 1)) ?_
    intro kV doc pm an cdv ct us ws l1 l2
    match us, ws, l1, l2 with
    | [_], [], _, _ => rfl
  have C_is_whole_0_most_least_thing : CalG l.prog w K mg base CX0 1 "is_whole" (spWhole K) 0 ["most", "least", "thing"] gv_is_whole_0_most_least_thing := by
    refine calG F0 ok0 (PySem.W.mg_of X G a0) ?_
    refine kbn0 F0 0 ["most", "least", "thing"] (fun vs zs => (zs.drop 2).take 1 ++ (zs.drop 1).take 1 ++ zs.take 1) (fun a c => ((((c.drop 2).take 1).append ((c.drop 1).take 1)).append (c.take 1))) ?_
    intro kV doc pm an cdv ct us ws l1 l2
    match us, ws, l1, l2 with
    | [], [_, _, _], _, _ => rfl
  have C_is_whole_0_thing_least : CalG l.prog w K mg base CX0 1 "is_whole" (spWhole K) 0 ["thing", "least"] gv_is_whole_0_thing_least := by
    refine calG F0 ok0 (PySem.W.mg_of X G a0) ?_
    refine kbn1 F0 0 ["thing", "least"] [("most", V.non)] (fun vs mz zs => zs.take 1 ++ (zs.drop 1).take 1 ++ mz.take 1) (by simp) (by simp) (fun a b c => (((c.take 1).append ((c.drop 1).take 1)).append (b.take 1))) ?_
    intro D doc pm an cdv ct us mv ws l1 l2 l3
    match us, mv, ws, l1, l2, l3 with
    | [], [_], [_, _], _, _, _ => exact ⟨_, _, _, _, _, _, rfl, rfl, rfl⟩
  have C_is_whole_1 : CalG l.prog w K mg base CX0 1 "is_whole" (spWhole K) 1 [] gv_is_whole_1 := by
    refine calG F0 ok0 (PySem.W.mg_of X G a0) ?_
    refine kbn1 F0 1 [] [("least", V.int 0), ("most", V.non)] (fun vs mz zs => vs.take 1 ++ mz.take 1 ++ (mz.drop 1).take 1) (by simp) (by simp) (fun a b c => (((a.take 1).append (b.take 1)).append ((b.drop 1).take 1))) ?_
    intro D doc pm an cdv ct us mv ws l1 l2 l3
    match us, mv, ws, l1, l2, l3 with
    | [_], [_, _], [], _, _, _ => exact ⟨_, _, _, _, _, _, rfl, rfl, ⟨_, _, _, _, _, _, rfl, rfl, rfl⟩⟩
  have ok6 := ok__law_bounds_right (P := l.prog) (w := w) (base := base) F6 T C__law_next_2 C__law_odd_1 C_is_whole_0_most_least_thing C_is_whole_0_thing_least C_is_whole_1_least_most C_is_whole_1_most C_is_whole_1
  have C_is_errand_0_thing_floors : CalG l.prog w K mg base CX0 2 "is_errand" (spErrand K) 0 ["thing", "floors"] gv_is_errand_0_thing_floors := by
    refine calG F1 ok1 (PySem.W.mg_of X G a1) ?_
    refine kbn0 F1 0 ["thing", "floors"] (fun vs zs => zs.take 1 ++ (zs.drop 1).take 1) (fun a c => ((c.take 1).append ((c.drop 1).take 1))) ?_
    intro kV doc pm an cdv ct us ws l1 l2
    match us, ws, l1, l2 with
    | [], [_, _], _, _ => rfl
  have C_is_errand_1_floors : CalG l.prog w K mg base CX0 2 "is_errand" (spErrand K) 1 ["floors"] gv_is_errand_1_floors := by
    refine calG F1 ok1 (PySem.W.mg_of X G a1) ?_
    refine kbn0 F1 1 ["floors"] (fun vs zs => vs.take 1 ++ zs.take 1) (fun a c => ((a.take 1).append (c.take 1))) ?_
    intro kV doc pm an cdv ct us ws l1 l2
    match us, ws, l1, l2 with
    | [_], [_], _, _ => rfl
  have ok7 := ok__law_errands_right (P := l.prog) (w := w) (base := base) F7 T C__law_next_2 C__law_odd_1 C_is_errand_0_thing_floors C_is_errand_1_floors
  have C__law_begin_1 : CalG l.prog w K mg base CX0 1 "_law_begin" (spBegin K) 1 [] gv__law_begin_1 := by
    refine calG F2 ok2 (PySem.W.mg_of X G a2) ?_
    refine kbn0 F2 1 [] (fun vs zs => vs.take 1) (fun a c => (a.take 1)) ?_
    intro kV doc pm an cdv ct us ws l1 l2
    match us, ws, l1, l2 with
    | [_], [], _, _ => rfl
  have C__law_bounds_right_1 : CalG l.prog w K mg base CX0 4 "_law_bounds_right" (spBounds K) 1 [] gv__law_bounds_right_1 := by
    refine calG F6 ok6 (PySem.W.mg_of X G a6) ?_
    refine kbn0 F6 1 [] (fun vs zs => vs.take 1) (fun a c => (a.take 1)) ?_
    intro kV doc pm an cdv ct us ws l1 l2
    match us, ws, l1, l2 with
    | [_], [], _, _ => rfl
  have C__law_errands_right_2 : CalG l.prog w K mg base CX0 4 "_law_errands_right" (spErrands K) 2 [] gv__law_errands_right_2 := by
    refine calG F7 ok7 (PySem.W.mg_of X G a7) ?_
    refine kbn0 F7 2 [] (fun vs zs => vs.take 1 ++ (vs.drop 1).take 1) (fun a c => ((a.take 1).append ((a.drop 1).take 1))) ?_
    intro kV doc pm an cdv ct us ws l1 l2
    match us, ws, l1, l2 with
    | [_, _], [], _, _ => rfl
  have ok8 := ok_law (P := l.prog) (w := w) (base := base) F8 T C__law_begin_1 C__law_bounds_right_1 C__law_errands_right_2 C__law_next_2
  exact ok8
end Os
open PySem PySem.W PyProof.Rows
set_option maxRecDepth 100000 in
set_option maxHeartbeats 0 in
theorem PySem.Challenge.cw_oneseat_k01_numbers_and_errands_holds : PySem.Challenge.rw_oneseat_k01_numbers_and_errands.Holds := by
  w_on; o_law; k_head; (case hw => w_witness2)
  k_fill
  refine Og.walk_G (l := PySem.Challenge.rw_oneseat_k01_numbers_and_errands) (n := 63) (k := 5) (x := "script") (sp := Os.spLaw) rfl (by decide) rfl ⟨rfl, by decide, by decide⟩ (fun w h Y => PySem.W.kIn_of Y) ?F Os.law_sp
  case F =>
    intro w mg fa h KX G hmg
    refine' Os.all_mk KX G hmg ?a0 ?l0 ?e0 ?k0 ?n0_0 ?n0_1 ?a1 ?l1 ?e1 ?k1 ?a2 ?l2 ?e2 ?k2 ?a3 ?l3 ?e3 ?k3 ?a4 ?l4 ?e4 ?k4 ?a5 ?l5 ?e5 ?k5 ?a6 ?l6 ?e6 ?k6 ?a7 ?l7 ?e7 ?k7 ?a8 ?l8 ?e8 ?k8 ?z_bool ?z_int ?z_isinstance ?z_len ?z_list ?z_min ?z_range ?z_repr ?z_tuple ?c_MOST_ERRANDS ?c_MOST_FLOORS ?c_MOST_ROUNDS ?c_MOST_SEATS
    (case a0 => k_is)
    (case l0 => k_is)
    (case e0 => k_is)
    (case k0 => k_is)
    (case n0_0 => k_is)
    (case n0_1 => k_is)
    (case a1 => k_is)
    (case l1 => k_is)
    (case e1 => k_is)
    (case k1 => k_is)
    (case a2 => k_is)
    (case l2 => k_is)
    (case e2 => k_is)
    (case k2 => k_is)
    (case a3 => k_is)
    (case l3 => k_is)
    (case e3 => k_is)
    (case k3 => k_is)
    (case a4 => k_is)
    (case l4 => k_is)
    (case e4 => k_is)
    (case k4 => k_is)
    (case a5 => k_is)
    (case l5 => k_is)
    (case e5 => k_is)
    (case k5 => k_is)
    (case a6 => k_is)
    (case l6 => k_is)
    (case e6 => k_is)
    (case k6 => k_is)
    (case a7 => k_is)
    (case l7 => k_is)
    (case e7 => k_is)
    (case k7 => k_is)
    (case a8 => k_is)
    (case l8 => k_is)
    (case e8 => k_is)
    (case k8 => k_is)
    (case z_bool => k_is)
    (case z_int => k_is)
    (case z_isinstance => k_is)
    (case z_len => k_is)
    (case z_list => k_is)
    (case z_min => k_is)
    (case z_range => k_is)
    (case z_repr => k_is)
    (case z_tuple => k_is)
    (case c_MOST_ERRANDS => k_is)
    (case c_MOST_FLOORS => k_is)
    (case c_MOST_ROUNDS => k_is)
    (case c_MOST_SEATS => k_is)


import PyProof.Rows.All
import Wide.All
import OpenK.AllK
import Wide.FinOn
import HandS.ForMost
import HandS.Wide
import HandS.Gcd
import HandS.IsInst
import HandS.Property
import HandS.OwnEq
import KE.KOpsOwn
import PyProof.ReprRoads
import HandS.Codes
import HandS.Defaults
import HandS.MakeKwOnly
import OpenK.KOps
import KE.KCallOwn
import PyProof.ReprDict
import PyProof.StrHeap
import HandS.MakeKw
import HandS.HotCalls
import HandS.Style
import PyProof.Rows.SortStrRead
import PyProof.Rows.ReprOcc
import PyProof.ReprLen
import PyProof.P3Eq
import HandS.FStr
import HandS.ExcInitHot
import HandS.ExcField
import HandS.WordsExc
import HandS.ExcIs
import HandS.ClsMeth
import HandS.StrMore
import KE.KExcIs
import KE.KExcMake
import HandS.Zip
import HandS.Walk
import KE.KMathGC
import KE.GoesRaise
import HandS.SuiteRaise
import HandS.RaiseFrom
import HandS.ReplaceLit
import OpenK.KMeth
import HandS.TupMul
import HandS.TupAny
import HandS.Lambda
import HandS.EndTab
import KE.KSuper
import HandS.Set
import HandS.SetFor
import HandS.SetTxt0
import HandS.Strs
import PyProof.Rows.SortShellAny
import HandS.DictTup
import PyProof.Rows.StrMeet
import KE.KFmtOwn
import PyProof.NeKinds
import HandS.Text
import PyProof.Rows.StrCase
import PyProof.Rows.StrAscii
import HandS.RaiseMore
import PySem.Challenge.RW_matrixforms_k11_letters_made
set_option Elab.async false
set_option linter.all false
set_option maxRecDepth 100000
set_option maxHeartbeats 8000000
namespace PySem.W.Fast
def tw12172343778872588160 : Nat := 0
def tw11793529320343914977 : Nat := 0
def tw7504722176133489217 : Nat := 0
def tw1288099228469307458 : Nat := 0
def tw10354578269626098082 : Nat := 0
def tw4437385319567748546 : Nat := 0
def tw17789914679146002978 : Nat := 0
def tw15437810798384711266 : Nat := 0
def tw14599332172640487106 : Nat := 0
def tw14156736808634135490 : Nat := 0
def tw4282102999915189251 : Nat := 0
def tw2746417000109676995 : Nat := 0
def tw14913933781337927363 : Nat := 0
def tw14801731276306330916 : Nat := 0
def tw545107851554825860 : Nat := 0
def tw18038053153529015525 : Nat := 0
def tw14764112887548396997 : Nat := 0
def tw12867370600738629670 : Nat := 0
def tw9384336985298791591 : Nat := 0
def tw14216589375442199847 : Nat := 0
def tw4752403598071477927 : Nat := 0
def tw5525533910539413191 : Nat := 0
def tw2588868538076377192 : Nat := 0
def tw9150452982790939912 : Nat := 0
def tw11794601828695521800 : Nat := 0
def tw16577060184041676360 : Nat := 0
def tw13033688994313117320 : Nat := 0
def tw16840763169968634089 : Nat := 0
def tw7200219347289557321 : Nat := 0
def tw465847480322457129 : Nat := 0
def tw10702267428988894793 : Nat := 0
def tw15556621907915632457 : Nat := 0
def tw15730631785186531402 : Nat := 0
def tw1012685100646807723 : Nat := 0
def tw5884471241601635563 : Nat := 0
def tw1913289218602795307 : Nat := 0
def tw12390798536196764139 : Nat := 0
def tw2645426055769967275 : Nat := 0
def tw12986296579006380524 : Nat := 0
def tw16244971015578690124 : Nat := 0
def tw12485157113982837484 : Nat := 0
def tw13086138719991198381 : Nat := 0
def tw9522506800641476333 : Nat := 0
def tw1190078648316240430 : Nat := 0
def tw5659645129758639631 : Nat := 0
def tw2581004413163419439 : Nat := 0
def tw5383145947573940592 : Nat := 0
def tw3425585467770318704 : Nat := 0
def tw9396406715868090705 : Nat := 0
def tw4557540162465449521 : Nat := 0
def tw16596766828616614099 : Nat := 0
def tw8584230970726244659 : Nat := 0
def tw7041683730529231795 : Nat := 0
def tw13499960397644939284 : Nat := 0
def tw1737057240331206740 : Nat := 0
def tw3080929937059602580 : Nat := 0
def tw12490232114664892788 : Nat := 0
def tw3316541220239696372 : Nat := 0
def tw2930372992956362516 : Nat := 0
def tw11953694085119547638 : Nat := 0
def tw511813612535456438 : Nat := 0
def tw12237473758405186358 : Nat := 0
def tw13198833491132334711 : Nat := 0
def tw11315444772558173528 : Nat := 0
def tw5766912683543112184 : Nat := 0
def tw17486433436880780345 : Nat := 0
def tw16514312878307294394 : Nat := 0
def tw12673981481610934618 : Nat := 0
def tw17971455030446533178 : Nat := 0
def tw16387928441193997851 : Nat := 0
def tw2518412735853312188 : Nat := 0
def tw8620772252544162012 : Nat := 0
def tw4649833873187820188 : Nat := 0
def tw4229873137901189980 : Nat := 0
def tw17001505890856337023 : Nat := 0
def tw10206973615511953087 : Nat := 0
end PySem.W.Fast
namespace Lw
open PySem PySem.W PyProof.Rows
theorem glue {α β γ : Type} {f : α → γ} {g : β → γ} {n : Nat} {l : List α} {m : List β} (h1 : (l.take n).map f = (m.take n).map g) (h2 : (l.drop n).map f = (m.drop n).map g) : l.map f = m.map g := by
  have e1 : l.map f = ((l.take n) ++ (l.drop n)).map f := by rw [List.take_append_drop]
  have e2 : m.map g = ((m.take n) ++ (m.drop n)).map g := by rw [List.take_append_drop]
  rw [e1, e2, List.map_append, List.map_append, h1, h2]
/-- the look at the written part, in parts -/
theorem kpOf {K : Params → Frag} {as : List Addr} (e : ∀ P, as = (K P).map (·.1)) (w : World) (s : Shared) (x : (((as.take 96).map s.heap.get?), ((((as.drop 96).take 96).map s.heap.get?), (((((as.drop 96).drop 96).take 96).map s.heap.get?), ((((((as.drop 96).drop 96).drop 96).take 96).map s.heap.get?), (((((((as.drop 96).drop 96).drop 96).drop 96).take 96).map s.heap.get?), ((((((((as.drop 96).drop 96).drop 96).drop 96).drop 96).take 96).map s.heap.get?), (((((((((as.drop 96).drop 96).drop 96).drop 96).drop 96).drop 96).take 96).map s.heap.get?), ((((((((as.drop 96).drop 96).drop 96).drop 96).drop 96).drop 96).drop 96).map s.heap.get?)))))))) = ((((K w.params).take 96).map fun p => some p.2), (((((K w.params).drop 96).take 96).map fun p => some p.2), ((((((K w.params).drop 96).drop 96).take 96).map fun p => some p.2), (((((((K w.params).drop 96).drop 96).drop 96).take 96).map fun p => some p.2), ((((((((K w.params).drop 96).drop 96).drop 96).drop 96).take 96).map fun p => some p.2), (((((((((K w.params).drop 96).drop 96).drop 96).drop 96).drop 96).take 96).map fun p => some p.2), ((((((((((K w.params).drop 96).drop 96).drop 96).drop 96).drop 96).drop 96).take 96).map fun p => some p.2), (((((((((K w.params).drop 96).drop 96).drop 96).drop 96).drop 96).drop 96).drop 96).map fun p => some p.2))))))))) : InK K w s.heap :=
  InK.of e w s (glue (Prod.mk.inj x).1 (glue (Prod.mk.inj (Prod.mk.inj x).2).1 (glue (Prod.mk.inj (Prod.mk.inj (Prod.mk.inj x).2).2).1 (glue (Prod.mk.inj (Prod.mk.inj (Prod.mk.inj (Prod.mk.inj x).2).2).2).1 (glue (Prod.mk.inj (Prod.mk.inj (Prod.mk.inj (Prod.mk.inj (Prod.mk.inj x).2).2).2).2).1 (glue (Prod.mk.inj (Prod.mk.inj (Prod.mk.inj (Prod.mk.inj (Prod.mk.inj (Prod.mk.inj x).2).2).2).2).2).1 (glue (Prod.mk.inj (Prod.mk.inj (Prod.mk.inj (Prod.mk.inj (Prod.mk.inj (Prod.mk.inj (Prod.mk.inj x).2).2).2).2).2).2).1 ((Prod.mk.inj (Prod.mk.inj (Prod.mk.inj (Prod.mk.inj (Prod.mk.inj (Prod.mk.inj (Prod.mk.inj x).2).2).2).2).2).2).2))))))))
local macro_rules
  | `($f:ident ($g:ident $k $a $e)) => do
    unless g.getId.eraseMacroScopes == `kHook do Lean.Macro.throwUnsupported
    if f.getId.eraseMacroScopes == `Hook.obs then `(fun (s : PySem.Shared) => ((($a).take 96).map s.heap.get?, (((($a).drop 96).take 96).map s.heap.get?, ((((($a).drop 96).drop 96).take 96).map s.heap.get?, (((((($a).drop 96).drop 96).drop 96).take 96).map s.heap.get?, ((((((($a).drop 96).drop 96).drop 96).drop 96).take 96).map s.heap.get?, (((((((($a).drop 96).drop 96).drop 96).drop 96).drop 96).take 96).map s.heap.get?, ((((((((($a).drop 96).drop 96).drop 96).drop 96).drop 96).drop 96).take 96).map s.heap.get?, ((((((((($a).drop 96).drop 96).drop 96).drop 96).drop 96).drop 96).drop 96).map s.heap.get?)))))))))
    else if f.getId.eraseMacroScopes == `Hook.val then `(fun (w : PySem.World) => (((($k w.params)).take 96).map (fun p => some p.2), ((((($k w.params)).drop 96).take 96).map (fun p => some p.2), (((((($k w.params)).drop 96).drop 96).take 96).map (fun p => some p.2), ((((((($k w.params)).drop 96).drop 96).drop 96).take 96).map (fun p => some p.2), (((((((($k w.params)).drop 96).drop 96).drop 96).drop 96).take 96).map (fun p => some p.2), ((((((((($k w.params)).drop 96).drop 96).drop 96).drop 96).drop 96).take 96).map (fun p => some p.2), (((((((((($k w.params)).drop 96).drop 96).drop 96).drop 96).drop 96).drop 96).take 96).map (fun p => some p.2), (((((((((($k w.params)).drop 96).drop 96).drop 96).drop 96).drop 96).drop 96).drop 96).map fun p => some p.2)))))))))
    else if f.getId.eraseMacroScopes == `Hook.of then `(Lw.kpOf $e)
    else Lean.Macro.throwUnsupported
set_option maxHeartbeats 0
open_top hd for PySem.Challenge.rw_matrixforms_k11_letters_made
end Lw

/-! A layer over L2 in which it is known that no guarded builtin (repr of a container) is running around. -/
namespace MG
open PySem PySem.Spec PyProof.Rows L2

/-- nothing guarded runs around -/
def Bare (A : Around) : Prop := A.guards = some []

/-- as FnOk, called only where nothing guarded runs around -/
structure FnG (P : Program) (w : World) (K : PySem.W.Frag) (mg : Str → Option Value) (base : Heap) (CX : CXT) (k : Nat)
    (f : Addr) (fd : FuncData) (ps : List Str) (sp : Sp) : Prop where
  len : ∀ vs H Q E, sp vs H Q E → vs.length = ps.length
  run : ∀ (A : Around) (outer : List Env) (s : Shared) (H : Hp) (args : Args) (us : List Value) (vs : List V) (Q : VK) (E : XK),
    Bare A → Room k A → Env0 P w K mg base A outer s H → BindsTo s fd args (ps.zip us) → Vals vs us → sp vs H Q E →
      codeAny (model P w) A (.call (.ref f) args) (CR CX outer P w H s Q E) s

section
variable {P : Program} {w : World} {K : PySem.W.Frag} {mg : Str → Option Value} {base : Heap} {CX : CXT} {k : Nat} {f : Addr}
theorem FnG.of {fd : FuncData} {ps : List Str} {sp : Sp} (F : FnOk P w K mg base CX k f fd ps sp) : FnG P w K mg base CX k f fd ps sp :=
  ⟨F.len, fun A outer s H args us vs Q E _ => F.run A outer s H args us vs Q E⟩

theorem fnG_of {name qual : Str} {params : Arguments} {body : List Stmt} {scope : Scope} {dV kV doc pm cdv ct oc : Value} {an od : Option Addr}
    {osl : Array (Option Value)} {N ps : List Str} {sp : Sp}
    (lk : K.lookup f = some ⟨oc, od, .func (PySem.W.fnOf name qual params body scope dV kV doc pm an cdv ct), osl⟩)
    (hcd : PySem.W.codeIn K cdv qual = true) (S : FnScope N ps scope) (len : ∀ vs H Q E, sp vs H Q E → vs.length = ps.length)
    (hbody : ∀ (A : Around) (outer : List Env) (s : Shared) (H : Hp) (vs : List V) (Q : VK) (E : XK), Bare A →
      Room k (A.deeper (envOfC qual scope s.heap.objs.size f cdv)) → sp vs H Q E →
      ∃ t, PSs (cxOf CX P w K mg base N qual scope f cdv A outer s H E) body t ∧ t { nx := fun _ H' => Q .non H', rt := Q } (start N vs) H) :
    FnG P w K mg base CX (k + 1) f (PySem.W.fnOf name qual params body scope dV kV doc pm an cdv ct) ps sp := by
  refine ⟨len, ?_⟩
  intro A outer s H args us vs Q E bare hr e0 hb r hsp
  have hl := len _ _ _ _ hsp
  have inK : K.In s.heap := e0.mod.kin.keeps (fun b o e => (e0.bs b o e).left)
  have free : s.heap.NoLimit := e0.mod.nolimit.keeps (fun b o e => (e0.bs b o e).left)
  refine codeAny_call_function hr.depth (inK _ _ lk) rfl S.co S.gen rfl (PySem.W.codeRec_of inK hcd) (hb _ _ _ _ ?_)
  have kinds : ∀ y ∈ ps.zip us, scope.names.lookup y.1 = some .local ∨
      (scope.names.lookup y.1 = some .cell ∧ ((cellsFrom (s.heap.objs.size + 1) scope.names []).lookup y.1).isSome = true) := by
    rintro ⟨n, v⟩ hy
    exact (S.par n (List.of_mem_zip hy).left).imp id fun q => ⟨q, PySem.W.cellsFrom_some _ _ _ (.inl q)⟩
  refine wpAny_newFunctionEnv_cells S.kind kinds ?_
  intro env he s1 x
  subst he
  refine ⟨free.keeps x.toInCall.keep, codeAny_func ?_⟩
  obtain ⟨t, ht, hq⟩ := hbody A outer s H vs Q E bare (hr.deeper _) hsp
  have I := inv_start (CX := CX) (E := E) S hr.hd e0 hl r x
  refine wpAny_mono (ht.run [] s1 (start N vs) H _ I hq) ?_ (fun e s' hs => hs)
  intro fl s' hs
  match fl, hs with
  | .ret u, ⟨v, σ', H', J, rv, q⟩ => exact ⟨v, H', J.os, J.bare, J.base, J.hok, rv, q⟩
  | .next, ⟨σ', H', J, q⟩ => exact ⟨V.non, H', J.os, J.bare, J.base, J.hok, rfl, q⟩
  | .brk, ⟨_, _, _, q⟩ => exact False.elim q
  | .cont, ⟨_, _, _, q⟩ => exact False.elim q
end

section
variable {X : Cx} {CX : CXT} {k : Nat} {f C : Addr} {fd : FuncData} {ps : List Str} {sp : Sp} {dvs : List V} {ds : List Value} {E : XK} {x m : Str} {p pos apos : Pos} {e o : Expr} {es : List Expr} {ta : TE} {t : TA}
variable {pins : List (Addr × Obj)} {σ : L2.St} {H : Hp} {s : Shared}
theorem run_fnG {Q : VK} {us : List Value} {vs : List V} (F : FnG X.prog X.w X.K X.mg X.base CX k f fd ps sp) (bare : Bare X.A) (hr : Room k X.A)
    (hb : Binds X.K fd ps ds) (hd : Vals dvs ds) (hx : Passes CX X E) (I : Inv X pins σ H s) (r : Vals vs us) (h : sp (vs ++ dvs) H Q E) :
    wpAny (model X.prog X.w) X.A (call (.ref f) us) (EP X pins σ Q) X.xe s := by
  have r2 := r.append hd
  have hl : (us ++ ds).length = ps.length := r2.length.symm.trans (F.len _ _ _ _ h)
  refine wpAny_call (codeAny_mono (F.run X.A X.stack s H ⟨us, []⟩ _ _ Q E bare hr I.env0 (hb s us I.kIn hl) r2 h) ?_)
  intro r s' hq
  match r, hq with
  | .error e, hq => exact hx pins σ H s e s' I hq
  | .ok (.ret u), hq => exact I.after hq
  | .ok .next, hq => exact False.elim hq
  | .ok .brk, hq => exact False.elim hq
  | .ok .cont, hq => exact False.elim hq

theorem pe_callG (F : FnG X.prog X.w X.K X.mg X.base CX k f fd ps sp) (bare : Bare X.A) (hr : Room k X.A) (hg : Gl X x) (hm : X.mg x = some (.ref f))
    (hk : PySem.W.keepIn X.K (.ref f) = true) (hb : Binds X.K fd ps ds) (hd : Vals dvs ds) (hx : Passes CX X E) (ha : PA X (e :: es) t)
    (hdb : (x == ("__debug__" : Str)) = false := by decide)
    (he : starEach (e :: es) X.env = (false, eval e X.env) :: starEach es X.env := by rfl)
    (hpl : (backTo pos (starEach es X.env)).any (·.1) = false := by rfl) : PE X (.Call (.Name x p) (e :: es) [] pos) (tCall sp dvs E t) := by
  constructor
  intro pins s σ H Q I h
  refine wpAny_Call_Name_kw (ld_glob I hg hm ?_ hdb)
  refine PySem.W.callWith_K (h₀ := X.base) I.ok.mod.kin hk (thn (ha.run pos pins s σ H _ I h) ?_) he hpl
  rintro us s1 ⟨vs, H1, I1, r, q⟩
  exact ⟨I1.kIn, run_fnG F bare hr hb hd hx I1 r q⟩
end

/-- the law's call at the heap behind the top, H being what is tracked there: at most the script -/
theorem enterG {P : Program} {w : World} {K : PySem.W.Frag} {mg mb : Str → Option Value} {k : Nat} {fa a : Addr} {fd : FuncData} {x : Str} {sp : Sp}
    {s₁ : Shared} {vs : List Value} {ns : List Int} {H : Hp}
    (KX : K.In s₁.heap) (hns : s₁.heap.Ns mainGlobals mg) (hb : s₁.heap.Ns builtinsNs mb) (hbb : ∀ x : Str, x ≠ "__name__" → mb x = bootBuiltins x)
    (hlim : s₁.heap.NoLimit) (hg : s₁.gens = #[]) (ha : s₁.heap.get? a = some { cls := .type "list", data := .seq vs.toArray })
    (hr : Room k callerA) (F : ∀ base : Heap, K.In base → base.Ns mainGlobals mg → FnG P w K mg base CX0 k fa fd [x] sp)
    (hbind : ∀ (s : Shared) (u : Value), BindsTo s fd ⟨[u], []⟩ [(x, u)])
    (hO : Only H) (hok : HOk P w H s₁.heap) (hA : ∀ b, H b ≠ none → b = a) (hK : H a ≠ none → K.lookup a = none)
    (hsp : sp [.ref a] H (fun v _ => v = .bl true) fun _ _ _ => False) :
    codeAny (model P w) callerA (.call (.ref fa) ⟨[.ref a], []⟩)
      (fun r s' => r = .ok (.ret (.bool true)) ∧ OldK s₁.heap s'.heap ∧ s'.os = s₁.os ∧ AllBare s'.gens) s₁ := by
  have untr : ∀ {b : Addr}, (b = a → False) → H b = none := fun {b} hne => by
    cases q : H b with
    | none => rfl
    | some u => exact (hne (hA b (by rw [q]; exact Option.some_ne_none u))).elim
  have ns' : ∀ {b : Addr} {m : Str → Option Value}, s₁.heap.Ns b m → (hidT s₁.heap H).Ns b m := by
    rintro b m ⟨o, es, ep, e, d, r⟩
    refine ⟨o, es, ep, hidT_get e (untr fun z => ?_), d, r⟩
    subst z
    have e' := e.symm.trans ha
    cases e'
    cases d
  have inB : K.In (hidT s₁.heap H) := fun b o e => hidT_get (KX b o e) (by
    by_cases z : b = a
    · subst z
      cases q : H b with
      | none => rfl
      | some u =>
        have e2 := hK (by rw [q]; exact Option.some_ne_none u)
        exact nomatch e.symm.trans e2
    · exact untr z)
  have M : Mod K mg (hidT s₁.heap H) := by
    refine ⟨inB, ns' hns, ⟨mb, ns' hb, hbb⟩, ?_⟩
    obtain ⟨mc, h1, h2⟩ := hlim
    exact ⟨mc, ns' h1, h2⟩
  have env : Env0 P w K mg (hidT s₁.heap H) callerA [] s₁ H :=
    { frames := rfl, mod := M, bs := fun b o e => of_hidT e, bsz := Nat.le_of_eq (hidT_size _ _), funs := trivial,
      frf := (fun b z => nomatch (show b ∈ ([] : List Addr) from z)), hok := hok, bare := .of_eq hg }
  refine codeAny_mono ((F _ inB (ns' hns)).run callerA [] s₁ H ⟨[.ref a], []⟩ [.ref a] [.ref a] _ _ rfl hr env (hbind s₁ (.ref a)) (.cons rfl .nil) hsp) ?_
  intro r s' h
  match r, h with
  | .error e, h => exact False.elim h
  | .ok .next, h => exact False.elim h
  | .ok .brk, h => exact False.elim h
  | .ok .cont, h => exact False.elim h
  | .ok (.ret u), ⟨v, H', os, bare, un, hok', rv, hv⟩ =>
    have hv' : v = .bl true := hv
    subst hv'
    have hu : u = Value.bool true := rv
    subst hu
    refine ⟨rfl, OldK.of_keep ?_, os, bare⟩
    intro b o e
    cases q : H b with
    | none => exact un.keep b o e q (fun z => by cases z) (by simp)
    | some t =>
      obtain ⟨ob, xs, z⟩ := (hO b).resolve_left (by rw [q]; exact Option.some_ne_none t)
      have o1 : s₁.heap.get? b = some ob := (hok b _ z).left
      have o2 : s'.heap.get? b = some ob := (hok' b _ (un.frzs b ob _ z)).left
      rw [o2]
      exact o1.symm.trans e

theorem callG {P : Program} {w : World} {K : PySem.W.Frag} {mg mb : Str → Option Value} {k : Nat} {fa a : Addr} {fd : FuncData} {x : Str} {sp : Sp}
    {s₁ : Shared} {vs : List Value} {ns : List Int}
    (KX : K.In s₁.heap) (hns : s₁.heap.Ns mainGlobals mg) (hb : s₁.heap.Ns builtinsNs mb) (hbb : ∀ x : Str, x ≠ "__name__" → mb x = bootBuiltins x)
    (hlim : s₁.heap.NoLimit) (hg : s₁.gens = #[]) (ha : s₁.heap.get? a = some { cls := .type "list", data := .seq vs.toArray }) (hi : IntsAre vs ns)
    (hl : ns.length ≤ sizeLine) (hr : Room k callerA) (F : ∀ base : Heap, K.In base → base.Ns mainGlobals mg → FnG P w K mg base CX0 k fa fd [x] sp)
    (hbind : ∀ (s : Shared) (u : Value), BindsTo s fd ⟨[u], []⟩ [(x, u)])
    (hsp : ∀ H : Hp, Only H → SqL K H a (ns.map V.int) → sp [.ref a] H (fun v _ => v = .bl true) fun _ _ _ => False) :
    codeAny (model P w) callerA (.call (.ref fa) ⟨[.ref a], []⟩)
      (fun r s' => r = .ok (.ret (.bool true)) ∧ OldK s₁.heap s'.heap ∧ s'.os = s₁.os ∧ AllBare s'.gens) s₁ := by
  have rv := vals_ints hi
  have lv := hi.length
  by_cases hk : K.lookup a = none
  · let H0 : Hp := upd (fun _ => none) a (.frz { cls := .type "list", data := .seq vs.toArray } (.lst (ns.map V.int)))
    have h0 : ∀ b, b ≠ a → H0 b = none := fun b z => upd_ne z
    have h1 : H0 a = some (.frz { cls := .type "list", data := .seq vs.toArray } (.lst (ns.map V.int))) := upd_same
    have O : Only H0 := fun b => by
      by_cases z : b = a
      · rw [z]
        exact .inr ⟨_, _, h1⟩
      · exact .inl (h0 b z)
    refine enterG (ns := ns) KX hns hb hbb hlim hg ha hr F hbind O (fun b u z => ?_) (fun b z => ?_) (fun _ => hk) (hsp _ O (.inl (.inr ⟨_, h1⟩)))
    · by_cases hba : b = a
      · subst hba
        cases h1.symm.trans z
        exact ⟨ha, by rw [List.length_map]; exact hl, vs, _, rv, ha⟩
      · exact nomatch (h0 b hba).symm.trans z
    · by_cases hba : b = a
      · exact hba
      · exact (z (h0 b hba)).elim
  · obtain ⟨o, e⟩ := Option.ne_none_iff_exists'.mp hk
    have e2 := (KX a o e).symm.trans ha
    cases e2
    have O : Only (fun _ => none) := fun _ => .inl rfl
    refine enterG (ns := ns) KX hns hb hbb hlim hg ha hr F hbind O (fun b u z => nomatch z) (fun b z => (z rfl).elim) (fun z => (z rfl).elim) (hsp _ O (.inr ?_))
    exact ⟨_, vs.toArray, _, e, rfl, rfl, rfl, by rw [List.size_toArray, lv]; exact hl, by simpa using rv⟩

theorem walkG {l : PySem.W.OpenLaw} {n k : Nat} {q : Program} {loose : List Str} {XP : (Str → Option Value) → Heap → Prop} {YP : World → Heap → Prop} {d : DefRec}
    {K : Params → PySem.W.Frag} {sp : World → Sp} {x : Str} (hn : l.most = some n) (hn2 : n ≤ sizeLine) (hdf : d.params.defaults = []) (hr : Room k callerA)
    (hY : ∀ (w : World) (h : Heap), YP w h → (K w.params).In h)
    (F : ∀ (w : World) (mg : Str → Option Value) (fa : Addr) (h : Heap), (K w.params).In h → h.Ns mainGlobals mg → mg d.name = some (.ref fa) →
      ∃ fd : FuncData, (∀ (s : Shared) (u : Value), BindsTo s fd ⟨[u], []⟩ [(x, u)]) ∧
        ∀ base : Heap, (K w.params).In base → base.Ns mainGlobals mg → FnG l.prog w (K w.params) mg base CX0 k fa fd [x] (sp w))
    (hsp : ∀ (w : World) (H : Hp) (a : Addr) (ns : List Int), ns.length ≤ n → Only H → SqL (K w.params) H a (ns.map V.int) →
      sp w [.ref a] H (fun v _ => v = .bl true) fun _ _ _ => False) :
    PySem.W.WalkO q loose XP YP l.row.toRowW d [] (fun f vs => PySem.call f vs) := by
  refine Att.attach_call hn hdf ?_
  intro w s₀ s₁ mg mb fa o pm cd doc a vs ns G Y ho hd hcd hmg hobj hints hlen hg
  have inK := hY w _ Y
  obtain ⟨fd, hb, hF⟩ := F w mg fa _ inK G.T.g hmg
  exact callG inK G.T.g G.T.b G.T.builtins G.T.nolimit hg hobj hints (Nat.le_trans hlen hn2) hr hF hb fun H hO hS => hsp w H a ns hlen hO hS
end MG

/-! Further rules: operators of own classes, repr of data, // of any sign -/
namespace MG
open PySem PySem.Spec PyProof.Rows L2

section
variable {X : Cx}
/-- // by any divisor but 0 -/
theorem op_fdivZ : OpR X (binaryOp .FloorDiv) (rI (fun _ j => j ≠ 0 ∧ j.natAbs.log2 < 9000) fun i j => .int (i.fdiv j)) :=
  opI fun _ _ _ _ _ _ _ hc q => floordiv_int hc.1 q (.inl (PyProof.noPylong_of_log2 hc.2))

theorem rel_ni {v : V} (r : RelV v Value.notImplemented) : False := by
  cases v with
  | non => cases (show Value.notImplemented = Value.none from r)
  | bl b => cases (show Value.notImplemented = Value.bool b from r)
  | int i => obtain ⟨_, q⟩ := (show ∃ t, Value.notImplemented = Value.int i t from r); cases q
  | str i => obtain ⟨_, q⟩ := (show ∃ t, Value.notImplemented = Value.str i t from r); cases q
  | byt i => obtain ⟨_, q⟩ := (show ∃ t, Value.notImplemented = Value.bytes i t from r); cases q
  | flt i => obtain ⟨_, q⟩ := (show ∃ t, Value.notImplemented = Value.float i t from r); cases q
  | ref i => cases (show Value.notImplemented = Value.ref i from r)
  | ty i => cases (show Value.notImplemented = Value.type i from r)
theorem back_of {Q : Value → Shared → Prop} {v : V} {u : Value} {s : Shared} (r : RelV v u) (q : Q u s) : PySem.W.CmpBack Q u s := by
  cases u <;> first | exact q | exact (rel_ni r).elim

/-- what the top says of an operator's method of an own class -/
structure OpAt (K : PySem.W.Frag) (C : Addr) (op : Operator) (f : Addr) : Prop where
  first : PySem.W.selfFirst K C = true
  at_ : PySem.W.findIn K (.ref C) (PySem.dunder op.info.2) = some (some (.ref f))
  fn : PySem.W.isFn K (.ref f) = true
  ref : PySem.W.findIn K (.ref C) (dunderR op.info.2) = some none
structure OpInt (K : PySem.W.Frag) (C : Addr) (op : Operator) : Prop where
  to : ∃ fo, PySem.W.findIn K (.type "int") (PySem.dunder op.info.2) = some fo
  ro : ∃ ro, PySem.W.findIn K (.type "int") (dunderR op.info.2) = some ro
  sub : PySem.W.subIn K (.type "int") (.ref C) = some false

/-- x op y, x of the class at C, y of it too or an int -/
def rOwn (C : Addr) (sp : Sp) (E : XK) : R2 := fun x y H Q => ∃ a dx fs, x = .ref a ∧ H a = some (.ins C dx fs) ∧
  ((∃ b dy gs, y = .ref b ∧ H b = some (.ins C dy gs)) ∨ ∃ i, y = .int i) ∧ sp [x, y] H Q E
theorem op_own {CX : CXT} {k : Nat} {C f : Addr} {op : Operator} {fd : FuncData} {ps : List Str} {sp : Sp} {E : XK}
    (o : OpAt X.K C op f) (oi : OpInt X.K C op) (F : FnOk X.prog X.w X.K X.mg X.base CX k f fd ps sp) (hr : Room k X.A)
    (hb : Binds X.K fd ps []) (hx : Passes CX X E) : OpR X (binaryOp op) (rOwn C sp E) := by
  intro pins s σ H x y v u Q I rx ry h
  obtain ⟨a, dx, fs, rfl, ha, hy, hsp⟩ := h
  cases rx
  obtain ⟨mA, J, _⟩ := ins_get I.hok ha
  obtain ⟨od, J, _⟩ := J.look
  obtain ⟨m, hF⟩ := I.fr
  have call1 : wpAny (model X.prog X.w) X.A (call (.ref f) [.ref a, u]) (PySem.W.CmpBack (EP X pins σ Q)) X.xe s :=
    wpAny_mono (run_fn (vs := [.ref a, y]) F hr hb .nil hx I (.cons rfl (.cons ry .nil)) (by rw [List.append_nil]; exact hsp))
      (fun _ _ hq => match hq with | ⟨_, _, _, r, _⟩ => back_of r hq) fun _ _ e => e
  rcases hy with ⟨b, dy, gs, rfl, hb'⟩ | ⟨i, rfl⟩
  · cases ry
    obtain ⟨mB, J', _⟩ := ins_get I.hok hb'
    obtain ⟨od', J', _⟩ := J'.look
    exact PySem.W.binop_K hF I.ok.mod.kin J J'.type o.first o.at_ o.fn call1
  · obtain ⟨t, rfl⟩ := ry
    obtain ⟨fo, h1⟩ := oi.to
    obtain ⟨ro, h2⟩ := oi.ro
    exact PySem.W.ksp_binT hF I.ok.mod.kin J (T := "int") rfl o.first o.at_ o.fn o.ref (.inl rfl) h1 h2 oi.sub call1

/-- -x of an own class -/
def rNegO (C : Addr) (sp : Sp) (E : XK) : V → Hp → VK → Prop := fun x H Q => ∃ a dx fs, x = .ref a ∧ H a = some (.ins C dx fs) ∧ sp [x] H Q E
theorem un_negO {CX : CXT} {k : Nat} {C f : Addr} {fd : FuncData} {ps : List Str} {sp : Sp} {E : XK}
    (at_ : PySem.W.findIn X.K (.ref C) "__neg__" = some (some (.ref f))) (fn : PySem.W.isFn X.K (.ref f) = true)
    (F : FnOk X.prog X.w X.K X.mg X.base CX k f fd ps sp) (hr : Room k X.A) (hb : Binds X.K fd ps []) (hx : Passes CX X E) :
    UnR X (unaryOp .USub) (rNegO C sp E) := by
  intro pins s σ H x v Q I rx h
  obtain ⟨a, dx, fs, rfl, ha, hsp⟩ := h
  cases rx
  obtain ⟨mA, J, _⟩ := ins_get I.hok ha
  obtain ⟨od, J, _⟩ := J.look
  obtain ⟨m, hF⟩ := I.fr
  exact PySem.W.ksp_neg hF I.ok.mod.kin J at_ fn (run_fn (vs := [.ref a]) F hr hb .nil hx I (.cons rfl .nil) (by rw [List.append_nil]; exact hsp))

/-- x == y, x of the class at C with its own ==, y of it too -/
def rEqO (C : Addr) (sp : Sp) (E : XK) : R2 := fun x y H Q => ∃ a dx fs b dy gs, x = .ref a ∧ H a = some (.ins C dx fs) ∧ y = .ref b ∧ H b = some (.ins C dy gs) ∧ sp [x, y] H Q E
theorem op_eqO {CX : CXT} {k : Nat} {C f : Addr} {fd : FuncData} {ps : List Str} {sp : Sp} {E : XK}
    (at_ : PySem.W.findIn X.K (.ref C) "__eq__" = some (some (.ref f))) (fn : PySem.W.isFn X.K (.ref f) = true)
    (F : FnOk X.prog X.w X.K X.mg X.base CX k f fd ps sp) (hr : Room k X.A) (hb : Binds X.K fd ps []) (hx : Passes CX X E) :
    OpR X (compareOp .Eq) (rEqO C sp E) := by
  intro pins s σ H x y v u Q I rx ry h
  obtain ⟨a, dx, fs, b, dy, gs, rfl, ha, rfl, hb', hsp⟩ := h
  cases rx
  cases ry
  obtain ⟨mA, J, _⟩ := ins_get I.hok ha
  obtain ⟨od, J, _⟩ := J.look
  obtain ⟨mB, J', _⟩ := ins_get I.hok hb'
  obtain ⟨od', J', _⟩ := J'.look
  obtain ⟨m, hF⟩ := I.fr
  refine PySem.W.cmp_K (op := .Eq) (tb := .ref C) hr.units0 hF I.ok.mod.kin J J'.type (by simp [PySem.W.notFirst]) at_ fn ?_
  exact wpAny_mono (run_fn (vs := [.ref a, .ref b]) F hr hb .nil hx I (.cons rfl (.cons rfl .nil)) (by rw [List.append_nil]; exact hsp))
    (fun _ _ hq => match hq with | ⟨_, _, _, r, _⟩ => back_of r hq) fun _ _ e => e
end
end MG

namespace MG
open PySem PySem.Spec PyProof.Rows L2 PySem.Calls

section
variable {prog : Program} {w : World} {A : Around} {E : Value → Shared → Prop} {s : Shared} {K : PySem.W.Frag} {x y C L f : Addr} {h₀ : Heap} {m : Str → Option Value} {ox oy : Obj} {od oe : Option Obj}

theorem objNe_run (X : K.In s.heap) (I : PySem.W.InstAt s.heap x ox C od) (hs : PySem.W.findIn K (.ref C) "__eq__" = some (some (.ref f))) (hf : PySem.W.isFn K (.ref f) = true)
    (hu : A.units < cLine) {Q : Fin → Shared → Prop}
    (hcall : wpAny (model prog w) A (call (.ref f) [.ref x, .ref y]) (fun v s' => ∃ b, v = .bool b ∧ Q (.done (.ret (.bool (!b)))) s') E s) :
    wpAny (model prog w) A (Builtin.«object.__ne__» ⟨[.ref x, .ref y], []⟩) Q E s := by
  unfold Builtin.«object.__ne__»
  repeat (first
    | with_reducible refine wpAny_cRoomFor hu ?_
    | (refine wpAny_bind (m := callSpecialIfBound? (.ref x) (Str.ofString "__eq__") [.ref y])
        (PySem.W.ifBound_K X I hs hf (wpAny_mono hcall (fun r s' hr => ?_) fun _ _ e => e)))
    | wp_step)
  obtain ⟨b, rfl, hq⟩ := hr
  repeat (first | exact hq | exact wpAny_pure hq | exact wpAny_truthy_bool hq | (refine wpAny_bind (m := truthy (.bool _)) (wpAny_truthy_bool ?_)) | wp_step)

theorem ifBound_ne (X : K.In s.heap) (I : PySem.W.InstAt s.heap x ox C od) (hn : PySem.W.findIn K (.ref C) "__ne__" = some (some (.builtin "object.__ne__")))
    {args : List Value} {Q : Option Value → Shared → Prop}
    (h : wpAny (model prog w) A (call (.builtin "object.__ne__") (.ref x :: args)) (fun v => Q (some v)) E s) :
    wpAny (model prog w) A (callSpecialIfBound? (.ref x) "__ne__" args) Q E s := by
  have S : Slot "object" "__ne__" "object.__ne__" := PySem.F.cmp_object.ne
  have hb := S.bind
  simp only [callSpecialIfBound?, bindSpecialIfBound?]
  refine wpAny_holding (wpAny_bind (wpAny_bind (wpAny_bind (I.type.here ((PySem.W.looks_findIn X hn).here ?_)))))
  simp only [hb]
  refine wpAny_bind (wpAny_askSetting (wpAny_ite ?_))
  have fin : wpAny (model prog w) A (call (.builtin "object.__ne__") ([.ref x] ++ args) >>= fun v => pure (some v)) Q E s :=
    wpAny_bind (wpAny_mono h (fun v s' h' => wpAny_pure h') fun _ _ h' => h')
  split
  · exact wpAny_bind (wpAny_pure (wpAny_pure fin))
  · exact wpAny_tryCatch (wpAny_bind (wpAny_pure (wpAny_pure fin)))

theorem ne_K (X : K.In s.heap) (I : PySem.W.InstAt s.heap x ox C od) (I' : PySem.W.InstAt s.heap y oy C oe)
    (hn : PySem.W.findIn K (.ref C) "__ne__" = some (some (.builtin "object.__ne__"))) (hs : PySem.W.findIn K (.ref C) "__eq__" = some (some (.ref f)))
    (hf : PySem.W.isFn K (.ref f) = true) (ho : PySem.W.subIn K (.ref C) (.type "object") = some true) (hu : A.units + 1 < cLine) {Q : Value → Shared → Prop}
    (hcall : wpAny (model prog w) A.in1 (call (.ref f) [.ref x, .ref y]) (fun v s' => ∃ b, v = .bool b ∧ Q (.bool (!b)) s') E s) :
    wpAny (model prog w) A (richCompare .NotEq (.ref x) (.ref y)) Q E s := by
  have sub : PySem.W.Looks (model prog w) s.heap (isInstance (.ref x) (.type "object")) true := I.type.andThen (PySem.W.looks_subIn X ho)
  have one : wpAny (model prog w) A (tryCompare (.ref x) "__ne__" (.ref y)) (fun r s' => ∃ v, r = some v ∧ Q v s') E s := by
    simp only [tryCompare]
    refine wpAny_bind (ifBound_ne X I hn (wpAny_call (codeAny_call_builtin PySem.F.cmp_object.ne.plain PySem.F.cmpEntry_ne
      (PySem.W.check_slot PySem.F.cmpKind_ne PySem.F.cmpSplit_ne sub (PySem.F.cmpArgs_ne _ _) ?_))))
    refine objNe_run (A := A.in1) X I hs hf hu (wpAny_mono hcall (fun v s' hv => ?_) fun _ _ e => e)
    obtain ⟨b, rfl, hq⟩ := hv
    first | exact ⟨b, rfl, wpAny_pure ⟨_, rfl, hq⟩⟩ | exact ⟨b, rfl, wpAny_pure (wpAny_pure ⟨_, rfl, hq⟩)⟩ | exact ⟨b, rfl, _, rfl, hq⟩
  unfold richCompare
  simp only [oneThing_ref]
  refine wpAny_holding (wpAny_bind (wpAny_cRoomFor (Nat.lt_of_succ_lt hu) ?_))
  refine wpAny_bind (I.type.here (wpAny_bind (I'.type.here ?_)))
  rw [show (Value.ref C != Value.ref C) = false from by simp]
  simp only [Bool.false_eq_true, if_false]
  refine wpAny_bind (wpAny_pure ?_)
  simp only [Bool.false_eq_true, if_false]
  refine wpAny_bind (wpAny_mono one (fun v s' hv => ?_) fun _ _ e => e)
  obtain ⟨b, rfl, hq⟩ := hv
  exact wpAny_pure hq
end

section
variable {X : Cx}
structure NeAt (K : PySem.W.Frag) (C f : Addr) : Prop where
  ne : PySem.W.findIn K (.ref C) "__ne__" = some (some (.builtin "object.__ne__"))
  eq : PySem.W.findIn K (.ref C) "__eq__" = some (some (.ref f))
  fn : PySem.W.isFn K (.ref f) = true
  sub : PySem.W.subIn K (.ref C) (.type "object") = some true
def rNeO (C : Addr) (sp : Sp) (E : XK) : R2 := fun x y H Q => ∃ a dx fs b dy gs, x = .ref a ∧ H a = some (.ins C dx fs) ∧ y = .ref b ∧ H b = some (.ins C dy gs) ∧
  sp [x, y] H (fun v H' => ∃ c, v = .bl c ∧ Q (.bl (!c)) H') E
theorem op_neO {CX : CXT} {k : Nat} {C f : Addr} {fd : FuncData} {ps : List Str} {sp : Sp} {E : XK} (n : NeAt X.K C f)
    (F : FnOk X.prog X.w X.K X.mg X.base CX k f fd ps sp) (hr : Room (k + 1) X.A) (hb : Binds X.K fd ps []) (hx : Passes CX X E) :
    OpR X (compareOp .NotEq) (rNeO C sp E) := by
  intro pins s σ H x y v u Q I rx ry h
  obtain ⟨a, dx, fs, b, dy, gs, rfl, ha, rfl, hb', hsp⟩ := h
  cases rx
  cases ry
  obtain ⟨mA, J, _⟩ := ins_get I.hok ha
  obtain ⟨od, J, _⟩ := J.look
  obtain ⟨mB, J', _⟩ := ins_get I.hok hb'
  obtain ⟨od', J', _⟩ := J'.look
  refine ne_K I.kIn J J' n.ne n.eq n.fn n.sub (Nat.lt_trans (by omega) hr.un) ?_
  have hl := F.len _ _ _ _ hsp
  refine wpAny_call (codeAny_mono (F.run X.A.in1 X.stack s H ⟨[.ref a, .ref b], []⟩ [.ref a, .ref b] [.ref a, .ref b] _ E hr.in1 I.env0.in1 (by
    have := hb s [.ref a, .ref b] I.kIn (by simpa using hl)
    simpa using this) (.cons rfl (.cons rfl .nil)) hsp) fun r s' hq => ?_)
  match r, hq with
  | .error e, hq => exact hx pins σ H s e s' I hq
  | .ok (.ret z), hq =>
    obtain ⟨v, H', I', rv, c, rfl, q⟩ := I.after hq
    cases rv
    exact ⟨c, rfl, .bl (!c), H', I', rfl, q⟩
  | .ok .next, hq => exact False.elim hq
  | .ok .brk, hq => exact False.elim hq
  | .ok .cont, hq => exact False.elim hq

/-- repr(x) of data: None, bools, ints, texts, lists, tuples -/
def rRepr (K : PySem.W.Frag) : List V → Hp → VK → Prop := fun xs H Q => ∃ x d, xs = [x] ∧ Dp K H x d ∧ d.showable = true ∧ d.hasDict = false ∧ d.depth ≤ 60 ∧ d.shown.length ≤ sizeLine ∧ Q (.str d.shown) H
theorem call_reprD (bare : Bare X.A) (hu : X.A.units + 64 < cLine) : CallR X (.builtin "repr") (rRepr X.K) := by
  intro pins s σ H xs us Q I r h
  obtain ⟨x, d, rfl, hd, hs, hdict, hdep, hz, q⟩ := h
  cases r with
  | cons rx rn =>
    cases rn
    rename_i u
    obtain ⟨as, R⟩ := Dp.reads I d x u hd rx
    have leaf : ∀ (k : Nat), EP X pins σ Q (.str d.shown k) { s with toks := s.toks + 1 } := fun k => ⟨.str _, H, I.tok _, ⟨_, rfl⟩, q⟩
    cases R with
    | none => exact PySem.P.repr_of_none (leaf _)
    | bool b => exact PySem.P.repr_of_bool (leaf _)
    | int i t => exact PySem.P.repr_of_int (by simpa [PyData.showable] using hs) (leaf _)
    | str z t => exact PySem.P.repr_of_str (leaf _) hz
    | list h1 h2 h3 h4 => exact repr_of_reads' (.list h1 h2 h3 h4) hs (fun z => by rw [hdict] at z; cases z) bare (by omega) (fun _ _ e => e) (fun h' u tk k => ⟨.str _, H, I.kept k, ⟨_, rfl⟩, q⟩) hz
    | tuple h1 h2 h3 h4 => exact repr_of_reads' (.tuple h1 h2 h3 h4) hs (fun z => by rw [hdict] at z; cases z) bare (by omega) (fun _ _ e => e) (fun h' u tk k => ⟨.str _, H, I.kept k, ⟨_, rfl⟩, q⟩) hz
    | dict h1 h2 h3 h4 h5 => exact absurd hd nofun
end
end MG

/-! Defs as callers know them -/
namespace MG
open PySem PySem.Spec PyProof.Rows L2

/-- a def of the module that lets nothing out, as callers know it -/
structure CalG (P : Program) (w : World) (K : PySem.W.Frag) (mg : Str → Option Value) (base : Heap) (k : Nat) (x : Str) (sp : Sp) (dvs : List V) : Prop where
  ex : ∃ (f : Addr) (fd : FuncData) (ps : List Str) (ds : List Value), FnG P w K mg base CX0 k f fd ps sp ∧ mg x = some (.ref f) ∧ PySem.W.keepIn K (.ref f) = true ∧ Binds K fd ps ds ∧ Vals dvs ds
theorem pe_cg {X : Cx} {k j : Nat} {x : Str} {sp : Sp} {dvs : List V} {p pos : Pos} {e : Expr} {es : List Expr} {t : TA}
    (c : CalG X.prog X.w X.K X.mg X.base k x sp dvs) (bare : Bare X.A) (hr : Room j X.A) (hk : k ≤ j) (hg : Gl X x) (ha : PA X (e :: es) t)
    (hdb : (x == ("__debug__" : Str)) = false := by decide)
    (he : starEach (e :: es) X.env = (false, eval e X.env) :: starEach es X.env := by rfl)
    (hpl : (backTo pos (starEach es X.env)).any (·.1) = false := by rfl) : PE X (.Call (.Name x p) (e :: es) [] pos) (tCall sp dvs E0 t) := by
  obtain ⟨f, fd, ps, ds, F, hm, kp, b, d⟩ := c.ex
  exact pe_callG F bare (hr.mono hk) hg hm kp b d pass0 ha hdb he hpl

section
variable {P : Program} {w : World} {K : PySem.W.Frag} {mg : Str → Option Value} {base : Heap}
/-- its body, as a term of rules, and the reading of that term -/
theorem fun_okG {x qual : Str} {st : Stmt} {f : Addr} {fd : FuncData} {N ps : List Str} {k : Nat} {sp : Sp} (F : Fun K x qual st f fd) (S : FnScope N ps (defScope st)) (len : ∀ vs H Q E, sp vs H Q E → vs.length = ps.length)
    (hbody : ∀ (cdv : Value) (A : Around) (outer : List Env) (s : Shared) (H : Hp) (vs : List V) (Q : VK) (E : XK), Bare (A.deeper (envOfC qual (defScope st) s.heap.objs.size f cdv)) →
      Room k (A.deeper (envOfC qual (defScope st) s.heap.objs.size f cdv)) → sp vs H Q E →
      ∃ t, PSs (cxOf CX0 P w K mg base N qual (defScope st) f cdv A outer s H E).nox (defBody st) t ∧ t { nx := fun _ H' => Q .non H', rt := Q } (start N vs) H) : FnG P w K mg base CX0 (k + 1) f fd ps sp := by
  obtain ⟨oc, od, kV, doc, pm, an, cdv, ct, osl, rfl, lk, hcd⟩ := F.ex
  refine fnG_of lk hcd S len ?_
  intro A outer s H vs Q E bare hr hsp
  obtain ⟨t, h, q⟩ := hbody cdv A outer s H vs Q E bare hr hsp
  exact ⟨t, h.nox, q⟩
theorem calG_of {x qual : Str} {st : Stmt} {f : Addr} {fd : FuncData} {N ps : List Str} {k : Nat} {sp : Sp} (F : Fun K x qual st f fd) (hm : mg x = some (.ref f)) (b : Binds K fd ps []) (S : FnScope N ps (defScope st)) (len : ∀ vs H Q E, sp vs H Q E → vs.length = ps.length)
    (hbody : ∀ (cdv : Value) (A : Around) (outer : List Env) (s : Shared) (H : Hp) (vs : List V) (Q : VK) (E : XK), Bare (A.deeper (envOfC qual (defScope st) s.heap.objs.size f cdv)) →
      Room k (A.deeper (envOfC qual (defScope st) s.heap.objs.size f cdv)) → sp vs H Q E →
      ∃ t, PSs (cxOf CX0 P w K mg base N qual (defScope st) f cdv A outer s H E).nox (defBody st) t ∧ t { nx := fun _ H' => Q .non H', rt := Q } (start N vs) H) : CalG P w K mg base (k + 1) x sp [] :=
  ⟨f, fd, ps, [], fun_okG F S len hbody, hm, F.kp, b, .nil⟩
end

/-- the same where nothing need be known of what runs around -/
structure CalF (P : Program) (w : World) (K : PySem.W.Frag) (mg : Str → Option Value) (base : Heap) (k : Nat) (x : Str) (sp : Sp) (dvs : List V) : Prop where
  ex : ∃ (f : Addr) (fd : FuncData) (ps : List Str) (ds : List Value), FnOk P w K mg base CX0 k f fd ps sp ∧ mg x = some (.ref f) ∧ PySem.W.keepIn K (.ref f) = true ∧ Binds K fd ps ds ∧ Vals dvs ds
theorem pe_cf {X : Cx} {k j : Nat} {x : Str} {sp : Sp} {dvs : List V} {p pos : Pos} {e : Expr} {es : List Expr} {t : TA}
    (c : CalF X.prog X.w X.K X.mg X.base k x sp dvs) (hr : Room j X.A) (hk : k ≤ j) (hg : Gl X x) (ha : PA X (e :: es) t)
    (hdb : (x == ("__debug__" : Str)) = false := by decide)
    (he : starEach (e :: es) X.env = (false, eval e X.env) :: starEach es X.env := by rfl)
    (hpl : (backTo pos (starEach es X.env)).any (·.1) = false := by rfl) : PE X (.Call (.Name x p) (e :: es) [] pos) (tCall sp dvs E0 t) := by
  obtain ⟨f, fd, ps, ds, F, hm, kp, b, d⟩ := c.ex
  exact pe_call F (hr.mono hk) hg hm kp b d pass0 ha hdb he hpl
/-- a class that may be made by its name; sp: its __init__ -/
structure MakF (P : Program) (w : World) (K : PySem.W.Frag) (mg : Str → Option Value) (base : Heap) (k : Nat) (x : Str) (C : Addr) (sp : Sp) (dvs : List V) : Prop where
  ex : ∃ (f : Addr) (fd : FuncData) (ps : List Str) (ds : List Value), Mk K C f ∧ FnOk P w K mg base CX0 k f fd ps sp ∧ mg x = some (.ref C) ∧ Binds K fd ps ds ∧ Vals dvs ds
theorem pe_mkf {X : Cx} {k j : Nat} {x : Str} {C : Addr} {sp : Sp} {dvs : List V} {p pos : Pos} {e : Expr} {es : List Expr} {t : TA}
    (c : MakF X.prog X.w X.K X.mg X.base k x C sp dvs) (hr : Room j X.A) (hk : k + 1 ≤ j) (hg : Gl X x) (ha : PA X (e :: es) t)
    (hdb : (x == ("__debug__" : Str)) = false := by decide)
    (he : starEach (e :: es) X.env = (false, eval e X.env) :: starEach es X.env := by rfl)
    (hpl : (backTo pos (starEach es X.env)).any (·.1) = false := by rfl) : PE X (.Call (.Name x p) (e :: es) [] pos) (tMake C sp dvs E0 t) := by
  obtain ⟨f, fd, ps, ds, M, F, hm, b, d⟩ := c.ex
  exact pe_make M F (hr.mono hk) hg hm b d pass0 ha hdb he hpl
/-- one value by place, one by name -/
def one1 {α : Type} : List α → List α → List α
  | [a], [b] => [a, b]
  | _, _ => []
/-- o.m(k = v, ..) -/
def tMethK (C : Addr) (m : Str) (sp : Sp) (gV : List V → List V → List V) (E : XK) (ta : TE) (tk : TA) : TE := fun σ H Q => ta σ H fun x H1 =>
  ∃ a dx fs, x = .ref a ∧ H1 a = some (.ins C dx fs) ∧ fs.lookup m = none ∧ tk σ H1 fun zs H2 => sp (gV [x] zs) H2 Q E
theorem pe_methK0 {X : Cx} {CX : CXT} {k : Nat} {f C : Addr} {fd : FuncData} {ps ks : List Str} {sp : Sp} {E : XK} {m : Str} {pos apos : Pos} {o : Expr} {kws : List Keyword} {ta : TE} {tk : TA}
    {g : List Value → List Value → List Value} {gV : List V → List V → List V} {pl : Sem Bool}
    (he : PE X o ta) (c : Cls X.K C) (hm : Meth X.K C m f) (F : FnOk X.prog X.w X.K X.mg X.base CX k f fd ps sp) (hr : Room k X.A) (hb : KBinds X.K fd ps ks g gV) (hx : Passes CX X E) (hkw : PK X kws tk)
    (hall : (backToKw pos (keywordEach kws X.env)).all (·.1.isSome) = true := by rfl) (hks : (backToKw pos (keywordEach kws X.env)).filterMap (·.1) = ks := by rfl)
    (hpl : ((backTo pos (starEach [] X.env)).any (·.1) || (backToKw pos (keywordEach kws X.env)).any (·.1.isNone)) = false := by rfl)
    (ht : eval (.Call (.Attribute o m apos) [] kws pos) X.env = (do
      let ov ← eval o X.env
      standAt apos.atName
      let (f, first) ← holding [ov] (getMethod ov m pl)
      callWith pos f first (backTo pos (starEach [] X.env)) (backToKw pos (keywordEach kws X.env))) := by rfl) :
    PE X (.Call (.Attribute o m apos) [] kws pos) (tMethK C m sp gV E ta tk) := by
  constructor
  intro pins s σ H Q I h
  refine PySem.W.methodCall_KW (pl := pl) (thn (he.run pins s σ H _ I h) ?_) ht
  rintro u s1 ⟨x, H1, I1, rx, a, dx, fs, ex, ea, l, q⟩
  subst ex
  have eu : u = Value.ref a := rx
  subst eu
  refine getmeth_ok I1 ea c hm l ?_
  refine PySem.W.callWith_KW0 (h₀ := X.base) I.ok.mod.kin hm.kp hall (thn (hkw.run pos pins s1 σ H1 _ I1 q) ?_) hpl
  rintro ws s2 ⟨zs, H2, I2, rz, q2⟩
  refine ⟨I2.kIn, ?_⟩
  rw [hks]
  exact run_fnk (us := [.ref a]) (vs := [.ref a]) F hr hb hx I2 (.cons rfl .nil) rz q2

/-! ### operators, properties and methods of a class, as callers know them -/
section
variable (P : Program) (w : World) (K : PySem.W.Frag) (mg : Str → Option Value) (base : Heap) (k : Nat) (C : Addr)
structure OpF (op : Operator) (sp : Sp) : Prop where
  ex : ∃ (f : Addr) (fd : FuncData) (ps : List Str), OpAt K C op f ∧ OpInt K C op ∧ FnOk P w K mg base CX0 k f fd ps sp ∧ Binds K fd ps []
structure NegF (sp : Sp) : Prop where
  ex : ∃ (f : Addr) (fd : FuncData) (ps : List Str), PySem.W.findIn K (.ref C) "__neg__" = some (some (.ref f)) ∧ PySem.W.isFn K (.ref f) = true ∧ FnOk P w K mg base CX0 k f fd ps sp ∧ Binds K fd ps []
structure EqF (sp : Sp) : Prop where
  ex : ∃ (f : Addr) (fd : FuncData) (ps : List Str), NeAt K C f ∧ FnOk P w K mg base CX0 k f fd ps sp ∧ Binds K fd ps []
structure PropF (x : Str) (sp : Sp) : Prop where
  ex : ∃ (p g : Addr) (fd : FuncData) (ps : List Str), PropOf K C x p g ∧ FnOk P w K mg base CX0 k g fd ps sp ∧ Binds K fd ps []
structure MetF (m : Str) (sp : Sp) (dvs : List V) : Prop where
  ex : ∃ (f : Addr) (fd : FuncData) (ps : List Str) (ds : List Value), Meth K C m f ∧ FnOk P w K mg base CX0 k f fd ps sp ∧ Binds K fd ps ds ∧ Vals dvs ds
structure MetK (m : Str) (sp : Sp) (ks : List Str) (gV : List V → List V → List V) : Prop where
  ex : ∃ (f : Addr) (fd : FuncData) (ps : List Str) (g : List Value → List Value → List Value), Meth K C m f ∧ FnOk P w K mg base CX0 k f fd ps sp ∧ KBinds K fd ps ks g gV
end
section
variable {X : Cx} {k j : Nat} {C : Addr} {sp : Sp} {op : Operator}
theorem op_f (o : OpF X.prog X.w X.K X.mg X.base k C op sp) (hr : Room j X.A) (hk : k ≤ j) : OpR X (binaryOp op) (rOwn C sp E0) := by
  obtain ⟨f, fd, ps, a, i, F, b⟩ := o.ex
  exact op_own a i F (hr.mono hk) b pass0
theorem un_f (o : NegF X.prog X.w X.K X.mg X.base k C sp) (hr : Room j X.A) (hk : k ≤ j) : UnR X (unaryOp .USub) (rNegO C sp E0) := by
  obtain ⟨f, fd, ps, a, i, F, b⟩ := o.ex
  exact un_negO a i F (hr.mono hk) b pass0
theorem eq_f (o : EqF X.prog X.w X.K X.mg X.base k C sp) (hr : Room j X.A) (hk : k ≤ j) : OpR X (compareOp .Eq) (rEqO C sp E0) := by
  obtain ⟨f, fd, ps, n, F, b⟩ := o.ex
  exact op_eqO n.eq n.fn F (hr.mono hk) b pass0
theorem ne_f (o : EqF X.prog X.w X.K X.mg X.base k C sp) (hr : Room j X.A) (hk : k + 1 ≤ j) : OpR X (compareOp .NotEq) (rNeO C sp E0) := by
  obtain ⟨f, fd, ps, n, F, b⟩ := o.ex
  exact op_neO n F (hr.mono hk) b pass0
theorem pe_pf {x : Str} {e : Expr} {pos : Pos} {ta : TE} (o : PropF X.prog X.w X.K X.mg X.base k C x sp) (c : Cls X.K C) (hr : Room j X.A) (hk : k + 1 ≤ j) (he : PE X e ta)
    (hab : attributeBase e x X.env (eval e X.env) = eval e X.env) : PE X (.Attribute e x pos) (tProp C sp [] E0 ta) := by
  obtain ⟨p, g, fd, ps, hp, F, b⟩ := o.ex
  exact pe_prop he c hp F (hr.mono hk) b .nil pass0 hab
theorem pe_mf {m : Str} {pos apos : Pos} {o : Expr} {e : Expr} {es : List Expr} {dvs : List V} {ta : TE} {t : TA} {pl : Sem Bool} (c : MetF X.prog X.w X.K X.mg X.base k C m sp dvs) (cl : Cls X.K C) (hr : Room j X.A) (hk : k ≤ j) (he : PE X o ta) (ha : PA X (e :: es) t)
    (hst : starEach (e :: es) X.env = (false, eval e X.env) :: starEach es X.env := by rfl) (hpl : (backTo pos (starEach es X.env)).any (·.1) = false := by rfl)
    (ht : eval (.Call (.Attribute o m apos) (e :: es) [] pos) X.env = (do
      let ov ← eval o X.env
      standAt apos.atName
      let (f, first) ← holding [ov] (getMethod ov m pl)
      callWith pos f first (backTo pos (starEach (e :: es) X.env)) (backToKw pos (keywordEach [] X.env))) := by rfl) :
    PE X (.Call (.Attribute o m apos) (e :: es) [] pos) (tMeth C m sp dvs E0 ta t) := by
  obtain ⟨f, fd, ps, ds, M, F, b, d⟩ := c.ex
  exact pe_meth (pl := pl) he cl M F (hr.mono hk) b d pass0 ha hst hpl ht
end
/-! ### joining the ways -/
/-- what holds of the value is said once for all ways -/
def tCut (te : TE) : TE := fun σ H Q => ∃ C : VK, te σ H C ∧ ∀ v H', C v H' → Q v H'
theorem pe_cut {X : Cx} {e : Expr} {te : TE} (h : PE X e te) : PE X e (tCut te) := by
  constructor
  rintro pins s σ H Q I ⟨C, h1, h2⟩
  refine wpAny_mono (h.run pins s σ H C I h1) ?_ fun _ _ z => z
  rintro u s' ⟨v, H', J, r, q⟩
  exact ⟨v, H', J, r, h2 v H' q⟩
/-- what holds behind a statement is said once for all ways -/
def tCutS (ts : TS) : TS := fun D σ H => ∃ C : L2.St → Hp → Prop, ts { D with nx := C } σ H ∧ ∀ σ' H', C σ' H' → D.nx σ' H'
theorem ps_cut {X : Cx} {st : Stmt} {ts : TS} (h : PS X st ts) : PS X st (tCutS ts) := by
  constructor
  rintro pins s σ H D I ⟨C, h1, h2⟩
  refine wpAny_mono (h.run pins s σ H { D with nx := C } I h1) ?_ fun _ _ z => z
  intro f s' q
  cases f with
  | next =>
    obtain ⟨σ', H', J, q⟩ := q
    exact ⟨σ', H', J, h2 σ' H' q⟩
  | ret u => exact q
  | brk => exact q
  | cont => exact q

/-! ### isinstance, from what the top says -/
theorem kit_rt {K : PySem.W.Frag} {C : Addr} {T : String} {b : Bool} (hm : PySem.W.kitMeta T = true) (h : PySem.W.subIn K (.ref C) (.type T) = some b) : PySem.W.kitOne K (.ref C) (.type T) = some b := by
  have e : (Value.ref C == Value.type T) = false := beq_eq_false_iff_ne.mpr nofun
  unfold PySem.W.kitOne
  rw [e]
  show (if PySem.W.kitMeta T = true then PySem.W.subIn K (.ref C) (.type T) else none) = some b
  rw [if_pos hm, h]
theorem kit_tr {K : PySem.W.Frag} {C : Addr} {T : String} {b : Bool} (h1 : PySem.W.isClsIn K C = true) (h2 : PySem.W.typeIn K (.ref C) = some (.type "type")) (h : PySem.W.subIn K (.type T) (.ref C) = some b) : PySem.W.kitOne K (.type T) (.ref C) = some b := by
  have e : (Value.type T == Value.ref C) = false := beq_eq_false_iff_ne.mpr nofun
  unfold PySem.W.kitOne
  rw [e]
  show (if ((PySem.W.clsIn K C).isSome && PySem.W.typeIn K (.ref C) == some (.type "type")) = true then PySem.W.subIn K (.type T) (.ref C) else none) = some b
  have h1' : (PySem.W.clsIn K C).isSome = true := h1
  rw [h1', h2, if_pos (by simp), h]
theorem kit_rr {K : PySem.W.Frag} {C : Addr} : PySem.W.kitOne K (.ref C) (.ref C) = some true := by
  unfold PySem.W.kitOne
  rw [if_pos (by simp)]

/-! ### comprehensions, item by item -/
theorem pe_imp {X : Cx} {e : Expr} {t t' : TE} (h : PE X e t) (hi : ∀ σ H Q, t' σ H Q → t σ H Q) : PE X e t' :=
  ⟨fun pins s σ H Q I q => h.run pins s σ H Q I (hi σ H Q q)⟩
theorem ps_imp {X : Cx} {st : Stmt} {t t' : TS} (h : PS X st t) (hi : ∀ D σ H, t' D σ H → t D σ H) : PS X st t' :=
  ⟨fun pins s σ H D I q => h.run pins s σ H D I (hi D σ H q)⟩
/-- [e for x in l], x in slot j: ys are the items of the new list -/
def tMapL (K : PySem.W.Frag) (j : Nat) (tl te : TE) : TE := fun σ H Q => tl σ H fun x H1 => ∃ a xs ys, x = .ref a ∧ SqL K H1 a xs ∧ ys.length = xs.length ∧ xs.length ≤ 100000 ∧
  (∀ (i : Nat) (x y : V) (H' : Hp), xs[i]? = some x → ys[i]? = some y → Same H1 H' → te ((σ.set j none).set j (some x)) H' fun v H'' => v = y ∧ Same H' H'') ∧
  ∀ D H', Same H1 H' → H1 D = none → H' D = some (.lst ys) → Q (.ref D) H'
/-- the same over range(..) -/
def tMapR (j : Nat) (ta : TA) (te : TE) : TE := fun σ H Q => ta σ H fun vs H1 => ∃ (m : Int) (ys : List V), vs = [.int m] ∧ 0 ≤ m ∧ m ≤ 100000 ∧ (ys.length : Int) = m ∧
  (∀ (i : Nat) (y : V) (H' : Hp), ys[i]? = some y → Same H1 H' → te ((σ.set j none).set j (some (.int i))) H' fun v H'' => v = y ∧ Same H' H'') ∧
  ∀ D H', Same H1 H' → H1 D = none → H' D = some (.lst ys) → Q (.ref D) H'
theorem take_one {α : Type} {l : List α} {i : Nat} {x : α} (h : l[i]? = some x) : l.take (i + 1) = l.take i ++ [x] := by
  rw [List.take_succ, h]
  rfl
theorem wipe_one {σ : L2.St} {j : Nat} {x : V} : wipe ((wipe σ [j]).set j (some x)) [j] = wipe σ [j] := by
  show (((σ.set j none).set j (some x)).set j none) = σ.set j none
  rw [List.set_set, List.set_set]
theorem map_core {K : PySem.W.Frag} {te : TE} (mono : ∀ σ H Q Q', (∀ v H', Q v H' → Q' v H') → te σ H Q → te σ H Q') {j : Nat} {σ : L2.St} {H1 : Hp} {Q : VK} {a : Addr} {xs ys : List V} (hl : SqL K H1 a xs) (hn : ys.length = xs.length) (hs : xs.length ≤ 100000)
    (he : ∀ (i : Nat) (x y : V) (H' : Hp), xs[i]? = some x → ys[i]? = some y → Same H1 H' → te ((σ.set j none).set j (some x)) H' fun v H'' => v = y ∧ Same H' H'')
    (k : ∀ D H', Same H1 H' → H1 D = none → H' D = some (.lst ys) → Q (.ref D) H') :
    tLc (fun _ H R => R (Itl K a) H) (gName j) tYes te [j] σ H1 Q := by
  intro D hD
  refine lc_list (K := K) (a := a) (xs := xs) (fun i H' => Same H1 H' ∧ H' D = some (.lst (ys.take i))) ⟨fun c u h => by rw [upd_ne (ne_of_none h hD)]; exact h, upd_same⟩ (fun i H' _ h => h.1.seq hl) ?_ ?_
  · rintro i x H' hi ⟨s, e⟩
    have hi2 : i < xs.length := (List.getElem?_eq_some_iff.mp hi).1
    have hy : ys[i]? = some ys[i] := List.getElem?_eq_getElem (by omega)
    refine ⟨wipe_one, mono _ _ _ _ ?_ (he i x _ H' hi hy s)⟩
    rintro v H2 ⟨rfl, s2⟩
    refine ⟨_, s2 _ _ e, ?_, ?_, ?_⟩
    · rw [List.length_take]
      exact Nat.lt_of_le_of_lt (m := 100000) (by omega) (by decide)
    · intro c o hc
      rw [upd_ne (ne_of_none hc hD)]
      exact s2 _ _ (s _ _ hc)
    · rw [upd_same, take_one hy]
  · rintro H' ⟨s, e⟩
    rw [← hn, List.take_length] at e
    exact k D H' s hD e
theorem tCut_mono {te : TE} : ∀ σ H (Q Q' : VK), (∀ v H', Q v H' → Q' v H') → tCut te σ H Q → tCut te σ H Q' :=
  fun _ _ _ _ hq ⟨C, h1, h2⟩ => ⟨C, h1, fun v H' c => hq v H' (h2 v H' c)⟩
theorem tl_core {K : PySem.W.Frag} {tl te : TE} {j : Nat} {σ : L2.St} {H : Hp} {Q : VK} (q : tMapL K j tl te σ H Q) : tLc (iList K (tCut tl)) (gName j) tYes (tCut te) [j] σ H Q := by
  refine ⟨_, q, ?_⟩
  rintro v H1 ⟨a, xs, ys, rfl, hl, hn, hs, he, k⟩
  exact ⟨a, rfl, ⟨_, hl⟩, map_core tCut_mono hl hn hs (fun i x y H' h1 h2 h3 => ⟨_, he i x y H' h1 h2 h3, fun _ _ c => c⟩) k⟩
theorem pe_map {X : Cx} {K : PySem.W.Frag} {e : Expr} {tl te : TE} {j : Nat} (h : PE X e (tLc (iList K (tCut tl)) (gName j) tYes (tCut te) [j])) : PE X e (tMapL K j tl te) :=
  pe_imp h fun _ _ _ => tl_core
theorem ps_map {X : Cx} {K : PySem.W.Frag} {st : Stmt} {tl te : TE} {j i : Nat} (h : PS X st (tAsg (tLc (iList K (tCut tl)) (gName j) tYes (tCut te) [j]) (gName i))) : PS X st (tAsg (tMapL K j tl te) (gName i)) :=
  ps_imp h fun _ _ _ => tl_core
/-- arguments, cut -/
def tCutA (ta : TA) : TA := fun σ H Q => ∃ C : List V → Hp → Prop, ta σ H C ∧ ∀ vs H', C vs H' → Q vs H'
theorem map_coreR {te : TE} {j : Nat} {σ : L2.St} {H1 : Hp} {Q : VK} {m : Nat} {ys : List V} (hn : ys.length = m) (hs : m ≤ 100000)
    (he : ∀ (i : Nat) (y : V) (H' : Hp), ys[i]? = some y → Same H1 H' → te ((σ.set j none).set j (some (.int i))) H' fun v H'' => v = y ∧ Same H' H'')
    (k : ∀ D H', Same H1 H' → H1 D = none → H' D = some (.lst ys) → Q (.ref D) H') :
    tLc (fun _ H R => R (Itr 0 m) H) (gName j) tYes (tCut te) [j] σ H1 Q := by
  intro D hD
  refine lc_range (lo := 0) (n := m) (fun i H' => Same H1 H' ∧ H' D = some (.lst (ys.take i))) ⟨fun c u h => by rw [upd_ne (ne_of_none h hD)]; exact h, upd_same⟩ ?_ ?_
  · rintro i H' hi ⟨s, e⟩
    have hy : ys[i]? = some ys[i] := List.getElem?_eq_getElem (by omega)
    have e0 : (0 : Int) + (i : Int) = i := Int.zero_add _
    rw [e0]
    refine ⟨wipe_one, _, he i _ H' hy s, ?_⟩
    rintro v H2 ⟨rfl, s2⟩
    refine ⟨_, s2 _ _ e, ?_, ?_, ?_⟩
    · rw [List.length_take]
      exact Nat.lt_of_le_of_lt (m := 100000) (by omega) (by decide)
    · intro c o hc
      rw [upd_ne (ne_of_none hc hD)]
      exact s2 _ _ (s _ _ hc)
    · rw [upd_same, take_one hy]
  · rintro H' ⟨s, e⟩
    rw [← hn, List.take_length] at e
    exact k D H' s hD e
theorem pe_mapR {X : Cx} {e : Expr} {ta : TA} {te : TE} {j : Nat} (mono : ∀ σ H (Q Q' : List V → Hp → Prop), (∀ v H', Q v H' → Q' v H') → ta σ H Q → ta σ H Q')
    (h : PE X e (tLc (iRng1 ta) (gName j) tYes (tCut te) [j])) : PE X e (tMapR j ta te) := by
  refine pe_imp h fun σ H Q q => ?_
  refine mono σ H _ _ ?_ q
  rintro vs H1 ⟨m, ys, rfl, h0, hm, hn, he, k⟩
  exact ⟨m, rfl, by omega, by omega, map_coreR (by omega) (by omega) he k⟩

/-! ### within a comprehension: the written part by its name -/
theorem call_reprK {X : Cx} {K : PySem.W.Frag} (bare : Bare X.A) (hu : X.A.units + 64 < cLine) (hK : X.K = K := by rfl) : CallR X (.builtin "repr") (rRepr K) := hK ▸ call_reprD bare hu
theorem ix_listK {X : Cx} {K : PySem.W.Frag} (hK : X.K = K := by rfl) : IxR X (rIxL K) := hK ▸ ix_list
theorem ix_tupK {X : Cx} {K : PySem.W.Frag} (hK : X.K = K := by rfl) : IxR X (rIxT K) := hK ▸ ix_tup
theorem call_isiK {X : Cx} {K : PySem.W.Frag} (hK : X.K = K := by rfl) : CallR X (.builtin "isinstance") (rIsi K) := hK ▸ call_isi

/-! ### heaps: all that was tracked stays, but for the list at q -/
structure Keep (q : Addr) (H H' : Hp) : Prop where
  all : ∀ b o, H b = some o → b ≠ q → H' b = some o
  hd : ∀ x l, H q = some (.lst (x :: l)) → ∃ l', H' q = some (.lst (x :: l'))
instance {q : Addr} {H H' : Hp} : CoeFun (Keep q H H') (fun _ => ∀ b o, H b = some o → b ≠ q → H' b = some o) := ⟨Keep.all⟩
theorem Keep.refl {q : Addr} {H : Hp} : Keep q H H := ⟨fun _ _ h _ => h, fun x l h => ⟨l, h⟩⟩
theorem Keep.trans {q : Addr} {H H1 H2 : Hp} (a : Keep q H H1) (b : Keep q H1 H2) : Keep q H H2 := ⟨fun c o h n => b.all c o (a.all c o h n) n, fun x l h => by
  obtain ⟨l1, h1⟩ := a.hd x l h
  exact b.hd x l1 h1⟩
theorem Keep.upd {q : Addr} {H H' : Hp} {x : V} {l l' : List V} (a : Keep q H H') (hq : H q = some (.lst (x :: l))) : Keep q H (L2.upd H' q (.lst (x :: l'))) := ⟨fun c u h n => by rw [upd_ne n]; exact a.all c u h n, fun y m h => by
  obtain ⟨rfl, _⟩ := List.cons.inj (HO.lst.inj (Option.some.inj (hq.symm.trans h)))
  exact ⟨l', upd_same⟩⟩
theorem Keep.new {q p : Addr} {H H' : Hp} {o : HO} (a : Keep q H H') (hp : H' p = none) : Keep q H (L2.upd H' p o) := ⟨fun c u h n => by
  have e := a.all c u h n
  rw [upd_ne (ne_of_none e hp)]
  exact e, fun x l h => by
  obtain ⟨l1, h1⟩ := a.hd x l h
  exact ⟨l1, by rw [upd_ne (ne_of_none h1 hp)]; exact h1⟩⟩
theorem Keep.same {q : Addr} {H H1 H2 : Hp} (a : Keep q H H1) (b : Same H1 H2) : Keep q H H2 := ⟨fun c o h n => b c o (a.all c o h n), fun x l h => by
  obtain ⟨l1, h1⟩ := a.hd x l h
  exact ⟨l1, b _ _ h1⟩⟩
theorem Same.keep {q : Addr} {H H' : Hp} (a : Same H H') : Keep q H H' := ⟨fun c o h _ => a c o h, fun x l h => ⟨l, a _ _ h⟩⟩
theorem Same.new {p : Addr} {H H' : Hp} {o : HO} (a : Same H H') (hp : H' p = none) : Same H (L2.upd H' p o) := fun c u h => by
  have e := a c u h
  rw [upd_ne (ne_of_none e hp)]
  exact e
theorem Keep.toSame {q : Addr} {H H' : Hp} (a : Keep q H H') (hq : H q = none) : Same H H' := fun c o h => a.all c o h (ne_of_none h hq)
theorem Keep.free {q p : Addr} {H H' : Hp} (a : Keep q H H') (hne : p ≠ q) (h : H' p = none) : H p = none := by
  cases e : H p with
  | none => rfl
  | some o => exact nomatch h.symm.trans (a.all p o e hne)
theorem pe_mk_ {X : Cx} {k j : Nat} {C : Addr} {sp : Sp} {m : Str} {pos apos : Pos} {o : Expr} {kws : List Keyword} {ks : List Str} {gV : List V → List V → List V} {ta : TE} {tk : TA} {pl : Sem Bool}
    (c : MetK X.prog X.w X.K X.mg X.base k C m sp ks gV) (cl : Cls X.K C) (hr : Room j X.A) (hk : k ≤ j) (he : PE X o ta) (hkw : PK X kws tk)
    (hall : (backToKw pos (keywordEach kws X.env)).all (·.1.isSome) = true := by rfl) (hks : (backToKw pos (keywordEach kws X.env)).filterMap (·.1) = ks := by rfl)
    (hpl : ((backTo pos (starEach [] X.env)).any (·.1) || (backToKw pos (keywordEach kws X.env)).any (·.1.isNone)) = false := by rfl)
    (ht : eval (.Call (.Attribute o m apos) [] kws pos) X.env = (do
      let ov ← eval o X.env
      standAt apos.atName
      let (f, first) ← holding [ov] (getMethod ov m pl)
      callWith pos f first (backTo pos (starEach [] X.env)) (backToKw pos (keywordEach kws X.env))) := by rfl) :
    PE X (.Call (.Attribute o m apos) [] kws pos) (tMethK C m sp gV E0 ta tk) := by
  obtain ⟨f, fd, ps, g, M, F, b⟩ := c.ex
  exact pe_methK0 (pl := pl) he cl M F (hr.mono hk) b pass0 hkw hall hks hpl ht
end MG

/-! str, repr and bool of an own instance -/
namespace MG
open PySem PySem.Spec PyProof.Rows L2

section
variable {prog : Program} {w : World} {A : Around} {E : Value → Shared → Prop} {s : Shared} {K : PySem.W.Frag} {x C f : Addr} {ox : Obj} {od : Option Obj} {m : Str → Option Value} {L : Addr} {h₀ : Heap}
open Builtin in
theorem bool_own {Q : Value → Shared → Prop} (F : Fr h₀ L s.heap m) (X₀ : K.In h₀) (I : PySem.W.InstAt s.heap x ox C od)
    (hs : PySem.W.findIn K (.ref C) "__bool__" = some (some (.ref f))) (hf : PySem.W.isFn K (.ref f) = true)
    (h : wpAny (model prog w) A.in1.in1 (call (.ref f) [.ref x]) (fun v s' => ∃ b, v = .bool b ∧ Q (.bool b) s') E s) :
    wpAny (model prog w) A (call (.type "bool") [.ref x]) Q E s := by
  refine callType_codes (T := "bool") (Bi := Builtin.«object.__init__») (Q₁ := fun r s₁ => ∃ b, r = .bool b ∧ Q r s₁) PySem.F.called_bool (PySem.F.typeCall_bool_1 _) PySem.F.entry_object_init ?_ ?_
  · refine codeAny_of_tree ?_
    show wpAny _ A.in1.in1 (do checkBuiltinCall "bool.__new__" ⟨[.type "bool", .ref x], []⟩; again (.builtin "bool.__new__" ⟨[.type "bool", .ref x], []⟩)) _ _ s
    refine wpAny_bind (wpAny_of_eq (PySem.F.newCall_bool_1 _) (wpAny_pure ⟨plainId_quiet (by decide +kernel) _, codeAny_builtin PySem.F.entry_bool_new ?_⟩))
    rw [Around.under_plainId (by decide +kernel) _]
    have f1 := PySem.F.conv_sub_bool
    have tr : ∀ {R : Bool → Shared → Prop}, (∀ b s', Q (.bool b) s' → R b s') → wpAny (model prog w) A.in1.in1 (truthy (.ref x)) R E s := fun {R} hr =>
      PySem.W.truthy_K F X₀ I hs hf (wpAny_mono h (fun v s' z => match v, z with | _, ⟨b, rfl, q⟩ => hr b s' q) fun _ _ z => z)
    unfold Builtin.«bool.__new__»
    repeat (any_goals (first | assumption | (refine wpAny_bind (m := truthy (.ref x)) (tr fun b s' q => ?_)) | wp_step))
    all_goals first | exact wpAny_pure ⟨_, rfl, q⟩ | exact ⟨_, rfl, q⟩ | skip
  · rintro obj s₁ ⟨b, rfl, hq⟩
    exact ⟨PySem.typeIs_bool _ _, PySem.F.args_object_init_2 _ _, object_init_meets PySem.F.called_bool.init.lookup PySem.F.called_bool.made (by decide) prog w A.in1 _ s₁ ⟨PySem.typeIs_bool _ _, rfl, hq⟩⟩
end

section
variable {X : Cx} {CX : CXT} {k : Nat} {C f a : Addr} {fd : FuncData} {ps : List Str} {sp : Sp} {E : XK} {pins : List (Addr × Obj)} {σ : L2.St} {H : Hp} {s : Shared} {Q : VK}
/-- the callee, below a builtin -/
theorem run_in1 (F : FnOk X.prog X.w X.K X.mg X.base CX k f fd ps sp) (hr : Room (k + 1) X.A) (hb : Binds X.K fd ps []) (hx : Passes CX X E) (I : Inv X pins σ H s) (hsp : sp [.ref a] H Q E) :
    wpAny (model X.prog X.w) X.A.in1 (call (.ref f) [.ref a]) (EP X pins σ Q) X.xe s := by
  have hl := F.len _ _ _ _ hsp
  refine wpAny_call (codeAny_mono (F.run X.A.in1 X.stack s H ⟨[.ref a], []⟩ [.ref a] [.ref a] Q E hr.in1 I.env0.in1 (by
    have := hb s [.ref a] I.kIn (by simpa using hl)
    simpa using this) (.cons rfl .nil) hsp) fun r s' hq => ?_)
  match r, hq with
  | .error e, hq => exact hx pins σ H s e s' I hq
  | .ok (.ret z), hq => exact I.after hq
  | .ok .next, hq => exact False.elim hq
  | .ok .brk, hq => exact False.elim hq
  | .ok .cont, hq => exact False.elim hq
theorem run_in2 (F : FnOk X.prog X.w X.K X.mg X.base CX k f fd ps sp) (hr : Room (k + 2) X.A) (hb : Binds X.K fd ps []) (hx : Passes CX X E) (I : Inv X pins σ H s) (hsp : sp [.ref a] H Q E) :
    wpAny (model X.prog X.w) X.A.in1.in1 (call (.ref f) [.ref a]) (EP X pins σ Q) X.xe s := by
  have hl := F.len _ _ _ _ hsp
  refine wpAny_call (codeAny_mono (F.run X.A.in1.in1 X.stack s H ⟨[.ref a], []⟩ [.ref a] [.ref a] Q E hr.in1.in1 I.env0.in1.in1 (by
    have := hb s [.ref a] I.kIn (by simpa using hl)
    simpa using this) (.cons rfl .nil) hsp) fun r s' hq => ?_)
  match r, hq with
  | .error e, hq => exact hx pins σ H s e s' I hq
  | .ok (.ret z), hq => exact I.after hq
  | .ok .next, hq => exact False.elim hq
  | .ok .brk, hq => exact False.elim hq
  | .ok .cont, hq => exact False.elim hq
/-- str(x), repr(x): the own def's text -/
def rTxtO (C : Addr) (sp : Sp) (E : XK) : List V → Hp → VK → Prop := fun xs H Q => ∃ a dx fs, xs = [.ref a] ∧ H a = some (.ins C dx fs) ∧ sp [.ref a] H (fun v H' => ∃ z, v = .str z ∧ Q v H') E
/-- bool(x) -/
def rBoolO (C : Addr) (sp : Sp) (E : XK) : List V → Hp → VK → Prop := fun xs H Q => ∃ a dx fs, xs = [.ref a] ∧ H a = some (.ins C dx fs) ∧ sp [.ref a] H (fun v H' => ∃ z, v = .bl z ∧ Q v H') E
theorem strBack {u : Value} {s' : Shared} (h : EP X pins σ (fun v H' => ∃ z, v = .str z ∧ Q v H') u s') : PySem.W.StrBack (EP X pins σ Q) u s' := by
  obtain ⟨v, H', I, r, z, rfl, q⟩ := h
  obtain ⟨t, rfl⟩ := r
  exact ⟨.str z, H', I, ⟨t, rfl⟩, q⟩
theorem call_strO (at_ : PySem.W.findIn X.K (.ref C) "__str__" = some (some (.ref f))) (fn : PySem.W.isFn X.K (.ref f) = true)
    (F : FnOk X.prog X.w X.K X.mg X.base CX k f fd ps sp) (hr : Room (k + 2) X.A) (hb : Binds X.K fd ps []) (hx : Passes CX X E) : CallR X (.type "str") (rTxtO C sp E) := by
  intro pins s σ H xs us Q I r h
  obtain ⟨a, dx, fs, rfl, ha, hsp⟩ := h
  obtain ⟨u, rfl, ru⟩ := vals1 r
  cases ru
  obtain ⟨mA, J, _⟩ := ins_get I.hok ha
  obtain ⟨od, J, _⟩ := J.look
  exact PySem.W.kso_call (Nat.lt_trans (by show X.A.units + 1 + 1 < X.A.units + 16 * (k + 2) + 200; omega) hr.un) I.kIn J at_ fn (wpAny_mono (run_in2 F hr hb hx I hsp) (fun _ _ q => strBack q) fun _ _ e => e)
theorem call_reprO (at_ : PySem.W.findIn X.K (.ref C) "__repr__" = some (some (.ref f))) (fn : PySem.W.isFn X.K (.ref f) = true)
    (F : FnOk X.prog X.w X.K X.mg X.base CX k f fd ps sp) (hr : Room (k + 1) X.A) (hb : Binds X.K fd ps []) (hx : Passes CX X E) : CallR X (.builtin "repr") (rTxtO C sp E) := by
  intro pins s σ H xs us Q I r h
  obtain ⟨a, dx, fs, rfl, ha, hsp⟩ := h
  obtain ⟨u, rfl, ru⟩ := vals1 r
  cases ru
  obtain ⟨mA, J, _⟩ := ins_get I.hok ha
  obtain ⟨od, J, _⟩ := J.look
  obtain ⟨m, hF⟩ := I.fr
  exact PySem.W.repr_K (Nat.lt_trans (by show X.A.units + 1 < X.A.units + 16 * (k + 1) + 200; omega) hr.un) hF I.ok.mod.kin J at_ fn (wpAny_mono (run_in1 F hr hb hx I hsp) (fun _ _ q => strBack q) fun _ _ e => e)
theorem call_boolO (at_ : PySem.W.findIn X.K (.ref C) "__bool__" = some (some (.ref f))) (fn : PySem.W.isFn X.K (.ref f) = true)
    (F : FnOk X.prog X.w X.K X.mg X.base CX k f fd ps sp) (hr : Room (k + 2) X.A) (hb : Binds X.K fd ps []) (hx : Passes CX X E) : CallR X (.type "bool") (rBoolO C sp E) := by
  intro pins s σ H xs us Q I r h
  obtain ⟨a, dx, fs, rfl, ha, hsp⟩ := h
  obtain ⟨u, rfl, ru⟩ := vals1 r
  cases ru
  obtain ⟨mA, J, _⟩ := ins_get I.hok ha
  obtain ⟨od, J, _⟩ := J.look
  obtain ⟨m, hF⟩ := I.fr
  refine bool_own hF I.ok.mod.kin J at_ fn (wpAny_mono (run_in2 F hr hb hx I hsp) ?_ fun _ _ e => e)
  rintro u s' ⟨v, H', I', r, z, rfl, q⟩
  cases r
  exact ⟨z, rfl, .bl z, H', I', rfl, q⟩
end
section
variable (P : Program) (w : World) (K : PySem.W.Frag) (mg : Str → Option Value) (base : Heap) (k : Nat) (C : Addr)
/-- a double-underscore method of one parameter -/
structure DunF (nm : Str) (sp : Sp) : Prop where
  ex : ∃ (f : Addr) (fd : FuncData) (ps : List Str), PySem.W.findIn K (.ref C) nm = some (some (.ref f)) ∧ PySem.W.isFn K (.ref f) = true ∧ FnOk P w K mg base CX0 k f fd ps sp ∧ Binds K fd ps []
end
section
variable {X : Cx} {k j : Nat} {C : Addr} {sp : Sp}
theorem str_f (o : DunF X.prog X.w X.K X.mg X.base k C "__str__" sp) (hr : Room j X.A) (hk : k + 2 ≤ j) : CallR X (.type "str") (rTxtO C sp E0) := by
  obtain ⟨f, fd, ps, a, i, F, b⟩ := o.ex
  exact call_strO a i F (hr.mono hk) b pass0
theorem repr_f (o : DunF X.prog X.w X.K X.mg X.base k C "__repr__" sp) (hr : Room j X.A) (hk : k + 1 ≤ j) : CallR X (.builtin "repr") (rTxtO C sp E0) := by
  obtain ⟨f, fd, ps, a, i, F, b⟩ := o.ex
  exact call_reprO a i F (hr.mono hk) b pass0
theorem bool_f (o : DunF X.prog X.w X.K X.mg X.base k C "__bool__" sp) (hr : Room j X.A) (hk : k + 2 ≤ j) : CallR X (.type "bool") (rBoolO C sp E0) := by
  obtain ⟨f, fd, ps, a, i, F, b⟩ := o.ex
  exact call_boolO a i F (hr.mono hk) b pass0
end

section
variable {prog : Program} {w : World} {A : Around} {E : Value → Shared → Prop} {s : Shared} {K : PySem.W.Frag} {x C L f : Addr} {h₀ : Heap} {m : Str → Option Value} {ox : Obj} {od : Option Obj} {b tb : Value}
theorem objNe_any (X : K.In s.heap) (I : PySem.W.InstAt s.heap x ox C od) (hs : PySem.W.findIn K (.ref C) "__eq__" = some (some (.ref f))) (hf : PySem.W.isFn K (.ref f) = true)
    (hu : A.units < cLine) {Q : Fin → Shared → Prop}
    (hcall : wpAny (model prog w) A (call (.ref f) [.ref x, b]) (fun v s' => ∃ c, v = .bool c ∧ Q (.done (.ret (.bool (!c)))) s') E s) :
    wpAny (model prog w) A (Builtin.«object.__ne__» ⟨[.ref x, b], []⟩) Q E s := by
  unfold Builtin.«object.__ne__»
  repeat (first
    | with_reducible refine wpAny_cRoomFor hu ?_
    | (refine wpAny_bind (m := callSpecialIfBound? (.ref x) (Str.ofString "__eq__") [b])
        (PySem.W.ifBound_K X I hs hf (wpAny_mono hcall (fun r s' hr => ?_) fun _ _ e => e)))
    | wp_step)
  obtain ⟨c, rfl, hq⟩ := hr
  repeat (first | exact hq | exact wpAny_pure hq | exact wpAny_truthy_bool hq | (refine wpAny_bind (m := truthy (.bool _)) (wpAny_truthy_bool ?_)) | wp_step)
theorem ne_any (X : K.In s.heap) (I : PySem.W.InstAt s.heap x ox C od) (hb : PySem.W.Looks (model prog w) s.heap (typeOf b) tb) (hn : PySem.W.notFirst K C tb = true)
    (n : NeAt K C f) (ha : ∀ y, argsOk "object.__ne__" ⟨[y, b], []⟩) (hu : A.units + 1 < cLine) {Q : Value → Shared → Prop}
    (hcall : wpAny (model prog w) A.in1 (call (.ref f) [.ref x, b]) (fun v s' => ∃ c, v = .bool c ∧ Q (.bool (!c)) s') E s) :
    wpAny (model prog w) A (richCompare .NotEq (.ref x) b) Q E s := by
  have sub : PySem.W.Looks (model prog w) s.heap (isInstance (.ref x) (.type "object")) true := I.type.andThen (PySem.W.looks_subIn X n.sub)
  have one : wpAny (model prog w) A (tryCompare (.ref x) "__ne__" b) (fun r s' => ∃ v, r = some v ∧ Q v s') E s := by
    simp only [tryCompare]
    refine wpAny_bind (ifBound_ne X I n.ne (wpAny_call (codeAny_call_builtin PySem.F.cmp_object.ne.plain PySem.F.cmpEntry_ne
      (PySem.W.check_slot PySem.F.cmpKind_ne PySem.F.cmpSplit_ne sub (ha _) ?_))))
    refine objNe_any (A := A.in1) X I n.eq n.fn hu (wpAny_mono hcall (fun v s' hv => ?_) fun _ _ e => e)
    obtain ⟨c, rfl, hq⟩ := hv
    first | exact ⟨c, rfl, wpAny_pure ⟨_, rfl, hq⟩⟩ | exact ⟨c, rfl, wpAny_pure (wpAny_pure ⟨_, rfl, hq⟩)⟩ | exact ⟨c, rfl, _, rfl, hq⟩
  unfold richCompare
  simp only [oneThing_ref]
  refine wpAny_holding (wpAny_bind (wpAny_cRoomFor (Nat.lt_of_succ_lt hu) ?_))
  refine wpAny_bind (I.type.here (wpAny_bind (hb.here ?_)))
  split
  · rename_i q
    have e : PySem.W.subIn K tb (.ref C) = some false := by
      rcases Bool.or_eq_true_iff.mp hn with z | z
      · rw [beq_iff_eq.mp z] at q
        simp at q
      · exact beq_iff_eq.mp z
    refine wpAny_bind ((PySem.W.looks_subIn X e).here ?_)
    simp only [Bool.false_eq_true, if_false]
    refine wpAny_bind (wpAny_mono one (fun v s' hv => ?_) fun _ _ e => e)
    obtain ⟨c, rfl, hq⟩ := hv
    exact wpAny_pure hq
  · refine wpAny_bind (wpAny_pure ?_)
    simp only [Bool.false_eq_true, if_false]
    refine wpAny_bind (wpAny_mono one (fun v s' hv => ?_) fun _ _ e => e)
    obtain ⟨c, rfl, hq⟩ := hv
    exact wpAny_pure hq
end
section
variable {X : Cx}
/-- x == y, x of the class at C with its own ==, y anything -/
def rEqA (K : PySem.W.Frag) (C : Addr) (sp : Sp) (E : XK) : R2 := fun x y H Q => ∃ a dx fs t, x = .ref a ∧ H a = some (.ins C dx fs) ∧ TyX K H y t ∧ PySem.W.notFirst K C t = true ∧ sp [x, y] H Q E
def rNeA (K : PySem.W.Frag) (C : Addr) (sp : Sp) (E : XK) : R2 := fun x y H Q => ∃ a dx fs t, x = .ref a ∧ H a = some (.ins C dx fs) ∧ TyX K H y t ∧ PySem.W.notFirst K C t = true ∧ sp [x, y] H (fun v H' => ∃ c, v = .bl c ∧ Q (.bl (!c)) H') E
theorem op_eqA {CX : CXT} {k : Nat} {C f : Addr} {fd : FuncData} {ps : List Str} {sp : Sp} {E : XK} (n : NeAt X.K C f)
    (F : FnOk X.prog X.w X.K X.mg X.base CX k f fd ps sp) (hr : Room k X.A) (hb : Binds X.K fd ps []) (hx : Passes CX X E) : OpR X (compareOp .Eq) (rEqA X.K C sp E) := by
  intro pins s σ H x y v u Q I rx ry h
  obtain ⟨a, dx, fs, t, rfl, ha, ty, hn, hsp⟩ := h
  cases rx
  obtain ⟨mA, J, _⟩ := ins_get I.hok ha
  obtain ⟨od, J, _⟩ := J.look
  obtain ⟨Z, kz, hz, _⟩ := kit_of I ry ty
  obtain ⟨m, hF⟩ := I.fr
  refine PySem.W.cmp_K (op := .Eq) hr.units0 hF I.ok.mod.kin J (kz.ty _ _ I.kIn hz) hn n.eq n.fn ?_
  exact wpAny_mono (run_fn (vs := [.ref a, y]) F hr hb .nil hx I (.cons rfl (.cons ry .nil)) (by rw [List.append_nil]; exact hsp))
    (fun _ _ hq => match hq with | ⟨_, _, _, r, _⟩ => back_of r hq) fun _ _ e => e
theorem op_neA {CX : CXT} {k : Nat} {C f : Addr} {fd : FuncData} {ps : List Str} {sp : Sp} {E : XK} (n : NeAt X.K C f)
    (F : FnOk X.prog X.w X.K X.mg X.base CX k f fd ps sp) (hr : Room (k + 1) X.A) (hb : Binds X.K fd ps []) (hx : Passes CX X E) : OpR X (compareOp .NotEq) (rNeA X.K C sp E) := by
  intro pins s σ H x y v u Q I rx ry h
  obtain ⟨a, dx, fs, t, rfl, ha, ty, hn, hsp⟩ := h
  cases rx
  obtain ⟨mA, J, _⟩ := ins_get I.hok ha
  obtain ⟨od, J, _⟩ := J.look
  obtain ⟨Z, kz, hz, _⟩ := kit_of I ry ty
  refine ne_any I.kIn J (kz.ty _ _ I.kIn hz) hn n (fun z => PySem.F.cmpArgs_ne z u) (Nat.lt_trans (by omega) hr.un) ?_
  have hl := F.len _ _ _ _ hsp
  refine wpAny_call (codeAny_mono (F.run X.A.in1 X.stack s H ⟨[.ref a, u], []⟩ [.ref a, u] [.ref a, y] _ E hr.in1 I.env0.in1 (by
    have := hb s [.ref a, u] I.kIn (by simpa using hl)
    simpa using this) (.cons rfl (.cons ry .nil)) hsp) fun r s' hq => ?_)
  match r, hq with
  | .error e, hq => exact hx pins σ H s e s' I hq
  | .ok (.ret z), hq =>
    obtain ⟨v, H', I', rv, c, rfl, q⟩ := I.after hq
    cases rv
    exact ⟨c, rfl, .bl (!c), H', I', rfl, q⟩
  | .ok .next, hq => exact False.elim hq
  | .ok .brk, hq => exact False.elim hq
  | .ok .cont, hq => exact False.elim hq
variable {k j : Nat} {C : Addr} {sp : Sp} {K : PySem.W.Frag}
theorem eq_a (o : EqF X.prog X.w X.K X.mg X.base k C sp) (hr : Room j X.A) (hk : k ≤ j) (hK : X.K = K := by rfl) : OpR X (compareOp .Eq) (rEqA K C sp E0) := by
  obtain ⟨f, fd, ps, n, F, b⟩ := o.ex
  exact hK ▸ op_eqA n F (hr.mono hk) b pass0
theorem ne_a (o : EqF X.prog X.w X.K X.mg X.base k C sp) (hr : Room j X.A) (hk : k + 1 ≤ j) (hK : X.K = K := by rfl) : OpR X (compareOp .NotEq) (rNeA K C sp E0) := by
  obtain ⟨f, fd, ps, n, F, b⟩ := o.ex
  exact hK ▸ op_neA n F (hr.mono hk) b pass0
end
end MG

/-! repr of lists and tuples that hold own instances -/
namespace MG
open PySem PySem.Spec PyProof.Rows L2
open Builtin.List Builtin.Tuple

/-- a builtin that shows a container: little room -/
structure Lit (A : Around) (c : Code) : Prop where
  frames : (A.under c).frames = A.frames
  handled : (A.under c).handled = A.handled
  depth : (A.under c).depth ≤ A.depth + 1
  units : (A.under c).units = A.units + 1
  guard : c.isGuard = true
/-- near the frame of X: its frames, its handled exception, room -/
structure Near (X : Cx) (k : Nat) (A : Around) : Prop where
  fr : A.frames = X.A.frames
  hn : A.handled = X.A.handled
  room : L2H.RoomH k A
theorem Near.mono {X : Cx} {j k : Nat} {A : Around} (n : Near X k A) (h : j ≤ k) : Near X j A := ⟨n.fr, n.hn, n.room.mono h⟩
theorem Near.line {X : Cx} {k : Nat} {A : Around} (n : Near X k A) : A.units < cLine := by have := n.room.un; omega
theorem Near.in1 {X : Cx} {k : Nat} {A : Around} (n : Near X (k + 1) A) : Near X k A.in1 :=
  ⟨n.fr, n.hn, by have := n.room.dp; show A.depth + 3 * k + 5 < _; omega, by have := n.room.un; show A.units + 1 + 16 * k + 200 < _; omega⟩
theorem Near.self {X : Cx} {k : Nat} (r : L2H.RoomH k X.A) : Near X k X.A := ⟨rfl, rfl, r⟩
theorem Lit.near {X : Cx} {k : Nat} {A : Around} {c : Code} (l : Lit A c) (n : Near X (k + 1) A) : Near X k (A.under c) :=
  ⟨l.frames.trans n.fr, l.handled.trans n.hn, by have := n.room.dp; have := l.depth; omega, by have := n.room.un; rw [l.units]; omega⟩
theorem lit_list (A : Around) (args : Args) : Lit A (.builtin "list.__repr__.loop" args) where
  frames := by first | rfl | simp [Around.under, Code.envs, Code.isFrame, pushEnvs]
  handled := by first | rfl | simp [Around.under]
  depth := by first | exact Nat.le_refl _ | simp [Around.under, Code.weight, Code.isCreation, Code.isGuard, Code.isCaller, Code.frames, Code.isFrame, guardIds]
  units := by first | rfl | simp [Around.under, Code.cUnits, Code.frames, Code.isFrame]
  guard := by
    show guardIds.contains "list.__repr__.loop" = true
    decide +kernel
theorem lit_tuple (A : Around) (args : Args) : Lit A (.builtin "tuple.__repr__" args) where
  frames := by first | rfl | simp [Around.under, Code.envs, Code.isFrame, pushEnvs]
  handled := by first | rfl | simp [Around.under]
  depth := by first | exact Nat.le_refl _ | simp [Around.under, Code.weight, Code.isCreation, Code.isGuard, Code.isCaller, Code.frames, Code.isFrame, guardIds]
  units := by first | rfl | simp [Around.under, Code.cUnits, Code.frames, Code.isFrame]
  guard := by
    show guardIds.contains "tuple.__repr__" = true
    decide +kernel
theorem lit_tupleU (A : Around) (args : Args) : Lit A (.builtin "tuple.__repr__.under" args) where
  frames := by first | rfl | simp [Around.under, Code.envs, Code.isFrame, pushEnvs]
  handled := by first | rfl | simp [Around.under]
  depth := by first | exact Nat.le_refl _ | simp [Around.under, Code.weight, Code.isCreation, Code.isGuard, Code.isCaller, Code.frames, Code.isFrame, guardIds]
  units := by first | rfl | simp [Around.under, Code.cUnits, Code.frames, Code.isFrame]
  guard := by
    show guardIds.contains "tuple.__repr__.under" = true
    decide +kernel
theorem lit_dict (A : Around) (args : Args) : Lit A (.builtin "dict.__repr__" args) where
  frames := by first | rfl | simp [Around.under, Code.envs, Code.isFrame, pushEnvs]
  handled := by first | rfl | simp [Around.under]
  depth := by first | exact Nat.le_refl _ | simp [Around.under, Code.weight, Code.isCreation, Code.isGuard, Code.isCaller, Code.frames, Code.isFrame, guardIds]
  units := by first | rfl | simp [Around.under, Code.cUnits, Code.frames, Code.isFrame]
  guard := by
    show guardIds.contains "dict.__repr__" = true
    decide +kernel
theorem lit_dictU (A : Around) (args : Args) : Lit A (.builtin "dict.__repr__.under" args) where
  frames := by first | rfl | simp [Around.under, Code.envs, Code.isFrame, pushEnvs]
  handled := by first | rfl | simp [Around.under]
  depth := by first | exact Nat.le_refl _ | simp [Around.under, Code.weight, Code.isCreation, Code.isGuard, Code.isCaller, Code.frames, Code.isFrame, guardIds]
  units := by first | rfl | simp [Around.under, Code.cUnits, Code.frames, Code.isFrame]
  guard := by
    show guardIds.contains "dict.__repr__.under" = true
    decide +kernel
theorem same_tup {K : PySem.W.Frag} {H H' : Hp} {a : Addr} {xs : List V} (e : Same H H') (h : SqT K H a xs) : SqT K H' a xs := by
  rcases h with (h | ⟨o, h⟩) | h
  · exact .inl (.inl (e _ _ h))
  · exact .inl (.inr ⟨o, e _ _ h⟩)
  · exact .inr h
section
variable {X : Cx}
/-- what is shown of x is t, wherever the things of H stand; as: the containers within -/
def Rp (X : Cx) (σ : L2.St) (H : Hp) (as : List Addr) (k : Nat) (x : V) (t : Str) : Prop :=
  ∀ (u : Value), RelV x u → ∀ (b : Nat), b + t.length ≤ sizeLine → ∀ (A : Around) (g : List Code), Near X k A → A.guards = some g → (∀ a ∈ as, Clear g a) →
    ∀ (pins : List (Addr × Obj)) (s : Shared) (H1 : Hp), Inv X pins σ H1 s → Same H H1 → ∀ (Q : Str → Shared → Prop) (E : Value → Shared → Prop),
      (∀ s' H2, Inv X pins σ H2 s' → Same H1 H2 → Q t s') → wpAny (model X.prog X.w) A (pyReprUnder b u) Q E s
variable {σ : L2.St} {H H' : Hp} {as as' : List Addr} {k k' : Nat} {x : V} {t : Str}
theorem Rp.same (h : Rp X σ H as k x t) (s : Same H H') : Rp X σ H' as k x t := fun u ru b hb A g n hg hc pins s1 H1 I s2 Q E q => h u ru b hb A g n hg hc pins s1 H1 I (s.trans s2) Q E q
theorem Rp.more (h : Rp X σ H as k x t) (m : ∀ a ∈ as, a ∈ as') : Rp X σ H as' k x t := fun u ru b hb A g n hg hc => h u ru b hb A g n hg fun a ha => hc a (m a ha)
theorem Rp.mono (h : Rp X σ H as k x t) (hk : k ≤ k') : Rp X σ H as k' x t := fun u ru b hb A g n hg hc => h u ru b hb A g (n.mono hk) hg hc
theorem Rp.is (h : ∀ u, RelV x u → ReprIs X.prog X.w u t) : Rp X σ H as k x t := fun u ru b hb A g n hg hc pins s H1 I s2 Q E q => h u ru b hb A E s Q fun tk => q _ _ (I.tok tk) (Same.refl H1)
theorem Rp.int {i : Int} (hi : i.natAbs.log2 < 1920) : Rp X σ H as k (.int i) (toString i) := Rp.is fun u ru => by
  obtain ⟨tk, rfl⟩ := ru
  exact .int tk hi
theorem Rp.bl {b : Bool} : Rp X σ H as k (.bl b) (if b then "True" else "False") := Rp.is fun u ru => by
  cases ru
  exact .bool b
theorem Rp.non : Rp X σ H as k .non "None" := Rp.is fun u ru => by
  cases ru
  exact .none
theorem Rp.str {z : Str} (hz : (reprText z).length ≤ sizeLine) : Rp X σ H as k (.str z) (reprText z) := Rp.is fun u ru => by
  obtain ⟨tk, rfl⟩ := ru
  exact .str z tk hz

/-! an own instance -/
section
variable {M : Model} {A : Around} {E : Value → Shared → Prop} {s : Shared} {K : PySem.W.Frag} {y C f : Addr} {ox : Obj} {od : Option Obj}
theorem underBy_own {nm : Str} {fin : Value → List Value → Sem Value} {Q : Option Value → Shared → Prop} (X0 : K.In s.heap) (I : PySem.W.InstAt s.heap y ox C od) (hs : PySem.W.findIn K (.ref C) nm = some (some (.ref f))) (hf : PySem.W.isFn K (.ref f) = true)
    (h : wpAny M A (fin (.ref f) [.ref y]) (fun v => Q (some v)) E s) : wpAny M A (callSpecialIfBoundBy? fin (.ref y) nm) Q E s := by
  have last : wpAny M A (fin (.ref f) [.ref y] >>= fun v => pure (some v)) Q E s := wpAny_bind (wpAny_mono h (fun _ _ q => wpAny_pure q) fun _ _ q => q)
  have bound := (PySem.W.bind_fn (M := M) X0 (.ref y) (beq_iff_eq.mp hf))
  unfold callSpecialIfBoundBy? bindSpecialIfBound?
  refine wpAny_holding (wpAny_bind (wpAny_bind (wpAny_bind (I.type.here ((PySem.W.looks_findIn X0 hs).here (wpAny_bind (wpAny_askSetting (wpAny_ite ?_))))))))
  split
  · exact wpAny_bind (bound.here (wpAny_pure last))
  · exact wpAny_tryCatch (wpAny_bind (bound.here (wpAny_pure last)))
theorem under_own {b : Nat} {Q : Value → Shared → Prop} (hu : A.units < cLine) (X0 : K.In s.heap) (I : PySem.W.InstAt s.heap y ox C od) (hs : PySem.W.findIn K (.ref C) "__repr__" = some (some (.ref f))) (hf : PySem.W.isFn K (.ref f) = true)
    (h : wpAny M A (call (.ref f) [.ref y]) (fun v s' => (∃ z u, v = .str z u) ∧ Q v s') E s) : wpAny M A (pyReprObjUnder b (.ref y)) Q E s := by
  show wpAny M A (pyReprObjBy _ (.ref y)) Q E s
  unfold pyReprObjBy
  refine wpAny_bind (wpAny_cRoomFor hu (wpAny_bind (wpAny_bind (I.type.here ((PySem.W.looks_findIn X0 hs).here ?_)))))
  rw [show (some (Value.ref f)).isNone = false from rfl]
  simp only [Bool.false_eq_true, if_neg, not_false_eq_true]
  refine wpAny_bind (underBy_own X0 I hs hf (wpAny_mono (show wpAny M A (call (.ref f) ([.ref y] ++ [])) _ E s from h) (fun v s' hv => ?_) fun _ _ z => z))
  obtain ⟨⟨z, u, rfl⟩, hq⟩ := hv
  exact wpAny_bind (wpAny_isInstance (b := true) (typeIs_str _ _ _) isSubtype_str_str (wpAny_pure hq))
end
/-- how the own instances of X are shown: the def's text, wherever it is called near X -/
structure OwnX (X : Cx) (own : Hp → Addr → Str → Prop) (kO : Nat) : Prop where
  run : ∀ (H : Hp) (a : Addr) (t : Str), own H a t → ∃ (C f dx : Addr) (fs : List (Str × V)), H a = some (.ins C dx fs) ∧ PySem.W.findIn X.K (.ref C) "__repr__" = some (some (.ref f)) ∧ PySem.W.isFn X.K (.ref f) = true ∧
    ∀ (A : Around) (pins : List (Addr × Obj)) (σ : L2.St) (s : Shared) (H1 : Hp), Near X kO A → Inv X pins σ H1 s → Same H H1 → ∀ (Q : Value → Shared → Prop) (E : Value → Shared → Prop),
      (∀ s' H2 tk, Inv X pins σ H2 s' → Same H1 H2 → Q (.str t tk) s') → wpAny (model X.prog X.w) A (call (.ref f) [.ref a]) Q E s
theorem Rp.own {own : Hp → Addr → Str → Prop} {a : Addr} (o : OwnX X own k) (ho : own H a t) : Rp X σ H as k (.ref a) t := by
  intro u ru b hb A g n hg hc pins s H1 I s1 Q E q
  obtain rfl : u = Value.ref a := ru
  obtain ⟨C, f, dx, fs, hi, at_, fn, run⟩ := o.run H a t ho
  obtain ⟨mA, J, _⟩ := ins_get I.hok (s1 _ _ hi)
  obtain ⟨od, J, _⟩ := J.look
  exact wpAny_pyReprUnder_ref (by omega) (under_own n.line I.kIn J at_ fn (run A pins σ s H1 n I s1 _ E fun s' H2 tk I2 s2 => ⟨⟨_, _, rfl⟩, _, _, rfl, q s' H2 I2 s2⟩))

/-! lists -/
theorem vals_get {xs : List V} {its : List Value} (r : Vals xs its) : ∀ (i : Nat) (x : V), xs[i]? = some x → ∃ u, its[i]? = some u ∧ RelV x u := by
  induction r with
  | nil => intro i x h; simp at h
  | cons h t ih =>
    intro i x hx
    cases i with
    | zero => simp at hx; subst hx; exact ⟨_, by simp, h⟩
    | succ i => exact ih i x (by simpa using hx)
/-- each item is shown -/
def RpAll (X : Cx) (σ : L2.St) (H : Hp) (as : List Addr) (k : Nat) (xs : List V) (ts : List Str) : Prop :=
  ts.length = xs.length ∧ ∀ (i : Nat) (x : V), xs[i]? = some x → ∃ t, ts[i]? = some t ∧ Rp X σ H as k x t
theorem pinOf {pins : List (Addr × Obj)} {s : Shared} {H1 : Hp} {P : Addr} {o : Obj} (I : Inv X pins σ H1 s) (f : FpOk X pins H1 P) (e : s.heap.get? P = some o) (d : ∀ v, o.data ≠ .cell v) : Inv X (pins ++ [(P, o)]) σ H1 s := by
  have := I.pinned (fp := [P]) (fun b hb => by rw [List.mem_singleton.mp hb]; exact f) (fun b hb => by rw [List.mem_singleton.mp hb]; exact ⟨o, e, d⟩)
  have e2 : pinsAt [P] s.heap = [(P, o)] := by simp [pinsAt, e]
  rw [e2] at this
  exact this
theorem pinBack {pins : List (Addr × Obj)} {s : Shared} {H1 H2 : Hp} {P : Addr} {o : Obj} (I : Inv X (pins ++ [(P, o)]) σ H2 s) (f : FpOk X pins H1 P) : Inv X pins σ H2 s ∧ FpOk X pins H2 P ∧ s.heap.get? P = some o := by
  obtain ⟨e, n, _⟩ := I.pin (P, o) (by simp)
  exact ⟨I.unpinned, ⟨n, f.2.1, f.2.2.1, f.2.2.2.1, f.2.2.2.2.1, f.2.2.2.2.2⟩, e⟩
theorem fpTurn {pins : List (Addr × Obj)} {s : Shared} {H1 : Hp} {P : Addr} {h' : Heap} {t' : Nat} (I : Inv X pins σ H1 s) (f : FpOk X pins H1 P) (k : ∀ b o, b ≠ P → s.heap.get? b = some o → h'.get? b = some o) : Inv X pins σ H1 { s with heap := h', toks := t' } :=
  I.turned k f.1 f.2.1 f.2.2.2.1 f.2.2.2.2.1 f.2.2.2.2.2
/-- what a list's text says of its parts -/
structure Fit (b : Nat) (ts : List Str) : Prop where
  all : (listText ts).length ≤ sizeLine
  each : ∀ t ∈ ts, t.length ≤ sizeLine
  many : ts.length ≤ sizeLine
  far : b + piled ts ≤ sizeLine
theorem Fit.of {b : Nat} {ts : List Str} (h : b + (listText ts).length ≤ sizeLine) : Fit b ts := by
  have far := piled_le_listText ts
  obtain ⟨w1, w2, _⟩ := textFrom_len ts 0 (Str.ofString "[")
  rw [if_neg (by omega)] at w1
  have grow : (listText ts).length = (textFrom 0 (Str.ofString "[") ts).length + 1 := (strLen_append _ _).trans rfl
  exact ⟨by omega, fun t m => by have := w2 t m; omega, by omega, by omega⟩
theorem piled_snoc (dn : List Str) (t : Str) : piled (dn ++ [t]) = piled dn + (t.length + 2) := by rw [piled_append, piled_cons, piled_nil]
theorem rp_list_loop {a P : Addr} {xs : List V} {ts : List Str} {A : Around} {g : List Code} {b : Nat} {pins : List (Addr × Obj)} {R : Result → Shared → Prop}
    (hl : SqL X.K H a xs) (n : Near X (k + 1) A) (hg : A.guards = some g) (free : ∀ c ∈ as, Clear g c) (out : a ∉ as) (T : RpAll X σ H as k xs ts) (fit : Fit b ts) :
    ∀ (rest dn : List Str) (l : List (Str × Tok)) (s : Shared) (H1 : Hp) (parts : Array Value) (c : Nat), ts = dn ++ rest → l.map (·.1) = dn → parts.toList = strValues l → Inv X pins σ H1 s → Same H H1 → FpOk X pins H1 P →
    s.heap.get? P = some { cls := .type "list", dict := none, data := .seq parts c, slots := #[] } →
    (∀ s' H2 u, Inv X pins σ H2 s' → Same H1 H2 → R (.ok (.ret (.str (listText ts) u))) s') →
    codeAny (model X.prog X.w) A (.builtin "list.__repr__.loop" ⟨[.ref a, rawInt dn.length, .ref P, rawInt ((b + piled dn : Nat) : Int)], []⟩) R s := by
  intro rest
  induction rest with
  | nil =>
    intro dn l s H1 parts c split told lay I same hP0 hP done
    rw [List.append_nil] at split
    obtain ⟨its, rv, ⟨o, m, get, _, _, dat⟩, _⟩ := I.list (same.seq hl)
    have off : its.toArray[((dn.length : Nat) : Int).toNat]? = none := by
      have h1 := rv.length
      have h2 := T.1
      rw [split] at h2
      simp only [Int.toNat_natCast, List.getElem?_toArray]
      exact List.getElem?_eq_none (by omega)
    refine codeAny_builtin F.entry_list_repr_loop (show wpAny _ _ (Builtin.«list.__repr__.loop» ⟨[.ref a, .int dn.length 0, .ref P, .int ((b + piled dn : Nat) : Int) 0], []⟩) _ _ s from ?_)
    rw [repr_loop_tree]
    refine wpAny_bind (wpAny_listItems get dat ?_)
    rw [off]
    show wpAny _ _ (reprEnd (.ref P)) _ _ s
    refine wpAny_bind (wpAny_listItems hP rfl ?_)
    rw [lay, repr_fold, told, ← split]
    exact wpAny_bind (wpAny_pure (wpAny_bind (wpAny_mkStr (wpAny_pure (done _ H1 _ (I.tok _) (Same.refl H1))) fit.all)))
  | cons t rest ih =>
    intro dn l s H1 parts c split told lay I same hP0 hP done
    obtain ⟨its, rv, ⟨o, m, get, _, _, dat⟩, _⟩ := I.list (same.seq hl)
    have inn : dn.length < xs.length := by
      have h2 := T.1
      rw [split, List.length_append, List.length_cons] at h2
      omega
    have item : xs[dn.length]? = some xs[dn.length] := List.getElem?_eq_getElem inn
    obtain ⟨t', ht, shows⟩ := T.2 _ _ item
    obtain rfl : t = t' := by
      rw [split, List.getElem?_append_right (Nat.le_refl _), Nat.sub_self] at ht
      exact Option.some.inj ht
    obtain ⟨u, hu, ru⟩ := vals_get rv _ _ item
    have fast : its.toArray[((dn.length : Nat) : Int).toNat]? = some u := by simpa using hu
    have far := fit.far
    have near : piled ts = piled dn + (t.length + 2) + piled rest := by rw [split, piled_append, piled_cons]; omega
    have lit := lit_list A ⟨[.ref a, .int dn.length 0, .ref P, .int ((b + piled dn : Nat) : Int) 0], []⟩
    refine codeAny_builtin F.entry_list_repr_loop (show wpAny _ _ (Builtin.«list.__repr__.loop» ⟨[.ref a, .int dn.length 0, .ref P, .int ((b + piled dn : Nat) : Int) 0], []⟩) _ _ s from ?_)
    rw [repr_loop_tree]
    refine wpAny_bind (wpAny_listItems get dat ?_)
    rw [fast]
    dsimp only
    rw [Int.toNat_natCast]
    refine wpAny_bind (wpAny_holding (shows u ru (b + piled dn + 1) (by omega) _ _ (lit.near n) (guards_under_guard lit.guard hg) (fun c hc => (free c hc).cons fun e => out (e ▸ hc)) _ s H1 (pinOf I hP0 hP (fun _ z => nomatch z)) same _ _ fun s2 H2 I2 same2 => ?_))
    obtain ⟨I2, hP2, there⟩ := pinBack I2 hP0
    have lp : parts.size ≤ sizeLine := by
      have z : parts.toList.length = l.length := by rw [lay]; exact List.length_map ..
      have z2 : l.length = dn.length := by rw [← told, List.length_map]
      have z3 := fit.many
      rw [split, List.length_append] at z3
      rw [Array.length_toList] at z
      omega
    refine wpAny_bind (wpAny_mkStr (wpAny_bind ?_) (fit.each t (by rw [split]; simp)))
    refine wpAny_updateSeq (show s2.heap.get? P = _ from there) rfl (wpAny_pure ⟨F.quiet_list_repr_loop _, ?_⟩) lp
    have w1 : ((dn.length : Nat) : Int) + 1 = (((dn ++ [t]).length : Nat) : Int) := by rw [List.length_append]; rfl
    have w2 : b + piled dn + (t.length + 2) = b + piled (dn ++ [t]) := by rw [piled_snoc]; omega
    rw [w1, w2]
    refine ih (dn ++ [t]) (l ++ [(t, s2.toks)]) _ H2 (parts.push (.str t s2.toks)) _ (by rw [split, List.append_assoc]; rfl) (by rw [List.map_append, told]; rfl) (by simp [lay, strValues]) (fpTurn (I2.tok _) hP2 fun c o ne e => (Heap.get?_update_other _ _ (Ne.symm ne)).trans e) (same.trans same2) hP2
      (Heap.get?_update_self _ there rfl) fun s3 H3 u I3 same3 => done s3 H3 u I3 (same2.trans same3)
theorem rp_list_at {a : Addr} {x : V} {l : List V} {ts : List Str} {A : Around} {g : List Code} {b : Nat} {pins : List (Addr × Obj)} {s : Shared} {H1 : Hp} {R : Result → Shared → Prop}
    (hl : SqL X.K H a (x :: l)) (n : Near X (k + 1) A) (hg : A.guards = some g) (free : ∀ c ∈ a :: as, Clear g c) (out : a ∉ as) (T : RpAll X σ H as k (x :: l) ts) (hsz : b + (listText ts).length ≤ sizeLine) (I : Inv X pins σ H1 s) (same : Same H H1)
    (done : ∀ s' H2 u, Inv X pins σ H2 s' → Same H1 H2 → R (.ok (.ret (.str (listText ts) u))) s') :
    wpAny (model X.prog X.w) A.in1 (Builtin.listReprAt b ⟨[.ref a], []⟩) (fun fin s' => match fin with | .done f => R (.ok f) s' | .again c' => c'.quiet = true ∧ codeAny (model X.prog X.w) A c' R s') (fun e s' => R (.error e) s') s := by
  obtain ⟨its, rv, ⟨o, m, get, _, _, dat⟩, _⟩ := I.list (same.seq hl)
  cases rv with
  | cons ru rus =>
    refine wpAny_list_repr_head (A := A.in1) hg (fun v rest kw mem => listSameRef_of_ne (free a (.head _) _ _ _ _ mem)) get dat (wpAny_bind (wpAny_newObj_type (wpAny_pure ⟨F.quiet_list_repr_loop _, ?_⟩)))
    have I' : Inv X pins σ H1 { s with heap := _, toks := s.toks } := I.kept (h' := s.heap.push { cls := .type "list", dict := none, data := .seq #[] 0, slots := #[] }) (t' := s.toks) fun c u e => Heap.get?_push_of_some _ e
    exact rp_list_loop (P := s.heap.objs.size) hl n hg (fun c hc => free c (.tail _ hc)) out T (Fit.of hsz) ts [] [] _ H1 #[] _ rfl rfl rfl I' same (I.fpOk (Nat.le_refl _) (I.hok.fresh (Nat.le_refl _))) (Heap.get?_push_size _ rfl) done
theorem sq_type {pins : List (Addr × Obj)} {s : Shared} {H1 : Hp} {a : Addr} {xs : List V} (I : Inv X pins σ H1 s) (h : SqL X.K H1 a xs) : s.TypeIs (.ref a) "list" := by
  obtain ⟨its, rv, ⟨oa, na, ha, hc, _⟩, _⟩ := I.list h
  exact ⟨oa, ha, hc⟩
theorem Rp.list {a : Addr} {x : V} {l : List V} {ts : List Str} (hl : SqL X.K H a (x :: l)) (hna : a ∉ as) (hT : RpAll X σ H as k (x :: l) ts) : Rp X σ H (a :: as) (k + 2) (.ref a) (listText ts) := by
  intro u ru b hb A g n hg hc pins s H1 I s1 Q E q
  obtain rfl : u = Value.ref a := ru
  have hty := sq_type I (s1.seq hl)
  refine wpAny_pyReprUnder_ref (by omega) (wpAny_pyReprObjUnder_twin (twin := "list.__repr__.under") hty F.slot_list_repr.toG rfl n.line ?_)
  refine call_twin_plain F.plain_list_repr_under F.entry_list_repr_under F.check_list_repr_under hty F.slot_list_repr.toG (F.args_list_repr_1 _) ?_
  exact rp_list_at (R := callEnd _ E) hl (n.mono (by omega)) hg hc hna hT hb I s1 fun s' H2 u I2 s2 => ⟨⟨_, _, rfl⟩, _, _, rfl, q s' H2 I2 s2⟩
theorem Rp.list0 {a : Addr} (hl : SqL X.K H a []) : Rp X σ H as k (.ref a) "[]" := by
  intro u ru b hb A g n hg hc pins s H1 I s1 Q E q
  obtain rfl : u = Value.ref a := ru
  obtain ⟨its, rv, ⟨oa, na, ha, hc, _, hda⟩, _⟩ := I.list (s1.seq hl)
  cases rv
  exact wpAny_pyReprUnder_ref (by omega) (wpAny_pyReprObjUnder_list_empty ⟨oa, ha, hc⟩ n.line ha hda ⟨_, _, rfl, q _ H1 (I.tok _) (Same.refl H1)⟩)

/-! tuples -/
theorem RpAll.head {x : V} {xs : List V} {ts : List Str} (h : RpAll X σ H as k (x :: xs) ts) : ∃ t r, ts = t :: r ∧ Rp X σ H as k x t ∧ RpAll X σ H as k xs r := by
  cases ts with
  | nil => exact nomatch h.1
  | cons t r =>
    obtain ⟨t', e, q⟩ := h.2 0 x rfl
    cases (Option.some.inj e)
    exact ⟨t, r, rfl, q, by have := h.1; simpa using this, fun i y hy => by simpa using h.2 (i + 1) y (by simpa using hy)⟩
/-- the texts of a tuple's items, one behind the other -/
theorem rp_fold {A : Around} {g : List Code} {pins : List (Addr × Obj)} {E : Value → Shared → Prop} (n : Near X k A) (hg : A.guards = some g) (free : ∀ c ∈ as, Clear g c) {xs : List V} {us : List Value} (rv : Vals xs us) :
    ∀ (ts : List Str) (got : Array Str) (m : Nat) (s : Shared) (H1 : Hp) (Q : (Array Str × Nat) → Shared → Prop), RpAll X σ H as k xs ts → m + piled ts ≤ sizeLine → Inv X pins σ H1 s → Same H H1 →
    (∀ s' H2, Inv X pins σ H2 s' → Same H1 H2 → Q (got ++ ts.toArray, m + piled ts) s') → wpAny (model X.prog X.w) A (forIn us ((got, m) : (Array Str × Nat)) tupBody) Q E s := by
  induction rv with
  | nil =>
    intro ts got m s H1 Q T _ I _ done
    cases ts with
    | cons => exact nomatch T.1
    | nil =>
      have fin := done s H1 I (Same.refl H1)
      rw [List.forIn_nil]
      simp only [Array.append_empty, piled_nil, Nat.add_zero, List.toArray] at fin
      exact wpAny_pure fin
  | cons ru rus ih =>
    intro ts got m s H1 Q T fit I same done
    obtain ⟨t, rest, rfl, first, more⟩ := T.head
    have grow : m + piled (t :: rest) = m + (t.length + 2) + piled rest := by rw [piled_cons]; omega
    rw [grow] at fit done
    rw [List.forIn_cons]
    refine wpAny_bind (wpAny_bind (first _ ru (m + 1) (by omega) A g n hg free pins s H1 I same _ _ fun s2 H2 I2 same2 => wpAny_pure (ih rest _ _ s2 H2 Q more (by omega) I2 (same.trans same2) fun s3 H3 I3 same3 => ?_)))
    have fin := done s3 H3 I3 (same2.trans same3)
    have e : got.push t ++ rest.toArray = got ++ (t :: rest).toArray := by simp
    rw [e]
    exact fin
/-- no guard around speaks of a thing that is clear of them -/
theorem clear_any {g : List Code} {f : Code × Pos → Bool} (h : ∀ c ∈ g, f (c, default) = false) : (g.any fun c => f (c, default)) = false := List.any_eq_false.mpr fun c m => by rw [h c m]; exact Bool.false_ne_true
theorem rp_tuple_at {a : Addr} {xs : List V} {ts : List Str} {A : Around} {g : List Code} {b : Nat} {pins : List (Addr × Obj)} {s : Shared} {H1 : Hp} {R : Result → Shared → Prop} {id : String} {rest : List Value}
    (lit : Lit A (.builtin id ⟨.ref a :: rest, []⟩)) (hl : SqT X.K H a xs) (n : Near X (k + 1) A) (hg : A.guards = some g) (free : ∀ c ∈ a :: as, Clear g c) (out : a ∉ as) (T : RpAll X σ H as k xs ts)
    (hsz : b + (tupleText ts).length ≤ sizeLine) (I : Inv X pins σ H1 s) (same : Same H H1) (done : ∀ s' H2 u, Inv X pins σ H2 s' → Same H1 H2 → R (.ok (.ret (.str (tupleText ts) u))) s') :
    wpOwn (model X.prog X.w) A (.builtin id ⟨.ref a :: rest, []⟩) (Builtin.tupleReprAt b ⟨[.ref a], []⟩) (fun fin s' => match fin with | .done f => R (.ok f) s' | .again c' => c'.quiet = true ∧ codeAny (model X.prog X.w) A c' R s') (fun e s' => R (.error e) s') s := by
  obtain ⟨its, rv, ⟨o, get, cls, m, dat⟩, _⟩ := I.tuple (same_tup same hl)
  have much := piled_le_tupleText ts
  have eq : its.length = ts.length := by rw [T.1]; exact rv.length.symm
  rw [tuple_repr_tree, tupleReprUnderWay_eq]
  refine wpOwn_bind (wpOwn_stackTailAny hg (tupGuardF_off (.ref a)) (tupGuardF_pos (.ref a)) ?_)
  rw [clear_any (tupGuardF_of_clear (free a (.head _)))]
  refine wpOwn_of_wpAny (show wpAny _ _ (tupleReprRest b (.ref a)) _ _ s from ?_)
  refine wpAny_bind (wpAny_bind (wpAny_seqItems get dat (wpAny_pure ?_)))
  rw [← Array.forIn_toList]
  refine wpAny_bind (rp_fold (lit.near n) (guards_under_guard lit.guard hg) (fun c m => (free c (.tail _ m)).cons fun e => out (e ▸ m)) rv ts #[] b s H1 _ T (by omega) I same fun s2 H2 I2 same2 => ?_)
  have fin := done _ H2 s2.toks (I2.tok (s2.toks + 1)) same2
  have txt : (("(" : Str) ++ Str.join ", " ((#[] : Array Str) ++ ts.toArray).toList ++ (if its.toArray.size == 1 then ",)" else ")" : String)) = tupleText ts := by simp [tupleText, eq]
  refine wpAny_bind (wpAny_mkStr (wpAny_pure ?_) ?_)
  · rw [txt]
    exact fin
  · rw [txt]
    omega
theorem Rp.tuple {a : Addr} {xs : List V} {ts : List Str} (hl : SqT X.K H a xs) (hna : a ∉ as) (hT : RpAll X σ H as k xs ts) : Rp X σ H (a :: as) (k + 2) (.ref a) (tupleText ts) := by
  intro u ru b hb A g n hg hc pins s H1 I s1 Q E q
  obtain rfl : u = Value.ref a := ru
  obtain ⟨its, rv, ⟨o, ha, hct, _, hd⟩, _⟩ := I.tuple (same_tup s1 hl)
  refine wpAny_pyReprUnder_ref (by omega) (wpAny_pyReprObjUnder_twin (twin := "tuple.__repr__.under") ⟨o, ha, hct⟩ F.slot_tuple_repr rfl n.line ?_)
  exact call_twin_own (F.quiet_tuple_repr_under _) F.entry_tuple_repr_under F.check_tuple_repr_under ⟨o, ha, hct⟩ F.slot_tuple_repr (F.args_tuple_repr_1 _)
    (rp_tuple_at (R := callEnd _ E) (lit_tupleU A _) hl (n.mono (by omega)) hg hc hna hT hb I s1 fun s' H2 u I2 s2 => ⟨⟨_, _, rfl⟩, _, _, rfl, q s' H2 I2 s2⟩)

/-! dicts whose keys are ints and texts -/
def kTxt : Key → Str
  | .inl i => (toString i : String)
  | .inr z => reprText z
def RpKV (X : Cx) (σ : L2.St) (H : Hp) (as : List Addr) (k : Nat) (kvs : List (Key × V)) (ps : List Str) : Prop :=
  ps.length = kvs.length ∧ ∀ (i : Nat) (kv : Key × V), kvs[i]? = some kv → ∃ v, ps[i]? = some (kTxt kv.1 ++ ": " ++ v) ∧ Rp X σ H as k (kV kv.1) (kTxt kv.1) ∧ Rp X σ H as k kv.2 v
theorem kv_entry {κs : List (Key × V)} {vs : List (Key × Value)} (r : KV κs vs) : ∀ {es : List DictEntry} {P : Program} {w : World}, Pairs (mixKind P w) es vs →
    es.length = κs.length ∧ ∀ (i : Nat) (kv : Key × V), κs[i]? = some kv → ∃ e, es[i]? = some e ∧ RelV (kV kv.1) e.key ∧ RelV kv.2 e.val := by
  unfold KV at r
  induction r with
  | nil =>
    intro es P w p
    cases p
    exact ⟨rfl, fun i kv h => by simp at h⟩
  | cons h t ih =>
    intro es P w p
    cases p with
    | cons h1 h2 h3 =>
      obtain ⟨l, q⟩ := ih h3
      refine ⟨by simp [l], fun i kv hi => ?_⟩
      cases i with
      | zero =>
        simp at hi
        subst hi
        refine ⟨_, rfl, ?_, ?_⟩
        · rw [h.1]
          exact relV_key h1
        · rw [h2]
          exact h.2
      | succ i => exact q i kv (by simpa using hi)
/-- one entry more -/
theorem range_step {m i : Nat} {x : Nat} {rest : List Nat} (h : x :: rest = List.range' i (m - i)) : x = i ∧ i < m ∧ rest = List.range' (i + 1) (m - (i + 1)) := by
  cases d : m - i with
  | zero =>
    rw [d] at h
    cases h
  | succ j =>
    rw [d, List.range'_succ] at h
    injection h with h1 h2
    have : m - (i + 1) = j := by omega
    exact ⟨h1, by omega, by rw [h2, this]⟩
theorem range_end {m i : Nat} (hi : i ≤ m) (h : [] = List.range' i (m - i)) : i = m := by
  cases d : m - i with
  | zero => omega
  | succ j =>
    rw [d, List.range'_succ] at h
    cases h
theorem rp_dict_at {a : Addr} {kvs : List (Key × V)} {ps : List Str} {A : Around} {g : List Code} {b : Nat} {pins : List (Addr × Obj)} {s : Shared} {H0 H1 : Hp} {R : Result → Shared → Prop} {id : String} {rest : List Value}
    (lit : Lit A (.builtin id ⟨.ref a :: rest, []⟩)) (h0 : H0 a = none) (hl : H1 a = some (.dK kvs)) (n : Near X (k + 1) A) (hg : A.guards = some g) (free : ∀ c ∈ a :: as, Clear g c) (out : a ∉ as) (T : RpKV X σ H0 as k kvs ps)
    (hsz : b + (dictText ps).length ≤ sizeLine) (I0 : Inv X pins σ H1 s) (hs : Same H0 H1) (done : ∀ s' H2 u, Inv X pins σ H2 s' → Same H1 H2 → R (.ok (.ret (.str (dictText ps) u))) s') :
    wpOwn (model X.prog X.w) A (.builtin id ⟨.ref a :: rest, []⟩) (Builtin.dictReprAt b ⟨[.ref a], []⟩) (fun fin s' => match fin with | .done f => R (.ok f) s' | .again c' => c'.quiet = true ∧ codeAny (model X.prog X.w) A c' R s') (fun e s' => R (.error e) s') s := by
  -- the dict stays as it is while it is shown
  have hn0 := I0.nofrz hl trivial
  obtain ⟨o, I⟩ := I0.lock hl trivial
  have hfr : Same H0 (upd H1 a (.frz o (.dK kvs))) := fun c u e => by
    rw [upd_ne (ne_of_none e h0)]
    exact hs c u e
  obtain ⟨hsys, get, exact_, es, ep, vs, dat, size, rv, o', es', e1, _, e3, _, e4, _⟩ := I.frzK upd_same
  obtain rfl := Option.some.inj (get.symm.trans e1)
  obtain ⟨rfl, _⟩ := Data.dict.inj (dat.symm.trans e3)
  obtain ⟨_, entry⟩ := kv_entry rv e4
  have stays : ∀ (s' : Shared) (H2 : Hp), Inv X pins σ H2 s' → Same (upd H1 a (.frz o (.dK kvs))) H2 → s'.heap.get? a = some o := fun s' H2 I2 s2 => (I2.frzK (s2 _ _ upd_same)).2.1
  have much := piled_le_dictText ps
  have many := T.1
  unfold Builtin.dictReprAt
  refine wpOwn_bind (wpOwn_of_wpAny (wpAny_bind (wpAny_notOrdered_dict (show s.TypeIs (.ref a) "dict" from ⟨o, get, exact_.1⟩) (wpAny_pure (a := Value.ref a) ?_))))
  rw [dictReprRunning_eq]
  refine wpOwn_bind (wpOwn_stackTailAny hg (dictGuardF_off (.ref a)) (dictGuardF_pos (.ref a)) ?_)
  rw [clear_any (dictGuardF_of_clear (free a (.head _)))]
  have n' := lit.near n
  have hg' := guards_under_guard lit.guard hg
  have free' : ∀ c ∈ as, Clear (.builtin id ⟨.ref a :: rest, []⟩ :: g) c := fun c m => (free c (.tail _ m)).cons fun e => out (e ▸ m)
  refine wpOwn_of_wpAny (show wpAny _ _ (Builtin.Dict.addrOf (.ref a) >>= fun _ => _) _ _ s from wpAny_bind (wpAny_pure ?_))
  have whole : Builtin.Dict.showsAll a = pure () := by
    unfold Builtin.Dict.showsAll
    rw [hsys]
    rfl
  rw [whole]
  refine wpAny_bind (wpAny_pure (wpAny_bind (wpAny_dictEpoch get dat (wpAny_bind (wpAny_dictEntries get dat (wpAny_bind ?_))))))
  rw [Std.Legacy.Range.forIn_eq_forIn_range', show (Std.Legacy.Range.mk 0 es.size 1 _).size = es.size - 0 from by simp [Std.Legacy.Range.size]]
  refine wpAny_forIn_list _ (fun todo r s' => ∃ i H2, todo = List.range' i (es.size - i) ∧ i ≤ es.size ∧ r = ((ps.take i).toArray, b + piled (ps.take i)) ∧ Inv X pins σ H2 s' ∧ Same (upd H1 a (.frz o (.dK kvs))) H2) _ ?_ ?_ _ _ ⟨0, _, rfl, Nat.zero_le _, rfl, I, Same.refl _⟩
  · rintro x todo _ s2 ⟨i, H2, hr0, hi, rfl, I2, same2⟩
    obtain ⟨rfl, lt, hrest⟩ := range_step hr0
    have ltk : x < kvs.length := by omega
    have there : kvs[x]? = some kvs[x] := List.getElem?_eq_getElem ltk
    obtain ⟨v, txt, showK, showV⟩ := T.2 x _ there
    obtain ⟨en, he, rek, rev⟩ := entry x _ there
    have he' : es[x] = en := by
      rw [Array.getElem?_toList, Array.getElem?_eq_getElem lt] at he
      exact Option.some.inj he
    have len : (kTxt kvs[x].1 ++ ": " ++ v).length = (kTxt kvs[x].1).length + 2 + v.length := (strLen_append _ _).trans (congrArg (· + v.length) (strLen_append _ _))
    have pile := piled_take_succ txt
    have upto := piled_take_le ps (x + 1)
    rw [len] at pile
    refine wpAny_bind (wpAny_dictEntries (stays s2 H2 I2 same2) dat ?_)
    rw [Array.getElem?_eq_getElem lt, he']
    refine wpAny_bind (wpAny_holding (wpAny_bind (showK en.key rek (b + piled (ps.take x) + 1) (by omega) _ _ n' hg' free' pins s2 H2 I2 (hfr.trans same2) _ _ fun s3 H3 I3 same3 =>
      wpAny_bind (showV en.val rev (b + piled (ps.take x) + ((kTxt kvs[x].1).length + 3)) (by omega) _ _ n' hg' free' pins s3 H3 I3 ((hfr.trans same2).trans same3) _ _ fun s4 H4 I4 same4 => wpAny_pure ?_))))
    have same24 := (same2.trans same3).trans same4
    refine wpAny_bind (wpAny_dictEpoch (stays s4 H4 I4 same24) dat ?_)
    rw [if_neg (by simp)]
    have w1 : (ps.take x).toArray.push (kTxt kvs[x].1 ++ ": " ++ v) = (ps.take (x + 1)).toArray := by rw [take_one txt]; simp
    have w2 : b + piled (ps.take x) + ((kTxt kvs[x].1).length + v.length + 4) = b + piled (ps.take (x + 1)) := by omega
    exact wpAny_pure ⟨x + 1, H4, hrest, lt, by rw [w1, w2], I4, same24⟩
  · rintro _ s2 ⟨i, H2, hr0, hi, rfl, I2, same2⟩
    have last : i = ps.length := by rw [range_end hi hr0]; omega
    rw [last, List.take_length]
    have fin := done _ _ s2.toks ((I2.unlock (same2 _ _ upd_same) hn0).tok (s2.toks + 1)) fun c u e => by
      by_cases z : c = a
      · subst z
        rw [hl] at e
        obtain rfl := Option.some.inj e
        exact upd_same
      · rw [upd_ne z]
        exact same2 c u (by rw [upd_ne z]; exact e)
    have tx : (("{" : Str) ++ Str.join ", " ps.toArray.toList ++ "}") = dictText ps := by simp [dictText]
    refine wpAny_bind (wpAny_mkStr (wpAny_pure ?_) ?_)
    · rw [tx]
      exact fin
    · rw [tx]
      omega
theorem Rp.dict {a : Addr} {kvs : List (Key × V)} {ps : List Str} {H0 : Hp} (h0 : H0 a = none) (hl : H a = some (.dK kvs)) (hs : Same H0 H) (hna : a ∉ as) (hT : RpKV X σ H0 as k kvs ps) : Rp X σ H (a :: as) (k + 2) (.ref a) (dictText ps) := by
  intro u ru b hb A g n hg hc pins s H1 I s1 Q E q
  obtain rfl : u = Value.ref a := ru
  obtain ⟨_, _, vs, rv, o, es, _, ha, hx, _⟩ := dk_of I.hok (s1 _ _ hl)
  refine wpAny_pyReprUnder_ref (by omega) (wpAny_pyReprObjUnder_twin (twin := "dict.__repr__.under") ⟨o, ha, hx.1⟩ F.slot_dict_repr rfl n.line ?_)
  exact call_twin_own (F.quiet_dict_repr_under _) F.entry_dict_repr_under F.check_dict_repr_under ⟨o, ha, hx.1⟩ F.slot_dict_repr (F.args_dict_repr_1 _)
    (rp_dict_at (R := callEnd _ E) (lit_dictU A _) h0 (s1 _ _ hl) (n.mono (by omega)) hg hc hna hT hb I (hs.trans s1) fun s' H2 u I2 s2 => ⟨⟨_, _, rfl⟩, _, _, rfl, q s' H2 I2 s2⟩)
end
/-! ### values of any kind and what is shown of them -/
section
def keyFits : Key → Prop
  | .inl i => i.natAbs.log2 < 1920
  | .inr z => (reprText z).length ≤ sizeLine
def kvTxts (kvs : List (Key × V)) (vts : List Str) : List Str := List.zipWith (fun kv v => kTxt kv.1 ++ ": " ++ v) kvs vts
variable (K : PySem.W.Frag) (own : Hp → Addr → Str → Prop) (kO : Nat)
inductive Shw : Hp → List Addr → Nat → V → Str → Prop
  | non {H as k} : Shw H as k .non "None"
  | bl {H as k} (b : Bool) : Shw H as k (.bl b) (if b then "True" else "False")
  | int {H as k} {i : Int} : i.natAbs.log2 < 1920 → Shw H as k (.int i) (toString i)
  | str {H as k} {z : Str} : (reprText z).length ≤ sizeLine → Shw H as k (.str z) (reprText z)
  | own {H as k a t} : own H a t → kO ≤ k → Shw H as k (.ref a) t
  | list0 {H as k a} : SqL K H a [] → Shw H as k (.ref a) "[]"
  | list {H as as' k k' a x l ts} : SqL K H a (x :: l) → a ∉ as → ts.length = l.length + 1 → (∀ (i : Nat) (y : V) (t : Str), (x :: l)[i]? = some y → ts[i]? = some t → Shw H as k y t) → (∀ b ∈ a :: as, b ∈ as') → k + 2 ≤ k' → Shw H as' k' (.ref a) (listText ts)
  | tuple {H as as' k k' a xs ts} : SqT K H a xs → a ∉ as → ts.length = xs.length → (∀ (i : Nat) (y : V) (t : Str), xs[i]? = some y → ts[i]? = some t → Shw H as k y t) → (∀ b ∈ a :: as, b ∈ as') → k + 2 ≤ k' → Shw H as' k' (.ref a) (tupleText ts)
  | dict {H H0 as as' k k' a kvs vts} : H0 a = none → H a = some (.dK kvs) → Same H0 H → a ∉ as → vts.length = kvs.length → (∀ (i : Nat) (kv : Key × V), kvs[i]? = some kv → keyFits kv.1) →
      (∀ (i : Nat) (kv : Key × V) (v : Str), kvs[i]? = some kv → vts[i]? = some v → Shw H0 as k kv.2 v) → (∀ b ∈ a :: as, b ∈ as') → k + 2 ≤ k' → Shw H as' k' (.ref a) (dictText (kvTxts kvs vts))
end
section
variable {X : Cx} {own : Hp → Addr → Str → Prop} {kO j : Nat} {C : Addr} {sp : Sp} {H H' : Hp} {as : List Addr} {k : Nat} {x : V} {t : Str} {K : PySem.W.Frag}
theorem get_two {α β : Type} {xs : List α} {ts : List β} (h : ts.length = xs.length) {i : Nat} {x : α} (e : xs[i]? = some x) : ∃ t, ts[i]? = some t := by
  have hi : i < xs.length := (List.getElem?_eq_some_iff.mp e).1
  exact ⟨ts[i], List.getElem?_eq_getElem (by omega)⟩
theorem kvTxts_get {kvs : List (Key × V)} {vts : List Str} {i : Nat} {kv : Key × V} {v : Str} (h1 : kvs[i]? = some kv) (h2 : vts[i]? = some v) : (kvTxts kvs vts)[i]? = some (kTxt kv.1 ++ ": " ++ v) := by
  unfold kvTxts
  rw [List.getElem?_zipWith, h1, h2]
theorem Shw.same (hs : ∀ {H H' a t}, own H a t → Same H H' → own H' a t) (h : Shw K own kO H as k x t) (s : Same H H') : Shw K own kO H' as k x t := by
  induction h generalizing H' with
  | non => exact .non
  | bl b => exact .bl b
  | int h => exact .int h
  | str h => exact .str h
  | own h hk => exact .own (hs h s) hk
  | list0 h => exact .list0 (s.seq h)
  | list h n l _ m hk ih => exact .list (s.seq h) n l (fun i y t h1 h2 => ih i y t h1 h2 s) m hk
  | tuple h n l _ m hk ih => exact .tuple (same_tup s h) n l (fun i y t h1 h2 => ih i y t h1 h2 s) m hk
  | dict h0 h s0 n l kf hv m hk _ => exact .dict h0 (s _ _ h) (s0.trans s) n l kf hv m hk
theorem Shw.more {as' : List Addr} {k' : Nat} (h : Shw K own kO H as k x t) (m' : ∀ a ∈ as, a ∈ as') (hk' : k ≤ k') : Shw K own kO H as' k' x t := by
  cases h with
  | non => exact .non
  | bl b => exact .bl b
  | int h => exact .int h
  | str h => exact .str h
  | own h hk => exact .own h (Nat.le_trans hk hk')
  | list0 h => exact .list0 h
  | list h n l ih m hk => exact .list h n l ih (fun b hb => m' b (m b hb)) (Nat.le_trans hk hk')
  | tuple h n l ih m hk => exact .tuple h n l ih (fun b hb => m' b (m b hb)) (Nat.le_trans hk hk')
  | dict h0 h s0 n l kf hv m hk => exact .dict h0 h s0 n l kf hv (fun b hb => m' b (m b hb)) (Nat.le_trans hk hk')
theorem Rp.key {σ : L2.St} {κ : Key} (h : keyFits κ) : Rp X σ H as k (kV κ) (kTxt κ) := by
  cases κ with
  | inl i => exact Rp.int h
  | inr z => exact Rp.str h
theorem Shw.rp (o : OwnX X own kO) (h : Shw X.K own kO H as k x t) (σ : L2.St) : Rp X σ H as k x t := by
  induction h with
  | non => exact Rp.non
  | bl b => exact Rp.bl
  | int h => exact Rp.int h
  | str h => exact Rp.str h
  | own h hk => exact (Rp.own o h).mono hk
  | list0 h => exact Rp.list0 h
  | list h n l _ m hk ih => exact ((Rp.list h n ⟨l, fun i y hy => (get_two l hy).elim fun t ht => ⟨t, ht, ih i y t hy ht⟩⟩).more m).mono hk
  | tuple h n l _ m hk ih => exact ((Rp.tuple h n ⟨l, fun i y hy => (get_two l hy).elim fun t ht => ⟨t, ht, ih i y t hy ht⟩⟩).more m).mono hk
  | dict h0 h s0 n l kf _ m hk ih =>
    refine ((Rp.dict h0 h s0 n ⟨?_, fun i kv hkv => ?_⟩).more m).mono hk
    · unfold kvTxts
      rw [List.length_zipWith]
      omega
    · obtain ⟨v, hv⟩ := get_two l hkv
      exact ⟨v, kvTxts_get hkv hv, Rp.key (kf i kv hkv), ih i kv v hkv hv⟩
/-- repr(x), x a value of any kind, where nothing guarded runs around -/
def rShw (K : PySem.W.Frag) (own : Hp → Addr → Str → Prop) (kO j : Nat) : List V → Hp → VK → Prop := fun xs H Q => ∃ x as k t, xs = [x] ∧ Shw K own kO H as k x t ∧ t.length ≤ sizeLine ∧ k + 3 ≤ j ∧ ∀ H2, Same H H2 → Q (.str t) H2
theorem repr_top (o : OwnX X own kO) (bare : Bare X.A) (h : Shw X.K own kO H as k x t) (hz : t.length ≤ sizeLine) {pins : List (Addr × Obj)} {σ : L2.St} {s : Shared} {Q : VK} {u : Value} (hr : L2H.RoomH (k + 3) X.A) (I : Inv X pins σ H s) (ru : RelV x u)
    (hq : ∀ H2, Same H H2 → Q (.str t) H2) : wpAny (model X.prog X.w) X.A (call (.builtin "repr") [u]) (EP X pins σ Q) X.xe s := by
  have fin : ∀ (s' : Shared) (H2 : Hp) (z : Tok), Inv X pins σ H2 s' → Same H H2 → EP X pins σ Q (.str t z) s' := fun s' H2 z I2 s2 => ⟨.str t, H2, I2, ⟨z, rfl⟩, hq H2 s2⟩
  have hu : X.A.units + 1 < cLine := by have := hr.un; omega
  have nr : Near X (k + 2) X.A.in1 := (Near.self hr).in1
  cases h with
  | non =>
    obtain rfl : u = Value.none := ru
    exact PySem.P.repr_of_none (fin _ _ _ (I.tok _) (Same.refl H))
  | bl b =>
    obtain rfl : u = Value.bool b := ru
    exact PySem.P.repr_of_bool (fin _ _ _ (I.tok _) (Same.refl H))
  | int hi =>
    obtain ⟨tk, rfl⟩ := ru
    exact PySem.P.repr_of_int hi (fin _ _ _ (I.tok _) (Same.refl H))
  | str _ =>
    obtain ⟨tk, rfl⟩ := ru
    exact PySem.P.repr_of_str (fin _ _ _ (I.tok _) (Same.refl H)) hz
  | own ho hk =>
    obtain ⟨C, f, dx, fs, e, at_, fn, run⟩ := o.run _ _ _ ho
    cases ru
    obtain ⟨mA, J, _⟩ := ins_get I.hok e
    obtain ⟨od, J, _⟩ := J.look
    obtain ⟨m, hF⟩ := I.fr
    exact PySem.W.repr_K hu hF I.ok.mod.kin J at_ fn (run X.A.in1 pins σ s H (nr.mono (by omega)) I (Same.refl H) _ _ fun s' H2 tk I2 s2 => fin s' H2 tk I2 s2)
  | list0 hl =>
    cases ru
    obtain ⟨its, rv, ⟨oa, na, ha, hc, _, hda⟩, _⟩ := I.list hl
    cases rv
    exact call_repr_slot hu ⟨oa, ha, hc⟩ F.slot_list_repr.toG (call_list_repr_empty ⟨oa, ha, hc⟩ ha hda ⟨_, _, rfl, fin _ H _ (I.tok _) (Same.refl H)⟩)
  | list hl n l ih m hk =>
    cases ru
    have hty := sq_type I hl
    refine call_repr_slot hu hty F.slot_list_repr.toG (wpAny_call (codeAny_call_builtin F.slot_list_repr.plain F.entry_list_repr (F.slot_list_repr.check _ _ _ _ _ _ _ _ hty (F.args_list_repr_1 _) ?_)))
    exact rp_list_at (σ := σ) (H := H) (b := 0) (R := callEnd _ _) hl (nr.mono (by omega)) bare (fun c _ => Clear.nil c) n ⟨l, fun i y hy => (get_two l hy).elim fun t ht => ⟨t, ht, (ih i y t hy ht).rp o σ⟩⟩ (by omega) I (Same.refl H)
      fun s' H2 z I2 s2 => ⟨_, _, rfl, fin s' H2 z I2 s2⟩
  | tuple hl n l ih m hk =>
    cases ru
    obtain ⟨its, rv, ⟨o', ha, hct, n', hd⟩, _⟩ := I.tuple hl
    refine call_repr_slot hu ⟨o', ha, hct⟩ F.slot_tuple_repr (wpAny_call (codeAny_call_builtin_own (Code.quiet_builtin _ (by decide +kernel)) F.entry_tuple_repr (F.slot_tuple_repr.check _ _ _ _ _ _ _ _ ⟨o', ha, hct⟩ (F.args_tuple_repr_1 _) ?_)))
    exact rp_tuple_at (σ := σ) (H := H) (b := 0) (R := callEnd _ _) (lit_tuple _ _) hl (nr.mono (by omega)) bare (fun c _ => Clear.nil c) n ⟨l, fun i y hy => (get_two l hy).elim fun t ht => ⟨t, ht, (ih i y t hy ht).rp o σ⟩⟩ (by omega) I (Same.refl H)
      fun s' H2 z I2 s2 => ⟨_, _, rfl, fin s' H2 z I2 s2⟩
  | dict h0 hl s0 n l kf ih m hk =>
    rename_i as1 k1 a1 kvs vts
    cases ru
    obtain ⟨_, _, vs, rv, o', es, n', ha, hx, _⟩ := dk_of I.hok hl
    refine call_repr_slot hu ⟨o', ha, hx.1⟩ F.slot_dict_repr (wpAny_call (codeAny_call_builtin_own (Code.quiet_builtin _ (by decide +kernel)) F.entry_dict_repr (F.slot_dict_repr.check _ _ _ _ _ _ _ _ ⟨o', ha, hx.1⟩ (F.args_dict_repr_1 _) ?_)))
    refine rp_dict_at (σ := σ) (b := 0) (R := callEnd _ _) (lit_dict _ _) h0 hl (nr.mono (j := k1 + 1) (by omega)) bare (fun c _ => Clear.nil c) n ⟨?_, fun i kv hkv => ?_⟩ (by omega) I s0
      fun s' H2 z I2 s2 => ⟨_, _, rfl, fin s' H2 z I2 s2⟩
    · unfold kvTxts
      rw [List.length_zipWith]
      omega
    · obtain ⟨v, hv⟩ := get_two l hkv
      exact ⟨v, kvTxts_get hkv hv, Rp.key (kf i kv hkv), (ih i kv v hkv hv).rp o σ⟩
/-- the def that shows own instances, where nothing is handled -/
structure OwnF (P : Program) (w : World) (K : PySem.W.Frag) (mg : Str → Option Value) (base : Heap) (own : Hp → Addr → Str → Prop) (kO : Nat) : Prop where
  ex : ∃ (C : Addr) (sp : Sp), DunF P w K mg base kO C "__repr__" sp ∧ ∀ H a t, own H a t → (∃ dx fs, H a = some (.ins C dx fs)) ∧ ∀ H1, Same H H1 → sp [.ref a] H1 (fun v H2 => v = .str t ∧ Same H1 H2) E0
theorem OwnF.at (o : OwnF X.prog X.w X.K X.mg X.base own kO) (cold : X.A.handled = none) : OwnX X own kO := by
  obtain ⟨C, sp, ⟨f, fd, ps, at_, fn, F, hb⟩, ho⟩ := o.ex
  refine ⟨fun H a t h => ?_⟩
  obtain ⟨⟨dx, fs, e⟩, q⟩ := ho H a t h
  refine ⟨C, f, dx, fs, e, at_, fn, fun A pins σ s H1 n I s1 Q E fin => ?_⟩
  have h1 := q H1 s1
  have hl := F.len _ _ _ _ h1
  have bind := hb s [.ref a] I.kIn (by simpa using hl)
  rw [List.append_nil] at bind
  have env : Env0 X.prog X.w X.K X.mg X.base A X.stack s H1 := { I.env0 with frames := n.fr.trans I.env0.frames }
  refine wpAny_call (codeAny_mono (F.run A X.stack s H1 ⟨[.ref a], []⟩ [.ref a] [.ref a] _ E0 ⟨n.hn.trans cold, n.room.dp, n.room.un⟩ env bind (.cons rfl .nil) h1) fun r s' hq => ?_)
  match r, hq with
  | .error e, hq => exact False.elim hq
  | .ok (.ret z), hq =>
    obtain ⟨v, H', I', rv, rfl, s2⟩ := I.after hq
    obtain ⟨tk, rfl⟩ := rv
    exact fin s' H' tk I' s2
  | .ok .next, hq => exact False.elim hq
  | .ok .brk, hq => exact False.elim hq
  | .ok .cont, hq => exact False.elim hq
/-- the same within an except suite -/
structure OwnH (P : Program) (w : World) (K : PySem.W.Frag) (mg : Str → Option Value) (base : Heap) (own : Hp → Addr → Str → Prop) (kO : Nat) : Prop where
  ex : ∃ (C f : Addr) (fd : FuncData) (ps : List Str) (sp : Sp), PySem.W.findIn K (.ref C) "__repr__" = some (some (.ref f)) ∧ PySem.W.isFn K (.ref f) = true ∧ L2H.FnH P w K mg base CX0 kO f fd ps sp ∧ Binds K fd ps [] ∧
    ∀ H a t, own H a t → (∃ dx fs, H a = some (.ins C dx fs)) ∧ ∀ H1, Same H H1 → sp [.ref a] H1 (fun v H2 => v = .str t ∧ Same H1 H2) E0
theorem OwnH.at (o : OwnH X.prog X.w X.K X.mg X.base own kO) (hot : L2H.HotC X) : OwnX X own kO := by
  obtain ⟨C, f, fd, ps, sp, at_, fn, F, hb, ho⟩ := o.ex
  obtain ⟨p, hp1, hp2⟩ := hot
  refine ⟨fun H a t h => ?_⟩
  obtain ⟨⟨dx, fs, e⟩, q⟩ := ho H a t h
  refine ⟨C, f, dx, fs, e, at_, fn, fun A pins σ s H1 n I s1 Q E fin => ?_⟩
  have h1 := q H1 s1
  have hl := F.len _ _ _ _ h1
  have bind := hb s [.ref a] I.kIn (by simpa using hl)
  rw [List.append_nil] at bind
  have env : Env0 X.prog X.w X.K X.mg X.base A X.stack s H1 := { I.env0 with frames := n.fr.trans I.env0.frames }
  obtain ⟨p1, p2, p3, p4, p5⟩ := I.pin p (List.mem_append_left _ hp2)
  have pin : L2H.PinOk X.stack H1 s p := ⟨p1, p2, fun m => (List.mem_cons.mp (I.stkSub p.1 m)).elim p3 p4, p5⟩
  refine wpAny_call (codeAny_mono (F.run A X.stack s H1 ⟨[.ref a], []⟩ [.ref a] [.ref a] _ E0 p n.room ⟨n.hn.trans hp1.1, hp1.2⟩ pin env bind (.cons rfl .nil) h1) fun r s' hq => ?_)
  match r, hq with
  | .error e, hq => exact False.elim hq
  | .ok (.ret z), hq =>
    obtain ⟨v, H', I', rv, rfl, s2⟩ := I.after hq
    obtain ⟨tk, rfl⟩ := rv
    exact fin s' H' tk I' s2
  | .ok .next, hq => exact False.elim hq
  | .ok .brk, hq => exact False.elim hq
  | .ok .cont, hq => exact False.elim hq
theorem call_reprX (o : OwnX X own kO) (bare : Bare X.A) (hr : L2H.RoomH j X.A) (hK : X.K = K := by rfl) : CallR X (.builtin "repr") (rShw K own kO j) := by
  subst hK
  intro pins s σ H xs us Q I r h
  obtain ⟨x, as, k, t, rfl, hs, hz, hk, q⟩ := h
  obtain ⟨u, rfl, ru⟩ := vals1 r
  exact repr_top o bare hs hz (hr.mono hk) I ru q
theorem call_reprS (o : OwnF X.prog X.w X.K X.mg X.base own kO) (bare : Bare X.A) (hr : Room j X.A) (hK : X.K = K := by rfl) : CallR X (.builtin "repr") (rShw K own kO j) := call_reprX (o.at hr.hd) bare (L2H.roomH_of hr) hK
end
/-- a class made with values by name; sp: its __init__ -/
structure MakK (P : Program) (w : World) (K : PySem.W.Frag) (mg : Str → Option Value) (base : Heap) (k : Nat) (x : Str) (C : Addr) (sp : Sp) (ks : List Str) (gV : List V → List V → List V) : Prop where
  ex : ∃ (f : Addr) (fd : FuncData) (ps : List Str) (g : List Value → List Value → List Value), Mk K C f ∧ FnOk P w K mg base CX0 k f fd ps sp ∧ mg x = some (.ref C) ∧ KBn K fd ps 1 ks g gV
theorem pe_mkk {X : Cx} {k j : Nat} {x : Str} {C : Addr} {sp : Sp} {ks : List Str} {gV : List V → List V → List V} {p pos : Pos} {kws : List Keyword} {tk : TA}
    (c : MakK X.prog X.w X.K X.mg X.base k x C sp ks gV) (hr : Room j X.A) (hk : k + 1 ≤ j) (hg : Gl X x) (hkw : PK X kws tk)
    (hall : (backToKw pos (keywordEach kws X.env)).all (·.1.isSome) = true := by rfl) (hks : (backToKw pos (keywordEach kws X.env)).filterMap (·.1) = ks := by rfl) (hdb : (x == ("__debug__" : Str)) = false := by decide)
    (hpl : ((backTo pos (starEach [] X.env)).any (·.1) || (backToKw pos (keywordEach kws X.env)).any (·.1.isNone)) = false := by rfl) :
    PE X (.Call (.Name x p) [] kws pos) (tMakeK C 0 ks.length sp gV E0 tNil tk) := by
  obtain ⟨f, fd, ps, g, M, F, hm, b⟩ := c.ex
  exact pe_makeK0 M F (hr.mono hk) hg hm b pass0 hkw hall hks hdb hpl
end MG

/-! Plain facts about numbers, and short words for readings -/
namespace MG
open PySem PySem.Spec PyProof.Rows L2

/-- within 10 ^ 400 -/
def Sm (i : Int) : Prop := -(10 ^ 400) < i ∧ i < 10 ^ 400
theorem big400 : (10 : Nat) ^ 400 < 2 ^ 1400 := by decide +kernel
theorem Sm.abs {i : Int} (h : Sm i) : i.natAbs < 2 ^ 1400 := by
  have h1 := h.1
  have h2 := h.2
  have h3 := big400
  have e : ((10 : Int) ^ 400) = ((10 ^ 400 : Nat) : Int) := by rw [Int.natCast_pow]; rfl
  rw [e] at h1 h2
  generalize (10 : Nat) ^ 400 = a at *
  generalize (2 : Nat) ^ 1400 = b at *
  omega
theorem sm_mul {i j : Int} (hi : Sm i) (hj : Sm j) : CMulW i j := wide_mul hi.abs hj.abs (by decide) (by decide) (by decide)
theorem sm_div {j : Int} (h : Sm j) (h0 : j ≠ 0) : j ≠ 0 ∧ j.natAbs.log2 < 9000 :=
  ⟨h0, Nat.lt_of_lt_of_le (PySem.Flt.log2_lt_of (by decide) h.abs) (by decide)⟩
theorem sm_lt {i : Int} {k : Nat} (hk : k ≤ 400) (h1 : -(10 ^ k) < i) (h2 : i < 10 ^ k) : Sm i := by
  have e : (10 : Int) ^ k ≤ 10 ^ 400 := by
    have q : (10 : Nat) ^ k ≤ 10 ^ 400 := Nat.pow_le_pow_right (by decide) hk
    have z := Int.ofNat_le.mpr q
    rw [Int.natCast_pow, Int.natCast_pow] at z
    exact z
  constructor <;> generalize (10 : Int) ^ 400 = b at * <;> omega
theorem fmod_ge {x m : Int} (h : 0 < m) : 0 ≤ x.fmod m := Int.fmod_nonneg_of_pos x h
theorem fmod_lt {x m : Int} (h : 0 < m) : x.fmod m < m := Int.fmod_lt_of_pos x h
theorem fdiv_ge {x m : Int} (hx : 0 ≤ x) (h : 0 < m) : 0 ≤ x.fdiv m := by
  rw [Int.fdiv_eq_ediv_of_nonneg x (by omega)]
  exact Int.ediv_nonneg hx (by omega)
theorem fdiv_le {x m : Int} (hx : 0 ≤ x) (h : 0 < m) : x.fdiv m ≤ x := by
  rw [Int.fdiv_eq_ediv_of_nonneg x (by omega)]
  exact Int.ediv_le_self m hx
/-- an item of a written list of ints at a reckoned index -/
theorem at_ints {l : List Int} {i : Int} (h0 : 0 ≤ i) (h : i < l.length) : ∃ z ∈ l, atI (l.map V.int) i = some (V.int z) := by
  obtain ⟨j, rfl⟩ := Int.eq_ofNat_of_zero_le h0
  have hj : j < l.length := by omega
  exact ⟨l[j], List.getElem_mem hj, atI_nat (by rw [List.getElem?_map, List.getElem?_eq_getElem hj]; rfl)⟩
end MG

/-! Fractions: what crossing out gives is the numerator and the denominator -/
namespace MG
open PySem PySem.Spec PyProof.Rows L2

/-- the divisor, of the sign of the lower one -/
def gd (a u : Int) : Int := if 0 < u then (Int.gcd a u : Int) else -(Int.gcd a u : Int)
theorem gd_ne {a u : Int} (h : u ≠ 0) : gd a u ≠ 0 := by
  have := Int.gcd_pos_of_ne_zero_right a h
  unfold gd
  split <;> omega
theorem gd_sm {a u : Int} (h : u ≠ 0) (hu : Sm u) : Sm (gd a u) := by
  have h1 : (Int.gcd a u : Nat) ≤ u.natAbs := Nat.le_of_dvd (by omega) (Int.gcd_dvd_natAbs_right a u)
  obtain ⟨h2, h3⟩ := hu
  unfold gd Sm
  generalize (10 : Int) ^ 400 = t at *
  split <;> omega
theorem lo_num {a u : Int} (h : u ≠ 0) : a.fdiv (gd a u) = (Rat.divInt a u).num := by
  have hg : (Int.gcd a u : Int) ≠ 0 := by have := Int.gcd_pos_of_ne_zero_right a h; omega
  obtain ⟨x, hx⟩ := Int.gcd_dvd_left a u
  have e1 : (a.gcd u : Int) * x / (a.gcd u : Int) = x := Int.mul_ediv_cancel_left x hg
  rw [Rat.num_divInt, Int.gcd_comm u a]
  unfold gd
  generalize (a.gcd u : Int) = g at *
  rcases Int.lt_trichotomy u 0 with hu | hu | hu
  · rw [if_neg (by omega), Int.sign_eq_neg_one_of_neg hu, hx]
    have e : g * x = -g * -x := (Int.neg_mul_neg g x).symm
    rw [e, Int.mul_fdiv_cancel_left (-x) (by omega), ← e, Int.neg_one_mul, ← Int.mul_neg, Int.mul_ediv_cancel_left _ hg]
  · exact absurd hu h
  · rw [if_pos hu, Int.sign_eq_one_of_pos hu, Int.one_mul, hx, Int.mul_fdiv_cancel_left x hg, e1]
theorem lo_den {a u : Int} (h : u ≠ 0) : u.fdiv (gd a u) = ((Rat.divInt a u).den : Int) := by
  have hg : (Int.gcd a u : Int) ≠ 0 := by have := Int.gcd_pos_of_ne_zero_right a h; omega
  obtain ⟨x, hx⟩ := Int.gcd_dvd_right a u
  rw [Rat.den_divInt, if_neg h, Int.gcd_comm u a, Int.natCast_ediv]
  have e0 : (u.natAbs : Int) = if 0 < u then u else -u := by split <;> omega
  rw [e0]
  unfold gd
  generalize (a.gcd u : Int) = g at *
  rcases Int.lt_trichotomy u 0 with hu | hu | hu
  · rw [if_neg (by omega), if_neg (by omega)]
    have e : u = -g * -x := by rw [Int.neg_mul_neg]; exact hx
    have e2 : -u = g * -x := by rw [Int.mul_neg, ← hx]
    rw [e2, Int.mul_ediv_cancel_left _ hg]
    conv => lhs; rw [e]
    exact Int.mul_fdiv_cancel_left (-x) (by omega)
  · exact absurd hu h
  · rw [if_pos hu, if_pos hu]
    conv => lhs; rw [hx]
    conv => rhs; rw [hx]
    rw [Int.mul_fdiv_cancel_left x hg, Int.mul_ediv_cancel_left _ hg]

/-- numerator and denominator below 10 ^ k -/
def Bd (p : Rat) (k : Nat) : Prop := p.num.natAbs < 10 ^ k ∧ p.den < 10 ^ k
theorem Bd.mono {p : Rat} {i j : Nat} (h : Bd p i) (hij : i ≤ j) : Bd p j := by
  have := Nat.pow_le_pow_right (show 0 < 10 by decide) hij
  exact ⟨Nat.lt_of_lt_of_le h.1 this, Nat.lt_of_lt_of_le h.2 this⟩
theorem nab {x : Nat} {i : Int} (h : i.natAbs < x) : -(x : Int) < i ∧ i < x := by omega
theorem Bd.num {p : Rat} {k : Nat} (h : Bd p k) (hk : k ≤ 400) : Sm p.num := by
  have := nab h.1
  rw [Int.natCast_pow] at this
  exact sm_lt hk this.1 this.2
theorem Bd.den {p : Rat} {k : Nat} (h : Bd p k) (hk : k ≤ 400) : Sm (p.den : Int) := by
  have := nab (i := (p.den : Int)) (x := 10 ^ k) (by have := h.2; omega)
  rw [Int.natCast_pow] at this
  exact sm_lt hk this.1 this.2
theorem divInt_num_le (a u : Int) : (Rat.divInt a u).num.natAbs ≤ a.natAbs := by
  rw [Rat.num_divInt]
  have h : (u.sign * a).natAbs ≤ a.natAbs := by
    rw [Int.natAbs_mul]
    have : u.sign.natAbs ≤ 1 := by
      rcases Int.lt_trichotomy u 0 with hu | hu | hu
      · rw [Int.sign_eq_neg_one_of_neg hu]; decide
      · rw [hu]; decide
      · rw [Int.sign_eq_one_of_pos hu]; decide
    calc u.sign.natAbs * a.natAbs ≤ 1 * a.natAbs := Nat.mul_le_mul_right _ this
      _ = a.natAbs := Nat.one_mul _
  refine Nat.le_trans ?_ h
  obtain ⟨x, hx⟩ : ((u.gcd a : Nat) : Int) ∣ u.sign * a := Int.dvd_mul_of_dvd_right (Int.gcd_dvd_right u a)
  by_cases hg : ((u.gcd a : Nat) : Int) = 0
  · rw [hg, Int.ediv_zero]
    exact Nat.zero_le _
  · rw [hx, Int.mul_ediv_cancel_left _ hg, Int.natAbs_mul]
    exact Nat.le_mul_of_pos_left _ (by omega)
theorem divInt_den_le {a u : Int} (h : u ≠ 0) : (Rat.divInt a u).den ≤ u.natAbs := by
  rw [Rat.den_divInt, if_neg h]
  exact Nat.div_le_self _ _
theorem bd_div {a u : Int} {k : Nat} (h : u ≠ 0) (ha : a.natAbs < 10 ^ k) (hu : u.natAbs < 10 ^ k) : Bd (Rat.divInt a u) k :=
  ⟨Nat.lt_of_le_of_lt (divInt_num_le a u) ha, Nat.lt_of_le_of_lt (divInt_den_le h) hu⟩
theorem add_eq (p q : Rat) : p + q = Rat.divInt (p.num * q.den + q.num * p.den) (p.den * q.den) := by
  have h1 : (p.den : Int) ≠ 0 := by have := p.den_nz; omega
  have h2 : (q.den : Int) ≠ 0 := by have := q.den_nz; omega
  rw [← Rat.divInt_add_divInt _ _ h1 h2, Rat.num_divInt_den, Rat.num_divInt_den]
theorem sub_eq (p q : Rat) : p - q = Rat.divInt (p.num * q.den - q.num * p.den) (p.den * q.den) := by
  have h1 : (p.den : Int) ≠ 0 := by have := p.den_nz; omega
  have h2 : (q.den : Int) ≠ 0 := by have := q.den_nz; omega
  rw [← Rat.divInt_sub_divInt _ _ h1 h2, Rat.num_divInt_den, Rat.num_divInt_den]
theorem mul_eq (p q : Rat) : p * q = Rat.divInt (p.num * q.num) (p.den * q.den) := by
  rw [← Rat.divInt_mul_divInt, Rat.num_divInt_den, Rat.num_divInt_den]
theorem neg_eq (p : Rat) : -p = Rat.divInt (-p.num) p.den := by
  rw [← Rat.neg_divInt, Rat.num_divInt_den]
theorem over_eq (p q : Rat) : p / q = Rat.divInt (p.num * q.den) (p.den * q.num) := by
  rw [Rat.div_def]
  conv => lhs; rw [← Rat.num_divInt_den p, ← Rat.num_divInt_den q]
  rw [Rat.inv_divInt, Rat.divInt_mul_divInt]
theorem den_ne (p q : Rat) : (p.den : Int) * q.den ≠ 0 := by
  have h1 := p.den_nz
  have h2 := q.den_nz
  exact Int.mul_ne_zero (by omega) (by omega)
theorem lt_mul {a b : Nat} {i j : Nat} (ha : a < 10 ^ i) (hb : b < 10 ^ j) : a * b < 10 ^ (i + j) := by
  rw [Nat.pow_add]
  exact Nat.mul_lt_mul'' ha hb
theorem bd_mul {p q : Rat} {i j : Nat} (hp : Bd p i) (hq : Bd q j) : Bd (p * q) (i + j) := by
  rw [mul_eq]
  refine bd_div (den_ne p q) ?_ ?_
  · rw [Int.natAbs_mul]; exact lt_mul hp.1 hq.1
  · rw [Int.natAbs_mul]; exact lt_mul hp.2 hq.2
theorem ten (k : Nat) : 10 ^ (k + 1) = 10 * 10 ^ k := by rw [Nat.pow_succ, Nat.mul_comm]
theorem bd_add {p q : Rat} {i j : Nat} (hp : Bd p i) (hq : Bd q j) : Bd (p + q) (i + j + 1) := by
  rw [add_eq]
  have h1 := lt_mul hp.1 hq.2
  have h2 := lt_mul hp.2 hq.1
  have h3 := lt_mul hp.2 hq.2
  have t := ten (i + j)
  refine bd_div (den_ne p q) ?_ ?_
  · have e1 : (p.num * q.den).natAbs = p.num.natAbs * q.den := by rw [Int.natAbs_mul]; rfl
    have e2 : (q.num * p.den).natAbs = p.den * q.num.natAbs := by rw [Int.natAbs_mul, Nat.mul_comm]; rfl
    have := Int.natAbs_add_le (p.num * q.den) (q.num * p.den)
    omega
  · have e : ((p.den : Int) * q.den).natAbs = p.den * q.den := by rw [Int.natAbs_mul]; rfl
    omega
theorem bd_neg {p : Rat} {i : Nat} (hp : Bd p i) : Bd (-p) i := by
  have e1 : (-p).num = -p.num := rfl
  have e2 : (-p).den = p.den := rfl
  unfold Bd
  rw [e1, e2, Int.natAbs_neg]
  exact hp
theorem bd_sub {p q : Rat} {i j : Nat} (hp : Bd p i) (hq : Bd q j) : Bd (p - q) (i + j + 1) := by
  rw [Rat.sub_eq_add_neg]
  exact bd_add hp (bd_neg hq)
theorem sm_of {i : Int} (h : i.natAbs < 10 ^ 390) : Sm i := by
  have := nab h
  rw [Int.natCast_pow] at this
  exact sm_lt (by decide) this.1 this.2
theorem sm_den2 {p q : Rat} {i j : Nat} (hp : Bd p i) (hq : Bd q j) (h : i + j ≤ 390) : Sm ((p.den : Int) * q.den) := by
  refine sm_of ?_
  have e : ((p.den : Int) * q.den).natAbs = p.den * q.den := by rw [Int.natAbs_mul]; rfl
  rw [e]
  exact Nat.lt_of_lt_of_le (lt_mul hp.2 hq.2) (Nat.pow_le_pow_right (by decide) h)
theorem sm_dn {p q : Rat} {i j : Nat} (hp : Bd p i) (hq : Bd q j) (h : i + j ≤ 390) : Sm ((p.den : Int) * q.num) := by
  refine sm_of ?_
  have e : ((p.den : Int) * q.num).natAbs = p.den * q.num.natAbs := by rw [Int.natAbs_mul]; rfl
  rw [e]
  exact Nat.lt_of_lt_of_le (lt_mul hp.2 hq.1) (Nat.pow_le_pow_right (by decide) h)
theorem rat_dec (p q : Rat) : decide (p = q) = (decide (p.num = q.num) && decide ((p.den : Int) = q.den)) := by
  rw [← Bool.decide_and]
  refine decide_eq_decide.mpr ⟨fun e => by rw [e]; exact ⟨rfl, rfl⟩, fun ⟨h1, h2⟩ => Rat.ext h1 (by omega)⟩
end MG

/-! Texts of pairs, lists of texts compared -/
namespace MG
open PySem PySem.Spec PyProof.Rows L2

theorem all_append {x y : Str} (f : Nat → Bool) : (x ++ y).cps.all f = (x.cps.all f && y.cps.all f) := by
  show (x.cps ++ y.cps).all f = _
  exact Array.all_append
theorem ok_append {x y : Str} (hx : PyData.strOk x = true) (hy : PyData.strOk y = true) : PyData.strOk (x ++ y) = true := by
  unfold PyData.strOk at *
  rw [all_append, hx, hy]
  rfl
theorem ok_of (s : String) : PyData.strOk (Str.ofString s) = true := by
  unfold PyData.strOk
  rw [← Array.all_toList, signs_ofString, List.all_map, List.all_eq_true]
  intro c _
  have h := c.valid
  refine decide_eq_true ?_
  rcases h with h | ⟨_, h⟩
  · exact Nat.lt_trans h (by decide)
  · exact h
/-- repr((a, b)) -/
def shw (a b : Int) : Str := (PyData.tuple [.int a, .int b]).shown
theorem shw_eq (a b : Int) : shw a b = tupleText [toString a, toString b] := rfl
theorem ok_shw (a b : Int) : PyData.strOk (shw a b) = true := by
  show PyData.strOk (("(" : Str) ++ (Str.ofString (toString a) ++ (", " : Str) ++ Str.ofString (toString b)) ++ (")" : Str)) = true
  exact ok_append (ok_append (ok_of _) (ok_append (ok_append (ok_of _) (ok_of _)) (ok_of _))) (ok_of _)
theorem log_sm {i : Int} (h : Sm i) : i.natAbs.log2 < 1920 := Nat.lt_of_lt_of_le (PySem.Flt.log2_lt_of (by decide) h.abs) (by decide)
theorem txt_len {i : Int} (h : Sm i) : (Str.ofString (toString i)).length ≤ 1921 := by
  rw [PySem.ofString_length]
  exact int_text_length_le (k := 1920) (by decide) (log_sm h)
theorem shw_len {a b : Int} (ha : Sm a) (hb : Sm b) : (shw a b).length ≤ 4000 := by
  have h := tupleText_len_le [Str.ofString (toString a), Str.ofString (toString b)]
  have h1 := txt_len ha
  have h2 := txt_len hb
  simp only [List.map_cons, List.map_nil, List.sum_cons, List.sum_nil, List.length_cons, List.length_nil] at h
  have e : shw a b = tupleText [Str.ofString (toString a), Str.ofString (toString b)] := rfl
  rw [e]
  omega
theorem pair_ok {K : PySem.W.Frag} {H : Hp} {t : Addr} {a b : Int} (h : SqT K H t [.int a, .int b]) (ha : Sm a) (hb : Sm b) : Dp K H (.ref t) (.tuple [.int a, .int b]) ∧ (PyData.tuple [.int a, .int b]).showable = true ∧
    (PyData.tuple [.int a, .int b]).hasDict = false ∧ (PyData.tuple [.int a, .int b]).depth ≤ 60 ∧ (PyData.tuple [.int a, .int b]).shown.length ≤ sizeLine := by
  refine ⟨.tup h (.cons (.int a) (.cons (.int b) .nil)), ?_, rfl, ?_, ?_⟩
  · simp [PyData.showable, PyData.showableAll, log_sm ha, log_sm hb]
  · simp [PyData.depth, PyData.depthAll]
  · exact Nat.le_trans (shw_len ha hb) (by decide)
/-- the same, the data unnamed -/
theorem pair_ex {K : PySem.W.Frag} {H : Hp} {t : Addr} {a b : Int} (h : SqT K H t [.int a, .int b]) (ha : Sm a) (hb : Sm b) : ∃ d, Dp K H (.ref t) d ∧ d.showable = true ∧ d.hasDict = false ∧ d.depth ≤ 60 ∧ d.shown.length ≤ sizeLine ∧ d.shown = shw a b := by
  obtain ⟨r1, r2, r3, r4, r5⟩ := pair_ok h ha hb
  exact ⟨_, r1, r2, r3, r4, r5, rfl⟩
/-- what repr of a pair of ints asks -/
theorem repr_pair {K : PySem.W.Frag} {H : Hp} {t : Addr} {a b : Int} {Q : VK} (h : SqT K H t [.int a, .int b]) (ha : Sm a) (hb : Sm b) (k : Q (.str (shw a b)) H) : rRepr K [.ref t] H Q := by
  refine ⟨.ref t, .tuple [.int a, .int b], rfl, .tup h (.cons (.int a) (.cons (.int b) .nil)), ?_, rfl, ?_, ?_, k⟩
  · simp [PyData.showable, PyData.showableAll, log_sm ha, log_sm hb]
  · simp [PyData.depth, PyData.depthAll]
  · exact Nat.le_trans (shw_len ha hb) (by decide)
theorem dp_strs {K : PySem.W.Frag} {H : Hp} {a : Addr} {ss : List Str} (h : SqL K H a (ss.map V.str)) : Dp K H (.ref a) (.list (ss.map .str)) := by
  refine .lst h ?_
  induction ss with
  | nil => exact .nil
  | cons s ss ih => exact .cons (.str s) (all_dp ss)
where all_dp : ∀ ss : List Str, DpAll K H (ss.map V.str) (ss.map PyData.str)
  | [] => .nil
  | s :: ss => .cons (.str s) (all_dp ss)
theorem sh_strs {ss : List Str} (h : ∀ s ∈ ss, PyData.strOk s = true) : SeqAt.shaped (.list (ss.map .str)) = true := by
  unfold SeqAt.shaped
  rw [Bool.and_eq_true]
  refine ⟨?_, ?_⟩
  · show PyData.canLayAll0 (ss.map .str) = true
    rw [canLayAll_strs', List.all_eq_true]
    exact h
  · refine decide_eq_true ?_
    show PyData.depthAll (ss.map .str) + 1 ≤ 64
    rw [depthAll_strs']
    decide
/-- two lists of the same texts -/
theorem ne_strs {K : PySem.W.Frag} {H : Hp} {a b : Addr} {ss : List Str} {Q : VK} (ha : SqL K H a (ss.map V.str)) (hb : SqL K H b (ss.map V.str)) (h : ∀ s ∈ ss, PyData.strOk s = true) (k : Q (.bl false) H) : rNeD K (.ref a) (.ref b) H Q := by
  have sh := sh_strs h
  refine ⟨_, _, dp_strs ha, dp_strs hb, sh, sh, ?_⟩
  have e := SeqAt.eqv_refl (.list (ss.map .str)) (SeqAt.canLay_of_shaped sh)
  rw [e]
  exact k
theorem eq_strs {K : PySem.W.Frag} {H : Hp} {a b : Addr} {ss : List Str} {Q : VK} (ha : SqL K H a (ss.map V.str)) (hb : SqL K H b (ss.map V.str)) (h : ∀ s ∈ ss, PyData.strOk s = true) (k : Q (.bl true) H) : rEqD K (.ref a) (.ref b) H Q := by
  have sh := sh_strs h
  refine ⟨_, _, dp_strs ha, dp_strs hb, sh, sh, ?_⟩
  have e := SeqAt.eqv_refl (.list (ss.map .str)) (SeqAt.canLay_of_shaped sh)
  rw [e]
  exact k
end MG

namespace Lw
open PySem PySem.Spec PyProof.Rows L2 MG
def top (i : Nat) : Stmt := PySem.Challenge.pw_matrixforms_k11_letters_made.main.body.getD i (.Pass ⟨0, 0, 0, 0⟩)
abbrev s__law_purse : Stmt := top 68
abbrev s__law_draw : Stmt := top 69
abbrev s__law_great : Stmt := top 70
abbrev s__law_common : Stmt := top 71
abbrev s__law_lowest : Stmt := top 72
abbrev s__law_from : Stmt := top 76
structure Blt (mg : Str → Option Value) : Prop where
  b_int : mg "int" = none
  b_len : mg "len" = none
  b_abs : mg "abs" = none
  b_range : mg "range" = none
  b_max : mg "max" = none
  b_min : mg "min" = none
  b_all : mg "all" = none
  b_repr : mg "repr" = none
  b_isinstance : mg "isinstance" = none
  b_bool : mg "bool" = none
  b_str : mg "str" = none
  b_any : mg "any" = none
  b_tuple : mg "tuple" = none
  b_list : mg "list" = none
  b_sum : mg "sum" = none
  b_zip : mg "zip" = none
  b_enumerate : mg "enumerate" = none

/-- the cells, the next one, what is left of the last one, the turns -/
structure QAt (H : Hp) (q : Addr) (n : Nat) : Prop where
  ex : ∃ (c : Addr) (ns : List Int) (i r t : Int), H q = some (.lst [.ref c, .int i, .int r, .int t]) ∧ H c = some (.lst (ns.map V.int)) ∧
    (∀ z ∈ ns, 0 ≤ z ∧ z < 10 ^ 120) ∧ ns.length ≤ 100000 ∧ (0 ≤ i ∧ i ≤ n) ∧ (0 ≤ r ∧ r < 10 ^ 120) ∧ (0 ≤ t ∧ t ≤ n)
def spDraw : Sp := fun vs H Q _ => ∃ (q : Addr) (m : Int) (n : Nat), vs = [.ref q, .int m] ∧ QAt H q n ∧ n ≤ 100000 ∧ 0 < m ∧ m < 10 ^ 30 ∧
  ∀ (r : Int) (H' : Hp), 0 ≤ r → r < m → Keep q H H' → QAt H' q (n + 1) → Q (.int r) H'
theorem cells_ne {H : Hp} {q c : Addr} {ns : List Int} {i r t : Int} (hq : H q = some (.lst [.ref c, .int i, .int r, .int t])) (hc : H c = some (.lst (ns.map V.int))) : c ≠ q :=
  ne_of hc hq (by
    intro e
    have e2 := HO.lst.inj e
    cases ns with
    | nil => cases e2
    | cons a b => cases e2)
def primes : List Int := [1000003, 1299709, 2750159, 3497861, 4256233, 5800079, 6700417, 7368787, 8460041, 9576901, 15485863]
theorem primes_ok {z : Int} (h : z ∈ primes) : 0 < z ∧ z ≤ 15485863 := by
  simp only [primes, List.mem_cons, List.not_mem_nil, or_false] at h
  omega
theorem prime_at {i : Int} (h0 : 0 ≤ i) (h : i < 11) : ∃ z, atI ([.int 1000003, .int 1299709, .int 2750159, .int 3497861, .int 4256233, .int 5800079, .int 6700417, .int 7368787, .int 8460041, .int 9576901, .int 15485863] : List V) i = some (.int z) ∧ 0 < z ∧ z ≤ 15485863 := by
  obtain ⟨z, hz, e⟩ := at_ints (l := primes) h0 (by show i < 11; exact h)
  exact ⟨z, e, primes_ok hz⟩
section
variable {P : Program} {w : World} {K : PySem.W.Frag} {mg : Str → Option Value} {base : Heap}
theorem sc__law_draw : FnScope ["_law_q", "_law_many", "_law_digit", "_law_cells", "_law_cell", "_law_turn", "_law_primes", "_law_blend"] ["_law_q", "_law_many"] (defScope s__law_draw) := ⟨rfl, rfl, rfl, by decide +kernel, rfl, by decide +kernel, by decide +kernel⟩
theorem ok_draw {f : Addr} {fd : FuncData} (F : Fun K "_law_draw" "_law_draw" s__law_draw f fd) (T : Blt mg) : FnG P w K mg base CX0 2 f fd ["_law_q", "_law_many"] spDraw := by
  refine fun_okG F sc__law_draw (fun vs H Q E h => ?_) (fun cdv A outer s H vs Q E bare hr h => ?_)
  · obtain ⟨q, m, n, rfl, _⟩ := h
    rfl
  · obtain ⟨q, m, n, rfl, ⟨c, ns, i, r, t, hq, hc, hz, hl, ⟨hi0, hi⟩, ⟨hr0, hr1⟩, ⟨ht0, ht⟩⟩, hn, hm0, hm, k⟩ := h
    have ncq := cells_ne hq hc
    have smm : Sm m := sm_lt (k := 30) (by decide) (by omega) hm
    refine ⟨_, (pss_cons (ps_if (pt_cmpR op_gt (pe_ix (ix_listK (K := K)) (pv 0) pe_int (fun _ _ => rfl)) pe_int (nomark _)) (pss_cons (ps_set (i := 2) sc__law_draw.nd rfl (Or.inl rfl) (pe_op op_modN (pe_callTy call_int1 (by rfl) T.b_int (by decide +kernel) (pa_cons (pe_ix (ix_listK (K := K)) (pv 0) pe_int (fun _ _ => rfl)) pa_nil)) (pv 1)))
  (pss_cons (ps_asg (pe_op op_fdivZ (pe_ix (ix_listK (K := K)) (pv 0) pe_int (fun _ _ => rfl)) (pv 1)) (pg_sub (pv 0) pe_int set_list))
  (pss_one (ps_ret (pv 2)))))
  pss_nil)
  (pss_cons (ps_set (i := 3) sc__law_draw.nd rfl (Or.inl rfl) (pe_cut (pe_ifExp (pt_truth (pe_ix (ix_listK (K := K)) (pv 0) pe_int (fun _ _ => rfl)) (by intro _; rfl)) (pe_ix (ix_listK (K := K)) (pv 0) pe_int (fun _ _ => rfl)) (pe_lst (pa_cons pe_int pa_nil)))))
  (pss_cons (ps_set (i := 4) sc__law_draw.nd rfl (Or.inl rfl) (pe_ix (ix_listK (K := K)) (pv 3) (pe_op op_modN (pe_callTy call_int1 (by rfl) T.b_int (by decide +kernel) (pa_cons (pe_ix (ix_listK (K := K)) (pv 0) pe_int (fun _ _ => rfl)) pa_nil)) (pe_callB (id := "len") call_len_seq (by rfl) T.b_len (by decide +kernel) (pa_cons (pv 3) pa_nil))) (fun _ _ => rfl)))
  (pss_cons (ps_asg (pe_op op_add (pe_ix (ix_listK (K := K)) (pv 0) pe_int (fun _ _ => rfl)) pe_int) (pg_sub (pv 0) pe_int set_list))
  (pss_cons (ps_if (pt_cmpR op_ge (pv 4) (pe_op op_pow pe_int pe_int) (nomark _)) (pss_cons (ps_asg (pe_op op_fdivZ (pv 4) (pv 1)) (pg_sub (pv 0) pe_int set_list))
  (pss_one (ps_ret (pe_op op_modN (pe_callTy call_int1 (by rfl) T.b_int (by decide +kernel) (pa_cons (pv 4) pa_nil)) (pv 1)))))
  pss_nil)
  (pss_cons (ps_set (i := 5) sc__law_draw.nd rfl (Or.inl rfl) (pe_ix (ix_listK (K := K)) (pv 0) pe_int (fun _ _ => rfl)))
  (pss_cons (ps_asg (pe_op op_add (pv 5) pe_int) (pg_sub (pv 0) pe_int set_list))
  (pss_cons (ps_set (i := 6) sc__law_draw.nd rfl (Or.inl rfl) (pe_lst (pa_cons pe_int (pa_cons pe_int (pa_cons pe_int (pa_cons pe_int (pa_cons pe_int (pa_cons pe_int (pa_cons pe_int (pa_cons pe_int (pa_cons pe_int (pa_cons pe_int (pa_cons pe_int pa_nil)))))))))))))
  (pss_cons (ps_set (i := 7) sc__law_draw.nd rfl (Or.inl rfl) (pe_op op_modN (pe_callTy call_int1 (by rfl) T.b_int (by decide +kernel) (pa_cons (pe_op op_add (pe_op op_mulW (pe_op op_add (pv 4) pe_int) pe_int) (pe_op op_mulW (pe_op op_mulW (pe_op op_add (pv 5) pe_int) (pe_op op_add (pv 5) pe_int)) pe_int)) pa_nil)) (pe_ix (ix_listK (K := K)) (pv 6) (pe_op op_modN (pe_callTy call_int1 (by rfl) T.b_int (by decide +kernel) (pa_cons (pv 5) pa_nil)) pe_int) (fun _ _ => rfl))))
  (pss_cons (ps_set (i := 7) sc__law_draw.nd rfl (Or.inl rfl) (pe_op op_modN (pe_callTy call_int1 (by rfl) T.b_int (by decide +kernel) (pa_cons (pe_op op_add (pe_op op_pow (pv 7) pe_int) (pe_op op_mulW (pv 5) pe_int)) pa_nil)) pe_int))
  (pss_one (ps_ret (pe_op op_modN (pe_callTy call_int1 (by rfl) T.b_int (by decide +kernel) (pa_cons (pe_op op_fdivZ (pv 7) pe_int) pa_nil)) (pv 1)))))))))))))), ?_⟩
    -- if q[2] > 0
    refine ⟨_, rfl, q, _, _, _, rfl, rfl, SqL.of hq, rfl, _, _, rfl, rfl, _, rfl, ?_⟩
    refine ite2 (fun hpos => ?_) (fun hpos => ?_)
    · -- digit = int(q[2]) % many; q[2] = q[2] // many; return digit
      refine ⟨_, rfl, q, _, _, _, rfl, rfl, SqL.of hq, rfl, Or.inl ⟨_, rfl, _, rfl, _, _, rfl, rfl, by omega, ?_⟩⟩
      refine ⟨_, rfl, q, _, _, _, rfl, rfl, SqL.of hq, rfl, _, rfl, _, _, rfl, rfl, sm_div smm (by omega), ?_⟩
      refine ⟨_, rfl, q, _, _, _, rfl, rfl, hq, rfl, ?_⟩
      refine ⟨_, rfl, ?_⟩
      refine k _ _ (fmod_ge hm0) (fmod_lt hm0) (Keep.refl.upd hq) ⟨c, ns, i, _, t, upd_same, ?_, hz, hl, ⟨hi0, by omega⟩, ⟨fdiv_ge hr0 hm0, Int.lt_of_le_of_lt (fdiv_le hr0 hm0) hr1⟩, ⟨ht0, by omega⟩⟩
      rw [upd_ne ncq]
      exact hc
    · -- cells = q[0] if q[0] else [0]
      refine ⟨fun v H' => ∃ (c' : Addr) (ns' : List Int), v = .ref c' ∧ H' c' = some (.lst (ns'.map V.int)) ∧ ns' ≠ [] ∧ ns'.length ≤ 100000 ∧ (∀ z ∈ ns', 0 ≤ z ∧ z < 10 ^ 120) ∧ c' ≠ q ∧ Same H H', ?_, ?_⟩
      · refine ⟨_, rfl, q, _, _, _, rfl, rfl, SqL.of hq, rfl, _, Or.inl ⟨_, SqL.of hc, rfl⟩, ?_⟩
        cases ns with
        | nil =>
          refine iteF ?_
          refine ⟨by show 1 ≤ sizeLine; decide, fun p hp => ?_⟩
          refine ⟨p, [0], rfl, upd_same, by simp, by decide, by decide, ?_, MG.Same.new (Same.refl H) hp⟩
          exact (ne_of_none hq hp).symm
        | cons z ns =>
          refine iteT ?_
          exact ⟨_, rfl, q, _, _, _, rfl, rfl, SqL.of hq, rfl, c, z :: ns, rfl, hc, by simp, hl, hz, ncq, Same.refl H⟩
      rintro v H1 ⟨c', ns', rfl, hc', hne, hl', hz', ncq', s1⟩
      have hq1 := s1 _ _ hq
      have hlen : 0 < (ns'.length : Int) := by
        have : 0 < ns'.length := List.length_pos_iff.mpr hne
        omega
      -- cell = cells[int(q[1]) % len(cells)]
      have hlm : ((ns'.map V.int).length : Int) = ns'.length := by rw [List.length_map]
      obtain ⟨z, hzm, ez⟩ := at_ints (l := ns') (i := i.fmod ((ns'.map V.int).length : Int)) (fmod_ge (by omega)) (by rw [hlm]; exact fmod_lt hlen)
      obtain ⟨z0, z1⟩ := hz' z hzm
      refine ⟨_, rfl, _, rfl, q, _, _, _, rfl, rfl, SqL.of hq1, rfl, Or.inl ⟨_, rfl, _, rfl, c', _, rfl, Or.inl (SqL.of hc'), _, _, rfl, rfl, by omega, ?_⟩⟩
      refine ⟨c', _, _, _, rfl, rfl, SqL.of hc', ez, ?_⟩
      -- q[1] = q[1] + 1
      refine ⟨_, rfl, q, _, _, _, rfl, rfl, SqL.of hq1, rfl, _, _, rfl, rfl, ?_⟩
      refine ⟨_, rfl, q, _, _, _, rfl, rfl, hq1, rfl, ?_⟩
      -- if cell >= 10 ** 18
      refine ⟨_, rfl, _, _, rfl, rfl, ⟨by decide, by decide, by decide⟩, _, _, rfl, rfl, _, rfl, ?_⟩
      have smz : Sm z := sm_lt (k := 120) (by decide) (by omega) z1
      have nc1 : ∀ {o : HO}, upd H1 q o c = some (.lst (ns.map V.int)) := fun {o} => by rw [upd_ne ncq]; exact s1 _ _ hc
      refine ite2 (fun hbig => ?_) (fun hbig => ?_)
      · refine ⟨_, rfl, _, rfl, _, _, rfl, rfl, sm_div smm (by omega), ?_⟩
        refine ⟨_, rfl, q, _, _, _, rfl, rfl, upd_same, rfl, ?_⟩
        refine ⟨_, rfl, Or.inl ⟨_, rfl, _, rfl, _, _, rfl, rfl, by omega, ?_⟩⟩
        refine k _ _ (fmod_ge hm0) (fmod_lt hm0) (((Same.keep s1).upd hq).upd hq) ⟨c, ns, _, _, t, upd_same, ?_, hz, hl, ⟨by omega, by omega⟩, ⟨fdiv_ge z0 hm0, Int.lt_of_le_of_lt (fdiv_le z0 hm0) z1⟩, ⟨ht0, by omega⟩⟩
        rw [upd_ne ncq]
        exact nc1
      · -- turn = q[3]; q[3] = turn + 1
        refine ⟨_, rfl, q, _, _, _, rfl, rfl, SqL.of upd_same, rfl, ?_⟩
        refine ⟨_, rfl, _, _, rfl, rfl, ?_⟩
        refine ⟨_, rfl, q, _, _, _, rfl, rfl, upd_same, rfl, ?_⟩
        -- primes
        refine ⟨by show 11 ≤ sizeLine; decide, fun p hp => ?_⟩
        have hp' : H1 p = none := by
          have npq : p ≠ q := fun e => by rw [e, upd_same] at hp; cases hp
          rw [upd_ne npq, upd_ne npq] at hp
          exact hp
        -- blend = int((cell + 1) * 48271 + (turn + 1) * (turn + 7) * 69621) % primes[int(turn) % 11]
        obtain ⟨y, ey, y0, y1⟩ := prime_at (i := t.fmod 11) (fmod_ge (by decide)) (fmod_lt (by decide))
        have st : ∀ a : Int, 0 ≤ a → a ≤ 1000000 → Sm a := fun a h0 h1 => sm_lt (k := 7) (by decide) (by omega) (by omega)
        have hm1 : Sm ((t + 1) * (t + 7)) := by
          have h1 : (t + 1) * (t + 7) ≤ 200000 * 200000 := Int.mul_le_mul (by omega) (by omega) (by omega) (by omega)
          have h2 : 0 ≤ (t + 1) * (t + 7) := Int.mul_nonneg (by omega) (by omega)
          exact sm_lt (k := 20) (by decide) (by omega) (by omega)
        refine ⟨_, rfl, _, _, rfl, rfl, _, _, rfl, rfl, sm_mul (sm_lt (k := 121) (by decide) (by omega) (by omega)) (st _ (by decide) (by decide)), ?_⟩
        refine ⟨_, rfl, _, _, rfl, rfl, _, rfl, _, _, rfl, rfl, _, _, rfl, rfl, sm_mul (st _ (by omega) (by omega)) (st _ (by omega) (by omega)), _, _, rfl, rfl, sm_mul hm1 (st _ (by decide) (by decide)), ?_⟩
        refine ⟨_, _, rfl, rfl, Or.inl ⟨_, rfl, ?_⟩⟩
        refine ⟨_, rfl, _, rfl, Or.inl ⟨_, rfl, _, _, rfl, rfl, (show (11 : Int) ≠ 0 by decide), p, _, _, _, rfl, rfl, SqL.of upd_same, ey, _, _, rfl, rfl, by omega, ?_⟩⟩
        -- blend = int(blend ** 3 + turn * 40503) % 2147483647
        have b0 := fmod_ge (x := (z + 1) * 48271 + (t + 1) * (t + 7) * 69621) y0
        have b1 := fmod_lt (x := (z + 1) * 48271 + (t + 1) * (t + 7) * 69621) y0
        refine ⟨_, rfl, _, _, rfl, rfl, ⟨by decide, by decide, ?_⟩, _, rfl, _, _, rfl, rfl, sm_mul (st _ (by omega) (by omega)) (st _ (by decide) (by decide)), _, _, rfl, rfl, Or.inl ⟨_, rfl, _, _, rfl, rfl, (show (2147483647 : Int) ≠ 0 by decide), ?_⟩⟩
        · show ((((z + 1) * 48271 + (t + 1) * (t + 7) * 69621).fmod y).natAbs < 2 ^ 64)
          generalize ((z + 1) * 48271 + (t + 1) * (t + 7) * 69621).fmod y = b at *
          omega
        -- return int(blend // 32) % many
        refine ⟨_, rfl, _, _, rfl, rfl, ⟨by decide, by decide⟩, Or.inl ⟨_, rfl, _, rfl, _, _, rfl, rfl, by omega, ?_⟩⟩
        refine k _ _ (fmod_ge hm0) (fmod_lt hm0) ((((Same.keep s1).upd hq).upd hq).new hp) ⟨c, ns, i + 1, r, t + 1, ?_, ?_, hz, hl, ⟨by omega, by omega⟩, ⟨hr0, hr1⟩, ⟨by omega, by omega⟩⟩
        · rw [upd_ne (fun e => by rw [← e, upd_same] at hp; cases hp)]
          exact upd_same
        · rw [upd_ne (ne_of_none (s1 _ _ hc) hp'), upd_ne ncq]
          exact nc1

theorem QAt.keep {H H' : Hp} {q : Addr} {n : Nat} (h : QAt H q n) (s : Same H H') : QAt H' q n := by
  obtain ⟨c, ns, i, r, t, hq, hc, h⟩ := h
  exact ⟨c, ns, i, r, t, s _ _ hq, s _ _ hc, h⟩
theorem QAt.at_ {H : Hp} {q : Addr} {n : Nat} (h : QAt H q n) : ∃ o, H q = some o := by
  obtain ⟨c, ns, i, r, t, hq, hc, h⟩ := h
  exact ⟨_, hq⟩
theorem QAt.ne {H : Hp} {q p : Addr} {n : Nat} (h : QAt H q n) (hp : H p = none) : p ≠ q := by
  obtain ⟨o, e⟩ := h.at_
  exact (ne_of_none e hp).symm
theorem QAt.new {H : Hp} {q p : Addr} {n : Nat} {o : HO} (h : QAt H q n) (hp : H p = none) : QAt (upd H p o) q n := h.keep (MG.Same.new (Same.refl H) hp)

abbrev DrawC (P : Program) (w : World) (K : PySem.W.Frag) (mg : Str → Option Value) (base : Heap) : Prop := CalG P w K mg base 2 "_law_draw" spDraw []
theorem signs_ok : ∀ z ∈ ([1, -1] : List Int), z = 1 ∨ z = -1 := by decide
/-! ### _law_great -/
def spGreat : Sp := fun vs H Q _ => ∃ (q : Addr) (n : Nat), vs = [.ref q] ∧ QAt H q n ∧ n + 3 ≤ 100000 ∧
  ∀ (z : Int) (H' : Hp), -(10 ^ 42) < z → z < 10 ^ 42 → Keep q H H' → QAt H' q (n + 3) → Q (.int z) H'
def fars : List Int := [1, 1, 10, 10 ^ Int.toNat 3, 10 ^ Int.toNat 9, 10 ^ Int.toNat 20, 10 ^ Int.toNat 39]
theorem fars_ok : ∀ z ∈ fars, 1 ≤ z ∧ z ≤ 10 ^ 39 := by decide +kernel
theorem sc__law_great : FnScope ["_law_q", "_law_far"] ["_law_q"] (defScope s__law_great) := ⟨rfl, rfl, rfl, by decide +kernel, rfl, by decide +kernel, by decide +kernel⟩
theorem ok_great {f : Addr} {fd : FuncData} (F : Fun K "_law_great" "_law_great" s__law_great f fd) (T : Blt mg) (c_draw : DrawC P w K mg base) : FnG P w K mg base CX0 4 f fd ["_law_q"] spGreat := by
  refine fun_okG F sc__law_great (fun vs H Q E h => ?_) (fun cdv A outer s H vs Q E bare hr h => ?_)
  · obtain ⟨q, n, rfl, _⟩ := h
    rfl
  · obtain ⟨q, n, rfl, hq, hn, k⟩ := h
    refine ⟨_, (pss_cons (ps_set (i := 1) sc__law_great.nd rfl (Or.inl rfl) (pe_ix (ix_listK (K := K)) (pe_lst (pa_cons pe_int (pa_cons pe_int (pa_cons pe_int (pa_cons (pe_op op_pow pe_int pe_int) (pa_cons (pe_op op_pow pe_int pe_int) (pa_cons (pe_op op_pow pe_int pe_int) (pa_cons (pe_op op_pow pe_int pe_int) pa_nil)))))))) (pe_cg c_draw bare hr (by decide) rfl (pa_cons (pv 0) (pa_cons pe_int pa_nil))) (fun _ _ => rfl)))
  (pss_one (ps_ret (pe_op op_mulW (pe_ix (ix_listK (K := K)) (pe_lst (pa_cons pe_int (pa_cons (pe_un un_neg pe_int) pa_nil))) (pe_cg c_draw bare hr (by decide) rfl (pa_cons (pv 0) (pa_cons pe_int pa_nil))) (fun _ _ => rfl)) (pe_op op_add (pe_op op_sub (pv 1) pe_int) (pe_op op_mulW (pe_cg c_draw bare hr (by decide) rfl (pa_cons (pv 0) (pa_cons pe_int pa_nil))) (pe_op op_add (pe_op op_fdivZ (pv 1) pe_int) pe_int))))))), ?_⟩
    refine ⟨_, _, rfl, rfl, ⟨by decide, by decide, by decide⟩, _, _, rfl, rfl, ⟨by decide, by decide, by decide⟩, _, _, rfl, rfl, ⟨by decide, by decide, by decide⟩, _, _, rfl, rfl, ⟨by decide, by decide, by decide⟩, by show 7 ≤ sizeLine; decide, fun p hp => ?_⟩
    refine ⟨_, rfl, q, 7, n, rfl, hq.new hp, by omega, by decide, by decide, fun r H1 r0 r1 k1 q1 => ?_⟩
    obtain ⟨y, hy, ey⟩ := at_ints (l := fars) r0 (by show r < 7; exact r1)
    obtain ⟨y0, y1⟩ := fars_ok y hy
    refine ⟨p, _, _, _, rfl, rfl, SqL.of (k1 _ _ upd_same (hq.ne hp)), ey, ?_⟩
    refine ⟨_, rfl, by show 2 ≤ sizeLine; decide, fun p2 hp2 => ?_⟩
    refine ⟨_, rfl, q, 2, n + 1, rfl, q1.new hp2, by omega, by decide, by decide, fun r2 H2 r20 r21 k2 q2 => ?_⟩
    obtain ⟨e, he, ee⟩ := at_ints (l := [1, -1]) r20 (by show r2 < 2; exact r21)
    have he' := signs_ok e he
    refine ⟨p2, _, _, _, rfl, rfl, SqL.of (k2 _ _ upd_same (q1.ne hp2)), ee, ?_⟩
    refine ⟨_, rfl, _, _, rfl, rfl, _, rfl, q, 60, n + 2, rfl, q2, by omega, by decide, by decide, fun r3 H3 r30 r31 k3 q3 => ?_⟩
    have d0 := fdiv_ge (x := y) (m := 7) (by omega) (by decide)
    have d1 := fdiv_le (x := y) (m := 7) (by omega) (by decide)
    have p0 : 0 ≤ r3 * (y.fdiv 7 + 1) := Int.mul_nonneg r30 (by omega)
    have p1 : r3 * (y.fdiv 7 + 1) ≤ 60 * (10 ^ 39 + 1) := Int.mul_le_mul (by omega) (by omega) (by omega) (by omega)
    refine ⟨_, rfl, _, _, rfl, rfl, ⟨by decide, by decide⟩, _, _, rfl, rfl, _, _, rfl, rfl, sm_mul (sm_lt (k := 3) (by decide) (by omega) (by omega)) (sm_lt (k := 42) (by decide) (by omega) (by omega)), ?_⟩
    refine ⟨_, _, rfl, rfl, _, _, rfl, rfl, sm_mul (sm_lt (k := 3) (by decide) (by omega) (by omega)) (sm_lt (k := 42) (by decide) (by omega) (by omega)), ?_⟩
    have kk : Keep q H H3 := ((Keep.refl.new hp).trans k1).trans ((Keep.refl.new hp2).trans (k2.trans k3))
    generalize r3 * (y.fdiv 7 + 1) = g at *
    refine k _ H3 ?_ ?_ kk q3
    · rcases he' with rfl | rfl <;> omega
    · rcases he' with rfl | rfl <;> omega

/-! ### _law_common, _law_lowest -/
def spCommon : Sp := fun vs H Q _ => ∃ a b : Int, vs = [.int a, .int b] ∧ Q (.int (Int.gcd a b : Nat)) H
theorem gcd_step {x y : Nat} : Nat.gcd y (x % y) = Nat.gcd x y := by
  rw [Nat.gcd_comm x y, Nat.gcd_rec y x, Nat.gcd_comm]
theorem sc__law_common : FnScope ["_law_one", "_law_two", "_law_high", "_law_low"] ["_law_one", "_law_two"] (defScope s__law_common) := ⟨rfl, rfl, rfl, by decide +kernel, rfl, by decide +kernel, by decide +kernel⟩
theorem ok_common {f : Addr} {fd : FuncData} (F : Fun K "_law_common" "_law_common" s__law_common f fd) (T : Blt mg) : FnG P w K mg base CX0 2 f fd ["_law_one", "_law_two"] spCommon := by
  refine fun_okG F sc__law_common (fun vs H Q E h => ?_) (fun cdv A outer s H vs Q E bare hr h => ?_)
  · obtain ⟨a, b, rfl, _⟩ := h
    rfl
  · obtain ⟨a, b, rfl, k⟩ := h
    refine ⟨_, (pss_cons (ps_par (i := 2) (j := 3) (by rfl) sc__law_common.nd rfl rfl (by decide) rfl rfl (pa_cons (pe_callB (id := "abs") call_abs (by rfl) T.b_abs (by decide +kernel) (pa_cons (pv 0) pa_nil)) (pa_cons (pe_callB (id := "abs") call_abs (by rfl) T.b_abs (by decide +kernel) (pa_cons (pv 1) pa_nil)) pa_nil)) (by rfl))
  (pss_cons (ps_while PassesOwn.never (pt_cmpR op_gt (pv 3) pe_int (nomark _)) (pss_one (ps_par (i := 2) (j := 3) (by rfl) sc__law_common.nd rfl rfl (by decide) rfl rfl (pa_cons (pv 3) (pa_cons (pe_op op_modN (pe_callTy call_int1 (by rfl) T.b_int (by decide +kernel) (pa_cons (pv 2) pa_nil)) (pv 3)) pa_nil)) (by rfl))))
  (pss_one (ps_ret (pv 2))))), ?_⟩
    refine ⟨_, rfl, _, rfl, _, rfl, _, rfl, _, _, rfl, ?_⟩
    refine while_by (fun σ H' => H' = H ∧ ∃ x y : Nat, σ = [some (.int a), some (.int b), some (.int x), some (.int y)] ∧ Nat.gcd x y = Int.gcd a b) (fun (σ : L2.St) (_ : Hp) => match σ[3]? with | some (some (V.int y)) => y.toNat | _ => 0) ?_ ?_ ?_
    · refine ⟨rfl, a.natAbs, b.natAbs, ?_, rfl⟩
      have e : ∀ z : Int, (if z < 0 then -z else z) = (z.natAbs : Int) := fun z => by split <;> omega
      show [some (V.int a), some (V.int b), some (V.int (if a < 0 then -a else a)), some (V.int (if b < 0 then -b else b))] = _
      rw [e, e]
    · rintro σ H' ⟨rfl, x, y, rfl, hg⟩
      refine ⟨_, rfl, _, _, rfl, rfl, _, rfl, ?_⟩
      refine ite2 (fun hy => ?_) (fun hy => ?_)
      · have hy' : 0 < (y : Int) := of_decide_eq_true hy
        refine ⟨_, rfl, _, rfl, Or.inl ⟨_, rfl, _, rfl, _, _, rfl, rfl, by omega, _, _, rfl, ?_⟩⟩
        have e : (x : Int).fmod (y : Int) = ((x % y : Nat) : Int) := by
          rw [Int.fmod_eq_emod_of_nonneg (x : Int) (by omega)]
          exact (Int.natCast_emod x y).symm
        refine ⟨⟨rfl, y, x % y, ?_, gcd_step.trans hg⟩, ?_⟩
        · show [some (V.int a), some (V.int b), some (V.int (y : Int)), some (V.int ((x : Int).fmod (y : Int)))] = _
          rw [e]
        · show ((x : Int).fmod (y : Int)).toNat < (y : Int).toNat
          have h1 := fmod_lt (x := (x : Int)) hy'
          omega
      · have hy' : ¬ 0 < (y : Int) := fun z => hy (decide_eq_true z)
        have y0 : y = 0 := by omega
        subst y0
        refine ⟨_, rfl, ?_⟩
        rw [Nat.gcd_zero_right] at hg
        rw [hg]
        exact k
    · rintro σ H' Q1 Q2 hq ⟨v, e, i, j, e1, e2, b', e3, q⟩
      exact ⟨v, e, i, j, e1, e2, b', e3, hq _ _ q⟩
abbrev CommonC (P : Program) (w : World) (K : PySem.W.Frag) (mg : Str → Option Value) (base : Heap) : Prop := CalG P w K mg base 2 "_law_common" spCommon []
def spLowest : Sp := fun vs H Q _ => ∃ a u : Int, vs = [.int a, .int u] ∧ u ≠ 0 ∧ Sm u ∧
  ∀ p, H p = none → Q (.ref p) (upd H p (.tup [.int (Rat.divInt a u).num, .int (Rat.divInt a u).den]))
theorem sc__law_lowest : FnScope ["_law_high", "_law_under", "_law_both"] ["_law_high", "_law_under"] (defScope s__law_lowest) := ⟨rfl, rfl, rfl, by decide +kernel, rfl, by decide +kernel, by decide +kernel⟩
theorem ok_lowest {f : Addr} {fd : FuncData} (F : Fun K "_law_lowest" "_law_lowest" s__law_lowest f fd) (c_common : CommonC P w K mg base) : FnG P w K mg base CX0 4 f fd ["_law_high", "_law_under"] spLowest := by
  refine fun_okG F sc__law_lowest (fun vs H Q E h => ?_) (fun cdv A outer s H vs Q E bare hr h => ?_)
  · obtain ⟨a, b, rfl, _⟩ := h
    rfl
  · obtain ⟨a, u, rfl, hu, su, k⟩ := h
    refine ⟨_, (pss_cons (ps_set (i := 2) sc__law_lowest.nd rfl (Or.inl rfl) (pe_cut (pe_ifExp (pt_cmpR op_gt (pv 1) pe_int (nomark _)) (pe_cg c_common bare hr (by decide) rfl (pa_cons (pv 0) (pa_cons (pv 1) pa_nil))) (pe_un un_neg (pe_cg c_common bare hr (by decide) rfl (pa_cons (pv 0) (pa_cons (pv 1) pa_nil)))))))
  (pss_one (ps_ret (pe_tup (pa_cons (pe_op op_fdivZ (pv 0) (pv 2)) (pa_cons (pe_op op_fdivZ (pv 1) (pv 2)) pa_nil)))))), ?_⟩
    refine ⟨fun v H' => v = .int (gd a u) ∧ H' = H, ?_, ?_⟩
    · refine ⟨_, rfl, _, _, rfl, rfl, _, rfl, ?_⟩
      refine ite2 (fun h => ?_) (fun h => ?_)
      · refine ⟨_, rfl, _, rfl, a, u, rfl, ?_, rfl⟩
        unfold gd
        rw [if_pos (of_decide_eq_true h)]
      · refine ⟨_, rfl, _, rfl, a, u, rfl, _, rfl, ?_, rfl⟩
        unfold gd
        rw [if_neg (fun z => h (decide_eq_true z))]
    · rintro v H' ⟨rfl, rfl⟩
      have s := sm_div (gd_sm (a := a) hu su) (gd_ne hu)
      refine ⟨_, rfl, _, rfl, _, _, rfl, rfl, s, _, rfl, _, rfl, _, _, rfl, rfl, s, by show 2 ≤ sizeLine; decide, fun p hp => ?_⟩
      have kk := k p hp
      rw [← lo_num hu, ← lo_den hu] at kk
      exact kk

/-! ### _law_purse, _law_from -/
def spPurse (K : PySem.W.Frag) : Sp := fun vs H Q _ => ∃ (a : Addr) (ns : List Int), vs = [.ref a] ∧ SqL K H a (ns.map V.int) ∧ ns.length ≤ 100000 ∧
  ∀ q H', H q = none → Same H H' → QAt H' q 0 → Q (.ref q) H'
theorem sc__law_purse : FnScope ["_law_script", "_law_cell"] ["_law_script"] (defScope s__law_purse) := ⟨rfl, rfl, rfl, by decide +kernel, rfl, by decide +kernel, by decide +kernel⟩
theorem ok_purse {f : Addr} {fd : FuncData} (F : Fun K "_law_purse" "_law_purse" s__law_purse f fd) (T : Blt mg) : FnG P w K mg base CX0 2 f fd ["_law_script"] (spPurse K) := by
  refine fun_okG F sc__law_purse (fun vs H Q E h => ?_) (fun cdv A outer s H vs Q E bare hr h => ?_)
  · obtain ⟨a, ns, rfl, _⟩ := h
    rfl
  · obtain ⟨a, ns, rfl, hS, hl, k⟩ := h
    refine ⟨_, (pss_one (ps_ret (pe_lst (pa_cons (pe_map (K := K) (j := 1) (pe_lc (own := [("_law_cell", 1)]) (g := gName 1) (tt := tYes) rfl sc__law_purse.nd (pi_list (pe_cut (pv 0))) (blkOk_by (N := ["_law_script", "_law_cell"]) (sc := defScope s__law_purse) (by decide +kernel)) (fun _ _ _ _ _ => (pg_name (i := 1) sc__law_purse.nd rfl (Or.inl rfl))) (fun _ _ _ _ _ => pts_nil) (fun _ _ _ _ _ => (pe_cut (pe_op op_modN (pe_callTy call_int1 (by rfl) T.b_int (by decide +kernel) (pa_cons (pv 1) pa_nil)) (pe_op op_mulW (pe_op op_pow pe_int pe_int) (pe_op op_pow pe_int pe_int))))))) (pa_cons pe_int (pa_cons pe_int (pa_cons pe_int pa_nil))))))), ?_⟩
    refine ⟨_, rfl, a, ns.map V.int, (ns.map fun z => z.fmod (10 ^ Int.toNat 60 * 10 ^ Int.toNat 60)).map V.int, rfl, hS, by simp, by simpa using hl, ?_, fun D H1 s1 hD e1 => ?_⟩
    · intro i x y H' hx hy s'
      rw [List.getElem?_map] at hx
      rw [List.getElem?_map, List.getElem?_map] at hy
      cases e : ns[i]? with
      | none => rw [e] at hx; cases hx
      | some z =>
        rw [e] at hx hy
        obtain rfl := (Option.some.inj hx).symm
        obtain rfl := (Option.some.inj hy).symm
        refine ⟨_, rfl, Or.inl ⟨_, rfl, _, _, rfl, rfl, ⟨by decide, by decide, by decide⟩, _, _, rfl, rfl, ⟨by decide, by decide, by decide⟩, _, _, rfl, rfl, sm_mul (sm_lt (k := 61) (by decide) (by decide) (by decide)) (sm_lt (k := 61) (by decide) (by decide) (by decide)), _, _, rfl, rfl, (show (10 : Int) ^ Int.toNat 60 * 10 ^ Int.toNat 60 ≠ 0 by decide), ?_⟩⟩
        exact ⟨rfl, Same.refl _⟩
    · refine ⟨by show 4 ≤ sizeLine; decide, fun q hq => ?_⟩
      have nq : D ≠ q := ne_of_none e1 hq
      have hq' : H q = none := s1.free hq
      refine k q _ hq' (MG.Same.new s1 hq) ⟨D, _, 0, 0, 0, upd_same, (by rw [upd_ne nq]; exact e1), ?_, (by simpa using hl), by decide, by decide, by decide⟩
      intro y hy
      obtain ⟨z, _, rfl⟩ := List.mem_map.mp hy
      have e : (10 : Int) ^ Int.toNat 60 * 10 ^ Int.toNat 60 = 10 ^ 120 := by decide
      rw [e]
      exact ⟨fmod_ge (by decide), fmod_lt (by decide)⟩
abbrev PurseC (P : Program) (w : World) (K : PySem.W.Frag) (mg : Str → Option Value) (base : Heap) : Prop := CalG P w K mg base 2 "_law_purse" (spPurse K) []
theorem cut_map (ns : List Int) (lo hi : Option Int) : ∃ zs : List Int, cutV (ns.map V.int) lo hi = zs.map V.int ∧ zs.length ≤ ns.length := by
  refine ⟨(ns.drop (HT.sIx ns.length 0 lo)).take (HT.sIx ns.length ns.length hi - HT.sIx ns.length 0 lo), ?_, ?_⟩
  · unfold cutV
    rw [List.length_map, List.map_take, List.map_drop]
  · rw [List.length_take, List.length_drop]
    omega
def spFrom (K : PySem.W.Frag) : Sp := fun vs H Q _ => ∃ (a : Addr) (ns : List Int) (j : Int), vs = [.ref a, .int j] ∧ SqL K H a (ns.map V.int) ∧ ns.length ≤ 1000 ∧
  ∀ q H', H q = none → Same H H' → QAt H' q 0 → Q (.ref q) H'
theorem sc__law_from : FnScope ["_law_script", "_law_k"] ["_law_script", "_law_k"] (defScope s__law_from) := ⟨rfl, rfl, rfl, by decide +kernel, rfl, by decide +kernel, by decide +kernel⟩
theorem ok_from {f : Addr} {fd : FuncData} (F : Fun K "_law_from" "_law_from" s__law_from f fd) (c_purse : PurseC P w K mg base) : FnG P w K mg base CX0 4 f fd ["_law_script", "_law_k"] (spFrom K) := by
  refine fun_okG F sc__law_from (fun vs H Q E h => ?_) (fun cdv A outer s H vs Q E bare hr h => ?_)
  · obtain ⟨a, ns, j, rfl, _⟩ := h
    rfl
  · obtain ⟨a, ns, j, rfl, hS, hl, k⟩ := h
    obtain ⟨z1, e1, l1⟩ := cut_map ns (some j) none
    obtain ⟨z2, e2, l2⟩ := cut_map ns none (some j)
    refine ⟨_, (pss_one (ps_ret (pe_cg c_purse bare hr (by decide) rfl (pa_cons (pe_op op_cat (pe_slice sl_list (pv 0) (po_some (pv 1)) po_none) (pe_slice sl_list (pv 0) po_none (po_some (pv 1)))) pa_nil)))), ?_⟩
    refine ⟨_, rfl, _, rfl, j, rfl, a, _, rfl, hS, fun p hp => ?_⟩
    have s1 : Same H (upd H p (.lst (cutV (ns.map V.int) (some j) none))) := MG.Same.new (Same.refl H) hp
    refine ⟨_, rfl, _, rfl, j, rfl, a, _, rfl, s1.seq hS, fun p2 hp2 => ?_⟩
    have n12 : p ≠ p2 := ne_of_none upd_same hp2
    have s2 := MG.Same.new (o := .lst (cutV (ns.map V.int) none (some j))) s1 hp2
    refine ⟨p, p2, _, _, rfl, rfl, by rw [upd_ne n12]; exact upd_same, upd_same, ?_, fun p3 hp3 => ?_⟩
    · rw [e1, e2, List.length_map, List.length_map]
      exact Nat.le_trans (m := 2000) (by omega) (by decide)
    · refine ⟨p3, z1 ++ z2, rfl, ?_, by rw [List.length_append]; omega, fun q H' hq s q0 => ?_⟩
      · refine SqL.of ?_
        rw [upd_same, e1, e2, List.map_append]
      · have s3 := MG.Same.new (o := .lst (cutV (ns.map V.int) (some j) none ++ cutV (ns.map V.int) none (some j))) s2 hp3
        exact k q H' (s3.free hq) (s3.trans s) q0
end
end Lw

namespace Lw
open PySem PySem.Spec PyProof.Rows L2 MG
abbrev s_is_whole : Stmt := top 26
abbrev s_is_number : Stmt := top 27
abbrev s_to_ratio : Stmt := top 28
abbrev s_Ratio___init__ : Stmt := inClass (top 30) 0
abbrev s_Ratio_top : Stmt := inClass (top 30) 1
abbrev s_Ratio_bottom : Stmt := inClass (top 30) 2
abbrev s_Ratio_over : Stmt := inClass (top 30) 4
abbrev s_Ratio___add__ : Stmt := inClass (top 30) 5
abbrev s_Ratio___sub__ : Stmt := inClass (top 30) 6
abbrev s_Ratio___mul__ : Stmt := inClass (top 30) 7
abbrev s_Ratio___neg__ : Stmt := inClass (top 30) 8
abbrev s_Ratio___eq__ : Stmt := inClass (top 30) 9
abbrev s_Ratio___bool__ : Stmt := inClass (top 30) 10
abbrev s_Ratio___str__ : Stmt := inClass (top 30) 11
abbrev s_Ratio___repr__ : Stmt := inClass (top 30) 12
/-- what the top says of the class Ratio, at C -/
structure TxR (K : PySem.W.Frag) (mg : Str → Option Value) (C : Addr) : Prop extends Blt mg where
  cl : Cls K C
  nT : NoAttr K C "_top"
  nB : NoAttr K C "_bottom"
  g_Ratio : mg "Ratio" = some (.ref C)
  g_gcd : mg "gcd" = some (.builtin "math.gcd")
  ca : PySem.W.findIn K (.ref C) "__class__" = some (some (.builtin "object.__class__"))
  cn : PySem.W.specialIn K (.builtin "object.__class__") "__get__" = some (some (.builtin "getset_descriptor.__get__"))
  ct : PySem.W.takesIn K (.builtin "object.__class__") = some true
  cm : PySem.W.mroIn K C (.type "object") = some true
  kI : PySem.W.kitOne K (.ref C) (.type "int") = some false
  kB : PySem.W.kitOne K (.ref C) (.type "bool") = some false
  kC : PySem.W.kitOne K (.ref C) (.ref C) = some true
  iC : PySem.W.kitOne K (.type "int") (.ref C) = some false
def flds (p : Rat) : List (Str × V) := [("_top", .int p.num), ("_bottom", .int p.den)]
theorem kn : ¬ (("_top" : Str) = "_bottom") := by decide +kernel
theorem flds_put (a b : Int) : putF "_bottom" (.int b) (putF "_top" (.int a) []) = ([("_top", .int a), ("_bottom", .int b)] : List (Str × V)) := by
  show (if ("_top" : Str) = "_bottom" then _ else (("_top" : Str), V.int a) :: putF "_bottom" (V.int b) []) = _
  rw [if_neg kn]
  rfl
theorem flds_top (p : Rat) : (flds p).lookup ("_top" : Str) = some (.int p.num) := by simp [flds, List.lookup]
theorem flds_bottom (p : Rat) : (flds p).lookup ("_bottom" : Str) = some (.int p.den) := by
  have h : (("_bottom" : Str) == "_top") = false := by decide +kernel
  simp [flds, List.lookup, h]
theorem flds_no (p : Rat) {m : Str} (h1 : (m == ("_top" : Str)) = false) (h2 : (m == ("_bottom" : Str)) = false) : (flds p).lookup m = none := by
  simp [flds, List.lookup, h1, h2]
/-- a Ratio of the value p stands at r -/
def RatAt (C : Addr) (H : Hp) (r : Addr) (p : Rat) : Prop := ∃ dx, H r = some (.ins C dx (flds p))
theorem RatAt.same {C : Addr} {H H' : Hp} {r : Addr} {p : Rat} (h : RatAt C H r p) (s : Same H H') : RatAt C H' r p := h.elim fun dx e => ⟨dx, s _ _ e⟩
theorem RatAt.tyx {K : PySem.W.Frag} {mg : Str → Option Value} {C : Addr} {H : Hp} {r : Addr} {p : Rat} (T : TxR K mg C) (h : RatAt C H r p) : TyX K H (.ref r) (.ref C) :=
  h.elim fun dx e => .base (.ins e T.cl T.ca T.cn T.ct T.cm)
theorem tyx_int {K : PySem.W.Frag} {H : Hp} (i : Int) : TyX K H (.int i) (.type "int") := .base (.int i)
section
variable {P : Program} {w : World} {K : PySem.W.Frag} {mg : Str → Option Value} {base : Heap} {C : Addr}
/-! ### is_whole, is_number -/
def spWhole (K : PySem.W.Frag) : Sp := fun vs H Q _ => ∃ (x : V) (t : Value) (b1 b2 : Bool), vs = [x] ∧ TyX K H x t ∧
  PySem.W.kitOne K t (.type "int") = some b1 ∧ PySem.W.kitOne K t (.type "bool") = some b2 ∧ Q (.bl (b1 && !b2)) H
theorem sc_is_whole : FnScope ["value"] ["value"] (defScope s_is_whole) := ⟨rfl, rfl, rfl, by decide +kernel, rfl, by decide +kernel, by decide +kernel⟩
theorem ok_whole {f : Addr} {fd : FuncData} (F : Fun K "is_whole" "is_whole" s_is_whole f fd) (T : Blt mg) : FnOk P w K mg base CX0 2 f fd ["value"] (spWhole K) := by
  refine F.ok sc_is_whole (fun vs H Q E h => ?_) (fun cdv A outer s H vs Q E hr h => ?_)
  · obtain ⟨x, t, b1, b2, rfl, _⟩ := h
    rfl
  · obtain ⟨x, t, b1, b2, rfl, tx, k1, k2, k⟩ := h
    refine ⟨_, (pss_one (ps_ret (pe_and (pe_callB (id := "isinstance") (call_isiK (K := K)) (by rfl) T.b_isinstance (by decide +kernel) (pa_cons (pv 0) (pa_cons (pe_bltn (v := V.ty "int") (u := Value.type "int") (by rfl) T.b_int (by decide +kernel) rfl) pa_nil))) (pe_one (pe_not (pe_callB (id := "isinstance") (call_isiK (K := K)) (by rfl) T.b_isinstance (by decide +kernel) (pa_cons (pv 0) (pa_cons (pe_bltn (v := V.ty "bool") (u := Value.type "bool") (by rfl) T.b_bool (by decide +kernel) rfl) pa_nil)))))))), ?_⟩
    refine ⟨_, rfl, x, _, _, _, _, rfl, .ty "int", tx, k1, _, rfl, ?_⟩
    cases b1 with
    | false => exact iteF k
    | true =>
      refine iteT ?_
      refine ⟨_, rfl, x, _, _, _, _, rfl, .ty "bool", tx, k2, _, rfl, ?_⟩
      exact k
abbrev WholeC (P : Program) (w : World) (K : PySem.W.Frag) (mg : Str → Option Value) (base : Heap) : Prop := CalF P w K mg base 2 "is_whole" (spWhole K) []
def spNumber (K : PySem.W.Frag) (C : Addr) : Sp := fun vs H Q _ => ∃ (x : V) (t : Value) (b1 b2 b3 : Bool), vs = [x] ∧ TyX K H x t ∧
  PySem.W.kitOne K t (.type "int") = some b1 ∧ PySem.W.kitOne K t (.type "bool") = some b2 ∧ PySem.W.kitOne K t (.ref C) = some b3 ∧ Q (.bl ((b1 && !b2) || b3)) H
theorem sc_is_number : FnScope ["value"] ["value"] (defScope s_is_number) := ⟨rfl, rfl, rfl, by decide +kernel, rfl, by decide +kernel, by decide +kernel⟩
theorem ok_number {f : Addr} {fd : FuncData} (F : Fun K "is_number" "is_number" s_is_number f fd) (T : TxR K mg C) (c_whole : WholeC P w K mg base) : FnOk P w K mg base CX0 4 f fd ["value"] (spNumber K C) := by
  refine F.ok sc_is_number (fun vs H Q E h => ?_) (fun cdv A outer s H vs Q E hr h => ?_)
  · obtain ⟨x, t, b1, b2, b3, rfl, _⟩ := h
    rfl
  · obtain ⟨x, t, b1, b2, b3, rfl, tx, k1, k2, k3, k⟩ := h
    refine ⟨_, (pss_one (ps_ret (pe_or (pe_cf c_whole hr (by decide) rfl (pa_cons (pv 0) pa_nil)) (pe_one (pe_callB (id := "isinstance") (call_isiK (K := K)) (by rfl) T.b_isinstance (by decide +kernel) (pa_cons (pv 0) (pa_cons (pe_glob (v := V.ref C) rfl T.g_Ratio rfl) pa_nil))))))), ?_⟩
    refine ⟨_, rfl, x, t, b1, b2, rfl, tx, k1, k2, _, rfl, ?_⟩
    cases e : (b1 && !b2) with
    | true =>
      refine iteT ?_
      rw [e] at k
      exact k
    | false =>
      refine iteF ?_
      rw [e] at k
      exact ⟨_, rfl, x, _, _, _, _, rfl, .own C, tx, k3, k⟩
abbrev NumberC (P : Program) (w : World) (K : PySem.W.Frag) (mg : Str → Option Value) (base : Heap) (C : Addr) : Prop := CalF P w K mg base 4 "is_number" (spNumber K C) []
/-! ### Ratio(top, bottom), where both are integers and the bottom is not 0 -/
def spInit (C : Addr) : Sp := fun vs H Q _ => ∃ (r dx : Addr) (a b : Int), vs = [.ref r, .int a, .int b] ∧ H r = some (.ins C dx []) ∧ b ≠ 0 ∧ Sm b ∧
  ∀ H', H' r = some (.ins C dx (flds (Rat.divInt a b))) → (∀ c o, H c = some o → c ≠ r → H' c = some o) → Q .non H'
theorem sc_Ratio___init__ : FnScope ["self", "top", "bottom", "given", "shared"] ["self", "top", "bottom"] (defScope s_Ratio___init__) := ⟨rfl, rfl, rfl, by decide +kernel, rfl, by decide +kernel, by decide +kernel⟩
theorem ok_init {f : Addr} {fd : FuncData} {dvs : List V} (F : FunD K "__init__" "Ratio.__init__" (defArgs s_Ratio___init__) (defBody s_Ratio___init__) (defScope s_Ratio___init__) dvs [] f fd) (T : TxR K mg C) (c_whole : WholeC P w K mg base) : FnOk P w K mg base CX0 4 f fd ["self", "top", "bottom"] (spInit C) := by
  refine F.ok sc_Ratio___init__ (fun vs H Q E h => ?_) (fun cdv A outer s H vs Q E hr h => ?_)
  · obtain ⟨r, dx, a, b, rfl, _⟩ := h
    rfl
  · obtain ⟨r, dx, a, b, rfl, hr0, hb, sb, k⟩ := h
    suffices hh : ∃ t, PSs (cxOf CX0 P w K mg base ["self", "top", "bottom", "given", "shared"] "Ratio.__init__" (defScope s_Ratio___init__) f cdv A outer s H E).nox (defBody s_Ratio___init__) t ∧ t { nx := fun _ H' => Q .non H', rt := Q } (start ["self", "top", "bottom", "given", "shared"] [.ref r, .int a, .int b]) H by
      obtain ⟨t, h1, h2⟩ := hh
      exact ⟨t, h1.nox, h2⟩
    refine ⟨_, (pss_cons (ps_for PassesOwn.never rfl (pi_tup (pe_tup (pa_cons (pv 1) (pa_cons (pv 2) pa_nil)))) (pg_name (i := 3) sc_Ratio___init__.nd rfl (Or.inl rfl))
  (pss_one (ps_if (pt_not (pt_val (pe_cf c_whole hr (by decide) rfl (pa_cons (pv 3) pa_nil)))) (pss_one ps_never)
  pss_nil)))
  (pss_cons (ps_if (pt_cmpR op_eq (pv 2) pe_int (nomark _)) (pss_one ps_never)
  pss_nil)
  (pss_cons (ps_set (i := 4) sc_Ratio___init__.nd rfl (Or.inl rfl) (pe_callBfun cr_gcd rfl T.g_gcd (pa_cons (pv 1) (pa_cons (pv 2) pa_nil))))
  (pss_cons (ps_cut (ps_if (pt_cmpR op_lt (pv 2) pe_int (nomark _)) (pss_one (ps_set (i := 4) sc_Ratio___init__.nd rfl (Or.inl rfl) (pe_un un_neg (pv 4))))
  pss_nil))
  (pss_cons (ps_fld (pv 0) (pe_op op_fdivZ (pv 1) (pv 4)) rfl)
  (pss_one (ps_fld (pv 0) (pe_op op_fdivZ (pv 2) (pv 4)) rfl))))))), ?_⟩
    -- for given in (top, bottom)
    refine ⟨_, rfl, _, rfl, by show 2 ≤ sizeLine; decide, fun t ht => ⟨t, rfl, ⟨_, SqT.of upd_same⟩, ?_⟩⟩
    have s1 : Same H (upd H t (.tup [.int a, .int b])) := MG.Same.new (Same.refl H) ht
    refine for_tup (K := K) (a := t) (xs := [.int a, .int b]) (fun i σ H' => H' = upd H t (.tup [.int a, .int b]) ∧ ∃ v : Option V, σ = [some (.ref r), some (.int a), some (.int b), v, none]) ⟨rfl, none, rfl⟩ ?_ ?_ ?_
    · rintro i σ H' _ ⟨rfl, _⟩
      exact SqT.of upd_same
    · rintro i x σ H' hx ⟨rfl, v, rfl⟩
      obtain ⟨z, rfl⟩ : ∃ z, x = V.int z := by
        match i, hx with
        | 0, hx => exact ⟨a, (Option.some.inj hx).symm⟩
        | 1, hx => exact ⟨b, (Option.some.inj hx).symm⟩
      refine ⟨_, rfl, _, _, true, false, rfl, tyx_int z, kit_ty (by decide +kernel), kit_ty (by decide +kernel), _, rfl, ?_⟩
      exact ⟨rfl, _, rfl⟩
    · rintro σ H' ⟨rfl, v, rfl⟩
      -- if bottom == 0
      refine ⟨_, rfl, rfl, _, rfl, ?_⟩
      refine ite2 (fun z => ?_) (fun _ => ?_)
      · exact absurd (V.int.inj (of_decide_eq_true z)) hb
      -- shared = gcd(top, bottom); if bottom < 0: shared = -shared
      refine ⟨_, rfl, _, rfl, a, b, rfl, ?_⟩
      refine ⟨fun σ H' => H' = upd H t (.tup [.int a, .int b]) ∧ σ = [some (.ref r), some (.int a), some (.int b), v, some (.int (gd a b))], ?_, ?_⟩
      · refine ⟨_, rfl, _, _, rfl, rfl, _, rfl, ?_⟩
        refine ite2 (fun z => ?_) (fun z => ?_)
        · refine ⟨_, rfl, _, rfl, rfl, ?_⟩
          have hz : b < 0 := of_decide_eq_true z
          unfold gd
          rw [if_neg (by omega)]
          rfl
        · refine ⟨rfl, ?_⟩
          have hz : ¬ b < 0 := fun q => z (decide_eq_true q)
          unfold gd
          rw [if_pos (by omega)]
          rfl
      rintro σ H' ⟨rfl, rfl⟩
      have ds := sm_div (gd_sm (a := a) hb sb) (gd_ne hb)
      have hr1 := s1 _ _ hr0
      -- self._top = top // shared; self._bottom = bottom // shared
      refine ⟨_, rfl, _, rfl, _, _, rfl, rfl, ds, _, rfl, r, C, dx, _, rfl, hr1, T.cl, T.nT, (by show 0 < 1000; decide), ?_⟩
      refine ⟨_, rfl, _, rfl, _, _, rfl, rfl, ds, _, rfl, r, C, dx, _, rfl, upd_same, T.cl, T.nB, (by show 1 < 1000; decide), ?_⟩
      refine k _ ?_ fun c o hc hne => ?_
      · rw [upd_same, flds_put, lo_num hb, lo_den hb]
        rfl
      · rw [upd_ne hne, upd_ne hne]
        exact s1 _ _ hc
abbrev Rat2C (P : Program) (w : World) (K : PySem.W.Frag) (mg : Str → Option Value) (base : Heap) (C : Addr) : Prop := MakF P w K mg base 4 "Ratio" C (spInit C) []
abbrev Rat1C (P : Program) (w : World) (K : PySem.W.Frag) (mg : Str → Option Value) (base : Heap) (C : Addr) : Prop := MakF P w K mg base 4 "Ratio" C (spInit C) [.int 1]
/-- the reading of Ratio(a, b) -/
theorem make_rat {H : Hp} {a b : Int} {Q : VK} (hb : b ≠ 0) (sb : Sm b) (k : ∀ r H', H r = none → Same H H' → RatAt C H' r (Rat.divInt a b) → Q (.ref r) H') :
    ∀ x dx, H x = none → H dx = none → dx ≠ x → spInit C [.ref x, .int a, .int b] (upd (upd H dx (.own x)) x (.ins C dx [])) (fun v H2 => v = .non ∧ Q (.ref x) H2) E0 := by
  intro x dx hx hdx hne
  refine ⟨x, dx, a, b, rfl, upd_same, hb, sb, fun H' e kp => ⟨rfl, k x H' hx (fun c o hc => ?_) ⟨dx, e⟩⟩⟩
  have n1 := ne_of_none hc hx
  have n2 := ne_of_none hc hdx
  exact kp c o (by rw [upd_ne n1, upd_ne n2]; exact hc) n1
/-! ### to_ratio -/
/-- a number: a Ratio, or an int -/
def NumAt (C : Addr) (H : Hp) (y : V) (q : Rat) : Prop := (∃ r, y = .ref r ∧ RatAt C H r q) ∨ ∃ z : Int, y = .int z ∧ q = Rat.divInt z 1
theorem NumAt.same {H H' : Hp} {y : V} {q : Rat} (h : NumAt C H y q) (s : Same H H') : NumAt C H' y q := by
  rcases h with ⟨r, e, h⟩ | h
  · exact .inl ⟨r, e, h.same s⟩
  · exact .inr h
theorem NumAt.is {H : Hp} {y : V} {q : Rat} (T : TxR K mg C) (h : NumAt C H y q) : ∃ t b1 b2 b3, TyX K H y t ∧ PySem.W.kitOne K t (.type "int") = some b1 ∧ PySem.W.kitOne K t (.type "bool") = some b2 ∧
    PySem.W.kitOne K t (.ref C) = some b3 ∧ ((b1 && !b2) || b3) = true := by
  rcases h with ⟨r, rfl, h⟩ | ⟨z, rfl, _⟩
  · exact ⟨_, _, _, _, h.tyx T, T.kI, T.kB, T.kC, rfl⟩
  · exact ⟨_, true, false, _, tyx_int z, kit_ty (by decide +kernel), kit_ty (by decide +kernel), T.iC, rfl⟩
def spTo (C : Addr) : Sp := fun vs H Q _ => ∃ (y : V) (q : Rat), vs = [y] ∧ NumAt C H y q ∧ ∀ r H', Same H H' → RatAt C H' r q → Q (.ref r) H'
theorem sc_to_ratio : FnScope ["number"] ["number"] (defScope s_to_ratio) := ⟨rfl, rfl, rfl, by decide +kernel, rfl, by decide +kernel, by decide +kernel⟩
theorem ok_to {f : Addr} {fd : FuncData} (F : Fun K "to_ratio" "to_ratio" s_to_ratio f fd) (T : TxR K mg C) (m_rat1 : Rat1C P w K mg base C) : FnOk P w K mg base CX0 6 f fd ["number"] (spTo C) := by
  refine F.ok sc_to_ratio (fun vs H Q E h => ?_) (fun cdv A outer s H vs Q E hr h => ?_)
  · obtain ⟨y, q, rfl, _⟩ := h
    rfl
  · obtain ⟨y, q, rfl, hy, k⟩ := h
    refine ⟨_, (pss_cons (ps_if (pt_val (pe_callB (id := "isinstance") (call_isiK (K := K)) (by rfl) T.b_isinstance (by decide +kernel) (pa_cons (pv 0) (pa_cons (pe_glob (v := V.ref C) rfl T.g_Ratio rfl) pa_nil)))) (pss_one (ps_ret (pv 0)))
  pss_nil)
  (pss_one (ps_ret (pe_mkf m_rat1 hr (by decide) rfl (pa_cons (pv 0) pa_nil))))), ?_⟩
    rcases hy with ⟨r, rfl, h⟩ | ⟨z, rfl, rfl⟩
    · refine ⟨_, rfl, _, _, _, _, _, rfl, .own C, h.tyx T, T.kC, _, rfl, ?_⟩
      refine iteT ?_
      exact ⟨_, rfl, k r H (Same.refl H) h⟩
    · refine ⟨_, rfl, _, _, _, _, _, rfl, .own C, tyx_int z, T.iC, _, rfl, ?_⟩
      refine iteF ?_
      refine ⟨_, rfl, ?_⟩
      exact make_rat (by decide) (sm_lt (k := 1) (by decide) (by decide) (by decide)) fun r H' _ s h => k r H' s h
abbrev ToC (P : Program) (w : World) (K : PySem.W.Frag) (mg : Str → Option Value) (base : Heap) (C : Addr) : Prop := CalF P w K mg base 6 "to_ratio" (spTo C) []

/-! ### the operators -/
def spEqR (K : PySem.W.Frag) (C : Addr) : Sp := fun vs H Q _ => ∃ (r : Addr) (p : Rat) (y : V), vs = [.ref r, y] ∧ RatAt C H r p ∧
  ((∃ r2 q, y = .ref r2 ∧ RatAt C H r2 q ∧ Q (.bl (decide (p = q))) H) ∨ ∃ t, TyX K H y t ∧ PySem.W.kitOne K t (.ref C) = some false ∧ Q (.bl false) H)
theorem sc_Ratio___eq__ : FnScope ["self", "other"] ["self", "other"] (defScope s_Ratio___eq__) := ⟨rfl, rfl, rfl, by decide +kernel, rfl, by decide +kernel, by decide +kernel⟩
theorem ok_eq {f : Addr} {fd : FuncData} (F : Fun K "__eq__" "Ratio.__eq__" s_Ratio___eq__ f fd) (T : TxR K mg C) : FnOk P w K mg base CX0 2 f fd ["self", "other"] (spEqR K C) := by
  refine F.ok sc_Ratio___eq__ (fun vs H Q E h => ?_) (fun cdv A outer s H vs Q E hr h => ?_)
  · obtain ⟨r, p, y, rfl, _⟩ := h
    rfl
  · obtain ⟨r, p, y, rfl, hp, h⟩ := h
    refine ⟨_, (pss_one (ps_ret (pe_and (pe_callB (id := "isinstance") (call_isiK (K := K)) (by rfl) T.b_isinstance (by decide +kernel) (pa_cons (pv 1) (pa_cons (pe_glob (v := V.ref C) rfl T.g_Ratio rfl) pa_nil))) (pe_and (pe_cmpR op_eq (pe_fld (pv 0) rfl) (pe_fld (pv 1) rfl) (nomark _)) (pe_one (pe_cmpR op_eq (pe_fld (pv 0) rfl) (pe_fld (pv 1) rfl) (nomark _))))))), ?_⟩
    obtain ⟨d1, e1⟩ := id hp
    rcases h with ⟨r2, q, rfl, hq, k⟩ | ⟨t, ty, ki, k⟩
    · obtain ⟨d2, e2⟩ := id hq
      refine ⟨_, rfl, _, _, _, _, _, rfl, .own C, hq.tyx T, T.kC, _, rfl, ?_⟩
      refine iteT ?_
      refine ⟨_, rfl, r, C, d1, _, _, rfl, e1, T.cl, T.nT, flds_top p, _, rfl, r2, C, d2, _, _, rfl, e2, T.cl, T.nT, flds_top q, rfl, _, rfl, ?_⟩
      rw [rat_dec] at k
      have en : decide (V.int p.num = V.int q.num) = decide (p.num = q.num) := by simp
      have ed : decide (V.int p.den = V.int q.den) = decide ((p.den : Int) = q.den) := by simp
      rw [en]
      cases e : decide (p.num = q.num) with
      | false =>
        rw [e] at k
        exact iteF k
      | true =>
        rw [e, Bool.true_and] at k
        refine iteT ?_
        refine ⟨_, rfl, r, C, d1, _, _, rfl, e1, T.cl, T.nB, flds_bottom p, _, rfl, r2, C, d2, _, _, rfl, e2, T.cl, T.nB, flds_bottom q, rfl, ?_⟩
        rw [ed]
        exact k
    · refine ⟨_, rfl, _, _, _, _, _, rfl, .own C, ty, ki, _, rfl, ?_⟩
      exact iteF k
def spTop (C : Addr) : Sp := fun vs H Q _ => ∃ (r : Addr) (p : Rat), vs = [.ref r] ∧ RatAt C H r p ∧ Q (.int p.num) H
def spBottom (C : Addr) : Sp := fun vs H Q _ => ∃ (r : Addr) (p : Rat), vs = [.ref r] ∧ RatAt C H r p ∧ Q (.int p.den) H
theorem sc_Ratio_top : FnScope ["self"] ["self"] (defScope s_Ratio_top) := ⟨rfl, rfl, rfl, by decide +kernel, rfl, by decide +kernel, by decide +kernel⟩
theorem ok_top {f : Addr} {fd : FuncData} (F : Fun K "top" "Ratio.top" s_Ratio_top f fd) (T : TxR K mg C) : FnOk P w K mg base CX0 2 f fd ["self"] (spTop C) := by
  refine F.ok sc_Ratio_top (fun vs H Q E h => ?_) (fun cdv A outer s H vs Q E hr h => ?_)
  · obtain ⟨r, p, rfl, _⟩ := h
    rfl
  · obtain ⟨r, p, rfl, ⟨d1, e1⟩, k⟩ := h
    exact ⟨_, (pss_one (ps_ret (pe_fld (pv 0) rfl))), _, rfl, r, C, d1, _, _, rfl, e1, T.cl, T.nT, flds_top p, k⟩
theorem sc_Ratio_bottom : FnScope ["self"] ["self"] (defScope s_Ratio_bottom) := ⟨rfl, rfl, rfl, by decide +kernel, rfl, by decide +kernel, by decide +kernel⟩
theorem ok_bottom {f : Addr} {fd : FuncData} (F : Fun K "bottom" "Ratio.bottom" s_Ratio_bottom f fd) (T : TxR K mg C) : FnOk P w K mg base CX0 2 f fd ["self"] (spBottom C) := by
  refine F.ok sc_Ratio_bottom (fun vs H Q E h => ?_) (fun cdv A outer s H vs Q E hr h => ?_)
  · obtain ⟨r, p, rfl, _⟩ := h
    rfl
  · obtain ⟨r, p, rfl, ⟨d1, e1⟩, k⟩ := h
    exact ⟨_, (pss_one (ps_ret (pe_fld (pv 0) rfl))), _, rfl, r, C, d1, _, _, rfl, e1, T.cl, T.nB, flds_bottom p, k⟩
/-! ### truth and texts -/
def rt (p : Rat) : Str := ("Ratio(" : Str) ++ Str.ofString (toString p.num) ++ (", " : Str) ++ Str.ofString (toString (p.den : Int)) ++ (")" : Str)
def dg (p : Rat) : Str := if p.den = 1 then Str.ofString (toString p.num) else Str.ofString (toString p.num) ++ ("/" : Str) ++ Str.ofString (toString (p.den : Int))
theorem empty_add (x : Str) : Str.empty ++ x = x := by
  show Str.mk (#[] ++ x.cps) = x
  rw [Array.empty_append]
def spBool (C : Addr) : Sp := fun vs H Q _ => ∃ (r : Addr) (p : Rat), vs = [.ref r] ∧ RatAt C H r p ∧ Q (.bl (p.num != 0)) H
theorem sc_Ratio___bool__ : FnScope ["self"] ["self"] (defScope s_Ratio___bool__) := ⟨rfl, rfl, rfl, by decide +kernel, rfl, by decide +kernel, by decide +kernel⟩
theorem ok_bool {f : Addr} {fd : FuncData} (F : Fun K "__bool__" "Ratio.__bool__" s_Ratio___bool__ f fd) (T : TxR K mg C) : FnOk P w K mg base CX0 2 f fd ["self"] (spBool C) := by
  refine F.ok sc_Ratio___bool__ (fun vs H Q E h => ?_) (fun cdv A outer s H vs Q E hr h => ?_)
  · obtain ⟨r, p, rfl, _⟩ := h
    rfl
  · obtain ⟨r, p, rfl, ⟨d1, e1⟩, k⟩ := h
    refine ⟨_, (pss_one (ps_ret (pe_callTy call_bool1 (by rfl) T.b_bool (by decide +kernel) (pa_cons (pe_fld (pv 0) rfl) pa_nil)))), ?_⟩
    exact ⟨_, rfl, r, C, d1, _, _, rfl, e1, T.cl, T.nT, flds_top p, .inl ⟨_, rfl, k⟩⟩
def spStr (C : Addr) : Sp := fun vs H Q _ => ∃ (r : Addr) (p : Rat), vs = [.ref r] ∧ RatAt C H r p ∧ Sm p.num ∧ Sm (p.den : Int) ∧ Q (.str (dg p)) H
theorem len_ofTxt {i : Int} (h : Sm i) : (Str.ofString (toString i)).length ≤ 1921 := txt_len h
theorem sc_Ratio___str__ : FnScope ["self"] ["self"] (defScope s_Ratio___str__) := ⟨rfl, rfl, rfl, by decide +kernel, rfl, by decide +kernel, by decide +kernel⟩
theorem ok_str {f : Addr} {fd : FuncData} (F : Fun K "__str__" "Ratio.__str__" s_Ratio___str__ f fd) (T : TxR K mg C) : FnOk P w K mg base CX0 2 f fd ["self"] (spStr C) := by
  refine F.ok sc_Ratio___str__ (fun vs H Q E h => ?_) (fun cdv A outer s H vs Q E hr h => ?_)
  · obtain ⟨r, p, rfl, _⟩ := h
    rfl
  · obtain ⟨r, p, rfl, ⟨d1, e1⟩, sn, sd, k⟩ := h
    refine ⟨_, (pss_cons (ps_if (pt_cmpR op_eq (pe_fld (pv 0) rfl) pe_int (nomark _)) (pss_one (ps_ret (pe_callTy call_str_int (by rfl) T.b_str (by decide +kernel) (pa_cons (pe_fld (pv 0) rfl) pa_nil))))
  pss_nil)
  (pss_one (ps_ret (pe_joined (PJ.cons (pe_fmt (pe_fld (pv 0) rfl)) (PJ.cons pe_str (PJ.cons (pe_fmt (pe_fld (pv 0) rfl)) PJ.nil))))))), ?_⟩
    refine ⟨_, rfl, r, C, d1, _, _, rfl, e1, T.cl, T.nB, flds_bottom p, rfl, _, rfl, ?_⟩
    unfold dg at k
    refine ite2 (fun h => ?_) (fun h => ?_)
    · have hd : p.den = 1 := by have := V.int.inj (of_decide_eq_true h); omega
      rw [if_pos hd] at k
      exact ⟨_, rfl, r, C, d1, _, _, rfl, e1, T.cl, T.nT, flds_top p, _, rfl, log_sm sn, k⟩
    · have hd : ¬ p.den = 1 := fun z => h (decide_eq_true (by rw [z]; rfl))
      rw [if_neg hd] at k
      have l1 := txt_len sn
      have l2 := txt_len sd
      refine ⟨_, rfl, r, C, d1, _, _, rfl, e1, T.cl, T.nT, flds_top p, .inr ⟨_, rfl, log_sm sn, _, rfl, ?_, _, rfl, ?_, _, rfl, r, C, d1, _, _, rfl, e1, T.cl, T.nB, flds_bottom p, .inr ⟨_, rfl, log_sm sd, _, rfl, ?_, ?_⟩⟩⟩
      · rw [empty_add]
        exact Nat.le_trans l1 (by decide)
      · rw [empty_add, strLen_append]
        exact Nat.le_trans (Nat.add_le_add l1 (Nat.le_refl 1)) (by decide)
      · rw [empty_add, strLen_append, strLen_append]
        exact Nat.le_trans (Nat.add_le_add (Nat.add_le_add l1 (Nat.le_refl 1)) l2) (by decide)
      · rw [empty_add]
        exact k
def spRepr (C : Addr) : Sp := fun vs H Q _ => ∃ (r : Addr) (p : Rat), vs = [.ref r] ∧ RatAt C H r p ∧ Sm p.num ∧ Sm (p.den : Int) ∧ Q (.str (rt p)) H
theorem rt_len {p : Rat} (h1 : Sm p.num) (h2 : Sm (p.den : Int)) : (rt p).length ≤ 4000 := by
  unfold rt
  rw [strLen_append, strLen_append, strLen_append, strLen_append]
  have l1 := txt_len h1
  have l2 := txt_len h2
  have e1 : (("Ratio(" : Str)).length = 6 := rfl
  have e2 : ((", " : Str)).length = 2 := rfl
  have e3 : ((")" : Str)).length = 1 := rfl
  omega
theorem sc_Ratio___repr__ : FnScope ["self"] ["self"] (defScope s_Ratio___repr__) := ⟨rfl, rfl, rfl, by decide +kernel, rfl, by decide +kernel, by decide +kernel⟩
theorem ok_repr {f : Addr} {fd : FuncData} (F : Fun K "__repr__" "Ratio.__repr__" s_Ratio___repr__ f fd) (T : TxR K mg C) : FnOk P w K mg base CX0 2 f fd ["self"] (spRepr C) := by
  refine F.ok sc_Ratio___repr__ (fun vs H Q E h => ?_) (fun cdv A outer s H vs Q E hr h => ?_)
  · obtain ⟨r, p, rfl, _⟩ := h
    rfl
  · obtain ⟨r, p, rfl, ⟨d1, e1⟩, sn, sd, k⟩ := h
    refine ⟨_, (pss_one (ps_ret (pe_joined (PJ.cons pe_str (PJ.cons (pe_fmt (pe_fld (pv 0) rfl)) (PJ.cons pe_str (PJ.cons (pe_fmt (pe_fld (pv 0) rfl)) (PJ.cons pe_str PJ.nil)))))))), ?_⟩
    have l1 := txt_len sn
    have l2 := txt_len sd
    have z1 : (("Ratio(" : Str)).length = 6 := rfl
    have z2 : ((", " : Str)).length = 2 := rfl
    have z3 : ((")" : Str)).length = 1 := rfl
    refine ⟨_, rfl, ?_, _, rfl, r, C, d1, _, _, rfl, e1, T.cl, T.nT, flds_top p, .inr ⟨_, rfl, log_sm sn, _, rfl, ?_, _, rfl, ?_, _, rfl, r, C, d1, _, _, rfl, e1, T.cl, T.nB, flds_bottom p, .inr ⟨_, rfl, log_sm sd, _, rfl, ?_, _, rfl, ?_, ?_⟩⟩⟩
    · rw [empty_add]; decide
    · rw [empty_add, strLen_append]; exact Nat.le_trans (m := 4000) (by omega) (by decide)
    · rw [empty_add, strLen_append, strLen_append]; exact Nat.le_trans (m := 4000) (by omega) (by decide)
    · rw [empty_add, strLen_append, strLen_append, strLen_append]; exact Nat.le_trans (m := 4000) (by omega) (by decide)
    · rw [empty_add, strLen_append, strLen_append, strLen_append, strLen_append]; exact Nat.le_trans (m := 4000) (by omega) (by decide)
    · rw [empty_add]; exact k
/-- how a Ratio is shown -/
def ownR (C : Addr) : Hp → Addr → Str → Prop := fun H a t => ∃ p, RatAt C H a p ∧ Sm p.num ∧ Sm (p.den : Int) ∧ t = rt p
theorem ownR_same {H H' : Hp} {a : Addr} {t : Str} (h : ownR C H a t) (s : Same H H') : ownR C H' a t := h.elim fun p ⟨h, r⟩ => ⟨p, h.same s, r⟩
theorem ownF (d : DunF P w K mg base 2 C "__repr__" (spRepr C)) : OwnF P w K mg base (ownR C) 2 :=
  ⟨C, spRepr C, d, fun H a t ⟨p, h, s1, s2, e⟩ => ⟨h.elim fun dx e => ⟨dx, _, e⟩, fun H1 s => ⟨a, p, rfl, h.same s, s1, s2, by rw [e], Same.refl H1⟩⟩⟩
end
end Lw

/-! own errors with their own __init__, raised, caught, read; calls in a try; things of any kind -/
namespace MG
open PySem PySem.Spec PyProof.Rows L2

theorem TyX.same {K : PySem.W.Frag} {H H' : Hp} {x : V} {t : Value} (h : TyX K H x t) (s : Same H H') : TyX K H' x t := by
  cases h with
  | base h =>
    cases h with
    | non => exact .base .non
    | bl x => exact .base (.bl x)
    | int i => exact .base (.int i)
    | str x => exact .base (.str x)
    | flt x => exact .base (.flt x)
    | lst e => exact .base (.lst (s _ _ e))
    | frz e => exact .base (.frz (s _ _ e))
    | tup e => exact .base (.tup (s _ _ e))
    | dK e => exact .base (.dK (s _ _ e))
    | dT e => exact .base (.dT (s _ _ e))
    | ins e cl ha hn htk hm => exact .base (.ins (s _ _ e) cl ha hn htk hm)
  | byt b => exact .byt b
  | set e => exact .set (s _ _ e)
  | kList e c => exact .kList e c
  | kTuple e c => exact .kTuple e c
  | kDict e c => exact .kDict e c
  | fTuple e => exact .fTuple (s _ _ e)
  | fDict e => exact .fDict (s _ _ e)

section
variable {X : Cx} {CX : CXT} {k : Nat} {f C : Addr} {fd : FuncData} {ps : List Str} {sp : Sp} {dvs : List V} {ds : List Value} {E : L2.St → XK} {x m : Str} {p pos apos : Pos} {e o : Expr} {es : List Expr} {ta : TE} {t : TA}
/-- C(..) in a try: what is raised is wished for at the slots -/
def tMakeS (C : Addr) (sp : Sp) (dvs : List V) (E : L2.St → XK) (t : TA) : TE := fun σ H Q => t σ H fun vs H1 => ∀ x dx, H1 x = none → H1 dx = none → dx ≠ x →
  sp (.ref x :: (vs ++ dvs)) (upd (upd H1 dx (.own x)) x (.ins C dx [])) (fun v H2 => v = .non ∧ Q (.ref x) H2) (E σ)
/-- o.m(..) in a try -/
def tMethS (C : Addr) (m : Str) (sp : Sp) (dvs : List V) (E : L2.St → XK) (ta : TE) (t : TA) : TE := fun σ H Q => ta σ H fun x H1 => ∃ a dx fs, x = .ref a ∧ H1 a = some (.ins C dx fs) ∧ fs.lookup m = none ∧
  t σ H1 fun vs H2 => sp (x :: (vs ++ dvs)) H2 Q (E σ)
theorem run_fnS' {pins : List (Addr × Obj)} {σ : L2.St} {H : Hp} {s : Shared} {Q : VK} {us : List Value} {vs : List V} (F : FnOk X.prog X.w X.K X.mg X.base CX k f fd ps sp) (hr : Room k X.A) (hb : Binds X.K fd ps ds) (hd : Vals dvs ds) (hx : PassesAt CX X σ (E σ))
    (I : Inv X pins σ H s) (r : Vals vs us) (h : sp (vs ++ dvs) H Q (E σ)) : wpAny (model X.prog X.w) X.A (call (.ref f) us) (EP X pins σ Q) X.xe s := by
  have r2 : Vals (vs ++ dvs) (us ++ ds) := r.append hd
  have hl : (us ++ ds).length = ps.length := by rw [← r2.length]; exact F.len _ _ _ _ h
  refine wpAny_call (codeAny_mono (F.run X.A X.stack s H ⟨us, []⟩ (us ++ ds) (vs ++ dvs) Q (E σ) hr I.env0 (hb s us I.kIn hl) r2 h) fun r s' hq => ?_)
  cases r with
  | error e => exact hx pins H s e s' I hq
  | ok fl =>
    cases fl with
    | ret u => exact I.after hq
    | next => exact False.elim hq
    | brk => exact False.elim hq
    | cont => exact False.elim hq
theorem pe_makeS (M : Mk X.K C f) (F : FnOk X.prog X.w X.K X.mg X.base CX k f fd ps sp) (hr : Room (k + 1) X.A) (hg : Gl X x) (hm : X.mg x = some (.ref C)) (hb : Binds X.K fd ps ds) (hd : Vals dvs ds) (hx : ∀ σ, PassesAt CX X σ (E σ))
    (ha : PA X (e :: es) t) (hdb : (x == ("__debug__" : Str)) = false := by decide) (he : starEach (e :: es) X.env = (false, eval e X.env) :: starEach es X.env := by rfl) (hpl : (backTo pos (starEach es X.env)).any (·.1) = false := by rfl) :
    PE X (.Call (.Name x p) (e :: es) [] pos) (tMakeS C sp dvs E t) := by
  refine ⟨fun pins s σ H Q I h => ?_⟩
  refine wpAny_Call_Name_kw (ld_glob I hg hm ?_ hdb)
  refine PySem.W.callWith_K (h₀ := X.base) I.ok.mod.kin M.kp (thn (ha.run pos pins s σ H _ I h) fun us s1 ⟨vs, H1, I1, r, q⟩ => ⟨I1.kIn, ?_⟩) he hpl
  have hq := q (s1.heap.objs.size + 1) s1.heap.objs.size (I1.hok.fresh (Nat.le_succ _)) (I1.hok.fresh (Nat.le_refl _)) (Nat.ne_of_lt (Nat.lt_succ_self _))
  have I2 := Inv.made (C := C) I1
  have r2 : Vals (V.ref (s1.heap.objs.size + 1) :: (vs ++ dvs)) (Value.ref (s1.heap.objs.size + 1) :: (us ++ ds)) := .cons rfl (r.append hd)
  have hl : (Value.ref (s1.heap.objs.size + 1) :: us ++ ds).length = ps.length := by
    have e := r2.length
    rw [F.len _ _ _ _ hq] at e
    exact e.symm
  refine wpAny_call (make_map (f := f) I1.kIn M.makes M.init (beq_iff_eq.mp M.fn) (codeAny_mono (F.run _ X.stack _ _ ⟨Value.ref (s1.heap.objs.size + 1) :: us, []⟩ (Value.ref (s1.heap.objs.size + 1) :: (us ++ ds)) _ _ (E σ) (hr.make C us [])
    (I2.env0.make C us []) (hb _ (Value.ref (s1.heap.objs.size + 1) :: us) I2.kIn hl) r2 hq) fun r s' hq' => ?_))
  cases r with
  | error e => exact hx σ pins _ _ e s' I2 hq'
  | ok fl =>
    cases fl with
    | ret u =>
      obtain ⟨v, H', I3, rv, ev, q3⟩ := I2.after hq'
      subst ev
      exact ⟨rv, ⟨V.ref (s1.heap.objs.size + 1), H', I3, rfl, q3⟩⟩
    | next => exact False.elim hq'
    | brk => exact False.elim hq'
    | cont => exact False.elim hq'
theorem pe_methS {pl : Sem Bool} (he : PE X o ta) (c : Cls X.K C) (hm : Meth X.K C m f) (F : FnOk X.prog X.w X.K X.mg X.base CX k f fd ps sp) (hr : Room k X.A) (hb : Binds X.K fd ps ds) (hd : Vals dvs ds) (hx : ∀ σ, PassesAt CX X σ (E σ)) (ha : PA X (e :: es) t)
    (hst : starEach (e :: es) X.env = (false, eval e X.env) :: starEach es X.env := by rfl) (hpl : (backTo pos (starEach es X.env)).any (·.1) = false := by rfl)
    (ht : eval (.Call (.Attribute o m apos) (e :: es) [] pos) X.env = (do
      let ov ← eval o X.env
      standAt apos.atName
      let (f, first) ← holding [ov] (getMethod ov m pl)
      callWith pos f first (backTo pos (starEach (e :: es) X.env)) (backToKw pos (keywordEach [] X.env))) := by rfl) :
    PE X (.Call (.Attribute o m apos) (e :: es) [] pos) (tMethS C m sp dvs E ta t) := by
  refine ⟨fun pins s σ H Q I h => ?_⟩
  refine PySem.W.methodCall_KW (pl := pl) (thn (he.run pins s σ H _ I h) fun u s1 ⟨x, H1, I1, rx, a, dx, fs, ex, ea, l, q⟩ => ?_) ht
  subst ex
  obtain rfl : u = Value.ref a := rx
  refine getmeth_ok I1 ea c hm l ?_
  refine PySem.W.callWith_K (first := [.ref a]) (h₀ := X.base) I.ok.mod.kin hm.kp (thn (ha.run pos pins s1 σ H1 _ I1 q) fun us s2 ⟨vs, H2, I2, r, q2⟩ => ⟨I2.kIn, ?_⟩) hst hpl
  exact run_fnS' (us := .ref a :: us) (vs := .ref a :: vs) F hr hb hd (hx σ) I2 (.cons rfl r) q2
end

/-! ### an error class with its own __init__: one field -/
def spXi (K : PySem.W.Frag) (C : Addr) (fl : Str) : Sp := fun vs H Q _ => ∃ (a : Addr) (y : V), vs = [.ref a, y] ∧ OexC K C ∧ PySem.W.findIn K (.ref C) fl = some none ∧ H a = some (exo a C none) ∧
  ∀ dx, H dx = none → dx ≠ a → Q .non (upd (upd H dx (exd dx [(fl, y)])) a (exo a C (some dx)))
/-- such a class, as those know it who raise it -/
structure ExcF (P : Program) (w : World) (K : PySem.W.Frag) (mg : Str → Option Value) (base : Heap) (k : Nat) (x : Str) (C : Addr) (fl : Str) : Prop where
  oex : OexC K C
  xf : XfC K C
  no : PySem.W.findIn K (.ref C) fl = some none
  g : mg x = some (.ref C)
  te : PySem.W.exmOne K (.ref C) (.ref C) = some true
  ex : ∃ (fI : Addr) (fd : FuncData) (ps : List Str), PySem.W.findIn K (.ref C) "__init__" = some (some (.ref fI)) ∧ PySem.W.typeIn K (.ref fI) = some (.type "function") ∧ FnOk P w K mg base CX0 k fI fd ps (spXi K C fl) ∧ Binds K fd ps []
section
variable {X : Cx} {k j : Nat} {C : Addr} {fl x : Str} {p pos : Pos} {e : Expr} {es : List Expr} {ta : TA}
/-- the error: its own dict d, new, holds the field -/
def tRx (C : Addr) (fl : Str) (ta : TA) : L2.St → Hp → XK → Prop := fun σ H Q => ta σ H fun vs H1 => ∃ y, vs = [y] ∧ ∀ d H', Same H1 H' → H1 d = none → H' d = some (.xd [(fl, y)]) → Q (.ref C) (some d) H'
theorem pmk_x (T : ExcF X.prog X.w X.K X.mg X.base k x C fl) (hr : Room j X.A) (hk : k + 1 ≤ j) (hg : Gl X x) (ha : PA X (e :: es) ta)
    (hdb : (x == ("__debug__" : Str)) = false := by decide) (he : starEach (e :: es) X.env = (false, eval e X.env) :: starEach es X.env := by rfl) (hpl : (backTo pos (starEach es X.env)).any (·.1) = false := by rfl) :
    L2N.PMk X (.Call (.Name x p) (e :: es) [] pos) (tRx C fl ta) := by
  intro pins s σ H Q I h
  obtain ⟨oex, xf, hno, hm, te, fI, fd, ps, iC, tI, F1, hb⟩ := T
  obtain ⟨nm, q, N, bs, bm, sn, sub, ab, col, dd, k0, k1, k2, k3, k5, hC, hbm⟩ := oex.cls
  refine wpAny_Call_Name_kw (ld_glob I hg hm ?_ hdb)
  refine PySem.W.callWith_K (h₀ := X.base) I.ok.mod.kin oex.kC (thn (ha.run pos pins s σ H _ I h) fun us s1 ⟨vs, H1, I1, r1, y, ev, q1⟩ => ⟨I1.kIn, ?_⟩) he hpl
  subst ev
  show wpAny _ _ (call (.ref C) us) _ _ _
  obtain ⟨hp, g, dr, tk, os⟩ := s1
  have hsz : hp.objs.size ≤ hp.objs.size + 1 := Nat.le_succ _
  have hn : H1 (hp.objs.size + 1) = none := I1.hok.fresh hsz
  have hq : spXi X.K C fl [.ref (hp.objs.size + 1), y] (upd H1 (hp.objs.size + 1) (exo (hp.objs.size + 1) C none))
      (fun v H2 => v = .non ∧ ∃ d, H2 (hp.objs.size + 1) = some (exo (hp.objs.size + 1) C (some d)) ∧ H2 d = some (exd d [(fl, y)]) ∧ H1 d = none ∧ Q (.ref C) (some d) (upd (del H2 (hp.objs.size + 1)) d (.xd [(fl, y)]))) (fun _ _ _ => False) := by
    refine ⟨_, y, rfl, oex, hno, upd_same, fun dx hdx ne => ⟨rfl, dx, upd_same, ?_, ?_, q1 dx _ ?_ ?_ ?_⟩⟩
    · rw [upd_ne ne, upd_same]
    · rw [upd_ne ne] at hdx
      exact hdx
    · intro b o hbo
      rw [upd_ne ne] at hdx
      rw [upd_ne (ne_of_none hbo hdx), del_ne (ne_of_none hbo hn), upd_ne (ne_of_none hbo hn), upd_ne (ne_of_none hbo hdx), upd_ne (ne_of_none hbo hn)]
      exact hbo
    · rw [upd_ne ne] at hdx
      exact hdx
    · exact upd_same
  have kk : ∀ b o, hp.get? b = some o → ((hp.push (PySem.W.kdv_tup us)).push (PySem.HandSPX.excO C hp.objs.size)).get? b = some o := fun b o e => Heap.get?_push_of_some _ (Heap.get?_push_of_some _ e)
  have hget : ((hp.push (PySem.W.kdv_tup us)).push (PySem.HandSPX.excO C hp.objs.size)).get? (hp.objs.size + 1) = some (PySem.HandSPX.excO C hp.objs.size) := by heap_get
  have I2 : Inv X pins σ (upd H1 (hp.objs.size + 1) (exo (hp.objs.size + 1) C none)) ⟨(hp.push (PySem.W.kdv_tup us)).push (PySem.HandSPX.excO C hp.objs.size), g, dr, tk, os⟩ :=
    I1.laid (t' := tk) (a := hp.objs.size + 1) (o := exo (hp.objs.size + 1) C none) (h' := (hp.push (PySem.W.kdv_tup us)).push (PySem.HandSPX.excO C hp.objs.size)) kk hsz (exo_ok hget)
  have r2 : Vals (V.ref (hp.objs.size + 1) :: [y]) (Value.ref (hp.objs.size + 1) :: us) := .cons rfl r1
  have hl : (Value.ref (hp.objs.size + 1) :: us ++ []).length = ps.length := by
    have e := r2.length
    have e2 := F1.len _ _ _ _ hq
    rw [List.append_nil, ← e]
    exact e2
  have hus : us.length ≤ sizeLine := by
    rw [← Paired.length r1, sizeLine_eq]
    show 1 ≤ _
    omega
  have b2 := hb _ (Value.ref (hp.objs.size + 1) :: us) I2.kIn hl
  rw [List.append_nil] at b2
  refine wpAny_call (PySem.HandSPX.call_own F.excBase_ValueError (fun Y => PySem.HandSPX.refsVE_contains Y bm hbm) (I1.kIn _ _ hC) (PySem.W.looks_findIn I1.kIn iC) (fun self => PySem.W.bind_fn I1.kIn self tI) hus
    (codeAny_mono (F1.run _ X.stack _ _ ⟨Value.ref (hp.objs.size + 1) :: us, []⟩ (Value.ref (hp.objs.size + 1) :: us) _ _ (fun _ _ _ => False) ((hr.mono hk).make C us []) (I2.env0.make C us []) b2 r2 hq) fun r s' hq' => ?_))
  cases r with
  | error er => exact False.elim hq'
  | ok fl' =>
    cases fl' with
    | ret u =>
      obtain ⟨v, H2, os2, bare2, un2, hok2, rv, ev, d, ea, ed, hd1, q2⟩ := hq'
      subst ev
      obtain ⟨h2, g2, d2, t2, os'⟩ := s'
      obtain ⟨t0, G, J, kG, ge, hoe, na⟩ := mk_end0 (d2 := d2) (t2 := t2) I1 hsz kk un2 hok2 os2 bare2 ea ed hd1
      exact ⟨rv, ⟨hp.objs.size + 1, _, _, ⟨G, g2, d2, t2, os'⟩, _, .ref C, some d, rfl, J, kG, ge, hoe, ⟨rfl, rfl, fun vs hv => by cases hv; rfl⟩, rfl, rfl, na, rfl, bare2, raises_own oex.exC oex.tyC, q2⟩⟩
    | next => exact False.elim hq'
    | brk => exact False.elim hq'
    | cont => exact False.elim hq'
theorem ps_raiseX {W : WX} {pos2 : Pos} (T : ExcF X.prog X.w X.K X.mg X.base k x C fl) (hr : Room j X.A) (hk : k + 1 ≤ j) (hc : X.calm = true) (tk : L2N.Takes X W) (hg : Gl X x) (ha : PA X (e :: es) ta)
    (hdb : (x == ("__debug__" : Str)) = false := by decide) (he : starEach (e :: es) X.env = (false, eval e X.env) :: starEach es X.env := by rfl) (hpl : (backTo pos (starEach es X.env)).any (·.1) = false := by rfl) :
    PS X (.Raise (some (.Call (.Name x p) (e :: es) [] pos)) none pos2) (fun _ σ H => tRx C fl ta σ H fun cls d H' => W cls d σ H') := L2N.ps_raise hc tk (pmk_x T hr hk hg ha hdb he hpl)
theorem takesN0 : L2N.Takes X (fun _ _ _ _ => False) := fun u s' ⟨_, _, _, _, _, _, _, _, _, _, _, _, _, _, _, _, w⟩ => w.elim
theorem hot_of {a : Addr} {oe : Obj} {cls : Value} {d : Option Addr} {pn : List (Addr × Obj)} (hz : L2N.Zn cls d oe) (hf : ∃ vs, oe.data = .fields vs) : L2H.HotC (X.suite a ((a, oe) :: pn)) := by
  obtain ⟨vs, e⟩ := hf
  exact ⟨(a, oe), ⟨rfl, vs, e, hz.2.2 vs e⟩, List.mem_cons_self⟩
end

/-- a class made by its name in a try; sp: its __init__, which may raise -/
structure MakX (P : Program) (w : World) (K : PySem.W.Frag) (mg : Str → Option Value) (base : Heap) (k : Nat) (x : Str) (C : Addr) (sp : Sp) : Prop where
  ex : ∃ (f : Addr) (fd : FuncData) (ps : List Str), Mk K C f ∧ FnOk P w K mg base (L2N.CX P w) k f fd ps sp ∧ mg x = some (.ref C) ∧ Binds K fd ps []
theorem pe_mkX {X : Cx} {W : WX} {k j : Nat} {x : Str} {C : Addr} {sp : Sp} {p pos : Pos} {e : Expr} {es : List Expr} {t : TA} (c : MakX X.prog X.w X.K X.mg X.base k x C sp) (hr : Room j X.A) (hk : k + 1 ≤ j) (tk : L2N.Takes X W) (hg : Gl X x) (ha : PA X (e :: es) t)
    (hdb : (x == ("__debug__" : Str)) = false := by decide) (he : starEach (e :: es) X.env = (false, eval e X.env) :: starEach es X.env := by rfl) (hpl : (backTo pos (starEach es X.env)).any (·.1) = false := by rfl) :
    PE X (.Call (.Name x p) (e :: es) [] pos) (tMakeS C sp [] (WE W) t) := by
  obtain ⟨f, fd, ps, M, F, hm, b⟩ := c.ex
  exact pe_makeS M F (hr.mono hk) hg hm b .nil (fun σ => L2N.passAt tk σ) ha hdb he hpl
/-- a method called in a try, which may raise -/
structure MetX (P : Program) (w : World) (K : PySem.W.Frag) (mg : Str → Option Value) (base : Heap) (k : Nat) (C : Addr) (m : Str) (sp : Sp) : Prop where
  ex : ∃ (f : Addr) (fd : FuncData) (ps : List Str), Meth K C m f ∧ FnOk P w K mg base (L2N.CX P w) k f fd ps sp ∧ Binds K fd ps []
theorem pe_metX {X : Cx} {W : WX} {k j : Nat} {C : Addr} {m : Str} {sp : Sp} {pos apos : Pos} {o : Expr} {e : Expr} {es : List Expr} {ta : TE} {t : TA} {pl : Sem Bool} (c : MetX X.prog X.w X.K X.mg X.base k C m sp) (cl : Cls X.K C) (hr : Room j X.A) (hk : k ≤ j) (tk : L2N.Takes X W) (he : PE X o ta) (ha : PA X (e :: es) t)
    (hst : starEach (e :: es) X.env = (false, eval e X.env) :: starEach es X.env := by rfl) (hpl : (backTo pos (starEach es X.env)).any (·.1) = false := by rfl)
    (ht : eval (.Call (.Attribute o m apos) (e :: es) [] pos) X.env = (do
      let ov ← eval o X.env
      standAt apos.atName
      let (f, first) ← holding [ov] (getMethod ov m pl)
      callWith pos f first (backTo pos (starEach (e :: es) X.env)) (backToKw pos (keywordEach [] X.env))) := by rfl) :
    PE X (.Call (.Attribute o m apos) (e :: es) [] pos) (tMethS C m sp [] (WE W) ta t) := by
  obtain ⟨f, fd, ps, M, F, b⟩ := c.ex
  exact pe_methS (pl := pl) he cl M F (hr.mono hk) b .nil (fun σ => L2N.passAt tk σ) ha hst hpl ht

/-- a def of the module as it is called within an except suite -/
theorem fun_okH {P : Program} {w : World} {K : PySem.W.Frag} {mg : Str → Option Value} {base : Heap} {x qual : Str} {st : Stmt} {f : Addr} {fd : FuncData} {N ps : List Str} {k : Nat} {sp : Sp} (F : Fun K x qual st f fd) (S : FnScope N ps (defScope st)) (len : ∀ vs H Q E, sp vs H Q E → vs.length = ps.length)
    (hbody : ∀ (cdv : Value) (A : Around) (outer : List Env) (s : Shared) (H : Hp) (vs : List V) (Q : VK) (E : XK) (p : Addr × Obj), L2H.RoomH k (A.deeper (envOfC qual (defScope st) s.heap.objs.size f cdv)) → sp vs H Q E →
      ∃ t, PSs (L2H.cxH CX0 P w K mg base N qual (defScope st) f cdv A outer s H E p).nox (defBody st) t ∧ t { nx := fun _ H' => Q .non H', rt := Q } (start N vs) H) : L2H.FnH P w K mg base CX0 (k + 1) f fd ps sp := by
  obtain ⟨oc, od, kV, doc, pm, an, cdv, ct, osl, rfl, lk, hcd⟩ := F.ex
  refine L2H.fn_ofH lk hcd S len ?_
  intro A outer s H vs Q E p hot hr hsp
  obtain ⟨t, h, q⟩ := hbody cdv A outer s H vs Q E p hr hsp
  exact ⟨t, h.nox, q⟩

/-! ### the heap without q -/
def hid (q : Addr) (H : Hp) : Hp := fun b => if b = q then none else H b
theorem hid_same (q : Addr) (H : Hp) : Same (hid q H) H := fun b o h => by
  unfold hid at h
  split at h
  · cases h
  · exact h
theorem hid_keep {q : Addr} {H H' : Hp} (k : Keep q H H') : Same (hid q H) (hid q H') := fun b o h => by
  unfold hid at *
  by_cases e : b = q
  · rw [if_pos e] at h; cases h
  · rw [if_neg e] at h ⊢
    exact k.all b o h e
theorem hid_ne {q b : Addr} {H : Hp} (h : b ≠ q) : hid q H b = H b := if_neg h

/-! ### the sizes of texts -/
/-- printable signs -/
def Asc (z : Str) : Prop := ∀ c ∈ z.cps.toList, 32 ≤ c ∧ c ≤ 126
theorem asc_lt : ∀ c, c < 127 → 32 ≤ c → ((PySem.Builtin.Str.reprChar 34 c).all (fun d => decide (32 ≤ d ∧ d ≤ 126)) && (PySem.Builtin.Str.reprChar 39 c).all (fun d => decide (32 ≤ d ∧ d ≤ 126))) = true := by decide +kernel
theorem asc_repr {z : Str} (h : Asc z) : Asc (reprText z) := by
  have hq : reprQuote z = 34 ∨ reprQuote z = 39 := by
    unfold reprQuote
    split
    · exact .inl rfl
    · exact .inr rfl
  have ch : ∀ c ∈ z.cps.toList, ∀ d ∈ PySem.Builtin.Str.reprChar (reprQuote z) c, 32 ≤ d ∧ d ≤ 126 := fun c hc d hd => by
    have h1 := asc_lt c (by have := (h c hc).2; omega) (h c hc).1
    rw [Bool.and_eq_true] at h1
    rcases hq with e | e
    · rw [e] at hd
      exact of_decide_eq_true (List.all_eq_true.mp h1.1 d hd)
    · rw [e] at hd
      exact of_decide_eq_true (List.all_eq_true.mp h1.2 d hd)
  have qq : 32 ≤ reprQuote z ∧ reprQuote z ≤ 126 := by rcases hq with e | e <;> rw [e] <;> decide
  have key : ∀ (l : List Nat) (acc : Array Nat), (∀ c ∈ l, ∀ d ∈ PySem.Builtin.Str.reprChar (reprQuote z) c, 32 ≤ d ∧ d ≤ 126) → (∀ d ∈ acc.toList, 32 ≤ d ∧ d ≤ 126) → ∀ d ∈ (l.foldl (fun out c => out ++ (PySem.Builtin.Str.reprChar (reprQuote z) c).toArray) acc).toList, 32 ≤ d ∧ d ≤ 126 := by
    intro l
    induction l with
    | nil => intro acc _ ha; exact ha
    | cons c l ih =>
      intro acc hl ha
      refine ih _ (fun c' hc' => hl c' (List.mem_cons_of_mem _ hc')) fun d hd => ?_
      rw [Array.toList_append] at hd
      rcases List.mem_append.mp hd with hd | hd
      · exact ha d hd
      · exact hl c List.mem_cons_self d (by simpa using hd)
  intro d hd
  unfold reprText at hd
  have hd' : d ∈ ((z.cps.foldl (fun out c => out ++ (PySem.Builtin.Str.reprChar (reprQuote z) c).toArray) #[reprQuote z]).push (reprQuote z)).toList := hd
  rw [Array.toList_push, ← Array.foldl_toList] at hd'
  rcases List.mem_append.mp hd' with hd | hd
  · exact key _ _ ch (fun d hd => by
      have e : d = reprQuote z := by simpa using hd
      rw [e]; exact qq) d hd
  · have e : d = reprQuote z := by simpa using hd
    rw [e]; exact qq
theorem asc_ok {z : Str} (h : Asc z) : PyData.strOk z = true := by
  unfold PyData.strOk
  rw [← Array.all_toList, List.all_eq_true]
  intro c hc
  have := (h c hc).2
  exact decide_eq_true (by omega)
theorem asc_append {x y : Str} (hx : Asc x) (hy : Asc y) : Asc (x ++ y) := fun c hc => by
  have e : (x ++ y).cps = x.cps ++ y.cps := rfl
  rw [e, Array.toList_append] at hc
  rcases List.mem_append.mp hc with h | h
  · exact hx c h
  · exact hy c h

/-! ### a short text times a small number -/
def mulT (x : Str) (n : Int) : Str := if n < 1 then Str.empty else if (n == 1 || x.length == 0) = true then x else ⟨(List.replicate n.toNat x.cps).foldl (· ++ ·) #[]⟩
theorem rep_fold (x : Array Nat) : ∀ (n : Nat) (acc : Array Nat), ((List.replicate n x).foldl (· ++ ·) acc).size = acc.size + n * x.size ∧ ∀ c ∈ ((List.replicate n x).foldl (· ++ ·) acc).toList, c ∈ acc.toList ∨ c ∈ x.toList
  | 0, acc => ⟨by simp, fun c hc => .inl hc⟩
  | n + 1, acc => by
    obtain ⟨h1, h2⟩ := rep_fold x n (acc ++ x)
    rw [List.replicate_succ, List.foldl_cons]
    refine ⟨?_, fun c hc => ?_⟩
    · rw [h1, Array.size_append, Nat.add_mul]
      omega
    · rcases h2 c hc with h | h
      · rw [Array.toList_append] at h
        rcases List.mem_append.mp h with h | h
        · exact .inl h
        · exact .inr h
      · exact .inr h
theorem mulT_asc {x : Str} {n : Int} (h : Asc x) : Asc (mulT x n) := by
  unfold mulT
  split
  · intro c hc
    cases hc
  · split
    · exact h
    · intro c hc
      rcases (rep_fold x.cps n.toNat #[]).2 c hc with z | z
      · cases z
      · exact h c z
theorem mulT_len {x : Str} {n : Int} : (mulT x n).length ≤ n.toNat * x.length := by
  unfold mulT
  split
  · exact Nat.zero_le _
  · split
    · rename_i h1 h2
      exact Nat.le_mul_of_pos_left _ (by omega)
    · have h := (rep_fold x.cps n.toNat #[]).1
      show ((List.replicate n.toNat x.cps).foldl (· ++ ·) #[]).size ≤ n.toNat * x.cps.size
      rw [h]
      simp
theorem op_mulStr {X : Cx} : OpR X (binaryOp .Mult) (fun x y H Q => ∃ i n, x = .str i ∧ y = .int n ∧ 0 ≤ n ∧ n ≤ 1000 ∧ i.length ≤ 1000 ∧ Q (.str (mulT i n)) H) := by
  intro pins s σ H x y v u Q I rx ry h
  obtain ⟨i, n, rfl, rfl, h0, h1, hz, q⟩ := h
  obtain ⟨t, rfl⟩ := rx
  obtain ⟨t', rfl⟩ := ry
  have hb : n.toNat ≤ 1000 := by omega
  have hp : i.length * n.toNat ≤ 1000 * 1000 := Nat.mul_le_mul hz hb
  have hle := mulT_len (x := i) (n := n)
  rw [Nat.mul_comm] at hle
  have hline : 1000000 ≤ sizeLine := by decide
  refine PySem.P.mul_str ?_ ?_ ?_ ?_
  · rw [decide_eq_false (by omega : ¬ n < -(2 ^ 63 : Int)), decide_eq_false (by omega : ¬ n ≥ 2 ^ 63)]
    rfl
  · intro hn _ hc
    have h3 : (1000 : Int) ≤ (2 ^ 63 - 1) / n := by
      refine (Int.le_ediv_iff_mul_le (by omega)).mpr ?_
      omega
    omega
  · intro _ _
    unfold PySem.Builtin.Str.tooLong
    exact decide_eq_false (by omega)
  · unfold mulT at q hle
    by_cases c1 : n < 1
    · rw [if_pos c1] at q hle ⊢
      exact ⟨by decide, .str _, H, I.tok _, ⟨_, rfl⟩, q⟩
    · rw [if_neg c1] at q hle ⊢
      by_cases c2 : (n == 1 || i.length == 0) = true
      · rw [if_pos c2] at q ⊢
        exact ⟨.str i, H, I, ⟨_, rfl⟩, q⟩
      · rw [if_neg c2] at q hle ⊢
        exact ⟨by omega, .str _, H, I.tok _, ⟨_, rfl⟩, q⟩

section
variable {X : Cx} {x n : Str} {c : Value} {i : Nat} {body suite : List Stmt} {b₀ : Stmt} {np pos pos' : Pos} {tb : WX → TS} {ts : Addr → Value → Option Addr → TS} {Wout : WX}
/-- try .. except, what is raised said once for all ways -/
theorem ps_try_cut (hs : X.stack = X.env :: X.outer) (hf : X.env.frame = some X.env.locals) (hN : X.N.Nodup) (hi : X.N[i]? = some n) (hln : X.env.kindOf n = some .local) (hc : Names X x c) (tk : L2N.Takes X Wout)
    (hb : ∀ (W : WX) (pn : List (Addr × Obj)) (xe : Value → Shared → Prop), L2N.Takes (X.tr pn xe) W → PassesOwn (model X.prog X.w) X.A X.env xe → PSs (X.tr pn xe) body (tb W))
    (hsu : ∀ (a : Addr) (oe : Obj) (cls : Value) (d : Option Addr) (pn : List (Addr × Obj)), L2N.Zn cls d oe → (∃ vs, oe.data = .fields vs) → PSs (X.suite a ((a, oe) :: pn)) (b₀ :: suite) (ts a cls d)) :
    PS X (.Try body [.ExceptHandler (some (.Name x np)) (some n) (b₀ :: suite) pos'] [] [] pos) (fun D σ H => ∃ Ce : WX, (∀ cls d σ' H', Ce cls d σ' H' → wAs X.K c i ts Wout D cls d σ' H') ∧ tb Ce D σ H) :=
  L2N.ps_try_as (tb := fun W D σ H => ∃ Ce : WX, (∀ cls d σ' H', Ce cls d σ' H' → W cls d σ' H') ∧ tb Ce D σ H) hs hf hN hi hln hc tk
    (fun W pn xe tk po => ⟨fun pins s σ H D I ⟨Ce, imp, h⟩ => (hb Ce pn xe (tk.imp imp) po).run pins s σ H D I h⟩) hsu
end

/-- a def that may raise -/
theorem fun_okN {P : Program} {w : World} {K : PySem.W.Frag} {mg : Str → Option Value} {base : Heap} {x qual : Str} {st : Stmt} {f : Addr} {fd : FuncData} {N ps : List Str} {k : Nat} {sp : Sp} (F : Fun K x qual st f fd) (S : FnScope N ps (defScope st)) (len : ∀ vs H Q E, sp vs H Q E → vs.length = ps.length)
    (hbody : ∀ (cdv : Value) (A : Around) (outer : List Env) (s : Shared) (H : Hp) (vs : List V) (Q : VK) (E : XK), Room k (A.deeper (envOfC qual (defScope st) s.heap.objs.size f cdv)) → sp vs H Q E →
      ∃ t, PSs (cxOf (L2N.CX P w) P w K mg base N qual (defScope st) f cdv A outer s H E) (defBody st) t ∧ t { nx := fun _ H' => Q .non H', rt := Q } (start N vs) H) : FnOk P w K mg base (L2N.CX P w) (k + 1) f fd ps sp := by
  obtain ⟨oc, od, kV, doc, pm, an, cdv, ct, osl, rfl, lk, hcd⟩ := F.ex
  exact fn_of lk hcd S len fun A outer s H vs Q E hr hsp => hbody cdv A outer s H vs Q E hr hsp
end MG

/-! classmethods called in a try, by a keyword; a class called by a local name -/
namespace MG
open PySem PySem.Spec PyProof.Rows L2 ClX
section
variable {X : Cx} {CX : CXT} {k j : Nat} {C p g : Addr} {m : Str} {mc : Value} {sp : Sp} {o e : Expr} {es : List Expr} {pos apos : Pos} {ta : TE} {t : TA} {pl : Sem Bool}
theorem after_cm {pins : List (Addr × Obj)} {σ : L2.St} {H : Hp} {s : Shared} {q : Addr} {Q : VK} {E : XK} {us : List Value} {kw : List (Str × Value)} (I : Inv X ((q, PySem.W.methodObj (.ref g) (.ref C)) :: pins) σ H s) (hx : PassesAt CX X σ E)
    (run : codeAny (model X.prog X.w) X.A (.call (.ref g) ⟨.ref C :: us, kw⟩) (CR CX X.stack X.prog X.w H s Q E) s) : wpAny (model X.prog X.w) X.A (call (.ref q) us kw) (EP X pins σ Q) X.xe s := by
  have z : wpAny (model X.prog X.w) X.A (call (.ref q) us kw) (EP X ((q, PySem.W.methodObj (.ref g) (.ref C)) :: pins) σ Q) X.xe s := by
    refine wpAny_call (PySem.W.method_call (pin_at I) (codeAny_mono run fun r s' hq => ?_))
    match r, hq with
    | .error er, hq => exact hx _ H s er s' I hq
    | .ok (.ret u), hq => exact I.after hq
    | .ok .next, hq => exact False.elim hq
    | .ok .brk, hq => exact False.elim hq
    | .ok .cont, hq => exact False.elim hq
  exact thn z fun _ _ y => unpinE y
/-- C.m(..), m a classmethod that may raise, in a try -/
def tCMetS (C : Addr) (sp : Sp) (E : L2.St → XK) (ta : TE) (t : TA) : TE := fun σ H Q => ta σ H fun x H1 => x = .ref C ∧ t σ H1 fun vs H2 => sp (.ref C :: vs) H2 Q (E σ)
structure CmtX (P : Program) (w : World) (K : PySem.W.Frag) (mg : Str → Option Value) (base : Heap) (k : Nat) (C : Addr) (m : Str) (sp : Sp) : Prop where
  ex : ∃ (p g : Addr) (mc : Value) (fd : FuncData) (ps : List Str), CRead K C mc ∧ CMet K C mc m p g ∧ FnOk P w K mg base (L2N.CX P w) k g fd ps sp ∧ Binds K fd ps []
theorem pe_cmtX {W : WX} (c : CmtX X.prog X.w X.K X.mg X.base k C m sp) (hr : Room j X.A) (hk : k ≤ j) (tk : L2N.Takes X W) (he : PE X o ta) (ha : PA X (e :: es) t)
    (hst : starEach (e :: es) X.env = (false, eval e X.env) :: starEach es X.env := by rfl) (hpl : (backTo pos (starEach es X.env)).any (·.1) = false := by rfl)
    (ht : eval (.Call (.Attribute o m apos) (e :: es) [] pos) X.env = (do
      let ov ← eval o X.env
      standAt apos.atName
      let (f, first) ← holding [ov] (getMethod ov m pl)
      callWith pos f first (backTo pos (starEach (e :: es) X.env)) (backToKw pos (keywordEach [] X.env))) := by rfl) :
    PE X (.Call (.Attribute o m apos) (e :: es) [] pos) (tCMetS C sp (WE W) ta t) := by
  obtain ⟨p, g, mc, fd, ps, r, cm, F, b⟩ := c.ex
  refine ⟨fun pins s σ H Q I h => ?_⟩
  refine PySem.W.methodCall_KW (pl := pl) (thn (he.run pins s σ H _ I h) fun u s1 ⟨x, H1, I1, rx, ex, q⟩ => ?_) ht
  subst ex
  obtain rfl : u = Value.ref C := rx
  refine getmethcm_ok I1 r cm fun s2 I2 => ?_
  refine callwith_cm I2 (base_none I1 (Nat.le_refl _)) cm.fi (thn (ha.run pos _ s2 σ H1 _ I2 q) fun us s3 ⟨vs, H2, I3, rv, q2⟩ => ⟨⟨pin_at I3, I3.kIn⟩, ?_⟩) hst hpl
  have q3 : sp (.ref C :: vs ++ []) H2 Q (WE W σ) := by rw [List.append_nil]; exact q2
  exact after_cm I3 (L2N.passAt tk σ) ((F.raw b .nil) X.A X.stack s3 H2 (.ref C :: us) (.ref C :: vs) Q (WE W σ) (hr.mono hk) I3.env0 (.cons rfl rv) q3)
/-- C.m(k = v), where nothing is raised -/
def tCMetK (C : Addr) (sp : Sp) (n : Nat) (gV : List V → List V → List V) (ta : TE) (tk : TA) : TE := fun σ H Q => ta σ H fun x H1 => x = .ref C ∧ tk σ H1 fun zs H2 => zs.length = n ∧ sp (gV [.ref C] zs) H2 Q (fun _ _ _ => False)
structure CmtK (P : Program) (w : World) (K : PySem.W.Frag) (mg : Str → Option Value) (base : Heap) (k : Nat) (C : Addr) (m : Str) (sp : Sp) (ks : List Str) (gV : List V → List V → List V) : Prop where
  ex : ∃ (p g : Addr) (mc : Value) (fd : FuncData) (ps : List Str) (gf : List Value → List Value → List Value), CRead K C mc ∧ CMet K C mc m p g ∧ FnOk P w K mg base (L2N.CX P w) k g fd ps sp ∧ KBn K fd ps 1 ks gf gV
theorem passF {σ : L2.St} : PassesAt (L2N.CX X.prog X.w) X σ (fun _ _ _ => False) := fun _ _ _ _ _ _ ⟨_, _, _, _, _, _, _, _, _, _, _, _, z⟩ => z.elim
theorem pe_cmtK {kws : List Keyword} {ks : List Str} {gV : List V → List V → List V} {tk : TA} (c : CmtK X.prog X.w X.K X.mg X.base k C m sp ks gV) (hr : Room j X.A) (hk : k ≤ j) (he : PE X o ta) (hkw : PK X kws tk)
    (hall : (backToKw pos (keywordEach kws X.env)).all (·.1.isSome) = true := by rfl) (hks : (backToKw pos (keywordEach kws X.env)).filterMap (·.1) = ks := by rfl)
    (hpl : ((backTo pos (starEach [] X.env)).any (·.1) || (backToKw pos (keywordEach kws X.env)).any (·.1.isNone)) = false := by rfl)
    (ht : eval (.Call (.Attribute o m apos) [] kws pos) X.env = (do
      let ov ← eval o X.env
      standAt apos.atName
      let (f, first) ← holding [ov] (getMethod ov m pl)
      callWith pos f first (backTo pos (starEach [] X.env)) (backToKw pos (keywordEach kws X.env))) := by rfl) :
    PE X (.Call (.Attribute o m apos) [] kws pos) (tCMetK C sp ks.length gV ta tk) := by
  obtain ⟨p, g, mc, fd, ps, gf, r, cm, F, b⟩ := c.ex
  refine ⟨fun pins s σ H Q I h => ?_⟩
  refine PySem.W.methodCall_KW (pl := pl) (thn (he.run pins s σ H _ I h) fun u s1 ⟨x, H1, I1, rx, ex, q⟩ => ?_) ht
  subst ex
  obtain rfl : u = Value.ref C := rx
  refine getmethcm_ok I1 r cm fun s2 I2 => ?_
  refine PySem.W.callWith_of (P := PySem.W.MethP X.K s1.heap.objs.size g (.ref C)) hpl (PySem.W.keeps_M cm.fi) (PyProof.Rows.evalArgs_kw2_nil hall (thn (hkw.run pos _ s2 σ H1 _ I2 q) fun ws s3 ⟨zs, H2, I3, rz, hl, q2⟩ => ⟨⟨pin_at I3, I3.kIn⟩, ?_⟩))
  rw [hks]
  have hlw : ws.length = ks.length := rz.length.symm.trans hl
  exact after_cm I3 passF (F.run X.A X.stack s3 H2 ⟨.ref C :: [], ks.zip ws⟩ (gf [.ref C] ws) (gV [.ref C] zs) Q _ (hr.mono hk) I3.env0 (b.to s3 [.ref C] ws I3.kIn rfl hlw) (b.rel (.cons rfl .nil) rz) q2)
/-- cls(..), the class in slot i -/
def tMakeL (i : Nat) (C : Addr) (sp : Sp) (dvs : List V) (t : TA) : TE := fun σ H Q => σ[i]? = some (some (.ref C)) ∧ tMake C sp dvs E0 t σ H Q
theorem pe_mkL {y x : Str} {i : Nat} {q : Pos} {dvs : List V} (c : MakF X.prog X.w X.K X.mg X.base k y C sp dvs) (hr : Room j X.A) (hk : k + 1 ≤ j) (hN : X.N[i]? = some x) (hv : Vis X.env.scope x) (ha : PA X (e :: es) t)
    (hdb : (x == ("__debug__" : Str)) = false := by decide) (hcd : (x == ("__classdict__" : Str)) = false := by decide)
    (he : starEach (e :: es) X.env = (false, eval e X.env) :: starEach es X.env := by rfl) (hpl : (backTo pos (starEach es X.env)).any (·.1) = false := by rfl) : PE X (.Call (.Name x q) (e :: es) [] pos) (tMakeL i C sp dvs t) := by
  obtain ⟨f, fd, ps, ds, M, F, hm, b, d⟩ := c.ex
  refine ⟨fun pins s σ H Q I h => ?_⟩
  obtain ⟨hs, ht⟩ := h
  refine wpAny_Call_Name_kw (thn ((pe_var (pos := q) hN hv hdb hcd).run pins s σ H (fun v H1 => v = .ref C ∧ H1 = H) I ⟨.ref C, hs, rfl, rfl⟩) fun u s1 ⟨v, H1, I1, r1, q1⟩ => ?_)
  obtain ⟨rfl, rfl⟩ := q1
  cases r1
  refine PySem.W.callWith_K (h₀ := X.base) I.ok.mod.kin M.kp (thn (ha.run pos pins s1 σ _ _ I1 ht) fun us s2 ⟨vs, H2, I2, r, q⟩ => ⟨I2.kIn, ?_⟩) he hpl
  exact run_make M F (hr.mono hk) b d pass0 I2 r q
end

/-! ### comprehensions over a text -/
theorem lc_str {x : Str} {g : TG} {tt : TT} {te : TE} {vs : List Nat} {σ : L2.St} {H1 : Hp} {D : Addr} {Qd : Hp → Prop} (Pv : Nat → Hp → Prop) (h0 : Pv 0 (upd H1 D (.lst [])))
    (hs : ∀ i c H, x.cps[i]? = some c → Pv i H → g (.str ⟨#[c]⟩) (wipe σ vs) H fun σ2 H2 => wipe σ2 vs = wipe σ vs ∧ tt σ2 H2 fun b H3 =>
      if b = true then te σ2 H3 fun y H4 => ∃ acc, H4 D = some (.lst acc) ∧ acc.length < sizeLine ∧ Pv (i + 1) (upd H4 D (.lst (acc ++ [y]))) else Pv (i + 1) H3) (hd : ∀ H, Pv x.cps.size H → Qd H) :
    ∃ W : Nat → Nat → Hp → Prop, (∃ m, W 0 m (upd H1 D (.lst []))) ∧ ∀ i m H, W i m H →
      ((Its x).stop i H ∧ Qd H) ∨ ((Its x).go i H ∧ ∃ Nx : Hp → Prop, (∀ H', Nx H' → ∃ m', m' < m ∧ W (i + 1) m' H') ∧ ∀ v H', (Its x).yld i H v H' → g v (wipe σ vs) H' fun σ2 H2 => wipe σ2 vs = wipe σ vs ∧ tt σ2 H2 fun b H3 =>
        if b = true then te σ2 H3 fun y H4 => ∃ acc, H4 D = some (.lst acc) ∧ acc.length < sizeLine ∧ Nx (upd H4 D (.lst (acc ++ [y]))) else Nx H3) := by
  refine ⟨fun i m H => m = x.cps.size - i ∧ i ≤ x.cps.size ∧ Pv i H, ⟨x.cps.size, by simp, Nat.zero_le _, h0⟩, ?_⟩
  rintro i m H ⟨rfl, hi, p⟩
  by_cases hlt : i < x.cps.size
  · refine .inr ⟨hlt, Pv (i + 1), fun H' p' => ⟨x.cps.size - (i + 1), by omega, rfl, hlt, p'⟩, fun v H' y => ?_⟩
    obtain ⟨rfl, c, e, rfl⟩ := y
    exact hs i c _ e p
  · have e : i = x.cps.size := by omega
    subst e
    exact .inl ⟨Nat.le_refl _, hd H p⟩
/-- [e for c in z], c in slot j: ys are the items of the new list -/
def tMapS (j : Nat) (tl te : TE) : TE := fun σ H Q => tl σ H fun x H1 => ∃ (z : Str) (ys : List V), x = .str z ∧ ys.length = z.length ∧ z.length ≤ 100000 ∧
  (∀ (i : Nat) (c : Nat) (y : V) (H' : Hp), z.cps[i]? = some c → ys[i]? = some y → Same H1 H' → te ((σ.set j none).set j (some (.str ⟨#[c]⟩))) H' fun v H'' => v = y ∧ Same H' H'') ∧
  ∀ D H', Same H1 H' → H1 D = none → H' D = some (.lst ys) → Q (.ref D) H'
theorem map_coreS {te : TE} {j : Nat} {σ : L2.St} {H1 : Hp} {Q : VK} {z : Str} {ys : List V} (hn : ys.length = z.length) (hs : z.length ≤ 100000)
    (he : ∀ (i : Nat) (c : Nat) (y : V) (H' : Hp), z.cps[i]? = some c → ys[i]? = some y → Same H1 H' → te ((σ.set j none).set j (some (.str ⟨#[c]⟩))) H' fun v H'' => v = y ∧ Same H' H'')
    (k : ∀ D H', Same H1 H' → H1 D = none → H' D = some (.lst ys) → Q (.ref D) H') :
    tLc (fun _ H R => R (Its z) H) (gName j) tYes (tCut te) [j] σ H1 Q := by
  intro D hD
  refine lc_str (x := z) (fun i H' => Same H1 H' ∧ H' D = some (.lst (ys.take i))) ⟨fun c u h => by rw [upd_ne (ne_of_none h hD)]; exact h, upd_same⟩ ?_ ?_
  · rintro i c H' hi ⟨s, e⟩
    have hi2 : i < z.cps.size := (Array.getElem?_eq_some_iff.mp hi).1
    have hn' : ys.length = z.cps.size := hn
    have hy : ys[i]? = some ys[i] := List.getElem?_eq_getElem (by omega)
    refine ⟨wipe_one, _, he i c _ H' hi hy s, ?_⟩
    rintro v H2 ⟨rfl, s2⟩
    refine ⟨_, s2 _ _ e, ?_, ?_, ?_⟩
    · rw [List.length_take]
      exact Nat.lt_of_le_of_lt (m := 100000) (by omega) (by decide)
    · intro c o hc
      rw [upd_ne (ne_of_none hc hD)]
      exact s2 _ _ (s _ _ hc)
    · rw [upd_same, take_one hy]
  · rintro H' ⟨s, e⟩
    have hn' : ys.length = z.cps.size := hn
    rw [← hn', List.take_length] at e
    exact k D H' s hD e
theorem pe_mapS {X : Cx} {e : Expr} {tl te : TE} {j : Nat} (h : PE X e (tLc (iStr (tCut tl)) (gName j) tYes (tCut te) [j])) : PE X e (tMapS j tl te) := by
  refine pe_imp h fun σ H Q q => ?_
  refine ⟨_, q, ?_⟩
  rintro v H1 ⟨z, ys, rfl, hn, hs, he, k⟩
  exact ⟨z, rfl, map_coreS hn hs he k⟩
theorem cr_allK {X : Cx} {K : PySem.W.Frag} (hc : X.calm = true) (hK : X.K = K := by rfl) : CallR X (.builtin "all") (rAll K) := hK ▸ cr_all hc
end MG

namespace MG
open PySem PySem.Spec PyProof.Rows L2
/-- [e for x in range(..)], what an item changes told by P (of the new list's place and the turn) -/
def tMapRP (j : Nat) (ta : TA) (te : TE) : TE := fun σ H Q => ta σ H fun vs H1 => ∃ (m : Int) (ys : List V) (Pv : Addr → Nat → Hp → Prop), vs = [.int m] ∧ 0 ≤ m ∧ m ≤ 100000 ∧ (ys.length : Int) = m ∧
  (∀ D, H1 D = none → Pv D 0 (upd H1 D (.lst []))) ∧
  (∀ (D : Addr) (i : Nat) (y : V) (H' : Hp), ys[i]? = some y → Pv D i H' → H' D = some (.lst (ys.take i)) → te ((σ.set j none).set j (some (.int i))) H' fun v H'' => v = y ∧ H'' D = some (.lst (ys.take i)) ∧ Pv D (i + 1) (upd H'' D (.lst (ys.take (i + 1))))) ∧
  ∀ D H', H' D = some (.lst ys) → Pv D ys.length H' → Q (.ref D) H'
theorem map_coreRP {te : TE} {j : Nat} {σ : L2.St} {H1 : Hp} {Q : VK} {m : Nat} {ys : List V} {Pv : Addr → Nat → Hp → Prop} (hn : ys.length = m) (hs : m ≤ 100000) (h0 : ∀ D, H1 D = none → Pv D 0 (upd H1 D (.lst [])))
    (he : ∀ (D : Addr) (i : Nat) (y : V) (H' : Hp), ys[i]? = some y → Pv D i H' → H' D = some (.lst (ys.take i)) → te ((σ.set j none).set j (some (.int i))) H' fun v H'' => v = y ∧ H'' D = some (.lst (ys.take i)) ∧ Pv D (i + 1) (upd H'' D (.lst (ys.take (i + 1)))))
    (k : ∀ D H', H' D = some (.lst ys) → Pv D ys.length H' → Q (.ref D) H') :
    tLc (fun _ H R => R (Itr 0 m) H) (gName j) tYes (tCut te) [j] σ H1 Q := by
  intro D hD
  refine lc_range (lo := 0) (n := m) (fun i H' => H' D = some (.lst (ys.take i)) ∧ Pv D i H') ⟨upd_same, h0 D hD⟩ ?_ ?_
  · rintro i H' hi ⟨e, p⟩
    have hy : ys[i]? = some ys[i] := List.getElem?_eq_getElem (by omega)
    have e0 : (0 : Int) + (i : Int) = i := Int.zero_add _
    rw [e0]
    refine ⟨wipe_one, _, he D i _ H' hy p e, ?_⟩
    rintro v H2 ⟨rfl, e2, p2⟩
    refine ⟨_, e2, ?_, ?_, ?_⟩
    · rw [List.length_take]
      exact Nat.lt_of_le_of_lt (m := 100000) (by omega) (by decide)
    · rw [upd_same, take_one hy]
    · rw [take_one hy] at p2
      exact p2
  · rintro H' ⟨e, p⟩
    rw [← hn, List.take_length] at e
    rw [← hn] at p
    exact k D H' e p
theorem pe_mapRP {X : Cx} {e : Expr} {ta : TA} {te : TE} {j : Nat} (mono : ∀ σ H (Q Q' : List V → Hp → Prop), (∀ v H', Q v H' → Q' v H') → ta σ H Q → ta σ H Q')
    (h : PE X e (tLc (iRng1 ta) (gName j) tYes (tCut te) [j])) : PE X e (tMapRP j ta te) := by
  refine pe_imp h fun σ H Q q => ?_
  refine mono σ H _ _ ?_ q
  rintro vs H1 ⟨m, ys, Pv, rfl, h0, hm, hn, hp, he, k⟩
  exact ⟨m, rfl, by omega, by omega, map_coreRP (by omega) (by omega) hp he k⟩
end MG

/-! own errors held as values: made by position and by keyword, their fields read, asked by isinstance -/
namespace MG
open PySem PySem.Spec PyProof.Rows L2
/-! ### a class of errors called with keywords -/
section
open PySem.HandSPX
variable {prog : Program} {w : World} {A : Around} {E : Value → Shared → Prop} {R : Result → Shared → Prop} {h : Heap} {g : Array GenState} {d : Drawn} {t : Nat} {os : OsState}
variable {nm q : Str} {C N : Addr} {bs bm tl : List Value} {hdct : Bool} {sn : List Str} {sub : List Value} {ab : Bool} {col : Option Bool} {dd : Option Addr} {k0 k1 k2 k3 k5 : Option Value} {B newId initId : String} {rest : List Value} {kw : List (Str × Value)}
theorem xk_check {M : Model} (F : ExcBaseFacts B newId initId tl) (hT : ∀ X : String, bm.contains (.type X) = tl.contains (.type X)) {Q : Unit → Shared → Prop}
    (hC : h.get? C = some (excClassObj nm q C N bs bm hdct sn sub ab col dd k0 k1 k2 k3 k5 newId)) (hq : Q () ⟨h, g, d, t, os⟩) : wpAny M A (checkBuiltinCall newId ⟨.ref C :: rest, kw⟩) Q E ⟨h, g, d, t, os⟩ := by
  have hcont : (Value.ref C :: bm).contains (.type B) = true := by rw [List.contains_cons, hT, F.hasB, Bool.or_true]
  have hstar := F.noStar
  simp only [checkBuiltinCall, F.newKind, F.newSplit, F.newRow]
  repeat (first | refine wpAny_loadPart_at hC ?_ | (refine wpAny_isSubtype_exc hC ?_; rw [hcont]) | refine wpAny_staticBase_exc hC ?_ | refine wpAny_madeBy_exc hC ?_ | simp only [bne_self_eq_false, Bool.false_eq_true, if_false] | wp_step)
  exact hq
theorem xk_new (F : ExcBaseFacts B newId initId tl) (hT : ∀ X : String, bm.contains (.type X) = tl.contains (.type X))
    (hC : h.get? C = some (excClassObj nm q C N bs bm hdct sn sub ab col dd k0 k1 k2 k3 k5 newId))
    (hq : R (.ok (.ret (.ref (h.objs.size + 1)))) ⟨(h.push (PySem.W.kdv_tup rest)).push (excO C h.objs.size), g, d, t, os⟩) (hrest : rest.length ≤ sizeLine) :
    codeAny (model prog w) A (.builtin newId ⟨.ref C :: rest, kw⟩) R ⟨h, g, d, t, os⟩ := by
  have hends := F.ends
  have hcB : (Value.ref C :: bm).contains (.type B) = true := by rw [List.contains_cons, hT, F.hasB, Bool.or_true]
  have hcA : (Value.ref C :: bm).contains (.type "AttributeError") = false := by rw [List.contains_cons, hT, F.noAttr]; rfl
  have hcN : (Value.ref C :: bm).contains (.type "NameError") = false := by rw [List.contains_cons, hT, F.noName]; rfl
  refine codeAny_builtinAt F.entry ?_
  unfold Builtin.«BaseException.__new__»
  refine PySem.wpAt_bind ?_
  show PySem.wpAt _ _ _ (stack >>= _) _ _ _
  refine PySem.wpAt_bind (PySem.wpAt_stack fun p below => PySem.wpAt_of_wpAny ?_)
  wp_walk
  refine PySem.wpAt_of_wpAny ?_
  rw [F.owner]
  repeat (first | with_reducible refine wpAny_madeHere_exc F.canon hC ?_ | with_reducible refine wpAny_loadPart_at hC ?_ | (with_reducible refine wpAny_isSubtype_exc hC ?_; first | rw [hcB] | rw [hcA] | rw [hcN]) | wp_step)
  show R _ _
  rw [Heap.size_push]
  exact hq
theorem xk_type (F : ExcBaseFacts B newId initId tl) (hT : ∀ X : String, bm.contains (.type X) = tl.contains (.type X)) {fI : Addr} {Q : Fin → Shared → Prop}
    (hC : h.get? C = some (excClassObj nm q C N bs bm hdct sn sub ab col dd k0 k1 k2 k3 k5 newId))
    (hi : PySem.W.Looks (model prog w) h (typeLookup (.ref C) "__init__") (some (.ref fI))) (hb : ∀ self, PySem.W.Looks (model prog w) h (bindSpecial (.ref fI) self) (.ref fI, [self])) (hrest : rest.length ≤ sizeLine)
    (hq : codeAny (model prog w) A (.call (.ref fI) ⟨.ref (h.objs.size + 1) :: rest, kw⟩)
      (fun r s' => match r with | .ok (.ret v) => v = .none ∧ Q (.done (.ret (.ref (h.objs.size + 1)))) s' | .ok _ => False | .error e => E e s')
      ⟨(h.push (PySem.W.kdv_tup rest)).push (excO C h.objs.size), g, d, t, os⟩) :
    wpAny (model prog w) A (Builtin.«type.__call__» ⟨.ref C :: rest, kw⟩) Q E ⟨h, g, d, t, os⟩ := by
  repeat (first | with_reducible refine wpAny_loadPart_at hC ?_ | with_reducible refine wpAny_madeBy_exc hC ?_ | wp_step)
  refine codeAny_call_builtin_code (Code.quiet_builtin _ F.quiet) (xk_check F hT hC ?_)
  refine xk_new F hT hC ?_ hrest
  show wpAny _ _ _ _ _ _
  have k : ∀ b o, h.get? b = some o → ((h.push (PySem.W.kdv_tup rest)).push (excO C h.objs.size)).get? b = some o := fun b o e => Heap.get?_push_of_some _ (Heap.get?_push_of_some _ e)
  have hC₁ := k _ _ hC
  have hget : ((h.push (PySem.W.kdv_tup rest)).push (excO C h.objs.size)).get? (h.objs.size + 1) = some (excO C h.objs.size) := by heap_get
  have hcC : (Value.ref C :: bm).contains (.ref C) = true := by simp
  have i1 := hi.keeps k
  have b1 := (hb (.ref (h.objs.size + 1))).keeps k
  unfold isInstance
  repeat (first | with_reducible refine wpAny_loadPart_at hget ?_ | (with_reducible refine wpAny_isSubtype_exc hC₁ ?_; rw [hcC]) | wp_step)
  show wpAny _ _ (typeLookup (.ref C) _) _ _ _
  refine i1.at ?_
  refine wpAny_holding (wpAny_bind (b1.at ?_))
  refine wpAny_bind (wpAny_call (codeAny_mono hq fun r s' z => ?_))
  rcases r with e | (v | _ | _ | _) <;> first | exact z | exact z.elim | skip
  obtain ⟨rfl, z⟩ := z
  first
    | exact wpAny_pure (wpAny_pure z)
    | (wp_walk; exact z)
theorem xk_call (F : ExcBaseFacts B newId initId tl) (hT : ∀ X : String, bm.contains (.type X) = tl.contains (.type X)) {fI : Addr}
    (hC : h.get? C = some (excClassObj nm q C N bs bm hdct sn sub ab col dd k0 k1 k2 k3 k5 newId))
    (hi : PySem.W.Looks (model prog w) h (typeLookup (.ref C) "__init__") (some (.ref fI))) (hb : ∀ self, PySem.W.Looks (model prog w) h (bindSpecial (.ref fI) self) (.ref fI, [self])) (hrest : rest.length ≤ sizeLine)
    (hq : codeAny (model prog w) (A.under (.builtin "type.__call__" ⟨.ref C :: rest, kw⟩)) (.call (.ref fI) ⟨.ref (h.objs.size + 1) :: rest, kw⟩) (PySem.W.InitBack (h.objs.size + 1) R)
      ⟨(h.push (PySem.W.kdv_tup rest)).push (excO C h.objs.size), g, d, t, os⟩) :
    codeAny (model prog w) A (.call (.ref C) ⟨rest, kw⟩) R ⟨h, g, d, t, os⟩ := by
  have f1 := tc_lookup
  have f2 := tc_bind (.ref C)
  have hTy : (⟨h, g, d, t, os⟩ : Shared).TypeIs (.ref C) "type" := ⟨_, hC, rfl⟩
  refine codeAny_of_tree ?_
  show wpAny _ _ (callAny (.ref C) _) _ _ _
  repeat (any_goals (first | assumption | with_reducible refine wpAny_loadPart_at hC ?_ | wp_step))
  refine ⟨rfl, ?_⟩
  refine codeAny_call_builtin_at (Code.quiet_builtin _ (by decide +kernel)) entry_typeCall (wpAny_check_type_call_sub hC (xk_type F hT hC hi hb hrest ?_))
  refine codeAny_mono hq fun r s' z => ?_
  rcases r with e | (v | _ | _ | _) <;> exact z
end
end MG

namespace MG
open PySem PySem.Spec PyProof.Rows L2
/-- a built-in class of errors over which own ones stand -/
structure ExB (B newId initId : String) (tl : List Value) : Prop where
  fb : ExcBaseFacts B newId initId tl
  sf : StoreFacts B tl "object.__setattr__" "object"
/-- what an own class of errors says -/
structure ErC (K : PySem.W.Frag) (C : Addr) : Prop where
  cls : ∃ B newId initId tl, ExB B newId initId tl ∧ PySem.W.excInitIn K C tl newId = true ∧ PySem.W.excOver K C tl = true
  sa : PySem.W.findIn K (.ref C) "__setattr__" = some (some (.builtin "object.__setattr__"))
  exC : PySem.W.subIn K (.ref C) (.type "BaseException") = some true
  tyC : PySem.W.typeIn K (.ref C) = some (.type "type")
  kC : PySem.W.keepIn K (.ref C) = true
  ga : PySem.W.findIn K (.ref C) "__getattribute__" = some (some (.builtin "BaseException.__getattribute__"))
  gg : PySem.W.findIn K (.ref C) "__getattr__" = some none
  hd : PySem.W.hasDictIn K C = true
  ca : PySem.W.findIn K (.ref C) "__class__" = some (some (.builtin "object.__class__"))
  cn : PySem.W.specialIn K (.builtin "object.__class__") "__get__" = some (some (.builtin "getset_descriptor.__get__"))
  ct : PySem.W.takesIn K (.builtin "object.__class__") = some true
  mo : PySem.W.mroIn K C (.type "object") = some true
theorem ErC.look {K : PySem.W.Frag} {C : Addr} (T : ErC K C) : ∃ cd, PySem.W.clsIn K C = some cd ∧ cd.hasDict = true ∧ ∀ self, refuseLoop self "__setattr__" cd.mro = pure () := by
  obtain ⟨B, newId, initId, tl, eb, _, ho⟩ := T.cls
  obtain ⟨cd, hcd, h⟩ := PySem.W.any_some ho
  obtain ⟨cd', hcd', hd⟩ := PySem.W.any_some T.hd
  rw [hcd] at hcd'
  obtain rfl := Option.some.inj hcd'
  refine ⟨cd, hcd, hd, fun self => ?_⟩
  obtain ⟨nm, bs, mro, ns, qn, hdd, sn, sb, ab, col, del⟩ := cd
  dsimp only at h ⊢
  split at h
  · rename_i C' bm
    have h2 := (Bool.and_eq_true_iff.mp h).2
    exact PySem.W.excTail_pass self (eb.sf.passes self) _ (show PySem.W.excTail tl (.ref C' :: bm) = true from h2)
  · cases h
section
open Builtin Builtin.ObjectAttr PySem.HandSPX
variable {prog : Program} {w : World} {A : Around} {E : Value → Shared → Prop} {R : Result → Shared → Prop} {hp : Heap} {g : Array GenState} {d : Drawn} {t : Nat} {os : OsState}
theorem er_osa0 {K : PySem.W.Frag} {name : Str} {tk : Tok} {v : Value} {x C : Addr} {fv : Array Value} (T : ErC K C)
    (X : K.In hp) (hx : hp.get? x = some { cls := .ref C, data := .fields fv }) (ha : PySem.W.findIn K (.ref C) name = some none)
    (hq : ∀ h' tk' dx, (∀ b o, b ≠ x → hp.get? b = some o → h'.get? b = some o) → hp.objs.size ≤ dx → dx ≠ x → h'.get? x = some { cls := .ref C, dict := some dx, data := .fields fv } →
      h'.Ns1 dx (fun y => if y = name then some v else none) → R (.ok (.ret .none)) ⟨h', g, d, tk', os⟩) :
    codeAny (model prog w) A (.call (.builtin "object.__setattr__") ⟨[.ref x, .str name tk, v], []⟩) R ⟨hp, g, d, t, os⟩ := by
  obtain ⟨cd, hcd, hh, hm⟩ := T.look
  have I : PySem.W.InstAt hp x { cls := .ref C, data := .fields fv } C none := ⟨hx, rfl, rfl, trivial⟩
  have SF := PySem.F.store_object
  have hxs : x ≠ hp.objs.size := Nat.ne_of_lt (Heap.lt_size hx)
  have sub : PySem.W.Looks (model prog w) hp (isInstance (.ref x) (.type "object")) true := I.type.andThen (PySem.W.looks_mroIn X T.mo)
  refine codeAny_call_builtin SF.slot.plain SF.entry (@PySem.W.check_slot (model prog w) _ _ ⟨hp, g, d, t, os⟩ "object.__setattr__" "object" "__setattr__" (.ref x) [.str name tk, v] [] _ SF.kind SF.split sub (SF.args (.ref x) (.str name tk) v) ?_)
  have hmr : PySem.W.Looks (model prog w) hp (mroOf (.ref C)) cd.mro := (PySem.W.looks_clsIn X hcd).andThen .now
  have L3 : PySem.W.Looks (model prog w) hp (storeTaker? none) none := .now
  have hcls : PySem.W.Looks (model prog w) hp (classData C) cd := PySem.W.looks_clsIn X hcd
  rw [PySem.W.osa_eq, refuse_eq]
  refine wpAny_bind (wpAny_bind (I.type.at (wpAny_bind (hmr.at ?_))))
  rw [hm]
  refine wpAny_pure (wpAny_bind (I.type.at (wpAny_bind ((PySem.W.looks_findIn X ha).at (wpAny_bind (L3.at ?_))))))
  show wpAny _ _ (storeInOwnDict (.ref x) (.ref C) (.str name tk) name v false) _ _ _
  obtain ⟨nm, bs, mro, ns, qn, hd, sn, sb, ab, col, del⟩ := cd
  dsimp only at hh
  subst hh
  unfold storeInOwnDict ownDictForStores
  repeat (first | with_reducible refine PySem.HandSPX.store_in_new ?_ ?_ | with_reducible refine wpAny_loadPart_at hx ?_ | with_reducible refine hcls.at ?_ | wp_step)
  · exact ⟨_, #[], _, (Heap.get?_update_ne _ _ _ _ hxs.symm).trans (Heap.get?_push_at rfl rfl), rfl, fun e he => absurd he (by simp), fun _ => rfl⟩
  · intro h' tk' hn' hs
    have hx₁ : (hp.push { cls := .type "dict", data := .dict #[] }).get? x = some { cls := .ref C, data := .fields fv } := Heap.get?_push_of_some _ hx
    refine hq h' tk' hp.objs.size (fun b o hb ho => ?_) (Nat.le_refl _) hxs.symm ?_ hn'
    · exact (hs.2 b (Nat.ne_of_lt (Heap.lt_size ho))).trans ((Heap.get?_update_ne _ _ _ _ hb).trans (Heap.get?_push_of_some _ ho))
    · exact (hs.2 x hxs).trans (Heap.get?_update_self _ hx₁ rfl)
theorem er_osa1 {K : PySem.W.Frag} {name : Str} {tk : Tok} {v : Value} {x C dx : Addr} {fv : Array Value} {m0 : Str → Option Value} {nl : List Str} (T : ErC K C)
    (X : K.In hp) (hx : hp.get? x = some { cls := .ref C, dict := some dx, data := .fields fv }) (hns : hp.Ns1 dx m0) (hw : Within m0 nl) (hz : nl.length ≤ 1000)
    (ha : PySem.W.findIn K (.ref C) name = some none)
    (hq : ∀ h' tk', (∀ b o, b ≠ dx → hp.get? b = some o → h'.get? b = some o) → h'.Ns1 dx (fun y => if y = name then some v else m0 y) → R (.ok (.ret .none)) ⟨h', g, d, tk', os⟩) :
    codeAny (model prog w) A (.call (.builtin "object.__setattr__") ⟨[.ref x, .str name tk, v], []⟩) R ⟨hp, g, d, t, os⟩ := by
  obtain ⟨cd, hcd, hh, hm⟩ := T.look
  obtain ⟨oD, esD, epD, hoD, hdD, _⟩ := hns.count hw
  have I : PySem.W.InstAt hp x { cls := .ref C, dict := some dx, data := .fields fv } C (some oD) := ⟨hx, rfl, rfl, hoD⟩
  have SF := PySem.F.store_object
  have sub : PySem.W.Looks (model prog w) hp (isInstance (.ref x) (.type "object")) true := I.type.andThen (PySem.W.looks_mroIn X T.mo)
  refine codeAny_call_builtin SF.slot.plain SF.entry (@PySem.W.check_slot (model prog w) _ _ ⟨hp, g, d, t, os⟩ "object.__setattr__" "object" "__setattr__" (.ref x) [.str name tk, v] [] _ SF.kind SF.split sub (SF.args (.ref x) (.str name tk) v) ?_)
  have hmr : PySem.W.Looks (model prog w) hp (mroOf (.ref C)) cd.mro := (PySem.W.looks_clsIn X hcd).andThen .now
  have L3 : PySem.W.Looks (model prog w) hp (storeTaker? none) none := .now
  have hcls : PySem.W.Looks (model prog w) hp (classData C) cd := PySem.W.looks_clsIn X hcd
  rw [PySem.W.osa_eq, refuse_eq]
  refine wpAny_bind (wpAny_bind (I.type.at (wpAny_bind (hmr.at ?_))))
  rw [hm]
  refine wpAny_pure (wpAny_bind (I.type.at (wpAny_bind ((PySem.W.looks_findIn X ha).at (wpAny_bind (L3.at ?_))))))
  show wpAny _ _ (storeInOwnDict (.ref x) (.ref C) (.str name tk) name v false) _ _ _
  obtain ⟨nm, bs, mro, ns, qn, hd, sn, sb, ab, col, del⟩ := cd
  dsimp only at hh
  subst hh
  unfold storeInOwnDict ownDictForStores
  repeat (first | with_reducible refine PySem.OEX.store_in_old hns hw hz ?_ | with_reducible refine wpAny_loadPart_at hx ?_ | with_reducible refine hcls.at ?_ | wp_step)
  intro h' tk' hn' hs
  exact hq h' tk' (fun b o hb ho => (hs.2 b hb).trans ho) hn'
end
section
variable {X : Cx} {pins : List (Addr × Obj)} {σ : L2.St} {H : Hp} {s : Shared} {a C dx : Addr} {f : Str} {y : V} {u : Value} {fs : List (Str × V)} {Q : Unit → Shared → Prop} {E : Value → Shared → Prop} {A : Around}
/-- self.f = y, the first one -/
theorem er_new (T : ErC X.K C) (I : Inv X pins σ H s) (e : H a = some (exo a C none)) (hno : PySem.W.findIn X.K (.ref C) f = some none) (ry : RelV y u)
    (h : ∀ dx s', H dx = none → dx ≠ a → Inv X pins σ (upd (upd H dx (exd dx [(f, y)])) a (exo a C (some dx))) s' → Q () s') : wpAny (model X.prog X.w) A (setAttr (.ref a) f u) Q E s := by
  obtain ⟨t1, ho⟩ := exo_at I.hok e
  obtain ⟨hp, g, d, t, os⟩ := s
  refine PySem.W.set_plain I.kIn (ox := { cls := .ref C, dict := none, data := .fields #[.ref t1, .none, .none, .none, .bool false, .none] }) (od := none) ⟨ho, rfl, rfl, trivial⟩ T.sa ?_
  refine er_osa0 T I.kIn ho hno (fun h' tk' dx k dn dne hx hn => ?_)
  have hnd : H dx = none := I.hok.fresh dn
  have nd : ∀ {b : Addr} {o : Obj}, hp.get? b = some o → b ≠ dx := fun {b o} q => Nat.ne_of_lt (Nat.lt_of_lt_of_le (Heap.lt_size q) dn)
  have na : ∀ {b : Addr}, H b = none → b ≠ a := fun {b} n z => by
    rw [z, e] at n
    cases n
  have Un1 : Un X.fs [] H (upd (upd H dx (exd dx [(f, y)])) a (exo a C (some dx))) hp h' := {
    keep := fun b o q n _ _ => k b o (na n) q
    slot := fun b o q n _ _ => ⟨o.slots, k b o (na n) q⟩
    free := fun b o q n _ => by rw [upd_ne (na n), upd_ne (nd q)]; exact n
    there := fun b o q _ => by
      by_cases hb : b = a
      · exact ⟨_, by rw [hb]; exact hx⟩
      · exact ⟨o, k b o hb q⟩
    tups := fun b xs q => by rw [upd_ne (at_ne e q exo_tup), upd_ne (ne_of_none q hnd)]; exact q
    frzs := fun b o v q => by rw [upd_ne (at_ne e q exo_frz), upd_ne (ne_of_none q hnd)]; exact q
    tbls := fun b ps q => ⟨#[], by rw [upd_ne (at_ne e q exo_tbl), upd_ne (ne_of_none q hnd), q]; simp⟩ }
  refine h dx _ hnd dne (I.un (t' := tk') Un1 fun b o q => ?_)
  by_cases hb : b = a
  · subst hb
    rw [upd_same] at q
    cases q
    exact exo_ok hx
  · rw [upd_ne hb] at q
    by_cases hd : b = dx
    · subst hd
      rw [upd_same] at q
      cases q
      exact exd_ok hn (relO_put (fs := []) ry fun g => True.intro)
    · rw [upd_ne hd] at q
      exact (I.hok b o q).stay (fun c v hc z => k c v (by
          rcases hc with hc | hc
          · rw [hc]
            exact hb
          · exact at_ne e hc exo_own) z)
        (fun c hc => by rw [upd_ne (at_ne e hc exo_own), upd_ne (ne_of_none hc hnd)]; exact hc) (fun c xs hc => by rw [upd_ne (at_ne e hc exo_tup), upd_ne (ne_of_none hc hnd)]; exact hc)
/-- self.f = y, a further one -/
theorem er_old (T : ErC X.K C) (I : Inv X pins σ H s) (e : H a = some (exo a C (some dx))) (ed : H dx = some (exd dx fs)) (hl : fs.length ≤ 900) (hno : PySem.W.findIn X.K (.ref C) f = some none) (ry : RelV y u)
    (h : ∀ s', Inv X pins σ (upd H dx (exd dx ((f, y) :: fs))) s' → Q () s') : wpAny (model X.prog X.w) A (setAttr (.ref a) f u) Q E s := by
  obtain ⟨t1, ho⟩ := exo_at I.hok e
  obtain ⟨mA, hns, rel⟩ := exd_at I.hok ed
  have hw := within_of rel
  obtain ⟨hp, g, d, t, os⟩ := s
  obtain ⟨oD, _, _, hoD, _, _⟩ := hns.count hw
  refine PySem.W.set_plain I.kIn (ox := { cls := .ref C, dict := some dx, data := .fields #[.ref t1, .none, .none, .none, .bool false, .none] }) (od := some oD) ⟨ho, rfl, rfl, hoD⟩ T.sa ?_
  refine er_osa1 T I.kIn ho hns hw (by rw [List.length_map]; omega) hno (fun h' tk' k hn => ?_)
  have hd : ∃ o, h'.get? dx = some o := by
    obtain ⟨o, _, _, e', _⟩ := hn
    exact ⟨o, e'⟩
  exact h _ (I.write (t' := tk') (x := dx) (e := dx) (o := exd dx ((f, y) :: fs)) (by rw [ed]; exact True.intro) (.inl rfl) k hd (exd_ok hn (relO_put ry rel)))
end
/-- self.f = e, self an own error -/
def tOsE (K : PySem.W.Frag) (f : Str) (to te : TE) : TS := fun D σ H => te σ H fun y H1 => to σ H1 fun x H2 => ∃ a C : Addr, x = .ref a ∧ ErC K C ∧ PySem.W.findIn K (.ref C) f = some none ∧
  ((H2 a = some (exo a C none) ∧ ∀ dx, H2 dx = none → dx ≠ a → D.nx σ (upd (upd H2 dx (exd dx [(f, y)])) a (exo a C (some dx)))) ∨
    ∃ (dx : Addr) (fs : List (Str × V)), H2 a = some (exo a C (some dx)) ∧ H2 dx = some (exd dx fs) ∧ fs.length ≤ 900 ∧ D.nx σ (upd H2 dx (exd dx ((f, y) :: fs))))
theorem ps_osE {X : Cx} {o e : Expr} {to te : TE} {f : Str} {p' pos : Pos} (ho : PE X o to) (he : PE X e te) (hs : swapsWith e (some (.Attribute o f p')) pos.line X.env = pure false := by rfl) : PS X (.Assign [.Attribute o f p'] e pos) (tOsE X.K f to te) := by
  refine ⟨fun pins s σ H D I h => ?_⟩
  refine plainObj_wpAny_Assign_Attribute (thn (he.run pins s σ H _ I h) fun v s1 ⟨y, H1, I1, r1, q1⟩ => thn (ho.run pins s1 σ H1 _ I1 q1) fun u s2 ⟨x, H2, I2, r2, a, C, ex, T, hno, q⟩ => ?_) hs
  subst ex
  obtain rfl : u = Value.ref a := r2
  rcases q with ⟨ea, q⟩ | ⟨dx, fs, ea, ed, hl, q⟩
  · exact er_new T I2 ea hno r1 fun dx s' n ne J => ⟨σ, _, J, q dx n ne⟩
  · exact er_old T I2 ea ed hl hno r1 fun s' J => ⟨σ, _, J, q⟩
/-! ### made, held as values -/
/-- what stands at a: an error of the class C with these fields -/
def ErAt (C : Addr) (fs : List (Str × V)) (H : Hp) (a : Addr) : Prop := (fs = [] ∧ H a = some (exo a C none)) ∨ ∃ d, H a = some (exo a C (some d)) ∧ H d = some (exd d fs)
theorem ErAt.same {C a : Addr} {fs : List (Str × V)} {H H' : Hp} (h : ErAt C fs H a) (s : Same H H') : ErAt C fs H' a := by
  rcases h with ⟨e, h⟩ | ⟨d, h1, h2⟩
  · exact .inl ⟨e, s _ _ h⟩
  · exact .inr ⟨d, s _ _ h1, s _ _ h2⟩
/-- the __init__ of such a class -/
def spEr (K : PySem.W.Frag) (C : Addr) (fls : List Str) : Sp := fun vs H Q _ => ∃ (a : Addr) (ys : List V), vs = .ref a :: ys ∧ ys.length = fls.length ∧ ErC K C ∧ (∀ f ∈ fls, PySem.W.findIn K (.ref C) f = some none) ∧ H a = some (exo a C none) ∧
  ∀ dx H', H dx = none → dx ≠ a → (∀ b o, H b = some o → b ≠ a → H' b = some o) → H' a = some (exo a C (some dx)) → H' dx = some (exd dx (fls.zip ys).reverse) → Q .non H'
theorem er_vrev {xs : List V} {us : List Value} (r : Vals xs us) : Vals xs.reverse us.reverse := by
  induction r with
  | nil => exact .nil
  | cons h t ih =>
    rw [List.reverse_cons, List.reverse_cons]
    exact ih.append (.cons h .nil)
structure MkE (P : Program) (w : World) (K : PySem.W.Frag) (mg : Str → Option Value) (base : Heap) (k : Nat) (x : Str) (C : Addr) (fls : List Str) : Prop where
  er : ErC K C
  no : ∀ f ∈ fls, PySem.W.findIn K (.ref C) f = some none
  g : mg x = some (.ref C)
  few : fls.length ≤ 2
  ex : ∃ (fI : Addr) (fd : FuncData) (ps : List Str), PySem.W.findIn K (.ref C) "__init__" = some (some (.ref fI)) ∧ PySem.W.typeIn K (.ref fI) = some (.type "function") ∧ FnOk P w K mg base CX0 k fI fd ps (spEr K C fls) ∧ Binds K fd ps [] ∧
    KBn K fd ps 1 fls.reverse (fun us ws => us ++ ws.reverse) (fun vs zs => vs ++ zs.reverse)
def tMkE (C : Addr) (fls : List Str) (ta : TA) : TE := fun σ H Q => ta σ H fun vs H1 => vs.length = fls.length ∧ ∀ a H', Same H1 H' → H1 a = none → ErAt C (fls.zip vs).reverse H' a → Q (.ref a) H'
def tMkEK (C : Addr) (fls : List Str) (tk : TA) : TE := fun σ H Q => tk σ H fun zs H1 => zs.length = fls.length ∧ ∀ a H', Same H1 H' → H1 a = none → ErAt C (fls.zip zs.reverse).reverse H' a → Q (.ref a) H'
section
variable {X : Cx} {k j : Nat} {C : Addr} {fls : List Str} {x : Str} {p pos : Pos} {e : Expr} {es : List Expr} {kws : List Keyword} {ta tk : TA}
/-- the call of the class: rest by position, kw by name; all of them ys in the order of the fields -/
theorem er_run {pins : List (Addr × Obj)} {σ : L2.St} {H1 : Hp} {Q : VK} {s1 : Shared} {us : List Value} {kw : List (Str × Value)} {ys : List V} {ws : List Value} (c : MkE X.prog X.w X.K X.mg X.base k x C fls) (hr : Room j X.A) (hk : k + 1 ≤ j) (I1 : Inv X pins σ H1 s1)
    (hl : ys.length = fls.length) (hu : us.length ≤ 10) (rv : Vals ys ws) (hb : ∀ (fI : Addr) (fd : FuncData) (ps : List Str), FnOk X.prog X.w X.K X.mg X.base CX0 k fI fd ps (spEr X.K C fls) → Binds X.K fd ps [] → KBn X.K fd ps 1 fls.reverse (fun us ws => us ++ ws.reverse) (fun vs zs => vs ++ zs.reverse) →
      ∀ (a : Addr) (s : Shared), X.K.In s.heap → (a :: ys.map fun _ => a).length = ps.length → BindsTo s fd ⟨.ref a :: us, kw⟩ (ps.zip (.ref a :: ws)))
    (q1 : ∀ a H', Same H1 H' → H1 a = none → ErAt C (fls.zip ys).reverse H' a → Q (.ref a) H') : wpAny (model X.prog X.w) X.A (call (.ref C) us kw) (EP X pins σ Q) X.xe s1 := by
  obtain ⟨er, hno, hm, few, fI, fd, ps, iC, tI, F1, b1, b2⟩ := c
  obtain ⟨B, newId, initId, tl, eb, hin, _⟩ := er.cls
  obtain ⟨hp, g, dr, tk, os⟩ := s1
  obtain ⟨nm, N, q, bs, bm, hdct, sn, sub, ab, col, dd, k0, k1, k2, k3, k5, hC, hT⟩ := PySem.W.excInit_of (h := hp) I1.kIn hin
  have hsz : hp.objs.size ≤ hp.objs.size + 1 := Nat.le_succ _
  have hn : H1 (hp.objs.size + 1) = none := I1.hok.fresh hsz
  have hq : spEr X.K C fls (.ref (hp.objs.size + 1) :: ys) (upd H1 (hp.objs.size + 1) (exo (hp.objs.size + 1) C none)) (fun v H2 => v = .non ∧ Q (.ref (hp.objs.size + 1)) H2) (fun _ _ _ => False) := by
    refine ⟨_, ys, rfl, hl, er, hno, upd_same, fun dx H' hdx ne hkeep ha hd => ⟨rfl, q1 _ H' (fun b o hbo => ?_) hn (.inr ⟨dx, ha, hd⟩)⟩⟩
    have nb := ne_of_none hbo hn
    exact hkeep b o (by rw [upd_ne nb]; exact hbo) nb
  have kk : ∀ b o, hp.get? b = some o → ((hp.push (PySem.W.kdv_tup us)).push (PySem.HandSPX.excO C hp.objs.size)).get? b = some o := fun b o e => Heap.get?_push_of_some _ (Heap.get?_push_of_some _ e)
  have hget : ((hp.push (PySem.W.kdv_tup us)).push (PySem.HandSPX.excO C hp.objs.size)).get? (hp.objs.size + 1) = some (PySem.HandSPX.excO C hp.objs.size) := by heap_get
  have I2 : Inv X pins σ (upd H1 (hp.objs.size + 1) (exo (hp.objs.size + 1) C none)) ⟨(hp.push (PySem.W.kdv_tup us)).push (PySem.HandSPX.excO C hp.objs.size), g, dr, tk, os⟩ :=
    I1.laid (t' := tk) (a := hp.objs.size + 1) (o := exo (hp.objs.size + 1) C none) (h' := (hp.push (PySem.W.kdv_tup us)).push (PySem.HandSPX.excO C hp.objs.size)) kk hsz (exo_ok hget)
  have r2 : Vals (V.ref (hp.objs.size + 1) :: ys) (Value.ref (hp.objs.size + 1) :: ws) := .cons rfl rv
  have hlen := F1.len _ _ _ _ hq
  have hus : us.length ≤ sizeLine := Nat.le_trans hu (by decide)
  refine wpAny_call (xk_call eb.fb hT hC (PySem.W.looks_findIn I1.kIn iC) (fun self => PySem.W.bind_fn I1.kIn self tI) hus
    (codeAny_mono (F1.run _ X.stack _ _ ⟨Value.ref (hp.objs.size + 1) :: us, kw⟩ (Value.ref (hp.objs.size + 1) :: ws) _ _ (fun _ _ _ => False) ((hr.mono hk).make C us kw) (I2.env0.make C us kw)
      (hb fI fd ps F1 b1 b2 _ _ I2.kIn (by rw [← hlen]; simp)) r2 hq) fun r s' hq' => ?_))
  cases r with
  | error er => exact False.elim hq'
  | ok fl' =>
    cases fl' with
    | ret u =>
      obtain ⟨v, H', I3, rv', ev, q3⟩ := I2.after hq'
      subst ev
      exact ⟨rv', ⟨V.ref (hp.objs.size + 1), H', I3, rfl, q3⟩⟩
    | next => exact False.elim hq'
    | brk => exact False.elim hq'
    | cont => exact False.elim hq'
theorem pe_mkE (c : MkE X.prog X.w X.K X.mg X.base k x C fls) (hr : Room j X.A) (hk : k + 1 ≤ j) (hg : Gl X x) (ha : PA X (e :: es) ta)
    (hdb : (x == ("__debug__" : Str)) = false := by decide) (he : starEach (e :: es) X.env = (false, eval e X.env) :: starEach es X.env := by rfl) (hpl : (backTo pos (starEach es X.env)).any (·.1) = false := by rfl) :
    PE X (.Call (.Name x p) (e :: es) [] pos) (tMkE C fls ta) := by
  refine ⟨fun pins s σ H Q I h => ?_⟩
  refine wpAny_Call_Name_kw (ld_glob I hg c.g ?_ hdb)
  refine PySem.W.callWith_K (h₀ := X.base) I.ok.mod.kin c.er.kC (thn (ha.run pos pins s σ H _ I h) fun us s1 ⟨vs, H1, I1, r1, hl, q1⟩ => ⟨I1.kIn, ?_⟩) he hpl
  refine er_run c hr hk I1 hl ?_ r1 (fun fI fd ps F1 b1 b2 a s hi hln => ?_) q1
  · show us.length ≤ 10
    rw [← Paired.length r1, hl]
    exact Nat.le_trans c.few (by decide)
  · have hl2 : (Value.ref a :: us ++ []).length = ps.length := by
      rw [← hln, List.append_nil, List.length_cons, List.length_cons, List.length_map, Paired.length r1]
    have z := b1 s (Value.ref a :: us) hi hl2
    rw [List.append_nil] at z
    exact z
theorem pe_mkEK (c : MkE X.prog X.w X.K X.mg X.base k x C fls) (hr : Room j X.A) (hk : k + 1 ≤ j) (hg : Gl X x) (hkw : PK X kws tk)
    (hall : (backToKw pos (keywordEach kws X.env)).all (·.1.isSome) = true := by rfl) (hks : (backToKw pos (keywordEach kws X.env)).filterMap (·.1) = fls.reverse := by rfl) (hdb : (x == ("__debug__" : Str)) = false := by decide)
    (hpl : ((backTo pos (starEach [] X.env)).any (·.1) || (backToKw pos (keywordEach kws X.env)).any (·.1.isNone)) = false := by rfl) :
    PE X (.Call (.Name x p) [] kws pos) (tMkEK C fls tk) := by
  refine ⟨fun pins s σ H Q I h => ?_⟩
  refine wpAny_Call_Name_kw (ld_glob I hg c.g ?_ hdb)
  refine PySem.W.callWith_KW0 (h₀ := X.base) I.ok.mod.kin c.er.kC hall ?_ hpl
  refine thn (hkw.run pos pins s σ H _ I h) fun ws s2 ⟨zs, H2, I2, rz, hl, q2⟩ => ⟨I2.kIn, ?_⟩
  rw [hks]
  refine er_run (us := []) (ys := zs.reverse) (ws := ws.reverse) c hr hk I2 (by rw [List.length_reverse]; exact hl) (Nat.zero_le _) (er_vrev rz) (fun fI fd ps F1 b1 b2 a s hi hln => ?_) q2
  exact b2.to s [Value.ref a] ws hi rfl (by rw [← Paired.length rz, List.length_reverse]; exact hl)
end

/-! ### made without anything -/
structure MkN (K : PySem.W.Frag) (mg : Str → Option Value) (x : Str) (C : Addr) : Prop where
  er : ErC K C
  g : mg x = some (.ref C)
  ini : ∃ B newId initId tl, ExB B newId initId tl ∧ PySem.W.excInitIn K C tl newId = true ∧ PySem.W.findIn K (.ref C) "__init__" = some (some (.builtin initId))
def tMk0 (C : Addr) : TE := fun _ H Q => ∀ a H', Same H H' → H a = none → ErAt C [] H' a → Q (.ref a) H'
theorem pe_mk0 {X : Cx} {x : Str} {C : Addr} {p pos : Pos} (c : MkN X.K X.mg x C) (hg : Gl X x) (hdb : (x == ("__debug__" : Str)) = false := by decide) : PE X (.Call (.Name x p) [] [] pos) (tMk0 C) := by
  refine ⟨fun pins s σ H Q I h => ?_⟩
  obtain ⟨B, newId, initId, tl, eb, hin, hi⟩ := c.ini
  refine wpAny_Call_Name_kw (ld_glob I hg c.g ?_ hdb)
  refine PySem.W.callWith_K0 I.kIn c.er.kC ?_
  obtain ⟨hp, g, dr, tk, os⟩ := s
  obtain ⟨nm, N, q, bs, bm, hdct, sn, sub, ab, col, dd, k0, k1, k2, k3, k5, hC, hT⟩ := PySem.W.excInit_of (h := hp) I.kIn hin
  refine PySem.W.call_B eb.fb hT hC (PySem.W.looks_findIn I.kIn hi) (Nat.zero_le _) fun h' k e' t' => ?_
  have I2 : Inv X pins σ (upd H (hp.objs.size + 1) (exo (hp.objs.size + 1) C none)) ⟨h', g, dr, tk, os⟩ :=
    I.laid (t' := tk) (a := hp.objs.size + 1) (o := exo (hp.objs.size + 1) C none) (h' := h') k (Nat.le_succ _) (exo_ok e')
  have hn : H (hp.objs.size + 1) = none := I.hok.fresh (Nat.le_succ _)
  exact ⟨.ref (hp.objs.size + 1), _, I2, rfl, h _ _ (MG.Same.new (Same.refl H) hn) hn (.inl ⟨rfl, upd_same⟩)⟩
/-! ### read, asked -/
def tErG (K : PySem.W.Frag) (f : Str) (te : TE) : TE := fun σ H Q => te σ H fun x H1 => ∃ (a C d : Addr) (fs : List (Str × V)) (v : V), x = .ref a ∧ ErC K C ∧ PySem.W.findIn K (.ref C) f = some none ∧ H1 a = some (exo a C (some d)) ∧ H1 d = some (exd d fs) ∧ fs.lookup f = some v ∧ Q v H1
theorem pe_erG {X : Cx} {e : Expr} {te : TE} {pos : Pos} {n : Str} (he : PE X e te) (hb : attributeBase e n X.env (eval e X.env) = eval e X.env := by rfl) : PE X (.Attribute e n pos) (tErG X.K n te) := by
  refine ⟨fun pins s σ H Q I h => ?_⟩
  refine attr_of hb (thn (he.run pins s σ H _ I h) fun u s1 hh => ?_)
  obtain ⟨x, H1, I1, rx, a, C, d, fs, v, ex, T, hno, ea, ed, l, q⟩ := hh
  subst ex
  obtain rfl : u = Value.ref a := rx
  obtain ⟨t1, ho⟩ := exo_at I1.hok ea
  obtain ⟨mA, hns, hr⟩ := exd_at I1.hok ed
  obtain ⟨od, hod, hl⟩ := lookIn_ns hns
  obtain ⟨u, hu, ru⟩ := RelO.some_of (v := v) (o := mA n) (by rw [← l]; exact hr n)
  have J : PySem.W.InstAt s1.heap a { cls := .ref C, dict := some d, data := .fields #[.ref t1, .none, .none, .none, .bool false, .none] } C (some od) := ⟨ho, rfl, rfl, hod⟩
  exact HandSPX.exc_get I1.kIn J T.ga T.gg T.exC (PySem.W.findObj_own T.hd hno rfl (by rw [hl, hu])) (handed_of ru) ⟨v, H1, I1.tok _, ru, q⟩
theorem pe_erGK {X : Cx} {K : PySem.W.Frag} {e : Expr} {te : TE} {pos : Pos} {n : Str} (he : PE X e te) (hK : X.K = K := by rfl) (hb : attributeBase e n X.env (eval e X.env) = eval e X.env := by rfl) : PE X (.Attribute e n pos) (tErG K n te) := by
  subst hK
  exact pe_erG he hb
def rIsEr (K : PySem.W.Frag) : List V → Hp → VK → Prop := fun xs H Q => ∃ (a C : Addr) (fs : List (Str × V)) (c : V) (cv : Value) (b : Bool), xs = [.ref a, c] ∧ ErC K C ∧ ErAt C fs H a ∧ (∀ u, RelV c u → u = cv) ∧ PySem.W.kitOne K (.ref C) cv = some b ∧ Q (.bl b) H
theorem ErC.kit {K : PySem.W.Frag} {C x : Addr} (T : ErC K C) (ox : Obj) (od : Option Obj) : PySem.W.KitX K (.ref x) (.ref C) (fun h => PySem.W.InstAt h x ox C od) := by
  obtain ⟨cd, hcd, _⟩ := T.look
  exact PySem.W.kitx_exc (by rw [hcd]; rfl) T.ga T.gg T.exC T.ca T.cn T.ct T.mo
theorem call_isEr {X : Cx} : CallR X (.builtin "isinstance") (rIsEr X.K) := by
  intro pins s σ H xs us Q I r h
  obtain ⟨a, C, fs, c, cv, b, rfl, T, ea, hcv, e, q⟩ := h
  cases r with
  | cons rx rr =>
    cases rr with
    | cons rt rr =>
      cases rr
      cases rx
      have ec := hcv _ rt
      subst ec
      rcases ea with ⟨_, ea⟩ | ⟨d, ea, ed⟩
      · obtain ⟨t1, ho⟩ := exo_at I.hok ea
        have J : PySem.W.InstAt s.heap a { cls := .ref C, dict := none, data := .fields #[.ref t1, .none, .none, .none, .bool false, .none] } C none := ⟨ho, rfl, rfl, trivial⟩
        exact PySem.W.kia_one (T.kit _ _) I.kIn J e (fun z => nomatch z) fun tk => ⟨.bl b, H, I.kept (t' := tk) fun _ _ z => z, rfl, q⟩
      · obtain ⟨t1, ho⟩ := exo_at I.hok ea
        obtain ⟨mA, hns, hr⟩ := exd_at I.hok ed
        obtain ⟨od, hod, hl⟩ := lookIn_ns hns
        have J : PySem.W.InstAt s.heap a { cls := .ref C, dict := some d, data := .fields #[.ref t1, .none, .none, .none, .bool false, .none] } C (some od) := ⟨ho, rfl, rfl, hod⟩
        exact PySem.W.kia_one (T.kit _ _) I.kIn J e (fun z => nomatch z) fun tk => ⟨.bl b, H, I.kept (t' := tk) fun _ _ z => z, rfl, q⟩
end MG

/-! comprehensions whose items make objects; operators that may raise, in a try; lcm -/
namespace MG
open PySem PySem.Spec PyProof.Rows L2
/-! ### the heap without one object -/
section
variable {D q : Addr} {H H' : Hp} {o : HO}
theorem hid_upd : hid D (upd H D o) = hid D H := funext fun b => by
  unfold hid
  by_cases e : b = D
  · rw [if_pos e, if_pos e]
  · rw [if_neg e, if_neg e, upd_ne e]
theorem hid_none (h : H D = none) : Same H (hid D H) := fun b u e => by
  rw [hid_ne (ne_of_none e h)]
  exact e
theorem hid_mono (s : Same H H') : Same (hid D H) (hid D H') := fun b u e => by
  unfold hid at *
  by_cases n : b = D
  · rw [if_pos n] at e; cases e
  · rw [if_neg n] at e ⊢
    exact s _ _ e
theorem hid_self : hid D H D = none := if_pos rfl
theorem keep_hid (k : Keep q H H') (n : q ≠ D) : Keep q (hid D H) (hid D H') := ⟨fun b u e m => by
  unfold hid at *
  by_cases z : b = D
  · rw [if_pos z] at e; cases e
  · rw [if_neg z] at e ⊢
    exact k.all _ _ e m, fun x l e => by
  rw [hid_ne n] at e ⊢
  exact k.hd x l e⟩
theorem keep_in (k : Keep q H H') (hD : H D = none) : Keep q H (hid D H') := ⟨fun b u e m => by
  rw [hid_ne (ne_of_none e hD)]
  exact k.all _ _ e m, fun x l e => by
  obtain ⟨l', e'⟩ := k.hd x l e
  exact ⟨l', by rw [hid_ne (ne_of_none e hD)]; exact e'⟩⟩
theorem keep_out (k : Keep q H (hid D H')) : Keep q H H' := k.same (hid_same D H')
end
/-! ### a comprehension by what holds of the items made so far -/
section
variable {J : It} {n : Nat} {G : Hp → Prop} {Y : Nat → Hp → V → Hp → Prop} {g : TG} {te : TE} {vs : List Nat} {σ : L2.St} {H1 : Hp} {D : Addr} {Q : VK}
/-- what a comprehension's list at D asks -/
def Lc (J : It) (g : TG) (tt : TT) (te : TE) (vs : List Nat) (σ : L2.St) (H1 : Hp) (Q : VK) (D : Addr) : Prop :=
  ∃ W : Nat → Nat → Hp → Prop, (∃ m, W 0 m (upd H1 D (.lst []))) ∧ ∀ i m H, W i m H →
    (J.stop i H ∧ Q (.ref D) H) ∨ (J.go i H ∧ ∃ Nx : Hp → Prop, (∀ H', Nx H' → ∃ m', m' < m ∧ W (i + 1) m' H') ∧ ∀ x H', J.yld i H x H' → g x (wipe σ vs) H' fun σ2 H2 => wipe σ2 vs = wipe σ vs ∧ tt σ2 H2 fun b H3 =>
      if b = true then te σ2 H3 fun y H4 => ∃ acc, H4 D = some (.lst acc) ∧ acc.length < sizeLine ∧ Nx (upd H4 D (.lst (acc ++ [y]))) else Nx H3)
def tLcI (wi : TI) (g : TG) (tt : TT) (te : TE) (vs : List Nat) : TE := fun σ H Q => wi σ H fun J H1 => ∀ D, H1 D = none → Lc J g tt te vs σ H1 Q D
theorem pe_lcI {X : Cx} {e : Expr} {wi : TI} {g : TG} {tt : TT} {te : TE} {vs : List Nat} (h : PE X e (tLc wi g tt te vs)) : PE X e (tLcI wi g tt te vs) := h
theorem ps_lcI {X : Cx} {st : Stmt} {wi : TI} {g g2 : TG} {tt : TT} {te : TE} {vs : List Nat} (h : PS X st (tAsg (tLc wi g tt te vs) g2)) : PS X st (tAsg (tLcI wi g tt te vs) g2) := h
/-- two generators -/
def Lc2 (J : It) (g : TG) (tt : TT) (wi1 : TI) (g1 : TG) (tt1 : TT) (te : TE) (vs vs1 : List Nat) (σ : L2.St) (H1 : Hp) (Q : VK) (D : Addr) : Prop :=
  ∃ W : Nat → Nat → Hp → Prop, (∃ m, W 0 m (upd H1 D (.lst []))) ∧ ∀ i m H, W i m H →
  (J.stop i H ∧ Q (.ref D) H) ∨ (J.go i H ∧ ∃ Nx : Hp → Prop, (∀ H', Nx H' → ∃ m', m' < m ∧ W (i + 1) m' H') ∧ ∀ x H', J.yld i H x H' → g x (wipe σ vs) H' fun σ2 H2 => wipe σ2 vs = wipe σ vs ∧ tt σ2 H2 fun b H3 =>
    if b = true then wi1 σ2 H3 fun J1 H4 => ∃ W1 : Nat → Nat → Hp → Prop, (∃ m, W1 0 m H4) ∧ ∀ j k H, W1 j k H →
      (J1.stop j H ∧ Nx H) ∨ (J1.go j H ∧ ∃ Nx1 : Hp → Prop, (∀ H', Nx1 H' → ∃ k', k' < k ∧ W1 (j + 1) k' H') ∧ ∀ x H', J1.yld j H x H' → g1 x (wipe σ2 vs1) H' fun σ3 H5 => wipe σ3 vs1 = wipe σ2 vs1 ∧ tt1 σ3 H5 fun b H6 =>
        if b = true then te σ3 H6 fun y H7 => ∃ acc, H7 D = some (.lst acc) ∧ acc.length < sizeLine ∧ Nx1 (upd H7 D (.lst (acc ++ [y]))) else Nx1 H6)
    else Nx H3)
def tLc2I (wi : TI) (g : TG) (tt : TT) (wi1 : TI) (g1 : TG) (tt1 : TT) (te : TE) (vs vs1 : List Nat) : TE := fun σ H Q => wi σ H fun J H1 => ∀ D, H1 D = none → Lc2 J g tt wi1 g1 tt1 te vs vs1 σ H1 Q D
theorem pe_lc2I {X : Cx} {e : Expr} {wi wi1 : TI} {g g1 : TG} {tt tt1 : TT} {te : TE} {vs vs1 : List Nat} (h : PE X e (tLc2 wi g tt wi1 g1 tt1 te vs vs1)) : PE X e (tLc2I wi g tt wi1 g1 tt1 te vs vs1) := h
theorem lc_inv (w : Walk J n G Y) (hD : H1 D = none) (hn : n ≤ 100000) (Pv : Nat → List V → Hp → Prop) (h0 : Pv 0 [] (hid D H1)) (hG : ∀ i ys H, i ≤ n → Pv i ys (hid D H) → H D = some (.lst ys) → G H)
    (hs : ∀ i x ys H H', i < n → ys.length = i → Pv i ys (hid D H) → H D = some (.lst ys) → Y i H x H' → ∃ σ2, (∀ R : L2.St → Hp → Prop, R σ2 H' → g x (wipe σ vs) H' R) ∧ wipe σ2 vs = wipe σ vs ∧
      tCut te σ2 H' fun y H4 => H4 D = some (.lst ys) ∧ Pv (i + 1) (ys ++ [y]) (hid D H4))
    (k : ∀ ys H, ys.length = n → H D = some (.lst ys) → Pv n ys (hid D H) → Q (.ref D) H) : Lc J g tYes (tCut te) vs σ H1 Q D := by
  refine lc_it (Qd := Q (.ref D)) w (fun i H => ∃ ys : List V, ys.length = i ∧ H D = some (.lst ys) ∧ Pv i ys (hid D H)) ⟨[], rfl, upd_same, by rw [hid_upd]; exact h0⟩ ?_ ?_ ?_
  · rintro i H hi ⟨ys, _, e, p⟩
    exact hG i ys H hi p e
  · rintro i x H H' hi ⟨ys, hl, e, p⟩ y
    obtain ⟨σ2, h1, h2, h3⟩ := hs i x ys H H' hi hl p e y
    refine h1 _ ⟨h2, ?_⟩
    show if (true : Bool) = true then tCut te σ2 H' (fun y H4 => ∃ acc, H4 D = some (.lst acc) ∧ acc.length < sizeLine ∧ ∃ ys : List V, ys.length = i + 1 ∧ (upd H4 D (.lst (acc ++ [y]))) D = some (.lst ys) ∧ Pv (i + 1) ys (hid D (upd H4 D (.lst (acc ++ [y]))))) else ∃ ys : List V, ys.length = i + 1 ∧ H' D = some (.lst ys) ∧ Pv (i + 1) ys (hid D H')
    refine iteT ?_
    refine tCut_mono _ _ _ _ ?_ h3
    rintro v H4 ⟨e4, p4⟩
    refine ⟨ys, e4, Nat.lt_of_le_of_lt (m := 100000) (by omega) (by decide), ys ++ [v], by simp [hl], upd_same, ?_⟩
    rw [hid_upd]
    exact p4
  · rintro H ⟨ys, hl, e, p⟩
    exact k ys H hl e p
/-- with a test -/
theorem lc_filt {tt : TT} (w : Walk J n G Y) (hD : H1 D = none) (hn : n ≤ 100000) (Pv : Nat → List V → Hp → Prop) (h0 : Pv 0 [] (hid D H1)) (hG : ∀ i ys H, i ≤ n → Pv i ys (hid D H) → H D = some (.lst ys) → G H)
    (hs : ∀ i x ys H H', i < n → Pv i ys (hid D H) → H D = some (.lst ys) → Y i H x H' → ∃ σ2 b, (∀ R : L2.St → Hp → Prop, R σ2 H' → g x (wipe σ vs) H' R) ∧ wipe σ2 vs = wipe σ vs ∧ (∀ R : Bool → Hp → Prop, R b H' → tt σ2 H' R) ∧
      (b = false → H' D = some (.lst ys) ∧ Pv (i + 1) ys (hid D H')) ∧ (b = true → tCut te σ2 H' fun y H4 => H4 D = some (.lst ys) ∧ Pv (i + 1) (ys ++ [y]) (hid D H4)))
    (k : ∀ ys H, H D = some (.lst ys) → Pv n ys (hid D H) → Q (.ref D) H) : Lc J g tt (tCut te) vs σ H1 Q D := by
  refine lc_it (Qd := Q (.ref D)) w (fun i H => ∃ ys : List V, ys.length ≤ i ∧ H D = some (.lst ys) ∧ Pv i ys (hid D H)) ⟨[], Nat.le_refl _, upd_same, by rw [hid_upd]; exact h0⟩ ?_ ?_ ?_
  · rintro i H hi ⟨ys, _, e, p⟩
    exact hG i ys H hi p e
  · rintro i x H H' hi ⟨ys, hl, e, p⟩ y
    obtain ⟨σ2, b, h1, h2, h3, h4, h5⟩ := hs i x ys H H' hi p e y
    refine h1 _ ⟨h2, h3 _ ?_⟩
    cases b with
    | false => exact iteF ⟨ys, by omega, (h4 rfl).1, (h4 rfl).2⟩
    | true =>
      refine iteT (tCut_mono _ _ _ _ ?_ (h5 rfl))
      rintro v H4 ⟨e4, p4⟩
      refine ⟨ys, e4, Nat.lt_of_le_of_lt (m := 100000) (by omega) (by decide), ys ++ [v], by simp; omega, upd_same, ?_⟩
      rw [hid_upd]
      exact p4
  · rintro H ⟨ys, hl, e, p⟩
    exact k ys H e p
/-- the items make objects only: R i y tells of the i-th item y -/
theorem lc_same (w : Walk J n G Y) (hD : H1 D = none) (hn : n ≤ 100000) (R : Nat → V → Hp → Prop) (hR : ∀ i y H H', R i y H → Same H H' → R i y H') (hG : ∀ H, Same H1 H → G H) (hY : ∀ i H x H', Y i H x H' → Same H H')
    (hs : ∀ i x H H', i < n → Same H1 H → H' D ≠ none → Y i H x H' → ∃ σ2, (∀ R : L2.St → Hp → Prop, R σ2 H' → g x (wipe σ vs) H' R) ∧ wipe σ2 vs = wipe σ vs ∧
      te σ2 H' fun y H4 => Same H' H4 ∧ ((∃ l, H4 D = some (.lst l)) → R i y (hid D H4)))
    (k : ∀ ys H, ys.length = n → Same H1 H → H D = some (.lst ys) → (∀ i y, ys[i]? = some y → R i y (hid D H)) → Q (.ref D) H) : Lc J g tYes (tCut te) vs σ H1 Q D := by
  refine lc_inv w hD hn (fun i ys H => Same H1 H ∧ ∀ j y, ys[j]? = some y → R j y H) ⟨hid_none hD, fun j y z => by simp at z⟩ (fun i ys H _ p _ => hG H (p.1.trans (hid_same D H))) ?_ fun ys H hl e p => k ys H hl (p.1.trans (hid_same D H)) e p.2
  rintro i x ys H H' hi hl ⟨s1, p⟩ e y
  have sY := hY i H x H' y
  obtain ⟨σ2, h1, h2, h3⟩ := hs i x H H' hi (s1.trans (hid_same D H)) (by rw [sY _ _ e]; exact nofun) y
  refine ⟨σ2, h1, h2, _, h3, ?_⟩
  rintro v H4 ⟨s4, r4⟩
  have e4 := s4 _ _ (sY _ _ e)
  refine ⟨e4, s1.trans (hid_mono (sY.trans s4)), fun j z hz => ?_⟩
  by_cases hj : j < ys.length
  · rw [List.getElem?_append_left hj] at hz
    exact hR _ _ _ _ (p j z hz) (hid_mono (sY.trans s4))
  · rw [List.getElem?_append_right (by omega)] at hz
    have hj0 : j - ys.length = 0 := by
      by_cases c : j - ys.length = 0
      · exact c
      · rw [List.getElem?_eq_none (by simp; omega)] at hz; cases hz
    rw [hj0] at hz
    have ej : j = i := by omega
    obtain rfl : v = z := Option.some.inj hz
    rw [ej]
    exact r4 ⟨_, e4⟩
/-- the items draw from the purse at q: Pq m tells of it behind m items -/
theorem lc_keep {q : Addr} (w : Walk J n G Y) (hD : H1 D = none) (hq : H1 q ≠ none) (hn : n ≤ 100000) (Pq : Nat → Hp → Prop) (up : ∀ m H H', Pq m H → Same H H' → Pq m H') (down : ∀ m H, Keep q H1 H → Pq m H → Pq m (hid D H)) (hq0 : Pq 0 H1)
    (R : Nat → V → Hp → Prop) (hR : ∀ i y H H', R i y H → Same H H' → R i y H') (hG : ∀ H, Keep q H1 H → G H) (hY : ∀ i H x H', Y i H x H' → Same H H')
    (hs : ∀ i x H H', i < n → Keep q H1 H' → Pq i H' → H' D ≠ none → Y i H x H' → ∃ σ2, (∀ R : L2.St → Hp → Prop, R σ2 H' → g x (wipe σ vs) H' R) ∧ wipe σ2 vs = wipe σ vs ∧
      te σ2 H' fun y H4 => Keep q H' H4 ∧ Pq (i + 1) H4 ∧ ((∃ l, H4 D = some (.lst l)) → R i y (hid q (hid D H4))))
    (k : ∀ ys H, ys.length = n → Keep q H1 H → Pq n H → H D = some (.lst ys) → (∀ i y, ys[i]? = some y → R i y (hid q (hid D H))) → Q (.ref D) H) : Lc J g tYes (tCut te) vs σ H1 Q D := by
  have nq : q ≠ D := fun e => hq (e ▸ hD)
  refine lc_inv w hD hn (fun i ys H => Keep q H1 H ∧ Pq i H ∧ ∀ j y, ys[j]? = some y → R j y (hid q H)) ⟨Same.keep (hid_none hD), up _ _ _ hq0 (hid_none hD), fun j y z => by simp at z⟩ (fun i ys H _ p _ => hG H (keep_out p.1)) ?_ fun ys H hl e p => k ys H hl (keep_out p.1) (up _ _ _ p.2.1 (hid_same D H)) e p.2.2
  rintro i x ys H H' hi hl ⟨s1, pq, p⟩ e y
  have sY := hY i H x H' y
  have kY := (keep_out s1).same sY
  obtain ⟨σ2, h1, h2, h3⟩ := hs i x H H' hi kY (up _ _ _ (up _ _ _ pq (hid_same D H)) sY) (by rw [sY _ _ e]; exact nofun) y
  refine ⟨σ2, h1, h2, _, h3, ?_⟩
  rintro v H4 ⟨s4, q4, r4⟩
  have e4 := s4.all _ _ (sY _ _ e) (fun z => nq z.symm)
  have k14 := kY.trans s4
  refine ⟨e4, keep_in k14 hD, down _ _ k14 q4, fun j z hz => ?_⟩
  have ks : Same (hid q (hid D H)) (hid q (hid D H4)) := hid_keep (keep_hid ((Same.keep sY).trans s4) nq)
  by_cases hj : j < ys.length
  · rw [List.getElem?_append_left hj] at hz
    exact hR _ _ _ _ (p j z hz) ks
  · rw [List.getElem?_append_right (by omega)] at hz
    have hj0 : j - ys.length = 0 := by
      by_cases c : j - ys.length = 0
      · exact c
      · rw [List.getElem?_eq_none (by simp; omega)] at hz; cases hz
    rw [hj0] at hz
    have ej : j = i := by omega
    obtain rfl : v = z := Option.some.inj hz
    rw [ej]
    exact r4 ⟨_, e4⟩
end
/-- two generators, tuples within a tuple: all items are as R says -/
theorem lc2_tup {K : PySem.W.Frag} {te : TE} {i1 j1 : Nat} {σ : L2.St} {H1 : Hp} {D a : Addr} {Q : VK} {rs : List V} (R : V → Prop) (ht : H1 a = some (.tup rs)) (hD : H1 D = none) (nij : j1 ≠ i1) (hi1 : i1 < σ.length) (hj1 : j1 < σ.length) (hn : ∀ x ∈ rs, ∃ p xs, x = .ref p ∧ H1 p = some (.tup xs) ∧ xs.length ≤ 1000) (hr : rs.length ≤ 1000)
    (hs : ∀ (i j : Nat) (p : Addr) (xs : List V) (y : V) (H : Hp), rs[i]? = some (.ref p) → H1 p = some (.tup xs) → xs[j]? = some y → Same H1 H → te ((((wipe σ [i1, j1]).set i1 (some (.ref p))).set j1 none).set j1 (some y)) H fun v H4 => Same H H4 ∧ R v)
    (k : ∀ ys H, Same H1 H → H D = some (.lst ys) → (∀ (i : Nat) y, ys[i]? = some y → R y) → Q (.ref D) H) :
    Lc2 (Itt K a) (gName i1) tYes (iTup K (fun σ H Q => ∃ v, σ[i1]? = some (some v) ∧ Q v H)) (gName j1) tYes (tCut te) [i1, j1] [j1] σ H1 Q D := by
  have nD : ∀ {H : Hp} {ys : List V}, Same H1 H → Same H1 (upd H D (.lst ys)) := fun {H ys} s b o e => by
    rw [upd_ne (ne_of_none e hD)]
    exact s _ _ e
  refine ⟨fun i m H => m = rs.length - i ∧ i ≤ rs.length ∧ Same H1 H ∧ ∃ ys : List V, H D = some (.lst ys) ∧ ys.length ≤ i * 1000 ∧ ∀ (j : Nat) y, ys[j]? = some y → R y, ⟨rs.length, by simp, Nat.zero_le _, nD (Same.refl H1), [], upd_same, by simp, fun j y h => by simp at h⟩, ?_⟩
  rintro i m H ⟨rfl, hi, s1, ys, e1, l1, r1⟩
  by_cases hlt : i < rs.length
  · refine .inr ⟨(walk_tup (K := K) (a := a) (xs := rs)).goes i H hlt (SqT.of (s1 _ _ ht)), fun H' => Same H1 H' ∧ ∃ ys : List V, H' D = some (.lst ys) ∧ ys.length ≤ (i + 1) * 1000 ∧ ∀ (j : Nat) y, ys[j]? = some y → R y, fun H' q => ⟨rs.length - (i + 1), by omega, rfl, hlt, q.1, q.2⟩, fun x H' y => ?_⟩
    obtain ⟨rfl, hx⟩ := (walk_tup (K := K) (a := a) (xs := rs)).yields i H x H' hlt (SqT.of (s1 _ _ ht)) y
    obtain ⟨p, xs, rfl, hp, hxl⟩ := hn x (List.mem_of_getElem? hx)
    refine ⟨?_, ?_⟩
    · show ((((σ.set j1 none).set i1 none).set i1 (some (V.ref p))).set j1 none).set i1 none = (σ.set j1 none).set i1 none
      rw [List.set_set, List.set_comm none none nij, List.set_set, List.set_comm none none nij, List.set_set]
    · unfold tYes
      dsimp only
      rw [if_pos rfl]
      have len1 : i1 < (wipe σ [i1, j1]).length := by rw [wipe_length]; exact hi1
      refine ⟨.ref p, by rw [List.getElem?_set_self len1], p, rfl, ⟨xs, SqT.of (s1 _ _ hp)⟩, ?_⟩
      refine ⟨fun j k H => k = xs.length - j ∧ j ≤ xs.length ∧ Same H1 H ∧ ∃ ys : List V, H D = some (.lst ys) ∧ ys.length ≤ i * 1000 + j ∧ ∀ (j : Nat) y, ys[j]? = some y → R y, ⟨xs.length, by simp, Nat.zero_le _, s1, ys, e1, by omega, r1⟩, ?_⟩
      rintro j k H ⟨rfl, hj, s2, zs, e2, l2, r2⟩
      by_cases hlj : j < xs.length
      · refine .inr ⟨(walk_tup (K := K) (a := p) (xs := xs)).goes j H hlj (SqT.of (s2 _ _ hp)), fun H' => Same H1 H' ∧ ∃ ys : List V, H' D = some (.lst ys) ∧ ys.length ≤ i * 1000 + (j + 1) ∧ ∀ (j : Nat) y, ys[j]? = some y → R y, fun H' q => ⟨xs.length - (j + 1), by omega, rfl, hlj, q.1, q.2⟩, fun x H' y => ?_⟩
        obtain ⟨rfl, hy⟩ := (walk_tup (K := K) (a := p) (xs := xs)).yields j H x H' hlj (SqT.of (s2 _ _ hp)) y
        refine ⟨wipe_one, ?_⟩
        rw [if_pos rfl]
        refine ⟨_, hs i j p xs x H' hx hp hy s2, ?_⟩
        rintro v H4 ⟨s4, rv⟩
        refine ⟨zs, s4 _ _ e2, Nat.lt_of_le_of_lt (m := 1000 * 1000 + 1000) ?_ (by decide), nD (s2.trans s4), zs ++ [v], upd_same, by simp; omega, fun m y hm => ?_⟩
        · have : i * 1000 ≤ 1000 * 1000 := Nat.mul_le_mul_right _ (by omega)
          omega
        · by_cases hm1 : m < zs.length
          · rw [List.getElem?_append_left hm1] at hm
            exact r2 m y hm
          · rw [List.getElem?_append_right (by omega)] at hm
            have : y ∈ [v] := List.mem_of_getElem? hm
            have e : y = v := by simpa using this
            rw [e]
            exact rv
      · have e : j = xs.length := by omega
        subst e
        exact .inl ⟨(walk_tup (K := K) (a := p) (xs := xs)).stops H (SqT.of (s2 _ _ hp)), s2, zs, e2, by omega, r2⟩
  · have e : i = rs.length := by omega
    subst e
    exact .inl ⟨(walk_tup (K := K) (a := a) (xs := rs)).stops H (SqT.of (s1 _ _ ht)), k ys H s1 e1 r1⟩
section
variable {j : Nat} {σ : L2.St} {x : V} {H : Hp}
/-- the target is one name -/
theorem tg1 : (∀ R : L2.St → Hp → Prop, R ((σ.set j none).set j (some x)) H → gName j x (wipe σ [j]) H R) ∧ wipe ((σ.set j none).set j (some x)) [j] = wipe σ [j] := ⟨fun _ h => h, wipe_one⟩
end
theorem yat_same {xs : List V} : ∀ i H x H', YAt xs i H x H' → Same H H' := fun i H x H' y => by rw [y.1]; exact Same.refl H
theorem yfn_same {f : Nat → V} : ∀ i H x H', YFn f i H x H' → Same H H' := fun i H x H' y => by rw [y.1]; exact Same.refl H
theorem ypair_same {a b : Nat → Option V} : ∀ i H x H', YPair a b i H x H' → Same H H' := fun i H x H' ⟨T, _, _, _, h, e, _⟩ => by
  rw [e]
  exact MG.Same.new (Same.refl H) h

theorem walk_zipT {K : PySem.W.Frag} {a b : Addr} {xs ys : List V} {n : Nat} (hn : n = min xs.length ys.length) : Walk (RZ.ItzT K a b) n (fun H => SqT K H a xs ∧ SqT K H b ys) (YPair (fun i => xs[i]?) (fun i => ys[i]?)) := by
  subst hn
  refine ⟨fun i _ hi q => ?_, fun _ q => ⟨xs, ys, q.1, q.2, by omega⟩, fun i H v H' _ q y => ?_⟩
  · have h1 : i < xs.length := by omega
    have h2 : i < ys.length := by omega
    exact ⟨xs, ys, xs[i], ys[i], q.1, q.2, by simp [h1], by simp [h2]⟩
  · obtain ⟨T, x, z, h1, h2, h3, h4, h5⟩ := y
    exact ⟨T, x, z, h1, h2, h3, h4 xs q.1, h5 ys q.2⟩
/-- a pair put into two names -/
theorem tg2 {K : PySem.W.Frag} {H : Hp} {T : Addr} {x y : V} {i j : Nat} {σ : L2.St} (e : H T = some (.tup [x, y])) : ∀ R : L2.St → Hp → Prop, R ((σ.set i (some x)).set j (some y)) H → gTup K 2 (gCons (gName i) (gCons (gName j) gNil)) (.ref T) σ H R :=
  fun R h => ⟨T, [x, y], rfl, SqT.of e, rfl, x, [y], rfl, y, [], rfl, rfl, h⟩
/-! ### within a comprehension: the written part by its name -/
theorem pi_listK {X : Cx} {K : PySem.W.Frag} {tg l : Expr} {tl : TE} (h : PE X l tl) (hK : X.K = K := by rfl) : PI X tg l (iList K tl) := hK ▸ pi_list h
theorem pi_tupK {X : Cx} {K : PySem.W.Frag} {tg l : Expr} {tl : TE} (h : PE X l tl) (hK : X.K = K := by rfl) : PI X tg l (iTup K tl) := hK ▸ pi_tup h

/-! ### operators of an own class that may raise, in a try -/
structure OpX (P : Program) (w : World) (K : PySem.W.Frag) (mg : Str → Option Value) (base : Heap) (k : Nat) (C : Addr) (op : Operator) (sp : Sp) : Prop where
  ex : ∃ (f : Addr) (fd : FuncData) (ps : List Str), OpAt K C op f ∧ FnOk P w K mg base (L2N.CX P w) k f fd ps sp ∧ Binds K fd ps []
def tOpX (C : Addr) (sp : Sp) (E : L2.St → XK) (ta tb : TE) : TE := fun σ H Q => ta σ H fun x H1 => tb σ H1 fun y H2 => ∃ a dx fs b dy gs, x = .ref a ∧ H2 a = some (.ins C dx fs) ∧ y = .ref b ∧ H2 b = some (.ins C dy gs) ∧ sp [x, y] H2 Q (E σ)
theorem pe_opX {X : Cx} {W : WX} {k j : Nat} {C : Addr} {op : Operator} {sp : Sp} {a b : Expr} {ta tb : TE} {pos : Pos} (c : OpX X.prog X.w X.K X.mg X.base k C op sp) (hr : Room j X.A) (hk : k ≤ j) (tk : L2N.Takes X W) (ha : PE X a ta) (hb : PE X b tb) :
    PE X (.BinOp a op b pos) (tOpX C sp (WE W) ta tb) := by
  refine ⟨fun pins s σ H Q I h => ?_⟩
  obtain ⟨f, fd, ps, o, F, bd⟩ := c.ex
  refine wpAny_BinOp (binT ha hb I h fun v u s2 x y H2 I2 rx ry q => ?_)
  obtain ⟨a, dx, fs, b, dy, gs, rfl, ea, rfl, eb, hsp⟩ := q
  cases rx
  cases ry
  obtain ⟨mA, J, _⟩ := ins_get I2.hok ea
  obtain ⟨od, J, _⟩ := J.look
  obtain ⟨mB, J', _⟩ := ins_get I2.hok eb
  obtain ⟨od', J', _⟩ := J'.look
  obtain ⟨m, hF⟩ := I2.fr
  refine PySem.W.binop_K hF I2.ok.mod.kin J J'.type o.first o.at_ o.fn ?_
  exact wpAny_mono (run_fnS' (vs := [.ref a, .ref b]) F (hr.mono hk) bd .nil (L2N.passAt tk σ) I2 (.cons rfl (.cons rfl .nil)) (by rw [List.append_nil]; exact hsp))
    (fun _ _ hq => match hq with | ⟨_, _, _, r, _⟩ => back_of r hq) fun _ _ e => e

/-! ### math.lcm -/
def rLcm : List V → Hp → VK → Prop := fun vs H Q => ∃ a b : Int, vs = [.int a, .int b] ∧ a.natAbs < 2 ^ 64 ∧ b.natAbs < 2 ^ 64 ∧ Q (.int ((a.natAbs.lcm b.natAbs : Nat) : Int)) H
theorem cr_lcm {X : Cx} : CallR X (.builtin "math.lcm") rLcm := by
  intro pins s σ H vs us Q I r h
  obtain ⟨a, b, rfl, h1, h2, q⟩ := h
  obtain ⟨t, u, rfl⟩ := Vals.int2 r
  exact PySem.W.mc_lcm h1 h2 fun _ => ⟨.int _, H, I.tok _, ⟨_, rfl⟩, q⟩

theorem pi_zipK {X : Cx} {K : PySem.W.Frag} {e e2 : Expr} {ta : TA} {p pos tpos : Pos} {elts : List Expr} {kk : Nat} (hg : Gl X "zip") (hm : X.mg "zip" = none) (ha : PA X [e, e2] ta)
    (hs : starEach [e, e2] X.env = (false, eval e X.env) :: starEach [e2] X.env := by rfl) (hpl : (backTo pos (starEach [e2] X.env)).any (·.1) = false := by rfl) (hK : X.K = K := by rfl) :
    PI X (.Tuple elts kk tpos) (.Call (.Name "zip" p) [e, e2] [] pos) (RZ.iZipA K ta) := hK ▸ RZ.pi_zipA hg hm ha hs hpl
theorem pi_enumK {X : Cx} {K : PySem.W.Frag} {e : Expr} {ta : TA} {p pos tpos : Pos} {elts : List Expr} {kk : Nat} (hg : Gl X "enumerate") (hm : X.mg "enumerate" = none) (ha : PA X [e] ta) (hs : starEach [e] X.env = [(false, eval e X.env)] := by rfl) (hK : X.K = K := by rfl) :
    PI X (.Tuple elts kk tpos) (.Call (.Name "enumerate" p) [e] [] pos) (iEnum K ta) := hK ▸ pi_enum hg hm ha hs
theorem pg_tupK {X : Cx} {K : PySem.W.Frag} {es : List Expr} {k : Nat} {t : TGs} {n : Nat} {pos : Pos} (hc : X.calm = true) (h : PGs X es t)
    (hn : (assignEach es X.env).length = n := by rfl) (hst : (assignEach es X.env).findIdx? (·.1) = none := by rfl) (hK : X.K = K := by rfl) : PG X (.Tuple es k pos) (gTup K n t) := hK ▸ pg_tup hc h hn hst
theorem pe_fldK {X : Cx} {K : PySem.W.Frag} {e : Expr} {f : Str} {ta : TE} {pos : Pos} (he : PE X e ta) (hb : attributeBase e f X.env (eval e X.env) = eval e X.env) (hK : X.K = K := by rfl) : PE X (.Attribute e f pos) (tFld K ta f) := hK ▸ pe_fld he hb
theorem pt_truthK {X : Cx} {K : PySem.W.Frag} {a : Expr} {ta : TE} (ha : PE X a ta) (he : ∀ whole, isTrue a X.env whole = (do let v ← whole; standAt a.pos; holding [v] (truthy v))) (hK : X.K = K := by rfl) :
    PT X a (fun σ H Q => ta σ H fun x H' => ∃ k, TruV K x H' k ∧ Q k H') := hK ▸ pt_truth ha he
theorem call_len_seqK {X : Cx} {K : PySem.W.Frag} (hK : X.K = K := by rfl) : CallR X (.builtin "len") (fun xs H Q => ∃ p ys, xs = [.ref p] ∧ (SqL K H p ys ∨ SqT K H p ys) ∧ Q (.int ys.length) H) := hK ▸ call_len_seq
theorem call_tuple_ofK {X : Cx} {K : PySem.W.Frag} (hK : X.K = K := by rfl) : CallR X (.type "tuple") (fun xs H Q => ∃ p ys, xs = [.ref p] ∧ ((SqL K H p ys ∧ ∀ l, H l = none → Q (.ref l) (upd H l (.tup ys))) ∨ (SqT K H p ys ∧ Q (.ref p) H))) := hK ▸ call_tuple_of
theorem cr_sumK {X : Cx} {K : PySem.W.Frag} (hc : X.calm = true) (hK : X.K = K := by rfl) : CallR X (.builtin "sum") (rSum K) := hK ▸ cr_sum hc
/-! ### an error class with its own __init__: two fields -/
def spXi2 (K : PySem.W.Frag) (C : Addr) (fl gl : Str) : Sp := fun vs H Q _ => ∃ (a : Addr) (y z : V), vs = [.ref a, y, z] ∧ ErC K C ∧ PySem.W.findIn K (.ref C) fl = some none ∧ PySem.W.findIn K (.ref C) gl = some none ∧ H a = some (exo a C none) ∧
  ∀ dx, H dx = none → dx ≠ a → Q .non (upd (upd H dx (exd dx [(gl, z), (fl, y)])) a (exo a C (some dx)))
/-- such a class, as those know it who raise it -/
structure ExcF2 (P : Program) (w : World) (K : PySem.W.Frag) (mg : Str → Option Value) (base : Heap) (k : Nat) (x : Str) (C : Addr) (fl gl : Str) : Prop where
  oex : ErC K C
  xf : XfC K C
  no1 : PySem.W.findIn K (.ref C) fl = some none
  no2 : PySem.W.findIn K (.ref C) gl = some none
  g : mg x = some (.ref C)
  te : PySem.W.exmOne K (.ref C) (.ref C) = some true
  ex : ∃ (fI : Addr) (fd : FuncData) (ps : List Str), PySem.W.findIn K (.ref C) "__init__" = some (some (.ref fI)) ∧ PySem.W.typeIn K (.ref fI) = some (.type "function") ∧ FnOk P w K mg base CX0 k fI fd ps (spXi2 K C fl gl) ∧ Binds K fd ps []
section
variable {X : Cx} {k j : Nat} {C : Addr} {fl gl x : Str} {p pos : Pos} {e : Expr} {es : List Expr} {ta : TA}
/-- the error: its own dict d, new, holds the field -/
def tRx2 (C : Addr) (fl gl : Str) (ta : TA) : L2.St → Hp → XK → Prop := fun σ H Q => ta σ H fun vs H1 => ∃ y z, vs = [y, z] ∧ ∀ d H', Same H1 H' → H1 d = none → H' d = some (.xd [(gl, z), (fl, y)]) → Q (.ref C) (some d) H'
theorem pmk_x2 (T : ExcF2 X.prog X.w X.K X.mg X.base k x C fl gl) (hr : Room j X.A) (hk : k + 1 ≤ j) (hg : Gl X x) (ha : PA X (e :: es) ta)
    (hdb : (x == ("__debug__" : Str)) = false := by decide) (he : starEach (e :: es) X.env = (false, eval e X.env) :: starEach es X.env := by rfl) (hpl : (backTo pos (starEach es X.env)).any (·.1) = false := by rfl) :
    L2N.PMk X (.Call (.Name x p) (e :: es) [] pos) (tRx2 C fl gl ta) := by
  intro pins s σ H Q I h
  obtain ⟨oex, xf, hno, hno2, hm, te, fI, fd, ps, iC, tI, F1, hb⟩ := T
  obtain ⟨B, newId, initId, tl, eb, hin, _⟩ := oex.cls
  refine wpAny_Call_Name_kw (ld_glob I hg hm ?_ hdb)
  refine PySem.W.callWith_K (h₀ := X.base) I.ok.mod.kin oex.kC (thn (ha.run pos pins s σ H _ I h) fun us s1 ⟨vs, H1, I1, r1, y, z, ev, q1⟩ => ⟨I1.kIn, ?_⟩) he hpl
  subst ev
  show wpAny _ _ (call (.ref C) us) _ _ _
  obtain ⟨hp, g, dr, tk, os⟩ := s1
  obtain ⟨nm, N, q, bs, bm, hdct, sn, sub, ab, col, dd, k0, k1, k2, k3, k5, hC, hT⟩ := PySem.W.excInit_of (h := hp) I1.kIn hin
  have hsz : hp.objs.size ≤ hp.objs.size + 1 := Nat.le_succ _
  have hn : H1 (hp.objs.size + 1) = none := I1.hok.fresh hsz
  have hq : spXi2 X.K C fl gl [.ref (hp.objs.size + 1), y, z] (upd H1 (hp.objs.size + 1) (exo (hp.objs.size + 1) C none))
      (fun v H2 => v = .non ∧ ∃ d, H2 (hp.objs.size + 1) = some (exo (hp.objs.size + 1) C (some d)) ∧ H2 d = some (exd d [(gl, z), (fl, y)]) ∧ H1 d = none ∧ Q (.ref C) (some d) (upd (del H2 (hp.objs.size + 1)) d (.xd [(gl, z), (fl, y)]))) (fun _ _ _ => False) := by
    refine ⟨_, y, z, rfl, oex, hno, hno2, upd_same, fun dx hdx ne => ⟨rfl, dx, upd_same, ?_, ?_, q1 dx _ ?_ ?_ ?_⟩⟩
    · rw [upd_ne ne, upd_same]
    · rw [upd_ne ne] at hdx
      exact hdx
    · intro b o hbo
      rw [upd_ne ne] at hdx
      rw [upd_ne (ne_of_none hbo hdx), del_ne (ne_of_none hbo hn), upd_ne (ne_of_none hbo hn), upd_ne (ne_of_none hbo hdx), upd_ne (ne_of_none hbo hn)]
      exact hbo
    · rw [upd_ne ne] at hdx
      exact hdx
    · exact upd_same
  have kk : ∀ b o, hp.get? b = some o → ((hp.push (PySem.W.kdv_tup us)).push (PySem.HandSPX.excO C hp.objs.size)).get? b = some o := fun b o e => Heap.get?_push_of_some _ (Heap.get?_push_of_some _ e)
  have hget : ((hp.push (PySem.W.kdv_tup us)).push (PySem.HandSPX.excO C hp.objs.size)).get? (hp.objs.size + 1) = some (PySem.HandSPX.excO C hp.objs.size) := by heap_get
  have I2 : Inv X pins σ (upd H1 (hp.objs.size + 1) (exo (hp.objs.size + 1) C none)) ⟨(hp.push (PySem.W.kdv_tup us)).push (PySem.HandSPX.excO C hp.objs.size), g, dr, tk, os⟩ :=
    I1.laid (t' := tk) (a := hp.objs.size + 1) (o := exo (hp.objs.size + 1) C none) (h' := (hp.push (PySem.W.kdv_tup us)).push (PySem.HandSPX.excO C hp.objs.size)) kk hsz (exo_ok hget)
  have r2 : Vals (V.ref (hp.objs.size + 1) :: [y, z]) (Value.ref (hp.objs.size + 1) :: us) := .cons rfl r1
  have hl : (Value.ref (hp.objs.size + 1) :: us ++ []).length = ps.length := by
    have e := r2.length
    have e2 := F1.len _ _ _ _ hq
    rw [List.append_nil, ← e]
    exact e2
  have hus : us.length ≤ sizeLine := by
    rw [← Paired.length r1, sizeLine_eq]
    show 2 ≤ _
    omega
  have b2 := hb _ (Value.ref (hp.objs.size + 1) :: us) I2.kIn hl
  rw [List.append_nil] at b2
  refine wpAny_call (xk_call eb.fb hT hC (PySem.W.looks_findIn I1.kIn iC) (fun self => PySem.W.bind_fn I1.kIn self tI) hus
    (codeAny_mono (F1.run _ X.stack _ _ ⟨Value.ref (hp.objs.size + 1) :: us, []⟩ (Value.ref (hp.objs.size + 1) :: us) _ _ (fun _ _ _ => False) ((hr.mono hk).make C us []) (I2.env0.make C us []) b2 r2 hq) fun r s' hq' => ?_))
  cases r with
  | error er => exact False.elim hq'
  | ok fl' =>
    cases fl' with
    | ret u =>
      obtain ⟨v, H2, os2, bare2, un2, hok2, rv, ev, d, ea, ed, hd1, q2⟩ := hq'
      subst ev
      obtain ⟨h2, g2, d2, t2, os'⟩ := s'
      obtain ⟨t0, G, J, kG, ge, hoe, na⟩ := mk_end0 (d2 := d2) (t2 := t2) I1 hsz kk un2 hok2 os2 bare2 ea ed hd1
      exact ⟨rv, ⟨hp.objs.size + 1, _, _, ⟨G, g2, d2, t2, os'⟩, _, .ref C, some d, rfl, J, kG, ge, hoe, ⟨rfl, rfl, fun vs hv => by cases hv; rfl⟩, rfl, rfl, na, rfl, bare2, raises_own oex.exC oex.tyC, q2⟩⟩
    | next => exact False.elim hq'
    | brk => exact False.elim hq'
    | cont => exact False.elim hq'
theorem ps_raise2 {W : WX} {pos2 : Pos} (T : ExcF2 X.prog X.w X.K X.mg X.base k x C fl gl) (hr : Room j X.A) (hk : k + 1 ≤ j) (hc : X.calm = true) (tk : L2N.Takes X W) (hg : Gl X x) (ha : PA X (e :: es) ta)
    (hdb : (x == ("__debug__" : Str)) = false := by decide) (he : starEach (e :: es) X.env = (false, eval e X.env) :: starEach es X.env := by rfl) (hpl : (backTo pos (starEach es X.env)).any (·.1) = false := by rfl) :
    PS X (.Raise (some (.Call (.Name x p) (e :: es) [] pos)) none pos2) (fun _ σ H => tRx2 C fl gl ta σ H fun cls d H' => W cls d σ H') := L2N.ps_raise hc tk (pmk_x2 T hr hk hg ha hdb he hpl)
end
end MG

/-! an operator with an instance of another class behind; without a try -/
namespace PySem.W
open PyProof.Rows
section
variable {prog : Program} {w : World} {A : Around} {E : Value → Shared → Prop} {s : Shared} {K : Frag} {x C C2 L f f2 : Addr} {h₀ : Heap} {m : Str → Option Value} {ox : Obj} {od : Option Obj}
theorem mg_binC {op : Operator} {b : Value} {Q : Value → Shared → Prop} (F : Fr h₀ L s.heap m) (X₀ : K.In h₀) (I : InstAt s.heap x ox C od) (hb : Looks (model prog w) s.heap (typeOf b) (.ref C2)) (hc : selfFirst K C = true) (hc2 : selfFirst K C2 = true)
    (hs : findIn K (.ref C) (PySem.dunder op.info.2) = some (some (.ref f))) (hf : isFn K (.ref f) = true) (hr : findIn K (.ref C) (dunderR op.info.2) = some none)
    (hs2 : findIn K (.ref C2) (PySem.dunder op.info.2) = some (some (.ref f2))) (hr2 : findIn K (.ref C2) (dunderR op.info.2) = some none) (hsub : subIn K (.ref C2) (.ref C) = some false) (hne : C ≠ C2)
    (h : wpAny (model prog w) A (call (.ref f) [.ref x, b]) (CmpBack Q) E s) : wpAny (model prog w) A (binaryOp op (.ref x) b) Q E s := by
  have X := X₀.keeps F.keep
  obtain ⟨cd, rest, hcd, hm⟩ := ksp_first hc
  obtain ⟨cd2, rest2, hcd2, hm2⟩ := ksp_first hc2
  rcases hi : op.info with ⟨sym, nm'⟩
  rw [hi] at hs hr hs2 hr2
  dsimp only at hs hr hs2 hr2
  have one := ksp_try X I hs hf h
  obtain ⟨hh, g, d, tt, os⟩ := s
  have L1 : Looks (model prog w) hh (typeOf (.ref x)) (.ref C) := I.type
  have L2 : Looks (model prog w) hh (typeOf b) (.ref C2) := hb
  have L3 : Looks (model prog w) hh (fillsNumberSlot (.ref C) nm') true := fills_K X hcd hm hs
  have L4 : Looks (model prog w) hh (fillsNumberSlot (.ref C2) nm') true := fills_K X hcd2 hm2 hs2
  have L5 : Looks (model prog w) hh (isSubtype (.ref C2) (.ref C)) false := looks_subIn X hsub
  have L6 : Looks (model prog w) hh (numberSlotInPython (.ref C) nm') true := ksp_inPy X hs hr (.inl rfl)
  have L7 : Looks (model prog w) hh (numberSlotInPython (.ref C2) nm') true := ksp_inPy X hs2 hr2 (.inl rfl)
  have hne' : (Value.ref C == Value.ref C2) = false := Bool.eq_false_iff.mpr fun q => hne (by cases beq_iff_eq.mp q; rfl)
  simp only [binaryOp, hi]
  refine wpAny_holding (wpAny_bind ?_)
  unfold binaryOp1
  refine wpAny_bind (L1.at (wpAny_bind (L2.at (wpAny_bind (L3.at ?_)))))
  simp only [hne', Bool.false_eq_true, if_false]
  ksp_lk
  refine wpAny_mono one (fun r s' hr' => ?_) fun _ _ e => e
  obtain ⟨v, rfl, hq⟩ := hr'
  ksp_lk
  exact hq
end
end PySem.W
namespace MG
open PySem PySem.Spec PyProof.Rows L2
/-- what the top says of an operator of C with an instance of C2 behind -/
structure OpTwo (K : PySem.W.Frag) (C C2 : Addr) (op : Operator) : Prop where
  first : PySem.W.selfFirst K C2 = true
  at2 : ∃ f2, PySem.W.findIn K (.ref C2) (PySem.dunder op.info.2) = some (some (.ref f2))
  ref2 : PySem.W.findIn K (.ref C2) (dunderR op.info.2) = some none
  sub : PySem.W.subIn K (.ref C2) (.ref C) = some false
  ne : C ≠ C2
/-- x op y, x of the class at C, y of it, of that at C2, or an int -/
def rOwn2 (C C2 : Addr) (sp : Sp) (E : XK) : R2 := fun x y H Q => ∃ a dx fs, x = .ref a ∧ H a = some (.ins C dx fs) ∧
  ((∃ b dy gs, y = .ref b ∧ H b = some (.ins C dy gs)) ∨ (∃ b dy gs, y = .ref b ∧ H b = some (.ins C2 dy gs)) ∨ ∃ i, y = .int i) ∧ sp [x, y] H Q E
theorem op_two {X : Cx} {CX : CXT} {k : Nat} {C C2 f : Addr} {op : Operator} {fd : FuncData} {ps : List Str} {sp : Sp} {E : XK}
    (o : OpAt X.K C op f) (oi : OpInt X.K C op) (o2 : OpTwo X.K C C2 op) (F : FnOk X.prog X.w X.K X.mg X.base CX k f fd ps sp) (hr : Room k X.A)
    (hb : Binds X.K fd ps []) (hx : Passes CX X E) : OpR X (binaryOp op) (rOwn2 C C2 sp E) := by
  intro pins s σ H x y v u Q I rx ry h
  obtain ⟨a, dx, fs, rfl, ha, hy, hsp⟩ := h
  rcases hy with hy | ⟨b, dy, gs, rfl, hb'⟩ | hy
  · exact op_own o oi F hr hb hx pins s σ H _ y v u Q I rx ry ⟨a, dx, fs, rfl, ha, .inl hy, hsp⟩
  · cases rx
    cases ry
    obtain ⟨mA, J, _⟩ := ins_get I.hok ha
    obtain ⟨od, J, _⟩ := J.look
    obtain ⟨m, hF⟩ := I.fr
    obtain ⟨mB, J', _⟩ := ins_get I.hok hb'
    obtain ⟨od', J', _⟩ := J'.look
    obtain ⟨f2, h2⟩ := o2.at2
    refine PySem.W.mg_binC hF I.ok.mod.kin J J'.type o.first o2.first o.at_ o.fn o.ref h2 o2.ref2 o2.sub o2.ne ?_
    exact wpAny_mono (run_fn (vs := [.ref a, .ref b]) F hr hb .nil hx I (.cons rfl (.cons rfl .nil)) (by rw [List.append_nil]; exact hsp))
      (fun _ _ hq => match hq with | ⟨_, _, _, r, _⟩ => back_of r hq) fun _ _ e => e
  · exact op_own o oi F hr hb hx pins s σ H _ y v u Q I rx ry ⟨a, dx, fs, rfl, ha, .inr hy, hsp⟩
theorem passX {X : Cx} : Passes (L2N.CX X.prog X.w) X (fun _ _ _ => False) := fun _ σ _ _ _ _ I h => passF (σ := σ) _ _ _ _ _ I h
/-- an operator that may raise, where it doesn't -/
structure OpXF (P : Program) (w : World) (K : PySem.W.Frag) (mg : Str → Option Value) (base : Heap) (k : Nat) (C C2 : Addr) (op : Operator) (sp : Sp) : Prop where
  ex : ∃ (f : Addr) (fd : FuncData) (ps : List Str), OpAt K C op f ∧ OpInt K C op ∧ OpTwo K C C2 op ∧ FnOk P w K mg base (L2N.CX P w) k f fd ps sp ∧ Binds K fd ps []
theorem op_xf {X : Cx} {k j : Nat} {C C2 : Addr} {op : Operator} {sp : Sp} (o : OpXF X.prog X.w X.K X.mg X.base k C C2 op sp) (hr : Room j X.A) (hk : k ≤ j) : OpR X (binaryOp op) (rOwn2 C C2 sp E0) := by
  obtain ⟨f, fd, ps, a, i, t, F, b⟩ := o.ex
  exact op_two a i t F (hr.mono hk) b passX
theorem OpXF.x {P : Program} {w : World} {K : PySem.W.Frag} {mg : Str → Option Value} {base : Heap} {k : Nat} {C C2 : Addr} {op : Operator} {sp : Sp} (o : OpXF P w K mg base k C C2 op sp) : OpX P w K mg base k C op sp := by
  obtain ⟨f, fd, ps, a, i, t, F, b⟩ := o.ex
  exact ⟨f, fd, ps, a, F, b⟩
end MG

/-! data of lists of lists; sums -/
namespace MG
open PySem PySem.Spec PyProof.Rows L2
section
variable {K : PySem.W.Frag} {H H' : Hp}
theorem seqL_same {a : Addr} {xs : List V} (s : Same H H') (h : SqL K H a xs) : SqL K H' a xs := s.seq h
mutual
theorem Dp.same (s : Same H H') : ∀ {v : V} {d : PyData}, Dp K H v d → Dp K H' v d
  | _, _, .non => .non
  | _, _, .bl b => .bl b
  | _, _, .int i => .int i
  | _, _, .str x => .str x
  | _, _, .lst h a => .lst (s.seq h) (DpAll.same s a)
  | _, _, .tup h a => .tup (same_tup s h) (DpAll.same s a)
theorem DpAll.same (s : Same H H') : ∀ {vs : List V} {ds : List PyData}, DpAll K H vs ds → DpAll K H' vs ds
  | _, _, .nil => .nil
  | _, _, .cons h t => .cons (Dp.same s h) (DpAll.same s t)
end
theorem dpAll_of : ∀ {xs : List V} {ds : List PyData}, ds.length = xs.length → (∀ (i : Nat) (x : V) (d : PyData), xs[i]? = some x → ds[i]? = some d → Dp K H x d) → DpAll K H xs ds
  | [], [], _, _ => .nil
  | [], _ :: _, h, _ => by simp at h
  | _ :: _, [], h, _ => by simp at h
  | x :: xs, d :: ds, h, p => .cons (p 0 x d rfl rfl) (dpAll_of (by simpa using h) fun i y e h1 h2 => p (i + 1) y e (by simpa using h1) (by simpa using h2))
end
theorem showAll_of : ∀ {ds : List PyData}, (∀ d ∈ ds, d.showable = true) → PyData.showableAll ds = true
  | [], _ => by simp [PyData.showableAll]
  | d :: ds, h => by
    rw [PyData.showableAll, h d (by simp), showAll_of fun e he => h e (by simp [he])]
    rfl
theorem dictAll_of : ∀ {ds : List PyData}, (∀ d ∈ ds, d.hasDict = false) → PyData.hasDictAll ds = false
  | [], _ => by simp [PyData.hasDictAll]
  | d :: ds, h => by
    rw [PyData.hasDictAll, h d (by simp), dictAll_of fun e he => h e (by simp [he])]
    rfl
theorem shownAll_map : ∀ (ds : List PyData), PyData.shownAll ds = ds.map PyData.shown
  | [] => by simp [PyData.shownAll]
  | d :: ds => by rw [PyData.shownAll, shownAll_map ds]; rfl
theorem piled_le {n : Nat} : ∀ {ts : List Str}, (∀ t ∈ ts, t.length ≤ n) → piled ts ≤ (n + 2) * ts.length
  | [], _ => by simp [piled]
  | t :: ts, h => by
    have h1 := h t (by simp)
    have h2 : piled ts ≤ (n + 2) * ts.length := piled_le fun e he => h e (List.mem_cons_of_mem _ he)
    rw [piled_cons, List.length_cons, Nat.mul_succ]
    omega
theorem listText_le {ts : List Str} : (listText ts).length ≤ piled ts + 2 := by
  cases ts with
  | nil => decide
  | cons t ts =>
    unfold listText
    have h := textFrom_length_pos ts 1 (("[" : Str) ++ (if 0 > 0 then ", " else "" : String) ++ t) (by decide)
    have e : textFrom 0 "[" (t :: ts) = textFrom 1 (("[" : Str) ++ (if 0 > 0 then ", " else "" : String) ++ t) ts := rfl
    rw [e, strLen_append, h, strLen_append, strLen_append, piled_cons]
    have h1 : (("[" : Str)).length = 1 := rfl
    have h2 : (("]" : Str)).length = 1 := rfl
    have h3 : (Str.ofString (if 0 > 0 then ", " else "" : String)).length = 0 := rfl
    omega
theorem listText_bd {ts : List Str} {n : Nat} (h : ∀ t ∈ ts, t.length ≤ n) : (listText ts).length ≤ (n + 2) * ts.length + 2 := Nat.le_trans listText_le (Nat.add_le_add_right (piled_le h) 2)
/-- what repr asks of data -/
structure Okd (d : PyData) (n k : Nat) : Prop where
  sh : d.showable = true
  nd : d.hasDict = false
  dp : d.depth ≤ k
  ln : d.shown.length ≤ n
theorem depthAll_le {k : Nat} : ∀ {ds : List PyData}, (∀ d ∈ ds, d.depth ≤ k) → PyData.depthAll ds ≤ k
  | [], _ => by simp [PyData.depthAll]
  | d :: ds, h => by
    have h1 := h d (by simp)
    have h2 : PyData.depthAll ds ≤ k := depthAll_le fun e he => h e (List.mem_cons_of_mem _ he)
    rw [PyData.depthAll]
    omega
theorem okd_list {ds : List PyData} {n k m : Nat} (h : ∀ d ∈ ds, Okd d n k) (hm : ds.length ≤ m) : Okd (.list ds) ((n + 2) * m + 2) (k + 1) := by
  refine ⟨?_, ?_, ?_, ?_⟩
  · rw [PyData.showable]; exact showAll_of fun d hd => (h d hd).sh
  · rw [PyData.hasDict]; exact dictAll_of fun d hd => (h d hd).nd
  · have := depthAll_le (k := k) fun d hd => (h d hd).dp
    rw [PyData.depth]
    omega
  · rw [PyData.shown, shownAll_map]
    refine Nat.le_trans (listText_bd (n := n) fun t ht => ?_) ?_
    · obtain ⟨d, hd, rfl⟩ := List.mem_map.mp ht
      exact (h d hd).ln
    · rw [List.length_map]
      exact Nat.add_le_add_right (Nat.mul_le_mul_left _ hm) 2
theorem okd_pair {a b : Int} (ha : Sm a) (hb : Sm b) : Okd (.tuple [.int a, .int b]) 4000 1 := by
  refine ⟨?_, rfl, ?_, shw_len ha hb⟩
  · simp [PyData.showable, PyData.showableAll, log_sm ha, log_sm hb]
  · simp [PyData.depth, PyData.depthAll]
theorem Okd.rep {K : PySem.W.Frag} {H : Hp} {x : V} {d : PyData} {n k : Nat} {Q : VK} (o : Okd d n k) (h : Dp K H x d) (hk : k ≤ 60) (hn : n ≤ sizeLine) (q : Q (.str d.shown) H) : rRepr K [x] H Q :=
  ⟨x, d, rfl, h, o.sh, o.nd, Nat.le_trans o.dp hk, Nat.le_trans o.ln hn, q⟩
/-- numerators and denominators of a row, of a table -/
def prD (p : Rat) : PyData := .tuple [.int p.num, .int p.den]
def rowD (c : Nat) (g : Nat → Rat) : PyData := .list ((List.range c).map fun j => prD (g j))
def tabD (r c : Nat) (f : Nat → Nat → Rat) : PyData := .list ((List.range r).map fun i => rowD c (f i))
theorem tabD_congr {r c : Nat} {f g : Nat → Nat → Rat} (h : ∀ i j, i < r → j < c → f i j = g i j) : tabD r c f = tabD r c g := by
  unfold tabD
  congr 1
  refine List.map_congr_left fun i hi => ?_
  unfold rowD
  congr 1
  refine List.map_congr_left fun j hj => ?_
  rw [h i j (List.mem_range.mp hi) (List.mem_range.mp hj)]
theorem okd_tab {r c m n k : Nat} {f : Nat → Nat → Rat} (hr : r ≤ m) (hc : c ≤ n) (hk : k ≤ 400) (h : ∀ i j, i < r → j < c → Bd (f i j) k) : Okd (tabD r c f) (((4000 + 2) * n + 2 + 2) * m + 2) 3 := by
  refine okd_list (fun d hd => ?_) (by simpa using hr)
  obtain ⟨i, hi, rfl⟩ := List.mem_map.mp hd
  refine okd_list (fun e he => ?_) (by simpa using hc)
  obtain ⟨j, hj, rfl⟩ := List.mem_map.mp he
  have b := h i j (List.mem_range.mp hi) (List.mem_range.mp hj)
  exact okd_pair (b.num hk) (b.den hk)
theorem range_get {α : Type} {n : Nat} {f : Nat → α} {i : Nat} {x : α} (h : ((List.range n).map f)[i]? = some x) : i < n ∧ x = f i := by
  rw [List.getElem?_map] at h
  by_cases hi : i < n
  · rw [List.getElem?_range hi] at h
    exact ⟨hi, (Option.some.inj h).symm⟩
  · rw [List.getElem?_eq_none (by simpa using hi)] at h; cases h
theorem dp_row {K : PySem.W.Frag} {H : Hp} {p : Addr} {xs : List V} {c : Nat} {d : Nat → PyData} (e : H p = some (.lst xs)) (hl : xs.length = c) (h : ∀ j y, xs[j]? = some y → Dp K H y (d j)) : Dp K H (.ref p) (.list ((List.range c).map d)) :=
  .lst (SqL.of e) (dpAll_of (by simp [hl]) fun i x z h1 h2 => by
    obtain ⟨_, rfl⟩ := range_get h2
    exact h i x h1)
/-! ### sums -/
def sumQ : Nat → (Nat → Rat) → Rat
  | 0, _ => 0
  | n + 1, f => sumQ n f + f n
def smZ : Nat → (Nat → Int) → Int
  | 0, _ => 0
  | n + 1, f => smZ n f + f n
theorem smZ_list (n : Nat) (f : Nat → Int) : ((List.range n).map f).sum = smZ n f := by
  induction n with
  | zero => rfl
  | succ n ih =>
    rw [List.range_succ, List.map_append, List.sum_append, ih]
    simp [smZ]
theorem sumQ_congr {n : Nat} {f g : Nat → Rat} (h : ∀ i, i < n → f i = g i) : sumQ n f = sumQ n g := by
  induction n with
  | zero => rfl
  | succ n ih => rw [sumQ, sumQ, ih fun i hi => h i (by omega), h n (by omega)]
theorem smZ_congr {n : Nat} {f g : Nat → Int} (h : ∀ i, i < n → f i = g i) : smZ n f = smZ n g := by
  induction n with
  | zero => rfl
  | succ n ih => rw [smZ, smZ, ih fun i hi => h i (by omega), h n (by omega)]
theorem sumQ_add (n : Nat) (f g : Nat → Rat) : sumQ n (fun i => f i + g i) = sumQ n f + sumQ n g := by
  induction n with
  | zero => exact (Rat.add_zero 0).symm
  | succ n ih => rw [sumQ, sumQ, sumQ, ih]; grind
theorem sumQ_mul (n : Nat) (a : Rat) (f : Nat → Rat) : sumQ n (fun i => a * f i) = a * sumQ n f := by
  induction n with
  | zero => simp [sumQ]
  | succ n ih => rw [sumQ, sumQ, ih]; grind
theorem sumQ_mulr (n : Nat) (a : Rat) (f : Nat → Rat) : sumQ n (fun i => f i * a) = sumQ n f * a := by
  induction n with
  | zero => simp [sumQ]
  | succ n ih => rw [sumQ, sumQ, ih]; grind
theorem sumQ_zero (n : Nat) : sumQ n (fun _ => 0) = 0 := by
  induction n with
  | zero => rfl
  | succ n ih => rw [sumQ, ih]; grind
theorem sumQ_swap (m n : Nat) (f : Nat → Nat → Rat) : sumQ m (fun i => sumQ n (f i)) = sumQ n (fun j => sumQ m fun i => f i j) := by
  induction m with
  | zero => simp only [sumQ]; rw [sumQ_zero]
  | succ m ih => rw [sumQ, ih, ← sumQ_add]; exact sumQ_congr fun i _ => rfl
/-- the product of tables; n: what both have in common -/
def mulQ (n : Nat) (f g : Nat → Nat → Rat) : Nat → Nat → Rat := fun i k => sumQ n fun j => f i j * g j k
theorem mulQ_assoc (m n : Nat) (f g h : Nat → Nat → Rat) (i l : Nat) : mulQ n (mulQ m f g) h i l = mulQ m f (mulQ n g h) i l := by
  unfold mulQ
  have e1 : (fun k => sumQ m (fun j => f i j * g j k) * h k l) = fun k => sumQ m fun j => f i j * g j k * h k l := by
    funext k; rw [sumQ_mulr]
  have e2 : (fun j => f i j * sumQ n fun k => g j k * h k l) = fun j => sumQ n fun k => f i j * (g j k * h k l) := by
    funext j; rw [sumQ_mul]
  rw [e1, e2, sumQ_swap]
  exact sumQ_congr fun j _ => sumQ_congr fun k _ => Rat.mul_assoc _ _ _
/-- one fraction of a sum of products of ints over one bottom each -/
theorem sum_div {n : Nat} {a b : Nat → Int} {u v : Int} (hu : u ≠ 0) (hv : v ≠ 0) : Rat.divInt (smZ n fun i => a i * b i) (u * v) = sumQ n fun i => Rat.divInt (a i) u * Rat.divInt (b i) v := by
  induction n with
  | zero => simp [smZ, sumQ]
  | succ n ih =>
    rw [smZ, sumQ, ← ih, Rat.divInt_mul_divInt]
    have h := Int.mul_ne_zero hu hv
    rw [Rat.divInt_add_divInt _ _ h h, ← Int.add_mul, Rat.divInt_mul_right h]
theorem all_bl {K : PySem.W.Frag} {H : Hp} {D : Addr} {ys : List V} (e : H D = some (.lst ys)) (h : ∀ (i : Nat) (y : V), ys[i]? = some y → y = .bl true) : ∃ bs : List Bool, SqL K H D (bs.map V.bl) ∧ bs.all id = true := by
  have e1 : ys = (List.replicate ys.length true).map V.bl := by
    refine List.ext_getElem? fun i => ?_
    rw [List.getElem?_map]
    by_cases hi : i < ys.length
    · rw [List.getElem?_replicate, if_pos hi, List.getElem?_eq_getElem hi]
      exact congrArg some (h i _ (List.getElem?_eq_getElem hi))
    · rw [List.getElem?_eq_none (by omega), List.getElem?_eq_none (by simpa using hi)]
      rfl
  exact ⟨_, SqL.of (e1 ▸ e), by simp⟩
theorem ints_of {ys : List V} {n : Nat} {f : Nat → Int} (hl : ys.length = n) (h : ∀ (i : Nat) (y : V), ys[i]? = some y → y = .int (f i)) : ys = ((List.range n).map f).map V.int := by
  refine List.ext_getElem? fun i => ?_
  rw [List.map_map, List.getElem?_map]
  by_cases hi : i < n
  · rw [List.getElem?_range hi, List.getElem?_eq_getElem (by omega)]
    exact congrArg some (h i _ (List.getElem?_eq_getElem (by omega)))
  · rw [List.getElem?_eq_none (by omega), List.getElem?_eq_none (by simpa using hi)]
    rfl
/-- a row of ints -/
def rowV (c : Nat) (g : Nat → Int) : List V := ((List.range c).map g).map V.int
theorem rowV_len {c : Nat} {g : Nat → Int} : (rowV c g).length = c := by simp [rowV]
theorem rowV_get {c : Nat} {g : Nat → Int} {i : Nat} {y : V} (h : (rowV c g)[i]? = some y) : i < c ∧ y = .int (g i) := by
  unfold rowV at h
  rw [List.map_map] at h
  exact range_get h
theorem rowV_at {c : Nat} {g : Nat → Int} {i : Nat} (h : i < c) : (rowV c g)[i]? = some (.int (g i)) := by
  unfold rowV
  rw [List.map_map, List.getElem?_map, List.getElem?_range h]
  rfl
end MG

/-! comprehensions whose items may raise, in a try -/
namespace MG
open PySem PySem.Spec PyProof.Rows L2
/-- an exception in the air, L the own dict of the frame in which it is raised -/
def XEL (L : Addr) (X : Cx) (W : WX) (u : Value) (s' : Shared) : Prop :=
  ∃ (a : Addr) (B : Heap) (sI : Shared) (pins : List (Addr × Obj)) (σ : L2.St) (H : Hp) (cls : Value) (d : Option Addr),
    u = .ref a ∧ Inv X pins σ H sI ∧ (∀ b o, sI.heap.get? b = some o → b ∉ frs X.stack → B.get? b = some o) ∧ sI.heap.UpToSlots s'.heap ∧
      Sky B X.stack a (L2N.Zn cls d) L s'.heap ∧ H a = none ∧ s'.os = sI.os ∧ AllBare s'.gens ∧ W cls d σ H
def TakesL (L : Addr) (X : Cx) (W : WX) : Prop := ∀ u s', XEL L X W u s' → X.xe u s'
theorem takesL {X : Cx} {W : WX} (tk : L2N.Takes X W) : TakesL X.env.locals X W := fun u s' x => tk u s' x
section
variable {X : Cx} {pins : List (Addr × Obj)} {σ : L2.St} {H : Hp} {s s' : Shared} {W : WX} {E : XK} {L : Addr}
/-- a call's exception is in our air -/
theorem XEL.of_call (I : Inv X pins σ H s) (hW : ∀ cls d H', E cls d H' → W cls d σ H') {u : Value} (c : L2N.CX X.prog X.w X.stack H s E u s') : XEL L X W u s' := by
  obtain ⟨a, B, H', cls, d, rfl, fl, hok, ub, na, os, ag, hE⟩ := c
  obtain ⟨G, g1, g2⟩ := restrict s'.heap fun b => (B.get? b).isSome || decide (b ∈ frs X.stack)
  have st : B.StaysIn s'.heap := fl.1
  have gB : ∀ b o, B.get? b = some o → G.get? b = some o := fun b o e => by
    rw [g1 b (by simp [e])]
    exact st b o e
  have gF : ∀ b, b ∈ frs X.stack → G.get? b = s'.heap.get? b := fun b hb => g1 b (by simp [hb])
  have og : ∀ b o, G.get? b = some o → s'.heap.get? b = some o ∧ ((B.get? b).isSome = true ∨ b ∈ frs X.stack) := fun b o e => by
    cases q : ((B.get? b).isSome || decide (b ∈ frs X.stack)) with
    | false => rw [g2 b q] at e; cases e
    | true =>
      rw [g1 b q] at e
      exact ⟨e, by simpa [Bool.or_eq_true] using q⟩
  refine ⟨a, B, { s with heap := G, gens := s'.gens, drawn := s'.drawn, toks := s'.toks }, pins, σ, H', cls, d, rfl, ?_, fun b o e hb => ?_, Heap.UpToSlots.of_keeps fun b o e => (og b o e).1, .inr (.inl fl), na, os, ag, hW _ _ _ hE⟩
  · refine I.call (ch := []) ⟨fun b o e n hb _ => gB b o (ub.keep b o e n hb), fun b o e n hb _ => ?_, fun b o e n _ => ub.free b o e n, fun b o e _ => ?_, ub.tups, ub.frzs, ub.tbls⟩ (hok.kept gB) ag (fun _ z => nomatch z)
    · obtain ⟨sl, q⟩ := ub.slot b o e hb
      exact ⟨sl, by rw [gF b hb]; exact q⟩
    · by_cases hb : b ∈ frs X.stack
      · obtain ⟨sl, q⟩ := ub.slot b o e hb
        exact ⟨_, by rw [gF b hb]; exact q⟩
      · obtain ⟨o', q⟩ := ub.there b o e hb
        exact ⟨o', gB b o' q⟩
  · obtain ⟨e', h⟩ := og b o e
    rcases h with h | h
    · obtain ⟨o', q⟩ := Option.isSome_iff_exists.mp h
      have z := st b o' q
      rw [e'] at z; cases z
      exact q
    · exact absurd h hb
theorem passAtL (tk : TakesL L X W) (σ : L2.St) : PassesAt (L2N.CX X.prog X.w) X σ (WE W σ) := fun _ _ _ e s' I c => tk e s' (XEL.of_call I (fun _ _ _ h => h) c)
end
/-! ### the ground without one object -/
section
variable {B B0 h h2 : Heap} {l : List Env} {a C L : Addr} {Z : Obj → Prop} {fl : Value} {m : Str → Option Value}
theorem funFrames_sub (le : ∀ b, B.get? b = none → B0.get? b = none) : ∀ {l : List Env}, h.FunFrames B l → h.FunFrames B0 l
  | [], _ => trivial
  | env :: l, x => by
    obtain ⟨hk, ⟨L, o, hf, hn, ho, hd⟩, hr⟩ := x
    exact ⟨hk, ⟨L, o, hf, le L hn, ho, hd⟩, funFrames_sub le hr⟩
theorem traced_sub (le : ∀ b, B.get? b = none → B0.get? b = none) (x : HandSPX.TracedZ h B a Z fl) : HandSPX.TracedZ h B0 a Z fl := by
  obtain ⟨oe, vs, T, oT, ts, he, hz, hd, h1, hn, r⟩ := x
  exact ⟨oe, vs, T, oT, ts, he, hz, hd, h1, le T hn, r⟩
theorem sky_sub (le : ∀ b o, B0.get? b = some o → B.get? b = some o) (x : Sky B l a Z L h) : Sky B0 l a Z L h := by
  have le' : ∀ b, B.get? b = none → B0.get? b = none := fun b n => by
    cases e : B0.get? b with
    | none => rfl
    | some o => rw [le b o e] at n; cases n
  rcases x with ⟨hB, hn, hl, r⟩ | ⟨h1, h2, h3, h4⟩ | ⟨h1, h2, h3, h4⟩
  · exact .inl ⟨fun b o e => hB b o (le b o e), le' _ hn, funFrames_sub le' hl, r⟩
  · exact .inr (.inl ⟨fun b o e => h1 b o (le b o e), le' _ h2, funFrames_sub le' h3, traced_sub le' h4⟩)
  · exact .inr (.inr ⟨fun b o e => h1 b o (le b o e), le' _ h2, funFrames_sub le' h3, traced_sub le' h4⟩)
theorem traced_but (hn : h.Ns C m) (hs : Heap.SameBut C h h2) (x : HandSPX.TracedZ h B a Z fl) : HandSPX.TracedZ h2 B a Z fl := by
  obtain ⟨oC, es, ep, hoC, hdC, _⟩ := hn
  obtain ⟨oe, vs, T, oT, ts, he, hz, hd, h1, hnT, hTe, hT, hdT, h3⟩ := x
  have n1 : a ≠ C := fun e => by rw [e, hoC] at he; cases he; rw [hdC] at hd; cases hd
  have n2 : T ≠ C := fun e => by rw [e, hoC] at hT; cases hT; rw [hdC] at hdT; cases hdT
  exact ⟨oe, vs, T, oT, ts, (hs.2 a n1).trans he, hz, hd, h1, hnT, hTe, (hs.2 T n2).trans hT, hdT, h3⟩
end
/-- the context of a block whose items may raise -/
abbrev blkX (X : Cx) (s : Shared) (H : Hp) (scope : Scope) (cenv : Env) (fp : List Addr) (xe : Value → Shared → Prop) : Cx := { X.blk s H scope cenv fp with xe := xe }
section
variable {X : Cx} {pins : List (Addr × Obj)} {σ : L2.St} {H3 : Hp} {s3 : Shared} {W : WX} {L : Addr} {scope : Scope} {ce : Env} {fp : List Addr}
theorem blk_takes (hst : ∃ env0 outer0, X.stack = env0 :: outer0 ∧ env0.frame = some L) (hcf : ce.frame = some L) (tk : TakesL L X W) (I3 : Inv X pins σ H3 s3) (hC : ce.locals = s3.heap.objs.size) (f3 : ∀ b ∈ fp, FpOk X pins H3 b ∧ b < s3.heap.objs.size) :
    TakesL L (blkX X s3 H3 scope ce fp (notedBy (model X.prog X.w) X.A ce (CompFails (model X.prog X.w) X.A X.xe ce))) (fun cls d _ H' => W cls d σ H') := by
  rintro u s' ⟨a, B, sI, pins', σ', H', cls, d, rfl, I, nb, up, sky, na, os, ag, w⟩
  obtain ⟨env0, outer0, hs, hf0⟩ := hst
  have hfr : X.A.frames = some (env0 :: outer0) := by rw [I3.ok.frames, hs]
  have sky' : Sky B (env0 :: outer0) a (L2N.Zn cls d) L s'.heap := by rw [← hs]; exact sky
  obtain ⟨B0, g1, g2⟩ := restrict B fun b => decide (b ≠ ce.locals)
  have leB : ∀ b o, B0.get? b = some o → B.get? b = some o := fun b o e => by
    by_cases hb : b = ce.locals
    · rw [g2 b (by simp [hb])] at e; cases e
    · rw [g1 b (by simp [hb])] at e; exact e
  have sky0 := sky_sub leB sky'
  obtain ⟨S0, k1, k2⟩ := restrict sI.heap fun b => decide (b ≠ ce.locals)
  have leS : ∀ b o, S0.get? b = some o → sI.heap.get? b = some o ∧ b ≠ ce.locals := fun b o e => by
    by_cases hb : b = ce.locals
    · rw [k2 b (by simp [hb])] at e; cases e
    · rw [k1 b (by simp [hb])] at e; exact ⟨e, hb⟩
  have geS : ∀ b, b ≠ ce.locals → S0.get? b = sI.heap.get? b := fun b hb => k1 b (by simp [hb])
  obtain ⟨m, hn, _⟩ := I.loc
  have hn : sI.heap.Ns ce.locals m := hn
  have fin : ∀ h1, HandSPX.HeldZ B0 (env0 :: outer0) a (L2N.Zn cls d) L h1 → s'.heap.UpToSlots h1 → CompFails (model X.prog X.w) X.A X.xe ce (.ref a) { s' with heap := h1 } := by
    intro h1 hh up1
    have n1 := (up.trans up1).ns hn
    refine ⟨m, n1, fun h2 m2 hn2 hs2 => ?_⟩
    obtain ⟨b1, b0, f1, t1⟩ := hh
    have nC : B0.get? ce.locals = none := g2 _ (by simp)
    have b2 : B0.StaysIn h2 := fun b o hb => (hs2.2 b fun q => by rw [q, nC] at hb; cases hb).trans (b1 b o hb)
    have f2 : h2.FunFrames B0 (env0 :: outer0) := Heap.FunFrames.sameBut hs2 hn2 f1
    have t2 := traced_but n1 hs2 t1
    have hh2 : HandSPX.HeldZ B0 (env0 :: outer0) a (L2N.Zn cls d) L h2 := ⟨b2, b0, f2, t2⟩
    obtain ⟨oe, vs, T, oT, ts, he, hz, hd, h1', r⟩ := t2
    unfold PySem.passOn
    refine wpAny_bind (wpAny_field he hd h1' ?_)
    rw [if_neg (show ¬ ((Value.ref T == Value.none) = true) from by simp), hcf]
    refine wpAny_bind (HandSPX.setFlight_onZ hh2 fun h3 hh3 up3 => wpAny_throw (tk _ _ ?_))
    refine ⟨a, B0, { sI with heap := S0 }, pins, σ, H', cls, d, rfl, ?_, fun b o e hb => ?_, fun b o e hnf => ?_, .inr (.inr (by rw [hs]; exact hh3)), na, os, ag, w⟩
    · have ub := I.base
      have nlt : ∀ {b : Addr} {o : Obj}, s3.heap.get? b = some o → b ≠ ce.locals := fun {b o} e => by rw [hC]; exact Nat.ne_of_lt (Heap.lt_size e)
      have ub' : Un (frs X.stack) fp H3 H' s3.heap sI.heap := ub
      refine I3.call' (ch := fp) I.os ⟨fun b o e n hb hx => ?_, fun b o e n hb hx => ?_, ub'.free, fun b o e hx => ?_, ub'.tups, ub'.frzs, ub'.tbls⟩ (fun b o q => ?_) I.bare fun b hb => ⟨(f3 b hb).1.2.2.2.1, (f3 b hb).1.2.1, (f3 b hb).1.2.2.2.2.1, (f3 b hb).1.2.2.2.2.2⟩
      · show S0.get? b = some o
        rw [geS b (nlt e)]
        exact ub'.keep b o e n hb hx
      · show ∃ sl, S0.get? b = _
        rw [geS b (nlt e)]
        exact ub'.slot b o e n hb hx
      · show ∃ o', S0.get? b = some o'
        rw [geS b (nlt e)]
        exact ub'.there b o e hx
      · refine (I.hok b o q).stay (fun c u hc r => ?_) (fun _ r => r) fun _ _ r => r
        show S0.get? c = some u
        rw [geS c fun z => ?_]
        · exact r
        · have fr : H' ce.locals = none := I.free
          rw [z] at hc
          rcases hc with hc | hc
          · rw [← hc, fr] at q; cases q
          · rw [fr] at hc; cases hc
    · obtain ⟨e1, nb1⟩ := leS b o e
      rw [g1 b (by simp [nb1])]
      exact nb b o e1 hb
    · obtain ⟨e1, nb1⟩ := leS b o e
      obtain ⟨sl, e2⟩ := (up.trans up1) b o e1 hnf
      obtain ⟨sl3, e3⟩ := up3 b _ ((hs2.2 b nb1).trans e2) hnf
      exact ⟨sl3, e3⟩
  show wpAny (model X.prog X.w) X.A (noteFrame (.ref a) ce) _ _ s'
  rw [noteFrame_env (.ref a) (hcf.trans hf0.symm)]
  rcases sky0 with ⟨hB, hn', hl, oe, vs, he, hz, hd, h1⟩ | flz | hh
  · exact PXN.look_newZ L2N.Zn.steady hfr hl hf0 he hB hn' hd h1 hz fin
  · exact PXN.looks_onZ L2N.Zn.steady hfr hf0 flz fin
  · exact HandSPX.againZ hf0 hh.2.2.2 (fin s'.heap hh (Heap.UpToSlots.refl _))
end
end MG

namespace MG
open PySem PySem.Spec PyProof.Rows L2
theorem thnN {α : Type} {t : Sem α} {Q Q' : α → Shared → Prop} {M : Model} {A : Around} {E E' : Value → Shared → Prop} {s : Shared} (hE : ∀ e s, E e s → E' e s) (h : wpAny M A t Q E s) (hQ : ∀ a s, Q a s → Q' a s) : wpAny M A t Q' E' s := wpAny_mono h hQ hE
/-- the reading of a comprehension whose items may raise: V is what they wish -/
def tLcX (wi : TI) (g : TG) (tt : TT) (te : WX → TE) (vs : List Nat) (W : WX) : TE := fun σ H Q => tLcI wi g tt (te fun cls d _ H' => W cls d σ H') vs σ H Q
section
variable {X : Cx}
theorem lc_coreX {pins : List (Addr × Obj)} {s : Shared} {σ : L2.St} {H : Hp} {Q : VK} {elt tg iter : Expr} {ifs : List Expr} {scope : Scope} {own : List (Str × Nat)} {pos pos' : Pos} {wi : TI} {g : TG} {tt : TT} {te : WX → TE} {Wx : WX} {L : Addr} {use : Option (Value → Sem Unit)} {Qf : Value → Shared → Prop}
    (hc : X.calm = true) (hN : X.N.Nodup) (I : Inv X pins σ H s) (hi : PI X tg iter wi) (ok : BlkOk X.N X.env.scope scope own)
    (hst : ∃ env0 outer0, X.stack = env0 :: outer0 ∧ env0.frame = some L) (hcf : X.env.frame = some L) (tk : TakesL L X Wx)
    (hg : ∀ (s : Shared) (H : Hp) (C : Addr) (cl : List (Str × Addr)) (fp : List Addr) (xe : Value → Shared → Prop), PG (blkX X s H scope (compEnvC scope cl C X.env) fp xe) tg g) (ht : ∀ (s : Shared) (H : Hp) (C : Addr) (cl : List (Str × Addr)) (fp : List Addr) (xe : Value → Shared → Prop), PTs (blkX X s H scope (compEnvC scope cl C X.env) fp xe) ifs tt)
    (he : ∀ (s : Shared) (H : Hp) (C : Addr) (cl : List (Str × Addr)) (fp : List Addr) (xe : Value → Shared → Prop) (V : WX), TakesL L (blkX X s H scope (compEnvC scope cl C X.env) fp xe) V → PE (blkX X s H scope (compEnvC scope cl C X.env) fp xe) elt (te V)) (hs : ∀ x, foldedSetIterable iter X.env x = pure x)
    (h : tLc wi g tt (te fun cls d _ H' => Wx cls d σ H') (own.map (·.2)) σ H Q)
    (hRR : ∀ D C s' m H', Inv X pins σ H' s' → Q (.ref D) H' → s'.heap.Ns C m → FpOk X pins H' C → ∀ ce : Env, ce.locals = C → compEnds (model X.prog X.w) X.A X.xe use Qf (.ref D) ce (.ok .next) s') :
    wpAny (model X.prog X.w) X.A (comprehension (.ListComp elt [⟨tg, iter, ifs, 0⟩] scope pos) scope X.env pos' (newList []) false (eval iter X.env) use) Qf X.xe s := by
  have hfree : ∀ y ∈ scope.names, y.2 = .free → ∃ c, X.env.cells.lookup y.1 = some c := fun y hy e => by
    rcases ok.free y hy e with k | k
    · exact I.ok.has _ (.inl k)
    · exact I.ok.has _ (.inr k)
  refine comprehension_at (use := use) rfl hs (closure_ok hfree) ok.kind (fun y hy e => by rw [ok.uniq y hy, e])
    (thn (hi.run pins s σ H _ I h) fun xv s1 hx => thn hx fun itv s2 h2 => ?_)
  obtain ⟨it, fp, tn, J, H2, e, I2, T, st2, f2, q⟩ := h2
  subst e
  refine wpAny_newObj_type (newEnv_comp ?_) (by show 0 ≤ sizeLine; decide)
  generalize hD : s2.heap.objs.size = D
  have hDn : H2 D = none := I2.hok.fresh (Nat.le_of_eq hD)
  obtain ⟨W, ⟨m0, w0⟩, turn⟩ := q D hDn
  -- the new list
  generalize hs3 : ({ s2 with heap := s2.heap.push { cls := .type "list", data := .seq ([] : List Value).toArray } } : Shared) = s3
  have I3 : Inv X pins σ (upd H2 D (.lst [])) s3 := by
    rw [← hs3]
    refine I2.laid (t' := s2.toks) (fun b o e => Heap.get?_push_of_some _ e) (Nat.le_of_eq hD) ⟨Nat.zero_le _, [], 0, .nil, ?_⟩
    rw [← hD]
    exact Heap.get?_push_size _ rfl
  have h3 : s3.heap = s2.heap.push { cls := .type "list", data := .seq ([] : List Value).toArray } := by rw [← hs3]
  have sz : ∀ b ∈ fp, b < s2.heap.objs.size := fun b hb => by
    obtain ⟨o, e, _⟩ := T.obj _ _ st2 b hb
    exact Heap.lt_size e
  have f3 : ∀ b ∈ fp, FpOk X pins (upd H2 D (.lst [])) b ∧ b < s3.heap.objs.size := fun b hb => by
    have hlt := sz b hb
    refine ⟨⟨?_, (f2 b hb).2⟩, by rw [h3, Heap.size_push]; exact Nat.lt_succ_of_lt hlt⟩
    rw [upd_ne (by rw [← hD]; exact Nat.ne_of_lt hlt)]
    exact (f2 b hb).1
  have st3 : tn 0 s3.heap := T.keep _ _ _ st2 fun b _ o e => by rw [h3]; exact Heap.get?_push_of_some _ e
  have I4 := block_start I3 ok hN f3
  have pg := hg s3 (upd H2 D (.lst [])) s3.heap.objs.size (cellsFrom (s3.heap.objs.size + 1) scope.names (cloFrom X.env.cells scope.names [])) fp
  have pt := ht s3 (upd H2 D (.lst [])) s3.heap.objs.size (cellsFrom (s3.heap.objs.size + 1) scope.names (cloFrom X.env.cells scope.names [])) fp
  have pe0 := he s3 (upd H2 D (.lst [])) s3.heap.objs.size (cellsFrom (s3.heap.objs.size + 1) scope.names (cloFrom X.env.cells scope.names [])) fp
  have hcf2 : (compEnvC scope (cellsFrom (s3.heap.objs.size + 1) scope.names (cloFrom X.env.cells scope.names [])) s3.heap.objs.size X.env).frame = some L := hcf
  show codeAny _ _ (.compStart (.ListComp elt [⟨tg, iter, ifs, 0⟩] scope pos) 0 (.ref it) (.ref D) (compEnvC scope (cellsFrom (s3.heap.objs.size + 1) scope.names (cloFrom X.env.cells scope.names [])) s3.heap.objs.size X.env)) (compEnds (model X.prog X.w) X.A X.xe use Qf (.ref D) (compEnvC scope (cellsFrom (s3.heap.objs.size + 1) scope.names (cloFrom X.env.cells scope.names [])) s3.heap.objs.size X.env)) { s3 with heap := pushCells (s3.heap.push { cls := .type "dict", data := .dict #[] }) scope.names }
  have nfp : ∀ b ∈ fp, (upd H2 D (.lst [])) b = none := fun b hb => (f3 b hb).1.1
  generalize hce : compEnvC scope (cellsFrom (s3.heap.objs.size + 1) scope.names (cloFrom X.env.cells scope.names [])) s3.heap.objs.size X.env = ce at I4 pg pt pe0 hcf2 ⊢
  have cL : ce.locals = s3.heap.objs.size := by subst hce; rfl
  have eE : ∀ x s', CompFails (model X.prog X.w) X.A X.xe ce x s' → compEnds (model X.prog X.w) X.A X.xe use Qf (.ref D) ce (.error x) s' := fun x s' h => by cases use <;> exact h
  have eN : ∀ e s', notedBy (model X.prog X.w) X.A ce (CompFails (model X.prog X.w) X.A X.xe ce) e s' → notedBy (model X.prog X.w) X.A ce (fun e s' => compEnds (model X.prog X.w) X.A X.xe use Qf (.ref D) ce (.error e) s') e s' := fun e s' h => wpAny_mono h (fun _ s2 q => eE e s2 q) fun e2 s2 q => eE e2 s2 q
  generalize hH3 : upd H2 D (.lst []) = H3 at I3 I4 pg pt pe0 w0 nfp f3
  generalize hs4 : ({ s3 with heap := pushCells (s3.heap.push { cls := .type "dict", data := .dict #[] }) scope.names } : Shared) = s4 at I4 ⊢
  have bt := blk_takes (W := Wx) (scope := scope) hst hcf2 tk I3 cL f3
  have pe := pe0 _ _ bt
  generalize hxe : (notedBy (model X.prog X.w) X.A ce (CompFails (model X.prog X.w) X.A X.xe ce)) = xe at bt pe eN
  replace pg := pg xe
  replace pt := pt xe
  have I4' : Inv (blkX X s3 H3 scope ce fp xe) [] (wipe σ (own.map (·.2))) H3 s4 := I4.wish xe
  have st4 : tn 0 s4.heap := T.keep _ _ _ st3 fun b _ o e => by rw [← hs4]; exact pushCells_keeps _ _ _ _ (Heap.get?_push_of_some _ e)
  have stat : ∀ {σ' : L2.St} {H' : Hp} {s' : Shared}, Inv (blkX X s3 H3 scope ce fp xe) [] σ' H' s' → (∀ b ∈ fp, H' b = none) → ∀ b ∈ fp, FpOk (blkX X s3 H3 scope ce fp xe) [] H' b := fun {σ' H' s'} I' hn b hb =>
    ⟨hn b hb, (I'.ok.exf b hb).1, I'.ok.exfs b hb, .inl hb, fun x c e => (I'.ok.exf b hb).2 x c e, fun p hp => absurd (show p ∈ ([] : List (Addr × Obj)) ++ [] from hp) (by simp)⟩
  have loop : codeAny (model X.prog X.w) X.A (.compLoop (.ListComp elt [⟨tg, iter, ifs, 0⟩] scope pos) 0 (.ref it) (.ref D) ce) (compEnds (model X.prog X.w) X.A X.xe use Qf (.ref D) ce) s4 := by
    refine compLoop_any (fun n s' => ∃ i H', Inv (blkX X s3 H3 scope ce fp xe) [] (wipe σ (own.map (·.2))) H' s' ∧ tn i s'.heap ∧ (∀ b ∈ fp, H' b = none) ∧ W i n H') ?_ m0 ⟨0, H3, I4', st4, nfp, w0⟩
    rintro n s5 ⟨i, H5, I5, st5, n5, w5⟩
    rcases turn i n H5 w5 with ⟨stop, qq⟩ | ⟨go, Nx, hNx, step⟩
    · have td := T.done (blkX X s3 H3 scope ce fp xe) rfl rfl rfl hc i [] s5 _ H5 (fun _ _ => False) I5 (stat I5 n5) st5 stop
      refine thnF td fun r s6 ⟨hr, I6⟩ => ?_
      subst hr
      -- back in the def's context
      have I7 : Inv X pins σ H5 s6 := I3.call' (ch := fp) I6.os I6.base I6.hok I6.bare fun b hb => ⟨(f3 b hb).1.2.2.2.1, (f3 b hb).1.2.1, (f3 b hb).1.2.2.2.2.1, (f3 b hb).1.2.2.2.2.2⟩
      have nC : H5 s3.heap.objs.size = none := by
        have z : H5 ce.locals = none := I6.free
        rw [cL] at z
        exact z
      obtain ⟨m, hn, _⟩ := I6.loc
      have hn : s6.heap.Ns ce.locals m := hn
      rw [cL] at hn
      exact hRR D s3.heap.objs.size s6 m H5 I7 qq hn (I3.fpOk (Nat.le_refl _) nC) ce cL
    · have ti := T.item (blkX X s3 H3 scope ce fp xe) rfl rfl rfl hc i [] s5 _ H5 (fun _ _ => False) I5 (stat I5 n5) st5 go
      refine thnF ti fun r s6 ⟨u, hr, h6⟩ => ?_
      subst hr
      refine thnF h6 fun _ s7 ⟨x, H7, I7, r7, y7, st7, n7⟩ => ?_
      have I7' := I7.pinned (stat I7 n7) (T.obj _ _ st7)
      refine thnN eN (pg.run _ s7 _ H7 x u _ I7' r7 (step x H7 y7)) fun _ s8 ⟨σ8, H8, I8, hw8, q8⟩ => ?_
      refine thnN eN (pt.run _ s8 σ8 H8 _ I8 q8) fun b s9 ⟨H9, I9, q9⟩ => ?_
      -- the turn's end
      have fin : ∀ {s' : Shared} {H' : Hp}, Inv (blkX X s3 H3 scope ce fp xe) ([] ++ pinsAt fp s7.heap) σ8 H' s' → Nx H' → ∃ m, m < n ∧ ∃ i H', Inv (blkX X s3 H3 scope ce fp xe) [] (wipe σ (own.map (·.2))) H' s' ∧ tn i s'.heap ∧ (∀ b ∈ fp, H' b = none) ∧ W i m H' := fun {s' H'} I' nx => by
        obtain ⟨m', hm, w'⟩ := hNx H' nx
        have pin' : ∀ b ∈ fp, ∀ o, s7.heap.get? b = some o → s'.heap.get? b = some o ∧ H' b = none := fun b hb o e =>
          let z := I'.pin (b, o) (List.mem_append_right _ (List.mem_append_right _ (mem_pinsAt hb e)))
          ⟨z.1, z.2.1⟩
        have hl : (wipe σ (own.map (·.2))).length = σ8.length := by rw [← hw8, wipe_length]
        refine ⟨m', hm, i + 1, H', (I'.unpinned (pins := [])).weak hl (fun j v e => ?_), T.keep _ _ _ st7 fun b hb o e => (pin' b hb o e).1, fun b hb => ?_, w'⟩
        · rw [← hw8] at e
          exact (wipe_some e).1
        · obtain ⟨o, e, _⟩ := T.obj _ _ st7 b hb
          exact (pin' b hb o e).2
      cases b with
      | false =>
        simp only [Bool.false_eq_true, if_false] at q9 ⊢
        exact fin I9 q9
      | true =>
        simp only [if_true] at q9 ⊢
        refine thnN eN (pe.run _ s9 σ8 H9 _ I9 q9) fun z s10 ⟨yv, H10, I10, r10, acc, hD10, hz10, nx⟩ => ?_
        exact app_ok (X := blkX X s3 H3 scope ce fp xe) I10 hD10 hz10 r10 fun s11 I11 => fin I11 nx
  exact codeAny_compStart_list loop (T.self X.A 0 _ _ _ st4 loop)
/-- as a value -/
theorem pe_lcX {elt tg iter : Expr} {ifs : List Expr} {scope : Scope} {own : List (Str × Nat)} {pos : Pos} {wi : TI} {g : TG} {tt : TT} {te : WX → TE} {W : WX} {L : Addr} (hc : X.calm = true) (hN : X.N.Nodup) (hi : PI X tg iter wi) (ok : BlkOk X.N X.env.scope scope own)
    (hst : ∃ env0 outer0, X.stack = env0 :: outer0 ∧ env0.frame = some L) (hcf : X.env.frame = some L) (tk : TakesL L X W)
    (hg : ∀ (s : Shared) (H : Hp) (C : Addr) (cl : List (Str × Addr)) (fp : List Addr) (xe : Value → Shared → Prop), PG (blkX X s H scope (compEnvC scope cl C X.env) fp xe) tg g) (ht : ∀ (s : Shared) (H : Hp) (C : Addr) (cl : List (Str × Addr)) (fp : List Addr) (xe : Value → Shared → Prop), PTs (blkX X s H scope (compEnvC scope cl C X.env) fp xe) ifs tt)
    (he : ∀ (s : Shared) (H : Hp) (C : Addr) (cl : List (Str × Addr)) (fp : List Addr) (xe : Value → Shared → Prop) (V : WX), TakesL L (blkX X s H scope (compEnvC scope cl C X.env) fp xe) V → PE (blkX X s H scope (compEnvC scope cl C X.env) fp xe) elt (te V)) (hs : ∀ x, foldedSetIterable iter X.env x = pure x := by intro _; rfl) :
    PE X (.ListComp elt [⟨tg, iter, ifs, 0⟩] scope pos) (tLcX wi g tt te (own.map (·.2)) W) := by
  refine ⟨fun pins s σ H Q I h => ?_⟩
  rw [eval_ListComp]
  refine lc_coreX hc hN I hi ok hst hcf tk hg ht he hs h fun D C s' m H' I' q hn f ce hce => ?_
  subst hce
  refine ⟨m, hn, fun h'' sb => ?_⟩
  obtain ⟨f0, f1, f2, f3, f4, f5⟩ := f
  exact ⟨.ref D, H', I'.turned (t' := s'.toks) (fun b o hb e => (sb.2 b hb).trans e) f0 f1 f3 f4 f5, rfl, q⟩
theorem ps_setLcX {i : Nat} {y : Str} {py : Pos} {elt tg iter : Expr} {ifs : List Expr} {scope : Scope} {own : List (Str × Nat)} {pos spos : Pos} {wi : TI} {g : TG} {tt : TT} {te : WX → TE} {W : WX} {L : Addr} (hc : X.calm = true) (hN : X.N.Nodup) (hy : X.N[i]? = some y) (hyl : X.env.scope.names.lookup y = some .local)
    (hsw : swapsWith (.ListComp elt [⟨tg, iter, ifs, 0⟩] scope pos) (some (.Name y py)) spos.line X.env = pure true) (hi : PI X tg iter wi) (ok : BlkOk X.N X.env.scope scope own)
    (hst : ∃ env0 outer0, X.stack = env0 :: outer0 ∧ env0.frame = some L) (hcf : X.env.frame = some L) (tk : TakesL L X W)
    (hg : ∀ (s : Shared) (H : Hp) (C : Addr) (cl : List (Str × Addr)) (fp : List Addr) (xe : Value → Shared → Prop), PG (blkX X s H scope (compEnvC scope cl C X.env) fp xe) tg g) (ht : ∀ (s : Shared) (H : Hp) (C : Addr) (cl : List (Str × Addr)) (fp : List Addr) (xe : Value → Shared → Prop), PTs (blkX X s H scope (compEnvC scope cl C X.env) fp xe) ifs tt)
    (he : ∀ (s : Shared) (H : Hp) (C : Addr) (cl : List (Str × Addr)) (fp : List Addr) (xe : Value → Shared → Prop) (V : WX), TakesL L (blkX X s H scope (compEnvC scope cl C X.env) fp xe) V → PE (blkX X s H scope (compEnvC scope cl C X.env) fp xe) elt (te V)) (hs : ∀ x, foldedSetIterable iter X.env x = pure x := by intro _; rfl) :
    PS X (.Assign [.Name y py] (.ListComp elt [⟨tg, iter, ifs, 0⟩] scope pos) spos) (tAsg (tLcX wi g tt te (own.map (·.2)) W) (gName i)) := by
  refine ⟨fun pins s σ H D I h => ?_⟩
  rw [exec_Assign_Name_used _ _ _ _ hsw]
  refine wpAny_bind (wpAny_standAt (wpAny_bind ?_))
  show wpAny _ X.A (do let _ ← comprehension (.ListComp elt [⟨tg, iter, ifs, 0⟩] scope pos) scope X.env (firstIterPos [⟨tg, iter, ifs, 0⟩] pos) (newList []) false (eval iter X.env) (some (assign (.Name y py) X.env))) _ _ s
  have h : tLc wi g tt (te fun cls d _ H' => W cls d σ H') (own.map (·.2)) σ H (fun x H1 => gName i x σ H1 D.nx) := h
  refine wpAny_bind (thn (lc_coreX (Qf := fun _ s' => SP X pins D .next s') hc hN I hi ok hst hcf tk hg ht he hs h fun L C s' m H' I' q hn f ce hce => ?_) fun _ s' hq => wpAny_pure (wpAny_pure hq))
  show wpAny _ _ (assign (.Name y py) X.env (.ref L)) _ _ _
  refine wpAny_assign_Name (store_ok2 (v := V.ref L) I' hN hy (.inl hyl) rfl (fun s2 I2 ⟨a, sb, ha⟩ => ?_) (.inr hyl))
  obtain ⟨f0, f1, f2, f3, f4, f5⟩ := f
  have haC : C ≠ a := by
    rcases ha with z | z
    · rw [z]; exact f1
    · exact fun e => f4 y a z e.symm
  subst hce
  refine ⟨m, hn.sameBut sb haC, fun h3 sb3 => ?_⟩
  exact ⟨_, H', I2.turned (t' := s2.toks) (fun b o hb e => (sb3.2 b hb).trans e) f0 f1 f3 f4 f5, q⟩
end
end MG

/-! raising where something is handled; errors with a context, in a try -/
namespace MG
open PySem PySem.Spec PyProof.Rows L2 ClX
section
variable {X : Cx} {W : WX}
theorem sky_c {B : Heap} {l : List Env} {a L : Addr} {cls : Value} {d : Option Addr} {h : Heap} (x : Sky B l a (L2N.Zn cls d) L h) : Sky B l a (Zc cls d) L h := by
  rcases x with ⟨hB, hn, hl, oe, vs, he, hz, r⟩ | ⟨h1, h2, h3, h4⟩ | ⟨h1, h2, h3, h4⟩
  · exact .inl ⟨hB, hn, hl, oe, vs, he, hz.zc, r⟩
  · exact .inr (.inl ⟨h1, h2, h3, L2H.tracedZ_imp (fun _ z => z.zc) h4⟩)
  · exact .inr (.inr ⟨h1, h2, h3, L2H.tracedZ_imp (fun _ z => z.zc) h4⟩)
theorem takes_c (tk : L2.Takes X W) : L2N.Takes X W := fun u s' ⟨a, B, sI, pins, σ, H, cls, d, e, I, nb, up, sky, r⟩ => tk u s' ⟨a, B, sI, pins, σ, H, cls, d, e, I, nb, up, sky_c sky, r⟩
/-- a def that may raise errors of any context -/
theorem fun_okC {P : Program} {w : World} {K : PySem.W.Frag} {mg : Str → Option Value} {base : Heap} {x qual : Str} {st : Stmt} {f : Addr} {fd : FuncData} {N ps : List Str} {k : Nat} {sp : Sp} (F : Fun K x qual st f fd) (S : FnScope N ps (defScope st)) (len : ∀ vs H Q E, sp vs H Q E → vs.length = ps.length)
    (hbody : ∀ (cdv : Value) (A : Around) (outer : List Env) (s : Shared) (H : Hp) (vs : List V) (Q : VK) (E : XK), Room k (A.deeper (envOfC qual (defScope st) s.heap.objs.size f cdv)) → sp vs H Q E →
      ∃ t, PSs (cxOf (L2.CX P w) P w K mg base N qual (defScope st) f cdv A outer s H E) (defBody st) t ∧ t { nx := fun _ H' => Q .non H', rt := Q } (start N vs) H) : FnOk P w K mg base (L2.CX P w) (k + 1) f fd ps sp := by
  obtain ⟨oc, od, kV, doc, pm, an, cdv, ct, osl, rfl, lk, hcd⟩ := F.ex
  exact fn_of lk hcd S len fun A outer s H vs Q E hr hsp => hbody cdv A outer s H vs Q E hr hsp
end
section
variable {X : Cx} {CX : CXT} {k j : Nat} {C p g : Addr} {m : Str} {mc : Value} {sp : Sp} {o e : Expr} {es : List Expr} {pos apos : Pos} {ta : TE} {t : TA} {pl : Sem Bool}
/-- a classmethod that may raise, within a comprehension in a try -/
theorem pe_cmtXL {W : WX} {L : Addr} (c : CmtX X.prog X.w X.K X.mg X.base k C m sp) (hr : Room j X.A) (hk : k ≤ j) (tk : TakesL L X W) (he : PE X o ta) (ha : PA X (e :: es) t)
    (hst : starEach (e :: es) X.env = (false, eval e X.env) :: starEach es X.env := by rfl) (hpl : (backTo pos (starEach es X.env)).any (·.1) = false := by rfl)
    (ht : eval (.Call (.Attribute o m apos) (e :: es) [] pos) X.env = (do
      let ov ← eval o X.env
      standAt apos.atName
      let (f, first) ← holding [ov] (getMethod ov m pl)
      callWith pos f first (backTo pos (starEach (e :: es) X.env)) (backToKw pos (keywordEach [] X.env))) := by rfl) :
    PE X (.Call (.Attribute o m apos) (e :: es) [] pos) (tCMetS C sp (WE W) ta t) := by
  obtain ⟨p, g, mc, fd, ps, r, cm, F, b⟩ := c.ex
  refine ⟨fun pins s σ H Q I h => ?_⟩
  refine PySem.W.methodCall_KW (pl := pl) (thn (he.run pins s σ H _ I h) fun u s1 ⟨x, H1, I1, rx, ex, q⟩ => ?_) ht
  subst ex
  obtain rfl : u = Value.ref C := rx
  refine getmethcm_ok I1 r cm fun s2 I2 => ?_
  refine callwith_cm I2 (base_none I1 (Nat.le_refl _)) cm.fi (thn (ha.run pos _ s2 σ H1 _ I2 q) fun us s3 ⟨vs, H2, I3, rv, q2⟩ => ⟨⟨pin_at I3, I3.kIn⟩, ?_⟩) hst hpl
  have q3 : sp (.ref C :: vs ++ []) H2 Q (WE W σ) := by rw [List.append_nil]; exact q2
  exact after_cm I3 (passAtL tk σ) ((F.raw b .nil) X.A X.stack s3 H2 (.ref C :: us) (.ref C :: vs) Q (WE W σ) (hr.mono hk) I3.env0 (.cons rfl rv) q3)
/-- the same where its errors have any context, in a try -/
structure CmtC (P : Program) (w : World) (K : PySem.W.Frag) (mg : Str → Option Value) (base : Heap) (k : Nat) (C : Addr) (m : Str) (sp : Sp) : Prop where
  ex : ∃ (p g : Addr) (mc : Value) (fd : FuncData) (ps : List Str), CRead K C mc ∧ CMet K C mc m p g ∧ FnOk P w K mg base (L2.CX P w) k g fd ps sp ∧ Binds K fd ps []
theorem pe_cmtC {W : WX} (c : CmtC X.prog X.w X.K X.mg X.base k C m sp) (hr : Room j X.A) (hk : k ≤ j) (tk : L2.Takes X W) (he : PE X o ta) (ha : PA X (e :: es) t)
    (hst : starEach (e :: es) X.env = (false, eval e X.env) :: starEach es X.env := by rfl) (hpl : (backTo pos (starEach es X.env)).any (·.1) = false := by rfl)
    (ht : eval (.Call (.Attribute o m apos) (e :: es) [] pos) X.env = (do
      let ov ← eval o X.env
      standAt apos.atName
      let (f, first) ← holding [ov] (getMethod ov m pl)
      callWith pos f first (backTo pos (starEach (e :: es) X.env)) (backToKw pos (keywordEach [] X.env))) := by rfl) :
    PE X (.Call (.Attribute o m apos) (e :: es) [] pos) (tCMetS C sp (WE W) ta t) := by
  obtain ⟨p, g, mc, fd, ps, r, cm, F, b⟩ := c.ex
  refine ⟨fun pins s σ H Q I h => ?_⟩
  refine PySem.W.methodCall_KW (pl := pl) (thn (he.run pins s σ H _ I h) fun u s1 ⟨x, H1, I1, rx, ex, q⟩ => ?_) ht
  subst ex
  obtain rfl : u = Value.ref C := rx
  refine getmethcm_ok I1 r cm fun s2 I2 => ?_
  refine callwith_cm I2 (base_none I1 (Nat.le_refl _)) cm.fi (thn (ha.run pos _ s2 σ H1 _ I2 q) fun us s3 ⟨vs, H2, I3, rv, q2⟩ => ⟨⟨pin_at I3, I3.kIn⟩, ?_⟩) hst hpl
  have q3 : sp (.ref C :: vs ++ []) H2 Q (WE W σ) := by rw [List.append_nil]; exact q2
  exact after_cm I3 (L2.passAt tk σ) ((F.raw b .nil) X.A X.stack s3 H2 (.ref C :: us) (.ref C :: vs) Q (WE W σ) (hr.mono hk) I3.env0 (.cons rfl rv) q3)
structure CmtKC (P : Program) (w : World) (K : PySem.W.Frag) (mg : Str → Option Value) (base : Heap) (k : Nat) (C : Addr) (m : Str) (sp : Sp) (ks : List Str) (gV : List V → List V → List V) : Prop where
  ex : ∃ (p g : Addr) (mc : Value) (fd : FuncData) (ps : List Str) (gf : List Value → List Value → List Value), CRead K C mc ∧ CMet K C mc m p g ∧ FnOk P w K mg base (L2.CX P w) k g fd ps sp ∧ KBn K fd ps 1 ks gf gV
theorem passFC {σ : L2.St} : PassesAt (L2.CX X.prog X.w) X σ (fun _ _ _ => False) := fun _ _ _ _ _ _ ⟨_, _, _, _, _, _, _, _, _, _, _, _, z⟩ => z.elim
theorem pe_cmtKC {kws : List Keyword} {ks : List Str} {gV : List V → List V → List V} {tk : TA} (c : CmtKC X.prog X.w X.K X.mg X.base k C m sp ks gV) (hr : Room j X.A) (hk : k ≤ j) (he : PE X o ta) (hkw : PK X kws tk)
    (hall : (backToKw pos (keywordEach kws X.env)).all (·.1.isSome) = true := by rfl) (hks : (backToKw pos (keywordEach kws X.env)).filterMap (·.1) = ks := by rfl)
    (hpl : ((backTo pos (starEach [] X.env)).any (·.1) || (backToKw pos (keywordEach kws X.env)).any (·.1.isNone)) = false := by rfl)
    (ht : eval (.Call (.Attribute o m apos) [] kws pos) X.env = (do
      let ov ← eval o X.env
      standAt apos.atName
      let (f, first) ← holding [ov] (getMethod ov m pl)
      callWith pos f first (backTo pos (starEach [] X.env)) (backToKw pos (keywordEach kws X.env))) := by rfl) :
    PE X (.Call (.Attribute o m apos) [] kws pos) (tCMetK C sp ks.length gV ta tk) := by
  obtain ⟨p, g, mc, fd, ps, gf, r, cm, F, b⟩ := c.ex
  refine ⟨fun pins s σ H Q I h => ?_⟩
  refine PySem.W.methodCall_KW (pl := pl) (thn (he.run pins s σ H _ I h) fun u s1 ⟨x, H1, I1, rx, ex, q⟩ => ?_) ht
  subst ex
  obtain rfl : u = Value.ref C := rx
  refine getmethcm_ok I1 r cm fun s2 I2 => ?_
  refine PySem.W.callWith_of (P := PySem.W.MethP X.K s1.heap.objs.size g (.ref C)) hpl (PySem.W.keeps_M cm.fi) (PyProof.Rows.evalArgs_kw2_nil hall (thn (hkw.run pos _ s2 σ H1 _ I2 q) fun ws s3 ⟨zs, H2, I3, rz, hl, q2⟩ => ⟨⟨pin_at I3, I3.kIn⟩, ?_⟩))
  rw [hks]
  have hlw : ws.length = ks.length := rz.length.symm.trans hl
  exact after_cm I3 passFC (F.run X.A X.stack s3 H2 ⟨.ref C :: [], ks.zip ws⟩ (gf [.ref C] ws) (gV [.ref C] zs) Q _ (hr.mono hk) I3.env0 (b.to s3 [.ref C] ws I3.kIn rfl hlw) (b.rel (.cons rfl .nil) rz) q2)
end
section
variable {X : Cx} {k j : Nat} {C : Addr} {fl x : Str} {p pos pos2 : Pos} {e : Expr} {es : List Expr} {ta : TA} {W : WX}
theorem pmk_c {e : Expr} {t : L2.St → Hp → XK → Prop} (h : L2N.PMk X e t) : L2.PMk X e t := fun pins s σ H Q I q => wpAny_mono (h pins s σ H Q I q) (fun u s' ⟨a, oe, vs, sI, H', cls, d, e1, J, kk, hne, ha, hz, r⟩ => ⟨a, oe, vs, sI, H', cls, d, e1, J, kk, hne, ha, hz.zc, r⟩) fun _ _ z => z
/-- raise C(..) in such a def -/
theorem ps_raiseC (T : ExcF X.prog X.w X.K X.mg X.base k x C fl) (hr : Room j X.A) (hk : k + 1 ≤ j) (hc : X.calm = true) (tk : L2.Takes X W) (hg : Gl X x) (ha : PA X (e :: es) ta)
    (hdb : (x == ("__debug__" : Str)) = false := by decide) (he : starEach (e :: es) X.env = (false, eval e X.env) :: starEach es X.env := by rfl) (hpl : (backTo pos (starEach es X.env)).any (·.1) = false := by rfl) :
    PS X (.Raise (some (.Call (.Name x p) (e :: es) [] pos)) none pos2) (fun _ σ H => tRx C fl ta σ H fun cls d H' => W cls d σ H') := L2.ps_raise hc tk (pmk_c (pmk_x T hr hk hg ha hdb he hpl))
/-- such a class of errors, made in an except suite -/
structure ExcH (P : Program) (w : World) (K : PySem.W.Frag) (mg : Str → Option Value) (base : Heap) (k : Nat) (x : Str) (C : Addr) (fl : Str) : Prop where
  oex : OexC K C
  no : PySem.W.findIn K (.ref C) fl = some none
  g : mg x = some (.ref C)
  ex : ∃ (fI : Addr) (fd : FuncData) (ps : List Str), PySem.W.findIn K (.ref C) "__init__" = some (some (.ref fI)) ∧ PySem.W.typeIn K (.ref fI) = some (.type "function") ∧ L2H.FnH P w K mg base CX0 k fI fd ps (spXi K C fl) ∧ Binds K fd ps []
theorem pmk5_x (T : ExcH X.prog X.w X.K X.mg X.base k x C fl) (hr : L2H.RoomH j X.A) (hk : k + 1 ≤ j) (hc : L2H.HotC X) (hg : Gl X x) (ha : PA X (e :: es) ta)
    (hdb : (x == ("__debug__" : Str)) = false := by decide) (he : starEach (e :: es) X.env = (false, eval e X.env) :: starEach es X.env := by rfl) (hpl : (backTo pos (starEach es X.env)).any (·.1) = false := by rfl) :
    L2H.PMk5 X (.Call (.Name x p) (e :: es) [] pos) (tRx C fl ta) := by
  obtain ⟨oex, hno, hm, fI, fd, ps, iC, tI, F, hb⟩ := T
  have base := L2H.pmk5_oexH (p := p) (CX := CX0) (ta := tCutA ta) oex iC tI F (hr.mono hk) hc hb pass0 hg hm ⟨fun pos pins s σ H Q I ⟨Cc, h1, h2⟩ => thn (ha.run pos pins s σ H Cc I h1) fun us s2 ⟨vs, H', I2, r, q⟩ => ⟨vs, H', I2, r, h2 vs H' q⟩⟩ hdb he hpl
  intro pins s σ H Q I h
  refine base pins s σ H Q I ⟨_, h, ?_⟩
  rintro vs H1 ⟨y, rfl, q⟩
  refine ⟨by show 1 ≤ 1000; decide, fun a hn => ⟨_, y, rfl, oex, hno, upd_same, fun dx hdx ne => ⟨rfl, dx, [(fl, y)], upd_same, ?_, ?_, q dx _ ?_ ?_ ?_⟩⟩⟩
  · rw [upd_ne ne, upd_same]
  · rw [upd_ne ne] at hdx
    exact hdx
  · intro b o hbo
    rw [upd_ne ne] at hdx
    rw [upd_ne (ne_of_none hbo hdx), del_ne (ne_of_none hbo hn), upd_ne (ne_of_none hbo hn), upd_ne (ne_of_none hbo hdx), upd_ne (ne_of_none hbo hn)]
    exact hbo
  · rw [upd_ne ne] at hdx
    exact hdx
  · exact upd_same
/-- raise C(..) from None -/
theorem ps_raiseFN {jn : Nat} {cpos : Pos} (T : ExcH X.prog X.w X.K X.mg X.base k x C fl) (hr : L2H.RoomH j X.A) (hk : k + 1 ≤ j) (hc : L2H.HotC X) (tk : L2.Takes X W) (hg : Gl X x) (ha : PA X (e :: es) ta)
    (hdb : (x == ("__debug__" : Str)) = false := by decide) (he : starEach (e :: es) X.env = (false, eval e X.env) :: starEach es X.env := by rfl) (hpl : (backTo pos (starEach es X.env)).any (·.1) = false := by rfl) :
    PS X (.Raise (some (.Call (.Name x p) (e :: es) [] pos)) (some (.Constant .none jn cpos)) pos2) (fun _ σ H => tRx C fl ta σ H fun cls d H' => W cls d σ H') := L2H.ps_raiseHN hc tk (pmk5_x T hr hk hc hg ha hdb he hpl)
end
section
variable {X : Cx} {x n : Str} {c : Value} {i : Nat} {body suite : List Stmt} {b₀ : Stmt} {np pos pos' : Pos} {tb : WX → TS} {ts : Addr → Value → Option Addr → TS} {Wout : WX}
theorem takes0 : L2.Takes X (fun _ _ _ _ => False) := fun u s' ⟨_, _, _, _, _, _, _, _, _, _, _, _, _, _, _, _, w⟩ => w.elim
/-- try .. except X as n, errors of any context; what is raised said once for all ways -/
theorem ps_tryC_cut (hs : X.stack = X.env :: X.outer) (hf : X.env.frame = some X.env.locals) (hN : X.N.Nodup) (hi : X.N[i]? = some n) (hln : X.env.kindOf n = some .local) (hc : Names X x c) (tk : L2.Takes X Wout)
    (hb : ∀ (W : WX) (pn : List (Addr × Obj)) (xe : Value → Shared → Prop), L2.Takes (X.tr pn xe) W → PassesOwn (model X.prog X.w) X.A X.env xe → PSs (X.tr pn xe) body (tb W))
    (hsu : ∀ (a : Addr) (oe : Obj) (cls : Value) (d : Option Addr) (pn : List (Addr × Obj)), Zc cls d oe → (∃ vs, oe.data = .fields vs) → PSs (X.suite a ((a, oe) :: pn)) (b₀ :: suite) (ts a cls d)) :
    PS X (.Try body [.ExceptHandler (some (.Name x np)) (some n) (b₀ :: suite) pos'] [] [] pos) (fun D σ H => ∃ Ce : WX, (∀ cls d σ' H', Ce cls d σ' H' → wAs X.K c i ts Wout D cls d σ' H') ∧ tb Ce D σ H) :=
  L2.ps_try_as (tb := fun W D σ H => ∃ Ce : WX, (∀ cls d σ' H', Ce cls d σ' H' → W cls d σ' H') ∧ tb Ce D σ H) hs hf hN hi hln hc tk
    (fun W pn xe tk po => ⟨fun pins s σ H D I ⟨Ce, imp, h⟩ => (hb Ce pn xe (tk.imp imp) po).run pins s σ H D I h⟩) hsu
/-- try .. except X: whose suite raises -/
theorem ps_tryX_cut (hs : X.stack = X.env :: X.outer) (hf : X.env.frame = some X.env.locals) (hc : Names X x c) (hpa : ∀ hd : Option Value, PassesOwnAt (model X.prog X.w) (X.A.mark hd) X.A X.env X.xe) (tk : L2.Takes X Wout)
    (hb : ∀ (W : WX) (pn : List (Addr × Obj)) (xe : Value → Shared → Prop), L2N.Takes (X.tr pn xe) W → PassesOwn (model X.prog X.w) X.A X.env xe → PSs (X.tr pn xe) body (tb W))
    (hsu : ∀ (a : Addr) (oe : Obj) (cls : Value) (d : Option Addr) (pn : List (Addr × Obj)), L2N.Zn cls d oe → (∃ vs, oe.data = .fields vs) → L2.Takes (L2H.suiteX X a ((a, oe) :: pn)) Wout → L2H.HotC (L2H.suiteX X a ((a, oe) :: pn)) →
      PSs (L2H.suiteX X a ((a, oe) :: pn)) (b₀ :: suite) (ts a cls d)) :
    PS X (.Try body [.ExceptHandler (some (.Name x np)) none (b₀ :: suite) pos'] [] [] pos) (fun D σ H => ∃ Ce : WX, (∀ cls d σ' H', Ce cls d σ' H' → wOnly X.K c ts Wout D cls d σ' H') ∧ tb Ce D σ H) :=
  L2H.ps_try_onlyX (tb := fun W D σ H => ∃ Ce : WX, (∀ cls d σ' H', Ce cls d σ' H' → W cls d σ' H') ∧ tb Ce D σ H) hs hf hc hpa tk
    (fun W pn xe tk _ po => ⟨fun pins s σ H D I ⟨Ce, imp, h⟩ => (hb Ce pn xe (tk.imp imp) po).run pins s σ H D I h⟩) hsu
end
end MG

/-! a token behind the first item of a written list; e.replace behind it -/
namespace MG
open PySem PySem.Spec PyProof.Rows L2 CwR
section
variable {X : Cx} {e f : Expr} {es : List Expr} {te tf : TE} {ta : TA} {pos : Pos}
/-- an expression behind which a token is out -/
def PEk (X : Cx) (e : Expr) (t : TE) : Prop :=
  ∀ (pins : List (Addr × Obj)) (s : Shared) (σ : L2.St) (H : Hp) (Q : VK), Inv X pins σ H s → t σ H Q → wpAny (model X.prog X.w) X.A (eval e X.env) (fun u s' => EP X pins σ Q u s' ∧ 1 ≤ s'.toks) X.xe s
theorem pek_str {x : Str} {j : Nat} : PEk X (.Constant (.str x) j pos) (tC (.str x)) := fun _ s _ H _ I h => Calls.Constant_str ⟨⟨.str x, H, I.tok _, ⟨_, rfl⟩, h⟩, Nat.succ_le_succ (Nat.zero_le _)⟩
theorem pek_opR {op : Operator} {r : R2} (ho : OpR X (binaryOp op) r) (ha : PE X e te) (hb : PEk X f tf) : PEk X (.BinOp e op f pos) (tOp r te tf) := by
  intro pins s σ H Q I h
  refine wpAny_BinOp (thn (ha.run pins s σ H _ I h) fun v s1 ⟨x, H1, I1, r1, q1⟩ => ?_)
  refine thn (hb pins s1 σ H1 _ I1 q1) fun u s2 ⟨⟨y, H2, I2, r2, q2⟩, k⟩ => ?_
  exact wpAny_mono (wpAny_toks (ho pins s2 σ H2 x y v u Q I2 r1 r2 q2)) (fun z s3 ⟨k3, q3⟩ => ⟨q3, Nat.le_trans k k3⟩) fun _ _ z => z.2
theorem pek_opL {op : Operator} {r : R2} (ho : OpR X (binaryOp op) r) (ha : PEk X e te) (hb : PE X f tf) : PEk X (.BinOp e op f pos) (tOp r te tf) := by
  intro pins s σ H Q I h
  refine wpAny_BinOp (thn (ha pins s σ H _ I h) fun v s1 ⟨⟨x, H1, I1, r1, q1⟩, k⟩ => ?_)
  refine wpAny_mono (wpAny_toks (hb.run pins s1 σ H1 _ I1 q1)) (fun u s2 ⟨k2, y, H2, I2, r2, q2⟩ => ?_) fun _ _ z => z.2
  exact wpAny_mono (wpAny_toks (ho pins s2 σ H2 x y v u Q I2 r1 r2 q2)) (fun z s3 ⟨k3, q3⟩ => ⟨q3, Nat.le_trans k (Nat.le_trans k2 k3)⟩) fun _ _ z => z.2
theorem pa_consK (ha : PEk X e te) (hr : PAT X es ta) (hs : starEach (e :: es) X.env = (false, eval e X.env) :: starEach es X.env := by rfl) : PA X (e :: es) (tCons te ta) := by
  refine ⟨fun pos pins s σ H Q I h => ?_⟩
  rw [hs]
  show wpAny _ _ (spliced ((false, eval e X.env) :: backTo pos (starEach es X.env))) _ _ s
  refine Calls.spliced_cons (thn (ha pins s σ H _ I h) fun v s1 ⟨⟨x, H1, I1, r1, q1⟩, k⟩ => ?_)
  exact thn (hr pos pins s1 σ H1 _ k I1 q1) fun us s2 ⟨xs, H2, I2, r2, q2⟩ => ⟨x :: xs, H2, I2, .cons r1 r2, q2⟩
theorem pe_joinK {K : PySem.W.Frag} {o : Expr} {to : TE} {apos : Pos} (ho : PE X o to) (he : PE X e te) (hs : starEach [e] X.env = [(false, eval e X.env)] := by rfl) (hbase : attributeBase o "join" X.env (eval o X.env) = eval o X.env := by rfl) (hline : (apos.endLine == pos.line) = true := by rfl) (hK : X.K = K := by rfl) :
    PE X (.Call (.Attribute o "join" apos) [e] [] pos) (tM1 (fun x xs H Q => ∃ a p, ∃ ys : List Str, x = .str a ∧ xs = [.ref p] ∧ (SqL K H p (ys.map V.str) ∨ SqT K H p (ys.map V.str)) ∧
      (ys.map (·.length)).sum + ys.length * a.length ≤ 16777216 ∧ Q (.str (Txt.join a ys)) H) to te) := hK ▸ pe_join ho he hs hbase hline
end
end MG

/-! None in a list of tuples and None -/
namespace MG
open PySem PySem.Spec PyProof.Rows L2
def isNon : Value → Bool
  | .none => true
  | _ => false
def rInNon (K : PySem.W.Frag) : R2 := fun x y H Q => ∃ p xs b, x = .non ∧ y = .ref p ∧ SqL K H p xs ∧ (∀ z ∈ xs, z = .non ∨ ∃ t ys, z = .ref t ∧ H t = some (.tup ys)) ∧ (b = true ↔ V.non ∈ xs) ∧ Q (.bl b) H
theorem any_non : ∀ {xs : List V} {us : List Value}, Vals xs us → (∀ z ∈ xs, z = .non ∨ ∃ t, z = .ref t) → (us.any isNon = true ↔ V.non ∈ xs)
  | _, _, .nil, _ => by simp
  | y :: xs, u :: us, .cons r t, h => by
    rw [List.any_cons, Bool.or_eq_true, any_non t fun z hz => h z (List.mem_cons_of_mem _ hz), List.mem_cons]
    rcases h y (by simp) with rfl | ⟨a, rfl⟩
    · cases r
      simp [isNon]
    · cases r
      simp [isNon]
theorem op_in_non {X : Cx} (hu : X.A.units + 1 < cLine) : OpR X (compareOp .In) (rInNon X.K) := by
  intro pins s σ H x y v u Q I rx ry h
  obtain ⟨p, xs, b, rfl, rfl, hq, hz, hb, q⟩ := h
  cases ry
  cases rx
  obtain ⟨its, r, pl, hl⟩ := I.list hq
  have key : ∀ {xs : List V} {us : List Value}, Vals xs us → (∀ z ∈ xs, z = .non ∨ ∃ t ys, z = .ref t ∧ H t = some (.tup ys)) → ∀ w ∈ us, SeqAt.EqAt X.A.in1 s w .none (isNon w) := by
    intro xs us r h
    induction r with
    | nil => intro w hw; cases hw
    | @cons y u xs us r1 t ih =>
      intro w hw
      rcases List.mem_cons.mp hw with rfl | hw
      · rcases h y (by simp) with rfl | ⟨a, ys, rfl, ha⟩
        · cases r1
          exact SeqAt.EqAt.same _
        · cases r1
          obtain ⟨hz', its, rr, tp⟩ := I.hok a _ ha
          exact SeqAt.EqAt.tuple_none tp hu
      · exact ih (fun z hz => h z (List.mem_cons_of_mem _ hz)) w hw
  refine SeqAt.in_listAt isNon pl.isList (fun w hw => key r hz w (by simpa using hw)) ⟨.bl b, H, I, ?_, q⟩
  have e : its.any isNon = b := by
    have := any_non r fun z hz' => (hz z hz').imp id fun ⟨t, _, e, _⟩ => ⟨t, e⟩
    cases b with
    | true => exact this.mpr (hb.mp rfl)
    | false =>
      cases c : its.any isNon with
      | false => rfl
      | true => exact absurd (hb.mpr (this.mp c)) (by decide)
  show _ = Value.bool b
  rw [← e]
  simp
end MG

/-! == of tuples, decided -/
namespace MGQ
open PySem PySem.Spec PyProof.Rows GQ
section
variable {prog : Program} {w : World} {A : Around} {R : Result → Shared → Prop}
/-- e i: whether the i-th two are equal -/
theorem tuple_eqB (l b : Addr) (items items2 : Array Value) (n n2 : Nat) (dd dd2 : Option Addr) (sl sl2 : Array (Option Value)) (e : Nat → Bool) (I : Nat → Shared → Prop)
    (turn : ∀ i (h1 : i < items.size) (h2 : i < items2.size) s, I i s → wpAny (model prog w) A.in1 (eqBool items[i] items2[i]) (fun r s' => r = e i ∧ I (i + 1) s') (fun e s' => R (.error e) s') s)
    (bad : ∀ i s, i < items.size → i < items2.size → e i = false → I (i + 1) s → R (.ok (.ret (.bool false))) s)
    (fin : ∀ s, (∀ i, i < items.size → i < items2.size → e i = true) → I (min items.size items2.size) s → R (.ok (.ret (.bool (items.size == items2.size)))) s) {s : Shared} (hl1 : s.heap.get? l = some { cls := .type "tuple", dict := dd, data := .seq items n, slots := sl }) (hb1 : s.heap.get? b = some { cls := .type "tuple", dict := dd2, data := .seq items2 n2, slots := sl2 }) (h : I 0 s) :
    wpAny (model prog w) A.in1 (Builtin.«tuple.__eq__» ⟨[.ref l, .ref b], []⟩) (FinOf prog w A R) (fun e s' => R (.error e) s') s := by
  have f2 := AutoSeq1.sub_tuple_tuple
  have hZ : (items.toList.zip items2.toList).length = min items.size items2.size := by simp
  have h0 := h
  obtain ⟨hp, g, d, tk, os⟩ := s
  wp_walk using wpAny_loadPart' hl1, wpAny_loadPart' hb1, wpAny_forIn_list _ (fun rest b s' => (b.1 = none ∧ ∃ i, rest = (items.toList.zip items2.toList).drop i ∧ i ≤ min items.size items2.size ∧ (∀ j, j < i → e j = true) ∧ I i s')) _
  case turn =>
    rintro ⟨y, x⟩ rest b s' ⟨hb', i, hz, hi, he, hI⟩
    have hlt : i < (items.toList.zip items2.toList).length := by
      rcases Nat.lt_or_ge i (items.toList.zip items2.toList).length with h' | h'
      · exact h'
      · rw [List.drop_of_length_le h'] at hz; cases hz
    have h1 : i < items.size := by rw [hZ] at hlt; omega
    have h2 : i < items2.size := by rw [hZ] at hlt; omega
    rw [List.drop_eq_getElem_cons hlt] at hz
    injection hz with hyx hrest
    have hy : y = items[i] := by have := congrArg Prod.fst hyx; simpa using this
    have hx : x = items2[i] := by have := congrArg Prod.snd hyx; simpa using this
    subst hy hx
    refine wpAny_bind (wpAny_mono (turn i h1 h2 s' hI) (fun r s2 q2 => ?_) fun _ _ x => x)
    obtain ⟨hr, q2⟩ := q2
    subst hr
    cases ei : e i with
    | true =>
      wp_walk
      refine ⟨rfl, i + 1, hrest, by omega, fun j hj => ?_, q2⟩
      by_cases hji : j = i
      · rw [hji]; exact ei
      · exact he j (by omega)
    | false =>
      have hB := bad i s2 h1 h2 ei q2
      wp_walk
      exact hB
  case fin =>
    rintro ⟨b1, b2⟩ s' ⟨hb', i, hz, hi, he, hI⟩
    simp only at hb'
    subst hb'
    have hge : min items.size items2.size ≤ i := by
      rcases Nat.lt_or_ge i (items.toList.zip items2.toList).length with h' | h'
      · rw [List.drop_eq_getElem_cons h'] at hz; cases hz
      · rw [hZ] at h'; exact h'
    have hi' : i = min items.size items2.size := by omega
    have hR : R (.ok (.ret (.bool (items.size == items2.size)))) s' := fin s' (fun j h1 h2 => he j (by omega)) (hi' ▸ hI)
    wp_walk
    simpa [Builtin.Tuple.tupleCompareSizes] using hR
  case h =>
    exact ⟨rfl, 0, rfl, Nat.zero_le _, fun j hj => absurd hj (Nat.not_lt_zero j), h0⟩
end
section
variable {prog : Program} {w : World} {A : Around} {E : Value → Shared → Prop} {s : Shared}
theorem rc_tupB {l b : Addr} {items items2 : Array Value} {Q : Value → Shared → Prop} (hu : A.units < cLine) (e : Nat → Bool) (I : Nat → Shared → Prop)
    (hl : s.heap.IsTuple l items) (hb : s.heap.IsTuple b items2)
    (turn : ∀ i (h1 : i < items.size) (h2 : i < items2.size) s, I i s → wpAny (model prog w) A.in1 (eqBool items[i] items2[i]) (fun r s' => r = e i ∧ I (i + 1) s') E s)
    (bad : ∀ i s, i < items.size → i < items2.size → e i = false → I (i + 1) s → Q (.bool false) s)
    (fin : ∀ s, (∀ i, i < items.size → i < items2.size → e i = true) → I (min items.size items2.size) s → Q (.bool (items.size == items2.size)) s) (h : I 0 s) : wpAny (model prog w) A (richCompare .Eq (.ref l) (.ref b)) Q E s := by
  obtain ⟨⟨cls, dd, data, sl⟩, ho, hc, n, hd⟩ := id hl
  obtain ⟨⟨cls2, dd2, data2, sl2⟩, ho2, hc2, n2, hd2⟩ := id hb
  simp only at hc hd hc2 hd2
  subst hc hd hc2 hd2
  refine wpAny_richCompare_same_room (op := .Eq) ⟨_, ho, rfl⟩ ⟨_, ho2, rfl⟩ F.slot_tuple_eq (GQ.call_here F.slot_tuple_eq ⟨_, ho, rfl⟩ F.entry_tuple_eq (F.args_tuple_eq_2 _ _) ?_) hu
  exact tuple_eqB (R := wants (fun v s' => v ≠ .notImplemented ∧ Q v s') E) l b items items2 n n2 dd dd2 sl sl2 e I turn (fun i s' h1 h2 he q => ⟨(fun x => nomatch x), bad i s' h1 h2 he q⟩) (fun s' he q => ⟨(fun x => nomatch x), fin s' he q⟩) ho ho2 h
end
end MGQ
namespace MG
open PySem PySem.Spec PyProof.Rows L2
abbrev Eqb := V → V → Hp → Bool → Prop
def MonB (D : Eqb) : Prop := ∀ x y H H' b, Ext H H' → D x y H b → D x y H' b
def ReflB (D : Eqb) : Prop := ∀ x H b, D x x H b → b = true
def EqB (X : Cx) (n : Nat) (D : Eqb) : Prop :=
  ∀ (A : Around) (pins : List (Addr × Obj)) (s : Shared) (σ : L2.St) (H : Hp) (x y : V) (u v : Value) (b : Bool), Sub X n A → Inv X pins σ H s → RelV x u → RelV y v → D x y H b →
    wpAny (model X.prog X.w) A (eqBool u v) (fun r s' => r = b ∧ ∃ H', Inv X pins σ H' s' ∧ Ext H H') X.xe s
def RcB (X : Cx) (n : Nat) (D : Eqb) : Prop :=
  ∀ (A : Around) (pins : List (Addr × Obj)) (s : Shared) (σ : L2.St) (H : Hp) (x y : V) (u v : Value) (b : Bool), Sub X n A → Inv X pins σ H s → RelV x u → RelV y v → D x y H b →
    wpAny (model X.prog X.w) A (richCompare .Eq u v) (fun r s' => r = .bool b ∧ ∃ H', Inv X pins σ H' s' ∧ Ext H H') X.xe s
section
variable {X : Cx} {n : Nat} {D : Eqb}
theorem RcB.eqB (h : RcB X n D) (hr : ∀ x y H b, D x y H b → ∃ a c, x = .ref a ∧ y = .ref c) (rf : ReflB D) : EqB X n D := by
  intro A pins s σ H x y u v b sb I rx ry d
  obtain ⟨a, c, rfl, rfl⟩ := hr _ _ _ _ d
  cases rx
  cases ry
  by_cases hab : a = c
  · subst hab
    obtain rfl := rf _ _ _ d
    exact SeqAt.EqAt.same (A := A) (s := s) (.ref a) X.prog X.w X.xe _ ⟨rfl, H, I, Ext.rfl'⟩
  · refine GQ.eqBool_refG hab (wpAny_mono (h A pins s σ H (.ref a) (.ref c) _ _ b sb I rfl rfl d) (fun r s' q => ?_) fun _ _ x => x)
    obtain ⟨hr', q⟩ := q
    exact ⟨b, hr', rfl, q⟩
/-- item by item -/
def DTupB (D : Eqb) : Eqb := fun x y H v => ∃ (a c : Addr) (xs ys : List V) (e : Nat → Bool), x = .ref a ∧ y = .ref c ∧ H a = some (.tup xs) ∧ H c = some (.tup ys) ∧
  (∀ (i : Nat) (p q : V), xs[i]? = some p → ys[i]? = some q → D p q H (e i)) ∧ (v = true ↔ xs.length = ys.length ∧ ∀ i, i < xs.length → i < ys.length → e i = true)
theorem monB_tup (hD : MonB D) : MonB (DTupB D) := fun x y H H' b ex d => by
  obtain ⟨a, c, xs, ys, e, hx, hy, h1, h2, p, hv⟩ := d
  exact ⟨a, c, xs, ys, e, hx, hy, ex _ _ h1, ex _ _ h2, fun i p' q' hp hq => hD _ _ _ _ _ ex (p i p' q' hp hq), hv⟩
theorem rcB_tup (hD : MonB D) (h : EqB X n D) : RcB X (n + 1) (DTupB D) := by
  intro A pins s σ H x y u v b sb I rx ry d
  obtain ⟨a, c, xs, ys, e, rfl, rfl, ha, hc, p, hv⟩ := d
  cases rx
  cases ry
  obtain ⟨its, r, te, z⟩ := I.tuple (SqT.of ha)
  obtain ⟨its2, r2, te2, z2⟩ := I.tuple (SqT.of hc)
  have l1 : its.toArray.size = xs.length := by rw [List.size_toArray, ← r.length]
  have l2 : its2.toArray.size = ys.length := by rw [List.size_toArray, ← r2.length]
  refine MGQ.rc_tupB sb.room.units0 e (fun _ s' => LoopI X pins σ H s') te te2 (fun i h1 h2 s' q => ?_) (fun i s' h1 h2 he q => ⟨?_, q⟩) (fun s' he q => ⟨?_, q⟩) ⟨H, I, Ext.rfl'⟩
  · obtain ⟨H1, I1, e1⟩ := q
    have g1 : its[i]? = some its.toArray[i] := by
      have h1' : i < its.length := by simpa using h1
      rw [List.getElem?_eq_getElem h1'] <;> simp
    have g2 : its2[i]? = some its2.toArray[i] := by
      have h2' : i < its2.length := by simpa using h2
      rw [List.getElem?_eq_getElem h2'] <;> simp
    have k1 : i < xs.length := by omega
    have k2 : i < ys.length := by omega
    obtain ⟨u, hu, ru⟩ := r.get (List.getElem?_eq_getElem k1)
    obtain ⟨v, hv', rv⟩ := r2.get (List.getElem?_eq_getElem k2)
    rw [g1] at hu
    rw [g2] at hv'
    rw [Option.some.inj hu, Option.some.inj hv']
    refine wpAny_mono (h A.in1 pins s' σ H1 _ _ u v (e i) sb.in1 I1 ru rv (hD _ _ _ _ _ e1 (p i _ _ (List.getElem?_eq_getElem k1) (List.getElem?_eq_getElem k2)))) (fun r s2 q => ?_) fun _ _ x => x
    obtain ⟨hr, H2, I2, e2⟩ := q
    exact ⟨hr, H2, I2, e1.trans e2⟩
  · cases b with
    | false => rfl
    | true =>
      have := (hv.mp rfl).2 i (by omega) (by omega)
      rw [he] at this
      cases this
  · rw [l1, l2]
    cases b with
    | true => rw [(hv.mp rfl).1]; simp
    | false =>
      by_cases hl : xs.length = ys.length
      · exact absurd (hv.mpr ⟨hl, fun i h1 h2 => he i (by omega) (by omega)⟩) (by decide)
      · simp [hl]
theorem reflB_tup (hD : ReflB D) : ReflB (DTupB D) := fun x H b d => by
  obtain ⟨a, c, xs, ys, e, rfl, hy, h1, h2, p, hv⟩ := d
  obtain rfl := V.ref.inj hy
  have := h1.symm.trans h2
  cases this
  refine hv.mpr ⟨rfl, fun i hi _ => ?_⟩
  have g := List.getElem?_eq_getElem hi
  exact hD _ _ _ (p i _ _ g g)
theorem tupB_ref : ∀ x y H b, DTupB D x y H b → ∃ a c, x = .ref a ∧ y = .ref c := fun x y H b d => by
  obtain ⟨a, c, xs, ys, e, hx, hy, _⟩ := d
  exact ⟨a, c, hx, hy⟩
/-- what an own == promises of two instances -/
def DInsB (C : Addr) (R : Addr → Addr → Hp → Bool → Prop) : Eqb := fun x y H v => ∃ a b dx dy fs gs, x = .ref a ∧ y = .ref b ∧ H a = some (.ins C dx fs) ∧ H b = some (.ins C dy gs) ∧ R a b H v
def spEqB (R : Addr → Addr → Hp → Bool → Prop) : Sp := fun vs H Q _ => ∃ a b v, vs = [.ref a, .ref b] ∧ R a b H v ∧ ∀ H', Ext H H' → Q (.bl v) H'
theorem rcB_ins {CX : CXT} {C f : Addr} {fd : FuncData} {ps : List Str} {R : Addr → Addr → Hp → Bool → Prop} {E : XK} (F : FnOk X.prog X.w X.K X.mg X.base CX n f fd ps (spEqB R))
    (hs : PySem.W.findIn X.K (.ref C) "__eq__" = some (some (.ref f))) (hf : PySem.W.isFn X.K (.ref f) = true) (hb : Binds X.K fd ps []) (hx : Passes CX X E) : RcB X n (DInsB C R) := by
  intro A pins s σ H x y u v bb sb I rx ry d
  obtain ⟨a, b, dx, dy, fs, gs, rfl, rfl, ha, hb', hr⟩ := d
  cases rx
  cases ry
  obtain ⟨mA, J, _⟩ := ins_get I.hok ha
  obtain ⟨mB, J', _⟩ := ins_get I.hok hb'
  obtain ⟨od, J, _⟩ := J.look
  obtain ⟨od', J', _⟩ := J'.look
  obtain ⟨m, hF⟩ := I.fr
  refine PySem.W.cmp_K (op := .Eq) (tb := .ref C) sb.room.units0 hF I.ok.mod.kin J J'.type (by simp [PySem.W.notFirst]) hs hf ?_
  have hsp : spEqB R [.ref a, .ref b] H (fun v H' => v = .bl bb ∧ Ext H H') E := ⟨a, b, bb, rfl, hr, fun H' e => ⟨rfl, e⟩⟩
  have e0 : Env0 X.prog X.w X.K X.mg X.base A X.stack s H := by
    have e := I.env0
    exact ⟨by rw [sb.fr]; exact e.frames, e.mod, e.bs, e.bsz, e.funs, e.frf, e.hok, e.bare⟩
  have hl := F.len _ _ _ _ hsp
  have r2 : Vals [V.ref a, V.ref b] [Value.ref a, Value.ref b] := .cons rfl (.cons rfl .nil)
  refine wpAny_call (codeAny_mono (F.run A X.stack s H ⟨[.ref a, .ref b], []⟩ [.ref a, .ref b] [.ref a, .ref b] _ E sb.room e0 (by
    have := hb s [.ref a, .ref b] I.kIn (by simpa using hl)
    simpa using this) r2 hsp) fun r s' hq => ?_)
  cases r with
  | error e => exact hx pins σ H s e s' I hq
  | ok fl =>
    cases fl with
    | ret w =>
      obtain ⟨z, H', I', rz, ez, ex⟩ := I.after hq
      subst ez
      cases rz
      exact ⟨rfl, H', I', ex⟩
    | next => exact False.elim hq
    | brk => exact False.elim hq
    | cont => exact False.elim hq
theorem insB_ref {C : Addr} {R : Addr → Addr → Hp → Bool → Prop} : ∀ x y H b, DInsB C R x y H b → ∃ a c, x = .ref a ∧ y = .ref c := fun x y H b d => by
  obtain ⟨a, c, dx, dy, fs, gs, hx, hy, _⟩ := d
  exact ⟨a, c, hx, hy⟩
theorem monB_ins {C : Addr} {R : Addr → Addr → Hp → Bool → Prop} (h : ∀ a b H H' v, Ext H H' → R a b H v → R a b H' v) : MonB (DInsB C R) := fun x y H H' b ex d => by
  obtain ⟨a, c, dx, dy, fs, gs, hx, hy, h1, h2, r⟩ := d
  exact ⟨a, c, dx, dy, fs, gs, hx, hy, ex _ _ h1, ex _ _ h2, h _ _ _ _ _ ex r⟩
/-- x == y as an expression -/
def rEqB (D : Eqb) : R2 := fun x y H Q => ∃ b, D x y H b ∧ ∀ H', Ext H H' → Q (.bl b) H'
theorem op_eqB (h : RcB X n D) (hr : Room n X.A) : OpR X (compareOp .Eq) (rEqB D) := by
  intro pins s σ H x y v u Q I rx ry hq
  obtain ⟨b, d, q⟩ := hq
  show wpAny (model X.prog X.w) X.A (richCompare .Eq v u) (EP X pins σ Q) X.xe s
  refine wpAny_mono (h X.A pins s σ H x y v u b ⟨hr, rfl⟩ I rx ry d) (fun r s' z => ?_) fun _ _ x => x
  obtain ⟨hr', H', I', e⟩ := z
  subst hr'
  exact ⟨.bl b, H', I', rfl, q H' e⟩
end
end MG

/-! x[i] by the class's own __getitem__; the truth of an instance that says nothing of it -/
namespace MG
open PySem PySem.Spec PyProof.Rows L2
structure IxF (P : Program) (w : World) (K : PySem.W.Frag) (mg : Str → Option Value) (base : Heap) (k : Nat) (C : Addr) (sp : Sp) : Prop where
  ex : ∃ (f : Addr) (fd : FuncData) (ps : List Str), PySem.W.findIn K (.ref C) "__getitem__" = some (some (.ref f)) ∧ PySem.W.fnIn K f = true ∧ PySem.W.isFn K (.ref f) = true ∧ FnOk P w K mg base CX0 k f fd ps sp ∧ Binds K fd ps []
def tIxO (C : Addr) (sp : Sp) (ta tb : TE) : TE := fun σ H Q => ta σ H fun x H1 => tb σ H1 fun y H2 => ∃ a dx fs, x = .ref a ∧ H2 a = some (.ins C dx fs) ∧ sp [x, y] H2 Q E0
section
variable {X : Cx} {k j : Nat} {C : Addr} {sp : Sp} {a b : Expr} {ta tb : TE} {pos : Pos}
theorem pe_ixO (o : IxF X.prog X.w X.K X.mg X.base k C sp) (hr : Room j X.A) (hk : k + 1 ≤ j) (ha : PE X a ta) (hb : PE X b tb)
    (hsl : ∀ v u, subscripted b true v u = runValue (.builtin "lifetime.subscript" ⟨[v, u], []⟩) := by intro _ _; rfl) : PE X (.Subscript a b pos) (tIxO C sp ta tb) := by
  obtain ⟨f, fd, ps, hs, hf, hfn, F, bd⟩ := o.ex
  refine ⟨fun pins s σ H Q I h => ?_⟩
  refine Subscript_ (binT ha hb I (R := fun x y H2 => ∃ a dx fs, x = .ref a ∧ H2 a = some (.ins C dx fs) ∧ sp [x, y] H2 Q E0) h fun v u s2 x y H2 I2 rx ry q => ?_)
  obtain ⟨a, dx, fs, rfl, ea, hsp⟩ := q
  cases rx
  obtain ⟨mA, J, _⟩ := ins_get I2.hok ea
  obtain ⟨od, J, _⟩ := J.look
  obtain ⟨m, hF⟩ := I2.fr
  refine PySem.W.sub_K hF I2.ok.mod.kin J hs hf hfn ?_ (hsl _ _)
  have hl := F.len _ _ _ _ hsp
  have r2 : Vals [V.ref a, y] [Value.ref a, u] := .cons rfl (.cons ry .nil)
  refine wpAny_call (codeAny_mono (F.run X.A.in1 X.stack s2 H2 ⟨[.ref a, u], []⟩ [.ref a, u] [.ref a, y] Q E0 ((hr.mono hk).in1) I2.env0.in1 (by
    have := bd s2 [.ref a, u] I2.kIn (by simpa using hl)
    simpa using this) r2 hsp) fun r s' hq => ?_)
  match r, hq with
  | .error e, hq => exact pass0 pins σ H2 s2 e s' I2 hq
  | .ok (.ret z), hq => exact I2.after hq
  | .ok .next, hq => exact False.elim hq
  | .ok .brk, hq => exact False.elim hq
  | .ok .cont, hq => exact False.elim hq
end
open Builtin in
theorem bool_plain {prog : Program} {w : World} {A : Around} {E : Value → Shared → Prop} {s : Shared} {K : PySem.W.Frag} {x C : Addr} {ox : Obj} {od : Option Obj} {m : Str → Option Value} {L : Addr} {h₀ : Heap} {Q : Value → Shared → Prop} (F : Fr h₀ L s.heap m) (X₀ : K.In h₀) (I : PySem.W.InstAt s.heap x ox C od)
    (hs : PySem.W.findIn K (.ref C) "__bool__" = some none) (hn : PySem.W.findIn K (.ref C) "__len__" = some none) (h : Q (.bool true) s) :
    wpAny (model prog w) A (call (.type "bool") [.ref x]) Q E s := by
  refine callType_codes (T := "bool") (Bi := Builtin.«object.__init__») (Q₁ := fun r s₁ => ∃ b, r = .bool b ∧ Q r s₁) PySem.F.called_bool (PySem.F.typeCall_bool_1 _) PySem.F.entry_object_init ?_ ?_
  · refine codeAny_of_tree ?_
    show wpAny _ A.in1.in1 (do checkBuiltinCall "bool.__new__" ⟨[.type "bool", .ref x], []⟩; again (.builtin "bool.__new__" ⟨[.type "bool", .ref x], []⟩)) _ _ s
    refine wpAny_bind (wpAny_of_eq (PySem.F.newCall_bool_1 _) (wpAny_pure ⟨plainId_quiet (by decide +kernel) _, codeAny_builtin PySem.F.entry_bool_new ?_⟩))
    rw [Around.under_plainId (by decide +kernel) _]
    have f1 := PySem.F.conv_sub_bool
    have tr : ∀ {R : Bool → Shared → Prop}, R true s → wpAny (model prog w) A.in1.in1 (truthy (.ref x)) R E s := fun {R} hr => PySem.W.truthy_K0 F X₀ I hs hn hr
    unfold Builtin.«bool.__new__»
    repeat (any_goals (first | assumption | (refine wpAny_bind (m := truthy (.ref x)) (tr ?_)) | wp_step))
    all_goals first | exact wpAny_pure ⟨_, rfl, h⟩ | exact ⟨_, rfl, h⟩ | skip
  · rintro obj s₁ ⟨b, rfl, hq⟩
    exact ⟨PySem.typeIs_bool _ _, PySem.F.args_object_init_2 _ _, object_init_meets PySem.F.called_bool.init.lookup PySem.F.called_bool.made (by decide) prog w A.in1 _ s₁ ⟨PySem.typeIs_bool _ _, rfl, hq⟩⟩
theorem call_boolP {X : Cx} {C : Addr} (hs : PySem.W.findIn X.K (.ref C) "__bool__" = some none) (hn : PySem.W.findIn X.K (.ref C) "__len__" = some none) : CallR X (.type "bool") (fun xs H Q => ∃ a dx fs, xs = [.ref a] ∧ H a = some (.ins C dx fs) ∧ Q (.bl true) H) := by
  intro pins s σ H xs us Q I r h
  obtain ⟨a, dx, fs, rfl, ha, q⟩ := h
  obtain ⟨u, rfl, ru⟩ := vals1 r
  cases ru
  obtain ⟨mA, J, _⟩ := ins_get I.hok ha
  obtain ⟨od, J, _⟩ := J.look
  obtain ⟨m, hF⟩ := I.fr
  exact bool_plain hF I.ok.mod.kin J hs hn ⟨.bl true, H, I, rfl, q⟩
end MG

/-! comprehensions with two clauses, told item by item; t * 1; truths of a list -/
namespace L2
open PySem PySem.Spec PyProof.Rows
theorem tuple_mul1 (l : Addr) (items : Array Value) (n : Nat) (dd : Option Addr) (sl : Array (Option Value)) (u : Tok) :
    Meets (Builtin.«tuple.__mul__» ⟨[.ref l, .int 1 u], []⟩) (fun _ R s => s.heap.get? l = some { cls := .type "tuple", dict := dd, data := .seq items n, slots := sl } ∧
      R (.ok (.ret (Value.ref l))) s) :=
  .of_wp fun prog w A R s h => by
    obtain ⟨hp, g, d, tk, os⟩ := s
    obtain ⟨hl, h⟩ := h
    have f1 := AutoSeq1.idx_int
    wp_walk using wpAny_loadPart' hl
    repeat (first
      | (refine wpAny_ite_true (decide_eq_true (by simp)) ?_; wp_walk using wpAny_loadPart' hl)
      | (refine wpAny_ite_false (decide_eq_false (by decide)) ?_; wp_walk using wpAny_loadPart' hl))
    exact ⟨_, rfl, h⟩
end L2
namespace MG
open PySem PySem.Spec PyProof.Rows L2
section
variable {X : Cx} {K : PySem.W.Frag}
def rRepA (K : PySem.W.Frag) : R2 := fun x y H Q => ∃ l k xs, x = .ref l ∧ y = .int k ∧ SqT K H l xs ∧ xs ≠ [] ∧ 1 ≤ k ∧ k ≤ 1000 ∧ xs.length ≤ 1000 ∧ (k = 1 → Q (.ref l) H) ∧ (k ≠ 1 → ∀ p, H p = none → Q (.ref p) (upd H p (.tup (List.replicate k.toNat xs).flatten)))
theorem op_repTA (hK : X.K = K := by rfl) : OpR X (binaryOp .Mult) (rRepA K) := by
  subst hK
  intro pins s σ H x y v u Q I rx ry h
  obtain ⟨l, k, xs, rfl, rfl, hT, hne, h1, h2, hz, q1, q2⟩ := h
  by_cases hk : k = 1
  · subst hk
    cases rx
    obtain ⟨t, rfl⟩ := ry
    obtain ⟨its, r, ⟨⟨cls, dd, data, sl⟩, ho, hc, n, hd⟩, hs⟩ := I.tuple hT
    simp only at hc hd
    subst hc hd
    refine wpAny_binaryOp_repeat_ref (T := "tuple") (U := "int") (by decide) ⟨_, ho, rfl⟩ (fun s' => typeIs_int s' 1 t) noFill_tuple_mul F.fills_int_mul F.slot_int_rmul repeat_tuple F.slot_int_index.lookup
      (call_meets F.slot_int_rmul (typeIs_int s 1 t) F.entry_int_rmul (F.args_int_rmul_2 _ _) (int_rmul_tuple 1 t l its.toArray n dd sl)
        ⟨ho, rfl, ⟨_, ho, rfl⟩, call_meets F.slot_tuple_mul ⟨_, ho, rfl⟩ F.entry_tuple_mul (F.args_tuple_mul_2 _ _) (tuple_mul1 l its.toArray n dd sl t) ⟨ho, ?_⟩⟩)
    exact ⟨.ref l, H, I, rfl, q1 rfl⟩
  · exact op_repT pins s σ H _ _ v u Q I rx ry ⟨l, k, xs, rfl, rfl, hT, hne, by omega, h2, hz, q2 hk⟩
theorem op_catAK (hK : X.K = K := by rfl) : OpR X (binaryOp .Add) (rCatA K) := hK ▸ op_catA
theorem sl_tupAK (hK : X.K = K := by rfl) : SlR X (rSlA K) := hK ▸ sl_tupA
theorem call_list_ofK (hK : X.K = K := by rfl) : CallR X (.type "list") (fun xs H Q => ∃ p ys, xs = [.ref p] ∧ (SqL K H p ys ∨ SqT K H p ys) ∧ ∀ l, H l = none → Q (.ref l) (upd H l (.lst ys))) := hK ▸ call_list_of
end
/-- two generators, tuples within a tuple, rows of one length: each item by its places -/
theorem lc2_tupF {K : PySem.W.Frag} {te : TE} {i1 j1 : Nat} {σ : L2.St} {H1 : Hp} {D a : Addr} {Q : VK} {rs : List V} (c : Nat) (f : Nat → Nat → V) (ht : H1 a = some (.tup rs)) (hD : H1 D = none) (nij : j1 ≠ i1) (hi1 : i1 < σ.length) (hj1 : j1 < σ.length) (hn : ∀ x ∈ rs, ∃ p xs, x = .ref p ∧ H1 p = some (.tup xs) ∧ xs.length = c) (hc : c ≤ 1000) (hr : rs.length ≤ 1000)
    (hs : ∀ (i j : Nat) (p : Addr) (xs : List V) (y : V) (H : Hp), rs[i]? = some (.ref p) → H1 p = some (.tup xs) → xs[j]? = some y → Same H1 H → te ((((wipe σ [i1, j1]).set i1 (some (.ref p))).set j1 none).set j1 (some y)) H fun v H4 => Same H H4 ∧ v = f i j)
    (k : ∀ H, Same H1 H → H D = some (.lst ((List.range rs.length).flatMap fun i => (List.range c).map (f i))) → Q (.ref D) H) :
    Lc2 (Itt K a) (gName i1) tYes (iTup K (fun σ H Q => ∃ v, σ[i1]? = some (some v) ∧ Q v H)) (gName j1) tYes (tCut te) [i1, j1] [j1] σ H1 Q D := by
  have nD : ∀ {H : Hp} {ys : List V}, Same H1 H → Same H1 (upd H D (.lst ys)) := fun {H ys} s b o e => by
    rw [upd_ne (ne_of_none e hD)]
    exact s _ _ e
  have fl : ∀ i, ((List.range i).flatMap fun i => (List.range c).map (f i)).length = i * c := fun i => by
    induction i with
    | zero => simp
    | succ i ih => rw [List.range_succ, List.flatMap_append, List.length_append, ih, Nat.succ_mul]; simp
  refine ⟨fun i m H => m = rs.length - i ∧ i ≤ rs.length ∧ Same H1 H ∧ H D = some (.lst ((List.range i).flatMap fun i => (List.range c).map (f i))), ⟨rs.length, by simp, Nat.zero_le _, nD (Same.refl H1), upd_same⟩, ?_⟩
  rintro i m H ⟨rfl, hi, s1, e1⟩
  by_cases hlt : i < rs.length
  · refine .inr ⟨(walk_tup (K := K) (a := a) (xs := rs)).goes i H hlt (SqT.of (s1 _ _ ht)), fun H' => Same H1 H' ∧ H' D = some (.lst ((List.range (i + 1)).flatMap fun i => (List.range c).map (f i))), fun H' q => ⟨rs.length - (i + 1), by omega, rfl, hlt, q.1, q.2⟩, fun x H' y => ?_⟩
    obtain ⟨rfl, hx⟩ := (walk_tup (K := K) (a := a) (xs := rs)).yields i H x H' hlt (SqT.of (s1 _ _ ht)) y
    obtain ⟨p, xs, rfl, hp, hxl⟩ := hn x (List.mem_of_getElem? hx)
    refine ⟨?_, ?_⟩
    · show ((((σ.set j1 none).set i1 none).set i1 (some (V.ref p))).set j1 none).set i1 none = (σ.set j1 none).set i1 none
      rw [List.set_set, List.set_comm none none nij, List.set_set, List.set_comm none none nij, List.set_set]
    · unfold tYes
      dsimp only
      rw [if_pos rfl]
      have len1 : i1 < (wipe σ [i1, j1]).length := by rw [wipe_length]; exact hi1
      refine ⟨.ref p, by rw [List.getElem?_set_self len1], p, rfl, ⟨xs, SqT.of (s1 _ _ hp)⟩, ?_⟩
      refine ⟨fun j k H => k = xs.length - j ∧ j ≤ xs.length ∧ Same H1 H ∧ H D = some (.lst (((List.range i).flatMap fun i => (List.range c).map (f i)) ++ (List.range j).map (f i))), ⟨xs.length, by simp, Nat.zero_le _, s1, by simpa using e1⟩, ?_⟩
      rintro j k H ⟨rfl, hj, s2, e2⟩
      by_cases hlj : j < xs.length
      · refine .inr ⟨(walk_tup (K := K) (a := p) (xs := xs)).goes j H hlj (SqT.of (s2 _ _ hp)), fun H' => Same H1 H' ∧ H' D = some (.lst (((List.range i).flatMap fun i => (List.range c).map (f i)) ++ (List.range (j + 1)).map (f i))), fun H' q => ⟨xs.length - (j + 1), by omega, rfl, hlj, q.1, q.2⟩, fun x H' y => ?_⟩
        obtain ⟨rfl, hy⟩ := (walk_tup (K := K) (a := p) (xs := xs)).yields j H x H' hlj (SqT.of (s2 _ _ hp)) y
        refine ⟨wipe_one, ?_⟩
        rw [if_pos rfl]
        refine ⟨_, hs i j p xs x H' hx hp hy s2, ?_⟩
        rintro v H4 ⟨s4, rfl⟩
        refine ⟨_, s4 _ _ e2, Nat.lt_of_le_of_lt (m := 1000 * 1000 + 1000) ?_ (by decide), nD (s2.trans s4), ?_⟩
        · rw [List.length_append, fl, List.length_map, List.length_range]
          have : i * c ≤ 1000 * 1000 := Nat.mul_le_mul (by omega) hc
          omega
        · rw [upd_same, List.range_succ, List.map_append, ← List.append_assoc]
          rfl
      · have e : j = xs.length := by omega
        subst e
        refine .inl ⟨(walk_tup (K := K) (a := p) (xs := xs)).stops H (SqT.of (s2 _ _ hp)), s2, ?_⟩
        rw [e2, hxl, List.range_succ, List.flatMap_append]
        simp
  · have e : i = rs.length := by omega
    subst e
    exact .inl ⟨(walk_tup (K := K) (a := a) (xs := rs)).stops H (SqT.of (s1 _ _ ht)), k H s1 e1⟩
theorem bls_map {α : Type} {ys : List V} {ss : List α} {g : α → Bool} (hl : ys.length = ss.length) (h : ∀ (i : Nat) (y : V) (o : α), ys[i]? = some y → ss[i]? = some o → y = .bl (g o)) : ys = (ss.map g).map V.bl := by
  refine List.ext_getElem? fun i => ?_
  rw [List.getElem?_map, List.getElem?_map]
  by_cases hi : i < ss.length
  · have e1 := List.getElem?_eq_getElem hi
    have e2 := List.getElem?_eq_getElem (l := ys) (i := i) (by omega)
    rw [e1, e2, h i _ _ e2 e1]
    rfl
  · rw [List.getElem?_eq_none (by omega), List.getElem?_eq_none (by omega)]
    rfl
end MG

/-! classmethods called by position, where nothing is raised; t * n; plain texts shown -/
namespace MG
open PySem PySem.Spec PyProof.Rows L2 ClX
section
variable {X : Cx} {k j : Nat} {C : Addr} {m : Str} {sp : Sp} {o e : Expr} {es : List Expr} {pos apos : Pos} {ta : TE} {t : TA} {pl : Sem Bool}
structure CmtF (P : Program) (w : World) (K : PySem.W.Frag) (mg : Str → Option Value) (base : Heap) (k : Nat) (C : Addr) (m : Str) (sp : Sp) : Prop where
  ex : ∃ (p g : Addr) (mc : Value) (fd : FuncData) (ps : List Str), CRead K C mc ∧ CMet K C mc m p g ∧ FnOk P w K mg base CX0 k g fd ps sp ∧ Binds K fd ps []
theorem pe_cmf (c : CmtF X.prog X.w X.K X.mg X.base k C m sp) (hr : Room j X.A) (hk : k ≤ j) (he : PE X o ta) (ha : PA X (e :: es) t)
    (hst : starEach (e :: es) X.env = (false, eval e X.env) :: starEach es X.env := by rfl) (hpl : (backTo pos (starEach es X.env)).any (·.1) = false := by rfl)
    (ht : eval (.Call (.Attribute o m apos) (e :: es) [] pos) X.env = (do
      let ov ← eval o X.env
      standAt apos.atName
      let (f, first) ← holding [ov] (getMethod ov m pl)
      callWith pos f first (backTo pos (starEach (e :: es) X.env)) (backToKw pos (keywordEach [] X.env))) := by rfl) :
    PE X (.Call (.Attribute o m apos) (e :: es) [] pos) (tCMeth C sp E0 ta t) := by
  obtain ⟨p, g, mc, fd, ps, r, cm, F, b⟩ := c.ex
  refine ⟨fun pins s σ H Q I h => ?_⟩
  refine PySem.W.methodCall_KW (pl := pl) (thn (he.run pins s σ H _ I h) fun u s1 ⟨x, H1, I1, rx, ex, q⟩ => ?_) ht
  subst ex
  obtain rfl : u = Value.ref C := rx
  refine getmethcm_ok I1 r cm fun s2 I2 => ?_
  refine callwith_cm I2 (base_none I1 (Nat.le_refl _)) cm.fi (thn (ha.run pos _ s2 σ H1 _ I2 q) fun us s3 ⟨vs, H2, I3, rv, q2⟩ => ⟨⟨pin_at I3, I3.kIn⟩, ?_⟩) hst hpl
  have q3 : sp (.ref C :: vs ++ []) H2 Q E0 := by rw [List.append_nil]; exact q2
  exact after_cm I3 (fun pins H s e s' I hq => hq.elim) ((F.raw b .nil) X.A X.stack s3 H2 (.ref C :: us) (.ref C :: vs) Q E0 (hr.mono hk) I3.env0 (.cons rfl rv) q3)
end
theorem op_eqDK {X : Cx} {K : PySem.W.Frag} (hu : X.A.units + 64 < cLine) (hK : X.K = K := by rfl) : OpR X (compareOp .Eq) (rEqD K) := hK ▸ op_eqD hu
theorem op_neDK {X : Cx} {K : PySem.W.Frag} (hu : X.A.units + 64 < cLine) (hK : X.K = K := by rfl) : OpR X (compareOp .NotEq) (rNeD K) := hK ▸ op_neD hu
theorem rep_all {K : PySem.W.Frag} {G : Hp} {l : Addr} {v : V} {k : Nat} {R : VK} (hl : G l = some (.tup [v])) (k0 : 0 < k) (k1 : k ≤ 1000) (h : ∀ p G', Same G G' → G' p = some (.tup (List.replicate k v)) → R (.ref p) G') : rRepA K (.ref l) (.int (k : Int)) G R := by
  refine ⟨l, k, [v], rfl, rfl, SqT.of hl, by simp, by omega, by omega, by simp, fun e => ?_, fun e p hp => ?_⟩
  · have e1 : k = 1 := by omega
    subst e1
    exact h l G (Same.refl G) hl
  · refine h p _ (MG.Same.new (Same.refl G) hp) ?_
    rw [upd_same]
    congr 2
    simp
theorem Okd.repG {K : PySem.W.Frag} {H : Hp} {x : V} {d : PyData} {n k : Nat} {Q : VK} (o : Okd d n k) (h : Dp K H x d) (hk : k ≤ 60) (hn : n ≤ sizeLine) (q : ∀ z, d.shown = z → Q (.str z) H) : rRepr K [x] H Q :=
  ⟨x, d, rfl, h, o.sh, o.nd, Nat.le_trans o.dp hk, Nat.le_trans o.ln hn, q _ rfl⟩
/-! ### plain texts -/
def Pl (z : Str) : Prop := ∀ c ∈ z.cps.toList, (32 ≤ c ∧ c ≤ 126) ∧ c ≠ 39 ∧ c ≠ 92
theorem pl_ch : ∀ c, c < 127 → (decide (32 ≤ c) && decide (c ≠ 39) && decide (c ≠ 92)) = true → PySem.Builtin.Str.reprChar 39 c = [c] := by decide +kernel
theorem pl_fold : ∀ (l : List Nat) (acc : Array Nat), (∀ c ∈ l, (32 ≤ c ∧ c ≤ 126) ∧ c ≠ 39 ∧ c ≠ 92) → l.foldl (fun out c => out ++ (PySem.Builtin.Str.reprChar 39 c).toArray) acc = acc ++ l.toArray
  | [], acc, _ => by simp
  | c :: r, acc, h => by
    have hc := h c (by simp)
    have e := pl_ch c (by omega) (by simp only [Bool.and_eq_true, decide_eq_true_eq]; omega)
    rw [List.foldl_cons, e, pl_fold r _ fun d hd => h d (List.mem_cons_of_mem _ hd)]
    simp
theorem repr_pl {z : Str} (h : Pl z) : reprText z = ("'" : Str) ++ z ++ ("'" : Str) := by
  have n39 : z.cps.contains 39 = false := by
    cases e : z.cps.contains 39 with
    | false => rfl
    | true =>
      exfalso
      have m : 39 ∈ z.cps := by simpa using e
      exact (h 39 (Array.mem_toList_iff.mpr m)).2.1 rfl
  unfold reprText
  rw [show reprQuote z = 39 by unfold reprQuote; rw [n39]; rfl, ← Array.foldl_toList, pl_fold _ _ h]
  have e1 : ("'" : Str).cps = #[39] := by decide +kernel
  have e2 : (("'" : Str) ++ z ++ ("'" : Str)).cps = #[39] ++ z.cps ++ #[39] := by
    show ("'" : Str).cps ++ z.cps ++ ("'" : Str).cps = _
    rw [e1]
  have e3 : ∀ a b : Str, a.cps = b.cps → a = b := fun a b h => by cases a; cases b; cases h; rfl
  refine e3 _ _ ?_
  rw [e2]
  simp
theorem pl_append {x y : Str} (hx : Pl x) (hy : Pl y) : Pl (x ++ y) := fun c hc => by
  have e : (x ++ y).cps = x.cps ++ y.cps := rfl
  rw [e, Array.toList_append] at hc
  rcases List.mem_append.mp hc with h | h
  · exact hx c h
  · exact hy c h
theorem pl_of (s : String) (h : (s.toList.all fun c => decide ((32 ≤ c.toNat ∧ c.toNat ≤ 126) ∧ c.toNat ≠ 39 ∧ c.toNat ≠ 92)) = true) : Pl (Str.ofString s) := by
  intro c hc
  rw [signs_ofString] at hc
  obtain ⟨d, hd, rfl⟩ := List.mem_map.mp hc
  exact of_decide_eq_true (List.all_eq_true.mp h d hd)
theorem pl_int (i : Int) : Pl (Str.ofString (toString i)) := by
  refine pl_of _ (List.all_eq_true.mpr fun c hc => ?_)
  rcases int_sign i c hc with h | h
  · have := digit_range h
    exact decide_eq_true ⟨⟨by omega, by omega⟩, by omega, by omega⟩
  · rw [h]
    decide
theorem pl_join {y : Str} (ay : Pl y) : ∀ {ps : List Str}, (∀ p ∈ ps, Pl p) → Pl (Str.join y ps)
  | [], _ => fun c hc => by cases hc
  | [p], h => h p (by simp)
  | p :: q :: r, h => by
    show Pl (p ++ y ++ Str.join y (q :: r))
    exact pl_append (pl_append (h p (by simp)) ay) (pl_join ay fun x hx => h x (by simp at hx ⊢; rcases hx with h | h <;> simp [h]))
end MG

/-! several named except clauses; lambdas whose errors have no context, handed to a def -/
namespace MG
open PySem PySem.Spec PyProof.Rows L2 LamX
/-! ### try: .. except x1 as n: .. except x2 as n: .. -/
def wAll (K : PySem.W.Frag) (i len : Nat) (Wz : WX) (D : Ends) : List (Value × (Addr → Value → Option Addr → TS)) → WX
  | [] => Wz
  | p :: r => fun cls d τ G => ∃ b, PySem.W.exmOne K cls p.1 = some b ∧
      (b = true → ∀ a, G a = none → τ.length = len → p.2 a cls d { nx := fun τ' G' => D.nx (τ'.set i none) G', rt := D.rt, bk := fun τ' G' => D.bk (τ'.set i none) G', ct := fun τ' G' => D.ct (τ'.set i none) G' } (τ.set i (some (.ref a))) G) ∧ (b = false → wAll K i len Wz D r cls d τ G)
inductive ClsAs (X : Cx) (n : Str) : List ExceptHandler → List (Value × (Addr → Value → Option Addr → TS)) → Prop
  | nil : ClsAs X n [] []
  | cons {x : Str} {c : Value} {ts : Addr → Value → Option Addr → TS} {b1 : Stmt} {su : List Stmt} {p1 p2 : Pos} {hs : List ExceptHandler} {l : List (Value × (Addr → Value → Option Addr → TS))} (hc : Names X x c)
      (hsu : ∀ (a : Addr) (oe : Obj) (cls : Value) (d : Option Addr) (pn : List (Addr × Obj)), L2N.Zn cls d oe → (∃ vs, oe.data = .fields vs) → PSs (X.suite a ((a, oe) :: pn)) (b1 :: su) (ts a cls d)) (r : ClsAs X n hs l) :
      ClsAs X n (.ExceptHandler (some (.Name x p1)) (some n) (b1 :: su) p2 :: hs) ((c, ts) :: l)
section
variable {X : Cx} {n : Str} {i : Nat} {body : List Stmt} {h1 : ExceptHandler} {hs : List ExceptHandler} {l : List (Value × (Addr → Value → Option Addr → TS))} {pos : Pos} {tb : WX → TS} {Wz : WX}
theorem ps_many_as (hst : X.stack = X.env :: X.outer) (hfr : X.env.frame = some X.env.locals) (hN : X.N.Nodup) (hi : X.N[i]? = some n) (hln : X.env.kindOf n = some .local) (tk : L2N.Takes X Wz)
    (hb : ∀ (W : WX) (pn : List (Addr × Obj)) (xe : Value → Shared → Prop), L2N.Takes (X.tr pn xe) W → PassesOwn (model X.prog X.w) X.A X.env xe → PSs (X.tr pn xe) body (tb W))
    (hh : ClsAs X n (h1 :: hs) l) : PS X (.Try body (h1 :: hs) [] [] pos) (fun D σ H => tb (wAll X.K i X.N.length Wz D l) D σ H) := by
  refine ⟨fun pins s σ H D I h => wpAny_Try_except ?_⟩
  have ok := I.ok
  have fr1 : X.A.frames = some (X.env :: X.outer) := hst ▸ ok.frames
  let xe1 : Value → Shared → Prop := fun e u1 => wpAny (model X.prog X.w) X.A (noteFrame e X.env) (fun _ u2 => wpAny (model X.prog X.w) X.A (setFlight e none) (fun _ u3 => wpAny (model X.prog X.w) X.A (handleBy e X.env (h1 :: hs)) (SP X pins D) X.xe u3) X.xe u2) X.xe u1
  refine wpAny_mono ((hb (wAll X.K i X.N.length Wz D l) (X.pn ++ pins) xe1 (fun u s' xx => ?_) PassesOwn.looking).run [] s σ H D (I.toTry _) h) (fun f t1 ht => ?_) (fun _ _ z => z)
  · obtain ⟨a, B, sI, pins1, σ1, G, cls, d, rfl, J1, nb, up, sky, na, os, ag, wsh⟩ := xx
    have J : Inv X pins σ1 G sI := J1.ofTry ok
    have sky1 : Sky B (X.env :: X.outer) a (L2N.Zn cls d) X.env.locals s'.heap := hst ▸ sky
    show wpAny (model X.prog X.w) X.A (noteFrame (.ref a) X.env) _ _ _
    refine L2N.Sky.land L2N.Zn.steady fr1 hfr sky1 fun k1 fly1 u1 => ?_
    have J2 : Inv X pins σ1 G { s' with heap := k1 } := J.landed nb fly1.1 (up.trans u1) os ag
    obtain ⟨oe1, vs1, he1, hz1, hd1⟩ := fly1.there
    have nfr : a ∉ frs (X.env :: X.outer) := fun hm => by
      obtain ⟨_, o1, e1, z1⟩ := fly1.2.2.1.mem hm
      rw [he1] at e1
      cases e1
      exact z1 _ hd1
    have nL : a ≠ X.env.locals := fun z => nfr (List.mem_filterMap.mpr ⟨X.env, by simp, by rw [hfr, z]⟩)
    have nF : a ∉ X.fs := fun hm => (List.mem_filterMap.mp hm).elim fun e ⟨h2, h3⟩ => nfr (List.mem_filterMap.mpr ⟨e, by simp [h2], h3⟩)
    have S1 := J2.suite he1 hd1 na nL nF
    have lk : PySem.W.Looks (model X.prog X.w) k1 (typeOf (.ref a)) cls := fun A Q E s k q => wpAny_typeOf_ref (k _ _ he1) (hz1.1.symm ▸ q)
    have go : ∀ {hs2 : List ExceptHandler} {l2 : List (Value × (Addr → Value → Option Addr → TS))}, ClsAs X n hs2 l2 → wAll X.K i X.N.length Wz D l2 cls d σ1 G → wpAny (model X.prog X.w) X.A (handleBy (.ref a) X.env hs2) (SP X pins D) X.xe { s' with heap := k1 } := by
      intro hs2 l2 hk
      induction hk with
      | nil =>
        intro wz
        refine wpAny_handleBy_nil ?_
        obtain ⟨_, _, _, oe2, vs2, T2, _, _, he2, hz2, hd2, hv2, _⟩ := id fly1
        unfold PySem.passOn
        refine wpAny_bind (wpAny_field he2 hd2 hv2 ?_)
        rw [if_neg (show ¬ ((Value.ref T2 == Value.none) = true) by simp)]
        have fin : wpAny (model X.prog X.w) X.A (setFlight (.ref a) X.env.frame) (fun _ t4 => wpAny (model X.prog X.w) X.A (throw (.ref a) : Sem Flow) (SP X pins D) X.xe t4) X.xe { s' with heap := k1 } := by
          rw [hfr]
          exact HandSPX.setFlight_upZ fly1 fun k4 hl4 u4 => wpAny_throw (tk _ _ ⟨a, B, sI, pins, σ1, G, cls, d, rfl, J, nb, (up.trans u1).trans u4, .inr (.inr (hst ▸ hl4)), na, os, ag, wz⟩)
        first | exact wpAny_bind (wpAny_pure (wpAny_bind fin)) | exact wpAny_bind fin
      | @cons x c ts b1 su p1 p2 hs3 l3 hc hsu r ih =>
        intro wz
        obtain ⟨b, hb1, yes, no⟩ := wz
        refine wpAny_handleBy_cons (codeAny_handlers_test ?_) nofun
        have LM := PySem.W.exm_one (M := model X.prog X.w) J2.kIn lk hb1
        have test : ∀ {Q : Value → Shared → Prop} {E : Value → Shared → Prop}, Q c { s' with heap := k1 } → wpAny (model X.prog X.w) (X.A.mark (some (.ref a))) (eval (.Name x p1) X.env) Q E { s' with heap := k1 } := fun {Q E} q => by
          rcases hc with ⟨hg, hdb, hm | ⟨hm, hv, hnn⟩⟩
          · exact ld_glob (X := X.suite a ((a, oe1) :: (X.pn ++ pins))) S1 hg hm q hdb
          · exact ld_blt (X := X.suite a ((a, oe1) :: (X.pn ++ pins))) S1 hg hm hv q hnn hdb
        refine test (LM.here ?_)
        match b, yes, no with
        | true, yes, _ =>
          refine codeAny_handlers_suite_as (HandSPX.lands_againZ fly1 fun k4 fly4 u4 => ?_)
          have J4 : Inv X pins σ1 G { s' with heap := k4 } := J.landed nb fly4.1 ((up.trans u1).trans u4) os ag
          obtain ⟨oe4, vs4, he4, hz4, hd4⟩ := fly4.there
          refine store_ok (X := X.suite a ((a, oe4) :: (X.pn ++ pins))) (v := .ref a) (J4.suite he4 hd4 na nL nF) hN hi (.inl hln) rfl (fun t5 S5 => ?_) (.inr hln)
          refine wpAny_mono ((hsu a oe4 cls d (X.pn ++ pins) hz4 ⟨_, hd4⟩).run [] t5 _ G _ S5 (yes rfl a na J.len)) (fun f t6 hf6 => ?_) (fun _ _ z => z.elim)
          have done : ∀ {σ6 : L2.St} {G6 : Hp} {Q : Shared → Prop}, Inv (X.suite a ((a, oe4) :: (X.pn ++ pins))) [] σ6 G6 t6 → (∀ t7, Inv X pins (σ6.set i none) G6 t7 → Q t7) → wpAny (model X.prog X.w) X.A (do bindName X.env n .none; unbindBehindTheSuite X.env n p2) (fun _ t7 => Q t7) X.xe t6 :=
            fun {σ6 G6 Q} S6 hq => gone_ok (S6.unsuite ok) hN hi hln hq
          match f, hf6 with
          | .next, ⟨σ6, G6, S6, q6⟩ => exact done S6 fun t7 J7 => ⟨_, _, J7, q6⟩
          | .brk, ⟨σ6, G6, S6, q6⟩ => exact done S6 fun t7 J7 => ⟨_, _, J7, q6⟩
          | .cont, ⟨σ6, G6, S6, q6⟩ => exact done S6 fun t7 J7 => ⟨_, _, J7, q6⟩
          | .ret u, ⟨v6, σ6, G6, S6, r6, q6⟩ => exact done S6 fun t7 J7 => ⟨_, _, _, J7, r6, q6⟩
        | false, _, no => exact ih (no rfl)
    exact go hh wsh
  · match f, ht with
    | .next, ⟨σ1, G, J1, q⟩ => exact wpAny_execs_nil ⟨σ1, G, J1.ofTry ok, q⟩
    | .brk, ⟨σ1, G, J1, q⟩ => exact ⟨σ1, G, J1.ofTry ok, q⟩
    | .cont, ⟨σ1, G, J1, q⟩ => exact ⟨σ1, G, J1.ofTry ok, q⟩
    | .ret u, ⟨v, σ1, G, J1, r, q⟩ => exact ⟨v, σ1, G, J1.ofTry ok, r, q⟩
/-- what is raised said once for all ways -/
theorem ps_manyAs_cut (hst : X.stack = X.env :: X.outer) (hfr : X.env.frame = some X.env.locals) (hN : X.N.Nodup) (hi : X.N[i]? = some n) (hln : X.env.kindOf n = some .local) (tk : L2N.Takes X Wz)
    (hb : ∀ (W : WX) (pn : List (Addr × Obj)) (xe : Value → Shared → Prop), L2N.Takes (X.tr pn xe) W → PassesOwn (model X.prog X.w) X.A X.env xe → PSs (X.tr pn xe) body (tb W))
    (hh : ClsAs X n (h1 :: hs) l) : PS X (.Try body (h1 :: hs) [] [] pos) (fun D σ H => ∃ Ce : WX, (∀ cls d τ G, Ce cls d τ G → wAll X.K i X.N.length Wz D l cls d τ G) ∧ tb Ce D σ H) :=
  ps_many_as (tb := fun W D σ H => ∃ Ce : WX, (∀ cls d τ G, Ce cls d τ G → W cls d τ G) ∧ tb Ce D σ H) hst hfr hN hi hln tk
    (fun W pn xe t po => ⟨fun pins s σ H D I ⟨Ce, imp, q⟩ => (hb Ce pn xe (t.imp imp) po).run pins s σ H D I q⟩) hh
end
/-! ### lambdas -/
/-- the context of the lambda's body -/
def lamN (X : Cx) (A : Around) (outer : List Env) (s : Shared) (G : Hp) (E : XK) (sc : Scope) (f c : Addr) : Cx :=
  (lamCx X A outer s G E sc f c).tr [] fun e t => wpAny (model X.prog X.w) (A.deeper (lamEnv X sc s.heap.objs.size f c)) (leaving (lamEnv X sc s.heap.objs.size f c) e) (fun _ t2 => L2N.CX X.prog X.w outer G s E e t2) (fun e2 t2 => L2N.CX X.prog X.w outer G s E e2 t2) t
theorem lamN_takes {X : Cx} {A : Around} {outer : List Env} {s : Shared} {G : Hp} {E : XK} {sc : Scope} {f c : Addr} : L2N.Takes (lamN X A outer s G E sc f c) (fun cls d _ H => E cls d H) := L2N.takes_of rfl rfl rfl rfl
section
variable {X : Cx} {pins : List (Addr × Obj)} {σ : L2.St} {H : Hp} {s : Shared}
/-- a(), in the def that was given the lambda -/
theorem pe_actN {CXg : CXT} {Eg : XK} {Ng : List Str} {qg : Str} {sg : Scope} {g f c : Addr} {cdg pm ctv : Value} {ps : Arguments} {bd : Expr} {sc : Scope} {k i : Nat} {a : Str} {pn : List (Addr × Obj)} {xe : Value → Shared → Prop} {W : WX} {tb : XK → TE} {p1 p2 : Pos}
    (I : Inv X pins σ H s) (L : LamS X.env.scope sc) (hf : s.heap.get? f = some (PySem.W.kla_obj "<lambda>" (X.env.qual ++ "<lambda>") ps bd sc (cloFrom X.env.cells sc.names []) pm c ctv)) (hfn : H f = none) (hfs : f ∉ frs X.stack)
    (hbind : bindArgs (PySem.W.kla_fn "<lambda>" (X.env.qual ++ "<lambda>") ps bd sc (cloFrom X.env.cells sc.names []) pm (.ref c) ctv) ⟨[], []⟩ = pure [])
    (tk : L2N.Takes ((cxOf CXg X.prog X.w X.K X.mg X.base Ng qg sg g cdg X.A X.stack s H Eg).tr pn xe) W) (hr : Room (k + 1) (X.A.deeper (envOfC qg sg s.heap.objs.size g cdg)))
    (hbody : ∀ (A : Around) (outer : List Env) (s : Shared) (G : Hp) (E : XK), Room k (A.deeper (lamEnv X sc s.heap.objs.size f c)) → PE (lamN X A outer s G E sc f c) bd (tb E))
    (hN : Ng[i]? = some a) (hv : Vis sg a) (hd : (a == ("__debug__" : Str)) = false := by decide) (hcd : (a == ("__classdict__" : Str)) = false := by decide) :
    PE ((cxOf CXg X.prog X.w X.K X.mg X.base Ng qg sg g cdg X.A X.stack s H Eg).tr pn xe) (.Call (.Name a p1) [] [] p2)
      (fun τ G Q => τ[i]? = some (some (.ref f)) ∧ G c = some (CodeO c (X.env.qual ++ "<lambda>")) ∧ tb (WE W τ) σ G Q) := by
  refine ⟨fun pins1 s1 τ G Q I1 h => ?_⟩
  obtain ⟨hs, hc, ht⟩ := h
  refine wpAny_Call_Name_kw (thn ((pe_var (pos := p1) (i := i) hN hv hd hcd).run pins1 s1 τ G (fun v G2 => v = .ref f ∧ G2 = G) I1 ⟨.ref f, hs, rfl, rfl⟩) fun u s2 ⟨v, G2, I2, r2, ev, eG⟩ => ?_)
  subst ev
  rw [eG] at I2
  cases (show u = Value.ref f from r2)
  have of2 : s2.heap.get? f = some (PySem.W.kla_obj "<lambda>" (X.env.qual ++ "<lambda>") ps bd sc (cloFrom X.env.cells sc.names []) pm c ctv) := I2.base.keep f _ hf hfn hfs (fun z => nomatch (show f ∈ ([] : List Addr) from z))
  refine PySem.W.callWith_F0 ⟨_, _, _, _, of2⟩ ?_
  have un : Un (frs X.stack) [] H G s.heap s2.heap := I2.base
  obtain ⟨⟨oc, vs, t, hoc, hdc, hvc⟩, _, _⟩ := I2.hok c _ hc
  have rc : codeAny (model X.prog X.w) (X.A.deeper (envOfC qg sg s.heap.objs.size g cdg)) (.call (.ref f) ⟨[], []⟩) (CR (L2N.CX X.prog X.w) (envOfC qg sg s.heap.objs.size g cdg :: X.stack) X.prog X.w G s2 Q (WE W τ)) s2 := by
    refine PySem.W.kla_callFunE hr.depth of2 rfl L.co L.gen rfl ⟨c, oc, vs, t, rfl, hoc, hdc, hvc⟩ ?_
    rw [hbind]
    refine wpAny_pure (wpAny_newFunctionEnv (fun y hy => (L.own y hy).2) (fun y hy => absurd hy (by simp)) (fun h1 hns hsb => ⟨I2.nolimit.fresh _ hsb, ?_⟩) L.kind)
    have kp : ∀ b o, s2.heap.get? b = some o → h1.get? b = some o := fun b o e => hsb.extBut b o (Nat.ne_of_lt (Heap.lt_size e)) (Heap.get?_push_of_some _ e)
    have J0 : Inv (lamCx X (X.A.deeper (envOfC qg sg s.heap.objs.size g cdg)) (envOfC qg sg s.heap.objs.size g cdg :: X.stack) s2 G (WE W τ) sc f c) [] σ G { s2 with heap := h1, toks := s2.toks + ([] : List (Str × Value)).length } := lam_start2 I L I2.env0 hr.hd un hns kp
    have J : Inv (lamN X (X.A.deeper (envOfC qg sg s.heap.objs.size g cdg)) (envOfC qg sg s.heap.objs.size g cdg :: X.stack) s2 G (WE W τ) sc f c) [] σ G { s2 with heap := h1, toks := s2.toks + ([] : List (Str × Value)).length } := J0.toTry _
    show codeAny _ _ (.expr bd (lamEnv X sc s2.heap.objs.size f c)) _ _
    exact PySem.W.kla_codeExpr (wpAny_mono ((hbody _ _ s2 G _ (hr.deeper _)).run [] _ _ G Q J ht) (fun v t2 ⟨w2, G3, J3, rv, q⟩ => ⟨w2, G3, J3.os, J3.bare, J3.base, J3.hok, rv, q⟩) fun e t2 q => q)
  refine wpAny_call (codeAny_mono rc fun r t2 q => ?_)
  match r, q with
  | .error e, q => exact L2N.passAt tk τ pins1 G s2 e t2 I2 q
  | .ok (.ret u), q => exact I2.after q
  | .ok .next, q => exact q.elim
  | .ok .brk, q => exact q.elim
  | .ok .cont, q => exact q.elim
/-- the def x(a) that calls what it was given; TT: what it makes of the lambda's reading -/
def GivesN (X : Cx) (Ng : List Str) (x : Str) (sg : Scope) (g : Addr) (cdg : Value) (bg : List Stmt) (a : Str) (q : Str) (k : Nat) (TT : (XK → Hp → VK → Prop) → Hp → VK → Prop) : Prop :=
  ∀ (f c : Addr) (s : Shared) (H : Hp) (Q : VK) (tl : XK → Hp → VK → Prop), Room (k + 1) (X.A.deeper (envOfC x sg s.heap.objs.size g cdg)) →
    (∀ (W : WX) (pn : List (Addr × Obj)) (xe : Value → Shared → Prop) (p1 p2 : Pos), L2N.Takes ((cxOf C8.CX0 X.prog X.w X.K X.mg X.base Ng x sg g cdg X.A X.stack s H C8.E0).tr pn xe) W →
      PE ((cxOf C8.CX0 X.prog X.w X.K X.mg X.base Ng x sg g cdg X.A X.stack s H C8.E0).tr pn xe) (.Call (.Name a p1) [] [] p2) (fun τ G Q => τ[0]? = some (some (.ref f)) ∧ G c = some (CodeO c q) ∧ tl (WE W τ) G Q)) →
    H c = some (CodeO c q) → TT tl H Q → ∃ t, PSs (cxOf C8.CX0 X.prog X.w X.K X.mg X.base Ng x sg g cdg X.A X.stack s H C8.E0).nox bg t ∧ t { nx := fun _ G => Q .non G, rt := Q } (L2.start Ng [.ref f]) H
end
section
variable {X : Cx}
/-- x(lambda: body) -/
theorem pe_lamN {T : List (Addr × Str)} {TT : (XK → Hp → VK → Prop) → Hp → VK → Prop} {x a : Str} {g c P : Addr} {k : Nat} {pg : Arguments} {bg : List Stmt} {sg : Scope} {dV kV doc pm cdv ct oc : Value} {an od : Option Addr} {osl : Array (Option Value)} {Ng : List Str}
    {ps : Arguments} {bd : Expr} {sc : Scope} {t : XK → TE} {p lp pos : Pos} (hg : Gl X x) (hm : X.mg x = some (.ref g)) (hk : PySem.W.keepIn X.K (.ref g) = true)
    (lk : X.K.lookup g = some ⟨oc, od, .func (PySem.W.fnOf x x pg bg sg dV kV doc pm an cdv ct), osl⟩) (hcg : PySem.W.codeIn X.K cdv x = true) (hb : L2.Binds X.K (PySem.W.fnOf x x pg bg sg dV kV doc pm an cdv ct) [a] []) (Sg : FnScope Ng [a] sg) (hNg : Ng[0]? = some a) (hva : Vis sg a)
    (hG : GivesN X Ng x sg g cdv bg a (X.env.qual ++ "<lambda>") k TT)
    (TB : TabB X.base X.mg c P) (hcode : X.env.code = .ref c) (hmT : (P, X.env.qual ++ "<lambda>") ∈ T) (hu : ∀ p ∈ T, p.1 = P → p.2 = X.env.qual ++ "<lambda>") {j : Nat} (hr : Room j X.A) (hj : k + 2 ≤ j) (L : LamS X.env.scope sc) (hdef : defaultsOf ps X.env = ([], []))
    (hbind : ∀ (q : Str) (cl : List (Str × Addr)) (pm cv ctv : Value), bindArgs (PySem.W.kla_fn "<lambda>" q ps bd sc cl pm cv ctv) ⟨[], []⟩ = pure [])
    (hbody : ∀ (A : Around) (outer : List Env) (s : Shared) (H : Hp) (E : XK) (f c1 : Addr), Room k (A.deeper (lamEnv X sc s.heap.objs.size f c1)) → PE (lamN X A outer s H E sc f c1) bd (t E))
    (hdb : (x == ("__debug__" : Str)) = false := by decide) (hd : (a == ("__debug__" : Str)) = false := by decide) (hcd : (a == ("__classdict__" : Str)) = false := by decide) :
    PE X (.Call (.Name x p) [.Lambda ps bd sc lp] [] pos) (tLam T TT t) := by
  refine ⟨fun pins s σ H Q I ⟨hT, h⟩ => wpAny_Call_Name_kw (ld_glob I hg hm ?_ hdb)⟩
  refine PySem.W.callWith_K (h₀ := X.base) I.ok.mod.kin hk ?_ (by rfl) (by rfl)
  show wpAny _ _ (spliced ((false, eval (.Lambda ps bd sc lp) X.env) :: backTo pos (starEach [] X.env))) _ _ s
  refine Calls.spliced_cons (lam_make2 I TB hcode hmT hu hT hdef (L.has I.ok) fun f c1 pm1 ctv1 H1 s1 I1 eN T1 hf hfn hfr hco => Calls.spliced_nil ⟨I1.kIn, ?_⟩)
  have rc : codeAny (model X.prog X.w) X.A (.call (.ref g) ⟨[.ref f], []⟩) (CR C8.CX0 X.stack X.prog X.w H1 s1 Q C8.E0) s1 := by
    refine run_ofS (N := Ng) (ps := [a]) (us := [.ref f]) (vs := [.ref f]) lk hcg Sg (hr.mono hj) I1.env0 (hb s1 [.ref f] I1.kIn rfl) (.cons rfl .nil) rfl fun hr1 => ?_
    obtain ⟨t1, ht1, hq1⟩ := hG f c1 s1 H1 Q (fun E G Q2 => t E σ G Q2) hr1 (fun W pn xe p1 p2 tk => pe_actN (i := 0) I1 L hf hfn hfr (hbind _ _ _ _ _) tk hr1 (fun A outer s H E hr2 => hbody A outer s H E f c1 hr2) hNg hva hd hcd) hco (h H1 eN T1)
    exact ⟨t1, ht1.nox, hq1⟩
  refine wpAny_call (codeAny_mono rc fun r s2 q => ?_)
  match r, q with
  | .error e, q => exact (show False from q).elim
  | .ok (.ret u), q => exact I1.after q
  | .ok .next, q => exact q.elim
  | .ok .brk, q => exact q.elim
  | .ok .cont, q => exact q.elim
end
end MG

/-! the heap without its tables of code objects -/
namespace MG
open PySem PySem.Spec PyProof.Rows L2 LamX
def ntb (H : Hp) : Hp := fun b => match H b with
  | some (.tbl _) => none
  | o => o
theorem nt_some {H : Hp} {b : Addr} {o : HO} (h : H b = some o) (n : ∀ ps, o ≠ .tbl ps := by intro _; nofun) : ntb H b = some o := by
  unfold ntb
  rw [h]
  cases o <;> first | rfl | exact absurd rfl (n _)
theorem nt_of {H : Hp} {b : Addr} {o : HO} (h : ntb H b = some o) : H b = some o ∧ ∀ ps, o ≠ .tbl ps := by
  unfold ntb at h
  split at h
  · cases h
  · rename_i z
    exact ⟨h, fun ps e => z ps (by rw [h, e])⟩
theorem nt_none {H : Hp} {b : Addr} (h : H b = none) : ntb H b = none := by
  unfold ntb
  rw [h]
theorem nt_same {H : Hp} : Same (ntb H) H := fun b o h => (nt_of h).1
theorem nt_idem {H : Hp} : Same (ntb H) (ntb (ntb H)) := fun b o h => nt_some h (nt_of h).2
theorem nt_mono {H H' : Hp} (s : Same H H') : Same (ntb H) (ntb H') := fun b o h => nt_some (s _ _ (nt_of h).1) (nt_of h).2
theorem nt_ext {H H' : Hp} (s : ExtN H H') : Same (ntb H) (ntb H') := fun b o h => nt_some (s _ _ (nt_of h).1 (nt_of h).2) (nt_of h).2
theorem nt_keep {q : Addr} {H H' : Hp} (k : Keep q H H') : Keep q (ntb H) (ntb H') := ⟨fun b o h n => nt_some (k _ _ (nt_of h).1 n) (nt_of h).2, fun x l h => (k.hd x l (nt_of h).1).elim fun l' e => ⟨l', nt_some e⟩⟩
theorem ext_nt {H H' : Hp} (s : Same (ntb H) (ntb H')) : ExtN H H' := fun b o h n => (nt_of (s _ _ (nt_some h n))).1
section
variable {K : PySem.W.Frag} {H : Hp}
theorem rd_nt {a : Addr} {o : HO} (h : Rd H a o) (n : ∀ ps, o ≠ .tbl ps := by intro _; nofun) : Rd (ntb H) a o := by
  rcases h with h | ⟨ob, h⟩
  · exact .inl (nt_some h n)
  · exact .inr ⟨ob, nt_some h⟩
theorem SqL.nt {a : Addr} {xs : List V} (h : SqL K H a xs) : SqL K (ntb H) a xs := h.imp (fun h => rd_nt h) id
theorem SqT.nt {a : Addr} {xs : List V} (h : SqT K H a xs) : SqT K (ntb H) a xs := h.imp (fun h => rd_nt h) id
theorem TyX.nt {x : V} {t : Value} (h : TyX K H x t) : TyX K (ntb H) x t := by
  cases h with
  | base h =>
    cases h with
    | non => exact .base .non
    | bl x => exact .base (.bl x)
    | int i => exact .base (.int i)
    | str x => exact .base (.str x)
    | flt x => exact .base (.flt x)
    | lst e => exact .base (.lst (nt_some e))
    | frz e => exact .base (.frz (nt_some e))
    | tup e => exact .base (.tup (nt_some e))
    | dK e => exact .base (.dK (nt_some e))
    | dT e => exact .base (.dT (nt_some e))
    | ins e cl ha hn htk hm => exact .base (.ins (nt_some e) cl ha hn htk hm)
  | byt b => exact .byt b
  | set e => exact .set (nt_some e)
  | kList e c => exact .kList e c
  | kTuple e c => exact .kTuple e c
  | kDict e c => exact .kDict e c
  | fTuple e => exact .fTuple (nt_some e)
  | fDict e => exact .fDict (nt_some e)
end
end MG

/-! x[i] that raises; classmethods by name that raise; a def whose code object is known; tables kept -/
namespace MG
open PySem PySem.Spec PyProof.Rows L2 ClX LamX
structure IxX (P : Program) (w : World) (K : PySem.W.Frag) (mg : Str → Option Value) (base : Heap) (k : Nat) (C : Addr) (sp : Sp) : Prop where
  ex : ∃ (f : Addr) (fd : FuncData) (ps : List Str), PySem.W.findIn K (.ref C) "__getitem__" = some (some (.ref f)) ∧ PySem.W.fnIn K f = true ∧ PySem.W.isFn K (.ref f) = true ∧ FnOk P w K mg base (L2N.CX P w) k f fd ps sp ∧ Binds K fd ps []
def tIxX (C : Addr) (sp : Sp) (E : L2.St → XK) (ta tb : TE) : TE := fun σ H Q => ta σ H fun x H1 => tb σ H1 fun y H2 => ∃ a dx fs, x = .ref a ∧ H2 a = some (.ins C dx fs) ∧ sp [x, y] H2 Q (E σ)
section
variable {X : Cx} {k j : Nat} {C : Addr} {sp : Sp} {a b : Expr} {ta tb : TE} {pos : Pos} {W : WX}
theorem pe_ixX (o : IxX X.prog X.w X.K X.mg X.base k C sp) (hr : Room j X.A) (hk : k + 1 ≤ j) (tk : L2N.Takes X W) (ha : PE X a ta) (hb : PE X b tb)
    (hsl : ∀ v u, subscripted b true v u = runValue (.builtin "lifetime.subscript" ⟨[v, u], []⟩) := by intro _ _; rfl) : PE X (.Subscript a b pos) (tIxX C sp (WE W) ta tb) := by
  obtain ⟨f, fd, ps, hs, hf, hfn, F, bd⟩ := o.ex
  refine ⟨fun pins s σ H Q I h => ?_⟩
  refine Subscript_ (binT ha hb I (R := fun x y H2 => ∃ a dx fs, x = .ref a ∧ H2 a = some (.ins C dx fs) ∧ sp [x, y] H2 Q (WE W σ)) h fun v u s2 x y H2 I2 rx ry q => ?_)
  obtain ⟨a, dx, fs, rfl, ea, hsp⟩ := q
  cases rx
  obtain ⟨mA, J, _⟩ := ins_get I2.hok ea
  obtain ⟨od, J, _⟩ := J.look
  obtain ⟨m, hF⟩ := I2.fr
  refine PySem.W.sub_K hF I2.ok.mod.kin J hs hf hfn ?_ (hsl _ _)
  have hl := F.len _ _ _ _ hsp
  have r2 : Vals [V.ref a, y] [Value.ref a, u] := .cons rfl (.cons ry .nil)
  refine wpAny_call (codeAny_mono (F.run X.A.in1 X.stack s2 H2 ⟨[.ref a, u], []⟩ [.ref a, u] [.ref a, y] Q (WE W σ) ((hr.mono hk).in1) I2.env0.in1 (by
    have := bd s2 [.ref a, u] I2.kIn (by simpa using hl)
    simpa using this) r2 hsp) fun r s' hq => ?_)
  match r, hq with
  | .error e, hq => exact L2N.passAt tk σ pins H2 s2 e s' I2 hq
  | .ok (.ret z), hq => exact I2.after hq
  | .ok .next, hq => exact False.elim hq
  | .ok .brk, hq => exact False.elim hq
  | .ok .cont, hq => exact False.elim hq
end
section
variable {X : Cx} {k j : Nat} {C p g : Addr} {m : Str} {mc : Value} {sp : Sp} {o e : Expr} {es : List Expr} {pos apos : Pos} {ta : TE} {t : TA} {pl : Sem Bool}
structure CmtKX (P : Program) (w : World) (K : PySem.W.Frag) (mg : Str → Option Value) (base : Heap) (k : Nat) (C : Addr) (m : Str) (sp : Sp) (ks : List Str) (gV : List V → List V → List V) : Prop where
  ex : ∃ (p g : Addr) (mc : Value) (fd : FuncData) (ps : List Str) (gf : List Value → List Value → List Value), CRead K C mc ∧ CMet K C mc m p g ∧ FnOk P w K mg base (L2N.CX P w) k g fd ps sp ∧ KBn K fd ps 1 ks gf gV
def tCMetKS (C : Addr) (sp : Sp) (n : Nat) (gV : List V → List V → List V) (E : L2.St → XK) (ta : TE) (tk : TA) : TE := fun σ H Q => ta σ H fun x H1 => x = .ref C ∧ tk σ H1 fun zs H2 => zs.length = n ∧ sp (gV [.ref C] zs) H2 Q (E σ)
theorem pe_cmtKX {W : WX} {kws : List Keyword} {ks : List Str} {gV : List V → List V → List V} {tk : TA} (c : CmtKX X.prog X.w X.K X.mg X.base k C m sp ks gV) (hr : Room j X.A) (hk : k ≤ j) (tak : L2N.Takes X W) (he : PE X o ta) (hkw : PK X kws tk)
    (hall : (backToKw pos (keywordEach kws X.env)).all (·.1.isSome) = true := by rfl) (hks : (backToKw pos (keywordEach kws X.env)).filterMap (·.1) = ks := by rfl)
    (hpl : ((backTo pos (starEach [] X.env)).any (·.1) || (backToKw pos (keywordEach kws X.env)).any (·.1.isNone)) = false := by rfl)
    (ht : eval (.Call (.Attribute o m apos) [] kws pos) X.env = (do
      let ov ← eval o X.env
      standAt apos.atName
      let (f, first) ← holding [ov] (getMethod ov m pl)
      callWith pos f first (backTo pos (starEach [] X.env)) (backToKw pos (keywordEach kws X.env))) := by rfl) :
    PE X (.Call (.Attribute o m apos) [] kws pos) (tCMetKS C sp ks.length gV (WE W) ta tk) := by
  obtain ⟨p, g, mc, fd, ps, gf, r, cm, F, b⟩ := c.ex
  refine ⟨fun pins s σ H Q I h => ?_⟩
  refine PySem.W.methodCall_KW (pl := pl) (thn (he.run pins s σ H _ I h) fun u s1 ⟨x, H1, I1, rx, ex, q⟩ => ?_) ht
  subst ex
  obtain rfl : u = Value.ref C := rx
  refine getmethcm_ok I1 r cm fun s2 I2 => ?_
  refine PySem.W.callWith_of (P := PySem.W.MethP X.K s1.heap.objs.size g (.ref C)) hpl (PySem.W.keeps_M cm.fi) (PyProof.Rows.evalArgs_kw2_nil hall (thn (hkw.run pos _ s2 σ H1 _ I2 q) fun ws s3 ⟨zs, H2, I3, rz, hl, q2⟩ => ⟨⟨pin_at I3, I3.kIn⟩, ?_⟩))
  rw [hks]
  have hlw : ws.length = ks.length := rz.length.symm.trans hl
  exact after_cm I3 (L2N.passAt tak σ) (F.run X.A X.stack s3 H2 ⟨.ref C :: [], ks.zip ws⟩ (gf [.ref C] ws) (gV [.ref C] zs) Q _ (hr.mono hk) I3.env0 (b.to s3 [.ref C] ws I3.kIn rfl hlw) (b.rel (.cons rfl .nil) rz) q2)
theorem cr_or {f : Value} {r1 r2 : List V → Hp → VK → Prop} (h1 : CallR X f r1) (h2 : CallR X f r2) : CallR X f (fun xs H Q => r1 xs H Q ∨ r2 xs H Q) := fun pins s σ H xs us Q I r h => h.elim (h1 pins s σ H xs us Q I r) (h2 pins s σ H xs us Q I r)
end
/-- a def, its code object known -/
structure FunC (K : PySem.W.Frag) (x qual : Str) (st : Stmt) (f : Addr) (fd : FuncData) (c : Addr) : Prop where
  ex : ∃ (oc : Value) (od : Option Addr) (kV doc pm : Value) (an : Option Addr) (ct : Value) (osl : Array (Option Value)),
    fd = PySem.W.fnOf x qual (defArgs st) (defBody st) (defScope st) .none kV doc pm an (.ref c) ct ∧ K.lookup f = some ⟨oc, od, .func fd, osl⟩ ∧ PySem.W.codeIn K (.ref c) qual = true
theorem fun_okGC {P : Program} {w : World} {K : PySem.W.Frag} {mg : Str → Option Value} {base : Heap} {x qual : Str} {st : Stmt} {f c : Addr} {fd : FuncData} {N ps : List Str} {k : Nat} {sp : Sp} (F : FunC K x qual st f fd c) (S : FnScope N ps (defScope st)) (len : ∀ vs H Q E, sp vs H Q E → vs.length = ps.length)
    (hbody : ∀ (A : Around) (outer : List Env) (s : Shared) (H : Hp) (vs : List V) (Q : VK) (E : XK), Bare (A.deeper (envOfC qual (defScope st) s.heap.objs.size f (.ref c))) → Room k (A.deeper (envOfC qual (defScope st) s.heap.objs.size f (.ref c))) → sp vs H Q E →
      ∃ t, PSs (cxOf CX0 P w K mg base N qual (defScope st) f (.ref c) A outer s H E).nox (defBody st) t ∧ t { nx := fun _ H' => Q .non H', rt := Q } (start N vs) H) : FnG P w K mg base CX0 (k + 1) f fd ps sp := by
  obtain ⟨oc, od, kV, doc, pm, an, ct, osl, rfl, lk, hcd⟩ := F.ex
  refine fnG_of lk hcd S len fun A outer s H vs Q E bare hr hsp => ?_
  obtain ⟨t, h, q⟩ := hbody A outer s H vs Q E bare hr hsp
  exact ⟨t, h.nox, q⟩
/-! ### tables -/
theorem tabs_keep {T : List (Addr × Str)} {q : Addr} {l : List V} {H H' : Hp} (t : Tabs T H) (hq : H q = some (.lst l)) (k : Keep q H H') : Tabs T H' := fun p hp => by
  obtain ⟨ps, h1, h2, h3⟩ := t p hp
  refine ⟨ps, k _ _ h1 fun e => ?_, h2, fun pos cv hc => ?_⟩
  · rw [e, hq] at h1
    cases h1
  · obtain ⟨c, e1, e2⟩ := h3 pos cv hc
    refine ⟨c, e1, k _ _ e2 fun e => ?_⟩
    rw [e, hq] at e2
    cases e2
theorem tabs_hid {T : List (Addr × Str)} {D : Addr} {l : List V} {H : Hp} (t : Tabs T H) (e : H D = some (.lst l)) : Tabs T (hid D H) := fun p hp => by
  obtain ⟨ps, h1, h2, h3⟩ := t p hp
  have n1 : p.1 ≠ D := fun z => by
    rw [z, e] at h1
    cases h1
  refine ⟨ps, by rw [hid_ne n1]; exact h1, h2, fun pos cv hc => ?_⟩
  obtain ⟨c, e1, e2⟩ := h3 pos cv hc
  have n2 : c ≠ D := fun z => by
    rw [z, e] at e2
    cases e2
  exact ⟨c, e1, by rw [hid_ne n2]; exact e2⟩
theorem tabs_sub {T T' : List (Addr × Str)} {H : Hp} (t : Tabs T H) (s : ∀ p ∈ T', p ∈ T) : Tabs T' H := fun p hp => t p (s p hp)
theorem tabs_same {T : List (Addr × Str)} {H H' : Hp} (t : Tabs T H) (s : Same H H') : Tabs T H' := t.ext s
/-- the def that is handed a lambda, as those know it who call it -/
structure AskC (K : PySem.W.Frag) (mg : Str → Option Value) (x a : Str) (st : Stmt) (g : Addr) (fd : FuncData) (cdv : Value) : Prop where
  gl : mg x = some (.ref g)
  kp : PySem.W.keepIn K (.ref g) = true
  ex : ∃ (oc : Value) (od : Option Addr) (kV doc pm : Value) (an : Option Addr) (ct : Value) (osl : Array (Option Value)),
    fd = PySem.W.fnOf x x (defArgs st) (defBody st) (defScope st) .none kV doc pm an cdv ct ∧ K.lookup g = some ⟨oc, od, .func fd, osl⟩ ∧ PySem.W.codeIn K cdv x = true
  b : L2.Binds K fd [a] []
theorem pe_ask {X : Cx} {T : List (Addr × Str)} {TT : (XK → Hp → VK → Prop) → Hp → VK → Prop} {x a : Str} {st : Stmt} {g c P : Addr} {k : Nat} {fd : FuncData} {cdv : Value} {Ng : List Str} {ps : Arguments} {bd : Expr} {sc : Scope} {t : XK → TE} {p lp pos : Pos} (B : AskC X.K X.mg x a st g fd cdv) (hg : Gl X x)
    (Sg : FnScope Ng [a] (defScope st)) (hNg : Ng[0]? = some a) (hva : Vis (defScope st) a) (hG : GivesN X Ng x (defScope st) g cdv (defBody st) a (X.env.qual ++ "<lambda>") k TT)
    (TB : TabB X.base X.mg c P) (hcode : X.env.code = .ref c) (hmT : (P, X.env.qual ++ "<lambda>") ∈ T) (hu : ∀ p ∈ T, p.1 = P → p.2 = X.env.qual ++ "<lambda>") {j : Nat} (hr : Room j X.A) (hj : k + 2 ≤ j) (L : LamS X.env.scope sc) (hdef : defaultsOf ps X.env = ([], []))
    (hbind : ∀ (q : Str) (cl : List (Str × Addr)) (pm cv ctv : Value), bindArgs (PySem.W.kla_fn "<lambda>" q ps bd sc cl pm cv ctv) ⟨[], []⟩ = pure [])
    (hbody : ∀ (A : Around) (outer : List Env) (s : Shared) (H : Hp) (E : XK) (f c1 : Addr), Room k (A.deeper (lamEnv X sc s.heap.objs.size f c1)) → PE (lamN X A outer s H E sc f c1) bd (t E))
    (hdb : (x == ("__debug__" : Str)) = false := by decide) (hd : (a == ("__debug__" : Str)) = false := by decide) (hcd : (a == ("__classdict__" : Str)) = false := by decide) :
    PE X (.Call (.Name x p) [.Lambda ps bd sc lp] [] pos) (tLam T TT t) := by
  obtain ⟨oc, od, kV, doc, pm, an, ct, osl, rfl, lk, hc⟩ := B.ex
  exact pe_lamN hg B.gl B.kp lk hc B.b Sg hNg hva hG TB hcode hmT hu hr hj L hdef hbind hbody hdb hd hcd
end MG

/-! the law's call where it makes lambdas: tables of code objects -/
namespace MG
open PySem PySem.Spec PyProof.Rows L2 LamX
/-- the code objects' tables -/
abbrev tabsOf (cs : List (Addr × Addr)) : List Addr := cs.map (·.2)
theorem mem_tabs {cs : List (Addr × Addr)} {p : Addr × Addr} (h : p ∈ cs) : p.2 ∈ tabsOf cs := List.mem_map.mpr ⟨p, h, rfl⟩
/-- what the head's heap says of the makers -/
structure Makers (K : PySem.W.Frag) (mg : Str → Option Value) (cs : List (Addr × Addr)) (h : Heap) : Prop where
  emp : ∀ b, b ∈ tabsOf cs → h.get? b = some { cls := .none, data := .fields #[] }
  non : ∀ b, b ∈ tabsOf cs → K.lookup b = none
  code : ∀ p ∈ cs, PySem.W.CodeHd h p.1 p.2
  bm : ∃ (bm : Addr) (ob : Obj), mg "__builtins__" = some (.ref bm) ∧ bm ≠ builtinsNs ∧ h.get? bm = some ob ∧ ob.cls = .type "module" ∧ ob.dict = some builtinsNs ∧ ob.data = .plain
section
variable {P : Program} {w : World} {K : PySem.W.Frag} {mg mb : Str → Option Value} {k : Nat} {fa a : Addr} {fd : FuncData} {x : Str} {sp : Sp} {s1 : Shared} {vs : List Value} {ns : List Int} {cs : List (Addr × Addr)} {H : Hp}
theorem enterT (KX : K.In s1.heap) (hns : s1.heap.Ns mainGlobals mg) (hb : s1.heap.Ns builtinsNs mb) (hbb : ∀ x : Str, x ≠ "__name__" → mb x = bootBuiltins x) (hlim : s1.heap.NoLimit) (hg : s1.gens = #[])
    (ha : s1.heap.get? a = some { cls := .type "list", data := .seq vs.toArray }) (M : Makers K mg cs s1.heap) (hr : Room k callerA)
    (F : ∀ base : Heap, K.In base → base.Ns mainGlobals mg → (∀ p ∈ cs, TabB base mg p.1 p.2) → FnG P w K mg base CX0 k fa fd [x] sp) (hbind : ∀ (s : Shared) (u : Value), BindsTo s fd ⟨[u], []⟩ [(x, u)])
    (hT : ∀ b, b ∈ tabsOf cs → H b = some (.tbl #[])) (hO : ∀ b, b ∉ tabsOf cs → H b = none ∨ ∃ o xs, H b = some (.frz o (.lst xs))) (hok : HOk P w H s1.heap) (hA : ∀ b, b ∉ tabsOf cs → H b ≠ none → b = a) (hK : H a ≠ none → K.lookup a = none)
    (hsp : sp [.ref a] H (fun v _ => v = .bl true) fun _ _ _ => False) :
    codeAny (model P w) callerA (.call (.ref fa) ⟨[.ref a], []⟩) (fun r t => r = .ok (.ret (.bool true)) ∧ OldK s1.heap t.heap ∧ t.os = s1.os ∧ AllBare t.gens) s1 := by
  -- an object that is neither a list of values nor an empty table isn't tracked
  have free : ∀ {b : Addr} {o : Obj}, s1.heap.get? b = some o → (∀ us n, o.data ≠ .seq us n) → o.data ≠ .fields #[] → H b = none := fun {b o} e z1 z2 => by
    by_cases ht : b ∈ tabsOf cs
    · cases (M.emp b ht).symm.trans e
      exact absurd rfl z2
    · cases q : H b with
      | none => rfl
      | some u =>
        cases hA b ht (by rw [q]; nofun)
        cases ha.symm.trans e
        exact absurd rfl (z1 _ _)
  have stay : ∀ {b : Addr} {o : Obj}, s1.heap.get? b = some o → (∀ us n, o.data ≠ .seq us n) → o.data ≠ .fields #[] → (hidT s1.heap H).get? b = some o := fun e z1 z2 => hidT_get e (free e z1 z2)
  have ns1 : ∀ {b : Addr} {m : Str → Option Value}, s1.heap.Ns b m → (hidT s1.heap H).Ns b m := fun {b m} ⟨o, es, ep, e, d, r⟩ => ⟨o, es, ep, stay e (fun us n z => by rw [d] at z; cases z) (fun z => by rw [d] at z; cases z), d, r⟩
  have inB : K.In (hidT s1.heap H) := fun b o e => hidT_get (KX b o e) (by
    by_cases ht : b ∈ tabsOf cs
    · exact nomatch (M.non b ht).symm.trans e
    · cases q : H b with
      | none => rfl
      | some u =>
        cases hA b ht (by rw [q]; nofun)
        exact nomatch (hK (by rw [q]; nofun)).symm.trans e)
  have TBs : ∀ p ∈ cs, TabB (hidT s1.heap H) mg p.1 p.2 := fun p hp => by
    have e0 := M.emp _ (mem_tabs hp)
    refine ⟨?_, ?_, fun z => ?_⟩
    · obtain ⟨o, us, fl, tf, g1, g2, i1, n1, n2, e1, r1, r2, r3, rest⟩ := M.code p hp
      refine ⟨o, us, fl, tf, g1, g2, i1, n1, n2, stay e1 (fun us n z => by rw [r2] at z; cases z) (fun z => ?_), r1, r2, r3, rest⟩
      rw [r2] at z
      cases z
      simp at r3
    · obtain ⟨bm, ob, b1, b2, b3, b4, b5, b6⟩ := M.bm
      refine ⟨bm, ob, b1, b2, fun q => ?_, fun q => ?_, stay b3 (fun us n z => by rw [b6] at z; cases z) (fun z => by rw [b6] at z; cases z), b4, b5, b6⟩
      · obtain ⟨o, es, ep, e, d, _⟩ := hns
        rw [q] at b3
        cases e.symm.trans b3
        rw [d] at b6
        cases b6
      · rw [q] at b3
        cases e0.symm.trans b3
        cases b6
    · obtain ⟨o, es, ep, e, d, _⟩ := hns
      rw [← z] at e0
      cases e.symm.trans e0
      cases d
  have Md : Mod K mg (hidT s1.heap H) := ⟨inB, ns1 hns, ⟨mb, ns1 hb, hbb⟩, hlim.elim fun mc z => ⟨mc, ns1 z.1, z.2⟩⟩
  have env : Env0 P w K mg (hidT s1.heap H) callerA [] s1 H :=
    { frames := rfl, mod := Md, bs := fun b o e => of_hidT e, bsz := Nat.le_of_eq (hidT_size _ _), funs := trivial, frf := (fun b z => nomatch (show b ∈ ([] : List Addr) from z)), hok := hok, bare := .of_eq hg }
  refine codeAny_mono ((F _ inB (ns1 hns) TBs).run callerA [] s1 H ⟨[.ref a], []⟩ [.ref a] [.ref a] _ _ rfl hr env (hbind s1 (.ref a)) (.cons rfl .nil) hsp) fun r t h => ?_
  match r, h with
  | .error e, h => exact h.elim
  | .ok .next, h => exact h.elim
  | .ok .brk, h => exact h.elim
  | .ok .cont, h => exact h.elim
  | .ok (.ret u), ⟨v, H2, os, bare, un, hok2, rv, hv⟩ =>
    cases (show v = .bl true from hv)
    cases (show u = Value.bool true from rv)
    have old : ∀ b o, b ∉ tabsOf cs → s1.heap.get? b = some o → t.heap.get? b = some o := fun b o nb e => by
      cases q : H b with
      | none => exact un.keep b o e q (fun z => nomatch z) (by simp)
      | some u =>
        obtain ⟨ob, xs, z⟩ := (hO b nb).resolve_left (by rw [q]; nofun)
        exact ((hok2 b _ (un.frzs b ob _ z)).left.trans (hok b _ z).left.symm).trans e
    have grow : ∀ b, b ∈ tabsOf cs → ∃ ms : Array Value, t.heap.get? b = some { cls := .none, data := .fields ms } := fun b hb => by
      obtain ⟨ms, z⟩ := un.tbls b #[] (hT b hb)
      exact ⟨_, hok2 b _ z⟩
    refine ⟨rfl, ⟨fun b o e => ?_, fun b o e => ?_⟩, os, bare⟩
    · by_cases ht : b ∈ tabsOf cs
      · obtain ⟨ms, hm⟩ := grow b ht
        obtain ⟨p, hp, rfl⟩ := List.mem_map.mp ht
        cases (M.emp _ ht).symm.trans e
        exact .inr (.inl ⟨((M.code p hp).tab (M.emp _ ht)).isCodeTable, rfl, #[], ms, rfl, by rw [Array.empty_append]; exact hm⟩)
      · exact .inl (old b o ht e)
    · by_cases ht : b ∈ tabsOf cs
      · exact (grow b ht).elim fun ms z => ⟨_, z⟩
      · exact ⟨o, old b o ht e⟩
theorem callT (KX : K.In s1.heap) (hns : s1.heap.Ns mainGlobals mg) (hb : s1.heap.Ns builtinsNs mb) (hbb : ∀ x : Str, x ≠ "__name__" → mb x = bootBuiltins x) (hlim : s1.heap.NoLimit) (hg : s1.gens = #[])
    (ha : s1.heap.get? a = some { cls := .type "list", data := .seq vs.toArray }) (hi : IntsAre vs ns) (hl : ns.length ≤ sizeLine) (M : Makers K mg cs s1.heap) (hr : Room k callerA)
    (F : ∀ base : Heap, K.In base → base.Ns mainGlobals mg → (∀ p ∈ cs, TabB base mg p.1 p.2) → FnG P w K mg base CX0 k fa fd [x] sp) (hbind : ∀ (s : Shared) (u : Value), BindsTo s fd ⟨[u], []⟩ [(x, u)])
    (hsp : ∀ H : Hp, (∀ b, b ∈ tabsOf cs → H b = some (.tbl #[])) → SqL K H a (ns.map V.int) → sp [.ref a] H (fun v _ => v = .bl true) fun _ _ _ => False) :
    codeAny (model P w) callerA (.call (.ref fa) ⟨[.ref a], []⟩) (fun r t => r = .ok (.ret (.bool true)) ∧ OldK s1.heap t.heap ∧ t.os = s1.os ∧ AllBare t.gens) s1 := by
  classical
  have rv := vals_ints hi
  have lv := hi.length
  have na : a ∉ tabsOf cs := fun z => by
    have e := (M.emp a z).symm.trans ha
    cases e
  let E0 : Hp := fun b => if b ∈ tabsOf cs then some (.tbl #[]) else none
  have t0 : ∀ b, b ∈ tabsOf cs → E0 b = some (.tbl #[]) := fun b z => if_pos z
  have n0 : ∀ b, b ∉ tabsOf cs → E0 b = none := fun b z => if_neg z
  by_cases hk : K.lookup a = none
  · let fz : HO := .frz { cls := .type "list", data := .seq vs.toArray } (.lst (ns.map V.int))
    have t1 : ∀ b, b ∈ tabsOf cs → (upd E0 a fz) b = some (.tbl #[]) := fun b z => by
      rw [upd_ne (fun e : b = a => na (by rw [← e]; exact z))]
      exact t0 b z
    refine enterT (H := upd E0 a fz) KX hns hb hbb hlim hg ha M hr F hbind t1 (fun b nb => ?_) (fun b u z => ?_) (fun b nb z => ?_) (fun _ => hk) (hsp _ t1 (.inl (.inr ⟨_, upd_same⟩)))
    · by_cases e : b = a
      · rw [e]
        exact .inr ⟨_, _, upd_same⟩
      · exact .inl (by rw [upd_ne e]; exact n0 b nb)
    · by_cases e : b = a
      · subst e
        cases (upd_same (H := E0) (a := b) (o := fz)).symm.trans z
        exact ⟨ha, by rw [List.length_map]; exact hl, vs, _, rv, ha⟩
      · rw [upd_ne e] at z
        by_cases ht : b ∈ tabsOf cs
        · cases (t0 b ht).symm.trans z
          exact M.emp b ht
        · exact nomatch (n0 b ht).symm.trans z
    · by_cases e : b = a
      · exact e
      · rw [upd_ne e] at z
        exact absurd (n0 b nb) z
  · obtain ⟨o, e⟩ := Option.ne_none_iff_exists'.mp hk
    cases (KX a o e).symm.trans ha
    refine enterT (H := E0) KX hns hb hbb hlim hg ha M hr F hbind t0 (fun b nb => .inl (n0 b nb)) (fun b u z => ?_) (fun b nb z => absurd (n0 b nb) z) (fun z => absurd (n0 a na) z) (hsp _ t0 (.inr ?_))
    · by_cases ht : b ∈ tabsOf cs
      · cases (t0 b ht).symm.trans z
        exact M.emp b ht
      · exact nomatch (n0 b ht).symm.trans z
    · exact ⟨_, vs.toArray, _, e, rfl, rfl, rfl, by rw [List.size_toArray, lv]; exact hl, by simpa using rv⟩
end
theorem walkT {l : PySem.W.OpenLaw} {n k : Nat} {q : Program} {loose : List Str} {XP : (Str → Option Value) → Heap → Prop} {YP : World → Heap → Prop} {d : DefRec} {K : Params → PySem.W.Frag} {cs : List (Addr × Addr)} {sp : World → Sp} {x : Str}
    (hn : l.most = some n) (hn2 : n ≤ sizeLine) (hdf : d.params.defaults = []) (hr : Room k callerA) (hY : ∀ (w : World) (h : Heap), YP w h → (K w.params).In h ∧ (∀ b, b ∈ tabsOf cs → h.get? b = some { cls := .none, data := .fields #[] }))
    (hN : ∀ (w : World), ∀ b, b ∈ tabsOf cs → (K w.params).lookup b = none) (hC : ∀ (w : World) (h : Heap), (K w.params).In h → ∀ p ∈ cs, PySem.W.CodeHd h p.1 p.2)
    (F : ∀ (w : World) (mg : Str → Option Value) (fa : Addr) (h : Heap), (K w.params).In h → h.Ns mainGlobals mg → mg d.name = some (.ref fa) →
      ∃ fd : FuncData, (∀ (s : Shared) (u : Value), BindsTo s fd ⟨[u], []⟩ [(x, u)]) ∧ ∀ base : Heap, (K w.params).In base → base.Ns mainGlobals mg → (∀ p ∈ cs, TabB base mg p.1 p.2) → FnG l.prog w (K w.params) mg base CX0 k fa fd [x] (sp w))
    (hsp : ∀ (w : World) (H : Hp) (a : Addr) (ns : List Int), ns.length ≤ n → (∀ b, b ∈ tabsOf cs → H b = some (.tbl #[])) → SqL (K w.params) H a (ns.map V.int) → sp w [.ref a] H (fun v _ => v = .bl true) fun _ _ _ => False) :
    PySem.W.WalkO q loose XP YP l.row.toRowW d [] (fun f vs => PySem.call f vs) := by
  refine Att.attach_call hn hdf fun w s₀ s1 mg mb fa o pm cd doc a vs ns G Y ho hd hcd hmg hobj hints hlen hg => ?_
  obtain ⟨inK, hE⟩ := hY w _ Y
  obtain ⟨fd, hb, hF⟩ := F w mg fa _ inK G.T.g hmg
  exact callT inK G.T.g G.T.b G.T.builtins G.T.nolimit hg hobj hints (Nat.le_trans hlen hn2) ⟨hE, hN w, hC w _ inK, G.T.bmain⟩ hr hF hb fun H hH hS => hsp w H a ns hlen hH hS
end MG

/-! own classes that derive from own classes: super().__init__(..) -/
namespace MG
open PySem PySem.Spec PyProof.Rows L2 ClX LamX

/-- the names of a def that speaks of its own class -/
structure SupScope (N ps : List Str) (sc : Scope) : Prop where
  kind : sc.kind = .function
  co : sc.isCoroutine = false
  gen : sc.isGenerator = false
  nd : N.Nodup
  pre : N.take ps.length = ps
  par : ∀ x ∈ ps, sc.names.lookup x = some .local
  nocell : ∀ y ∈ sc.names, y.2 ≠ .cell
  free : ∀ y ∈ sc.names, y.2 = .free → y.1 = "__class__"
def supC (N ps : List Str) (sc : Scope) : Bool :=
  decide (sc.kind = .function) && (!sc.isCoroutine && (!sc.isGenerator && (decide N.Nodup && (decide (N.take ps.length = ps) && (ps.all (fun x => decide (sc.names.lookup x = some .local)) &&
    (sc.names.all (fun y => decide (y.2 ≠ .cell)) && sc.names.all (fun y => !decide (y.2 = .free) || decide (y.1 = "__class__"))))))))
theorem supScope_by {N ps : List Str} {sc : Scope} (h : supC N ps sc = true) : SupScope N ps sc := by
  unfold supC at h
  simp only [Bool.and_eq_true, Bool.not_eq_true', decide_eq_true_eq, List.all_eq_true, Bool.or_eq_true, decide_eq_false_iff_not] at h
  obtain ⟨h1, h2, h3, h4, h5, h6, h7, h8⟩ := h
  exact ⟨h1, h2, h3, h4, h5, h6, h7, fun y hy e => (h8 y hy).resolve_left fun z => z e⟩

/-- the context of such a def's body, at its entry; cc: the cell that holds the class -/
def cxS (CX : CXT) (P : Program) (w : World) (K : PySem.W.Frag) (mg : Str → Option Value) (base : Heap) (N : List Str) (qual : Str) (scope : Scope) (f : Addr) (cd : Value) (cc : Addr) (A : Around) (outer : List Env) (s : Shared) (H : Hp) (E : XK) : Cx where
  prog := P
  w := w
  K := K
  mg := mg
  base := base
  A := A.deeper (PySem.W.ksEnv qual scope s.heap.objs.size f cd cc)
  N := N
  s_0 := s
  H_0 := H
  env := PySem.W.ksEnv qual scope s.heap.objs.size f cd cc
  outer := outer
  stack := PySem.W.ksEnv qual scope s.heap.objs.size f cd cc :: outer
  ex := []
  calm := true
  fn := fun _ => false
  pn := []
  xe := fun e s' => wpAny (model P w) (A.deeper (PySem.W.ksEnv qual scope s.heap.objs.size f cd cc)) (leaving (PySem.W.ksEnv qual scope s.heap.objs.size f cd cc) e) (fun _ s'' => CX outer H s E e s'') (fun e' s'' => CX outer H s E e' s'') s'

theorem fst_sub : ∀ (ps : List Str) (us : List Value), List.Sublist ((ps.zip us).map (·.1)) ps
  | [], _ => List.Sublist.slnil
  | _ :: _, [] => List.nil_sublist _
  | p :: ps, _ :: us => (fst_sub ps us).cons₂ p
theorem rev_lookup {ps : List Str} {us : List Value} {i : Nat} {y : Str} {u : Value} (nd : ps.Nodup) (h1 : ps[i]? = some y) (h2 : us[i]? = some u) : (ps.zip us).reverse.lookup y = some u := by
  have hm : (y, u) ∈ (ps.zip us).reverse := List.mem_reverse.mpr (List.mem_of_getElem? (i := i) (by simp [List.getElem?_zip_eq_some, h1, h2]))
  have hn : ((ps.zip us).reverse.map (·.1)).Nodup := by
    rw [List.map_reverse]
    unfold List.Nodup
    rw [List.pairwise_reverse]
    refine List.Pairwise.imp (fun h => Ne.symm h) ?_
    exact nd.sublist (fst_sub ps us)
  revert hm hn
  generalize (ps.zip us).reverse = l
  intro hm hn
  induction l with
  | nil => cases hm
  | cons p l ih =>
    obtain ⟨a, b⟩ := p
    rw [List.map_cons, List.nodup_cons] at hn
    rcases List.mem_cons.mp hm with e | hm
    · cases e
      simp [List.lookup]
    · have ne : y ≠ a := fun e => hn.1 (e ▸ List.mem_map.mpr ⟨_, hm, rfl⟩)
      rw [List.lookup_cons, beq_eq_false_iff_ne.mpr ne]
      exact ih hm hn.2

section
variable {CX : CXT} {P : Program} {w : World} {K : PySem.W.Frag} {mg : Str → Option Value} {base : Heap} {N ps : List Str} {qual : Str} {scope : Scope} {f cc D : Addr} {cd : Value} {A : Around} {outer : List Env} {s : Shared} {H : Hp} {E : XK} {us : List Value} {vs : List V}
theorem invS_start {h₁ : Heap} {tk : Nat} {cl : Value} {cld : Option Addr} {csl : Array (Option Value)} (S : SupScope N ps scope) (hc : K.lookup cc = some ⟨cl, cld, .cell (some (.ref D)), csl⟩) (hd : A.handled = none) (e0 : Env0 P w K mg base A outer s H) (hl : vs.length = ps.length) (r : Vals vs us)
    (hns : h₁.Ns s.heap.objs.size (fun x => (ps.zip us).reverse.lookup x)) (hk : ∀ b o, s.heap.get? b = some o → h₁.get? b = some o) :
    Inv (cxS CX P w K mg base N qual scope f cd cc A outer s H E) [] (start N vs) H { s with heap := h₁, toks := tk } := by
  have noA : ∀ b : Addr, b ∉ (cxS CX P w K mg base N qual scope f cd cc A outer s H E).ex := fun b z => absurd (show b ∈ ([] : List Addr) from z) (by simp)
  have one : ∀ (x : Str) (c : Addr), (cxS CX P w K mg base N qual scope f cd cc A outer s H E).env.cells.lookup x = some c → x = "__class__" ∧ c = cc := by
    intro x c h
    have h' : List.lookup x [(("__class__" : Str), cc)] = some c := h
    rw [List.lookup_cons] at h'
    split at h'
    · rename_i e
      exact ⟨beq_iff_eq.mp e, (Option.some.inj h').symm⟩
    · cases h'
  have hcb := e0.mod.kin _ _ hc
  obtain ⟨hcs, hcH⟩ := e0.bs _ _ hcb
  have sup : s.heap.get? s.heap.objs.size = none := Heap.get?_none_of_le (Nat.le_refl _)
  refine ⟨⟨e0.mod, S.kind, rfl, rfl, Nat.le_refl _, fun x y c h1 h2 => ?_, fun y hy => ?_, fun y c hf _ => (nomatch hf), fun _ => hd, Around.frames_deeper e0.frames, .inr ⟨rfl, rfl⟩, fun b z => absurd z (noA b), e0.bs, e0.bsz, fun b _ _ => noA b, fun b z => absurd z (noA b), e0.funs, e0.frf⟩,
    rfl, e0.bare, Un.kept hk, ⟨_, hns, fun i y v h1 h2 h3 => ?_⟩, fun y c h => ?_, e0.hok.fresh (Nat.le_refl _), fun y c h => ?_, fun p hp => absurd (show p ∈ ([] : List (Addr × Obj)) from hp) (by simp), e0.hok.kept hk, ?_⟩
  · exact (one x c h1).1.trans (one y c h2).1.symm
  · have hy : scope.names.lookup y = some .cell ∨ scope.names.lookup y = some .free := hy
    rcases hy with hy | hy
    · exact absurd rfl (S.nocell _ (PySem.mem_of_lookup hy))
    · have e := S.free _ (PySem.mem_of_lookup hy) rfl
      exact ⟨cc, by show List.lookup y [(("__class__" : Str), cc)] = some cc; rw [show y = "__class__" from e]; rfl⟩
  · have hi : i < vs.length := by
      unfold L2.start at h2
      by_cases hi : i < vs.length
      · exact hi
      · rw [List.getElem?_append_right (by simpa using hi)] at h2
        rw [List.getElem?_replicate] at h2
        split at h2 <;> cases h2
    have ha : vs[i]? = some v := by
      unfold L2.start at h2
      rw [List.getElem?_append_left (by simpa using hi), List.getElem?_map] at h2
      cases e : vs[i]? with
      | none => rw [e] at h2; cases h2
      | some a => rw [e] at h2; cases h2; rfl
    obtain ⟨u, hu, rv⟩ := r.get ha
    have hp : ps[i]? = some y := by
      rw [← S.pre, List.getElem?_take_of_lt (by omega)]; exact h1
    have ndP : ps.Nodup := by rw [← S.pre]; exact S.nd.sublist (List.take_sublist _ _)
    exact ⟨u, rv, .inl ⟨S.par y (List.mem_of_getElem? hp), rev_lookup ndP hp hu⟩⟩
  · obtain ⟨_, e⟩ := one y c h
    rw [e]
    exact ⟨_, _, hk _ _ hcs, rfl⟩
  · rw [(one y c h).2]
    exact hcH
  · unfold L2.start
    show _ = N.length
    have := congrArg List.length S.pre
    rw [List.length_take] at this
    rw [List.length_append, List.length_map, List.length_replicate]
    omega
end

/-- as PSs, where the frame that runs is known to be the def's own -/
structure PsA (X : Cx) (bd st : List Stmt) (t : TS) : Prop where
  run : ∀ (pins : List (Addr × Obj)) (s : Shared) (σ : L2.St) (H : Hp) (D : Ends), Inv X pins σ H s → t D σ H → _root_.PySem.wpAt (model X.prog X.w) X.A (.func bd X.env) (execs st X.env) (SP X pins D) X.xe s
section
variable {X : Cx} {bd rest : List Stmt} {st : Stmt} {t u : TS}
theorem psA_of (h : PSs X rest t) : PsA X bd rest t := ⟨fun pins s σ H D I q => wpAt_of_wpAny (h.run pins s σ H D I q)⟩
theorem psA_cons (h1 : PS X st t) (h2 : PsA X bd rest u) : PsA X bd (st :: rest) (tSeq t u) := by
  refine ⟨fun pins s σ H D I h => ?_⟩
  refine ks_wpAt_execs_cons (wpAt_of_wpAny (thn (h1.run pins s σ H { D with nx := u D } I h) fun f s1 q => ?_))
  match f, q with
  | .next, ⟨σ', H', I', q⟩ => exact h2.run pins s1 σ' H' D I' q
  | .ret v, q => exact q
  | .brk, q => exact q
  | .cont, q => exact q
end

/-- what must be known of super().m in the def at f, self an instance of C, the def's own class at D; the method found is at f2 -/
structure Sup (P : Program) (K : PySem.W.Frag) (C D : Addr) (m x0 : Str) (f cda cc f2 : Addr) (fd : FuncData) : Prop where
  fn : ∃ (oc : Value) (od : Option Addr) (osl : Array (Option Value)), K.lookup f = some ⟨oc, od, .func fd, osl⟩
  hd : ∃ ar : Arg, (fd.params.posonlyargs ++ fd.params.args).head? = some ar ∧ ar.arg = x0
  code : ∃ (cl : Value) (cd : Option Addr) (vs : Array Value) (cs : Array (Option Value)) (file : Str) (tf : Tok), K.lookup cda = some ⟨cl, cd, .fields vs, cs⟩ ∧ vs[2]? = some (.str file tf) ∧ ((P.main.file : Str) == file) = true
  cell : ∃ (cl : Value) (cd : Option Addr) (cs : Array (Option Value)), K.lookup cc = some ⟨cl, cd, .cell (some (.ref D)), cs⟩
  clD : ∃ cd, PySem.W.clsIn K D = some cd
  clC : ∃ cd, PySem.W.clsIn K C = some cd
  sub : PySem.W.mroIn K C (.ref D) = some true
  top : (P.main.scope.names.lookup ("super" : Str)).isSome = false
  op : PySem.W.nsIn K cStatics "thirdparty.any" = some none
  at_ : PySem.W.ks_superIn K C D m = some (some (.ref f2))
  ty : PySem.W.typeIn K (.ref f2) = some (.type "function")
  fi : PySem.W.fnIn K f2 = true
def tSup (i : Nat) (C : Addr) (sp : Sp) (dvs : List V) (E : XK) (t : TA) : TS := fun D σ H => ∃ x dx fs, σ[i]? = some (some (.ref x)) ∧ H x = some (.ins C dx fs) ∧ t σ H fun vs H1 => sp (.ref x :: vs ++ dvs) H1 (fun _ H2 => D.nx σ H2) E

section
variable {X : Cx} {CX : CXT} {bd rest : List Stmt} {u : TS} {C D f cda cc f2 : Addr} {fd fd2 : FuncData} {ps : List Str} {sp : Sp} {E : XK} {k i : Nat} {m self : Str} {p0 p1 p2 apos pos : Pos} {e : Expr} {es : List Expr} {t : TA} {dvs : List V} {ds : List Value}
theorem psA_sup (S : Sup X.prog X.K C D m self f cda cc f2 fd) (F : FnOk X.prog X.w X.K X.mg X.base CX k f2 fd2 ps sp) (hr : Room k X.A) (hb : Binds X.K fd2 ps ds) (hd : Vals dvs ds) (hx : Passes CX X E) (hm : X.mg "super" = none)
    (hN : X.N[i]? = some self) (hks : X.env.kindOf "super" = some .globalImplicit) (hkc : X.env.kindOf "__class__" = some .free) (hka : X.env.kindOf self = some .local) (hcl : X.env.cells.lookup ("__class__" : Str) = some cc)
    (hfu : X.env.func = some f) (hco : X.env.code = .ref cda) (ha : PA X (e :: es) t) (h2 : PSs X rest u)
    (hn : (m == ("__class__" : Str)) = false := by decide)
    (hi : interactive X.env = false := by rfl) (hs : swapsWith (.Call (.Attribute (.Call (.Name "super" p0) [] [] p1) m apos) (e :: es) [] pos) none p2.line X.env = pure false := by rfl)
    (hst : starEach (e :: es) X.env = (false, eval e X.env) :: starEach es X.env := by rfl) (hpl : (backTo pos (starEach es X.env)).any (·.1) = false := by rfl) {pl : Sem Bool}
    (ht : eval (.Call (.Attribute (.Call (.Name "super" p0) [] [] p1) m apos) (e :: es) [] pos) X.env = (do
      let ov ← attributeBase (.Call (.Name "super" p0) [] [] p1) m X.env (eval (.Call (.Name "super" p0) [] [] p1) X.env)
      standAt apos.atName
      let (f, first) ← holding [ov] (getMethod ov m pl)
      callWith pos f first (backTo pos (starEach (e :: es) X.env)) []) := by rfl) :
    PsA X bd (.Expr (.Call (.Attribute (.Call (.Name "super" p0) [] [] p1) m apos) (e :: es) [] pos) p2 :: rest) (tSeq (tSup i C sp dvs E t) u) := by
  refine ⟨fun pins s σ H D' I h => ?_⟩
  obtain ⟨x, dx, fs, hσ, ex, q⟩ := h
  obtain ⟨oc, od, osl, hf⟩ := S.fn
  obtain ⟨ar, har, hself⟩ := S.hd
  obtain ⟨cl1, cd1, vs1, cs1, file, tf, hcode, hvs, hfile⟩ := S.code
  obtain ⟨cl2, cd2, cs2, hcell⟩ := S.cell
  obtain ⟨cdD, hclD⟩ := S.clD
  obtain ⟨cdC, hclC⟩ := S.clC
  obtain ⟨mb, hb1, hb2⟩ := I.mod.blt
  obtain ⟨m0, hns, hloc⟩ := id I.loc
  obtain ⟨ux, rx, hlook⟩ := hloc i self _ hN hσ (.inl hka)
  obtain rfl : ux = Value.ref x := rx
  have hms : m0 self = some (.ref x) := by
    rcases hlook with ⟨_, z⟩ | ⟨z, _⟩
    · exact z
    · rcases z with z | z <;> exact nomatch z.symm.trans hka
  obtain ⟨mA, O, _⟩ := ins_get I.hok ex
  obtain ⟨odx, J, _⟩ := O.look
  obtain ⟨oD, hD1, hD2⟩ : ∃ oD, s.heap.get? D = some oD ∧ oD.data = .cls cdD := by
    unfold PySem.W.clsIn at hclD
    split at hclD
    · rename_i c d cd' sl ho
      cases hclD
      exact ⟨_, I.kIn _ _ ho, rfl⟩
    · cases hclD
  refine ks_wpAt_execs_cons (ks_wpAt_Expr_any (ks_wpAt_MethodCall (pl := pl) ?_ ht) hi hs)
  refine ks_wpAt_super_base hks hkc hn hfu (I.kIn _ _ hf) rfl har hco (I.kIn _ _ hcode) rfl hvs hfile S.top ?_
  refine PySem.W.ks_loadName_global I.ok.kind hks ?_
  refine Calls.loadGlobal_builtin (v := .type "super") (by rw [I.ok.glob]; exact I.mod.glob.keeps I.bk) hm (by rw [I.ok.blt]; exact hb1.keeps I.bk) ((hb2 "super" (by decide)).trans (by kernel_rfl)) ⟨rfl, ?_⟩
  refine PySem.wpAny_loadName_free I.ok.kind hkc hcl ⟨_, I.kIn _ _ hcell, rfl⟩ ?_
  rw [hself]
  refine PySem.wpAny_loadName_local I.ok.kind hka hns hms ?_
  refine ks_wpAny_isType_cls hD1 hD2 ⟨rfl, ?_⟩
  refine ks_wpAny_call_super hD1 hD2 J.at_ J.cls (fun c e => ?_) (PySem.W.looks_mroIn I.kIn S.sub) (fun h' e k => ?_)
  · have z := J.no
    unfold PySem.W.notCls at z
    rw [e] at z
    exact Bool.noConfusion z
  · have I2 := pin_new (t' := s.toks) I k (Nat.le_refl _) e (fun v z => nomatch z)
    have hm2 := S.at_
    unfold PySem.W.ks_superIn at hm2
    rw [hclC] at hm2
    obtain ⟨of, hof, hofc⟩ : ∃ of, h'.get? f2 = some of ∧ of.cls = .type "function" := by
      have ht' : (X.K.lookup f2).map (·.cls) = some (.type "function") := S.ty
      cases z : X.K.lookup f2 with
      | none => rw [z] at ht'; cases ht'
      | some of => rw [z] at ht'; exact ⟨of, I2.kIn _ _ z, Option.some.inj ht'⟩
    refine PySem.ks_wpAny_getMethod_super e (PySem.W.looks_opaque I2.kIn S.op) (l₀ := cdC.mro) ?_ rfl I2.kIn hm2 hof hofc (PySem.W.ks_ne I.kIn J hclC) hn ?_
    · exact fun A Q E s k q => wpAny_bind ((PySem.W.looks_clsIn I2.kIn hclC) A _ E s k (wpAny_pure q))
    · have I3 := met_new (g := f2) (C := x) I2
      refine callwith_cm I3 (base_none I2 (Nat.le_refl _)) S.fi (thn (ha.run pos _ _ σ H _ I3 q) fun us s4 ⟨vs, H2, I4, rv, q2⟩ => ⟨⟨pin_at I4, I4.kIn⟩, ?_⟩) hst hpl
      have q3 : sp (.ref x :: vs ++ dvs) H2 (fun _ H5 => u D' σ H5) E := q2
      refine thn (after_cm I4 (fun pins H s e s' => hx pins σ H s e s') ((F.raw hb hd) X.A X.stack s4 H2 (.ref x :: us) (.ref x :: vs) _ E hr I4.env0 (.cons rfl rv) q3)) fun v s5 ⟨v', H5, I5, rv5, q5⟩ => ?_
      exact wpAt_of_wpAny (h2.run pins s5 σ H5 D' (unpin I5) q5)
end
/-! ### such defs, and those that are called with them -/
structure FunS (K : PySem.W.Frag) (x qual : Str) (st : Stmt) (kws : List (Str × V)) (f : Addr) (fd : FuncData) (cda cc : Addr) : Prop where
  ex : ∃ (oc : Value) (od : Option Addr) (kV doc pm : Value) (an : Option Addr) (ct : Value) (osl : Array (Option Value)),
    fd = PySem.W.ksFn x qual (defArgs st) (defBody st) (defScope st) .none kV doc pm an (.ref cda) ct cc ∧ K.lookup f = some ⟨oc, od, .func fd, osl⟩ ∧ PySem.W.codeIn K (.ref cda) qual = true ∧ KwdV K kV kws
  cell : ∃ (D : Addr) (cl : Value) (cd : Option Addr) (cs : Array (Option Value)), K.lookup cc = some ⟨cl, cd, .cell (some (.ref D)), cs⟩
section
variable {P : Program} {w : World} {K : PySem.W.Frag} {mg : Str → Option Value} {base : Heap} {x qual : Str} {st : Stmt} {kws : List (Str × V)} {f cda cc : Addr} {fd : FuncData} {N ps : List Str} {k : Nat} {sp : Sp}
theorem FunS.ok {CX : CXT} (F : FunS K x qual st kws f fd cda cc) (S : SupScope N ps (defScope st)) (len : ∀ vs H Q E, sp vs H Q E → vs.length = ps.length)
    (hbody : ∀ (A : Around) (outer : List Env) (s : Shared) (H : Hp) (vs : List V) (Q : VK) (E : XK), Room k (A.deeper (PySem.W.ksEnv qual (defScope st) s.heap.objs.size f (.ref cda) cc)) → sp vs H Q E →
      ∃ t, PsA (cxS CX P w K mg base N qual (defScope st) f (.ref cda) cc A outer s H E) (defBody st) (defBody st) t ∧ t { nx := fun _ H' => Q .non H', rt := Q } (L2.start N vs) H) : FnOk P w K mg base CX (k + 1) f fd ps sp := by
  obtain ⟨oc, od, kV, doc, pm, an, ct, osl, rfl, lk, hcd, _⟩ := F.ex
  obtain ⟨D, cl, cld, cs, hc⟩ := F.cell
  refine ⟨len, fun A outer s H args us vs Q E hr e0 hb r hsp => ?_⟩
  have KX : K.In s.heap := e0.mod.kin.keeps fun b o e => (e0.bs b o e).1
  have lim : s.heap.NoLimit := e0.mod.nolimit.keeps fun b o e => (e0.bs b o e).1
  refine ks_codeAny_call_defAt (body := defBody st) hr.depth (KX _ _ lk) rfl lim (PySem.W.codeRec_of KX hcd) rfl hb S.nocell (fun ⟨n, v⟩ hy => S.par n (List.of_mem_zip hy).1) (fun h₁ hns hk => ?_) S.co S.gen S.kind
  obtain ⟨t, ht, hq⟩ := hbody A outer s H vs Q E (hr.deeper _) hsp
  have I := invS_start (CX := CX) (E := E) (P := P) (w := w) (qual := qual) (f := f) (cd := .ref cda) (tk := s.toks + (ps.zip us).length) S hc hr.hd e0 (len _ _ _ _ hsp) r hns hk
  refine ks_wpAt_mono (ht.run [] _ (L2.start N vs) H _ I hq) (fun fl s' hs => ?_) (fun e s' hs => hs)
  match fl, hs with
  | .ret u, ⟨v, σ', H', J, rv, q⟩ => exact ⟨v, H', J.os, J.bare, J.base, J.hok, rv, q⟩
  | .next, ⟨σ', H', J, q⟩ => exact ⟨V.non, H', J.os, J.bare, J.base, J.hok, rfl, q⟩
  | .brk, ⟨_, _, _, q⟩ => exact False.elim q
  | .cont, ⟨_, _, _, q⟩ => exact False.elim q
/-- its arguments, all by place -/
theorem FunS.binds (F : FunS K x qual st kws f fd cda cc)
    (h : ∀ (kV doc pm : Value) (an : Option Addr) (ct : Value) (us : List Value), us.length = ps.length → bindArgs (PySem.W.ksFn x qual (defArgs st) (defBody st) (defScope st) .none kV doc pm an (.ref cda) ct cc) ⟨us, []⟩ = pure (ps.zip us)) : Binds K fd ps [] := by
  obtain ⟨oc, od, kV, doc, pm, an, ct, osl, rfl, lk, hcd, _⟩ := F.ex
  exact .all (h kV doc pm an ct)
/-- .. n by place, the keywords ks by name; ms lack -/
theorem FunS.kbinds (F : FunS K x qual st kws f fd cda cc) (n : Nat) (ks : List Str) (ms : List (Str × V)) (g : {α : Type} → List α → List α → List α → List α) (nz : kws ≠ []) (sub : ∀ q ∈ ms, q ∈ kws)
    (grel : ∀ {vs mz zs : List V} {us mv ws : List Value}, Vals vs us → Vals mz mv → Vals zs ws → Vals (g vs mz zs) (g us mv ws))
    (h : ∀ (B : Addr) (doc pm : Value) (an : Option Addr) (ct : Value) (us mv ws : List Value), us.length = n → mv.length = ms.length → ws.length = ks.length →
      KwChain B ((ms.map (·.1)).zip mv) (bindArgs (PySem.W.ksFn x qual (defArgs st) (defBody st) (defScope st) .none (.ref B) doc pm an (.ref cda) ct cc) ⟨us, ks.zip ws⟩) (ps.zip (g us mv ws))) :
    ∃ mv : List Value, KBn K fd ps n ks (fun us ws => g us mv ws) (fun vs zs => g vs (ms.map (·.2)) zs) := by
  obtain ⟨oc, od, kV, doc, pm, an, ct, osl, rfl, lk, hcd, hK⟩ := F.ex
  rcases hK with e | ⟨B, rfl, hq⟩
  · exact (nz e).elim
  obtain ⟨mv, hl, rk, hks⟩ := kwd_vals (ms := ms) fun q hm => hq q (sub q hm)
  refine ⟨mv, ?_, ?_⟩
  · intro s us ws X l1 l2
    exact BindsTo.of_looks fun M => KwChain.looks X hks (h B doc pm an ct us mv ws l1 hl l2)
  · intro vs us zs ws r1 r2
    exact grel r1 rk r2
end
/-- a def called by its name, which may raise -/
structure CalX (P : Program) (w : World) (K : PySem.W.Frag) (mg : Str → Option Value) (base : Heap) (k : Nat) (x : Str) (sp : Sp) : Prop where
  ex : ∃ (f : Addr) (fd : FuncData) (ps : List Str), FnOk P w K mg base (L2N.CX P w) k f fd ps sp ∧ mg x = some (.ref f) ∧ PySem.W.keepIn K (.ref f) = true ∧ Binds K fd ps []
def tCalX (sp : Sp) (E : L2.St → XK) (t : TA) : TE := fun σ H Q => t σ H fun vs H1 => sp vs H1 Q (E σ)
/-- a class made by its name, n values by place and the keywords ks, which may raise -/
structure MakKX (P : Program) (w : World) (K : PySem.W.Frag) (mg : Str → Option Value) (base : Heap) (k : Nat) (x : Str) (C : Addr) (sp : Sp) (n : Nat) (ks : List Str) (gV : List V → List V → List V) : Prop where
  ex : ∃ (f : Addr) (fd : FuncData) (ps : List Str) (gf : List Value → List Value → List Value), Mk K C f ∧ FnOk P w K mg base (L2N.CX P w) k f fd ps sp ∧ mg x = some (.ref C) ∧ KBn K fd ps (n + 1) ks gf gV
def tMakKX (C : Addr) (n m : Nat) (sp : Sp) (gV : List V → List V → List V) (E : L2.St → XK) (t tk : TA) : TE := fun σ H Q => t σ H fun vs H1 => tk σ H1 fun zs H2 => vs.length = n ∧ zs.length = m ∧ ∀ x dx, H2 x = none → H2 dx = none → dx ≠ x →
  sp (gV (.ref x :: vs) zs) (upd (upd H2 dx (.own x)) x (.ins C dx [])) (fun v H3 => v = .non ∧ Q (.ref x) H3) (E σ)
section
variable {X : Cx} {k j n : Nat} {C : Addr} {x : Str} {sp : Sp} {p pos : Pos} {e : Expr} {es : List Expr} {t tk : TA} {W : WX} {ks : List Str} {gV : List V → List V → List V} {kws : List Keyword}
theorem pe_calX (c : CalX X.prog X.w X.K X.mg X.base k x sp) (hr : Room j X.A) (hk : k ≤ j) (tak : L2N.Takes X W) (hg : Gl X x) (ha : PA X (e :: es) t)
    (hdb : (x == ("__debug__" : Str)) = false := by decide)
    (he : starEach (e :: es) X.env = (false, eval e X.env) :: starEach es X.env := by rfl)
    (hpl : (backTo pos (starEach es X.env)).any (·.1) = false := by rfl) : PE X (.Call (.Name x p) (e :: es) [] pos) (tCalX sp (WE W) t) := by
  obtain ⟨f, fd, ps, F, hm, kp, b⟩ := c.ex
  refine ⟨fun pins s σ H Q I h => wpAny_Call_Name_kw (ld_glob I hg hm ?_ hdb)⟩
  refine PySem.W.callWith_K (h₀ := X.base) I.ok.mod.kin kp (thn (ha.run pos pins s σ H _ I h) fun us s1 ⟨vs, H1, I1, r, q⟩ => ⟨I1.kIn, ?_⟩) he hpl
  have q' : sp (vs ++ []) H1 Q (WE W σ) := by rw [List.append_nil]; exact q
  exact run_fnS' (E := WE W) F (hr.mono hk) b .nil (L2N.passAt tak σ) I1 r q'
theorem pe_makKX (c : MakKX X.prog X.w X.K X.mg X.base k x C sp n ks gV) (hr : Room j X.A) (hk : k + 1 ≤ j) (tak : L2N.Takes X W) (hg : Gl X x) (ha : PA X (e :: es) t) (hkw : PK X kws tk)
    (hall : (backToKw pos (keywordEach kws X.env)).all (·.1.isSome) = true := by rfl) (hks : (backToKw pos (keywordEach kws X.env)).filterMap (·.1) = ks := by rfl) (hdb : (x == ("__debug__" : Str)) = false := by decide)
    (he : starEach (e :: es) X.env = (false, eval e X.env) :: starEach es X.env := by rfl)
    (hpl : ((backTo pos (starEach (e :: es) X.env)).any (·.1) || (backToKw pos (keywordEach kws X.env)).any (·.1.isNone)) = false := by rfl) :
    PE X (.Call (.Name x p) (e :: es) kws pos) (tMakKX C n ks.length sp gV (WE W) t tk) := by
  obtain ⟨f, fd, ps, gf, M, F, hm, b⟩ := c.ex
  refine ⟨fun pins s σ H Q I h => wpAny_Call_Name_kw (ld_glob I hg hm ?_ hdb)⟩
  refine PySem.W.callWith_KW (h₀ := X.base) I.ok.mod.kin M.kp hall (thn (ha.run pos pins s σ H _ I h) fun us s1 ⟨vs, H1, I1, r, q⟩ => ?_) hpl he
  refine thn (hkw.run pos pins s1 σ H1 _ I1 q) fun ws s2 ⟨zs, H2, I2, rz, l1, l2, q2⟩ => ⟨I2.kIn, ?_⟩
  rw [hks]
  have hq := q2 (s2.heap.objs.size + 1) s2.heap.objs.size (I2.hok.fresh (Nat.le_succ _)) (I2.hok.fresh (Nat.le_refl _)) (Nat.ne_of_lt (Nat.lt_succ_self _))
  have I3 := Inv.made (C := C) I2
  have r1 : Vals (V.ref (s2.heap.objs.size + 1) :: vs) (Value.ref (s2.heap.objs.size + 1) :: us) := .cons rfl r
  have n1 : (Value.ref (s2.heap.objs.size + 1) :: us).length = n + 1 := by rw [List.length_cons, ← r.length, l1]
  have run := F.run _ X.stack _ _ ⟨Value.ref (s2.heap.objs.size + 1) :: us, ks.zip ws⟩ (gf (Value.ref (s2.heap.objs.size + 1) :: us) ws) _ _ (WE W σ) ((hr.mono hk).make C us (ks.zip ws)) (I3.env0.make C us (ks.zip ws))
    (b.to _ (Value.ref (s2.heap.objs.size + 1) :: us) ws I3.kIn n1 (rz.length.symm.trans l2)) (b.rel r1 rz) hq
  refine wpAny_call (make_map (f := f) I2.kIn M.makes M.init (beq_iff_eq.mp M.fn) (codeAny_mono run fun r s' hq' => ?_))
  match r, hq' with
  | .error er, hq' => exact L2N.passAt tak σ pins _ _ er s' I3 hq'
  | .ok (.ret u), hq' =>
    obtain ⟨v, H', I4, rv, ev, q3⟩ := I3.after hq'
    subst ev
    exact ⟨rv, ⟨V.ref (s2.heap.objs.size + 1), H', I4, rfl, q3⟩⟩
  | .ok .next, hq' => exact False.elim hq'
  | .ok .brk, hq' => exact False.elim hq'
  | .ok .cont, hq' => exact False.elim hq'
end
/-- super().m(..), as its def knows it -/
structure SupF (P : Program) (w : World) (K : PySem.W.Frag) (mg : Str → Option Value) (base : Heap) (k : Nat) (C D : Addr) (m x0 : Str) (f cda cc : Addr) (fd : FuncData) (sp : Sp) : Prop where
  ex : ∃ (f2 : Addr) (fd2 : FuncData) (ps : List Str), Sup P K C D m x0 f cda cc f2 fd ∧ FnOk P w K mg base CX0 k f2 fd2 ps sp ∧ Binds K fd2 ps []
theorem psA_supF {X : Cx} {bd rest : List Stmt} {u : TS} {C D f cda cc : Addr} {fd : FuncData} {sp : Sp} {k j i : Nat} {m x0 : Str} {p0 p1 p2 apos pos : Pos} {e : Expr} {es : List Expr} {t : TA}
    (c : SupF X.prog X.w X.K X.mg X.base k C D m x0 f cda cc fd sp) (hr : Room j X.A) (hk : k ≤ j) (hm : X.mg "super" = none) (hN : X.N[i]? = some x0) (ha : PA X (e :: es) t) (h2 : PSs X rest u)
    (hks : X.env.kindOf "super" = some .globalImplicit := by rfl) (hkc : X.env.kindOf "__class__" = some .free := by rfl) (hka : X.env.kindOf x0 = some .local := by rfl) (hcl : X.env.cells.lookup ("__class__" : Str) = some cc := by rfl)
    (hfu : X.env.func = some f := by rfl) (hco : X.env.code = .ref cda := by rfl) (hn : (m == ("__class__" : Str)) = false := by decide)
    (hi : interactive X.env = false := by rfl) (hs : swapsWith (.Call (.Attribute (.Call (.Name "super" p0) [] [] p1) m apos) (e :: es) [] pos) none p2.line X.env = pure false := by rfl)
    (hst : starEach (e :: es) X.env = (false, eval e X.env) :: starEach es X.env := by rfl) (hpl : (backTo pos (starEach es X.env)).any (·.1) = false := by rfl) {pl : Sem Bool}
    (ht : eval (.Call (.Attribute (.Call (.Name "super" p0) [] [] p1) m apos) (e :: es) [] pos) X.env = (do
      let ov ← attributeBase (.Call (.Name "super" p0) [] [] p1) m X.env (eval (.Call (.Name "super" p0) [] [] p1) X.env)
      standAt apos.atName
      let (f, first) ← holding [ov] (getMethod ov m pl)
      callWith pos f first (backTo pos (starEach (e :: es) X.env)) []) := by rfl) :
    PsA X bd (.Expr (.Call (.Attribute (.Call (.Name "super" p0) [] [] p1) m apos) (e :: es) [] pos) p2 :: rest) (tSeq (tSup i C sp [] E0 t) u) := by
  obtain ⟨f2, fd2, ps, S, F, b⟩ := c.ex
  exact psA_sup (pl := pl) S F (hr.mono hk) b .nil pass0 hm hN hks hkc hka hcl hfu hco ha h2 hn hi hs hst hpl ht
/-- an expression that is never reached -/
theorem pe_no {X : Cx} {e : Expr} : PE X e (fun _ _ _ => False) := ⟨fun _ _ _ _ _ _ h => h.elim⟩
end MG

/-! sets of texts: set(t) of a tuple of texts, and sorted of it -/
namespace MG
open PySem PySem.Spec PyProof.Rows L2
open PySem.Froz (SD sObj TxOk addTx tailTx add_x add_ok is_str)

/-- at a stands the set of the texts l -/
def TxtS (P : Program) (w : World) (h : Heap) (a : Addr) (l : List Str) : Prop :=
  ∃ D : SD, h.get? a = some (sObj "set" D) ∧ TxOk P w D l ∧ l.Nodup ∧ Ris D.2.2.place.toList ∧ (w.params.followText "set-order" = true ∨ D.2.2.led = true)
section
variable {P : Program} {w : World} {h h' : Heap} {a : Addr} {l : List Str}
theorem TxtS.stay (T : TxtS P w h a l) (k : ∀ o, h.get? a = some o → h'.get? a = some o) : TxtS P w h' a l := by
  obtain ⟨D, e, r⟩ := T
  exact ⟨D, k _ e, r⟩
theorem end_ris {ep : Nat} {es : Array (Int × Value)} {t : SetTable} {d : Bool} (r : Ris t.place.toList) : Ris (tailTx ep es t d).2.2.place.toList := by
  unfold tailTx
  by_cases c : (!d && t.tooFull) = true
  · rw [if_pos c]
    exact relayAll_ris _ _ _
  · rw [if_neg c]
    exact r
theorem end_led {ep : Nat} {es : Array (Int × Value)} {t : SetTable} {d : Bool} : (tailTx ep es t d).2.2.led = t.led := by
  unfold tailTx
  by_cases c : (!d && t.tooFull) = true
  · rw [if_pos c]
    exact relayAll_led _ _ _
  · rw [if_neg c]
theorem add_ris {D : SD} {n : Int} {v : Value} (r : Ris D.2.2.place.toList) : Ris (addTx n v D).2.2.place.toList := by
  have r1 := layNew_ris D.2.2 D.1 n v r
  unfold addTx
  refine end_ris ?_
  split <;> exact r1
theorem add_led {D : SD} {n : Int} {v : Value} : (addTx n v D).2.2.led = D.2.2.led := by
  have r1 := layNew_led D.2.2 D.1 n v
  unfold addTx
  refine end_led.trans ?_
  split <;> exact r1
/-- a text more -/
def plusT (l : List Str) (k : Str) : List Str := if k ∈ l then l else k :: l
end
section
variable {P : Program} {w : World} {A : Around} {E : Value → Shared → Prop} {s : Shared} {a : Addr} {l : List Str} {k : Str} {u : Tok}
theorem txt_old {Q : Bool → Shared → Prop} {D : SD} (hx : s.heap.get? a = some (sObj "set" D)) (F : TxOk P w D l) (hm : k ∈ l) (few : l.length < scanBound) (q : Q false s) :
    wpAny (model P w) A (setAddHashed a (.str k u) (hashStr w k)) Q E s := by
  obtain ⟨es, ep, t⟩ := D
  have hd : (sObj "set" (es, ep, t)).data = .set es ep t := rfl
  have fit : t.fits es.size = true := F.fit
  have els : ElemsOf (strKind P w) es.toList := F.el
  have size : es.size = l.length := F.sz
  have key : (strKind P w).is k (.str k u) = true := is_str k u
  obtain ⟨j, hj⟩ : ∃ j, List.findIdx? (fun e => (strKind P w).is k e.2) es.toList = some j := by
    obtain ⟨e, he, q⟩ := (F.mem k).mp hm
    cases hr : List.findIdx? (fun e => (strKind P w).is k e.2) es.toList with
    | some j => exact ⟨j, rfl⟩
    | none => exact absurd q (by rw [List.findIdx?_eq_none_iff.mp hr e he]; exact Bool.false_ne_true)
  unfold setAddHashed setAddHashedIn
  refine wpAny_holding (wpAny_bind (wpAny_setState_of hx hd fit ?_))
  dsimp only
  rw [byScan_of rfl (show es.size < scanBound by omega) els]
  simp only [↓reduceIte]
  unfold setAddByScan
  refine wpAny_bind ?_
  refine wpAny_bind (wpAny_rule ?_)
  refine wpAny_bind (wpAny_setScan_of (knd := strKind P w) (k := k) key hx hd fit els ?_)
  rw [hj]
  dsimp only
  exact wpAny_pure (wpAny_pure q)
theorem TxtS.add {Q : Bool → Shared → Prop} (T : TxtS P w s.heap a l) (few : l.length + 1 < scanBound) (q : ∀ h' b, Heap.SameBut a s.heap h' → TxtS P w h' a (plusT l k) → Q b { s with heap := h' }) :
    wpAny (model P w) A (setAddHashed a (.str k u) (hashStr w k)) Q E s := by
  obtain ⟨D, e, F, nd, ri, ld⟩ := id T
  by_cases hm : k ∈ l
  · refine txt_old e F hm (by omega) (q s.heap false ?_ ?_)
    · exact ⟨rfl, fun _ _ => rfl⟩
    · unfold plusT
      rw [if_pos hm]
      exact T
  · refine add_x e F hm few (q _ true (Heap.SameBut.update ..) ⟨addTx (hashStr w k) (.str k u) D, PySem.Froz.get_upd _ e rfl, ?_, ?_, add_ris ri, ?_⟩)
    · unfold plusT
      rw [if_neg hm]
      exact add_ok u F
    · unfold plusT
      rw [if_neg hm]
      exact List.nodup_cons.mpr ⟨hm, nd⟩
    · rw [add_led]
      exact ld
end
/-- the texts of a list, each once -/
def onceT (xs : List Str) : List Str := xs.foldl plusT []
theorem plusT_mem {l : List Str} {k x : Str} : x ∈ plusT l k ↔ x = k ∨ x ∈ l := by
  unfold plusT
  split
  · rename_i h
    exact ⟨.inr, fun e => e.elim (fun e => e ▸ h) id⟩
  · exact List.mem_cons
theorem plusT_len {l : List Str} {k : Str} : (plusT l k).length ≤ l.length + 1 := by
  unfold plusT
  split
  · omega
  · exact Nat.le_refl _
theorem plusT_nodup {l : List Str} {k : Str} (h : l.Nodup) : (plusT l k).Nodup := by
  unfold plusT
  split
  · exact h
  · rename_i n
    exact List.nodup_cons.mpr ⟨n, h⟩
theorem fold_mem {x : Str} : ∀ (xs l : List Str), x ∈ xs.foldl plusT l ↔ x ∈ xs ∨ x ∈ l
  | [], l => by simp
  | y :: xs, l => by
    rw [List.foldl_cons, fold_mem xs, plusT_mem, List.mem_cons]
    constructor
    · rintro (h | h | h)
      · exact .inl (.inr h)
      · exact .inl (.inl h)
      · exact .inr h
    · rintro ((h | h) | h)
      · exact .inr (.inl h)
      · exact .inl h
      · exact .inr (.inr h)
theorem fold_len : ∀ (xs l : List Str), (xs.foldl plusT l).length ≤ l.length + xs.length
  | [], l => Nat.le_refl _
  | y :: xs, l => by
    have h1 := fold_len xs (plusT l y)
    have h2 := plusT_len (l := l) (k := y)
    rw [List.foldl_cons, List.length_cons]
    omega
theorem onceT_mem {x : Str} {xs : List Str} : x ∈ onceT xs ↔ x ∈ xs := (fold_mem xs []).trans ⟨fun h => h.elim id (fun z => nomatch z), .inl⟩
theorem onceT_nodup {xs : List Str} : (onceT xs).Nodup := by
  unfold onceT
  generalize hl : ([] : List Str) = l
  have hn : l.Nodup := by
    rw [← hl]
    exact List.nodup_nil
  clear hl
  induction xs generalizing l with
  | nil => exact hn
  | cons y xs ih => exact ih _ (plusT_nodup hn)
theorem onceT_len {xs : List Str} : (onceT xs).length ≤ xs.length := by
  have h := fold_len xs []
  rw [List.length_nil] at h
  unfold onceT
  omega
section
variable {P : Program} {w : World} {A : Around} {E : Value → Shared → Prop} {s : Shared}
theorem txt_loop {I : Addr} {fp wr : List Addr} {G : Array GenState → Array GenState → Prop} {n : Nat} {Pv : Nat → Value → Prop} {St : Nat → Shared → Prop} {R : Result → Shared → Prop}
    (W : WalksS P w A.in1 I fp wr G n Pv St) (B : Addr) (off : B ∉ fp) (xs : List Str) (hn : n = xs.length) (few : xs.length + 1 < scanBound) (val : ∀ i v, Pv i v → ∃ k t, xs[i]? = some k ∧ v = .str k t) :
    ∀ (m i : Nat) (s : Shared), n - i = m → i ≤ n → St i s → TxtS P w s.heap B (onceT (xs.take i)) →
      (∀ s', Moved (B :: wr) G s s' → TxtS P w s'.heap B (onceT xs) → R (.ok (.ret .none)) s') → codeAny (model P w) A (.builtin "set.update.loop" ⟨[.ref B, .ref I], []⟩) R s := by
  have offw : B ∉ wr := fun z => off (W.sub _ z)
  have more : ∀ b ∈ wr, b ∈ B :: wr := fun b hb => .tail _ hb
  intro m
  induction m with
  | zero =>
    intro i s hm hi st T fin
    obtain rfl : i = n := by omega
    refine codeAny_builtin F.entry_set_update_loop ?_
    rw [Around.under_plainId F.plain_set_update_loop _]
    show wpAny _ A.in1 (pyNext (.ref I) >>= _) _ _ s
    refine wpAny_bind (W.done s _ _ st fun s1 mv => ?_)
    show wpAny _ A.in1 (ret Value.none) _ _ s1
    rw [List.take_of_length_le (by omega)] at T
    exact wpAny_pure (fin s1 (mv.mono more) (T.stay fun o e => mv.heap B o offw e))
  | succ m ih =>
    intro i s hm hi st T fin
    have lt : i < n := by omega
    refine codeAny_builtin F.entry_set_update_loop ?_
    rw [Around.under_plainId F.plain_set_update_loop _]
    show wpAny _ A.in1 (pyNext (.ref I) >>= _) _ _ s
    refine wpAny_bind (W.item i s _ _ lt st fun v s1 hv st1 mv => ?_)
    obtain ⟨y, t, hy, rfl⟩ := val i v hv
    have T1 := T.stay (h' := s1.heap) fun o e => mv.heap B o offw e
    show wpAny _ A.in1 (holding [Value.str y t] (setAdd B (.str y t)) >>= _) _ _ s1
    refine wpAny_bind (wpAny_holding ?_)
    unfold setAdd
    refine wpAny_holding (wpAny_bind ((PySem.strKind P w).pyHash (k := y) (is_str y t) ?_))
    have hl := onceT_len (xs := xs.take i)
    rw [List.length_take] at hl
    refine TxtS.add (s := { s1 with toks := s1.toks + 1 }) T1 (by omega) fun h' b sb T2 => ?_
    have T3 : TxtS P w h' B (onceT (xs.take (i + 1))) := by
      rw [List.take_add_one, hy]
      unfold onceT
      rw [Option.toList, List.foldl_append]
      exact T2
    refine wpAny_pure ⟨plainId_quiet F.plain_set_update_loop _, ih (i + 1) _ (by omega) lt (W.frame _ s1 _ _ st1 (Nat.le_succ _) fun c hc o e => ?_) T3 fun s2 mv2 T4 => ?_⟩
    · rw [sb.2 c (fun z : c = B => off (z ▸ hc))]
      exact e
    · refine fin s2 (Moved.trans W.gtrans ((mv.mono more).then_heap (Nat.le_succ _) fun c o hc e => ?_) mv2) T4
      rw [sb.2 c (fun z : c = B => hc (z ▸ List.mem_cons_self))]
      exact e
theorem txt_fresh {h : Heap} {a : Addr} (e : h.get? a = some { cls := .type "set", dict := none, data := .set #[] 0 (.fresh 0 0 (!w.params.followText "set-order")) }) : TxtS P w h a [] := by
  refine ⟨(#[], 0, .fresh 0 0 (!w.params.followText "set-order")), e, TxOk.nil rfl, List.nodup_nil, List.Pairwise.nil, ?_⟩
  show _ ∨ (!w.params.followText "set-order") = true
  cases w.params.followText "set-order" with
  | true => exact .inl rfl
  | false => exact .inr rfl

abbrev bareS (w : World) : Obj := { cls := .type "set", dict := none, data := .set #[] 0 (.fresh 0 0 (!w.params.followText "set-order")) }
set_option maxHeartbeats 6400000 in
theorem call_set_txt {p : Addr} {items : Array Value} (xs : List Str) {Q : Value → Shared → Prop} (calm : A.handled = none) (tup : s.heap.IsTuple p items) (are : StrsAre items.toList xs) (few : xs.length + 1 < scanBound)
    (q : ∀ h' tk, TxtS P w h' s.heap.objs.size (onceT xs) → (∀ b o, s.heap.get? b = some o → h'.get? b = some o) → Q (.ref s.heap.objs.size) { s with heap := h', toks := tk }) :
    wpAny (model P w) A (call (.type "set") [.ref p]) Q E s := by
  have many : items.size = xs.length := by
    rw [← StrsAre.length are, Array.length_toList]
  obtain ⟨mro0, mroR, order⟩ := F.called_set.mro
  have made := F.called_set.made
  have under := F.called_set.sub
  refine wpAny_call (codeAny_of_tree ?_)
  show wpAny _ _ (callAny (.type "set") _) _ _ _
  refine wpAny_pure ⟨Code.quiet_builtin _ (by decide +kernel), codeAny_builtin F.entry_type_call ?_⟩
  rw [Around.under_plain (weight_type_call_type "set" [.ref p] []) rfl]
  have notT := F.called_set.notType
  have create := F.called_set.canCreate
  have check := F.typeCall_set_1 (.ref p)
  repeat (any_goals (first | assumption | wp_step))
  refine codeAny_mono (code_set_led1 (.ref p) (E := E) (Q₁ := fun v s₁ => v = .ref s.heap.objs.size ∧ s₁ = { s with heap := s.heap.push (bareS w) }) ⟨rfl, rfl⟩) fun r s₁ hr => ?_
  match r, hr with
  | .error e, hr => exact hr
  | .ok .next, hr => exact hr.elim
  | .ok .brk, hr => exact hr.elim
  | .ok .cont, hr => exact hr.elim
  | .ok (.ret v), hr =>
    obtain ⟨rfl, rfl⟩ := hr
    have eS : (s.heap.push (bareS w)).get? s.heap.objs.size = some (bareS w) := Heap.get?_push_size _ rfl
    have isS : Shared.TypeIs { s with heap := s.heap.push (bareS w) } (.ref s.heap.objs.size) "set" := ⟨_, eS, rfl⟩
    have ini := F.called_set.init.lookup
    have bnd := F.called_set.init.bind (.ref s.heap.objs.size)
    repeat (any_goals (first | assumption | wp_step))
    refine codeAny_mono (codeAny_call_builtin (R := wants (fun r s₂ => r = .none ∧ ∃ h' tk, s₂ = { s with heap := h', toks := tk } ∧ TxtS P w h' s.heap.objs.size (onceT xs) ∧ (∀ b o, s.heap.get? b = some o → h'.get? b = some o)) E)
      F.called_set.init.plain F.entry_set_init (check_set_init_1 isS ?_)) fun r₂ s₂ hr₂ => ?_
    · obtain ⟨oT, eT, cT, nT, dT⟩ := tup
      obtain ⟨ocls, odict, odata, oslots⟩ := oT
      dsimp only at cT dT
      subst cT
      subst dT
      have eT1 : (s.heap.push (bareS w)).get? p = some { cls := .type "tuple", dict := odict, data := .seq items nT, slots := oslots } := Heap.get?_push_of_some _ eT
      have noS := F.sub_tuple_set
      have noF := F.sub_tuple_frozenset
      have noD : (Value.type "tuple" == Value.type "dict") = false := by decide
      have tup1 : (s.heap.push (bareS w)).IsTuple p items := ⟨_, eT1, rfl, nT, rfl⟩
      unfold Builtin.«set.__init__» noKeywords Builtin.Frozenset.updateFrom
      generalize keepPI : pyIter = PI
      wp_walk
      subst keepPI
      refine wpAny_pyIter_tuple tup1 ?_
      refine wpAny_bind (wpAny_runValue ?_)
      have ltP : p < s.heap.objs.size := Heap.lt_size eT
      have calm3 : A.in1.in1.in1.handled = none := by simp [calm]
      have nI : p ≠ (s.heap.push (bareS w)).objs.size := by
        rw [Heap.size_push]
        exact Nat.ne_of_lt (Nat.lt_succ_of_lt ltP)
      have nS : s.heap.objs.size ∉ [(s.heap.push (bareS w)).objs.size, p] := by
        rw [Heap.size_push]
        simp only [List.mem_cons, List.not_mem_nil, or_false, not_or]
        exact ⟨Nat.ne_of_lt (Nat.lt_succ_self _), Nat.ne_of_gt ltP⟩
      have val : ∀ (i : Nat) (v : Value), items[i]? = some v → ∃ k t, xs[i]? = some k ∧ v = .str k t := fun i v hv => by
        have hi : i < xs.length := by
          rw [← many]
          exact (Array.getElem?_eq_some_iff.mp hv).1
        obtain ⟨t, e⟩ := SS.strs_at are i v (by rw [Array.getElem?_toList]; exact hv)
        refine ⟨xs[i], t, List.getElem?_eq_getElem hi, ?_⟩
        rw [e, List.getD_eq_getElem?_getD, List.getElem?_eq_getElem hi]
        rfl
      refine txt_loop ((Walks.tuple calm3 _ p nI items).toS) s.heap.objs.size nS xs many few val (items.size - 0) 0 _ rfl (Nat.zero_le _) ⟨⟨_, Heap.get?_push_size _ rfl, rfl, rfl⟩, (tup1.push _)⟩ ?first ?last
      case first => exact txt_fresh (Heap.get?_push_of_some _ eS)
      case last =>
        intro s' mv T
        obtain ⟨h', g', d', tk', os'⟩ := s'
        obtain rfl : g' = s.gens := mv.gens
        obtain rfl : d' = s.drawn := mv.drawn
        obtain rfl : os' = s.os := mv.os
        refine wpAny_pure ?_
        show wpAny _ _ (ret Value.none) _ _ _
        refine wpAny_pure ⟨rfl, h', tk', rfl, T, fun b o e => ?_⟩
        have lb := Heap.lt_size e
        refine mv.heap b o (fun z => ?_) (Heap.get?_push_of_some _ (Heap.get?_push_of_some _ e))
        rw [Heap.size_push] at z
        simp only [List.mem_cons, List.not_mem_nil, or_false] at z
        exact z.elim (Nat.ne_of_lt lb) (Nat.ne_of_lt (Nat.lt_succ_of_lt lb))
    · match r₂, hr₂ with
      | .error e, hr₂ => exact hr₂
      | .ok .next, hr₂ => exact hr₂.elim
      | .ok .brk, hr₂ => exact hr₂.elim
      | .ok .cont, hr₂ => exact hr₂.elim
      | .ok (.ret z), hr₂ =>
        obtain ⟨rfl, h', tk, rfl, T, kk⟩ := hr₂
        repeat (any_goals (first | assumption | wp_step))
        exact q _ _ T kk
end
end MG

/-! sorted(set(t)), t a tuple of texts -/
namespace MG
open PySem PySem.Spec PyProof.Rows L2
open PySem.Froz (SD sObj TxOk)
theorem strs_by : ∀ (l : List Value), (∀ v ∈ l, ∃ k t, v = Value.str k t) → ∃ ss, StrsAre l ss
  | [], _ => ⟨[], .nil⟩
  | v :: l, h => by
    obtain ⟨k, t, e⟩ := h v List.mem_cons_self
    subst e
    obtain ⟨ss, r⟩ := strs_by l fun u hu => h u (.tail _ hu)
    exact ⟨k :: ss, .cons k t r⟩
theorem strs_in {x : Str} : ∀ {l : List Value} {ss : List Str}, StrsAre l ss → (x ∈ ss ↔ ∃ t, Value.str x t ∈ l)
  | _, _, .nil => by simp
  | _, _, .cons k t r => by
    rw [List.mem_cons, strs_in r]
    constructor
    · rintro (e | ⟨u, h⟩)
      · exact ⟨t, by rw [e]; exact List.mem_cons_self⟩
      · exact ⟨u, .tail _ h⟩
    · rintro ⟨u, h⟩
      rcases List.mem_cons.mp h with e | h
      · cases e
        exact .inl rfl
      · exact .inr ⟨u, h⟩
section
variable {P : Program} {w : World} {A : Around} {E : Value → Shared → Prop} {s : Shared} {a : Addr} {l : List Str}
theorem sorted_txt {Q : Value → Shared → Prop} (T : TxtS P w s.heap a l) (calm : A.handled = none) (few : l.length < scanBound)
    (q : ∀ s' p (out : Array Value) (c : Nat) (ss : List Str), (∀ b o, s.heap.get? b = some o → s'.heap.get? b = some o) → s'.gens = s.gens → s'.os = s.os → s.heap.objs.size ≤ p →
      s'.heap.get? p = some (seqObj "list" out c) → StrsAre out.toList ss → sortedS ss = true → (∀ x, x ∈ ss ↔ x ∈ l) → ss.length = l.length → Q (.ref p) s') :
    wpAny (model P w) A (call (.builtin "sorted") [.ref a]) Q E s := by
  obtain ⟨D, e, F, nd, ri, ld⟩ := T
  have size : D.1.size = l.length := F.sz
  refine Calls.call_function_entry kind_sorted plain_sorted entry_sorted (args_sorted1 _) ?_
  unfold Builtin.«sorted»
  refine wpAny_bind (m := checkCount "sorted" 1 1 _) (wpAny_pure ?_)
  refine wpAny_bind (collect_set (A := A.in1) calm ⟨_, e, rfl, rfl⟩ F.fit (by omega) ri ld fun s1 vs k1 hz g1 o1 pm => ?_)
  have lenV : vs.length = l.length := by rw [pm.length_eq, List.length_map, Array.length_toList, size]
  have txt : ∀ v ∈ vs, ∃ k t, v = Value.str k t := fun v hv => by
    obtain ⟨x, hx, rfl⟩ := List.mem_map.mp (pm.mem_iff.mp hv)
    obtain ⟨⟨k, hk, _⟩, _⟩ := F.el x hx
    have hk' : Value.isStrOf k x.2 = true := hk
    cases hv2 : x.2 with
    | str z t => exact ⟨z, t, rfl⟩
    | _ => rw [hv2] at hk'; simp [Value.isStrOf] at hk'
  obtain ⟨ss, are⟩ := strs_by vs txt
  have memS : ∀ x, x ∈ ss ↔ x ∈ l := fun x => by
    rw [strs_in are, F.mem x]
    constructor
    · rintro ⟨t, h⟩
      obtain ⟨y, hy, ey⟩ := List.mem_map.mp (pm.mem_iff.mp h)
      exact ⟨y, hy, by rw [ey]; exact PySem.Froz.is_str x t⟩
    · rintro ⟨y, hy, ey⟩
      have ey' : Value.isStrOf x y.2 = true := ey
      cases hv2 : y.2 with
      | str z t =>
        rw [hv2] at ey'
        have : z = x := by simpa [Value.isStrOf] using ey'
        exact ⟨t, pm.mem_iff.mpr (List.mem_map.mpr ⟨y, hy, by rw [hv2, this]⟩)⟩
      | _ => rw [hv2] at ey'; simp [Value.isStrOf] at ey'
  have small : vs.length ≤ sizeLine := by
    rw [lenV]
    have z : scanBound ≤ sizeLine := by decide
    omega
  refine wpAny_bind (wpAny_newList ?_ small)
  have eL : (s1.heap.push (seqObj "list" vs.toArray 0)).get? s1.heap.objs.size = some (seqObj "list" vs.toArray 0) := Heap.get?_push_size _ rfl
  refine wpAny_bind (wpAny_holding (wpAny_call_entry slot_list_sort ⟨_, eL, rfl⟩ entry_list_sort
    (list_sort_treeKAny strKind_oneLt eL are.keysOf (fun v₁ v₂ rest z => keyKind_strs (by rw [← z]; exact are)) small fun st' hp hs => ⟨_, rfl, ?_⟩) (args_list_sort _)))
  obtain ⟨ss', h1, h2, h3⟩ := sorted_out_str are hp hs
  obtain ⟨c, hc⟩ := sortedHeap_at (vs := vs) (out := (arrOf st').map (·.2)) eL
  refine wpAny_pure ⟨_, rfl, q _ s1.heap.objs.size _ c ss' (fun b u z => ?_) g1 o1 hz hc h1 h3 (fun x => by rw [h2.mem_iff, memS]) ?_⟩
  · have z1 := k1 b u z
    have lt := Heap.lt_size z1
    show (sortedHeap (s1.heap.push (seqObj "list" vs.toArray 0)) s1.heap.objs.size vs _).get? b = some u
    rw [sortedHeap_old (Nat.ne_of_lt lt) (by rw [size_push']; exact Nat.lt_succ_of_lt lt)]
    exact Heap.get?_push_of_some _ z1
  · rw [h2.length_eq, ← StrsAre.length are, lenV]
end
/-! ### as rules of calls -/
def TxtO (P : Program) (w : World) (a : Addr) (l : List Str) : HO := .ext fun h => TxtS P w h a l
section
variable {X : Cx}
theorem txtO_new {P : Program} {w : World} {H : Hp} {h : Heap} {a : Addr} {l : List Str} (T : TxtS P w h a l) : ObjOk P w H h a (TxtO P w a l) := by
  have ⟨D, e, _⟩ := T
  exact ⟨T, ⟨_, e⟩, fun h1 h2 p k => TxtS.stay p k⟩
theorem txtO_get {pins : List (Addr × Obj)} {σ : L2.St} {H : Hp} {s : Shared} {a : Addr} {l : List Str} (I : Inv X pins σ H s) (ha : H a = some (TxtO X.prog X.w a l)) : TxtS X.prog X.w s.heap a l := (I.hok a _ ha).1
/-- set(t) -/
def rSetT (K : PySem.W.Frag) (P : Program) (w : World) : List V → Hp → VK → Prop := fun vs H Q => ∃ (p : Addr) (xs : List Str), vs = [.ref p] ∧ SqT K H p (xs.map V.str) ∧ xs.length ≤ 1000 ∧ ∀ b, H b = none → Q (.ref b) (upd H b (TxtO P w b (onceT xs)))
theorem strs_of_vals : ∀ {xs : List Str} {us : List Value}, Vals (xs.map V.str) us → StrsAre us xs
  | [], _, .nil => .nil
  | x :: xs, _, .cons ⟨t, e⟩ r => by
    subst e
    exact .cons x t (strs_of_vals r)
theorem cr_setT (calm : X.calm = true) : CallR X (.type "set") (rSetT X.K X.prog X.w) := by
  intro pins s σ H vs us Q I r h
  obtain ⟨p, xs, rfl, hq, few, q⟩ := h
  rw [Vals.ref1 r]
  obtain ⟨its, rv, pl, hz⟩ := I.tuple hq
  refine call_set_txt xs (I.ok.hd calm) pl (by simpa using strs_of_vals rv) (by unfold scanBound; omega) fun h' tk T k => ?_
  exact ⟨.ref _, upd H s.heap.objs.size (TxtO X.prog X.w s.heap.objs.size (onceT xs)), I.laid (t' := tk) k (Nat.le_refl _) (txtO_new T), rfl, q _ (I.hok.fresh (Nat.le_refl _))⟩
/-- sorted of it -/
def rSortT (P : Program) (w : World) : List V → Hp → VK → Prop := fun vs H Q => ∃ (a : Addr) (l : List Str), vs = [.ref a] ∧ H a = some (TxtO P w a l) ∧ l.length ≤ 1000 ∧
  ∀ (ss : List Str) (p : Addr), sortedS ss = true → (∀ x, x ∈ ss ↔ x ∈ l) → ss.length = l.length → H p = none → Q (.ref p) (upd H p (.lst (ss.map V.str)))
theorem cr_sortT (calm : X.calm = true) : CallR X (.builtin "sorted") (rSortT X.prog X.w) := by
  intro pins s σ H vs us Q I r h
  obtain ⟨a, l, rfl, ha, few, q⟩ := h
  rw [Vals.ref1 r]
  refine sorted_txt (txtO_get I ha) (I.ok.hd calm) (by unfold scanBound; omega) fun s' p out c ss k g o hp hg are so mem len => ?_
  have fits : (ss.map V.str).length ≤ sizeLine := by
    rw [List.length_map, len, sizeLine_eq]
    omega
  have hn : H p = none := I.hok.fresh hp
  have J : Inv X pins σ (upd H p (.lst (ss.map V.str))) { s with heap := s'.heap, gens := s'.gens, drawn := s'.drawn, toks := s'.toks } :=
    I.call (ch := []) (Un.laid k hp hn) (I.hok.laid k hp ⟨fits, out.toList, c, vals_of_strs are, hg⟩) (by rw [g]; exact I.bare) (fun _ z => nomatch z)
  have e : s' = { s with heap := s'.heap, gens := s'.gens, drawn := s'.drawn, toks := s'.toks } := by
    obtain ⟨_, _, _, _, os'⟩ := s'
    cases o
    rfl
  rw [e]
  exact ⟨.ref p, _, J, rfl, q ss p so mem len hn⟩
end
end MG

/-! the truth of an own instance in a test; fields as targets among others -/
namespace MG
open PySem PySem.Spec PyProof.Rows L2
structure BooF (P : Program) (w : World) (K : PySem.W.Frag) (mg : Str → Option Value) (base : Heap) (k : Nat) (C : Addr) (sp : Sp) : Prop where
  ex : ∃ (f : Addr) (fd : FuncData) (ps : List Str), PySem.W.findIn K (.ref C) "__bool__" = some (some (.ref f)) ∧ PySem.W.isFn K (.ref f) = true ∧ FnOk P w K mg base CX0 k f fd ps sp ∧ Binds K fd ps []
def tTruO (C : Addr) (sp : Sp) (ta : TE) : TT := fun σ H Q => ta σ H fun x H1 => ∃ a dx fs, x = .ref a ∧ H1 a = some (.ins C dx fs) ∧ sp [.ref a] H1 (fun v H2 => ∃ z, v = .bl z ∧ Q z H2) E0
def gFld (K : PySem.W.Frag) (to : TE) (f : Str) : TG := fun v σ H Q => to σ H fun x H1 => ∃ a C dx fs, x = .ref a ∧ H1 a = some (.ins C dx fs) ∧ Cls K C ∧ NoAttr K C f ∧ fs.length < 1000 ∧ Q σ (upd H1 a (.ins C dx (putF f v fs)))
section
variable {X : Cx} {k j : Nat} {C : Addr} {sp : Sp} {e o : Expr} {f : Str} {ta : TE} {pos : Pos}
theorem pt_truO (b : BooF X.prog X.w X.K X.mg X.base k C sp) (hr : Room j X.A) (hk : k ≤ j) (he : PE X e ta) (hi : ∀ whole, isTrue e X.env whole = (do let v ← whole; standAt e.pos; holding [v] (truthy v)) := by intro _; rfl) : PT X e (tTruO C sp ta) := by
  obtain ⟨g, fd, ps, hs, hf, F, bd⟩ := b.ex
  refine ⟨fun pins s σ H Q I h => isTrue_plain (thn (he.run pins s σ H _ I h) fun v s1 ⟨x, H1, I1, r1, a, dx, fs, ex, ea, q⟩ => ?_) (hi _)⟩
  subst ex
  obtain rfl : v = Value.ref a := r1
  obtain ⟨mA, J, _⟩ := ins_get I1.hok ea
  obtain ⟨od, J, _⟩ := J.look
  obtain ⟨m, hF⟩ := I1.fr
  refine PySem.W.truthy_K hF I1.ok.mod.kin J hs hf (thn (run_fn (us := [.ref a]) (vs := [.ref a]) (dvs := []) (E := E0) F (hr.mono hk) bd .nil pass0 I1 (.cons rfl .nil) q) fun u s2 ⟨y, H2, I2, ry, z, ez, q2⟩ => ?_)
  subst ez
  cases ry
  exact ⟨H2, I2, q2⟩
theorem pg_fld (ho : PE X o ta) : PG X (.Attribute o f pos) (gFld X.K ta f) := by
  refine ⟨fun pins s σ H v u Q I r h => ?_⟩
  rw [assign_Attribute]
  refine wpAny_bind (wpAny_holding (thn (ho.run pins s σ H _ I h) fun ov s1 ⟨x, H1, I1, rx, a, C, dx, fs, ex, ea, c, n, l, q⟩ => ?_))
  subst ex
  obtain rfl : ov = Value.ref a := rx
  refine wpAny_bind (wpAny_standAt (wpAny_bind (wpAny_holding (setattr_ok I1 ea c n l r fun s2 I2 => ?_))))
  exact wpAny_release ⟨σ, _, I2, q⟩
end
/-! ### an instance's fields, by a list of names and one of values -/
theorem zip_put {f : Str} {v : V} : ∀ {ns : List Str} {vs : List V}, ns.Nodup → ns[vs.length]? = some f → putF f v (ns.zip vs) = ns.zip (vs ++ [v])
  | [], _, _, h => by simp at h
  | n :: ns, [], _, h => by
    have e : n = f := by simpa using h
    rw [e]
    cases ns <;> rfl
  | n :: ns, x :: vs, nd, h => by
    obtain ⟨h1, h2⟩ := List.nodup_cons.mp nd
    have h' : ns[vs.length]? = some f := by simpa using h
    have ne : n ≠ f := fun e => h1 (e ▸ List.mem_of_getElem? h')
    show (if n = f then _ else (n, x) :: putF f v (ns.zip vs)) = _
    rw [if_neg ne, zip_put h2 h']
    rfl
theorem zip_set {f : Str} {v : V} : ∀ {ns : List Str} {vs : List V} {j : Nat}, ns.Nodup → ns[j]? = some f → j < vs.length → putF f v (ns.zip vs) = ns.zip (vs.set j v)
  | [], _, _, _, h, _ => by simp at h
  | _ :: _, [], _, _, _, h => by simp at h
  | n :: ns, x :: vs, 0, _, h, _ => by
    have e : n = f := by simpa using h
    rw [e]
    show (if f = f then (f, v) :: ns.zip vs else _) = _
    rw [if_pos rfl]
    rfl
  | n :: ns, x :: vs, j + 1, nd, h, hl => by
    obtain ⟨h1, h2⟩ := List.nodup_cons.mp nd
    have h' : ns[j]? = some f := by simpa using h
    have ne : n ≠ f := fun e => h1 (e ▸ List.mem_of_getElem? h')
    show (if n = f then _ else (n, x) :: putF f v (ns.zip vs)) = _
    rw [if_neg ne, zip_set h2 h' (by simpa using hl)]
    rfl
theorem zip_look {f : Str} : ∀ {ns : List Str} {vs : List V} {j : Nat}, ns.Nodup → ns[j]? = some f → (ns.zip vs).lookup f = vs[j]?
  | [], _, _, _, h => by simp at h
  | _ :: _, [], _, _, _ => by simp
  | n :: ns, x :: vs, 0, _, h => by
    have e : n = f := by simpa using h
    rw [e]
    simp [List.lookup]
  | n :: ns, x :: vs, j + 1, nd, h => by
    obtain ⟨h1, h2⟩ := List.nodup_cons.mp nd
    have h' : ns[j]? = some f := by simpa using h
    have ne : f ≠ n := fun e => h1 (e ▸ List.mem_of_getElem? h')
    show List.lookup f ((n, x) :: ns.zip vs) = _
    rw [List.lookup_cons, beq_eq_false_iff_ne.mpr ne]
    exact zip_look h2 h'
theorem zip_none {f : Str} : ∀ {ns : List Str} {vs : List V}, f ∉ ns → (ns.zip vs).lookup f = none
  | [], _, _ => rfl
  | _ :: _, [], _ => rfl
  | n :: ns, x :: vs, h => by
    have ne : f ≠ n := fun e => h (e ▸ List.mem_cons_self)
    show List.lookup f ((n, x) :: ns.zip vs) = _
    rw [List.lookup_cons, beq_eq_false_iff_ne.mpr ne]
    exact zip_none fun m => h (.tail _ m)
theorem zip_small {ns : List Str} {vs : List V} (h : ns.length < 1000) : (ns.zip vs).length < 1000 := by
  rw [List.length_zip]
  omega
end MG

/-! the lesser and the greater of two texts -/
namespace MG
open PySem PySem.Spec PyProof.Rows L2
def ltT (x y : Str) : Bool := decide (x.cps.toList < y.cps.toList)
section
variable {prog : Program} {w : World} {A : Around} {E : Value → Shared → Prop} {s : Shared} {Q : Value → Shared → Prop} {a b : Value} {x y : Str} {t u : Tok}
def txtOf : Value → Str
  | .str z _ => z
  | _ => Str.empty
inductive TxV : Value → Prop
  | str (z : Str) (t : Tok) : TxV (.str z t)
theorem cmpT_lt (vs : Array Value) (hn : ∀ v ∈ vs, TxV v) : CmpOf prog w A .Lt (fun i v => vs[i]? = some v) (fun i j => ltT (txtOf (vs.getD i .none)) (txtOf (vs.getD j .none))) := fun i j vi vj s Q E hi hj h => by
  have h1 : vs.getD i .none = vi := by simp [Array.getD_eq_getD_getElem?, hi]
  have h2 : vs.getD j .none = vj := by simp [Array.getD_eq_getD_getElem?, hj]
  dsimp only at h
  rw [h1, h2] at h
  cases hn _ (Array.mem_of_getElem? hi) with
  | str z t =>
    cases hn _ (Array.mem_of_getElem? hj) with
    | str z' t' => exact (PyProof.Rows.lt_str h : wpAny (model prog w) A (compareOp .Lt (.str z t) (.str z' t')) Q E s)
theorem cmpT_gt (vs : Array Value) (hn : ∀ v ∈ vs, TxV v) : CmpOf prog w A .Gt (fun i v => vs[i]? = some v) (fun i j => ltT (txtOf (vs.getD j .none)) (txtOf (vs.getD i .none))) := fun i j vi vj s Q E hi hj h => by
  have h1 : vs.getD i .none = vi := by simp [Array.getD_eq_getD_getElem?, hi]
  have h2 : vs.getD j .none = vj := by simp [Array.getD_eq_getD_getElem?, hj]
  dsimp only at h
  rw [h1, h2] at h
  cases hn _ (Array.mem_of_getElem? hi) with
  | str z t =>
    cases hn _ (Array.mem_of_getElem? hj) with
    | str z' t' => exact (P.gt_str h : wpAny (model prog w) A (compareOp .Gt (.str z t) (.str z' t')) Q E s)
theorem two_walk {op : CmpOp} {bt : Nat → Nat → Bool} (hh : A.handled = none) (cmp : CmpOf prog w A.in1 op (fun i v => (#[a, b] : Array Value)[i]? = some v) bt)
    (h : ∀ h' tk, (∀ c o, s.heap.get? c = some o → h'.get? c = some o) → Q (if bt 1 0 = true then b else a) { s with heap := h', toks := tk }) :
    wpAny (model prog w) A.in1 (pyIter (.ref s.heap.objs.size)) (fun it s₂ => ∃ I fp wr n P St bt, it = .ref I ∧ Walks prog w A.in1 I fp wr n P St ∧ St 0 s₂.heap ∧ (∀ b ∈ fp, b < s₂.heap.objs.size) ∧ 0 < n ∧ CmpOf prog w A.in1 op P bt ∧
      ∀ v h' tk, P (argBest bt (n - 1)) v → (∀ b o, b ∉ wr → s₂.heap.get? b = some o → h'.get? b = some o) → Q v { s₂ with heap := h', toks := tk }) E { s with heap := s.heap.push { cls := .type "tuple", data := .seq #[a, b] } } := by
  have z1 : (s.heap.push { cls := .type "tuple", data := .seq #[a, b] }).objs.size = s.heap.objs.size + 1 := Heap.size_push ..
  refine wpAny_pyIter_tuple (items := #[a, b]) ⟨_, Heap.get?_push_size _ rfl, rfl, 0, rfl⟩ ?_
  have ne : s.heap.objs.size ≠ (s.heap.push { cls := .type "tuple", data := .seq #[a, b] }).objs.size := by omega
  refine ⟨_, [_, s.heap.objs.size], [_], _, _, _, _, rfl, Walks.tuple (A := A.in1) hh _ s.heap.objs.size ne #[a, b], ⟨⟨_, Heap.get?_push_size _ rfl, rfl, rfl⟩, ?_⟩, fun c hc => ?_, by simp, cmp, fun v h' tk hP hk => ?_⟩
  · exact Heap.IsTuple.push ⟨_, Heap.get?_push_size _ rfl, rfl, 0, rfl⟩ _
  · show c < ((s.heap.push _).push _).objs.size
    rw [Heap.size_push]
    rcases List.mem_cons.mp hc with e | hc
    · rw [e]
      exact Nat.lt_succ_self _
    · rw [List.mem_singleton.mp hc, z1]
      exact Nat.lt_succ_of_lt (Nat.lt_succ_self _)
  · have ev : v = if bt 1 0 = true then b else a := by
      cases hc : bt 1 0 <;> simp [argBest, hc] at hP <;> simp [hP]
    rw [ev]
    refine h h' tk fun c o e => hk c o (fun hm => ?_) (Heap.get?_push_of_some _ (Heap.get?_push_of_some _ e))
    have lt := Heap.lt_size e
    rw [List.mem_singleton.mp hm, z1] at lt
    exact absurd lt (Nat.not_lt.mpr (Nat.le_succ _))
theorem max_twoT (hh : A.handled = none) (h : ∀ h' tk, (∀ c o, s.heap.get? c = some o → h'.get? c = some o) → Q (if ltT x y = true then .str y u else .str x t) { s with heap := h', toks := tk }) :
    wpAny (model prog w) A (call (.builtin "max") [.str x t, .str y u]) Q E s :=
  call_max_two (two_walk hh (cmpT_gt _ (by simp [TxV.str])) h)
theorem min_twoT (hh : A.handled = none) (h : ∀ h' tk, (∀ c o, s.heap.get? c = some o → h'.get? c = some o) → Q (if ltT y x = true then .str y u else .str x t) { s with heap := h', toks := tk }) :
    wpAny (model prog w) A (call (.builtin "min") [.str x t, .str y u]) Q E s :=
  call_min_two (two_walk hh (cmpT_lt _ (by simp [TxV.str])) h)
end
section
variable {X : Cx}
def rTwoT (f : Str → Str → Str) : List V → Hp → VK → Prop := fun xs H Q => ∃ x y, xs = [.str x, .str y] ∧ Q (.str (f x y)) H
def maxT (x y : Str) : Str := if ltT x y = true then y else x
def minT (x y : Str) : Str := if ltT y x = true then y else x
theorem call_maxT (hc : X.calm = true) : CallR X (.builtin "max") (rTwoT maxT) := by
  intro pins s σ H xs us Q I r h
  obtain ⟨x, y, rfl, q⟩ := h
  obtain ⟨u, w', rfl, ⟨t, rfl⟩, ⟨t', rfl⟩⟩ := vals2 r
  refine max_twoT (I.ok.hd hc) fun h' tk k => ⟨_, H, I.kept k, ?_, q⟩
  unfold maxT
  split <;> exact ⟨_, rfl⟩
theorem call_minT (hc : X.calm = true) : CallR X (.builtin "min") (rTwoT minT) := by
  intro pins s σ H xs us Q I r h
  obtain ⟨x, y, rfl, q⟩ := h
  obtain ⟨u, w', rfl, ⟨t, rfl⟩, ⟨t', rfl⟩⟩ := vals2 r
  refine min_twoT (I.ok.hd hc) fun h' tk k => ⟨_, H, I.kept k, ?_, q⟩
  unfold minT
  split <;> exact ⟨_, rfl⟩
end
/-- the texts of {x, y}, ascending -/
def pairT (x y : Str) : List Str := if x = y then [x] else [minT x y, maxT x y]
theorem ltT_total {x y : Str} (ne : x ≠ y) (h : ltT y x = false) : ltT x y = true := by
  have h1 : ¬ y.cps.toList < x.cps.toList := of_decide_eq_false h
  refine decide_eq_true (Classical.byContradiction fun h2 => ne ?_)
  have e : x.cps.toList = y.cps.toList := List.le_antisymm (show x.cps.toList ≤ y.cps.toList from h1) (show y.cps.toList ≤ x.cps.toList from h2)
  cases x
  cases y
  exact congrArg Str.mk (Array.ext' e)
theorem pair_sorted {x y : Str} {ss : List Str} (so : sortedS ss = true) (mem : ∀ z, z ∈ ss ↔ z ∈ onceT [x, y]) (len : ss.length = (onceT [x, y]).length) : ss = pairT x y := by
  unfold pairT
  by_cases e : x = y
  · subst e
    have o : onceT [x, x] = [x] := by simp [onceT, plusT]
    rw [o] at mem len
    rw [if_pos rfl]
    match ss, len with
    | [a], _ =>
      have := (mem a).mp (by simp)
      rw [List.mem_singleton.mp this]
  · have o : onceT [x, y] = [y, x] := by simp [onceT, plusT, Ne.symm e]
    rw [o] at mem len
    rw [if_neg e]
    match ss, len with
    | [a, b], _ =>
      have ha := (mem a).mp (by simp)
      have hb := (mem b).mp (by simp)
      have hx := (mem x).mpr (by simp)
      have hy := (mem y).mpr (by simp)
      simp only [List.mem_cons, List.not_mem_nil, or_false] at ha hb hx hy
      have nlt : ltT b a = false := by
        have s1 : (!ltCps b.cps.toList a.cps.toList && true) = true := so
        rw [ltCps_eq] at s1
        unfold ltT
        simpa using s1
      rcases hx with rfl | rfl
      · rcases hb with rfl | rfl
        · unfold minT maxT
          rw [ltT_total e nlt, nlt]
          rfl
        · rcases hy with rfl | rfl <;> exact absurd rfl e
      · rcases ha with rfl | rfl
        · have := ltT_total (Ne.symm e) nlt
          unfold minT maxT
          rw [this, nlt]
          rfl
        · rcases hy with rfl | rfl <;> exact absurd rfl e
end MG

/-! an own instance in an f-string -/
namespace MG
open PySem PySem.Spec PyProof.Rows L2
/-- a class whose instances stand in f-strings by their own __str__ -/
structure FmtK (K : PySem.W.Frag) (C : Addr) : Prop where
  fm : PySem.W.findIn K (.ref C) "__format__" = some (some (.builtin "object.__format__"))
  cm : PySem.W.mroIn K C (.type "object") = some true
def tFmtO (C : Addr) (sp : Sp) (te : TE) : TE := fun σ H Q => te σ H fun x H1 => rTxtO C sp E0 [x] H1 Q
section
variable {X : Cx} {k j : Nat} {C : Addr} {sp : Sp}
theorem pe_fmtO {e : Expr} {te : TE} {pos : Pos} (o : DunF X.prog X.w X.K X.mg X.base k C "__str__" sp) (fk : FmtK X.K C) (hr : Room j X.A) (hk : k + 1 ≤ j) (he : PE X e te) : PE X (.FormattedValue e (-1) none pos) (tFmtO C sp te) := by
  obtain ⟨f, fd, ps, at_, fn, F, b⟩ := o.ex
  refine ⟨fun pins s σ H Q I h => wpAny_FormattedValue_plain (thn (he.run pins s σ H _ I h) fun v s1 hv => ?_)⟩
  obtain ⟨x, H1, I1, r1, a, dx, fs, ex, ha, hsp⟩ := hv
  cases ex
  obtain rfl : v = Value.ref a := r1
  obtain ⟨mA, J, _⟩ := ins_get I1.hok ha
  obtain ⟨od, J, _⟩ := J.look
  refine PySem.W.kfo_fieldS (Nat.lt_trans ?_ hr.un) I1.kIn J fk.fm fk.cm at_ fn (wpAny_mono (run_in1 F (hr.mono hk) b pass0 (I1.tok _) hsp) (fun _ _ q => strBack q) fun _ _ e => e)
  show X.A.units + 1 < X.A.units + 16 * j + 200
  omega
end
/-- a class made by its name, n values by place and the keywords ks -/
structure MakKF (P : Program) (w : World) (K : PySem.W.Frag) (mg : Str → Option Value) (base : Heap) (k : Nat) (x : Str) (C : Addr) (sp : Sp) (n : Nat) (ks : List Str) (gV : List V → List V → List V) : Prop where
  ex : ∃ (f : Addr) (fd : FuncData) (ps : List Str) (gf : List Value → List Value → List Value), Mk K C f ∧ FnOk P w K mg base CX0 k f fd ps sp ∧ mg x = some (.ref C) ∧ KBn K fd ps (n + 1) ks gf gV
def tMakKF (C : Addr) (n m : Nat) (sp : Sp) (gV : List V → List V → List V) (t tk : TA) : TE := fun σ H Q => t σ H fun vs H1 => tk σ H1 fun zs H2 => vs.length = n ∧ zs.length = m ∧ ∀ x dx, H2 x = none → H2 dx = none → dx ≠ x →
  sp (gV (.ref x :: vs) zs) (upd (upd H2 dx (.own x)) x (.ins C dx [])) (fun v H3 => v = .non ∧ Q (.ref x) H3) E0
section
variable {X : Cx} {k j n : Nat} {C : Addr} {x : Str} {sp : Sp} {p pos : Pos} {e : Expr} {es : List Expr} {t tk : TA} {ks : List Str} {gV : List V → List V → List V} {kws : List Keyword}
theorem pe_makKF (c : MakKF X.prog X.w X.K X.mg X.base k x C sp n ks gV) (hr : Room j X.A) (hk : k + 1 ≤ j) (hg : Gl X x) (ha : PA X (e :: es) t) (hkw : PK X kws tk)
    (hall : (backToKw pos (keywordEach kws X.env)).all (·.1.isSome) = true := by rfl) (hks : (backToKw pos (keywordEach kws X.env)).filterMap (·.1) = ks := by rfl) (hdb : (x == ("__debug__" : Str)) = false := by decide)
    (he : starEach (e :: es) X.env = (false, eval e X.env) :: starEach es X.env := by rfl)
    (hpl : ((backTo pos (starEach (e :: es) X.env)).any (·.1) || (backToKw pos (keywordEach kws X.env)).any (·.1.isNone)) = false := by rfl) :
    PE X (.Call (.Name x p) (e :: es) kws pos) (tMakKF C n ks.length sp gV t tk) := by
  obtain ⟨f, fd, ps, gf, M, F, hm, b⟩ := c.ex
  refine ⟨fun pins s σ H Q I h => wpAny_Call_Name_kw (ld_glob I hg hm ?_ hdb)⟩
  refine PySem.W.callWith_KW (h₀ := X.base) I.ok.mod.kin M.kp hall (thn (ha.run pos pins s σ H _ I h) fun us s1 ⟨vs, H1, I1, r, q⟩ => ?_) hpl he
  refine thn (hkw.run pos pins s1 σ H1 _ I1 q) fun ws s2 ⟨zs, H2, I2, rz, l1, l2, q2⟩ => ⟨I2.kIn, ?_⟩
  rw [hks]
  have hq := q2 (s2.heap.objs.size + 1) s2.heap.objs.size (I2.hok.fresh (Nat.le_succ _)) (I2.hok.fresh (Nat.le_refl _)) (Nat.ne_of_lt (Nat.lt_succ_self _))
  have I3 := Inv.made (C := C) I2
  have r1 : Vals (V.ref (s2.heap.objs.size + 1) :: vs) (Value.ref (s2.heap.objs.size + 1) :: us) := .cons rfl r
  have n1 : (Value.ref (s2.heap.objs.size + 1) :: us).length = n + 1 := by rw [List.length_cons, ← r.length, l1]
  have run := F.run _ X.stack _ _ ⟨Value.ref (s2.heap.objs.size + 1) :: us, ks.zip ws⟩ (gf (Value.ref (s2.heap.objs.size + 1) :: us) ws) _ _ E0 ((hr.mono hk).make C us (ks.zip ws)) (I3.env0.make C us (ks.zip ws))
    (b.to _ (Value.ref (s2.heap.objs.size + 1) :: us) ws I3.kIn n1 (rz.length.symm.trans l2)) (b.rel r1 rz) hq
  refine wpAny_call (make_map (f := f) I2.kIn M.makes M.init (beq_iff_eq.mp M.fn) (codeAny_mono run fun r s' hq' => ?_))
  match r, hq' with
  | .error er, hq' => exact pass0 pins σ _ _ er s' I3 hq'
  | .ok (.ret u), hq' =>
    obtain ⟨v, H', I4, rv, ev, q3⟩ := I3.after hq'
    subst ev
    exact ⟨rv, ⟨V.ref (s2.heap.objs.size + 1), H', I4, rfl, q3⟩⟩
  | .ok .next, hq' => exact False.elim hq'
  | .ok .brk, hq' => exact False.elim hq'
  | .ok .cont, hq' => exact False.elim hq'
end
end MG

/-! set(l) of a list of texts -/
namespace MG
open PySem PySem.Spec PyProof.Rows L2
section
variable {P : Program} {w : World} {A : Around} {E : Value → Shared → Prop} {s : Shared}
set_option maxHeartbeats 6400000 in
theorem call_set_txtL {p : Addr} {items : Array Value} (xs : List Str) {Q : Value → Shared → Prop} (calm : A.handled = none) (tup : s.heap.IsList p items) (are : StrsAre items.toList xs) (few : xs.length + 1 < scanBound)
    (q : ∀ h' tk, TxtS P w h' s.heap.objs.size (onceT xs) → (∀ b o, s.heap.get? b = some o → h'.get? b = some o) → Q (.ref s.heap.objs.size) { s with heap := h', toks := tk }) :
    wpAny (model P w) A (call (.type "set") [.ref p]) Q E s := by
  have many : items.size = xs.length := by
    rw [← StrsAre.length are, Array.length_toList]
  obtain ⟨mro0, mroR, order⟩ := F.called_set.mro
  have made := F.called_set.made
  have under := F.called_set.sub
  refine wpAny_call (codeAny_of_tree ?_)
  show wpAny _ _ (callAny (.type "set") _) _ _ _
  refine wpAny_pure ⟨Code.quiet_builtin _ (by decide +kernel), codeAny_builtin F.entry_type_call ?_⟩
  rw [Around.under_plain (weight_type_call_type "set" [.ref p] []) rfl]
  have notT := F.called_set.notType
  have create := F.called_set.canCreate
  have check := F.typeCall_set_1 (.ref p)
  repeat (any_goals (first | assumption | wp_step))
  refine codeAny_mono (code_set_led1 (.ref p) (E := E) (Q₁ := fun v s₁ => v = .ref s.heap.objs.size ∧ s₁ = { s with heap := s.heap.push (bareS w) }) ⟨rfl, rfl⟩) fun r s₁ hr => ?_
  match r, hr with
  | .error e, hr => exact hr
  | .ok .next, hr => exact hr.elim
  | .ok .brk, hr => exact hr.elim
  | .ok .cont, hr => exact hr.elim
  | .ok (.ret v), hr =>
    obtain ⟨rfl, rfl⟩ := hr
    have eS : (s.heap.push (bareS w)).get? s.heap.objs.size = some (bareS w) := Heap.get?_push_size _ rfl
    have isS : Shared.TypeIs { s with heap := s.heap.push (bareS w) } (.ref s.heap.objs.size) "set" := ⟨_, eS, rfl⟩
    have ini := F.called_set.init.lookup
    have bnd := F.called_set.init.bind (.ref s.heap.objs.size)
    repeat (any_goals (first | assumption | wp_step))
    refine codeAny_mono (codeAny_call_builtin (R := wants (fun r s₂ => r = .none ∧ ∃ h' tk, s₂ = { s with heap := h', toks := tk } ∧ TxtS P w h' s.heap.objs.size (onceT xs) ∧ (∀ b o, s.heap.get? b = some o → h'.get? b = some o)) E)
      F.called_set.init.plain F.entry_set_init (check_set_init_1 isS ?_)) fun r₂ s₂ hr₂ => ?_
    · obtain ⟨oT, eT, cT, nT, dT⟩ := tup
      obtain ⟨ocls, odict, odata, oslots⟩ := oT
      dsimp only at cT dT
      subst cT
      subst dT
      have eT1 : (s.heap.push (bareS w)).get? p = some { cls := .type "list", dict := odict, data := .seq items nT, slots := oslots } := Heap.get?_push_of_some _ eT
      have noS := F.sub_list_set
      have noF := F.sub_list_frozenset
      have noD : (Value.type "list" == Value.type "dict") = false := by decide
      have tup1 : (s.heap.push (bareS w)).IsList p items := ⟨_, eT1, rfl, nT, rfl⟩
      unfold Builtin.«set.__init__» noKeywords Builtin.Frozenset.updateFrom
      generalize keepPI : pyIter = PI
      wp_walk
      subst keepPI
      refine wpAny_pyIter_list tup1 ?_
      refine wpAny_bind (wpAny_runValue ?_)
      have ltP : p < s.heap.objs.size := Heap.lt_size eT
      have calm3 : A.in1.in1.in1.handled = none := by simp [calm]
      have nI : p ≠ (s.heap.push (bareS w)).objs.size := by
        rw [Heap.size_push]
        exact Nat.ne_of_lt (Nat.lt_succ_of_lt ltP)
      have nS : s.heap.objs.size ∉ [(s.heap.push (bareS w)).objs.size, p] := by
        rw [Heap.size_push]
        simp only [List.mem_cons, List.not_mem_nil, or_false, not_or]
        exact ⟨Nat.ne_of_lt (Nat.lt_succ_self _), Nat.ne_of_gt ltP⟩
      have val : ∀ (i : Nat) (v : Value), items[i]? = some v → ∃ k t, xs[i]? = some k ∧ v = .str k t := fun i v hv => by
        have hi : i < xs.length := by
          rw [← many]
          exact (Array.getElem?_eq_some_iff.mp hv).1
        obtain ⟨t, e⟩ := SS.strs_at are i v (by rw [Array.getElem?_toList]; exact hv)
        refine ⟨xs[i], t, List.getElem?_eq_getElem hi, ?_⟩
        rw [e, List.getD_eq_getElem?_getD, List.getElem?_eq_getElem hi]
        rfl
      refine txt_loop ((Walks.list calm3 _ p nI items).toS) s.heap.objs.size nS xs many few val (items.size - 0) 0 _ rfl (Nat.zero_le _) ⟨⟨_, Heap.get?_push_size _ rfl, rfl, rfl⟩, (tup1.push _)⟩ ?first ?last
      case first => exact txt_fresh (Heap.get?_push_of_some _ eS)
      case last =>
        intro s' mv T
        obtain ⟨h', g', d', tk', os'⟩ := s'
        obtain rfl : g' = s.gens := mv.gens
        obtain rfl : d' = s.drawn := mv.drawn
        obtain rfl : os' = s.os := mv.os
        refine wpAny_pure ?_
        show wpAny _ _ (ret Value.none) _ _ _
        refine wpAny_pure ⟨rfl, h', tk', rfl, T, fun b o e => ?_⟩
        have lb := Heap.lt_size e
        refine mv.heap b o (fun z => ?_) (Heap.get?_push_of_some _ (Heap.get?_push_of_some _ e))
        rw [Heap.size_push] at z
        simp only [List.mem_cons, List.not_mem_nil, or_false] at z
        exact z.elim (Nat.ne_of_lt lb) (Nat.ne_of_lt (Nat.lt_succ_of_lt lb))
    · match r₂, hr₂ with
      | .error e, hr₂ => exact hr₂
      | .ok .next, hr₂ => exact hr₂.elim
      | .ok .brk, hr₂ => exact hr₂.elim
      | .ok .cont, hr₂ => exact hr₂.elim
      | .ok (.ret z), hr₂ =>
        obtain ⟨rfl, h', tk, rfl, T, kk⟩ := hr₂
        repeat (any_goals (first | assumption | wp_step))
        exact q _ _ T kk
end
section
variable {X : Cx}
def rSetL (K : PySem.W.Frag) (P : Program) (w : World) : List V → Hp → VK → Prop := fun vs H Q => ∃ (p : Addr) (xs : List Str), vs = [.ref p] ∧ SqL K H p (xs.map V.str) ∧ xs.length ≤ 1000 ∧ ∀ b, H b = none → Q (.ref b) (upd H b (TxtO P w b (onceT xs)))
theorem cr_setL (calm : X.calm = true) : CallR X (.type "set") (rSetL X.K X.prog X.w) := by
  intro pins s σ H vs us Q I r h
  obtain ⟨p, xs, rfl, hq, few, q⟩ := h
  rw [Vals.ref1 r]
  obtain ⟨its, rv, ⟨o, n, e, hc, _, hd⟩, hz⟩ := I.list hq
  have pl : s.heap.IsList p its.toArray := ⟨o, e, hc, n, hd⟩
  refine call_set_txtL xs (I.ok.hd calm) pl (by simpa using strs_of_vals rv) (by unfold scanBound; omega) fun h' tk T k => ?_
  exact ⟨.ref _, upd H s.heap.objs.size (TxtO X.prog X.w s.heap.objs.size (onceT xs)), I.laid (t' := tk) k (Nat.le_refl _) (txtO_new T), rfl, q _ (I.hok.fresh (Nat.le_refl _))⟩
end
end MG

/-! comprehensions of two clauses, the second one over what an expression yields -/
namespace MG
open PySem PySem.Spec PyProof.Rows L2
/-- two generators, tuples within a tuple: all items are as R says -/
theorem lc2_tupS {K : PySem.W.Frag} {te ts : TE} {i1 j1 : Nat} {σ : L2.St} {H1 : Hp} {D a : Addr} {Q : VK} {rs : List V} (R : V → Prop) (ht : H1 a = some (.tup rs)) (hD : H1 D = none) (nij : j1 ≠ i1) (hi1 : i1 < σ.length) (hj1 : j1 < σ.length) (hn : ∀ (i : Nat) (x : V) (H : Hp), rs[i]? = some x → Same H1 H → ∃ p xs, (∀ R : VK, R (.ref p) H → ts ((wipe σ [i1, j1]).set i1 (some x)) H R) ∧ H1 p = some (.tup xs) ∧ xs.length ≤ 1000 ∧
      ∀ (j : Nat) (y : V) (H' : Hp), xs[j]? = some y → Same H1 H' → te ((((wipe σ [i1, j1]).set i1 (some x)).set j1 none).set j1 (some y)) H' fun v H4 => Same H' H4 ∧ R v) (hr : rs.length ≤ 1000)
    (k : ∀ ys H, Same H1 H → H D = some (.lst ys) → ys.length ≤ rs.length * 1000 → (∀ (i : Nat) y, ys[i]? = some y → R y) → Q (.ref D) H) :
    Lc2 (Itt K a) (gName i1) tYes (iTup K ts) (gName j1) tYes (tCut te) [i1, j1] [j1] σ H1 Q D := by
  have nD : ∀ {H : Hp} {ys : List V}, Same H1 H → Same H1 (upd H D (.lst ys)) := fun {H ys} s b o e => by
    rw [upd_ne (ne_of_none e hD)]
    exact s _ _ e
  refine ⟨fun i m H => m = rs.length - i ∧ i ≤ rs.length ∧ Same H1 H ∧ ∃ ys : List V, H D = some (.lst ys) ∧ ys.length ≤ i * 1000 ∧ ∀ (j : Nat) y, ys[j]? = some y → R y, ⟨rs.length, by simp, Nat.zero_le _, nD (Same.refl H1), [], upd_same, by simp, fun j y h => by simp at h⟩, ?_⟩
  rintro i m H ⟨rfl, hi, s1, ys, e1, l1, r1⟩
  by_cases hlt : i < rs.length
  · refine .inr ⟨(walk_tup (K := K) (a := a) (xs := rs)).goes i H hlt (SqT.of (s1 _ _ ht)), fun H' => Same H1 H' ∧ ∃ ys : List V, H' D = some (.lst ys) ∧ ys.length ≤ (i + 1) * 1000 ∧ ∀ (j : Nat) y, ys[j]? = some y → R y, fun H' q => ⟨rs.length - (i + 1), by omega, rfl, hlt, q.1, q.2⟩, fun x H' y => ?_⟩
    obtain ⟨rfl, hx⟩ := (walk_tup (K := K) (a := a) (xs := rs)).yields i H x H' hlt (SqT.of (s1 _ _ ht)) y
    obtain ⟨p, xs, hsrc, hp, hxl, hs⟩ := hn i x H' hx s1
    refine ⟨?_, ?_⟩
    · show ((((σ.set j1 none).set i1 none).set i1 (some x)).set j1 none).set i1 none = (σ.set j1 none).set i1 none
      rw [List.set_set, List.set_comm none none nij, List.set_set, List.set_comm none none nij, List.set_set]
    · unfold tYes
      dsimp only
      rw [if_pos rfl]
      have len1 : i1 < (wipe σ [i1, j1]).length := by rw [wipe_length]; exact hi1
      refine hsrc _ ⟨p, rfl, ⟨xs, SqT.of (s1 _ _ hp)⟩, ?_⟩
      refine ⟨fun j k H => k = xs.length - j ∧ j ≤ xs.length ∧ Same H1 H ∧ ∃ ys : List V, H D = some (.lst ys) ∧ ys.length ≤ i * 1000 + j ∧ ∀ (j : Nat) y, ys[j]? = some y → R y, ⟨xs.length, by simp, Nat.zero_le _, s1, ys, e1, by omega, r1⟩, ?_⟩
      rintro j k H ⟨rfl, hj, s2, zs, e2, l2, r2⟩
      by_cases hlj : j < xs.length
      · refine .inr ⟨(walk_tup (K := K) (a := p) (xs := xs)).goes j H hlj (SqT.of (s2 _ _ hp)), fun H' => Same H1 H' ∧ ∃ ys : List V, H' D = some (.lst ys) ∧ ys.length ≤ i * 1000 + (j + 1) ∧ ∀ (j : Nat) y, ys[j]? = some y → R y, fun H' q => ⟨xs.length - (j + 1), by omega, rfl, hlj, q.1, q.2⟩, fun x H' y => ?_⟩
        obtain ⟨rfl, hy⟩ := (walk_tup (K := K) (a := p) (xs := xs)).yields j H x H' hlj (SqT.of (s2 _ _ hp)) y
        refine ⟨wipe_one, ?_⟩
        rw [if_pos rfl]
        refine ⟨_, hs j _ _ hy s2, ?_⟩
        rintro v H4 ⟨s4, rv⟩
        refine ⟨zs, s4 _ _ e2, Nat.lt_of_le_of_lt (m := 1000 * 1000 + 1000) ?_ (by decide), nD (s2.trans s4), zs ++ [v], upd_same, by simp; omega, fun m y hm => ?_⟩
        · have : i * 1000 ≤ 1000 * 1000 := Nat.mul_le_mul_right _ (by omega)
          omega
        · by_cases hm1 : m < zs.length
          · rw [List.getElem?_append_left hm1] at hm
            exact r2 m y hm
          · rw [List.getElem?_append_right (by omega)] at hm
            have : y ∈ [v] := List.mem_of_getElem? hm
            have e : y = v := by simpa using this
            rw [e]
            exact rv
      · have e : j = xs.length := by omega
        subst e
        exact .inl ⟨(walk_tup (K := K) (a := p) (xs := xs)).stops H (SqT.of (s2 _ _ hp)), s2, zs, e2, by omega, r2⟩
  · have e : i = rs.length := by omega
    subst e
    exact .inl ⟨(walk_tup (K := K) (a := a) (xs := rs)).stops H (SqT.of (s1 _ _ ht)), k ys H s1 e1 l1 r1⟩
theorem strs_all : ∀ {ys : List V}, (∀ (i : Nat) y, ys[i]? = some y → ∃ z, y = .str z) → ∃ zs : List Str, ys = zs.map V.str
  | [], _ => ⟨[], rfl⟩
  | y :: ys, h => by
    obtain ⟨z, rfl⟩ := h 0 y rfl
    obtain ⟨zs, rfl⟩ := strs_all (ys := ys) fun i y hy => h (i + 1) y hy
    exact ⟨z :: zs, rfl⟩
theorem cr_maxK {X : Cx} {K : PySem.W.Frag} (hc : X.calm = true) (hK : X.K = K := by rfl) : CallR X (.builtin "max") (rMax K) := hK ▸ cr_max hc
theorem cr_minK {X : Cx} {K : PySem.W.Frag} (hc : X.calm = true) (hK : X.K = K := by rfl) : CallR X (.builtin "min") (rMin K) := hK ▸ cr_min hc
end MG

/-! != of two tuples that hold the same objects -/
namespace MG
open PySem PySem.Spec PyProof.Rows L2
theorem vals_refs : ∀ {xs : List V} {us us' : List Value}, (∀ x ∈ xs, ∃ a, x = V.ref a) → Vals xs us → Vals xs us' → us = us'
  | [], _, _, _, .nil, .nil => rfl
  | x :: xs, _, _, h, .cons r t, .cons r' t' => by
    obtain ⟨a, rfl⟩ := h x (by simp)
    cases r
    cases r'
    rw [vals_refs (fun y hy => h y (by simp [hy])) t t']
def rNeSame : R2 := fun x y H Q => ∃ (p p' : Addr) (xs : List V), x = .ref p ∧ y = .ref p' ∧ H p = some (.tup xs) ∧ H p' = some (.tup xs) ∧ (∀ v ∈ xs, ∃ a, v = V.ref a) ∧ Q (.bl false) H
section
variable {X : Cx} {k : Nat}
theorem op_neS (hr : Room k X.A) : OpR X (compareOp .NotEq) rNeSame := by
  intro pins s σ H x y v u Q I rx ry h
  obtain ⟨p, p', xs, rfl, rfl, h1, h2, hx, q⟩ := h
  cases rx
  cases ry
  obtain ⟨its, r1, pl1, _⟩ := I.tuple (SqT.of h1)
  obtain ⟨its2, r2, pl2, _⟩ := I.tuple (SqT.of h2)
  obtain rfl := vals_refs hx r1 r2
  have e : (!((List.range (min its.toArray.size its.toArray.size)).all (fun _ => true) && its.toArray.size == its.toArray.size)) = false := by simp
  refine SeqAt.RcNeAt.tuples (e := fun _ => true) pl1 pl2 (Nat.lt_trans (by omega) hr.un) (fun j _ _ => SeqAt.EqAt.same _) X.prog X.w X.xe _ ?_
  rw [e]
  exact ⟨.bl false, H, I, rfl, q⟩
end
end MG

namespace Lw
open PySem PySem.Spec PyProof.Rows L2 MG
abbrev s_InvalidName___init__ : Stmt := inClass (top 7) 0
section
variable {P : Program} {w : World} {K : PySem.W.Frag} {mg : Str → Option Value} {base : Heap} {C CI : Addr}
/-! ### the error -/
abbrev XnC (P : Program) (w : World) (K : PySem.W.Frag) (mg : Str → Option Value) (base : Heap) (CI : Addr) : Prop := ExcF P w K mg base 2 "InvalidName" CI "given"
/-! ### what is whole -/
def WholeAt (K : PySem.W.Frag) (H : Hp) (x : V) (b : Bool) : Prop := ∃ t b1 b2, TyX K H x t ∧ PySem.W.kitOne K t (.type "int") = some b1 ∧ PySem.W.kitOne K t (.type "bool") = some b2 ∧ (b1 && !b2) = b
theorem WholeAt.same {H H' : Hp} {x : V} {b : Bool} (h : WholeAt K H x b) (s : Same H H') : WholeAt K H' x b := by
  obtain ⟨t, b1, b2, h1, h2, h3, h4⟩ := h
  exact ⟨t, b1, b2, MG.TyX.same h1 s, h2, h3, h4⟩
theorem whole_int {H : Hp} (i : Int) : WholeAt K H (.int i) true := ⟨_, true, false, tyx_int i, kit_ty (by decide +kernel), kit_ty (by decide +kernel), rfl⟩
/-- the error that carries x is raised -/
def Rsd (CI : Addr) (H : Hp) (x : V) (E : XK) : Prop := ∀ d H', Same H H' → H d = none → H' d = some (.xd [("given", x)]) → E (.ref CI) (some d) H'
theorem Rsd.same {H H' : Hp} {x : V} {E : XK} (h : Rsd CI H x E) (s : Same H H') : Rsd CI H' x E := fun d H2 s2 n e => h d H2 (s.trans s2) (s.free n) e
/-! ### Ratio.__repr__ within an except suite -/
theorem ok_reprH {f : Addr} {fd : FuncData} (F : Fun K "__repr__" "Ratio.__repr__" s_Ratio___repr__ f fd) (T : TxR K mg C) : L2H.FnH P w K mg base CX0 2 f fd ["self"] (spRepr C) := by
  refine fun_okH F sc_Ratio___repr__ (fun vs H Q E h => ?_) (fun cdv A outer s H vs Q E p hr h => ?_)
  · obtain ⟨r, p, rfl, _⟩ := h
    rfl
  · obtain ⟨r, p, rfl, ⟨d1, e1⟩, sn, sd, k⟩ := h
    refine ⟨_, (pss_one (ps_ret (pe_joined (PJ.cons pe_str (PJ.cons (pe_fmt (pe_fld (pv 0) rfl)) (PJ.cons pe_str (PJ.cons (pe_fmt (pe_fld (pv 0) rfl)) (PJ.cons pe_str PJ.nil)))))))), ?_⟩
    have l1 := txt_len sn
    have l2 := txt_len sd
    have z1 : (("Ratio(" : Str)).length = 6 := rfl
    have z2 : ((", " : Str)).length = 2 := rfl
    have z3 : ((")" : Str)).length = 1 := rfl
    refine ⟨_, rfl, ?_, _, rfl, r, C, d1, _, _, rfl, e1, T.cl, T.nT, flds_top p, .inr ⟨_, rfl, log_sm sn, _, rfl, ?_, _, rfl, ?_, _, rfl, r, C, d1, _, _, rfl, e1, T.cl, T.nB, flds_bottom p, .inr ⟨_, rfl, log_sm sd, _, rfl, ?_, _, rfl, ?_, ?_⟩⟩⟩
    · rw [empty_add]; decide
    · rw [empty_add, strLen_append]; exact Nat.le_trans (m := 4000) (by omega) (by decide)
    · rw [empty_add, strLen_append, strLen_append]; exact Nat.le_trans (m := 4000) (by omega) (by decide)
    · rw [empty_add, strLen_append, strLen_append, strLen_append]; exact Nat.le_trans (m := 4000) (by omega) (by decide)
    · rw [empty_add, strLen_append, strLen_append, strLen_append, strLen_append]; exact Nat.le_trans (m := 4000) (by omega) (by decide)
    · rw [empty_add]; exact k
theorem ownH {f : Addr} {fd : FuncData} {ps : List Str} (at_ : PySem.W.findIn K (.ref C) "__repr__" = some (some (.ref f))) (fn : PySem.W.isFn K (.ref f) = true) (F : L2H.FnH P w K mg base CX0 2 f fd ps (spRepr C)) (b : Binds K fd ps []) : OwnH P w K mg base (ownR C) 2 :=
  ⟨C, f, fd, ps, spRepr C, at_, fn, F, b, fun H a t ⟨p, h, s1, s2, e⟩ => ⟨h.elim fun dx e => ⟨dx, _, e⟩, fun H1 s => ⟨a, p, rfl, h.same s, s1, s2, by rw [e], Same.refl H1⟩⟩⟩
/-! ### things of any kind -/
/-- no int, None, text, tuple, list, dict or truth is a Ratio -/
structure Others (K : PySem.W.Frag) (C : Addr) : Prop where
  is : PySem.W.isClsIn K C = true
  ty : PySem.W.typeIn K (.ref C) = some (.type "type")
  non : PySem.W.subIn K (.type "NoneType") (.ref C) = some false
  str : PySem.W.subIn K (.type "str") (.ref C) = some false
  tup : PySem.W.subIn K (.type "tuple") (.ref C) = some false
  lst : PySem.W.subIn K (.type "list") (.ref C) = some false
  bl : PySem.W.subIn K (.type "bool") (.ref C) = some false
  dict : PySem.W.subIn K (.type "dict") (.ref C) = some false
  sst : PySem.W.subIn K (.ref C) (.type "str") = some false
  stu : PySem.W.subIn K (.ref C) (.type "tuple") = some false
def OddAt (K : PySem.W.Frag) (C : Addr) (H : Hp) (x : V) : Prop := ∃ t b1 b2, TyX K H x t ∧ PySem.W.kitOne K t (.type "int") = some b1 ∧ PySem.W.kitOne K t (.type "bool") = some b2 ∧ (b1 && !b2) = false ∧ PySem.W.kitOne K t (.ref C) = some false
/-- what a value is, for tables -/
inductive Sh where
  | num (p : Rat)
  | oth
  | tup (l : List Sh)
instance : Inhabited Sh := ⟨.oth⟩
def NotT (K : PySem.W.Frag) (H : Hp) (x : V) : Prop := ∃ t, TyX K H x t ∧ PySem.W.kitOne K t (.type "tuple") = some false
inductive ShAt (K : PySem.W.Frag) (C : Addr) (H : Hp) : V → Sh → Prop
  | num {x p} : NumAt C H x p → Bd p 43 → NotT K H x → ShAt K C H x (.num p)
  | oth {x} : OddAt K C H x → NotT K H x → ShAt K C H x .oth
  | tup {a xs ss} : H a = some (.tup xs) → xs.length ≤ 100 → ss.length = xs.length → (∀ (i : Nat) (x : V) (s : Sh), xs[i]? = some x → ss[i]? = some s → ShAt K C H x s) → ShAt K C H (.ref a) (.tup ss)
/-- x at H, shown as t (of at most n signs, containers at most k deep); o what it is -/
structure Thing (K : PySem.W.Frag) (C : Addr) (H : Hp) (x : V) (t : Str) (o : Sh) (n k : Nat) : Prop where
  shw : ∃ as k', Shw K (ownR C) 2 H as k' x t ∧ k' ≤ k ∧ ∀ a ∈ as, H a ≠ none
  len : t.length ≤ n
  asc : Asc t
  kd : ShAt K C H x o
theorem OddAt.same {H H' : Hp} {x : V} (h : OddAt K C H x) (s : Same H H') : OddAt K C H' x := by
  obtain ⟨t, b1, b2, h1, h2⟩ := h
  exact ⟨t, b1, b2, MG.TyX.same h1 s, h2⟩
theorem NotT.same {H H' : Hp} {x : V} (h : NotT K H x) (s : Same H H') : NotT K H' x := h.elim fun t h => ⟨t, MG.TyX.same h.1 s, h.2⟩
theorem ShAt.same {H H' : Hp} {x : V} {o : Sh} (h : ShAt K C H x o) (s : Same H H') : ShAt K C H' x o := by
  induction h with
  | num h b n => exact .num (h.same s) b (n.same s)
  | oth h n => exact .oth (h.same s) (n.same s)
  | tup e l1 l2 _ ih => exact .tup (s _ _ e) l1 l2 ih
theorem Thing.same {H H' : Hp} {x : V} {t : Str} {o : Sh} {n k : Nat} (h : Thing K C H x t o n k) (s : Same H H') : Thing K C H' x t o n k := by
  obtain ⟨⟨as, k', h1, h2, h3⟩, h4, h5, h6⟩ := h
  refine ⟨⟨as, k', Shw.same (fun h s => ownR_same h s) h1 s, h2, fun a ha z => ?_⟩, h4, h5, h6.same s⟩
  cases e : H a with
  | none => exact h3 a ha e
  | some o' => exact nomatch (s _ _ e).symm.trans z
theorem Thing.le {H : Hp} {x : V} {t : Str} {o : Sh} {n k n' k' : Nat} (h : Thing K C H x t o n k) (hn : n ≤ n') (hk : k ≤ k') : Thing K C H x t o n' k' := by
  obtain ⟨⟨as, k1, h1, h2, h3⟩, h4, h5, h6⟩ := h
  exact ⟨⟨as, k1, h1, by omega, h3⟩, by omega, h5, h6⟩
theorem asc_of (s : String) (h : (s.toList.all fun c => decide (32 ≤ c.toNat ∧ c.toNat ≤ 126)) = true) : Asc (Str.ofString s) := by
  intro c hc
  rw [signs_ofString] at hc
  obtain ⟨d, hd, rfl⟩ := List.mem_map.mp hc
  exact of_decide_eq_true (List.all_eq_true.mp h d hd)
theorem asc_int (i : Int) : Asc (Str.ofString (toString i)) := by
  refine asc_of _ (List.all_eq_true.mpr fun c hc => ?_)
  rcases int_sign i c hc with h | h
  · have := digit_range h
    exact decide_eq_true ⟨by omega, by omega⟩
  · rw [h]
    decide
end
end Lw

namespace Lw
open PySem PySem.Spec PyProof.Rows L2 MG
section
variable {P : Program} {w : World} {K : PySem.W.Frag} {mg : Str → Option Value} {base : Heap} {C CI : Addr}
abbrev GreatC (P : Program) (w : World) (K : PySem.W.Frag) (mg : Str → Option Value) (base : Heap) : Prop := CalG P w K mg base 4 "_law_great" spGreat []
/-! ### _law_sign_text -/
def spSign : Sp := fun vs H Q _ => ∃ (q : Addr) (n : Nat), vs = [.ref q] ∧ QAt H q n ∧ n + 1 ≤ 100000 ∧ ∀ (z : Str) (H' : Hp), Asc z → z.length = 1 → Keep q H H' → QAt H' q (n + 1) → Q (.str z) H'
theorem at_str {z : Str} (hz : Asc z) {i : Int} (h0 : 0 ≤ i) (h : i < z.length) : ∃ c, atI z.cps.toList i = some c ∧ 32 ≤ c ∧ c ≤ 126 := by
  obtain ⟨j, rfl⟩ := Int.eq_ofNat_of_zero_le h0
  have hl : z.cps.toList.length = z.length := by simp [Str.length]
  have hj : j < z.cps.toList.length := by omega
  exact ⟨z.cps.toList[j], atI_nat (List.getElem?_eq_getElem hj), hz _ (List.getElem_mem hj)⟩
abbrev SignC (P : Program) (w : World) (K : PySem.W.Frag) (mg : Str → Option Value) (base : Heap) : Prop := CalG P w K mg base 4 "_law_sign_text" spSign []
/-! ### _law_odd -/
theorem shw_same {H H' : Hp} {as : List Addr} {k : Nat} {x : V} {t : Str} (h : Shw K (ownR C) 2 H as k x t) (s : Same H H') : Shw K (ownR C) 2 H' as k x t := Shw.same (own := ownR C) (fun h s => ownR_same h s) h s
def tn : Nat → Nat
  | 0 => 4
  | m + 1 => 1 + 2 * tn m
def sz : Nat → Nat
  | 0 => 400
  | m + 1 => 2 * sz m + 10
theorem tn_ge : ∀ m, 4 ≤ tn m
  | 0 => Nat.le_refl 4
  | m + 1 => by have := tn_ge m; show 4 ≤ 1 + 2 * tn m; omega
theorem sz_ge : ∀ m, 400 ≤ sz m
  | 0 => Nat.le_refl 400
  | m + 1 => by have := sz_ge m; show 400 ≤ 2 * sz m + 10; omega
theorem hid2_keep {q : Addr} {H H' : Hp} (k : Keep q H H') : Same (hid q (ntb H)) (hid q (ntb H')) := fun b o h => by
  have nq : b ≠ q := fun e => by rw [e, hid_self] at h; cases h
  rw [hid_ne nq] at h ⊢
  exact nt_some (k _ _ (nt_of h).1 nq) (nt_of h).2
def spOdd (K : PySem.W.Frag) (C : Addr) : Nat → Sp
  | 0 => fun _ _ _ _ => False
  | m + 1 => fun vs H Q _ => ∃ (q : Addr) (n : Nat), vs = [.ref q, .int m] ∧ QAt H q n ∧ n + tn m ≤ 100000 ∧
      ∀ (x : V) (t : Str) (o : Sh) (H' : Hp), Keep q H H' → QAt H' q (n + tn m) → Thing K C (hid q (ntb H')) x t o (sz m) (2 * m + 2) → Q x H'
theorem QAt.le {H : Hp} {q : Addr} {n n' : Nat} (h : QAt H q n) (hn : n ≤ n') : QAt H q n' := by
  obtain ⟨c, ns, i, r, t, hq, hc, hz, hl, h1, h2, h3⟩ := h
  exact ⟨c, ns, i, r, t, hq, hc, hz, hl, ⟨h1.1, by omega⟩, h2, ⟨h3.1, by omega⟩⟩
section
variable {H : Hp} {n k : Nat}
theorem thing_non (O : Others K C) : Thing K C H .non "None" .oth 400 2 := ⟨⟨[], 2, .non, Nat.le_refl _, nofun⟩, by decide, asc_of _ (by decide +kernel), .oth ⟨_, false, false, .base .non, kit_ty (by decide +kernel), kit_ty (by decide +kernel), rfl, kit_tr O.is O.ty O.non⟩ ⟨_, .base .non, kit_ty (by decide +kernel)⟩⟩
theorem thing_bl (O : Others K C) (b : Bool) : Thing K C H (.bl b) (if b then "True" else "False") .oth 400 2 := ⟨⟨[], 2, .bl b, Nat.le_refl _, nofun⟩, by cases b <;> decide, by cases b <;> exact asc_of _ (by decide +kernel), .oth ⟨_, true, true, .base (.bl b), kit_ty (by decide +kernel), kit_ty (by decide +kernel), rfl, kit_tr O.is O.ty O.bl⟩ ⟨_, .base (.bl b), kit_ty (by decide +kernel)⟩⟩
theorem thing_str (O : Others K C) {z : Str} (hz : Asc z) (hl : z.length ≤ 3) : Thing K C H (.str z) (reprText z) .oth 400 2 := by
  have l := PySem.StrLaws.reprText_len z fun c hc => by have := (hz c hc).2; omega
  exact ⟨⟨[], 2, .str (Nat.le_trans (m := 60) (by omega) (by decide)), Nat.le_refl _, nofun⟩, by omega, asc_repr hz, .oth ⟨_, false, false, .base (.str z), kit_ty (by decide +kernel), kit_ty (by decide +kernel), rfl, kit_tr O.is O.ty O.str⟩ ⟨_, .base (.str z), kit_ty (by decide +kernel)⟩⟩
theorem int_len {i : Int} (h : i.natAbs < 10 ^ 43) : (Str.ofString (toString i)).length ≤ 400 := by
  rw [PySem.ofString_length]
  exact Nat.le_trans (int_text_length_le (k := 150) (by decide) (Nat.lt_of_lt_of_le (PySem.Flt.log2_lt_of (k := 150) (by decide) (Nat.lt_of_lt_of_le h (by decide))) (by decide))) (by decide)
theorem thing_int {i : Int} (h : i.natAbs < 10 ^ 43) : Thing K C H (.int i) (toString i) (.num (Rat.divInt i 1)) 400 2 := by
  have sm : Sm i := sm_of (Nat.lt_of_lt_of_le h (Nat.pow_le_pow_right (by decide) (by decide)))
  exact ⟨⟨[], 2, .int (log_sm sm), Nat.le_refl _, nofun⟩, int_len h, asc_int i, .num (.inr ⟨i, rfl, rfl⟩) (bd_div (by decide) h (by decide)) ⟨_, .base (.int i), kit_ty (by decide +kernel)⟩⟩
theorem thing_rat (O : Others K C) {r : Addr} {p : Rat} (T : TxR K mg C) (h : RatAt C H r p) (b : Bd p 3) : Thing K C H (.ref r) (rt p) (.num p) 400 2 := by
  have sn : Sm p.num := b.num (by decide)
  have sd : Sm (p.den : Int) := b.den (by decide)
  refine ⟨⟨[], 2, .own ⟨p, h, sn, sd, rfl⟩ (Nat.le_refl _), Nat.le_refl _, nofun⟩, ?_, ?_, .num (.inl ⟨r, rfl, h⟩) (b.mono (by decide)) ⟨_, h.tyx T, kit_rt (by decide +kernel) O.stu⟩⟩
  · have l1 : (Str.ofString (toString p.num)).length ≤ 20 := by
      rw [PySem.ofString_length]
      exact Nat.le_trans (int_text_length_le (k := 12) (by decide) (Nat.lt_of_lt_of_le (PySem.Flt.log2_lt_of (k := 12) (by decide) (Nat.lt_of_lt_of_le b.1 (by decide))) (by decide))) (by decide)
    have l2 : (Str.ofString (toString (p.den : Int))).length ≤ 20 := by
      rw [PySem.ofString_length]
      exact Nat.le_trans (int_text_length_le (k := 12) (by decide) (Nat.lt_of_lt_of_le (PySem.Flt.log2_lt_of (k := 12) (by decide) (Nat.lt_of_lt_of_le (show (p.den : Int).natAbs < 10 ^ 3 from b.2) (by decide))) (by decide))) (by decide)
    unfold rt
    rw [strLen_append, strLen_append, strLen_append, strLen_append]
    have e1 : (("Ratio(" : Str)).length = 6 := rfl
    have e2 : ((", " : Str)).length = 2 := rfl
    have e3 : ((")" : Str)).length = 1 := rfl
    omega
  · exact asc_append (asc_append (asc_append (asc_append (asc_of _ (by decide +kernel)) (asc_int _)) (asc_of _ (by decide +kernel))) (asc_int _)) (asc_of _ (by decide +kernel))
theorem asc_join {y : Str} (ay : Asc y) : ∀ {ps : List Str}, (∀ p ∈ ps, Asc p) → Asc (Str.join y ps)
  | [], _ => fun c hc => by cases hc
  | [p], h => h p (by simp)
  | p :: q :: r, h => by
    show Asc (p ++ y ++ Str.join y (q :: r))
    exact asc_append (asc_append (h p (by simp)) ay) (asc_join ay fun x hx => h x (by simp at hx ⊢; rcases hx with h | h <;> simp [h]))
theorem sum_le {n : Nat} : ∀ {ts : List Str}, (∀ t ∈ ts, t.length ≤ n) → (ts.map (·.length)).sum ≤ n * ts.length
  | [], _ => by simp
  | t :: ts, h => by
    have h1 := h t (by simp)
    have h2 : (ts.map (·.length)).sum ≤ n * ts.length := sum_le fun e he => h e (List.mem_cons_of_mem _ he)
    rw [List.map_cons, List.sum_cons, List.length_cons, Nat.mul_succ]
    omega
theorem sel_fn {α : Type} [Inhabited α] {n : Nat} {P : Nat → α → Prop} (h : ∀ i, i < n → ∃ q, P i q) : ∃ g : Nat → α, ∀ i, i < n → P i (g i) := by
  classical
  exact ⟨fun i => if hi : i < n then (h i hi).choose else default, fun i hi => by simp only [dif_pos hi]; exact (h i hi).choose_spec⟩
/-- a tuple of things -/
theorem thing_tup {a : Addr} {xs : List V} {ts : List Str} {ss : List Sh} {n k : Nat} (e : H a = some (.tup xs)) (hl : xs.length ≤ 100) (l1 : ts.length = xs.length) (l2 : ss.length = xs.length)
    (h : ∀ (i : Nat) (x : V) (t : Str) (o : Sh), xs[i]? = some x → ts[i]? = some t → ss[i]? = some o → ∃ H0, H0 a = none ∧ Same H0 H ∧ Thing K C H0 x t o n k) : Thing K C H (.ref a) (tupleText ts) (.tup ss) ((n + 2) * xs.length + 3) (k + 2) := by
  have at_ : ∀ i, i < xs.length → ∃ x t o, xs[i]? = some x ∧ ts[i]? = some t ∧ ss[i]? = some o ∧ ∃ H0, H0 a = none ∧ Same H0 H ∧ Thing K C H0 x t o n k := fun i hi => by
    have e1 := List.getElem?_eq_getElem hi
    have e2 := List.getElem?_eq_getElem (l := ts) (i := i) (by omega)
    have e3 := List.getElem?_eq_getElem (l := ss) (i := i) (by omega)
    exact ⟨_, _, _, e1, e2, e3, h i _ _ _ e1 e2 e3⟩
  obtain ⟨g, hg⟩ := sel_fn (α := List Addr) (n := xs.length) (P := fun i as => ∃ x t o, xs[i]? = some x ∧ ts[i]? = some t ∧ ss[i]? = some o ∧ Shw K (ownR C) 2 H as k x t ∧ a ∉ as ∧ (∀ b ∈ as, H b ≠ none) ∧ t.length ≤ n ∧ Asc t ∧ ShAt K C H x o) fun i hi => by
    obtain ⟨x, t, o, e1, e2, e3, H0, n0, s0, ⟨as, k', h1, h2, h3⟩, h4, h5, h6⟩ := at_ i hi
    refine ⟨as, x, t, o, e1, e2, e3, (shw_same h1 s0).more (fun _ h => h) h2, fun z => h3 _ z n0, fun b hb z => ?_, h4, h5, h6.same s0⟩
    cases q : H0 b with
    | none => exact h3 b hb q
    | some o' => exact nomatch (s0 _ _ q).symm.trans z
  have tsP : ∀ t ∈ ts, t.length ≤ n ∧ Asc t := fun t ht => by
    obtain ⟨i, hi⟩ := List.getElem?_of_mem ht
    obtain ⟨x, t', o, e1, e2, e3, _, _, _, h4, h5, _⟩ := hg i (by rw [← l1]; exact (List.getElem?_eq_some_iff.mp hi).1)
    obtain rfl := Option.some.inj (e2.symm.trans hi)
    exact ⟨h4, h5⟩
  refine ⟨⟨a :: (List.range xs.length).flatMap g, k + 2, .tuple (as := (List.range xs.length).flatMap g) (k := k) (SqT.of e) (fun z => ?_) l1 (fun i y u e1 e2 => ?_) (fun b hb => hb) (Nat.le_refl _), Nat.le_refl _, fun b hb => ?_⟩, ?_, ?_, .tup e hl l2 fun i x o e1 e3 => ?_⟩
  · obtain ⟨i, hi, hz⟩ := List.mem_flatMap.mp z
    obtain ⟨_, _, _, _, _, _, _, n1, _⟩ := hg i (List.mem_range.mp hi)
    exact n1 hz
  · have hi := (List.getElem?_eq_some_iff.mp e1).1
    obtain ⟨x, t, o, f1, f2, f3, hs, _⟩ := hg i hi
    obtain rfl := Option.some.inj (e1.symm.trans f1)
    obtain rfl := Option.some.inj (e2.symm.trans f2)
    exact hs.more (fun c hc => List.mem_flatMap.mpr ⟨i, List.mem_range.mpr hi, hc⟩) (Nat.le_refl _)
  · rcases List.mem_cons.mp hb with rfl | hb
    · rw [e]; exact nofun
    · obtain ⟨i, hi, hz⟩ := List.mem_flatMap.mp hb
      obtain ⟨_, _, _, _, _, _, _, _, n2, _⟩ := hg i (List.mem_range.mp hi)
      exact n2 b hz
  · have h1 := sum_le fun t ht => (tsP t ht).1
    have h2 := tupleText_len_le ts
    rw [l1] at h1 h2
    rw [Nat.add_mul]
    omega
  · unfold tupleText
    refine asc_append (asc_append (asc_of _ (by decide +kernel)) (asc_join (asc_of _ (by decide +kernel)) fun t ht => (tsP t ht).2)) ?_
    split <;> exact asc_of _ (by decide +kernel)
  · have hi := (List.getElem?_eq_some_iff.mp e1).1
    obtain ⟨x', t, o', f1, f2, f3, _, _, _, _, _, hk⟩ := hg i hi
    obtain rfl := Option.some.inj (e1.symm.trans f1)
    obtain rfl := Option.some.inj (e3.symm.trans f3)
    exact hk
theorem thing_tup0 (O : Others K C) {a : Addr} (h : H a = some (.tup [])) : Thing K C H (.ref a) (tupleText []) (.tup []) 400 2 :=
  (thing_tup (K := K) (C := C) (n := 0) (k := 0) (ts := []) (ss := []) h (by decide) rfl rfl fun i x t o e => by simp at e).le (by decide) (by decide)
theorem thing_list0 (O : Others K C) {a : Addr} (h : H a = some (.lst [])) : Thing K C H (.ref a) "[]" .oth 400 2 :=
  ⟨⟨[], 2, .list0 (SqL.of h), Nat.le_refl _, nofun⟩, by decide, asc_of "[]" (by decide +kernel), .oth ⟨_, false, false, .base (.lst h), kit_ty (by decide +kernel), kit_ty (by decide +kernel), rfl, kit_tr O.is O.ty O.lst⟩ ⟨_, .base (.lst h), kit_ty (by decide +kernel)⟩⟩
def but (a : Addr) (H : Hp) : Hp := fun b => if b = a then none else H b
theorem but_same (a : Addr) (H : Hp) : Same (but a H) H := fun b o h => by
  unfold but at h
  split at h
  · cases h
  · exact h
theorem thing_dict0 (O : Others K C) {a : Addr} (h : H a = some (.dK [])) : Thing K C H (.ref a) (dictText (kvTxts [] [])) .oth 400 2 :=
  ⟨⟨[a], 2, .dict (H0 := but a H) (as := []) (k := 0) (vts := []) (if_pos rfl) h (but_same a H) nofun rfl (fun i kv h1 => by simp at h1) (fun i kv v h1 _ => by simp at h1) (fun b hb => hb) (Nat.le_refl _), Nat.le_refl _, fun b hb z => by
    have e : b = a := by simpa using hb
    rw [e, h] at z; cases z⟩, by decide, asc_of "{}" (by decide +kernel), .oth ⟨_, false, false, .base (.dK h), kit_ty (by decide +kernel), kit_ty (by decide +kernel), rfl, kit_tr O.is O.ty O.dict⟩ ⟨_, .base (.dK h), kit_ty (by decide +kernel)⟩⟩
/-- a container of one thing -/
theorem tupleText_one (t : Str) : tupleText [t] = ("(" : Str) ++ t ++ (",)" : Str) := by
  unfold tupleText
  rw [join_one]
  rfl
theorem thing_tup1 (O : Others K C) {a : Addr} {x : V} {t : Str} {o : Sh} {n k : Nat} (h : Thing K C H x t o n k) (hn : H a = none) {H' : Hp} (s : Same H H') (e : H' a = some (.tup [x])) : Thing K C H' (.ref a) (tupleText [t]) (.tup [o]) (2 * n + 10) (k + 2) :=
  (thing_tup (K := K) (C := C) (n := n) (k := k) (ts := [t]) (ss := [o]) e (by simp) rfl rfl fun i y u v e1 e2 e3 => by
    match i, e1, e2, e3 with
    | 0, e1, e2, e3 =>
      obtain rfl : x = y := Option.some.inj e1
      obtain rfl : t = u := Option.some.inj e2
      obtain rfl : o = v := Option.some.inj e3
      exact ⟨H, hn, s, h⟩).le (by simp; omega) (Nat.le_refl _)
theorem listText_one (t : Str) : listText [t] = ("[" : Str) ++ t ++ ("]" : Str) := rfl
theorem thing_list1 (O : Others K C) {a : Addr} {x : V} {t : Str} {o : Sh} {n k : Nat} (h : Thing K C H x t o n k) (hn : H a = none) {H' : Hp} (s : Same H H') (e : H' a = some (.lst [x])) : Thing K C H' (.ref a) (listText [t]) .oth (2 * n + 10) (k + 2) := by
  obtain ⟨⟨as, k1, h1, h2, h3⟩, h4, h5, h6⟩ := h
  refine ⟨⟨a :: as, k1 + 2, .list (as := as) (k := k1) (SqL.of e) (fun z => h3 a z hn) rfl (fun i y u e1 e2 => ?_) (fun b hb => hb) (Nat.le_refl _), by omega, fun b hb z => ?_⟩, ?_, ?_, .oth ⟨_, false, false, .base (.lst e), kit_ty (by decide +kernel), kit_ty (by decide +kernel), rfl, kit_tr O.is O.ty O.lst⟩ ⟨_, .base (.lst e), kit_ty (by decide +kernel)⟩⟩
  · match i, e1, e2 with
    | 0, e1, e2 =>
      obtain rfl : x = y := Option.some.inj e1
      obtain rfl : t = u := Option.some.inj e2
      exact shw_same h1 s
  · rcases List.mem_cons.mp hb with rfl | hb
    · rw [e] at z; cases z
    · cases q : H b with
      | none => exact h3 b hb q
      | some o' => exact nomatch (s _ _ q).symm.trans z
  · rw [listText_one, strLen_append, strLen_append]
    have e1 : (("[" : Str)).length = 1 := rfl
    have e2 : (("]" : Str)).length = 1 := rfl
    omega
  · rw [listText_one]
    exact asc_append (asc_append (asc_of _ (by decide +kernel)) h5) (asc_of _ (by decide +kernel))
theorem tupleText_two (t u : Str) : tupleText [t, u] = ("(" : Str) ++ (t ++ (", " : Str) ++ u) ++ (")" : Str) := by
  unfold tupleText
  rw [join_cons_cons, join_one]
  rfl
theorem thing_tup2 (O : Others K C) {a : Addr} {x y : V} {t u : Str} {o o' : Sh} {n k : Nat} (h : Thing K C H x t o n k) (g : Thing K C H y u o' n k) (hn : H a = none) {H' : Hp} (s : Same H H') (e : H' a = some (.tup [x, y])) : Thing K C H' (.ref a) (tupleText [t, u]) (.tup [o, o']) (2 * n + 10) (k + 2) :=
  (thing_tup (K := K) (C := C) (n := n) (k := k) (ts := [t, u]) (ss := [o, o']) e (by simp) rfl rfl fun i z v w e1 e2 e3 => by
    match i, e1, e2, e3 with
    | 0, e1, e2, e3 =>
      obtain rfl : x = z := Option.some.inj e1
      obtain rfl : t = v := Option.some.inj e2
      obtain rfl : o = w := Option.some.inj e3
      exact ⟨H, hn, s, h⟩
    | 1, e1, e2, e3 =>
      obtain rfl : y = z := Option.some.inj e1
      obtain rfl : u = v := Option.some.inj e2
      obtain rfl : o' = w := Option.some.inj e3
      exact ⟨H, hn, s, g⟩).le (by simp; omega) (Nat.le_refl _)
theorem dictText_one (t : Str) : dictText (kvTxts [(Sum.inr "a", (V.non))] [t]) = ("{" : Str) ++ (reprText "a" ++ (": " : Str) ++ t) ++ ("}" : Str) := by
  unfold dictText kvTxts
  rw [List.zipWith_cons_cons, List.zipWith_nil_left, join_one]
  rfl
theorem thing_dict1 (O : Others K C) {a : Addr} {x : V} {t : Str} {o : Sh} {n k : Nat} (h : Thing K C H x t o n k) (hn : H a = none) {H' : Hp} (s : Same H H') (e : H' a = some (.dK [(Sum.inr "a", x)])) : Thing K C H' (.ref a) (dictText (kvTxts [(Sum.inr "a", V.non)] [t])) .oth (2 * n + 10) (k + 2) := by
  obtain ⟨⟨as, k1, h1, h2, h3⟩, h4, h5, h6⟩ := h
  have la : (reprText "a").length = 3 := by decide +kernel
  have e0 : kvTxts [(Sum.inr "a", V.non)] [t] = kvTxts [(Sum.inr "a", x)] [t] := rfl
  refine ⟨⟨a :: as, k1 + 2, ?_, by omega, fun b hb z => ?_⟩, ?_, ?_, .oth ⟨_, false, false, .base (.dK e), kit_ty (by decide +kernel), kit_ty (by decide +kernel), rfl, kit_tr O.is O.ty O.dict⟩ ⟨_, .base (.dK e), kit_ty (by decide +kernel)⟩⟩
  · rw [e0]
    refine .dict (H0 := H) (as := as) (k := k1) (vts := [t]) hn e s (fun z => h3 a z hn) rfl (fun i kv e1 => ?_) (fun i kv v e1 e2 => ?_) (fun b hb => hb) (Nat.le_refl _)
    · match i, e1 with
      | 0, e1 =>
        obtain rfl := Option.some.inj e1
        show (reprText "a").length ≤ sizeLine
        rw [la]
        decide
    · match i, e1, e2 with
      | 0, e1, e2 =>
        obtain rfl := Option.some.inj e1
        obtain rfl : t = v := Option.some.inj e2
        exact h1
  · rcases List.mem_cons.mp hb with rfl | hb
    · rw [e] at z; cases z
    · cases q : H b with
      | none => exact h3 b hb q
      | some o' => exact nomatch (s _ _ q).symm.trans z
  · rw [dictText_one, strLen_append, strLen_append, strLen_append, strLen_append]
    have e1 : (("{" : Str)).length = 1 := rfl
    have e2 : (("}" : Str)).length = 1 := rfl
    have e3 : ((": " : Str)).length = 2 := rfl
    omega
  · rw [dictText_one]
    exact asc_append (asc_append (asc_of _ (by decide +kernel)) (asc_append (asc_append (asc_repr (asc_of "a" (by decide +kernel))) (asc_of _ (by decide +kernel))) h5)) (asc_of _ (by decide +kernel))
end
end
end Lw

namespace Lw
open PySem PySem.Spec PyProof.Rows L2 MG

section
variable {P : Program} {w : World} {K : PySem.W.Frag} {mg : Str → Option Value} {base : Heap} {C CI : Addr}
theorem ifF {b : Bool} {A B : Prop} (e : b = false) (h : B) : if b = true then A else B := by rw [e]; exact iteF h
theorem ifT {b : Bool} {A B : Prop} (e : b = true) (h : A) : if b = true then A else B := by rw [e]; exact iteT h
theorem smI {i : Int} {k : Nat} (h : i.natAbs < 10 ^ k) (hk : k ≤ 390) : Sm i := by
  have := nab h
  rw [Int.natCast_pow] at this
  exact sm_lt (k := k) (by omega) this.1 this.2
theorem made_same {H H' : Hp} {x dx : Addr} (hx : H x = none) (hdx : H dx = none) (kp : ∀ c o, (upd (upd H dx (.own x)) x (.ins C dx [])) c = some o → c ≠ x → H' c = some o) : Same H H' := fun c o hc => by
  have n1 := ne_of_none hc hx
  have n2 := ne_of_none hc hdx
  exact kp c o (by rw [upd_ne n1, upd_ne n2]; exact hc) n1
abbrev LowC (P : Program) (w : World) (K : PySem.W.Frag) (mg : Str → Option Value) (base : Heap) : Prop := CalG P w K mg base 4 "_law_lowest" spLowest []
/-- the pair of a fraction -/
def pr (p : Rat) : List V := [.int p.num, .int p.den]
def spDigits (K : PySem.W.Frag) : Sp := fun vs H Q _ => ∃ (t : Addr) (p : Rat), vs = [.ref t] ∧ SqT K H t (pr p) ∧ Sm p.num ∧ Sm (p.den : Int) ∧ Q (.str (dg p)) H
abbrev DigitsC (P : Program) (w : World) (K : PySem.W.Frag) (mg : Str → Option Value) (base : Heap) : Prop := CalG P w K mg base 2 "_law_digits" (spDigits K) []
/-! ### the law's own is_whole, is_digit -/
def spLW (K : PySem.W.Frag) : Sp := fun vs H Q _ => ∃ (x : V) (b : Bool), vs = [x] ∧ WholeAt K H x b ∧ Q (.bl b) H
abbrev LWC (P : Program) (w : World) (K : PySem.W.Frag) (mg : Str → Option Value) (base : Heap) : Prop := CalG P w K mg base 2 "_law_is_whole" (spLW K) []
/-- is x a number -/
def DigAt (K : PySem.W.Frag) (C : Addr) (H : Hp) (x : V) (b : Bool) : Prop := ∃ t b1 b2 b3, TyX K H x t ∧ PySem.W.kitOne K t (.type "int") = some b1 ∧ PySem.W.kitOne K t (.type "bool") = some b2 ∧ PySem.W.kitOne K t (.ref C) = some b3 ∧ ((b1 && !b2) || b3) = b
def spLD (K : PySem.W.Frag) (C : Addr) : Sp := fun vs H Q _ => ∃ (x : V) (b : Bool), vs = [x] ∧ DigAt K C H x b ∧ Q (.bl b) H
abbrev LDC (P : Program) (w : World) (K : PySem.W.Frag) (mg : Str → Option Value) (base : Heap) (C : Addr) : Prop := CalG P w K mg base 4 "_law_is_digit" (spLD K C) []
end
end Lw

namespace Lw
open PySem PySem.Spec PyProof.Rows L2 MG
abbrev s_is_table : Stmt := top 39
abbrev s_Matrix___init__ : Stmt := inClass (top 43) 0
abbrev s_InvalidEntries___init__ : Stmt := inClass (top 5) 0
/-- what the top says of the class Matrix, at CM -/
structure TxM (K : PySem.W.Frag) (mg : Str → Option Value) (C CM : Addr) : Prop extends TxR K mg C where
  clM : Cls K CM
  nE : NoAttr K CM "_entries"
  g_Matrix : mg "Matrix" = some (.ref CM)
  g_lcm : mg "lcm" = some (.builtin "math.lcm")
  caM : PySem.W.findIn K (.ref CM) "__class__" = some (some (.builtin "object.__class__"))
  cmM : PySem.W.mroIn K CM (.type "object") = some true
  kMM : PySem.W.kitOne K (.ref CM) (.ref CM) = some true
  kMR : PySem.W.kitOne K (.ref CM) (.ref C) = some false
  kRM : PySem.W.kitOne K (.ref C) (.ref CM) = some false
  kMI : PySem.W.kitOne K (.ref CM) (.type "int") = some false
  kMB : PySem.W.kitOne K (.ref CM) (.type "bool") = some false
  kIM : PySem.W.kitOne K (.type "int") (.ref CM) = some false
/-! ### tables of numbers in the heap -/
abbrev CellP := Hp → V → Rat → Prop
/-- a Ratio -/
def RC (C : Addr) : CellP := fun H y q => ∃ a, y = .ref a ∧ RatAt C H a q
def Rw (P : CellP) (H : Hp) (x : V) (c : Nat) (g : Nat → Rat) : Prop := ∃ p xs, x = .ref p ∧ H p = some (.tup xs) ∧ xs.length = c ∧ ∀ (j : Nat) (y : V), xs[j]? = some y → P H y (g j)
def Tb (P : CellP) (H : Hp) (t : Addr) (r c : Nat) (f : Nat → Nat → Rat) : Prop := ∃ rs, H t = some (.tup rs) ∧ rs.length = r ∧ ∀ (i : Nat) (x : V), rs[i]? = some x → Rw P H x c (f i)
structure Mono (P : CellP) : Prop where
  same : ∀ {H H' : Hp} {y : V} {q : Rat}, P H y q → Same H H' → P H' y q
  hid : ∀ {H : Hp} {y : V} {q : Rat} {D : Addr} {l : List V}, P H y q → H D = some (.lst l) → P (hid D H) y q
theorem rc_mono (C : Addr) : Mono (RC C) := ⟨fun ⟨a, e, h⟩ s => ⟨a, e, h.same s⟩, fun {H y q D l} ⟨a, e, dx, h⟩ hD => ⟨a, e, dx, by rw [hid_ne (ne_of h hD (by intro z; cases z))]; exact h⟩⟩
theorem num_mono (C : Addr) : Mono (NumAt C) := ⟨fun h s => h.same s, fun {H y q D l} h hD => by
  rcases h with ⟨a, e, h⟩ | h
  · obtain ⟨b, e', h'⟩ := (rc_mono C).hid ⟨a, e, h⟩ hD
    exact .inl ⟨b, e', h'⟩
  · exact .inr h⟩
theorem RC.num {C : Addr} {H : Hp} {y : V} {q : Rat} (h : RC C H y q) : NumAt C H y q := h.elim fun a ⟨e, h⟩ => .inl ⟨a, e, h⟩
section
variable {P : CellP} {H H' : Hp} {x : V} {t D : Addr} {r c : Nat} {g g' : Nat → Rat} {f f' : Nat → Nat → Rat} {l : List V}
theorem Rw.same (m : Mono P) (h : Rw P H x c g) (s : Same H H') : Rw P H' x c g := by
  obtain ⟨p, xs, e, hp, hl, hc⟩ := h
  exact ⟨p, xs, e, s _ _ hp, hl, fun j y hy => m.same (hc j y hy) s⟩
theorem Rw.hid (m : Mono P) (h : Rw P H x c g) (hD : H D = some (.lst l)) : Rw P (hid D H) x c g := by
  obtain ⟨p, xs, e, hp, hl, hc⟩ := h
  exact ⟨p, xs, e, by rw [hid_ne (ne_of hp hD (by intro z; cases z))]; exact hp, hl, fun j y hy => m.hid (hc j y hy) hD⟩
theorem Rw.congr (h : Rw P H x c g) (e : ∀ j, j < c → g j = g' j) : Rw P H x c g' := by
  obtain ⟨p, xs, e', hp, hl, hc⟩ := h
  refine ⟨p, xs, e', hp, hl, fun j y hy => ?_⟩
  rw [← e j (by have := (List.getElem?_eq_some_iff.mp hy).1; omega)]
  exact hc j y hy
theorem Tb.same (m : Mono P) (h : Tb P H t r c f) (s : Same H H') : Tb P H' t r c f := by
  obtain ⟨rs, ht, hl, hc⟩ := h
  exact ⟨rs, s _ _ ht, hl, fun i x hx => (hc i x hx).same m s⟩
theorem Tb.hid (m : Mono P) (h : Tb P H t r c f) (hD : H D = some (.lst l)) : Tb P (hid D H) t r c f := by
  obtain ⟨rs, ht, hl, hc⟩ := h
  exact ⟨rs, by rw [hid_ne (ne_of ht hD (by intro z; cases z))]; exact ht, hl, fun i x hx => (hc i x hx).hid m hD⟩
theorem Tb.congr (h : Tb P H t r c f) (e : ∀ i j, i < r → j < c → f i j = f' i j) : Tb P H t r c f' := by
  obtain ⟨rs, ht, hl, hc⟩ := h
  exact ⟨rs, ht, hl, fun i x hx => (hc i x hx).congr fun j hj => e i j (by have := (List.getElem?_eq_some_iff.mp hx).1; omega) hj⟩
theorem Tb.imp {P' : CellP} (i : ∀ {H y q}, P H y q → P' H y q) (h : Tb P H t r c f) : Tb P' H t r c f := by
  obtain ⟨rs, ht, hl, hc⟩ := h
  refine ⟨rs, ht, hl, fun k x hx => ?_⟩
  obtain ⟨p, xs, e, hp, hl, hc⟩ := hc k x hx
  exact ⟨p, xs, e, hp, hl, fun j y hy => i (hc j y hy)⟩
end
/-- a Matrix stands at a -/
def mfl (t : Addr) : List (Str × V) := [("_entries", .ref t)]
def MtAt (C CM : Addr) (H : Hp) (a : Addr) (r c : Nat) (f : Nat → Nat → Rat) : Prop := ∃ dx t, H a = some (.ins CM dx (mfl t)) ∧ Tb (RC C) H t r c f
theorem MtAt.same {C CM : Addr} {H H' : Hp} {a : Addr} {r c : Nat} {f : Nat → Nat → Rat} (h : MtAt C CM H a r c f) (s : Same H H') : MtAt C CM H' a r c f := by
  obtain ⟨dx, t, e, h⟩ := h
  exact ⟨dx, t, s _ _ e, h.same (rc_mono C) s⟩
theorem MtAt.hid {C CM : Addr} {H : Hp} {a D : Addr} {r c : Nat} {f : Nat → Nat → Rat} {l : List V} (h : MtAt C CM H a r c f) (hD : H D = some (.lst l)) : MtAt C CM (hid D H) a r c f := by
  obtain ⟨dx, t, e, h⟩ := h
  exact ⟨dx, t, by rw [hid_ne (ne_of e hD (by intro z; cases z))]; exact e, h.hid (rc_mono C) hD⟩
theorem MtAt.congr {C CM : Addr} {H : Hp} {a : Addr} {r c : Nat} {f f' : Nat → Nat → Rat} (h : MtAt C CM H a r c f) (e : ∀ i j, i < r → j < c → f i j = f' i j) : MtAt C CM H a r c f' := by
  obtain ⟨dx, t, e', h⟩ := h
  exact ⟨dx, t, e', h.congr e⟩
theorem MtAt.tyx {K : PySem.W.Frag} {mg : Str → Option Value} {C CM : Addr} {H : Hp} {a : Addr} {r c : Nat} {f : Nat → Nat → Rat} (T : TxM K mg C CM) (h : MtAt C CM H a r c f) : TyX K H (.ref a) (.ref CM) :=
  h.elim fun dx ⟨t, e, _⟩ => .base (.ins e T.clM T.caM T.cn T.ct T.cmM)
theorem mfl_at (t : Addr) : (mfl t).lookup ("_entries" : Str) = some (.ref t) := by simp [mfl, List.lookup]
section
variable {P : Program} {w : World} {K : PySem.W.Frag} {mg : Str → Option Value} {base : Heap} {C CM : Addr}
/-! ### is_table, of anything -/
theorem FnOk.imp {CX : CXT} {k : Nat} {f : Addr} {fd : FuncData} {ps : List Str} {sp sp' : Sp} (F : FnOk P w K mg base CX k f fd ps sp) (h : ∀ vs H Q E, sp' vs H Q E → sp vs H Q E) : FnOk P w K mg base CX k f fd ps sp' :=
  ⟨fun vs H Q E q => F.len vs H Q E (h vs H Q E q), fun A outer s H args us vs Q E hr e hb r q => F.run A outer s H args us vs Q E hr e hb r (h vs H Q E q)⟩
def Shape (H : Hp) (t : Addr) (r c : Nat) : Prop := ∃ rs : List V, H t = some (.tup rs) ∧ rs.length = r ∧ ∀ (i : Nat) (x : V), rs[i]? = some x → ∃ p xs, x = .ref p ∧ H p = some (.tup xs) ∧ xs.length = c
theorem Tb.shape {Q : CellP} {H : Hp} {t : Addr} {r c : Nat} {f : Nat → Nat → Rat} (h : Tb Q H t r c f) : Shape H t r c := by
  obtain ⟨rs, ht, hl, hc⟩ := h
  refine ⟨rs, ht, hl, fun i x hx => ?_⟩
  obtain ⟨p, xs, e, hp, hl, _⟩ := hc i x hx
  exact ⟨p, xs, e, hp, hl⟩
/-- the length of a tuple; none: no tuple -/
def RowK (K : PySem.W.Frag) (H : Hp) (x : V) (o : Option Nat) : Prop := (∃ p xs, x = .ref p ∧ H p = some (.tup xs) ∧ o = some xs.length) ∨ (NotT K H x ∧ o = none)
def WholeK (K : PySem.W.Frag) (H : Hp) (x : V) (o : Option (List (Option Nat))) : Prop :=
  (∃ (a : Addr) (xs : List V) (ns : List (Option Nat)), x = .ref a ∧ o = some ns ∧ H a = some (.tup xs) ∧ xs.length ≤ 1000 ∧ ns.length = xs.length ∧ ∀ (i : Nat) (y : V) (z : Option Nat), xs[i]? = some y → ns[i]? = some z → RowK K H y z) ∨ (NotT K H x ∧ o = none)
def B1 (ns : List (Option Nat)) : Bool := ns.all fun o => decide (1 ≤ o.getD 0)
def B2 (ns : List (Option Nat)) : Bool := ns.all fun o => decide (o.getD 0 = (ns.headD none).getD 0)
def tabW : Option (List (Option Nat)) → Bool
  | none => false
  | some ns => decide (1 ≤ ns.length) && (B1 ns && B2 ns)
theorem tabW_some (ns : List (Option Nat)) : tabW (some ns) = (decide (1 ≤ ns.length) && (B1 ns && B2 ns)) := rfl
theorem RowK.same {H H' : Hp} {x : V} {o : Option Nat} (h : RowK K H x o) (s : Same H H') : RowK K H' x o := by
  rcases h with ⟨p, xs, e, hp, ho⟩ | ⟨h, e⟩
  · exact .inl ⟨p, xs, e, s _ _ hp, ho⟩
  · exact .inr ⟨h.same s, e⟩
def spIstabW (K : PySem.W.Frag) : Sp := fun vs H Q _ => ∃ (x : V) (o : Option (List (Option Nat))), vs = [x] ∧ WholeK K H x o ∧ ∀ H', Same H H' → Q (.bl (tabW o)) H'
theorem sc_is_table : FnScope ["given", "row"] ["given"] (defScope s_is_table) := ⟨rfl, rfl, rfl, by decide +kernel, rfl, by decide +kernel, by decide +kernel⟩
theorem ok_istab {f : Addr} {fd : FuncData} (F : Fun K "is_table" "is_table" s_is_table f fd) (T : Blt mg) : FnOk P w K mg base CX0 2 f fd ["given"] (spIstabW K) := by
  refine F.ok sc_is_table (fun vs H Q E h => ?_) (fun cdv A outer s H vs Q E hr h => ?_)
  · obtain ⟨t, ns, rfl, _⟩ := h
    rfl
  · obtain ⟨x, o, rfl, hw, k⟩ := h
    refine ⟨_, (pss_cons (ps_if (pt_not (PW.pt (pw_and (pt_val (pe_callB (id := "isinstance") (call_isiK (K := K)) (by rfl) T.b_isinstance (by decide +kernel) (pa_cons (pv 0) (pa_cons (pe_bltn (v := V.ty "tuple") (u := Value.type "tuple") (by rfl) T.b_tuple (by decide +kernel) rfl) pa_nil)))) (pw_and1 (pt_cmpR op_ge (pe_callB (id := "len") (call_len_seqK (K := K)) (by rfl) T.b_len (by decide +kernel) (pa_cons (pv 0) pa_nil)) pe_int (nomark _)))))) (pss_one (ps_ret pe_bl))
  pss_nil)
  (pss_cons (ps_if (pt_not (pt_val (pe_callB (id := "all") (cr_allK (K := K) rfl) (by rfl) T.b_all (by decide +kernel) (pa_cons (pe_lcI (pe_lc (own := [("row", 1)]) rfl sc_is_table.nd (pi_tupK (K := K) (pv 0)) (blkOk_by (N := ["given", "row"]) (sc := (defScope s_is_table)) (by decide +kernel)) (fun _ _ _ _ _ => (pg_name (i := 1) sc_is_table.nd rfl (Or.inl rfl))) (fun _ _ _ _ _ => pts_nil) (fun _ _ _ _ _ => (pe_cut (pe_and (pe_callB (id := "isinstance") (call_isiK (K := K)) (by rfl) T.b_isinstance (by decide +kernel) (pa_cons (pv 1) (pa_cons (pe_bltn (v := V.ty "tuple") (u := Value.type "tuple") (by rfl) T.b_tuple (by decide +kernel) rfl) pa_nil))) (pe_one (pe_cmpR op_ge (pe_callB (id := "len") (call_len_seqK (K := K)) (by rfl) T.b_len (by decide +kernel) (pa_cons (pv 1) pa_nil)) pe_int (nomark _)))))))) pa_nil)))) (pss_one (ps_ret pe_bl))
  pss_nil)
  (pss_one (ps_ret (pe_callB (id := "all") (cr_allK (K := K) rfl) (by rfl) T.b_all (by decide +kernel) (pa_cons (pe_lcI (pe_lc (own := [("row", 1)]) rfl sc_is_table.nd (pi_tupK (K := K) (pv 0)) (blkOk_by (N := ["given", "row"]) (sc := (defScope s_is_table)) (by decide +kernel)) (fun _ _ _ _ _ => (pg_name (i := 1) sc_is_table.nd rfl (Or.inl rfl))) (fun _ _ _ _ _ => pts_nil) (fun _ _ _ _ _ => (pe_cut (pe_cmpR op_eq (pe_callB (id := "len") (call_len_seqK (K := K)) (by rfl) T.b_len (by decide +kernel) (pa_cons (pv 1) pa_nil)) (pe_callB (id := "len") (call_len_seqK (K := K)) (by rfl) T.b_len (by decide +kernel) (pa_cons (pe_ix (ix_tupK (K := K)) (pv 0) pe_int (fun _ _ => rfl)) pa_nil)) (nomark _)))))) pa_nil)))))), ?_⟩
    rcases hw with ⟨t, rs, ns, rfl, rfl, ht, hr1, hl, hrow⟩ | ⟨⟨ty, h1, h2⟩, rfl⟩
    rotate_left
    · refine ⟨_, rfl, x, _, _, _, _, rfl, .ty "tuple", h1, h2, _, rfl, iteF ?_⟩
      exact k H (Same.refl H)
    have rowAt : ∀ i x, rs[i]? = some x → ∃ z, ns[i]? = some z ∧ RowK K H x z := fun i x hx => by
      have hi := (List.getElem?_eq_some_iff.mp hx).1
      have e := List.getElem?_eq_getElem (l := ns) (i := i) (by omega)
      exact ⟨_, e, hrow i x _ hx e⟩
    have no : ∀ H', Same H H' → tabW (some ns) = false → Q (.bl false) H' := fun H' s e => by rw [← e]; exact k H' s
    -- if not (isinstance(given, tuple) and len(given) >= 1)
    refine ⟨_, rfl, .ref t, _, _, _, _, rfl, .ty "tuple", .base (.tup ht), kit_ty (by decide +kernel), _, rfl, iteT ?_⟩
    refine ⟨_, rfl, t, rs, rfl, .inr (SqT.of ht), _, _, rfl, rfl, _, rfl, ?_⟩
    by_cases h0 : 1 ≤ rs.length
    rotate_left
    · exact ifT (by simp; omega) (no H (Same.refl H) (by rw [tabW_some, decide_eq_false (by omega)]; rfl))
    refine ifF (by simp; omega) ?_
    -- if not all([isinstance(row, tuple) and len(row) >= 1 for row in given])
    refine ⟨_, rfl, t, rfl, ⟨rs, SqT.of ht⟩, fun D hD => ?_⟩
    refine lc_same (walk_tup (K := K) (a := t) (xs := rs)) hD (by omega) (fun i y _ => ∀ z, ns[i]? = some z → y = .bl (decide (1 ≤ z.getD 0))) (fun _ _ _ _ e _ => e) (fun H' s' => SqT.of (s' _ _ ht)) yat_same (fun i x H1 H1' hi s1 _ hy => ?_) fun ys H1 hl1 s1 e1 h1 => ?_
    · obtain ⟨rfl, hx⟩ := hy
      obtain ⟨z, hz, hr'⟩ := rowAt i x hx
      have fin : ∀ b : Bool, b = decide (1 ≤ z.getD 0) → ∀ z', ns[i]? = some z' → V.bl b = .bl (decide (1 ≤ z'.getD 0)) := fun b e z' hz' => by
        obtain rfl := Option.some.inj (hz.symm.trans hz')
        rw [e]
      refine ⟨_, fun _ h => h, wipe_one, ?_⟩
      rcases hr'.same s1 with ⟨p, xs, rfl, hp, rfl⟩ | ⟨⟨ty, h1, h2⟩, rfl⟩
      · refine ⟨_, rfl, .ref p, _, _, _, _, rfl, .ty "tuple", .base (.tup hp), kit_ty (by decide +kernel), _, rfl, iteT ?_⟩
        refine ⟨_, rfl, p, xs, rfl, .inr (SqT.of hp), _, _, rfl, rfl, Same.refl _, fun _ => fin _ ?_⟩
        show decide ((xs.length : Int) ≥ 1) = decide (1 ≤ xs.length)
        exact decide_eq_decide.mpr (by omega)
      · exact ⟨_, rfl, x, _, _, _, _, rfl, .ty "tuple", h1, h2, _, rfl, iteF ⟨Same.refl _, fun _ => fin _ rfl⟩⟩
    have ey := bls_map (g := fun o : Option Nat => decide (1 ≤ o.getD 0)) (hl1.trans hl.symm) fun i y o hy ho => h1 i y hy o ho
    refine ⟨D, _, rfl, SqL.of (by rw [e1, ey]), _, rfl, ?_⟩
    have eb : ((ns.map fun o : Option Nat => decide (1 ≤ o.getD 0)).all id) = B1 ns := by rw [List.all_map]; rfl
    rw [eb]
    cases b1 : B1 ns with
    | false => exact iteT (no _ s1 (by rw [tabW_some, b1]; simp))
    | true =>
    refine iteF ?_
    -- return all([len(row) == len(given[0]) for row in given])
    refine ⟨_, rfl, t, rfl, ⟨rs, SqT.of (s1 _ _ ht)⟩, fun D2 hD2 => ?_⟩
    have tupAt : ∀ (i : Nat) (x : V), rs[i]? = some x → ∃ p xs, x = .ref p ∧ H p = some (.tup xs) ∧ ns[i]? = some (some xs.length) := fun i x hx => by
      obtain ⟨z, hz, hr'⟩ := rowAt i x hx
      rcases hr' with ⟨p, xs, rfl, hp, rfl⟩ | ⟨_, rfl⟩
      · exact ⟨p, xs, rfl, hp, hz⟩
      · have := List.all_eq_true.mp b1 none (List.mem_of_getElem? hz)
        exact absurd this (by decide)
    have h00 : rs[0]? = some rs[0] := List.getElem?_eq_getElem (by omega)
    obtain ⟨p0, xs0, e0, hp0, hn0⟩ := tupAt 0 _ h00
    have hd0 : (ns.headD none).getD 0 = xs0.length := by
      cases ns with
      | nil => cases hn0
      | cons a r => rw [List.headD_cons, Option.some.inj hn0]; rfl
    refine lc_same (walk_tup (K := K) (a := t) (xs := rs)) hD2 (by omega) (fun i y _ => ∀ z, ns[i]? = some z → y = .bl (decide (z.getD 0 = (ns.headD none).getD 0))) (fun _ _ _ _ e _ => e) (fun H' s' => SqT.of (s' _ _ (s1 _ _ ht))) yat_same (fun i x H2 H2' hi s2 _ hy => ?_) fun ys2 H2 hl2 s2 e2 h2 => ?_
    · obtain ⟨rfl, hx⟩ := hy
      obtain ⟨p, xs, rfl, hp, hn⟩ := tupAt i x hx
      have s12 := s1.trans s2
      refine ⟨_, fun _ h => h, wipe_one, ?_⟩
      refine ⟨_, rfl, p, xs, rfl, .inr (SqT.of (s12 _ _ hp)), ?_⟩
      refine ⟨_, rfl, t, _, _, _, rfl, rfl, SqT.of (s12 _ _ ht), atI_nat h00, ?_⟩
      rw [e0]
      refine ⟨p0, xs0, rfl, .inr (SqT.of (s12 _ _ hp0)), rfl, Same.refl _, fun _ z hz => ?_⟩
      obtain rfl := Option.some.inj (hn.symm.trans hz)
      rw [hd0]
      refine congrArg V.bl (decide_eq_decide.mpr ⟨fun e => ?_, fun e => ?_⟩)
      · have := V.int.inj e
        show xs.length = xs0.length
        omega
      · have : xs.length = xs0.length := e
        rw [this]
    have ey2 := bls_map (g := fun o : Option Nat => decide (o.getD 0 = (ns.headD none).getD 0)) (hl2.trans hl.symm) fun i y o hy ho => h2 i y hy o ho
    refine ⟨D2, _, rfl, SqL.of (by rw [e2, ey2]), ?_⟩
    have eb2 : ((ns.map fun o : Option Nat => decide (o.getD 0 = (ns.headD none).getD 0)).all id) = tabW (some ns) := by
      rw [List.all_map]
      rw [tabW_some, b1, decide_eq_true (by omega)]
      rfl
    rw [eb2]
    exact k H2 (s1.trans s2)
abbrev IstabW (P : Program) (w : World) (K : PySem.W.Frag) (mg : Str → Option Value) (base : Heap) : Prop := CalF P w K mg base 2 "is_table" (spIstabW K) []
def spIstab : Sp := fun vs H Q _ => ∃ (t : Addr) (r c : Nat), vs = [.ref t] ∧ Shape H t r c ∧ 0 < r ∧ r ≤ 1000 ∧ 0 < c ∧ ∀ H', Same H H' → Q (.bl true) H'
theorem tabW_rep {r c : Nat} (hr : 0 < r) (hc : 0 < c) : tabW (some (List.replicate r (some c))) = true := by
  rw [tabW_some]
  unfold B1 B2
  cases r with
  | zero => omega
  | succ r => simp [List.replicate_succ]; omega
theorem istab_even (h : IstabW P w K mg base) : CalF P w K mg base 2 "is_table" spIstab [] := by
  obtain ⟨f, fd, ps, ds, F, r⟩ := h.ex
  refine ⟨f, fd, ps, ds, FnOk.imp F ?_, r⟩
  rintro vs H Q E ⟨t, r, c, rfl, ⟨rs, ht, hl, hrow⟩, r0, r1, c0, k⟩
  refine ⟨.ref t, some (List.replicate r (some c)), rfl, .inl ⟨t, rs, _, rfl, rfl, ht, by omega, by simp [hl], fun i x z hx hz => ?_⟩, fun H' s => ?_⟩
  · obtain ⟨p, xs, e, hp, hxl⟩ := hrow i x hx
    rw [List.getElem?_replicate] at hz
    split at hz
    · exact .inl ⟨p, xs, e, hp, by rw [hxl]; exact (Option.some.inj hz).symm⟩
    · cases hz
  · rw [tabW_rep r0 c0]
    exact k H' s
abbrev IstabC (P : Program) (w : World) (K : PySem.W.Frag) (mg : Str → Option Value) (base : Heap) : Prop := CalF P w K mg base 2 "is_table" spIstab []
/-! ### new tuples -/
theorem rw_new {Q : CellP} {G H : Hp} {T : Addr} {ys : List V} {c : Nat} {g : Nat → Rat} (m : Mono Q) (s : Same G H) (hT : H T = none) (hl : ys.length = c) (h : ∀ (j : Nat) (y : V), ys[j]? = some y → Q G y (g j)) : Rw Q (upd H T (.tup ys)) (.ref T) c g :=
  ⟨T, ys, rfl, upd_same, hl, fun j y hy => m.same (h j y hy) (MG.Same.new s hT)⟩
theorem tb_new {Q : CellP} {G H : Hp} {T : Addr} {ys : List V} {r c : Nat} {f : Nat → Nat → Rat} (m : Mono Q) (s : Same G H) (hT : H T = none) (hl : ys.length = r) (h : ∀ (i : Nat) (y : V), ys[i]? = some y → Rw Q G y c (f i)) : Tb Q (upd H T (.tup ys)) T r c f :=
  ⟨ys, upd_same, hl, fun i y hy => (h i y hy).same m (MG.Same.new s hT)⟩
theorem tb_upd {H : Hp} {a dx t : Addr} {r c : Nat} {f : Nat → Nat → Rat} {o : HO} (ha : H a = some (.ins CM dx [])) (h : Tb (RC C) H t r c f) : Tb (RC C) (upd H a o) t r c f := by
  obtain ⟨rs, ht, hl, hrow⟩ := h
  refine ⟨rs, by rw [upd_ne (ne_of ht ha (by intro z; cases z))]; exact ht, hl, fun i x hx => ?_⟩
  obtain ⟨p, xs, e, hp, hxl, hc⟩ := hrow i x hx
  refine ⟨p, xs, e, by rw [upd_ne (ne_of hp ha (by intro z; cases z))]; exact hp, hxl, fun j y hy => ?_⟩
  obtain ⟨b, e', d, hb⟩ := hc j y hy
  exact ⟨b, e', d, by rw [upd_ne (ne_of hb ha (by intro z; unfold flds at z; cases z))]; exact hb⟩
/-! ### Matrix(entries), of a table of numbers -/
def spMInit (C CM : Addr) : Sp := fun vs H Q _ => ∃ (a dx t : Addr) (r c : Nat) (f : Nat → Nat → Rat), vs = [.ref a, .ref t] ∧ H a = some (.ins CM dx []) ∧ Tb (NumAt C) H t r c f ∧ (0 < r ∧ r ≤ 1000 ∧ 0 < c ∧ c ≤ 1000) ∧
  ∀ H' t', H' a = some (.ins CM dx (mfl t')) → Tb (RC C) H' t' r c f → (∀ b o, H b = some o → b ≠ a → H' b = some o) → Q .non H'
theorem sc_Matrix___init__ : FnScope ["self", "entries", "row", "number"] ["self", "entries"] (defScope s_Matrix___init__) := ⟨rfl, rfl, rfl, by decide +kernel, rfl, by decide +kernel, by decide +kernel⟩
theorem ok_minit {f : Addr} {fd : FuncData} (F : Fun K "__init__" "Matrix.__init__" s_Matrix___init__ f fd) (T : TxM K mg C CM) (c_istab : IstabC P w K mg base) (c_number : NumberC P w K mg base C) (c_to : ToC P w K mg base C) : FnOk P w K mg base CX0 8 f fd ["self", "entries"] (spMInit C CM) := by
  refine F.ok sc_Matrix___init__ (fun vs H Q E h => ?_) (fun cdv A outer s H vs Q E hr h => ?_)
  · obtain ⟨a, dx, t, r, c, f, rfl, _⟩ := h
    rfl
  · obtain ⟨a, dx, t, r, c, f, rfl, ha, ht, ⟨hr0, hr1, hc0, hc1⟩, k⟩ := h
    refine ⟨_, (pss_cons (ps_if (pt_not (PW.pt (pw_and (pt_val (pe_cf c_istab hr (by decide) rfl (pa_cons (pv 1) pa_nil))) (pw_and1 (pt_val (pe_callB (id := "all") (cr_allK (K := K) rfl) (by rfl) T.b_all (by decide +kernel) (pa_cons (pe_lc2I (pe_lc2 (own := [("row", 2), ("number", 3)]) (vs1 := [3]) rfl sc_Matrix___init__.nd (pi_tupK (K := K) (pv 1)) (blkOk_by (N := ["self", "entries", "row", "number"]) (sc := (defScope s_Matrix___init__)) (by decide +kernel)) (by decide) (fun _ _ _ _ _ => (pg_name (i := 2) sc_Matrix___init__.nd rfl (Or.inl rfl))) (fun _ _ _ _ _ => pts_nil) (fun _ _ _ _ _ => (pi_tupK (K := K) (pv 2))) (fun _ _ _ _ _ => (pg_name (i := 3) sc_Matrix___init__.nd rfl (Or.inl rfl))) (fun _ _ _ _ _ => pts_nil) (fun _ _ _ _ _ => (pe_cut (pe_cf c_number hr (by decide) rfl (pa_cons (pv 3) pa_nil)))))) pa_nil))))))) (pss_one ps_never)
  pss_nil)
  (pss_one (ps_fld (pv 0) (pe_callTy (call_tuple_ofK (K := K)) (by rfl) T.b_tuple (by decide +kernel) (pa_cons (pe_lcI (pe_lc (own := [("row", 2)]) rfl sc_Matrix___init__.nd (pi_tupK (K := K) (pv 1)) (blkOk_by (N := ["self", "entries", "row", "number"]) (sc := (defScope s_Matrix___init__)) (by decide +kernel)) (fun _ _ _ _ _ => (pg_name (i := 2) sc_Matrix___init__.nd rfl (Or.inl rfl))) (fun _ _ _ _ _ => pts_nil) (fun _ _ _ _ _ => (pe_cut (pe_callTy (call_tuple_ofK (K := K)) (by rfl) T.b_tuple (by decide +kernel) (pa_cons (pe_lcI (pe_lc (own := [("number", 3)]) rfl sc_Matrix___init__.nd (pi_tupK (K := K) (pv 2)) (blkOk_by (N := ["self", "entries", "row", "number"]) (sc := ({ kind := .function, names := [(PySem.Str.ofString ".0", .local), (PySem.Str.ofString "row", .local), (PySem.Str.ofString "tuple", .globalImplicit)], isGenerator := false, isCoroutine := false } : Scope)) (by decide +kernel)) (fun _ _ _ _ _ => (pg_name (i := 3) sc_Matrix___init__.nd rfl (Or.inl rfl))) (fun _ _ _ _ _ => pts_nil) (fun _ _ _ _ _ => (pe_cut (pe_cf c_to hr (by decide) rfl (pa_cons (pv 3) pa_nil)))))) pa_nil)))))) pa_nil)) rfl))), ?_⟩
    -- if not (is_table(entries) and all([is_number(number) for row in entries for number in row]))
    refine ⟨_, rfl, t, r, c, rfl, ht.shape, hr0, hr1, hc0, fun H1 s1 => ⟨_, rfl, iteT ?_⟩⟩
    obtain ⟨rs, et, hl, hrow⟩ := ht.same (num_mono C) s1
    refine ⟨_, rfl, t, rfl, ⟨rs, SqT.of et⟩, fun D hD => ?_⟩
    refine lc2_tup (K := K) (R := fun v => v = .bl true) et hD (by decide) (show 2 < 4 by decide) (show 3 < 4 by decide) (fun x hx => ?_) (by omega) (fun i j p xs y H2 hi hp hj s2 => ?_) fun ys H2 s2 e2 h2 => ?_
    · obtain ⟨i, hi⟩ := List.getElem?_of_mem hx
      obtain ⟨p, xs, e, hp, hxl, _⟩ := hrow i x hi
      exact ⟨p, xs, e, hp, by omega⟩
    · obtain ⟨p', xs', e, hp', hxl, hc⟩ := hrow i _ hi
      cases e
      have exs : xs = xs' := by
        have := hp.symm.trans hp'
        cases this
        rfl
      subst exs
      have hn := (hc j y hj).same s2
      obtain ⟨ty, b1, b2, b3, h1, h2, h3, h4, h5⟩ := hn.is T.toTxR
      refine ⟨_, rfl, y, ty, b1, b2, b3, rfl, h1, h2, h3, h4, Same.refl _, ?_⟩
      rw [h5]
    obtain ⟨bs, hb, ab⟩ := all_bl (K := K) e2 h2
    refine ⟨D, bs, rfl, hb, _, rfl, ifF (by rw [ab]; rfl) ?_⟩
    -- self._entries = tuple([tuple([to_ratio(number) for number in row]) for row in entries])
    have s12 := s1.trans s2
    refine ⟨_, rfl, t, rfl, ⟨rs, SqT.of (s2 _ _ et)⟩, fun D3 hD3 => ?_⟩
    refine lc_same (walk_tup (K := K) (a := t) (xs := rs)) hD3 (by omega) (fun i y G => Rw (RC C) G y c (f i)) (fun i y G G' h s => h.same (rc_mono C) s) (fun G s => SqT.of (s _ _ (s2 _ _ et))) yat_same (fun i x H3 H3' hi s3 _ hy => ?_) fun ys3 H3 hl3 s3 e3 h3 => ?_
    · obtain ⟨rfl, hx⟩ := hy
      obtain ⟨p, xs, rfl, hp, hxl, hc⟩ := (hrow i x hx).same (num_mono C) (s2.trans s3)
      refine ⟨_, fun _ h => h, wipe_one, ?_⟩
      refine ⟨_, rfl, p, rfl, ⟨xs, SqT.of hp⟩, fun D4 hD4 => ?_⟩
      refine lc_same (walk_tup (K := K) (a := p) (xs := xs)) hD4 (by omega) (fun j y G => RC C G y (f i j)) (fun j y G G' h s => (rc_mono C).same h s) (fun G s => SqT.of (s _ _ hp)) yat_same (fun j y H4 H4' hj s4 _ hy => ?_) fun ys4 H4 hl4 s4 e4 h4 => ?_
      · obtain ⟨rfl, hy⟩ := hy
        refine ⟨_, fun _ h => h, wipe_one, ?_⟩
        exact ⟨_, rfl, y, f i j, rfl, (hc j y hy).same s4, fun r' H5 s5 h5 => ⟨s5, fun ⟨l, hl⟩ => (rc_mono C).hid ⟨r', rfl, h5⟩ hl⟩⟩
      · refine ⟨D4, ys4, rfl, .inl ⟨SqL.of e4, fun T2 hT2 => ⟨MG.Same.new s4 hT2, fun ⟨l, hl⟩ => ?_⟩⟩⟩
        exact (rw_new (rc_mono C) (hid_same D4 H4) hT2 (hl4.trans hxl) h4).hid (rc_mono C) hl
    refine ⟨D3, ys3, rfl, .inl ⟨SqL.of e3, fun T3 hT3 => ?_⟩⟩
    have s123 := s12.trans s3
    have s4 : Same H (upd H3 T3 (.tup ys3)) := MG.Same.new s123 hT3
    refine ⟨_, rfl, a, CM, dx, _, rfl, s4 _ _ ha, T.clM, T.nE, (by show 0 < 1000; decide), ?_⟩
    have tb := tb_new (rc_mono C) (hid_same D3 H3) hT3 (hl3.trans hl) h3
    have na : ∀ {b : Addr} {o : HO}, (upd H3 T3 (.tup ys3)) b = some o → (∀ dx fs, o ≠ .ins CM dx fs) → b ≠ a := fun {b o} e z e' => by
      rw [e', s4 _ _ ha] at e
      exact z _ _ (Option.some.inj e).symm
    refine k _ T3 upd_same ?_ fun b o hb hne => ?_
    · exact tb_upd (s4 _ _ ha) tb
    · rw [upd_ne hne]
      exact s4 _ _ hb
abbrev MatC (P : Program) (w : World) (K : PySem.W.Frag) (mg : Str → Option Value) (base : Heap) (C CM : Addr) : Prop := MakF P w K mg base 8 "Matrix" CM (spMInit C CM) []
end
end Lw

namespace Lw
open PySem PySem.Spec PyProof.Rows L2 MG
section
variable {P : Program} {w : World} {K : PySem.W.Frag} {mg : Str → Option Value} {base : Heap} {C CM CE : Addr}
/-! ### InvalidEntries -/
theorem sc_InvalidEntries___init__ : FnScope ["self", "given"] ["self", "given"] (defScope s_InvalidEntries___init__) := ⟨rfl, rfl, rfl, by decide +kernel, rfl, by decide +kernel, by decide +kernel⟩
theorem ok_xe {f : Addr} {fd : FuncData} (F : Fun K "__init__" "InvalidEntries.__init__" s_InvalidEntries___init__ f fd) : FnOk P w K mg base CX0 2 f fd ["self", "given"] (spXi K CE "given") := by
  refine F.ok sc_InvalidEntries___init__ (fun vs H Q E h => ?_) (fun cdv A outer s H vs Q E hr h => ?_)
  · obtain ⟨a, y, rfl, _⟩ := h
    rfl
  · obtain ⟨a, y, rfl, T, no, ha, k⟩ := h
    refine ⟨_, (pss_one (ps_ost (pv 0) (pv 1))), ?_⟩
    exact ⟨_, rfl, _, rfl, a, CE, rfl, T, no, .inl ⟨ha, fun dx n ne => k dx n ne⟩⟩
abbrev XeC (P : Program) (w : World) (K : PySem.W.Frag) (mg : Str → Option Value) (base : Heap) (CE : Addr) : Prop := ExcF P w K mg base 2 "InvalidEntries" CE "given"
/-! ### what a thing is as a table -/
def rowsS : Sh → List Sh
  | .tup l => l
  | _ => []
def rowN : Sh → Option Nat
  | .tup l => some l.length
  | _ => none
def wholeN : Sh → Option (List (Option Nat))
  | .tup l => some (l.map rowN)
  | _ => none
def numB : Sh → Bool
  | .num _ => true
  | _ => false
def cellQ : Sh → Rat
  | .num p => p
  | _ => 0
def rowS (s : Sh) (i : Nat) : Sh := (rowsS s)[i]?.getD .oth
def shR (s : Sh) : Nat := (rowsS s).length
def shC (s : Sh) : Nat := (rowsS (rowS s 0)).length
def shF (s : Sh) (i j : Nat) : Rat := cellQ (rowS (rowS s i) j)
def cellsB (s : Sh) : Bool := (rowsS s).all fun l => (rowsS l).all numB
def tabB (s : Sh) : Bool := tabW (wholeN s)
def goodB (s : Sh) : Bool := tabB s && cellsB s
theorem ShAt.row {H : Hp} {x : V} {s : Sh} (h : ShAt K C H x s) : RowK K H x (rowN s) := by
  cases h with
  | num h b n => exact .inr ⟨n, rfl⟩
  | oth h n => exact .inr ⟨n, rfl⟩
  | tup e l1 l2 p => exact .inl ⟨_, _, rfl, e, congrArg some l2⟩
theorem ShAt.whole {H : Hp} {x : V} {s : Sh} (h : ShAt K C H x s) : WholeK K H x (wholeN s) := by
  cases h with
  | num h b n => exact .inr ⟨n, rfl⟩
  | oth h n => exact .inr ⟨n, rfl⟩
  | @tup a xs ss e l1 l2 p =>
    refine .inl ⟨a, xs, _, rfl, rfl, e, by omega, by simp [l2], fun i y z hy hz => ?_⟩
    rw [List.getElem?_map] at hz
    cases hs : ss[i]? with
    | none => rw [hs] at hz; cases hz
    | some s' =>
      rw [hs] at hz
      obtain rfl := Option.some.inj hz
      exact (p i y s' hy hs).row
theorem NumAt.dig {H : Hp} {x : V} {p : Rat} (T : TxR K mg C) (h : NumAt C H x p) : DigAt K C H x true := by
  obtain ⟨ty, b1, b2, b3, h1, h2, h3, h4, h5⟩ := h.is T
  exact ⟨ty, b1, b2, b3, h1, h2, h3, h4, h5⟩
theorem ShAt.dig {H : Hp} {x : V} {s : Sh} (T : TxR K mg C) (O : Others K C) (h : ShAt K C H x s) : DigAt K C H x (numB s) := by
  cases h with
  | num h b n => exact h.dig T
  | oth h n =>
    obtain ⟨t, b1, b2, h1, h2, h3, h4, h5⟩ := h
    exact ⟨t, b1, b2, false, h1, h2, h3, h5, by rw [h4]; rfl⟩
  | tup e l1 l2 p => exact ⟨_, false, false, false, .base (.tup e), kit_ty (by decide +kernel), kit_ty (by decide +kernel), kit_tr O.is O.ty O.tup, rfl⟩
/-- the rows of a table of anything -/
structure TabAt (K : PySem.W.Frag) (C : Addr) (H : Hp) (x : V) (s : Sh) : Prop where
  ex : ∃ t rs, x = .ref t ∧ H t = some (.tup rs) ∧ rs.length = shR s ∧ ∀ (i : Nat) (y : V), rs[i]? = some y → ∃ p xs, y = .ref p ∧ H p = some (.tup xs) ∧ xs.length = shC s ∧ ∀ (j : Nat) (z : V), xs[j]? = some z → ShAt K C H z (rowS (rowS s i) j)
  r0 : 0 < shR s
  r1 : shR s ≤ 100
  c0 : 0 < shC s
  c1 : shC s ≤ 100
  row : ∀ i, i < shR s → ∃ l, (rowsS s)[i]? = some (.tup l) ∧ l.length = shC s
theorem ShAt.tabAt {H : Hp} {x : V} {s : Sh} (h : ShAt K C H x s) (g : tabB s = true) : TabAt K C H x s := by
  unfold tabB at g
  cases h with
  | num h b n => cases g
  | oth h n => cases g
  | @tup a xs ss e l1 l2 p =>
  rw [show wholeN (.tup ss) = some (ss.map rowN) from rfl, tabW_some, Bool.and_eq_true, Bool.and_eq_true] at g
  obtain ⟨g0, g1, g2⟩ := g
  have g0 : 1 ≤ ss.length := by simpa using g0
  have row : ∀ i, i < ss.length → ∃ l, ss[i]? = some (.tup l) ∧ 1 ≤ l.length ∧ l.length = shC (.tup ss) := fun i hi => by
    have es := List.getElem?_eq_getElem hi
    have m1 := List.all_eq_true.mp g1 (rowN ss[i]) (List.mem_map.mpr ⟨_, List.getElem_mem hi, rfl⟩)
    have m2 := List.all_eq_true.mp g2 (rowN ss[i]) (List.mem_map.mpr ⟨_, List.getElem_mem hi, rfl⟩)
    have m1 := of_decide_eq_true m1
    have m2 := of_decide_eq_true m2
    have e0 : ((ss.map rowN).headD none).getD 0 = shC (.tup ss) := by
      cases ss with
      | nil => simp at g0
      | cons b r =>
        show (rowN b).getD 0 = (rowsS b).length
        cases b <;> rfl
    cases hs : ss[i] with
    | num p => rw [hs] at m1; exact absurd m1 (show ¬ (1 ≤ 0) by decide)
    | oth => rw [hs] at m1; exact absurd m1 (show ¬ (1 ≤ 0) by decide)
    | tup l =>
      rw [hs] at m1 m2
      rw [e0] at m2
      exact ⟨l, by rw [es, hs], m1, m2⟩
  obtain ⟨l0, el0, c0, ec0⟩ := row 0 (by omega)
  have r0 := List.getElem?_eq_getElem (l := xs) (i := 0) (by omega)
  have bnd : shC (.tup ss) ≤ 100 := by
    have h0 := p 0 _ _ r0 el0
    rw [← ec0]
    generalize xs[0] = y at h0
    cases h0 with
    | tup e l1 l2 p => omega
  refine ⟨⟨a, xs, rfl, e, l2.symm, fun i y hy => ?_⟩, g0, ?_, by omega, bnd, fun i hi => ?_⟩
  · have hi : i < ss.length := by rw [l2]; exact (List.getElem?_eq_some_iff.mp hy).1
    obtain ⟨l, el, c1, ec⟩ := row i hi
    have h1 := p i y _ hy el
    have er : rowS (.tup ss) i = .tup l := by
      show ss[i]?.getD .oth = _
      rw [el]
      rfl
    rw [er]
    cases h1 with
    | @tup b zs ls e' l1' l2' p' =>
      refine ⟨b, zs, rfl, e', by omega, fun j z hz => ?_⟩
      have hj : j < l.length := by rw [l2']; exact (List.getElem?_eq_some_iff.mp hz).1
      have ej := List.getElem?_eq_getElem hj
      have eq : rowS (.tup l) j = l[j] := by
        show l[j]?.getD .oth = _
        rw [ej]
        rfl
      rw [eq]
      exact p' j z _ hz ej
  · show ss.length ≤ 100
    omega
  · obtain ⟨l, el, _, ec⟩ := row i hi
    exact ⟨l, el, ec⟩
theorem TabAt.same {H H' : Hp} {x : V} {s : Sh} (h : TabAt K C H x s) (sm : Same H H') : TabAt K C H' x s := by
  obtain ⟨⟨t, rs, e, ht, hl, hr⟩, a, b, c, d, g⟩ := h
  refine ⟨⟨t, rs, e, sm _ _ ht, hl, fun i y hy => ?_⟩, a, b, c, d, g⟩
  obtain ⟨p, xs, e, hp, hl, hc⟩ := hr i y hy
  exact ⟨p, xs, e, sm _ _ hp, hl, fun j z hz => (hc j z hz).same sm⟩
/-- are all its cells numbers -/
theorem TabAt.cells {H : Hp} {x : V} {s : Sh} (h : TabAt K C H x s) : cellsB s = true ↔ ∀ i j, i < shR s → j < shC s → numB (rowS (rowS s i) j) = true := by
  unfold cellsB
  rw [List.all_eq_true]
  have ri : ∀ i l, (rowsS s)[i]? = some l → rowS s i = l := fun i l e => by unfold rowS; rw [e]; rfl
  constructor
  · intro g i j hi hj
    obtain ⟨l, el, hl⟩ := h.row i hi
    have := List.all_eq_true.mp (g _ (List.mem_of_getElem? el)) (rowS (.tup l) j) (by
      have ej := List.getElem?_eq_getElem (l := l) (i := j) (by omega)
      have : rowS (.tup l) j = l[j] := by
        show l[j]?.getD .oth = _
        rw [ej]
        rfl
      rw [this]
      exact List.getElem_mem _)
    rw [ri i _ el]
    exact this
  · intro g l hl
    obtain ⟨i, el⟩ := List.getElem?_of_mem hl
    have hi : i < shR s := (List.getElem?_eq_some_iff.mp el).1
    obtain ⟨l', el', hl'⟩ := h.row i hi
    obtain rfl := Option.some.inj (el.symm.trans el')
    refine List.all_eq_true.mpr fun z hz => ?_
    obtain ⟨j, ej⟩ := List.getElem?_of_mem hz
    have hj : j < l'.length := (List.getElem?_eq_some_iff.mp ej).1
    have := g i j hi (by omega)
    rw [ri i _ el'] at this
    have e2 : rowS (.tup l') j = z := by
      show l'[j]?.getD .oth = _
      rw [show l'[j]? = some z from ej]
      rfl
    rw [e2] at this
    exact this
theorem TabAt.tb {H : Hp} {x : V} {s : Sh} (h : TabAt K C H x s) (g : cellsB s = true) : ∃ t, x = .ref t ∧ Tb (fun H y q => NumAt C H y q ∧ Bd q 43) H t (shR s) (shC s) (shF s) := by
  obtain ⟨t, rs, e, ht, hl, hr⟩ := h.ex
  refine ⟨t, e, rs, ht, hl, fun i y hy => ?_⟩
  obtain ⟨p, xs, e, hp, hxl, hc⟩ := hr i y hy
  refine ⟨p, xs, e, hp, hxl, fun j z hz => ?_⟩
  have hi : i < shR s := by rw [← hl]; exact (List.getElem?_eq_some_iff.mp hy).1
  have hj : j < shC s := by rw [← hxl]; exact (List.getElem?_eq_some_iff.mp hz).1
  have hn := h.cells.mp g i j hi hj
  have hz' := hc j z hz
  unfold shF
  generalize rowS (rowS s i) j = o at hn hz'
  cases hz' with
  | num h b n => exact ⟨h, b⟩
  | oth h n => cases hn
  | tup e l1 l2 p => cases hn
theorem TabAt.bds {H : Hp} {x : V} {s : Sh} (h : TabAt K C H x s) (g : cellsB s = true) : ∀ i j, i < shR s → j < shC s → Bd (shF s i j) 43 := fun i j hi hj => by
  obtain ⟨t, _, rs, _, hl, hr⟩ := h.tb g
  obtain ⟨p, xs, _, _, hxl, hc⟩ := hr i _ (List.getElem?_eq_getElem (by omega))
  exact (hc j _ (List.getElem?_eq_getElem (by omega))).2
/-! ### Matrix(entries), of anything -/
def spMInitX (K : PySem.W.Frag) (C CM CE : Addr) : Sp := fun vs H Q E => ∃ (a dx : Addr) (x : V) (s : Sh), vs = [.ref a, x] ∧ H a = some (.ins CM dx []) ∧ ShAt K C H x s ∧
  (goodB s = false → Rsd CE H x E) ∧
  (goodB s = true → ∀ H' t', H' a = some (.ins CM dx (mfl t')) → Tb (RC C) H' t' (shR s) (shC s) (shF s) → (∀ b o, H b = some o → b ≠ a → H' b = some o) → Q .non H')
theorem all_flat {r c : Nat} {g : Nat → Nat → Bool} : (((List.range r).flatMap fun i => (List.range c).map (g i)).all id = true) ↔ ∀ i j, i < r → j < c → g i j = true := by
  rw [List.all_eq_true]
  constructor
  · intro h i j hi hj
    exact h _ (List.mem_flatMap.mpr ⟨i, List.mem_range.mpr hi, List.mem_map.mpr ⟨j, List.mem_range.mpr hj, rfl⟩⟩)
  · intro h b hb
    obtain ⟨i, hi, hb⟩ := List.mem_flatMap.mp hb
    obtain ⟨j, hj, rfl⟩ := List.mem_map.mp hb
    exact h i j (List.mem_range.mp hi) (List.mem_range.mp hj)
theorem ok_minitX {f : Addr} {fd : FuncData} (F : Fun K "__init__" "Matrix.__init__" s_Matrix___init__ f fd) (T : TxM K mg C CM) (O : Others K C) (x_ent : XeC P w K mg base CE) (c_istab : IstabW P w K mg base) (c_number : NumberC P w K mg base C) (c_to : ToC P w K mg base C) : FnOk P w K mg base (L2N.CX P w) 8 f fd ["self", "entries"] (spMInitX K C CM CE) := by
  refine fun_okN F sc_Matrix___init__ (fun vs H Q E h => ?_) (fun cdv A outer s H vs Q E hr h => ?_)
  · obtain ⟨a, dx, x, s, rfl, _⟩ := h
    rfl
  · obtain ⟨a, dx, x, o, rfl, ha, hx, kF, kT⟩ := h
    refine ⟨_, (pss_cons (ps_if (pt_not (PW.pt (pw_and (pt_val (pe_cf c_istab hr (by decide) rfl (pa_cons (pv 1) pa_nil))) (pw_and1 (pt_val (pe_callB (id := "all") (cr_allK (K := K) rfl) (by rfl) T.b_all (by decide +kernel) (pa_cons (pe_lc2I (pe_lc2 (own := [("row", 2), ("number", 3)]) (vs1 := [3]) rfl sc_Matrix___init__.nd (pi_tupK (K := K) (pv 1)) (blkOk_by (N := ["self", "entries", "row", "number"]) (sc := (defScope s_Matrix___init__)) (by decide +kernel)) (by decide) (fun _ _ _ _ _ => (pg_name (i := 2) sc_Matrix___init__.nd rfl (Or.inl rfl))) (fun _ _ _ _ _ => pts_nil) (fun _ _ _ _ _ => (pi_tupK (K := K) (pv 2))) (fun _ _ _ _ _ => (pg_name (i := 3) sc_Matrix___init__.nd rfl (Or.inl rfl))) (fun _ _ _ _ _ => pts_nil) (fun _ _ _ _ _ => (pe_cut (pe_cf c_number hr (by decide) rfl (pa_cons (pv 3) pa_nil)))))) pa_nil))))))) (pss_one (ps_raiseX x_ent hr (by decide) rfl (L2N.takes_of rfl rfl rfl rfl) rfl (pa_cons (pv 1) pa_nil)))
  pss_nil)
  (pss_one (ps_fld (pv 0) (pe_callTy (call_tuple_ofK (K := K)) (by rfl) T.b_tuple (by decide +kernel) (pa_cons (pe_lcI (pe_lc (own := [("row", 2)]) rfl sc_Matrix___init__.nd (pi_tupK (K := K) (pv 1)) (blkOk_by (N := ["self", "entries", "row", "number"]) (sc := (defScope s_Matrix___init__)) (by decide +kernel)) (fun _ _ _ _ _ => (pg_name (i := 2) sc_Matrix___init__.nd rfl (Or.inl rfl))) (fun _ _ _ _ _ => pts_nil) (fun _ _ _ _ _ => (pe_cut (pe_callTy (call_tuple_ofK (K := K)) (by rfl) T.b_tuple (by decide +kernel) (pa_cons (pe_lcI (pe_lc (own := [("number", 3)]) rfl sc_Matrix___init__.nd (pi_tupK (K := K) (pv 2)) (blkOk_by (N := ["self", "entries", "row", "number"]) (sc := ({ kind := .function, names := [(PySem.Str.ofString ".0", .local), (PySem.Str.ofString "row", .local), (PySem.Str.ofString "tuple", .globalImplicit)], isGenerator := false, isCoroutine := false } : Scope)) (by decide +kernel)) (fun _ _ _ _ _ => (pg_name (i := 3) sc_Matrix___init__.nd rfl (Or.inl rfl))) (fun _ _ _ _ _ => pts_nil) (fun _ _ _ _ _ => (pe_cut (pe_cf c_to hr (by decide) rfl (pa_cons (pv 3) pa_nil)))))) pa_nil)))))) pa_nil)) rfl))), ?_⟩
    have boom : ∀ {H' : Hp}, Same H H' → goodB o = false → Rsd CE H' x E := fun s e => (kF e).same s
    -- if not (is_table(entries) and all([is_number(number) for row in entries for number in row]))
    refine ⟨_, rfl, x, _, rfl, hx.whole, fun H1 s1 => ⟨_, rfl, ?_⟩⟩
    cases hg : tabB o with
    | false =>
      have hg' : tabW (wholeN o) = false := hg
      rw [hg']
      exact iteF ⟨_, rfl, _, rfl, fun d H' s n e' => boom s1 (by unfold goodB; rw [hg]; rfl) d H' s n e'⟩
    | true =>
    have hg' : tabW (wholeN o) = true := hg
    rw [hg']
    refine iteT ?_
    have tA := (hx.same s1).tabAt hg
    obtain ⟨t, rs, rfl, et, hl, hrow⟩ := tA.ex
    have r0 := tA.r0
    have r1 := tA.r1
    have c0 := tA.c0
    have c1 := tA.c1
    refine ⟨_, rfl, t, rfl, ⟨rs, SqT.of et⟩, fun D hD => ?_⟩
    refine lc2_tupF (K := K) (shC o) (fun i j => .bl (numB (rowS (rowS o i) j))) et hD (by decide) (show 2 < 4 by decide) (show 3 < 4 by decide) (fun x hx => ?_) (by omega) (by omega) (fun i j p xs y H2 hi hp hj s2 => ?_) fun H2 s2 e2 => ?_
    · obtain ⟨i, hi⟩ := List.getElem?_of_mem hx
      obtain ⟨p, xs, e, hp, hxl, _⟩ := hrow i x hi
      exact ⟨p, xs, e, hp, hxl⟩
    · obtain ⟨p', xs', e, hp', hxl, hc⟩ := hrow i _ hi
      cases e
      have exs : xs = xs' := by
        have := hp.symm.trans hp'
        cases this
        rfl
      subst exs
      obtain ⟨ty, b1, b2, b3, h1, h2, h3, h4, h5⟩ := ((hc j y hj).same s2).dig T.toTxR O
      refine ⟨_, rfl, y, ty, b1, b2, b3, rfl, h1, h2, h3, h4, Same.refl _, ?_⟩
      rw [h5]
    have ef : ((List.range rs.length).flatMap fun i => (List.range (shC o)).map fun j => V.bl (numB (rowS (rowS o i) j))) = ((List.range rs.length).flatMap fun i => (List.range (shC o)).map fun j => numB (rowS (rowS o i) j)).map V.bl := by
      rw [List.map_flatMap]
      congr 1
      funext i
      rw [List.map_map]
      rfl
    refine ⟨D, _, rfl, SqL.of (by rw [e2, ef]), _, rfl, ?_⟩
    have ec : (((List.range rs.length).flatMap fun i => (List.range (shC o)).map fun j => numB (rowS (rowS o i) j)).all id) = cellsB o := by
      refine Bool.eq_iff_iff.mpr ?_
      rw [all_flat, tA.cells, hl]
    rw [ec]
    cases hcl : cellsB o with
    | false => exact iteT ⟨_, rfl, _, rfl, fun d H' s n e' => boom (s1.trans s2) (by unfold goodB; rw [hg, hcl]; rfl) d H' s n e'⟩
    | true =>
    refine iteF ?_
    have gd : goodB o = true := by unfold goodB; rw [hg, hcl]; rfl
    -- self._entries = tuple([tuple([to_ratio(number) for number in row]) for row in entries])
    obtain ⟨t', e', htb⟩ := tA.tb hcl
    cases e'
    have htb := htb.imp (P' := NumAt C) fun h => h.1
    obtain ⟨rs', et', hl', hrow'⟩ := htb
    obtain rfl : rs = rs' := by
      have := et.symm.trans et'
      cases this
      rfl
    have s12 := s1.trans s2
    have k := kT gd
    refine ⟨_, rfl, t, rfl, ⟨rs, SqT.of (s2 _ _ et)⟩, fun D3 hD3 => ?_⟩
    refine lc_same (walk_tup (K := K) (a := t) (xs := rs)) hD3 (by omega) (fun i y G => Rw (RC C) G y (shC o) (shF o i)) (fun i y G G' h s => h.same (rc_mono C) s) (fun G s => SqT.of (s _ _ (s2 _ _ et))) yat_same (fun i x H3 H3' hi s3 _ hy => ?_) fun ys3 H3 hl3 s3 e3 h3 => ?_
    · obtain ⟨rfl, hx⟩ := hy
      obtain ⟨p, xs, rfl, hp, hxl, hc⟩ := (hrow' i x hx).same (num_mono C) (s2.trans s3)
      refine ⟨_, fun _ h => h, wipe_one, ?_⟩
      refine ⟨_, rfl, p, rfl, ⟨xs, SqT.of hp⟩, fun D4 hD4 => ?_⟩
      refine lc_same (walk_tup (K := K) (a := p) (xs := xs)) hD4 (by omega) (fun j y G => RC C G y (shF o i j)) (fun j y G G' h s => (rc_mono C).same h s) (fun G s => SqT.of (s _ _ hp)) yat_same (fun j y H4 H4' hj s4 _ hy => ?_) fun ys4 H4 hl4 s4 e4 h4 => ?_
      · obtain ⟨rfl, hy⟩ := hy
        refine ⟨_, fun _ h => h, wipe_one, ?_⟩
        exact ⟨_, rfl, y, shF o i j, rfl, (hc j y hy).same s4, fun r' H5 s5 h5 => ⟨s5, fun ⟨l, hl⟩ => (rc_mono C).hid ⟨r', rfl, h5⟩ hl⟩⟩
      · refine ⟨D4, ys4, rfl, .inl ⟨SqL.of e4, fun T2 hT2 => ⟨MG.Same.new s4 hT2, fun ⟨l, hl⟩ => ?_⟩⟩⟩
        exact (rw_new (rc_mono C) (hid_same D4 H4) hT2 (hl4.trans hxl) h4).hid (rc_mono C) hl
    refine ⟨D3, ys3, rfl, .inl ⟨SqL.of e3, fun T3 hT3 => ?_⟩⟩
    have s123 := s12.trans s3
    have s4 : Same H (upd H3 T3 (.tup ys3)) := MG.Same.new s123 hT3
    refine ⟨_, rfl, a, CM, dx, _, rfl, s4 _ _ ha, T.clM, T.nE, (by show 0 < 1000; decide), ?_⟩
    have tb := tb_new (rc_mono C) (hid_same D3 H3) hT3 (hl3.trans hl) h3
    refine k _ T3 upd_same ?_ fun b o hb hne => ?_
    · exact tb_upd (s4 _ _ ha) tb
    · rw [upd_ne hne]
      exact s4 _ _ hb
abbrev MatX (P : Program) (w : World) (K : PySem.W.Frag) (mg : Str → Option Value) (base : Heap) (C CM CE : Addr) : Prop := MakX P w K mg base 8 "Matrix" CM (spMInitX K C CM CE)
end
end Lw

/-! the texts of fractions -/
namespace Lw
open PySem PySem.Spec PyProof.Rows L2 MG TL
def DN (n : Nat) : Str := Str.ofString (toString ((n : Nat) : Int))
theorem tl_DN (n : Nat) : tl (DN n) = numL n := tl_num n
theorem tl_minus : tl (Str.ofString "-") = [45] := by decide +kernel
theorem tl_slash : tl (Str.ofString "/") = [47] := by decide +kernel
theorem tl_zero : tl (Str.ofString "0") = [48] := by decide +kernel
theorem str_one {x : Str} {c : Nat} (h : tl x = [c]) : x = ⟨#[c]⟩ := ext_tl (by rw [h])
theorem z_txt (i : Int) : Str.ofString (toString i) = if i < 0 then Str.ofString "-" ++ DN i.natAbs else DN i.natAbs := by
  by_cases h : i < 0
  · rw [if_pos h]
    refine ext_tl ?_
    rw [tl_append, tl_minus, tl_DN, tl_ofString, Int.toString_eq_repr, Int.repr_eq_if, if_neg (by omega), String.toList_append, List.map_append, Nat.toList_repr]
    have e : (-i).toNat = i.natAbs := by omega
    rw [e]
    rfl
  · rw [if_neg h]
    have e : ((i.natAbs : Nat) : Int) = i := by omega
    unfold DN
    rw [e]
def core (p : Rat) : Str := if p.den = 1 then DN p.num.natAbs else DN p.num.natAbs ++ Str.ofString "/" ++ DN p.den
theorem dg_core (p : Rat) : dg p = if p.num < 0 then Str.ofString "-" ++ core p else core p := by
  unfold dg core
  by_cases h1 : p.den = 1
  · rw [if_pos h1, if_pos h1]
    exact z_txt p.num
  · rw [if_neg h1, if_neg h1, z_txt p.num]
    by_cases h : p.num < 0
    · rw [if_pos h, if_pos h]
      refine ext_tl ?_
      rw [tl_append, tl_append, tl_append, tl_append, tl_append, tl_append, List.append_assoc, List.append_assoc, List.append_assoc]
      rfl
    · rw [if_neg h, if_neg h]
      rfl
/-! ### the first sign -/
theorem sub1 (x y : Str) {c : Nat} (hy : tl y = [c]) : Builtin.Str.subAt x y 0 = decide ((tl x).take 1 = [c]) := by
  have e := str_one hy
  subst e
  unfold Builtin.Str.subAt
  rw [Bool.eq_iff_iff, beq_iff_eq, decide_eq_true_iff, ← Array.toList_inj]
  show (x.cps.extract 0 (0 + 1)).toList = [c] ↔ _
  rw [Array.toList_extract]
  show (x.cps.toList.extract 0 (0 + 1)) = [c] ↔ _
  rw [List.extract_eq_take_drop]
  rfl
theorem starts1 (x y : Str) {c : Nat} (hy : tl y = [c]) : Txt.startswith x y = decide ((tl x).take 1 = [c]) := by
  unfold Txt.startswith
  rw [sub1 x y hy]
  by_cases h : (tl x).take 1 = [c]
  · have hl : 1 ≤ x.length := by
      rw [len_tl]
      cases e : tl x with
      | nil => rw [e] at h; cases h
      | cons a l => simp
    have hy1 : y.length = 1 := by rw [len_tl, hy]; rfl
    rw [hy1, decide_eq_true h, decide_eq_true (by omega : 0 + 1 ≤ x.length)]
    rfl
  · rw [decide_eq_false h, Bool.and_false]
theorem take1_core (p : Rat) : (tl (core p)).take 1 ≠ [45] := by
  have h : ∀ l, (numL p.num.natAbs ++ l).take 1 ≠ [45] := by
    intro l e
    cases en : numL p.num.natAbs with
    | nil => exact numL_ne _ en
    | cons a r =>
      rw [en] at e
      have e2 : a = 45 := by simpa using e
      have := numL_digits p.num.natAbs a (by rw [en]; simp)
      omega
  unfold core
  split
  · rw [tl_DN]
    have := h []
    rw [List.append_nil] at this
    exact this
  · rw [tl_append, tl_append, tl_DN, List.append_assoc]
    exact h _
theorem starts_dg (p : Rat) : Txt.startswith (dg p) (Str.ofString "-") = decide (p.num < 0) := by
  rw [starts1 _ _ tl_minus, dg_core]
  by_cases h : p.num < 0
  · rw [if_pos h, tl_append, tl_minus]
    simp [h]
  · rw [if_neg h, decide_eq_false (take1_core p), decide_eq_false h]
theorem affix_le (x : Str) (i j : Nat) : (Builtin.Str.strSub x i j).length ≤ x.length := by
  rw [len_tl, len_tl, tl_strSub, List.length_take, List.length_drop]
  omega
theorem rp_le (x y : Str) : (Txt.removeprefix x y).length ≤ x.length := by
  unfold Txt.removeprefix
  split
  · unfold Txt.affix
    dsimp only
    split
    · exact Nat.le_refl _
    · exact affix_le _ _ _
  · exact Nat.le_refl _
theorem rp_miss {x : Str} (h : (tl x).take 1 ≠ [45]) : Txt.removeprefix x (Str.ofString "-") = x := by
  unfold Txt.removeprefix
  rw [sub1 _ _ tl_minus, decide_eq_false h]
  rfl
theorem rp_hit (r : Str) : Txt.removeprefix (Str.ofString "-" ++ r) (Str.ofString "-") = r := by
  unfold Txt.removeprefix
  have h : (tl (Str.ofString "-" ++ r)).take 1 = [45] := by rw [tl_append, tl_minus]; rfl
  rw [sub1 _ _ tl_minus, decide_eq_true h]
  have l : (Str.ofString "-" ++ r).length = r.length + 1 := by rw [len_tl, tl_append, tl_minus, len_tl]; simp
  have l1 : (Str.ofString "-").length = 1 := by decide +kernel
  show (if ((Str.ofString "-" ++ r).length - (Str.ofString "-").length == (Str.ofString "-" ++ r).length) = true then _ else _) = r
  rw [l, l1, if_neg (by simp)]
  refine ext_tl ?_
  have e := tl_strSub_end (Str.ofString "-" ++ r) 1
  rw [l] at e
  rw [e, tl_append, tl_minus]
  rfl
theorem rp_dg (p : Rat) : Txt.removeprefix (dg p) (Str.ofString "-") = core p := by
  rw [dg_core]
  split
  · exact rp_hit _
  · exact rp_miss (take1_core p)
theorem part_core (p : Rat) : Txt.partition (core p) (Str.ofString "/") = if p.den = 1 then (DN p.num.natAbs, Str.empty, Str.empty) else (DN p.num.natAbs, Str.ofString "/", DN p.den) := by
  have free : ∀ n, 47 ∉ tl (DN n) := fun n => by rw [tl_DN]; exact numL_free (by omega)
  unfold core
  split
  · exact partition_none tl_slash (free _)
  · exact partition_app tl_slash (free _)
theorem split_core (p : Rat) : Txt.split (core p) (Str.ofString "/") = if p.den = 1 then [DN p.num.natAbs] else [DN p.num.natAbs, DN p.den] := by
  have free : ∀ n, 47 ∉ numL n := fun n => numL_free (by omega)
  refine map_tl_inj ?_
  rw [split_spl _ _ (by rw [tl_slash]; simp) (kind_ok (by decide +kernel)), tl_slash]
  unfold core
  split
  · rw [tl_DN, spl_last1 (free _)]
    simp [tl_DN]
  · rw [tl_append, tl_append, tl_DN, tl_DN, tl_slash, List.append_assoc, spl_part1 (free _), spl_last1 (free _)]
    simp [tl_DN]
theorem DN_inj {m n : Nat} (h : DN m = DN n) : m = n := numL_inj (by rw [← tl_DN, ← tl_DN, h])
theorem dg_inj {p q : Rat} (h : dg p = dg q) : p = q := by
  have h1 := starts_dg p
  rw [h, starts_dg q] at h1
  have hc : core p = core q := by rw [← rp_dg, h, rp_dg]
  have hp := part_core p
  rw [hc, part_core q] at hp
  have nz : Str.empty ≠ Str.ofString "/" := by decide +kernel
  have sgn : (q.num < 0) ↔ (p.num < 0) := by
    have := decide_eq_decide.mp h1
    exact this
  have fin : p.num.natAbs = q.num.natAbs → p.den = q.den → p = q := fun e1 e2 => Rat.ext (by omega) e2
  by_cases d1 : p.den = 1 <;> by_cases d2 : q.den = 1
  · rw [if_pos d1, if_pos d2] at hp
    exact fin (DN_inj (congrArg (·.1) hp)).symm (d1.trans d2.symm)
  · rw [if_pos d1, if_neg d2] at hp
    exact absurd (congrArg (·.2.1) hp).symm nz
  · rw [if_neg d1, if_pos d2] at hp
    exact absurd (congrArg (·.2.1) hp) nz
  · rw [if_neg d1, if_neg d2] at hp
    exact fin (DN_inj (congrArg (·.1) hp)).symm (DN_inj (congrArg (·.2.2) hp)).symm
/-! ### natural texts -/
theorem dig_uni : ∀ c, c < 128 → (Unicode.isDigit c = true ↔ 48 ≤ c ∧ c ≤ 57) := by decide +kernel
theorem dig_all {x : Str} : (Txt.isascii x && Txt.isdigit x) = true ↔ (NumText.AllDigits (tl x) ∧ tl x ≠ []) := by
  unfold Txt.isascii Txt.isdigit
  rw [Bool.and_eq_true, Bool.and_eq_true, ← Array.all_toList, ← Array.all_toList, List.all_eq_true, List.all_eq_true, decide_eq_true_iff]
  constructor
  · rintro ⟨h1, h2, h3⟩
    refine ⟨fun c hc => (dig_uni c (of_decide_eq_true (h1 c hc))).mp (h3 c hc), fun e => ?_⟩
    rw [len_tl, e] at h2
    simp at h2
  · rintro ⟨h1, h2⟩
    refine ⟨fun c hc => decide_eq_true (by have := h1 c hc; omega), ?_, fun c hc => (dig_uni c (by have := h1 c hc; omega)).mpr (h1 c hc)⟩
    rw [len_tl]
    cases e : tl x with
    | nil => exact absurd e h2
    | cons a l => simp
def natB (x : Str) : Bool := (Txt.isascii x && Txt.isdigit x) && (decide (x = Str.ofString "0") || !Txt.startswith x (Str.ofString "0"))
theorem val_lt : ∀ (l : List Nat) (a : Nat), NumText.AllDigits l → l.foldl (fun acc c => acc * 10 + (c - 48)) a < (a + 1) * 10 ^ l.length
  | [], a, _ => by simp
  | c :: r, a, h => by
    rw [List.foldl_cons, List.length_cons]
    have hc := h c (by simp)
    have ih := val_lt r (a * 10 + (c - 48)) fun d hd => h d (by simp [hd])
    refine Nat.lt_of_lt_of_le ih ?_
    rw [Nat.pow_succ, Nat.mul_comm (10 ^ r.length) 10, ← Nat.mul_assoc]
    exact Nat.mul_le_mul_right _ (by omega)
theorem dig_int {x : Str} (h : NumText.AllDigits (tl x)) (h1 : tl x ≠ []) (hl : x.length ≤ 640) : PySem.intText? x = some ((NumText.digitsVal (tl x) : Nat) : Int) ∧ NumText.digitsVal (tl x) < 10 ^ x.length := by
  refine ⟨intText_digits h h1 (by omega), ?_⟩
  have := val_lt (tl x) 0 h
  rw [len_tl]
  rw [Nat.zero_add, Nat.one_mul] at this
  exact this
theorem numL_head {n : Nat} : 0 < n → ∃ c r, numL n = c :: r ∧ 49 ≤ c := by
  induction n using Nat.strongRecOn with
  | _ n ih =>
    intro h
    by_cases h10 : n < 10
    · exact ⟨48 + n, [], numL_lt h10, by omega⟩
    · obtain ⟨c, r, e, hc⟩ := ih (n / 10) (by omega) (by omega)
      exact ⟨c, r ++ [48 + n % 10], by rw [numL_step (by omega), e]; rfl, hc⟩
theorem nat_DN (n : Nat) : natB (DN n) = true := by
  unfold natB
  rw [Bool.and_eq_true]
  refine ⟨dig_all.mpr ⟨by rw [tl_DN]; exact numL_digits n, by rw [tl_DN]; exact numL_ne n⟩, ?_⟩
  rw [starts1 _ _ tl_zero, tl_DN]
  by_cases h : n = 0
  · subst h
    rw [decide_eq_true (by decide +kernel : DN 0 = Str.ofString "0")]
    rfl
  · obtain ⟨c, r, e, hc⟩ := numL_head (Nat.pos_of_ne_zero h)
    rw [e]
    have : ¬ ([c] = [48]) := by simp; omega
    simp
    omega
theorem nat_pos {x : Str} (h : natB x = true) (h0 : x ≠ Str.ofString "0") : NumText.digitsVal (tl x) ≠ 0 := by
  unfold natB at h
  rw [Bool.and_eq_true, decide_eq_false h0, Bool.false_or, starts1 _ _ tl_zero] at h
  obtain ⟨h1, h2⟩ := h
  obtain ⟨d, ne⟩ := dig_all.mp h1
  cases e : tl x with
  | nil => exact absurd e ne
  | cons c r =>
    rw [e] at h2 d
    have hc := d c (by simp)
    have hn : c ≠ 48 := by
      intro z
      rw [z] at h2
      simp at h2
    exact Nat.pos_iff_ne_zero.mp (NumText.digitsVal_pos (by omega))
theorem val_DN (n : Nat) : NumText.digitsVal (tl (DN n)) = n := by rw [tl_DN, numL_val]
theorem DN_zero {n : Nat} (h : n ≠ 0) : DN n ≠ Str.ofString "0" := fun e => h (DN_inj (e.trans (by decide +kernel : Str.ofString "0" = DN 0)))
/-! ### parts of a text -/
theorem par_len (S : List Nat) : ∀ (l acc a b : List Nat), par S acc l = some (a, b) → a.length + b.length ≤ acc.length + l.length
  | [], acc, a, b, h => by cases h
  | c :: r, acc, a, b, h => by
    by_cases hp : pre S (c :: r) = true
    · rw [par_hit hp] at h
      obtain ⟨rfl, rfl⟩ := Prod.mk.inj (Option.some.inj h)
      rw [List.length_drop]
      omega
    · have hp' : pre S (c :: r) = false := by simpa using hp
      rw [par_miss hp'] at h
      have := par_len S r (acc ++ [c]) a b h
      simp only [List.length_append, List.length_cons, List.length_nil] at this ⊢
      omega
theorem part_le (x : Str) : (Txt.partition x (Str.ofString "/")).1.length ≤ x.length ∧ (Txt.partition x (Str.ofString "/")).2.2.length ≤ x.length := by
  rw [partition_par _ _ (by rw [tl_slash]; simp)]
  cases e : par (tl (Str.ofString "/")) [] (tl x) with
  | none => exact ⟨Nat.le_refl _, Nat.zero_le _⟩
  | some ab =>
    obtain ⟨a, b⟩ := ab
    have := par_len _ _ _ _ _ e
    rw [len_tl x]
    simp only [List.length_nil] at this
    constructor
    · show (⟨a.toArray⟩ : Str).length ≤ _
      rw [len_tl, tl_mk]
      omega
    · show (⟨b.toArray⟩ : Str).length ≤ _
      rw [len_tl, tl_mk]
      omega
theorem spl_len (S : List Nat) : ∀ (l acc : List Nat) (k : Nat) (p : List Nat), p ∈ spl S k acc l → p.length ≤ acc.length + l.length
  | [], acc, k, p, h => by
    rw [spl_nil] at h
    have e : p = acc := by simpa using h
    rw [e]
    omega
  | c :: r, acc, k + 1, p, h => by
    have h' : p ∈ spl S k acc r := h
    have := spl_len S r acc k p h'
    simp only [List.length_cons]
    omega
  | c :: r, acc, 0, p, h => by
    by_cases hp : pre S (c :: r) = true
    · rw [spl_hit hp] at h
      rcases List.mem_cons.mp h with rfl | h
      · omega
      · have := spl_len S r [] _ p h
        simp only [List.length_nil, List.length_cons] at this ⊢
        omega
    · have hp' : pre S (c :: r) = false := by simpa using hp
      rw [spl_miss hp'] at h
      have := spl_len S r _ 0 p h
      simp only [List.length_append, List.length_cons, List.length_nil] at this ⊢
      omega
theorem spl_ne (S : List Nat) : ∀ (l acc : List Nat) (k : Nat), spl S k acc l ≠ []
  | [], acc, k => by rw [spl_nil]; simp
  | c :: r, acc, k + 1 => spl_ne S r acc k
  | c :: r, acc, 0 => by
    by_cases hp : pre S (c :: r) = true
    · rw [spl_hit hp]; simp
    · have hp' : pre S (c :: r) = false := by simpa using hp
      rw [spl_miss hp']
      exact spl_ne S r _ 0
theorem split_facts (x : Str) : Txt.split x (Str.ofString "/") ≠ [] ∧ ∀ p ∈ Txt.split x (Str.ofString "/"), p.length ≤ x.length := by
  have e := split_spl x (Str.ofString "/") (by rw [tl_slash]; simp) (kind_ok (by decide +kernel))
  refine ⟨fun z => ?_, fun p hp => ?_⟩
  · rw [z] at e
    exact spl_ne _ _ _ _ e.symm
  · have h : tl p ∈ (Txt.split x (Str.ofString "/")).map tl := List.mem_map.mpr ⟨p, hp, rfl⟩
    rw [e] at h
    have := spl_len _ _ _ _ _ h
    rw [len_tl, len_tl]
    simpa using this
/-! ### slices -/
theorem tl_cut (z : Str) (lo hi : Option Int) : ∃ a b, tl (cutS z lo hi) = ((tl z).drop a).take b := ⟨_, _, rfl⟩
theorem asc_cut {z : Str} (h : Asc z) (lo hi : Option Int) : Asc (cutS z lo hi) := fun c hc => by
  obtain ⟨a, b, e⟩ := tl_cut z lo hi
  have hc' : c ∈ tl (cutS z lo hi) := hc
  rw [e] at hc'
  exact h c (List.mem_of_mem_drop (List.mem_of_mem_take hc'))
theorem cut_first (z : Str) : cutS z none (some 1) = Str.ofString "-" ↔ (tl z).take 1 = [45] := by
  have e : tl (cutS z none (some 1)) = (tl z).take 1 := by
    show ((tl z).drop (HT.sIx z.length 0 none)).take (HT.sIx z.length z.length (some 1) - HT.sIx z.length 0 none) = _
    have h0 : HT.sIx z.length 0 none = 0 := rfl
    rw [h0, List.drop_zero, Nat.sub_zero]
    have h1 : HT.sIx z.length z.length (some 1) = min 1 z.length := by
      unfold HT.sIx
      simp
    rw [h1, len_tl]
    rw [← List.take_take]
    rw [List.take_of_length_le (Nat.le_refl (tl z).length)]
  constructor
  · intro h
    rw [← e, h, tl_minus]
  · intro h
    exact ext_tl (by rw [e, h, tl_minus])
theorem cut_rest (z : Str) : tl (cutS z (some 1) none) = (tl z).drop 1 := by
  show ((tl z).drop (HT.sIx z.length 0 (some 1))).take (HT.sIx z.length z.length none - HT.sIx z.length 0 (some 1)) = _
  have h0 : HT.sIx z.length z.length none = z.length := rfl
  have h1 : HT.sIx z.length 0 (some 1) = min 1 z.length := by
    unfold HT.sIx
    simp
  rw [h0, h1, len_tl]
  by_cases hz : (tl z).length = 0
  · have : tl z = [] := List.length_eq_zero_iff.mp hz
    rw [this]
    rfl
  · have hm : min 1 (tl z).length = 1 := by omega
    rw [hm]
    rw [List.take_of_length_le]
    rw [List.length_drop]
    omega
/-! ### the law's own digits -/
theorem tl_figs : tl (Str.ofString "0123456789") = [48, 49, 50, 51, 52, 53, 54, 55, 56, 57] := by decide +kernel
def figB (c : Nat) : Bool := decide (c ∈ tl (Str.ofString "0123456789"))
theorem fig_iff (c : Nat) : figB c = true ↔ 48 ≤ c ∧ c ≤ 57 := by
  unfold figB
  rw [decide_eq_true_iff, tl_figs]
  simp only [List.mem_cons, List.not_mem_nil, or_false]
  omega
/-- half != '' and all digits -/
def digB (h : Str) : Bool := if h = Str.empty then false else ((tl h).map figB).all id
theorem empty_tl {h : Str} : h = Str.empty ↔ tl h = [] := ⟨fun e => by rw [e]; rfl, fun e => ext_tl (by rw [e]; rfl)⟩
theorem digB_iff {h : Str} : digB h = true ↔ NumText.AllDigits (tl h) ∧ tl h ≠ [] := by
  unfold digB
  by_cases e : h = Str.empty
  · rw [if_pos e]
    simp [empty_tl.mp e]
  · rw [if_neg e]
    have ne : tl h ≠ [] := fun z => e (empty_tl.mpr z)
    rw [List.all_eq_true]
    constructor
    · intro a
      exact ⟨fun c hc => (fig_iff c).mp (a _ (List.mem_map.mpr ⟨c, hc, rfl⟩)), ne⟩
    · rintro ⟨a, _⟩ b hb
      obtain ⟨c, hc, rfl⟩ := List.mem_map.mp hb
      exact (fig_iff c).mpr (a c hc)
theorem digB_DN (n : Nat) : digB (DN n) = true := digB_iff.mpr ⟨by rw [tl_DN]; exact numL_digits n, by rw [tl_DN]; exact numL_ne n⟩
/-- the fraction of the pieces -/
theorem frac_of (p : Rat) : (if p.num < 0 then Rat.divInt (-(p.num.natAbs : Int)) p.den else Rat.divInt (p.num.natAbs : Int) p.den) = p := by
  split
  · have e : -(p.num.natAbs : Int) = p.num := by omega
    rw [e, Rat.num_divInt_den]
  · have e : (p.num.natAbs : Int) = p.num := by omega
    rw [e, Rat.num_divInt_den]
theorem frac_neg (p : Rat) : (if p.num < 0 then -(Rat.divInt (p.num.natAbs : Int) p.den) else Rat.divInt (p.num.natAbs : Int) p.den) = p := by
  rw [Rat.neg_divInt]
  exact frac_of p
end Lw

namespace Lw
open PySem PySem.Spec PyProof.Rows L2 MG TL
abbrev s_Matrix_entries : Stmt := inClass (top 43) 1
abbrev s_Matrix_rows : Stmt := inClass (top 43) 2
abbrev s_Matrix_columns : Stmt := inClass (top 43) 3
abbrev s_Matrix_transposed : Stmt := inClass (top 43) 4
abbrev s_Matrix___getitem__ : Stmt := inClass (top 43) 16
abbrev s_Matrix___eq__ : Stmt := inClass (top 43) 18
abbrev s_Matrix___str__ : Stmt := inClass (top 43) 19
abbrev s_Matrix___repr__ : Stmt := inClass (top 43) 20
abbrev s_is_index : Stmt := top 35
abbrev s_is_size : Stmt := top 38
def Bds (r c : Nat) (f : Nat → Nat → Rat) (k : Nat) : Prop := ∀ i j, i < r → j < c → Bd (f i j) k
theorem DN_len {n k : Nat} (hk : 0 < k) (h : n < 10 ^ k) : (DN n).length ≤ k := by
  rw [len_tl, tl_DN]
  exact numL_len hk h
theorem dg_len {p : Rat} {k : Nat} (hk : 0 < k) (b : Bd p k) : (dg p).length ≤ 2 * k + 2 := by
  have h1 := DN_len hk b.1
  have h2 := DN_len (n := p.den) hk b.2
  have e1 : (Str.ofString "/").length = 1 := rfl
  have e2 : (Str.ofString "-").length = 1 := rfl
  have hc : (core p).length ≤ 2 * k + 1 := by
    unfold core
    split
    · omega
    · rw [strLen_append, strLen_append]; omega
  rw [dg_core]
  split
  · rw [strLen_append]; omega
  · omega
def rowT (c : Nat) (g : Nat → Rat) : Str := Txt.join (Str.ofString " ") ((List.range c).map fun j => dg (g j))
def tabT (r c : Nat) (f : Nat → Nat → Rat) : Str := Txt.join (Str.ofString "; ") ((List.range r).map fun i => rowT c (f i))
theorem join_le {n : Nat} (y : Str) {ts : List Str} (h : ∀ t ∈ ts, t.length ≤ n) : (Txt.join y ts).length ≤ (n + y.length) * ts.length := by
  rw [join_eq]
  have h1 := StrLaws.join_length_le y ts
  have h2 := sum_le h
  rw [Nat.add_mul, Nat.mul_comm y.length]
  omega
theorem mem_tab {α : Type} {n : Nat} {f : Nat → α} {x : α} (h : x ∈ (List.range n).map f) : ∃ i, i < n ∧ x = f i := by
  obtain ⟨i, hi, rfl⟩ := List.mem_map.mp h
  exact ⟨i, List.mem_range.mp hi, rfl⟩
theorem rowT_len {c k : Nat} {g : Nat → Rat} (hk : 0 < k) (b : ∀ j, j < c → Bd (g j) k) : (rowT c g).length ≤ (2 * k + 3) * c := by
  have := join_le (n := 2 * k + 2) (Str.ofString " ") (ts := (List.range c).map fun j => dg (g j)) fun t ht => by
    obtain ⟨j, hj, rfl⟩ := mem_tab ht
    exact dg_len hk (b j hj)
  have e1 : (Str.ofString " ").length = 1 := rfl
  rw [e1, List.length_map, List.length_range] at this
  exact this
theorem strs_of {ys : List V} {n : Nat} {f : Nat → Str} (hl : ys.length = n) (h : ∀ (i : Nat) (y : V), ys[i]? = some y → y = .str (f i)) : ys = ((List.range n).map f).map V.str := by
  refine List.ext_getElem? fun i => ?_
  rw [List.map_map, List.getElem?_map]
  by_cases hi : i < n
  · rw [List.getElem?_range hi, List.getElem?_eq_getElem (by omega)]
    exact congrArg some (h i _ (List.getElem?_eq_getElem (by omega)))
  · rw [List.getElem?_eq_none (by omega), List.getElem?_eq_none (by simpa using hi)]
    rfl
section
variable {P : Program} {w : World} {K : PySem.W.Frag} {mg : Str → Option Value} {base : Heap} {C CM CX : Addr}
/-- sizes that occur -/
def Sz (r c : Nat) : Prop := 0 < r ∧ r ≤ 1000 ∧ 0 < c ∧ c ≤ 1000
/-- the reading of Matrix(t) -/
theorem make_mat {H : Hp} {t : Addr} {r c : Nat} {f : Nat → Nat → Rat} {Q : VK} (ht : Tb (RC C) H t r c f) (z : Sz r c) (k : ∀ m H', H m = none → Same H H' → MtAt C CM H' m r c f → Q (.ref m) H') :
    ∀ x dx, H x = none → H dx = none → dx ≠ x → spMInit C CM [.ref x, .ref t] (upd (upd H dx (.own x)) x (.ins CM dx [])) (fun v H2 => v = .non ∧ Q (.ref x) H2) E0 := by
  intro x dx hx hdx hne
  have s1 : Same H (upd (upd H dx (.own x)) x (.ins CM dx [])) := MG.Same.new (MG.Same.new (Same.refl H) hdx) (by rw [upd_ne (fun e => hne e.symm)]; exact hx)
  refine ⟨x, dx, t, r, c, f, rfl, upd_same, (ht.same (rc_mono C) s1).imp RC.num, z, fun H' t' e tb kp => ⟨rfl, k x H' hx (fun b o hb => ?_) ⟨dx, t', e, tb⟩⟩⟩
  exact kp b o (s1 _ _ hb) (ne_of_none hb hx)
/-! ### properties -/
def spEntries (CM : Addr) : Sp := fun vs H Q _ => ∃ (a dx t : Addr), vs = [.ref a] ∧ H a = some (.ins CM dx (mfl t)) ∧ Q (.ref t) H
theorem sc_Matrix_entries : FnScope ["self"] ["self"] (defScope s_Matrix_entries) := ⟨rfl, rfl, rfl, by decide +kernel, rfl, by decide +kernel, by decide +kernel⟩
theorem ok_entries {f : Addr} {fd : FuncData} (F : Fun K "entries" "Matrix.entries" s_Matrix_entries f fd) (T : TxM K mg C CM) : FnOk P w K mg base CX0 2 f fd ["self"] (spEntries CM) := by
  refine F.ok sc_Matrix_entries (fun vs H Q E h => ?_) (fun cdv A outer s H vs Q E hr h => ?_)
  · obtain ⟨a, dx, t, rfl, _⟩ := h
    rfl
  · obtain ⟨a, dx, t, rfl, ha, k⟩ := h
    exact ⟨_, (pss_one (ps_ret (pe_fldK (K := K) (pv 0) rfl))), _, rfl, a, CM, dx, _, _, rfl, ha, T.clM, T.nE, mfl_at t, k⟩
def spRows (C CM : Addr) : Sp := fun vs H Q _ => ∃ (a : Addr) (r c : Nat) (f : Nat → Nat → Rat), vs = [.ref a] ∧ MtAt C CM H a r c f ∧ Q (.int r) H
theorem sc_Matrix_rows : FnScope ["self"] ["self"] (defScope s_Matrix_rows) := ⟨rfl, rfl, rfl, by decide +kernel, rfl, by decide +kernel, by decide +kernel⟩
theorem ok_rows {f : Addr} {fd : FuncData} (F : Fun K "rows" "Matrix.rows" s_Matrix_rows f fd) (T : TxM K mg C CM) : FnOk P w K mg base CX0 2 f fd ["self"] (spRows C CM) := by
  refine F.ok sc_Matrix_rows (fun vs H Q E h => ?_) (fun cdv A outer s H vs Q E hr h => ?_)
  · obtain ⟨a, r, c, g, rfl, _⟩ := h
    rfl
  · obtain ⟨a, r, c, g, rfl, ⟨dx, t, ha, rs, ht, hl, hrow⟩, k⟩ := h
    refine ⟨_, (pss_one (ps_ret (pe_callB (id := "len") (call_len_seqK (K := K)) (by rfl) T.b_len (by decide +kernel) (pa_cons (pe_fldK (K := K) (pv 0) rfl) pa_nil)))), _, rfl, a, CM, dx, _, _, rfl, ha, T.clM, T.nE, mfl_at t, t, rs, rfl, .inr (SqT.of ht), ?_⟩
    rw [hl]
    exact k
def spColumns (C CM : Addr) : Sp := fun vs H Q _ => ∃ (a : Addr) (r c : Nat) (f : Nat → Nat → Rat), vs = [.ref a] ∧ MtAt C CM H a r c f ∧ 0 < r ∧ Q (.int c) H
theorem sc_Matrix_columns : FnScope ["self"] ["self"] (defScope s_Matrix_columns) := ⟨rfl, rfl, rfl, by decide +kernel, rfl, by decide +kernel, by decide +kernel⟩
theorem ok_columns {f : Addr} {fd : FuncData} (F : Fun K "columns" "Matrix.columns" s_Matrix_columns f fd) (T : TxM K mg C CM) : FnOk P w K mg base CX0 2 f fd ["self"] (spColumns C CM) := by
  refine F.ok sc_Matrix_columns (fun vs H Q E h => ?_) (fun cdv A outer s H vs Q E hr h => ?_)
  · obtain ⟨a, r, c, g, rfl, _⟩ := h
    rfl
  · obtain ⟨a, r, c, g, rfl, ⟨dx, t, ha, rs, ht, hl, hrow⟩, hr0, k⟩ := h
    have h0 : rs[0]? = some rs[0] := List.getElem?_eq_getElem (by omega)
    obtain ⟨p, xs, e, hp, hxl, _⟩ := hrow 0 _ h0
    refine ⟨_, (pss_one (ps_ret (pe_callB (id := "len") (call_len_seqK (K := K)) (by rfl) T.b_len (by decide +kernel) (pa_cons (pe_ix (ix_tupK (K := K)) (pe_fldK (K := K) (pv 0) rfl) pe_int (fun _ _ => rfl)) pa_nil)))), _, rfl, a, CM, dx, _, _, rfl, ha, T.clM, T.nE, mfl_at t, t, _, _, _, rfl, rfl, SqT.of ht, atI_nat h0, ?_⟩
    rw [e]
    refine ⟨p, xs, rfl, .inr (SqT.of hp), ?_⟩
    rw [hxl]
    exact k
abbrev EntriesC (P : Program) (w : World) (K : PySem.W.Frag) (mg : Str → Option Value) (base : Heap) (CM : Addr) : Prop := PropF P w K mg base 2 CM "entries" (spEntries CM)
abbrev RowsC (P : Program) (w : World) (K : PySem.W.Frag) (mg : Str → Option Value) (base : Heap) (C CM : Addr) : Prop := PropF P w K mg base 2 CM "rows" (spRows C CM)
abbrev ColumnsC (P : Program) (w : World) (K : PySem.W.Frag) (mg : Str → Option Value) (base : Heap) (C CM : Addr) : Prop := PropF P w K mg base 2 CM "columns" (spColumns C CM)
def spTrans (C CM : Addr) : Sp := fun vs H Q _ => ∃ (a : Addr) (r c : Nat) (f : Nat → Nat → Rat), vs = [.ref a] ∧ MtAt C CM H a r c f ∧ Sz r c ∧ ∀ m H', Same H H' → MtAt C CM H' m c r (fun i j => f j i) → Q (.ref m) H'
theorem sc_Matrix_transposed : FnScope ["self", "index", "row"] ["self"] (defScope s_Matrix_transposed) := ⟨rfl, rfl, rfl, by decide +kernel, rfl, by decide +kernel, by decide +kernel⟩
theorem ok_trans {f : Addr} {fd : FuncData} (F : Fun K "transposed" "Matrix.transposed" s_Matrix_transposed f fd) (T : TxM K mg C CM) (m_mat : MatC P w K mg base C CM) (pm_columns : ColumnsC P w K mg base C CM) : FnOk P w K mg base CX0 10 f fd ["self"] (spTrans C CM) := by
  refine F.ok sc_Matrix_transposed (fun vs H Q E h => ?_) (fun cdv A outer s H vs Q E hr h => ?_)
  · obtain ⟨a, r, c, g, rfl, _⟩ := h
    rfl
  · obtain ⟨a, r, c, g, rfl, hM, z, k⟩ := h
    obtain ⟨dx, t, ha, hT⟩ := id hM
    obtain ⟨rs, ht, hl, hrow⟩ := id hT
    obtain ⟨z1, z2, z3, z4⟩ := id z
    refine ⟨_, (pss_one (ps_ret (pe_mkf m_mat hr (by decide) rfl (pa_cons (pe_callTy (call_tuple_ofK (K := K)) (by rfl) T.b_tuple (by decide +kernel) (pa_cons (pe_lcI (pe_lc (own := [("index", 1)]) rfl sc_Matrix_transposed.nd (pi_range1 (by rfl) T.b_range (pa_cons (pe_pf pm_columns T.clM hr (by decide) (pv 0) rfl) pa_nil)) (blkOk_by (N := ["self", "index", "row"]) (sc := (defScope s_Matrix_transposed)) (by decide +kernel)) (fun _ _ _ _ _ => (pg_name (i := 1) sc_Matrix_transposed.nd rfl (Or.inr rfl))) (fun _ _ _ _ _ => pts_nil) (fun _ _ _ _ _ => (pe_cut (pe_callTy (call_tuple_ofK (K := K)) (by rfl) T.b_tuple (by decide +kernel) (pa_cons (pe_lcI (pe_lc (own := [("row", 2)]) rfl sc_Matrix_transposed.nd (pi_tupK (K := K) (pe_fldK (K := K) (pv 0) rfl)) (blkOk_by (N := ["self", "index", "row"]) (sc := ({ kind := .function, names := [(PySem.Str.ofString ".0", .local), (PySem.Str.ofString "index", .cell), (PySem.Str.ofString "tuple", .globalImplicit), (PySem.Str.ofString "self", .cell)], isGenerator := false, isCoroutine := false } : Scope)) (by decide +kernel)) (fun _ _ _ _ _ => (pg_name (i := 2) sc_Matrix_transposed.nd rfl (Or.inl rfl))) (fun _ _ _ _ _ => pts_nil) (fun _ _ _ _ _ => (pe_cut (pe_ix (ix_tupK (K := K)) (pv 2) (pv 1) (fun _ _ => rfl)))))) pa_nil)))))) pa_nil)) pa_nil)))), ?_⟩
    refine ⟨_, rfl, a, dx, _, rfl, ha, a, r, c, g, rfl, hM, z1, c, rfl, by omega, by omega, fun D hD => ?_⟩
    refine lc_same (walk_range (lo := 0) (n := c)) hD (by omega) (fun i y G => Rw (RC C) G y r (fun j => g j i)) (fun i y G G' h s => h.same (rc_mono C) s) (fun G s => trivial) yfn_same (fun i x H1 H1' hi s1 _ hy => ?_) fun ys H1 hl1 s1 e1 h1 => ?_
    · obtain ⟨rfl, rfl⟩ := hy
      refine ⟨_, fun _ h => h, wipe_one, ?_⟩
      obtain ⟨rs2, ht2, hl2, hrow2⟩ := hT.same (rc_mono C) s1
      refine ⟨_, rfl, a, CM, dx, _, _, rfl, s1 _ _ ha, T.clM, T.nE, mfl_at t, t, rfl, ⟨rs2, SqT.of ht2⟩, fun D2 hD2 => ?_⟩
      refine lc_same (walk_tup (K := K) (a := t) (xs := rs2)) hD2 (by omega) (fun j y G => RC C G y (g j i)) (fun j y G G' h s => (rc_mono C).same h s) (fun G s => SqT.of (s _ _ ht2)) yat_same (fun j x H2 H2' hj s2 _ hy => ?_) fun ys2 H2 hl3 s2 e2 h2 => ?_
      · obtain ⟨rfl, hx⟩ := hy
        refine ⟨_, fun _ h => h, wipe_one, ?_⟩
        obtain ⟨p, xs, rfl, hp, hxl, hc⟩ := (hrow2 j x hx).same (rc_mono C) s2
        have hx2 : xs[i]? = some xs[i] := List.getElem?_eq_getElem (by omega)
        obtain ⟨b, e', hb⟩ := hc i _ hx2
        have ei : V.int (0 + (i : Int)) = V.int (i : Int) := by rw [Int.zero_add]
        refine ⟨_, rfl, _, rfl, p, _, _, _, rfl, ei, SqT.of hp, atI_nat hx2, Same.refl _, fun ⟨l, hl⟩ => ?_⟩
        rw [e']
        exact (rc_mono C).hid ⟨b, rfl, hb⟩ hl
      · refine ⟨D2, ys2, rfl, .inl ⟨SqL.of e2, fun T2 hT2 => ⟨MG.Same.new s2 hT2, fun ⟨l, hl⟩ => ?_⟩⟩⟩
        exact (rw_new (rc_mono C) (hid_same D2 H2) hT2 (hl3.trans hl2) h2).hid (rc_mono C) hl
    refine ⟨D, ys, rfl, .inl ⟨SqL.of e1, fun T3 hT3 => ?_⟩⟩
    have s4 : Same H (upd H1 T3 (.tup ys)) := MG.Same.new s1 hT3
    exact make_mat (tb_new (rc_mono C) (hid_same D H1) hT3 hl1 h1) ⟨z3, z4, z1, z2⟩ fun m H' _ s h => k m H' (s4.trans s) h
abbrev TransC (P : Program) (w : World) (K : PySem.W.Frag) (mg : Str → Option Value) (base : Heap) (C CM : Addr) : Prop := PropF P w K mg base 10 CM "transposed" (spTrans C CM)
/-! ### Matrix.__str__ -/
def spMStr (C CM : Addr) : Sp := fun vs H Q _ => ∃ (a : Addr) (r c : Nat) (f : Nat → Nat → Rat), vs = [.ref a] ∧ MtAt C CM H a r c f ∧ r ≤ 101 ∧ c ≤ 101 ∧ Bds r c f 300 ∧ ∀ H', Same H H' → Q (.str (tabT r c f)) H'
theorem sc_Matrix___str__ : FnScope ["self", "row", "number"] ["self"] (defScope s_Matrix___str__) := ⟨rfl, rfl, rfl, by decide +kernel, rfl, by decide +kernel, by decide +kernel⟩
theorem ok_mstr {f : Addr} {fd : FuncData} (F : Fun K "__str__" "Matrix.__str__" s_Matrix___str__ f fd) (T : TxM K mg C CM) (d_str : DunF P w K mg base 2 C "__str__" (spStr C)) : FnOk P w K mg base CX0 6 f fd ["self"] (spMStr C CM) := by
  refine F.ok sc_Matrix___str__ (fun vs H Q E h => ?_) (fun cdv A outer s H vs Q E hr h => ?_)
  · obtain ⟨a, r, c, f, rfl, _⟩ := h
    rfl
  · obtain ⟨a, r, c, f, rfl, ⟨dx, t, ea, rs, ht, hl, hrow⟩, hr1, hc1, bd, k⟩ := h
    refine ⟨_, (pss_one (ps_ret (pe_joinK (K := K) pe_str (pe_lcI (pe_lc (own := [("row", 1)]) rfl sc_Matrix___str__.nd (pi_tupK (K := K) (pe_fldK (K := K) (pv 0) rfl)) (blkOk_by (N := ["self", "row", "number"]) (sc := (defScope s_Matrix___str__)) (by decide +kernel)) (fun _ _ _ _ _ => (pg_name (i := 1) sc_Matrix___str__.nd rfl (Or.inl rfl))) (fun _ _ _ _ _ => pts_nil) (fun _ _ _ _ _ => (pe_cut (pe_joinK (K := K) pe_str (pe_lcI (pe_lc (own := [("number", 2)]) rfl sc_Matrix___str__.nd (pi_tupK (K := K) (pv 1)) (blkOk_by (N := ["self", "row", "number"]) (sc := ({ kind := .function, names := [(PySem.Str.ofString ".0", .local), (PySem.Str.ofString "row", .local)], isGenerator := false, isCoroutine := false } : Scope)) (by decide +kernel)) (fun _ _ _ _ _ => (pg_name (i := 2) sc_Matrix___str__.nd rfl (Or.inl rfl))) (fun _ _ _ _ _ => pts_nil) (fun _ _ _ _ _ => (pe_cut (pe_callTy (str_f d_str hr (by decide)) (by rfl) T.b_str (by decide +kernel) (pa_cons (pv 2) pa_nil)))))))))))))), ?_⟩
    refine ⟨⟨_, rfl⟩, _, rfl, a, CM, dx, _, _, rfl, ea, T.clM, T.nE, mfl_at t, t, rfl, ⟨rs, SqT.of ht⟩, fun D hD => ?_⟩
    refine lc_same (walk_tup (K := K) (a := t) (xs := rs)) hD (by omega) (fun i y _ => y = .str (rowT c (f i))) (fun _ _ _ _ e _ => e) (fun H' s' => SqT.of (s' _ _ ht)) yat_same (fun i x H1 H1' hi s1 _ hy => ?_) fun ys H1 hl1 s1 e1 h1 => ?_
    · obtain ⟨rfl, hx⟩ := hy
      obtain ⟨p, xs, rfl, hp, hxl, hc⟩ := (hrow i x hx).same (rc_mono C) s1
      refine ⟨_, fun _ h => h, wipe_one, ?_⟩
      refine ⟨⟨_, rfl⟩, _, rfl, p, rfl, ⟨xs, SqT.of hp⟩, fun D2 hD2 => ?_⟩
      refine lc_same (walk_tup (K := K) (a := p) (xs := xs)) hD2 (by omega) (fun j y _ => y = .str (dg (f i j))) (fun _ _ _ _ e _ => e) (fun H' s' => SqT.of (s' _ _ hp)) yat_same (fun j y H2 H2' hj s2 _ hy => ?_) fun ys2 H2 hl2 s2 e2 h2 => ?_
      · obtain ⟨rfl, hy⟩ := hy
        obtain ⟨b, rfl, hb⟩ := hc j y hy
        have hb2 := hb.same s2
        obtain ⟨db, eb⟩ := id hb2
        have bj := bd i j (by omega) (by omega)
        refine ⟨_, fun _ h => h, wipe_one, ?_⟩
        exact ⟨_, rfl, b, db, _, rfl, eb, b, f i j, rfl, hb2, bj.num (by decide), bj.den (by decide), _, rfl, Same.refl _, fun _ => rfl⟩
      · have ey := strs_of (hl2.trans hxl) h2
        refine ⟨_, D2, (List.range c).map fun j => dg (f i j), rfl, rfl, .inl (SqL.of (by rw [e2, ey])), ?_, s2, fun _ => rfl⟩
        have := sum_le (n := 602) (ts := (List.range c).map fun j => dg (f i j)) fun t ht => by
          obtain ⟨j, hj, rfl⟩ := mem_tab ht
          exact dg_len (by decide) (bd i j (by omega) hj)
        have e1 : (Str.ofString " ").length = 1 := rfl
        simp only [List.length_map, List.length_range] at this ⊢
        rw [e1]
        omega
    · have ey := strs_of (hl1.trans hl) h1
      refine ⟨_, D, (List.range r).map fun i => rowT c (f i), rfl, rfl, .inl (SqL.of (by rw [e1, ey])), ?_, k H1 s1⟩
      have := sum_le (n := 603 * 101) (ts := (List.range r).map fun i => rowT c (f i)) fun t ht => by
        obtain ⟨i, hi, rfl⟩ := mem_tab ht
        exact Nat.le_trans (rowT_len (k := 300) (by decide) fun j hj => bd i j hi hj) (Nat.mul_le_mul_left _ hc1)
      have e1 : (Str.ofString "; ").length = 2 := rfl
      simp only [List.length_map, List.length_range] at this ⊢
      rw [e1]
      omega
/-! ### Matrix.__repr__ -/
def tabR (r c : Nat) (f : Nat → Nat → Rat) : Str := ("Matrix(" : Str) ++ reprText (tabT r c f) ++ (")" : Str)
abbrev MStrD (P : Program) (w : World) (K : PySem.W.Frag) (mg : Str → Option Value) (base : Heap) (C CM : Addr) : Prop := DunF P w K mg base 6 CM "__str__" (spMStr C CM)
theorem asc_dg (p : Rat) : Asc (dg p) := by
  unfold dg
  split
  · exact asc_int _
  · exact asc_append (asc_append (asc_int _) (asc_of _ (by decide +kernel))) (asc_int _)
theorem asc_tab (r c : Nat) (f : Nat → Nat → Rat) : Asc (tabT r c f) := by
  unfold tabT
  rw [join_eq]
  refine asc_join (asc_of _ (by decide +kernel)) fun t ht => ?_
  obtain ⟨i, hi, rfl⟩ := mem_tab ht
  unfold rowT
  rw [join_eq]
  refine asc_join (asc_of _ (by decide +kernel)) fun t ht => ?_
  obtain ⟨j, hj, rfl⟩ := mem_tab ht
  exact asc_dg _
theorem tab_len {r c : Nat} {f : Nat → Nat → Rat} (hr : r ≤ 101) (hc : c ≤ 101) (b : Bds r c f 43) : (tabT r c f).length ≤ 1000000 := by
  have := join_le (n := 89 * 101) (Str.ofString "; ") (ts := (List.range r).map fun i => rowT c (f i)) fun t ht => by
    obtain ⟨i, hi, rfl⟩ := mem_tab ht
    exact Nat.le_trans (rowT_len (k := 43) (by decide) fun j hj => b i j hi hj) (Nat.mul_le_mul_left _ hc)
  have e1 : (Str.ofString "; ").length = 2 := rfl
  rw [e1, List.length_map, List.length_range] at this
  unfold tabT
  exact Nat.le_trans this (Nat.le_trans (Nat.mul_le_mul_left _ hr) (by decide))
theorem Bds.mono {r c : Nat} {f : Nat → Nat → Rat} {k k' : Nat} (h : Bds r c f k) (hk : k ≤ k') : Bds r c f k' := fun i j hi hj => (h i j hi hj).mono hk
def spMRepr (C CM : Addr) : Sp := fun vs H Q _ => ∃ (a : Addr) (r c : Nat) (f : Nat → Nat → Rat), vs = [.ref a] ∧ MtAt C CM H a r c f ∧ r ≤ 101 ∧ c ≤ 101 ∧ Bds r c f 43 ∧ ∀ H', Same H H' → Q (.str (tabR r c f)) H'
theorem sc_Matrix___repr__ : FnScope ["self"] ["self"] (defScope s_Matrix___repr__) := ⟨rfl, rfl, rfl, by decide +kernel, rfl, by decide +kernel, by decide +kernel⟩
theorem ok_mrepr {f : Addr} {fd : FuncData} (F : Fun K "__repr__" "Matrix.__repr__" s_Matrix___repr__ f fd) (T : TxM K mg C CM) (d_mstr : MStrD P w K mg base C CM) : FnOk P w K mg base CX0 10 f fd ["self"] (spMRepr C CM) := by
  refine F.ok sc_Matrix___repr__ (fun vs H Q E h => ?_) (fun cdv A outer s H vs Q E hr h => ?_)
  · obtain ⟨a, r, c, f, rfl, _⟩ := h
    rfl
  · obtain ⟨a, r, c, f, rfl, hM, hr1, hc1, bd, k⟩ := h
    refine ⟨_, (pss_one (ps_ret (pe_joined (PJ.cons pe_str (PJ.cons (pe_fmtR (pe_callTy (str_f d_mstr hr (by decide)) (by rfl) T.b_str (by decide +kernel) (pa_cons (pv 0) pa_nil))) (PJ.cons pe_str PJ.nil)))))), ?_⟩
    obtain ⟨dx, t, ea, _⟩ := id hM
    have l1 := tab_len hr1 hc1 bd
    have l2 := PySem.StrLaws.reprText_len (tabT r c f) fun c hc => by have := (asc_tab _ _ _ c hc).2; omega
    have z1 : (("Matrix(" : Str)).length = 7 := rfl
    have z3 : ((")" : Str)).length = 1 := rfl
    refine ⟨_, rfl, ?_, _, rfl, a, dx, _, rfl, ea, a, r, c, f, rfl, hM, hr1, hc1, bd.mono (by decide), fun H' s => ⟨_, rfl, .inl ⟨_, rfl, Nat.le_trans (Nat.le_trans l2 (Nat.add_le_add_right (Nat.mul_le_mul_left 10 l1) 2)) (by decide), _, rfl, ?_, _, rfl, ?_, ?_⟩⟩⟩
    · rw [empty_add]; decide
    · rw [empty_add, strLen_append]; exact Nat.le_trans (m := 10000010) (by omega) (by decide)
    · rw [empty_add, strLen_append, strLen_append]; exact Nat.le_trans (m := 10000010) (by omega) (by decide)
    · rw [empty_add]; exact k H' s
/-! ### is_index, Matrix.__getitem__ -/
def spIsIx : Sp := fun vs H Q _ => ∃ (i n : Nat), vs = [.int i, .int n] ∧ i < n ∧ Q (.bl true) H
theorem sc_is_index : FnScope ["given", "count"] ["given", "count"] (defScope s_is_index) := ⟨rfl, rfl, rfl, by decide +kernel, rfl, by decide +kernel, by decide +kernel⟩
theorem ok_isix {f : Addr} {fd : FuncData} (F : Fun K "is_index" "is_index" s_is_index f fd) (T : Blt mg) (c_whole : WholeC P w K mg base) : FnOk P w K mg base CX0 4 f fd ["given", "count"] spIsIx := by
  refine F.ok sc_is_index (fun vs H Q E h => ?_) (fun cdv A outer s H vs Q E hr h => ?_)
  · obtain ⟨i, n, rfl, _⟩ := h
    rfl
  · obtain ⟨i, n, rfl, hi, k⟩ := h
    refine ⟨_, (pss_one (ps_ret (pe_and (pe_cf c_whole hr (by decide) rfl (pa_cons (pv 0) pa_nil)) (pe_one (pe_chain op_le op_lt pe_int (pv 0) (pv 1)))))), ?_⟩
    obtain ⟨t, b1, b2, h1, h2, h3, h4⟩ := whole_int (K := K) (H := H) (i : Int)
    refine ⟨_, rfl, _, t, b1, b2, rfl, h1, h2, h3, _, rfl, ?_⟩
    rw [h4]
    refine iteT ?_
    refine ⟨_, rfl, _, _, rfl, rfl, _, rfl, ifT (decide_eq_true (by omega)) ?_⟩
    refine ⟨_, rfl, _, _, rfl, rfl, ?_⟩
    show Q (.bl (decide ((i : Int) < (n : Int)))) H
    rw [decide_eq_true (show (i : Int) < (n : Int) by omega)]
    exact k
abbrev IsIxC (P : Program) (w : World) (K : PySem.W.Frag) (mg : Str → Option Value) (base : Heap) : Prop := CalF P w K mg base 4 "is_index" spIsIx []
def spMGet (C CM : Addr) : Sp := fun vs H Q _ => ∃ (a t : Addr) (r c : Nat) (f : Nat → Nat → Rat) (i j : Nat), vs = [.ref a, .ref t] ∧ H t = some (.tup [.int i, .int j]) ∧ MtAt C CM H a r c f ∧ i < r ∧ j < c ∧ ∀ b, RatAt C H b (f i j) → Q (.ref b) H
theorem sc_Matrix___getitem__ : FnScope ["self", "at"] ["self", "at"] (defScope s_Matrix___getitem__) := ⟨rfl, rfl, rfl, by decide +kernel, rfl, by decide +kernel, by decide +kernel⟩
theorem ok_mget {f : Addr} {fd : FuncData} (F : Fun K "__getitem__" "Matrix.__getitem__" s_Matrix___getitem__ f fd) (T : TxM K mg C CM) (c_isix : IsIxC P w K mg base) (pm_rows : RowsC P w K mg base C CM) (pm_columns : ColumnsC P w K mg base C CM) : FnOk P w K mg base CX0 8 f fd ["self", "at"] (spMGet C CM) := by
  refine F.ok sc_Matrix___getitem__ (fun vs H Q E h => ?_) (fun cdv A outer s H vs Q E hr h => ?_)
  · obtain ⟨a, t, r, c, f, i, j, rfl, _⟩ := h
    rfl
  · obtain ⟨a, t, r, c, f, i, j, rfl, ht, hM, hi, hj, k⟩ := h
    refine ⟨_, (pss_cons (ps_if (pt_not (PW.pt (pw_and (pt_val (pe_callB (id := "isinstance") (call_isiK (K := K)) (by rfl) T.b_isinstance (by decide +kernel) (pa_cons (pv 1) (pa_cons (pe_bltn (v := V.ty "tuple") (u := Value.type "tuple") (by rfl) T.b_tuple (by decide +kernel) rfl) pa_nil)))) (pw_and1 (pt_cmpR op_eq (pe_callB (id := "len") (call_len_seqK (K := K)) (by rfl) T.b_len (by decide +kernel) (pa_cons (pv 1) pa_nil)) pe_int (nomark _)))))) (pss_one ps_never)
  pss_nil)
  (pss_cons (ps_if (pt_not (PW.pt (pw_and (pt_val (pe_cf c_isix hr (by decide) rfl (pa_cons (pe_ix (ix_tupK (K := K)) (pv 1) pe_int (fun _ _ => rfl)) (pa_cons (pe_pf pm_rows T.clM hr (by decide) (pv 0) rfl) pa_nil)))) (pw_and1 (pt_val (pe_cf c_isix hr (by decide) rfl (pa_cons (pe_ix (ix_tupK (K := K)) (pv 1) pe_int (fun _ _ => rfl)) (pa_cons (pe_pf pm_columns T.clM hr (by decide) (pv 0) rfl) pa_nil)))))))) (pss_one ps_never)
  pss_nil)
  (pss_one (ps_ret (pe_ix (ix_tupK (K := K)) (pe_ix (ix_tupK (K := K)) (pe_fldK (K := K) (pv 0) rfl) (pe_ix (ix_tupK (K := K)) (pv 1) pe_int (fun _ _ => rfl)) (fun _ _ => rfl)) (pe_ix (ix_tupK (K := K)) (pv 1) pe_int (fun _ _ => rfl)) (fun _ _ => rfl)))))), ?_⟩
    obtain ⟨dx, tt, ea, rs, et, hl, hrow⟩ := id hM
    have r0 : 0 < r := by omega
    have g0 : ([V.int (i : Int), V.int (j : Int)] : List V)[0]? = some (V.int (i : Int)) := rfl
    have g1 : ([V.int (i : Int), V.int (j : Int)] : List V)[1]? = some (V.int (j : Int)) := rfl
    refine ⟨_, rfl, _, _, _, _, true, rfl, .ty "tuple", .base (.tup ht), kit_ty (by decide +kernel), _, rfl, iteT ?_⟩
    refine ⟨_, rfl, t, _, rfl, .inr (SqT.of ht), rfl, _, rfl, ifF rfl ?_⟩
    refine ⟨_, rfl, t, _, _, _, rfl, rfl, SqT.of ht, rfl, ?_⟩
    refine ⟨_, rfl, a, dx, _, rfl, ea, a, r, c, f, rfl, hM, i, r, rfl, hi, _, rfl, iteT ?_⟩
    refine ⟨_, rfl, t, _, _, _, rfl, rfl, SqT.of ht, rfl, ?_⟩
    refine ⟨_, rfl, a, dx, _, rfl, ea, a, r, c, f, rfl, hM, r0, j, c, rfl, hj, _, rfl, iteF ?_⟩
    have h0 : rs[i]? = some rs[i] := List.getElem?_eq_getElem (by omega)
    obtain ⟨p, xs, e, hp, hxl, hc⟩ := hrow i _ h0
    have h1 : xs[j]? = some xs[j] := List.getElem?_eq_getElem (by omega)
    obtain ⟨b, e2, hb⟩ := hc j _ h1
    refine ⟨_, rfl, a, CM, dx, _, _, rfl, ea, T.clM, T.nE, mfl_at tt, _, rfl, t, _, _, _, rfl, rfl, SqT.of ht, rfl, tt, _, _, _, rfl, rfl, SqT.of et, atI_nat h0, ?_⟩
    rw [e]
    refine ⟨_, rfl, t, _, _, _, rfl, rfl, SqT.of ht, rfl, p, _, _, _, rfl, rfl, SqT.of hp, atI_nat h1, ?_⟩
    rw [e2]
    exact k b hb
/-! ### Matrix.__eq__ -/
def MEq (r c : Nat) (f : Nat → Nat → Rat) (r2 c2 : Nat) (g : Nat → Nat → Rat) : Prop := r = r2 ∧ c = c2 ∧ ∀ i j, i < r → j < c → f i j = g i j
def REqB (C : Addr) : Addr → Addr → Hp → Bool → Prop := fun a b H v => ∃ p q, RatAt C H a p ∧ RatAt C H b q ∧ v = decide (p = q)
theorem spEqB_imp : ∀ vs H Q E, spEqB (REqB C) vs H Q E → spEqR K C vs H Q E := by
  rintro vs H Q E ⟨a, b, v, rfl, ⟨p, q, h1, h2, rfl⟩, k⟩
  exact ⟨a, p, .ref b, rfl, h1, .inl ⟨b, q, rfl, h2, k H Ext.rfl'⟩⟩
theorem RatAt.uniq {H : Hp} {a : Addr} {p q : Rat} (h : RatAt C H a p) (g : RatAt C H a q) : p = q := by
  obtain ⟨d, e⟩ := h
  obtain ⟨d', e'⟩ := g
  have := e.symm.trans e'
  simp only [Option.some.injEq, HO.ins.injEq, flds, List.cons.injEq, Prod.mk.injEq, V.int.injEq, true_and, and_true] at this
  exact Rat.ext this.2.1 (by have := this.2.2; omega)
theorem rcB_mat {X : Cx} (o : EqF X.prog X.w X.K X.mg X.base 2 C (spEqR X.K C)) : RcB X 4 (DTupB (DTupB (DInsB C (REqB C)))) := by
  obtain ⟨f, fd, ps, n, F, b⟩ := o.ex
  have m0 : MonB (DInsB C (REqB C)) := monB_ins fun a b H H' v e ⟨p, q, h1, h2, h⟩ => ⟨p, q, h1.same e, h2.same e, h⟩
  have r0 : ReflB (DInsB C (REqB C)) := fun x H v ⟨a, b, dx, dy, fs, gs, e1, e2, h1, h2, p, q, h3, h4, h5⟩ => by
    cases e1
    cases e2
    rw [h5, h3.uniq h4]
    exact decide_eq_true rfl
  have c0 : RcB X 2 (DInsB C (REqB C)) := rcB_ins (FnOk.imp F spEqB_imp) n.eq n.fn b pass0
  have c1 := rcB_tup m0 (c0.eqB insB_ref r0)
  exact rcB_tup (monB_tup m0) (c1.eqB tupB_ref (reflB_tup r0))
open Classical in
theorem dtupB_of {H : Hp} {t u : Addr} {r c r2 c2 : Nat} {f g : Nat → Nat → Rat} {v : Bool} (h : Tb (RC C) H t r c f) (h' : Tb (RC C) H u r2 c2 g) (r0 : 0 < r) (hv : v = true ↔ MEq r c f r2 c2 g) : DTupB (DTupB (DInsB C (REqB C))) (.ref t) (.ref u) H v := by
  obtain ⟨rs, et, hl, hrow⟩ := h
  obtain ⟨rs2, eu, hl2, hrow2⟩ := h'
  refine ⟨t, u, rs, rs2, fun i => decide (c = c2 ∧ ∀ j, j < c → f i j = g i j), rfl, rfl, et, eu, fun i x y hx hy => ?_, ?_⟩
  · obtain ⟨p, xs, rfl, hp, hxl, hc⟩ := hrow i x hx
    obtain ⟨p2, xs2, rfl, hp2, hxl2, hc2⟩ := hrow2 i y hy
    refine ⟨p, p2, xs, xs2, fun j => decide (f i j = g i j), rfl, rfl, hp, hp2, fun j x y hx hy => ?_, ?_⟩
    · obtain ⟨a, rfl, ha⟩ := hc j x hx
      obtain ⟨b, rfl, hb⟩ := hc2 j y hy
      obtain ⟨d1, e1⟩ := id ha
      obtain ⟨d2, e2⟩ := id hb
      exact ⟨a, b, d1, d2, _, _, rfl, rfl, e1, e2, _, _, ha, hb, by simp⟩
    · rw [decide_eq_true_iff, hxl, hxl2]
      constructor
      · rintro ⟨rfl, h⟩
        exact ⟨rfl, fun j h1 _ => decide_eq_true (h j h1)⟩
      · rintro ⟨rfl, h⟩
        exact ⟨rfl, fun j h1 => of_decide_eq_true (h j h1 h1)⟩
  · rw [hv, hl, hl2]
    constructor
    · rintro ⟨rfl, rfl, h⟩
      exact ⟨rfl, fun i h1 _ => decide_eq_true ⟨rfl, fun j hj => h i j h1 hj⟩⟩
    · rintro ⟨rfl, h⟩
      have h0 := of_decide_eq_true (h 0 r0 r0)
      exact ⟨rfl, h0.1, fun i j hi hj => (of_decide_eq_true (h i hi hi)).2 j hj⟩
def spMEqG (K : PySem.W.Frag) (C CM : Addr) : Sp := fun vs H Q _ => ∃ (a : Addr) (y : V) (r c : Nat) (f : Nat → Nat → Rat), vs = [.ref a, y] ∧ MtAt C CM H a r c f ∧ 0 < r ∧
  ((∃ (b : Addr) (r2 c2 : Nat) (g : Nat → Nat → Rat), y = .ref b ∧ MtAt C CM H b r2 c2 g ∧ ∀ v H', (v = true ↔ MEq r c f r2 c2 g) → Same H H' → Q (.bl v) H') ∨ (∃ t, TyX K H y t ∧ PySem.W.kitOne K t (.ref CM) = some false ∧ Q (.bl false) H))
theorem sc_Matrix___eq__ : FnScope ["self", "other"] ["self", "other"] (defScope s_Matrix___eq__) := ⟨rfl, rfl, rfl, by decide +kernel, rfl, by decide +kernel, by decide +kernel⟩
open Classical in
theorem ok_meq {f : Addr} {fd : FuncData} (F : Fun K "__eq__" "Matrix.__eq__" s_Matrix___eq__ f fd) (T : TxM K mg C CM) (o_eq : EqF P w K mg base 2 C (spEqR K C)) : FnOk P w K mg base CX0 6 f fd ["self", "other"] (spMEqG K C CM) := by
  refine F.ok sc_Matrix___eq__ (fun vs H Q E h => ?_) (fun cdv A outer s H vs Q E hr h => ?_)
  · obtain ⟨a, y, r, c, f, rfl, _⟩ := h
    rfl
  · obtain ⟨a, y, r, c, f, rfl, hA, r0, hy⟩ := h
    refine ⟨_, (pss_one (ps_ret (pe_and (pe_callB (id := "isinstance") (call_isiK (K := K)) (by rfl) T.b_isinstance (by decide +kernel) (pa_cons (pv 1) (pa_cons (pe_glob (v := V.ref CM) rfl T.g_Matrix rfl) pa_nil))) (pe_one (pe_cmpR (op_eqB (rcB_mat (C := C) o_eq) (hr.mono (by decide))) (pe_fldK (K := K) (pv 0) rfl) (pe_fldK (K := K) (pv 1) rfl) (nomark _)))))), ?_⟩
    obtain ⟨dx, t, ea, hT⟩ := id hA
    rcases hy with ⟨b, r2, c2, g, rfl, hB, k⟩ | ⟨ty, h1, h2, k⟩
    · obtain ⟨dy, u, eb, hU⟩ := id hB
      refine ⟨_, rfl, .ref b, _, _, _, _, rfl, .own CM, hB.tyx T, T.kMM, _, rfl, iteT ?_⟩
      have hv : decide (MEq r c f r2 c2 g) = true ↔ MEq r c f r2 c2 g := decide_eq_true_iff
      exact ⟨_, rfl, a, CM, dx, _, _, rfl, ea, T.clM, T.nE, mfl_at t, _, rfl, b, CM, dy, _, _, rfl, eb, T.clM, T.nE, mfl_at u, _, dtupB_of hT hU r0 hv, fun H' s => k _ H' hv s⟩
    · exact ⟨_, rfl, y, _, _, _, _, rfl, .own CM, h1, h2, _, rfl, iteF k⟩
abbrev MEqC (P : Program) (w : World) (K : PySem.W.Frag) (mg : Str → Option Value) (base : Heap) (C CM : Addr) : Prop := EqF P w K mg base 6 CM (spMEqG K C CM)
end
end Lw

namespace Lw
open PySem PySem.Spec PyProof.Rows L2 MG
abbrev s__law_told : Stmt := top 73
abbrev s__law_pairs : Stmt := top 74
abbrev s__law_is : Stmt := top 75
/-! ### the law's tables: lists of lists of ints over one bottom -/
def LL (H : Hp) (L : Addr) (r c : Nat) (A : Nat → Nat → Int) : Prop := ∃ rs, H L = some (.lst rs) ∧ rs.length = r ∧ ∀ (i : Nat) (x : V), rs[i]? = some x → ∃ p, x = .ref p ∧ H p = some (.lst (rowV c (A i)))
def PrAt (H : Hp) (t : Addr) (r c : Nat) (A : Nat → Nat → Int) (u : Int) : Prop := ∃ L, H t = some (.tup [.ref L, .int u]) ∧ LL H L r c A
theorem LL.same {H H' : Hp} {L : Addr} {r c : Nat} {A : Nat → Nat → Int} (h : LL H L r c A) (s : Same H H') : LL H' L r c A := by
  obtain ⟨rs, e, hl, hr⟩ := h
  exact ⟨rs, s _ _ e, hl, fun i x hx => (hr i x hx).elim fun p e => ⟨p, e.1, s _ _ e.2⟩⟩
theorem PrAt.same {H H' : Hp} {t : Addr} {r c : Nat} {A : Nat → Nat → Int} {u : Int} (h : PrAt H t r c A u) (s : Same H H') : PrAt H' t r c A u := h.elim fun L e => ⟨L, s _ _ e.1, e.2.same s⟩
/-- the fractions of a table -/
def qv (A : Nat → Nat → Int) (u : Int) : Nat → Nat → Rat := fun i j => Rat.divInt (A i j) u
/-- its ints are below 10 ^ k -/
structure Bn (r c : Nat) (A : Nat → Nat → Int) (u : Int) (k : Nat) : Prop where
  pos : 0 < u
  ub : u.natAbs < 10 ^ k
  ab : ∀ i j, i < r → j < c → (A i j).natAbs < 10 ^ k
theorem Bn.mono {r c : Nat} {A : Nat → Nat → Int} {u : Int} {k k' : Nat} (h : Bn r c A u k) (hk : k ≤ k') : Bn r c A u k' := by
  have := Nat.pow_le_pow_right (show 0 < 10 by decide) hk
  exact ⟨h.pos, Nat.lt_of_lt_of_le h.ub this, fun i j hi hj => Nat.lt_of_lt_of_le (h.ab i j hi hj) this⟩
theorem Bn.bds {r c : Nat} {A : Nat → Nat → Int} {u : Int} {k : Nat} (h : Bn r c A u k) : Bds r c (qv A u) k := fun i j hi hj => bd_div (by have := h.pos; omega) (h.ab i j hi hj) h.ub
/-- a new list of rows: the row list in the heap without D -/
theorem row_hid {H H2 : Hp} {D D2 : Addr} {ys : List V} {c : Nat} {g : Nat → Int} (nD : H D ≠ none) (hD2 : H D2 = none) (e : H2 D2 = some (.lst ys)) (hl : ys.length = c) (h : ∀ (j : Nat) (y : V), ys[j]? = some y → y = .int (g j)) : (hid D H2) D2 = some (.lst (rowV c g)) := by
  have n : D2 ≠ D := fun q => nD (q ▸ hD2)
  rw [hid_ne n, e]
  exact congrArg _ (congrArg _ (ints_of hl h))
/-- a row of a list of lists that is made -/
abbrev RowR (c : Nat) (A : Nat → Nat → Int) : Nat → V → Hp → Prop := fun i y G => ∃ p, y = .ref p ∧ G p = some (.lst (rowV c (A i)))
theorem rowR_same {c : Nat} {A : Nat → Nat → Int} : ∀ i y H H', RowR c A i y H → Same H H' → RowR c A i y H' := fun i y H H' ⟨p, e, h⟩ s => ⟨p, e, s _ _ h⟩
theorem ll_of {H : Hp} {D : Addr} {ys : List V} {r c : Nat} {A : Nat → Nat → Int} (e : H D = some (.lst ys)) (hl : ys.length = r) (h : ∀ (i : Nat) (y : V), ys[i]? = some y → RowR c A i y (hid D H)) : LL H D r c A :=
  ⟨ys, e, hl, fun i y hy => (h i y hy).elim fun p q => ⟨p, q.1, hid_same D H _ _ q.2⟩⟩
section
variable {P : Program} {w : World} {K : PySem.W.Frag} {mg : Str → Option Value} {base : Heap} {C CM CX : Addr}
/-! ### _law_low -/
def spLow : Sp := fun vs H Q _ => ∃ (t : Addr) (r c : Nat) (A : Nat → Nat → Int) (u : Int) (k : Nat), vs = [.ref t] ∧ PrAt H t r c A u ∧ r ≤ 1000 ∧ c ≤ 1000 ∧ Bn r c A u k ∧ k ≤ 390 ∧
  ∀ t' H' A' u', Same H H' → PrAt H' t' r c A' u' → Bn r c A' u' k → u' ∣ u → (∀ i j, i < r → j < c → qv A' u' i j = qv A u i j) → Q (.ref t') H'
theorem fdiv_dvd {g a : Int} (hg : 0 < g) (h : g ∣ a) : a = g * a.fdiv g := by
  obtain ⟨m, rfl⟩ := h
  rw [Int.mul_fdiv_cancel_left _ (by omega)]
theorem fdiv_abs {g a : Int} (hg : 0 < g) (h : g ∣ a) : (a.fdiv g).natAbs ≤ a.natAbs := by
  have e := fdiv_dvd hg h
  conv => rhs; rw [e]
  rw [Int.natAbs_mul]
  exact Nat.le_mul_of_pos_left _ (by omega)
abbrev LowTC (P : Program) (w : World) (K : PySem.W.Frag) (mg : Str → Option Value) (base : Heap) : Prop := CalG P w K mg base 4 "_law_low" spLow []
/-! ### _law_turn -/
def spTurn : Sp := fun vs H Q _ => ∃ (t : Addr) (r c : Nat) (A : Nat → Nat → Int) (u : Int), vs = [.ref t] ∧ PrAt H t r c A u ∧ 0 < r ∧ r ≤ 1000 ∧ c ≤ 1000 ∧ ∀ t' H', Same H H' → PrAt H' t' c r (fun i j => A j i) u → Q (.ref t') H'
abbrev TurnC (P : Program) (w : World) (K : PySem.W.Frag) (mg : Str → Option Value) (base : Heap) : Prop := CalG P w K mg base 2 "_law_turn" spTurn []
/-! ### tables of pairs -/
def PRow (H : Hp) (y : V) (c : Nat) (g : Nat → Rat) : Prop := ∃ p xs, y = .ref p ∧ H p = some (.lst xs) ∧ xs.length = c ∧ ∀ (j : Nat) (v : V), xs[j]? = some v → ∃ T, v = .ref T ∧ H T = some (.tup (pr (g j)))
def PTab (H : Hp) (D : Addr) (r c : Nat) (f : Nat → Nat → Rat) : Prop := ∃ rs, H D = some (.lst rs) ∧ rs.length = r ∧ ∀ (i : Nat) (y : V), rs[i]? = some y → PRow H y c (f i)
theorem PRow.same {H H' : Hp} {y : V} {c : Nat} {g : Nat → Rat} (h : PRow H y c g) (s : Same H H') : PRow H' y c g := by
  obtain ⟨p, xs, e, hp, hl, hc⟩ := h
  exact ⟨p, xs, e, s _ _ hp, hl, fun j v hv => (hc j v hv).elim fun T q => ⟨T, q.1, s _ _ q.2⟩⟩
theorem PTab.same {H H' : Hp} {D : Addr} {r c : Nat} {f : Nat → Nat → Rat} (h : PTab H D r c f) (s : Same H H') : PTab H' D r c f := by
  obtain ⟨rs, e, hl, hc⟩ := h
  exact ⟨rs, s _ _ e, hl, fun i y hy => (hc i y hy).same s⟩
theorem PTab.dp {K : PySem.W.Frag} {H : Hp} {D : Addr} {r c : Nat} {f : Nat → Nat → Rat} (h : PTab H D r c f) : Dp K H (.ref D) (tabD r c f) := by
  obtain ⟨rs, e, hl, hc⟩ := h
  refine dp_row e hl fun i y hy => ?_
  obtain ⟨p, xs, rfl, hp, hxl, hcc⟩ := hc i y hy
  refine dp_row hp hxl fun j v hv => ?_
  obtain ⟨T, rfl, hT⟩ := hcc j v hv
  exact .tup (SqT.of hT) (.cons (.int _) (.cons (.int _) .nil))
/-! ### _law_pairs -/
def spPairs (K : PySem.W.Frag) : Sp := fun vs H Q _ => ∃ (t : Addr) (r c : Nat) (A : Nat → Nat → Int) (u : Int), vs = [.ref t] ∧ PrAt H t r c A u ∧ r ≤ 1000 ∧ c ≤ 1000 ∧ u ≠ 0 ∧ Sm u ∧ ∀ D H', Same H H' → PTab H' D r c (qv A u) → Q (.ref D) H'
theorem pr_dp {H : Hp} {T : Addr} {p : Rat} (e : H T = some (.tup [.int p.num, .int p.den])) : Dp K H (.ref T) (prD p) := .tup (SqT.of e) (.cons (.int _) (.cons (.int _) .nil))
theorem sc__law_pairs : FnScope ["_law_pair", "_law_line", "_law_cell"] ["_law_pair"] (defScope s__law_pairs) := ⟨rfl, rfl, rfl, by decide +kernel, rfl, by decide +kernel, by decide +kernel⟩
theorem ok_pairs {f : Addr} {fd : FuncData} (F : Fun K "_law_pairs" "_law_pairs" s__law_pairs f fd) (T : Blt mg) (c_lowest : CalG P w K mg base 4 "_law_lowest" spLowest []) : FnG P w K mg base CX0 6 f fd ["_law_pair"] (spPairs K) := by
  refine fun_okG F sc__law_pairs (fun vs H Q E h => ?_) (fun cdv A' outer s H vs Q E bare hr h => ?_)
  · obtain ⟨t, r, c, A, u, rfl, _⟩ := h
    rfl
  · obtain ⟨t, r, c, A, u, rfl, ⟨L, ht, rs, hL, hl, hrow⟩, hr1, hc1, hu, su, k⟩ := h
    refine ⟨_, (pss_one (ps_ret (pe_lcI (pe_lc (own := [("_law_line", 1)]) rfl sc__law_pairs.nd (pi_listK (K := K) (pe_ix (ix_tupK (K := K)) (pv 0) pe_int (fun _ _ => rfl))) (blkOk_by (N := ["_law_pair", "_law_line", "_law_cell"]) (sc := (defScope s__law_pairs)) (by decide +kernel)) (fun _ _ _ _ _ => (pg_name (i := 1) sc__law_pairs.nd rfl (Or.inl rfl))) (fun _ _ _ _ _ => pts_nil) (fun _ _ _ _ _ => (pe_cut (pe_lcI (pe_lc (own := [("_law_cell", 2)]) rfl sc__law_pairs.nd (pi_listK (K := K) (pv 1)) (blkOk_by (N := ["_law_pair", "_law_line", "_law_cell"]) (sc := ({ kind := .function, names := [(PySem.Str.ofString ".0", .local), (PySem.Str.ofString "_law_line", .local), (PySem.Str.ofString "_law_pair", .cell)], isGenerator := false, isCoroutine := false } : Scope)) (by decide +kernel)) (fun _ _ _ _ _ => (pg_name (i := 2) sc__law_pairs.nd rfl (Or.inl rfl))) (fun _ _ _ _ _ => pts_nil) (fun _ _ _ _ _ => (pe_cut (pe_cg c_lowest bare hr (by decide) rfl (pa_cons (pv 2) (pa_cons (pe_ix (ix_tupK (K := K)) (pv 0) pe_int (fun _ _ => rfl)) pa_nil))))))))))))), ?_⟩
    refine ⟨_, rfl, t, _, _, _, rfl, rfl, SqT.of ht, rfl, L, rfl, ⟨rs, SqL.of hL⟩, fun D hD => ?_⟩
    refine lc_same (walk_list (K := K) (a := L) (xs := rs)) hD (by omega) (fun i y G => PRow G y c (qv A u i)) (fun i y G G' h s => h.same s) (fun G s => SqL.of (s _ _ hL)) yat_same (fun i x H1 H1' hi s1 nD hy => ?_) fun ys H1 hl1 s1 e1 h1 => ?_
    · obtain ⟨rfl, hx⟩ := hy
      obtain ⟨p, rfl, hp⟩ := hrow i x hx
      refine ⟨_, fun _ h => h, wipe_one, ?_⟩
      refine ⟨_, rfl, p, rfl, ⟨_, SqL.of (s1 _ _ hp)⟩, fun D2 hD2 => ?_⟩
      refine lc_same (walk_list (K := K) (a := p) (xs := rowV c (A i))) hD2 (by rw [rowV_len]; omega) (fun j y G => ∃ T, y = .ref T ∧ G T = some (.tup [.int (qv A u i j).num, .int (qv A u i j).den])) (fun j y G G' ⟨T, e, h⟩ s => ⟨T, e, s _ _ h⟩) (fun G s => SqL.of (s _ _ (s1 _ _ hp))) yat_same (fun j y H2 H2' hj s2 _ hy => ?_) fun ys2 H2 hl2 s2 e2 h2 => ?_
      · obtain ⟨rfl, hy⟩ := hy
        obtain ⟨hj, rfl⟩ := rowV_get hy
        refine ⟨_, fun _ h => h, wipe_one, ?_⟩
        exact ⟨_, rfl, _, rfl, t, _, _, _, rfl, rfl, SqT.of (s2 _ _ (s1 _ _ ht)), rfl, _, _, rfl, hu, su, fun T2 hT2 => ⟨MG.Same.new (Same.refl _) hT2, fun ⟨l, hl⟩ => ⟨T2, rfl, by rw [hid_ne (ne_of upd_same hl (by intro z; cases z))]; exact upd_same⟩⟩⟩
      · refine ⟨s2, fun ⟨l, hl⟩ => ?_⟩
        have n : D2 ≠ D := fun q => nD (q ▸ hD2)
        have e3 : (hid D H2) D2 = some (.lst ys2) := by rw [hid_ne n]; exact e2
        refine ⟨D2, ys2, rfl, e3, hl2.trans rowV_len, fun j y hy => ?_⟩
        obtain ⟨T2, rfl, h⟩ := h2 j y hy
        have h' := hid_same D2 H2 _ _ h
        exact ⟨T2, rfl, by rw [hid_ne (ne_of h' hl (by intro z; cases z))]; exact h'⟩
    exact k D H1 s1 ⟨ys, e1, hl1.trans hl, fun i y hy => (h1 i y hy).same (hid_same D H1)⟩
abbrev PairsC (P : Program) (w : World) (K : PySem.W.Frag) (mg : Str → Option Value) (base : Heap) : Prop := CalG P w K mg base 6 "_law_pairs" (spPairs K) []
/-! ### _law_told -/
def spTold (K : PySem.W.Frag) (C CM : Addr) : Sp := fun vs H Q _ => ∃ (m : Addr) (r c : Nat) (f : Nat → Nat → Rat), vs = [.ref m] ∧ MtAt C CM H m r c f ∧ r ≤ 1000 ∧ c ≤ 1000 ∧ ∀ D H', Same H H' → Dp K H' (.ref D) (tabD r c f) → Q (.ref D) H'
theorem sc__law_told : FnScope ["_law_matrix", "_law_lines", "_law_line", "_law_found", "_law_cell"] ["_law_matrix"] (defScope s__law_told) := ⟨rfl, rfl, rfl, by decide +kernel, rfl, by decide +kernel, by decide +kernel⟩
theorem ok_told {f : Addr} {fd : FuncData} (F : Fun K "_law_told" "_law_told" s__law_told f fd) (T : TxM K mg C CM) (pm_entries : EntriesC P w K mg base CM) (p_top : PropF P w K mg base 2 C "top" (spTop C)) (p_bottom : PropF P w K mg base 2 C "bottom" (spBottom C)) : FnG P w K mg base CX0 6 f fd ["_law_matrix"] (spTold K C CM) := by
  refine fun_okG F sc__law_told (fun vs H Q E h => ?_) (fun cdv A' outer s H vs Q E bare hr h => ?_)
  · obtain ⟨m, r, c, f, rfl, _⟩ := h
    rfl
  · obtain ⟨m, r, c, f, rfl, ⟨dx, t, em, rs, ht, hl, hrow⟩, hr1, hc1, k⟩ := h
    refine ⟨_, (pss_cons (ps_set (i := 1) sc__law_told.nd rfl (Or.inl rfl) (pe_pf pm_entries T.clM hr (by decide) (pv 0) rfl))
  (pss_cons (ps_if (PW.pt (pw_or (pt_not (pt_val (pe_callB (id := "isinstance") (call_isiK (K := K)) (by rfl) T.b_isinstance (by decide +kernel) (pa_cons (pv 1) (pa_cons (pe_bltn (v := V.ty "tuple") (u := Value.type "tuple") (by rfl) T.b_tuple (by decide +kernel) rfl) pa_nil))))) (pw_or1 (pt_not (pt_val (pe_callB (id := "all") (cr_allK (K := K) rfl) (by rfl) T.b_all (by decide +kernel) (pa_cons (pe_lcI (pe_lc (own := [("_law_line", 2)]) rfl sc__law_told.nd (pi_tupK (K := K) (pv 1)) (blkOk_by (N := ["_law_matrix", "_law_lines", "_law_line", "_law_found", "_law_cell"]) (sc := (defScope s__law_told)) (by decide +kernel)) (fun _ _ _ _ _ => (pg_name (i := 2) sc__law_told.nd rfl (Or.inl rfl))) (fun _ _ _ _ _ => pts_nil) (fun _ _ _ _ _ => (pe_cut (pe_callB (id := "isinstance") (call_isiK (K := K)) (by rfl) T.b_isinstance (by decide +kernel) (pa_cons (pv 2) (pa_cons (pe_bltn (v := V.ty "tuple") (u := Value.type "tuple") (by rfl) T.b_tuple (by decide +kernel) rfl) pa_nil))))))) pa_nil))))))) (pss_one (ps_ret pe_non))
  pss_nil)
  (pss_cons (ps_set (i := 3) sc__law_told.nd rfl (Or.inl rfl) (pe_lst pa_nil))
  (pss_cons (ps_for PassesOwn.never rfl (pi_tupK (K := K) (pv 1)) (pg_name (i := 2) sc__law_told.nd rfl (Or.inl rfl))
  (pss_cons (ps_if (pt_not (pt_val (pe_callB (id := "all") (cr_allK (K := K) rfl) (by rfl) T.b_all (by decide +kernel) (pa_cons (pe_lcI (pe_lc (own := [("_law_cell", 4)]) rfl sc__law_told.nd (pi_tupK (K := K) (pv 2)) (blkOk_by (N := ["_law_matrix", "_law_lines", "_law_line", "_law_found", "_law_cell"]) (sc := (defScope s__law_told)) (by decide +kernel)) (fun _ _ _ _ _ => (pg_name (i := 4) sc__law_told.nd rfl (Or.inl rfl))) (fun _ _ _ _ _ => pts_nil) (fun _ _ _ _ _ => (pe_cut (pe_callB (id := "isinstance") (call_isiK (K := K)) (by rfl) T.b_isinstance (by decide +kernel) (pa_cons (pv 4) (pa_cons (pe_glob (v := V.ref C) rfl T.g_Ratio rfl) pa_nil))))))) pa_nil)))) (pss_one (ps_ret pe_non))
  pss_nil)
  (pss_one (ps_expr (pe_bm PySem.F.plainAttrs_list PySem.F.slot_list_append PySem.F.type_list_append mt_append (pv 3) (pa_cons (pe_lcI (pe_lc (own := [("_law_cell", 4)]) rfl sc__law_told.nd (pi_tupK (K := K) (pv 2)) (blkOk_by (N := ["_law_matrix", "_law_lines", "_law_line", "_law_found", "_law_cell"]) (sc := (defScope s__law_told)) (by decide +kernel)) (fun _ _ _ _ _ => (pg_name (i := 4) sc__law_told.nd rfl (Or.inl rfl))) (fun _ _ _ _ _ => pts_nil) (fun _ _ _ _ _ => (pe_cut (pe_tup (pa_cons (pe_pf p_top T.cl hr (by decide) (pv 4) rfl) (pa_cons (pe_pf p_bottom T.cl hr (by decide) (pv 4) rfl) pa_nil))))))) pa_nil))))))
  (pss_one (ps_ret (pv 3))))))), ?_⟩
    refine ⟨_, rfl, m, dx, _, rfl, em, m, dx, t, rfl, em, ?_⟩
    -- if not isinstance(lines, tuple) or not all(..)
    refine ⟨_, rfl, .ref t, _, _, _, true, rfl, .ty "tuple", .base (.tup ht), kit_ty (by decide +kernel), _, rfl, iteF ?_⟩
    refine ⟨_, rfl, t, rfl, ⟨rs, SqT.of ht⟩, fun D hD => ?_⟩
    refine lc_same (walk_tup (K := K) (a := t) (xs := rs)) hD (by omega) (fun _ y _ => y = .bl true) (fun _ _ _ _ e _ => e) (fun H' s' => SqT.of (s' _ _ ht)) yat_same (fun i x H1 H1' hi s1 _ hy => ?_) fun ys H1 hl1 s1 e1 h1 => ?_
    · obtain ⟨rfl, hx⟩ := hy
      obtain ⟨p, xs, rfl, hp, hxl, _⟩ := hrow i x hx
      exact ⟨_, fun _ h => h, wipe_one, _, rfl, .ref p, _, _, _, _, rfl, .ty "tuple", .base (.tup (s1 _ _ hp)), kit_ty (by decide +kernel), Same.refl _, fun _ => rfl⟩
    obtain ⟨bs, hb, ab⟩ := all_bl (K := K) e1 h1
    refine ⟨D, bs, rfl, hb, _, rfl, ifF (by rw [ab]; rfl) ?_⟩
    -- found = []
    refine ⟨by show 0 ≤ sizeLine; decide, fun F0 hF0 => ?_⟩
    have sF : Same H (upd H1 F0 (.lst [])) := MG.Same.new s1 hF0
    have fF : H F0 = none := s1.free hF0
    refine ⟨_, rfl, t, rfl, ⟨rs, SqT.of (sF _ _ ht)⟩, ?_⟩
    refine for_tup (K := K) (a := t) (xs := rs) (fun i σ H' => Same H (hid F0 H') ∧ ∃ (ds : List V) (v2 v4 : Option V), σ = [some (.ref m), some (.ref t), v2, some (.ref F0), v4] ∧ H' F0 = some (.lst ds) ∧ ds.length = i ∧ ∀ (k : Nat) (y : V), ds[k]? = some y → Dp K (hid F0 H') y (rowD c (f k))) ⟨(hid_none fF).trans (hid_mono sF), [], none, none, rfl, upd_same, rfl, fun k y h => by simp at h⟩ ?_ ?_ ?_
    · rintro i σ H' _ ⟨s', _⟩
      exact SqT.of (hid_same F0 H' _ _ (s' _ _ ht))
    · rintro i x σ H' hx ⟨s', ds, v2, v4, rfl, eF, hdl, hds⟩
      have sH := s'.trans (hid_same F0 H')
      obtain ⟨p, xs, rfl, hp, hxl, hc⟩ := (hrow i x hx).same (rc_mono C) sH
      -- if not all([isinstance(cell, Ratio) ..])
      refine ⟨_, rfl, p, rfl, ⟨xs, SqT.of hp⟩, fun D2 hD2 => ?_⟩
      refine lc_same (walk_tup (K := K) (a := p) (xs := xs)) hD2 (by omega) (fun _ y _ => y = .bl true) (fun _ _ _ _ e _ => e) (fun H' s' => SqT.of (s' _ _ hp)) yat_same (fun j y H2 H2' hj s2 _ hy => ?_) fun ys2 H2 hl2 s2 e2 h2 => ?_
      · obtain ⟨rfl, hy⟩ := hy
        obtain ⟨b, rfl, hb⟩ := hc j y hy
        exact ⟨_, fun _ h => h, wipe_one, _, rfl, .ref b, _, _, _, _, rfl, .own C, (hb.same s2).tyx T.toTxR, T.kC, Same.refl _, fun _ => rfl⟩
      obtain ⟨bs2, hb2, ab2⟩ := all_bl (K := K) e2 h2
      refine ⟨D2, bs2, rfl, hb2, _, rfl, ifF (by rw [ab2]; rfl) ?_⟩
      -- found.append([(cell.top, cell.bottom) ..])
      have eF2 := s2 _ _ eF
      refine ⟨_, rfl, .inl ⟨rfl, ds, SqL.of eF2⟩, ?_⟩
      refine ⟨_, rfl, p, rfl, ⟨xs, SqT.of (s2 _ _ hp)⟩, fun D3 hD3 => ?_⟩
      refine lc_same (walk_tup (K := K) (a := p) (xs := xs)) hD3 (by omega) (fun j y G => ∃ T, y = .ref T ∧ G T = some (.tup [.int (f i j).num, .int (f i j).den])) (fun j y G G' ⟨T, e, h⟩ s => ⟨T, e, s _ _ h⟩) (fun H' s' => SqT.of (s' _ _ (s2 _ _ hp))) yat_same (fun j y H3 H3' hj s3 _ hy => ?_) fun ys3 H3 hl3 s3 e3 h3 => ?_
      · obtain ⟨rfl, hy⟩ := hy
        obtain ⟨b, rfl, hb⟩ := hc j y hy
        have hb3 := (hb.same s2).same s3
        obtain ⟨d1, e1⟩ := id hb3
        refine ⟨_, fun _ h => h, wipe_one, ?_⟩
        exact ⟨_, rfl, b, d1, _, rfl, e1, b, f i j, rfl, hb3, _, rfl, b, d1, _, rfl, e1, b, f i j, rfl, hb3, by show 2 ≤ sizeLine; decide, fun T2 hT2 => ⟨MG.Same.new (Same.refl _) hT2, fun ⟨l, hl⟩ => ⟨T2, rfl, by rw [hid_ne (ne_of upd_same hl (by intro z; cases z))]; exact upd_same⟩⟩⟩
      have eF3 := s3 _ _ eF2
      have n3 : D3 ≠ F0 := fun q => by rw [q, eF2] at hD3; cases hD3
      refine ⟨F0, ds, _, rfl, rfl, eF3, Nat.lt_of_le_of_lt (m := 1000) (by have := (List.getElem?_eq_some_iff.mp hx).1; omega) (by decide), ?_⟩
      have sh : Same (hid F0 H') (hid F0 (upd H3 F0 (.lst (ds ++ [.ref D3])))) := by rw [hid_upd]; exact hid_mono (s2.trans s3)
      refine ⟨s'.trans sh, ds ++ [.ref D3], _, _, rfl, upd_same, by simp [hdl], fun n y hy => ?_⟩
      by_cases hn : n < ds.length
      · rw [List.getElem?_append_left hn] at hy
        exact MG.Dp.same sh (hds n y hy)
      · rw [List.getElem?_append_right (by omega)] at hy
        have ey : y = .ref D3 := by simpa using List.mem_of_getElem? hy
        have en : n = i := by
          have := (List.getElem?_eq_some_iff.mp hy).1
          simp at this
          omega
        rw [ey, en]
        have e4 : (hid F0 (upd H3 F0 (.lst (ds ++ [.ref D3])))) D3 = some (.lst ys3) := by rw [hid_upd, hid_ne n3]; exact e3
        refine dp_row e4 (hl3.trans hxl) fun j y hy => ?_
        obtain ⟨T2, rfl, h⟩ := h3 j y hy
        have h' := hid_same D3 H3 _ _ h
        exact pr_dp (by rw [hid_upd, hid_ne (ne_of h' eF3 (by intro z; cases z))]; exact h')
    · rintro σ H' ⟨s', ds, v2, v4, rfl, eF, hdl, hds⟩
      exact ⟨_, rfl, k F0 H' (s'.trans (hid_same F0 H')) (dp_row eF (hdl.trans hl) fun i y hy => MG.Dp.same (hid_same F0 H') (hds i y hy))⟩
abbrev ToldC (P : Program) (w : World) (K : PySem.W.Frag) (mg : Str → Option Value) (base : Heap) (C CM : Addr) : Prop := CalG P w K mg base 6 "_law_told" (spTold K C CM) []
/-! ### _law_is -/
def spIs (C CM : Addr) : Sp := fun vs H Q _ => ∃ (m t : Addr) (r c : Nat) (f : Nat → Nat → Rat) (A : Nat → Nat → Int) (u : Int), vs = [.ref m, .ref t] ∧ MtAt C CM H m r c f ∧ PrAt H t r c A u ∧ r ≤ 60 ∧ c ≤ 60 ∧ u ≠ 0 ∧ Sm u ∧ Bds r c f 390 ∧ (∀ i j, i < r → j < c → f i j = qv A u i j) ∧ ∀ H', Same H H' → Q (.bl true) H'
theorem sc__law_is : FnScope ["_law_matrix", "_law_pair"] ["_law_matrix", "_law_pair"] (defScope s__law_is) := ⟨rfl, rfl, rfl, by decide +kernel, rfl, by decide +kernel, by decide +kernel⟩
theorem ok_is {f : Addr} {fd : FuncData} (F : Fun K "_law_is" "_law_is" s__law_is f fd) (T : TxM K mg C CM) (c_told : ToldC P w K mg base C CM) (c_pairs : PairsC P w K mg base) : FnG P w K mg base CX0 8 f fd ["_law_matrix", "_law_pair"] (spIs C CM) := by
  refine fun_okG F sc__law_is (fun vs H Q E h => ?_) (fun cdv A' outer s H vs Q E bare hr h => ?_)
  · obtain ⟨m, t, r, c, f, A, u, rfl, _⟩ := h
    rfl
  · obtain ⟨m, t, r, c, f, A, u, rfl, hM, hP, hr1, hc1, hu, su, bd, hf, k⟩ := h
    have hu64 := hr.units
    refine ⟨_, (pss_cons (ps_if (pt_not (pt_val (pe_callB (id := "isinstance") (call_isiK (K := K)) (by rfl) T.b_isinstance (by decide +kernel) (pa_cons (pv 0) (pa_cons (pe_glob (v := V.ref CM) rfl T.g_Matrix rfl) pa_nil))))) (pss_one (ps_ret pe_bl))
  pss_nil)
  (pss_one (ps_ret (pe_cmpR op_eq (pe_callB (id := "repr") (call_reprK (K := K) bare hu64) (by rfl) T.b_repr (by decide +kernel) (pa_cons (pe_cg c_told bare hr (by decide) rfl (pa_cons (pv 0) pa_nil)) pa_nil)) (pe_callB (id := "repr") (call_reprK (K := K) bare hu64) (by rfl) T.b_repr (by decide +kernel) (pa_cons (pe_cg c_pairs bare hr (by decide) rfl (pa_cons (pv 1) pa_nil)) pa_nil)) (nomark _))))), ?_⟩
    refine ⟨_, rfl, .ref m, _, _, _, _, rfl, .own CM, hM.tyx T, T.kMM, _, rfl, iteF ?_⟩
    refine ⟨_, rfl, m, r, c, f, rfl, hM, by omega, by omega, fun D H1 s1 h1 => ?_⟩
    have ok1 := okd_tab (m := 60) (n := 60) hr1 hc1 (by decide) bd
    refine ⟨.ref D, _, rfl, h1, ok1.sh, ok1.nd, Nat.le_trans ok1.dp (by decide), Nat.le_trans ok1.ln (by decide), ?_⟩
    refine ⟨_, rfl, t, r, c, A, u, rfl, hP.same s1, by omega, by omega, hu, su, fun D2 H2 s2 h2 => ?_⟩
    have h2 := PTab.dp (K := K) h2
    have e := tabD_congr hf
    rw [← e] at h2
    refine ⟨.ref D2, _, rfl, h2, ok1.sh, ok1.nd, Nat.le_trans ok1.dp (by decide), Nat.le_trans ok1.ln (by decide), rfl, ?_⟩
    rw [decide_eq_true rfl]
    exact k H2 (s1.trans s2)
abbrev IsC (P : Program) (w : World) (K : PySem.W.Frag) (mg : Str → Option Value) (base : Heap) (C CM : Addr) : Prop := CalG P w K mg base 8 "_law_is" (spIs C CM) []
/-! ### _law_entries -/
def spEnt (C : Addr) : Sp := fun vs H Q _ => ∃ (t : Addr) (r c : Nat) (A : Nat → Nat → Int) (u : Int), vs = [.ref t] ∧ PrAt H t r c A u ∧ r ≤ 1000 ∧ c ≤ 1000 ∧ u ≠ 0 ∧ Sm u ∧ ∀ p H', Same H H' → Tb (RC C) H' p r c (qv A u) → Q (.ref p) H'
abbrev EntC (P : Program) (w : World) (K : PySem.W.Frag) (mg : Str → Option Value) (base : Heap) (C : Addr) : Prop := CalG P w K mg base 6 "_law_entries" (spEnt C) []
end
end Lw

namespace Lw
open PySem PySem.Spec PyProof.Rows L2 MG
abbrev s_is_size_name : Stmt := top 33
abbrev s_is_letter_name : Stmt := top 34
abbrev s_check_about : Stmt := top 55
abbrev s_check_symmetry : Stmt := top 56
abbrev s_Formula___init__ : Stmt := inClass (top 57) 0
abbrev s_Formula___str__ : Stmt := inClass (top 57) 20
abbrev s_Letter___init__ : Stmt := inClass (top 58) 0
abbrev s__law_made : Stmt := top 81
abbrev s__law_right : Stmt := top 83
abbrev s_law : Stmt := top 84
/-- what the top says besides -/
structure TxL (K : PySem.W.Frag) (mg : Str → Option Value) (C CM : Addr) (tk : Tok) (aS : Addr) : Prop extends TxM K mg C CM where
  b_set : mg "set" = none
  b_sorted : mg "sorted" = none
  b_super : mg "super" = none
  g_long : mg "LONGEST_NAME" = some (.int 6 tk)
  g_SYMMETRIES : mg "SYMMETRIES" = some (.ref aS)
  s_sym : ∀ H, SqT K H aS [.str "plain", .str "symmetric", .str "skew"]
/-! ### names -/
def isUp (c : Nat) : Bool := decide (65 ≤ c ∧ c ≤ 90)
def isLo (c : Nat) : Bool := decide (97 ≤ c ∧ c ≤ 122)
def isDg (c : Nat) : Bool := decide (48 ≤ c ∧ c ≤ 57)
abbrev sl (z : Str) : List Nat := z.cps.toList
/-- the name of a letter -/
def lblL : List Nat → Bool
  | [] => false
  | c :: r => isUp c && (decide (r.length ≤ 5) && r.all fun d => isLo d || isDg d)
def lblB (z : Str) : Bool := lblL (sl z)
/-- the name of a size -/
def spanB (z : Str) : Bool := decide (1 ≤ z.length ∧ z.length ≤ 6) && (sl z).all isLo
theorem c_alnum : ∀ c, c < 128 → Unicode.isAlnum c = (isDg c || (isUp c || isLo c)) := by decide +kernel
theorem c_alpha : ∀ c, c < 128 → Unicode.isAlpha c = (isUp c || isLo c) := by decide +kernel
theorem c_lower : ∀ c, c < 128 → Unicode.isLower c = isLo c := by decide +kernel
theorem c_upper : ∀ c, c < 128 → Unicode.isUpper c = isUp c := by decide +kernel
theorem c_upT : ∀ c, c < 128 → (Unicode.isUpper c || Unicode.isTitle c) = isUp c := by decide +kernel
theorem c_loT : ∀ c, c < 128 → (Unicode.isLower c || Unicode.isTitle c) = isLo c := by decide +kernel
theorem lo1_fix : ∀ c, c < 128 → (decide (lo1 c = c)) = !isUp c := by decide +kernel
theorem not_both : ∀ c, c < 128 → isUp c = true → isLo c = false ∧ isDg c = false := by decide +kernel
theorem isUp_lt {c : Nat} (h : isUp c = true) : c < 128 := by have := of_decide_eq_true h; omega
theorem isLo_lt {c : Nat} (h : isLo c = true) : c < 128 := by have := of_decide_eq_true h; omega
theorem isDg_lt {c : Nat} (h : isDg c = true) : c < 128 := by have := of_decide_eq_true h; omega
theorem len_sl (z : Str) : z.length = (sl z).length := (Array.length_toList).symm
theorem str_ext {x y : Str} (h : sl x = sl y) : x = y := by
  cases x
  cases y
  exact congrArg Str.mk (Array.ext' h)
/-- in is_letter_name, ahead of the return -/
def preL (z : Str) : Bool := Txt.isascii z && (Txt.isalnum z && decide ((z.length : Int) ≤ 6))
theorem ascii_all {z : Str} (h : Txt.isascii z = true) : ∀ c ∈ sl z, c < 128 := fun c hc => by
  have h' : z.cps.all (fun d => decide (d < 128)) = true := h
  rw [← Array.all_toList] at h'
  exact of_decide_eq_true (List.all_eq_true.mp h' c hc)
theorem all_ascii {z : Str} (h : ∀ c ∈ sl z, c < 128) : Txt.isascii z = true := by
  show z.cps.all (fun d => decide (d < 128)) = true
  rw [← Array.all_toList]
  exact List.all_eq_true.mpr fun c hc => decide_eq_true (h c hc)
theorem lblL_mem {l : List Nat} (h : lblL l = true) : ∀ c ∈ l, c < 128 ∧ (isDg c || (isUp c || isLo c)) = true := by
  cases l with
  | nil => cases h
  | cons c r =>
    have h' : (isUp c && (decide (r.length ≤ 5) && r.all fun d => isLo d || isDg d)) = true := h
    simp only [Bool.and_eq_true, List.all_eq_true, decide_eq_true_eq] at h'
    obtain ⟨h1, h2, h3⟩ := h'
    intro d hd
    rcases List.mem_cons.mp hd with rfl | hd
    · exact ⟨isUp_lt h1, by rw [h1]; simp⟩
    · have := h3 d hd
      rcases Bool.or_eq_true_iff.mp this with e | e
      · exact ⟨isLo_lt e, by rw [e]; simp⟩
      · exact ⟨isDg_lt e, by rw [e]; simp⟩
theorem pre_no {z : Str} (h : preL z = false) : lblB z = false := by
  cases e : lblB z with
  | false => rfl
  | true =>
    have m := lblL_mem e
    have a := all_ascii fun c hc => (m c hc).1
    have n : 1 ≤ z.length ∧ z.length ≤ 6 := by
      rw [len_sl]
      have e' : lblL (sl z) = true := e
      revert e'
      cases sl z with
      | nil => intro q; cases q
      | cons c r =>
        intro q
        have q' : (isUp c && (decide (r.length ≤ 5) && r.all fun d => isLo d || isDg d)) = true := q
        simp only [Bool.and_eq_true, decide_eq_true_eq] at q'
        have := q'.2.1
        simp only [List.length_cons]
        omega
    have b : Txt.isalnum z = true := by
      show (decide (z.length > 0) && z.cps.all Unicode.isAlnum) = true
      rw [decide_eq_true (by omega), Bool.true_and, ← Array.all_toList]
      refine List.all_eq_true.mpr fun c hc => ?_
      rw [c_alnum c (m c hc).1]
      exact (m c hc).2
    have p : preL z = true := by
      unfold preL
      rw [a, b, decide_eq_true (by omega)]
      rfl
    rw [p] at h
    cases h
theorem pre_yes {z : Str} (h : preL z = true) : ∃ c r, sl z = c :: r ∧ r.length ≤ 5 ∧ c < 128 ∧ (∀ d ∈ r, d < 128 ∧ (isDg d || (isUp d || isLo d)) = true) := by
  unfold preL at h
  simp only [Bool.and_eq_true, decide_eq_true_eq] at h
  obtain ⟨a, b, n⟩ := h
  have m := ascii_all a
  have b' : (decide (z.length > 0) && z.cps.all Unicode.isAlnum) = true := b
  rw [← Array.all_toList] at b'
  simp only [Bool.and_eq_true, decide_eq_true_eq, List.all_eq_true] at b'
  obtain ⟨b1, b2⟩ := b'
  rw [len_sl] at b1 n
  cases e : sl z with
  | nil => rw [e] at b1; simp at b1
  | cons c r =>
    rw [e] at m n
    rw [show z.cps.toList = c :: r from e] at b2
    simp only [List.length_cons] at n
    refine ⟨c, r, rfl, by omega, m c List.mem_cons_self, fun d hd => ⟨m d (.tail _ hd), ?_⟩⟩
    rw [← c_alnum d (m d (.tail _ hd))]
    exact b2 d (.tail _ hd)
theorem sl_mk (l : List Nat) : sl ⟨l.toArray⟩ = l := rfl
theorem sl_cut (z : Str) (lo hi : Option Int) : sl (cutS z lo hi) = ((sl z).drop (HT.sIx z.length 0 lo)).take (HT.sIx z.length z.length hi - HT.sIx z.length 0 lo) := sl_mk _
theorem cut_tail {z : Str} {c : Nat} {r : List Nat} (e : sl z = c :: r) : sl (cutS z (some 1) none) = r := by
  have n : z.length = r.length + 1 := by rw [len_sl, e]; rfl
  rw [sl_cut, e, n]
  have h1 : HT.sIx (r.length + 1) 0 (some 1) = 1 := by
    unfold HT.sIx
    simp
  have h2 : HT.sIx (r.length + 1) (r.length + 1) none = r.length + 1 := rfl
  rw [h1, h2]
  simp
theorem str_beq {x y : Str} : (x == y) = decide (sl x = sl y) := by
  by_cases h : x = y
  · rw [h]
    simp
  · rw [beq_eq_false_iff_ne.mpr h]
    exact (decide_eq_false fun e => h (str_ext e)).symm
theorem ret_lbl {z : Str} {c : Nat} {r : List Nat} (e : sl z = c :: r) (n : r.length ≤ 5) (hc : c < 128) (hr : ∀ d ∈ r, d < 128 ∧ (isDg d || (isUp d || isLo d)) = true) :
    (Txt.isupper ⟨#[c]⟩ && (cutS z (some 1) none == Txt.lower (cutS z (some 1) none))) = lblB z := by
  have e1 : Txt.isupper ⟨#[c]⟩ = isUp c := by
    show ((#[c].any Unicode.isUpper) && !(#[c].any fun c => Unicode.isLower c || Unicode.isTitle c)) = _
    have h1 : (#[c].any Unicode.isUpper) = isUp c := by simp [c_upper c hc]
    have h2 : (#[c].any fun c => Unicode.isLower c || Unicode.isTitle c) = isLo c := by simp [c_loT c hc]
    rw [h1, h2]
    cases hu : isUp c with
    | false => rfl
    | true => rw [(not_both c hc hu).1]; rfl
  have ec := cut_tail e
  have el : sl (Txt.lower (cutS z (some 1) none)) = r.map lo1 := by
    rw [lower_ascii (fun d hd => (hr d (by rw [← ec]; exact hd)).1)]
    show (Array.map lo1 (cutS z (some 1) none).cps).toList = _
    rw [Array.toList_map]
    rw [show (cutS z (some 1) none).cps.toList = r from ec]
  rw [e1, str_beq, ec, el]
  show _ = lblL (sl z)
  rw [e]
  show _ = (isUp c && (decide (r.length ≤ 5) && r.all fun d => isLo d || isDg d))
  rw [decide_eq_true n, Bool.true_and]
  congr 1
  refine Bool.eq_iff_iff.mpr ?_
  rw [decide_eq_true_eq, List.all_eq_true]
  have fix : r = r.map lo1 ↔ ∀ d ∈ r, lo1 d = d := by
    clear e n hr ec el
    induction r with
    | nil => simp
    | cons d r ih =>
      rw [List.map_cons, List.cons.injEq, ih]
      constructor
      · rintro ⟨h1, h2⟩ x hx
        rcases List.mem_cons.mp hx with rfl | hx
        · exact h1.symm
        · exact h2 x hx
      · intro h
        exact ⟨(h d List.mem_cons_self).symm, fun x hx => h x (.tail _ hx)⟩
  rw [fix]
  constructor
  · intro h d hd
    obtain ⟨h1, h2⟩ := hr d hd
    have h3 := lo1_fix d h1
    rw [decide_eq_true (h d hd)] at h3
    cases hu : isUp d with
    | true => rw [hu] at h3; cases h3
    | false =>
      rw [hu] at h2
      rw [Bool.or_comm]
      exact h2
  · intro h d hd
    obtain ⟨h1, h2⟩ := hr d hd
    have h3 := lo1_fix d h1
    have nu : isUp d = false := by
      cases hu : isUp d with
      | false => rfl
      | true =>
        obtain ⟨a, b⟩ := not_both d h1 hu
        have := h d hd
        rw [a, b] at this
        cases this
    rw [nu] at h3
    exact of_decide_eq_true h3
theorem span_eq {z : Str} (n : z.length ≤ 6) : (Txt.isascii z && (Txt.isalpha z && Txt.islower z)) = spanB z := by
  refine Bool.eq_iff_iff.mpr ?_
  unfold spanB
  simp only [Bool.and_eq_true, decide_eq_true_eq, List.all_eq_true]
  constructor
  · rintro ⟨a, b, l⟩
    have m := ascii_all a
    have b' : (decide (z.length > 0) && z.cps.all Unicode.isAlpha) = true := b
    have l' : (z.cps.any Unicode.isLower && !z.cps.any fun c => Unicode.isUpper c || Unicode.isTitle c) = true := l
    rw [← Array.all_toList] at b'
    rw [← Array.any_toList, ← Array.any_toList] at l'
    simp only [Bool.and_eq_true, decide_eq_true_eq, List.all_eq_true, Bool.not_eq_true', List.any_eq_false] at b' l'
    refine ⟨⟨b'.1, n⟩, fun c hc => ?_⟩
    have h1 := b'.2 c hc
    have h2 := l'.2 c hc
    rw [c_upT c (m c hc)] at h2
    rw [c_alpha c (m c hc)] at h1
    exact (Bool.or_eq_true_iff.mp h1).resolve_left h2
  · rintro ⟨⟨h0, _⟩, h⟩
    have m : ∀ c ∈ sl z, c < 128 := fun c hc => isLo_lt (h c hc)
    refine ⟨all_ascii m, ?_, ?_⟩
    · show (decide (z.length > 0) && z.cps.all Unicode.isAlpha) = true
      rw [← Array.all_toList, decide_eq_true (by omega), Bool.true_and]
      refine List.all_eq_true.mpr fun c hc => ?_
      rw [c_alpha c (m c hc), h c hc]
      simp
    · show (z.cps.any Unicode.isLower && !z.cps.any fun c => Unicode.isUpper c || Unicode.isTitle c) = true
      rw [← Array.any_toList, ← Array.any_toList]
      simp only [Bool.and_eq_true, Bool.not_eq_true', List.any_eq_false, List.any_eq_true]
      constructor
      · rw [len_sl] at h0
        cases e : sl z with
        | nil => rw [e] at h0; simp at h0
        | cons c r =>
          refine ⟨c, by rw [show z.cps.toList = c :: r from e]; exact List.mem_cons_self, ?_⟩
          have hc : c ∈ sl z := by rw [e]; exact List.mem_cons_self
          rw [c_lower c (m c hc)]
          exact h c hc
      · intro c hc z1
        rw [c_upT c (m c hc)] at z1
        have lo := h c hc
        rw [(not_both c (m c hc) z1).1] at lo
        cases lo
theorem span_long {z : Str} (n : ¬ z.length ≤ 6) : spanB z = false := by
  unfold spanB
  rw [decide_eq_false (by omega), Bool.false_and]
end Lw

namespace Lw
open PySem PySem.Spec PyProof.Rows L2 MG
section
variable {P : Program} {w : World} {K : PySem.W.Frag} {mg : Str → Option Value} {base : Heap} {C CM aS : Addr} {tk : Tok}
/-! ### which text a value is -/
def NotS (K : PySem.W.Frag) (H : Hp) (x : V) : Prop := ∃ t, TyX K H x t ∧ PySem.W.kitOne K t (.type "str") = some false
theorem NotS.same {H H' : Hp} {x : V} (h : NotS K H x) (s : Same H H') : NotS K H' x := h.elim fun t h => ⟨t, MG.TyX.same h.1 s, h.2⟩
def StrQ (K : PySem.W.Frag) (H : Hp) (x : V) : Option Str → Prop
  | some z => x = .str z ∧ z.length ≤ 2000
  | none => NotS K H x
theorem StrQ.same {H H' : Hp} {x : V} {o : Option Str} (h : StrQ K H x o) (s : Same H H') : StrQ K H' x o := by
  cases o with
  | none => exact NotS.same h s
  | some z => exact h
def lblO : Option Str → Bool
  | some z => lblB z
  | none => false
def spanO : Option Str → Bool
  | some z => spanB z
  | none => false
theorem big1000 {z : Str} (h : z.length ≤ 2000) : z.length ≤ sizeLine := Nat.le_trans h (by decide)
def spIsSz (K : PySem.W.Frag) : Sp := fun vs H Q _ => ∃ (x : V) (o : Option Str), vs = [x] ∧ StrQ K H x o ∧ Q (.bl (spanO o)) H
theorem sc_is_size_name : FnScope ["given"] ["given"] (defScope s_is_size_name) := ⟨rfl, rfl, rfl, by decide +kernel, rfl, by decide +kernel, by decide +kernel⟩
theorem ok_issz {f : Addr} {fd : FuncData} (F : Fun K "is_size_name" "is_size_name" s_is_size_name f fd) (T : TxL K mg C CM tk aS) : FnOk P w K mg base CX0 2 f fd ["given"] (spIsSz K) := by
  refine F.ok sc_is_size_name (fun vs H Q E h => ?_) (fun cdv A outer s H vs Q E hr h => ?_)
  · obtain ⟨x, o, rfl, _⟩ := h
    rfl
  · obtain ⟨x, o, rfl, hx, k⟩ := h
    refine ⟨_, (pss_cons (ps_if (pt_not (PW.pt (pw_and (pt_val (pe_callB (id := "isinstance") (call_isiK (K := K)) (by rfl) T.b_isinstance (by decide +kernel) (pa_cons (pv 0) (pa_cons (pe_bltn (v := V.ty "str") (u := Value.type "str") (by rfl) T.b_str (by decide +kernel) rfl) pa_nil)))) (pw_and1 (pt_cmpR op_le (pe_callB (id := "len") call_len_str (by rfl) T.b_len (by decide +kernel) (pa_cons (pv 0) pa_nil)) (pe_glob (v := V.int 6) rfl T.g_long ⟨_, rfl⟩) (nomark _)))))) (pss_one (ps_ret pe_bl))
  pss_nil)
  (pss_one (ps_ret (pe_and (pe_bm0 PySem.F.plainAttrs_str PySem.F.slot_str_isascii PySem.F.type_str_isascii mt_isascii (pv 0)) (pe_and (pe_bm0 PySem.F.plainAttrs_str PySem.F.slot_str_isalpha PySem.F.type_str_isalpha mt_isalpha (pv 0)) (pe_one (pe_bm0 PySem.F.plainAttrs_str PySem.F.slot_str_islower PySem.F.type_str_islower mt_islower (pv 0)))))))), ?_⟩
    cases o with
    | none =>
      obtain ⟨t, h1, h2⟩ := hx
      exact ⟨_, rfl, x, _, _, _, _, rfl, .ty "str", h1, h2, _, rfl, iteF k⟩
    | some z =>
      obtain ⟨rfl, hl⟩ := hx
      have big := big1000 hl
      refine ⟨_, rfl, .str z, _, _, _, true, rfl, .ty "str", .base (.str z), kit_ty (by decide +kernel), _, rfl, iteT ?_⟩
      refine ⟨_, rfl, z, rfl, big, _, _, rfl, rfl, _, rfl, ?_⟩
      by_cases n : z.length ≤ 6
      · refine ifF (by simp; omega) ?_
        have e := span_eq n
        have k' : Q (.bl (spanB z)) H := k
        rw [← e] at k'
        refine ⟨_, rfl, rfl, z, rfl, rfl, True.intro, _, rfl, ?_⟩
        cases h1 : Txt.isascii z with
        | false => rw [h1] at k'; exact iteF k'
        | true =>
        rw [h1] at k'
        refine iteT ⟨_, rfl, rfl, z, rfl, rfl, True.intro, _, rfl, ?_⟩
        cases h2 : Txt.isalpha z with
        | false => rw [h2] at k'; exact iteF k'
        | true =>
        rw [h2] at k'
        exact iteT ⟨_, rfl, rfl, z, rfl, rfl, True.intro, k'⟩
      · refine ifT (by simp; omega) ?_
        have k' : Q (.bl (spanB z)) H := k
        rw [span_long n] at k'
        exact k'
abbrev IsSzC (P : Program) (w : World) (K : PySem.W.Frag) (mg : Str → Option Value) (base : Heap) : Prop := CalF P w K mg base 2 "is_size_name" (spIsSz K) []
theorem beq_dec {x y : Str} : (x == y) = decide (x = y) := by
  by_cases h : x = y
  · rw [h]; simp
  · rw [decide_eq_false h]; exact beq_eq_false_iff_ne.mpr h
def spIsLn (K : PySem.W.Frag) : Sp := fun vs H Q _ => ∃ (x : V) (o : Option Str), vs = [x] ∧ StrQ K H x o ∧ Q (.bl (lblO o)) H
theorem sc_is_letter_name : FnScope ["given"] ["given"] (defScope s_is_letter_name) := ⟨rfl, rfl, rfl, by decide +kernel, rfl, by decide +kernel, by decide +kernel⟩
theorem ok_isln {f : Addr} {fd : FuncData} (F : Fun K "is_letter_name" "is_letter_name" s_is_letter_name f fd) (T : TxL K mg C CM tk aS) : FnOk P w K mg base CX0 2 f fd ["given"] (spIsLn K) := by
  refine F.ok sc_is_letter_name (fun vs H Q E h => ?_) (fun cdv A outer s H vs Q E hr h => ?_)
  · obtain ⟨x, o, rfl, _⟩ := h
    rfl
  · obtain ⟨x, o, rfl, hx, k⟩ := h
    refine ⟨_, (pss_cons (ps_if (pt_not (PW.pt (pw_and (pt_val (pe_callB (id := "isinstance") (call_isiK (K := K)) (by rfl) T.b_isinstance (by decide +kernel) (pa_cons (pv 0) (pa_cons (pe_bltn (v := V.ty "str") (u := Value.type "str") (by rfl) T.b_str (by decide +kernel) rfl) pa_nil)))) (pw_and (pt_val (pe_bm0 PySem.F.plainAttrs_str PySem.F.slot_str_isascii PySem.F.type_str_isascii mt_isascii (pv 0))) (pw_and (pt_val (pe_bm0 PySem.F.plainAttrs_str PySem.F.slot_str_isalnum PySem.F.type_str_isalnum mt_isalnum (pv 0))) (pw_and1 (pt_cmpR op_le (pe_callB (id := "len") call_len_str (by rfl) T.b_len (by decide +kernel) (pa_cons (pv 0) pa_nil)) (pe_glob (v := V.int 6) rfl T.g_long ⟨_, rfl⟩) (nomark _)))))))) (pss_one (ps_ret pe_bl))
  pss_nil)
  (pss_one (ps_ret (pe_and (pe_bm0 PySem.F.plainAttrs_str PySem.F.slot_str_isupper PySem.F.type_str_isupper mt_isupper (pe_ix ix_str (pv 0) pe_int (fun _ _ => rfl))) (pe_one (pe_cmpR op_eq (pe_slice sl_str (pv 0) (po_some pe_int) po_none) (pe_bm0 PySem.F.plainAttrs_str PySem.F.slot_str_lower PySem.F.type_str_lower mt_lower (pe_slice sl_str (pv 0) (po_some pe_int) po_none)) (nomark _))))))), ?_⟩
    cases o with
    | none =>
      obtain ⟨t, h1, h2⟩ := hx
      exact ⟨_, rfl, x, _, _, _, _, rfl, .ty "str", h1, h2, _, rfl, iteF k⟩
    | some z =>
      obtain ⟨rfl, hl⟩ := hx
      have big := big1000 hl
      have k' : Q (.bl (lblB z)) H := k
      refine ⟨_, rfl, .str z, _, _, _, true, rfl, .ty "str", .base (.str z), kit_ty (by decide +kernel), _, rfl, iteT ?_⟩
      refine ⟨_, rfl, rfl, z, rfl, rfl, True.intro, _, rfl, ?_⟩
      cases h1 : Txt.isascii z with
      | false =>
        rw [pre_no (by unfold preL; rw [h1]; rfl)] at k'
        exact iteF k'
      | true =>
      refine iteT ⟨_, rfl, rfl, z, rfl, rfl, True.intro, _, rfl, ?_⟩
      cases h2 : Txt.isalnum z with
      | false =>
        rw [pre_no (by unfold preL; rw [h1, h2]; rfl)] at k'
        exact iteF k'
      | true =>
      refine iteT ⟨_, rfl, z, rfl, big, _, _, rfl, rfl, _, rfl, ?_⟩
      by_cases n : (z.length : Int) ≤ 6
      · refine ifF (by simp; omega) ?_
        have pre : preL z = true := by unfold preL; rw [h1, h2, decide_eq_true n]; rfl
        obtain ⟨c, r, e, hr5, hc, hr2⟩ := pre_yes pre
        have rl := ret_lbl e hr5 hc hr2
        rw [← rl] at k'
        refine ⟨_, rfl, z, 0, c, rfl, rfl, big, ?_, ?_⟩
        · show atI (sl z) 0 = some c
          rw [e]
          unfold atI ixN
          simp
        refine ⟨rfl, _, rfl, rfl, True.intro, _, rfl, ?_⟩
        cases h3 : Txt.isupper ⟨#[c]⟩ with
        | false => rw [h3] at k'; exact iteF k'
        | true =>
        rw [h3] at k'
        refine iteT ⟨_, rfl, 1, rfl, z, rfl, big, _, rfl, 1, rfl, z, rfl, big, rfl, _, rfl, rfl, ?_, rfl, ?_⟩
        · rw [len_sl, cut_tail e]
          omega
        · rw [Bool.true_and, beq_dec] at k'
          have ed : decide (V.str (cutS z (some 1) none) = V.str (Txt.lower (cutS z (some 1) none))) = decide (cutS z (some 1) none = Txt.lower (cutS z (some 1) none)) := decide_eq_decide.mpr ⟨fun h => V.str.inj h, fun h => congrArg V.str h⟩
          rw [ed]
          exact k'
      · refine ifT (by simp; omega) ?_
        rw [pre_no (by unfold preL; rw [h1, h2, decide_eq_false n]; rfl)] at k'
        exact k'
abbrev IsLnC (P : Program) (w : World) (K : PySem.W.Frag) (mg : Str → Option Value) (base : Heap) : Prop := CalF P w K mg base 2 "is_letter_name" (spIsLn K) []
/-! ### the law's own -/
abbrev YStr (z : Str) : Nat → Hp → V → Hp → Prop := fun i H x H' => H' = H ∧ ∃ c, z.cps[i]? = some c ∧ x = .str ⟨#[c]⟩
theorem walk_str (z : Str) : Walk (Its z) z.length (fun _ => True) (YStr z) := ⟨fun i H hi _ => hi, fun H _ => Nat.le_refl _, fun i H x H' _ _ y => y⟩
theorem all_bools {z : Str} {p : Nat → Bool} {ys : List V} (hl : ys.length = z.length) (h : ∀ (i : Nat) (y : V), ys[i]? = some y → ∀ c, z.cps[i]? = some c → y = V.bl (p c)) : ys = ((sl z).map p).map V.bl := by
  refine List.ext_getElem? fun i => ?_
  rw [List.map_map, List.getElem?_map]
  cases e : (sl z)[i]? with
  | none =>
    rw [List.getElem?_eq_none]
    · rfl
    · rw [hl, len_sl]
      exact List.getElem?_eq_none_iff.mp e
  | some c =>
    have hi : i < ys.length := by
      rw [hl, len_sl]
      exact (List.getElem?_eq_some_iff.mp e).1
    have ec : z.cps[i]? = some c := by rw [← Array.getElem?_toList]; exact e
    rw [List.getElem?_eq_getElem hi, h i _ (List.getElem?_eq_getElem hi) c ec]
    rfl
theorem small_list : ((("abcdefghijklmnopqrstuvwxyz" : Str)).cps.toList) = (List.range 26).map (97 + ·) := by decide +kernel
theorem great_list : ((("ABCDEFGHIJKLMNOPQRSTUVWXYZ" : Str)).cps.toList) = (List.range 26).map (65 + ·) := by decide +kernel
theorem both_list : ((("abcdefghijklmnopqrstuvwxyz0123456789" : Str)).cps.toList) = (List.range 26).map (97 + ·) ++ (List.range 10).map (48 + ·) := by decide +kernel
theorem in_range {c a n : Nat} : c ∈ (List.range n).map (a + ·) ↔ a ≤ c ∧ c < a + n := by
  rw [List.mem_map]
  constructor
  · rintro ⟨x, hx, rfl⟩
    have := List.mem_range.mp hx
    show a ≤ a + x ∧ a + x < a + n
    omega
  · rintro ⟨h1, h2⟩
    exact ⟨c - a, List.mem_range.mpr (by omega), by show a + (c - a) = c; omega⟩
theorem in_small {c : Nat} : decide (c ∈ (("abcdefghijklmnopqrstuvwxyz" : Str)).cps.toList) = isLo c := by
  rw [small_list]
  exact decide_eq_decide.mpr (in_range.trans (by omega))
theorem in_great {c : Nat} : decide (c ∈ (("ABCDEFGHIJKLMNOPQRSTUVWXYZ" : Str)).cps.toList) = isUp c := by
  rw [great_list]
  exact decide_eq_decide.mpr (in_range.trans (by omega))
theorem in_both {c : Nat} : decide (c ∈ (("abcdefghijklmnopqrstuvwxyz0123456789" : Str)).cps.toList) = (isLo c || isDg c) := by
  rw [both_list]
  unfold isLo isDg
  rw [← Bool.decide_or]
  refine decide_eq_decide.mpr ?_
  rw [List.mem_append, in_range, in_range]
  omega
def spLSpan (K : PySem.W.Frag) : Sp := fun vs H Q _ => ∃ (x : V) (o : Option Str), vs = [x] ∧ StrQ K H x o ∧ ∀ H', Same H H' → Q (.bl (spanO o)) H'
abbrev LSpanC (P : Program) (w : World) (K : PySem.W.Frag) (mg : Str → Option Value) (base : Heap) : Prop := CalG P w K mg base 2 "_law_is_span" (spLSpan K) []
def spLLab (K : PySem.W.Frag) : Sp := fun vs H Q _ => ∃ (x : V) (o : Option Str), vs = [x] ∧ StrQ K H x o ∧ ∀ H', Same H H' → Q (.bl (lblO o)) H'
abbrev LLabC (P : Program) (w : World) (K : PySem.W.Frag) (mg : Str → Option Value) (base : Heap) : Prop := CalG P w K mg base 2 "_law_is_label" (spLLab K) []
end
end Lw

namespace Lw
open PySem PySem.Spec PyProof.Rows L2 MG
section
variable {P : Program} {w : World} {K : PySem.W.Frag} {mg : Str → Option Value} {base : Heap} {C CM aS : Addr} {tk : Tok} {H H' : Hp} {x : V}
/-! ### the symmetry -/
def plainS : Str := "plain"
def symmS : Str := "symmetric"
def skewS : Str := "skew"
theorem dec_str {x y : Str} : decide (V.str x = V.str y) = decide (x = y) := decide_eq_decide.mpr ⟨fun h => V.str.inj h, fun h => congrArg V.str h⟩
/-- the sides of a letter -/
structure Sds (H : Hp) (p : Addr) (a b : Str) : Prop where
  ex : ∃ p1 p2, H p = some (.tup [.ref p1, .ref p2]) ∧ H p1 = some (.tup [.str a]) ∧ H p2 = some (.tup [.str b])
  s1 : spanB a = true
  s2 : spanB b = true
theorem Sds.same {p : Addr} {a b : Str} (h : Sds H p a b) (s : Same H H') : Sds H' p a b := by
  obtain ⟨p1, p2, e, e1, e2⟩ := h.ex
  exact ⟨⟨p1, p2, s _ _ e, s _ _ e1, s _ _ e2⟩, h.s1, h.s2⟩
theorem span_ok {z : Str} (h : spanB z = true) : PyData.strOk z = true := by
  unfold spanB at h
  have h2 := (Bool.and_eq_true_iff.mp h).2
  unfold PyData.strOk
  rw [← Array.all_toList]
  refine List.all_eq_true.mpr fun c hc => ?_
  have := isLo_lt (List.all_eq_true.mp h2 c hc)
  exact decide_eq_true (by omega)
theorem one_shp {z : Str} (h : spanB z = true) : SeqAt.shaped (.tuple [.str z]) = true := by
  unfold SeqAt.shaped
  rw [Bool.and_eq_true]
  refine ⟨by simp [PyData.canLay0, PyData.canLayAll0, span_ok h], decide_eq_true ?_⟩
  have h3 : (PyData.tuple [.str z]).depth ≤ 2 := by simp [PyData.depth, PyData.depthAll]
  omega
theorem one_eqv {a b : Str} : PyData.eqv (.tuple [.str a]) (.tuple [.str b]) = decide (a = b) := by
  unfold PyData.eqv PyData.eqvAll
  unfold PyData.eqv PyData.eqvAll
  rw [beq_dec, Bool.and_true]
theorem one_dp {K : PySem.W.Frag} {H : Hp} {p : Addr} {z : Str} (h : H p = some (.tup [.str z])) : Dp K H (.ref p) (.tuple [.str z]) := .tup (SqT.of h) (.cons (.str z) .nil)
def spChkS : Sp := fun vs H Q _ => ∃ (p : Addr) (a b z : Str), vs = [.ref p, .str z] ∧ Sds H p a b ∧ (z = plainS ∨ z = symmS ∨ z = skewS) ∧ (z ≠ plainS → a = b) ∧ Q .non H
theorem sc_check_symmetry : FnScope ["letter_sides", "symmetry"] ["letter_sides", "symmetry"] (defScope s_check_symmetry) := ⟨rfl, rfl, rfl, by decide +kernel, rfl, by decide +kernel, by decide +kernel⟩
theorem ok_chks {f : Addr} {fd : FuncData} (F : Fun K "check_symmetry" "check_symmetry" s_check_symmetry f fd) (T : TxL K mg C CM tk aS) : FnOk P w K mg base CX0 6 f fd ["letter_sides", "symmetry"] spChkS := by
  refine F.ok sc_check_symmetry (fun vs H Q E h => ?_) (fun cdv A outer s H vs Q E hr h => ?_)
  · obtain ⟨p, a, b, z, rfl, _⟩ := h
    rfl
  · obtain ⟨p, a, b, z, rfl, hp, hz, hab, k⟩ := h
    have hu64 := hr.units
    refine ⟨_, (pss_cons (ps_if (pt_not (PW.pt (pw_and (pt_val (pe_callB (id := "isinstance") (call_isiK (K := K)) (by rfl) T.b_isinstance (by decide +kernel) (pa_cons (pv 1) (pa_cons (pe_bltn (v := V.ty "str") (u := Value.type "str") (by rfl) T.b_str (by decide +kernel) rfl) pa_nil)))) (pw_and1 (pt_cmpR op_in_seq (pv 1) (pe_glob (v := V.ref aS) rfl T.g_SYMMETRIES rfl) rfl))))) (pss_one ps_never)
  pss_nil)
  (pss_one (ps_if (PW.pt (pw_and (pt_cmpR op_ne (pv 1) pe_str (nomark _)) (pw_and1 (pt_cmpR (op_neD hu64) (pe_ix (ix_tupK (K := K)) (pv 0) pe_int (fun _ _ => rfl)) (pe_ix (ix_tupK (K := K)) (pv 0) pe_int (fun _ _ => rfl)) (nomark _))))) (pss_one ps_never)
  pss_nil))), ?_⟩
    obtain ⟨p1, p2, ep, e1, e2⟩ := hp.ex
    refine ⟨_, rfl, .str z, _, _, _, true, rfl, .ty "str", .base (.str z), kit_ty (by decide +kernel), _, rfl, iteT ?_⟩
    refine ⟨_, rfl, aS, _, rfl, .inr (T.s_sym H), rfl, rfl, _, rfl, ?_⟩
    refine ifF ?_ ?_
    · rcases hz with rfl | rfl | rfl <;> decide +kernel
    refine ⟨_, rfl, rfl, _, rfl, ?_⟩
    rw [show (Str.ofString "plain") = plainS from rfl, dec_str]
    by_cases hz : z = plainS
    · rw [decide_eq_true hz]
      exact iteF (iteF k)
    rw [decide_eq_false hz]
    obtain rfl := hab hz
    refine iteT ?_
    refine ⟨_, rfl, p, _, _, _, rfl, rfl, SqT.of ep, rfl, _, rfl, p, _, _, _, rfl, rfl, SqT.of ep, rfl, ?_⟩
    refine ⟨_, _, one_dp e1, one_dp e2, one_shp hp.s1, one_shp hp.s2, _, rfl, ?_⟩
    rw [one_eqv, decide_eq_true rfl]
    exact iteF k
abbrev ChkSC (P : Program) (w : World) (K : PySem.W.Frag) (mg : Str → Option Value) (base : Heap) : Prop := CalF P w K mg base 6 "check_symmetry" spChkS []
/-! ### about -/
abbrev BooC (P : Program) (w : World) (K : PySem.W.Frag) (mg : Str → Option Value) (base : Heap) (C : Addr) : Prop := BooF P w K mg base 2 C (spBool C)
def spChkA (C : Addr) : Sp := fun vs H Q _ => ∃ (p : Addr) (a b z : Str) (y : V) (q : Rat), vs = [.ref p, .str z, y] ∧ Sds H p a b ∧ NumAt C H y q ∧ (q ≠ 0 → a = b ∧ z ≠ skewS) ∧ ∀ H', Same H H' → Q .non H'
theorem sc_check_about : FnScope ["letter_sides", "symmetry", "about"] ["letter_sides", "symmetry", "about"] (defScope s_check_about) := ⟨rfl, rfl, rfl, by decide +kernel, rfl, by decide +kernel, by decide +kernel⟩
theorem ok_chka {f : Addr} {fd : FuncData} (F : Fun K "check_about" "check_about" s_check_about f fd) (T : TxL K mg C CM tk aS) (c_number : NumberC P w K mg base C) (c_to : ToC P w K mg base C) (t_bool : BooC P w K mg base C) : FnOk P w K mg base CX0 8 f fd ["letter_sides", "symmetry", "about"] (spChkA C) := by
  refine F.ok sc_check_about (fun vs H Q E h => ?_) (fun cdv A outer s H vs Q E hr h => ?_)
  · obtain ⟨p, a, b, z, y, q, rfl, _⟩ := h
    rfl
  · obtain ⟨p, a, b, z, y, q, rfl, hp, hy, hq, k⟩ := h
    have hu64 := hr.units
    refine ⟨_, (pss_cons (ps_if (pt_not (pt_val (pe_cf c_number hr (by decide) rfl (pa_cons (pv 2) pa_nil)))) (pss_one ps_never)
  pss_nil)
  (pss_one (ps_if (PW.pt (pw_and (pt_truO t_bool hr (by decide) (pe_cf c_to hr (by decide) rfl (pa_cons (pv 2) pa_nil))) (pw_and1 (PW.pt (pw_or (pt_cmpR (op_neD hu64) (pe_ix (ix_tupK (K := K)) (pv 0) pe_int (fun _ _ => rfl)) (pe_ix (ix_tupK (K := K)) (pv 0) pe_int (fun _ _ => rfl)) (nomark _)) (pw_or1 (pt_cmpR op_eq (pv 1) pe_str (nomark _)))))))) (pss_one ps_never)
  pss_nil))), ?_⟩
    obtain ⟨ty, b1, b2, b3, h1, h2, h3, h4, h5⟩ := hy.dig T.toTxR
    refine ⟨_, rfl, y, ty, b1, b2, b3, rfl, h1, h2, h3, h4, _, rfl, ?_⟩
    refine ifF (by rw [h5]; rfl) ?_
    refine ⟨_, rfl, y, q, rfl, hy, fun r H1 s1 hr1 => ?_⟩
    have hr2 := hr1
    obtain ⟨dx, er⟩ := hr2
    refine ⟨r, dx, _, rfl, er, r, q, rfl, hr1, _, rfl, ?_⟩
    have en : (q.num != 0) = !decide (q = 0) := by
      by_cases h : q = 0
      · rw [h]
        rfl
      · have h' : q.num ≠ 0 := fun e => h (Rat.num_eq_zero.mp e)
        rw [decide_eq_false h]
        exact bne_iff_ne.mpr h'
    rw [en]
    by_cases h0 : q = 0
    · rw [decide_eq_true h0]
      exact iteF (iteF (k _ s1))
    rw [decide_eq_false h0]
    obtain ⟨rfl, hz⟩ := hq h0
    refine iteT ?_
    obtain ⟨p1, p2, ep, e1, e2⟩ := (hp.same s1).ex
    refine ⟨_, rfl, p, _, _, _, rfl, rfl, SqT.of ep, rfl, _, rfl, p, _, _, _, rfl, rfl, SqT.of ep, rfl, ?_⟩
    refine ⟨_, _, one_dp e1, one_dp e2, one_shp hp.s1, one_shp hp.s2, _, rfl, ?_⟩
    rw [one_eqv, decide_eq_true rfl]
    refine iteF ⟨_, rfl, rfl, _, rfl, ?_⟩
    rw [show (Str.ofString "skew") = skewS from rfl, dec_str, decide_eq_false hz]
    exact iteF (k _ s1)
abbrev ChkAC (P : Program) (w : World) (K : PySem.W.Frag) (mg : Str → Option Value) (base : Heap) (C : Addr) : Prop := CalF P w K mg base 8 "check_about" (spChkA C) []
end
end Lw

namespace Lw
open PySem PySem.Spec PyProof.Rows L2 MG
abbrev s_joined_sizes : Stmt := top 46
abbrev s_measured : Stmt := top 50
abbrev s_check_formula : Stmt := top 54
abbrev s_to_side : Stmt := top 36
abbrev s_Formula___eq__ : Stmt := inClass (top 57) 19
abbrev s_Formula___repr__ : Stmt := inClass (top 57) 21
abbrev s_Formula_transposed : Stmt := inClass (top 57) 10
abbrev s_Formula_kind : Stmt := inClass (top 57) 1
abbrev s_Formula_rows : Stmt := inClass (top 57) 2
abbrev s_Formula_columns : Stmt := inClass (top 57) 3
abbrev s_Formula_middle : Stmt := inClass (top 57) 4
abbrev s_Formula_letters : Stmt := inClass (top 57) 5
abbrev s_Formula_sizes : Stmt := inClass (top 57) 6
abbrev s_Formula_weight : Stmt := inClass (top 57) 7
abbrev s_Formula_levels : Stmt := inClass (top 57) 8
abbrev s_Formula_parts : Stmt := inClass (top 57) 9
abbrev s_Letter_name : Stmt := inClass (top 58) 1
abbrev s_Letter_symmetry : Stmt := inClass (top 58) 2
abbrev s_Letter_about : Stmt := inClass (top 58) 3
abbrev s_Eye___init__ : Stmt := inClass (top 59) 0
abbrev s_Transposed___init__ : Stmt := inClass (top 64) 0
abbrev s__law_label : Stmt := top 77
abbrev s__law_word : Stmt := top 78
abbrev s__law_facts : Stmt := top 79
abbrev s__law_bent : Stmt := top 80
abbrev s__law_fits : Stmt := top 82
/-! ### a formula's fields -/
def fN : List Str := ["_kind", "_parts", "_letters", "_rows", "_columns", "_weight", "_levels", "_middle", "_spelled", "_sizes", "_mark", "_name", "_symmetry", "_about"]
theorem fN_nd : fN.Nodup := by decide +kernel
theorem fN_small : fN.length < 1000 := by decide
/-- what the top says of a class of formulas, at CL; the names its instances bear are of its own -/
structure TxF (K : PySem.W.Frag) (CL : Addr) : Prop where
  cl : Cls K CL
  no : ∀ (i : Nat) (f : Str), fN[i]? = some f → NoAttr K CL f
  ca : PySem.W.findIn K (.ref CL) "__class__" = some (some (.builtin "object.__class__"))
  fmt : FmtK K CL
section
variable {P : Program} {w : World} {K : PySem.W.Frag} {mg : Str → Option Value} {base : Heap} {C CM CL CF aS aL : Addr} {tk : Tok} {H H' : Hp} {x : V}
/-- all but what stands at a is kept -/
def But (a : Addr) (H H' : Hp) : Prop := ∀ b o, H b = some o → b ≠ a → H' b = some o
theorem But.refl {a : Addr} : But a H H := fun _ _ h _ => h
theorem But.trans {a : Addr} {H1 H2 H3 : Hp} (h : But a H1 H2) (h' : But a H2 H3) : But a H1 H3 := fun b o e n => h' b o (h b o e n) n
theorem But.of {a : Addr} (s : Same H H') : But a H H' := fun b o e _ => s b o e
theorem But.upd {a : Addr} {o : HO} : But a H (upd H a o) := fun b u e n => by rw [upd_ne n]; exact e
/-! ### the parts of a formula, by its properties -/
def spFld (CF : Addr) (j : Nat) : Sp := fun vs H Q _ => ∃ (a dx : Addr) (ws : List V) (v : V), vs = [.ref a] ∧ H a = some (.ins CF dx (fN.zip ws)) ∧ ws[j]? = some v ∧ Q v H
theorem sc_Formula_kind : FnScope ["self"] ["self"] (defScope s_Formula_kind) := ⟨rfl, rfl, rfl, by decide +kernel, rfl, by decide +kernel, by decide +kernel⟩
theorem ok_p_kind {f : Addr} {fd : FuncData} (F : Fun K "kind" "Formula.kind" s_Formula_kind f fd) (TF : TxF K CF) : FnOk P w K mg base CX0 2 f fd ["self"] (spFld CF 0) := by
  refine F.ok sc_Formula_kind (fun vs H Q E h => ?_) (fun cdv A outer s H vs Q E hr h => ?_)
  · obtain ⟨a, dx, ws, v, rfl, _⟩ := h
    rfl
  · obtain ⟨a, dx, ws, v, rfl, ea, ev, k⟩ := h
    refine ⟨_, (pss_one (ps_ret (pe_fldK (K := K) (pv 0) rfl))), ?_⟩
    exact ⟨_, rfl, a, CF, dx, _, v, rfl, ea, TF.cl, TF.no 0 _ rfl, (zip_look (j := 0) fN_nd rfl).trans ev, k⟩
theorem sc_Formula_parts : FnScope ["self"] ["self"] (defScope s_Formula_parts) := ⟨rfl, rfl, rfl, by decide +kernel, rfl, by decide +kernel, by decide +kernel⟩
theorem ok_p_parts {f : Addr} {fd : FuncData} (F : Fun K "parts" "Formula.parts" s_Formula_parts f fd) (TF : TxF K CF) : FnOk P w K mg base CX0 2 f fd ["self"] (spFld CF 1) := by
  refine F.ok sc_Formula_parts (fun vs H Q E h => ?_) (fun cdv A outer s H vs Q E hr h => ?_)
  · obtain ⟨a, dx, ws, v, rfl, _⟩ := h
    rfl
  · obtain ⟨a, dx, ws, v, rfl, ea, ev, k⟩ := h
    refine ⟨_, (pss_one (ps_ret (pe_fldK (K := K) (pv 0) rfl))), ?_⟩
    exact ⟨_, rfl, a, CF, dx, _, v, rfl, ea, TF.cl, TF.no 1 _ rfl, (zip_look (j := 1) fN_nd rfl).trans ev, k⟩
theorem sc_Formula_letters : FnScope ["self"] ["self"] (defScope s_Formula_letters) := ⟨rfl, rfl, rfl, by decide +kernel, rfl, by decide +kernel, by decide +kernel⟩
theorem ok_p_letters {f : Addr} {fd : FuncData} (F : Fun K "letters" "Formula.letters" s_Formula_letters f fd) (TF : TxF K CF) : FnOk P w K mg base CX0 2 f fd ["self"] (spFld CF 2) := by
  refine F.ok sc_Formula_letters (fun vs H Q E h => ?_) (fun cdv A outer s H vs Q E hr h => ?_)
  · obtain ⟨a, dx, ws, v, rfl, _⟩ := h
    rfl
  · obtain ⟨a, dx, ws, v, rfl, ea, ev, k⟩ := h
    refine ⟨_, (pss_one (ps_ret (pe_fldK (K := K) (pv 0) rfl))), ?_⟩
    exact ⟨_, rfl, a, CF, dx, _, v, rfl, ea, TF.cl, TF.no 2 _ rfl, (zip_look (j := 2) fN_nd rfl).trans ev, k⟩
theorem sc_Formula_rows : FnScope ["self"] ["self"] (defScope s_Formula_rows) := ⟨rfl, rfl, rfl, by decide +kernel, rfl, by decide +kernel, by decide +kernel⟩
theorem ok_p_rows {f : Addr} {fd : FuncData} (F : Fun K "rows" "Formula.rows" s_Formula_rows f fd) (TF : TxF K CF) : FnOk P w K mg base CX0 2 f fd ["self"] (spFld CF 3) := by
  refine F.ok sc_Formula_rows (fun vs H Q E h => ?_) (fun cdv A outer s H vs Q E hr h => ?_)
  · obtain ⟨a, dx, ws, v, rfl, _⟩ := h
    rfl
  · obtain ⟨a, dx, ws, v, rfl, ea, ev, k⟩ := h
    refine ⟨_, (pss_one (ps_ret (pe_fldK (K := K) (pv 0) rfl))), ?_⟩
    exact ⟨_, rfl, a, CF, dx, _, v, rfl, ea, TF.cl, TF.no 3 _ rfl, (zip_look (j := 3) fN_nd rfl).trans ev, k⟩
theorem sc_Formula_columns : FnScope ["self"] ["self"] (defScope s_Formula_columns) := ⟨rfl, rfl, rfl, by decide +kernel, rfl, by decide +kernel, by decide +kernel⟩
theorem ok_p_columns {f : Addr} {fd : FuncData} (F : Fun K "columns" "Formula.columns" s_Formula_columns f fd) (TF : TxF K CF) : FnOk P w K mg base CX0 2 f fd ["self"] (spFld CF 4) := by
  refine F.ok sc_Formula_columns (fun vs H Q E h => ?_) (fun cdv A outer s H vs Q E hr h => ?_)
  · obtain ⟨a, dx, ws, v, rfl, _⟩ := h
    rfl
  · obtain ⟨a, dx, ws, v, rfl, ea, ev, k⟩ := h
    refine ⟨_, (pss_one (ps_ret (pe_fldK (K := K) (pv 0) rfl))), ?_⟩
    exact ⟨_, rfl, a, CF, dx, _, v, rfl, ea, TF.cl, TF.no 4 _ rfl, (zip_look (j := 4) fN_nd rfl).trans ev, k⟩
theorem sc_Formula_weight : FnScope ["self"] ["self"] (defScope s_Formula_weight) := ⟨rfl, rfl, rfl, by decide +kernel, rfl, by decide +kernel, by decide +kernel⟩
theorem ok_p_weight {f : Addr} {fd : FuncData} (F : Fun K "weight" "Formula.weight" s_Formula_weight f fd) (TF : TxF K CF) : FnOk P w K mg base CX0 2 f fd ["self"] (spFld CF 5) := by
  refine F.ok sc_Formula_weight (fun vs H Q E h => ?_) (fun cdv A outer s H vs Q E hr h => ?_)
  · obtain ⟨a, dx, ws, v, rfl, _⟩ := h
    rfl
  · obtain ⟨a, dx, ws, v, rfl, ea, ev, k⟩ := h
    refine ⟨_, (pss_one (ps_ret (pe_fldK (K := K) (pv 0) rfl))), ?_⟩
    exact ⟨_, rfl, a, CF, dx, _, v, rfl, ea, TF.cl, TF.no 5 _ rfl, (zip_look (j := 5) fN_nd rfl).trans ev, k⟩
theorem sc_Formula_levels : FnScope ["self"] ["self"] (defScope s_Formula_levels) := ⟨rfl, rfl, rfl, by decide +kernel, rfl, by decide +kernel, by decide +kernel⟩
theorem ok_p_levels {f : Addr} {fd : FuncData} (F : Fun K "levels" "Formula.levels" s_Formula_levels f fd) (TF : TxF K CF) : FnOk P w K mg base CX0 2 f fd ["self"] (spFld CF 6) := by
  refine F.ok sc_Formula_levels (fun vs H Q E h => ?_) (fun cdv A outer s H vs Q E hr h => ?_)
  · obtain ⟨a, dx, ws, v, rfl, _⟩ := h
    rfl
  · obtain ⟨a, dx, ws, v, rfl, ea, ev, k⟩ := h
    refine ⟨_, (pss_one (ps_ret (pe_fldK (K := K) (pv 0) rfl))), ?_⟩
    exact ⟨_, rfl, a, CF, dx, _, v, rfl, ea, TF.cl, TF.no 6 _ rfl, (zip_look (j := 6) fN_nd rfl).trans ev, k⟩
theorem sc_Formula_middle : FnScope ["self"] ["self"] (defScope s_Formula_middle) := ⟨rfl, rfl, rfl, by decide +kernel, rfl, by decide +kernel, by decide +kernel⟩
theorem ok_p_middle {f : Addr} {fd : FuncData} (F : Fun K "middle" "Formula.middle" s_Formula_middle f fd) (TF : TxF K CF) : FnOk P w K mg base CX0 2 f fd ["self"] (spFld CF 7) := by
  refine F.ok sc_Formula_middle (fun vs H Q E h => ?_) (fun cdv A outer s H vs Q E hr h => ?_)
  · obtain ⟨a, dx, ws, v, rfl, _⟩ := h
    rfl
  · obtain ⟨a, dx, ws, v, rfl, ea, ev, k⟩ := h
    refine ⟨_, (pss_one (ps_ret (pe_fldK (K := K) (pv 0) rfl))), ?_⟩
    exact ⟨_, rfl, a, CF, dx, _, v, rfl, ea, TF.cl, TF.no 7 _ rfl, (zip_look (j := 7) fN_nd rfl).trans ev, k⟩
theorem sc_Formula_sizes : FnScope ["self"] ["self"] (defScope s_Formula_sizes) := ⟨rfl, rfl, rfl, by decide +kernel, rfl, by decide +kernel, by decide +kernel⟩
theorem ok_p_sizes {f : Addr} {fd : FuncData} (F : Fun K "sizes" "Formula.sizes" s_Formula_sizes f fd) (TF : TxF K CF) : FnOk P w K mg base CX0 2 f fd ["self"] (spFld CF 9) := by
  refine F.ok sc_Formula_sizes (fun vs H Q E h => ?_) (fun cdv A outer s H vs Q E hr h => ?_)
  · obtain ⟨a, dx, ws, v, rfl, _⟩ := h
    rfl
  · obtain ⟨a, dx, ws, v, rfl, ea, ev, k⟩ := h
    refine ⟨_, (pss_one (ps_ret (pe_fldK (K := K) (pv 0) rfl))), ?_⟩
    exact ⟨_, rfl, a, CF, dx, _, v, rfl, ea, TF.cl, TF.no 9 _ rfl, (zip_look (j := 9) fN_nd rfl).trans ev, k⟩
theorem sc_Letter_name : FnScope ["self"] ["self"] (defScope s_Letter_name) := ⟨rfl, rfl, rfl, by decide +kernel, rfl, by decide +kernel, by decide +kernel⟩
theorem ok_p_name {f : Addr} {fd : FuncData} (F : Fun K "name" "Letter.name" s_Letter_name f fd) (TF : TxF K CF) : FnOk P w K mg base CX0 2 f fd ["self"] (spFld CF 11) := by
  refine F.ok sc_Letter_name (fun vs H Q E h => ?_) (fun cdv A outer s H vs Q E hr h => ?_)
  · obtain ⟨a, dx, ws, v, rfl, _⟩ := h
    rfl
  · obtain ⟨a, dx, ws, v, rfl, ea, ev, k⟩ := h
    refine ⟨_, (pss_one (ps_ret (pe_fldK (K := K) (pv 0) rfl))), ?_⟩
    exact ⟨_, rfl, a, CF, dx, _, v, rfl, ea, TF.cl, TF.no 11 _ rfl, (zip_look (j := 11) fN_nd rfl).trans ev, k⟩
theorem sc_Letter_symmetry : FnScope ["self"] ["self"] (defScope s_Letter_symmetry) := ⟨rfl, rfl, rfl, by decide +kernel, rfl, by decide +kernel, by decide +kernel⟩
theorem ok_p_symmetry {f : Addr} {fd : FuncData} (F : Fun K "symmetry" "Letter.symmetry" s_Letter_symmetry f fd) (TF : TxF K CF) : FnOk P w K mg base CX0 2 f fd ["self"] (spFld CF 12) := by
  refine F.ok sc_Letter_symmetry (fun vs H Q E h => ?_) (fun cdv A outer s H vs Q E hr h => ?_)
  · obtain ⟨a, dx, ws, v, rfl, _⟩ := h
    rfl
  · obtain ⟨a, dx, ws, v, rfl, ea, ev, k⟩ := h
    refine ⟨_, (pss_one (ps_ret (pe_fldK (K := K) (pv 0) rfl))), ?_⟩
    exact ⟨_, rfl, a, CF, dx, _, v, rfl, ea, TF.cl, TF.no 12 _ rfl, (zip_look (j := 12) fN_nd rfl).trans ev, k⟩
theorem sc_Letter_about : FnScope ["self"] ["self"] (defScope s_Letter_about) := ⟨rfl, rfl, rfl, by decide +kernel, rfl, by decide +kernel, by decide +kernel⟩
theorem ok_p_about {f : Addr} {fd : FuncData} (F : Fun K "about" "Letter.about" s_Letter_about f fd) (TF : TxF K CF) : FnOk P w K mg base CX0 2 f fd ["self"] (spFld CF 13) := by
  refine F.ok sc_Letter_about (fun vs H Q E h => ?_) (fun cdv A outer s H vs Q E hr h => ?_)
  · obtain ⟨a, dx, ws, v, rfl, _⟩ := h
    rfl
  · obtain ⟨a, dx, ws, v, rfl, ea, ev, k⟩ := h
    refine ⟨_, (pss_one (ps_ret (pe_fldK (K := K) (pv 0) rfl))), ?_⟩
    exact ⟨_, rfl, a, CF, dx, _, v, rfl, ea, TF.cl, TF.no 13 _ rfl, (zip_look (j := 13) fN_nd rfl).trans ev, k⟩
abbrev PropL (P : Program) (w : World) (K : PySem.W.Frag) (mg : Str → Option Value) (base : Heap) (CF : Addr) (nm : Str) (j : Nat) : Prop := PropF P w K mg base 2 CF nm (spFld CF j)
/-! ### joined_sizes: of one part -/
def spJoined (CL : Addr) : Sp := fun vs H Q _ => ∃ (p a dx sz : Addr) (ws : List V) (zs : List Str), vs = [.ref p] ∧ H p = some (.tup [.ref a]) ∧ H a = some (.ins CL dx (fN.zip ws)) ∧ ws[9]? = some (.ref sz) ∧ H sz = some (.tup (zs.map V.str)) ∧ zs.length ≤ 2 ∧ ∀ q H', Same H H' → Q (.ref q) H'
abbrev JoinedC (P : Program) (w : World) (K : PySem.W.Frag) (mg : Str → Option Value) (base : Heap) (CL : Addr) : Prop := CalF P w K mg base 4 "joined_sizes" (spJoined CL) []
theorem upd_at {G G' : Hp} {d : Addr} {o : HO} (_ : Same G (upd G' d o)) : upd G' d o d = some o := upd_same
/-! ### Formula.__init__: no parts -/
def spF0 (CF aL : Addr) : Sp := fun vs H Q _ => ∃ (a dx t0 t1 sd p1 p2 : Addr) (kd z x y : Str) (mid : V), vs = [.ref a, .str kd, .ref t0, .ref t1, .ref sd, .ref aL, mid, .str z] ∧ H a = some (.ins CF dx []) ∧ H t0 = some (.tup []) ∧ H t1 = some (.tup []) ∧
  H sd = some (.tup [.ref p1, .ref p2]) ∧ H p1 = some (.tup [.str x]) ∧ H p2 = some (.tup [.str y]) ∧
  ∀ (H' : Hp) (sz : Addr) (mk : V), But a H H' → H' a = some (.ins CF dx (fN.zip [.str kd, .ref t0, .ref t1, .ref p1, .ref p2, .int 1, .int 1, mid, .str z, .ref sz, mk])) → H' sz = some (.tup ((pairT x y).map V.str)) → Q .non H'
theorem sc_Formula___init__ : FnScope ["self", "kind", "parts", "letters", "sides", "measures", "middle", "spelled", "letter"] ["self", "kind", "parts", "letters", "sides", "measures", "middle", "spelled"] (defScope s_Formula___init__) := ⟨rfl, rfl, rfl, by decide +kernel, rfl, by decide +kernel, by decide +kernel⟩
theorem ok_f0 {f : Addr} {fd : FuncData} (F : Fun K "__init__" "Formula.__init__" s_Formula___init__ f fd) (T : TxL K mg C CM tk aS) (TF : TxF K CF) (c_joined : JoinedC P w K mg base CL) (lst : ∀ H, SqT K H aL [.int 1, .int 1]) : FnOk P w K mg base CX0 6 f fd ["self", "kind", "parts", "letters", "sides", "measures", "middle", "spelled"] (spF0 CF aL) := by
  refine F.ok sc_Formula___init__ (fun vs H Q E h => ?_) (fun cdv A outer s H vs Q E hr h => ?_)
  · obtain ⟨a, dx, t0, t1, sd, p1, p2, kd, z, x, y, mid, rfl, _⟩ := h
    rfl
  · obtain ⟨a, dx, t0, t1, sd, p1, p2, kd, z, x, y, mid, rfl, ha, h0, h1, ep, e1, e2, k⟩ := h
    refine ⟨_, (pss_cons (ps_fld (pv 0) (pv 1) rfl)
  (pss_cons (ps_fld (pv 0) (pv 2) rfl)
  (pss_cons (ps_fld (pv 0) (pv 3) rfl)
  (pss_cons (ps_asg (pv 4) (pg_tupK (K := K) (n := 2) rfl (pgs_cons (pg_fld (pv 0)) (pgs_cons (pg_fld (pv 0)) pgs_nil))))
  (pss_cons (ps_asg (pv 5) (pg_tupK (K := K) (n := 2) rfl (pgs_cons (pg_fld (pv 0)) (pgs_cons (pg_fld (pv 0)) pgs_nil))))
  (pss_cons (ps_fld (pv 0) (pv 6) rfl)
  (pss_cons (ps_fld (pv 0) (pv 7) rfl)
  (pss_cons (ps_fld (pv 0) (pe_ifExp (pt_truthK (K := K) (pv 2) (by intro _; rfl)) (pe_cf c_joined hr (by decide) rfl (pa_cons (pv 2) pa_nil)) (pe_callTy (call_tuple_ofK (K := K)) (by rfl) T.b_tuple (by decide +kernel) (pa_cons (pe_callB (id := "sorted") (cr_sortT (by rfl)) (by rfl) T.b_sorted (by decide +kernel) (pa_cons (pe_callTy (cr_setT (by rfl)) (by rfl) T.b_set (by decide +kernel) (pa_cons (pe_op (op_catAK (K := K)) (pe_ix (ix_tupK (K := K)) (pv 4) pe_int (fun _ _ => rfl)) (pe_ix (ix_tupK (K := K)) (pv 4) pe_int (fun _ _ => rfl))) pa_nil)) pa_nil)) pa_nil))) rfl)
  (pss_one (ps_fld (pv 0) (pe_tup (pa_cons (pv 7) (pa_cons (pe_callTy (call_tuple_ofK (K := K)) (by rfl) T.b_tuple (by decide +kernel) (pa_cons (pe_lcI (pe_lc (own := [("letter", 8)]) rfl sc_Formula___init__.nd (pi_tupK (K := K) (pv 3)) (blkOk_by (N := ["self", "kind", "parts", "letters", "sides", "measures", "middle", "spelled", "letter"]) (sc := (defScope s_Formula___init__)) (by decide +kernel)) (fun _ _ _ _ _ => (pg_name (i := 8) sc_Formula___init__.nd rfl (Or.inl rfl))) (fun _ _ _ _ _ => pts_nil) (fun _ _ _ _ _ => (pe_cut (pe_fldK (K := K) (pv 8) rfl))))) pa_nil)) pa_nil))) rfl)))))))))), ?_⟩
    have n0 : t0 ≠ a := ne_of h0 ha nofun
    have n1 : t1 ≠ a := ne_of h1 ha nofun
    have f0 : H a = some (.ins CF dx (fN.zip [])) := ha
    have ns : sd ≠ a := ne_of ep ha nofun
    have np1 : p1 ≠ a := ne_of e1 ha nofun
    have np2 : p2 ≠ a := ne_of e2 ha nofun
    refine ⟨_, rfl, _, rfl, a, CF, dx, _, rfl, f0, TF.cl, TF.no 0 _ rfl, zip_small fN_small, ?_⟩
    rw [zip_put fN_nd rfl]
    generalize g1 : upd H a _ = G1
    have f1 := (congrFun g1 a).symm.trans upd_same
    have b1 : But a H G1 := But.trans But.refl (by rw [← g1]; exact But.upd)
    refine ⟨_, rfl, _, rfl, a, CF, dx, _, rfl, f1, TF.cl, TF.no 1 _ rfl, zip_small fN_small, ?_⟩
    rw [zip_put fN_nd rfl]
    generalize g2 : upd G1 a _ = G2
    have f2 := (congrFun g2 a).symm.trans upd_same
    have b2 : But a H G2 := But.trans b1 (by rw [← g2]; exact But.upd)
    refine ⟨_, rfl, _, rfl, a, CF, dx, _, rfl, f2, TF.cl, TF.no 2 _ rfl, zip_small fN_small, ?_⟩
    rw [zip_put fN_nd rfl]
    generalize g3 : upd G2 a _ = G3
    have f3 := (congrFun g3 a).symm.trans upd_same
    have b3 : But a H G3 := But.trans b2 (by rw [← g3]; exact But.upd)
    refine ⟨_, rfl, sd, _, rfl, SqT.of (b3 _ _ ep ns), rfl, ?_⟩
    refine ⟨_, _, rfl, _, rfl, a, CF, dx, _, rfl, f3, TF.cl, TF.no 3 _ rfl, zip_small fN_small, ?_⟩
    rw [zip_put fN_nd rfl]
    generalize g4 : upd G3 a _ = G4
    have f4 := (congrFun g4 a).symm.trans upd_same
    have b4 : But a H G4 := b3.trans (by rw [← g4]; exact But.upd)
    refine ⟨_, _, rfl, _, rfl, a, CF, dx, _, rfl, f4, TF.cl, TF.no 4 _ rfl, zip_small fN_small, ?_⟩
    rw [zip_put fN_nd rfl]
    generalize g5 : upd G4 a _ = G5
    have f5 := (congrFun g5 a).symm.trans upd_same
    have b5 : But a H G5 := b4.trans (by rw [← g5]; exact But.upd)
    refine ⟨rfl, ?_⟩
    refine ⟨_, rfl, aL, _, rfl, lst _, rfl, ?_⟩
    refine ⟨_, _, rfl, _, rfl, a, CF, dx, _, rfl, f5, TF.cl, TF.no 5 _ rfl, zip_small fN_small, ?_⟩
    rw [zip_put fN_nd rfl]
    generalize g6 : upd G5 a _ = G6
    have f6 := (congrFun g6 a).symm.trans upd_same
    have b6 : But a H G6 := b5.trans (by rw [← g6]; exact But.upd)
    refine ⟨_, _, rfl, _, rfl, a, CF, dx, _, rfl, f6, TF.cl, TF.no 6 _ rfl, zip_small fN_small, ?_⟩
    rw [zip_put fN_nd rfl]
    generalize g7 : upd G6 a _ = G7
    have f7 := (congrFun g7 a).symm.trans upd_same
    have b7 : But a H G7 := b6.trans (by rw [← g7]; exact But.upd)
    refine ⟨rfl, ?_⟩
    refine ⟨_, rfl, _, rfl, a, CF, dx, _, rfl, f7, TF.cl, TF.no 7 _ rfl, zip_small fN_small, ?_⟩
    rw [zip_put fN_nd rfl]
    generalize g8 : upd G7 a _ = G8
    have f8 := (congrFun g8 a).symm.trans upd_same
    have b8 : But a H G8 := b7.trans (by rw [← g8]; exact But.upd)
    refine ⟨_, rfl, _, rfl, a, CF, dx, _, rfl, f8, TF.cl, TF.no 8 _ rfl, zip_small fN_small, ?_⟩
    rw [zip_put fN_nd rfl]
    generalize g9 : upd G8 a _ = G9
    have f9 := (congrFun g9 a).symm.trans upd_same
    have b9 : But a H G9 := b8.trans (by rw [← g9]; exact But.upd)
    refine ⟨_, rfl, false, .inr (.inl ⟨[], SqT.of (b9 _ _ h0 n0), rfl⟩), iteF ?_⟩
    refine ⟨_, rfl, sd, _, _, _, rfl, rfl, SqT.of (b9 _ _ ep ns), rfl, _, rfl, sd, _, _, _, rfl, rfl, SqT.of (b9 _ _ ep ns), rfl, ?_⟩
    refine ⟨p1, p2, _, _, rfl, rfl, SqT.of (b9 _ _ e1 np1), SqT.of (b9 _ _ e2 np2), (show 2 ≤ sizeLine by decide), nofun, fun _ => nofun, fun _ _ q hq => ?_⟩
    have s1 : Same G9 _ := MG.Same.new (o := .tup [.str x, .str y]) (Same.refl G9) hq
    refine ⟨q, [x, y], rfl, SqT.of upd_same, (show 2 ≤ 1000 by decide), fun b hb => ?_⟩
    have s2 := MG.Same.new (o := TxtO P w b (onceT [x, y])) s1 hb
    refine ⟨b, _, rfl, upd_same, Nat.le_trans onceT_len (show 2 ≤ 1000 by decide), fun ss c so mem len hc => ?_⟩
    obtain rfl := pair_sorted so mem len
    clear so mem len
    have s3 := MG.Same.new (o := .lst ((pairT x y).map V.str)) s2 hc
    refine ⟨c, _, rfl, .inl ⟨SqL.of upd_same, fun d hd => ?_⟩⟩
    have s4 := MG.Same.new (o := .tup ((pairT x y).map V.str)) s3 hd
    have ed := upd_at s4
    have f9' := s4 _ _ f9
    have b9' := b9.trans (.of s4)
    have h1' := b9' _ _ h1 n1
    refine ⟨_, rfl, a, CF, dx, _, rfl, f9', TF.cl, TF.no 9 _ rfl, zip_small fN_small, ?_⟩
    rw [zip_put fN_nd rfl]
    have nd : d ≠ a := ne_of ed f9' nofun
    generalize g10 : upd _ a (.ins CF dx (fN.zip _)) = G10
    have ed10 : G10 d = some (.tup ((pairT x y).map V.str)) := by rw [← g10, upd_ne nd]; exact ed
    have f10 := (congrFun g10 a).symm.trans upd_same
    have b10 : But a H G10 := b9'.trans (by rw [← g10]; exact But.upd)
    clear s1 s2 s3 s4 hq hb hc hd f9' b9' h1' g10 ed
    refine ⟨_, rfl, _, rfl, t1, rfl, ⟨[], SqT.of (b10 _ _ h1 n1)⟩, fun D hD => ?_⟩
    refine lc_same (walk_tup (K := K) (a := t1) (xs := [])) hD (by decide) (fun _ _ _ => True) (fun _ _ _ _ _ _ => True.intro) (fun G s => SqT.of (s _ _ (b10 _ _ h1 n1))) yat_same (fun i x G G' hi => absurd hi (Nat.not_lt_zero i)) fun ys G11 hl s5 e5 _ => ?_
    refine ⟨D, _, rfl, .inl ⟨SqL.of e5, fun e he => ?_⟩⟩
    have s6 := MG.Same.new (o := .tup ys) s5 he
    refine ⟨(show 2 ≤ sizeLine by decide), fun m hm => ?_⟩
    have s7 := MG.Same.new (o := .tup [.str z, .ref e]) s6 hm
    have nd7 : d ≠ a := ne_of ed10 f10 nofun
    refine ⟨_, rfl, a, CF, dx, _, rfl, s7 _ _ f10, TF.cl, TF.no 10 _ rfl, zip_small fN_small, ?_⟩
    rw [zip_put fN_nd rfl]
    exact k _ _ _ ((b10.trans (.of s7)).trans But.upd) upd_same ((upd_ne nd7).trans (s7 _ _ ed10))
end
end Lw

namespace Lw
open PySem PySem.Spec PyProof.Rows L2 MG
theorem lbl_len {z : Str} (h : lblB z = true) : z.length ≤ 6 := by
  unfold lblB lblL at h
  rw [len_sl]
  split at h
  · cases h
  · next c r e =>
    rw [e]
    have h2 := (Bool.and_eq_true_iff.mp h).2
    have := of_decide_eq_true (Bool.and_eq_true_iff.mp h2).1
    simp only [List.length_cons]
    omega
theorem span_len {z : Str} (h : spanB z = true) : z.length ≤ 6 := by
  unfold spanB at h
  exact (of_decide_eq_true (Bool.and_eq_true_iff.mp h).1).2
section
variable {P : Program} {w : World} {K : PySem.W.Frag} {mg : Str → Option Value} {base : Heap} {C CM CL aS aL f cda cc : Addr} {fd : FuncData} {tk : Tok} {H H' : Hp}
/-! ### what is kept when an instance that is still empty gets its fields -/
theorem RatAt.but {a dx r : Addr} {q : Rat} (h : RatAt C H r q) (ha : H a = some (.ins CL dx [])) (b : But a H H') : RatAt C H' r q := by
  obtain ⟨d, e⟩ := h
  exact ⟨d, b _ _ e (ne_of e ha fun z => by cases z)⟩
theorem Tb.but {a dx t : Addr} {r c : Nat} {g : Nat → Nat → Rat} (h : Tb (RC C) H t r c g) (ha : H a = some (.ins CL dx [])) (b : But a H H') : Tb (RC C) H' t r c g := by
  obtain ⟨rs, e, l, k⟩ := h
  refine ⟨rs, b _ _ e (ne_of e ha nofun), l, fun i x hx => ?_⟩
  obtain ⟨p, xs, rfl, e2, l2, k2⟩ := k i x hx
  refine ⟨p, xs, rfl, b _ _ e2 (ne_of e2 ha nofun), l2, fun j y hy => ?_⟩
  obtain ⟨z, rfl, hz⟩ := k2 j y hy
  exact ⟨z, rfl, RatAt.but hz ha b⟩
theorem MtAt.but {a dx m : Addr} {r c : Nat} {g : Nat → Nat → Rat} (h : MtAt C CM H m r c g) (ha : H a = some (.ins CL dx [])) (b : But a H H') : MtAt C CM H' m r c g := by
  obtain ⟨d, t, e, ht⟩ := h
  exact ⟨d, t, b _ _ e (ne_of e ha fun z => by cases z), Tb.but ht ha b⟩
theorem numAt_but {v : V} {q : Rat} {a dx : Addr} (h : NumAt C H v q) (ha : H a = some (.ins CL dx [])) (b : But a H H') : NumAt C H' v q := by
  rcases h with ⟨r, rfl, h⟩ | h
  · exact .inl ⟨r, rfl, RatAt.but h ha b⟩
  · exact .inr h
/-! ### a letter -/
def ltV (t0 tL p1 p2 m sz mk r : Addr) (n s : Str) : List V := [.str "letter", .ref t0, .ref tL, .ref p1, .ref p2, .int 1, .int 1, .ref m, .str n, .ref sz, .ref mk, .str n, .str s, .ref r]
/-- at a stands the letter of these five facts -/
structure LtAt (C CM CL : Addr) (H : Hp) (a : Addr) (n x y s : Str) (q : Rat) : Prop where
  ex : ∃ dx t0 tL p1 p2 m sz mk r, H a = some (.ins CL dx (fN.zip (ltV t0 tL p1 p2 m sz mk r n s))) ∧ H t0 = some (.tup []) ∧ H tL = some (.tup [.ref a]) ∧ H p1 = some (.tup [.str x]) ∧ H p2 = some (.tup [.str y]) ∧
    MtAt C CM H m 1 1 (fun _ _ => q) ∧ H sz = some (.tup ((pairT x y).map V.str)) ∧ H mk = some (.tup [.str n, .str x, .str y, .str s, .int q.num, .int q.den]) ∧ RatAt C H r q
theorem LtAt.same {a : Addr} {n x y s : Str} {q : Rat} (h : LtAt C CM CL H a n x y s q) (e : Same H H') : LtAt C CM CL H' a n x y s q := by
  obtain ⟨dx, t0, tL, p1, p2, m, sz, mk, r, h1, h2, h3, h4, h5, h6, h7, h8, h9⟩ := h.ex
  exact ⟨dx, t0, tL, p1, p2, m, sz, mk, r, e _ _ h1, e _ _ h2, e _ _ h3, e _ _ h4, e _ _ h5, h6.same e, e _ _ h7, e _ _ h8, h9.same e⟩
/-- five facts that a letter can have -/
structure FactOk (n x y s : Str) (q : Rat) : Prop where
  hn : lblB n = true
  hx : spanB x = true
  hy : spanB y = true
  hs : s = plainS ∨ s = symmS ∨ s = skewS
  hsx : s ≠ plainS → x = y
  hq : q ≠ 0 → x = y ∧ s ≠ skewS
def spLet (C CM CL : Addr) : Sp := fun vs H Q _ => ∃ (a dx : Addr) (n x y s : Str) (v : V) (q : Rat), vs = [.ref a, .str n, .str x, .str y, .str s, v] ∧ H a = some (.ins CL dx []) ∧ FactOk n x y s q ∧ NumAt C H v q ∧
  ∀ H', But a H H' → LtAt C CM CL H' a n x y s q → Q .non H'
theorem sc_Letter___init__ : SupScope ["self", "name", "rows", "columns", "symmetry", "about", "given", "sides"] ["self", "name", "rows", "columns", "symmetry", "about"] (defScope s_Letter___init__) := supScope_by (by decide +kernel)
theorem ok_let {kws : List (Str × V)} (F : FunS K "__init__" "Letter.__init__" s_Letter___init__ kws f fd cda cc) (T : TxL K mg C CM tk aS) (TF : TxF K CL) (g_LEAST : mg "LEAST" = some (.ref aL))
    (c_isln : IsLnC P w K mg base) (c_issz : IsSzC P w K mg base) (c_chks : ChkSC P w K mg base) (c_chka : ChkAC P w K mg base C) (m_mat : MatC P w K mg base C CM)
    (c_to : ToC P w K mg base C) (p_top : PropF P w K mg base 2 C "top" (spTop C)) (p_bottom : PropF P w K mg base 2 C "bottom" (spBottom C)) (u_form : SupF P w K mg base 6 CL CL "__init__" "self" f cda cc fd (spF0 CL aL)) :
    FnOk P w K mg base CX0 11 f fd ["self", "name", "rows", "columns", "symmetry", "about"] (spLet C CM CL) := by
  refine F.ok sc_Letter___init__ (fun vs H Q E h => ?_) (fun A outer s H vs Q E hr h => ?_)
  · obtain ⟨a, dx, n, x, y, s, v, q, rfl, _⟩ := h
    rfl
  · obtain ⟨a, dx, n, x, y, sm, v, q, rfl, ha, ok, hv, k⟩ := h
    refine ⟨_, (psA_cons (ps_if (pt_not (pt_val (pe_cf c_isln hr (by decide) rfl (pa_cons (pv 1) pa_nil)))) (pss_one ps_never)
  pss_nil)
  (psA_cons (ps_for (passes_of rfl) rfl (pi_tupK (K := K) (pe_tup (pa_cons (pv 2) (pa_cons (pv 3) pa_nil)))) (pg_name (i := 6) sc_Letter___init__.nd rfl (Or.inl rfl))
  (pss_one (ps_if (pt_not (pt_val (pe_cf c_issz hr (by decide) rfl (pa_cons (pv 6) pa_nil)))) (pss_one ps_never)
  pss_nil)))
  (psA_cons (ps_set (i := 7) sc_Letter___init__.nd rfl (Or.inl rfl) (pe_tup (pa_cons (pe_tup (pa_cons (pv 2) pa_nil)) (pa_cons (pe_tup (pa_cons (pv 3) pa_nil)) pa_nil))))
  (psA_cons (ps_expr (pe_cf c_chks hr (by decide) rfl (pa_cons (pv 7) (pa_cons (pv 4) pa_nil))))
  (psA_cons (ps_expr (pe_cf c_chka hr (by decide) rfl (pa_cons (pv 7) (pa_cons (pv 4) (pa_cons (pv 5) pa_nil)))))
  (psA_supF (i := 0) u_form hr (by decide) T.b_super rfl (pa_cons pe_str (pa_cons (pe_tup pa_nil) (pa_cons (pe_tup pa_nil) (pa_cons (pv 7) (pa_cons (pe_glob (v := V.ref aL) rfl g_LEAST rfl) (pa_cons (pe_mkf m_mat hr (by decide) rfl (pa_cons (pe_tup (pa_cons (pe_tup (pa_cons (pv 5) pa_nil)) pa_nil)) pa_nil)) (pa_cons (pv 1) pa_nil)))))))
  (pss_cons (ps_fld (pv 0) (pv 1) rfl)
  (pss_cons (ps_fld (pv 0) (pv 4) rfl)
  (pss_cons (ps_fld (pv 0) (pe_cf c_to hr (by decide) rfl (pa_cons (pv 5) pa_nil)) rfl)
  (pss_cons (ps_fld (pv 0) (pe_tup (pa_cons (pv 0) pa_nil)) rfl)
  (pss_one (ps_fld (pv 0) (pe_tup (pa_cons (pv 1) (pa_cons (pv 2) (pa_cons (pv 3) (pa_cons (pv 4) (pa_cons (pe_pf p_top T.cl hr (by decide) (pe_fldK (K := K) (pv 0) rfl) rfl) (pa_cons (pe_pf p_bottom T.cl hr (by decide) (pe_fldK (K := K) (pv 0) rfl) rfl) pa_nil))))))) rfl)))))))))))), ?_⟩
    refine ⟨_, rfl, .str n, some n, rfl, ⟨rfl, Nat.le_trans (lbl_len ok.hn) (by decide)⟩, _, rfl, ?_⟩
    rw [show lblO (some n) = true from ok.hn]
    refine iteF ?_
    -- for given in (rows, columns)
    refine ⟨_, rfl, _, rfl, (show 2 ≤ sizeLine by decide), fun t ht => ⟨t, rfl, ⟨_, SqT.of upd_same⟩, ?_⟩⟩
    have s1 : Same H (upd H t (.tup [.str x, .str y])) := MG.Same.new (Same.refl H) ht
    refine for_tup (K := K) (a := t) (xs := [.str x, .str y]) (fun i σ H' => H' = upd H t (.tup [.str x, .str y]) ∧ ∃ u : Option V, σ = [some (.ref a), some (.str n), some (.str x), some (.str y), some (.str sm), some v, u, none]) ⟨rfl, none, rfl⟩ ?_ ?_ ?_
    · rintro i σ H' _ ⟨rfl, _⟩
      exact SqT.of upd_same
    · rintro i z σ H' hz ⟨rfl, u, rfl⟩
      have one : ∀ {g : Str}, spanB g = true → z = .str g → True := fun _ _ => True.intro
      match i, hz with
      | 0, hz =>
        obtain rfl : V.str x = z := Option.some.inj hz
        refine ⟨_, rfl, .str x, some x, rfl, ⟨rfl, Nat.le_trans (span_len ok.hx) (by decide)⟩, _, rfl, ?_⟩
        rw [show spanO (some x) = true from ok.hx]
        exact iteF ⟨rfl, _, rfl⟩
      | 1, hz =>
        obtain rfl : V.str y = z := Option.some.inj hz
        refine ⟨_, rfl, .str y, some y, rfl, ⟨rfl, Nat.le_trans (span_len ok.hy) (by decide)⟩, _, rfl, ?_⟩
        rw [show spanO (some y) = true from ok.hy]
        exact iteF ⟨rfl, _, rfl⟩
    rintro σ H' ⟨rfl, u, rfl⟩
    generalize upd H t (.tup [V.str x, V.str y]) = G0 at s1 ⊢
    -- sides = ((rows,), (columns,))
    refine ⟨_, rfl, (show 1 ≤ sizeLine by decide), fun p1 e1 => ?_⟩
    refine ⟨_, rfl, (show 1 ≤ sizeLine by decide), fun p2 e2 => ?_⟩
    refine ⟨(show 2 ≤ sizeLine by decide), fun sd e3 => ?_⟩
    have s2 := MG.Same.new (o := .tup [.str x]) s1 e1
    have s3 := MG.Same.new (o := .tup [.str y]) s2 e2
    have s4 := MG.Same.new (o := .tup [.ref p1, .ref p2]) s3 e3
    have t2 := MG.Same.new (o := .tup [.str y]) (Same.refl _) e2
    have t3 := MG.Same.new (o := .tup [.ref p1, .ref p2]) (Same.refl _) e3
    have d1 : upd (upd (upd G0 p1 (.tup [.str x])) p2 (.tup [.str y])) sd (.tup [.ref p1, .ref p2]) p1 = some (.tup [.str x]) := t3 _ _ (t2 _ _ upd_same)
    have d2 : upd (upd (upd G0 p1 (.tup [.str x])) p2 (.tup [.str y])) sd (.tup [.ref p1, .ref p2]) p2 = some (.tup [.str y]) := t3 _ _ upd_same
    have d3 : upd (upd (upd G0 p1 (.tup [.str x])) p2 (.tup [.str y])) sd (.tup [.ref p1, .ref p2]) sd = some (.tup [.ref p1, .ref p2]) := upd_same
    generalize upd (upd (upd G0 p1 _) p2 _) sd _ = G1 at s4 d1 d2 d3 ⊢
    have sds : Sds G1 sd x y := ⟨⟨p1, p2, d3, d1, d2⟩, ok.hx, ok.hy⟩
    clear s1 s2 s3 t2 t3 e1 e2 e3
    -- check_symmetry(sides, symmetry); check_about(sides, symmetry, about)
    refine ⟨_, rfl, _, rfl, sd, x, y, sm, rfl, sds, ok.hs, ok.hsx, ?_⟩
    refine ⟨_, rfl, _, rfl, _, rfl, sd, x, y, sm, v, q, rfl, sds, hv.same s4, ok.hq, fun G2 s5 => ?_⟩
    have s6 := s4.trans s5
    replace d1 := s5 _ _ d1
    replace d2 := s5 _ _ d2
    replace d3 := s5 _ _ d3
    clear sds s4 s5
    -- super().__init__('letter', (), (), sides, LEAST, Matrix(((about,),)), name)
    refine ⟨a, dx, _, rfl, s6 _ _ ha, (show 0 ≤ sizeLine by decide), fun t0 e0 => ⟨(show 0 ≤ sizeLine by decide), fun t1 e1 => ?_⟩⟩
    refine ⟨_, rfl, ?_⟩
    refine ⟨_, rfl, (show 1 ≤ sizeLine by decide), fun r1 e2 => ⟨(show 1 ≤ sizeLine by decide), fun tt e3 => fun m dm e4 e5 n45 => ?_⟩⟩
    have u1 := MG.Same.new (o := .tup []) (Same.refl G2) e0
    have f0 : upd G2 t0 (.tup []) t0 = some (.tup []) := upd_same
    have u2 := MG.Same.new (o := .tup []) (Same.refl _) e1
    have f1 : upd (upd G2 t0 (.tup [])) t1 (.tup []) t1 = some (.tup []) := upd_same
    have u3 := MG.Same.new (o := .tup [v]) (Same.refl _) e2
    have u4 := MG.Same.new (o := .tup [.ref r1]) (Same.refl _) e3
    have g0 := u4 _ _ (u3 _ _ (u2 _ _ f0))
    have g1 := u4 _ _ (u3 _ _ f1)
    have gr := u4 _ _ (show upd (upd (upd G2 t0 (.tup [])) t1 (.tup [])) r1 (.tup [v]) r1 = some (.tup [v]) from upd_same)
    have v4 := ((u1.trans u2).trans u3).trans u4
    have v5 := (MG.Same.new (o := .own m) (Same.refl _) e5).trans (MG.Same.new (o := .ins CM dm []) (Same.refl _) (by rw [upd_ne (Ne.symm n45)]; exact e4))
    have v6 := v4.trans v5
    refine ⟨m, dm, tt, 1, 1, fun _ _ => q, rfl, upd_same, ⟨_, v5 _ _ upd_same, rfl, fun i z hz => ?_⟩, by decide, fun H5 t5 fm5 tb5 but => ⟨rfl, ?_⟩⟩
    · match i, hz with
      | 0, hz =>
        cases hz
        refine ⟨r1, _, rfl, v5 _ _ gr, rfl, fun j z hz => ?_⟩
        match j, hz with
        | 0, hz =>
          cases hz
          exact (hv.same s6).same v6
    have nm : ∀ {b : Addr} {o : HO}, G2 b = some o → b ≠ m := fun {b o} hb z => by
      have := v4 _ _ hb
      rw [z, e4] at this
      cases this
    have v7 : Same G2 H5 := fun b o hb => but _ _ (v6 _ _ hb) (nm hb)
    have g0' := but _ _ (v5 _ _ g0) (ne_of_none g0 e4)
    have g1' := but _ _ (v5 _ _ g1) (ne_of_none g1 e4)
    have ha5 := v7 _ _ (s6 _ _ ha)
    replace d1 := v7 _ _ d1
    replace d2 := v7 _ _ d2
    replace d3 := v7 _ _ d3
    have hm5 : MtAt C CM H5 m 1 1 (fun _ _ => q) := ⟨dm, t5, fm5, tb5⟩
    have s7 := s6.trans v7
    have hv5 := hv.same s7
    clear v6 v5 v4 gr g0 g1 u1 u2 u3 u4 f0 f1 but e0 e1 e2 e3 e4 e5 nm s6 v7 fm5 tb5 n45
    refine ⟨_, rfl, ?_⟩
    refine ⟨a, dx, t0, t1, sd, p1, p2, "letter", n, x, y, .ref m, rfl, ha5, g0', g1', d3, d1, d2, fun H6 sz6 mk6 b6 f6 esz => ?_⟩
    have nsz : sz6 ≠ a := ne_of esz f6 nofun
    clear d3 g1'
    refine ⟨_, rfl, _, rfl, a, CL, dx, _, rfl, f6, TF.cl, TF.no 11 _ rfl, zip_small fN_small, ?_⟩
    rw [zip_put fN_nd rfl]
    generalize g7 : upd H6 a _ = H7
    have f7 := (congrFun g7 a).symm.trans upd_same
    have c7 : But a H6 H7 := by rw [← g7]; exact But.upd
    refine ⟨_, rfl, _, rfl, a, CL, dx, _, rfl, f7, TF.cl, TF.no 12 _ rfl, zip_small fN_small, ?_⟩
    rw [zip_put fN_nd rfl]
    generalize g8 : upd H7 a _ = H8
    have f8 := (congrFun g8 a).symm.trans upd_same
    have c8 : But a H6 H8 := c7.trans (by rw [← g8]; exact But.upd)
    refine ⟨_, rfl, v, q, rfl, numAt_but hv5 ha5 (b6.trans c8), fun r H9 s9 hr9 => ?_⟩
    have c9 := c8.trans (.of s9)
    refine ⟨_, rfl, a, CL, dx, _, rfl, s9 _ _ f8, TF.cl, TF.no 13 _ rfl, zip_small fN_small, ?_⟩
    rw [zip_put fN_nd rfl]
    generalize g10 : upd H9 a _ = H10
    have f10 := (congrFun g10 a).symm.trans upd_same
    have c10 : But a H6 H10 := c9.trans (by rw [← g10]; exact But.upd)
    have nra : r ≠ a := by
      rintro rfl
      obtain ⟨d, e⟩ := hr9
      have e2 := e.symm.trans (s9 _ _ f8)
      cases e2
    have hr10 : RatAt C H10 r q := by
      obtain ⟨d, e⟩ := hr9
      refine ⟨d, ?_⟩
      rw [← g10, upd_ne nra]
      exact e
    clear g7 g8 g10 f6 f7 f8 c7 c8 c9 s9 hr9
    refine ⟨_, rfl, (show 1 ≤ sizeLine by decide), fun lt e11 => ?_⟩
    have s11 := MG.Same.new (o := .tup [.ref a]) (Same.refl H10) e11
    have el : upd H10 lt (.tup [.ref a]) lt = some (.tup [.ref a]) := upd_same
    have nla : lt ≠ a := ne_of el (s11 _ _ f10) nofun
    refine ⟨_, rfl, a, CL, dx, _, rfl, s11 _ _ f10, TF.cl, TF.no 2 _ rfl, zip_small fN_small, ?_⟩
    rw [zip_set (j := 2) fN_nd rfl]
    rotate_left
    · exact (show 2 < 14 by decide)
    generalize g12 : upd _ a (.ins CL dx (fN.zip _)) = H12
    have f12 := (congrFun g12 a).symm.trans upd_same
    have c12 : But a H6 H12 := (c10.trans (.of s11)).trans (by rw [← g12]; exact But.upd)
    have hr12 : RatAt C H12 r q := by
      obtain ⟨d, e⟩ := hr10.same s11
      refine ⟨d, ?_⟩
      rw [← g12, upd_ne nra]
      exact e
    have el12 : H12 lt = some (.tup [.ref a]) := by
      rw [← g12, upd_ne nla]
      exact el
    clear g12 s11 e11 f10 hr10 c10 el
    obtain ⟨d, er⟩ := id hr12
    refine ⟨_, rfl, _, rfl, _, rfl, _, rfl, ?_⟩
    refine ⟨_, rfl, a, CL, dx, _, .ref r, rfl, f12, TF.cl, TF.no 13 _ rfl, (zip_look (j := 13) fN_nd rfl).trans rfl, r, d, _, rfl, er, r, q, rfl, hr12, ?_⟩
    refine ⟨_, rfl, a, CL, dx, _, .ref r, rfl, f12, TF.cl, TF.no 13 _ rfl, (zip_look (j := 13) fN_nd rfl).trans rfl, r, d, _, rfl, er, r, q, rfl, hr12, ?_⟩
    refine ⟨(show 6 ≤ sizeLine by decide), fun mk e13 => ?_⟩
    have s13 := MG.Same.new (o := .tup [.str n, .str x, .str y, .str sm, .int q.num, .int q.den]) (Same.refl H12) e13
    have em : upd H12 mk (.tup [.str n, .str x, .str y, .str sm, .int q.num, .int q.den]) mk = some (.tup [.str n, .str x, .str y, .str sm, .int q.num, .int q.den]) := upd_same
    have nma : mk ≠ a := ne_of em (s13 _ _ f12) nofun
    refine ⟨_, rfl, a, CL, dx, _, rfl, s13 _ _ f12, TF.cl, TF.no 10 _ rfl, zip_small fN_small, ?_⟩
    rw [zip_set (j := 10) fN_nd rfl]
    rotate_left
    · exact (show 10 < 14 by decide)
    generalize g14 : upd _ a (.ins CL dx (fN.zip _)) = H14
    have f14 := (congrFun g14 a).symm.trans upd_same
    have c14 : But a H6 H14 := (c12.trans (.of s13)).trans (by rw [← g14]; exact But.upd)
    have bb := b6.trans c14
    have n0 : t0 ≠ a := ne_of g0' ha5 nofun
    have n1 : p1 ≠ a := ne_of d1 ha5 nofun
    have n2 : p2 ≠ a := ne_of d2 ha5 nofun
    refine k _ ((But.of s7).trans bb) ⟨dx, t0, lt, p1, p2, m, sz6, mk, r, f14, bb _ _ g0' n0, ?_, bb _ _ d1 n1, bb _ _ d2 n2, MtAt.but hm5 ha5 bb, c14 _ _ esz nsz, ?_, ?_⟩
    · rw [← g14, upd_ne nla]
      exact s13 _ _ el12
    · rw [← g14, upd_ne nma]
      exact em
    · obtain ⟨d, e⟩ := hr12.same s13
      refine ⟨d, ?_⟩
      rw [← g14, upd_ne nra]
      exact e
end
end Lw

namespace Lw
open PySem PySem.Spec PyProof.Rows L2 MG
section
variable {P : Program} {w : World} {K : PySem.W.Frag} {mg : Str → Option Value} {base : Heap} {C CM CL CT CY aS aL f cda cc : Addr} {fd : FuncData} {tk : Tok} {H H' : Hp}
/-! ### joined_sizes -/
theorem sc_joined_sizes : FnScope ["formulas", "formula", "name"] ["formulas"] (defScope s_joined_sizes) := ⟨rfl, rfl, rfl, by decide +kernel, rfl, by decide +kernel, by decide +kernel⟩
theorem ok_joined {f : Addr} {fd : FuncData} (F : Fun K "joined_sizes" "joined_sizes" s_joined_sizes f fd) (T : TxL K mg C CM tk aS) (TF : TxF K CL) (pl_sizes : PropL P w K mg base CL "sizes" 9) : FnOk P w K mg base CX0 4 f fd ["formulas"] (spJoined CL) := by
  refine F.ok sc_joined_sizes (fun vs H Q E h => ?_) (fun cdv A outer s H vs Q E hr h => ?_)
  · obtain ⟨p, a, dx, sz, ws, zs, rfl, _⟩ := h
    rfl
  · obtain ⟨p, a, dx, sz, ws, zs, rfl, ep, ea, ew, ez, lz, k⟩ := h
    refine ⟨_, (pss_one (ps_ret (pe_callTy (call_tuple_ofK (K := K)) (by rfl) T.b_tuple (by decide +kernel) (pa_cons (pe_callB (id := "sorted") (cr_sortT (by rfl)) (by rfl) T.b_sorted (by decide +kernel) (pa_cons (pe_callTy (cr_setL (by rfl)) (by rfl) T.b_set (by decide +kernel) (pa_cons (pe_lc2I (pe_lc2 (own := [("formula", 1), ("name", 2)]) (vs1 := [2]) rfl sc_joined_sizes.nd (pi_tupK (K := K) (pv 0)) (blkOk_by (N := ["formulas", "formula", "name"]) (sc := (defScope s_joined_sizes)) (by decide +kernel)) (by decide) (fun _ _ _ _ _ => (pg_name (i := 1) sc_joined_sizes.nd rfl (Or.inl rfl))) (fun _ _ _ _ _ => pts_nil) (fun _ _ _ _ _ => (pi_tupK (K := K) (pe_pf pl_sizes TF.cl hr (by decide) (pv 1) rfl))) (fun _ _ _ _ _ => (pg_name (i := 2) sc_joined_sizes.nd rfl (Or.inl rfl))) (fun _ _ _ _ _ => pts_nil) (fun _ _ _ _ _ => (pe_cut (pv 2))))) pa_nil)) pa_nil)) pa_nil)))), ?_⟩
    refine ⟨_, rfl, p, rfl, ⟨_, SqT.of ep⟩, fun D hD => ?_⟩
    refine lc2_tupS (K := K) (a := p) (rs := [.ref a]) (fun v => ∃ z, v = .str z) ep hD (by decide) (show 1 < 3 by decide) (show 2 < 3 by decide) (fun i x G hx s1 => ?_) (show 1 ≤ 1000 by decide) fun ys G s1 eD l1 r1 => ?_
    · match i, hx with
      | 0, hx =>
        cases hx
        refine ⟨sz, zs.map V.str, fun R r => ⟨.ref a, rfl, a, dx, _, rfl, s1 _ _ ea, a, dx, ws, .ref sz, rfl, s1 _ _ ea, ew, r⟩, ez, by rw [List.length_map]; omega, fun j y G' hy s2 => ⟨_, rfl, Same.refl _, ?_⟩⟩
        obtain ⟨z, _, e⟩ := List.mem_map.mp (List.mem_of_getElem? hy)
        exact ⟨z, e.symm⟩
    obtain ⟨us, rfl⟩ := strs_all r1
    have lu : us.length ≤ 1000 := by
      rw [List.length_map] at l1
      exact l1
    refine ⟨D, us, rfl, SqL.of eD, lu, fun b hb => ?_⟩
    have s2 := MG.Same.new (o := TxtO P w b (onceT us)) s1 hb
    refine ⟨b, _, rfl, upd_same, Nat.le_trans onceT_len lu, fun ss c _ _ _ hc => ?_⟩
    have s3 := MG.Same.new (o := .lst (ss.map V.str)) s2 hc
    exact ⟨c, _, rfl, .inl ⟨SqL.of upd_same, fun d hd => k d _ (MG.Same.new (o := .tup (ss.map V.str)) s3 hd)⟩⟩
theorem zip_ne {ws : List V} {v : V} {j : Nat} (h : ws[j]? = some v) : fN.zip ws ≠ [] := by
  cases ws with
  | nil => simp at h
  | cons u us =>
    intro e
    unfold fN at e
    simp at e
/-! ### Formula.__init__: one part, the letter at lb -/
def spF1 (CL CT : Addr) : Sp := fun vs H Q _ => ∃ (a dx t0 t1 sd ms p1 p2 lb ld : Addr) (m1 m2 : Int) (kd z : Str) (ws : List V) (lsz : Addr) (zs : List Str) (lmk mid : V), vs = [.ref a, .str kd, .ref t0, .ref t1, .ref sd, .ref ms, mid, .str z] ∧ H a = some (.ins CT dx []) ∧ H t0 = some (.tup [.ref lb]) ∧ H t1 = some (.tup [.ref lb]) ∧
  H sd = some (.tup [.ref p1, .ref p2]) ∧ H ms = some (.tup [.int m1, .int m2]) ∧ H lb = some (.ins CL ld (fN.zip ws)) ∧ ws[9]? = some (.ref lsz) ∧ ws[10]? = some lmk ∧ H lsz = some (.tup (zs.map V.str)) ∧ zs.length ≤ 2 ∧
  ∀ (H' : Hp) (us : List V), But a H H' → H' a = some (.ins CT dx (fN.zip us)) → us[0]? = some (.str kd) → Q .non H'
theorem ok_f1 {f : Addr} {fd : FuncData} (F : Fun K "__init__" "Formula.__init__" s_Formula___init__ f fd) (T : TxL K mg C CM tk aS) (TF : TxF K CT) (TL : TxF K CL) (c_joined : JoinedC P w K mg base CL) : FnOk P w K mg base CX0 6 f fd ["self", "kind", "parts", "letters", "sides", "measures", "middle", "spelled"] (spF1 CL CT) := by
  refine F.ok sc_Formula___init__ (fun vs H Q E h => ?_) (fun cdv A outer s H vs Q E hr h => ?_)
  · obtain ⟨a, dx, t0, t1, sd, ms, p1, p2, lb, ld, m1, m2, kd, z, ws, lsz, zs, lmk, mid, rfl, _⟩ := h
    rfl
  · obtain ⟨a, dx, t0, t1, sd, ms, p1, p2, lb, ld, m1, m2, kd, z, ws, lsz, zs, lmk, mid, rfl, ha, h0, h1, ep, em, hlb, hl9, hl10, esz, lz, k⟩ := h
    refine ⟨_, (pss_cons (ps_fld (pv 0) (pv 1) rfl)
  (pss_cons (ps_fld (pv 0) (pv 2) rfl)
  (pss_cons (ps_fld (pv 0) (pv 3) rfl)
  (pss_cons (ps_asg (pv 4) (pg_tupK (K := K) (n := 2) rfl (pgs_cons (pg_fld (pv 0)) (pgs_cons (pg_fld (pv 0)) pgs_nil))))
  (pss_cons (ps_asg (pv 5) (pg_tupK (K := K) (n := 2) rfl (pgs_cons (pg_fld (pv 0)) (pgs_cons (pg_fld (pv 0)) pgs_nil))))
  (pss_cons (ps_fld (pv 0) (pv 6) rfl)
  (pss_cons (ps_fld (pv 0) (pv 7) rfl)
  (pss_cons (ps_fld (pv 0) (pe_ifExp (pt_truthK (K := K) (pv 2) (by intro _; rfl)) (pe_cf c_joined hr (by decide) rfl (pa_cons (pv 2) pa_nil)) (pe_callTy (call_tuple_ofK (K := K)) (by rfl) T.b_tuple (by decide +kernel) (pa_cons (pe_callB (id := "sorted") (cr_sortT (by rfl)) (by rfl) T.b_sorted (by decide +kernel) (pa_cons (pe_callTy (cr_setT (by rfl)) (by rfl) T.b_set (by decide +kernel) (pa_cons (pe_op (op_catAK (K := K)) (pe_ix (ix_tupK (K := K)) (pv 4) pe_int (fun _ _ => rfl)) (pe_ix (ix_tupK (K := K)) (pv 4) pe_int (fun _ _ => rfl))) pa_nil)) pa_nil)) pa_nil))) rfl)
  (pss_one (ps_fld (pv 0) (pe_tup (pa_cons (pv 7) (pa_cons (pe_callTy (call_tuple_ofK (K := K)) (by rfl) T.b_tuple (by decide +kernel) (pa_cons (pe_lcI (pe_lc (own := [("letter", 8)]) rfl sc_Formula___init__.nd (pi_tupK (K := K) (pv 3)) (blkOk_by (N := ["self", "kind", "parts", "letters", "sides", "measures", "middle", "spelled", "letter"]) (sc := (defScope s_Formula___init__)) (by decide +kernel)) (fun _ _ _ _ _ => (pg_name (i := 8) sc_Formula___init__.nd rfl (Or.inl rfl))) (fun _ _ _ _ _ => pts_nil) (fun _ _ _ _ _ => (pe_cut (pe_fldK (K := K) (pv 8) rfl))))) pa_nil)) pa_nil))) rfl)))))))))), ?_⟩
    have n0 : t0 ≠ a := ne_of h0 ha nofun
    have n1 : t1 ≠ a := ne_of h1 ha nofun
    have f0 : H a = some (.ins CT dx (fN.zip [])) := ha
    have ns : sd ≠ a := ne_of ep ha nofun
    have nm : ms ≠ a := ne_of em ha nofun
    have nb : lb ≠ a := ne_of hlb ha fun z => by
      injection z with _ _ z
      exact zip_ne hl9 z
    have nsz : lsz ≠ a := ne_of esz ha nofun
    refine ⟨_, rfl, _, rfl, a, CT, dx, _, rfl, f0, TF.cl, TF.no 0 _ rfl, zip_small fN_small, ?_⟩
    rw [zip_put fN_nd rfl]
    generalize g1 : upd H a _ = G1
    have f1 := (congrFun g1 a).symm.trans upd_same
    have b1 : But a H G1 := But.trans But.refl (by rw [← g1]; exact But.upd)
    refine ⟨_, rfl, _, rfl, a, CT, dx, _, rfl, f1, TF.cl, TF.no 1 _ rfl, zip_small fN_small, ?_⟩
    rw [zip_put fN_nd rfl]
    generalize g2 : upd G1 a _ = G2
    have f2 := (congrFun g2 a).symm.trans upd_same
    have b2 : But a H G2 := But.trans b1 (by rw [← g2]; exact But.upd)
    refine ⟨_, rfl, _, rfl, a, CT, dx, _, rfl, f2, TF.cl, TF.no 2 _ rfl, zip_small fN_small, ?_⟩
    rw [zip_put fN_nd rfl]
    generalize g3 : upd G2 a _ = G3
    have f3 := (congrFun g3 a).symm.trans upd_same
    have b3 : But a H G3 := But.trans b2 (by rw [← g3]; exact But.upd)
    refine ⟨_, rfl, sd, _, rfl, SqT.of (b3 _ _ ep ns), rfl, ?_⟩
    refine ⟨_, _, rfl, _, rfl, a, CT, dx, _, rfl, f3, TF.cl, TF.no 3 _ rfl, zip_small fN_small, ?_⟩
    rw [zip_put fN_nd rfl]
    generalize g4 : upd G3 a _ = G4
    have f4 := (congrFun g4 a).symm.trans upd_same
    have b4 : But a H G4 := b3.trans (by rw [← g4]; exact But.upd)
    refine ⟨_, _, rfl, _, rfl, a, CT, dx, _, rfl, f4, TF.cl, TF.no 4 _ rfl, zip_small fN_small, ?_⟩
    rw [zip_put fN_nd rfl]
    generalize g5 : upd G4 a _ = G5
    have f5 := (congrFun g5 a).symm.trans upd_same
    have b5 : But a H G5 := b4.trans (by rw [← g5]; exact But.upd)
    refine ⟨rfl, ?_⟩
    refine ⟨_, rfl, ms, _, rfl, SqT.of (b5 _ _ em nm), rfl, ?_⟩
    refine ⟨_, _, rfl, _, rfl, a, CT, dx, _, rfl, f5, TF.cl, TF.no 5 _ rfl, zip_small fN_small, ?_⟩
    rw [zip_put fN_nd rfl]
    generalize g6 : upd G5 a _ = G6
    have f6 := (congrFun g6 a).symm.trans upd_same
    have b6 : But a H G6 := b5.trans (by rw [← g6]; exact But.upd)
    refine ⟨_, _, rfl, _, rfl, a, CT, dx, _, rfl, f6, TF.cl, TF.no 6 _ rfl, zip_small fN_small, ?_⟩
    rw [zip_put fN_nd rfl]
    generalize g7 : upd G6 a _ = G7
    have f7 := (congrFun g7 a).symm.trans upd_same
    have b7 : But a H G7 := b6.trans (by rw [← g7]; exact But.upd)
    refine ⟨rfl, ?_⟩
    refine ⟨_, rfl, _, rfl, a, CT, dx, _, rfl, f7, TF.cl, TF.no 7 _ rfl, zip_small fN_small, ?_⟩
    rw [zip_put fN_nd rfl]
    generalize g8 : upd G7 a _ = G8
    have f8 := (congrFun g8 a).symm.trans upd_same
    have b8 : But a H G8 := b7.trans (by rw [← g8]; exact But.upd)
    refine ⟨_, rfl, _, rfl, a, CT, dx, _, rfl, f8, TF.cl, TF.no 8 _ rfl, zip_small fN_small, ?_⟩
    rw [zip_put fN_nd rfl]
    generalize g9 : upd G8 a _ = G9
    have f9 := (congrFun g9 a).symm.trans upd_same
    have b9 : But a H G9 := b8.trans (by rw [← g9]; exact But.upd)
    refine ⟨_, rfl, true, .inr (.inl ⟨[.ref lb], SqT.of (b9 _ _ h0 n0), rfl⟩), iteT ?_⟩
    have hlb9 := b9 _ _ hlb nb
    refine ⟨_, rfl, t0, lb, ld, lsz, ws, zs, rfl, b9 _ _ h0 n0, hlb9, hl9, b9 _ _ esz nsz, lz, fun sz Ga s4 => ?_⟩
    have f9' := s4 _ _ f9
    have b9' := b9.trans (.of s4)
    refine ⟨_, rfl, a, CT, dx, _, rfl, f9', TF.cl, TF.no 9 _ rfl, zip_small fN_small, ?_⟩
    rw [zip_put fN_nd rfl]
    generalize g10 : upd _ a (.ins CT dx (fN.zip _)) = G10
    have f10 := (congrFun g10 a).symm.trans upd_same
    have b10 : But a H G10 := b9'.trans (by rw [← g10]; exact But.upd)
    clear s4 f9' b9' g10 hlb9
    have h1b := b10 _ _ h1 n1
    refine ⟨_, rfl, _, rfl, t1, rfl, ⟨_, SqT.of h1b⟩, fun D hD => ?_⟩
    refine lc_same (walk_tup (K := K) (a := t1) (xs := [.ref lb])) hD (show 1 ≤ 100000 by decide) (fun _ _ _ => True) (fun _ _ _ _ _ _ => True.intro) (fun G s => SqT.of (s _ _ h1b)) yat_same (fun i x G G' hi s0 _ hy => ?_) fun ys G11 hl s5 e5 _ => ?_
    · obtain ⟨rfl, hx⟩ := hy
      match i, hx with
      | 0, hx =>
        cases hx
        exact ⟨_, fun _ h => h, wipe_one, _, rfl, lb, CL, ld, _, lmk, rfl, s0 _ _ (b10 _ _ hlb nb), TL.cl, TL.no 10 _ rfl, (zip_look (j := 10) fN_nd rfl).trans hl10, Same.refl _, fun _ => True.intro⟩
    refine ⟨D, _, rfl, .inl ⟨SqL.of e5, fun e he => ?_⟩⟩
    have s6 := MG.Same.new (o := .tup ys) s5 he
    refine ⟨(show 2 ≤ sizeLine by decide), fun m hm => ?_⟩
    have s7 := MG.Same.new (o := .tup [.str z, .ref e]) s6 hm
    refine ⟨_, rfl, a, CT, dx, _, rfl, s7 _ _ f10, TF.cl, TF.no 10 _ rfl, zip_small fN_small, ?_⟩
    rw [zip_put fN_nd rfl]
    exact k _ _ ((b10.trans (.of s7)).trans But.upd) upd_same rfl
end
end Lw

namespace Lw
open PySem PySem.Spec PyProof.Rows L2 MG SkE
/-- the limits -/
structure Lim (mg : Str → Option Value) (t1 t2 t3 : Tok) : Prop where
  g_side : mg "MOST_SIDE" = some (.int 16 t1)
  g_weight : mg "MOST_WEIGHT" = some (.int 1000 t2)
  g_levels : mg "MOST_LEVELS" = some (.int 60 t3)
section
variable {P : Program} {w : World} {K : PySem.W.Frag} {mg : Str → Option Value} {base : Heap} {C CM CL CT CF CY aS aL f cda cc : Addr} {fd : FuncData} {tk t1 t2 t3 : Tok} {H H' : Hp}
theorem ins_tyx {a dx : Addr} {fs : List (Str × V)} (T : TxR K mg C) (TF : TxF K CF) (h : H a = some (.ins CF dx fs)) : TyX K H (.ref a) (.ref CF) := .base (.ins h TF.cl TF.ca T.cn T.ct TF.fmt.cm)
/-! ### check_formula -/
def spChkF (CL : Addr) : Sp := fun vs H Q _ => ∃ (a dx : Addr) (fs : List (Str × V)), vs = [.ref a] ∧ H a = some (.ins CL dx fs) ∧ Q .non H
theorem sc_check_formula : FnScope ["formula"] ["formula"] (defScope s_check_formula) := ⟨rfl, rfl, rfl, by decide +kernel, rfl, by decide +kernel, by decide +kernel⟩
theorem ok_chkf {f : Addr} {fd : FuncData} (F : Fun K "check_formula" "check_formula" s_check_formula f fd) (T : TxR K mg C) (TF : TxF K CL) (g_Formula : mg "Formula" = some (.ref CY)) (kLF : PySem.W.kitOne K (.ref CL) (.ref CY) = some true) : FnOk P w K mg base CX0 2 f fd ["formula"] (spChkF CL) := by
  refine F.ok sc_check_formula (fun vs H Q E h => ?_) (fun cdv A outer s H vs Q E hr h => ?_)
  · obtain ⟨a, dx, fs, rfl, _⟩ := h
    rfl
  · obtain ⟨a, dx, fs, rfl, ea, k⟩ := h
    refine ⟨_, (pss_one (ps_if (pt_not (pt_val (pe_callB (id := "isinstance") (call_isiK (K := K)) (by rfl) T.b_isinstance (by decide +kernel) (pa_cons (pv 0) (pa_cons (pe_glob (v := V.ref CY) rfl g_Formula rfl) pa_nil))))) (pss_one ps_never)
  pss_nil)), ?_⟩
    exact ⟨_, rfl, _, _, _, _, true, rfl, .own CY, ins_tyx T TF ea, kLF, _, rfl, iteF k⟩
abbrev ChkFC (P : Program) (w : World) (K : PySem.W.Frag) (mg : Str → Option Value) (base : Heap) (CL : Addr) : Prop := CalF P w K mg base 2 "check_formula" (spChkF CL) []
/-! ### measured: of one letter -/
def spMeasured (CL : Addr) : Sp := fun vs H Q _ => ∃ (p sd q1 q2 a dx : Addr) (ws xs ys : List V), vs = [.ref p, .ref sd, .int 1] ∧ H p = some (.tup [.ref a]) ∧ H a = some (.ins CL dx (fN.zip ws)) ∧ ws[5]? = some (.int 1) ∧ ws[6]? = some (.int 1) ∧
  H sd = some (.tup [.ref q1, .ref q2]) ∧ H q1 = some (.tup xs) ∧ H q2 = some (.tup ys) ∧ xs.length = 1 ∧ ys.length = 1 ∧ ∀ q H', Same H H' → H' q = some (.tup [.int 1, .int 2]) → Q (.ref q) H'
theorem sc_measured : FnScope ["parts", "sides", "times", "weight", "levels", "part", "side"] ["parts", "sides", "times"] (defScope s_measured) := ⟨rfl, rfl, rfl, by decide +kernel, rfl, by decide +kernel, by decide +kernel⟩
theorem ok_measured {dvs : List V} (F : FunD K "measured" "measured" (defArgs s_measured) (defBody s_measured) (defScope s_measured) dvs [] f fd) (T : TxR K mg C) (L : Lim mg t1 t2 t3) (TF : TxF K CL) (pl_weight : PropL P w K mg base CL "weight" 5) (pl_levels : PropL P w K mg base CL "levels" 6) : FnOk P w K mg base CX0 4 f fd ["parts", "sides", "times"] (spMeasured CL) := by
  refine F.ok sc_measured (fun vs H Q E h => ?_) (fun cdv A outer s H vs Q E hr h => ?_)
  · obtain ⟨p, sd, q1, q2, a, dx, ws, xs, ys, rfl, _⟩ := h
    rfl
  · obtain ⟨p, sd, q1, q2, a, dx, ws, xs, ys, rfl, ep, ea, e5, e6, es, eq1, eq2, lx, ly, k⟩ := h
    refine ⟨_, (pss_cons (ps_set (i := 3) sc_measured.nd rfl (Or.inl rfl) (pe_op op_mulW (pv 2) (pe_callB (id := "sum") (cr_sumK (K := K) rfl) (by rfl) T.b_sum (by decide +kernel) (pa_cons (pe_lcI (pe_lc (own := [("part", 5)]) rfl sc_measured.nd (pi_tupK (K := K) (pv 0)) (blkOk_by (N := ["parts", "sides", "times", "weight", "levels", "part", "side"]) (sc := (defScope s_measured)) (by decide +kernel)) (fun _ _ _ _ _ => (pg_name (i := 5) sc_measured.nd rfl (Or.inl rfl))) (fun _ _ _ _ _ => pts_nil) (fun _ _ _ _ _ => (pe_cut (pe_pf pl_weight TF.cl hr (by decide) (pv 5) rfl))))) pa_nil))))
  (pss_cons (ps_if (pt_cmpR op_gt (pv 3) (pe_glob (v := V.int 1000) rfl L.g_weight ⟨_, rfl⟩) (nomark _)) (pss_one ps_never)
  pss_nil)
  (pss_cons (ps_if (pt_cmpR op_gt (pe_callB (id := "max") (cr_maxK (K := K) rfl) (by rfl) T.b_max (by decide +kernel) (pa_cons (pe_lcI (pe_lc (own := [("side", 6)]) rfl sc_measured.nd (pi_tupK (K := K) (pv 1)) (blkOk_by (N := ["parts", "sides", "times", "weight", "levels", "part", "side"]) (sc := (defScope s_measured)) (by decide +kernel)) (fun _ _ _ _ _ => (pg_name (i := 6) sc_measured.nd rfl (Or.inl rfl))) (fun _ _ _ _ _ => pts_nil) (fun _ _ _ _ _ => (pe_cut (pe_callB (id := "len") (call_len_seqK (K := K)) (by rfl) T.b_len (by decide +kernel) (pa_cons (pv 6) pa_nil)))))) pa_nil)) (pe_glob (v := V.int 16) rfl L.g_side ⟨_, rfl⟩) (nomark _)) (pss_one ps_never)
  pss_nil)
  (pss_cons (ps_set (i := 4) sc_measured.nd rfl (Or.inl rfl) (pe_op op_add pe_int (pe_callB (id := "max") (cr_maxK (K := K) rfl) (by rfl) T.b_max (by decide +kernel) (pa_cons (pe_lcI (pe_lc (own := [("part", 5)]) rfl sc_measured.nd (pi_tupK (K := K) (pv 0)) (blkOk_by (N := ["parts", "sides", "times", "weight", "levels", "part", "side"]) (sc := (defScope s_measured)) (by decide +kernel)) (fun _ _ _ _ _ => (pg_name (i := 5) sc_measured.nd rfl (Or.inl rfl))) (fun _ _ _ _ _ => pts_nil) (fun _ _ _ _ _ => (pe_cut (pe_pf pl_levels TF.cl hr (by decide) (pv 5) rfl))))) pa_nil))))
  (pss_cons (ps_if (pt_cmpR op_gt (pv 4) (pe_glob (v := V.int 60) rfl L.g_levels ⟨_, rfl⟩) (nomark _)) (pss_one ps_never)
  pss_nil)
  (pss_one (ps_ret (pe_tup (pa_cons (pv 3) (pa_cons (pv 4) pa_nil)))))))))), ?_⟩
    refine ⟨_, rfl, _, rfl, p, rfl, ⟨_, SqT.of ep⟩, fun D hD => ?_⟩
    have one : ∀ {ys : List V} {G : Hp}, ys.length = 1 → (∀ (i : Nat) (y : V), ys[i]? = some y → y = V.int 1) → ys = [V.int 1] := fun {ys G} l h => by
      match ys, l, h with
      | [y], _, h => rw [h 0 y rfl]
    refine lc_same (walk_tup (K := K) (a := p) (xs := [.ref a])) hD (show 1 ≤ 100000 by decide) (fun _ y _ => y = V.int 1) (fun _ _ _ _ e _ => e) (fun G s => SqT.of (s _ _ ep)) yat_same (fun i x G G' hi s0 _ hy => ?_) fun us G1 hl s1 eD hu => ?_
    · obtain ⟨rfl, hx⟩ := hy
      match i, hx with
      | 0, hx =>
        cases hx
        exact ⟨_, fun _ h => h, wipe_one, ⟨.ref a, rfl, a, dx, _, rfl, s0 _ _ ea, a, dx, ws, .int 1, rfl, s0 _ _ ea, e5, Same.refl _, fun _ => rfl⟩⟩
    obtain rfl := one (G := G1) hl hu
    refine ⟨D, [1], rfl, SqL.of eD, ?_⟩
    refine ⟨1, 1, rfl, rfl, by unfold CMulW; decide, ?_⟩
    refine ⟨_, rfl, _, _, rfl, rfl, _, rfl, ifF (by decide) ?_⟩
    clear hl hu eD
    -- the sides
    have sq : ∀ {G : Hp}, Same H G → SqT K G sd [.ref q1, .ref q2] := fun s => SqT.of (s _ _ es)
    refine ⟨_, rfl, sd, rfl, ⟨_, sq s1⟩, fun D2 hD2 => ?_⟩
    refine lc_same (walk_tup (K := K) (a := sd) (xs := [.ref q1, .ref q2])) hD2 (show 2 ≤ 100000 by decide) (fun _ y _ => y = V.int 1) (fun _ _ _ _ e _ => e) (fun G s => sq (s1.trans s)) yat_same (fun i x G G' hi s0 _ hy => ?_) fun us G2 hl s2 eD hu => ?_
    · obtain ⟨rfl, hx⟩ := hy
      match i, hx with
      | 0, hx =>
        cases hx
        exact ⟨_, fun _ h => h, wipe_one, _, rfl, q1, xs, rfl, .inr (SqT.of ((s1.trans s0) _ _ eq1)), Same.refl _, fun _ => by rw [lx]; rfl⟩
      | 1, hx =>
        cases hx
        exact ⟨_, fun _ h => h, wipe_one, _, rfl, q2, ys, rfl, .inr (SqT.of ((s1.trans s0) _ _ eq2)), Same.refl _, fun _ => by rw [ly]; rfl⟩
    have s12 := s1.trans s2
    obtain ⟨z1, z2, rfl⟩ : ∃ z1 z2, us = [z1, z2] := by
      match us, hl with
      | [z1, z2], _ => exact ⟨z1, z2, rfl⟩
    obtain rfl := hu 0 z1 rfl
    obtain rfl := hu 1 z2 rfl
    refine ⟨D2, [1, 1], rfl, SqL.of eD, by decide, fun m hm _ => ?_⟩
    obtain rfl : m = 1 := by simpa using hm
    refine ⟨1, 16, rfl, rfl, _, rfl, ifF (by decide) ?_⟩
    clear hl hu eD hm sq
    -- levels
    refine ⟨_, rfl, p, rfl, ⟨_, SqT.of (s12 _ _ ep)⟩, fun D3 hD3 => ?_⟩
    refine lc_same (walk_tup (K := K) (a := p) (xs := [.ref a])) hD3 (show 1 ≤ 100000 by decide) (fun _ y _ => y = V.int 1) (fun _ _ _ _ e _ => e) (fun G s => SqT.of ((s12.trans s) _ _ ep)) yat_same (fun i x G G' hi s0 _ hy => ?_) fun us G3 hl s3 eD hu => ?_
    · obtain ⟨rfl, hx⟩ := hy
      match i, hx with
      | 0, hx =>
        cases hx
        exact ⟨_, fun _ h => h, wipe_one, ⟨.ref a, rfl, a, dx, _, rfl, (s12.trans s0) _ _ ea, a, dx, ws, .int 1, rfl, (s12.trans s0) _ _ ea, e6, Same.refl _, fun _ => rfl⟩⟩
    obtain rfl := one (G := G3) hl hu
    have s13 := s12.trans s3
    refine ⟨D3, [1], rfl, SqL.of eD, by decide, fun m hm _ => ?_⟩
    obtain rfl : m = 1 := by simpa using hm
    refine ⟨1, 1, rfl, rfl, ?_⟩
    refine ⟨_, rfl, _, _, rfl, rfl, _, rfl, ifF (by decide) ?_⟩
    refine ⟨_, rfl, _, rfl, (show 2 ≤ sizeLine by decide), fun q hq => ?_⟩
    exact k q _ (MG.Same.new (o := .tup [.int 1, .int 2]) s13 hq) upd_same
abbrev MeasuredC (P : Program) (w : World) (K : PySem.W.Frag) (mg : Str → Option Value) (base : Heap) (CL : Addr) : Prop := CalF P w K mg base 4 "measured" (spMeasured CL) [.int 1]
/-! ### the texts of a letter -/
def spFStr (CF : Addr) : Sp := fun vs H Q _ => ∃ (a dx : Addr) (ws : List V) (z : Str), vs = [.ref a] ∧ H a = some (.ins CF dx (fN.zip ws)) ∧ ws[8]? = some (.str z) ∧ Q (.str z) H
theorem sc_Formula___str__ : FnScope ["self"] ["self"] (defScope s_Formula___str__) := ⟨rfl, rfl, rfl, by decide +kernel, rfl, by decide +kernel, by decide +kernel⟩
theorem ok_fstr {f : Addr} {fd : FuncData} (F : Fun K "__str__" "Formula.__str__" s_Formula___str__ f fd) (T : TxR K mg C) (TF : TxF K CF) : FnOk P w K mg base CX0 2 f fd ["self"] (spFStr CF) := by
  refine F.ok sc_Formula___str__ (fun vs H Q E h => ?_) (fun cdv A outer s H vs Q E hr h => ?_)
  · obtain ⟨a, dx, ws, z, rfl, _⟩ := h
    rfl
  · obtain ⟨a, dx, ws, z, rfl, ea, ew, k⟩ := h
    refine ⟨_, (pss_one (ps_ret (pe_callTy call_str_str (by rfl) T.b_str (by decide +kernel) (pa_cons (pe_fldK (K := K) (pv 0) rfl) pa_nil)))), ?_⟩
    exact ⟨_, rfl, a, CF, dx, _, .str z, rfl, ea, TF.cl, TF.no 8 _ rfl, (zip_look (j := 8) fN_nd rfl).trans ew, _, rfl, k⟩
abbrev FStrD (P : Program) (w : World) (K : PySem.W.Frag) (mg : Str → Option Value) (base : Heap) (CF : Addr) : Prop := DunF P w K mg base 2 CF "__str__" (spFStr CF)
def spFRepr (CF : Addr) : Sp := fun vs H Q _ => ∃ (a dx : Addr) (ws : List V) (z : Str), vs = [.ref a] ∧ H a = some (.ins CF dx (fN.zip ws)) ∧ ws[8]? = some (.str z) ∧ Asc z ∧ z.length ≤ 100 ∧ Q (.str ((("Formula(" : Str) ++ reprText z) ++ (")" : Str))) H
theorem sc_Formula___repr__ : FnScope ["self"] ["self"] (defScope s_Formula___repr__) := ⟨rfl, rfl, rfl, by decide +kernel, rfl, by decide +kernel, by decide +kernel⟩
theorem ok_frepr {f : Addr} {fd : FuncData} (F : Fun K "__repr__" "Formula.__repr__" s_Formula___repr__ f fd) (T : TxR K mg C) (TF : TxF K CF) : FnOk P w K mg base CX0 2 f fd ["self"] (spFRepr CF) := by
  refine F.ok sc_Formula___repr__ (fun vs H Q E h => ?_) (fun cdv A outer s H vs Q E hr h => ?_)
  · obtain ⟨a, dx, ws, z, rfl, _⟩ := h
    rfl
  · obtain ⟨a, dx, ws, z, rfl, ea, ew, az, lz, k⟩ := h
    refine ⟨_, (pss_one (ps_ret (pe_joined (PJ.cons pe_str (PJ.cons (pe_fmtR (pe_fldK (K := K) (pv 0) rfl)) (PJ.cons pe_str PJ.nil)))))), ?_⟩
    have lr := PySem.StrLaws.reprText_len z fun c hc => by have := (az c hc).2; omega
    have z1 : (("Formula(" : Str)).length = 8 := rfl
    have z3 : ((")" : Str)).length = 1 := rfl
    refine ⟨_, rfl, ?_, _, rfl, a, CF, dx, _, .str z, rfl, ea, TF.cl, TF.no 8 _ rfl, (zip_look (j := 8) fN_nd rfl).trans ew, .inl ⟨z, rfl, ?_, _, rfl, ?_, _, rfl, ?_, ?_⟩⟩
    · rw [empty_add]; decide
    · exact Nat.le_trans (m := 4000) (by omega) (by decide)
    · rw [empty_add, strLen_append]; exact Nat.le_trans (m := 4000) (by omega) (by decide)
    · rw [empty_add, strLen_append, strLen_append]; exact Nat.le_trans (m := 4000) (by omega) (by decide)
    · rw [empty_add]; exact k
abbrev FReprD (P : Program) (w : World) (K : PySem.W.Frag) (mg : Str → Option Value) (base : Heap) (CF : Addr) : Prop := DunF P w K mg base 2 CF "__repr__" (spFRepr CF)
/-! ### formulas compared -/
/-- what == of a formula asks of the right side: 0 no formula; else a formula -/
def spFEq (K : PySem.W.Frag) (CF CY : Addr) : Sp := fun vs H Q _ => ∃ (a dx : Addr) (ws : List V) (k1 : Str) (y : V), vs = [.ref a, y] ∧ H a = some (.ins CF dx (fN.zip ws)) ∧ ws[0]? = some (.str k1) ∧
  ((∃ ty, TyX K H y ty ∧ PySem.W.kitOne K ty (.ref CY) = some false ∧ Q (.bl false) H) ∨
   ∃ (CG b d2 : Addr) (us : List V) (k2 : Str), y = .ref b ∧ TyX K H y (.ref CG) ∧ PySem.W.kitOne K (.ref CG) (.ref CY) = some true ∧ TxF K CG ∧ H b = some (.ins CG d2 (fN.zip us)) ∧ us[0]? = some (.str k2) ∧ (k1 ≠ k2 → Q (.bl false) H) ∧
    (k1 = k2 → ∃ (m1 m2 : V) (e1 e2 : PyData), ws[10]? = some m1 ∧ us[10]? = some m2 ∧ Dp K H m1 e1 ∧ Dp K H m2 e2 ∧ SeqAt.shaped e1 = true ∧ SeqAt.shaped e2 = true ∧ Q (.bl (PyData.eqv e1 e2)) H))
theorem sc_Formula___eq__ : FnScope ["self", "other"] ["self", "other"] (defScope s_Formula___eq__) := ⟨rfl, rfl, rfl, by decide +kernel, rfl, by decide +kernel, by decide +kernel⟩
theorem ok_feq {f : Addr} {fd : FuncData} (F : Fun K "__eq__" "Formula.__eq__" s_Formula___eq__ f fd) (T : TxR K mg C) (TF : TxF K CF) (g_Formula : mg "Formula" = some (.ref CY)) : FnOk P w K mg base CX0 4 f fd ["self", "other"] (spFEq K CF CY) := by
  refine F.ok sc_Formula___eq__ (fun vs H Q E h => ?_) (fun cdv A outer s H vs Q E hr h => ?_)
  · obtain ⟨a, dx, ws, k1, y, rfl, _⟩ := h
    rfl
  · obtain ⟨a, dx, ws, k1, y, rfl, ea, e0, h⟩ := h
    have hu64 := hr.units
    refine ⟨_, (pss_one (ps_ret (pe_and (pe_callB (id := "isinstance") (call_isiK (K := K)) (by rfl) T.b_isinstance (by decide +kernel) (pa_cons (pv 1) (pa_cons (pe_glob (v := V.ref CY) rfl g_Formula rfl) pa_nil))) (pe_and (pe_cmpR op_eq (pe_fldK (K := K) (pv 0) rfl) (pe_fldK (K := K) (pv 1) rfl) (nomark _)) (pe_one (pe_cmpR (op_eqD hu64) (pe_fldK (K := K) (pv 0) rfl) (pe_fldK (K := K) (pv 1) rfl) (nomark _))))))), ?_⟩
    rcases h with ⟨ty, h1, h2, k⟩ | ⟨CG, b, d2, us, k2, rfl, h1, h2, TG, eb, u0, kn, ke⟩
    · exact ⟨_, rfl, y, _, _, _, false, rfl, .own CY, h1, h2, _, rfl, iteF k⟩
    refine ⟨_, rfl, _, _, _, _, true, rfl, .own CY, h1, h2, _, rfl, iteT ?_⟩
    refine ⟨_, rfl, a, CF, dx, _, .str k1, rfl, ea, TF.cl, TF.no 0 _ rfl, (zip_look (j := 0) fN_nd rfl).trans e0, _, rfl, b, CG, d2, _, .str k2, rfl, eb, TG.cl, TG.no 0 _ rfl, (zip_look (j := 0) fN_nd rfl).trans u0, rfl, _, rfl, ?_⟩
    rw [dec_str]
    by_cases hk : k1 = k2
    · rw [decide_eq_true hk]
      obtain ⟨m1, m2, x1, x2, w10, u10, dp1, dp2, s1, s2, k⟩ := ke hk
      refine iteT ?_
      refine ⟨_, rfl, a, CF, dx, _, m1, rfl, ea, TF.cl, TF.no 10 _ rfl, (zip_look (j := 10) fN_nd rfl).trans w10, _, rfl, b, CG, d2, _, m2, rfl, eb, TG.cl, TG.no 10 _ rfl, (zip_look (j := 10) fN_nd rfl).trans u10, x1, x2, dp1, dp2, s1, s2, k⟩
    · rw [decide_eq_false hk]
      exact iteF (kn hk)
abbrev FEqC (P : Program) (w : World) (K : PySem.W.Frag) (mg : Str → Option Value) (base : Heap) (CF CY : Addr) : Prop := EqF P w K mg base 4 CF (spFEq K CF CY)
/-! ### to_side, of one name -/
def spToSide : Sp := fun vs H Q _ => ∃ (z : Str), vs = [.str z] ∧ spanB z = true ∧ ∀ p H', Same H H' → H' p = some (.tup [.str z]) → Q (.ref p) H'
theorem sc_to_side : FnScope ["given", "name"] ["given"] (defScope s_to_side) := ⟨rfl, rfl, rfl, by decide +kernel, rfl, by decide +kernel, by decide +kernel⟩
theorem ok_toside {f : Addr} {fd : FuncData} (F : Fun K "to_side" "to_side" s_to_side f fd) (T : TxR K mg C) (L : Lim mg t1 t2 t3) (c_issz : IsSzC P w K mg base) : FnOk P w K mg base CX0 4 f fd ["given"] spToSide := by
  refine F.ok sc_to_side (fun vs H Q E h => ?_) (fun cdv A outer s H vs Q E hr h => ?_)
  · obtain ⟨z, rfl, _⟩ := h
    rfl
  · obtain ⟨z, rfl, hz, k⟩ := h
    refine ⟨_, (pss_cons (ps_if (pt_val (pe_cf c_issz hr (by decide) rfl (pa_cons (pv 0) pa_nil))) (pss_one (ps_ret (pe_tup (pa_cons (pv 0) pa_nil))))
  pss_nil)
  (pss_cons (ps_if (pt_not (PW.pt (pw_and (pt_val (pe_callB (id := "isinstance") (call_isiK (K := K)) (by rfl) T.b_isinstance (by decide +kernel) (pa_cons (pv 0) (pa_cons (pe_bltn (v := V.ty "tuple") (u := Value.type "tuple") (by rfl) T.b_tuple (by decide +kernel) rfl) pa_nil)))) (pw_and1 (pt_chain op_le op_le pe_int (pe_callB (id := "len") call_len_str (by rfl) T.b_len (by decide +kernel) (pa_cons (pv 0) pa_nil)) (pe_glob (v := V.int 16) rfl L.g_side ⟨_, rfl⟩)))))) (pss_one ps_never)
  pss_nil)
  (pss_cons (ps_if (pt_not (pt_val (pe_callB (id := "all") (cr_allK (K := K) rfl) (by rfl) T.b_all (by decide +kernel) (pa_cons (pe_lcI (pe_lc (own := [("name", 1)]) rfl sc_to_side.nd (pi_str (pv 0)) (blkOk_by (N := ["given", "name"]) (sc := (defScope s_to_side)) (by decide +kernel)) (fun _ _ _ _ _ => (pg_name (i := 1) sc_to_side.nd rfl (Or.inl rfl))) (fun _ _ _ _ _ => pts_nil) (fun _ _ _ _ _ => (pe_cut (pe_cf c_issz hr (by decide) rfl (pa_cons (pv 1) pa_nil)))))) pa_nil)))) (pss_one ps_never)
  pss_nil)
  (pss_one (ps_ret (pe_callTy (call_tuple_ofK (K := K)) (by rfl) T.b_tuple (by decide +kernel) (pa_cons (pv 0) pa_nil))))))), ?_⟩
    refine ⟨_, rfl, .str z, some z, rfl, ⟨rfl, Nat.le_trans (span_len hz) (by decide)⟩, _, rfl, ?_⟩
    rw [show spanO (some z) = true from hz]
    exact iteT ⟨_, rfl, (show 1 ≤ sizeLine by decide), fun p hp => k p _ (MG.Same.new (Same.refl H) hp) upd_same⟩
abbrev ToSideC (P : Program) (w : World) (K : PySem.W.Frag) (mg : Str → Option Value) (base : Heap) : Prop := CalF P w K mg base 4 "to_side" spToSide []
end
end Lw

namespace Lw
open PySem PySem.Spec PyProof.Rows L2 MG
abbrev s_Matrix_eye : Stmt := inClass (top 43) 5
section
variable {P : Program} {w : World} {K : PySem.W.Frag} {mg : Str → Option Value} {base : Heap} {C CM CL CT CQ CF CY aS aL f cda cc : Addr} {fd : FuncData} {tk t1 t2 t3 : Tok} {H H' : Hp}
/-! ### Matrix.eye -/
def spIsSize : Sp := fun vs H Q _ => ∃ n : Nat, vs = [.int n] ∧ 0 < n ∧ Q (.bl true) H
theorem sc_is_size : FnScope ["given"] ["given"] (defScope s_is_size) := ⟨rfl, rfl, rfl, by decide +kernel, rfl, by decide +kernel, by decide +kernel⟩
theorem ok_size {f : Addr} {fd : FuncData} (F : Fun K "is_size" "is_size" s_is_size f fd) (c_whole : WholeC P w K mg base) : FnOk P w K mg base CX0 4 f fd ["given"] spIsSize := by
  refine F.ok sc_is_size (fun vs H Q E h => ?_) (fun cdv A outer s H vs Q E hr h => ?_)
  · obtain ⟨n, rfl, _⟩ := h
    rfl
  · obtain ⟨n, rfl, h0, k⟩ := h
    refine ⟨_, (pss_one (ps_ret (pe_and (pe_cf c_whole hr (by decide) rfl (pa_cons (pv 0) pa_nil)) (pe_one (pe_cmpR op_ge (pv 0) pe_int (nomark _)))))), ?_⟩
    refine ⟨_, rfl, .int n, .type "int", true, false, rfl, tyx_int _, kit_ty (by decide +kernel), kit_ty (by decide +kernel), _, rfl, iteT ⟨_, rfl, _, _, rfl, rfl, ?_⟩⟩
    show Q (.bl (decide ((1 : Int) ≤ (n : Int)))) H
    rw [decide_eq_true (show (1 : Int) ≤ (n : Int) by omega)]
    exact k
abbrev SizeC (P : Program) (w : World) (K : PySem.W.Frag) (mg : Str → Option Value) (base : Heap) : Prop := CalF P w K mg base 4 "is_size" spIsSize []
theorem make_num {H : Hp} {t : Addr} {r c : Nat} {f : Nat → Nat → Rat} {Q : VK} (ht : Tb (NumAt C) H t r c f) (z : Sz r c) (k : ∀ m H', H m = none → Same H H' → MtAt C CM H' m r c f → Q (.ref m) H') :
    ∀ x dx, H x = none → H dx = none → dx ≠ x → spMInit C CM [.ref x, .ref t] (upd (upd H dx (.own x)) x (.ins CM dx [])) (fun v H2 => v = .non ∧ Q (.ref x) H2) E0 := by
  intro x dx hx hdx hne
  have s1 : Same H (upd (upd H dx (.own x)) x (.ins CM dx [])) := MG.Same.new (MG.Same.new (Same.refl H) hdx) (by rw [upd_ne (fun e => hne e.symm)]; exact hx)
  refine ⟨x, dx, t, r, c, f, rfl, upd_same, ht.same (num_mono C) s1, z, fun H' t' e tb kp => ⟨rfl, k x H' hx (fun b o hb => ?_) ⟨dx, t', e, tb⟩⟩⟩
  exact kp b o (s1 _ _ hb) (ne_of_none hb hx)
def eyeI (i j : Nat) : Int := if i = j then 1 else 0
def spEyeM (C CM : Addr) : Sp := fun vs H Q _ => ∃ n : Nat, vs = [.ref CM, .int n] ∧ 0 < n ∧ n ≤ 100 ∧ ∀ m H', Same H H' → MtAt C CM H' m n n (qv eyeI 1) → Q (.ref m) H'
theorem sc_Matrix_eye : FnScope ["cls", "size", "row", "column"] ["cls", "size"] (defScope s_Matrix_eye) := ⟨rfl, rfl, rfl, by decide +kernel, rfl, by decide +kernel, by decide +kernel⟩
theorem ok_meye {f : Addr} {fd : FuncData} (F : Fun K "eye" "Matrix.eye" s_Matrix_eye f fd) (T : TxM K mg C CM) (c_size : SizeC P w K mg base) (m_mat : MatC P w K mg base C CM) : FnOk P w K mg base CX0 10 f fd ["cls", "size"] (spEyeM C CM) := by
  refine F.ok sc_Matrix_eye (fun vs H Q E h => ?_) (fun cdv A outer s H vs Q E hr h => ?_)
  · obtain ⟨n, rfl, _⟩ := h
    rfl
  · obtain ⟨n, rfl, n0, n1, k⟩ := h
    refine ⟨_, (pss_cons (ps_if (pt_not (pt_val (pe_cf c_size hr (by decide) rfl (pa_cons (pv 1) pa_nil)))) (pss_one ps_never)
  pss_nil)
  (pss_one (ps_ret (pe_mkL (i := 0) m_mat hr (by decide) rfl (Or.inl rfl) (pa_cons (pe_callTy (call_tuple_ofK (K := K)) (by rfl) T.b_tuple (by decide +kernel) (pa_cons (pe_lcI (pe_lc (own := [("row", 2)]) rfl sc_Matrix_eye.nd (pi_range1 (by rfl) T.b_range (pa_cons (pv 1) pa_nil)) (blkOk_by (N := ["cls", "size", "row", "column"]) (sc := (defScope s_Matrix_eye)) (by decide +kernel)) (fun _ _ _ _ _ => (pg_name (i := 2) sc_Matrix_eye.nd rfl (Or.inr rfl))) (fun _ _ _ _ _ => pts_nil) (fun _ _ _ _ _ => (pe_cut (pe_callTy (call_tuple_ofK (K := K)) (by rfl) T.b_tuple (by decide +kernel) (pa_cons (pe_lcI (pe_lc (own := [("column", 3)]) rfl sc_Matrix_eye.nd (pi_range1 (by rfl) T.b_range (pa_cons (pv 1) pa_nil)) (blkOk_by (N := ["cls", "size", "row", "column"]) (sc := ({ kind := .function, names := [(PySem.Str.ofString ".0", .local), (PySem.Str.ofString "row", .cell), (PySem.Str.ofString "tuple", .globalImplicit), (PySem.Str.ofString "range", .globalImplicit), (PySem.Str.ofString "size", .cell)], isGenerator := false, isCoroutine := false } : Scope)) (by decide +kernel)) (fun _ _ _ _ _ => (pg_name (i := 3) sc_Matrix_eye.nd rfl (Or.inl rfl))) (fun _ _ _ _ _ => pts_nil) (fun _ _ _ _ _ => (pe_cut (pe_ifExp (pt_cmpR op_eq (pv 3) (pv 2) (nomark _)) pe_int pe_int))))) pa_nil)))))) pa_nil)) pa_nil))))), ?_⟩
    refine ⟨_, rfl, n, rfl, n0, _, rfl, iteF ?_⟩
    refine ⟨rfl, _, rfl, (n : Int), rfl, by omega, by omega, fun D hD => ?_⟩
    have hc0 : ((n : Nat) : Int).toNat = n := by omega
    rw [hc0]
    refine lc_same (walk_range (lo := 0) (n := n)) hD (by omega) (fun i y G => Rw (NumAt C) G y n (qv eyeI 1 i)) (fun i y G G' h s => h.same (num_mono C) s) (fun G s => trivial) yfn_same (fun i y H1 H1' hi s1 nD hy => ?_) fun ys H1 hl1 s1 e1 h1 => ?_
    · obtain ⟨rfl, rfl⟩ := hy
      refine ⟨_, fun _ h => h, wipe_one, ?_⟩
      refine ⟨_, rfl, (n : Int), rfl, by omega, by omega, fun D2 hD2 => ?_⟩
      rw [hc0]
      refine lc_same (walk_range (lo := 0) (n := n)) hD2 (by omega) (fun j y G => NumAt C G y (qv eyeI 1 i j)) (fun j y G G' h s => h.same s) (fun G s => trivial) yfn_same (fun j y H2 H2' hj s2 _ hy => ?_) fun ys2 H2 hl2 s2 e2 h2 => ?_
      · obtain ⟨rfl, rfl⟩ := hy
        refine ⟨_, fun _ h => h, wipe_one, ?_⟩
        refine ⟨_, rfl, _, rfl, rfl, _, rfl, ?_⟩
        refine ite2 (fun z => ?_) (fun z => ?_)
        · have ij : i = j := by have := of_decide_eq_true z; have := V.int.inj this; omega
          exact ⟨Same.refl _, fun _ => .inr ⟨1, rfl, by unfold qv eyeI; rw [if_pos ij]⟩⟩
        · have ij : ¬ i = j := fun e => z (decide_eq_true (by rw [e]))
          exact ⟨Same.refl _, fun _ => .inr ⟨0, rfl, by unfold qv eyeI; rw [if_neg ij]⟩⟩
      · refine ⟨D2, ys2, rfl, .inl ⟨SqL.of e2, fun T2 hT2 => ⟨MG.Same.new s2 hT2, fun ⟨l, hl⟩ => ?_⟩⟩⟩
        exact (rw_new (num_mono C) (hid_same D2 H2) hT2 hl2 h2).hid (num_mono C) hl
    refine ⟨D, ys, rfl, .inl ⟨SqL.of e1, fun T7 hT7 => ?_⟩⟩
    exact make_num (tb_new (num_mono C) (hid_same D H1) hT7 hl1 h1) ⟨n0, by omega, n0, by omega⟩ fun m H' _ s h => k m H' ((MG.Same.new s1 hT7).trans s) h
theorem pair_len {x y : Str} : (pairT x y).length ≤ 2 := by
  unfold pairT
  split
  · exact Nat.le_succ 1
  · exact Nat.le_refl 2
theorem join_one {a z : Str} : Txt.join a [z] = z := by
  first
  | rfl
  | (unfold Txt.join; simp)
/-! ### Eye(side) -/
def spMade (CF : Addr) (kd : Str) (H : Hp) (a dx : Addr) (Q : VK) : Prop := ∀ (H' : Hp) (us : List V), But a H H' → H' a = some (.ins CF dx (fN.zip us)) → us[0]? = some (.str kd) → Q .non H'
def spEye (CQ : Addr) : Sp := fun vs H Q _ => ∃ (a dx : Addr) (z : Str), vs = [.ref a, .str z] ∧ H a = some (.ins CQ dx []) ∧ spanB z = true ∧ spMade CQ "eye" H a dx Q
theorem sc_Eye___init__ : SupScope ["self", "side", "names", "spelled"] ["self", "side"] (defScope s_Eye___init__) := supScope_by (by decide +kernel)
theorem ok_eyeF {kws : List (Str × V)} (F : FunS K "__init__" "Eye.__init__" s_Eye___init__ kws f fd cda cc) (T : TxL K mg C CM tk aS) (TF : TxF K CQ) (g_LEAST : mg "LEAST" = some (.ref aL)) (c_toside : ToSideC P w K mg base) (m_meye : CmtF P w K mg base 10 CM "eye" (spEyeM C CM))
    (u_form : SupF P w K mg base 6 CQ CQ "__init__" "self" f cda cc fd (spF0 CQ aL)) : FnOk P w K mg base CX0 13 f fd ["self", "side"] (spEye CQ) := by
  refine F.ok sc_Eye___init__ (fun vs H Q E h => ?_) (fun A outer s H vs Q E hr h => ?_)
  · obtain ⟨a, dx, z, rfl, _⟩ := h
    rfl
  · obtain ⟨a, dx, z, rfl, ha, hz, k⟩ := h
    refine ⟨_, (psA_cons (ps_set (i := 2) sc_Eye___init__.nd rfl (Or.inl rfl) (pe_cf c_toside hr (by decide) rfl (pa_cons (pv 1) pa_nil)))
  (psA_cons (ps_set (i := 3) sc_Eye___init__.nd rfl (Or.inl rfl) (pe_joined (PJ.cons pe_str (PJ.cons (pe_fmt (pe_joinK (K := K) pe_str (pv 2))) (PJ.cons pe_str PJ.nil)))))
  (psA_supF (i := 0) u_form hr (by decide) T.b_super rfl (pa_cons pe_str (pa_cons (pe_tup pa_nil) (pa_cons (pe_tup pa_nil) (pa_cons (pe_tup (pa_cons (pv 2) (pa_cons (pv 2) pa_nil))) (pa_cons (pe_glob (v := V.ref aL) rfl g_LEAST rfl) (pa_cons (pe_cmf m_meye hr (by decide) (pe_glob (v := V.ref CM) rfl T.g_Matrix rfl) (pa_cons (pe_callB (id := "len") (call_len_seqK (K := K)) (by rfl) T.b_len (by decide +kernel) (pa_cons (pv 2) pa_nil)) pa_nil)) (pa_cons (pv 3) pa_nil)))))))
  pss_nil))), ?_⟩
    refine ⟨_, rfl, z, rfl, hz, fun p H1 s1 ep => ?_⟩
    have ej : Txt.join ", " [z] = z := join_one
    have lz := span_len hz
    have z1 : (("eye(" : Str)).length = 4 := rfl
    have z3 : ((")" : Str)).length = 1 := rfl
    refine ⟨_, rfl, ?_, ⟨_, rfl⟩, _, rfl, ", ", p, [z], rfl, rfl, .inr (SqT.of ep), ?_, .inl ⟨_, rfl, ?_, _, rfl, ?_, _, rfl, ?_, ?_⟩⟩
    · rw [empty_add]; decide
    · show ([z].map fun x => x.length).sum + 1 * _ ≤ 16777216
      simp only [List.map_cons, List.map_nil, List.sum_cons, List.sum_nil]
      have : ((", " : Str)).length = 2 := rfl
      omega
    · rw [ej]; exact Nat.le_trans lz (by decide)
    · rw [ej, empty_add, strLen_append]; exact Nat.le_trans (m := 4000) (by omega) (by decide)
    · rw [ej, empty_add, strLen_append, strLen_append]; exact Nat.le_trans (m := 4000) (by omega) (by decide)
    generalize (Str.empty ++ ("eye(" : Str) ++ Txt.join ", " [z] ++ (")" : Str)) = sp
    -- super().__init__("eye", (), (), (names, names), LEAST, Matrix.eye(len(names)), spelled)
    refine ⟨a, dx, _, rfl, s1 _ _ ha, (show 0 ≤ sizeLine by decide), fun t0 e0 => ⟨(show 0 ≤ sizeLine by decide), fun t1 e1 => ?_⟩⟩
    refine ⟨_, rfl, _, rfl, (show 2 ≤ sizeLine by decide), fun sd e3 => ?_⟩
    have u1 := MG.Same.new (o := .tup []) (Same.refl H1) e0
    have f0 : upd H1 t0 (.tup []) t0 = some (.tup []) := upd_same
    have u2 := MG.Same.new (o := .tup []) (Same.refl _) e1
    have f1 : upd (upd H1 t0 (.tup [])) t1 (.tup []) t1 = some (.tup []) := upd_same
    have u3 := MG.Same.new (o := .tup [.ref p, .ref p]) (Same.refl _) e3
    have f3 : upd (upd (upd H1 t0 (.tup [])) t1 (.tup [])) sd (.tup [.ref p, .ref p]) sd = some (.tup [.ref p, .ref p]) := upd_same
    have v3 := (u1.trans u2).trans u3
    replace f0 := u3 _ _ (u2 _ _ f0)
    replace f1 := u3 _ _ f1
    generalize upd (upd (upd H1 t0 (.tup [])) t1 (.tup [])) sd (.tup [.ref p, .ref p]) = H2 at *
    have ep2 := v3 _ _ ep
    refine ⟨rfl, _, rfl, p, _, rfl, .inr (SqT.of ep2), ?_⟩
    refine ⟨1, rfl, by decide, by decide, fun m H5 s5 hm => ?_⟩
    refine ⟨_, rfl, ?_⟩
    have s15 := (s1.trans v3).trans s5
    refine ⟨a, dx, t0, t1, sd, p, p, "eye", sp, z, z, .ref m, rfl, s15 _ _ ha, s5 _ _ f0, s5 _ _ f1, s5 _ _ f3, s5 _ _ ep2, s5 _ _ ep2, fun H6 sz6 mk6 b6 f6 _ => ?_⟩
    exact k _ _ ((But.of s15).trans b6) f6 rfl
/-! ### Transposed(letter) -/
def spTr (C CM CL CT : Addr) : Sp := fun vs H Q _ => ∃ (a dx b : Addr) (n x y s : Str) (q : Rat), vs = [.ref a, .ref b] ∧ H a = some (.ins CT dx []) ∧ LtAt C CM CL H b n x y s q ∧ n.length ≤ 100 ∧ spMade CT "transposed" H a dx Q
theorem sc_Transposed___init__ : SupScope ["self", "formula", "sides", "measures", "middle"] ["self", "formula"] (defScope s_Transposed___init__) := supScope_by (by decide +kernel)
theorem ok_tr {kws : List (Str × V)} (F : FunS K "__init__" "Transposed.__init__" s_Transposed___init__ kws f fd cda cc) (T : TxL K mg C CM tk aS) (TF : TxF K CL) (TT : TxF K CT) (c_chkf : ChkFC P w K mg base CL) (c_measured : MeasuredC P w K mg base CL) (pl_rows : PropL P w K mg base CL "rows" 3) (pl_columns : PropL P w K mg base CL "columns" 4) (pl_middle : PropL P w K mg base CL "middle" 7) (pl_letters : PropL P w K mg base CL "letters" 2)
    (pm_transposed : TransC P w K mg base C CM) (d_fstr : FStrD P w K mg base CL) (u_form : SupF P w K mg base 6 CT CT "__init__" "self" f cda cc fd (spF1 CL CT)) : FnOk P w K mg base CX0 13 f fd ["self", "formula"] (spTr C CM CL CT) := by
  refine F.ok sc_Transposed___init__ (fun vs H Q E h => ?_) (fun A outer s H vs Q E hr h => ?_)
  · obtain ⟨a, dx, b, n, x, y, s, q, rfl, _⟩ := h
    rfl
  · obtain ⟨a, dx, b, n, x, y, sm, q, rfl, ha, hb, ln, k⟩ := h
    refine ⟨_, (psA_cons (ps_expr (pe_cf c_chkf hr (by decide) rfl (pa_cons (pv 1) pa_nil)))
  (psA_cons (ps_set (i := 2) sc_Transposed___init__.nd rfl (Or.inl rfl) (pe_tup (pa_cons (pe_pf pl_columns TF.cl hr (by decide) (pv 1) rfl) (pa_cons (pe_pf pl_rows TF.cl hr (by decide) (pv 1) rfl) pa_nil))))
  (psA_cons (ps_set (i := 3) sc_Transposed___init__.nd rfl (Or.inl rfl) (pe_cf c_measured hr (by decide) rfl (pa_cons (pe_tup (pa_cons (pv 1) pa_nil)) (pa_cons (pv 2) pa_nil))))
  (psA_cons (ps_set (i := 4) sc_Transposed___init__.nd rfl (Or.inl rfl) (pe_pf pm_transposed T.clM hr (by decide) (pe_pf pl_middle TF.cl hr (by decide) (pv 1) rfl) rfl))
  (psA_supF (i := 0) u_form hr (by decide) T.b_super rfl (pa_cons pe_str (pa_cons (pe_tup (pa_cons (pv 1) pa_nil)) (pa_cons (pe_pf pl_letters TF.cl hr (by decide) (pv 1) rfl) (pa_cons (pv 2) (pa_cons (pv 3) (pa_cons (pv 4) (pa_cons (pe_joined (PJ.cons (pe_fmtO d_fstr TF.fmt hr (by decide) (pv 1)) (PJ.cons pe_str PJ.nil))) pa_nil)))))))
  pss_nil))))), ?_⟩
    obtain ⟨d, t0, tL, p1, p2, m, sz, mk, r, h1, h2, h3, h4, h5, h6, h7, h8, h9⟩ := hb.ex
    refine ⟨_, rfl, b, d, _, rfl, h1, ?_⟩
    -- sides = (formula.columns, formula.rows)
    refine ⟨_, rfl, b, d, _, rfl, h1, b, d, _, .ref p2, rfl, h1, rfl, ?_⟩
    refine ⟨_, rfl, b, d, _, rfl, h1, b, d, _, .ref p1, rfl, h1, rfl, ?_⟩
    refine ⟨(show 2 ≤ sizeLine by decide), fun sd e1 => ?_⟩
    have s1 := MG.Same.new (o := .tup [.ref p2, .ref p1]) (Same.refl H) e1
    have f1 : upd H sd (.tup [.ref p2, .ref p1]) sd = some (.tup [.ref p2, .ref p1]) := upd_same
    generalize upd H sd (.tup [.ref p2, .ref p1]) = H1 at s1 f1 ⊢
    -- measures = measured((formula,), sides)
    refine ⟨_, rfl, (show 1 ≤ sizeLine by decide), fun pt e2 => ?_⟩
    have s2 := MG.Same.new (o := .tup [.ref b]) (Same.refl H1) e2
    have f2 : upd H1 pt (.tup [.ref b]) pt = some (.tup [.ref b]) := upd_same
    generalize upd H1 pt (.tup [.ref b]) = H2 at s2 f2 ⊢
    have s12 := s1.trans s2
    refine ⟨_, rfl, pt, sd, p2, p1, b, d, _, [.str y], [.str x], rfl, f2, s12 _ _ h1, rfl, rfl, s2 _ _ f1, s12 _ _ h5, s12 _ _ h4, rfl, rfl, fun ms H3 s3 ems => ?_⟩
    have s13 := s12.trans s3
    have f1' := (s2.trans s3) _ _ f1
    clear s1 s2 s12 f2 e1 e2
    -- middle = formula.middle.transposed
    obtain ⟨dm, tm, em, htm⟩ := h6.same s13
    refine ⟨_, rfl, b, d, _, rfl, s13 _ _ h1, b, d, _, .ref m, rfl, s13 _ _ h1, rfl, m, dm, _, rfl, em, m, 1, 1, _, rfl, ⟨dm, tm, em, htm⟩, by unfold Sz; decide, fun m2 H4 s4 hm2 => ?_⟩
    have s14 := s13.trans s4
    have ems' := s4 _ _ ems
    replace f1' := s4 _ _ f1'
    clear s13 em htm s3 s4 ems
    -- super().__init__("transposed", (formula,), formula.letters, sides, measures, middle, f"{formula}'")
    refine ⟨a, dx, _, rfl, s14 _ _ ha, _, rfl, (show 1 ≤ sizeLine by decide), fun t1 e3 => ?_⟩
    have s5 := MG.Same.new (o := .tup [.ref b]) (Same.refl H4) e3
    have f5 : upd H4 t1 (.tup [.ref b]) t1 = some (.tup [.ref b]) := upd_same
    generalize upd H4 t1 (.tup [.ref b]) = H5 at s5 f5 ⊢
    have s15 := s14.trans s5
    have hb5 := s15 _ _ h1
    have z3 : (("'" : Str)).length = 1 := rfl
    refine ⟨_, rfl, b, d, _, rfl, hb5, b, d, _, .ref tL, rfl, hb5, rfl, _, rfl, _, rfl, _, rfl, _, rfl, b, d, _, rfl, hb5, b, d, _, n, rfl, hb5, rfl, n, rfl, _, rfl, ?_, _, rfl, ?_, ?_⟩
    · rw [empty_add]; exact Nat.le_trans ln (by decide)
    · rw [empty_add, strLen_append]; exact Nat.le_trans (m := 4000) (by omega) (by decide)
    generalize (Str.empty ++ n ++ ("'" : Str)) = sp
    refine ⟨a, dx, t1, tL, sd, ms, p2, p1, b, d, 1, 2, "transposed", sp, _, sz, pairT x y, .ref mk, .ref m2, rfl, s15 _ _ ha, f5, s15 _ _ h3, s5 _ _ f1', s5 _ _ ems', hb5, rfl, rfl, s15 _ _ h7, pair_len, fun H6 us b6 f6 e6 => ?_⟩
    exact k _ us ((But.of s15).trans b6) f6 e6
abbrev TrC (P : Program) (w : World) (K : PySem.W.Frag) (mg : Str → Option Value) (base : Heap) (C CM CL CT : Addr) : Prop := MakF P w K mg base 13 "Transposed" CT (spTr C CM CL CT) []
abbrev EyeC (P : Program) (w : World) (K : PySem.W.Frag) (mg : Str → Option Value) (base : Heap) (CQ : Addr) : Prop := MakF P w K mg base 13 "Eye" CQ (spEye CQ) []
/-! ### letter.transposed -/
def spTrP (C CM CL CT : Addr) : Sp := fun vs H Q _ => ∃ (b : Addr) (n x y s : Str) (q : Rat), vs = [.ref b] ∧ LtAt C CM CL H b n x y s q ∧ n.length ≤ 100 ∧ ∀ c d us H', Same H H' → H' c = some (.ins CT d (fN.zip us)) → us[0]? = some (.str "transposed") → Q (.ref c) H'
theorem sc_Formula_transposed : FnScope ["self"] ["self"] (defScope s_Formula_transposed) := ⟨rfl, rfl, rfl, by decide +kernel, rfl, by decide +kernel, by decide +kernel⟩
theorem ok_trp {f : Addr} {fd : FuncData} (F : Fun K "transposed" "Formula.transposed" s_Formula_transposed f fd) (m_tr : TrC P w K mg base C CM CL CT) : FnOk P w K mg base CX0 15 f fd ["self"] (spTrP C CM CL CT) := by
  refine F.ok sc_Formula_transposed (fun vs H Q E h => ?_) (fun cdv A outer s H vs Q E hr h => ?_)
  · obtain ⟨b, n, x, y, s, q, rfl, _⟩ := h
    rfl
  · obtain ⟨b, n, x, y, sm, q, rfl, hb, ln, k⟩ := h
    refine ⟨_, (pss_one (ps_ret (pe_mkf m_tr hr (by decide) rfl (pa_cons (pv 0) pa_nil)))), ?_⟩
    refine ⟨_, rfl, fun c d hc hd hne => ?_⟩
    have s1 : Same H (upd (upd H d (.own c)) c (.ins CT d [])) := MG.Same.new (MG.Same.new (Same.refl H) hd) (by rw [upd_ne (fun e => hne e.symm)]; exact hc)
    exact ⟨c, d, b, n, x, y, sm, q, rfl, upd_same, hb.same s1, ln, fun H' us bt e e0 => ⟨rfl, k c d us H' (made_same (C := CT) hc hd bt) e e0⟩⟩
abbrev TrPC (P : Program) (w : World) (K : PySem.W.Frag) (mg : Str → Option Value) (base : Heap) (C CM CL CT : Addr) : Prop := PropF P w K mg base 15 CL "transposed" (spTrP C CM CL CT)
end
end Lw

namespace Lw
open PySem PySem.Spec PyProof.Rows L2 MG
/-! ### texts built sign by sign -/
theorem sl_add {x y : Str} : sl (x ++ y) = sl x ++ sl y := by
  show (Str.append x y).cps.toList = _
  exact Array.toList_append
theorem sl_one (c : Nat) : sl ⟨#[c]⟩ = [c] := rfl
/-- the sign of a text at a place, and what all of them are -/
theorem at_all {z : Str} {p : Nat → Bool} (hp : (sl z).all p = true) {i : Int} (h0 : 0 ≤ i) (h : i < z.length) : ∃ c, atI z.cps.toList i = some c ∧ p c = true := by
  obtain ⟨j, rfl⟩ := Int.eq_ofNat_of_zero_le h0
  have hj : j < (sl z).length := by rw [← len_sl]; omega
  refine ⟨(sl z)[j], ?_, List.all_eq_true.mp hp _ (List.getElem_mem hj)⟩
  exact atI_nat (List.getElem?_eq_getElem hj)
def LblP (i : Nat) (z : Str) : Prop := ∃ c r, sl z = c :: r ∧ isUp c = true ∧ r.length = i ∧ (r.all fun d => isLo d || isDg d) = true
def WrdP (i : Nat) (z : Str) : Prop := (sl z).length = i + 1 ∧ (sl z).all isLo = true
theorem LblP.add {i d : Nat} {z : Str} (h : LblP i z) (hd : (isLo d || isDg d) = true) : LblP (i + 1) (z ++ ⟨#[d]⟩) := by
  obtain ⟨c, r, e, hc, hl, hr⟩ := h
  refine ⟨c, r ++ [d], by rw [sl_add, sl_one, e]; rfl, hc, by rw [List.length_append, hl]; rfl, ?_⟩
  rw [List.all_append, hr]
  simpa using hd
theorem WrdP.add {i d : Nat} {z : Str} (h : WrdP i z) (hd : isLo d = true) : WrdP (i + 1) (z ++ ⟨#[d]⟩) := by
  unfold WrdP
  rw [sl_add, sl_one, List.length_append, h.1, List.all_append, h.2]
  exact ⟨rfl, by simpa using hd⟩
theorem LblP.len {i : Nat} {z : Str} (h : LblP i z) : z.length = i + 1 := by
  obtain ⟨c, r, e, _, hl, _⟩ := h
  rw [len_sl, e, List.length_cons, hl]
theorem WrdP.len {i : Nat} {z : Str} (h : WrdP i z) : z.length = i + 1 := by rw [len_sl]; exact h.1
theorem LblP.lbl {i : Nat} {z : Str} (h : LblP i z) (hi : i ≤ 5) : lblB z = true := by
  obtain ⟨c, r, e, hc, hl, hr⟩ := h
  unfold lblB lblL
  rw [e]
  show (isUp c && (decide (r.length ≤ 5) && r.all fun d => isLo d || isDg d)) = true
  rw [hc, hr, decide_eq_true (by omega)]
  rfl
theorem WrdP.span {i : Nat} {z : Str} (h : WrdP i z) (hi : i ≤ 5) : spanB z = true := by
  unfold spanB
  rw [h.2, len_sl, h.1, decide_eq_true (by omega)]
  rfl
section
variable {P : Program} {w : World} {K : PySem.W.Frag} {mg : Str → Option Value} {base : Heap} {C CM CL CT CQ CF CY aS aL f cda cc : Addr} {fd : FuncData} {tk t1 t2 t3 : Tok} {H H' : Hp}
/-! ### _law_label, _law_word -/
def spLabel : Sp := fun vs H Q _ => ∃ (q : Addr) (n : Nat), vs = [.ref q] ∧ QAt H q n ∧ n + 8 ≤ 100000 ∧ ∀ z H', lblB z = true → Keep q H H' → QAt H' q (n + 8) → Q (.str z) H'
theorem sc__law_label : FnScope ["_law_q", "_law_small", "_law_label_here", "_law_turn"] ["_law_q"] (defScope s__law_label) := ⟨rfl, rfl, rfl, by decide +kernel, rfl, by decide +kernel, by decide +kernel⟩
theorem ok_label {f : Addr} {fd : FuncData} (F : Fun K "_law_label" "_law_label" s__law_label f fd) (T : Blt mg) (c_draw : DrawC P w K mg base) : FnG P w K mg base CX0 4 f fd ["_law_q"] spLabel := by
  refine fun_okG F sc__law_label (fun vs H Q E h => ?_) (fun cdv A outer s H vs Q E bare hr h => ?_)
  · obtain ⟨q, n, rfl, _⟩ := h
    rfl
  · obtain ⟨q, n, rfl, hq, hn, k⟩ := h
    refine ⟨_, (pss_cons (ps_set (i := 1) sc__law_label.nd rfl (Or.inl rfl) pe_str)
  (pss_cons (ps_set (i := 2) sc__law_label.nd rfl (Or.inl rfl) (pe_ix ix_str pe_str (pe_cg c_draw bare hr (by decide) rfl (pa_cons (pv 0) (pa_cons pe_int pa_nil))) (fun _ _ => rfl)))
  (pss_cons (ps_for PassesOwn.never rfl (pi_range1 (by rfl) T.b_range (pa_cons (pe_cg c_draw bare hr (by decide) rfl (pa_cons (pv 0) (pa_cons pe_int pa_nil))) pa_nil)) (pg_name (i := 3) sc__law_label.nd rfl (Or.inl rfl))
  (pss_one (ps_set (i := 2) sc__law_label.nd rfl (Or.inl rfl) (pe_op op_add_str (pv 2) (pe_ix ix_str (pv 1) (pe_cg c_draw bare hr (by decide) rfl (pa_cons (pv 0) (pa_cons pe_int pa_nil))) (fun _ _ => rfl))))))
  (pss_one (ps_ret (pv 2)))))), ?_⟩
    have gr : ((sl (Str.ofString "ABCDEFGHIJKLMNOPQRSTUVWXYZ")).all isUp) = true := by decide +kernel
    have lgr : (Str.ofString "ABCDEFGHIJKLMNOPQRSTUVWXYZ").length = 26 := by decide +kernel
    have sm : ((sl (Str.ofString "abcdefghijklmnopqrstuvwxyz0123456789")).all fun d => isLo d || isDg d) = true := by decide +kernel
    have lsm : (Str.ofString "abcdefghijklmnopqrstuvwxyz0123456789").length = 36 := by decide +kernel
    refine ⟨_, rfl, q, 26, n, rfl, hq, by omega, by decide, by decide, fun a H1 a0 a1 k1 q1 => ?_⟩
    obtain ⟨c, hc, pc⟩ := at_all gr a0 (by rw [lgr]; exact a1)
    refine ⟨_, _, c, rfl, rfl, by rw [lgr]; decide, hc, ?_⟩
    refine ⟨_, rfl, q, 6, n + 1, rfl, q1, by omega, by decide, by decide, fun b H2 b0 b1 k2 q2 => ?_⟩
    obtain ⟨m, rfl⟩ := Int.eq_ofNat_of_zero_le b0
    refine ⟨(m : Int), rfl, by omega, by omega, ?_⟩
    have qb : ∀ {G : Hp} {i : Nat}, i < m → QAt G q (n + 2 + i) → QAt G q (n + 2 + i) ∧ n + 2 + i + 1 ≤ 100000 := fun hi h => ⟨h, by omega⟩
    refine for_range (lo := 0) (n := m) (fun i σ G => ∃ z v, σ = [some (.ref q), some (.str "abcdefghijklmnopqrstuvwxyz0123456789"), some (.str z), v] ∧ LblP i z ∧ Keep q H G ∧ QAt G q (n + 2 + i)) ⟨_, _, rfl, ⟨c, [], rfl, pc, rfl, rfl⟩, k1.trans k2, q2⟩ ?_ ?_
    · rintro i σ G hi ⟨z, v, rfl, hz, kk, qk⟩
      have lz := LblP.len hz
      refine ⟨_, rfl, _, rfl, _, rfl, q, 36, n + 2 + i, rfl, qk, by omega, by decide, by decide, fun d G1 d0 d1 k3 q3 => ?_⟩
      obtain ⟨e, he, pe⟩ := at_all sm d0 (by rw [lsm]; exact d1)
      refine ⟨_, _, e, rfl, rfl, by rw [lsm]; decide, he, ?_⟩
      refine ⟨_, _, rfl, rfl, ?_, _, _, rfl, LblP.add hz pe, kk.trans k3, q3⟩
      exact Nat.le_trans (m := 100) (by have : (⟨#[e]⟩ : Str).length = 1 := rfl; omega) (by decide)
    · rintro σ G ⟨z, v, rfl, hz, kk, qk⟩
      exact ⟨_, rfl, k z G (LblP.lbl hz (by omega)) kk (QAt.le qk (by omega))⟩
abbrev LabelC (P : Program) (w : World) (K : PySem.W.Frag) (mg : Str → Option Value) (base : Heap) : Prop := CalG P w K mg base 4 "_law_label" spLabel []
def spWord : Sp := fun vs H Q _ => ∃ (q : Addr) (n : Nat), vs = [.ref q] ∧ QAt H q n ∧ n + 8 ≤ 100000 ∧ ∀ z H', spanB z = true → Keep q H H' → QAt H' q (n + 8) → Q (.str z) H'
theorem sc__law_word : FnScope ["_law_q", "_law_small", "_law_word_here", "_law_turn"] ["_law_q"] (defScope s__law_word) := ⟨rfl, rfl, rfl, by decide +kernel, rfl, by decide +kernel, by decide +kernel⟩
theorem ok_word {f : Addr} {fd : FuncData} (F : Fun K "_law_word" "_law_word" s__law_word f fd) (T : Blt mg) (c_draw : DrawC P w K mg base) : FnG P w K mg base CX0 4 f fd ["_law_q"] spWord := by
  refine fun_okG F sc__law_word (fun vs H Q E h => ?_) (fun cdv A outer s H vs Q E bare hr h => ?_)
  · obtain ⟨q, n, rfl, _⟩ := h
    rfl
  · obtain ⟨q, n, rfl, hq, hn, k⟩ := h
    refine ⟨_, (pss_cons (ps_set (i := 1) sc__law_word.nd rfl (Or.inl rfl) pe_str)
  (pss_cons (ps_set (i := 2) sc__law_word.nd rfl (Or.inl rfl) (pe_ix ix_str (pv 1) (pe_cg c_draw bare hr (by decide) rfl (pa_cons (pv 0) (pa_cons pe_int pa_nil))) (fun _ _ => rfl)))
  (pss_cons (ps_for PassesOwn.never rfl (pi_range1 (by rfl) T.b_range (pa_cons (pe_cg c_draw bare hr (by decide) rfl (pa_cons (pv 0) (pa_cons pe_int pa_nil))) pa_nil)) (pg_name (i := 3) sc__law_word.nd rfl (Or.inl rfl))
  (pss_one (ps_set (i := 2) sc__law_word.nd rfl (Or.inl rfl) (pe_op op_add_str (pv 2) (pe_ix ix_str (pv 1) (pe_cg c_draw bare hr (by decide) rfl (pa_cons (pv 0) (pa_cons pe_int pa_nil))) (fun _ _ => rfl))))))
  (pss_one (ps_ret (pv 2)))))), ?_⟩
    have sm : ((sl (Str.ofString "abcdefghijklmnopqrstuvwxyz")).all isLo) = true := by decide +kernel
    have lsm : (Str.ofString "abcdefghijklmnopqrstuvwxyz").length = 26 := by decide +kernel
    refine ⟨_, rfl, _, rfl, q, 26, n, rfl, hq, by omega, by decide, by decide, fun a H1 a0 a1 k1 q1 => ?_⟩
    obtain ⟨c, hc, pc⟩ := at_all sm a0 (by rw [lsm]; exact a1)
    refine ⟨_, _, c, rfl, rfl, by rw [lsm]; decide, hc, ?_⟩
    refine ⟨_, rfl, q, 6, n + 1, rfl, q1, by omega, by decide, by decide, fun b H2 b0 b1 k2 q2 => ?_⟩
    obtain ⟨m, rfl⟩ := Int.eq_ofNat_of_zero_le b0
    refine ⟨(m : Int), rfl, by omega, by omega, ?_⟩
    have qb : ∀ {G : Hp} {i : Nat}, i < m → QAt G q (n + 2 + i) → QAt G q (n + 2 + i) ∧ n + 2 + i + 1 ≤ 100000 := fun hi h => ⟨h, by omega⟩
    refine for_range (lo := 0) (n := m) (fun i σ G => ∃ z v, σ = [some (.ref q), some (.str "abcdefghijklmnopqrstuvwxyz"), some (.str z), v] ∧ WrdP i z ∧ Keep q H G ∧ QAt G q (n + 2 + i)) ⟨_, _, rfl, ⟨rfl, by rw [sl_one]; simpa using pc⟩, k1.trans k2, q2⟩ ?_ ?_
    · rintro i σ G hi ⟨z, v, rfl, hz, kk, qk⟩
      have lz := WrdP.len hz
      refine ⟨_, rfl, _, rfl, _, rfl, q, 26, n + 2 + i, rfl, qk, by omega, by decide, by decide, fun d G1 d0 d1 k3 q3 => ?_⟩
      obtain ⟨e, he, pe⟩ := at_all sm d0 (by rw [lsm]; exact d1)
      refine ⟨_, _, e, rfl, rfl, by rw [lsm]; decide, he, ?_⟩
      refine ⟨_, _, rfl, rfl, ?_, _, _, rfl, WrdP.add hz pe, kk.trans k3, q3⟩
      exact Nat.le_trans (m := 100) (by have : (⟨#[e]⟩ : Str).length = 1 := rfl; omega) (by decide)
    · rintro σ G ⟨z, v, rfl, hz, kk, qk⟩
      exact ⟨_, rfl, k z G (WrdP.span hz (by omega)) kk (QAt.le qk (by omega))⟩
abbrev WordC (P : Program) (w : World) (K : PySem.W.Frag) (mg : Str → Option Value) (base : Heap) : Prop := CalG P w K mg base 4 "_law_word" spWord []
/-! ### _law_facts -/
/-- five facts in a tuple -/
structure FAt (H : Hp) (p : Addr) (n x y s : Str) (r : Rat) : Prop where
  ex : ∃ pp, H p = some (.tup [.str n, .str x, .str y, .str s, .ref pp]) ∧ H pp = some (.tup [.int r.num, .int r.den])
  ok : FactOk n x y s r
theorem FAt.keep {p q : Addr} {n x y s : Str} {r : Rat} {m : Nat} (h : FAt H p n x y s r) (hq : QAt H q m) (k : Keep q H H') : FAt H' p n x y s r := by
  obtain ⟨pp, e1, e2⟩ := h.ex
  obtain ⟨c, ns, i, r, t, e, _⟩ := hq.ex
  exact ⟨⟨pp, k.all _ _ e1 (ne_of e1 e nofun), k.all _ _ e2 (ne_of e2 e nofun)⟩, h.ok⟩
def spFacts : Sp := fun vs H Q _ => ∃ (q : Addr) (n : Nat), vs = [.ref q] ∧ QAt H q n ∧ n + 40 ≤ 100000 ∧ ∀ (p : Addr) (nm x y s : Str) (r : Rat) (H' : Hp), Keep q H H' → QAt H' q (n + 40) → FAt H' p nm x y s r → Bd r 44 → Q (.ref p) H'
theorem sl_head {z : Str} {k : Nat} : sl (cutS z none (some (k : Int))) = (sl z).take k := by
  rw [sl_cut, HT.sIx_nat]
  show ((sl z).drop 0).take (min k z.length - 0) = _
  rw [List.drop_zero, Nat.sub_zero, len_sl]
  exact List.take_eq_take_iff.mpr (by omega)
theorem span_parts {z : Str} (h : spanB z = true) : (sl z).all isLo = true ∧ 1 ≤ z.length ∧ z.length ≤ 6 := by
  unfold spanB at h
  have h' := Bool.and_eq_true_iff.mp h
  exact ⟨h'.2, of_decide_eq_true h'.1⟩
theorem span_mk {z : Str} (h : (sl z).all isLo = true) (h1 : 1 ≤ z.length) (h2 : z.length ≤ 6) : spanB z = true := by
  unfold spanB
  rw [h, decide_eq_true ⟨h1, h2⟩]
  rfl
theorem span_cut {z : Str} (h : (sl z).all isLo = true) (h1 : 1 ≤ z.length) : spanB (cutS z none (some 6)) = true := by
  have e : sl (cutS z none (some 6)) = (sl z).take 6 := sl_head (k := 6)
  have hl : (cutS z none (some 6)).length = min 6 z.length := by rw [len_sl, e, List.length_take, len_sl]
  refine span_mk ?_ (by omega) (by omega)
  rw [e]
  exact List.all_eq_true.mpr fun c hc => List.all_eq_true.mp h c (List.mem_of_mem_take hc)
theorem at_three {a : Int} (a0 : 0 ≤ a) (a1 : a < 3) : ∃ s : Str, atI [V.str "plain", .str "symmetric", .str "skew"] a = some (.str s) ∧ (s = plainS ∨ s = symmS ∨ s = skewS) := by
  have cs : a = 0 ∨ a = 1 ∨ a = 2 := by omega
  rcases cs with rfl | rfl | rfl
  · exact ⟨plainS, rfl, .inl rfl⟩
  · exact ⟨symmS, rfl, .inr (.inl rfl)⟩
  · exact ⟨skewS, rfl, .inr (.inr rfl)⟩
theorem div_one {i : Int} : (Rat.divInt i 1).num = i ∧ (Rat.divInt i 1).den = 1 := by
  constructor
  · first
    | (show (Rat.normalize i 1).num = i; rw [Rat.normalize_eq]; simp)
    | (unfold Rat.divInt; simp [Rat.mkRat, Rat.normalize])
  · first
    | (show (Rat.normalize i 1).den = 1; rw [Rat.normalize_eq]; simp)
    | (unfold Rat.divInt; simp [Rat.mkRat, Rat.normalize])
theorem sm_44 {i : Int} (h0 : -(10 ^ 44) < i) (h1 : i < 10 ^ 44) : Sm i := by
  unfold Sm
  omega
theorem sc__law_facts : FnScope ["_law_q", "_law_one", "_law_two", "_law_shape", "_law_pair"] ["_law_q"] (defScope s__law_facts) := ⟨rfl, rfl, rfl, by decide +kernel, rfl, by decide +kernel, by decide +kernel⟩
theorem ok_facts {f : Addr} {fd : FuncData} (F : Fun K "_law_facts" "_law_facts" s__law_facts f fd) (T : Blt mg) (c_draw : DrawC P w K mg base) (c_word : WordC P w K mg base) (c_label : LabelC P w K mg base) (c_great : GreatC P w K mg base) (c_lowest : CalG P w K mg base 4 "_law_lowest" spLowest []) : FnG P w K mg base CX0 6 f fd ["_law_q"] spFacts := by
  refine fun_okG F sc__law_facts (fun vs H Q E h => ?_) (fun cdv A outer s H vs Q E bare hr h => ?_)
  · obtain ⟨q, n, rfl, _⟩ := h
    rfl
  · obtain ⟨q, n, rfl, hq, hn, k⟩ := h
    refine ⟨_, (pss_cons (ps_set (i := 1) sc__law_facts.nd rfl (Or.inl rfl) (pe_cg c_word bare hr (by decide) rfl (pa_cons (pv 0) pa_nil)))
  (pss_cons (ps_set (i := 2) sc__law_facts.nd rfl (Or.inl rfl) (pe_slice sl_str (pe_ix (ix_listK (K := K)) (pe_lst (pa_cons (pv 1) (pa_cons (pe_cg c_word bare hr (by decide) rfl (pa_cons (pv 0) pa_nil)) (pa_cons (pe_op op_add_str (pv 1) pe_str) (pa_cons (pe_op op_add_str pe_str (pv 1)) pa_nil))))) (pe_cg c_draw bare hr (by decide) rfl (pa_cons (pv 0) (pa_cons pe_int pa_nil))) (fun _ _ => rfl)) po_none (po_some pe_int)))
  (pss_cons (ps_set (i := 3) sc__law_facts.nd rfl (Or.inl rfl) (pe_cut (pe_ifExp (pt_cmpR op_eq (pv 1) (pv 2) (nomark _)) (pe_ix (ix_listK (K := K)) (pe_lst (pa_cons pe_str (pa_cons pe_str (pa_cons pe_str pa_nil)))) (pe_cg c_draw bare hr (by decide) rfl (pa_cons (pv 0) (pa_cons pe_int pa_nil))) (fun _ _ => rfl)) pe_str)))
  (pss_cons (ps_set (i := 4) sc__law_facts.nd rfl (Or.inl rfl) (pe_cg c_lowest bare hr (by decide) rfl (pa_cons (pe_cg c_great bare hr (by decide) rfl (pa_cons (pv 0) pa_nil)) (pa_cons (pe_op op_add pe_int (pe_callB (id := "abs") call_abs (by rfl) T.b_abs (by decide +kernel) (pa_cons (pe_cg c_great bare hr (by decide) rfl (pa_cons (pv 0) pa_nil)) pa_nil))) pa_nil))))
  (pss_cons (ps_cut (ps_if (pt_cmpR op_eq (pe_cg c_draw bare hr (by decide) rfl (pa_cons (pv 0) (pa_cons pe_int pa_nil))) pe_int (nomark _)) (pss_one (ps_set (i := 4) sc__law_facts.nd rfl (Or.inl rfl) (pe_tup (pa_cons (pe_ix (ix_tupK (K := K)) (pv 4) pe_int (fun _ _ => rfl)) (pa_cons pe_int pa_nil)))))
  pss_nil))
  (pss_one (ps_ret (pe_tup (pa_cons (pe_cg c_label bare hr (by decide) rfl (pa_cons (pv 0) pa_nil)) (pa_cons (pv 1) (pa_cons (pv 2) (pa_cons (pv 3) (pa_cons (pe_cut (pe_ifExp (PW.pt (pw_and (pt_cmpR op_eq (pv 1) (pv 2) (nomark _)) (pw_and1 (pt_cmpR op_ne (pv 3) pe_str (nomark _))))) (pv 4) (pe_tup (pa_cons pe_int (pa_cons pe_int pa_nil))))) pa_nil))))))))))))), ?_⟩
    refine ⟨_, rfl, q, n, rfl, hq, by omega, fun one H1 h1 k1 q1 => ?_⟩
    have l1 := span_len h1
    refine ⟨_, rfl, _, rfl, q, n + 8, rfl, q1, by omega, fun wd H2 h2 k2 q2 => ?_⟩
    refine ⟨_, rfl, _, _, rfl, rfl, Nat.le_trans (m := 100) (by have : (("a" : Str)).length = 1 := rfl; omega) (by decide), _, rfl, _, _, rfl, rfl, Nat.le_trans (m := 100) (by have : (("a" : Str)).length = 1 := rfl; omega) (by decide), (show 4 ≤ sizeLine by decide), fun l hl => ?_⟩
    refine ⟨_, rfl, q, 4, n + 16, rfl, q2.new hl, by omega, by decide, by decide, fun a H3 a0 a1 k3 q3 => ?_⟩
    have el := k3 _ _ upd_same (q2.ne hl)
    obtain ⟨tw, etw, htw, ltw, mtw⟩ : ∃ tw : Str, atI [V.str one, .str wd, .str (one ++ "a"), .str ("a" ++ one)] a = some (.str tw) ∧ (sl tw).all isLo = true ∧ 1 ≤ tw.length ∧ tw.length ≤ 7 := by
      obtain ⟨a1', b1', c1'⟩ := span_parts h1
      obtain ⟨a2', b2', c2'⟩ := span_parts h2
      have sa : sl ("a" : Str) = [97] := by decide +kernel
      have la : (("a" : Str)).length = 1 := rfl
      have cs : a = 0 ∨ a = 1 ∨ a = 2 ∨ a = 3 := by omega
      rcases cs with rfl | rfl | rfl | rfl
      · exact ⟨one, rfl, a1', b1', by omega⟩
      · exact ⟨wd, rfl, a2', b2', by omega⟩
      · refine ⟨_, rfl, ?_, by rw [strLen_append]; omega, by rw [strLen_append]; omega⟩
        rw [sl_add, List.all_append, a1', sa]
        rfl
      · refine ⟨_, rfl, ?_, by rw [strLen_append]; omega, by rw [strLen_append]; omega⟩
        rw [sl_add, List.all_append, a1', sa]
        rfl
    have h2t := span_cut htw ltw
    have kA := (k1.trans k2).trans ((Keep.refl.new hl).trans k3)
    refine ⟨l, _, _, _, rfl, rfl, SqL.of el, etw, ?_⟩
    clear k1 k2 k3 q1 q2 hl el etw a0 a1
    refine ⟨6, rfl, tw, rfl, Nat.le_trans mtw (by decide), ?_⟩
    generalize cutS tw none (some 6) = two at h2t ⊢
    clear htw ltw mtw
    -- shape
    refine ⟨fun v G => ∃ s : Str, v = .str s ∧ (s = plainS ∨ s = symmS ∨ s = skewS) ∧ (s ≠ plainS → one = two) ∧ Keep q H G ∧ QAt G q (n + 18), ?_, ?_⟩
    · refine ⟨_, rfl, _, rfl, rfl, _, rfl, ite2 (fun z => ?_) (fun _ => ?_)⟩
      · refine ⟨(show 3 ≤ sizeLine by decide), fun l2 hl2 => ?_⟩
        refine ⟨_, rfl, q, 3, n + 17, rfl, q3.new hl2, by omega, by decide, by decide, fun a H4 a0 a1 k4 q4 => ?_⟩
        obtain ⟨s, es, hs⟩ := at_three a0 a1
        exact ⟨l2, _, _, _, rfl, rfl, SqL.of (k4 _ _ upd_same (q3.ne hl2)), es, s, rfl, hs, fun _ => V.str.inj (of_decide_eq_true z), kA.trans ((Keep.refl.new hl2).trans k4), QAt.le q4 (by omega)⟩
      · exact ⟨plainS, rfl, .inl rfl, fun z => absurd rfl z, kA, QAt.le q3 (by omega)⟩
    rintro _ H4 ⟨s, rfl, hs, hsx, k4, q4⟩
    clear kA q3
    -- pair
    refine ⟨_, rfl, q, n + 18, rfl, q4, by omega, fun z1 H5 z10 z11 k5 q5 => ?_⟩
    refine ⟨_, rfl, q, n + 21, rfl, q5, by omega, fun z2 H6 z20 z21 k6 q6 => ?_⟩
    refine ⟨z2, rfl, 1, _, rfl, rfl, z1, 1 + (if z2 < 0 then -z2 else z2), rfl, ?_, ?_, fun pp hpp => ?_⟩
    · split <;> omega
    · refine sm_44 ?_ ?_
      · split <;> omega
      · split <;> omega
    have bd : Bd (Rat.divInt z1 (1 + (if z2 < 0 then -z2 else z2))) 44 := by
      refine bd_div ?_ (by omega) ?_
      · split <;> omega
      · split <;> omega
    generalize Rat.divInt z1 (1 + (if z2 < 0 then -z2 else z2)) = r at bd ⊢
    have k7 := (((k4.trans k5).trans k6)).new (o := .tup [.int r.num, .int r.den]) hpp
    have q7 := q6.new (o := .tup [.int r.num, .int r.den]) hpp
    have ep : upd H6 pp (.tup [.int r.num, .int r.den]) pp = some (.tup [.int r.num, .int r.den]) := upd_same
    generalize upd H6 pp (.tup [.int r.num, .int r.den]) = H7 at k7 q7 ep ⊢
    clear k4 k5 k6 q4 q5 q6 hpp z10 z11 z20 z21
    -- if draw(q, 2) == 0
    refine ⟨fun σ G => ∃ p2 r2, σ = [some (.ref q), some (.str one), some (.str two), some (.str s), some (.ref p2)] ∧ G p2 = some (.tup [.int (Rat.num r2), .int (Rat.den r2)]) ∧ Bd r2 44 ∧ Keep q H G ∧ QAt G q (n + 25), ?_, ?_⟩
    · refine ⟨_, rfl, q, 2, n + 24, rfl, q7, by omega, by decide, by decide, fun a G a0 a1 k8 q8 => ?_⟩
      obtain ⟨cq, _, _, _, _, eqq, _⟩ := q7.ex
      have ep8 := k8.all _ _ ep (ne_of ep eqq nofun)
      refine ⟨rfl, _, rfl, ite2 (fun _ => ?_) (fun _ => ?_)⟩
      · refine ⟨_, rfl, pp, _, _, _, rfl, rfl, SqT.of ep8, rfl, (show 2 ≤ sizeLine by decide), fun p3 h3 => ?_⟩
        have n1 : (Rat.divInt r.num 1).num = r.num ∧ (Rat.divInt r.num 1).den = 1 := div_one
        refine ⟨p3, Rat.divInt r.num 1, rfl, ?_, bd_div (by decide) bd.1 (by decide), (k7.trans k8).new h3, q8.new h3⟩
        rw [n1.1, n1.2]
        exact upd_same
      · exact ⟨pp, r, rfl, ep8, bd, k7.trans k8, q8⟩
    rintro _ H8 ⟨p2, r2, rfl, ep2, bd2, k8, q8⟩
    clear ep bd k7 q7
    -- the tuple
    refine ⟨_, rfl, q, n + 25, rfl, q8, by omega, fun nm H9 hnm k9 q9 => ?_⟩
    obtain ⟨cq, _, _, _, _, eqq, _⟩ := q8.ex
    have ep9 := k9.all _ _ ep2 (ne_of ep2 eqq nofun)
    have kk := k8.trans k9
    refine ⟨_, rfl, _, rfl, _, rfl, ?_⟩
    refine ⟨fun v G => ∃ p3 r3, v = .ref p3 ∧ G p3 = some (.tup [.int (Rat.num r3), .int (Rat.den r3)]) ∧ Bd r3 44 ∧ (r3 ≠ 0 → one = two ∧ s ≠ skewS) ∧ Keep q H G ∧ QAt G q (n + 33), ?_, ?_⟩
    · refine ⟨_, rfl, _, rfl, rfl, _, rfl, ite2 (fun z => ?_) (fun _ => ?_)⟩
      · refine ⟨_, rfl, rfl, _, rfl, ite2 (fun z' => ?_) (fun _ => ?_)⟩
        · exact ⟨_, rfl, p2, r2, rfl, ep9, bd2, fun _ => ⟨V.str.inj (of_decide_eq_true z), by
            intro e
            rw [e] at z'
            exact absurd z' (by decide +kernel)⟩, kk, q9⟩
        · exact ⟨(show 2 ≤ sizeLine by decide), fun p3 h3 => ⟨p3, 0, rfl, upd_same, by unfold Bd; decide, fun z => absurd rfl z, kk.new h3, q9.new h3⟩⟩
      · exact ⟨(show 2 ≤ sizeLine by decide), fun p3 h3 => ⟨p3, 0, rfl, upd_same, by unfold Bd; decide, fun z => absurd rfl z, kk.new h3, q9.new h3⟩⟩
    rintro _ H10 ⟨p3, r3, rfl, ep3, bd3, hr3, k10, q10⟩
    refine ⟨(show 5 ≤ sizeLine by decide), fun p hp => ?_⟩
    exact k p nm one two s r3 _ (k10.new hp) (QAt.le (q10.new hp) (by omega)) ⟨⟨p3, upd_same, by rw [upd_ne (ne_of_none ep3 hp)]; exact ep3⟩, ⟨hnm, h1, h2t, hs, hsx, hr3⟩⟩ bd3
abbrev FactsC (P : Program) (w : World) (K : PySem.W.Frag) (mg : Str → Option Value) (base : Heap) : Prop := CalG P w K mg base 6 "_law_facts" spFacts []
end
end Lw

namespace Lw
open PySem PySem.Spec PyProof.Rows L2 MG
/-! ### one more, one less, in lowest terms -/
theorem cop_add {r : Rat} : (r.num + (r.den : Int)).natAbs.Coprime r.den := by
  have h : Int.gcd (r.num + (r.den : Int)) (r.den : Int) = Int.gcd r.num (r.den : Int) := Int.gcd_add_self_left _ _
  have h2 : Int.gcd r.num (r.den : Int) = 1 := r.reduced
  exact h.trans h2
theorem cop_sub {r : Rat} : (r.num - (r.den : Int)).natAbs.Coprime r.den := by
  have h : Int.gcd (r.num - (r.den : Int)) (r.den : Int) = Int.gcd r.num (r.den : Int) := Int.gcd_sub_self_left _ _
  have h2 : Int.gcd r.num (r.den : Int) = 1 := r.reduced
  exact h.trans h2
def nextQ (r : Rat) : Rat := if r.num > 0 then ⟨r.num - r.den, r.den, r.den_nz, cop_sub⟩ else ⟨r.num + r.den, r.den, r.den_nz, cop_add⟩
theorem nextQ_num {r : Rat} : (nextQ r).num = if r.num > 0 then r.num - r.den else r.num + r.den := by
  unfold nextQ
  split <;> rfl
theorem nextQ_den {r : Rat} : (nextQ r).den = r.den := by
  unfold nextQ
  split <;> rfl
theorem nextQ_bd {r : Rat} (h : Bd r 44) : Bd (nextQ r) 45 := by
  obtain ⟨h1, h2⟩ := h
  have e : (10 : Nat) ^ 45 = 10 * 10 ^ 44 := by decide
  refine ⟨?_, by rw [nextQ_den, e]; omega⟩
  rw [nextQ_num, e]
  split <;> omega
section
variable {P : Program} {w : World} {K : PySem.W.Frag} {mg : Str → Option Value} {base : Heap} {C CM CL CT CQ CF CY aS aL f cda cc : Addr} {fd : FuncData} {tk t1 t2 t3 : Tok} {H H' : Hp}
theorem lbl_bent {z : Str} (h : lblB z = true) : lblB (cutS z none (some 5) ++ "q") = true := by
  have e : sl (cutS z none (some 5)) = (sl z).take 5 := sl_head (k := 5)
  have eq : sl ("q" : Str) = [113] := by decide +kernel
  unfold lblB at h ⊢
  rw [sl_add, e, eq]
  cases hz : sl z with
  | nil => rw [hz] at h; cases h
  | cons c r =>
    rw [hz] at h
    have h' : (isUp c && (decide (r.length ≤ 5) && r.all fun d => isLo d || isDg d)) = true := h
    rw [Bool.and_eq_true, Bool.and_eq_true] at h'
    obtain ⟨hc, hl, hr⟩ := h'
    show (isUp c && (decide ((r.take 4 ++ [113]).length ≤ 5) && (r.take 4 ++ [113]).all fun d => isLo d || isDg d)) = true
    rw [hc, Bool.true_and, Bool.and_eq_true]
    refine ⟨decide_eq_true ?_, ?_⟩
    · rw [List.length_append, List.length_take]
      simp only [List.length_cons, List.length_nil]
      omega
    · rw [List.all_append, Bool.and_eq_true]
      exact ⟨List.all_eq_true.mpr fun d hd => List.all_eq_true.mp hr d (List.mem_of_mem_take hd), by decide +kernel⟩
theorem span_bent {z : Str} (h : spanB z = true) : spanB (cutS z none (some 5) ++ "z") = true := by
  have e : sl (cutS z none (some 5)) = (sl z).take 5 := sl_head (k := 5)
  have eq : sl ("z" : Str) = [122] := by decide +kernel
  obtain ⟨h1, h2, h3⟩ := span_parts h
  have l : (cutS z none (some 5) ++ "z").length = min 5 z.length + 1 := by
    rw [len_sl, sl_add, e, eq, List.length_append, List.length_take, ← len_sl]
    rfl
  refine span_mk ?_ (by omega) (by omega)
  rw [sl_add, e, eq, List.all_append, Bool.and_eq_true]
  exact ⟨List.all_eq_true.mpr fun d hd => List.all_eq_true.mp h1 d (List.mem_of_mem_take hd), by decide +kernel⟩
/-! ### _law_bent -/
def spBent : Sp := fun vs H Q _ => ∃ (q p : Addr) (m : Nat) (n x y s : Str) (r : Rat), vs = [.ref q, .ref p] ∧ QAt H q m ∧ m + 1 ≤ 100000 ∧ FAt H p n x y s r ∧ Bd r 44 ∧
  ∀ (p' : Addr) (n' x' y' s' : Str) (r' : Rat) (H' : Hp), Keep q H H' → QAt H' q (m + 1) → FAt H' p' n' x' y' s' r' → Bd r' 45 → Q (.ref p') H'
theorem sc__law_bent : FnScope ["_law_q", "_law_facts_here", "_law_label_here", "_law_one", "_law_two", "_law_shape", "_law_pair", "_law_way"] ["_law_q", "_law_facts_here"] (defScope s__law_bent) := ⟨rfl, rfl, rfl, by decide +kernel, rfl, by decide +kernel, by decide +kernel⟩
theorem ok_bent {f : Addr} {fd : FuncData} (F : Fun K "_law_bent" "_law_bent" s__law_bent f fd) (T : Blt mg) (c_draw : DrawC P w K mg base) : FnG P w K mg base CX0 6 f fd ["_law_q", "_law_facts_here"] spBent := by
  refine fun_okG F sc__law_bent (fun vs H Q E h => ?_) (fun cdv A outer s H vs Q E bare hr h => ?_)
  · obtain ⟨q, p, m, n, x, y, s, r, rfl, _⟩ := h
    rfl
  · obtain ⟨q, p, m, n, x, y, sm, r, rfl, hq, hm, hp, bd, k⟩ := h
    refine ⟨_, (pss_cons (ps_asg (pv 1) (pg_tupK (K := K) (n := 5) rfl (pgs_cons (pg_name (i := 2) sc__law_bent.nd rfl (Or.inl rfl)) (pgs_cons (pg_name (i := 3) sc__law_bent.nd rfl (Or.inl rfl)) (pgs_cons (pg_name (i := 4) sc__law_bent.nd rfl (Or.inl rfl)) (pgs_cons (pg_name (i := 5) sc__law_bent.nd rfl (Or.inl rfl)) (pgs_cons (pg_name (i := 6) sc__law_bent.nd rfl (Or.inl rfl)) pgs_nil)))))))
  (pss_cons (ps_set (i := 7) sc__law_bent.nd rfl (Or.inl rfl) (pe_cg c_draw bare hr (by decide) rfl (pa_cons (pv 0) (pa_cons pe_int pa_nil))))
  (pss_cons (ps_if (pt_cmpR op_eq (pv 7) pe_int (nomark _)) (pss_one (ps_ret (pe_tup (pa_cons (pe_op op_add_str (pe_slice sl_str (pv 2) po_none (po_some pe_int)) pe_str) (pa_cons (pv 3) (pa_cons (pv 4) (pa_cons (pv 5) (pa_cons (pv 6) pa_nil))))))))
  pss_nil)
  (pss_cons (ps_cut (ps_if (PW.pt (pw_and (pt_cmpR op_eq (pv 7) pe_int (nomark _)) (pw_and1 (pt_cmpR op_ne (pv 3) (pv 4) (nomark _))))) (pss_one (ps_ret (pe_tup (pa_cons (pv 2) (pa_cons (pv 4) (pa_cons (pv 3) (pa_cons (pv 5) (pa_cons (pv 6) pa_nil))))))))
  pss_nil))
  (pss_cons (ps_if (pt_cmpR op_eq (pv 7) pe_int (nomark _)) (pss_one (ps_ret (pe_tup (pa_cons (pv 2) (pa_cons (pe_op op_add_str (pe_slice sl_str (pv 3) po_none (po_some pe_int)) pe_str) (pa_cons (pe_op op_add_str (pe_slice sl_str (pv 3) po_none (po_some pe_int)) pe_str) (pa_cons (pv 5) (pa_cons (pv 6) pa_nil))))))))
  pss_nil)
  (pss_cons (ps_cut (ps_if (PW.pt (pw_and (pt_cmpR op_eq (pv 7) pe_int (nomark _)) (pw_and1 (pt_cmpR op_eq (pv 3) (pv 4) (nomark _))))) (pss_one (ps_ret (pe_tup (pa_cons (pv 2) (pa_cons (pv 3) (pa_cons (pv 4) (pa_cons (pe_cut (pe_ifExp (pt_cmpR op_eq (pv 5) pe_str (nomark _)) pe_str pe_str)) (pa_cons (pv 6) pa_nil))))))))
  pss_nil))
  (pss_cons (ps_cut (ps_if (PW.pt (pw_and (pt_cmpR op_eq (pv 3) (pv 4) (nomark _)) (pw_and1 (pt_cmpR op_ne (pv 5) pe_str (nomark _))))) (pss_one (ps_ret (pe_tup (pa_cons (pv 2) (pa_cons (pv 3) (pa_cons (pv 4) (pa_cons (pv 5) (pa_cons (pe_tup (pa_cons (pe_cut (pe_ifExp (pt_cmpR op_gt (pe_ix (ix_tupK (K := K)) (pv 6) pe_int (fun _ _ => rfl)) pe_int (nomark _)) (pe_op op_sub (pe_ix (ix_tupK (K := K)) (pv 6) pe_int (fun _ _ => rfl)) (pe_ix (ix_tupK (K := K)) (pv 6) pe_int (fun _ _ => rfl))) (pe_op op_add (pe_ix (ix_tupK (K := K)) (pv 6) pe_int (fun _ _ => rfl)) (pe_ix (ix_tupK (K := K)) (pv 6) pe_int (fun _ _ => rfl))))) (pa_cons (pe_ix (ix_tupK (K := K)) (pv 6) pe_int (fun _ _ => rfl)) pa_nil))) pa_nil))))))))
  pss_nil))
  (pss_one (ps_ret (pv 1)))))))))), ?_⟩
    obtain ⟨pp, e1, e2⟩ := hp.ex
    obtain ⟨on, ox, oy, os, osx, oq⟩ := hp.ok
    have ln := lbl_len on
    have lx := span_len ox
    refine ⟨_, rfl, p, _, rfl, SqT.of e1, rfl, ?_⟩
    refine ⟨_, _, rfl, ⟨_, _, rfl, ⟨_, _, rfl, ⟨_, _, rfl, ⟨_, _, rfl, rfl, ?_⟩⟩⟩⟩⟩
    refine ⟨_, rfl, q, 5, m, rfl, hq, by omega, by decide, by decide, fun a H1 a0 a1 k1 q1 => ?_⟩
    obtain ⟨cq, _, _, _, _, eqq, _⟩ := hq.ex
    have g1 := k1.all _ _ e1 (ne_of e1 eqq nofun)
    have g2 := k1.all _ _ e2 (ne_of e2 eqq nofun)
    have bd5 : Bd r 45 := bd.mono (by decide)
    have fin : ∀ {n' x' y' s' : Str} {r' : Rat} {p2 : Addr} {H2 : Hp} {p' : Addr}, Keep q H H2 → QAt H2 q (m + 1) → H2 p2 = some (.tup [.int (Rat.num r'), .int (Rat.den r')]) → H2 p' = none → FactOk n' x' y' s' r' → Bd r' 45 → Q (.ref p') (upd H2 p' (.tup [.str n', .str x', .str y', .str s', .ref p2])) :=
      fun k2 q2 ep hn ok b => k _ _ _ _ _ _ _ (k2.new hn) (q2.new hn) ⟨⟨_, upd_same, by rw [upd_ne (ne_of_none ep hn)]; exact ep⟩, ok⟩ b
    have qw : ∀ {z u : Str}, z.length ≤ 6 → u.length = 1 → (cutS z none (some 5)).length + u.length ≤ sizeLine := fun {z u} hz hu => by
      have : (cutS z none (some 5)).length ≤ 6 := by
        have e : sl (cutS z none (some 5)) = (sl z).take 5 := sl_head (k := 5)
        rw [len_sl, e, List.length_take, ← len_sl]
        omega
      exact Nat.le_trans (m := 100) (by omega) (by decide)
    have k0 := k
    clear k e1 e2
    -- way 0
    refine ⟨_, rfl, rfl, _, rfl, ite2 (fun _ => ?_) (fun _ => ?_)⟩
    · refine ⟨_, rfl, 5, rfl, n, rfl, Nat.le_trans ln (by decide), _, _, rfl, rfl, qw ln rfl, _, rfl, _, rfl, _, rfl, _, rfl, (show 5 ≤ sizeLine by decide), fun p' hn => ?_⟩
      exact fin k1 q1 g2 hn ⟨lbl_bent on, ox, oy, os, osx, oq⟩ bd5
    -- way 1
    have cutP : L2.St := [some (.ref q), some (.ref p), some (.str n), some (.str x), some (.str y), some (.str sm), some (.ref pp), some (.int a)]
    clear cutP
    refine ⟨fun σ G => σ = [some (.ref q), some (.ref p), some (.str n), some (.str x), some (.str y), some (.str sm), some (.ref pp), some (.int a)] ∧ H1 = G, ?_, ?_⟩
    · refine ⟨_, rfl, rfl, _, rfl, ite2 (fun _ => ?_) (fun _ => ⟨rfl, rfl⟩)⟩
      refine ⟨_, rfl, _, rfl, rfl, _, rfl, ite2 (fun _ => ?_) (fun _ => ⟨rfl, rfl⟩)⟩
      refine ⟨_, rfl, _, rfl, _, rfl, _, rfl, _, rfl, (show 5 ≤ sizeLine by decide), fun p' hn => ?_⟩
      exact fin k1 q1 g2 hn ⟨on, oy, ox, os, fun h => (osx h).symm, fun h => ⟨(oq h).1.symm, (oq h).2⟩⟩ bd5
    rintro _ _ ⟨rfl, rfl⟩
    -- way 2
    refine ⟨_, rfl, rfl, _, rfl, ite2 (fun _ => ?_) (fun _ => ?_)⟩
    · refine ⟨_, rfl, _, rfl, 5, rfl, x, rfl, Nat.le_trans lx (by decide), _, _, rfl, rfl, qw lx rfl, _, rfl, 5, rfl, x, rfl, Nat.le_trans lx (by decide), _, _, rfl, rfl, qw lx rfl, _, rfl, _, rfl, (show 5 ≤ sizeLine by decide), fun p' hn => ?_⟩
      exact fin k1 q1 g2 hn ⟨on, span_bent ox, span_bent ox, os, fun _ => rfl, fun h => ⟨rfl, (oq h).2⟩⟩ bd5
    -- way 3
    refine ⟨fun σ G => σ = [some (.ref q), some (.ref p), some (.str n), some (.str x), some (.str y), some (.str sm), some (.ref pp), some (.int a)] ∧ H1 = G, ?_, ?_⟩
    · refine ⟨_, rfl, rfl, _, rfl, ite2 (fun _ => ?_) (fun _ => ⟨rfl, rfl⟩)⟩
      refine ⟨_, rfl, _, rfl, rfl, _, rfl, ite2 (fun z => ?_) (fun _ => ⟨rfl, rfl⟩)⟩
      have exy : x = y := V.str.inj (of_decide_eq_true z)
      refine ⟨_, rfl, _, rfl, _, rfl, ?_⟩
      refine ⟨fun v G => ∃ s', v = .str s' ∧ (s' = plainS ∨ s' = symmS ∨ s' = skewS) ∧ s' ≠ skewS ∧ H1 = G, ?_, ?_⟩
      · refine ⟨_, rfl, rfl, _, rfl, ite2 (fun _ => ?_) (fun _ => ?_)⟩
        · exact ⟨symmS, rfl, .inr (.inl rfl), by decide +kernel, rfl⟩
        · exact ⟨plainS, rfl, .inl rfl, by decide +kernel, rfl⟩
      rintro _ _ ⟨s', rfl, hs', ns', rfl⟩
      refine ⟨_, rfl, (show 5 ≤ sizeLine by decide), fun p' hn => ?_⟩
      exact fin k1 q1 g2 hn ⟨on, ox, oy, hs', fun _ => exy, fun h => ⟨exy, ns'⟩⟩ bd5
    rintro _ _ ⟨rfl, rfl⟩
    -- the number
    refine ⟨fun σ G => σ = [some (.ref q), some (.ref p), some (.str n), some (.str x), some (.str y), some (.str sm), some (.ref pp), some (.int a)] ∧ H1 = G, ?_, ?_⟩
    · refine ⟨_, rfl, _, rfl, rfl, _, rfl, ite2 (fun z => ?_) (fun _ => ⟨rfl, rfl⟩)⟩
      have exy : x = y := V.str.inj (of_decide_eq_true z)
      refine ⟨_, rfl, rfl, _, rfl, ite2 (fun z' => ?_) (fun _ => ⟨rfl, rfl⟩)⟩
      have nsk : sm ≠ skewS := by
        intro e
        rw [e] at z'
        exact absurd z' (by decide +kernel)
      refine ⟨_, rfl, _, rfl, _, rfl, _, rfl, ?_⟩
      refine ⟨fun v G => v = .int (nextQ r).num ∧ H1 = G, ?_, ?_⟩
      · rw [nextQ_num]
        refine ⟨_, rfl, pp, _, _, _, rfl, rfl, SqT.of g2, rfl, _, _, rfl, rfl, _, rfl, ?_⟩
        by_cases c : r.num > 0
        · rw [if_pos c]
          refine ifT (decide_eq_true (by omega)) ?_
          exact ⟨_, rfl, pp, _, _, _, rfl, rfl, SqT.of g2, rfl, _, rfl, pp, _, _, _, rfl, rfl, SqT.of g2, rfl, _, _, rfl, rfl, rfl, rfl⟩
        · rw [if_neg c]
          refine ifF (decide_eq_false (by omega)) ?_
          exact ⟨_, rfl, pp, _, _, _, rfl, rfl, SqT.of g2, rfl, _, rfl, pp, _, _, _, rfl, rfl, SqT.of g2, rfl, _, _, rfl, rfl, rfl, rfl⟩
      rintro _ _ ⟨rfl, rfl⟩
      refine ⟨_, rfl, pp, _, _, _, rfl, rfl, SqT.of g2, rfl, (show 2 ≤ sizeLine by decide), fun p2 h2 => ⟨(show 5 ≤ sizeLine by decide), fun p' hn => ?_⟩⟩
      have e3 : upd H1 p2 (.tup [.int (nextQ r).num, .int (r.den : Int)]) p2 = some (.tup [.int (nextQ r).num, .int ((nextQ r).den : Int)]) := by rw [nextQ_den]; exact upd_same
      exact fin (k1.new h2) (q1.new h2) e3 hn ⟨on, ox, oy, os, osx, fun _ => ⟨exy, nsk⟩⟩ (nextQ_bd bd)
    rintro _ _ ⟨rfl, rfl⟩
    exact ⟨_, rfl, k0 p n x y sm r H1 k1 q1 ⟨⟨pp, g1, g2⟩, hp.ok⟩ bd5⟩
abbrev BentC (P : Program) (w : World) (K : PySem.W.Frag) (mg : Str → Option Value) (base : Heap) : Prop := CalG P w K mg base 6 "_law_bent" spBent []
end
end Lw

namespace Lw
open PySem PySem.Spec PyProof.Rows L2 MG
theorem shp_two (a b : Int) : SeqAt.shaped (.tuple [.int a, .int b]) = true := by
  unfold SeqAt.shaped
  rw [Bool.and_eq_true]
  refine ⟨by simp [PyData.canLay0, PyData.canLayAll0], decide_eq_true ?_⟩
  have h3 : (PyData.tuple [.int a, .int b]).depth ≤ 2 := by simp [PyData.depth, PyData.depthAll]
  omega
theorem eqv_two (a b c d : Int) : PyData.eqv (.tuple [.int a, .int b]) (.tuple [.int c, .int d]) = (decide (a = c) && decide (b = d)) := by
  unfold PyData.eqv PyData.eqvAll
  unfold PyData.eqv PyData.eqvAll
  unfold PyData.eqv PyData.eqvAll
  first
  | rw [Bool.and_true]; rfl
  | simp [Bool.beq_eq_decide_eq]
section
variable {P : Program} {w : World} {K : PySem.W.Frag} {mg : Str → Option Value} {base : Heap} {C CM CL CT CQ CF CY aS aL f cda cc : Addr} {fd : FuncData} {tk t1 t2 t3 : Tok} {H H' : Hp}
theorem dp_two {p : Addr} {a b : Int} (h : H p = some (.tup [.int a, .int b])) : Dp K H (.ref p) (.tuple [.int a, .int b]) := .tup (SqT.of h) (.cons (.int a) (.cons (.int b) .nil))
/-! ### Letter(..), as the law calls it -/
abbrev Let0C (P : Program) (w : World) (K : PySem.W.Frag) (mg : Str → Option Value) (base : Heap) (C CM CL : Addr) : Prop := MakF P w K mg base 11 "Letter" CL (spLet C CM CL) [.str "plain", .int 0]
abbrev LetAC (P : Program) (w : World) (K : PySem.W.Frag) (mg : Str → Option Value) (base : Heap) (C CM CL : Addr) : Prop := MakKF P w K mg base 11 "Letter" CL (spLet C CM CL) 3 ["about"] (fun vs zs => vs ++ [.str "plain"] ++ zs)
abbrev LetSC (P : Program) (w : World) (K : PySem.W.Frag) (mg : Str → Option Value) (base : Heap) (C CM CL : Addr) : Prop := MakKF P w K mg base 11 "Letter" CL (spLet C CM CL) 3 ["symmetry"] (fun vs zs => vs ++ zs ++ [.int 0])
def gK {α : Type} (us ws : List α) : List α := match ws with
  | [a, b, c, d, e] => us ++ [c, a, e, d, b]
  | _ => us ++ ws
abbrev LetKC (P : Program) (w : World) (K : PySem.W.Frag) (mg : Str → Option Value) (base : Heap) (C CM CL : Addr) : Prop := MakK P w K mg base 11 "Letter" CL (spLet C CM CL) ["rows", "about", "name", "symmetry", "columns"] gK
def spLMade (C CM CL : Addr) : Sp := fun vs H Q _ => ∃ (q p : Addr) (m : Nat) (n x y s : Str) (r : Rat), vs = [.ref q, .ref p] ∧ QAt H q m ∧ m + 2 ≤ 100000 ∧ FAt H p n x y s r ∧ Bd r 45 ∧
  ∀ (a : Addr) (H' : Hp), Keep q H H' → QAt H' q (m + 2) → LtAt C CM CL H' a n x y s r → Q (.ref a) H'
/-- a letter made of a number -/
theorem make_let {G : Hp} {n x y s : Str} {v : V} {r : Rat} {Q : VK} (ok : FactOk n x y s r) (hv : NumAt C G v r) (k : ∀ a H', Same G H' → LtAt C CM CL H' a n x y s r → Q (.ref a) H') :
    ∀ c d, G c = none → G d = none → d ≠ c → spLet C CM CL [.ref c, .str n, .str x, .str y, .str s, v] (upd (upd G d (.own c)) c (.ins CL d [])) (fun v H3 => v = .non ∧ Q (.ref c) H3) E0 := by
  intro c d hc hd hne
  have s1 : Same G (upd (upd G d (.own c)) c (.ins CL d [])) := MG.Same.new (MG.Same.new (Same.refl G) hd) (by rw [upd_ne (fun e => hne e.symm)]; exact hc)
  exact ⟨c, d, n, x, y, s, v, r, rfl, upd_same, ok, hv.same s1, fun H' b h => ⟨rfl, k c H' (made_same (C := CL) hc hd b) h⟩⟩
theorem sc__law_made : FnScope ["_law_q", "_law_facts_here", "_law_label_here", "_law_one", "_law_two", "_law_shape", "_law_pair", "_law_number_here", "_law_way"] ["_law_q", "_law_facts_here"] (defScope s__law_made) := ⟨rfl, rfl, rfl, by decide +kernel, rfl, by decide +kernel, by decide +kernel⟩
theorem ok_lmade {f : Addr} {fd : FuncData} (F : Fun K "_law_made" "_law_made" s__law_made f fd) (T : TxR K mg C) (c_draw : DrawC P w K mg base) (m_rat2 : Rat2C P w K mg base C) (m_let0 : Let0C P w K mg base C CM CL) (m_letA : LetAC P w K mg base C CM CL) (m_letS : LetSC P w K mg base C CM CL) (m_letK : LetKC P w K mg base C CM CL) :
    FnG P w K mg base CX0 14 f fd ["_law_q", "_law_facts_here"] (spLMade C CM CL) := by
  refine fun_okG F sc__law_made (fun vs H Q E h => ?_) (fun cdv A outer s H vs Q E bare hr h => ?_)
  · obtain ⟨q, p, m, n, x, y, s, r, rfl, _⟩ := h
    rfl
  · obtain ⟨q, p, m, n, x, y, sm, r, rfl, hq, hm, hp, bd, k⟩ := h
    have hu64 := hr.units
    refine ⟨_, (pss_cons (ps_asg (pv 1) (pg_tupK (K := K) (n := 5) rfl (pgs_cons (pg_name (i := 2) sc__law_made.nd rfl (Or.inl rfl)) (pgs_cons (pg_name (i := 3) sc__law_made.nd rfl (Or.inl rfl)) (pgs_cons (pg_name (i := 4) sc__law_made.nd rfl (Or.inl rfl)) (pgs_cons (pg_name (i := 5) sc__law_made.nd rfl (Or.inl rfl)) (pgs_cons (pg_name (i := 6) sc__law_made.nd rfl (Or.inl rfl)) pgs_nil)))))))
  (pss_cons (ps_set (i := 7) sc__law_made.nd rfl (Or.inl rfl) (pe_cut (pe_ifExp (PW.pt (pw_and (pt_cmpR op_eq (pe_ix (ix_tupK (K := K)) (pv 6) pe_int (fun _ _ => rfl)) pe_int (nomark _)) (pw_and1 (pt_cmpR op_eq (pe_cg c_draw bare hr (by decide) rfl (pa_cons (pv 0) (pa_cons pe_int pa_nil))) pe_int (nomark _))))) (pe_ix (ix_tupK (K := K)) (pv 6) pe_int (fun _ _ => rfl)) (pe_mkf m_rat2 hr (by decide) rfl (pa_cons (pe_ix (ix_tupK (K := K)) (pv 6) pe_int (fun _ _ => rfl)) (pa_cons (pe_ix (ix_tupK (K := K)) (pv 6) pe_int (fun _ _ => rfl)) pa_nil))))))
  (pss_cons (ps_set (i := 8) sc__law_made.nd rfl (Or.inl rfl) (pe_cg c_draw bare hr (by decide) rfl (pa_cons (pv 0) (pa_cons pe_int pa_nil))))
  (pss_cons (ps_cut (ps_if (PW.pt (pw_and (pt_cmpR op_eq (pv 5) pe_str (nomark _)) (pw_and (pt_cmpR (op_eqD hu64) (pv 6) (pe_tup (pa_cons pe_int (pa_cons pe_int pa_nil))) (nomark _)) (pw_and1 (pt_cmpR op_eq (pv 8) pe_int (nomark _)))))) (pss_one (ps_ret (pe_mkf m_let0 hr (by decide) rfl (pa_cons (pv 2) (pa_cons (pv 3) (pa_cons (pv 4) pa_nil))))))
  pss_nil))
  (pss_cons (ps_cut (ps_if (PW.pt (pw_and (pt_cmpR op_eq (pv 5) pe_str (nomark _)) (pw_and1 (pt_cmpR op_eq (pv 8) pe_int (nomark _))))) (pss_one (ps_ret (pe_makKF m_letA hr (by decide) rfl (pa_cons (pv 2) (pa_cons (pv 3) (pa_cons (pv 4) pa_nil))) (pk_cons (pv 7) pk_nil))))
  pss_nil))
  (pss_cons (ps_cut (ps_if (PW.pt (pw_and (pt_cmpR (op_eqD hu64) (pv 6) (pe_tup (pa_cons pe_int (pa_cons pe_int pa_nil))) (nomark _)) (pw_and1 (pt_cmpR op_eq (pv 8) pe_int (nomark _))))) (pss_one (ps_ret (pe_makKF m_letS hr (by decide) rfl (pa_cons (pv 2) (pa_cons (pv 3) (pa_cons (pv 4) pa_nil))) (pk_cons (pv 5) pk_nil))))
  pss_nil))
  (pss_one (ps_ret (pe_mkk m_letK hr (by decide) rfl (pk_cons (pv 3) (pk_cons (pv 7) (pk_cons (pv 2) (pk_cons (pv 5) (pk_cons (pv 4) pk_nil)))))))))))))), ?_⟩
    obtain ⟨pp, e1, e2⟩ := hp.ex
    have ok := hp.ok
    refine ⟨_, rfl, p, _, rfl, SqT.of e1, rfl, ?_⟩
    refine ⟨_, _, rfl, ⟨_, _, rfl, ⟨_, _, rfl, ⟨_, _, rfl, ⟨_, _, rfl, rfl, ?_⟩⟩⟩⟩⟩
    obtain ⟨cq, _, _, _, _, eqq, _⟩ := hq.ex
    have npp : pp ≠ q := ne_of e2 eqq nofun
    -- the number
    refine ⟨fun v G => NumAt C G v r ∧ Keep q H G ∧ QAt G q (m + 1), ?_, ?_⟩
    · have rat : ∀ {G : Hp}, Keep q H G → QAt G q (m + 1) → ∀ c d, G c = none → G d = none → d ≠ c → spInit C [.ref c, .int r.num, .int (r.den : Int)] (upd (upd G d (.own c)) c (.ins C d [])) (fun v H2 => v = .non ∧ (fun v G => NumAt C G v r ∧ Keep q H G ∧ QAt G q (m + 1)) (.ref c) H2) E0 := fun {G} kg qg =>
        make_rat (Q := fun v G => NumAt C G v r ∧ Keep q H G ∧ QAt G q (m + 1)) (by have := r.den_nz; omega) (bd.den (by decide)) fun c G' hc s6 h6 => by
          rw [Rat.num_divInt_den] at h6
          exact ⟨.inl ⟨c, rfl, h6⟩, kg.same s6, qg.keep s6⟩
      refine ⟨_, rfl, pp, _, _, _, rfl, rfl, SqT.of e2, rfl, rfl, _, rfl, ite2 (fun z => ?_) (fun _ => ?_)⟩
      · have d1 : (r.den : Int) = 1 := V.int.inj (of_decide_eq_true z)
        refine ⟨_, rfl, q, 2, m, rfl, hq, by omega, by decide, by decide, fun a H1 a0 a1 k1 q1 => ?_⟩
        have g2 := k1.all _ _ e2 npp
        refine ⟨rfl, _, rfl, ite2 (fun _ => ?_) (fun _ => ?_)⟩
        · refine ⟨_, rfl, pp, _, _, _, rfl, rfl, SqT.of g2, rfl, .inr ⟨r.num, rfl, ?_⟩, k1, q1⟩
          have h := Rat.num_divInt_den r
          rw [d1] at h
          exact h.symm
        · exact ⟨_, rfl, pp, _, _, _, rfl, rfl, SqT.of g2, rfl, _, rfl, pp, _, _, _, rfl, rfl, SqT.of g2, rfl, rat k1 q1⟩
      · exact ⟨_, rfl, pp, _, _, _, rfl, rfl, SqT.of e2, rfl, _, rfl, pp, _, _, _, rfl, rfl, SqT.of e2, rfl, rat Keep.refl (QAt.le hq (by omega))⟩
    rintro v H1 ⟨hv, k1, q1⟩
    refine ⟨_, rfl, q, 2, m + 1, rfl, q1, by omega, by decide, by decide, fun b H2 b0 b1 k2 q2 => ?_⟩
    have g2 := (k1.trans k2).all _ _ e2 npp
    have hv2 : ∀ {G : Hp}, Same H2 G → Keep q H G := fun s => (k1.trans k2).same s
    have hq2 : ∀ {G : Hp}, Same H2 G → QAt G q (m + 2) := fun s => q2.keep s
    have hvk : NumAt C H2 v r := by
      obtain ⟨c1, _, _, _, _, eq1, _⟩ := q1.ex
      rcases hv with ⟨c, rfl, d, e⟩ | h
      · exact .inl ⟨c, rfl, d, k2.all _ _ e (ne_of e eq1 nofun)⟩
      · exact .inr h
    have fin : ∀ {G : Hp}, Same H2 G → ∀ (a : Addr) (H' : Hp), Same G H' → LtAt C CM CL H' a n x y sm r → Q (.ref a) H' := fun s a H' s' h => k a H' (hv2 (s.trans s')) (hq2 (s.trans s')) h
    clear k k1 k2 q1 hv
    have zero : Rat.divInt 0 1 = 0 := by decide
    have isz : ∀ {c : Bool}, c = (decide (r.num = 0) && decide ((r.den : Int) = 1)) → c = true → r = 0 := fun e h => by
      rw [h] at e
      have h2 := Bool.and_eq_true_iff.mp e.symm
      exact Rat.num_eq_zero.mp (of_decide_eq_true h2.1)
    -- plain, 0
    refine ⟨fun σ G => σ = [some (.ref q), some (.ref p), some (.str n), some (.str x), some (.str y), some (.str sm), some (.ref pp), some v, some (.int b)] ∧ Same H2 G, ?_, ?_⟩
    · refine ⟨_, rfl, rfl, _, rfl, ite2 (fun z => ?_) (fun _ => ⟨rfl, Same.refl _⟩)⟩
      refine ⟨_, rfl, (show 2 ≤ sizeLine by decide), fun p2 h2 => ?_⟩
      have s2 := MG.Same.new (o := .tup [.int 0, .int 1]) (Same.refl H2) h2
      refine ⟨_, _, dp_two (s2 _ _ g2), dp_two upd_same, shp_two _ _, shp_two _ _, _, rfl, ite2 (fun z2 => ?_) (fun _ => ⟨rfl, s2⟩)⟩
      refine ⟨_, rfl, rfl, _, rfl, ite2 (fun _ => ?_) (fun _ => ⟨rfl, s2⟩)⟩
      obtain rfl : sm = plainS := V.str.inj (of_decide_eq_true z)
      obtain rfl : r = 0 := isz (eqv_two _ _ _ _) z2
      exact ⟨_, rfl, _, rfl, _, rfl, make_let (Q := Q) ok (.inr ⟨0, rfl, zero.symm⟩) (fin s2)⟩
    rintro _ G1 ⟨rfl, s1⟩
    -- plain
    refine ⟨fun σ G => σ = [some (.ref q), some (.ref p), some (.str n), some (.str x), some (.str y), some (.str sm), some (.ref pp), some v, some (.int b)] ∧ Same H2 G, ?_, ?_⟩
    · refine ⟨_, rfl, rfl, _, rfl, ite2 (fun z => ?_) (fun _ => ⟨rfl, s1⟩)⟩
      refine ⟨_, rfl, rfl, _, rfl, ite2 (fun _ => ?_) (fun _ => ⟨rfl, s1⟩)⟩
      obtain rfl : sm = plainS := V.str.inj (of_decide_eq_true z)
      exact ⟨_, rfl, _, rfl, _, rfl, _, rfl, rfl, rfl, make_let (Q := Q) ok (hvk.same s1) (fin s1)⟩
    clear s1
    rintro _ G1 ⟨rfl, s1⟩
    -- 0
    refine ⟨fun σ G => σ = [some (.ref q), some (.ref p), some (.str n), some (.str x), some (.str y), some (.str sm), some (.ref pp), some v, some (.int b)] ∧ Same H2 G, ?_, ?_⟩
    · refine ⟨_, rfl, (show 2 ≤ sizeLine by decide), fun p2 h2 => ?_⟩
      have s2 := MG.Same.new (o := .tup [.int 0, .int 1]) s1 h2
      refine ⟨_, _, dp_two (s2 _ _ g2), dp_two upd_same, shp_two _ _, shp_two _ _, _, rfl, ite2 (fun z2 => ?_) (fun _ => ⟨rfl, s2⟩)⟩
      refine ⟨_, rfl, rfl, _, rfl, ite2 (fun _ => ?_) (fun _ => ⟨rfl, s2⟩)⟩
      obtain rfl : r = 0 := isz (eqv_two _ _ _ _) z2
      exact ⟨_, rfl, _, rfl, _, rfl, _, rfl, rfl, rfl, make_let (Q := Q) ok (.inr ⟨0, rfl, zero.symm⟩) (fin s2)⟩
    clear s1
    rintro _ G1 ⟨rfl, s1⟩
    exact ⟨_, rfl, _, rfl, _, rfl, _, rfl, _, rfl, rfl, rfl, make_let (Q := Q) ok (hvk.same s1) (fin s1)⟩
abbrev LMadeC (P : Program) (w : World) (K : PySem.W.Frag) (mg : Str → Option Value) (base : Heap) (C CM CL : Addr) : Prop := CalG P w K mg base 14 "_law_made" (spLMade C CM CL) []
end
end Lw

namespace Lw
open PySem PySem.Spec PyProof.Rows L2 MG
/-! ### texts shown in data -/
theorem nd_self {α : Type} [DecidableEq α] (x : α) : (!decide (x = x)) = false := by rw [decide_eq_true rfl]; rfl
theorem okd_txt {z : Str} (h : Asc z) (l : z.length ≤ 60) : Okd (.str z) 700 0 := by
  have lr := PySem.StrLaws.reprText_len z fun c hc => by have := (h c hc).2; omega
  refine ⟨?_, rfl, ?_, ?_⟩
  · simp [PyData.showable, asc_ok h]
  · simp [PyData.depth]
  · show (reprText z).length ≤ 700
    omega
theorem okd_one : Okd (.int 1) 700 0 := by
  refine ⟨by decide +kernel, rfl, ?_, ?_⟩
  · simp [PyData.depth]
  · show (Str.ofString (toString (1 : Int))).length ≤ 700
    decide +kernel
theorem sum_leT {n : Nat} : ∀ {ts : List Str}, (∀ t ∈ ts, t.length ≤ n) → (ts.map (·.length)).sum ≤ n * ts.length
  | [], _ => by simp
  | t :: ts, h => by
    have h1 := h t (by simp)
    have h2 := sum_leT (ts := ts) fun u hu => h u (by simp [hu])
    simp only [List.map_cons, List.sum_cons, List.length_cons]
    rw [Nat.mul_succ]
    omega
theorem okd_tup {ds : List PyData} {n k m : Nat} (h : ∀ d ∈ ds, Okd d n k) (hm : ds.length ≤ m) : Okd (.tuple ds) ((n + 2) * m + 3) (k + 1) := by
  refine ⟨?_, ?_, ?_, ?_⟩
  · rw [PyData.showable]; exact showAll_of fun d hd => (h d hd).sh
  · rw [PyData.hasDict]; exact dictAll_of fun d hd => (h d hd).nd
  · have := depthAll_le (k := k) fun d hd => (h d hd).dp
    rw [PyData.depth]
    omega
  · rw [PyData.shown, shownAll_map]
    have h1 := tupleText_len_le (ds.map PyData.shown)
    have h2 := sum_leT (n := n) (ts := ds.map PyData.shown) fun t ht => by
      obtain ⟨d, hd, rfl⟩ := List.mem_map.mp ht
      exact (h d hd).ln
    rw [List.length_map] at h1 h2
    have h3 : (n + 2) * ds.length ≤ (n + 2) * m := Nat.mul_le_mul_left _ hm
    have h4 : (n + 2) * ds.length = n * ds.length + 2 * ds.length := Nat.add_mul _ _ _
    omega
/-- what is told of a letter -/
def toldD (n x y s : Str) : PyData := .list [.str n, .tuple [.str x], .tuple [.str y], .str s, .str "letter", .tuple [], .tuple ((pairT x y).map .str), .int 1, .int 1, .str n, .str ((("Formula(" : Str) ++ reprText n) ++ (")" : Str))]
theorem asc_lbl {z : Str} (h : lblB z = true) : Pl z := fun c hc => by
  obtain ⟨_, a⟩ := lblL_mem h c hc
  rcases Bool.or_eq_true_iff.mp a with a | a
  · have := of_decide_eq_true a; omega
  rcases Bool.or_eq_true_iff.mp a with a | a
  · have := of_decide_eq_true a; omega
  · have := of_decide_eq_true a; omega
theorem asc_span {z : Str} (h : spanB z = true) : Asc z := fun c hc => by
  have := of_decide_eq_true (List.all_eq_true.mp (span_parts h).1 c hc)
  omega
theorem pl_asc {z : Str} (h : Pl z) : Asc z := fun c hc => (h c hc).1
theorem pair_mem {x y z : Str} (h : z ∈ pairT x y) : z = x ∨ z = y := by
  unfold pairT at h
  split at h
  · exact .inl (List.mem_singleton.mp h)
  · unfold minT maxT at h
    rcases List.mem_cons.mp h with e | h
    · rw [e]; split
      · exact .inr rfl
      · exact .inl rfl
    · rw [List.mem_singleton.mp h]; split
      · exact .inr rfl
      · exact .inl rfl
theorem okd_told {n x y s : Str} (hn : lblB n = true) (hx : spanB x = true) (hy : spanB y = true) (hs : s = plainS ∨ s = symmS ∨ s = skewS) : Okd (toldD n x y s) 200000 2 := by
  have ln := lbl_len hn
  have lx := span_len hx
  have ly := span_len hy
  have an := pl_asc (asc_lbl hn)
  have ax := asc_span hx
  have ay := asc_span hy
  have t1 : ∀ {z : Str}, Asc z → z.length ≤ 60 → Okd (.str z) 2000 1 := fun h l => by
    have o := okd_txt h l
    exact ⟨o.sh, o.nd, Nat.le_trans o.dp (by decide), Nat.le_trans o.ln (by decide)⟩
  have tt : ∀ {zs : List Str}, (∀ z ∈ zs, Asc z ∧ z.length ≤ 60) → zs.length ≤ 2 → Okd (.tuple (zs.map .str)) 2000 1 := fun {zs} h l => by
    have o := okd_tup (ds := zs.map PyData.str) (n := 700) (k := 0) (m := 2) (fun d hd => by
      obtain ⟨z, hz, rfl⟩ := List.mem_map.mp hd
      exact okd_txt (h z hz).1 (h z hz).2) (by rw [List.length_map]; exact l)
    exact ⟨o.sh, o.nd, o.dp, Nat.le_trans o.ln (by decide)⟩
  have i1 : Okd (.int 1) 2000 1 := ⟨okd_one.sh, okd_one.nd, Nat.le_trans okd_one.dp (by decide), Nat.le_trans okd_one.ln (by decide)⟩
  have sok : Asc s ∧ s.length ≤ 60 := by
    rcases hs with rfl | rfl | rfl
    · exact ⟨asc_of _ (by decide +kernel), by decide +kernel⟩
    · exact ⟨asc_of _ (by decide +kernel), by decide +kernel⟩
    · exact ⟨asc_of _ (by decide +kernel), by decide +kernel⟩
  have rp : Asc ((("Formula(" : Str) ++ reprText n) ++ (")" : Str)) ∧ ((("Formula(" : Str) ++ reprText n) ++ (")" : Str)).length ≤ 60 := by
    rw [repr_pl (asc_lbl hn)]
    refine ⟨asc_append (asc_append (asc_of _ (by decide +kernel)) (asc_append (asc_append (asc_of _ (by decide +kernel)) an) (asc_of _ (by decide +kernel)))) (asc_of _ (by decide +kernel)), ?_⟩
    rw [strLen_append, strLen_append, strLen_append, strLen_append]
    have z1 : (("Formula(" : Str)).length = 8 := rfl
    have z2 : (("'" : Str)).length = 1 := rfl
    have z3 : ((")" : Str)).length = 1 := rfl
    omega
  have o := okd_list (n := 2000) (k := 1) (m := 11) (ds := [.str n, .tuple [.str x], .tuple [.str y], .str s, .str "letter", .tuple [], .tuple ((pairT x y).map .str), .int 1, .int 1, .str n, .str ((("Formula(" : Str) ++ reprText n) ++ (")" : Str))]) (fun d hd => by
    simp only [List.mem_cons, List.not_mem_nil, or_false] at hd
    rcases hd with rfl | rfl | rfl | rfl | rfl | rfl | rfl | rfl | rfl | rfl | rfl
    · exact t1 an (by omega)
    · exact tt (zs := [x]) (fun z hz => by rw [List.mem_singleton.mp hz]; exact ⟨ax, by omega⟩) (Nat.le_succ 1)
    · exact tt (zs := [y]) (fun z hz => by rw [List.mem_singleton.mp hz]; exact ⟨ay, by omega⟩) (Nat.le_succ 1)
    · exact t1 sok.1 sok.2
    · exact t1 (asc_of _ (by decide +kernel)) (by decide +kernel)
    · exact tt (zs := []) (fun z hz => nomatch hz) (by decide)
    · exact tt (fun z hz => by
        rcases pair_mem hz with rfl | rfl
        · exact ⟨ax, by omega⟩
        · exact ⟨ay, by omega⟩) pair_len
    · exact i1
    · exact i1
    · exact t1 an (by omega)
    · exact t1 rp.1 rp.2) (Nat.le_refl 11)
  exact ⟨o.sh, o.nd, o.dp, Nat.le_trans o.ln (by decide)⟩
section
variable {P : Program} {w : World} {K : PySem.W.Frag} {mg : Str → Option Value} {base : Heap} {C CM CL CT CQ CF CY aS aL f cda cc : Addr} {fd : FuncData} {tk t1 t2 t3 : Tok} {H H' : Hp}
/-! ### _law_fits -/
def spFits (C CM CL : Addr) : Sp := fun vs H Q _ => ∃ (a p : Addr) (n x y s : Str) (r : Rat), vs = [.ref a, .ref p] ∧ LtAt C CM CL H a n x y s r ∧ FAt H p n x y s r ∧ Bd r 45 ∧ ∀ H', Same H H' → Q (.bl true) H'
theorem sc__law_fits : FnScope ["_law_letter", "_law_facts_here", "_law_label_here", "_law_one", "_law_two", "_law_shape", "_law_pair", "_law_told_here", "_law_spans", "_law_due"] ["_law_letter", "_law_facts_here"] (defScope s__law_fits) := ⟨rfl, rfl, rfl, by decide +kernel, rfl, by decide +kernel, by decide +kernel⟩
theorem ok_fits {f : Addr} {fd : FuncData} (F : Fun K "_law_fits" "_law_fits" s__law_fits f fd) (T : TxM K mg C CM) (TF : TxF K CL) (g_Formula : mg "Formula" = some (.ref CY)) (kLF : PySem.W.kitOne K (.ref CL) (.ref CY) = some true) (pl_name : PropL P w K mg base CL "name" 11) (pl_rows : PropL P w K mg base CL "rows" 3) (pl_columns : PropL P w K mg base CL "columns" 4) (pl_symmetry : PropL P w K mg base CL "symmetry" 12) (pl_kind : PropL P w K mg base CL "kind" 0)
    (pl_parts : PropL P w K mg base CL "parts" 1) (pl_sizes : PropL P w K mg base CL "sizes" 9) (pl_weight : PropL P w K mg base CL "weight" 5) (pl_levels : PropL P w K mg base CL "levels" 6) (pl_letters : PropL P w K mg base CL "letters" 2) (pl_about : PropL P w K mg base CL "about" 13) (pl_middle : PropL P w K mg base CL "middle" 7)
    (d_fstr : FStrD P w K mg base CL) (d_frepr : FReprD P w K mg base CL) (p_top : PropF P w K mg base 2 C "top" (spTop C)) (p_bottom : PropF P w K mg base 2 C "bottom" (spBottom C)) (c_is : IsC P w K mg base C CM) :
    FnG P w K mg base CX0 12 f fd ["_law_letter", "_law_facts_here"] (spFits C CM CL) := by
  refine fun_okG F sc__law_fits (fun vs H Q E h => ?_) (fun cdv A outer s H vs Q E bare hr h => ?_)
  · obtain ⟨a, p, n, x, y, s, r, rfl, _⟩ := h
    rfl
  · obtain ⟨a, p, n, x, y, sm, r, rfl, hl, hp, bd, k⟩ := h
    have hu64 := hr.units
    refine ⟨_, (pss_cons (ps_asg (pv 1) (pg_tupK (K := K) (n := 5) rfl (pgs_cons (pg_name (i := 2) sc__law_fits.nd rfl (Or.inl rfl)) (pgs_cons (pg_name (i := 3) sc__law_fits.nd rfl (Or.inl rfl)) (pgs_cons (pg_name (i := 4) sc__law_fits.nd rfl (Or.inl rfl)) (pgs_cons (pg_name (i := 5) sc__law_fits.nd rfl (Or.inl rfl)) (pgs_cons (pg_name (i := 6) sc__law_fits.nd rfl (Or.inl rfl)) pgs_nil)))))))
  (pss_cons (ps_set (i := 7) sc__law_fits.nd rfl (Or.inl rfl) (pe_lst (pa_cons (pe_pf pl_name TF.cl hr (by decide) (pv 0) rfl) (pa_cons (pe_pf pl_rows TF.cl hr (by decide) (pv 0) rfl) (pa_cons (pe_pf pl_columns TF.cl hr (by decide) (pv 0) rfl) (pa_cons (pe_pf pl_symmetry TF.cl hr (by decide) (pv 0) rfl) (pa_cons (pe_pf pl_kind TF.cl hr (by decide) (pv 0) rfl) (pa_cons (pe_pf pl_parts TF.cl hr (by decide) (pv 0) rfl) (pa_cons (pe_pf pl_sizes TF.cl hr (by decide) (pv 0) rfl) pa_nil)))))))))
  (pss_cons (ps_set (i := 7) sc__law_fits.nd rfl (Or.inl rfl) (pe_op op_cat (pv 7) (pe_lst (pa_cons (pe_pf pl_weight TF.cl hr (by decide) (pv 0) rfl) (pa_cons (pe_pf pl_levels TF.cl hr (by decide) (pv 0) rfl) (pa_cons (pe_callTy (str_f d_fstr hr (by decide)) (by rfl) T.b_str (by decide +kernel) (pa_cons (pv 0) pa_nil)) (pa_cons (pe_callB (id := "repr") (repr_f d_frepr hr (by decide)) (by rfl) T.b_repr (by decide +kernel) (pa_cons (pv 0) pa_nil)) pa_nil)))))))
  (pss_cons (ps_set (i := 8) sc__law_fits.nd rfl (Or.inl rfl) (pe_cut (pe_ifExp (pt_cmpR op_eq (pv 3) (pv 4) (nomark _)) (pe_tup (pa_cons (pv 3) pa_nil)) (pe_tup (pa_cons (pe_callB (id := "min") (call_minT rfl) (by rfl) T.b_min (by decide +kernel) (pa_cons (pv 3) (pa_cons (pv 4) pa_nil))) (pa_cons (pe_callB (id := "max") (call_maxT rfl) (by rfl) T.b_max (by decide +kernel) (pa_cons (pv 3) (pa_cons (pv 4) pa_nil))) pa_nil))))))
  (pss_cons (ps_set (i := 9) sc__law_fits.nd rfl (Or.inl rfl) (pe_lst (pa_cons (pv 2) (pa_cons (pe_tup (pa_cons (pv 3) pa_nil)) (pa_cons (pe_tup (pa_cons (pv 4) pa_nil)) (pa_cons (pv 5) (pa_cons pe_str (pa_cons (pe_tup pa_nil) (pa_cons (pv 8) (pa_cons pe_int (pa_cons pe_int (pa_cons (pv 2) (pa_cons (pe_op op_add_str (pe_op op_add_str pe_str (pv 2)) pe_str) pa_nil)))))))))))))
  (pss_cons (ps_if (PW.pt (pw_or (pt_cmpR op_ne (pe_callB (id := "repr") (call_reprK (K := K) bare hu64) (by rfl) T.b_repr (by decide +kernel) (pa_cons (pv 7) pa_nil)) (pe_callB (id := "repr") (call_reprK (K := K) bare hu64) (by rfl) T.b_repr (by decide +kernel) (pa_cons (pv 9) pa_nil)) (nomark _)) (pw_or1 (pt_not (pt_val (pe_callB (id := "isinstance") (call_isiK (K := K)) (by rfl) T.b_isinstance (by decide +kernel) (pa_cons (pe_pf pl_about TF.cl hr (by decide) (pv 0) rfl) (pa_cons (pe_glob (v := V.ref C) rfl T.g_Ratio rfl) pa_nil)))))))) (pss_one (ps_ret pe_bl))
  pss_nil)
  (pss_cons (ps_if (PW.pt (pw_or (pt_not (pt_val (pe_callB (id := "isinstance") (call_isiK (K := K)) (by rfl) T.b_isinstance (by decide +kernel) (pa_cons (pe_pf pl_letters TF.cl hr (by decide) (pv 0) rfl) (pa_cons (pe_bltn (v := V.ty "tuple") (u := Value.type "tuple") (by rfl) T.b_tuple (by decide +kernel) rfl) pa_nil))))) (pw_or (pt_cmpR (op_neS hr) (pe_pf pl_letters TF.cl hr (by decide) (pv 0) rfl) (pe_tup (pa_cons (pv 0) pa_nil)) (nomark _)) (pw_or1 (pt_not (pt_val (pe_callB (id := "isinstance") (call_isiK (K := K)) (by rfl) T.b_isinstance (by decide +kernel) (pa_cons (pv 0) (pa_cons (pe_glob (v := V.ref CY) rfl g_Formula rfl) pa_nil))))))))) (pss_one (ps_ret pe_bl))
  pss_nil)
  (pss_one (ps_ret (pe_and (pe_cmpR (op_eqD hu64) (pe_tup (pa_cons (pe_pf p_top T.cl hr (by decide) (pe_pf pl_about TF.cl hr (by decide) (pv 0) rfl) rfl) (pa_cons (pe_pf p_bottom T.cl hr (by decide) (pe_pf pl_about TF.cl hr (by decide) (pv 0) rfl) rfl) pa_nil))) (pv 6) (nomark _)) (pe_one (pe_cg c_is bare hr (by decide) rfl (pa_cons (pe_pf pl_middle TF.cl hr (by decide) (pv 0) rfl) (pa_cons (pe_tup (pa_cons (pe_lst (pa_cons (pe_lst (pa_cons (pe_ix (ix_tupK (K := K)) (pv 6) pe_int (fun _ _ => rfl)) pa_nil)) pa_nil)) (pa_cons (pe_ix (ix_tupK (K := K)) (pv 6) pe_int (fun _ _ => rfl)) pa_nil))) pa_nil)))))))))))))), ?_⟩
    obtain ⟨pp, e1, e2⟩ := hp.ex
    obtain ⟨on, ox, oy, os, _, _⟩ := hp.ok
    obtain ⟨dx, t0, tL, p1, p2, m, sz, mk, ra, h1, h2, h3, h4, h5, h6, h7, h8, h9⟩ := hl.ex
    refine ⟨_, rfl, p, _, rfl, SqT.of e1, rfl, ?_⟩
    refine ⟨_, _, rfl, ⟨_, _, rfl, ⟨_, _, rfl, ⟨_, _, rfl, ⟨_, _, rfl, rfl, ?_⟩⟩⟩⟩⟩
    have fld : ∀ {j : Nat} {G : Hp} {σ : L2.St} {u : V} {R : VK}, (ltV t0 tL p1 p2 m sz mk ra n sm)[j]? = some u → σ[0]? = some (some (.ref a)) → Same H G → R u G → tProp CL (spFld CL j) [] E0 (tVar 0) σ G R := fun {j G σ u R} ej e0 s q => ⟨.ref a, e0, a, dx, _, rfl, s _ _ h1, a, dx, _, u, rfl, s _ _ h1, ej, q⟩
    refine fld rfl rfl (Same.refl H) ?_
    refine fld rfl rfl (Same.refl H) ?_
    refine fld rfl rfl (Same.refl H) ?_
    refine fld rfl rfl (Same.refl H) ?_
    refine fld rfl rfl (Same.refl H) ?_
    refine fld rfl rfl (Same.refl H) ?_
    refine fld rfl rfl (Same.refl H) ?_
    refine ⟨(show 7 ≤ sizeLine by decide), fun l1 hl1 => ?_⟩
    have s1 := MG.Same.new (o := .lst [.str n, .ref p1, .ref p2, .str sm, .str "letter", .ref t0, .ref sz]) (Same.refl H) hl1
    have el1 : upd H l1 (.lst [.str n, .ref p1, .ref p2, .str sm, .str "letter", .ref t0, .ref sz]) l1 = some (.lst [.str n, .ref p1, .ref p2, .str sm, .str "letter", .ref t0, .ref sz]) := upd_same
    generalize upd H l1 _ = G1 at s1 el1 ⊢
    have an := pl_asc (asc_lbl on)
    have ln := lbl_len on
    -- + [weight, levels, str(..), repr(..)]
    refine ⟨_, rfl, ?_⟩
    refine fld rfl rfl s1 ?_
    refine fld rfl rfl s1 ?_
    refine ⟨_, rfl, a, dx, _, rfl, s1 _ _ h1, a, dx, _, n, rfl, s1 _ _ h1, rfl, n, rfl, ?_⟩
    refine ⟨_, rfl, a, dx, _, rfl, s1 _ _ h1, a, dx, _, n, rfl, s1 _ _ h1, rfl, an, by omega, _, rfl, (show 4 ≤ sizeLine by decide), fun l2 hl2 => ?_⟩
    have s2 := MG.Same.new (o := .lst [.int 1, .int 1, .str n, .str ((("Formula(" : Str) ++ reprText n) ++ (")" : Str))]) (Same.refl G1) hl2
    refine ⟨l1, l2, _, _, rfl, rfl, s2 _ _ el1, upd_same, (show 11 ≤ sizeLine by decide), fun l3 hl3 => ?_⟩
    have s3 := MG.Same.new (o := .lst ([.str n, .ref p1, .ref p2, .str sm, .str "letter", .ref t0, .ref sz] ++ [.int 1, .int 1, .str n, .str ((("Formula(" : Str) ++ reprText n) ++ (")" : Str))])) (s1.trans s2) hl3
    have el3 : (upd (upd G1 l2 (.lst [.int 1, .int 1, .str n, .str ((("Formula(" : Str) ++ reprText n) ++ (")" : Str))])) l3 (.lst ([.str n, .ref p1, .ref p2, .str sm, .str "letter", .ref t0, .ref sz] ++ [.int 1, .int 1, .str n, .str ((("Formula(" : Str) ++ reprText n) ++ (")" : Str))]))) l3 = some (.lst [.str n, .ref p1, .ref p2, .str sm, .str "letter", .ref t0, .ref sz, .int 1, .int 1, .str n, .str ((("Formula(" : Str) ++ reprText n) ++ (")" : Str))]) := upd_same
    generalize upd (upd G1 l2 _) l3 _ = G3 at s3 el3 ⊢
    clear s1 s2 el1 hl1 hl2 hl3
    -- spans
    refine ⟨fun v G => ∃ sp, v = .ref sp ∧ G sp = some (.tup ((pairT x y).map V.str)) ∧ Same G3 G, ?_, ?_⟩
    · refine ⟨_, rfl, _, rfl, rfl, _, rfl, ite2 (fun z => ?_) (fun z => ?_)⟩
      · have exy : x = y := V.str.inj (of_decide_eq_true z)
        have e : pairT x y = [x] := if_pos exy
        rw [e]
        exact ⟨_, rfl, (show 1 ≤ sizeLine by decide), fun sp hsp => ⟨sp, rfl, upd_same, MG.Same.new (Same.refl _) hsp⟩⟩
      · have exy : ¬ x = y := fun e => z (decide_eq_true (by rw [e]))
        have e : pairT x y = [minT x y, maxT x y] := if_neg exy
        rw [e]
        exact ⟨_, rfl, _, rfl, x, y, rfl, _, rfl, _, rfl, x, y, rfl, (show 2 ≤ sizeLine by decide), fun sp hsp => ⟨sp, rfl, upd_same, MG.Same.new (Same.refl _) hsp⟩⟩
    rintro _ G4 ⟨sp, rfl, esp, s4⟩
    -- due
    refine ⟨_, rfl, _, rfl, (show 1 ≤ sizeLine by decide), fun q1 hq1 => ⟨_, rfl, (show 1 ≤ sizeLine by decide), fun q2 hq2 => ⟨_, rfl, (show 0 ≤ sizeLine by decide), fun q3 hq3 => ?_⟩⟩⟩
    have z1 : (("Formula('" : Str)).length = 9 := rfl
    have z2 : (("')" : Str)).length = 2 := rfl
    refine ⟨_, rfl, _, rfl, _, rfl, _, _, rfl, rfl, Nat.le_trans (m := 100) (by omega) (by decide), _, _, rfl, rfl, ?_, (show 11 ≤ sizeLine by decide), fun l4 hl4 => ?_⟩
    · rw [strLen_append]
      exact Nat.le_trans (m := 100) (by omega) (by decide)
    -- the heap behind the list
    have u1 := MG.Same.new (o := .tup [.str x]) (Same.refl G4) hq1
    have u2 := MG.Same.new (o := .tup [.str y]) (Same.refl _) hq2
    have u3 := MG.Same.new (o := .tup []) (Same.refl _) hq3
    have d1 : upd (upd (upd G4 q1 (.tup [.str x])) q2 (.tup [.str y])) q3 (.tup []) q1 = some (.tup [.str x]) := u3 _ _ (u2 _ _ upd_same)
    have d2 : upd (upd (upd G4 q1 (.tup [.str x])) q2 (.tup [.str y])) q3 (.tup []) q2 = some (.tup [.str y]) := u3 _ _ upd_same
    have d3 : upd (upd (upd G4 q1 (.tup [.str x])) q2 (.tup [.str y])) q3 (.tup []) q3 = some (.tup []) := upd_same
    have u13 := (u1.trans u2).trans u3
    have u4 := MG.Same.new (o := .lst [.str n, .ref q1, .ref q2, .str sm, .str "letter", .ref q3, .ref sp, .int 1, .int 1, .str n, .str ((("Formula('" : Str) ++ n) ++ ("')" : Str))]) (Same.refl _) hl4
    have el4 : upd (upd (upd (upd G4 q1 (.tup [.str x])) q2 (.tup [.str y])) q3 (.tup [])) l4 (.lst [.str n, .ref q1, .ref q2, .str sm, .str "letter", .ref q3, .ref sp, .int 1, .int 1, .str n, .str ((("Formula('" : Str) ++ n) ++ ("')" : Str))]) l4 = _ := upd_same
    replace d1 := u4 _ _ d1
    replace d2 := u4 _ _ d2
    replace d3 := u4 _ _ d3
    have s5 := s4.trans (u13.trans u4)
    replace esp := (u13.trans u4) _ _ esp
    generalize upd (upd (upd (upd G4 q1 (.tup [.str x])) q2 (.tup [.str y])) q3 (.tup [])) l4 _ = G5 at s5 esp d1 d2 d3 el4 ⊢
    clear u1 u2 u3 u4 u13 hq1 hq2 hq3 hl4 s4
    have hs := s3.trans s5
    have er : ((("Formula('" : Str) ++ n) ++ ("')" : Str)) = ((("Formula(" : Str) ++ reprText n) ++ (")" : Str)) := by
      rw [repr_pl (asc_lbl on)]
      refine str_ext ?_
      simp only [sl_add]
      have k1 : sl ("Formula('" : Str) = sl ("Formula(" : Str) ++ sl ("'" : Str) := by decide +kernel
      have k2 : sl ("')" : Str) = sl ("'" : Str) ++ sl (")" : Str) := by decide +kernel
      rw [k1, k2]
      simp only [List.append_assoc]
    rw [er] at el4
    have strz : ∀ {G : Hp} {b : Addr} {zs : List Str}, G b = some (.tup (zs.map V.str)) → Dp K G (.ref b) (.tuple (zs.map .str)) := fun {G b zs} e => .tup (SqT.of e) (by
      clear e
      induction zs with
      | nil => exact .nil
      | cons z zs ih => exact .cons (.str z) ih)
    have dp1 : Dp K G5 (.ref l3) (toldD n x y sm) := .lst (SqL.of (s5 _ _ el3)) (.cons (.str n) (.cons (strz (zs := [x]) (hs _ _ h4)) (.cons (strz (zs := [y]) (hs _ _ h5)) (.cons (.str sm) (.cons (.str _) (.cons (strz (zs := []) (hs _ _ h2)) (.cons (strz (hs _ _ h7)) (.cons (.int 1) (.cons (.int 1) (.cons (.str n) (.cons (.str _) .nil)))))))))))
    have dp2 : Dp K G5 (.ref l4) (toldD n x y sm) := .lst (SqL.of el4) (.cons (.str n) (.cons (strz (zs := [x]) d1) (.cons (strz (zs := [y]) d2) (.cons (.str sm) (.cons (.str _) (.cons (strz (zs := []) d3) (.cons (strz esp) (.cons (.int 1) (.cons (.int 1) (.cons (.str n) (.cons (.str _) .nil)))))))))))
    have o := okd_told on ox oy os
    clear d1 d2 d3 esp el3 el4 s3 s5 er strz
    -- repr(..) != repr(..)
    refine ⟨_, rfl, .ref l3, _, rfl, dp1, o.sh, o.nd, Nat.le_trans o.dp (by decide), Nat.le_trans o.ln (by decide), _, rfl, .ref l4, _, rfl, dp2, o.sh, o.nd, Nat.le_trans o.dp (by decide), Nat.le_trans o.ln (by decide), rfl, _, rfl, ?_⟩
    refine ifF (nd_self _) ?_
    clear dp1 dp2 o
    refine fld rfl rfl hs ?_
    refine ⟨_, _, _, _, true, rfl, .own C, (h9.same hs).tyx T.toTxR, T.kC, _, rfl, iteF ?_⟩
    -- letters
    refine fld rfl rfl hs ?_
    refine ⟨_, _, _, _, true, rfl, .ty "tuple", .base (.tup (hs _ _ h3)), kit_ty (by decide +kernel), _, rfl, iteF ?_⟩
    refine fld rfl rfl hs ?_
    refine ⟨_, rfl, (show 1 ≤ sizeLine by decide), fun p5 hp5 => ?_⟩
    have s6 := MG.Same.new (o := .tup [.ref a]) hs hp5
    refine ⟨tL, p5, [.ref a], rfl, rfl, s6 _ _ h3, upd_same, fun v hv => ⟨a, List.mem_singleton.mp hv⟩, _, rfl, iteF ?_⟩
    refine ⟨_, rfl, _, _, _, _, true, rfl, .own CY, ins_tyx T.toTxR TF (s6 _ _ h1), kLF, _, rfl, iteF ?_⟩
    generalize upd G5 p5 _ = G6 at s6 ⊢
    clear hs hp5
    -- the number
    have ra6 := h9.same s6
    obtain ⟨dr, er⟩ := id ra6
    refine fld rfl rfl s6 ?_
    refine ⟨ra, dr, _, rfl, er, ra, r, rfl, ra6, ?_⟩
    refine fld rfl rfl s6 ?_
    refine ⟨ra, dr, _, rfl, er, ra, r, rfl, ra6, (show 2 ≤ sizeLine by decide), fun p6 hp6 => ?_⟩
    have s7 := MG.Same.new (o := .tup [.int r.num, .int (r.den : Int)]) s6 hp6
    have e6 : upd G6 p6 (.tup [.int r.num, .int (r.den : Int)]) p6 = some (.tup [.int r.num, .int (r.den : Int)]) := upd_same
    generalize upd G6 p6 _ = G7 at s7 e6 ⊢
    refine ⟨_, rfl, _, _, dp_two e6, dp_two (s7 _ _ e2), shp_two _ _, shp_two _ _, _, rfl, ?_⟩
    rw [eqv_two, decide_eq_true rfl, decide_eq_true rfl]
    refine iteT ?_
    clear hp6 s6 e6 ra6 er
    -- the middle
    refine fld rfl rfl s7 ?_
    refine ⟨_, rfl, pp, _, _, _, rfl, rfl, SqT.of (s7 _ _ e2), rfl, (show 1 ≤ sizeLine by decide), fun L1 hL1 => ?_⟩
    have s8 := MG.Same.new (o := .lst [.int r.num]) s7 hL1
    have f1 : upd G7 L1 (.lst [.int r.num]) L1 = some (.lst [.int r.num]) := upd_same
    generalize upd G7 L1 _ = G8 at s8 f1 ⊢
    refine ⟨(show 1 ≤ sizeLine by decide), fun L2 hL2 => ?_⟩
    have s9 := MG.Same.new (o := .lst [.ref L1]) s8 hL2
    have f1' := (MG.Same.new (o := .lst [.ref L1]) (Same.refl G8) hL2) _ _ f1
    have f2 : upd G8 L2 (.lst [.ref L1]) L2 = some (.lst [.ref L1]) := upd_same
    generalize upd G8 L2 _ = G9 at s9 f1' f2 ⊢
    refine ⟨_, rfl, pp, _, _, _, rfl, rfl, SqT.of (s9 _ _ e2), rfl, (show 2 ≤ sizeLine by decide), fun T7 hT7 => ?_⟩
    have s10 := MG.Same.new (o := .tup [.ref L2, .int (r.den : Int)]) s9 hT7
    have k10 := MG.Same.new (o := .tup [.ref L2, .int (r.den : Int)]) (Same.refl G9) hT7
    have den0 : (r.den : Int) ≠ 0 := by have := r.den_nz; omega
    have eq : ∀ i j, qv (fun _ _ => r.num) (r.den : Int) i j = r := fun i j => Rat.num_divInt_den r
    refine ⟨m, T7, 1, 1, fun _ _ => r, fun _ _ => r.num, (r.den : Int), rfl, h6.same s10, ⟨L2, upd_same, [.ref L1], k10 _ _ f2, rfl, fun i z hz => ?_⟩, by decide, by decide, den0, bd.den (by decide), fun i j _ _ => bd.mono (by decide), fun i j _ _ => (eq i j).symm, fun H' s11 => k H' (s10.trans s11)⟩
    match i, hz with
    | 0, hz =>
      cases hz
      exact ⟨L1, rfl, k10 _ _ f1'⟩
abbrev FitsC (P : Program) (w : World) (K : PySem.W.Frag) (mg : Str → Option Value) (base : Heap) (C CM CL : Addr) : Prop := CalG P w K mg base 12 "_law_fits" (spFits C CM CL) []
end
end Lw

namespace Lw
open PySem PySem.Spec PyProof.Rows L2 MG
/-! ### the facts compared -/
def markD (n x y s : Str) (r : Rat) : PyData := .tuple [.str n, .str x, .str y, .str s, .int r.num, .int r.den]
def factD (n x y s : Str) (r : Rat) : PyData := .tuple [.str n, .str x, .str y, .str s, .tuple [.int r.num, .int r.den]]
def same5 (n x y s : Str) (r : Rat) (n' x' y' s' : Str) (r' : Rat) : Bool := decide (n = n' ∧ x = x' ∧ y = y' ∧ s = s' ∧ r.num = r'.num ∧ (r.den : Int) = r'.den)
theorem eqv_mark {n x y s n' x' y' s' : Str} {r r' : Rat} : PyData.eqv (markD n x y s r) (markD n' x' y' s' r') = same5 n x y s r n' x' y' s' r' := by
  unfold markD same5
  simp only [PyData.eqv, PyData.eqvAll, Bool.and_true]
  rw [Bool.eq_iff_iff]
  simp
theorem eqv_fact {n x y s n' x' y' s' : Str} {r r' : Rat} : PyData.eqv (factD n x y s r) (factD n' x' y' s' r') = same5 n x y s r n' x' y' s' r' := by
  unfold factD same5
  simp only [PyData.eqv, PyData.eqvAll, Bool.and_true]
  rw [Bool.eq_iff_iff]
  simp
theorem same5_comm {n x y s n' x' y' s' : Str} {r r' : Rat} : same5 n x y s r n' x' y' s' r' = same5 n' x' y' s' r' n x y s r := by
  unfold same5
  exact decide_eq_decide.mpr ⟨fun ⟨a, b, c, d, e, f⟩ => ⟨a.symm, b.symm, c.symm, d.symm, e.symm, f.symm⟩, fun ⟨a, b, c, d, e, f⟩ => ⟨a.symm, b.symm, c.symm, d.symm, e.symm, f.symm⟩⟩
theorem same5_self {n x y s : Str} {r : Rat} : same5 n x y s r n x y s r = true := decide_eq_true ⟨rfl, rfl, rfl, rfl, rfl, rfl⟩
theorem sym_ok {s : Str} (hs : s = plainS ∨ s = symmS ∨ s = skewS) : Asc s := by
  rcases hs with rfl | rfl | rfl <;> exact asc_of _ (by decide +kernel)
theorem shp_mark {n x y s : Str} {r : Rat} (ok : FactOk n x y s r) : SeqAt.shaped (markD n x y s r) = true := by
  unfold SeqAt.shaped markD
  rw [Bool.and_eq_true]
  refine ⟨by simp [PyData.canLay0, PyData.canLayAll0, asc_ok (pl_asc (asc_lbl ok.hn)), asc_ok (asc_span ok.hx), asc_ok (asc_span ok.hy), asc_ok (sym_ok ok.hs)], decide_eq_true ?_⟩
  have h3 : (PyData.tuple [.str n, .str x, .str y, .str s, .int r.num, .int r.den]).depth ≤ 3 := by simp [PyData.depth, PyData.depthAll]
  omega
theorem shp_fact {n x y s : Str} {r : Rat} (ok : FactOk n x y s r) : SeqAt.shaped (factD n x y s r) = true := by
  unfold SeqAt.shaped factD
  rw [Bool.and_eq_true]
  refine ⟨by simp [PyData.canLay0, PyData.canLayAll0, asc_ok (pl_asc (asc_lbl ok.hn)), asc_ok (asc_span ok.hx), asc_ok (asc_span ok.hy), asc_ok (sym_ok ok.hs)], decide_eq_true ?_⟩
  have h3 : (PyData.tuple [.str n, .str x, .str y, .str s, .tuple [.int r.num, .int r.den]]).depth ≤ 3 := by simp [PyData.depth, PyData.depthAll]
  omega
section
variable {P : Program} {w : World} {K : PySem.W.Frag} {mg : Str → Option Value} {base : Heap} {C CM CL CT CQ CF CY aS aL f cda cc : Addr} {fd : FuncData} {tk t1 t2 t3 : Tok} {H H' : Hp}
theorem FAt.dp {p : Addr} {n x y s : Str} {r : Rat} (h : FAt H p n x y s r) : Dp K H (.ref p) (factD n x y s r) := by
  obtain ⟨pp, e1, e2⟩ := h.ex
  exact .tup (SqT.of e1) (.cons (.str n) (.cons (.str x) (.cons (.str y) (.cons (.str s) (.cons (dp_two e2) .nil)))))
theorem LtAt.keep {a q : Addr} {n x y s : Str} {r : Rat} {m : Nat} (h : LtAt C CM CL H a n x y s r) (hq : QAt H q m) (k : Keep q H H') : LtAt C CM CL H' a n x y s r := by
  obtain ⟨c, ns, i, rr, t, e, _⟩ := hq.ex
  obtain ⟨dx, t0, tL, p1, p2, mm, sz, mk, ra, h1, h2, h3, h4, h5, h6, h7, h8, d9, h9⟩ := h.ex
  have kp : ∀ {b : Addr} {o : HO}, H b = some o → (o = .lst [.ref c, .int i, .int rr, .int t] → False) → H' b = some o := fun hb hn => k.all _ _ hb (ne_of hb e hn)
  have h6' := (h6.hid e).same (hid_keep k)
  exact ⟨dx, t0, tL, p1, p2, mm, sz, mk, ra, kp h1 nofun, kp h2 nofun, kp h3 nofun, kp h4 nofun, kp h5 nofun, h6'.same (hid_same q H'), kp h7 nofun, kp h8 nofun, d9, kp h9 nofun⟩
/-- letters compared -/
theorem let_eq {a b : Addr} {n x y s n' x' y' s' : Str} {r r' : Rat} {Q : VK} {E : XK} (T : TxR K mg C) (TF : TxF K CL) (kLF : PySem.W.kitOne K (.ref CL) (.ref CY) = some true) (ha : LtAt C CM CL H a n x y s r) (hb : LtAt C CM CL H b n' x' y' s' r') (ok : FactOk n x y s r) (ok' : FactOk n' x' y' s' r')
    (k : Q (.bl (same5 n x y s r n' x' y' s' r')) H) : spFEq K CL CY [.ref a, .ref b] H Q E := by
  obtain ⟨dx, t0, tL, p1, p2, mm, sz, mk, ra, h1, h2, h3, h4, h5, h6, h7, h8, h9⟩ := ha.ex
  obtain ⟨dx', t0', tL', p1', p2', mm', sz', mk', ra', g1, g2, g3, g4, g5, g6, g7, g8, g9⟩ := hb.ex
  refine ⟨a, dx, _, "letter", .ref b, rfl, h1, rfl, .inr ⟨CL, b, dx', _, "letter", rfl, ins_tyx T TF g1, kLF, TF, g1, rfl, fun z => absurd rfl z, fun _ => ⟨.ref mk, .ref mk', markD n x y s r, markD n' x' y' s' r', rfl, rfl, ?_, ?_, shp_mark ok, shp_mark ok', ?_⟩⟩⟩
  · exact .tup (SqT.of h8) (.cons (.str n) (.cons (.str x) (.cons (.str y) (.cons (.str s) (.cons (.int _) (.cons (.int _) .nil))))))
  · exact .tup (SqT.of g8) (.cons (.str n') (.cons (.str x') (.cons (.str y') (.cons (.str s') (.cons (.int _) (.cons (.int _) .nil))))))
  · rw [eqv_mark]
    exact k
/-! ### _law_right -/
def spRight : Sp := fun vs H Q _ => ∃ q : Addr, vs = [.ref q] ∧ QAt H q 0 ∧ ∀ H', Keep q H H' → Q (.bl true) H'
/-- who is whose kind, and who comes first in a comparison -/
structure Kin (K : PySem.W.Frag) (CL CT CQ CY : Addr) : Prop where
  kLF : PySem.W.kitOne K (.ref CL) (.ref CY) = some true
  kTF : PySem.W.kitOne K (.ref CT) (.ref CY) = some true
  kQF : PySem.W.kitOne K (.ref CQ) (.ref CY) = some true
  kSF : PySem.W.kitOne K (.type "str") (.ref CY) = some false
  kNF : PySem.W.kitOne K (.type "NoneType") (.ref CY) = some false
  nLL : PySem.W.notFirst K CL (.ref CL) = true
  nLS : PySem.W.notFirst K CL (.type "str") = true
  nLN : PySem.W.notFirst K CL (.type "NoneType") = true
  nLT : PySem.W.notFirst K CL (.ref CT) = true
  nLQ : PySem.W.notFirst K CL (.ref CQ) = true
  nTL : PySem.W.notFirst K CT (.ref CL) = true
/-- a letter and a formula of another kind -/
theorem let_un {a b CG d : Addr} {us : List V} {k2 : Str} {n x y s : Str} {r : Rat} {Q : VK} {E : XK} (T : TxR K mg C) (TG : TxF K CG) (kGF : PySem.W.kitOne K (.ref CG) (.ref CY) = some true) (ha : LtAt C CM CL H a n x y s r)
    (hb : H b = some (.ins CG d (fN.zip us))) (hu : us[0]? = some (.str k2)) (ne : ("letter" : Str) ≠ k2) (k : Q (.bl false) H) : spFEq K CL CY [.ref a, .ref b] H Q E := by
  obtain ⟨dx, t0, tL, p1, p2, mm, sz, mk, ra, h1, h2, h3, h4, h5, h6, h7, h8, h9⟩ := ha.ex
  exact ⟨a, dx, _, "letter", .ref b, rfl, h1, rfl, .inr ⟨CG, b, d, us, k2, rfl, ins_tyx T TG hb, kGF, TG, hb, hu, fun _ => k, fun e => absurd e ne⟩⟩
theorem un_let {a b CG d : Addr} {us : List V} {k2 : Str} {n x y s : Str} {r : Rat} {Q : VK} {E : XK} (T : TxR K mg C) (TF : TxF K CL) (kLF : PySem.W.kitOne K (.ref CL) (.ref CY) = some true) (ha : LtAt C CM CL H a n x y s r)
    (hb : H b = some (.ins CG d (fN.zip us))) (hu : us[0]? = some (.str k2)) (ne : ("letter" : Str) ≠ k2) (k : Q (.bl false) H) : spFEq K CG CY [.ref b, .ref a] H Q E := by
  obtain ⟨dx, t0, tL, p1, p2, mm, sz, mk, ra, h1, h2, h3, h4, h5, h6, h7, h8, h9⟩ := ha.ex
  exact ⟨b, d, us, k2, .ref a, rfl, hb, hu, .inr ⟨CL, a, dx, _, "letter", rfl, ins_tyx T TF h1, kLF, TF, h1, rfl, fun _ => k, fun e => absurd e.symm ne⟩⟩
theorem let_no {a : Addr} {v : V} {ty : Value} {n x y s : Str} {r : Rat} {Q : VK} {E : XK} (ha : LtAt C CM CL H a n x y s r) (hv : TyX K H v ty) (kv : PySem.W.kitOne K ty (.ref CY) = some false) (k : Q (.bl false) H) : spFEq K CL CY [.ref a, v] H Q E := by
  obtain ⟨dx, t0, tL, p1, p2, mm, sz, mk, ra, h1, h2, h3, h4, h5, h6, h7, h8, h9⟩ := ha.ex
  exact ⟨a, dx, _, "letter", v, rfl, h1, rfl, .inl ⟨ty, hv, kv, k⟩⟩
theorem LtAt.ins {a : Addr} {n x y s : Str} {r : Rat} (h : LtAt C CM CL H a n x y s r) : ∃ dx fs, H a = some (.ins CL dx fs) := by
  obtain ⟨dx, t0, tL, p1, p2, mm, sz, mk, ra, h1, _⟩ := h.ex
  exact ⟨dx, _, h1⟩
theorem sc__law_right : FnScope ["_law_q", "_law_facts_here", "_law_one", "_law_two", "_law_turn", "_law_bent_here", "_law_third"] ["_law_q"] (defScope s__law_right) := ⟨rfl, rfl, rfl, by decide +kernel, rfl, by decide +kernel, by decide +kernel⟩
theorem ok_right {f : Addr} {fd : FuncData} (F : Fun K "_law_right" "_law_right" s__law_right f fd) (T : TxR K mg C) (TF : TxF K CL) (TT : TxF K CT) (TQ : TxF K CQ) (N : Kin K CL CT CQ CY) (c_facts : FactsC P w K mg base) (c_made : LMadeC P w K mg base C CM CL) (c_fits : FitsC P w K mg base C CM CL) (c_bent : BentC P w K mg base)
    (o_leq : FEqC P w K mg base CL CY) (o_teq : FEqC P w K mg base CT CY) (pl_transposed : TrPC P w K mg base C CM CL CT) (m_eyeF : EyeC P w K mg base CQ) : FnG P w K mg base CX0 24 f fd ["_law_q"] spRight := by
  refine fun_okG F sc__law_right (fun vs H Q E h => ?_) (fun cdv A outer s H vs Q E bare hr h => ?_)
  · obtain ⟨q, rfl, _⟩ := h
    rfl
  · obtain ⟨q, rfl, hq, k⟩ := h
    have hu64 := hr.units
    refine ⟨_, (pss_cons (ps_cut (ps_set (i := 1) sc__law_right.nd rfl (Or.inl rfl) (pe_cg c_facts bare hr (by decide) rfl (pa_cons (pv 0) pa_nil))))
  (pss_cons (ps_cut (ps_par (i := 2) (j := 3) (by rfl) sc__law_right.nd rfl rfl (by decide) rfl rfl (pa_cons (pe_cg c_made bare hr (by decide) rfl (pa_cons (pv 0) (pa_cons (pv 1) pa_nil))) (pa_cons (pe_cg c_made bare hr (by decide) rfl (pa_cons (pv 0) (pa_cons (pv 1) pa_nil))) pa_nil)) (by rfl)))
  (pss_cons (ps_cut (ps_if (PW.pt (pw_or (pt_not (pt_val (pe_cg c_fits bare hr (by decide) rfl (pa_cons (pv 2) (pa_cons (pv 1) pa_nil))))) (pw_or (pt_not (pt_val (pe_cg c_fits bare hr (by decide) rfl (pa_cons (pv 3) (pa_cons (pv 1) pa_nil))))) (pw_or (pt_not (pt_cmpR (eq_a (K := K) o_leq hr (by decide)) (pv 2) (pv 3) (nomark _))) (pw_or1 (pt_cmpR (ne_a (K := K) o_leq hr (by decide)) (pv 2) (pv 3) (nomark _))))))) (pss_one (ps_ret pe_bl))
  pss_nil))
  (pss_cons (ps_cut (ps_for PassesOwn.never rfl (pi_range1 (by rfl) T.b_range (pa_cons pe_int pa_nil)) (pg_name (i := 4) sc__law_right.nd rfl (Or.inl rfl))
  (pss_cons (ps_set (i := 5) sc__law_right.nd rfl (Or.inl rfl) (pe_cg c_bent bare hr (by decide) rfl (pa_cons (pv 0) (pa_cons (pv 1) pa_nil))))
  (pss_cons (ps_set (i := 6) sc__law_right.nd rfl (Or.inl rfl) (pe_cg c_made bare hr (by decide) rfl (pa_cons (pv 0) (pa_cons (pv 5) pa_nil))))
  (pss_one (ps_cut (ps_if (PW.pt (pw_or (pt_not (pt_val (pe_cg c_fits bare hr (by decide) rfl (pa_cons (pv 6) (pa_cons (pv 5) pa_nil))))) (pw_or (pt_cmpR op_ne (pe_cmpR (eq_a (K := K) o_leq hr (by decide)) (pv 2) (pv 6) (nomark _)) (pe_cmpR (op_eqD hu64) (pv 5) (pv 1) (nomark _)) (nomark _)) (pw_or1 (pt_cmpR op_ne (pe_cmpR (ne_a (K := K) o_leq hr (by decide)) (pv 6) (pv 2) (nomark _)) (pe_cmpR (op_neD hu64) (pv 5) (pv 1) (nomark _)) (nomark _)))))) (pss_one (ps_ret pe_bl))
  pss_nil)))))))
  (pss_cons (ps_cut (ps_cut (ps_if (PW.pt (pw_or (pt_cmpR (eq_a (K := K) o_leq hr (by decide)) (pv 2) (pe_ix (ix_tupK (K := K)) (pv 1) pe_int (fun _ _ => rfl)) (nomark _)) (pw_or (pt_cmpR (eq_a (K := K) o_leq hr (by decide)) (pv 2) pe_non (nomark _)) (pw_or (pt_cmpR (eq_a (K := K) o_leq hr (by decide)) (pv 2) (pe_pf pl_transposed TF.cl hr (by decide) (pv 2) rfl) (nomark _)) (pw_or (pt_cmpR (eq_a (K := K) o_teq hr (by decide)) (pe_pf pl_transposed TF.cl hr (by decide) (pv 2) rfl) (pv 2) (nomark _)) (pw_or1 (pt_cmpR (eq_a (K := K) o_leq hr (by decide)) (pv 2) (pe_mkf m_eyeF hr (by decide) rfl (pa_cons (pe_ix (ix_tupK (K := K)) (pv 1) pe_int (fun _ _ => rfl)) pa_nil)) (nomark _)))))))) (pss_one (ps_ret pe_bl))
  pss_nil)))
  (pss_one (ps_cut (ps_ret (pe_cg c_fits bare hr (by decide) rfl (pa_cons (pv 2) (pa_cons (pv 1) pa_nil))))))))))), ?_⟩
    -- facts
    refine ⟨fun σ G => ∃ p n x y s r, σ = [some (.ref q), some (.ref p), none, none, none, none, none] ∧ FAt G p n x y s r ∧ Bd r 44 ∧ Keep q H G ∧ QAt G q 40, ?_, ?_⟩
    · exact ⟨_, rfl, q, 0, rfl, hq, by decide, fun p n x y s r G k1 q1 h1 b1 => ⟨p, n, x, y, s, r, rfl, h1, b1, k1, QAt.le q1 (by decide)⟩⟩
    rintro _ G0 ⟨p, n, x, y, sm, r, rfl, hp, bd, k0, q0⟩
    have bd5 : Bd r 45 := bd.mono (by decide)
    have ok := hp.ok
    -- one, two
    refine ⟨fun σ G => ∃ a b, σ = [some (.ref q), some (.ref p), some (.ref a), some (.ref b), none, none, none] ∧ LtAt C CM CL G a n x y sm r ∧ LtAt C CM CL G b n x y sm r ∧ FAt G p n x y sm r ∧ Keep q H G ∧ QAt G q 44, ?_, ?_⟩
    · refine ⟨_, rfl, _, rfl, q, p, 40, n, x, y, sm, r, rfl, q0, by decide, hp, bd5, fun a G1 k1 q1 h1 => ?_⟩
      refine ⟨_, rfl, _, rfl, q, p, 42, n, x, y, sm, r, rfl, q1, by decide, hp.keep q0 k1, bd5, fun b G2 k2 q2 h2 => ?_⟩
      exact ⟨_, _, rfl, a, b, rfl, h1.keep q1 k2, h2, (hp.keep q0 k1).keep q1 k2, (k0.trans k1).trans k2, q2⟩
    clear k0 q0 hp
    rintro _ G1 ⟨a, b, rfl, ha, hb, hp, k1, q1⟩
    -- the first test
    refine ⟨fun σ G => σ = [some (.ref q), some (.ref p), some (.ref a), some (.ref b), none, none, none] ∧ Same G1 G, ?_, ?_⟩
    · refine ⟨_, rfl, _, rfl, a, p, n, x, y, sm, r, rfl, ha, hp, bd5, fun G2 s2 => ⟨_, rfl, iteF ?_⟩⟩
      refine ⟨_, rfl, _, rfl, b, p, n, x, y, sm, r, rfl, hb.same s2, ⟨hp.ex.elim fun pp e => ⟨pp, s2 _ _ e.1, s2 _ _ e.2⟩, ok⟩, bd5, fun G3 s3 => ⟨_, rfl, iteF ?_⟩⟩
      have s13 := s2.trans s3
      obtain ⟨da, fa, ea⟩ := (ha.same s13).ins
      obtain ⟨db, fb, eb⟩ := (hb.same s13).ins
      refine ⟨_, rfl, _, rfl, a, da, fa, .ref CL, rfl, ea, ins_tyx T TF eb, N.nLL, let_eq T TF N.kLF (ha.same s13) (hb.same s13) ok ok ⟨_, rfl, ?_⟩⟩
      rw [same5_self]
      refine iteF ?_
      refine ⟨_, rfl, _, rfl, a, da, fa, .ref CL, rfl, ea, ins_tyx T TF eb, N.nLL, let_eq T TF N.kLF (ha.same s13) (hb.same s13) ok ok ⟨_, rfl, ?_⟩⟩
      rw [same5_self]
      exact ⟨_, rfl, iteF ⟨rfl, s13⟩⟩
    rintro _ G2 ⟨rfl, s2⟩
    replace k1 := k1.same s2
    replace q1 := q1.keep s2
    replace ha := ha.same s2
    have hp2 : FAt G2 p n x y sm r := ⟨hp.ex.elim fun pp e => ⟨pp, s2 _ _ e.1, s2 _ _ e.2⟩, ok⟩
    clear hp hb s2
    -- the loop
    refine ⟨fun σ G => ∃ v4 v5 v6, σ = [some (.ref q), some (.ref p), some (.ref a), some (.ref b), v4, v5, v6] ∧ LtAt C CM CL G a n x y sm r ∧ FAt G p n x y sm r ∧ Keep q H G ∧ QAt G q 60, ?_, ?_⟩
    · refine ⟨_, rfl, by decide, by decide, ?_⟩
      refine for_range (lo := 0) (n := 4) (fun i σ G => ∃ v4 v5 v6, σ = [some (.ref q), some (.ref p), some (.ref a), some (.ref b), v4, v5, v6] ∧ LtAt C CM CL G a n x y sm r ∧ FAt G p n x y sm r ∧ Keep q H G ∧ QAt G q (44 + 3 * i)) ⟨none, none, none, rfl, ha, hp2, k1, q1⟩ ?_ ?_
      rotate_left
      · rintro σ G ⟨v4, v5, v6, rfl, h1, h2, h3, h4⟩
        exact ⟨v4, v5, v6, rfl, h1, h2, h3, QAt.le h4 (by decide)⟩
      rintro i σ G hi ⟨v4, v5, v6, rfl, ha, hp, k1, q1⟩
      refine ⟨_, rfl, _, rfl, q, p, 44 + 3 * i, n, x, y, sm, r, rfl, q1, by omega, hp, bd, fun p3 n' x' y' s' r' G3 k3 q3 h3 b3 => ?_⟩
      refine ⟨_, rfl, _, rfl, q, p3, 44 + 3 * i + 1, n', x', y', s', r', rfl, q3, by omega, h3, b3, fun c G4 k4 q4 h4 => ?_⟩
      have ok' := h3.ok
      have ha4 := (ha.keep q1 k3).keep q3 k4
      have hp4 := (hp.keep q1 k3).keep q3 k4
      have h34 := h3.keep q3 k4
      have k14 := (k1.trans k3).trans k4
      clear ha hp h3 k1 k3 k4 q1 q3
      refine ⟨fun σ G => (∃ v4 v5 v6, σ = [some (.ref q), some (.ref p), some (.ref a), some (.ref b), v4, v5, v6]) ∧ Same G4 G, ?_, ?_⟩
      · refine ⟨_, rfl, _, rfl, c, p3, n', x', y', s', r', rfl, h4, h34, b3, fun G5 s5 => ⟨_, rfl, iteF ?_⟩⟩
        have ha5 := ha4.same s5
        have hc5 := h4.same s5
        have fB : FAt G5 p n x y sm r := ⟨hp4.ex.elim fun pp e => ⟨pp, s5 _ _ e.1, s5 _ _ e.2⟩, ok⟩
        have fT : FAt G5 p3 n' x' y' s' r' := ⟨h34.ex.elim fun pp e => ⟨pp, s5 _ _ e.1, s5 _ _ e.2⟩, ok'⟩
        obtain ⟨da, fa, ea⟩ := ha5.ins
        obtain ⟨dc, fc, ec⟩ := hc5.ins
        refine ⟨_, rfl, _, rfl, a, da, fa, .ref CL, rfl, ea, ins_tyx T TF ec, N.nLL, let_eq T TF N.kLF ha5 hc5 ok ok' ⟨_, rfl, _, rfl, _, _, fT.dp, fB.dp, shp_fact ok', shp_fact ok, rfl, _, rfl, ?_⟩⟩
        rw [eqv_fact, same5_comm (n := n') (n' := n)]
        refine ifF (nd_self _) ?_
        refine ⟨_, rfl, _, rfl, c, dc, fc, .ref CL, rfl, ec, ins_tyx T TF ea, N.nLL, let_eq T TF N.kLF hc5 ha5 ok' ok ⟨_, rfl, _, rfl, _, rfl, _, _, fT.dp, fB.dp, shp_fact ok', shp_fact ok, rfl, _, rfl, ?_⟩⟩
        rw [eqv_fact]
        exact ifF (nd_self _) ⟨⟨_, _, _, rfl⟩, s5⟩
      rintro _ G5 ⟨⟨v4, v5, v6, rfl⟩, s5⟩
      exact ⟨v4, v5, v6, rfl, ha4.same s5, ⟨hp4.ex.elim fun pp e => ⟨pp, s5 _ _ e.1, s5 _ _ e.2⟩, ok⟩, k14.same s5, QAt.le (q4.keep s5) (by omega)⟩
    clear ha hp2 k1 q1
    rintro _ G1 ⟨v4, v5, v6, rfl, ha, hp, k1, q1⟩
    obtain ⟨pp, ep, epp⟩ := hp.ex
    refine ⟨fun σ G => σ = [some (.ref q), some (.ref p), some (.ref a), some (.ref b), v4, v5, v6] ∧ Same G1 G, ?_, ?_⟩
    · refine ⟨fun σ G => σ = [some (.ref q), some (.ref p), some (.ref a), some (.ref b), v4, v5, v6] ∧ Same G1 G, ?_, fun _ _ h => h⟩
      have ln : n.length ≤ 100 := Nat.le_trans (lbl_len ok.hn) (by decide)
      have nt : ("letter" : Str) ≠ "transposed" := by decide +kernel
      have ne : ("letter" : Str) ≠ "eye" := by decide +kernel
      obtain ⟨da, fa, ea⟩ := ha.ins
      refine ⟨_, rfl, _, rfl, p, _, _, _, rfl, rfl, SqT.of ep, rfl, a, da, fa, .type "str", rfl, ea, .base (.str n), N.nLS, let_no ha (.base (.str n)) N.kSF ⟨_, rfl, iteF ?_⟩⟩
      refine ⟨_, rfl, a, da, fa, .type "NoneType", rfl, ea, .base .non, N.nLN, let_no ha (.base .non) N.kNF ⟨_, rfl, iteF ?_⟩⟩
      refine ⟨_, rfl, .ref a, rfl, a, da, fa, rfl, ea, a, n, x, y, sm, r, rfl, ha, ln, fun c d us G2 s2 ec eu => ?_⟩
      refine ⟨a, da, fa, .ref CT, rfl, s2 _ _ ea, ins_tyx T TT ec, N.nLT, let_un T TT N.kTF (ha.same s2) ec eu nt ⟨_, rfl, iteF ?_⟩⟩
      clear ec eu
      refine ⟨.ref a, rfl, a, da, fa, rfl, s2 _ _ ea, a, n, x, y, sm, r, rfl, ha.same s2, ln, fun c d us G3 s3 ec eu => ?_⟩
      have s23 := s2.trans s3
      refine ⟨_, rfl, c, d, _, .ref CL, rfl, ec, ins_tyx T TF (s23 _ _ ea), N.nTL, un_let T TF N.kLF (ha.same s23) ec eu nt ⟨_, rfl, iteF ?_⟩⟩
      clear ec eu s2 s3
      refine ⟨_, rfl, _, rfl, p, _, _, _, rfl, rfl, SqT.of (s23 _ _ ep), rfl, fun c d hc hd hne => ?_⟩
      have s4 : Same G3 (upd (upd G3 d (.own c)) c (.ins CQ d [])) := MG.Same.new (MG.Same.new (Same.refl G3) hd) (by rw [upd_ne (fun e => hne e.symm)]; exact hc)
      refine ⟨c, d, x, rfl, upd_same, ok.hx, fun G5 us bt ec eu => ⟨rfl, ?_⟩⟩
      have s5 := s23.trans (made_same (C := CQ) hc hd bt)
      exact ⟨a, da, fa, .ref CQ, rfl, s5 _ _ ea, ins_tyx T TQ ec, N.nLQ, let_un T TQ N.kQF (ha.same s5) ec eu ne ⟨_, rfl, iteF ⟨rfl, s5⟩⟩⟩
    rintro _ G2 ⟨rfl, s2⟩
    refine ⟨fun _ _ => False, ?_, fun _ _ h => h.elim⟩
    exact ⟨_, rfl, _, rfl, a, p, n, x, y, sm, r, rfl, ha.same s2, ⟨⟨pp, s2 _ _ ep, s2 _ _ epp⟩, ok⟩, bd5, fun G3 s3 => k _ (k1.same (s2.trans s3))⟩
end
end Lw

namespace Lw
open PySem PySem.Spec PyProof.Rows L2 MG TL
section
variable {P : Program} {w : World} {K : PySem.W.Frag} {mg : Str → Option Value} {base : Heap} {H H' : Hp}
/-! ### law -/
def spLaw (K : PySem.W.Frag) : Sp := fun vs H Q _ => ∃ (a : Addr) (ns : List Int), vs = [.ref a] ∧ SqL K H a (ns.map V.int) ∧ ns.length ≤ 63 ∧ ∀ H', Q (.bl true) H'
theorem sc_law : FnScope ["_law_script", "_law_k"] ["_law_script"] (defScope s_law) := ⟨rfl, rfl, rfl, by decide +kernel, rfl, by decide +kernel, by decide +kernel⟩
theorem ok_law {f : Addr} {fd : FuncData} (F : Fun K "law" "law" s_law f fd) (T : Blt mg) (c_from : CalG P w K mg base 4 "_law_from" (spFrom K) []) (c_right : CalG P w K mg base 24 "_law_right" spRight []) :
    FnG P w K mg base CX0 26 f fd ["_law_script"] (spLaw K) := by
  refine fun_okG F sc_law (fun vs H Q E h => ?_) (fun cdv A outer s H vs Q E bare hr h => ?_)
  · obtain ⟨a, ns, rfl, _⟩ := h
    rfl
  · obtain ⟨a, ns, rfl, hS, hl, k⟩ := h
    refine ⟨_, (pss_one (ps_ret (pe_callB (id := "all") (cr_allK (K := K) rfl) (by rfl) T.b_all (by decide +kernel) (pa_cons (pe_lcI (pe_lc (own := [("_law_k", 1)]) rfl sc_law.nd (pi_range1 (by rfl) T.b_range (pa_cons (pe_callB (id := "max") (call_max2 rfl) (by rfl) T.b_max (by decide +kernel) (pa_cons pe_int (pa_cons (pe_callB (id := "min") (call_min2 rfl) (by rfl) T.b_min (by decide +kernel) (pa_cons (pe_callB (id := "len") (call_len_seqK (K := K)) (by rfl) T.b_len (by decide +kernel) (pa_cons (pv 0) pa_nil)) (pa_cons pe_int pa_nil))) pa_nil))) pa_nil)) (blkOk_by (N := ["_law_script", "_law_k"]) (sc := (defScope s_law)) (by decide +kernel)) (fun _ _ _ _ _ => (pg_name (i := 1) sc_law.nd rfl (Or.inl rfl))) (fun _ _ _ _ _ => pts_nil) (fun _ _ _ _ _ => (pe_cut (pe_cg c_right bare hr (by decide) rfl (pa_cons (pe_cg c_from bare hr (by decide) rfl (pa_cons (pv 0) (pa_cons (pv 1) pa_nil))) pa_nil)))))) pa_nil)))), ?_⟩
    have hS2 := hS
    have hm : ∃ m : Nat, (m : Int) = (if (if (5 : Int) < ((ns.map V.int).length : Int) then 5 else ((ns.map V.int).length : Int)) > 1 then (if (5 : Int) < ((ns.map V.int).length : Int) then 5 else ((ns.map V.int).length : Int)) else 1) ∧ m ≤ 63 := by
      rw [List.length_map]
      refine ⟨(if (if (5 : Int) < (ns.length : Int) then 5 else (ns.length : Int)) > 1 then (if (5 : Int) < (ns.length : Int) then 5 else (ns.length : Int)) else 1).toNat, ?_, ?_⟩
      · split <;> (try split) <;> omega
      · split <;> (try split) <;> omega
    obtain ⟨m, em, hm⟩ := hm
    refine ⟨_, rfl, a, _, rfl, .inl hS2, _, _, rfl, _, _, rfl, _, rfl, ?_, ?_, fun D hD => ?_⟩
    · rw [← em]; omega
    · rw [← em]; omega
    have hh : (if (if (5 : Int) < ((ns.map V.int).length : Int) then 5 else ((ns.map V.int).length : Int)) > 1 then (if (5 : Int) < ((ns.map V.int).length : Int) then 5 else ((ns.map V.int).length : Int)) else 1).toNat = m := by rw [← em]; omega
    rw [hh]
    refine lc_same (walk_range (lo := 0) (n := m)) hD (by omega) (fun _ y _ => y = .bl true) (fun _ _ _ _ r _ => r) (fun _ _ => True.intro) (fun i H x H' y => y.1 ▸ Same.refl _) ?_ ?_
    · rintro i _ H _ hi s1 _ ⟨rfl, rfl⟩
      refine ⟨_, fun _ h => h, wipe_one, _, rfl, _, rfl, a, ns, _, rfl, ?_, by omega, fun q H2 hq s q0 => ⟨q, rfl, q0, fun H3 k2 => ⟨fun b o hb => k2 _ _ (s _ _ hb) (ne_of_none hb hq), fun _ => rfl⟩⟩⟩
      exact s1.seq hS2
    intro ys H2 hl2 s2 e2 h2
    obtain ⟨bs2, hb2, ab2⟩ := all_bl (K := K) e2 h2
    refine ⟨D, bs2, rfl, hb2, ?_⟩
    rw [ab2]
    exact k _
end
end Lw

namespace Lw
open PySem PySem.Spec PyProof.Rows L2 MG
theorem kit_rc {K : PySem.W.Frag} {D C : Addr} {b : Bool} (h1 : PySem.W.isClsIn K C = true) (h2 : PySem.W.typeIn K (.ref C) = some (.type "type")) (n : D ≠ C) (h : PySem.W.subIn K (.ref D) (.ref C) = some b) : PySem.W.kitOne K (.ref D) (.ref C) = some b := by
  have e : (Value.ref D == Value.ref C) = false := beq_eq_false_iff_ne.mpr fun q => n (by cases q; rfl)
  unfold PySem.W.kitOne
  rw [e]
  show (if ((PySem.W.clsIn K C).isSome && PySem.W.typeIn K (.ref C) == some (.type "type")) = true then PySem.W.subIn K (.ref D) (.ref C) else none) = some b
  have h1' : (PySem.W.clsIn K C).isSome = true := h1
  rw [h1', h2, if_pos (by simp), h]
theorem gK_rel {us ws : List V} {us' ws' : List Value} (r1 : Vals us us') (r2 : Vals ws ws') : Vals (gK us ws) (gK us' ws') := by
  cases r2 with
  | nil => exact r1.append .nil
  | cons h1 t1 =>
    cases t1 with
    | nil => exact r1.append (.cons h1 .nil)
    | cons h2 t2 =>
      cases t2 with
      | nil => exact r1.append (.cons h1 (.cons h2 .nil))
      | cons h3 t3 =>
        cases t3 with
        | nil => exact r1.append (.cons h1 (.cons h2 (.cons h3 .nil)))
        | cons h4 t4 =>
          cases t4 with
          | nil => exact r1.append (.cons h1 (.cons h2 (.cons h3 (.cons h4 .nil))))
          | cons h5 t5 =>
            cases t5 with
            | nil => exact r1.append (.cons h3 (.cons h1 (.cons h5 (.cons h4 (.cons h2 .nil)))))
            | cons h6 t6 => exact r1.append (.cons h1 (.cons h2 (.cons h3 (.cons h4 (.cons h5 (.cons h6 t6))))))
theorem all_mk {l : PySem.W.OpenLaw} {w : World} {K : PySem.W.Frag} {h : Heap} {mg : Str → Option Value} {fa fD0 fD1 fD2 fD3 fD4 fD5 fD6 fD7 fD8 fD9 fD10 fD11 fD12 fD13 fD14 fD15 fD16 fD17 fD18 fD19 fD20 fD21 fD22 fD23 fD24 fD25 fD26 fD27 fD28 C CL CM fM0 fM1 fM2 fM3 fM4 fP0 pP0 fP1 pP1 fP2 pP2 fP3 pP3 fP4 pP4 fP5 pP5 fP6 pP6 fP7 pP7 fP8 pP8 fP9 pP9 fP10 pP10 fP11 pP11 fP12 pP12 fP13 pP13 fP14 pP14 fP15 pP15 fP16 pP16 fP17 pP17 fI tI : Addr} (X : K.In h) (G : h.Ns mainGlobals mg) (hfa : mg "law" = some (.ref fa))
    {odD0 anD0 : Option Addr} {slD0 : Array (Option Value)} {ocD0 kVD0 dcD0 pmD0 cdD0 ctD0 : Value}
    {odD1 anD1 : Option Addr} {slD1 : Array (Option Value)} {ocD1 kVD1 dcD1 pmD1 cdD1 ctD1 : Value}
    {odD2 anD2 : Option Addr} {slD2 : Array (Option Value)} {ocD2 kVD2 dcD2 pmD2 cdD2 ctD2 : Value}
    {odD3 anD3 : Option Addr} {slD3 : Array (Option Value)} {ocD3 kVD3 dcD3 pmD3 cdD3 ctD3 : Value}
    {odD4 anD4 : Option Addr} {slD4 : Array (Option Value)} {ocD4 kVD4 dcD4 pmD4 cdD4 ctD4 : Value}
    {odD5 anD5 : Option Addr} {slD5 : Array (Option Value)} {ocD5 kVD5 dcD5 pmD5 cdD5 ctD5 : Value}
    {odD6 anD6 : Option Addr} {slD6 : Array (Option Value)} {ocD6 kVD6 dcD6 pmD6 cdD6 ctD6 : Value}
    {odD7 anD7 : Option Addr} {slD7 : Array (Option Value)} {ocD7 kVD7 dcD7 pmD7 cdD7 ctD7 : Value}
    {odD8 anD8 : Option Addr} {slD8 : Array (Option Value)} {ocD8 kVD8 dcD8 pmD8 cdD8 ctD8 : Value}
    {odD9 anD9 : Option Addr} {slD9 : Array (Option Value)} {ocD9 kVD9 dcD9 pmD9 cdD9 ctD9 : Value}
    {odD10 anD10 : Option Addr} {slD10 : Array (Option Value)} {ocD10 kVD10 dcD10 pmD10 cdD10 ctD10 : Value}
    {odD11 anD11 : Option Addr} {slD11 : Array (Option Value)} {ocD11 kVD11 dcD11 pmD11 cdD11 ctD11 : Value}
    {odD12 anD12 : Option Addr} {slD12 : Array (Option Value)} {ocD12 kVD12 dcD12 pmD12 cdD12 ctD12 : Value}
    {odD13 anD13 : Option Addr} {slD13 : Array (Option Value)} {ocD13 kVD13 dcD13 pmD13 cdD13 ctD13 : Value}
    {odD14 anD14 : Option Addr} {slD14 : Array (Option Value)} {ocD14 kVD14 dcD14 pmD14 cdD14 ctD14 : Value}
    {odD15 anD15 : Option Addr} {slD15 : Array (Option Value)} {ocD15 kVD15 dcD15 pmD15 cdD15 ctD15 : Value}
    {odD16 anD16 : Option Addr} {slD16 : Array (Option Value)} {ocD16 kVD16 dcD16 pmD16 cdD16 ctD16 : Value}
    {odD17 anD17 : Option Addr} {slD17 : Array (Option Value)} {ocD17 kVD17 dcD17 pmD17 cdD17 ctD17 : Value}
    {odD18 anD18 : Option Addr} {slD18 : Array (Option Value)} {ocD18 kVD18 dcD18 pmD18 cdD18 ctD18 : Value}
    {odD19 anD19 : Option Addr} {slD19 : Array (Option Value)} {ocD19 kVD19 dcD19 pmD19 cdD19 ctD19 : Value}
    {odD20 anD20 : Option Addr} {slD20 : Array (Option Value)} {ocD20 kVD20 dcD20 pmD20 cdD20 ctD20 : Value}
    {odD21 anD21 : Option Addr} {slD21 : Array (Option Value)} {ocD21 kVD21 dcD21 pmD21 cdD21 ctD21 : Value}
    {odD22 anD22 : Option Addr} {slD22 : Array (Option Value)} {ocD22 kVD22 dcD22 pmD22 cdD22 ctD22 : Value}
    {odD23 anD23 : Option Addr} {slD23 : Array (Option Value)} {ocD23 kVD23 dcD23 pmD23 cdD23 ctD23 : Value}
    {odD24 anD24 : Option Addr} {slD24 : Array (Option Value)} {ocD24 kVD24 dcD24 pmD24 cdD24 ctD24 : Value}
    {odD25 anD25 : Option Addr} {slD25 : Array (Option Value)} {ocD25 kVD25 dcD25 pmD25 cdD25 ctD25 : Value}
    {odD26 anD26 : Option Addr} {slD26 : Array (Option Value)} {ocD26 kVD26 dcD26 pmD26 cdD26 ctD26 : Value}
    {odD27 anD27 : Option Addr} {slD27 : Array (Option Value)} {ocD27 kVD27 dcD27 pmD27 cdD27 ctD27 : Value}
    {odD28 anD28 : Option Addr} {slD28 : Array (Option Value)} {ocD28 kVD28 dcD28 pmD28 cdD28 ctD28 : Value}
    {odM0 anM0 : Option Addr} {slM0 : Array (Option Value)} {ocM0 kVM0 dcM0 pmM0 cdM0 ctM0 : Value}
    {odM1 anM1 : Option Addr} {slM1 : Array (Option Value)} {ocM1 kVM1 dcM1 pmM1 cdM1 ctM1 : Value}
    {odM2 anM2 : Option Addr} {slM2 : Array (Option Value)} {ocM2 kVM2 dcM2 pmM2 cdM2 ctM2 : Value}
    {odM3 anM3 : Option Addr} {slM3 : Array (Option Value)} {ocM3 kVM3 dcM3 pmM3 cdM3 ctM3 : Value}
    {odM4 anM4 : Option Addr} {slM4 : Array (Option Value)} {ocM4 kVM4 dcM4 pmM4 cdM4 ctM4 : Value}
    {reP0 : List Value}
    {odP0 anP0 : Option Addr} {slP0 : Array (Option Value)} {ocP0 kVP0 dcP0 pmP0 cdP0 ctP0 : Value}
    {reP1 : List Value}
    {odP1 anP1 : Option Addr} {slP1 : Array (Option Value)} {ocP1 kVP1 dcP1 pmP1 cdP1 ctP1 : Value}
    {reP2 : List Value}
    {odP2 anP2 : Option Addr} {slP2 : Array (Option Value)} {ocP2 kVP2 dcP2 pmP2 cdP2 ctP2 : Value}
    {reP3 : List Value}
    {odP3 anP3 : Option Addr} {slP3 : Array (Option Value)} {ocP3 kVP3 dcP3 pmP3 cdP3 ctP3 : Value}
    {reP4 : List Value}
    {odP4 anP4 : Option Addr} {slP4 : Array (Option Value)} {ocP4 kVP4 dcP4 pmP4 cdP4 ctP4 : Value}
    {reP5 : List Value}
    {odP5 anP5 : Option Addr} {slP5 : Array (Option Value)} {ocP5 kVP5 dcP5 pmP5 cdP5 ctP5 : Value}
    {reP6 : List Value}
    {odP6 anP6 : Option Addr} {slP6 : Array (Option Value)} {ocP6 kVP6 dcP6 pmP6 cdP6 ctP6 : Value}
    {reP7 : List Value}
    {odP7 anP7 : Option Addr} {slP7 : Array (Option Value)} {ocP7 kVP7 dcP7 pmP7 cdP7 ctP7 : Value}
    {reP8 : List Value}
    {odP8 anP8 : Option Addr} {slP8 : Array (Option Value)} {ocP8 kVP8 dcP8 pmP8 cdP8 ctP8 : Value}
    {reP9 : List Value}
    {odP9 anP9 : Option Addr} {slP9 : Array (Option Value)} {ocP9 kVP9 dcP9 pmP9 cdP9 ctP9 : Value}
    {reP10 : List Value}
    {odP10 anP10 : Option Addr} {slP10 : Array (Option Value)} {ocP10 kVP10 dcP10 pmP10 cdP10 ctP10 : Value}
    {reP11 : List Value}
    {odP11 anP11 : Option Addr} {slP11 : Array (Option Value)} {ocP11 kVP11 dcP11 pmP11 cdP11 ctP11 : Value}
    {reP12 : List Value}
    {odP12 anP12 : Option Addr} {slP12 : Array (Option Value)} {ocP12 kVP12 dcP12 pmP12 cdP12 ctP12 : Value}
    {reP13 : List Value}
    {odP13 anP13 : Option Addr} {slP13 : Array (Option Value)} {ocP13 kVP13 dcP13 pmP13 cdP13 ctP13 : Value}
    {reP14 : List Value}
    {odP14 anP14 : Option Addr} {slP14 : Array (Option Value)} {ocP14 kVP14 dcP14 pmP14 cdP14 ctP14 : Value}
    {reP15 : List Value}
    {odP15 anP15 : Option Addr} {slP15 : Array (Option Value)} {ocP15 kVP15 dcP15 pmP15 cdP15 ctP15 : Value}
    {reP16 : List Value}
    {odP16 anP16 : Option Addr} {slP16 : Array (Option Value)} {ocP16 kVP16 dcP16 pmP16 cdP16 ctP16 : Value}
    {reP17 : List Value}
    {odP17 anP17 : Option Addr} {slP17 : Array (Option Value)} {ocP17 kVP17 dcP17 pmP17 cdP17 ctP17 : Value}
    {odI anI : Option Addr} {slI : Array (Option Value)} {ocI kVI dcI pmI cdI ctI : Value}
    {oT : Obj} {nT : Nat} {kT : Tok}
    {CY : Addr}
    {CT : Addr}
    {CQ : Addr}
    {tk q1 q2 q3 : Tok}
    {tSY : Addr} {oSY : Obj} {nSY : Nat} {ky1 ky2 ky3 : Tok}
    {tLE : Addr} {oLE : Obj} {nLE : Nat} {ke1 ke2 : Tok}
    {fME tME : Addr} {odME anME : Option Addr} {slME : Array (Option Value)} {ocME kVME dcME pmME cdME ctME : Value} {oTM : Obj} {nTM : Nat} {kTM : Tok}
    {pRE fRE : Addr} {reRE : List Value} {odRE anRE : Option Addr} {slRE : Array (Option Value)} {ocRE kVRE dcRE pmRE cdRE ctRE : Value}
    {fLI cdaL ccL : Addr} {odLI anLI : Option Addr} {slLI : Array (Option Value)} {ocLI dcLI pmLI ctLI : Value} {cclL : Value} {ccdL : Option Addr} {ccsL : Array (Option Value)} {dclL : Value} {dcdL : Option Addr} {dvsL : Array Value} {dcsL : Array (Option Value)} {filL : Str} {fitL : Tok} {cdfL : ClassData} {BL : Addr} {kw1 kw2 : Tok}
    {fFM : Addr}
    {fTI cdaT ccT : Addr} {odTI anTI : Option Addr} {slTI : Array (Option Value)} {ocTI dcTI pmTI ctTI : Value} {cclT : Value} {ccdT : Option Addr} {ccsT : Array (Option Value)} {dclT : Value} {dcdT : Option Addr} {dvsT : Array Value} {dcsT : Array (Option Value)} {filT : Str} {fitT : Tok} {cdfT : ClassData} {kVTI : Value}
    {fQI cdaQ ccQ : Addr} {odQI anQI : Option Addr} {slQI : Array (Option Value)} {ocQI dcQI pmQI ctQI : Value} {cclQ : Value} {ccdQ : Option Addr} {ccsQ : Array (Option Value)} {dclQ : Value} {dcdQ : Option Addr} {dvsQ : Array Value} {dcsQ : Array (Option Value)} {filQ : Str} {fitQ : Tok} {cdfQ : ClassData} {kVQI : Value}
    {odFM anFM : Option Addr} {slFM : Array (Option Value)} {ocFM kVFM dcFM pmFM cdFM ctFM : Value}
    (aD0 : PySem.W.nsIn K mainGlobals "is_whole" = some (some (.ref fD0)))
    (lD0 : K.lookup fD0 = some ⟨ocD0, odD0, .func (PySem.W.fnOf "is_whole" "is_whole" (defArgs s_is_whole) (defBody s_is_whole) (defScope s_is_whole) .none kVD0 dcD0 pmD0 anD0 cdD0 ctD0), slD0⟩)
    (cD0 : PySem.W.codeIn K cdD0 "is_whole" = true)
    (kD0 : PySem.W.keepIn K (.ref fD0) = true)
    (aD1 : PySem.W.nsIn K mainGlobals "is_number" = some (some (.ref fD1)))
    (lD1 : K.lookup fD1 = some ⟨ocD1, odD1, .func (PySem.W.fnOf "is_number" "is_number" (defArgs s_is_number) (defBody s_is_number) (defScope s_is_number) .none kVD1 dcD1 pmD1 anD1 cdD1 ctD1), slD1⟩)
    (cD1 : PySem.W.codeIn K cdD1 "is_number" = true)
    (kD1 : PySem.W.keepIn K (.ref fD1) = true)
    (aD2 : PySem.W.nsIn K mainGlobals "to_ratio" = some (some (.ref fD2)))
    (lD2 : K.lookup fD2 = some ⟨ocD2, odD2, .func (PySem.W.fnOf "to_ratio" "to_ratio" (defArgs s_to_ratio) (defBody s_to_ratio) (defScope s_to_ratio) .none kVD2 dcD2 pmD2 anD2 cdD2 ctD2), slD2⟩)
    (cD2 : PySem.W.codeIn K cdD2 "to_ratio" = true)
    (kD2 : PySem.W.keepIn K (.ref fD2) = true)
    (aD3 : PySem.W.nsIn K mainGlobals "is_table" = some (some (.ref fD3)))
    (lD3 : K.lookup fD3 = some ⟨ocD3, odD3, .func (PySem.W.fnOf "is_table" "is_table" (defArgs s_is_table) (defBody s_is_table) (defScope s_is_table) .none kVD3 dcD3 pmD3 anD3 cdD3 ctD3), slD3⟩)
    (cD3 : PySem.W.codeIn K cdD3 "is_table" = true)
    (kD3 : PySem.W.keepIn K (.ref fD3) = true)
    (aD4 : PySem.W.nsIn K mainGlobals "is_size" = some (some (.ref fD4)))
    (lD4 : K.lookup fD4 = some ⟨ocD4, odD4, .func (PySem.W.fnOf "is_size" "is_size" (defArgs s_is_size) (defBody s_is_size) (defScope s_is_size) .none kVD4 dcD4 pmD4 anD4 cdD4 ctD4), slD4⟩)
    (cD4 : PySem.W.codeIn K cdD4 "is_size" = true)
    (kD4 : PySem.W.keepIn K (.ref fD4) = true)
    (aD5 : PySem.W.nsIn K mainGlobals "is_size_name" = some (some (.ref fD5)))
    (lD5 : K.lookup fD5 = some ⟨ocD5, odD5, .func (PySem.W.fnOf "is_size_name" "is_size_name" (defArgs s_is_size_name) (defBody s_is_size_name) (defScope s_is_size_name) .none kVD5 dcD5 pmD5 anD5 cdD5 ctD5), slD5⟩)
    (cD5 : PySem.W.codeIn K cdD5 "is_size_name" = true)
    (kD5 : PySem.W.keepIn K (.ref fD5) = true)
    (aD6 : PySem.W.nsIn K mainGlobals "is_letter_name" = some (some (.ref fD6)))
    (lD6 : K.lookup fD6 = some ⟨ocD6, odD6, .func (PySem.W.fnOf "is_letter_name" "is_letter_name" (defArgs s_is_letter_name) (defBody s_is_letter_name) (defScope s_is_letter_name) .none kVD6 dcD6 pmD6 anD6 cdD6 ctD6), slD6⟩)
    (cD6 : PySem.W.codeIn K cdD6 "is_letter_name" = true)
    (kD6 : PySem.W.keepIn K (.ref fD6) = true)
    (aD7 : PySem.W.nsIn K mainGlobals "to_side" = some (some (.ref fD7)))
    (lD7 : K.lookup fD7 = some ⟨ocD7, odD7, .func (PySem.W.fnOf "to_side" "to_side" (defArgs s_to_side) (defBody s_to_side) (defScope s_to_side) .none kVD7 dcD7 pmD7 anD7 cdD7 ctD7), slD7⟩)
    (cD7 : PySem.W.codeIn K cdD7 "to_side" = true)
    (kD7 : PySem.W.keepIn K (.ref fD7) = true)
    (aD8 : PySem.W.nsIn K mainGlobals "check_symmetry" = some (some (.ref fD8)))
    (lD8 : K.lookup fD8 = some ⟨ocD8, odD8, .func (PySem.W.fnOf "check_symmetry" "check_symmetry" (defArgs s_check_symmetry) (defBody s_check_symmetry) (defScope s_check_symmetry) .none kVD8 dcD8 pmD8 anD8 cdD8 ctD8), slD8⟩)
    (cD8 : PySem.W.codeIn K cdD8 "check_symmetry" = true)
    (kD8 : PySem.W.keepIn K (.ref fD8) = true)
    (aD9 : PySem.W.nsIn K mainGlobals "check_about" = some (some (.ref fD9)))
    (lD9 : K.lookup fD9 = some ⟨ocD9, odD9, .func (PySem.W.fnOf "check_about" "check_about" (defArgs s_check_about) (defBody s_check_about) (defScope s_check_about) .none kVD9 dcD9 pmD9 anD9 cdD9 ctD9), slD9⟩)
    (cD9 : PySem.W.codeIn K cdD9 "check_about" = true)
    (kD9 : PySem.W.keepIn K (.ref fD9) = true)
    (aD10 : PySem.W.nsIn K mainGlobals "check_formula" = some (some (.ref fD10)))
    (lD10 : K.lookup fD10 = some ⟨ocD10, odD10, .func (PySem.W.fnOf "check_formula" "check_formula" (defArgs s_check_formula) (defBody s_check_formula) (defScope s_check_formula) .none kVD10 dcD10 pmD10 anD10 cdD10 ctD10), slD10⟩)
    (cD10 : PySem.W.codeIn K cdD10 "check_formula" = true)
    (kD10 : PySem.W.keepIn K (.ref fD10) = true)
    (aD11 : PySem.W.nsIn K mainGlobals "joined_sizes" = some (some (.ref fD11)))
    (lD11 : K.lookup fD11 = some ⟨ocD11, odD11, .func (PySem.W.fnOf "joined_sizes" "joined_sizes" (defArgs s_joined_sizes) (defBody s_joined_sizes) (defScope s_joined_sizes) .none kVD11 dcD11 pmD11 anD11 cdD11 ctD11), slD11⟩)
    (cD11 : PySem.W.codeIn K cdD11 "joined_sizes" = true)
    (kD11 : PySem.W.keepIn K (.ref fD11) = true)
    (aD12 : PySem.W.nsIn K mainGlobals "_law_purse" = some (some (.ref fD12)))
    (lD12 : K.lookup fD12 = some ⟨ocD12, odD12, .func (PySem.W.fnOf "_law_purse" "_law_purse" (defArgs s__law_purse) (defBody s__law_purse) (defScope s__law_purse) .none kVD12 dcD12 pmD12 anD12 cdD12 ctD12), slD12⟩)
    (cD12 : PySem.W.codeIn K cdD12 "_law_purse" = true)
    (kD12 : PySem.W.keepIn K (.ref fD12) = true)
    (aD13 : PySem.W.nsIn K mainGlobals "_law_draw" = some (some (.ref fD13)))
    (lD13 : K.lookup fD13 = some ⟨ocD13, odD13, .func (PySem.W.fnOf "_law_draw" "_law_draw" (defArgs s__law_draw) (defBody s__law_draw) (defScope s__law_draw) .none kVD13 dcD13 pmD13 anD13 cdD13 ctD13), slD13⟩)
    (cD13 : PySem.W.codeIn K cdD13 "_law_draw" = true)
    (kD13 : PySem.W.keepIn K (.ref fD13) = true)
    (aD14 : PySem.W.nsIn K mainGlobals "_law_great" = some (some (.ref fD14)))
    (lD14 : K.lookup fD14 = some ⟨ocD14, odD14, .func (PySem.W.fnOf "_law_great" "_law_great" (defArgs s__law_great) (defBody s__law_great) (defScope s__law_great) .none kVD14 dcD14 pmD14 anD14 cdD14 ctD14), slD14⟩)
    (cD14 : PySem.W.codeIn K cdD14 "_law_great" = true)
    (kD14 : PySem.W.keepIn K (.ref fD14) = true)
    (aD15 : PySem.W.nsIn K mainGlobals "_law_common" = some (some (.ref fD15)))
    (lD15 : K.lookup fD15 = some ⟨ocD15, odD15, .func (PySem.W.fnOf "_law_common" "_law_common" (defArgs s__law_common) (defBody s__law_common) (defScope s__law_common) .none kVD15 dcD15 pmD15 anD15 cdD15 ctD15), slD15⟩)
    (cD15 : PySem.W.codeIn K cdD15 "_law_common" = true)
    (kD15 : PySem.W.keepIn K (.ref fD15) = true)
    (aD16 : PySem.W.nsIn K mainGlobals "_law_lowest" = some (some (.ref fD16)))
    (lD16 : K.lookup fD16 = some ⟨ocD16, odD16, .func (PySem.W.fnOf "_law_lowest" "_law_lowest" (defArgs s__law_lowest) (defBody s__law_lowest) (defScope s__law_lowest) .none kVD16 dcD16 pmD16 anD16 cdD16 ctD16), slD16⟩)
    (cD16 : PySem.W.codeIn K cdD16 "_law_lowest" = true)
    (kD16 : PySem.W.keepIn K (.ref fD16) = true)
    (aD17 : PySem.W.nsIn K mainGlobals "_law_told" = some (some (.ref fD17)))
    (lD17 : K.lookup fD17 = some ⟨ocD17, odD17, .func (PySem.W.fnOf "_law_told" "_law_told" (defArgs s__law_told) (defBody s__law_told) (defScope s__law_told) .none kVD17 dcD17 pmD17 anD17 cdD17 ctD17), slD17⟩)
    (cD17 : PySem.W.codeIn K cdD17 "_law_told" = true)
    (kD17 : PySem.W.keepIn K (.ref fD17) = true)
    (aD18 : PySem.W.nsIn K mainGlobals "_law_pairs" = some (some (.ref fD18)))
    (lD18 : K.lookup fD18 = some ⟨ocD18, odD18, .func (PySem.W.fnOf "_law_pairs" "_law_pairs" (defArgs s__law_pairs) (defBody s__law_pairs) (defScope s__law_pairs) .none kVD18 dcD18 pmD18 anD18 cdD18 ctD18), slD18⟩)
    (cD18 : PySem.W.codeIn K cdD18 "_law_pairs" = true)
    (kD18 : PySem.W.keepIn K (.ref fD18) = true)
    (aD19 : PySem.W.nsIn K mainGlobals "_law_is" = some (some (.ref fD19)))
    (lD19 : K.lookup fD19 = some ⟨ocD19, odD19, .func (PySem.W.fnOf "_law_is" "_law_is" (defArgs s__law_is) (defBody s__law_is) (defScope s__law_is) .none kVD19 dcD19 pmD19 anD19 cdD19 ctD19), slD19⟩)
    (cD19 : PySem.W.codeIn K cdD19 "_law_is" = true)
    (kD19 : PySem.W.keepIn K (.ref fD19) = true)
    (aD20 : PySem.W.nsIn K mainGlobals "_law_from" = some (some (.ref fD20)))
    (lD20 : K.lookup fD20 = some ⟨ocD20, odD20, .func (PySem.W.fnOf "_law_from" "_law_from" (defArgs s__law_from) (defBody s__law_from) (defScope s__law_from) .none kVD20 dcD20 pmD20 anD20 cdD20 ctD20), slD20⟩)
    (cD20 : PySem.W.codeIn K cdD20 "_law_from" = true)
    (kD20 : PySem.W.keepIn K (.ref fD20) = true)
    (aD21 : PySem.W.nsIn K mainGlobals "_law_label" = some (some (.ref fD21)))
    (lD21 : K.lookup fD21 = some ⟨ocD21, odD21, .func (PySem.W.fnOf "_law_label" "_law_label" (defArgs s__law_label) (defBody s__law_label) (defScope s__law_label) .none kVD21 dcD21 pmD21 anD21 cdD21 ctD21), slD21⟩)
    (cD21 : PySem.W.codeIn K cdD21 "_law_label" = true)
    (kD21 : PySem.W.keepIn K (.ref fD21) = true)
    (aD22 : PySem.W.nsIn K mainGlobals "_law_word" = some (some (.ref fD22)))
    (lD22 : K.lookup fD22 = some ⟨ocD22, odD22, .func (PySem.W.fnOf "_law_word" "_law_word" (defArgs s__law_word) (defBody s__law_word) (defScope s__law_word) .none kVD22 dcD22 pmD22 anD22 cdD22 ctD22), slD22⟩)
    (cD22 : PySem.W.codeIn K cdD22 "_law_word" = true)
    (kD22 : PySem.W.keepIn K (.ref fD22) = true)
    (aD23 : PySem.W.nsIn K mainGlobals "_law_facts" = some (some (.ref fD23)))
    (lD23 : K.lookup fD23 = some ⟨ocD23, odD23, .func (PySem.W.fnOf "_law_facts" "_law_facts" (defArgs s__law_facts) (defBody s__law_facts) (defScope s__law_facts) .none kVD23 dcD23 pmD23 anD23 cdD23 ctD23), slD23⟩)
    (cD23 : PySem.W.codeIn K cdD23 "_law_facts" = true)
    (kD23 : PySem.W.keepIn K (.ref fD23) = true)
    (aD24 : PySem.W.nsIn K mainGlobals "_law_bent" = some (some (.ref fD24)))
    (lD24 : K.lookup fD24 = some ⟨ocD24, odD24, .func (PySem.W.fnOf "_law_bent" "_law_bent" (defArgs s__law_bent) (defBody s__law_bent) (defScope s__law_bent) .none kVD24 dcD24 pmD24 anD24 cdD24 ctD24), slD24⟩)
    (cD24 : PySem.W.codeIn K cdD24 "_law_bent" = true)
    (kD24 : PySem.W.keepIn K (.ref fD24) = true)
    (aD25 : PySem.W.nsIn K mainGlobals "_law_made" = some (some (.ref fD25)))
    (lD25 : K.lookup fD25 = some ⟨ocD25, odD25, .func (PySem.W.fnOf "_law_made" "_law_made" (defArgs s__law_made) (defBody s__law_made) (defScope s__law_made) .none kVD25 dcD25 pmD25 anD25 cdD25 ctD25), slD25⟩)
    (cD25 : PySem.W.codeIn K cdD25 "_law_made" = true)
    (kD25 : PySem.W.keepIn K (.ref fD25) = true)
    (aD26 : PySem.W.nsIn K mainGlobals "_law_fits" = some (some (.ref fD26)))
    (lD26 : K.lookup fD26 = some ⟨ocD26, odD26, .func (PySem.W.fnOf "_law_fits" "_law_fits" (defArgs s__law_fits) (defBody s__law_fits) (defScope s__law_fits) .none kVD26 dcD26 pmD26 anD26 cdD26 ctD26), slD26⟩)
    (cD26 : PySem.W.codeIn K cdD26 "_law_fits" = true)
    (kD26 : PySem.W.keepIn K (.ref fD26) = true)
    (aD27 : PySem.W.nsIn K mainGlobals "_law_right" = some (some (.ref fD27)))
    (lD27 : K.lookup fD27 = some ⟨ocD27, odD27, .func (PySem.W.fnOf "_law_right" "_law_right" (defArgs s__law_right) (defBody s__law_right) (defScope s__law_right) .none kVD27 dcD27 pmD27 anD27 cdD27 ctD27), slD27⟩)
    (cD27 : PySem.W.codeIn K cdD27 "_law_right" = true)
    (kD27 : PySem.W.keepIn K (.ref fD27) = true)
    (aD28 : PySem.W.nsIn K mainGlobals "law" = some (some (.ref fD28)))
    (lD28 : K.lookup fD28 = some ⟨ocD28, odD28, .func (PySem.W.fnOf "law" "law" (defArgs s_law) (defBody s_law) (defScope s_law) .none kVD28 dcD28 pmD28 anD28 cdD28 ctD28), slD28⟩)
    (cD28 : PySem.W.codeIn K cdD28 "law" = true)
    (kD28 : PySem.W.keepIn K (.ref fD28) = true)
    (aM0 : PySem.W.findIn K (.ref C) "__bool__" = some (some (.ref fM0)))
    (iM0 : PySem.W.isFn K (.ref fM0) = true)
    (lM0 : K.lookup fM0 = some ⟨ocM0, odM0, .func (PySem.W.fnOf "__bool__" "Ratio.__bool__" (defArgs s_Ratio___bool__) (defBody s_Ratio___bool__) (defScope s_Ratio___bool__) .none kVM0 dcM0 pmM0 anM0 cdM0 ctM0), slM0⟩)
    (cM0 : PySem.W.codeIn K cdM0 "Ratio.__bool__" = true)
    (kM0 : PySem.W.keepIn K (.ref fM0) = true)
    (aM1 : PySem.W.findIn K (.ref CM) "__init__" = some (some (.ref fM1)))
    (iM1 : PySem.W.isFn K (.ref fM1) = true)
    (lM1 : K.lookup fM1 = some ⟨ocM1, odM1, .func (PySem.W.fnOf "__init__" "Matrix.__init__" (defArgs s_Matrix___init__) (defBody s_Matrix___init__) (defScope s_Matrix___init__) .none kVM1 dcM1 pmM1 anM1 cdM1 ctM1), slM1⟩)
    (cM1 : PySem.W.codeIn K cdM1 "Matrix.__init__" = true)
    (kM1 : PySem.W.keepIn K (.ref fM1) = true)
    (aM2 : PySem.W.findIn K (.ref CL) "__str__" = some (some (.ref fM2)))
    (iM2 : PySem.W.isFn K (.ref fM2) = true)
    (lM2 : K.lookup fM2 = some ⟨ocM2, odM2, .func (PySem.W.fnOf "__str__" "Formula.__str__" (defArgs s_Formula___str__) (defBody s_Formula___str__) (defScope s_Formula___str__) .none kVM2 dcM2 pmM2 anM2 cdM2 ctM2), slM2⟩)
    (cM2 : PySem.W.codeIn K cdM2 "Formula.__str__" = true)
    (kM2 : PySem.W.keepIn K (.ref fM2) = true)
    (aM3 : PySem.W.findIn K (.ref CL) "__repr__" = some (some (.ref fM3)))
    (iM3 : PySem.W.isFn K (.ref fM3) = true)
    (lM3 : K.lookup fM3 = some ⟨ocM3, odM3, .func (PySem.W.fnOf "__repr__" "Formula.__repr__" (defArgs s_Formula___repr__) (defBody s_Formula___repr__) (defScope s_Formula___repr__) .none kVM3 dcM3 pmM3 anM3 cdM3 ctM3), slM3⟩)
    (cM3 : PySem.W.codeIn K cdM3 "Formula.__repr__" = true)
    (kM3 : PySem.W.keepIn K (.ref fM3) = true)
    (aM4 : PySem.W.findIn K (.ref CL) "__eq__" = some (some (.ref fM4)))
    (iM4 : PySem.W.isFn K (.ref fM4) = true)
    (lM4 : K.lookup fM4 = some ⟨ocM4, odM4, .func (PySem.W.fnOf "__eq__" "Formula.__eq__" (defArgs s_Formula___eq__) (defBody s_Formula___eq__) (defScope s_Formula___eq__) .none kVM4 dcM4 pmM4 anM4 cdM4 ctM4), slM4⟩)
    (cM4 : PySem.W.codeIn K cdM4 "Formula.__eq__" = true)
    (kM4 : PySem.W.keepIn K (.ref fM4) = true)
    (aP0 : PySem.W.findIn K (.ref C) "top" = some (some (.ref pP0)))
    (gP0 : PySem.W.specialIn K (.ref pP0) "__get__" = some (some (.builtin "property.__get__")))
    (tP0 : PySem.W.takesIn K (.ref pP0) = some true)
    (rP0 : PySem.W.recIn K pP0 "property" = some (.ref fP0 :: reP0))
    (lP0 : K.lookup fP0 = some ⟨ocP0, odP0, .func (PySem.W.fnOf "top" "Ratio.top" (defArgs s_Ratio_top) (defBody s_Ratio_top) (defScope s_Ratio_top) .none kVP0 dcP0 pmP0 anP0 cdP0 ctP0), slP0⟩)
    (cP0 : PySem.W.codeIn K cdP0 "Ratio.top" = true)
    (kP0 : PySem.W.keepIn K (.ref fP0) = true)
    (aP1 : PySem.W.findIn K (.ref C) "bottom" = some (some (.ref pP1)))
    (gP1 : PySem.W.specialIn K (.ref pP1) "__get__" = some (some (.builtin "property.__get__")))
    (tP1 : PySem.W.takesIn K (.ref pP1) = some true)
    (rP1 : PySem.W.recIn K pP1 "property" = some (.ref fP1 :: reP1))
    (lP1 : K.lookup fP1 = some ⟨ocP1, odP1, .func (PySem.W.fnOf "bottom" "Ratio.bottom" (defArgs s_Ratio_bottom) (defBody s_Ratio_bottom) (defScope s_Ratio_bottom) .none kVP1 dcP1 pmP1 anP1 cdP1 ctP1), slP1⟩)
    (cP1 : PySem.W.codeIn K cdP1 "Ratio.bottom" = true)
    (kP1 : PySem.W.keepIn K (.ref fP1) = true)
    (aP2 : PySem.W.findIn K (.ref CM) "entries" = some (some (.ref pP2)))
    (gP2 : PySem.W.specialIn K (.ref pP2) "__get__" = some (some (.builtin "property.__get__")))
    (tP2 : PySem.W.takesIn K (.ref pP2) = some true)
    (rP2 : PySem.W.recIn K pP2 "property" = some (.ref fP2 :: reP2))
    (lP2 : K.lookup fP2 = some ⟨ocP2, odP2, .func (PySem.W.fnOf "entries" "Matrix.entries" (defArgs s_Matrix_entries) (defBody s_Matrix_entries) (defScope s_Matrix_entries) .none kVP2 dcP2 pmP2 anP2 cdP2 ctP2), slP2⟩)
    (cP2 : PySem.W.codeIn K cdP2 "Matrix.entries" = true)
    (kP2 : PySem.W.keepIn K (.ref fP2) = true)
    (aP3 : PySem.W.findIn K (.ref CM) "columns" = some (some (.ref pP3)))
    (gP3 : PySem.W.specialIn K (.ref pP3) "__get__" = some (some (.builtin "property.__get__")))
    (tP3 : PySem.W.takesIn K (.ref pP3) = some true)
    (rP3 : PySem.W.recIn K pP3 "property" = some (.ref fP3 :: reP3))
    (lP3 : K.lookup fP3 = some ⟨ocP3, odP3, .func (PySem.W.fnOf "columns" "Matrix.columns" (defArgs s_Matrix_columns) (defBody s_Matrix_columns) (defScope s_Matrix_columns) .none kVP3 dcP3 pmP3 anP3 cdP3 ctP3), slP3⟩)
    (cP3 : PySem.W.codeIn K cdP3 "Matrix.columns" = true)
    (kP3 : PySem.W.keepIn K (.ref fP3) = true)
    (aP4 : PySem.W.findIn K (.ref CM) "transposed" = some (some (.ref pP4)))
    (gP4 : PySem.W.specialIn K (.ref pP4) "__get__" = some (some (.builtin "property.__get__")))
    (tP4 : PySem.W.takesIn K (.ref pP4) = some true)
    (rP4 : PySem.W.recIn K pP4 "property" = some (.ref fP4 :: reP4))
    (lP4 : K.lookup fP4 = some ⟨ocP4, odP4, .func (PySem.W.fnOf "transposed" "Matrix.transposed" (defArgs s_Matrix_transposed) (defBody s_Matrix_transposed) (defScope s_Matrix_transposed) .none kVP4 dcP4 pmP4 anP4 cdP4 ctP4), slP4⟩)
    (cP4 : PySem.W.codeIn K cdP4 "Matrix.transposed" = true)
    (kP4 : PySem.W.keepIn K (.ref fP4) = true)
    (aP5 : PySem.W.findIn K (.ref CL) "kind" = some (some (.ref pP5)))
    (gP5 : PySem.W.specialIn K (.ref pP5) "__get__" = some (some (.builtin "property.__get__")))
    (tP5 : PySem.W.takesIn K (.ref pP5) = some true)
    (rP5 : PySem.W.recIn K pP5 "property" = some (.ref fP5 :: reP5))
    (lP5 : K.lookup fP5 = some ⟨ocP5, odP5, .func (PySem.W.fnOf "kind" "Formula.kind" (defArgs s_Formula_kind) (defBody s_Formula_kind) (defScope s_Formula_kind) .none kVP5 dcP5 pmP5 anP5 cdP5 ctP5), slP5⟩)
    (cP5 : PySem.W.codeIn K cdP5 "Formula.kind" = true)
    (kP5 : PySem.W.keepIn K (.ref fP5) = true)
    (aP6 : PySem.W.findIn K (.ref CL) "parts" = some (some (.ref pP6)))
    (gP6 : PySem.W.specialIn K (.ref pP6) "__get__" = some (some (.builtin "property.__get__")))
    (tP6 : PySem.W.takesIn K (.ref pP6) = some true)
    (rP6 : PySem.W.recIn K pP6 "property" = some (.ref fP6 :: reP6))
    (lP6 : K.lookup fP6 = some ⟨ocP6, odP6, .func (PySem.W.fnOf "parts" "Formula.parts" (defArgs s_Formula_parts) (defBody s_Formula_parts) (defScope s_Formula_parts) .none kVP6 dcP6 pmP6 anP6 cdP6 ctP6), slP6⟩)
    (cP6 : PySem.W.codeIn K cdP6 "Formula.parts" = true)
    (kP6 : PySem.W.keepIn K (.ref fP6) = true)
    (aP7 : PySem.W.findIn K (.ref CL) "letters" = some (some (.ref pP7)))
    (gP7 : PySem.W.specialIn K (.ref pP7) "__get__" = some (some (.builtin "property.__get__")))
    (tP7 : PySem.W.takesIn K (.ref pP7) = some true)
    (rP7 : PySem.W.recIn K pP7 "property" = some (.ref fP7 :: reP7))
    (lP7 : K.lookup fP7 = some ⟨ocP7, odP7, .func (PySem.W.fnOf "letters" "Formula.letters" (defArgs s_Formula_letters) (defBody s_Formula_letters) (defScope s_Formula_letters) .none kVP7 dcP7 pmP7 anP7 cdP7 ctP7), slP7⟩)
    (cP7 : PySem.W.codeIn K cdP7 "Formula.letters" = true)
    (kP7 : PySem.W.keepIn K (.ref fP7) = true)
    (aP8 : PySem.W.findIn K (.ref CL) "rows" = some (some (.ref pP8)))
    (gP8 : PySem.W.specialIn K (.ref pP8) "__get__" = some (some (.builtin "property.__get__")))
    (tP8 : PySem.W.takesIn K (.ref pP8) = some true)
    (rP8 : PySem.W.recIn K pP8 "property" = some (.ref fP8 :: reP8))
    (lP8 : K.lookup fP8 = some ⟨ocP8, odP8, .func (PySem.W.fnOf "rows" "Formula.rows" (defArgs s_Formula_rows) (defBody s_Formula_rows) (defScope s_Formula_rows) .none kVP8 dcP8 pmP8 anP8 cdP8 ctP8), slP8⟩)
    (cP8 : PySem.W.codeIn K cdP8 "Formula.rows" = true)
    (kP8 : PySem.W.keepIn K (.ref fP8) = true)
    (aP9 : PySem.W.findIn K (.ref CL) "columns" = some (some (.ref pP9)))
    (gP9 : PySem.W.specialIn K (.ref pP9) "__get__" = some (some (.builtin "property.__get__")))
    (tP9 : PySem.W.takesIn K (.ref pP9) = some true)
    (rP9 : PySem.W.recIn K pP9 "property" = some (.ref fP9 :: reP9))
    (lP9 : K.lookup fP9 = some ⟨ocP9, odP9, .func (PySem.W.fnOf "columns" "Formula.columns" (defArgs s_Formula_columns) (defBody s_Formula_columns) (defScope s_Formula_columns) .none kVP9 dcP9 pmP9 anP9 cdP9 ctP9), slP9⟩)
    (cP9 : PySem.W.codeIn K cdP9 "Formula.columns" = true)
    (kP9 : PySem.W.keepIn K (.ref fP9) = true)
    (aP10 : PySem.W.findIn K (.ref CL) "weight" = some (some (.ref pP10)))
    (gP10 : PySem.W.specialIn K (.ref pP10) "__get__" = some (some (.builtin "property.__get__")))
    (tP10 : PySem.W.takesIn K (.ref pP10) = some true)
    (rP10 : PySem.W.recIn K pP10 "property" = some (.ref fP10 :: reP10))
    (lP10 : K.lookup fP10 = some ⟨ocP10, odP10, .func (PySem.W.fnOf "weight" "Formula.weight" (defArgs s_Formula_weight) (defBody s_Formula_weight) (defScope s_Formula_weight) .none kVP10 dcP10 pmP10 anP10 cdP10 ctP10), slP10⟩)
    (cP10 : PySem.W.codeIn K cdP10 "Formula.weight" = true)
    (kP10 : PySem.W.keepIn K (.ref fP10) = true)
    (aP11 : PySem.W.findIn K (.ref CL) "levels" = some (some (.ref pP11)))
    (gP11 : PySem.W.specialIn K (.ref pP11) "__get__" = some (some (.builtin "property.__get__")))
    (tP11 : PySem.W.takesIn K (.ref pP11) = some true)
    (rP11 : PySem.W.recIn K pP11 "property" = some (.ref fP11 :: reP11))
    (lP11 : K.lookup fP11 = some ⟨ocP11, odP11, .func (PySem.W.fnOf "levels" "Formula.levels" (defArgs s_Formula_levels) (defBody s_Formula_levels) (defScope s_Formula_levels) .none kVP11 dcP11 pmP11 anP11 cdP11 ctP11), slP11⟩)
    (cP11 : PySem.W.codeIn K cdP11 "Formula.levels" = true)
    (kP11 : PySem.W.keepIn K (.ref fP11) = true)
    (aP12 : PySem.W.findIn K (.ref CL) "middle" = some (some (.ref pP12)))
    (gP12 : PySem.W.specialIn K (.ref pP12) "__get__" = some (some (.builtin "property.__get__")))
    (tP12 : PySem.W.takesIn K (.ref pP12) = some true)
    (rP12 : PySem.W.recIn K pP12 "property" = some (.ref fP12 :: reP12))
    (lP12 : K.lookup fP12 = some ⟨ocP12, odP12, .func (PySem.W.fnOf "middle" "Formula.middle" (defArgs s_Formula_middle) (defBody s_Formula_middle) (defScope s_Formula_middle) .none kVP12 dcP12 pmP12 anP12 cdP12 ctP12), slP12⟩)
    (cP12 : PySem.W.codeIn K cdP12 "Formula.middle" = true)
    (kP12 : PySem.W.keepIn K (.ref fP12) = true)
    (aP13 : PySem.W.findIn K (.ref CL) "sizes" = some (some (.ref pP13)))
    (gP13 : PySem.W.specialIn K (.ref pP13) "__get__" = some (some (.builtin "property.__get__")))
    (tP13 : PySem.W.takesIn K (.ref pP13) = some true)
    (rP13 : PySem.W.recIn K pP13 "property" = some (.ref fP13 :: reP13))
    (lP13 : K.lookup fP13 = some ⟨ocP13, odP13, .func (PySem.W.fnOf "sizes" "Formula.sizes" (defArgs s_Formula_sizes) (defBody s_Formula_sizes) (defScope s_Formula_sizes) .none kVP13 dcP13 pmP13 anP13 cdP13 ctP13), slP13⟩)
    (cP13 : PySem.W.codeIn K cdP13 "Formula.sizes" = true)
    (kP13 : PySem.W.keepIn K (.ref fP13) = true)
    (aP14 : PySem.W.findIn K (.ref CL) "name" = some (some (.ref pP14)))
    (gP14 : PySem.W.specialIn K (.ref pP14) "__get__" = some (some (.builtin "property.__get__")))
    (tP14 : PySem.W.takesIn K (.ref pP14) = some true)
    (rP14 : PySem.W.recIn K pP14 "property" = some (.ref fP14 :: reP14))
    (lP14 : K.lookup fP14 = some ⟨ocP14, odP14, .func (PySem.W.fnOf "name" "Letter.name" (defArgs s_Letter_name) (defBody s_Letter_name) (defScope s_Letter_name) .none kVP14 dcP14 pmP14 anP14 cdP14 ctP14), slP14⟩)
    (cP14 : PySem.W.codeIn K cdP14 "Letter.name" = true)
    (kP14 : PySem.W.keepIn K (.ref fP14) = true)
    (aP15 : PySem.W.findIn K (.ref CL) "symmetry" = some (some (.ref pP15)))
    (gP15 : PySem.W.specialIn K (.ref pP15) "__get__" = some (some (.builtin "property.__get__")))
    (tP15 : PySem.W.takesIn K (.ref pP15) = some true)
    (rP15 : PySem.W.recIn K pP15 "property" = some (.ref fP15 :: reP15))
    (lP15 : K.lookup fP15 = some ⟨ocP15, odP15, .func (PySem.W.fnOf "symmetry" "Letter.symmetry" (defArgs s_Letter_symmetry) (defBody s_Letter_symmetry) (defScope s_Letter_symmetry) .none kVP15 dcP15 pmP15 anP15 cdP15 ctP15), slP15⟩)
    (cP15 : PySem.W.codeIn K cdP15 "Letter.symmetry" = true)
    (kP15 : PySem.W.keepIn K (.ref fP15) = true)
    (aP16 : PySem.W.findIn K (.ref CL) "about" = some (some (.ref pP16)))
    (gP16 : PySem.W.specialIn K (.ref pP16) "__get__" = some (some (.builtin "property.__get__")))
    (tP16 : PySem.W.takesIn K (.ref pP16) = some true)
    (rP16 : PySem.W.recIn K pP16 "property" = some (.ref fP16 :: reP16))
    (lP16 : K.lookup fP16 = some ⟨ocP16, odP16, .func (PySem.W.fnOf "about" "Letter.about" (defArgs s_Letter_about) (defBody s_Letter_about) (defScope s_Letter_about) .none kVP16 dcP16 pmP16 anP16 cdP16 ctP16), slP16⟩)
    (cP16 : PySem.W.codeIn K cdP16 "Letter.about" = true)
    (kP16 : PySem.W.keepIn K (.ref fP16) = true)
    (aP17 : PySem.W.findIn K (.ref CL) "transposed" = some (some (.ref pP17)))
    (gP17 : PySem.W.specialIn K (.ref pP17) "__get__" = some (some (.builtin "property.__get__")))
    (tP17 : PySem.W.takesIn K (.ref pP17) = some true)
    (rP17 : PySem.W.recIn K pP17 "property" = some (.ref fP17 :: reP17))
    (lP17 : K.lookup fP17 = some ⟨ocP17, odP17, .func (PySem.W.fnOf "transposed" "Formula.transposed" (defArgs s_Formula_transposed) (defBody s_Formula_transposed) (defScope s_Formula_transposed) .none kVP17 dcP17 pmP17 anP17 cdP17 ctP17), slP17⟩)
    (cP17 : PySem.W.codeIn K cdP17 "Formula.transposed" = true)
    (kP17 : PySem.W.keepIn K (.ref fP17) = true)
    (aI : PySem.W.findIn K (.ref C) "__init__" = some (some (.ref fI)))
    (iI : PySem.W.isFn K (.ref fI) = true)
    (lI : K.lookup fI = some ⟨ocI, odI, .func (PySem.W.fnOf "__init__" "Ratio.__init__" (defArgs s_Ratio___init__) (defBody s_Ratio___init__) (defScope s_Ratio___init__) (.ref tI) kVI dcI pmI anI cdI ctI), slI⟩)
    (cI : PySem.W.codeIn K cdI "Ratio.__init__" = true)
    (kI : PySem.W.keepIn K (.ref fI) = true)
    (lT : K.lookup tI = some oT)
    (dT : oT.data = .seq #[.int 1 kT] nT)
    (z_int : PySem.W.nsIn K mainGlobals "int" = some none)
    (z_len : PySem.W.nsIn K mainGlobals "len" = some none)
    (z_abs : PySem.W.nsIn K mainGlobals "abs" = some none)
    (z_range : PySem.W.nsIn K mainGlobals "range" = some none)
    (z_max : PySem.W.nsIn K mainGlobals "max" = some none)
    (z_min : PySem.W.nsIn K mainGlobals "min" = some none)
    (z_all : PySem.W.nsIn K mainGlobals "all" = some none)
    (z_repr : PySem.W.nsIn K mainGlobals "repr" = some none)
    (z_isinstance : PySem.W.nsIn K mainGlobals "isinstance" = some none)
    (z_bool : PySem.W.nsIn K mainGlobals "bool" = some none)
    (z_str : PySem.W.nsIn K mainGlobals "str" = some none)
    (z_any : PySem.W.nsIn K mainGlobals "any" = some none)
    (z_tuple : PySem.W.nsIn K mainGlobals "tuple" = some none)
    (z_list : PySem.W.nsIn K mainGlobals "list" = some none)
    (z_sum : PySem.W.nsIn K mainGlobals "sum" = some none)
    (z_zip : PySem.W.nsIn K mainGlobals "zip" = some none)
    (z_enumerate : PySem.W.nsIn K mainGlobals "enumerate" = some none)
    (aR : PySem.W.nsIn K mainGlobals "Ratio" = some (some (.ref C)))
    (aCM : PySem.W.nsIn K mainGlobals "Matrix" = some (some (.ref CM)))
    (aFo : PySem.W.nsIn K mainGlobals "Formula" = some (some (.ref CY)))
    (aXL : PySem.W.nsIn K mainGlobals "Letter" = some (some (.ref CL)))
    (aXT : PySem.W.nsIn K mainGlobals "Transposed" = some (some (.ref CT)))
    (aXQ : PySem.W.nsIn K mainGlobals "Eye" = some (some (.ref CQ)))
    (aG : PySem.W.nsIn K mainGlobals "gcd" = some (some (.builtin "math.gcd")))
    (aL : PySem.W.nsIn K mainGlobals "lcm" = some (some (.builtin "math.lcm")))
    (pgC : PySem.W.plainGet K C Str.empty = true)
    (hdC : PySem.W.hasDictIn K C = true)
    (poC : PySem.W.plainOver K C = true)
    (saC : PySem.W.findIn K (.ref C) "__setattr__" = some (some (.builtin "object.__setattr__")))
    (mkC : PySem.W.makesIn K C = true)
    (kcC : PySem.W.keepIn K (.ref C) = true)
    (caC : PySem.W.findIn K (.ref C) "__class__" = some (some (.builtin "object.__class__")))
    (cmC : PySem.W.mroIn K C (.type "object") = some true)
    (sIC : PySem.W.subIn K (.ref C) (.type "int") = some false)
    (sBC : PySem.W.subIn K (.ref C) (.type "bool") = some false)
    (tyC : PySem.W.typeIn K (.ref C) = some (.type "type"))
    (isC : PySem.W.isClsIn K C = true)
    (sbC : PySem.W.subIn K (.type "int") (.ref C) = some false)
    (soC : PySem.W.subIn K (.ref C) (.type "object") = some true)
    (neC : PySem.W.findIn K (.ref C) "__ne__" = some (some (.builtin "object.__ne__")))
    (pgM : PySem.W.plainGet K CM Str.empty = true)
    (hdM : PySem.W.hasDictIn K CM = true)
    (poM : PySem.W.plainOver K CM = true)
    (saM : PySem.W.findIn K (.ref CM) "__setattr__" = some (some (.builtin "object.__setattr__")))
    (mkM : PySem.W.makesIn K CM = true)
    (kcM : PySem.W.keepIn K (.ref CM) = true)
    (caM : PySem.W.findIn K (.ref CM) "__class__" = some (some (.builtin "object.__class__")))
    (cmM : PySem.W.mroIn K CM (.type "object") = some true)
    (sIM : PySem.W.subIn K (.ref CM) (.type "int") = some false)
    (sBM : PySem.W.subIn K (.ref CM) (.type "bool") = some false)
    (tyM : PySem.W.typeIn K (.ref CM) = some (.type "type"))
    (isM : PySem.W.isClsIn K CM = true)
    (sbM : PySem.W.subIn K (.type "int") (.ref CM) = some false)
    (soM : PySem.W.subIn K (.ref CM) (.type "object") = some true)
    (neM : PySem.W.findIn K (.ref CM) "__ne__" = some (some (.builtin "object.__ne__")))
    (pgL : PySem.W.plainGet K CL Str.empty = true)
    (hdL : PySem.W.hasDictIn K CL = true)
    (poL : PySem.W.plainOver K CL = true)
    (saL : PySem.W.findIn K (.ref CL) "__setattr__" = some (some (.builtin "object.__setattr__")))
    (mkL : PySem.W.makesIn K CL = true)
    (kcL : PySem.W.keepIn K (.ref CL) = true)
    (caL : PySem.W.findIn K (.ref CL) "__class__" = some (some (.builtin "object.__class__")))
    (cmL : PySem.W.mroIn K CL (.type "object") = some true)
    (soL : PySem.W.subIn K (.ref CL) (.type "object") = some true)
    (neL : PySem.W.findIn K (.ref CL) "__ne__" = some (some (.builtin "object.__ne__")))
    (fmL : PySem.W.findIn K (.ref CL) "__format__" = some (some (.builtin "object.__format__")))
    (nL0 : PySem.W.findIn K (.ref CL) "_kind" = some none)
    (nL1 : PySem.W.findIn K (.ref CL) "_parts" = some none)
    (nL2 : PySem.W.findIn K (.ref CL) "_letters" = some none)
    (nL3 : PySem.W.findIn K (.ref CL) "_rows" = some none)
    (nL4 : PySem.W.findIn K (.ref CL) "_columns" = some none)
    (nL5 : PySem.W.findIn K (.ref CL) "_weight" = some none)
    (nL6 : PySem.W.findIn K (.ref CL) "_levels" = some none)
    (nL7 : PySem.W.findIn K (.ref CL) "_middle" = some none)
    (nL8 : PySem.W.findIn K (.ref CL) "_spelled" = some none)
    (nL9 : PySem.W.findIn K (.ref CL) "_sizes" = some none)
    (nL10 : PySem.W.findIn K (.ref CL) "_mark" = some none)
    (nL11 : PySem.W.findIn K (.ref CL) "_name" = some none)
    (nL12 : PySem.W.findIn K (.ref CL) "_symmetry" = some none)
    (nL13 : PySem.W.findIn K (.ref CL) "_about" = some none)
    (pgT : PySem.W.plainGet K CT Str.empty = true)
    (hdT : PySem.W.hasDictIn K CT = true)
    (poT : PySem.W.plainOver K CT = true)
    (saT : PySem.W.findIn K (.ref CT) "__setattr__" = some (some (.builtin "object.__setattr__")))
    (mkT : PySem.W.makesIn K CT = true)
    (kcT : PySem.W.keepIn K (.ref CT) = true)
    (caT : PySem.W.findIn K (.ref CT) "__class__" = some (some (.builtin "object.__class__")))
    (cmT : PySem.W.mroIn K CT (.type "object") = some true)
    (soT : PySem.W.subIn K (.ref CT) (.type "object") = some true)
    (neT : PySem.W.findIn K (.ref CT) "__ne__" = some (some (.builtin "object.__ne__")))
    (fmT : PySem.W.findIn K (.ref CT) "__format__" = some (some (.builtin "object.__format__")))
    (nT0 : PySem.W.findIn K (.ref CT) "_kind" = some none)
    (nT1 : PySem.W.findIn K (.ref CT) "_parts" = some none)
    (nT2 : PySem.W.findIn K (.ref CT) "_letters" = some none)
    (nT3 : PySem.W.findIn K (.ref CT) "_rows" = some none)
    (nT4 : PySem.W.findIn K (.ref CT) "_columns" = some none)
    (nT5 : PySem.W.findIn K (.ref CT) "_weight" = some none)
    (nT6 : PySem.W.findIn K (.ref CT) "_levels" = some none)
    (nT7 : PySem.W.findIn K (.ref CT) "_middle" = some none)
    (nT8 : PySem.W.findIn K (.ref CT) "_spelled" = some none)
    (nT9 : PySem.W.findIn K (.ref CT) "_sizes" = some none)
    (nT10 : PySem.W.findIn K (.ref CT) "_mark" = some none)
    (nT11 : PySem.W.findIn K (.ref CT) "_name" = some none)
    (nT12 : PySem.W.findIn K (.ref CT) "_symmetry" = some none)
    (nT13 : PySem.W.findIn K (.ref CT) "_about" = some none)
    (pgQ : PySem.W.plainGet K CQ Str.empty = true)
    (hdQ : PySem.W.hasDictIn K CQ = true)
    (poQ : PySem.W.plainOver K CQ = true)
    (saQ : PySem.W.findIn K (.ref CQ) "__setattr__" = some (some (.builtin "object.__setattr__")))
    (mkQ : PySem.W.makesIn K CQ = true)
    (kcQ : PySem.W.keepIn K (.ref CQ) = true)
    (caQ : PySem.W.findIn K (.ref CQ) "__class__" = some (some (.builtin "object.__class__")))
    (cmQ : PySem.W.mroIn K CQ (.type "object") = some true)
    (soQ : PySem.W.subIn K (.ref CQ) (.type "object") = some true)
    (neQ : PySem.W.findIn K (.ref CQ) "__ne__" = some (some (.builtin "object.__ne__")))
    (fmQ : PySem.W.findIn K (.ref CQ) "__format__" = some (some (.builtin "object.__format__")))
    (nQ0 : PySem.W.findIn K (.ref CQ) "_kind" = some none)
    (nQ1 : PySem.W.findIn K (.ref CQ) "_parts" = some none)
    (nQ2 : PySem.W.findIn K (.ref CQ) "_letters" = some none)
    (nQ3 : PySem.W.findIn K (.ref CQ) "_rows" = some none)
    (nQ4 : PySem.W.findIn K (.ref CQ) "_columns" = some none)
    (nQ5 : PySem.W.findIn K (.ref CQ) "_weight" = some none)
    (nQ6 : PySem.W.findIn K (.ref CQ) "_levels" = some none)
    (nQ7 : PySem.W.findIn K (.ref CQ) "_middle" = some none)
    (nQ8 : PySem.W.findIn K (.ref CQ) "_spelled" = some none)
    (nQ9 : PySem.W.findIn K (.ref CQ) "_sizes" = some none)
    (nQ10 : PySem.W.findIn K (.ref CQ) "_mark" = some none)
    (nQ11 : PySem.W.findIn K (.ref CQ) "_name" = some none)
    (nQ12 : PySem.W.findIn K (.ref CQ) "_symmetry" = some none)
    (nQ13 : PySem.W.findIn K (.ref CQ) "_about" = some none)
    (nT' : PySem.W.findIn K (.ref C) "_top" = some none)
    (nB' : PySem.W.findIn K (.ref C) "_bottom" = some none)
    (nE' : PySem.W.findIn K (.ref CM) "_entries" = some none)
    (nTop : PySem.W.findIn K (.ref CM) "top" = some none)
    (cn : PySem.W.specialIn K (.builtin "object.__class__") "__get__" = some (some (.builtin "getset_descriptor.__get__")))
    (ct' : PySem.W.takesIn K (.builtin "object.__class__") = some true)
    (sRM : PySem.W.subIn K (.ref C) (.ref CM) = some false)
    (sMR : PySem.W.subIn K (.ref CM) (.ref C) = some false)
    (kLF : PySem.W.kitOne K (.ref CL) (.ref CY) = some true)
    (kTF : PySem.W.kitOne K (.ref CT) (.ref CY) = some true)
    (kQF : PySem.W.kitOne K (.ref CQ) (.ref CY) = some true)
    (kSF : PySem.W.kitOne K (.type "str") (.ref CY) = some false)
    (kNF : PySem.W.kitOne K (.type "NoneType") (.ref CY) = some false)
    (nfLL : PySem.W.notFirst K CL (.ref CL) = true)
    (nfLS : PySem.W.notFirst K CL (.type "str") = true)
    (nfLN : PySem.W.notFirst K CL (.type "NoneType") = true)
    (nfLT : PySem.W.notFirst K CL (.ref CT) = true)
    (nfLQ : PySem.W.notFirst K CL (.ref CQ) = true)
    (nfTL : PySem.W.notFirst K CT (.ref CL) = true)
    (z_set : PySem.W.nsIn K mainGlobals "set" = some none)
    (z_sorted : PySem.W.nsIn K mainGlobals "sorted" = some none)
    (z_super : PySem.W.nsIn K mainGlobals "super" = some none)
    (aLN : PySem.W.nsIn K mainGlobals "LONGEST_NAME" = some (some (.int 6 tk)))
    (aS1 : PySem.W.nsIn K mainGlobals "MOST_SIDE" = some (some (.int 16 q1)))
    (aS2 : PySem.W.nsIn K mainGlobals "MOST_WEIGHT" = some (some (.int 1000 q2)))
    (aS3 : PySem.W.nsIn K mainGlobals "MOST_LEVELS" = some (some (.int 60 q3)))
    (aSY : PySem.W.nsIn K mainGlobals "SYMMETRIES" = some (some (.ref tSY)))
    (lSY : K.lookup tSY = some oSY)
    (dSY : oSY.cls = .type "tuple")
    (eSY : oSY.data = .seq #[.str "plain" ky1, .str "symmetric" ky2, .str "skew" ky3] nSY)
    (aLE : PySem.W.nsIn K mainGlobals "LEAST" = some (some (.ref tLE)))
    (lLE : K.lookup tLE = some oLE)
    (dLE : oLE.cls = .type "tuple")
    (eLE : oLE.data = .seq #[.int 1 ke1, .int 1 ke2] nLE)
    (aME : PySem.W.nsIn K mainGlobals "measured" = some (some (.ref fME)))
    (lME : K.lookup fME = some ⟨ocME, odME, .func (PySem.W.fnOf "measured" "measured" (defArgs s_measured) (defBody s_measured) (defScope s_measured) (.ref tME) kVME dcME pmME anME cdME ctME), slME⟩)
    (cME : PySem.W.codeIn K cdME "measured" = true)
    (kME : PySem.W.keepIn K (.ref fME) = true)
    (lTM : K.lookup tME = some oTM)
    (dTM : oTM.data = .seq #[.int 1 kTM] nTM)
    (rerd : PySem.W.readsIn K CM (.type "type") = true)
    (rega : PySem.W.specialIn K (.ref CM) "__getattribute__" = some (some (.builtin "type.__getattribute__")))
    (reat : PySem.W.findCls K (.ref CM) (.type "type") "eye" = some (.get (.builtin "classmethod.__get__") (.ref pRE) .none (.ref CM)))
    (rerc : PySem.W.recIn K pRE "classmethod" = some (.ref fRE :: reRE))
    (refi : PySem.W.fnIn K fRE = true)
    (lRE : K.lookup fRE = some ⟨ocRE, odRE, .func (PySem.W.fnOf "eye" "Matrix.eye" (defArgs s_Matrix_eye) (defBody s_Matrix_eye) (defScope s_Matrix_eye) .none kVRE dcRE pmRE anRE cdRE ctRE), slRE⟩)
    (cRE : PySem.W.codeIn K cdRE "Matrix.eye" = true)
    (kRE : PySem.W.keepIn K (.ref fRE) = true)
    (aLI : PySem.W.findIn K (.ref CL) "__init__" = some (some (.ref fLI)))
    (iLI : PySem.W.isFn K (.ref fLI) = true)
    (lLI : K.lookup fLI = some ⟨ocLI, odLI, .func (PySem.W.ksFn "__init__" "Letter.__init__" (defArgs s_Letter___init__) (defBody s_Letter___init__) (defScope s_Letter___init__) .none (.ref BL) dcLI pmLI anLI (.ref cdaL) ctLI ccL), slLI⟩)
    (cLI : PySem.W.codeIn K (.ref cdaL) "Letter.__init__" = true)
    (w1 : PySem.W.nsIn K BL "symmetry" = some (some (.str "plain" kw1)))
    (w2 : PySem.W.nsIn K BL "about" = some (some (.int 0 kw2)))
    (lccL : K.lookup ccL = some ⟨cclL, ccdL, .cell (some (.ref CL)), ccsL⟩)
    (lcdaL : K.lookup cdaL = some ⟨dclL, dcdL, .fields dvsL, dcsL⟩)
    (dv2L : dvsL[2]? = some (.str filL fitL))
    (pfilL : ((l.prog.main.file : Str) == filL) = true)
    (pclL : PySem.W.clsIn K CL = some cdfL)
    (psubL : PySem.W.mroIn K CL (.ref CL) = some true)
    (patL : PySem.W.ks_superIn K CL CL "__init__" = some (some (.ref fFM)))
    (aTI : PySem.W.findIn K (.ref CT) "__init__" = some (some (.ref fTI)))
    (iTI : PySem.W.isFn K (.ref fTI) = true)
    (lTI : K.lookup fTI = some ⟨ocTI, odTI, .func (PySem.W.ksFn "__init__" "Transposed.__init__" (defArgs s_Transposed___init__) (defBody s_Transposed___init__) (defScope s_Transposed___init__) .none kVTI dcTI pmTI anTI (.ref cdaT) ctTI ccT), slTI⟩)
    (cTI : PySem.W.codeIn K (.ref cdaT) "Transposed.__init__" = true)
    (lccT : K.lookup ccT = some ⟨cclT, ccdT, .cell (some (.ref CT)), ccsT⟩)
    (lcdaT : K.lookup cdaT = some ⟨dclT, dcdT, .fields dvsT, dcsT⟩)
    (dv2T : dvsT[2]? = some (.str filT fitT))
    (pfilT : ((l.prog.main.file : Str) == filT) = true)
    (pclT : PySem.W.clsIn K CT = some cdfT)
    (psubT : PySem.W.mroIn K CT (.ref CT) = some true)
    (patT : PySem.W.ks_superIn K CT CT "__init__" = some (some (.ref fFM)))
    (aQI : PySem.W.findIn K (.ref CQ) "__init__" = some (some (.ref fQI)))
    (iQI : PySem.W.isFn K (.ref fQI) = true)
    (lQI : K.lookup fQI = some ⟨ocQI, odQI, .func (PySem.W.ksFn "__init__" "Eye.__init__" (defArgs s_Eye___init__) (defBody s_Eye___init__) (defScope s_Eye___init__) .none kVQI dcQI pmQI anQI (.ref cdaQ) ctQI ccQ), slQI⟩)
    (cQI : PySem.W.codeIn K (.ref cdaQ) "Eye.__init__" = true)
    (lccQ : K.lookup ccQ = some ⟨cclQ, ccdQ, .cell (some (.ref CQ)), ccsQ⟩)
    (lcdaQ : K.lookup cdaQ = some ⟨dclQ, dcdQ, .fields dvsQ, dcsQ⟩)
    (dv2Q : dvsQ[2]? = some (.str filQ fitQ))
    (pfilQ : ((l.prog.main.file : Str) == filQ) = true)
    (pclQ : PySem.W.clsIn K CQ = some cdfQ)
    (psubQ : PySem.W.mroIn K CQ (.ref CQ) = some true)
    (patQ : PySem.W.ks_superIn K CQ CQ "__init__" = some (some (.ref fFM)))
    (ptop : (l.prog.main.scope.names.lookup ("super" : Str)).isSome = false)
    (pop : PySem.W.nsIn K cStatics "thirdparty.any" = some none)
    (pty : PySem.W.typeIn K (.ref fFM) = some (.type "function"))
    (pfi : PySem.W.fnIn K fFM = true)
    (lFM : K.lookup fFM = some ⟨ocFM, odFM, .func (PySem.W.fnOf "__init__" "Formula.__init__" (defArgs s_Formula___init__) (defBody s_Formula___init__) (defScope s_Formula___init__) .none kVFM dcFM pmFM anFM cdFM ctFM), slFM⟩)
    (cFM : PySem.W.codeIn K cdFM "Formula.__init__" = true)
    (kFM : PySem.W.keepIn K (.ref fFM) = true)
    (eqT : PySem.W.findIn K (.ref CT) "__eq__" = some (some (.ref fM4)))
    : ∃ fd : FuncData, (∀ (s : Shared) (v : Value), BindsTo s fd ⟨[v], []⟩ [("_law_script", v)]) ∧ ∀ base : Heap, K.In base → base.Ns mainGlobals mg → FnG l.prog w K mg base CX0 26 fa fd ["_law_script"] (spLaw K) := by
  have e := hfa.symm.trans (PySem.W.mg_of X G aD28)
  cases e
  have FD0 := fun_mk (st := s_is_whole) lD0 cD0 kD0
  have bD0 := FD0.binds (ps := ["value"]) fun _ _ _ _ _ _ us hl => match us, hl with | [_], _ => rfl
  have gD0 := PySem.W.mg_of X G aD0
  have FD1 := fun_mk (st := s_is_number) lD1 cD1 kD1
  have bD1 := FD1.binds (ps := ["value"]) fun _ _ _ _ _ _ us hl => match us, hl with | [_], _ => rfl
  have gD1 := PySem.W.mg_of X G aD1
  have FD2 := fun_mk (st := s_to_ratio) lD2 cD2 kD2
  have bD2 := FD2.binds (ps := ["number"]) fun _ _ _ _ _ _ us hl => match us, hl with | [_], _ => rfl
  have gD2 := PySem.W.mg_of X G aD2
  have FD3 := fun_mk (st := s_is_table) lD3 cD3 kD3
  have bD3 := FD3.binds (ps := ["given"]) fun _ _ _ _ _ _ us hl => match us, hl with | [_], _ => rfl
  have gD3 := PySem.W.mg_of X G aD3
  have FD4 := fun_mk (st := s_is_size) lD4 cD4 kD4
  have bD4 := FD4.binds (ps := ["given"]) fun _ _ _ _ _ _ us hl => match us, hl with | [_], _ => rfl
  have gD4 := PySem.W.mg_of X G aD4
  have FD5 := fun_mk (st := s_is_size_name) lD5 cD5 kD5
  have bD5 := FD5.binds (ps := ["given"]) fun _ _ _ _ _ _ us hl => match us, hl with | [_], _ => rfl
  have gD5 := PySem.W.mg_of X G aD5
  have FD6 := fun_mk (st := s_is_letter_name) lD6 cD6 kD6
  have bD6 := FD6.binds (ps := ["given"]) fun _ _ _ _ _ _ us hl => match us, hl with | [_], _ => rfl
  have gD6 := PySem.W.mg_of X G aD6
  have FD7 := fun_mk (st := s_to_side) lD7 cD7 kD7
  have bD7 := FD7.binds (ps := ["given"]) fun _ _ _ _ _ _ us hl => match us, hl with | [_], _ => rfl
  have gD7 := PySem.W.mg_of X G aD7
  have FD8 := fun_mk (st := s_check_symmetry) lD8 cD8 kD8
  have bD8 := FD8.binds (ps := ["letter_sides", "symmetry"]) fun _ _ _ _ _ _ us hl => match us, hl with | [_, _], _ => rfl
  have gD8 := PySem.W.mg_of X G aD8
  have FD9 := fun_mk (st := s_check_about) lD9 cD9 kD9
  have bD9 := FD9.binds (ps := ["letter_sides", "symmetry", "about"]) fun _ _ _ _ _ _ us hl => match us, hl with | [_, _, _], _ => rfl
  have gD9 := PySem.W.mg_of X G aD9
  have FD10 := fun_mk (st := s_check_formula) lD10 cD10 kD10
  have bD10 := FD10.binds (ps := ["formula"]) fun _ _ _ _ _ _ us hl => match us, hl with | [_], _ => rfl
  have gD10 := PySem.W.mg_of X G aD10
  have FD11 := fun_mk (st := s_joined_sizes) lD11 cD11 kD11
  have bD11 := FD11.binds (ps := ["formulas"]) fun _ _ _ _ _ _ us hl => match us, hl with | [_], _ => rfl
  have gD11 := PySem.W.mg_of X G aD11
  have FD12 := fun_mk (st := s__law_purse) lD12 cD12 kD12
  have bD12 := FD12.binds (ps := ["_law_script"]) fun _ _ _ _ _ _ us hl => match us, hl with | [_], _ => rfl
  have gD12 := PySem.W.mg_of X G aD12
  have FD13 := fun_mk (st := s__law_draw) lD13 cD13 kD13
  have bD13 := FD13.binds (ps := ["_law_q", "_law_many"]) fun _ _ _ _ _ _ us hl => match us, hl with | [_, _], _ => rfl
  have gD13 := PySem.W.mg_of X G aD13
  have FD14 := fun_mk (st := s__law_great) lD14 cD14 kD14
  have bD14 := FD14.binds (ps := ["_law_q"]) fun _ _ _ _ _ _ us hl => match us, hl with | [_], _ => rfl
  have gD14 := PySem.W.mg_of X G aD14
  have FD15 := fun_mk (st := s__law_common) lD15 cD15 kD15
  have bD15 := FD15.binds (ps := ["_law_one", "_law_two"]) fun _ _ _ _ _ _ us hl => match us, hl with | [_, _], _ => rfl
  have gD15 := PySem.W.mg_of X G aD15
  have FD16 := fun_mk (st := s__law_lowest) lD16 cD16 kD16
  have bD16 := FD16.binds (ps := ["_law_high", "_law_under"]) fun _ _ _ _ _ _ us hl => match us, hl with | [_, _], _ => rfl
  have gD16 := PySem.W.mg_of X G aD16
  have FD17 := fun_mk (st := s__law_told) lD17 cD17 kD17
  have bD17 := FD17.binds (ps := ["_law_matrix"]) fun _ _ _ _ _ _ us hl => match us, hl with | [_], _ => rfl
  have gD17 := PySem.W.mg_of X G aD17
  have FD18 := fun_mk (st := s__law_pairs) lD18 cD18 kD18
  have bD18 := FD18.binds (ps := ["_law_pair"]) fun _ _ _ _ _ _ us hl => match us, hl with | [_], _ => rfl
  have gD18 := PySem.W.mg_of X G aD18
  have FD19 := fun_mk (st := s__law_is) lD19 cD19 kD19
  have bD19 := FD19.binds (ps := ["_law_matrix", "_law_pair"]) fun _ _ _ _ _ _ us hl => match us, hl with | [_, _], _ => rfl
  have gD19 := PySem.W.mg_of X G aD19
  have FD20 := fun_mk (st := s__law_from) lD20 cD20 kD20
  have bD20 := FD20.binds (ps := ["_law_script", "_law_k"]) fun _ _ _ _ _ _ us hl => match us, hl with | [_, _], _ => rfl
  have gD20 := PySem.W.mg_of X G aD20
  have FD21 := fun_mk (st := s__law_label) lD21 cD21 kD21
  have bD21 := FD21.binds (ps := ["_law_q"]) fun _ _ _ _ _ _ us hl => match us, hl with | [_], _ => rfl
  have gD21 := PySem.W.mg_of X G aD21
  have FD22 := fun_mk (st := s__law_word) lD22 cD22 kD22
  have bD22 := FD22.binds (ps := ["_law_q"]) fun _ _ _ _ _ _ us hl => match us, hl with | [_], _ => rfl
  have gD22 := PySem.W.mg_of X G aD22
  have FD23 := fun_mk (st := s__law_facts) lD23 cD23 kD23
  have bD23 := FD23.binds (ps := ["_law_q"]) fun _ _ _ _ _ _ us hl => match us, hl with | [_], _ => rfl
  have gD23 := PySem.W.mg_of X G aD23
  have FD24 := fun_mk (st := s__law_bent) lD24 cD24 kD24
  have bD24 := FD24.binds (ps := ["_law_q", "_law_facts_here"]) fun _ _ _ _ _ _ us hl => match us, hl with | [_, _], _ => rfl
  have gD24 := PySem.W.mg_of X G aD24
  have FD25 := fun_mk (st := s__law_made) lD25 cD25 kD25
  have bD25 := FD25.binds (ps := ["_law_q", "_law_facts_here"]) fun _ _ _ _ _ _ us hl => match us, hl with | [_, _], _ => rfl
  have gD25 := PySem.W.mg_of X G aD25
  have FD26 := fun_mk (st := s__law_fits) lD26 cD26 kD26
  have bD26 := FD26.binds (ps := ["_law_letter", "_law_facts_here"]) fun _ _ _ _ _ _ us hl => match us, hl with | [_, _], _ => rfl
  have gD26 := PySem.W.mg_of X G aD26
  have FD27 := fun_mk (st := s__law_right) lD27 cD27 kD27
  have bD27 := FD27.binds (ps := ["_law_q"]) fun _ _ _ _ _ _ us hl => match us, hl with | [_], _ => rfl
  have gD27 := PySem.W.mg_of X G aD27
  have FD28 := fun_mk (st := s_law) lD28 cD28 kD28
  have gD28 := PySem.W.mg_of X G aD28
  have FM0 := fun_mk (st := s_Ratio___bool__) lM0 cM0 kM0
  have bM0 := FM0.binds (ps := ["self"]) fun _ _ _ _ _ _ us hl => match us, hl with | [_], _ => rfl
  have FM1 := fun_mk (st := s_Matrix___init__) lM1 cM1 kM1
  have bM1 := FM1.binds (ps := ["self", "entries"]) fun _ _ _ _ _ _ us hl => match us, hl with | [_, _], _ => rfl
  have FM2 := fun_mk (st := s_Formula___str__) lM2 cM2 kM2
  have bM2 := FM2.binds (ps := ["self"]) fun _ _ _ _ _ _ us hl => match us, hl with | [_], _ => rfl
  have FM3 := fun_mk (st := s_Formula___repr__) lM3 cM3 kM3
  have bM3 := FM3.binds (ps := ["self"]) fun _ _ _ _ _ _ us hl => match us, hl with | [_], _ => rfl
  have FM4 := fun_mk (st := s_Formula___eq__) lM4 cM4 kM4
  have bM4 := FM4.binds (ps := ["self", "other"]) fun _ _ _ _ _ _ us hl => match us, hl with | [_, _], _ => rfl
  have FP0 := fun_mk (st := s_Ratio_top) lP0 cP0 kP0
  have bP0 := FP0.binds (ps := ["self"]) fun _ _ _ _ _ _ us hl => match us, hl with | [_], _ => rfl
  have pP0' : PropOf K C "top" pP0 fP0 := ⟨aP0, gP0, tP0, _, rP0⟩
  have FP1 := fun_mk (st := s_Ratio_bottom) lP1 cP1 kP1
  have bP1 := FP1.binds (ps := ["self"]) fun _ _ _ _ _ _ us hl => match us, hl with | [_], _ => rfl
  have pP1' : PropOf K C "bottom" pP1 fP1 := ⟨aP1, gP1, tP1, _, rP1⟩
  have FP2 := fun_mk (st := s_Matrix_entries) lP2 cP2 kP2
  have bP2 := FP2.binds (ps := ["self"]) fun _ _ _ _ _ _ us hl => match us, hl with | [_], _ => rfl
  have pP2' : PropOf K CM "entries" pP2 fP2 := ⟨aP2, gP2, tP2, _, rP2⟩
  have FP3 := fun_mk (st := s_Matrix_columns) lP3 cP3 kP3
  have bP3 := FP3.binds (ps := ["self"]) fun _ _ _ _ _ _ us hl => match us, hl with | [_], _ => rfl
  have pP3' : PropOf K CM "columns" pP3 fP3 := ⟨aP3, gP3, tP3, _, rP3⟩
  have FP4 := fun_mk (st := s_Matrix_transposed) lP4 cP4 kP4
  have bP4 := FP4.binds (ps := ["self"]) fun _ _ _ _ _ _ us hl => match us, hl with | [_], _ => rfl
  have pP4' : PropOf K CM "transposed" pP4 fP4 := ⟨aP4, gP4, tP4, _, rP4⟩
  have FP5 := fun_mk (st := s_Formula_kind) lP5 cP5 kP5
  have bP5 := FP5.binds (ps := ["self"]) fun _ _ _ _ _ _ us hl => match us, hl with | [_], _ => rfl
  have pP5' : PropOf K CL "kind" pP5 fP5 := ⟨aP5, gP5, tP5, _, rP5⟩
  have FP6 := fun_mk (st := s_Formula_parts) lP6 cP6 kP6
  have bP6 := FP6.binds (ps := ["self"]) fun _ _ _ _ _ _ us hl => match us, hl with | [_], _ => rfl
  have pP6' : PropOf K CL "parts" pP6 fP6 := ⟨aP6, gP6, tP6, _, rP6⟩
  have FP7 := fun_mk (st := s_Formula_letters) lP7 cP7 kP7
  have bP7 := FP7.binds (ps := ["self"]) fun _ _ _ _ _ _ us hl => match us, hl with | [_], _ => rfl
  have pP7' : PropOf K CL "letters" pP7 fP7 := ⟨aP7, gP7, tP7, _, rP7⟩
  have FP8 := fun_mk (st := s_Formula_rows) lP8 cP8 kP8
  have bP8 := FP8.binds (ps := ["self"]) fun _ _ _ _ _ _ us hl => match us, hl with | [_], _ => rfl
  have pP8' : PropOf K CL "rows" pP8 fP8 := ⟨aP8, gP8, tP8, _, rP8⟩
  have FP9 := fun_mk (st := s_Formula_columns) lP9 cP9 kP9
  have bP9 := FP9.binds (ps := ["self"]) fun _ _ _ _ _ _ us hl => match us, hl with | [_], _ => rfl
  have pP9' : PropOf K CL "columns" pP9 fP9 := ⟨aP9, gP9, tP9, _, rP9⟩
  have FP10 := fun_mk (st := s_Formula_weight) lP10 cP10 kP10
  have bP10 := FP10.binds (ps := ["self"]) fun _ _ _ _ _ _ us hl => match us, hl with | [_], _ => rfl
  have pP10' : PropOf K CL "weight" pP10 fP10 := ⟨aP10, gP10, tP10, _, rP10⟩
  have FP11 := fun_mk (st := s_Formula_levels) lP11 cP11 kP11
  have bP11 := FP11.binds (ps := ["self"]) fun _ _ _ _ _ _ us hl => match us, hl with | [_], _ => rfl
  have pP11' : PropOf K CL "levels" pP11 fP11 := ⟨aP11, gP11, tP11, _, rP11⟩
  have FP12 := fun_mk (st := s_Formula_middle) lP12 cP12 kP12
  have bP12 := FP12.binds (ps := ["self"]) fun _ _ _ _ _ _ us hl => match us, hl with | [_], _ => rfl
  have pP12' : PropOf K CL "middle" pP12 fP12 := ⟨aP12, gP12, tP12, _, rP12⟩
  have FP13 := fun_mk (st := s_Formula_sizes) lP13 cP13 kP13
  have bP13 := FP13.binds (ps := ["self"]) fun _ _ _ _ _ _ us hl => match us, hl with | [_], _ => rfl
  have pP13' : PropOf K CL "sizes" pP13 fP13 := ⟨aP13, gP13, tP13, _, rP13⟩
  have FP14 := fun_mk (st := s_Letter_name) lP14 cP14 kP14
  have bP14 := FP14.binds (ps := ["self"]) fun _ _ _ _ _ _ us hl => match us, hl with | [_], _ => rfl
  have pP14' : PropOf K CL "name" pP14 fP14 := ⟨aP14, gP14, tP14, _, rP14⟩
  have FP15 := fun_mk (st := s_Letter_symmetry) lP15 cP15 kP15
  have bP15 := FP15.binds (ps := ["self"]) fun _ _ _ _ _ _ us hl => match us, hl with | [_], _ => rfl
  have pP15' : PropOf K CL "symmetry" pP15 fP15 := ⟨aP15, gP15, tP15, _, rP15⟩
  have FP16 := fun_mk (st := s_Letter_about) lP16 cP16 kP16
  have bP16 := FP16.binds (ps := ["self"]) fun _ _ _ _ _ _ us hl => match us, hl with | [_], _ => rfl
  have pP16' : PropOf K CL "about" pP16 fP16 := ⟨aP16, gP16, tP16, _, rP16⟩
  have FP17 := fun_mk (st := s_Formula_transposed) lP17 cP17 kP17
  have bP17 := FP17.binds (ps := ["self"]) fun _ _ _ _ _ _ us hl => match us, hl with | [_], _ => rfl
  have pP17' : PropOf K CL "transposed" pP17 fP17 := ⟨aP17, gP17, tP17, _, rP17⟩
  have FI : FunD K "__init__" "Ratio.__init__" (defArgs s_Ratio___init__) (defBody s_Ratio___init__) (defScope s_Ratio___init__) [.int 1] [] fI _ := ⟨⟨_, _, _, _, _, _, _, _, _, _, rfl, lI, cI, .inr ⟨nofun, tI, oT, [.int 1 kT], nT, rfl, lT, dT, .cons ⟨_, rfl⟩ .nil⟩, .inl rfl⟩, kI⟩
  obtain ⟨ds2, v2, bI2⟩ := FI.binds1 (ps := ["self", "top", "bottom"]) 3 1 nofun rfl fun T kV doc pm an cdv ct us its h1 h2 => match us, its, h1, h2 with | [_, _, _], [_], _, _ => ⟨_, rfl, rfl⟩
  obtain ⟨ds1, v1, bI1⟩ := FI.binds1 (ps := ["self", "top", "bottom"]) 2 0 nofun rfl fun T kV doc pm an cdv ct us its h1 h2 => match us, its, h1, h2 with | [_, _], [_], _, _ => ⟨_, rfl, rfl⟩
  refine ⟨PySem.W.fnOf "law" "law" (defArgs s_law) (defBody s_law) (defScope s_law) .none kVD28 dcD28 pmD28 anD28 cdD28 ctD28, fun s v => .of_eq rfl, fun base _ _ => ?_⟩
  have B : Blt mg := ⟨PySem.W.mg_none_of X G z_int, PySem.W.mg_none_of X G z_len, PySem.W.mg_none_of X G z_abs, PySem.W.mg_none_of X G z_range, PySem.W.mg_none_of X G z_max, PySem.W.mg_none_of X G z_min, PySem.W.mg_none_of X G z_all, PySem.W.mg_none_of X G z_repr, PySem.W.mg_none_of X G z_isinstance, PySem.W.mg_none_of X G z_bool, PySem.W.mg_none_of X G z_str, PySem.W.mg_none_of X G z_any, PySem.W.mg_none_of X G z_tuple, PySem.W.mg_none_of X G z_list, PySem.W.mg_none_of X G z_sum, PySem.W.mg_none_of X G z_zip, PySem.W.mg_none_of X G z_enumerate⟩
  have R : TxR K mg C := { toBlt := B, cl := ⟨pgC, hdC, poC, saC⟩, nT := nT', nB := nB', g_Ratio := PySem.W.mg_of X G aR, g_gcd := PySem.W.mg_of X G aG, ca := caC, cn := cn, ct := ct', cm := cmC, kI := kit_rt (by decide +kernel) sIC, kB := kit_rt (by decide +kernel) sBC, kC := kit_rr, iC := kit_tr isC tyC sbC }
  have nMR : CM ≠ C := fun e => by rw [e, aP0] at nTop; cases nTop
  have TM : TxM K mg C CM := { toTxR := R, clM := ⟨pgM, hdM, poM, saM⟩, nE := nE', g_Matrix := PySem.W.mg_of X G aCM, g_lcm := PySem.W.mg_of X G aL, caM := caM, cmM := cmM, kMM := kit_rr, kMR := kit_rc isC tyC nMR sMR, kRM := kit_rc isM tyM (Ne.symm nMR) sRM, kMI := kit_rt (by decide +kernel) sIM, kMB := kit_rt (by decide +kernel) sBM, kIM := kit_tr isM tyM sbM }
  have TL' : TxL K mg C CM tk tSY := { toTxM := TM, b_set := PySem.W.mg_none_of X G z_set, b_sorted := PySem.W.mg_none_of X G z_sorted, b_super := PySem.W.mg_none_of X G z_super, g_long := PySem.W.mg_of X G aLN, g_SYMMETRIES := PySem.W.mg_of X G aSY, s_sym := fun H => .inr ⟨oSY, _, nSY, lSY, dSY, eSY, (show 3 ≤ sizeLine by decide), .cons ⟨_, rfl⟩ (.cons ⟨_, rfl⟩ (.cons ⟨_, rfl⟩ .nil))⟩ }
  have lst : ∀ H, SqT K H tLE [.int 1, .int 1] := fun H => .inr ⟨oLE, _, nLE, lLE, dLE, eLE, (show 2 ≤ sizeLine by decide), .cons ⟨_, rfl⟩ (.cons ⟨_, rfl⟩ .nil)⟩
  have TFL : TxF K CL := ⟨⟨pgL, hdL, poL, saL⟩, (fun i f hf => match i, hf with
    | 0, hf => by
      obtain rfl : ("_kind" : Str) = f := Option.some.inj hf
      exact nL0
    | 1, hf => by
      obtain rfl : ("_parts" : Str) = f := Option.some.inj hf
      exact nL1
    | 2, hf => by
      obtain rfl : ("_letters" : Str) = f := Option.some.inj hf
      exact nL2
    | 3, hf => by
      obtain rfl : ("_rows" : Str) = f := Option.some.inj hf
      exact nL3
    | 4, hf => by
      obtain rfl : ("_columns" : Str) = f := Option.some.inj hf
      exact nL4
    | 5, hf => by
      obtain rfl : ("_weight" : Str) = f := Option.some.inj hf
      exact nL5
    | 6, hf => by
      obtain rfl : ("_levels" : Str) = f := Option.some.inj hf
      exact nL6
    | 7, hf => by
      obtain rfl : ("_middle" : Str) = f := Option.some.inj hf
      exact nL7
    | 8, hf => by
      obtain rfl : ("_spelled" : Str) = f := Option.some.inj hf
      exact nL8
    | 9, hf => by
      obtain rfl : ("_sizes" : Str) = f := Option.some.inj hf
      exact nL9
    | 10, hf => by
      obtain rfl : ("_mark" : Str) = f := Option.some.inj hf
      exact nL10
    | 11, hf => by
      obtain rfl : ("_name" : Str) = f := Option.some.inj hf
      exact nL11
    | 12, hf => by
      obtain rfl : ("_symmetry" : Str) = f := Option.some.inj hf
      exact nL12
    | 13, hf => by
      obtain rfl : ("_about" : Str) = f := Option.some.inj hf
      exact nL13
    | (n + 14), hf => by cases hf), caL, ⟨fmL, cmL⟩⟩
  have TFT : TxF K CT := ⟨⟨pgT, hdT, poT, saT⟩, (fun i f hf => match i, hf with
    | 0, hf => by
      obtain rfl : ("_kind" : Str) = f := Option.some.inj hf
      exact nT0
    | 1, hf => by
      obtain rfl : ("_parts" : Str) = f := Option.some.inj hf
      exact nT1
    | 2, hf => by
      obtain rfl : ("_letters" : Str) = f := Option.some.inj hf
      exact nT2
    | 3, hf => by
      obtain rfl : ("_rows" : Str) = f := Option.some.inj hf
      exact nT3
    | 4, hf => by
      obtain rfl : ("_columns" : Str) = f := Option.some.inj hf
      exact nT4
    | 5, hf => by
      obtain rfl : ("_weight" : Str) = f := Option.some.inj hf
      exact nT5
    | 6, hf => by
      obtain rfl : ("_levels" : Str) = f := Option.some.inj hf
      exact nT6
    | 7, hf => by
      obtain rfl : ("_middle" : Str) = f := Option.some.inj hf
      exact nT7
    | 8, hf => by
      obtain rfl : ("_spelled" : Str) = f := Option.some.inj hf
      exact nT8
    | 9, hf => by
      obtain rfl : ("_sizes" : Str) = f := Option.some.inj hf
      exact nT9
    | 10, hf => by
      obtain rfl : ("_mark" : Str) = f := Option.some.inj hf
      exact nT10
    | 11, hf => by
      obtain rfl : ("_name" : Str) = f := Option.some.inj hf
      exact nT11
    | 12, hf => by
      obtain rfl : ("_symmetry" : Str) = f := Option.some.inj hf
      exact nT12
    | 13, hf => by
      obtain rfl : ("_about" : Str) = f := Option.some.inj hf
      exact nT13
    | (n + 14), hf => by cases hf), caT, ⟨fmT, cmT⟩⟩
  have TFQ : TxF K CQ := ⟨⟨pgQ, hdQ, poQ, saQ⟩, (fun i f hf => match i, hf with
    | 0, hf => by
      obtain rfl : ("_kind" : Str) = f := Option.some.inj hf
      exact nQ0
    | 1, hf => by
      obtain rfl : ("_parts" : Str) = f := Option.some.inj hf
      exact nQ1
    | 2, hf => by
      obtain rfl : ("_letters" : Str) = f := Option.some.inj hf
      exact nQ2
    | 3, hf => by
      obtain rfl : ("_rows" : Str) = f := Option.some.inj hf
      exact nQ3
    | 4, hf => by
      obtain rfl : ("_columns" : Str) = f := Option.some.inj hf
      exact nQ4
    | 5, hf => by
      obtain rfl : ("_weight" : Str) = f := Option.some.inj hf
      exact nQ5
    | 6, hf => by
      obtain rfl : ("_levels" : Str) = f := Option.some.inj hf
      exact nQ6
    | 7, hf => by
      obtain rfl : ("_middle" : Str) = f := Option.some.inj hf
      exact nQ7
    | 8, hf => by
      obtain rfl : ("_spelled" : Str) = f := Option.some.inj hf
      exact nQ8
    | 9, hf => by
      obtain rfl : ("_sizes" : Str) = f := Option.some.inj hf
      exact nQ9
    | 10, hf => by
      obtain rfl : ("_mark" : Str) = f := Option.some.inj hf
      exact nQ10
    | 11, hf => by
      obtain rfl : ("_name" : Str) = f := Option.some.inj hf
      exact nQ11
    | 12, hf => by
      obtain rfl : ("_symmetry" : Str) = f := Option.some.inj hf
      exact nQ12
    | 13, hf => by
      obtain rfl : ("_about" : Str) = f := Option.some.inj hf
      exact nQ13
    | (n + 14), hf => by cases hf), caQ, ⟨fmQ, cmQ⟩⟩
  have N : Kin K CL CT CQ CY := ⟨kLF, kTF, kQF, kSF, kNF, nfLL, nfLS, nfLN, nfLT, nfLQ, nfTL⟩
  have LM : Lim mg q1 q2 q3 := ⟨PySem.W.mg_of X G aS1, PySem.W.mg_of X G aS2, PySem.W.mg_of X G aS3⟩
  have gF := PySem.W.mg_of X G aFo
  have c_whole : CalF l.prog w K mg base _ "is_whole" _ [] := ⟨fD0, _, _, [], ok_whole FD0 B, gD0, kD0, bD0, .nil⟩
  have c_number : CalF l.prog w K mg base _ "is_number" _ [] := ⟨fD1, _, _, [], ok_number FD1 R c_whole, gD1, kD1, bD1, .nil⟩
  have MC : Mk K C fI := ⟨mkC, aI, iI, kcC⟩
  have m_rat2 : Rat2C l.prog w K mg base C := ⟨fI, _, _, ds2, MC, ok_init FI R c_whole, PySem.W.mg_of X G aR, bI2, v2⟩
  have m_rat1 : Rat1C l.prog w K mg base C := ⟨fI, _, _, ds1, MC, ok_init FI R c_whole, PySem.W.mg_of X G aR, bI1, v1⟩
  have c_to : CalF l.prog w K mg base _ "to_ratio" _ [] := ⟨fD2, _, _, [], ok_to FD2 R m_rat1, gD2, kD2, bD2, .nil⟩
  have t_bool : BooC l.prog w K mg base C := ⟨fM0, _, _, aM0, iM0, ok_bool FM0 R, bM0⟩
  have d_fstr : FStrD l.prog w K mg base CL := ⟨fM2, _, _, aM2, iM2, ok_fstr FM2 R TFL, bM2⟩
  have d_frepr : FReprD l.prog w K mg base CL := ⟨fM3, _, _, aM3, iM3, ok_frepr FM3 R TFL, bM3⟩
  have o_leq : FEqC l.prog w K mg base CL CY := ⟨fM4, _, _, ⟨neL, aM4, iM4, soL⟩, ok_feq FM4 R TFL gF, bM4⟩
  have o_teq : FEqC l.prog w K mg base CT CY := ⟨fM4, _, _, ⟨neT, eqT, iM4, soT⟩, ok_feq FM4 R TFT gF, bM4⟩
  have p_top : PropF l.prog w K mg base 2 C "top" _ := ⟨pP0, fP0, _, _, pP0', ok_top FP0 R, bP0⟩
  have p_bottom : PropF l.prog w K mg base 2 C "bottom" _ := ⟨pP1, fP1, _, _, pP1', ok_bottom FP1 R, bP1⟩
  have c_istabR : IstabW l.prog w K mg base := ⟨fD3, _, _, [], ok_istab FD3 B, gD3, kD3, bD3, .nil⟩
  have c_istab := istab_even c_istabR
  have MM : Mk K CM fM1 := ⟨mkM, aM1, iM1, kcM⟩
  have m_mat : MatC l.prog w K mg base C CM := ⟨fM1, _, _, [], MM, ok_minit FM1 TM c_istab c_number c_to, PySem.W.mg_of X G aCM, bM1, .nil⟩
  have pm_entries : PropF l.prog w K mg base 2 CM "entries" _ := ⟨pP2, fP2, _, _, pP2', ok_entries FP2 TM, bP2⟩
  have pm_columns : PropF l.prog w K mg base 2 CM "columns" _ := ⟨pP3, fP3, _, _, pP3', ok_columns FP3 TM, bP3⟩
  have pm_transposed : PropF l.prog w K mg base 10 CM "transposed" _ := ⟨pP4, fP4, _, _, pP4', ok_trans FP4 TM m_mat pm_columns, bP4⟩
  have pl_kind : PropF l.prog w K mg base 2 CL "kind" _ := ⟨pP5, fP5, _, _, pP5', ok_p_kind FP5 TFL, bP5⟩
  have pl_parts : PropF l.prog w K mg base 2 CL "parts" _ := ⟨pP6, fP6, _, _, pP6', ok_p_parts FP6 TFL, bP6⟩
  have pl_letters : PropF l.prog w K mg base 2 CL "letters" _ := ⟨pP7, fP7, _, _, pP7', ok_p_letters FP7 TFL, bP7⟩
  have pl_rows : PropF l.prog w K mg base 2 CL "rows" _ := ⟨pP8, fP8, _, _, pP8', ok_p_rows FP8 TFL, bP8⟩
  have pl_columns : PropF l.prog w K mg base 2 CL "columns" _ := ⟨pP9, fP9, _, _, pP9', ok_p_columns FP9 TFL, bP9⟩
  have pl_weight : PropF l.prog w K mg base 2 CL "weight" _ := ⟨pP10, fP10, _, _, pP10', ok_p_weight FP10 TFL, bP10⟩
  have pl_levels : PropF l.prog w K mg base 2 CL "levels" _ := ⟨pP11, fP11, _, _, pP11', ok_p_levels FP11 TFL, bP11⟩
  have pl_middle : PropF l.prog w K mg base 2 CL "middle" _ := ⟨pP12, fP12, _, _, pP12', ok_p_middle FP12 TFL, bP12⟩
  have pl_sizes : PropF l.prog w K mg base 2 CL "sizes" _ := ⟨pP13, fP13, _, _, pP13', ok_p_sizes FP13 TFL, bP13⟩
  have pl_name : PropF l.prog w K mg base 2 CL "name" _ := ⟨pP14, fP14, _, _, pP14', ok_p_name FP14 TFL, bP14⟩
  have pl_symmetry : PropF l.prog w K mg base 2 CL "symmetry" _ := ⟨pP15, fP15, _, _, pP15', ok_p_symmetry FP15 TFL, bP15⟩
  have pl_about : PropF l.prog w K mg base 2 CL "about" _ := ⟨pP16, fP16, _, _, pP16', ok_p_about FP16 TFL, bP16⟩
  have c_issz : CalF l.prog w K mg base _ "is_size_name" _ [] := ⟨fD5, _, _, [], ok_issz FD5 TL', gD5, kD5, bD5, .nil⟩
  have c_isln : CalF l.prog w K mg base _ "is_letter_name" _ [] := ⟨fD6, _, _, [], ok_isln FD6 TL', gD6, kD6, bD6, .nil⟩
  have c_size : CalF l.prog w K mg base _ "is_size" _ [] := ⟨fD4, _, _, [], ok_size FD4 c_whole, gD4, kD4, bD4, .nil⟩
  have c_chks : CalF l.prog w K mg base _ "check_symmetry" _ [] := ⟨fD8, _, _, [], ok_chks FD8 TL', gD8, kD8, bD8, .nil⟩
  have c_chka : CalF l.prog w K mg base _ "check_about" _ [] := ⟨fD9, _, _, [], ok_chka FD9 TL' c_number c_to t_bool, gD9, kD9, bD9, .nil⟩
  have c_chkf : CalF l.prog w K mg base _ "check_formula" _ [] := ⟨fD10, _, _, [], ok_chkf FD10 R TFL gF N.kLF, gD10, kD10, bD10, .nil⟩
  have c_toside : CalF l.prog w K mg base _ "to_side" _ [] := ⟨fD7, _, _, [], ok_toside FD7 R LM c_issz, gD7, kD7, bD7, .nil⟩
  have c_joined : CalF l.prog w K mg base _ "joined_sizes" _ [] := ⟨fD11, _, _, [], ok_joined FD11 TL' TFL pl_sizes, gD11, kD11, bD11, .nil⟩
  have FME : FunD K "measured" "measured" (defArgs s_measured) (defBody s_measured) (defScope s_measured) [.int 1] [] fME _ := ⟨⟨_, _, _, _, _, _, _, _, _, _, rfl, lME, cME, .inr ⟨nofun, tME, oTM, [.int 1 kTM], nTM, rfl, lTM, dTM, .cons ⟨_, rfl⟩ .nil⟩, .inl rfl⟩, kME⟩
  obtain ⟨dsM, vM, bME⟩ := FME.binds1 (ps := ["parts", "sides", "times"]) 2 0 nofun rfl fun T kV doc pm an cdv ct us its h1 h2 => match us, its, h1, h2 with | [_, _], [_], _, _ => ⟨_, rfl, rfl⟩
  have c_measured : MeasuredC l.prog w K mg base CL := ⟨fME, _, _, dsM, ok_measured FME R LM TFL pl_weight pl_levels, PySem.W.mg_of X G aME, kME, bME, vM⟩
  have FRE := fun_mk (st := s_Matrix_eye) lRE cRE kRE
  have bRE := FRE.binds (ps := ["cls", "size"]) fun _ _ _ _ _ _ us hl => match us, hl with | [_, _], _ => rfl
  have m_meye : CmtF l.prog w K mg base 10 CM "eye" (spEyeM C CM) := ⟨pRE, fRE, _, _, _, ⟨rerd, rega⟩, ⟨reat, ⟨_, rerc⟩, refi⟩, ok_meye FRE TM c_size m_mat, bRE⟩
  have FFM := fun_mk (st := s_Formula___init__) lFM cFM kFM
  have bFM := FFM.binds (ps := ["self", "kind", "parts", "letters", "sides", "measures", "middle", "spelled"]) fun _ _ _ _ _ _ us hl => match us, hl with | [_, _, _, _, _, _, _, _], _ => rfl
  have FLI : FunS K "__init__" "Letter.__init__" s_Letter___init__ [("symmetry", .str "plain"), ("about", .int 0)] fLI _ cdaL ccL := ⟨⟨_, _, _, _, _, _, _, _, rfl, lLI, cLI, .inr ⟨BL, rfl, fun q hq => by
    simp only [List.mem_cons, List.not_mem_nil, or_false] at hq
    rcases hq with rfl | rfl
    · exact ⟨_, w1, _, rfl⟩
    · exact ⟨_, w2, _, rfl⟩⟩⟩, ⟨_, _, _, _, lccL⟩⟩
  have uL : SupF l.prog w K mg base 6 CL CL "__init__" "self" fLI cdaL ccL _ (spF0 CL tLE) := ⟨fFM, _, _, { fn := ⟨_, _, _, lLI⟩, hd := ⟨_, rfl, rfl⟩, code := ⟨_, _, _, _, _, _, lcdaL, dv2L, pfilL⟩, cell := ⟨_, _, _, lccL⟩, clD := ⟨_, pclL⟩, clC := ⟨_, pclL⟩, sub := psubL, top := ptop, op := pop, at_ := patL, ty := pty, fi := pfi }, ok_f0 FFM TL' TFL c_joined lst, bFM⟩
  have MKL : Mk K CL fLI := ⟨mkL, aLI, iLI, kcL⟩
  have FTI : FunS K "__init__" "Transposed.__init__" s_Transposed___init__ [] fTI _ cdaT ccT := ⟨⟨_, _, _, _, _, _, _, _, rfl, lTI, cTI, .inl rfl⟩, ⟨_, _, _, _, lccT⟩⟩
  have uT : SupF l.prog w K mg base 6 CT CT "__init__" "self" fTI cdaT ccT _ (spF1 CL CT) := ⟨fFM, _, _, { fn := ⟨_, _, _, lTI⟩, hd := ⟨_, rfl, rfl⟩, code := ⟨_, _, _, _, _, _, lcdaT, dv2T, pfilT⟩, cell := ⟨_, _, _, lccT⟩, clD := ⟨_, pclT⟩, clC := ⟨_, pclT⟩, sub := psubT, top := ptop, op := pop, at_ := patT, ty := pty, fi := pfi }, ok_f1 FFM TL' TFT TFL c_joined, bFM⟩
  have MKT : Mk K CT fTI := ⟨mkT, aTI, iTI, kcT⟩
  have FQI : FunS K "__init__" "Eye.__init__" s_Eye___init__ [] fQI _ cdaQ ccQ := ⟨⟨_, _, _, _, _, _, _, _, rfl, lQI, cQI, .inl rfl⟩, ⟨_, _, _, _, lccQ⟩⟩
  have uQ : SupF l.prog w K mg base 6 CQ CQ "__init__" "self" fQI cdaQ ccQ _ (spF0 CQ tLE) := ⟨fFM, _, _, { fn := ⟨_, _, _, lQI⟩, hd := ⟨_, rfl, rfl⟩, code := ⟨_, _, _, _, _, _, lcdaQ, dv2Q, pfilQ⟩, cell := ⟨_, _, _, lccQ⟩, clD := ⟨_, pclQ⟩, clC := ⟨_, pclQ⟩, sub := psubQ, top := ptop, op := pop, at_ := patQ, ty := pty, fi := pfi }, ok_f0 FFM TL' TFQ c_joined lst, bFM⟩
  have MKQ : Mk K CQ fQI := ⟨mkQ, aQI, iQI, kcQ⟩
  have okL := ok_let FLI TL' TFL (PySem.W.mg_of X G aLE) c_isln c_issz c_chks c_chka m_mat c_to p_top p_bottom uL
  obtain ⟨mv0, kb0⟩ := FLI.kbinds (ps := ["self", "name", "rows", "columns", "symmetry", "about"]) 4 [] [("symmetry", .str "plain"), ("about", .int 0)] (fun {_} us mv ws => us ++ mv ++ ws) nofun (fun _ h => h) (fun a b c => (a.append b).append c) fun B doc pm an ct us mv ws h1 h2 h3 => match us, mv, ws, h1, h2, h3 with | [_, _, _, _], [_, _], [], _, _, _ => ⟨_, _, _, _, _, _, rfl, rfl, ⟨_, _, _, _, _, _, rfl, rfl, rfl⟩⟩
  have kb0_v : Vals [.str "plain", .int 0] mv0 := by simpa using kb0.rel .nil .nil
  have kb0_b : Binds K _ ["self", "name", "rows", "columns", "symmetry", "about"] mv0 := fun s us KX hl => by
    have hm : 2 = mv0.length := kb0_v.length
    have h4 : us.length + mv0.length = 6 := by rw [← List.length_append]; exact hl
    have h := kb0.to s us [] KX (by omega) rfl
    simpa using h
  obtain ⟨mvA, kbA⟩ := FLI.kbinds (ps := ["self", "name", "rows", "columns", "symmetry", "about"]) 4 ["about"] [("symmetry", .str "plain")] (fun {_} us mv ws => us ++ mv ++ ws) nofun (fun q h => by rw [List.mem_singleton.mp h]; exact List.mem_cons_self) (fun a b c => (a.append b).append c) fun B doc pm an ct us mv ws h1 h2 h3 => match us, mv, ws, h1, h2, h3 with | [_, _, _, _], [_], [_], _, _, _ => ⟨_, _, _, _, _, _, rfl, rfl, rfl⟩
  obtain ⟨mvS, kbS⟩ := FLI.kbinds (ps := ["self", "name", "rows", "columns", "symmetry", "about"]) 4 ["symmetry"] [("about", .int 0)] (fun {_} us mv ws => us ++ ws ++ mv) nofun (fun q h => by rw [List.mem_singleton.mp h]; exact List.mem_cons_of_mem _ List.mem_cons_self) (fun a b c => (a.append c).append b) fun B doc pm an ct us mv ws h1 h2 h3 => match us, mv, ws, h1, h2, h3 with | [_, _, _, _], [_], [_], _, _, _ => ⟨_, _, _, _, _, _, rfl, rfl, rfl⟩
  obtain ⟨mvK, kbK⟩ := FLI.kbinds (ps := ["self", "name", "rows", "columns", "symmetry", "about"]) 1 ["rows", "about", "name", "symmetry", "columns"] [] (fun {_} us _ ws => gK us ws) nofun nofun (fun a _ c => gK_rel a c) fun B doc pm an ct us mv ws h1 h2 h3 => match us, mv, ws, h1, h2, h3 with | [_], [], [_, _, _, _, _], _, _, _ => rfl
  have m_let0 : Let0C l.prog w K mg base C CM CL := ⟨fLI, _, _, mv0, MKL, okL, PySem.W.mg_of X G aXL, kb0_b, kb0_v⟩
  have m_letA : LetAC l.prog w K mg base C CM CL := ⟨fLI, _, _, _, MKL, okL, PySem.W.mg_of X G aXL, kbA⟩
  have m_letS : LetSC l.prog w K mg base C CM CL := ⟨fLI, _, _, _, MKL, okL, PySem.W.mg_of X G aXL, kbS⟩
  have m_letK : LetKC l.prog w K mg base C CM CL := ⟨fLI, _, _, _, MKL, okL, PySem.W.mg_of X G aXL, kbK⟩
  have bQI := FQI.binds (ps := ["self", "side"]) fun _ _ _ _ _ us hl => match us, hl with | [_, _], _ => rfl
  have m_eyeF : EyeC l.prog w K mg base CQ := ⟨fQI, _, _, [], MKQ, ok_eyeF FQI TL' TFQ (PySem.W.mg_of X G aLE) c_toside m_meye uQ, PySem.W.mg_of X G aXQ, bQI, .nil⟩
  have bTI := FTI.binds (ps := ["self", "formula"]) fun _ _ _ _ _ us hl => match us, hl with | [_, _], _ => rfl
  have m_tr : TrC l.prog w K mg base C CM CL CT := ⟨fTI, _, _, [], MKT, ok_tr FTI TL' TFL TFT c_chkf c_measured pl_rows pl_columns pl_middle pl_letters pm_transposed d_fstr uT, PySem.W.mg_of X G aXT, bTI, .nil⟩
  have pl_transposed : PropF l.prog w K mg base 15 CL "transposed" _ := ⟨pP17, fP17, _, _, pP17', ok_trp FP17 m_tr, bP17⟩
  have c_draw : CalG l.prog w K mg base _ "_law_draw" _ [] := ⟨fD13, _, _, [], ok_draw FD13 B, gD13, kD13, bD13, .nil⟩
  have c_great : CalG l.prog w K mg base _ "_law_great" _ [] := ⟨fD14, _, _, [], ok_great FD14 B c_draw, gD14, kD14, bD14, .nil⟩
  have c_common : CalG l.prog w K mg base _ "_law_common" _ [] := ⟨fD15, _, _, [], ok_common FD15 B, gD15, kD15, bD15, .nil⟩
  have c_lowest : CalG l.prog w K mg base _ "_law_lowest" _ [] := ⟨fD16, _, _, [], ok_lowest FD16 c_common, gD16, kD16, bD16, .nil⟩
  have c_purse : CalG l.prog w K mg base _ "_law_purse" _ [] := ⟨fD12, _, _, [], ok_purse FD12 B, gD12, kD12, bD12, .nil⟩
  have c_from : CalG l.prog w K mg base _ "_law_from" _ [] := ⟨fD20, _, _, [], ok_from FD20 c_purse, gD20, kD20, bD20, .nil⟩
  have c_pairs : CalG l.prog w K mg base _ "_law_pairs" _ [] := ⟨fD18, _, _, [], ok_pairs FD18 B c_lowest, gD18, kD18, bD18, .nil⟩
  have c_told : CalG l.prog w K mg base _ "_law_told" _ [] := ⟨fD17, _, _, [], ok_told FD17 TM pm_entries p_top p_bottom, gD17, kD17, bD17, .nil⟩
  have c_is : CalG l.prog w K mg base _ "_law_is" _ [] := ⟨fD19, _, _, [], ok_is FD19 TM c_told c_pairs, gD19, kD19, bD19, .nil⟩
  have c_label : CalG l.prog w K mg base _ "_law_label" _ [] := ⟨fD21, _, _, [], ok_label FD21 B c_draw, gD21, kD21, bD21, .nil⟩
  have c_word : CalG l.prog w K mg base _ "_law_word" _ [] := ⟨fD22, _, _, [], ok_word FD22 B c_draw, gD22, kD22, bD22, .nil⟩
  have c_facts : CalG l.prog w K mg base _ "_law_facts" _ [] := ⟨fD23, _, _, [], ok_facts FD23 B c_draw c_word c_label c_great c_lowest, gD23, kD23, bD23, .nil⟩
  have c_bent : CalG l.prog w K mg base _ "_law_bent" _ [] := ⟨fD24, _, _, [], ok_bent FD24 B c_draw, gD24, kD24, bD24, .nil⟩
  have c_made : CalG l.prog w K mg base _ "_law_made" _ [] := ⟨fD25, _, _, [], ok_lmade FD25 R c_draw m_rat2 m_let0 m_letA m_letS m_letK, gD25, kD25, bD25, .nil⟩
  have c_fits : CalG l.prog w K mg base _ "_law_fits" _ [] := ⟨fD26, _, _, [], ok_fits FD26 TM TFL gF N.kLF pl_name pl_rows pl_columns pl_symmetry pl_kind pl_parts pl_sizes pl_weight pl_levels pl_letters pl_about pl_middle d_fstr d_frepr p_top p_bottom c_is, gD26, kD26, bD26, .nil⟩
  have c_right : CalG l.prog w K mg base _ "_law_right" _ [] := ⟨fD27, _, _, [], ok_right FD27 R TFL TFT TFQ N c_facts c_made c_fits c_bent o_leq o_teq pl_transposed m_eyeF, gD27, kD27, bD27, .nil⟩
  exact ok_law FD28 B c_from c_right
theorem walk {l : PySem.W.OpenLaw} {q : Program} {loose : List Str} {XP : (Str → Option Value) → Heap → Prop} {YP : World → Heap → Prop} {d : DefRec} {K : Params → PySem.W.Frag} (hn : l.most = some 63) (hdf : d.params.defaults = [])
    (hY : ∀ (w : World) (h : Heap), YP w h → (K w.params).In h)
    (F : ∀ (w : World) (mg : Str → Option Value) (fa : Addr) (h : Heap), (K w.params).In h → h.Ns mainGlobals mg → mg d.name = some (.ref fa) →
      ∃ fd : FuncData, (∀ (s : Shared) (u : Value), BindsTo s fd ⟨[u], []⟩ [("_law_script", u)]) ∧ ∀ base : Heap, (K w.params).In base → base.Ns mainGlobals mg → FnG l.prog w (K w.params) mg base CX0 26 fa fd ["_law_script"] (spLaw (K w.params))) :
    PySem.W.WalkO q loose XP YP l.row.toRowW d [] (fun f vs => PySem.call f vs) :=
  walkG (n := 63) (k := 26) (x := "_law_script") (sp := fun w => spLaw (K w.params)) hn (by decide) hdf ⟨rfl, by decide, by decide⟩ hY F (fun _ _ a ns hl _ hS => ⟨a, ns, rfl, hS, hl, fun _ => rfl⟩)
end Lw

open PySem PySem.W PyProof.Rows
set_option maxRecDepth 100000 in
set_option maxHeartbeats 0 in
theorem PySem.Challenge.cw_matrixforms_k11_letters_made_holds : PySem.Challenge.rw_matrixforms_k11_letters_made.Holds := by
  refine Lw.hd ?_
  k_fill
  refine Lw.walk (l := PySem.Challenge.rw_matrixforms_k11_letters_made) rfl rfl (fun w h Y => PySem.W.kIn_of Y) ?F
  case F =>
    intro w mg fa h KX G hmg
    refine' Lw.all_mk KX G hmg ?aD0 ?lD0 ?cD0 ?kD0 ?aD1 ?lD1 ?cD1 ?kD1 ?aD2 ?lD2 ?cD2 ?kD2 ?aD3 ?lD3 ?cD3 ?kD3 ?aD4 ?lD4 ?cD4 ?kD4 ?aD5 ?lD5 ?cD5 ?kD5 ?aD6 ?lD6 ?cD6 ?kD6 ?aD7 ?lD7 ?cD7 ?kD7 ?aD8 ?lD8 ?cD8 ?kD8 ?aD9 ?lD9 ?cD9 ?kD9 ?aD10 ?lD10 ?cD10 ?kD10 ?aD11 ?lD11 ?cD11 ?kD11 ?aD12 ?lD12 ?cD12 ?kD12 ?aD13 ?lD13 ?cD13 ?kD13 ?aD14 ?lD14 ?cD14 ?kD14 ?aD15 ?lD15 ?cD15 ?kD15 ?aD16 ?lD16 ?cD16 ?kD16 ?aD17 ?lD17 ?cD17 ?kD17 ?aD18 ?lD18 ?cD18 ?kD18 ?aD19 ?lD19 ?cD19 ?kD19 ?aD20 ?lD20 ?cD20 ?kD20 ?aD21 ?lD21 ?cD21 ?kD21 ?aD22 ?lD22 ?cD22 ?kD22 ?aD23 ?lD23 ?cD23 ?kD23 ?aD24 ?lD24 ?cD24 ?kD24 ?aD25 ?lD25 ?cD25 ?kD25 ?aD26 ?lD26 ?cD26 ?kD26 ?aD27 ?lD27 ?cD27 ?kD27 ?aD28 ?lD28 ?cD28 ?kD28 ?aM0 ?iM0 ?lM0 ?cM0 ?kM0 ?aM1 ?iM1 ?lM1 ?cM1 ?kM1 ?aM2 ?iM2 ?lM2 ?cM2 ?kM2 ?aM3 ?iM3 ?lM3 ?cM3 ?kM3 ?aM4 ?iM4 ?lM4 ?cM4 ?kM4 ?aP0 ?gP0 ?tP0 ?rP0 ?lP0 ?cP0 ?kP0 ?aP1 ?gP1 ?tP1 ?rP1 ?lP1 ?cP1 ?kP1 ?aP2 ?gP2 ?tP2 ?rP2 ?lP2 ?cP2 ?kP2 ?aP3 ?gP3 ?tP3 ?rP3 ?lP3 ?cP3 ?kP3 ?aP4 ?gP4 ?tP4 ?rP4 ?lP4 ?cP4 ?kP4 ?aP5 ?gP5 ?tP5 ?rP5 ?lP5 ?cP5 ?kP5 ?aP6 ?gP6 ?tP6 ?rP6 ?lP6 ?cP6 ?kP6 ?aP7 ?gP7 ?tP7 ?rP7 ?lP7 ?cP7 ?kP7 ?aP8 ?gP8 ?tP8 ?rP8 ?lP8 ?cP8 ?kP8 ?aP9 ?gP9 ?tP9 ?rP9 ?lP9 ?cP9 ?kP9 ?aP10 ?gP10 ?tP10 ?rP10 ?lP10 ?cP10 ?kP10 ?aP11 ?gP11 ?tP11 ?rP11 ?lP11 ?cP11 ?kP11 ?aP12 ?gP12 ?tP12 ?rP12 ?lP12 ?cP12 ?kP12 ?aP13 ?gP13 ?tP13 ?rP13 ?lP13 ?cP13 ?kP13 ?aP14 ?gP14 ?tP14 ?rP14 ?lP14 ?cP14 ?kP14 ?aP15 ?gP15 ?tP15 ?rP15 ?lP15 ?cP15 ?kP15 ?aP16 ?gP16 ?tP16 ?rP16 ?lP16 ?cP16 ?kP16 ?aP17 ?gP17 ?tP17 ?rP17 ?lP17 ?cP17 ?kP17 ?aI ?iI ?lI ?cI ?kI ?lT ?dT ?z_int ?z_len ?z_abs ?z_range ?z_max ?z_min ?z_all ?z_repr ?z_isinstance ?z_bool ?z_str ?z_any ?z_tuple ?z_list ?z_sum ?z_zip ?z_enumerate ?aR ?aCM ?aFo ?aXL ?aXT ?aXQ ?aG ?aL ?pgC ?hdC ?poC ?saC ?mkC ?kcC ?caC ?cmC ?sIC ?sBC ?tyC ?isC ?sbC ?soC ?neC ?pgM ?hdM ?poM ?saM ?mkM ?kcM ?caM ?cmM ?sIM ?sBM ?tyM ?isM ?sbM ?soM ?neM ?pgL ?hdL ?poL ?saL ?mkL ?kcL ?caL ?cmL ?soL ?neL ?fmL ?nL0 ?nL1 ?nL2 ?nL3 ?nL4 ?nL5 ?nL6 ?nL7 ?nL8 ?nL9 ?nL10 ?nL11 ?nL12 ?nL13 ?pgT ?hdT ?poT ?saT ?mkT ?kcT ?caT ?cmT ?soT ?neT ?fmT ?nT0 ?nT1 ?nT2 ?nT3 ?nT4 ?nT5 ?nT6 ?nT7 ?nT8 ?nT9 ?nT10 ?nT11 ?nT12 ?nT13 ?pgQ ?hdQ ?poQ ?saQ ?mkQ ?kcQ ?caQ ?cmQ ?soQ ?neQ ?fmQ ?nQ0 ?nQ1 ?nQ2 ?nQ3 ?nQ4 ?nQ5 ?nQ6 ?nQ7 ?nQ8 ?nQ9 ?nQ10 ?nQ11 ?nQ12 ?nQ13 ?nT' ?nB' ?nE' ?nTop ?cn ?ct' ?sRM ?sMR ?kLF ?kTF ?kQF ?kSF ?kNF ?nfLL ?nfLS ?nfLN ?nfLT ?nfLQ ?nfTL ?z_set ?z_sorted ?z_super ?aLN ?aS1 ?aS2 ?aS3 ?aSY ?lSY ?dSY ?eSY ?aLE ?lLE ?dLE ?eLE ?aME ?lME ?cME ?kME ?lTM ?dTM ?rerd ?rega ?reat ?rerc ?refi ?lRE ?cRE ?kRE ?aLI ?iLI ?lLI ?cLI ?w1 ?w2 ?lccL ?lcdaL ?dv2L ?pfilL ?pclL ?psubL ?patL ?aTI ?iTI ?lTI ?cTI ?lccT ?lcdaT ?dv2T ?pfilT ?pclT ?psubT ?patT ?aQI ?iQI ?lQI ?cQI ?lccQ ?lcdaQ ?dv2Q ?pfilQ ?pclQ ?psubQ ?patQ ?ptop ?pop ?pty ?pfi ?lFM ?cFM ?kFM ?eqT
    (case aR => k_is)
    (case aCM => k_is)
    (case aFo => k_is)
    (case aXL => k_is)
    (case aXT => k_is)
    (case aXQ => k_is)
    (case aSY => k_is)
    (case aLE => k_is)
    (case aME => k_is)
    (case lME => k_is)
    (case aLI => k_is)
    (case aTI => k_is)
    (case aQI => k_is)
    (case lLI => k_is)
    (case lTI => k_is)
    (case lQI => k_is)
    (case patL => ks_is)
    (case aD0 => k_is)
    (case lD0 => k_is)
    (case cD0 => k_is)
    (case kD0 => k_is)
    (case aD1 => k_is)
    (case lD1 => k_is)
    (case cD1 => k_is)
    (case kD1 => k_is)
    (case aD2 => k_is)
    (case lD2 => k_is)
    (case cD2 => k_is)
    (case kD2 => k_is)
    (case aD3 => k_is)
    (case lD3 => k_is)
    (case cD3 => k_is)
    (case kD3 => k_is)
    (case aD4 => k_is)
    (case lD4 => k_is)
    (case cD4 => k_is)
    (case kD4 => k_is)
    (case aD5 => k_is)
    (case lD5 => k_is)
    (case cD5 => k_is)
    (case kD5 => k_is)
    (case aD6 => k_is)
    (case lD6 => k_is)
    (case cD6 => k_is)
    (case kD6 => k_is)
    (case aD7 => k_is)
    (case lD7 => k_is)
    (case cD7 => k_is)
    (case kD7 => k_is)
    (case aD8 => k_is)
    (case lD8 => k_is)
    (case cD8 => k_is)
    (case kD8 => k_is)
    (case aD9 => k_is)
    (case lD9 => k_is)
    (case cD9 => k_is)
    (case kD9 => k_is)
    (case aD10 => k_is)
    (case lD10 => k_is)
    (case cD10 => k_is)
    (case kD10 => k_is)
    (case aD11 => k_is)
    (case lD11 => k_is)
    (case cD11 => k_is)
    (case kD11 => k_is)
    (case aD12 => k_is)
    (case lD12 => k_is)
    (case cD12 => k_is)
    (case kD12 => k_is)
    (case aD13 => k_is)
    (case lD13 => k_is)
    (case cD13 => k_is)
    (case kD13 => k_is)
    (case aD14 => k_is)
    (case lD14 => k_is)
    (case cD14 => k_is)
    (case kD14 => k_is)
    (case aD15 => k_is)
    (case lD15 => k_is)
    (case cD15 => k_is)
    (case kD15 => k_is)
    (case aD16 => k_is)
    (case lD16 => k_is)
    (case cD16 => k_is)
    (case kD16 => k_is)
    (case aD17 => k_is)
    (case lD17 => k_is)
    (case cD17 => k_is)
    (case kD17 => k_is)
    (case aD18 => k_is)
    (case lD18 => k_is)
    (case cD18 => k_is)
    (case kD18 => k_is)
    (case aD19 => k_is)
    (case lD19 => k_is)
    (case cD19 => k_is)
    (case kD19 => k_is)
    (case aD20 => k_is)
    (case lD20 => k_is)
    (case cD20 => k_is)
    (case kD20 => k_is)
    (case aD21 => k_is)
    (case lD21 => k_is)
    (case cD21 => k_is)
    (case kD21 => k_is)
    (case aD22 => k_is)
    (case lD22 => k_is)
    (case cD22 => k_is)
    (case kD22 => k_is)
    (case aD23 => k_is)
    (case lD23 => k_is)
    (case cD23 => k_is)
    (case kD23 => k_is)
    (case aD24 => k_is)
    (case lD24 => k_is)
    (case cD24 => k_is)
    (case kD24 => k_is)
    (case aD25 => k_is)
    (case lD25 => k_is)
    (case cD25 => k_is)
    (case kD25 => k_is)
    (case aD26 => k_is)
    (case lD26 => k_is)
    (case cD26 => k_is)
    (case kD26 => k_is)
    (case aD27 => k_is)
    (case lD27 => k_is)
    (case cD27 => k_is)
    (case kD27 => k_is)
    (case aD28 => k_is)
    (case lD28 => k_is)
    (case cD28 => k_is)
    (case kD28 => k_is)
    (case aM0 => k_is)
    (case iM0 => k_is)
    (case lM0 => k_is)
    (case cM0 => k_is)
    (case kM0 => k_is)
    (case aM1 => k_is)
    (case iM1 => k_is)
    (case lM1 => k_is)
    (case cM1 => k_is)
    (case kM1 => k_is)
    (case aM2 => k_is)
    (case iM2 => k_is)
    (case lM2 => k_is)
    (case cM2 => k_is)
    (case kM2 => k_is)
    (case aM3 => k_is)
    (case iM3 => k_is)
    (case lM3 => k_is)
    (case cM3 => k_is)
    (case kM3 => k_is)
    (case aM4 => k_is)
    (case iM4 => k_is)
    (case lM4 => k_is)
    (case cM4 => k_is)
    (case kM4 => k_is)
    (case aP0 => k_is)
    (case gP0 => k_is)
    (case tP0 => k_is)
    (case rP0 => k_is)
    (case lP0 => k_is)
    (case cP0 => k_is)
    (case kP0 => k_is)
    (case aP1 => k_is)
    (case gP1 => k_is)
    (case tP1 => k_is)
    (case rP1 => k_is)
    (case lP1 => k_is)
    (case cP1 => k_is)
    (case kP1 => k_is)
    (case aP2 => k_is)
    (case gP2 => k_is)
    (case tP2 => k_is)
    (case rP2 => k_is)
    (case lP2 => k_is)
    (case cP2 => k_is)
    (case kP2 => k_is)
    (case aP3 => k_is)
    (case gP3 => k_is)
    (case tP3 => k_is)
    (case rP3 => k_is)
    (case lP3 => k_is)
    (case cP3 => k_is)
    (case kP3 => k_is)
    (case aP4 => k_is)
    (case gP4 => k_is)
    (case tP4 => k_is)
    (case rP4 => k_is)
    (case lP4 => k_is)
    (case cP4 => k_is)
    (case kP4 => k_is)
    (case aP5 => k_is)
    (case gP5 => k_is)
    (case tP5 => k_is)
    (case rP5 => k_is)
    (case lP5 => k_is)
    (case cP5 => k_is)
    (case kP5 => k_is)
    (case aP6 => k_is)
    (case gP6 => k_is)
    (case tP6 => k_is)
    (case rP6 => k_is)
    (case lP6 => k_is)
    (case cP6 => k_is)
    (case kP6 => k_is)
    (case aP7 => k_is)
    (case gP7 => k_is)
    (case tP7 => k_is)
    (case rP7 => k_is)
    (case lP7 => k_is)
    (case cP7 => k_is)
    (case kP7 => k_is)
    (case aP8 => k_is)
    (case gP8 => k_is)
    (case tP8 => k_is)
    (case rP8 => k_is)
    (case lP8 => k_is)
    (case cP8 => k_is)
    (case kP8 => k_is)
    (case aP9 => k_is)
    (case gP9 => k_is)
    (case tP9 => k_is)
    (case rP9 => k_is)
    (case lP9 => k_is)
    (case cP9 => k_is)
    (case kP9 => k_is)
    (case aP10 => k_is)
    (case gP10 => k_is)
    (case tP10 => k_is)
    (case rP10 => k_is)
    (case lP10 => k_is)
    (case cP10 => k_is)
    (case kP10 => k_is)
    (case aP11 => k_is)
    (case gP11 => k_is)
    (case tP11 => k_is)
    (case rP11 => k_is)
    (case lP11 => k_is)
    (case cP11 => k_is)
    (case kP11 => k_is)
    (case aP12 => k_is)
    (case gP12 => k_is)
    (case tP12 => k_is)
    (case rP12 => k_is)
    (case lP12 => k_is)
    (case cP12 => k_is)
    (case kP12 => k_is)
    (case aP13 => k_is)
    (case gP13 => k_is)
    (case tP13 => k_is)
    (case rP13 => k_is)
    (case lP13 => k_is)
    (case cP13 => k_is)
    (case kP13 => k_is)
    (case aP14 => k_is)
    (case gP14 => k_is)
    (case tP14 => k_is)
    (case rP14 => k_is)
    (case lP14 => k_is)
    (case cP14 => k_is)
    (case kP14 => k_is)
    (case aP15 => k_is)
    (case gP15 => k_is)
    (case tP15 => k_is)
    (case rP15 => k_is)
    (case lP15 => k_is)
    (case cP15 => k_is)
    (case kP15 => k_is)
    (case aP16 => k_is)
    (case gP16 => k_is)
    (case tP16 => k_is)
    (case rP16 => k_is)
    (case lP16 => k_is)
    (case cP16 => k_is)
    (case kP16 => k_is)
    (case aP17 => k_is)
    (case gP17 => k_is)
    (case tP17 => k_is)
    (case rP17 => k_is)
    (case lP17 => k_is)
    (case cP17 => k_is)
    (case kP17 => k_is)
    (case aI => k_is)
    (case iI => k_is)
    (case lI => k_is)
    (case cI => k_is)
    (case kI => k_is)
    (case lT => k_is)
    (case dT => rfl)
    (case z_int => k_is)
    (case z_len => k_is)
    (case z_abs => k_is)
    (case z_range => k_is)
    (case z_max => k_is)
    (case z_min => k_is)
    (case z_all => k_is)
    (case z_repr => k_is)
    (case z_isinstance => k_is)
    (case z_bool => k_is)
    (case z_str => k_is)
    (case z_any => k_is)
    (case z_tuple => k_is)
    (case z_list => k_is)
    (case z_sum => k_is)
    (case z_zip => k_is)
    (case z_enumerate => k_is)
    (case aG => k_is)
    (case aL => k_is)
    (case pgC => k_is)
    (case hdC => k_is)
    (case poC => k_is)
    (case saC => k_is)
    (case mkC => k_is)
    (case kcC => k_is)
    (case caC => k_is)
    (case cmC => k_is)
    (case sIC => k_is)
    (case sBC => k_is)
    (case tyC => k_is)
    (case isC => k_is)
    (case sbC => k_is)
    (case soC => k_is)
    (case neC => k_is)
    (case pgM => k_is)
    (case hdM => k_is)
    (case poM => k_is)
    (case saM => k_is)
    (case mkM => k_is)
    (case kcM => k_is)
    (case caM => k_is)
    (case cmM => k_is)
    (case sIM => k_is)
    (case sBM => k_is)
    (case tyM => k_is)
    (case isM => k_is)
    (case sbM => k_is)
    (case soM => k_is)
    (case neM => k_is)
    (case pgL => k_is)
    (case hdL => k_is)
    (case poL => k_is)
    (case saL => k_is)
    (case mkL => k_is)
    (case kcL => k_is)
    (case caL => k_is)
    (case cmL => k_is)
    (case soL => k_is)
    (case neL => k_is)
    (case fmL => k_is)
    (case nL0 => k_is)
    (case nL1 => k_is)
    (case nL2 => k_is)
    (case nL3 => k_is)
    (case nL4 => k_is)
    (case nL5 => k_is)
    (case nL6 => k_is)
    (case nL7 => k_is)
    (case nL8 => k_is)
    (case nL9 => k_is)
    (case nL10 => k_is)
    (case nL11 => k_is)
    (case nL12 => k_is)
    (case nL13 => k_is)
    (case pgT => k_is)
    (case hdT => k_is)
    (case poT => k_is)
    (case saT => k_is)
    (case mkT => k_is)
    (case kcT => k_is)
    (case caT => k_is)
    (case cmT => k_is)
    (case soT => k_is)
    (case neT => k_is)
    (case fmT => k_is)
    (case nT0 => k_is)
    (case nT1 => k_is)
    (case nT2 => k_is)
    (case nT3 => k_is)
    (case nT4 => k_is)
    (case nT5 => k_is)
    (case nT6 => k_is)
    (case nT7 => k_is)
    (case nT8 => k_is)
    (case nT9 => k_is)
    (case nT10 => k_is)
    (case nT11 => k_is)
    (case nT12 => k_is)
    (case nT13 => k_is)
    (case pgQ => k_is)
    (case hdQ => k_is)
    (case poQ => k_is)
    (case saQ => k_is)
    (case mkQ => k_is)
    (case kcQ => k_is)
    (case caQ => k_is)
    (case cmQ => k_is)
    (case soQ => k_is)
    (case neQ => k_is)
    (case fmQ => k_is)
    (case nQ0 => k_is)
    (case nQ1 => k_is)
    (case nQ2 => k_is)
    (case nQ3 => k_is)
    (case nQ4 => k_is)
    (case nQ5 => k_is)
    (case nQ6 => k_is)
    (case nQ7 => k_is)
    (case nQ8 => k_is)
    (case nQ9 => k_is)
    (case nQ10 => k_is)
    (case nQ11 => k_is)
    (case nQ12 => k_is)
    (case nQ13 => k_is)
    (case nT' => k_is)
    (case nB' => k_is)
    (case nE' => k_is)
    (case nTop => k_is)
    (case cn => k_is)
    (case ct' => k_is)
    (case sRM => k_is)
    (case sMR => k_is)
    (case kLF => first | kernel_rfl! | kernel_rfl | k_is)
    (case kTF => first | kernel_rfl! | kernel_rfl | k_is)
    (case kQF => first | kernel_rfl! | kernel_rfl | k_is)
    (case kSF => first | kernel_rfl! | kernel_rfl | k_is)
    (case kNF => first | kernel_rfl! | kernel_rfl | k_is)
    (case nfLL => first | kernel_rfl! | kernel_rfl | k_is)
    (case nfLS => first | kernel_rfl! | kernel_rfl | k_is)
    (case nfLN => first | kernel_rfl! | kernel_rfl | k_is)
    (case nfLT => first | kernel_rfl! | kernel_rfl | k_is)
    (case nfLQ => first | kernel_rfl! | kernel_rfl | k_is)
    (case nfTL => first | kernel_rfl! | kernel_rfl | k_is)
    (case z_set => k_is)
    (case z_sorted => k_is)
    (case z_super => k_is)
    (case aLN => k_is)
    (case aS1 => k_is)
    (case aS2 => k_is)
    (case aS3 => k_is)
    (case lSY => k_is)
    (case dSY => rfl)
    (case eSY => rfl)
    (case lLE => k_is)
    (case dLE => rfl)
    (case eLE => rfl)
    (case cME => k_is)
    (case kME => k_is)
    (case lTM => k_is)
    (case dTM => rfl)
    (case rerd => k_is)
    (case rega => k_is)
    (case reat => k_is)
    (case rerc => k_is)
    (case refi => k_is)
    (case lRE => k_is)
    (case cRE => k_is)
    (case kRE => k_is)
    (case iLI => k_is)
    (case cLI => k_is)
    (case w1 => k_is)
    (case w2 => k_is)
    (case lccL => k_is)
    (case lcdaL => k_is)
    (case dv2L => rfl)
    (case pfilL => first | rfl | decide | kernel_rfl)
    (case pclL => k_is)
    (case psubL => k_is)
    (case iTI => k_is)
    (case cTI => k_is)
    (case lccT => k_is)
    (case lcdaT => k_is)
    (case dv2T => rfl)
    (case pfilT => first | rfl | decide | kernel_rfl)
    (case pclT => k_is)
    (case psubT => k_is)
    (case patT => ks_is)
    (case iQI => k_is)
    (case cQI => k_is)
    (case lccQ => k_is)
    (case lcdaQ => k_is)
    (case dv2Q => rfl)
    (case pfilQ => first | rfl | decide | kernel_rfl)
    (case pclQ => k_is)
    (case psubQ => k_is)
    (case patQ => ks_is)
    (case ptop => first | rfl | decide | kernel_rfl)
    (case pop => k_is)
    (case pty => k_is)
    (case pfi => k_is)
    (case lFM => k_is)
    (case cFM => k_is)
    (case kFM => k_is)
    (case eqT => k_is)


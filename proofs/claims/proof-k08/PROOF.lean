import PyProof.Rows.All
import Wide.All
import OpenK.AllK
import Wide.FinOn
import HandS.ForMost
import HandS.Wide
import HandS.Gcd
import HandS.IsInst
import HandS.Property
import HandS.OwnEq
import KE.KOpsOwn
import PyProof.ReprRoads
import HandS.Codes
import HandS.Defaults
import HandS.MakeKwOnly
import OpenK.KOps
import KE.KCallOwn
import PyProof.ReprDict
import PyProof.StrHeap
import HandS.MakeKw
import HandS.HotCalls
import HandS.Style
import PyProof.Rows.SortStrRead
import PyProof.Rows.ReprOcc
import PyProof.ReprLen
import PyProof.P3Eq
import HandS.FStr
import HandS.ExcInitHot
import HandS.ExcField
import HandS.WordsExc
import HandS.ExcIs
import HandS.ClsMeth
import HandS.StrMore
import KE.KExcIs
import KE.KExcMake
import HandS.Zip
import HandS.Walk
import KE.KMathGC
import KE.GoesRaise
import HandS.SuiteRaise
import HandS.RaiseFrom
import HandS.ReplaceLit
import OpenK.KMeth
import HandS.TupMul
import HandS.TupAny
import HandS.Lambda
import HandS.EndTab
import KE.KSuper
import HandS.Star
import KE.GoesEnum
import KE.GoesMore
import PySem.Challenge.RW_matrixforms_k08_whole_inverses_of_matric
set_option Elab.async false
set_option linter.all false
set_option maxRecDepth 100000
set_option maxHeartbeats 8000000
namespace PySem.W.Fast
def tw1288099228469307458 : Nat := 0
def tw14599332172640487106 : Nat := 0
def tw13944399764565853891 : Nat := 0
def tw15533802637813774404 : Nat := 0
def tw14757209450809001604 : Nat := 0
def tw5038833748226208742 : Nat := 0
def tw16840763169968634089 : Nat := 0
def tw9119016348627585577 : Nat := 0
def tw10702267428988894793 : Nat := 0
def tw11171709599665403625 : Nat := 0
def tw17470204699935561738 : Nat := 0
def tw12390798536196764139 : Nat := 0
def tw10379364681579495500 : Nat := 0
def tw12986296579006380524 : Nat := 0
def tw7701985651219459149 : Nat := 0
def tw2935140487651924461 : Nat := 0
def tw13086138719991198381 : Nat := 0
def tw12489778648300743438 : Nat := 0
def tw11585886541283722735 : Nat := 0
def tw8526395423068646255 : Nat := 0
def tw8056140977122064560 : Nat := 0
def tw7252615004872133713 : Nat := 0
def tw12312897811013507921 : Nat := 0
def tw11464655916769326322 : Nat := 0
def tw11805343305595736435 : Nat := 0
def tw2611401411587057235 : Nat := 0
def tw13499960397644939284 : Nat := 0
def tw1737057240331206740 : Nat := 0
def tw3080929937059602580 : Nat := 0
def tw4312322673157708404 : Nat := 0
def tw1375623241432094356 : Nat := 0
def tw8294562331167791796 : Nat := 0
def tw12226830477047666965 : Nat := 0
def tw16238614666461507157 : Nat := 0
def tw16523566659020063798 : Nat := 0
def tw12263435471711974774 : Nat := 0
def tw7127957495903313366 : Nat := 0
def tw12237473758405186358 : Nat := 0
def tw2595842728486843543 : Nat := 0
def tw10300263290365601271 : Nat := 0
def tw7233395076006136984 : Nat := 0
def tw14038041738771466520 : Nat := 0
def tw5766912683543112184 : Nat := 0
def tw2757162290117953080 : Nat := 0
def tw15598281050536169048 : Nat := 0
def tw11116814369981122009 : Nat := 0
def tw12936520899395754489 : Nat := 0
def tw6944348565054537850 : Nat := 0
def tw11278350528703671578 : Nat := 0
def tw6390608247269583067 : Nat := 0
def tw2518412735853312188 : Nat := 0
def tw4288374646781578205 : Nat := 0
def tw15381195946375917342 : Nat := 0
def tw2108624157838282623 : Nat := 0
end PySem.W.Fast
namespace Lw
open PySem PySem.W PyProof.Rows
theorem glue {α β γ : Type} {f : α → γ} {g : β → γ} {n : Nat} {l : List α} {m : List β} (h1 : (l.take n).map f = (m.take n).map g) (h2 : (l.drop n).map f = (m.drop n).map g) : l.map f = m.map g := by
  have e1 : l.map f = ((l.take n) ++ (l.drop n)).map f := by rw [List.take_append_drop]
  have e2 : m.map g = ((m.take n) ++ (m.drop n)).map g := by rw [List.take_append_drop]
  rw [e1, e2, List.map_append, List.map_append, h1, h2]
/-- the look at the written part, in parts -/
theorem kpOf {K : Params → Frag} {as : List Addr} (e : ∀ P, as = (K P).map (·.1)) (w : World) (s : Shared) (x : (((as.take 96).map s.heap.get?), ((((as.drop 96).take 96).map s.heap.get?), (((((as.drop 96).drop 96).take 96).map s.heap.get?), ((((((as.drop 96).drop 96).drop 96).take 96).map s.heap.get?), (((((((as.drop 96).drop 96).drop 96).drop 96).take 96).map s.heap.get?), ((((((((as.drop 96).drop 96).drop 96).drop 96).drop 96).take 96).map s.heap.get?), (((((((((as.drop 96).drop 96).drop 96).drop 96).drop 96).drop 96).take 96).map s.heap.get?), ((((((((as.drop 96).drop 96).drop 96).drop 96).drop 96).drop 96).drop 96).map s.heap.get?)))))))) = ((((K w.params).take 96).map fun p => some p.2), (((((K w.params).drop 96).take 96).map fun p => some p.2), ((((((K w.params).drop 96).drop 96).take 96).map fun p => some p.2), (((((((K w.params).drop 96).drop 96).drop 96).take 96).map fun p => some p.2), ((((((((K w.params).drop 96).drop 96).drop 96).drop 96).take 96).map fun p => some p.2), (((((((((K w.params).drop 96).drop 96).drop 96).drop 96).drop 96).take 96).map fun p => some p.2), ((((((((((K w.params).drop 96).drop 96).drop 96).drop 96).drop 96).drop 96).take 96).map fun p => some p.2), (((((((((K w.params).drop 96).drop 96).drop 96).drop 96).drop 96).drop 96).drop 96).map fun p => some p.2))))))))) : InK K w s.heap :=
  InK.of e w s (glue (Prod.mk.inj x).1 (glue (Prod.mk.inj (Prod.mk.inj x).2).1 (glue (Prod.mk.inj (Prod.mk.inj (Prod.mk.inj x).2).2).1 (glue (Prod.mk.inj (Prod.mk.inj (Prod.mk.inj (Prod.mk.inj x).2).2).2).1 (glue (Prod.mk.inj (Prod.mk.inj (Prod.mk.inj (Prod.mk.inj (Prod.mk.inj x).2).2).2).2).1 (glue (Prod.mk.inj (Prod.mk.inj (Prod.mk.inj (Prod.mk.inj (Prod.mk.inj (Prod.mk.inj x).2).2).2).2).2).1 (glue (Prod.mk.inj (Prod.mk.inj (Prod.mk.inj (Prod.mk.inj (Prod.mk.inj (Prod.mk.inj (Prod.mk.inj x).2).2).2).2).2).2).1 ((Prod.mk.inj (Prod.mk.inj (Prod.mk.inj (Prod.mk.inj (Prod.mk.inj (Prod.mk.inj (Prod.mk.inj x).2).2).2).2).2).2).2))))))))
local macro_rules
  | `($f:ident ($g:ident $k $a $e)) => do
    unless g.getId.eraseMacroScopes == `kHook do Lean.Macro.throwUnsupported
    if f.getId.eraseMacroScopes == `Hook.obs then `(fun (s : PySem.Shared) => ((($a).take 96).map s.heap.get?, (((($a).drop 96).take 96).map s.heap.get?, ((((($a).drop 96).drop 96).take 96).map s.heap.get?, (((((($a).drop 96).drop 96).drop 96).take 96).map s.heap.get?, ((((((($a).drop 96).drop 96).drop 96).drop 96).take 96).map s.heap.get?, (((((((($a).drop 96).drop 96).drop 96).drop 96).drop 96).take 96).map s.heap.get?, ((((((((($a).drop 96).drop 96).drop 96).drop 96).drop 96).drop 96).take 96).map s.heap.get?, ((((((((($a).drop 96).drop 96).drop 96).drop 96).drop 96).drop 96).drop 96).map s.heap.get?)))))))))
    else if f.getId.eraseMacroScopes == `Hook.val then `(fun (w : PySem.World) => (((($k w.params)).take 96).map (fun p => some p.2), ((((($k w.params)).drop 96).take 96).map (fun p => some p.2), (((((($k w.params)).drop 96).drop 96).take 96).map (fun p => some p.2), ((((((($k w.params)).drop 96).drop 96).drop 96).take 96).map (fun p => some p.2), (((((((($k w.params)).drop 96).drop 96).drop 96).drop 96).take 96).map (fun p => some p.2), ((((((((($k w.params)).drop 96).drop 96).drop 96).drop 96).drop 96).take 96).map (fun p => some p.2), (((((((((($k w.params)).drop 96).drop 96).drop 96).drop 96).drop 96).drop 96).take 96).map (fun p => some p.2), (((((((((($k w.params)).drop 96).drop 96).drop 96).drop 96).drop 96).drop 96).drop 96).map fun p => some p.2)))))))))
    else if f.getId.eraseMacroScopes == `Hook.of then `(Lw.kpOf $e)
    else Lean.Macro.throwUnsupported
set_option maxHeartbeats 0
open_top hd for PySem.Challenge.rw_matrixforms_k08_whole_inverses_of_matric
end Lw

/-! A layer over L2 in which it is known that no guarded builtin (repr of a container) is running around. -/
namespace MG
open PySem PySem.Spec PyProof.Rows L2

/-- nothing guarded runs around -/
def Bare (A : Around) : Prop := A.guards = some []

/-- as FnOk, called only where nothing guarded runs around -/
structure FnG (P : Program) (w : World) (K : PySem.W.Frag) (mg : Str → Option Value) (base : Heap) (CX : CXT) (k : Nat)
    (f : Addr) (fd : FuncData) (ps : List Str) (sp : Sp) : Prop where
  len : ∀ vs H Q E, sp vs H Q E → vs.length = ps.length
  run : ∀ (A : Around) (outer : List Env) (s : Shared) (H : Hp) (args : Args) (us : List Value) (vs : List V) (Q : VK) (E : XK),
    Bare A → Room k A → Env0 P w K mg base A outer s H → BindsTo s fd args (ps.zip us) → Vals vs us → sp vs H Q E →
      codeAny (model P w) A (.call (.ref f) args) (CR CX outer P w H s Q E) s

section
variable {P : Program} {w : World} {K : PySem.W.Frag} {mg : Str → Option Value} {base : Heap} {CX : CXT} {k : Nat} {f : Addr}
theorem FnG.of {fd : FuncData} {ps : List Str} {sp : Sp} (F : FnOk P w K mg base CX k f fd ps sp) : FnG P w K mg base CX k f fd ps sp :=
  ⟨F.len, fun A outer s H args us vs Q E _ => F.run A outer s H args us vs Q E⟩

theorem fnG_of {name qual : Str} {params : Arguments} {body : List Stmt} {scope : Scope} {dV kV doc pm cdv ct oc : Value} {an od : Option Addr}
    {osl : Array (Option Value)} {N ps : List Str} {sp : Sp}
    (lk : K.lookup f = some ⟨oc, od, .func (PySem.W.fnOf name qual params body scope dV kV doc pm an cdv ct), osl⟩)
    (hcd : PySem.W.codeIn K cdv qual = true) (S : FnScope N ps scope) (len : ∀ vs H Q E, sp vs H Q E → vs.length = ps.length)
    (hbody : ∀ (A : Around) (outer : List Env) (s : Shared) (H : Hp) (vs : List V) (Q : VK) (E : XK), Bare A →
      Room k (A.deeper (envOfC qual scope s.heap.objs.size f cdv)) → sp vs H Q E →
      ∃ t, PSs (cxOf CX P w K mg base N qual scope f cdv A outer s H E) body t ∧ t { nx := fun _ H' => Q .non H', rt := Q } (start N vs) H) :
    FnG P w K mg base CX (k + 1) f (PySem.W.fnOf name qual params body scope dV kV doc pm an cdv ct) ps sp := by
  refine ⟨len, ?_⟩
  intro A outer s H args us vs Q E bare hr e0 hb r hsp
  have hl := len _ _ _ _ hsp
  have inK : K.In s.heap := e0.mod.kin.keeps (fun b o e => (e0.bs b o e).left)
  have free : s.heap.NoLimit := e0.mod.nolimit.keeps (fun b o e => (e0.bs b o e).left)
  refine codeAny_call_function hr.depth (inK _ _ lk) rfl S.co S.gen rfl (PySem.W.codeRec_of inK hcd) (hb _ _ _ _ ?_)
  have kinds : ∀ y ∈ ps.zip us, scope.names.lookup y.1 = some .local ∨
      (scope.names.lookup y.1 = some .cell ∧ ((cellsFrom (s.heap.objs.size + 1) scope.names []).lookup y.1).isSome = true) := by
    rintro ⟨n, v⟩ hy
    exact (S.par n (List.of_mem_zip hy).left).imp id fun q => ⟨q, PySem.W.cellsFrom_some _ _ _ (.inl q)⟩
  refine wpAny_newFunctionEnv_cells S.kind kinds ?_
  intro env he s1 x
  subst he
  refine ⟨free.keeps x.toInCall.keep, codeAny_func ?_⟩
  obtain ⟨t, ht, hq⟩ := hbody A outer s H vs Q E bare (hr.deeper _) hsp
  have I := inv_start (CX := CX) (E := E) S hr.hd e0 hl r x
  refine wpAny_mono (ht.run [] s1 (start N vs) H _ I hq) ?_ (fun e s' hs => hs)
  intro fl s' hs
  match fl, hs with
  | .ret u, ⟨v, σ', H', J, rv, q⟩ => exact ⟨v, H', J.os, J.bare, J.base, J.hok, rv, q⟩
  | .next, ⟨σ', H', J, q⟩ => exact ⟨V.non, H', J.os, J.bare, J.base, J.hok, rfl, q⟩
  | .brk, ⟨_, _, _, q⟩ => exact False.elim q
  | .cont, ⟨_, _, _, q⟩ => exact False.elim q
end

section
variable {X : Cx} {CX : CXT} {k : Nat} {f C : Addr} {fd : FuncData} {ps : List Str} {sp : Sp} {dvs : List V} {ds : List Value} {E : XK} {x m : Str} {p pos apos : Pos} {e o : Expr} {es : List Expr} {ta : TE} {t : TA}
variable {pins : List (Addr × Obj)} {σ : L2.St} {H : Hp} {s : Shared}
theorem run_fnG {Q : VK} {us : List Value} {vs : List V} (F : FnG X.prog X.w X.K X.mg X.base CX k f fd ps sp) (bare : Bare X.A) (hr : Room k X.A)
    (hb : Binds X.K fd ps ds) (hd : Vals dvs ds) (hx : Passes CX X E) (I : Inv X pins σ H s) (r : Vals vs us) (h : sp (vs ++ dvs) H Q E) :
    wpAny (model X.prog X.w) X.A (call (.ref f) us) (EP X pins σ Q) X.xe s := by
  have r2 := r.append hd
  have hl : (us ++ ds).length = ps.length := r2.length.symm.trans (F.len _ _ _ _ h)
  refine wpAny_call (codeAny_mono (F.run X.A X.stack s H ⟨us, []⟩ _ _ Q E bare hr I.env0 (hb s us I.kIn hl) r2 h) ?_)
  intro r s' hq
  match r, hq with
  | .error e, hq => exact hx pins σ H s e s' I hq
  | .ok (.ret u), hq => exact I.after hq
  | .ok .next, hq => exact False.elim hq
  | .ok .brk, hq => exact False.elim hq
  | .ok .cont, hq => exact False.elim hq

theorem pe_callG (F : FnG X.prog X.w X.K X.mg X.base CX k f fd ps sp) (bare : Bare X.A) (hr : Room k X.A) (hg : Gl X x) (hm : X.mg x = some (.ref f))
    (hk : PySem.W.keepIn X.K (.ref f) = true) (hb : Binds X.K fd ps ds) (hd : Vals dvs ds) (hx : Passes CX X E) (ha : PA X (e :: es) t)
    (hdb : (x == ("__debug__" : Str)) = false := by decide)
    (he : starEach (e :: es) X.env = (false, eval e X.env) :: starEach es X.env := by rfl)
    (hpl : (backTo pos (starEach es X.env)).any (·.1) = false := by rfl) : PE X (.Call (.Name x p) (e :: es) [] pos) (tCall sp dvs E t) := by
  constructor
  intro pins s σ H Q I h
  refine wpAny_Call_Name_kw (ld_glob I hg hm ?_ hdb)
  refine PySem.W.callWith_K (h₀ := X.base) I.ok.mod.kin hk (thn (ha.run pos pins s σ H _ I h) ?_) he hpl
  rintro us s1 ⟨vs, H1, I1, r, q⟩
  exact ⟨I1.kIn, run_fnG F bare hr hb hd hx I1 r q⟩
end

/-- the law's call at the heap behind the top, H being what is tracked there: at most the script -/
theorem enterG {P : Program} {w : World} {K : PySem.W.Frag} {mg mb : Str → Option Value} {k : Nat} {fa a : Addr} {fd : FuncData} {x : Str} {sp : Sp}
    {s₁ : Shared} {vs : List Value} {ns : List Int} {H : Hp}
    (KX : K.In s₁.heap) (hns : s₁.heap.Ns mainGlobals mg) (hb : s₁.heap.Ns builtinsNs mb) (hbb : ∀ x : Str, x ≠ "__name__" → mb x = bootBuiltins x)
    (hlim : s₁.heap.NoLimit) (hg : s₁.gens = #[]) (ha : s₁.heap.get? a = some { cls := .type "list", data := .seq vs.toArray })
    (hr : Room k callerA) (F : ∀ base : Heap, K.In base → base.Ns mainGlobals mg → FnG P w K mg base CX0 k fa fd [x] sp)
    (hbind : ∀ (s : Shared) (u : Value), BindsTo s fd ⟨[u], []⟩ [(x, u)])
    (hO : Only H) (hok : HOk P w H s₁.heap) (hA : ∀ b, H b ≠ none → b = a) (hK : H a ≠ none → K.lookup a = none)
    (hsp : sp [.ref a] H (fun v _ => v = .bl true) fun _ _ _ => False) :
    codeAny (model P w) callerA (.call (.ref fa) ⟨[.ref a], []⟩)
      (fun r s' => r = .ok (.ret (.bool true)) ∧ OldK s₁.heap s'.heap ∧ s'.os = s₁.os ∧ AllBare s'.gens) s₁ := by
  have untr : ∀ {b : Addr}, (b = a → False) → H b = none := fun {b} hne => by
    cases q : H b with
    | none => rfl
    | some u => exact (hne (hA b (by rw [q]; exact Option.some_ne_none u))).elim
  have ns' : ∀ {b : Addr} {m : Str → Option Value}, s₁.heap.Ns b m → (hidT s₁.heap H).Ns b m := by
    rintro b m ⟨o, es, ep, e, d, r⟩
    refine ⟨o, es, ep, hidT_get e (untr fun z => ?_), d, r⟩
    subst z
    have e' := e.symm.trans ha
    cases e'
    cases d
  have inB : K.In (hidT s₁.heap H) := fun b o e => hidT_get (KX b o e) (by
    by_cases z : b = a
    · subst z
      cases q : H b with
      | none => rfl
      | some u =>
        have e2 := hK (by rw [q]; exact Option.some_ne_none u)
        exact nomatch e.symm.trans e2
    · exact untr z)
  have M : Mod K mg (hidT s₁.heap H) := by
    refine ⟨inB, ns' hns, ⟨mb, ns' hb, hbb⟩, ?_⟩
    obtain ⟨mc, h1, h2⟩ := hlim
    exact ⟨mc, ns' h1, h2⟩
  have env : Env0 P w K mg (hidT s₁.heap H) callerA [] s₁ H :=
    { frames := rfl, mod := M, bs := fun b o e => of_hidT e, bsz := Nat.le_of_eq (hidT_size _ _), funs := trivial,
      frf := (fun b z => nomatch (show b ∈ ([] : List Addr) from z)), hok := hok, bare := .of_eq hg }
  refine codeAny_mono ((F _ inB (ns' hns)).run callerA [] s₁ H ⟨[.ref a], []⟩ [.ref a] [.ref a] _ _ rfl hr env (hbind s₁ (.ref a)) (.cons rfl .nil) hsp) ?_
  intro r s' h
  match r, h with
  | .error e, h => exact False.elim h
  | .ok .next, h => exact False.elim h
  | .ok .brk, h => exact False.elim h
  | .ok .cont, h => exact False.elim h
  | .ok (.ret u), ⟨v, H', os, bare, un, hok', rv, hv⟩ =>
    have hv' : v = .bl true := hv
    subst hv'
    have hu : u = Value.bool true := rv
    subst hu
    refine ⟨rfl, OldK.of_keep ?_, os, bare⟩
    intro b o e
    cases q : H b with
    | none => exact un.keep b o e q (fun z => by cases z) (by simp)
    | some t =>
      obtain ⟨ob, xs, z⟩ := (hO b).resolve_left (by rw [q]; exact Option.some_ne_none t)
      have o1 : s₁.heap.get? b = some ob := (hok b _ z).left
      have o2 : s'.heap.get? b = some ob := (hok' b _ (un.frzs b ob _ z)).left
      rw [o2]
      exact o1.symm.trans e

theorem callG {P : Program} {w : World} {K : PySem.W.Frag} {mg mb : Str → Option Value} {k : Nat} {fa a : Addr} {fd : FuncData} {x : Str} {sp : Sp}
    {s₁ : Shared} {vs : List Value} {ns : List Int}
    (KX : K.In s₁.heap) (hns : s₁.heap.Ns mainGlobals mg) (hb : s₁.heap.Ns builtinsNs mb) (hbb : ∀ x : Str, x ≠ "__name__" → mb x = bootBuiltins x)
    (hlim : s₁.heap.NoLimit) (hg : s₁.gens = #[]) (ha : s₁.heap.get? a = some { cls := .type "list", data := .seq vs.toArray }) (hi : IntsAre vs ns)
    (hl : ns.length ≤ sizeLine) (hr : Room k callerA) (F : ∀ base : Heap, K.In base → base.Ns mainGlobals mg → FnG P w K mg base CX0 k fa fd [x] sp)
    (hbind : ∀ (s : Shared) (u : Value), BindsTo s fd ⟨[u], []⟩ [(x, u)])
    (hsp : ∀ H : Hp, Only H → SqL K H a (ns.map V.int) → sp [.ref a] H (fun v _ => v = .bl true) fun _ _ _ => False) :
    codeAny (model P w) callerA (.call (.ref fa) ⟨[.ref a], []⟩)
      (fun r s' => r = .ok (.ret (.bool true)) ∧ OldK s₁.heap s'.heap ∧ s'.os = s₁.os ∧ AllBare s'.gens) s₁ := by
  have rv := vals_ints hi
  have lv := hi.length
  by_cases hk : K.lookup a = none
  · let H0 : Hp := upd (fun _ => none) a (.frz { cls := .type "list", data := .seq vs.toArray } (.lst (ns.map V.int)))
    have h0 : ∀ b, b ≠ a → H0 b = none := fun b z => upd_ne z
    have h1 : H0 a = some (.frz { cls := .type "list", data := .seq vs.toArray } (.lst (ns.map V.int))) := upd_same
    have O : Only H0 := fun b => by
      by_cases z : b = a
      · rw [z]
        exact .inr ⟨_, _, h1⟩
      · exact .inl (h0 b z)
    refine enterG (ns := ns) KX hns hb hbb hlim hg ha hr F hbind O (fun b u z => ?_) (fun b z => ?_) (fun _ => hk) (hsp _ O (.inl (.inr ⟨_, h1⟩)))
    · by_cases hba : b = a
      · subst hba
        cases h1.symm.trans z
        exact ⟨ha, by rw [List.length_map]; exact hl, vs, _, rv, ha⟩
      · exact nomatch (h0 b hba).symm.trans z
    · by_cases hba : b = a
      · exact hba
      · exact (z (h0 b hba)).elim
  · obtain ⟨o, e⟩ := Option.ne_none_iff_exists'.mp hk
    have e2 := (KX a o e).symm.trans ha
    cases e2
    have O : Only (fun _ => none) := fun _ => .inl rfl
    refine enterG (ns := ns) KX hns hb hbb hlim hg ha hr F hbind O (fun b u z => nomatch z) (fun b z => (z rfl).elim) (fun z => (z rfl).elim) (hsp _ O (.inr ?_))
    exact ⟨_, vs.toArray, _, e, rfl, rfl, rfl, by rw [List.size_toArray, lv]; exact hl, by simpa using rv⟩

theorem walkG {l : PySem.W.OpenLaw} {n k : Nat} {q : Program} {loose : List Str} {XP : (Str → Option Value) → Heap → Prop} {YP : World → Heap → Prop} {d : DefRec}
    {K : Params → PySem.W.Frag} {sp : World → Sp} {x : Str} (hn : l.most = some n) (hn2 : n ≤ sizeLine) (hdf : d.params.defaults = []) (hr : Room k callerA)
    (hY : ∀ (w : World) (h : Heap), YP w h → (K w.params).In h)
    (F : ∀ (w : World) (mg : Str → Option Value) (fa : Addr) (h : Heap), (K w.params).In h → h.Ns mainGlobals mg → mg d.name = some (.ref fa) →
      ∃ fd : FuncData, (∀ (s : Shared) (u : Value), BindsTo s fd ⟨[u], []⟩ [(x, u)]) ∧
        ∀ base : Heap, (K w.params).In base → base.Ns mainGlobals mg → FnG l.prog w (K w.params) mg base CX0 k fa fd [x] (sp w))
    (hsp : ∀ (w : World) (H : Hp) (a : Addr) (ns : List Int), ns.length ≤ n → Only H → SqL (K w.params) H a (ns.map V.int) →
      sp w [.ref a] H (fun v _ => v = .bl true) fun _ _ _ => False) :
    PySem.W.WalkO q loose XP YP l.row.toRowW d [] (fun f vs => PySem.call f vs) := by
  refine Att.attach_call hn hdf ?_
  intro w s₀ s₁ mg mb fa o pm cd doc a vs ns G Y ho hd hcd hmg hobj hints hlen hg
  have inK := hY w _ Y
  obtain ⟨fd, hb, hF⟩ := F w mg fa _ inK G.T.g hmg
  exact callG inK G.T.g G.T.b G.T.builtins G.T.nolimit hg hobj hints (Nat.le_trans hlen hn2) hr hF hb fun H hO hS => hsp w H a ns hlen hO hS
end MG

/-! Further rules: operators of own classes, repr of data, // of any sign -/
namespace MG
open PySem PySem.Spec PyProof.Rows L2

section
variable {X : Cx}
/-- // by any divisor but 0 -/
theorem op_fdivZ : OpR X (binaryOp .FloorDiv) (rI (fun _ j => j ≠ 0 ∧ j.natAbs.log2 < 9000) fun i j => .int (i.fdiv j)) :=
  opI fun _ _ _ _ _ _ _ hc q => floordiv_int hc.1 q (.inl (PyProof.noPylong_of_log2 hc.2))

theorem rel_ni {v : V} (r : RelV v Value.notImplemented) : False := by
  cases v with
  | non => cases (show Value.notImplemented = Value.none from r)
  | bl b => cases (show Value.notImplemented = Value.bool b from r)
  | int i => obtain ⟨_, q⟩ := (show ∃ t, Value.notImplemented = Value.int i t from r); cases q
  | str i => obtain ⟨_, q⟩ := (show ∃ t, Value.notImplemented = Value.str i t from r); cases q
  | byt i => obtain ⟨_, q⟩ := (show ∃ t, Value.notImplemented = Value.bytes i t from r); cases q
  | flt i => obtain ⟨_, q⟩ := (show ∃ t, Value.notImplemented = Value.float i t from r); cases q
  | ref i => cases (show Value.notImplemented = Value.ref i from r)
  | ty i => cases (show Value.notImplemented = Value.type i from r)
theorem back_of {Q : Value → Shared → Prop} {v : V} {u : Value} {s : Shared} (r : RelV v u) (q : Q u s) : PySem.W.CmpBack Q u s := by
  cases u <;> first | exact q | exact (rel_ni r).elim

/-- what the top says of an operator's method of an own class -/
structure OpAt (K : PySem.W.Frag) (C : Addr) (op : Operator) (f : Addr) : Prop where
  first : PySem.W.selfFirst K C = true
  at_ : PySem.W.findIn K (.ref C) (PySem.dunder op.info.2) = some (some (.ref f))
  fn : PySem.W.isFn K (.ref f) = true
  ref : PySem.W.findIn K (.ref C) (dunderR op.info.2) = some none
structure OpInt (K : PySem.W.Frag) (C : Addr) (op : Operator) : Prop where
  to : ∃ fo, PySem.W.findIn K (.type "int") (PySem.dunder op.info.2) = some fo
  ro : ∃ ro, PySem.W.findIn K (.type "int") (dunderR op.info.2) = some ro
  sub : PySem.W.subIn K (.type "int") (.ref C) = some false

/-- x op y, x of the class at C, y of it too or an int -/
def rOwn (C : Addr) (sp : Sp) (E : XK) : R2 := fun x y H Q => ∃ a dx fs, x = .ref a ∧ H a = some (.ins C dx fs) ∧
  ((∃ b dy gs, y = .ref b ∧ H b = some (.ins C dy gs)) ∨ ∃ i, y = .int i) ∧ sp [x, y] H Q E
theorem op_own {CX : CXT} {k : Nat} {C f : Addr} {op : Operator} {fd : FuncData} {ps : List Str} {sp : Sp} {E : XK}
    (o : OpAt X.K C op f) (oi : OpInt X.K C op) (F : FnOk X.prog X.w X.K X.mg X.base CX k f fd ps sp) (hr : Room k X.A)
    (hb : Binds X.K fd ps []) (hx : Passes CX X E) : OpR X (binaryOp op) (rOwn C sp E) := by
  intro pins s σ H x y v u Q I rx ry h
  obtain ⟨a, dx, fs, rfl, ha, hy, hsp⟩ := h
  cases rx
  obtain ⟨mA, J, _⟩ := ins_get I.hok ha
  obtain ⟨od, J, _⟩ := J.look
  obtain ⟨m, hF⟩ := I.fr
  have call1 : wpAny (model X.prog X.w) X.A (call (.ref f) [.ref a, u]) (PySem.W.CmpBack (EP X pins σ Q)) X.xe s :=
    wpAny_mono (run_fn (vs := [.ref a, y]) F hr hb .nil hx I (.cons rfl (.cons ry .nil)) (by rw [List.append_nil]; exact hsp))
      (fun _ _ hq => match hq with | ⟨_, _, _, r, _⟩ => back_of r hq) fun _ _ e => e
  rcases hy with ⟨b, dy, gs, rfl, hb'⟩ | ⟨i, rfl⟩
  · cases ry
    obtain ⟨mB, J', _⟩ := ins_get I.hok hb'
    obtain ⟨od', J', _⟩ := J'.look
    exact PySem.W.binop_K hF I.ok.mod.kin J J'.type o.first o.at_ o.fn call1
  · obtain ⟨t, rfl⟩ := ry
    obtain ⟨fo, h1⟩ := oi.to
    obtain ⟨ro, h2⟩ := oi.ro
    exact PySem.W.ksp_binT hF I.ok.mod.kin J (T := "int") rfl o.first o.at_ o.fn o.ref (.inl rfl) h1 h2 oi.sub call1

/-- -x of an own class -/
def rNegO (C : Addr) (sp : Sp) (E : XK) : V → Hp → VK → Prop := fun x H Q => ∃ a dx fs, x = .ref a ∧ H a = some (.ins C dx fs) ∧ sp [x] H Q E
theorem un_negO {CX : CXT} {k : Nat} {C f : Addr} {fd : FuncData} {ps : List Str} {sp : Sp} {E : XK}
    (at_ : PySem.W.findIn X.K (.ref C) "__neg__" = some (some (.ref f))) (fn : PySem.W.isFn X.K (.ref f) = true)
    (F : FnOk X.prog X.w X.K X.mg X.base CX k f fd ps sp) (hr : Room k X.A) (hb : Binds X.K fd ps []) (hx : Passes CX X E) :
    UnR X (unaryOp .USub) (rNegO C sp E) := by
  intro pins s σ H x v Q I rx h
  obtain ⟨a, dx, fs, rfl, ha, hsp⟩ := h
  cases rx
  obtain ⟨mA, J, _⟩ := ins_get I.hok ha
  obtain ⟨od, J, _⟩ := J.look
  obtain ⟨m, hF⟩ := I.fr
  exact PySem.W.ksp_neg hF I.ok.mod.kin J at_ fn (run_fn (vs := [.ref a]) F hr hb .nil hx I (.cons rfl .nil) (by rw [List.append_nil]; exact hsp))

/-- x == y, x of the class at C with its own ==, y of it too -/
def rEqO (C : Addr) (sp : Sp) (E : XK) : R2 := fun x y H Q => ∃ a dx fs b dy gs, x = .ref a ∧ H a = some (.ins C dx fs) ∧ y = .ref b ∧ H b = some (.ins C dy gs) ∧ sp [x, y] H Q E
theorem op_eqO {CX : CXT} {k : Nat} {C f : Addr} {fd : FuncData} {ps : List Str} {sp : Sp} {E : XK}
    (at_ : PySem.W.findIn X.K (.ref C) "__eq__" = some (some (.ref f))) (fn : PySem.W.isFn X.K (.ref f) = true)
    (F : FnOk X.prog X.w X.K X.mg X.base CX k f fd ps sp) (hr : Room k X.A) (hb : Binds X.K fd ps []) (hx : Passes CX X E) :
    OpR X (compareOp .Eq) (rEqO C sp E) := by
  intro pins s σ H x y v u Q I rx ry h
  obtain ⟨a, dx, fs, b, dy, gs, rfl, ha, rfl, hb', hsp⟩ := h
  cases rx
  cases ry
  obtain ⟨mA, J, _⟩ := ins_get I.hok ha
  obtain ⟨od, J, _⟩ := J.look
  obtain ⟨mB, J', _⟩ := ins_get I.hok hb'
  obtain ⟨od', J', _⟩ := J'.look
  obtain ⟨m, hF⟩ := I.fr
  refine PySem.W.cmp_K (op := .Eq) (tb := .ref C) hr.units0 hF I.ok.mod.kin J J'.type (by simp [PySem.W.notFirst]) at_ fn ?_
  exact wpAny_mono (run_fn (vs := [.ref a, .ref b]) F hr hb .nil hx I (.cons rfl (.cons rfl .nil)) (by rw [List.append_nil]; exact hsp))
    (fun _ _ hq => match hq with | ⟨_, _, _, r, _⟩ => back_of r hq) fun _ _ e => e
end
end MG

namespace MG
open PySem PySem.Spec PyProof.Rows L2 PySem.Calls

section
variable {prog : Program} {w : World} {A : Around} {E : Value → Shared → Prop} {s : Shared} {K : PySem.W.Frag} {x y C L f : Addr} {h₀ : Heap} {m : Str → Option Value} {ox oy : Obj} {od oe : Option Obj}

theorem objNe_run (X : K.In s.heap) (I : PySem.W.InstAt s.heap x ox C od) (hs : PySem.W.findIn K (.ref C) "__eq__" = some (some (.ref f))) (hf : PySem.W.isFn K (.ref f) = true)
    (hu : A.units < cLine) {Q : Fin → Shared → Prop}
    (hcall : wpAny (model prog w) A (call (.ref f) [.ref x, .ref y]) (fun v s' => ∃ b, v = .bool b ∧ Q (.done (.ret (.bool (!b)))) s') E s) :
    wpAny (model prog w) A (Builtin.«object.__ne__» ⟨[.ref x, .ref y], []⟩) Q E s := by
  unfold Builtin.«object.__ne__»
  repeat (first
    | with_reducible refine wpAny_cRoomFor hu ?_
    | (refine wpAny_bind (m := callSpecialIfBound? (.ref x) (Str.ofString "__eq__") [.ref y])
        (PySem.W.ifBound_K X I hs hf (wpAny_mono hcall (fun r s' hr => ?_) fun _ _ e => e)))
    | wp_step)
  obtain ⟨b, rfl, hq⟩ := hr
  repeat (first | exact hq | exact wpAny_pure hq | exact wpAny_truthy_bool hq | (refine wpAny_bind (m := truthy (.bool _)) (wpAny_truthy_bool ?_)) | wp_step)

theorem ifBound_ne (X : K.In s.heap) (I : PySem.W.InstAt s.heap x ox C od) (hn : PySem.W.findIn K (.ref C) "__ne__" = some (some (.builtin "object.__ne__")))
    {args : List Value} {Q : Option Value → Shared → Prop}
    (h : wpAny (model prog w) A (call (.builtin "object.__ne__") (.ref x :: args)) (fun v => Q (some v)) E s) :
    wpAny (model prog w) A (callSpecialIfBound? (.ref x) "__ne__" args) Q E s := by
  have S : Slot "object" "__ne__" "object.__ne__" := PySem.F.cmp_object.ne
  have hb := S.bind
  simp only [callSpecialIfBound?, bindSpecialIfBound?]
  refine wpAny_holding (wpAny_bind (wpAny_bind (wpAny_bind (I.type.here ((PySem.W.looks_findIn X hn).here ?_)))))
  simp only [hb]
  refine wpAny_bind (wpAny_askSetting (wpAny_ite ?_))
  have fin : wpAny (model prog w) A (call (.builtin "object.__ne__") ([.ref x] ++ args) >>= fun v => pure (some v)) Q E s :=
    wpAny_bind (wpAny_mono h (fun v s' h' => wpAny_pure h') fun _ _ h' => h')
  split
  · exact wpAny_bind (wpAny_pure (wpAny_pure fin))
  · exact wpAny_tryCatch (wpAny_bind (wpAny_pure (wpAny_pure fin)))

theorem ne_K (X : K.In s.heap) (I : PySem.W.InstAt s.heap x ox C od) (I' : PySem.W.InstAt s.heap y oy C oe)
    (hn : PySem.W.findIn K (.ref C) "__ne__" = some (some (.builtin "object.__ne__"))) (hs : PySem.W.findIn K (.ref C) "__eq__" = some (some (.ref f)))
    (hf : PySem.W.isFn K (.ref f) = true) (ho : PySem.W.subIn K (.ref C) (.type "object") = some true) (hu : A.units + 1 < cLine) {Q : Value → Shared → Prop}
    (hcall : wpAny (model prog w) A.in1 (call (.ref f) [.ref x, .ref y]) (fun v s' => ∃ b, v = .bool b ∧ Q (.bool (!b)) s') E s) :
    wpAny (model prog w) A (richCompare .NotEq (.ref x) (.ref y)) Q E s := by
  have sub : PySem.W.Looks (model prog w) s.heap (isInstance (.ref x) (.type "object")) true := I.type.andThen (PySem.W.looks_subIn X ho)
  have one : wpAny (model prog w) A (tryCompare (.ref x) "__ne__" (.ref y)) (fun r s' => ∃ v, r = some v ∧ Q v s') E s := by
    simp only [tryCompare]
    refine wpAny_bind (ifBound_ne X I hn (wpAny_call (codeAny_call_builtin PySem.F.cmp_object.ne.plain PySem.F.cmpEntry_ne
      (PySem.W.check_slot PySem.F.cmpKind_ne PySem.F.cmpSplit_ne sub (PySem.F.cmpArgs_ne _ _) ?_))))
    refine objNe_run (A := A.in1) X I hs hf hu (wpAny_mono hcall (fun v s' hv => ?_) fun _ _ e => e)
    obtain ⟨b, rfl, hq⟩ := hv
    first | exact ⟨b, rfl, wpAny_pure ⟨_, rfl, hq⟩⟩ | exact ⟨b, rfl, wpAny_pure (wpAny_pure ⟨_, rfl, hq⟩)⟩ | exact ⟨b, rfl, _, rfl, hq⟩
  unfold richCompare
  simp only [oneThing_ref]
  refine wpAny_holding (wpAny_bind (wpAny_cRoomFor (Nat.lt_of_succ_lt hu) ?_))
  refine wpAny_bind (I.type.here (wpAny_bind (I'.type.here ?_)))
  rw [show (Value.ref C != Value.ref C) = false from by simp]
  simp only [Bool.false_eq_true, if_false]
  refine wpAny_bind (wpAny_pure ?_)
  simp only [Bool.false_eq_true, if_false]
  refine wpAny_bind (wpAny_mono one (fun v s' hv => ?_) fun _ _ e => e)
  obtain ⟨b, rfl, hq⟩ := hv
  exact wpAny_pure hq
end

section
variable {X : Cx}
structure NeAt (K : PySem.W.Frag) (C f : Addr) : Prop where
  ne : PySem.W.findIn K (.ref C) "__ne__" = some (some (.builtin "object.__ne__"))
  eq : PySem.W.findIn K (.ref C) "__eq__" = some (some (.ref f))
  fn : PySem.W.isFn K (.ref f) = true
  sub : PySem.W.subIn K (.ref C) (.type "object") = some true
def rNeO (C : Addr) (sp : Sp) (E : XK) : R2 := fun x y H Q => ∃ a dx fs b dy gs, x = .ref a ∧ H a = some (.ins C dx fs) ∧ y = .ref b ∧ H b = some (.ins C dy gs) ∧
  sp [x, y] H (fun v H' => ∃ c, v = .bl c ∧ Q (.bl (!c)) H') E
theorem op_neO {CX : CXT} {k : Nat} {C f : Addr} {fd : FuncData} {ps : List Str} {sp : Sp} {E : XK} (n : NeAt X.K C f)
    (F : FnOk X.prog X.w X.K X.mg X.base CX k f fd ps sp) (hr : Room (k + 1) X.A) (hb : Binds X.K fd ps []) (hx : Passes CX X E) :
    OpR X (compareOp .NotEq) (rNeO C sp E) := by
  intro pins s σ H x y v u Q I rx ry h
  obtain ⟨a, dx, fs, b, dy, gs, rfl, ha, rfl, hb', hsp⟩ := h
  cases rx
  cases ry
  obtain ⟨mA, J, _⟩ := ins_get I.hok ha
  obtain ⟨od, J, _⟩ := J.look
  obtain ⟨mB, J', _⟩ := ins_get I.hok hb'
  obtain ⟨od', J', _⟩ := J'.look
  refine ne_K I.kIn J J' n.ne n.eq n.fn n.sub (Nat.lt_trans (by omega) hr.un) ?_
  have hl := F.len _ _ _ _ hsp
  refine wpAny_call (codeAny_mono (F.run X.A.in1 X.stack s H ⟨[.ref a, .ref b], []⟩ [.ref a, .ref b] [.ref a, .ref b] _ E hr.in1 I.env0.in1 (by
    have := hb s [.ref a, .ref b] I.kIn (by simpa using hl)
    simpa using this) (.cons rfl (.cons rfl .nil)) hsp) fun r s' hq => ?_)
  match r, hq with
  | .error e, hq => exact hx pins σ H s e s' I hq
  | .ok (.ret z), hq =>
    obtain ⟨v, H', I', rv, c, rfl, q⟩ := I.after hq
    cases rv
    exact ⟨c, rfl, .bl (!c), H', I', rfl, q⟩
  | .ok .next, hq => exact False.elim hq
  | .ok .brk, hq => exact False.elim hq
  | .ok .cont, hq => exact False.elim hq

/-- repr(x) of data: None, bools, ints, texts, lists, tuples -/
def rRepr (K : PySem.W.Frag) : List V → Hp → VK → Prop := fun xs H Q => ∃ x d, xs = [x] ∧ Dp K H x d ∧ d.showable = true ∧ d.hasDict = false ∧ d.depth ≤ 60 ∧ d.shown.length ≤ sizeLine ∧ Q (.str d.shown) H
theorem call_reprD (bare : Bare X.A) (hu : X.A.units + 64 < cLine) : CallR X (.builtin "repr") (rRepr X.K) := by
  intro pins s σ H xs us Q I r h
  obtain ⟨x, d, rfl, hd, hs, hdict, hdep, hz, q⟩ := h
  cases r with
  | cons rx rn =>
    cases rn
    rename_i u
    obtain ⟨as, R⟩ := Dp.reads I d x u hd rx
    have leaf : ∀ (k : Nat), EP X pins σ Q (.str d.shown k) { s with toks := s.toks + 1 } := fun k => ⟨.str _, H, I.tok _, ⟨_, rfl⟩, q⟩
    cases R with
    | none => exact PySem.P.repr_of_none (leaf _)
    | bool b => exact PySem.P.repr_of_bool (leaf _)
    | int i t => exact PySem.P.repr_of_int (by simpa [PyData.showable] using hs) (leaf _)
    | str z t => exact PySem.P.repr_of_str (leaf _) hz
    | list h1 h2 h3 h4 => exact repr_of_reads' (.list h1 h2 h3 h4) hs (fun z => by rw [hdict] at z; cases z) bare (by omega) (fun _ _ e => e) (fun h' u tk k => ⟨.str _, H, I.kept k, ⟨_, rfl⟩, q⟩) hz
    | tuple h1 h2 h3 h4 => exact repr_of_reads' (.tuple h1 h2 h3 h4) hs (fun z => by rw [hdict] at z; cases z) bare (by omega) (fun _ _ e => e) (fun h' u tk k => ⟨.str _, H, I.kept k, ⟨_, rfl⟩, q⟩) hz
    | dict h1 h2 h3 h4 h5 => exact absurd hd nofun
end
end MG

/-! Defs as callers know them -/
namespace MG
open PySem PySem.Spec PyProof.Rows L2

/-- a def of the module that lets nothing out, as callers know it -/
structure CalG (P : Program) (w : World) (K : PySem.W.Frag) (mg : Str → Option Value) (base : Heap) (k : Nat) (x : Str) (sp : Sp) (dvs : List V) : Prop where
  ex : ∃ (f : Addr) (fd : FuncData) (ps : List Str) (ds : List Value), FnG P w K mg base CX0 k f fd ps sp ∧ mg x = some (.ref f) ∧ PySem.W.keepIn K (.ref f) = true ∧ Binds K fd ps ds ∧ Vals dvs ds
theorem pe_cg {X : Cx} {k j : Nat} {x : Str} {sp : Sp} {dvs : List V} {p pos : Pos} {e : Expr} {es : List Expr} {t : TA}
    (c : CalG X.prog X.w X.K X.mg X.base k x sp dvs) (bare : Bare X.A) (hr : Room j X.A) (hk : k ≤ j) (hg : Gl X x) (ha : PA X (e :: es) t)
    (hdb : (x == ("__debug__" : Str)) = false := by decide)
    (he : starEach (e :: es) X.env = (false, eval e X.env) :: starEach es X.env := by rfl)
    (hpl : (backTo pos (starEach es X.env)).any (·.1) = false := by rfl) : PE X (.Call (.Name x p) (e :: es) [] pos) (tCall sp dvs E0 t) := by
  obtain ⟨f, fd, ps, ds, F, hm, kp, b, d⟩ := c.ex
  exact pe_callG F bare (hr.mono hk) hg hm kp b d pass0 ha hdb he hpl

section
variable {P : Program} {w : World} {K : PySem.W.Frag} {mg : Str → Option Value} {base : Heap}
/-- its body, as a term of rules, and the reading of that term -/
theorem fun_okG {x qual : Str} {st : Stmt} {f : Addr} {fd : FuncData} {N ps : List Str} {k : Nat} {sp : Sp} (F : Fun K x qual st f fd) (S : FnScope N ps (defScope st)) (len : ∀ vs H Q E, sp vs H Q E → vs.length = ps.length)
    (hbody : ∀ (cdv : Value) (A : Around) (outer : List Env) (s : Shared) (H : Hp) (vs : List V) (Q : VK) (E : XK), Bare (A.deeper (envOfC qual (defScope st) s.heap.objs.size f cdv)) →
      Room k (A.deeper (envOfC qual (defScope st) s.heap.objs.size f cdv)) → sp vs H Q E →
      ∃ t, PSs (cxOf CX0 P w K mg base N qual (defScope st) f cdv A outer s H E).nox (defBody st) t ∧ t { nx := fun _ H' => Q .non H', rt := Q } (start N vs) H) : FnG P w K mg base CX0 (k + 1) f fd ps sp := by
  obtain ⟨oc, od, kV, doc, pm, an, cdv, ct, osl, rfl, lk, hcd⟩ := F.ex
  refine fnG_of lk hcd S len ?_
  intro A outer s H vs Q E bare hr hsp
  obtain ⟨t, h, q⟩ := hbody cdv A outer s H vs Q E bare hr hsp
  exact ⟨t, h.nox, q⟩
theorem calG_of {x qual : Str} {st : Stmt} {f : Addr} {fd : FuncData} {N ps : List Str} {k : Nat} {sp : Sp} (F : Fun K x qual st f fd) (hm : mg x = some (.ref f)) (b : Binds K fd ps []) (S : FnScope N ps (defScope st)) (len : ∀ vs H Q E, sp vs H Q E → vs.length = ps.length)
    (hbody : ∀ (cdv : Value) (A : Around) (outer : List Env) (s : Shared) (H : Hp) (vs : List V) (Q : VK) (E : XK), Bare (A.deeper (envOfC qual (defScope st) s.heap.objs.size f cdv)) →
      Room k (A.deeper (envOfC qual (defScope st) s.heap.objs.size f cdv)) → sp vs H Q E →
      ∃ t, PSs (cxOf CX0 P w K mg base N qual (defScope st) f cdv A outer s H E).nox (defBody st) t ∧ t { nx := fun _ H' => Q .non H', rt := Q } (start N vs) H) : CalG P w K mg base (k + 1) x sp [] :=
  ⟨f, fd, ps, [], fun_okG F S len hbody, hm, F.kp, b, .nil⟩
end

/-- the same where nothing need be known of what runs around -/
structure CalF (P : Program) (w : World) (K : PySem.W.Frag) (mg : Str → Option Value) (base : Heap) (k : Nat) (x : Str) (sp : Sp) (dvs : List V) : Prop where
  ex : ∃ (f : Addr) (fd : FuncData) (ps : List Str) (ds : List Value), FnOk P w K mg base CX0 k f fd ps sp ∧ mg x = some (.ref f) ∧ PySem.W.keepIn K (.ref f) = true ∧ Binds K fd ps ds ∧ Vals dvs ds
theorem pe_cf {X : Cx} {k j : Nat} {x : Str} {sp : Sp} {dvs : List V} {p pos : Pos} {e : Expr} {es : List Expr} {t : TA}
    (c : CalF X.prog X.w X.K X.mg X.base k x sp dvs) (hr : Room j X.A) (hk : k ≤ j) (hg : Gl X x) (ha : PA X (e :: es) t)
    (hdb : (x == ("__debug__" : Str)) = false := by decide)
    (he : starEach (e :: es) X.env = (false, eval e X.env) :: starEach es X.env := by rfl)
    (hpl : (backTo pos (starEach es X.env)).any (·.1) = false := by rfl) : PE X (.Call (.Name x p) (e :: es) [] pos) (tCall sp dvs E0 t) := by
  obtain ⟨f, fd, ps, ds, F, hm, kp, b, d⟩ := c.ex
  exact pe_call F (hr.mono hk) hg hm kp b d pass0 ha hdb he hpl
/-- a class that may be made by its name; sp: its __init__ -/
structure MakF (P : Program) (w : World) (K : PySem.W.Frag) (mg : Str → Option Value) (base : Heap) (k : Nat) (x : Str) (C : Addr) (sp : Sp) (dvs : List V) : Prop where
  ex : ∃ (f : Addr) (fd : FuncData) (ps : List Str) (ds : List Value), Mk K C f ∧ FnOk P w K mg base CX0 k f fd ps sp ∧ mg x = some (.ref C) ∧ Binds K fd ps ds ∧ Vals dvs ds
theorem pe_mkf {X : Cx} {k j : Nat} {x : Str} {C : Addr} {sp : Sp} {dvs : List V} {p pos : Pos} {e : Expr} {es : List Expr} {t : TA}
    (c : MakF X.prog X.w X.K X.mg X.base k x C sp dvs) (hr : Room j X.A) (hk : k + 1 ≤ j) (hg : Gl X x) (ha : PA X (e :: es) t)
    (hdb : (x == ("__debug__" : Str)) = false := by decide)
    (he : starEach (e :: es) X.env = (false, eval e X.env) :: starEach es X.env := by rfl)
    (hpl : (backTo pos (starEach es X.env)).any (·.1) = false := by rfl) : PE X (.Call (.Name x p) (e :: es) [] pos) (tMake C sp dvs E0 t) := by
  obtain ⟨f, fd, ps, ds, M, F, hm, b, d⟩ := c.ex
  exact pe_make M F (hr.mono hk) hg hm b d pass0 ha hdb he hpl
/-- one value by place, one by name -/
def one1 {α : Type} : List α → List α → List α
  | [a], [b] => [a, b]
  | _, _ => []
/-- o.m(k = v, ..) -/
def tMethK (C : Addr) (m : Str) (sp : Sp) (gV : List V → List V → List V) (E : XK) (ta : TE) (tk : TA) : TE := fun σ H Q => ta σ H fun x H1 =>
  ∃ a dx fs, x = .ref a ∧ H1 a = some (.ins C dx fs) ∧ fs.lookup m = none ∧ tk σ H1 fun zs H2 => sp (gV [x] zs) H2 Q E
theorem pe_methK0 {X : Cx} {CX : CXT} {k : Nat} {f C : Addr} {fd : FuncData} {ps ks : List Str} {sp : Sp} {E : XK} {m : Str} {pos apos : Pos} {o : Expr} {kws : List Keyword} {ta : TE} {tk : TA}
    {g : List Value → List Value → List Value} {gV : List V → List V → List V} {pl : Sem Bool}
    (he : PE X o ta) (c : Cls X.K C) (hm : Meth X.K C m f) (F : FnOk X.prog X.w X.K X.mg X.base CX k f fd ps sp) (hr : Room k X.A) (hb : KBinds X.K fd ps ks g gV) (hx : Passes CX X E) (hkw : PK X kws tk)
    (hall : (backToKw pos (keywordEach kws X.env)).all (·.1.isSome) = true := by rfl) (hks : (backToKw pos (keywordEach kws X.env)).filterMap (·.1) = ks := by rfl)
    (hpl : ((backTo pos (starEach [] X.env)).any (·.1) || (backToKw pos (keywordEach kws X.env)).any (·.1.isNone)) = false := by rfl)
    (ht : eval (.Call (.Attribute o m apos) [] kws pos) X.env = (do
      let ov ← eval o X.env
      standAt apos.atName
      let (f, first) ← holding [ov] (getMethod ov m pl)
      callWith pos f first (backTo pos (starEach [] X.env)) (backToKw pos (keywordEach kws X.env))) := by rfl) :
    PE X (.Call (.Attribute o m apos) [] kws pos) (tMethK C m sp gV E ta tk) := by
  constructor
  intro pins s σ H Q I h
  refine PySem.W.methodCall_KW (pl := pl) (thn (he.run pins s σ H _ I h) ?_) ht
  rintro u s1 ⟨x, H1, I1, rx, a, dx, fs, ex, ea, l, q⟩
  subst ex
  have eu : u = Value.ref a := rx
  subst eu
  refine getmeth_ok I1 ea c hm l ?_
  refine PySem.W.callWith_KW0 (h₀ := X.base) I.ok.mod.kin hm.kp hall (thn (hkw.run pos pins s1 σ H1 _ I1 q) ?_) hpl
  rintro ws s2 ⟨zs, H2, I2, rz, q2⟩
  refine ⟨I2.kIn, ?_⟩
  rw [hks]
  exact run_fnk (us := [.ref a]) (vs := [.ref a]) F hr hb hx I2 (.cons rfl .nil) rz q2

/-! ### operators, properties and methods of a class, as callers know them -/
section
variable (P : Program) (w : World) (K : PySem.W.Frag) (mg : Str → Option Value) (base : Heap) (k : Nat) (C : Addr)
structure OpF (op : Operator) (sp : Sp) : Prop where
  ex : ∃ (f : Addr) (fd : FuncData) (ps : List Str), OpAt K C op f ∧ OpInt K C op ∧ FnOk P w K mg base CX0 k f fd ps sp ∧ Binds K fd ps []
structure NegF (sp : Sp) : Prop where
  ex : ∃ (f : Addr) (fd : FuncData) (ps : List Str), PySem.W.findIn K (.ref C) "__neg__" = some (some (.ref f)) ∧ PySem.W.isFn K (.ref f) = true ∧ FnOk P w K mg base CX0 k f fd ps sp ∧ Binds K fd ps []
structure EqF (sp : Sp) : Prop where
  ex : ∃ (f : Addr) (fd : FuncData) (ps : List Str), NeAt K C f ∧ FnOk P w K mg base CX0 k f fd ps sp ∧ Binds K fd ps []
structure PropF (x : Str) (sp : Sp) : Prop where
  ex : ∃ (p g : Addr) (fd : FuncData) (ps : List Str), PropOf K C x p g ∧ FnOk P w K mg base CX0 k g fd ps sp ∧ Binds K fd ps []
structure MetF (m : Str) (sp : Sp) (dvs : List V) : Prop where
  ex : ∃ (f : Addr) (fd : FuncData) (ps : List Str) (ds : List Value), Meth K C m f ∧ FnOk P w K mg base CX0 k f fd ps sp ∧ Binds K fd ps ds ∧ Vals dvs ds
structure MetK (m : Str) (sp : Sp) (ks : List Str) (gV : List V → List V → List V) : Prop where
  ex : ∃ (f : Addr) (fd : FuncData) (ps : List Str) (g : List Value → List Value → List Value), Meth K C m f ∧ FnOk P w K mg base CX0 k f fd ps sp ∧ KBinds K fd ps ks g gV
end
section
variable {X : Cx} {k j : Nat} {C : Addr} {sp : Sp} {op : Operator}
theorem op_f (o : OpF X.prog X.w X.K X.mg X.base k C op sp) (hr : Room j X.A) (hk : k ≤ j) : OpR X (binaryOp op) (rOwn C sp E0) := by
  obtain ⟨f, fd, ps, a, i, F, b⟩ := o.ex
  exact op_own a i F (hr.mono hk) b pass0
theorem un_f (o : NegF X.prog X.w X.K X.mg X.base k C sp) (hr : Room j X.A) (hk : k ≤ j) : UnR X (unaryOp .USub) (rNegO C sp E0) := by
  obtain ⟨f, fd, ps, a, i, F, b⟩ := o.ex
  exact un_negO a i F (hr.mono hk) b pass0
theorem eq_f (o : EqF X.prog X.w X.K X.mg X.base k C sp) (hr : Room j X.A) (hk : k ≤ j) : OpR X (compareOp .Eq) (rEqO C sp E0) := by
  obtain ⟨f, fd, ps, n, F, b⟩ := o.ex
  exact op_eqO n.eq n.fn F (hr.mono hk) b pass0
theorem ne_f (o : EqF X.prog X.w X.K X.mg X.base k C sp) (hr : Room j X.A) (hk : k + 1 ≤ j) : OpR X (compareOp .NotEq) (rNeO C sp E0) := by
  obtain ⟨f, fd, ps, n, F, b⟩ := o.ex
  exact op_neO n F (hr.mono hk) b pass0
theorem pe_pf {x : Str} {e : Expr} {pos : Pos} {ta : TE} (o : PropF X.prog X.w X.K X.mg X.base k C x sp) (c : Cls X.K C) (hr : Room j X.A) (hk : k + 1 ≤ j) (he : PE X e ta)
    (hab : attributeBase e x X.env (eval e X.env) = eval e X.env) : PE X (.Attribute e x pos) (tProp C sp [] E0 ta) := by
  obtain ⟨p, g, fd, ps, hp, F, b⟩ := o.ex
  exact pe_prop he c hp F (hr.mono hk) b .nil pass0 hab
theorem pe_mf {m : Str} {pos apos : Pos} {o : Expr} {e : Expr} {es : List Expr} {dvs : List V} {ta : TE} {t : TA} {pl : Sem Bool} (c : MetF X.prog X.w X.K X.mg X.base k C m sp dvs) (cl : Cls X.K C) (hr : Room j X.A) (hk : k ≤ j) (he : PE X o ta) (ha : PA X (e :: es) t)
    (hst : starEach (e :: es) X.env = (false, eval e X.env) :: starEach es X.env := by rfl) (hpl : (backTo pos (starEach es X.env)).any (·.1) = false := by rfl)
    (ht : eval (.Call (.Attribute o m apos) (e :: es) [] pos) X.env = (do
      let ov ← eval o X.env
      standAt apos.atName
      let (f, first) ← holding [ov] (getMethod ov m pl)
      callWith pos f first (backTo pos (starEach (e :: es) X.env)) (backToKw pos (keywordEach [] X.env))) := by rfl) :
    PE X (.Call (.Attribute o m apos) (e :: es) [] pos) (tMeth C m sp dvs E0 ta t) := by
  obtain ⟨f, fd, ps, ds, M, F, b, d⟩ := c.ex
  exact pe_meth (pl := pl) he cl M F (hr.mono hk) b d pass0 ha hst hpl ht
end
/-! ### joining the ways -/
/-- what holds of the value is said once for all ways -/
def tCut (te : TE) : TE := fun σ H Q => ∃ C : VK, te σ H C ∧ ∀ v H', C v H' → Q v H'
theorem pe_cut {X : Cx} {e : Expr} {te : TE} (h : PE X e te) : PE X e (tCut te) := by
  constructor
  rintro pins s σ H Q I ⟨C, h1, h2⟩
  refine wpAny_mono (h.run pins s σ H C I h1) ?_ fun _ _ z => z
  rintro u s' ⟨v, H', J, r, q⟩
  exact ⟨v, H', J, r, h2 v H' q⟩
/-- what holds behind a statement is said once for all ways -/
def tCutS (ts : TS) : TS := fun D σ H => ∃ C : L2.St → Hp → Prop, ts { D with nx := C } σ H ∧ ∀ σ' H', C σ' H' → D.nx σ' H'
theorem ps_cut {X : Cx} {st : Stmt} {ts : TS} (h : PS X st ts) : PS X st (tCutS ts) := by
  constructor
  rintro pins s σ H D I ⟨C, h1, h2⟩
  refine wpAny_mono (h.run pins s σ H { D with nx := C } I h1) ?_ fun _ _ z => z
  intro f s' q
  cases f with
  | next =>
    obtain ⟨σ', H', J, q⟩ := q
    exact ⟨σ', H', J, h2 σ' H' q⟩
  | ret u => exact q
  | brk => exact q
  | cont => exact q

/-! ### isinstance, from what the top says -/
theorem kit_rt {K : PySem.W.Frag} {C : Addr} {T : String} {b : Bool} (hm : PySem.W.kitMeta T = true) (h : PySem.W.subIn K (.ref C) (.type T) = some b) : PySem.W.kitOne K (.ref C) (.type T) = some b := by
  have e : (Value.ref C == Value.type T) = false := beq_eq_false_iff_ne.mpr nofun
  unfold PySem.W.kitOne
  rw [e]
  show (if PySem.W.kitMeta T = true then PySem.W.subIn K (.ref C) (.type T) else none) = some b
  rw [if_pos hm, h]
theorem kit_tr {K : PySem.W.Frag} {C : Addr} {T : String} {b : Bool} (h1 : PySem.W.isClsIn K C = true) (h2 : PySem.W.typeIn K (.ref C) = some (.type "type")) (h : PySem.W.subIn K (.type T) (.ref C) = some b) : PySem.W.kitOne K (.type T) (.ref C) = some b := by
  have e : (Value.type T == Value.ref C) = false := beq_eq_false_iff_ne.mpr nofun
  unfold PySem.W.kitOne
  rw [e]
  show (if ((PySem.W.clsIn K C).isSome && PySem.W.typeIn K (.ref C) == some (.type "type")) = true then PySem.W.subIn K (.type T) (.ref C) else none) = some b
  have h1' : (PySem.W.clsIn K C).isSome = true := h1
  rw [h1', h2, if_pos (by simp), h]
theorem kit_rr {K : PySem.W.Frag} {C : Addr} : PySem.W.kitOne K (.ref C) (.ref C) = some true := by
  unfold PySem.W.kitOne
  rw [if_pos (by simp)]

/-! ### comprehensions, item by item -/
theorem pe_imp {X : Cx} {e : Expr} {t t' : TE} (h : PE X e t) (hi : ∀ σ H Q, t' σ H Q → t σ H Q) : PE X e t' :=
  ⟨fun pins s σ H Q I q => h.run pins s σ H Q I (hi σ H Q q)⟩
theorem ps_imp {X : Cx} {st : Stmt} {t t' : TS} (h : PS X st t) (hi : ∀ D σ H, t' D σ H → t D σ H) : PS X st t' :=
  ⟨fun pins s σ H D I q => h.run pins s σ H D I (hi D σ H q)⟩
/-- [e for x in l], x in slot j: ys are the items of the new list -/
def tMapL (K : PySem.W.Frag) (j : Nat) (tl te : TE) : TE := fun σ H Q => tl σ H fun x H1 => ∃ a xs ys, x = .ref a ∧ SqL K H1 a xs ∧ ys.length = xs.length ∧ xs.length ≤ 100000 ∧
  (∀ (i : Nat) (x y : V) (H' : Hp), xs[i]? = some x → ys[i]? = some y → Same H1 H' → te ((σ.set j none).set j (some x)) H' fun v H'' => v = y ∧ Same H' H'') ∧
  ∀ D H', Same H1 H' → H1 D = none → H' D = some (.lst ys) → Q (.ref D) H'
/-- the same over range(..) -/
def tMapR (j : Nat) (ta : TA) (te : TE) : TE := fun σ H Q => ta σ H fun vs H1 => ∃ (m : Int) (ys : List V), vs = [.int m] ∧ 0 ≤ m ∧ m ≤ 100000 ∧ (ys.length : Int) = m ∧
  (∀ (i : Nat) (y : V) (H' : Hp), ys[i]? = some y → Same H1 H' → te ((σ.set j none).set j (some (.int i))) H' fun v H'' => v = y ∧ Same H' H'') ∧
  ∀ D H', Same H1 H' → H1 D = none → H' D = some (.lst ys) → Q (.ref D) H'
theorem take_one {α : Type} {l : List α} {i : Nat} {x : α} (h : l[i]? = some x) : l.take (i + 1) = l.take i ++ [x] := by
  rw [List.take_succ, h]
  rfl
theorem wipe_one {σ : L2.St} {j : Nat} {x : V} : wipe ((wipe σ [j]).set j (some x)) [j] = wipe σ [j] := by
  show (((σ.set j none).set j (some x)).set j none) = σ.set j none
  rw [List.set_set, List.set_set]
theorem map_core {K : PySem.W.Frag} {te : TE} (mono : ∀ σ H Q Q', (∀ v H', Q v H' → Q' v H') → te σ H Q → te σ H Q') {j : Nat} {σ : L2.St} {H1 : Hp} {Q : VK} {a : Addr} {xs ys : List V} (hl : SqL K H1 a xs) (hn : ys.length = xs.length) (hs : xs.length ≤ 100000)
    (he : ∀ (i : Nat) (x y : V) (H' : Hp), xs[i]? = some x → ys[i]? = some y → Same H1 H' → te ((σ.set j none).set j (some x)) H' fun v H'' => v = y ∧ Same H' H'')
    (k : ∀ D H', Same H1 H' → H1 D = none → H' D = some (.lst ys) → Q (.ref D) H') :
    tLc (fun _ H R => R (Itl K a) H) (gName j) tYes te [j] σ H1 Q := by
  intro D hD
  refine lc_list (K := K) (a := a) (xs := xs) (fun i H' => Same H1 H' ∧ H' D = some (.lst (ys.take i))) ⟨fun c u h => by rw [upd_ne (ne_of_none h hD)]; exact h, upd_same⟩ (fun i H' _ h => h.1.seq hl) ?_ ?_
  · rintro i x H' hi ⟨s, e⟩
    have hi2 : i < xs.length := (List.getElem?_eq_some_iff.mp hi).1
    have hy : ys[i]? = some ys[i] := List.getElem?_eq_getElem (by omega)
    refine ⟨wipe_one, mono _ _ _ _ ?_ (he i x _ H' hi hy s)⟩
    rintro v H2 ⟨rfl, s2⟩
    refine ⟨_, s2 _ _ e, ?_, ?_, ?_⟩
    · rw [List.length_take]
      exact Nat.lt_of_le_of_lt (m := 100000) (by omega) (by decide)
    · intro c o hc
      rw [upd_ne (ne_of_none hc hD)]
      exact s2 _ _ (s _ _ hc)
    · rw [upd_same, take_one hy]
  · rintro H' ⟨s, e⟩
    rw [← hn, List.take_length] at e
    exact k D H' s hD e
theorem tCut_mono {te : TE} : ∀ σ H (Q Q' : VK), (∀ v H', Q v H' → Q' v H') → tCut te σ H Q → tCut te σ H Q' :=
  fun _ _ _ _ hq ⟨C, h1, h2⟩ => ⟨C, h1, fun v H' c => hq v H' (h2 v H' c)⟩
theorem tl_core {K : PySem.W.Frag} {tl te : TE} {j : Nat} {σ : L2.St} {H : Hp} {Q : VK} (q : tMapL K j tl te σ H Q) : tLc (iList K (tCut tl)) (gName j) tYes (tCut te) [j] σ H Q := by
  refine ⟨_, q, ?_⟩
  rintro v H1 ⟨a, xs, ys, rfl, hl, hn, hs, he, k⟩
  exact ⟨a, rfl, ⟨_, hl⟩, map_core tCut_mono hl hn hs (fun i x y H' h1 h2 h3 => ⟨_, he i x y H' h1 h2 h3, fun _ _ c => c⟩) k⟩
theorem pe_map {X : Cx} {K : PySem.W.Frag} {e : Expr} {tl te : TE} {j : Nat} (h : PE X e (tLc (iList K (tCut tl)) (gName j) tYes (tCut te) [j])) : PE X e (tMapL K j tl te) :=
  pe_imp h fun _ _ _ => tl_core
theorem ps_map {X : Cx} {K : PySem.W.Frag} {st : Stmt} {tl te : TE} {j i : Nat} (h : PS X st (tAsg (tLc (iList K (tCut tl)) (gName j) tYes (tCut te) [j]) (gName i))) : PS X st (tAsg (tMapL K j tl te) (gName i)) :=
  ps_imp h fun _ _ _ => tl_core
/-- arguments, cut -/
def tCutA (ta : TA) : TA := fun σ H Q => ∃ C : List V → Hp → Prop, ta σ H C ∧ ∀ vs H', C vs H' → Q vs H'
theorem map_coreR {te : TE} {j : Nat} {σ : L2.St} {H1 : Hp} {Q : VK} {m : Nat} {ys : List V} (hn : ys.length = m) (hs : m ≤ 100000)
    (he : ∀ (i : Nat) (y : V) (H' : Hp), ys[i]? = some y → Same H1 H' → te ((σ.set j none).set j (some (.int i))) H' fun v H'' => v = y ∧ Same H' H'')
    (k : ∀ D H', Same H1 H' → H1 D = none → H' D = some (.lst ys) → Q (.ref D) H') :
    tLc (fun _ H R => R (Itr 0 m) H) (gName j) tYes (tCut te) [j] σ H1 Q := by
  intro D hD
  refine lc_range (lo := 0) (n := m) (fun i H' => Same H1 H' ∧ H' D = some (.lst (ys.take i))) ⟨fun c u h => by rw [upd_ne (ne_of_none h hD)]; exact h, upd_same⟩ ?_ ?_
  · rintro i H' hi ⟨s, e⟩
    have hy : ys[i]? = some ys[i] := List.getElem?_eq_getElem (by omega)
    have e0 : (0 : Int) + (i : Int) = i := Int.zero_add _
    rw [e0]
    refine ⟨wipe_one, _, he i _ H' hy s, ?_⟩
    rintro v H2 ⟨rfl, s2⟩
    refine ⟨_, s2 _ _ e, ?_, ?_, ?_⟩
    · rw [List.length_take]
      exact Nat.lt_of_le_of_lt (m := 100000) (by omega) (by decide)
    · intro c o hc
      rw [upd_ne (ne_of_none hc hD)]
      exact s2 _ _ (s _ _ hc)
    · rw [upd_same, take_one hy]
  · rintro H' ⟨s, e⟩
    rw [← hn, List.take_length] at e
    exact k D H' s hD e
theorem pe_mapR {X : Cx} {e : Expr} {ta : TA} {te : TE} {j : Nat} (mono : ∀ σ H (Q Q' : List V → Hp → Prop), (∀ v H', Q v H' → Q' v H') → ta σ H Q → ta σ H Q')
    (h : PE X e (tLc (iRng1 ta) (gName j) tYes (tCut te) [j])) : PE X e (tMapR j ta te) := by
  refine pe_imp h fun σ H Q q => ?_
  refine mono σ H _ _ ?_ q
  rintro vs H1 ⟨m, ys, rfl, h0, hm, hn, he, k⟩
  exact ⟨m, rfl, by omega, by omega, map_coreR (by omega) (by omega) he k⟩

/-! ### within a comprehension: the written part by its name -/
theorem call_reprK {X : Cx} {K : PySem.W.Frag} (bare : Bare X.A) (hu : X.A.units + 64 < cLine) (hK : X.K = K := by rfl) : CallR X (.builtin "repr") (rRepr K) := hK ▸ call_reprD bare hu
theorem ix_listK {X : Cx} {K : PySem.W.Frag} (hK : X.K = K := by rfl) : IxR X (rIxL K) := hK ▸ ix_list
theorem ix_tupK {X : Cx} {K : PySem.W.Frag} (hK : X.K = K := by rfl) : IxR X (rIxT K) := hK ▸ ix_tup
theorem call_isiK {X : Cx} {K : PySem.W.Frag} (hK : X.K = K := by rfl) : CallR X (.builtin "isinstance") (rIsi K) := hK ▸ call_isi

/-! ### heaps: all that was tracked stays, but for the list at q -/
structure Keep (q : Addr) (H H' : Hp) : Prop where
  all : ∀ b o, H b = some o → b ≠ q → H' b = some o
  hd : ∀ x l, H q = some (.lst (x :: l)) → ∃ l', H' q = some (.lst (x :: l'))
instance {q : Addr} {H H' : Hp} : CoeFun (Keep q H H') (fun _ => ∀ b o, H b = some o → b ≠ q → H' b = some o) := ⟨Keep.all⟩
theorem Keep.refl {q : Addr} {H : Hp} : Keep q H H := ⟨fun _ _ h _ => h, fun x l h => ⟨l, h⟩⟩
theorem Keep.trans {q : Addr} {H H1 H2 : Hp} (a : Keep q H H1) (b : Keep q H1 H2) : Keep q H H2 := ⟨fun c o h n => b.all c o (a.all c o h n) n, fun x l h => by
  obtain ⟨l1, h1⟩ := a.hd x l h
  exact b.hd x l1 h1⟩
theorem Keep.upd {q : Addr} {H H' : Hp} {x : V} {l l' : List V} (a : Keep q H H') (hq : H q = some (.lst (x :: l))) : Keep q H (L2.upd H' q (.lst (x :: l'))) := ⟨fun c u h n => by rw [upd_ne n]; exact a.all c u h n, fun y m h => by
  obtain ⟨rfl, _⟩ := List.cons.inj (HO.lst.inj (Option.some.inj (hq.symm.trans h)))
  exact ⟨l', upd_same⟩⟩
theorem Keep.new {q p : Addr} {H H' : Hp} {o : HO} (a : Keep q H H') (hp : H' p = none) : Keep q H (L2.upd H' p o) := ⟨fun c u h n => by
  have e := a.all c u h n
  rw [upd_ne (ne_of_none e hp)]
  exact e, fun x l h => by
  obtain ⟨l1, h1⟩ := a.hd x l h
  exact ⟨l1, by rw [upd_ne (ne_of_none h1 hp)]; exact h1⟩⟩
theorem Keep.same {q : Addr} {H H1 H2 : Hp} (a : Keep q H H1) (b : Same H1 H2) : Keep q H H2 := ⟨fun c o h n => b c o (a.all c o h n), fun x l h => by
  obtain ⟨l1, h1⟩ := a.hd x l h
  exact ⟨l1, b _ _ h1⟩⟩
theorem Same.keep {q : Addr} {H H' : Hp} (a : Same H H') : Keep q H H' := ⟨fun c o h _ => a c o h, fun x l h => ⟨l, a _ _ h⟩⟩
theorem Same.new {p : Addr} {H H' : Hp} {o : HO} (a : Same H H') (hp : H' p = none) : Same H (L2.upd H' p o) := fun c u h => by
  have e := a c u h
  rw [upd_ne (ne_of_none e hp)]
  exact e
theorem Keep.toSame {q : Addr} {H H' : Hp} (a : Keep q H H') (hq : H q = none) : Same H H' := fun c o h => a.all c o h (ne_of_none h hq)
theorem Keep.free {q p : Addr} {H H' : Hp} (a : Keep q H H') (hne : p ≠ q) (h : H' p = none) : H p = none := by
  cases e : H p with
  | none => rfl
  | some o => exact nomatch h.symm.trans (a.all p o e hne)
theorem pe_mk_ {X : Cx} {k j : Nat} {C : Addr} {sp : Sp} {m : Str} {pos apos : Pos} {o : Expr} {kws : List Keyword} {ks : List Str} {gV : List V → List V → List V} {ta : TE} {tk : TA} {pl : Sem Bool}
    (c : MetK X.prog X.w X.K X.mg X.base k C m sp ks gV) (cl : Cls X.K C) (hr : Room j X.A) (hk : k ≤ j) (he : PE X o ta) (hkw : PK X kws tk)
    (hall : (backToKw pos (keywordEach kws X.env)).all (·.1.isSome) = true := by rfl) (hks : (backToKw pos (keywordEach kws X.env)).filterMap (·.1) = ks := by rfl)
    (hpl : ((backTo pos (starEach [] X.env)).any (·.1) || (backToKw pos (keywordEach kws X.env)).any (·.1.isNone)) = false := by rfl)
    (ht : eval (.Call (.Attribute o m apos) [] kws pos) X.env = (do
      let ov ← eval o X.env
      standAt apos.atName
      let (f, first) ← holding [ov] (getMethod ov m pl)
      callWith pos f first (backTo pos (starEach [] X.env)) (backToKw pos (keywordEach kws X.env))) := by rfl) :
    PE X (.Call (.Attribute o m apos) [] kws pos) (tMethK C m sp gV E0 ta tk) := by
  obtain ⟨f, fd, ps, g, M, F, b⟩ := c.ex
  exact pe_methK0 (pl := pl) he cl M F (hr.mono hk) b pass0 hkw hall hks hpl ht
end MG

/-! str, repr and bool of an own instance -/
namespace MG
open PySem PySem.Spec PyProof.Rows L2

section
variable {prog : Program} {w : World} {A : Around} {E : Value → Shared → Prop} {s : Shared} {K : PySem.W.Frag} {x C f : Addr} {ox : Obj} {od : Option Obj} {m : Str → Option Value} {L : Addr} {h₀ : Heap}
open Builtin in
theorem bool_own {Q : Value → Shared → Prop} (F : Fr h₀ L s.heap m) (X₀ : K.In h₀) (I : PySem.W.InstAt s.heap x ox C od)
    (hs : PySem.W.findIn K (.ref C) "__bool__" = some (some (.ref f))) (hf : PySem.W.isFn K (.ref f) = true)
    (h : wpAny (model prog w) A.in1.in1 (call (.ref f) [.ref x]) (fun v s' => ∃ b, v = .bool b ∧ Q (.bool b) s') E s) :
    wpAny (model prog w) A (call (.type "bool") [.ref x]) Q E s := by
  refine callType_codes (T := "bool") (Bi := Builtin.«object.__init__») (Q₁ := fun r s₁ => ∃ b, r = .bool b ∧ Q r s₁) PySem.F.called_bool (PySem.F.typeCall_bool_1 _) PySem.F.entry_object_init ?_ ?_
  · refine codeAny_of_tree ?_
    show wpAny _ A.in1.in1 (do checkBuiltinCall "bool.__new__" ⟨[.type "bool", .ref x], []⟩; again (.builtin "bool.__new__" ⟨[.type "bool", .ref x], []⟩)) _ _ s
    refine wpAny_bind (wpAny_of_eq (PySem.F.newCall_bool_1 _) (wpAny_pure ⟨plainId_quiet (by decide +kernel) _, codeAny_builtin PySem.F.entry_bool_new ?_⟩))
    rw [Around.under_plainId (by decide +kernel) _]
    have f1 := PySem.F.conv_sub_bool
    have tr : ∀ {R : Bool → Shared → Prop}, (∀ b s', Q (.bool b) s' → R b s') → wpAny (model prog w) A.in1.in1 (truthy (.ref x)) R E s := fun {R} hr =>
      PySem.W.truthy_K F X₀ I hs hf (wpAny_mono h (fun v s' z => match v, z with | _, ⟨b, rfl, q⟩ => hr b s' q) fun _ _ z => z)
    unfold Builtin.«bool.__new__»
    repeat (any_goals (first | assumption | (refine wpAny_bind (m := truthy (.ref x)) (tr fun b s' q => ?_)) | wp_step))
    all_goals first | exact wpAny_pure ⟨_, rfl, q⟩ | exact ⟨_, rfl, q⟩ | skip
  · rintro obj s₁ ⟨b, rfl, hq⟩
    exact ⟨PySem.typeIs_bool _ _, PySem.F.args_object_init_2 _ _, object_init_meets PySem.F.called_bool.init.lookup PySem.F.called_bool.made (by decide) prog w A.in1 _ s₁ ⟨PySem.typeIs_bool _ _, rfl, hq⟩⟩
end

section
variable {X : Cx} {CX : CXT} {k : Nat} {C f a : Addr} {fd : FuncData} {ps : List Str} {sp : Sp} {E : XK} {pins : List (Addr × Obj)} {σ : L2.St} {H : Hp} {s : Shared} {Q : VK}
/-- the callee, below a builtin -/
theorem run_in1 (F : FnOk X.prog X.w X.K X.mg X.base CX k f fd ps sp) (hr : Room (k + 1) X.A) (hb : Binds X.K fd ps []) (hx : Passes CX X E) (I : Inv X pins σ H s) (hsp : sp [.ref a] H Q E) :
    wpAny (model X.prog X.w) X.A.in1 (call (.ref f) [.ref a]) (EP X pins σ Q) X.xe s := by
  have hl := F.len _ _ _ _ hsp
  refine wpAny_call (codeAny_mono (F.run X.A.in1 X.stack s H ⟨[.ref a], []⟩ [.ref a] [.ref a] Q E hr.in1 I.env0.in1 (by
    have := hb s [.ref a] I.kIn (by simpa using hl)
    simpa using this) (.cons rfl .nil) hsp) fun r s' hq => ?_)
  match r, hq with
  | .error e, hq => exact hx pins σ H s e s' I hq
  | .ok (.ret z), hq => exact I.after hq
  | .ok .next, hq => exact False.elim hq
  | .ok .brk, hq => exact False.elim hq
  | .ok .cont, hq => exact False.elim hq
theorem run_in2 (F : FnOk X.prog X.w X.K X.mg X.base CX k f fd ps sp) (hr : Room (k + 2) X.A) (hb : Binds X.K fd ps []) (hx : Passes CX X E) (I : Inv X pins σ H s) (hsp : sp [.ref a] H Q E) :
    wpAny (model X.prog X.w) X.A.in1.in1 (call (.ref f) [.ref a]) (EP X pins σ Q) X.xe s := by
  have hl := F.len _ _ _ _ hsp
  refine wpAny_call (codeAny_mono (F.run X.A.in1.in1 X.stack s H ⟨[.ref a], []⟩ [.ref a] [.ref a] Q E hr.in1.in1 I.env0.in1.in1 (by
    have := hb s [.ref a] I.kIn (by simpa using hl)
    simpa using this) (.cons rfl .nil) hsp) fun r s' hq => ?_)
  match r, hq with
  | .error e, hq => exact hx pins σ H s e s' I hq
  | .ok (.ret z), hq => exact I.after hq
  | .ok .next, hq => exact False.elim hq
  | .ok .brk, hq => exact False.elim hq
  | .ok .cont, hq => exact False.elim hq
/-- str(x), repr(x): the own def's text -/
def rTxtO (C : Addr) (sp : Sp) (E : XK) : List V → Hp → VK → Prop := fun xs H Q => ∃ a dx fs, xs = [.ref a] ∧ H a = some (.ins C dx fs) ∧ sp [.ref a] H (fun v H' => ∃ z, v = .str z ∧ Q v H') E
/-- bool(x) -/
def rBoolO (C : Addr) (sp : Sp) (E : XK) : List V → Hp → VK → Prop := fun xs H Q => ∃ a dx fs, xs = [.ref a] ∧ H a = some (.ins C dx fs) ∧ sp [.ref a] H (fun v H' => ∃ z, v = .bl z ∧ Q v H') E
theorem strBack {u : Value} {s' : Shared} (h : EP X pins σ (fun v H' => ∃ z, v = .str z ∧ Q v H') u s') : PySem.W.StrBack (EP X pins σ Q) u s' := by
  obtain ⟨v, H', I, r, z, rfl, q⟩ := h
  obtain ⟨t, rfl⟩ := r
  exact ⟨.str z, H', I, ⟨t, rfl⟩, q⟩
theorem call_strO (at_ : PySem.W.findIn X.K (.ref C) "__str__" = some (some (.ref f))) (fn : PySem.W.isFn X.K (.ref f) = true)
    (F : FnOk X.prog X.w X.K X.mg X.base CX k f fd ps sp) (hr : Room (k + 2) X.A) (hb : Binds X.K fd ps []) (hx : Passes CX X E) : CallR X (.type "str") (rTxtO C sp E) := by
  intro pins s σ H xs us Q I r h
  obtain ⟨a, dx, fs, rfl, ha, hsp⟩ := h
  obtain ⟨u, rfl, ru⟩ := vals1 r
  cases ru
  obtain ⟨mA, J, _⟩ := ins_get I.hok ha
  obtain ⟨od, J, _⟩ := J.look
  exact PySem.W.kso_call (Nat.lt_trans (by show X.A.units + 1 + 1 < X.A.units + 16 * (k + 2) + 200; omega) hr.un) I.kIn J at_ fn (wpAny_mono (run_in2 F hr hb hx I hsp) (fun _ _ q => strBack q) fun _ _ e => e)
theorem call_reprO (at_ : PySem.W.findIn X.K (.ref C) "__repr__" = some (some (.ref f))) (fn : PySem.W.isFn X.K (.ref f) = true)
    (F : FnOk X.prog X.w X.K X.mg X.base CX k f fd ps sp) (hr : Room (k + 1) X.A) (hb : Binds X.K fd ps []) (hx : Passes CX X E) : CallR X (.builtin "repr") (rTxtO C sp E) := by
  intro pins s σ H xs us Q I r h
  obtain ⟨a, dx, fs, rfl, ha, hsp⟩ := h
  obtain ⟨u, rfl, ru⟩ := vals1 r
  cases ru
  obtain ⟨mA, J, _⟩ := ins_get I.hok ha
  obtain ⟨od, J, _⟩ := J.look
  obtain ⟨m, hF⟩ := I.fr
  exact PySem.W.repr_K (Nat.lt_trans (by show X.A.units + 1 < X.A.units + 16 * (k + 1) + 200; omega) hr.un) hF I.ok.mod.kin J at_ fn (wpAny_mono (run_in1 F hr hb hx I hsp) (fun _ _ q => strBack q) fun _ _ e => e)
theorem call_boolO (at_ : PySem.W.findIn X.K (.ref C) "__bool__" = some (some (.ref f))) (fn : PySem.W.isFn X.K (.ref f) = true)
    (F : FnOk X.prog X.w X.K X.mg X.base CX k f fd ps sp) (hr : Room (k + 2) X.A) (hb : Binds X.K fd ps []) (hx : Passes CX X E) : CallR X (.type "bool") (rBoolO C sp E) := by
  intro pins s σ H xs us Q I r h
  obtain ⟨a, dx, fs, rfl, ha, hsp⟩ := h
  obtain ⟨u, rfl, ru⟩ := vals1 r
  cases ru
  obtain ⟨mA, J, _⟩ := ins_get I.hok ha
  obtain ⟨od, J, _⟩ := J.look
  obtain ⟨m, hF⟩ := I.fr
  refine bool_own hF I.ok.mod.kin J at_ fn (wpAny_mono (run_in2 F hr hb hx I hsp) ?_ fun _ _ e => e)
  rintro u s' ⟨v, H', I', r, z, rfl, q⟩
  cases r
  exact ⟨z, rfl, .bl z, H', I', rfl, q⟩
end
section
variable (P : Program) (w : World) (K : PySem.W.Frag) (mg : Str → Option Value) (base : Heap) (k : Nat) (C : Addr)
/-- a double-underscore method of one parameter -/
structure DunF (nm : Str) (sp : Sp) : Prop where
  ex : ∃ (f : Addr) (fd : FuncData) (ps : List Str), PySem.W.findIn K (.ref C) nm = some (some (.ref f)) ∧ PySem.W.isFn K (.ref f) = true ∧ FnOk P w K mg base CX0 k f fd ps sp ∧ Binds K fd ps []
end
section
variable {X : Cx} {k j : Nat} {C : Addr} {sp : Sp}
theorem str_f (o : DunF X.prog X.w X.K X.mg X.base k C "__str__" sp) (hr : Room j X.A) (hk : k + 2 ≤ j) : CallR X (.type "str") (rTxtO C sp E0) := by
  obtain ⟨f, fd, ps, a, i, F, b⟩ := o.ex
  exact call_strO a i F (hr.mono hk) b pass0
theorem repr_f (o : DunF X.prog X.w X.K X.mg X.base k C "__repr__" sp) (hr : Room j X.A) (hk : k + 1 ≤ j) : CallR X (.builtin "repr") (rTxtO C sp E0) := by
  obtain ⟨f, fd, ps, a, i, F, b⟩ := o.ex
  exact call_reprO a i F (hr.mono hk) b pass0
theorem bool_f (o : DunF X.prog X.w X.K X.mg X.base k C "__bool__" sp) (hr : Room j X.A) (hk : k + 2 ≤ j) : CallR X (.type "bool") (rBoolO C sp E0) := by
  obtain ⟨f, fd, ps, a, i, F, b⟩ := o.ex
  exact call_boolO a i F (hr.mono hk) b pass0
end

section
variable {prog : Program} {w : World} {A : Around} {E : Value → Shared → Prop} {s : Shared} {K : PySem.W.Frag} {x C L f : Addr} {h₀ : Heap} {m : Str → Option Value} {ox : Obj} {od : Option Obj} {b tb : Value}
theorem objNe_any (X : K.In s.heap) (I : PySem.W.InstAt s.heap x ox C od) (hs : PySem.W.findIn K (.ref C) "__eq__" = some (some (.ref f))) (hf : PySem.W.isFn K (.ref f) = true)
    (hu : A.units < cLine) {Q : Fin → Shared → Prop}
    (hcall : wpAny (model prog w) A (call (.ref f) [.ref x, b]) (fun v s' => ∃ c, v = .bool c ∧ Q (.done (.ret (.bool (!c)))) s') E s) :
    wpAny (model prog w) A (Builtin.«object.__ne__» ⟨[.ref x, b], []⟩) Q E s := by
  unfold Builtin.«object.__ne__»
  repeat (first
    | with_reducible refine wpAny_cRoomFor hu ?_
    | (refine wpAny_bind (m := callSpecialIfBound? (.ref x) (Str.ofString "__eq__") [b])
        (PySem.W.ifBound_K X I hs hf (wpAny_mono hcall (fun r s' hr => ?_) fun _ _ e => e)))
    | wp_step)
  obtain ⟨c, rfl, hq⟩ := hr
  repeat (first | exact hq | exact wpAny_pure hq | exact wpAny_truthy_bool hq | (refine wpAny_bind (m := truthy (.bool _)) (wpAny_truthy_bool ?_)) | wp_step)
theorem ne_any (X : K.In s.heap) (I : PySem.W.InstAt s.heap x ox C od) (hb : PySem.W.Looks (model prog w) s.heap (typeOf b) tb) (hn : PySem.W.notFirst K C tb = true)
    (n : NeAt K C f) (ha : ∀ y, argsOk "object.__ne__" ⟨[y, b], []⟩) (hu : A.units + 1 < cLine) {Q : Value → Shared → Prop}
    (hcall : wpAny (model prog w) A.in1 (call (.ref f) [.ref x, b]) (fun v s' => ∃ c, v = .bool c ∧ Q (.bool (!c)) s') E s) :
    wpAny (model prog w) A (richCompare .NotEq (.ref x) b) Q E s := by
  have sub : PySem.W.Looks (model prog w) s.heap (isInstance (.ref x) (.type "object")) true := I.type.andThen (PySem.W.looks_subIn X n.sub)
  have one : wpAny (model prog w) A (tryCompare (.ref x) "__ne__" b) (fun r s' => ∃ v, r = some v ∧ Q v s') E s := by
    simp only [tryCompare]
    refine wpAny_bind (ifBound_ne X I n.ne (wpAny_call (codeAny_call_builtin PySem.F.cmp_object.ne.plain PySem.F.cmpEntry_ne
      (PySem.W.check_slot PySem.F.cmpKind_ne PySem.F.cmpSplit_ne sub (ha _) ?_))))
    refine objNe_any (A := A.in1) X I n.eq n.fn hu (wpAny_mono hcall (fun v s' hv => ?_) fun _ _ e => e)
    obtain ⟨c, rfl, hq⟩ := hv
    first | exact ⟨c, rfl, wpAny_pure ⟨_, rfl, hq⟩⟩ | exact ⟨c, rfl, wpAny_pure (wpAny_pure ⟨_, rfl, hq⟩)⟩ | exact ⟨c, rfl, _, rfl, hq⟩
  unfold richCompare
  simp only [oneThing_ref]
  refine wpAny_holding (wpAny_bind (wpAny_cRoomFor (Nat.lt_of_succ_lt hu) ?_))
  refine wpAny_bind (I.type.here (wpAny_bind (hb.here ?_)))
  split
  · rename_i q
    have e : PySem.W.subIn K tb (.ref C) = some false := by
      rcases Bool.or_eq_true_iff.mp hn with z | z
      · rw [beq_iff_eq.mp z] at q
        simp at q
      · exact beq_iff_eq.mp z
    refine wpAny_bind ((PySem.W.looks_subIn X e).here ?_)
    simp only [Bool.false_eq_true, if_false]
    refine wpAny_bind (wpAny_mono one (fun v s' hv => ?_) fun _ _ e => e)
    obtain ⟨c, rfl, hq⟩ := hv
    exact wpAny_pure hq
  · refine wpAny_bind (wpAny_pure ?_)
    simp only [Bool.false_eq_true, if_false]
    refine wpAny_bind (wpAny_mono one (fun v s' hv => ?_) fun _ _ e => e)
    obtain ⟨c, rfl, hq⟩ := hv
    exact wpAny_pure hq
end
section
variable {X : Cx}
/-- x == y, x of the class at C with its own ==, y anything -/
def rEqA (K : PySem.W.Frag) (C : Addr) (sp : Sp) (E : XK) : R2 := fun x y H Q => ∃ a dx fs t, x = .ref a ∧ H a = some (.ins C dx fs) ∧ TyX K H y t ∧ PySem.W.notFirst K C t = true ∧ sp [x, y] H Q E
def rNeA (K : PySem.W.Frag) (C : Addr) (sp : Sp) (E : XK) : R2 := fun x y H Q => ∃ a dx fs t, x = .ref a ∧ H a = some (.ins C dx fs) ∧ TyX K H y t ∧ PySem.W.notFirst K C t = true ∧ sp [x, y] H (fun v H' => ∃ c, v = .bl c ∧ Q (.bl (!c)) H') E
theorem op_eqA {CX : CXT} {k : Nat} {C f : Addr} {fd : FuncData} {ps : List Str} {sp : Sp} {E : XK} (n : NeAt X.K C f)
    (F : FnOk X.prog X.w X.K X.mg X.base CX k f fd ps sp) (hr : Room k X.A) (hb : Binds X.K fd ps []) (hx : Passes CX X E) : OpR X (compareOp .Eq) (rEqA X.K C sp E) := by
  intro pins s σ H x y v u Q I rx ry h
  obtain ⟨a, dx, fs, t, rfl, ha, ty, hn, hsp⟩ := h
  cases rx
  obtain ⟨mA, J, _⟩ := ins_get I.hok ha
  obtain ⟨od, J, _⟩ := J.look
  obtain ⟨Z, kz, hz, _⟩ := kit_of I ry ty
  obtain ⟨m, hF⟩ := I.fr
  refine PySem.W.cmp_K (op := .Eq) hr.units0 hF I.ok.mod.kin J (kz.ty _ _ I.kIn hz) hn n.eq n.fn ?_
  exact wpAny_mono (run_fn (vs := [.ref a, y]) F hr hb .nil hx I (.cons rfl (.cons ry .nil)) (by rw [List.append_nil]; exact hsp))
    (fun _ _ hq => match hq with | ⟨_, _, _, r, _⟩ => back_of r hq) fun _ _ e => e
theorem op_neA {CX : CXT} {k : Nat} {C f : Addr} {fd : FuncData} {ps : List Str} {sp : Sp} {E : XK} (n : NeAt X.K C f)
    (F : FnOk X.prog X.w X.K X.mg X.base CX k f fd ps sp) (hr : Room (k + 1) X.A) (hb : Binds X.K fd ps []) (hx : Passes CX X E) : OpR X (compareOp .NotEq) (rNeA X.K C sp E) := by
  intro pins s σ H x y v u Q I rx ry h
  obtain ⟨a, dx, fs, t, rfl, ha, ty, hn, hsp⟩ := h
  cases rx
  obtain ⟨mA, J, _⟩ := ins_get I.hok ha
  obtain ⟨od, J, _⟩ := J.look
  obtain ⟨Z, kz, hz, _⟩ := kit_of I ry ty
  refine ne_any I.kIn J (kz.ty _ _ I.kIn hz) hn n (fun z => PySem.F.cmpArgs_ne z u) (Nat.lt_trans (by omega) hr.un) ?_
  have hl := F.len _ _ _ _ hsp
  refine wpAny_call (codeAny_mono (F.run X.A.in1 X.stack s H ⟨[.ref a, u], []⟩ [.ref a, u] [.ref a, y] _ E hr.in1 I.env0.in1 (by
    have := hb s [.ref a, u] I.kIn (by simpa using hl)
    simpa using this) (.cons rfl (.cons ry .nil)) hsp) fun r s' hq => ?_)
  match r, hq with
  | .error e, hq => exact hx pins σ H s e s' I hq
  | .ok (.ret z), hq =>
    obtain ⟨v, H', I', rv, c, rfl, q⟩ := I.after hq
    cases rv
    exact ⟨c, rfl, .bl (!c), H', I', rfl, q⟩
  | .ok .next, hq => exact False.elim hq
  | .ok .brk, hq => exact False.elim hq
  | .ok .cont, hq => exact False.elim hq
variable {k j : Nat} {C : Addr} {sp : Sp} {K : PySem.W.Frag}
theorem eq_a (o : EqF X.prog X.w X.K X.mg X.base k C sp) (hr : Room j X.A) (hk : k ≤ j) (hK : X.K = K := by rfl) : OpR X (compareOp .Eq) (rEqA K C sp E0) := by
  obtain ⟨f, fd, ps, n, F, b⟩ := o.ex
  exact hK ▸ op_eqA n F (hr.mono hk) b pass0
theorem ne_a (o : EqF X.prog X.w X.K X.mg X.base k C sp) (hr : Room j X.A) (hk : k + 1 ≤ j) (hK : X.K = K := by rfl) : OpR X (compareOp .NotEq) (rNeA K C sp E0) := by
  obtain ⟨f, fd, ps, n, F, b⟩ := o.ex
  exact hK ▸ op_neA n F (hr.mono hk) b pass0
end
end MG

/-! repr of lists and tuples that hold own instances -/
namespace MG
open PySem PySem.Spec PyProof.Rows L2
open Builtin.List Builtin.Tuple

/-- a builtin that shows a container: little room -/
structure Lit (A : Around) (c : Code) : Prop where
  frames : (A.under c).frames = A.frames
  handled : (A.under c).handled = A.handled
  depth : (A.under c).depth ≤ A.depth + 1
  units : (A.under c).units = A.units + 1
  guard : c.isGuard = true
/-- near the frame of X: its frames, its handled exception, room -/
structure Near (X : Cx) (k : Nat) (A : Around) : Prop where
  fr : A.frames = X.A.frames
  hn : A.handled = X.A.handled
  room : L2H.RoomH k A
theorem Near.mono {X : Cx} {j k : Nat} {A : Around} (n : Near X k A) (h : j ≤ k) : Near X j A := ⟨n.fr, n.hn, n.room.mono h⟩
theorem Near.line {X : Cx} {k : Nat} {A : Around} (n : Near X k A) : A.units < cLine := by have := n.room.un; omega
theorem Near.in1 {X : Cx} {k : Nat} {A : Around} (n : Near X (k + 1) A) : Near X k A.in1 :=
  ⟨n.fr, n.hn, by have := n.room.dp; show A.depth + 3 * k + 5 < _; omega, by have := n.room.un; show A.units + 1 + 16 * k + 200 < _; omega⟩
theorem Near.self {X : Cx} {k : Nat} (r : L2H.RoomH k X.A) : Near X k X.A := ⟨rfl, rfl, r⟩
theorem Lit.near {X : Cx} {k : Nat} {A : Around} {c : Code} (l : Lit A c) (n : Near X (k + 1) A) : Near X k (A.under c) :=
  ⟨l.frames.trans n.fr, l.handled.trans n.hn, by have := n.room.dp; have := l.depth; omega, by have := n.room.un; rw [l.units]; omega⟩
theorem lit_list (A : Around) (args : Args) : Lit A (.builtin "list.__repr__.loop" args) where
  frames := by first | rfl | simp [Around.under, Code.envs, Code.isFrame, pushEnvs]
  handled := by first | rfl | simp [Around.under]
  depth := by first | exact Nat.le_refl _ | simp [Around.under, Code.weight, Code.isCreation, Code.isGuard, Code.isCaller, Code.frames, Code.isFrame, guardIds]
  units := by first | rfl | simp [Around.under, Code.cUnits, Code.frames, Code.isFrame]
  guard := by
    show guardIds.contains "list.__repr__.loop" = true
    decide +kernel
theorem lit_tuple (A : Around) (args : Args) : Lit A (.builtin "tuple.__repr__" args) where
  frames := by first | rfl | simp [Around.under, Code.envs, Code.isFrame, pushEnvs]
  handled := by first | rfl | simp [Around.under]
  depth := by first | exact Nat.le_refl _ | simp [Around.under, Code.weight, Code.isCreation, Code.isGuard, Code.isCaller, Code.frames, Code.isFrame, guardIds]
  units := by first | rfl | simp [Around.under, Code.cUnits, Code.frames, Code.isFrame]
  guard := by
    show guardIds.contains "tuple.__repr__" = true
    decide +kernel
theorem lit_tupleU (A : Around) (args : Args) : Lit A (.builtin "tuple.__repr__.under" args) where
  frames := by first | rfl | simp [Around.under, Code.envs, Code.isFrame, pushEnvs]
  handled := by first | rfl | simp [Around.under]
  depth := by first | exact Nat.le_refl _ | simp [Around.under, Code.weight, Code.isCreation, Code.isGuard, Code.isCaller, Code.frames, Code.isFrame, guardIds]
  units := by first | rfl | simp [Around.under, Code.cUnits, Code.frames, Code.isFrame]
  guard := by
    show guardIds.contains "tuple.__repr__.under" = true
    decide +kernel
theorem lit_dict (A : Around) (args : Args) : Lit A (.builtin "dict.__repr__" args) where
  frames := by first | rfl | simp [Around.under, Code.envs, Code.isFrame, pushEnvs]
  handled := by first | rfl | simp [Around.under]
  depth := by first | exact Nat.le_refl _ | simp [Around.under, Code.weight, Code.isCreation, Code.isGuard, Code.isCaller, Code.frames, Code.isFrame, guardIds]
  units := by first | rfl | simp [Around.under, Code.cUnits, Code.frames, Code.isFrame]
  guard := by
    show guardIds.contains "dict.__repr__" = true
    decide +kernel
theorem lit_dictU (A : Around) (args : Args) : Lit A (.builtin "dict.__repr__.under" args) where
  frames := by first | rfl | simp [Around.under, Code.envs, Code.isFrame, pushEnvs]
  handled := by first | rfl | simp [Around.under]
  depth := by first | exact Nat.le_refl _ | simp [Around.under, Code.weight, Code.isCreation, Code.isGuard, Code.isCaller, Code.frames, Code.isFrame, guardIds]
  units := by first | rfl | simp [Around.under, Code.cUnits, Code.frames, Code.isFrame]
  guard := by
    show guardIds.contains "dict.__repr__.under" = true
    decide +kernel
theorem same_tup {K : PySem.W.Frag} {H H' : Hp} {a : Addr} {xs : List V} (e : Same H H') (h : SqT K H a xs) : SqT K H' a xs := by
  rcases h with (h | ⟨o, h⟩) | h
  · exact .inl (.inl (e _ _ h))
  · exact .inl (.inr ⟨o, e _ _ h⟩)
  · exact .inr h
section
variable {X : Cx}
/-- what is shown of x is t, wherever the things of H stand; as: the containers within -/
def Rp (X : Cx) (σ : L2.St) (H : Hp) (as : List Addr) (k : Nat) (x : V) (t : Str) : Prop :=
  ∀ (u : Value), RelV x u → ∀ (b : Nat), b + t.length ≤ sizeLine → ∀ (A : Around) (g : List Code), Near X k A → A.guards = some g → (∀ a ∈ as, Clear g a) →
    ∀ (pins : List (Addr × Obj)) (s : Shared) (H1 : Hp), Inv X pins σ H1 s → Same H H1 → ∀ (Q : Str → Shared → Prop) (E : Value → Shared → Prop),
      (∀ s' H2, Inv X pins σ H2 s' → Same H1 H2 → Q t s') → wpAny (model X.prog X.w) A (pyReprUnder b u) Q E s
variable {σ : L2.St} {H H' : Hp} {as as' : List Addr} {k k' : Nat} {x : V} {t : Str}
theorem Rp.same (h : Rp X σ H as k x t) (s : Same H H') : Rp X σ H' as k x t := fun u ru b hb A g n hg hc pins s1 H1 I s2 Q E q => h u ru b hb A g n hg hc pins s1 H1 I (s.trans s2) Q E q
theorem Rp.more (h : Rp X σ H as k x t) (m : ∀ a ∈ as, a ∈ as') : Rp X σ H as' k x t := fun u ru b hb A g n hg hc => h u ru b hb A g n hg fun a ha => hc a (m a ha)
theorem Rp.mono (h : Rp X σ H as k x t) (hk : k ≤ k') : Rp X σ H as k' x t := fun u ru b hb A g n hg hc => h u ru b hb A g (n.mono hk) hg hc
theorem Rp.is (h : ∀ u, RelV x u → ReprIs X.prog X.w u t) : Rp X σ H as k x t := fun u ru b hb A g n hg hc pins s H1 I s2 Q E q => h u ru b hb A E s Q fun tk => q _ _ (I.tok tk) (Same.refl H1)
theorem Rp.int {i : Int} (hi : i.natAbs.log2 < 1920) : Rp X σ H as k (.int i) (toString i) := Rp.is fun u ru => by
  obtain ⟨tk, rfl⟩ := ru
  exact .int tk hi
theorem Rp.bl {b : Bool} : Rp X σ H as k (.bl b) (if b then "True" else "False") := Rp.is fun u ru => by
  cases ru
  exact .bool b
theorem Rp.non : Rp X σ H as k .non "None" := Rp.is fun u ru => by
  cases ru
  exact .none
theorem Rp.str {z : Str} (hz : (reprText z).length ≤ sizeLine) : Rp X σ H as k (.str z) (reprText z) := Rp.is fun u ru => by
  obtain ⟨tk, rfl⟩ := ru
  exact .str z tk hz

/-! an own instance -/
section
variable {M : Model} {A : Around} {E : Value → Shared → Prop} {s : Shared} {K : PySem.W.Frag} {y C f : Addr} {ox : Obj} {od : Option Obj}
theorem underBy_own {nm : Str} {fin : Value → List Value → Sem Value} {Q : Option Value → Shared → Prop} (X0 : K.In s.heap) (I : PySem.W.InstAt s.heap y ox C od) (hs : PySem.W.findIn K (.ref C) nm = some (some (.ref f))) (hf : PySem.W.isFn K (.ref f) = true)
    (h : wpAny M A (fin (.ref f) [.ref y]) (fun v => Q (some v)) E s) : wpAny M A (callSpecialIfBoundBy? fin (.ref y) nm) Q E s := by
  have last : wpAny M A (fin (.ref f) [.ref y] >>= fun v => pure (some v)) Q E s := wpAny_bind (wpAny_mono h (fun _ _ q => wpAny_pure q) fun _ _ q => q)
  have bound := (PySem.W.bind_fn (M := M) X0 (.ref y) (beq_iff_eq.mp hf))
  unfold callSpecialIfBoundBy? bindSpecialIfBound?
  refine wpAny_holding (wpAny_bind (wpAny_bind (wpAny_bind (I.type.here ((PySem.W.looks_findIn X0 hs).here (wpAny_bind (wpAny_askSetting (wpAny_ite ?_))))))))
  split
  · exact wpAny_bind (bound.here (wpAny_pure last))
  · exact wpAny_tryCatch (wpAny_bind (bound.here (wpAny_pure last)))
theorem under_own {b : Nat} {Q : Value → Shared → Prop} (hu : A.units < cLine) (X0 : K.In s.heap) (I : PySem.W.InstAt s.heap y ox C od) (hs : PySem.W.findIn K (.ref C) "__repr__" = some (some (.ref f))) (hf : PySem.W.isFn K (.ref f) = true)
    (h : wpAny M A (call (.ref f) [.ref y]) (fun v s' => (∃ z u, v = .str z u) ∧ Q v s') E s) : wpAny M A (pyReprObjUnder b (.ref y)) Q E s := by
  show wpAny M A (pyReprObjBy _ (.ref y)) Q E s
  unfold pyReprObjBy
  refine wpAny_bind (wpAny_cRoomFor hu (wpAny_bind (wpAny_bind (I.type.here ((PySem.W.looks_findIn X0 hs).here ?_)))))
  rw [show (some (Value.ref f)).isNone = false from rfl]
  simp only [Bool.false_eq_true, if_neg, not_false_eq_true]
  refine wpAny_bind (underBy_own X0 I hs hf (wpAny_mono (show wpAny M A (call (.ref f) ([.ref y] ++ [])) _ E s from h) (fun v s' hv => ?_) fun _ _ z => z))
  obtain ⟨⟨z, u, rfl⟩, hq⟩ := hv
  exact wpAny_bind (wpAny_isInstance (b := true) (typeIs_str _ _ _) isSubtype_str_str (wpAny_pure hq))
end
/-- how the own instances of X are shown: the def's text, wherever it is called near X -/
structure OwnX (X : Cx) (own : Hp → Addr → Str → Prop) (kO : Nat) : Prop where
  run : ∀ (H : Hp) (a : Addr) (t : Str), own H a t → ∃ (C f dx : Addr) (fs : List (Str × V)), H a = some (.ins C dx fs) ∧ PySem.W.findIn X.K (.ref C) "__repr__" = some (some (.ref f)) ∧ PySem.W.isFn X.K (.ref f) = true ∧
    ∀ (A : Around) (pins : List (Addr × Obj)) (σ : L2.St) (s : Shared) (H1 : Hp), Near X kO A → Inv X pins σ H1 s → Same H H1 → ∀ (Q : Value → Shared → Prop) (E : Value → Shared → Prop),
      (∀ s' H2 tk, Inv X pins σ H2 s' → Same H1 H2 → Q (.str t tk) s') → wpAny (model X.prog X.w) A (call (.ref f) [.ref a]) Q E s
theorem Rp.own {own : Hp → Addr → Str → Prop} {a : Addr} (o : OwnX X own k) (ho : own H a t) : Rp X σ H as k (.ref a) t := by
  intro u ru b hb A g n hg hc pins s H1 I s1 Q E q
  obtain rfl : u = Value.ref a := ru
  obtain ⟨C, f, dx, fs, hi, at_, fn, run⟩ := o.run H a t ho
  obtain ⟨mA, J, _⟩ := ins_get I.hok (s1 _ _ hi)
  obtain ⟨od, J, _⟩ := J.look
  exact wpAny_pyReprUnder_ref (by omega) (under_own n.line I.kIn J at_ fn (run A pins σ s H1 n I s1 _ E fun s' H2 tk I2 s2 => ⟨⟨_, _, rfl⟩, _, _, rfl, q s' H2 I2 s2⟩))

/-! lists -/
theorem vals_get {xs : List V} {its : List Value} (r : Vals xs its) : ∀ (i : Nat) (x : V), xs[i]? = some x → ∃ u, its[i]? = some u ∧ RelV x u := by
  induction r with
  | nil => intro i x h; simp at h
  | cons h t ih =>
    intro i x hx
    cases i with
    | zero => simp at hx; subst hx; exact ⟨_, by simp, h⟩
    | succ i => exact ih i x (by simpa using hx)
/-- each item is shown -/
def RpAll (X : Cx) (σ : L2.St) (H : Hp) (as : List Addr) (k : Nat) (xs : List V) (ts : List Str) : Prop :=
  ts.length = xs.length ∧ ∀ (i : Nat) (x : V), xs[i]? = some x → ∃ t, ts[i]? = some t ∧ Rp X σ H as k x t
theorem pinOf {pins : List (Addr × Obj)} {s : Shared} {H1 : Hp} {P : Addr} {o : Obj} (I : Inv X pins σ H1 s) (f : FpOk X pins H1 P) (e : s.heap.get? P = some o) (d : ∀ v, o.data ≠ .cell v) : Inv X (pins ++ [(P, o)]) σ H1 s := by
  have := I.pinned (fp := [P]) (fun b hb => by rw [List.mem_singleton.mp hb]; exact f) (fun b hb => by rw [List.mem_singleton.mp hb]; exact ⟨o, e, d⟩)
  have e2 : pinsAt [P] s.heap = [(P, o)] := by simp [pinsAt, e]
  rw [e2] at this
  exact this
theorem pinBack {pins : List (Addr × Obj)} {s : Shared} {H1 H2 : Hp} {P : Addr} {o : Obj} (I : Inv X (pins ++ [(P, o)]) σ H2 s) (f : FpOk X pins H1 P) : Inv X pins σ H2 s ∧ FpOk X pins H2 P ∧ s.heap.get? P = some o := by
  obtain ⟨e, n, _⟩ := I.pin (P, o) (by simp)
  exact ⟨I.unpinned, ⟨n, f.2.1, f.2.2.1, f.2.2.2.1, f.2.2.2.2.1, f.2.2.2.2.2⟩, e⟩
theorem fpTurn {pins : List (Addr × Obj)} {s : Shared} {H1 : Hp} {P : Addr} {h' : Heap} {t' : Nat} (I : Inv X pins σ H1 s) (f : FpOk X pins H1 P) (k : ∀ b o, b ≠ P → s.heap.get? b = some o → h'.get? b = some o) : Inv X pins σ H1 { s with heap := h', toks := t' } :=
  I.turned k f.1 f.2.1 f.2.2.2.1 f.2.2.2.2.1 f.2.2.2.2.2
/-- what a list's text says of its parts -/
structure Fit (b : Nat) (ts : List Str) : Prop where
  all : (listText ts).length ≤ sizeLine
  each : ∀ t ∈ ts, t.length ≤ sizeLine
  many : ts.length ≤ sizeLine
  far : b + piled ts ≤ sizeLine
theorem Fit.of {b : Nat} {ts : List Str} (h : b + (listText ts).length ≤ sizeLine) : Fit b ts := by
  have far := piled_le_listText ts
  obtain ⟨w1, w2, _⟩ := textFrom_len ts 0 (Str.ofString "[")
  rw [if_neg (by omega)] at w1
  have grow : (listText ts).length = (textFrom 0 (Str.ofString "[") ts).length + 1 := (strLen_append _ _).trans rfl
  exact ⟨by omega, fun t m => by have := w2 t m; omega, by omega, by omega⟩
theorem piled_snoc (dn : List Str) (t : Str) : piled (dn ++ [t]) = piled dn + (t.length + 2) := by rw [piled_append, piled_cons, piled_nil]
theorem rp_list_loop {a P : Addr} {xs : List V} {ts : List Str} {A : Around} {g : List Code} {b : Nat} {pins : List (Addr × Obj)} {R : Result → Shared → Prop}
    (hl : SqL X.K H a xs) (n : Near X (k + 1) A) (hg : A.guards = some g) (free : ∀ c ∈ as, Clear g c) (out : a ∉ as) (T : RpAll X σ H as k xs ts) (fit : Fit b ts) :
    ∀ (rest dn : List Str) (l : List (Str × Tok)) (s : Shared) (H1 : Hp) (parts : Array Value) (c : Nat), ts = dn ++ rest → l.map (·.1) = dn → parts.toList = strValues l → Inv X pins σ H1 s → Same H H1 → FpOk X pins H1 P →
    s.heap.get? P = some { cls := .type "list", dict := none, data := .seq parts c, slots := #[] } →
    (∀ s' H2 u, Inv X pins σ H2 s' → Same H1 H2 → R (.ok (.ret (.str (listText ts) u))) s') →
    codeAny (model X.prog X.w) A (.builtin "list.__repr__.loop" ⟨[.ref a, rawInt dn.length, .ref P, rawInt ((b + piled dn : Nat) : Int)], []⟩) R s := by
  intro rest
  induction rest with
  | nil =>
    intro dn l s H1 parts c split told lay I same hP0 hP done
    rw [List.append_nil] at split
    obtain ⟨its, rv, ⟨o, m, get, _, _, dat⟩, _⟩ := I.list (same.seq hl)
    have off : its.toArray[((dn.length : Nat) : Int).toNat]? = none := by
      have h1 := rv.length
      have h2 := T.1
      rw [split] at h2
      simp only [Int.toNat_natCast, List.getElem?_toArray]
      exact List.getElem?_eq_none (by omega)
    refine codeAny_builtin F.entry_list_repr_loop (show wpAny _ _ (Builtin.«list.__repr__.loop» ⟨[.ref a, .int dn.length 0, .ref P, .int ((b + piled dn : Nat) : Int) 0], []⟩) _ _ s from ?_)
    rw [repr_loop_tree]
    refine wpAny_bind (wpAny_listItems get dat ?_)
    rw [off]
    show wpAny _ _ (reprEnd (.ref P)) _ _ s
    refine wpAny_bind (wpAny_listItems hP rfl ?_)
    rw [lay, repr_fold, told, ← split]
    exact wpAny_bind (wpAny_pure (wpAny_bind (wpAny_mkStr (wpAny_pure (done _ H1 _ (I.tok _) (Same.refl H1))) fit.all)))
  | cons t rest ih =>
    intro dn l s H1 parts c split told lay I same hP0 hP done
    obtain ⟨its, rv, ⟨o, m, get, _, _, dat⟩, _⟩ := I.list (same.seq hl)
    have inn : dn.length < xs.length := by
      have h2 := T.1
      rw [split, List.length_append, List.length_cons] at h2
      omega
    have item : xs[dn.length]? = some xs[dn.length] := List.getElem?_eq_getElem inn
    obtain ⟨t', ht, shows⟩ := T.2 _ _ item
    obtain rfl : t = t' := by
      rw [split, List.getElem?_append_right (Nat.le_refl _), Nat.sub_self] at ht
      exact Option.some.inj ht
    obtain ⟨u, hu, ru⟩ := vals_get rv _ _ item
    have fast : its.toArray[((dn.length : Nat) : Int).toNat]? = some u := by simpa using hu
    have far := fit.far
    have near : piled ts = piled dn + (t.length + 2) + piled rest := by rw [split, piled_append, piled_cons]; omega
    have lit := lit_list A ⟨[.ref a, .int dn.length 0, .ref P, .int ((b + piled dn : Nat) : Int) 0], []⟩
    refine codeAny_builtin F.entry_list_repr_loop (show wpAny _ _ (Builtin.«list.__repr__.loop» ⟨[.ref a, .int dn.length 0, .ref P, .int ((b + piled dn : Nat) : Int) 0], []⟩) _ _ s from ?_)
    rw [repr_loop_tree]
    refine wpAny_bind (wpAny_listItems get dat ?_)
    rw [fast]
    dsimp only
    rw [Int.toNat_natCast]
    refine wpAny_bind (wpAny_holding (shows u ru (b + piled dn + 1) (by omega) _ _ (lit.near n) (guards_under_guard lit.guard hg) (fun c hc => (free c hc).cons fun e => out (e ▸ hc)) _ s H1 (pinOf I hP0 hP (fun _ z => nomatch z)) same _ _ fun s2 H2 I2 same2 => ?_))
    obtain ⟨I2, hP2, there⟩ := pinBack I2 hP0
    have lp : parts.size ≤ sizeLine := by
      have z : parts.toList.length = l.length := by rw [lay]; exact List.length_map ..
      have z2 : l.length = dn.length := by rw [← told, List.length_map]
      have z3 := fit.many
      rw [split, List.length_append] at z3
      rw [Array.length_toList] at z
      omega
    refine wpAny_bind (wpAny_mkStr (wpAny_bind ?_) (fit.each t (by rw [split]; simp)))
    refine wpAny_updateSeq (show s2.heap.get? P = _ from there) rfl (wpAny_pure ⟨F.quiet_list_repr_loop _, ?_⟩) lp
    have w1 : ((dn.length : Nat) : Int) + 1 = (((dn ++ [t]).length : Nat) : Int) := by rw [List.length_append]; rfl
    have w2 : b + piled dn + (t.length + 2) = b + piled (dn ++ [t]) := by rw [piled_snoc]; omega
    rw [w1, w2]
    refine ih (dn ++ [t]) (l ++ [(t, s2.toks)]) _ H2 (parts.push (.str t s2.toks)) _ (by rw [split, List.append_assoc]; rfl) (by rw [List.map_append, told]; rfl) (by simp [lay, strValues]) (fpTurn (I2.tok _) hP2 fun c o ne e => (Heap.get?_update_other _ _ (Ne.symm ne)).trans e) (same.trans same2) hP2
      (Heap.get?_update_self _ there rfl) fun s3 H3 u I3 same3 => done s3 H3 u I3 (same2.trans same3)
theorem rp_list_at {a : Addr} {x : V} {l : List V} {ts : List Str} {A : Around} {g : List Code} {b : Nat} {pins : List (Addr × Obj)} {s : Shared} {H1 : Hp} {R : Result → Shared → Prop}
    (hl : SqL X.K H a (x :: l)) (n : Near X (k + 1) A) (hg : A.guards = some g) (free : ∀ c ∈ a :: as, Clear g c) (out : a ∉ as) (T : RpAll X σ H as k (x :: l) ts) (hsz : b + (listText ts).length ≤ sizeLine) (I : Inv X pins σ H1 s) (same : Same H H1)
    (done : ∀ s' H2 u, Inv X pins σ H2 s' → Same H1 H2 → R (.ok (.ret (.str (listText ts) u))) s') :
    wpAny (model X.prog X.w) A.in1 (Builtin.listReprAt b ⟨[.ref a], []⟩) (fun fin s' => match fin with | .done f => R (.ok f) s' | .again c' => c'.quiet = true ∧ codeAny (model X.prog X.w) A c' R s') (fun e s' => R (.error e) s') s := by
  obtain ⟨its, rv, ⟨o, m, get, _, _, dat⟩, _⟩ := I.list (same.seq hl)
  cases rv with
  | cons ru rus =>
    refine wpAny_list_repr_head (A := A.in1) hg (fun v rest kw mem => listSameRef_of_ne (free a (.head _) _ _ _ _ mem)) get dat (wpAny_bind (wpAny_newObj_type (wpAny_pure ⟨F.quiet_list_repr_loop _, ?_⟩)))
    have I' : Inv X pins σ H1 { s with heap := _, toks := s.toks } := I.kept (h' := s.heap.push { cls := .type "list", dict := none, data := .seq #[] 0, slots := #[] }) (t' := s.toks) fun c u e => Heap.get?_push_of_some _ e
    exact rp_list_loop (P := s.heap.objs.size) hl n hg (fun c hc => free c (.tail _ hc)) out T (Fit.of hsz) ts [] [] _ H1 #[] _ rfl rfl rfl I' same (I.fpOk (Nat.le_refl _) (I.hok.fresh (Nat.le_refl _))) (Heap.get?_push_size _ rfl) done
theorem sq_type {pins : List (Addr × Obj)} {s : Shared} {H1 : Hp} {a : Addr} {xs : List V} (I : Inv X pins σ H1 s) (h : SqL X.K H1 a xs) : s.TypeIs (.ref a) "list" := by
  obtain ⟨its, rv, ⟨oa, na, ha, hc, _⟩, _⟩ := I.list h
  exact ⟨oa, ha, hc⟩
theorem Rp.list {a : Addr} {x : V} {l : List V} {ts : List Str} (hl : SqL X.K H a (x :: l)) (hna : a ∉ as) (hT : RpAll X σ H as k (x :: l) ts) : Rp X σ H (a :: as) (k + 2) (.ref a) (listText ts) := by
  intro u ru b hb A g n hg hc pins s H1 I s1 Q E q
  obtain rfl : u = Value.ref a := ru
  have hty := sq_type I (s1.seq hl)
  refine wpAny_pyReprUnder_ref (by omega) (wpAny_pyReprObjUnder_twin (twin := "list.__repr__.under") hty F.slot_list_repr.toG rfl n.line ?_)
  refine call_twin_plain F.plain_list_repr_under F.entry_list_repr_under F.check_list_repr_under hty F.slot_list_repr.toG (F.args_list_repr_1 _) ?_
  exact rp_list_at (R := callEnd _ E) hl (n.mono (by omega)) hg hc hna hT hb I s1 fun s' H2 u I2 s2 => ⟨⟨_, _, rfl⟩, _, _, rfl, q s' H2 I2 s2⟩
theorem Rp.list0 {a : Addr} (hl : SqL X.K H a []) : Rp X σ H as k (.ref a) "[]" := by
  intro u ru b hb A g n hg hc pins s H1 I s1 Q E q
  obtain rfl : u = Value.ref a := ru
  obtain ⟨its, rv, ⟨oa, na, ha, hc, _, hda⟩, _⟩ := I.list (s1.seq hl)
  cases rv
  exact wpAny_pyReprUnder_ref (by omega) (wpAny_pyReprObjUnder_list_empty ⟨oa, ha, hc⟩ n.line ha hda ⟨_, _, rfl, q _ H1 (I.tok _) (Same.refl H1)⟩)

/-! tuples -/
theorem RpAll.head {x : V} {xs : List V} {ts : List Str} (h : RpAll X σ H as k (x :: xs) ts) : ∃ t r, ts = t :: r ∧ Rp X σ H as k x t ∧ RpAll X σ H as k xs r := by
  cases ts with
  | nil => exact nomatch h.1
  | cons t r =>
    obtain ⟨t', e, q⟩ := h.2 0 x rfl
    cases (Option.some.inj e)
    exact ⟨t, r, rfl, q, by have := h.1; simpa using this, fun i y hy => by simpa using h.2 (i + 1) y (by simpa using hy)⟩
/-- the texts of a tuple's items, one behind the other -/
theorem rp_fold {A : Around} {g : List Code} {pins : List (Addr × Obj)} {E : Value → Shared → Prop} (n : Near X k A) (hg : A.guards = some g) (free : ∀ c ∈ as, Clear g c) {xs : List V} {us : List Value} (rv : Vals xs us) :
    ∀ (ts : List Str) (got : Array Str) (m : Nat) (s : Shared) (H1 : Hp) (Q : (Array Str × Nat) → Shared → Prop), RpAll X σ H as k xs ts → m + piled ts ≤ sizeLine → Inv X pins σ H1 s → Same H H1 →
    (∀ s' H2, Inv X pins σ H2 s' → Same H1 H2 → Q (got ++ ts.toArray, m + piled ts) s') → wpAny (model X.prog X.w) A (forIn us ((got, m) : (Array Str × Nat)) tupBody) Q E s := by
  induction rv with
  | nil =>
    intro ts got m s H1 Q T _ I _ done
    cases ts with
    | cons => exact nomatch T.1
    | nil =>
      have fin := done s H1 I (Same.refl H1)
      rw [List.forIn_nil]
      simp only [Array.append_empty, piled_nil, Nat.add_zero, List.toArray] at fin
      exact wpAny_pure fin
  | cons ru rus ih =>
    intro ts got m s H1 Q T fit I same done
    obtain ⟨t, rest, rfl, first, more⟩ := T.head
    have grow : m + piled (t :: rest) = m + (t.length + 2) + piled rest := by rw [piled_cons]; omega
    rw [grow] at fit done
    rw [List.forIn_cons]
    refine wpAny_bind (wpAny_bind (first _ ru (m + 1) (by omega) A g n hg free pins s H1 I same _ _ fun s2 H2 I2 same2 => wpAny_pure (ih rest _ _ s2 H2 Q more (by omega) I2 (same.trans same2) fun s3 H3 I3 same3 => ?_)))
    have fin := done s3 H3 I3 (same2.trans same3)
    have e : got.push t ++ rest.toArray = got ++ (t :: rest).toArray := by simp
    rw [e]
    exact fin
/-- no guard around speaks of a thing that is clear of them -/
theorem clear_any {g : List Code} {f : Code × Pos → Bool} (h : ∀ c ∈ g, f (c, default) = false) : (g.any fun c => f (c, default)) = false := List.any_eq_false.mpr fun c m => by rw [h c m]; exact Bool.false_ne_true
theorem rp_tuple_at {a : Addr} {xs : List V} {ts : List Str} {A : Around} {g : List Code} {b : Nat} {pins : List (Addr × Obj)} {s : Shared} {H1 : Hp} {R : Result → Shared → Prop} {id : String} {rest : List Value}
    (lit : Lit A (.builtin id ⟨.ref a :: rest, []⟩)) (hl : SqT X.K H a xs) (n : Near X (k + 1) A) (hg : A.guards = some g) (free : ∀ c ∈ a :: as, Clear g c) (out : a ∉ as) (T : RpAll X σ H as k xs ts)
    (hsz : b + (tupleText ts).length ≤ sizeLine) (I : Inv X pins σ H1 s) (same : Same H H1) (done : ∀ s' H2 u, Inv X pins σ H2 s' → Same H1 H2 → R (.ok (.ret (.str (tupleText ts) u))) s') :
    wpOwn (model X.prog X.w) A (.builtin id ⟨.ref a :: rest, []⟩) (Builtin.tupleReprAt b ⟨[.ref a], []⟩) (fun fin s' => match fin with | .done f => R (.ok f) s' | .again c' => c'.quiet = true ∧ codeAny (model X.prog X.w) A c' R s') (fun e s' => R (.error e) s') s := by
  obtain ⟨its, rv, ⟨o, get, cls, m, dat⟩, _⟩ := I.tuple (same_tup same hl)
  have much := piled_le_tupleText ts
  have eq : its.length = ts.length := by rw [T.1]; exact rv.length.symm
  rw [tuple_repr_tree, tupleReprUnderWay_eq]
  refine wpOwn_bind (wpOwn_stackTailAny hg (tupGuardF_off (.ref a)) (tupGuardF_pos (.ref a)) ?_)
  rw [clear_any (tupGuardF_of_clear (free a (.head _)))]
  refine wpOwn_of_wpAny (show wpAny _ _ (tupleReprRest b (.ref a)) _ _ s from ?_)
  refine wpAny_bind (wpAny_bind (wpAny_seqItems get dat (wpAny_pure ?_)))
  rw [← Array.forIn_toList]
  refine wpAny_bind (rp_fold (lit.near n) (guards_under_guard lit.guard hg) (fun c m => (free c (.tail _ m)).cons fun e => out (e ▸ m)) rv ts #[] b s H1 _ T (by omega) I same fun s2 H2 I2 same2 => ?_)
  have fin := done _ H2 s2.toks (I2.tok (s2.toks + 1)) same2
  have txt : (("(" : Str) ++ Str.join ", " ((#[] : Array Str) ++ ts.toArray).toList ++ (if its.toArray.size == 1 then ",)" else ")" : String)) = tupleText ts := by simp [tupleText, eq]
  refine wpAny_bind (wpAny_mkStr (wpAny_pure ?_) ?_)
  · rw [txt]
    exact fin
  · rw [txt]
    omega
theorem Rp.tuple {a : Addr} {xs : List V} {ts : List Str} (hl : SqT X.K H a xs) (hna : a ∉ as) (hT : RpAll X σ H as k xs ts) : Rp X σ H (a :: as) (k + 2) (.ref a) (tupleText ts) := by
  intro u ru b hb A g n hg hc pins s H1 I s1 Q E q
  obtain rfl : u = Value.ref a := ru
  obtain ⟨its, rv, ⟨o, ha, hct, _, hd⟩, _⟩ := I.tuple (same_tup s1 hl)
  refine wpAny_pyReprUnder_ref (by omega) (wpAny_pyReprObjUnder_twin (twin := "tuple.__repr__.under") ⟨o, ha, hct⟩ F.slot_tuple_repr rfl n.line ?_)
  exact call_twin_own (F.quiet_tuple_repr_under _) F.entry_tuple_repr_under F.check_tuple_repr_under ⟨o, ha, hct⟩ F.slot_tuple_repr (F.args_tuple_repr_1 _)
    (rp_tuple_at (R := callEnd _ E) (lit_tupleU A _) hl (n.mono (by omega)) hg hc hna hT hb I s1 fun s' H2 u I2 s2 => ⟨⟨_, _, rfl⟩, _, _, rfl, q s' H2 I2 s2⟩)

/-! dicts whose keys are ints and texts -/
def kTxt : Key → Str
  | .inl i => (toString i : String)
  | .inr z => reprText z
def RpKV (X : Cx) (σ : L2.St) (H : Hp) (as : List Addr) (k : Nat) (kvs : List (Key × V)) (ps : List Str) : Prop :=
  ps.length = kvs.length ∧ ∀ (i : Nat) (kv : Key × V), kvs[i]? = some kv → ∃ v, ps[i]? = some (kTxt kv.1 ++ ": " ++ v) ∧ Rp X σ H as k (kV kv.1) (kTxt kv.1) ∧ Rp X σ H as k kv.2 v
theorem kv_entry {κs : List (Key × V)} {vs : List (Key × Value)} (r : KV κs vs) : ∀ {es : List DictEntry} {P : Program} {w : World}, Pairs (mixKind P w) es vs →
    es.length = κs.length ∧ ∀ (i : Nat) (kv : Key × V), κs[i]? = some kv → ∃ e, es[i]? = some e ∧ RelV (kV kv.1) e.key ∧ RelV kv.2 e.val := by
  unfold KV at r
  induction r with
  | nil =>
    intro es P w p
    cases p
    exact ⟨rfl, fun i kv h => by simp at h⟩
  | cons h t ih =>
    intro es P w p
    cases p with
    | cons h1 h2 h3 =>
      obtain ⟨l, q⟩ := ih h3
      refine ⟨by simp [l], fun i kv hi => ?_⟩
      cases i with
      | zero =>
        simp at hi
        subst hi
        refine ⟨_, rfl, ?_, ?_⟩
        · rw [h.1]
          exact relV_key h1
        · rw [h2]
          exact h.2
      | succ i => exact q i kv (by simpa using hi)
/-- one entry more -/
theorem range_step {m i : Nat} {x : Nat} {rest : List Nat} (h : x :: rest = List.range' i (m - i)) : x = i ∧ i < m ∧ rest = List.range' (i + 1) (m - (i + 1)) := by
  cases d : m - i with
  | zero =>
    rw [d] at h
    cases h
  | succ j =>
    rw [d, List.range'_succ] at h
    injection h with h1 h2
    have : m - (i + 1) = j := by omega
    exact ⟨h1, by omega, by rw [h2, this]⟩
theorem range_end {m i : Nat} (hi : i ≤ m) (h : [] = List.range' i (m - i)) : i = m := by
  cases d : m - i with
  | zero => omega
  | succ j =>
    rw [d, List.range'_succ] at h
    cases h
theorem rp_dict_at {a : Addr} {kvs : List (Key × V)} {ps : List Str} {A : Around} {g : List Code} {b : Nat} {pins : List (Addr × Obj)} {s : Shared} {H0 H1 : Hp} {R : Result → Shared → Prop} {id : String} {rest : List Value}
    (lit : Lit A (.builtin id ⟨.ref a :: rest, []⟩)) (h0 : H0 a = none) (hl : H1 a = some (.dK kvs)) (n : Near X (k + 1) A) (hg : A.guards = some g) (free : ∀ c ∈ a :: as, Clear g c) (out : a ∉ as) (T : RpKV X σ H0 as k kvs ps)
    (hsz : b + (dictText ps).length ≤ sizeLine) (I0 : Inv X pins σ H1 s) (hs : Same H0 H1) (done : ∀ s' H2 u, Inv X pins σ H2 s' → Same H1 H2 → R (.ok (.ret (.str (dictText ps) u))) s') :
    wpOwn (model X.prog X.w) A (.builtin id ⟨.ref a :: rest, []⟩) (Builtin.dictReprAt b ⟨[.ref a], []⟩) (fun fin s' => match fin with | .done f => R (.ok f) s' | .again c' => c'.quiet = true ∧ codeAny (model X.prog X.w) A c' R s') (fun e s' => R (.error e) s') s := by
  -- the dict stays as it is while it is shown
  have hn0 := I0.nofrz hl trivial
  obtain ⟨o, I⟩ := I0.lock hl trivial
  have hfr : Same H0 (upd H1 a (.frz o (.dK kvs))) := fun c u e => by
    rw [upd_ne (ne_of_none e h0)]
    exact hs c u e
  obtain ⟨hsys, get, exact_, es, ep, vs, dat, size, rv, o', es', e1, _, e3, _, e4, _⟩ := I.frzK upd_same
  obtain rfl := Option.some.inj (get.symm.trans e1)
  obtain ⟨rfl, _⟩ := Data.dict.inj (dat.symm.trans e3)
  obtain ⟨_, entry⟩ := kv_entry rv e4
  have stays : ∀ (s' : Shared) (H2 : Hp), Inv X pins σ H2 s' → Same (upd H1 a (.frz o (.dK kvs))) H2 → s'.heap.get? a = some o := fun s' H2 I2 s2 => (I2.frzK (s2 _ _ upd_same)).2.1
  have much := piled_le_dictText ps
  have many := T.1
  unfold Builtin.dictReprAt
  refine wpOwn_bind (wpOwn_of_wpAny (wpAny_bind (wpAny_notOrdered_dict (show s.TypeIs (.ref a) "dict" from ⟨o, get, exact_.1⟩) (wpAny_pure (a := Value.ref a) ?_))))
  rw [dictReprRunning_eq]
  refine wpOwn_bind (wpOwn_stackTailAny hg (dictGuardF_off (.ref a)) (dictGuardF_pos (.ref a)) ?_)
  rw [clear_any (dictGuardF_of_clear (free a (.head _)))]
  have n' := lit.near n
  have hg' := guards_under_guard lit.guard hg
  have free' : ∀ c ∈ as, Clear (.builtin id ⟨.ref a :: rest, []⟩ :: g) c := fun c m => (free c (.tail _ m)).cons fun e => out (e ▸ m)
  refine wpOwn_of_wpAny (show wpAny _ _ (Builtin.Dict.addrOf (.ref a) >>= fun _ => _) _ _ s from wpAny_bind (wpAny_pure ?_))
  have whole : Builtin.Dict.showsAll a = pure () := by
    unfold Builtin.Dict.showsAll
    rw [hsys]
    rfl
  rw [whole]
  refine wpAny_bind (wpAny_pure (wpAny_bind (wpAny_dictEpoch get dat (wpAny_bind (wpAny_dictEntries get dat (wpAny_bind ?_))))))
  rw [Std.Legacy.Range.forIn_eq_forIn_range', show (Std.Legacy.Range.mk 0 es.size 1 _).size = es.size - 0 from by simp [Std.Legacy.Range.size]]
  refine wpAny_forIn_list _ (fun todo r s' => ∃ i H2, todo = List.range' i (es.size - i) ∧ i ≤ es.size ∧ r = ((ps.take i).toArray, b + piled (ps.take i)) ∧ Inv X pins σ H2 s' ∧ Same (upd H1 a (.frz o (.dK kvs))) H2) _ ?_ ?_ _ _ ⟨0, _, rfl, Nat.zero_le _, rfl, I, Same.refl _⟩
  · rintro x todo _ s2 ⟨i, H2, hr0, hi, rfl, I2, same2⟩
    obtain ⟨rfl, lt, hrest⟩ := range_step hr0
    have ltk : x < kvs.length := by omega
    have there : kvs[x]? = some kvs[x] := List.getElem?_eq_getElem ltk
    obtain ⟨v, txt, showK, showV⟩ := T.2 x _ there
    obtain ⟨en, he, rek, rev⟩ := entry x _ there
    have he' : es[x] = en := by
      rw [Array.getElem?_toList, Array.getElem?_eq_getElem lt] at he
      exact Option.some.inj he
    have len : (kTxt kvs[x].1 ++ ": " ++ v).length = (kTxt kvs[x].1).length + 2 + v.length := (strLen_append _ _).trans (congrArg (· + v.length) (strLen_append _ _))
    have pile := piled_take_succ txt
    have upto := piled_take_le ps (x + 1)
    rw [len] at pile
    refine wpAny_bind (wpAny_dictEntries (stays s2 H2 I2 same2) dat ?_)
    rw [Array.getElem?_eq_getElem lt, he']
    refine wpAny_bind (wpAny_holding (wpAny_bind (showK en.key rek (b + piled (ps.take x) + 1) (by omega) _ _ n' hg' free' pins s2 H2 I2 (hfr.trans same2) _ _ fun s3 H3 I3 same3 =>
      wpAny_bind (showV en.val rev (b + piled (ps.take x) + ((kTxt kvs[x].1).length + 3)) (by omega) _ _ n' hg' free' pins s3 H3 I3 ((hfr.trans same2).trans same3) _ _ fun s4 H4 I4 same4 => wpAny_pure ?_))))
    have same24 := (same2.trans same3).trans same4
    refine wpAny_bind (wpAny_dictEpoch (stays s4 H4 I4 same24) dat ?_)
    rw [if_neg (by simp)]
    have w1 : (ps.take x).toArray.push (kTxt kvs[x].1 ++ ": " ++ v) = (ps.take (x + 1)).toArray := by rw [take_one txt]; simp
    have w2 : b + piled (ps.take x) + ((kTxt kvs[x].1).length + v.length + 4) = b + piled (ps.take (x + 1)) := by omega
    exact wpAny_pure ⟨x + 1, H4, hrest, lt, by rw [w1, w2], I4, same24⟩
  · rintro _ s2 ⟨i, H2, hr0, hi, rfl, I2, same2⟩
    have last : i = ps.length := by rw [range_end hi hr0]; omega
    rw [last, List.take_length]
    have fin := done _ _ s2.toks ((I2.unlock (same2 _ _ upd_same) hn0).tok (s2.toks + 1)) fun c u e => by
      by_cases z : c = a
      · subst z
        rw [hl] at e
        obtain rfl := Option.some.inj e
        exact upd_same
      · rw [upd_ne z]
        exact same2 c u (by rw [upd_ne z]; exact e)
    have tx : (("{" : Str) ++ Str.join ", " ps.toArray.toList ++ "}") = dictText ps := by simp [dictText]
    refine wpAny_bind (wpAny_mkStr (wpAny_pure ?_) ?_)
    · rw [tx]
      exact fin
    · rw [tx]
      omega
theorem Rp.dict {a : Addr} {kvs : List (Key × V)} {ps : List Str} {H0 : Hp} (h0 : H0 a = none) (hl : H a = some (.dK kvs)) (hs : Same H0 H) (hna : a ∉ as) (hT : RpKV X σ H0 as k kvs ps) : Rp X σ H (a :: as) (k + 2) (.ref a) (dictText ps) := by
  intro u ru b hb A g n hg hc pins s H1 I s1 Q E q
  obtain rfl : u = Value.ref a := ru
  obtain ⟨_, _, vs, rv, o, es, _, ha, hx, _⟩ := dk_of I.hok (s1 _ _ hl)
  refine wpAny_pyReprUnder_ref (by omega) (wpAny_pyReprObjUnder_twin (twin := "dict.__repr__.under") ⟨o, ha, hx.1⟩ F.slot_dict_repr rfl n.line ?_)
  exact call_twin_own (F.quiet_dict_repr_under _) F.entry_dict_repr_under F.check_dict_repr_under ⟨o, ha, hx.1⟩ F.slot_dict_repr (F.args_dict_repr_1 _)
    (rp_dict_at (R := callEnd _ E) (lit_dictU A _) h0 (s1 _ _ hl) (n.mono (by omega)) hg hc hna hT hb I (hs.trans s1) fun s' H2 u I2 s2 => ⟨⟨_, _, rfl⟩, _, _, rfl, q s' H2 I2 s2⟩)
end
/-! ### values of any kind and what is shown of them -/
section
def keyFits : Key → Prop
  | .inl i => i.natAbs.log2 < 1920
  | .inr z => (reprText z).length ≤ sizeLine
def kvTxts (kvs : List (Key × V)) (vts : List Str) : List Str := List.zipWith (fun kv v => kTxt kv.1 ++ ": " ++ v) kvs vts
variable (K : PySem.W.Frag) (own : Hp → Addr → Str → Prop) (kO : Nat)
inductive Shw : Hp → List Addr → Nat → V → Str → Prop
  | non {H as k} : Shw H as k .non "None"
  | bl {H as k} (b : Bool) : Shw H as k (.bl b) (if b then "True" else "False")
  | int {H as k} {i : Int} : i.natAbs.log2 < 1920 → Shw H as k (.int i) (toString i)
  | str {H as k} {z : Str} : (reprText z).length ≤ sizeLine → Shw H as k (.str z) (reprText z)
  | own {H as k a t} : own H a t → kO ≤ k → Shw H as k (.ref a) t
  | list0 {H as k a} : SqL K H a [] → Shw H as k (.ref a) "[]"
  | list {H as as' k k' a x l ts} : SqL K H a (x :: l) → a ∉ as → ts.length = l.length + 1 → (∀ (i : Nat) (y : V) (t : Str), (x :: l)[i]? = some y → ts[i]? = some t → Shw H as k y t) → (∀ b ∈ a :: as, b ∈ as') → k + 2 ≤ k' → Shw H as' k' (.ref a) (listText ts)
  | tuple {H as as' k k' a xs ts} : SqT K H a xs → a ∉ as → ts.length = xs.length → (∀ (i : Nat) (y : V) (t : Str), xs[i]? = some y → ts[i]? = some t → Shw H as k y t) → (∀ b ∈ a :: as, b ∈ as') → k + 2 ≤ k' → Shw H as' k' (.ref a) (tupleText ts)
  | dict {H H0 as as' k k' a kvs vts} : H0 a = none → H a = some (.dK kvs) → Same H0 H → a ∉ as → vts.length = kvs.length → (∀ (i : Nat) (kv : Key × V), kvs[i]? = some kv → keyFits kv.1) →
      (∀ (i : Nat) (kv : Key × V) (v : Str), kvs[i]? = some kv → vts[i]? = some v → Shw H0 as k kv.2 v) → (∀ b ∈ a :: as, b ∈ as') → k + 2 ≤ k' → Shw H as' k' (.ref a) (dictText (kvTxts kvs vts))
end
section
variable {X : Cx} {own : Hp → Addr → Str → Prop} {kO j : Nat} {C : Addr} {sp : Sp} {H H' : Hp} {as : List Addr} {k : Nat} {x : V} {t : Str} {K : PySem.W.Frag}
theorem get_two {α β : Type} {xs : List α} {ts : List β} (h : ts.length = xs.length) {i : Nat} {x : α} (e : xs[i]? = some x) : ∃ t, ts[i]? = some t := by
  have hi : i < xs.length := (List.getElem?_eq_some_iff.mp e).1
  exact ⟨ts[i], List.getElem?_eq_getElem (by omega)⟩
theorem kvTxts_get {kvs : List (Key × V)} {vts : List Str} {i : Nat} {kv : Key × V} {v : Str} (h1 : kvs[i]? = some kv) (h2 : vts[i]? = some v) : (kvTxts kvs vts)[i]? = some (kTxt kv.1 ++ ": " ++ v) := by
  unfold kvTxts
  rw [List.getElem?_zipWith, h1, h2]
theorem Shw.same (hs : ∀ {H H' a t}, own H a t → Same H H' → own H' a t) (h : Shw K own kO H as k x t) (s : Same H H') : Shw K own kO H' as k x t := by
  induction h generalizing H' with
  | non => exact .non
  | bl b => exact .bl b
  | int h => exact .int h
  | str h => exact .str h
  | own h hk => exact .own (hs h s) hk
  | list0 h => exact .list0 (s.seq h)
  | list h n l _ m hk ih => exact .list (s.seq h) n l (fun i y t h1 h2 => ih i y t h1 h2 s) m hk
  | tuple h n l _ m hk ih => exact .tuple (same_tup s h) n l (fun i y t h1 h2 => ih i y t h1 h2 s) m hk
  | dict h0 h s0 n l kf hv m hk _ => exact .dict h0 (s _ _ h) (s0.trans s) n l kf hv m hk
theorem Shw.more {as' : List Addr} {k' : Nat} (h : Shw K own kO H as k x t) (m' : ∀ a ∈ as, a ∈ as') (hk' : k ≤ k') : Shw K own kO H as' k' x t := by
  cases h with
  | non => exact .non
  | bl b => exact .bl b
  | int h => exact .int h
  | str h => exact .str h
  | own h hk => exact .own h (Nat.le_trans hk hk')
  | list0 h => exact .list0 h
  | list h n l ih m hk => exact .list h n l ih (fun b hb => m' b (m b hb)) (Nat.le_trans hk hk')
  | tuple h n l ih m hk => exact .tuple h n l ih (fun b hb => m' b (m b hb)) (Nat.le_trans hk hk')
  | dict h0 h s0 n l kf hv m hk => exact .dict h0 h s0 n l kf hv (fun b hb => m' b (m b hb)) (Nat.le_trans hk hk')
theorem Rp.key {σ : L2.St} {κ : Key} (h : keyFits κ) : Rp X σ H as k (kV κ) (kTxt κ) := by
  cases κ with
  | inl i => exact Rp.int h
  | inr z => exact Rp.str h
theorem Shw.rp (o : OwnX X own kO) (h : Shw X.K own kO H as k x t) (σ : L2.St) : Rp X σ H as k x t := by
  induction h with
  | non => exact Rp.non
  | bl b => exact Rp.bl
  | int h => exact Rp.int h
  | str h => exact Rp.str h
  | own h hk => exact (Rp.own o h).mono hk
  | list0 h => exact Rp.list0 h
  | list h n l _ m hk ih => exact ((Rp.list h n ⟨l, fun i y hy => (get_two l hy).elim fun t ht => ⟨t, ht, ih i y t hy ht⟩⟩).more m).mono hk
  | tuple h n l _ m hk ih => exact ((Rp.tuple h n ⟨l, fun i y hy => (get_two l hy).elim fun t ht => ⟨t, ht, ih i y t hy ht⟩⟩).more m).mono hk
  | dict h0 h s0 n l kf _ m hk ih =>
    refine ((Rp.dict h0 h s0 n ⟨?_, fun i kv hkv => ?_⟩).more m).mono hk
    · unfold kvTxts
      rw [List.length_zipWith]
      omega
    · obtain ⟨v, hv⟩ := get_two l hkv
      exact ⟨v, kvTxts_get hkv hv, Rp.key (kf i kv hkv), ih i kv v hkv hv⟩
/-- repr(x), x a value of any kind, where nothing guarded runs around -/
def rShw (K : PySem.W.Frag) (own : Hp → Addr → Str → Prop) (kO j : Nat) : List V → Hp → VK → Prop := fun xs H Q => ∃ x as k t, xs = [x] ∧ Shw K own kO H as k x t ∧ t.length ≤ sizeLine ∧ k + 3 ≤ j ∧ ∀ H2, Same H H2 → Q (.str t) H2
theorem repr_top (o : OwnX X own kO) (bare : Bare X.A) (h : Shw X.K own kO H as k x t) (hz : t.length ≤ sizeLine) {pins : List (Addr × Obj)} {σ : L2.St} {s : Shared} {Q : VK} {u : Value} (hr : L2H.RoomH (k + 3) X.A) (I : Inv X pins σ H s) (ru : RelV x u)
    (hq : ∀ H2, Same H H2 → Q (.str t) H2) : wpAny (model X.prog X.w) X.A (call (.builtin "repr") [u]) (EP X pins σ Q) X.xe s := by
  have fin : ∀ (s' : Shared) (H2 : Hp) (z : Tok), Inv X pins σ H2 s' → Same H H2 → EP X pins σ Q (.str t z) s' := fun s' H2 z I2 s2 => ⟨.str t, H2, I2, ⟨z, rfl⟩, hq H2 s2⟩
  have hu : X.A.units + 1 < cLine := by have := hr.un; omega
  have nr : Near X (k + 2) X.A.in1 := (Near.self hr).in1
  cases h with
  | non =>
    obtain rfl : u = Value.none := ru
    exact PySem.P.repr_of_none (fin _ _ _ (I.tok _) (Same.refl H))
  | bl b =>
    obtain rfl : u = Value.bool b := ru
    exact PySem.P.repr_of_bool (fin _ _ _ (I.tok _) (Same.refl H))
  | int hi =>
    obtain ⟨tk, rfl⟩ := ru
    exact PySem.P.repr_of_int hi (fin _ _ _ (I.tok _) (Same.refl H))
  | str _ =>
    obtain ⟨tk, rfl⟩ := ru
    exact PySem.P.repr_of_str (fin _ _ _ (I.tok _) (Same.refl H)) hz
  | own ho hk =>
    obtain ⟨C, f, dx, fs, e, at_, fn, run⟩ := o.run _ _ _ ho
    cases ru
    obtain ⟨mA, J, _⟩ := ins_get I.hok e
    obtain ⟨od, J, _⟩ := J.look
    obtain ⟨m, hF⟩ := I.fr
    exact PySem.W.repr_K hu hF I.ok.mod.kin J at_ fn (run X.A.in1 pins σ s H (nr.mono (by omega)) I (Same.refl H) _ _ fun s' H2 tk I2 s2 => fin s' H2 tk I2 s2)
  | list0 hl =>
    cases ru
    obtain ⟨its, rv, ⟨oa, na, ha, hc, _, hda⟩, _⟩ := I.list hl
    cases rv
    exact call_repr_slot hu ⟨oa, ha, hc⟩ F.slot_list_repr.toG (call_list_repr_empty ⟨oa, ha, hc⟩ ha hda ⟨_, _, rfl, fin _ H _ (I.tok _) (Same.refl H)⟩)
  | list hl n l ih m hk =>
    cases ru
    have hty := sq_type I hl
    refine call_repr_slot hu hty F.slot_list_repr.toG (wpAny_call (codeAny_call_builtin F.slot_list_repr.plain F.entry_list_repr (F.slot_list_repr.check _ _ _ _ _ _ _ _ hty (F.args_list_repr_1 _) ?_)))
    exact rp_list_at (σ := σ) (H := H) (b := 0) (R := callEnd _ _) hl (nr.mono (by omega)) bare (fun c _ => Clear.nil c) n ⟨l, fun i y hy => (get_two l hy).elim fun t ht => ⟨t, ht, (ih i y t hy ht).rp o σ⟩⟩ (by omega) I (Same.refl H)
      fun s' H2 z I2 s2 => ⟨_, _, rfl, fin s' H2 z I2 s2⟩
  | tuple hl n l ih m hk =>
    cases ru
    obtain ⟨its, rv, ⟨o', ha, hct, n', hd⟩, _⟩ := I.tuple hl
    refine call_repr_slot hu ⟨o', ha, hct⟩ F.slot_tuple_repr (wpAny_call (codeAny_call_builtin_own (Code.quiet_builtin _ (by decide +kernel)) F.entry_tuple_repr (F.slot_tuple_repr.check _ _ _ _ _ _ _ _ ⟨o', ha, hct⟩ (F.args_tuple_repr_1 _) ?_)))
    exact rp_tuple_at (σ := σ) (H := H) (b := 0) (R := callEnd _ _) (lit_tuple _ _) hl (nr.mono (by omega)) bare (fun c _ => Clear.nil c) n ⟨l, fun i y hy => (get_two l hy).elim fun t ht => ⟨t, ht, (ih i y t hy ht).rp o σ⟩⟩ (by omega) I (Same.refl H)
      fun s' H2 z I2 s2 => ⟨_, _, rfl, fin s' H2 z I2 s2⟩
  | dict h0 hl s0 n l kf ih m hk =>
    rename_i as1 k1 a1 kvs vts
    cases ru
    obtain ⟨_, _, vs, rv, o', es, n', ha, hx, _⟩ := dk_of I.hok hl
    refine call_repr_slot hu ⟨o', ha, hx.1⟩ F.slot_dict_repr (wpAny_call (codeAny_call_builtin_own (Code.quiet_builtin _ (by decide +kernel)) F.entry_dict_repr (F.slot_dict_repr.check _ _ _ _ _ _ _ _ ⟨o', ha, hx.1⟩ (F.args_dict_repr_1 _) ?_)))
    refine rp_dict_at (σ := σ) (b := 0) (R := callEnd _ _) (lit_dict _ _) h0 hl (nr.mono (j := k1 + 1) (by omega)) bare (fun c _ => Clear.nil c) n ⟨?_, fun i kv hkv => ?_⟩ (by omega) I s0
      fun s' H2 z I2 s2 => ⟨_, _, rfl, fin s' H2 z I2 s2⟩
    · unfold kvTxts
      rw [List.length_zipWith]
      omega
    · obtain ⟨v, hv⟩ := get_two l hkv
      exact ⟨v, kvTxts_get hkv hv, Rp.key (kf i kv hkv), (ih i kv v hkv hv).rp o σ⟩
/-- the def that shows own instances, where nothing is handled -/
structure OwnF (P : Program) (w : World) (K : PySem.W.Frag) (mg : Str → Option Value) (base : Heap) (own : Hp → Addr → Str → Prop) (kO : Nat) : Prop where
  ex : ∃ (C : Addr) (sp : Sp), DunF P w K mg base kO C "__repr__" sp ∧ ∀ H a t, own H a t → (∃ dx fs, H a = some (.ins C dx fs)) ∧ ∀ H1, Same H H1 → sp [.ref a] H1 (fun v H2 => v = .str t ∧ Same H1 H2) E0
theorem OwnF.at (o : OwnF X.prog X.w X.K X.mg X.base own kO) (cold : X.A.handled = none) : OwnX X own kO := by
  obtain ⟨C, sp, ⟨f, fd, ps, at_, fn, F, hb⟩, ho⟩ := o.ex
  refine ⟨fun H a t h => ?_⟩
  obtain ⟨⟨dx, fs, e⟩, q⟩ := ho H a t h
  refine ⟨C, f, dx, fs, e, at_, fn, fun A pins σ s H1 n I s1 Q E fin => ?_⟩
  have h1 := q H1 s1
  have hl := F.len _ _ _ _ h1
  have bind := hb s [.ref a] I.kIn (by simpa using hl)
  rw [List.append_nil] at bind
  have env : Env0 X.prog X.w X.K X.mg X.base A X.stack s H1 := { I.env0 with frames := n.fr.trans I.env0.frames }
  refine wpAny_call (codeAny_mono (F.run A X.stack s H1 ⟨[.ref a], []⟩ [.ref a] [.ref a] _ E0 ⟨n.hn.trans cold, n.room.dp, n.room.un⟩ env bind (.cons rfl .nil) h1) fun r s' hq => ?_)
  match r, hq with
  | .error e, hq => exact False.elim hq
  | .ok (.ret z), hq =>
    obtain ⟨v, H', I', rv, rfl, s2⟩ := I.after hq
    obtain ⟨tk, rfl⟩ := rv
    exact fin s' H' tk I' s2
  | .ok .next, hq => exact False.elim hq
  | .ok .brk, hq => exact False.elim hq
  | .ok .cont, hq => exact False.elim hq
/-- the same within an except suite -/
structure OwnH (P : Program) (w : World) (K : PySem.W.Frag) (mg : Str → Option Value) (base : Heap) (own : Hp → Addr → Str → Prop) (kO : Nat) : Prop where
  ex : ∃ (C f : Addr) (fd : FuncData) (ps : List Str) (sp : Sp), PySem.W.findIn K (.ref C) "__repr__" = some (some (.ref f)) ∧ PySem.W.isFn K (.ref f) = true ∧ L2H.FnH P w K mg base CX0 kO f fd ps sp ∧ Binds K fd ps [] ∧
    ∀ H a t, own H a t → (∃ dx fs, H a = some (.ins C dx fs)) ∧ ∀ H1, Same H H1 → sp [.ref a] H1 (fun v H2 => v = .str t ∧ Same H1 H2) E0
theorem OwnH.at (o : OwnH X.prog X.w X.K X.mg X.base own kO) (hot : L2H.HotC X) : OwnX X own kO := by
  obtain ⟨C, f, fd, ps, sp, at_, fn, F, hb, ho⟩ := o.ex
  obtain ⟨p, hp1, hp2⟩ := hot
  refine ⟨fun H a t h => ?_⟩
  obtain ⟨⟨dx, fs, e⟩, q⟩ := ho H a t h
  refine ⟨C, f, dx, fs, e, at_, fn, fun A pins σ s H1 n I s1 Q E fin => ?_⟩
  have h1 := q H1 s1
  have hl := F.len _ _ _ _ h1
  have bind := hb s [.ref a] I.kIn (by simpa using hl)
  rw [List.append_nil] at bind
  have env : Env0 X.prog X.w X.K X.mg X.base A X.stack s H1 := { I.env0 with frames := n.fr.trans I.env0.frames }
  obtain ⟨p1, p2, p3, p4, p5⟩ := I.pin p (List.mem_append_left _ hp2)
  have pin : L2H.PinOk X.stack H1 s p := ⟨p1, p2, fun m => (List.mem_cons.mp (I.stkSub p.1 m)).elim p3 p4, p5⟩
  refine wpAny_call (codeAny_mono (F.run A X.stack s H1 ⟨[.ref a], []⟩ [.ref a] [.ref a] _ E0 p n.room ⟨n.hn.trans hp1.1, hp1.2⟩ pin env bind (.cons rfl .nil) h1) fun r s' hq => ?_)
  match r, hq with
  | .error e, hq => exact False.elim hq
  | .ok (.ret z), hq =>
    obtain ⟨v, H', I', rv, rfl, s2⟩ := I.after hq
    obtain ⟨tk, rfl⟩ := rv
    exact fin s' H' tk I' s2
  | .ok .next, hq => exact False.elim hq
  | .ok .brk, hq => exact False.elim hq
  | .ok .cont, hq => exact False.elim hq
theorem call_reprX (o : OwnX X own kO) (bare : Bare X.A) (hr : L2H.RoomH j X.A) (hK : X.K = K := by rfl) : CallR X (.builtin "repr") (rShw K own kO j) := by
  subst hK
  intro pins s σ H xs us Q I r h
  obtain ⟨x, as, k, t, rfl, hs, hz, hk, q⟩ := h
  obtain ⟨u, rfl, ru⟩ := vals1 r
  exact repr_top o bare hs hz (hr.mono hk) I ru q
theorem call_reprS (o : OwnF X.prog X.w X.K X.mg X.base own kO) (bare : Bare X.A) (hr : Room j X.A) (hK : X.K = K := by rfl) : CallR X (.builtin "repr") (rShw K own kO j) := call_reprX (o.at hr.hd) bare (L2H.roomH_of hr) hK
end
/-- a class made with values by name; sp: its __init__ -/
structure MakK (P : Program) (w : World) (K : PySem.W.Frag) (mg : Str → Option Value) (base : Heap) (k : Nat) (x : Str) (C : Addr) (sp : Sp) (ks : List Str) (gV : List V → List V → List V) : Prop where
  ex : ∃ (f : Addr) (fd : FuncData) (ps : List Str) (g : List Value → List Value → List Value), Mk K C f ∧ FnOk P w K mg base CX0 k f fd ps sp ∧ mg x = some (.ref C) ∧ KBn K fd ps 1 ks g gV
theorem pe_mkk {X : Cx} {k j : Nat} {x : Str} {C : Addr} {sp : Sp} {ks : List Str} {gV : List V → List V → List V} {p pos : Pos} {kws : List Keyword} {tk : TA}
    (c : MakK X.prog X.w X.K X.mg X.base k x C sp ks gV) (hr : Room j X.A) (hk : k + 1 ≤ j) (hg : Gl X x) (hkw : PK X kws tk)
    (hall : (backToKw pos (keywordEach kws X.env)).all (·.1.isSome) = true := by rfl) (hks : (backToKw pos (keywordEach kws X.env)).filterMap (·.1) = ks := by rfl) (hdb : (x == ("__debug__" : Str)) = false := by decide)
    (hpl : ((backTo pos (starEach [] X.env)).any (·.1) || (backToKw pos (keywordEach kws X.env)).any (·.1.isNone)) = false := by rfl) :
    PE X (.Call (.Name x p) [] kws pos) (tMakeK C 0 ks.length sp gV E0 tNil tk) := by
  obtain ⟨f, fd, ps, g, M, F, hm, b⟩ := c.ex
  exact pe_makeK0 M F (hr.mono hk) hg hm b pass0 hkw hall hks hdb hpl
end MG

/-! Plain facts about numbers, and short words for readings -/
namespace MG
open PySem PySem.Spec PyProof.Rows L2

/-- within 10 ^ 400 -/
def Sm (i : Int) : Prop := -(10 ^ 400) < i ∧ i < 10 ^ 400
theorem big400 : (10 : Nat) ^ 400 < 2 ^ 1400 := by decide +kernel
theorem Sm.abs {i : Int} (h : Sm i) : i.natAbs < 2 ^ 1400 := by
  have h1 := h.1
  have h2 := h.2
  have h3 := big400
  have e : ((10 : Int) ^ 400) = ((10 ^ 400 : Nat) : Int) := by rw [Int.natCast_pow]; rfl
  rw [e] at h1 h2
  generalize (10 : Nat) ^ 400 = a at *
  generalize (2 : Nat) ^ 1400 = b at *
  omega
theorem sm_mul {i j : Int} (hi : Sm i) (hj : Sm j) : CMulW i j := wide_mul hi.abs hj.abs (by decide) (by decide) (by decide)
theorem sm_div {j : Int} (h : Sm j) (h0 : j ≠ 0) : j ≠ 0 ∧ j.natAbs.log2 < 9000 :=
  ⟨h0, Nat.lt_of_lt_of_le (PySem.Flt.log2_lt_of (by decide) h.abs) (by decide)⟩
theorem sm_lt {i : Int} {k : Nat} (hk : k ≤ 400) (h1 : -(10 ^ k) < i) (h2 : i < 10 ^ k) : Sm i := by
  have e : (10 : Int) ^ k ≤ 10 ^ 400 := by
    have q : (10 : Nat) ^ k ≤ 10 ^ 400 := Nat.pow_le_pow_right (by decide) hk
    have z := Int.ofNat_le.mpr q
    rw [Int.natCast_pow, Int.natCast_pow] at z
    exact z
  constructor <;> generalize (10 : Int) ^ 400 = b at * <;> omega
theorem fmod_ge {x m : Int} (h : 0 < m) : 0 ≤ x.fmod m := Int.fmod_nonneg_of_pos x h
theorem fmod_lt {x m : Int} (h : 0 < m) : x.fmod m < m := Int.fmod_lt_of_pos x h
theorem fdiv_ge {x m : Int} (hx : 0 ≤ x) (h : 0 < m) : 0 ≤ x.fdiv m := by
  rw [Int.fdiv_eq_ediv_of_nonneg x (by omega)]
  exact Int.ediv_nonneg hx (by omega)
theorem fdiv_le {x m : Int} (hx : 0 ≤ x) (h : 0 < m) : x.fdiv m ≤ x := by
  rw [Int.fdiv_eq_ediv_of_nonneg x (by omega)]
  exact Int.ediv_le_self m hx
/-- an item of a written list of ints at a reckoned index -/
theorem at_ints {l : List Int} {i : Int} (h0 : 0 ≤ i) (h : i < l.length) : ∃ z ∈ l, atI (l.map V.int) i = some (V.int z) := by
  obtain ⟨j, rfl⟩ := Int.eq_ofNat_of_zero_le h0
  have hj : j < l.length := by omega
  exact ⟨l[j], List.getElem_mem hj, atI_nat (by rw [List.getElem?_map, List.getElem?_eq_getElem hj]; rfl)⟩
end MG

/-! Fractions: what crossing out gives is the numerator and the denominator -/
namespace MG
open PySem PySem.Spec PyProof.Rows L2

/-- the divisor, of the sign of the lower one -/
def gd (a u : Int) : Int := if 0 < u then (Int.gcd a u : Int) else -(Int.gcd a u : Int)
theorem gd_ne {a u : Int} (h : u ≠ 0) : gd a u ≠ 0 := by
  have := Int.gcd_pos_of_ne_zero_right a h
  unfold gd
  split <;> omega
theorem gd_sm {a u : Int} (h : u ≠ 0) (hu : Sm u) : Sm (gd a u) := by
  have h1 : (Int.gcd a u : Nat) ≤ u.natAbs := Nat.le_of_dvd (by omega) (Int.gcd_dvd_natAbs_right a u)
  obtain ⟨h2, h3⟩ := hu
  unfold gd Sm
  generalize (10 : Int) ^ 400 = t at *
  split <;> omega
theorem lo_num {a u : Int} (h : u ≠ 0) : a.fdiv (gd a u) = (Rat.divInt a u).num := by
  have hg : (Int.gcd a u : Int) ≠ 0 := by have := Int.gcd_pos_of_ne_zero_right a h; omega
  obtain ⟨x, hx⟩ := Int.gcd_dvd_left a u
  have e1 : (a.gcd u : Int) * x / (a.gcd u : Int) = x := Int.mul_ediv_cancel_left x hg
  rw [Rat.num_divInt, Int.gcd_comm u a]
  unfold gd
  generalize (a.gcd u : Int) = g at *
  rcases Int.lt_trichotomy u 0 with hu | hu | hu
  · rw [if_neg (by omega), Int.sign_eq_neg_one_of_neg hu, hx]
    have e : g * x = -g * -x := (Int.neg_mul_neg g x).symm
    rw [e, Int.mul_fdiv_cancel_left (-x) (by omega), ← e, Int.neg_one_mul, ← Int.mul_neg, Int.mul_ediv_cancel_left _ hg]
  · exact absurd hu h
  · rw [if_pos hu, Int.sign_eq_one_of_pos hu, Int.one_mul, hx, Int.mul_fdiv_cancel_left x hg, e1]
theorem lo_den {a u : Int} (h : u ≠ 0) : u.fdiv (gd a u) = ((Rat.divInt a u).den : Int) := by
  have hg : (Int.gcd a u : Int) ≠ 0 := by have := Int.gcd_pos_of_ne_zero_right a h; omega
  obtain ⟨x, hx⟩ := Int.gcd_dvd_right a u
  rw [Rat.den_divInt, if_neg h, Int.gcd_comm u a, Int.natCast_ediv]
  have e0 : (u.natAbs : Int) = if 0 < u then u else -u := by split <;> omega
  rw [e0]
  unfold gd
  generalize (a.gcd u : Int) = g at *
  rcases Int.lt_trichotomy u 0 with hu | hu | hu
  · rw [if_neg (by omega), if_neg (by omega)]
    have e : u = -g * -x := by rw [Int.neg_mul_neg]; exact hx
    have e2 : -u = g * -x := by rw [Int.mul_neg, ← hx]
    rw [e2, Int.mul_ediv_cancel_left _ hg]
    conv => lhs; rw [e]
    exact Int.mul_fdiv_cancel_left (-x) (by omega)
  · exact absurd hu h
  · rw [if_pos hu, if_pos hu]
    conv => lhs; rw [hx]
    conv => rhs; rw [hx]
    rw [Int.mul_fdiv_cancel_left x hg, Int.mul_ediv_cancel_left _ hg]

/-- numerator and denominator below 10 ^ k -/
def Bd (p : Rat) (k : Nat) : Prop := p.num.natAbs < 10 ^ k ∧ p.den < 10 ^ k
theorem Bd.mono {p : Rat} {i j : Nat} (h : Bd p i) (hij : i ≤ j) : Bd p j := by
  have := Nat.pow_le_pow_right (show 0 < 10 by decide) hij
  exact ⟨Nat.lt_of_lt_of_le h.1 this, Nat.lt_of_lt_of_le h.2 this⟩
theorem nab {x : Nat} {i : Int} (h : i.natAbs < x) : -(x : Int) < i ∧ i < x := by omega
theorem Bd.num {p : Rat} {k : Nat} (h : Bd p k) (hk : k ≤ 400) : Sm p.num := by
  have := nab h.1
  rw [Int.natCast_pow] at this
  exact sm_lt hk this.1 this.2
theorem Bd.den {p : Rat} {k : Nat} (h : Bd p k) (hk : k ≤ 400) : Sm (p.den : Int) := by
  have := nab (i := (p.den : Int)) (x := 10 ^ k) (by have := h.2; omega)
  rw [Int.natCast_pow] at this
  exact sm_lt hk this.1 this.2
theorem divInt_num_le (a u : Int) : (Rat.divInt a u).num.natAbs ≤ a.natAbs := by
  rw [Rat.num_divInt]
  have h : (u.sign * a).natAbs ≤ a.natAbs := by
    rw [Int.natAbs_mul]
    have : u.sign.natAbs ≤ 1 := by
      rcases Int.lt_trichotomy u 0 with hu | hu | hu
      · rw [Int.sign_eq_neg_one_of_neg hu]; decide
      · rw [hu]; decide
      · rw [Int.sign_eq_one_of_pos hu]; decide
    calc u.sign.natAbs * a.natAbs ≤ 1 * a.natAbs := Nat.mul_le_mul_right _ this
      _ = a.natAbs := Nat.one_mul _
  refine Nat.le_trans ?_ h
  obtain ⟨x, hx⟩ : ((u.gcd a : Nat) : Int) ∣ u.sign * a := Int.dvd_mul_of_dvd_right (Int.gcd_dvd_right u a)
  by_cases hg : ((u.gcd a : Nat) : Int) = 0
  · rw [hg, Int.ediv_zero]
    exact Nat.zero_le _
  · rw [hx, Int.mul_ediv_cancel_left _ hg, Int.natAbs_mul]
    exact Nat.le_mul_of_pos_left _ (by omega)
theorem divInt_den_le {a u : Int} (h : u ≠ 0) : (Rat.divInt a u).den ≤ u.natAbs := by
  rw [Rat.den_divInt, if_neg h]
  exact Nat.div_le_self _ _
theorem bd_div {a u : Int} {k : Nat} (h : u ≠ 0) (ha : a.natAbs < 10 ^ k) (hu : u.natAbs < 10 ^ k) : Bd (Rat.divInt a u) k :=
  ⟨Nat.lt_of_le_of_lt (divInt_num_le a u) ha, Nat.lt_of_le_of_lt (divInt_den_le h) hu⟩
theorem add_eq (p q : Rat) : p + q = Rat.divInt (p.num * q.den + q.num * p.den) (p.den * q.den) := by
  have h1 : (p.den : Int) ≠ 0 := by have := p.den_nz; omega
  have h2 : (q.den : Int) ≠ 0 := by have := q.den_nz; omega
  rw [← Rat.divInt_add_divInt _ _ h1 h2, Rat.num_divInt_den, Rat.num_divInt_den]
theorem sub_eq (p q : Rat) : p - q = Rat.divInt (p.num * q.den - q.num * p.den) (p.den * q.den) := by
  have h1 : (p.den : Int) ≠ 0 := by have := p.den_nz; omega
  have h2 : (q.den : Int) ≠ 0 := by have := q.den_nz; omega
  rw [← Rat.divInt_sub_divInt _ _ h1 h2, Rat.num_divInt_den, Rat.num_divInt_den]
theorem mul_eq (p q : Rat) : p * q = Rat.divInt (p.num * q.num) (p.den * q.den) := by
  rw [← Rat.divInt_mul_divInt, Rat.num_divInt_den, Rat.num_divInt_den]
theorem neg_eq (p : Rat) : -p = Rat.divInt (-p.num) p.den := by
  rw [← Rat.neg_divInt, Rat.num_divInt_den]
theorem over_eq (p q : Rat) : p / q = Rat.divInt (p.num * q.den) (p.den * q.num) := by
  rw [Rat.div_def]
  conv => lhs; rw [← Rat.num_divInt_den p, ← Rat.num_divInt_den q]
  rw [Rat.inv_divInt, Rat.divInt_mul_divInt]
theorem den_ne (p q : Rat) : (p.den : Int) * q.den ≠ 0 := by
  have h1 := p.den_nz
  have h2 := q.den_nz
  exact Int.mul_ne_zero (by omega) (by omega)
theorem lt_mul {a b : Nat} {i j : Nat} (ha : a < 10 ^ i) (hb : b < 10 ^ j) : a * b < 10 ^ (i + j) := by
  rw [Nat.pow_add]
  exact Nat.mul_lt_mul'' ha hb
theorem bd_mul {p q : Rat} {i j : Nat} (hp : Bd p i) (hq : Bd q j) : Bd (p * q) (i + j) := by
  rw [mul_eq]
  refine bd_div (den_ne p q) ?_ ?_
  · rw [Int.natAbs_mul]; exact lt_mul hp.1 hq.1
  · rw [Int.natAbs_mul]; exact lt_mul hp.2 hq.2
theorem ten (k : Nat) : 10 ^ (k + 1) = 10 * 10 ^ k := by rw [Nat.pow_succ, Nat.mul_comm]
theorem bd_add {p q : Rat} {i j : Nat} (hp : Bd p i) (hq : Bd q j) : Bd (p + q) (i + j + 1) := by
  rw [add_eq]
  have h1 := lt_mul hp.1 hq.2
  have h2 := lt_mul hp.2 hq.1
  have h3 := lt_mul hp.2 hq.2
  have t := ten (i + j)
  refine bd_div (den_ne p q) ?_ ?_
  · have e1 : (p.num * q.den).natAbs = p.num.natAbs * q.den := by rw [Int.natAbs_mul]; rfl
    have e2 : (q.num * p.den).natAbs = p.den * q.num.natAbs := by rw [Int.natAbs_mul, Nat.mul_comm]; rfl
    have := Int.natAbs_add_le (p.num * q.den) (q.num * p.den)
    omega
  · have e : ((p.den : Int) * q.den).natAbs = p.den * q.den := by rw [Int.natAbs_mul]; rfl
    omega
theorem bd_neg {p : Rat} {i : Nat} (hp : Bd p i) : Bd (-p) i := by
  have e1 : (-p).num = -p.num := rfl
  have e2 : (-p).den = p.den := rfl
  unfold Bd
  rw [e1, e2, Int.natAbs_neg]
  exact hp
theorem bd_sub {p q : Rat} {i j : Nat} (hp : Bd p i) (hq : Bd q j) : Bd (p - q) (i + j + 1) := by
  rw [Rat.sub_eq_add_neg]
  exact bd_add hp (bd_neg hq)
theorem sm_of {i : Int} (h : i.natAbs < 10 ^ 390) : Sm i := by
  have := nab h
  rw [Int.natCast_pow] at this
  exact sm_lt (by decide) this.1 this.2
theorem sm_den2 {p q : Rat} {i j : Nat} (hp : Bd p i) (hq : Bd q j) (h : i + j ≤ 390) : Sm ((p.den : Int) * q.den) := by
  refine sm_of ?_
  have e : ((p.den : Int) * q.den).natAbs = p.den * q.den := by rw [Int.natAbs_mul]; rfl
  rw [e]
  exact Nat.lt_of_lt_of_le (lt_mul hp.2 hq.2) (Nat.pow_le_pow_right (by decide) h)
theorem sm_dn {p q : Rat} {i j : Nat} (hp : Bd p i) (hq : Bd q j) (h : i + j ≤ 390) : Sm ((p.den : Int) * q.num) := by
  refine sm_of ?_
  have e : ((p.den : Int) * q.num).natAbs = p.den * q.num.natAbs := by rw [Int.natAbs_mul]; rfl
  rw [e]
  exact Nat.lt_of_lt_of_le (lt_mul hp.2 hq.1) (Nat.pow_le_pow_right (by decide) h)
theorem rat_dec (p q : Rat) : decide (p = q) = (decide (p.num = q.num) && decide ((p.den : Int) = q.den)) := by
  rw [← Bool.decide_and]
  refine decide_eq_decide.mpr ⟨fun e => by rw [e]; exact ⟨rfl, rfl⟩, fun ⟨h1, h2⟩ => Rat.ext h1 (by omega)⟩
end MG

/-! Texts of pairs, lists of texts compared -/
namespace MG
open PySem PySem.Spec PyProof.Rows L2

theorem all_append {x y : Str} (f : Nat → Bool) : (x ++ y).cps.all f = (x.cps.all f && y.cps.all f) := by
  show (x.cps ++ y.cps).all f = _
  exact Array.all_append
theorem ok_append {x y : Str} (hx : PyData.strOk x = true) (hy : PyData.strOk y = true) : PyData.strOk (x ++ y) = true := by
  unfold PyData.strOk at *
  rw [all_append, hx, hy]
  rfl
theorem ok_of (s : String) : PyData.strOk (Str.ofString s) = true := by
  unfold PyData.strOk
  rw [← Array.all_toList, signs_ofString, List.all_map, List.all_eq_true]
  intro c _
  have h := c.valid
  refine decide_eq_true ?_
  rcases h with h | ⟨_, h⟩
  · exact Nat.lt_trans h (by decide)
  · exact h
/-- repr((a, b)) -/
def shw (a b : Int) : Str := (PyData.tuple [.int a, .int b]).shown
theorem shw_eq (a b : Int) : shw a b = tupleText [toString a, toString b] := rfl
theorem ok_shw (a b : Int) : PyData.strOk (shw a b) = true := by
  show PyData.strOk (("(" : Str) ++ (Str.ofString (toString a) ++ (", " : Str) ++ Str.ofString (toString b)) ++ (")" : Str)) = true
  exact ok_append (ok_append (ok_of _) (ok_append (ok_append (ok_of _) (ok_of _)) (ok_of _))) (ok_of _)
theorem log_sm {i : Int} (h : Sm i) : i.natAbs.log2 < 1920 := Nat.lt_of_lt_of_le (PySem.Flt.log2_lt_of (by decide) h.abs) (by decide)
theorem txt_len {i : Int} (h : Sm i) : (Str.ofString (toString i)).length ≤ 1921 := by
  rw [PySem.ofString_length]
  exact int_text_length_le (k := 1920) (by decide) (log_sm h)
theorem shw_len {a b : Int} (ha : Sm a) (hb : Sm b) : (shw a b).length ≤ 4000 := by
  have h := tupleText_len_le [Str.ofString (toString a), Str.ofString (toString b)]
  have h1 := txt_len ha
  have h2 := txt_len hb
  simp only [List.map_cons, List.map_nil, List.sum_cons, List.sum_nil, List.length_cons, List.length_nil] at h
  have e : shw a b = tupleText [Str.ofString (toString a), Str.ofString (toString b)] := rfl
  rw [e]
  omega
theorem pair_ok {K : PySem.W.Frag} {H : Hp} {t : Addr} {a b : Int} (h : SqT K H t [.int a, .int b]) (ha : Sm a) (hb : Sm b) : Dp K H (.ref t) (.tuple [.int a, .int b]) ∧ (PyData.tuple [.int a, .int b]).showable = true ∧
    (PyData.tuple [.int a, .int b]).hasDict = false ∧ (PyData.tuple [.int a, .int b]).depth ≤ 60 ∧ (PyData.tuple [.int a, .int b]).shown.length ≤ sizeLine := by
  refine ⟨.tup h (.cons (.int a) (.cons (.int b) .nil)), ?_, rfl, ?_, ?_⟩
  · simp [PyData.showable, PyData.showableAll, log_sm ha, log_sm hb]
  · simp [PyData.depth, PyData.depthAll]
  · exact Nat.le_trans (shw_len ha hb) (by decide)
/-- the same, the data unnamed -/
theorem pair_ex {K : PySem.W.Frag} {H : Hp} {t : Addr} {a b : Int} (h : SqT K H t [.int a, .int b]) (ha : Sm a) (hb : Sm b) : ∃ d, Dp K H (.ref t) d ∧ d.showable = true ∧ d.hasDict = false ∧ d.depth ≤ 60 ∧ d.shown.length ≤ sizeLine ∧ d.shown = shw a b := by
  obtain ⟨r1, r2, r3, r4, r5⟩ := pair_ok h ha hb
  exact ⟨_, r1, r2, r3, r4, r5, rfl⟩
/-- what repr of a pair of ints asks -/
theorem repr_pair {K : PySem.W.Frag} {H : Hp} {t : Addr} {a b : Int} {Q : VK} (h : SqT K H t [.int a, .int b]) (ha : Sm a) (hb : Sm b) (k : Q (.str (shw a b)) H) : rRepr K [.ref t] H Q := by
  refine ⟨.ref t, .tuple [.int a, .int b], rfl, .tup h (.cons (.int a) (.cons (.int b) .nil)), ?_, rfl, ?_, ?_, k⟩
  · simp [PyData.showable, PyData.showableAll, log_sm ha, log_sm hb]
  · simp [PyData.depth, PyData.depthAll]
  · exact Nat.le_trans (shw_len ha hb) (by decide)
theorem dp_strs {K : PySem.W.Frag} {H : Hp} {a : Addr} {ss : List Str} (h : SqL K H a (ss.map V.str)) : Dp K H (.ref a) (.list (ss.map .str)) := by
  refine .lst h ?_
  induction ss with
  | nil => exact .nil
  | cons s ss ih => exact .cons (.str s) (all_dp ss)
where all_dp : ∀ ss : List Str, DpAll K H (ss.map V.str) (ss.map PyData.str)
  | [] => .nil
  | s :: ss => .cons (.str s) (all_dp ss)
theorem sh_strs {ss : List Str} (h : ∀ s ∈ ss, PyData.strOk s = true) : SeqAt.shaped (.list (ss.map .str)) = true := by
  unfold SeqAt.shaped
  rw [Bool.and_eq_true]
  refine ⟨?_, ?_⟩
  · show PyData.canLayAll0 (ss.map .str) = true
    rw [canLayAll_strs', List.all_eq_true]
    exact h
  · refine decide_eq_true ?_
    show PyData.depthAll (ss.map .str) + 1 ≤ 64
    rw [depthAll_strs']
    decide
/-- two lists of the same texts -/
theorem ne_strs {K : PySem.W.Frag} {H : Hp} {a b : Addr} {ss : List Str} {Q : VK} (ha : SqL K H a (ss.map V.str)) (hb : SqL K H b (ss.map V.str)) (h : ∀ s ∈ ss, PyData.strOk s = true) (k : Q (.bl false) H) : rNeD K (.ref a) (.ref b) H Q := by
  have sh := sh_strs h
  refine ⟨_, _, dp_strs ha, dp_strs hb, sh, sh, ?_⟩
  have e := SeqAt.eqv_refl (.list (ss.map .str)) (SeqAt.canLay_of_shaped sh)
  rw [e]
  exact k
theorem eq_strs {K : PySem.W.Frag} {H : Hp} {a b : Addr} {ss : List Str} {Q : VK} (ha : SqL K H a (ss.map V.str)) (hb : SqL K H b (ss.map V.str)) (h : ∀ s ∈ ss, PyData.strOk s = true) (k : Q (.bl true) H) : rEqD K (.ref a) (.ref b) H Q := by
  have sh := sh_strs h
  refine ⟨_, _, dp_strs ha, dp_strs hb, sh, sh, ?_⟩
  have e := SeqAt.eqv_refl (.list (ss.map .str)) (SeqAt.canLay_of_shaped sh)
  rw [e]
  exact k
end MG

namespace Lw
open PySem PySem.Spec PyProof.Rows L2 MG
def top (i : Nat) : Stmt := PySem.Challenge.pw_matrixforms_k08_whole_inverses_of_matric.main.body.getD i (.Pass ⟨0, 0, 0, 0⟩)
abbrev s__law_purse : Stmt := top 35
abbrev s__law_draw : Stmt := top 36
abbrev s__law_common : Stmt := top 37
abbrev s__law_lowest : Stmt := top 38
abbrev s__law_from : Stmt := top 50
structure Blt (mg : Str → Option Value) : Prop where
  b_int : mg "int" = none
  b_len : mg "len" = none
  b_abs : mg "abs" = none
  b_range : mg "range" = none
  b_max : mg "max" = none
  b_min : mg "min" = none
  b_all : mg "all" = none
  b_repr : mg "repr" = none
  b_isinstance : mg "isinstance" = none
  b_bool : mg "bool" = none
  b_str : mg "str" = none
  b_any : mg "any" = none
  b_tuple : mg "tuple" = none
  b_list : mg "list" = none
  b_sum : mg "sum" = none
  b_zip : mg "zip" = none
  b_enumerate : mg "enumerate" = none

/-- the cells, the next one, what is left of the last one, the turns -/
structure QAt (H : Hp) (q : Addr) (n : Nat) : Prop where
  ex : ∃ (c : Addr) (ns : List Int) (i r t : Int), H q = some (.lst [.ref c, .int i, .int r, .int t]) ∧ H c = some (.lst (ns.map V.int)) ∧
    (∀ z ∈ ns, 0 ≤ z ∧ z < 10 ^ 120) ∧ ns.length ≤ 100000 ∧ (0 ≤ i ∧ i ≤ n) ∧ (0 ≤ r ∧ r < 10 ^ 120) ∧ (0 ≤ t ∧ t ≤ n)
def spDraw : Sp := fun vs H Q _ => ∃ (q : Addr) (m : Int) (n : Nat), vs = [.ref q, .int m] ∧ QAt H q n ∧ n ≤ 100000 ∧ 0 < m ∧ m < 10 ^ 30 ∧
  ∀ (r : Int) (H' : Hp), 0 ≤ r → r < m → Keep q H H' → QAt H' q (n + 1) → Q (.int r) H'
theorem cells_ne {H : Hp} {q c : Addr} {ns : List Int} {i r t : Int} (hq : H q = some (.lst [.ref c, .int i, .int r, .int t])) (hc : H c = some (.lst (ns.map V.int))) : c ≠ q :=
  ne_of hc hq (by
    intro e
    have e2 := HO.lst.inj e
    cases ns with
    | nil => cases e2
    | cons a b => cases e2)
def primes : List Int := [1000003, 1299709, 2750159, 3497861, 4256233, 5800079, 6700417, 7368787, 8460041, 9576901, 15485863]
theorem primes_ok {z : Int} (h : z ∈ primes) : 0 < z ∧ z ≤ 15485863 := by
  simp only [primes, List.mem_cons, List.not_mem_nil, or_false] at h
  omega
theorem prime_at {i : Int} (h0 : 0 ≤ i) (h : i < 11) : ∃ z, atI ([.int 1000003, .int 1299709, .int 2750159, .int 3497861, .int 4256233, .int 5800079, .int 6700417, .int 7368787, .int 8460041, .int 9576901, .int 15485863] : List V) i = some (.int z) ∧ 0 < z ∧ z ≤ 15485863 := by
  obtain ⟨z, hz, e⟩ := at_ints (l := primes) h0 (by show i < 11; exact h)
  exact ⟨z, e, primes_ok hz⟩
section
variable {P : Program} {w : World} {K : PySem.W.Frag} {mg : Str → Option Value} {base : Heap}
theorem sc__law_draw : FnScope ["_law_q", "_law_many", "_law_digit", "_law_cells_here", "_law_cell", "_law_turn_here", "_law_primes", "_law_blend"] ["_law_q", "_law_many"] (defScope s__law_draw) := ⟨rfl, rfl, rfl, by decide +kernel, rfl, by decide +kernel, by decide +kernel⟩
theorem ok_draw {f : Addr} {fd : FuncData} (F : Fun K "_law_draw" "_law_draw" s__law_draw f fd) (T : Blt mg) : FnG P w K mg base CX0 2 f fd ["_law_q", "_law_many"] spDraw := by
  refine fun_okG F sc__law_draw (fun vs H Q E h => ?_) (fun cdv A outer s H vs Q E bare hr h => ?_)
  · obtain ⟨q, m, n, rfl, _⟩ := h
    rfl
  · obtain ⟨q, m, n, rfl, ⟨c, ns, i, r, t, hq, hc, hz, hl, ⟨hi0, hi⟩, ⟨hr0, hr1⟩, ⟨ht0, ht⟩⟩, hn, hm0, hm, k⟩ := h
    have ncq := cells_ne hq hc
    have smm : Sm m := sm_lt (k := 30) (by decide) (by omega) hm
    refine ⟨_, (pss_cons (ps_if (pt_cmpR op_gt (pe_ix (ix_listK (K := K)) (pv 0) pe_int (fun _ _ => rfl)) pe_int (nomark _)) (pss_cons (ps_set (i := 2) sc__law_draw.nd rfl (Or.inl rfl) (pe_op op_modN (pe_callTy call_int1 (by rfl) T.b_int (by decide +kernel) (pa_cons (pe_ix (ix_listK (K := K)) (pv 0) pe_int (fun _ _ => rfl)) pa_nil)) (pv 1)))
  (pss_cons (ps_asg (pe_op op_fdivZ (pe_ix (ix_listK (K := K)) (pv 0) pe_int (fun _ _ => rfl)) (pv 1)) (pg_sub (pv 0) pe_int set_list))
  (pss_one (ps_ret (pv 2)))))
  pss_nil)
  (pss_cons (ps_set (i := 3) sc__law_draw.nd rfl (Or.inl rfl) (pe_cut (pe_ifExp (pt_truth (pe_ix (ix_listK (K := K)) (pv 0) pe_int (fun _ _ => rfl)) (by intro _; rfl)) (pe_ix (ix_listK (K := K)) (pv 0) pe_int (fun _ _ => rfl)) (pe_lst (pa_cons pe_int pa_nil)))))
  (pss_cons (ps_set (i := 4) sc__law_draw.nd rfl (Or.inl rfl) (pe_ix (ix_listK (K := K)) (pv 3) (pe_op op_modN (pe_callTy call_int1 (by rfl) T.b_int (by decide +kernel) (pa_cons (pe_ix (ix_listK (K := K)) (pv 0) pe_int (fun _ _ => rfl)) pa_nil)) (pe_callB (id := "len") call_len_seq (by rfl) T.b_len (by decide +kernel) (pa_cons (pv 3) pa_nil))) (fun _ _ => rfl)))
  (pss_cons (ps_asg (pe_op op_add (pe_ix (ix_listK (K := K)) (pv 0) pe_int (fun _ _ => rfl)) pe_int) (pg_sub (pv 0) pe_int set_list))
  (pss_cons (ps_if (pt_cmpR op_ge (pv 4) (pe_op op_pow pe_int pe_int) (nomark _)) (pss_cons (ps_asg (pe_op op_fdivZ (pv 4) (pv 1)) (pg_sub (pv 0) pe_int set_list))
  (pss_one (ps_ret (pe_op op_modN (pe_callTy call_int1 (by rfl) T.b_int (by decide +kernel) (pa_cons (pv 4) pa_nil)) (pv 1)))))
  pss_nil)
  (pss_cons (ps_set (i := 5) sc__law_draw.nd rfl (Or.inl rfl) (pe_ix (ix_listK (K := K)) (pv 0) pe_int (fun _ _ => rfl)))
  (pss_cons (ps_asg (pe_op op_add (pv 5) pe_int) (pg_sub (pv 0) pe_int set_list))
  (pss_cons (ps_set (i := 6) sc__law_draw.nd rfl (Or.inl rfl) (pe_lst (pa_cons pe_int (pa_cons pe_int (pa_cons pe_int (pa_cons pe_int (pa_cons pe_int (pa_cons pe_int (pa_cons pe_int (pa_cons pe_int (pa_cons pe_int (pa_cons pe_int (pa_cons pe_int pa_nil)))))))))))))
  (pss_cons (ps_set (i := 7) sc__law_draw.nd rfl (Or.inl rfl) (pe_op op_modN (pe_callTy call_int1 (by rfl) T.b_int (by decide +kernel) (pa_cons (pe_op op_add (pe_op op_mulW (pe_op op_add (pv 4) pe_int) pe_int) (pe_op op_mulW (pe_op op_mulW (pe_op op_add (pv 5) pe_int) (pe_op op_add (pv 5) pe_int)) pe_int)) pa_nil)) (pe_ix (ix_listK (K := K)) (pv 6) (pe_op op_modN (pe_callTy call_int1 (by rfl) T.b_int (by decide +kernel) (pa_cons (pv 5) pa_nil)) pe_int) (fun _ _ => rfl))))
  (pss_cons (ps_set (i := 7) sc__law_draw.nd rfl (Or.inl rfl) (pe_op op_modN (pe_callTy call_int1 (by rfl) T.b_int (by decide +kernel) (pa_cons (pe_op op_add (pe_op op_pow (pv 7) pe_int) (pe_op op_mulW (pv 5) pe_int)) pa_nil)) pe_int))
  (pss_one (ps_ret (pe_op op_modN (pe_callTy call_int1 (by rfl) T.b_int (by decide +kernel) (pa_cons (pe_op op_fdivZ (pv 7) pe_int) pa_nil)) (pv 1)))))))))))))), ?_⟩
    -- if q[2] > 0
    refine ⟨_, rfl, q, _, _, _, rfl, rfl, SqL.of hq, rfl, _, _, rfl, rfl, _, rfl, ?_⟩
    refine ite2 (fun hpos => ?_) (fun hpos => ?_)
    · -- digit = int(q[2]) % many; q[2] = q[2] // many; return digit
      refine ⟨_, rfl, q, _, _, _, rfl, rfl, SqL.of hq, rfl, Or.inl ⟨_, rfl, _, rfl, _, _, rfl, rfl, by omega, ?_⟩⟩
      refine ⟨_, rfl, q, _, _, _, rfl, rfl, SqL.of hq, rfl, _, rfl, _, _, rfl, rfl, sm_div smm (by omega), ?_⟩
      refine ⟨_, rfl, q, _, _, _, rfl, rfl, hq, rfl, ?_⟩
      refine ⟨_, rfl, ?_⟩
      refine k _ _ (fmod_ge hm0) (fmod_lt hm0) (Keep.refl.upd hq) ⟨c, ns, i, _, t, upd_same, ?_, hz, hl, ⟨hi0, by omega⟩, ⟨fdiv_ge hr0 hm0, Int.lt_of_le_of_lt (fdiv_le hr0 hm0) hr1⟩, ⟨ht0, by omega⟩⟩
      rw [upd_ne ncq]
      exact hc
    · -- cells = q[0] if q[0] else [0]
      refine ⟨fun v H' => ∃ (c' : Addr) (ns' : List Int), v = .ref c' ∧ H' c' = some (.lst (ns'.map V.int)) ∧ ns' ≠ [] ∧ ns'.length ≤ 100000 ∧ (∀ z ∈ ns', 0 ≤ z ∧ z < 10 ^ 120) ∧ c' ≠ q ∧ Same H H', ?_, ?_⟩
      · refine ⟨_, rfl, q, _, _, _, rfl, rfl, SqL.of hq, rfl, _, Or.inl ⟨_, SqL.of hc, rfl⟩, ?_⟩
        cases ns with
        | nil =>
          refine iteF ?_
          refine ⟨by show 1 ≤ sizeLine; decide, fun p hp => ?_⟩
          refine ⟨p, [0], rfl, upd_same, by simp, by decide, by decide, ?_, MG.Same.new (Same.refl H) hp⟩
          exact (ne_of_none hq hp).symm
        | cons z ns =>
          refine iteT ?_
          exact ⟨_, rfl, q, _, _, _, rfl, rfl, SqL.of hq, rfl, c, z :: ns, rfl, hc, by simp, hl, hz, ncq, Same.refl H⟩
      rintro v H1 ⟨c', ns', rfl, hc', hne, hl', hz', ncq', s1⟩
      have hq1 := s1 _ _ hq
      have hlen : 0 < (ns'.length : Int) := by
        have : 0 < ns'.length := List.length_pos_iff.mpr hne
        omega
      -- cell = cells[int(q[1]) % len(cells)]
      have hlm : ((ns'.map V.int).length : Int) = ns'.length := by rw [List.length_map]
      obtain ⟨z, hzm, ez⟩ := at_ints (l := ns') (i := i.fmod ((ns'.map V.int).length : Int)) (fmod_ge (by omega)) (by rw [hlm]; exact fmod_lt hlen)
      obtain ⟨z0, z1⟩ := hz' z hzm
      refine ⟨_, rfl, _, rfl, q, _, _, _, rfl, rfl, SqL.of hq1, rfl, Or.inl ⟨_, rfl, _, rfl, c', _, rfl, Or.inl (SqL.of hc'), _, _, rfl, rfl, by omega, ?_⟩⟩
      refine ⟨c', _, _, _, rfl, rfl, SqL.of hc', ez, ?_⟩
      -- q[1] = q[1] + 1
      refine ⟨_, rfl, q, _, _, _, rfl, rfl, SqL.of hq1, rfl, _, _, rfl, rfl, ?_⟩
      refine ⟨_, rfl, q, _, _, _, rfl, rfl, hq1, rfl, ?_⟩
      -- if cell >= 10 ** 18
      refine ⟨_, rfl, _, _, rfl, rfl, ⟨by decide, by decide, by decide⟩, _, _, rfl, rfl, _, rfl, ?_⟩
      have smz : Sm z := sm_lt (k := 120) (by decide) (by omega) z1
      have nc1 : ∀ {o : HO}, upd H1 q o c = some (.lst (ns.map V.int)) := fun {o} => by rw [upd_ne ncq]; exact s1 _ _ hc
      refine ite2 (fun hbig => ?_) (fun hbig => ?_)
      · refine ⟨_, rfl, _, rfl, _, _, rfl, rfl, sm_div smm (by omega), ?_⟩
        refine ⟨_, rfl, q, _, _, _, rfl, rfl, upd_same, rfl, ?_⟩
        refine ⟨_, rfl, Or.inl ⟨_, rfl, _, rfl, _, _, rfl, rfl, by omega, ?_⟩⟩
        refine k _ _ (fmod_ge hm0) (fmod_lt hm0) (((Same.keep s1).upd hq).upd hq) ⟨c, ns, _, _, t, upd_same, ?_, hz, hl, ⟨by omega, by omega⟩, ⟨fdiv_ge z0 hm0, Int.lt_of_le_of_lt (fdiv_le z0 hm0) z1⟩, ⟨ht0, by omega⟩⟩
        rw [upd_ne ncq]
        exact nc1
      · -- turn = q[3]; q[3] = turn + 1
        refine ⟨_, rfl, q, _, _, _, rfl, rfl, SqL.of upd_same, rfl, ?_⟩
        refine ⟨_, rfl, _, _, rfl, rfl, ?_⟩
        refine ⟨_, rfl, q, _, _, _, rfl, rfl, upd_same, rfl, ?_⟩
        -- primes
        refine ⟨by show 11 ≤ sizeLine; decide, fun p hp => ?_⟩
        have hp' : H1 p = none := by
          have npq : p ≠ q := fun e => by rw [e, upd_same] at hp; cases hp
          rw [upd_ne npq, upd_ne npq] at hp
          exact hp
        -- blend = int((cell + 1) * 48271 + (turn + 1) * (turn + 7) * 69621) % primes[int(turn) % 11]
        obtain ⟨y, ey, y0, y1⟩ := prime_at (i := t.fmod 11) (fmod_ge (by decide)) (fmod_lt (by decide))
        have st : ∀ a : Int, 0 ≤ a → a ≤ 1000000 → Sm a := fun a h0 h1 => sm_lt (k := 7) (by decide) (by omega) (by omega)
        have hm1 : Sm ((t + 1) * (t + 7)) := by
          have h1 : (t + 1) * (t + 7) ≤ 200000 * 200000 := Int.mul_le_mul (by omega) (by omega) (by omega) (by omega)
          have h2 : 0 ≤ (t + 1) * (t + 7) := Int.mul_nonneg (by omega) (by omega)
          exact sm_lt (k := 20) (by decide) (by omega) (by omega)
        refine ⟨_, rfl, _, _, rfl, rfl, _, _, rfl, rfl, sm_mul (sm_lt (k := 121) (by decide) (by omega) (by omega)) (st _ (by decide) (by decide)), ?_⟩
        refine ⟨_, rfl, _, _, rfl, rfl, _, rfl, _, _, rfl, rfl, _, _, rfl, rfl, sm_mul (st _ (by omega) (by omega)) (st _ (by omega) (by omega)), _, _, rfl, rfl, sm_mul hm1 (st _ (by decide) (by decide)), ?_⟩
        refine ⟨_, _, rfl, rfl, Or.inl ⟨_, rfl, ?_⟩⟩
        refine ⟨_, rfl, _, rfl, Or.inl ⟨_, rfl, _, _, rfl, rfl, (show (11 : Int) ≠ 0 by decide), p, _, _, _, rfl, rfl, SqL.of upd_same, ey, _, _, rfl, rfl, by omega, ?_⟩⟩
        -- blend = int(blend ** 3 + turn * 40503) % 2147483647
        have b0 := fmod_ge (x := (z + 1) * 48271 + (t + 1) * (t + 7) * 69621) y0
        have b1 := fmod_lt (x := (z + 1) * 48271 + (t + 1) * (t + 7) * 69621) y0
        refine ⟨_, rfl, _, _, rfl, rfl, ⟨by decide, by decide, ?_⟩, _, rfl, _, _, rfl, rfl, sm_mul (st _ (by omega) (by omega)) (st _ (by decide) (by decide)), _, _, rfl, rfl, Or.inl ⟨_, rfl, _, _, rfl, rfl, (show (2147483647 : Int) ≠ 0 by decide), ?_⟩⟩
        · show ((((z + 1) * 48271 + (t + 1) * (t + 7) * 69621).fmod y).natAbs < 2 ^ 64)
          generalize ((z + 1) * 48271 + (t + 1) * (t + 7) * 69621).fmod y = b at *
          omega
        -- return int(blend // 32) % many
        refine ⟨_, rfl, _, _, rfl, rfl, ⟨by decide, by decide⟩, Or.inl ⟨_, rfl, _, rfl, _, _, rfl, rfl, by omega, ?_⟩⟩
        refine k _ _ (fmod_ge hm0) (fmod_lt hm0) ((((Same.keep s1).upd hq).upd hq).new hp) ⟨c, ns, i + 1, r, t + 1, ?_, ?_, hz, hl, ⟨by omega, by omega⟩, ⟨hr0, hr1⟩, ⟨by omega, by omega⟩⟩
        · rw [upd_ne (fun e => by rw [← e, upd_same] at hp; cases hp)]
          exact upd_same
        · rw [upd_ne (ne_of_none (s1 _ _ hc) hp'), upd_ne ncq]
          exact nc1

theorem QAt.keep {H H' : Hp} {q : Addr} {n : Nat} (h : QAt H q n) (s : Same H H') : QAt H' q n := by
  obtain ⟨c, ns, i, r, t, hq, hc, h⟩ := h
  exact ⟨c, ns, i, r, t, s _ _ hq, s _ _ hc, h⟩
theorem QAt.at_ {H : Hp} {q : Addr} {n : Nat} (h : QAt H q n) : ∃ o, H q = some o := by
  obtain ⟨c, ns, i, r, t, hq, hc, h⟩ := h
  exact ⟨_, hq⟩
theorem QAt.ne {H : Hp} {q p : Addr} {n : Nat} (h : QAt H q n) (hp : H p = none) : p ≠ q := by
  obtain ⟨o, e⟩ := h.at_
  exact (ne_of_none e hp).symm
theorem QAt.new {H : Hp} {q p : Addr} {n : Nat} {o : HO} (h : QAt H q n) (hp : H p = none) : QAt (upd H p o) q n := h.keep (MG.Same.new (Same.refl H) hp)

abbrev DrawC (P : Program) (w : World) (K : PySem.W.Frag) (mg : Str → Option Value) (base : Heap) : Prop := CalG P w K mg base 2 "_law_draw" spDraw []
theorem signs_ok : ∀ z ∈ ([1, -1] : List Int), z = 1 ∨ z = -1 := by decide
/-! ### _law_common, _law_lowest -/
def spCommon : Sp := fun vs H Q _ => ∃ a b : Int, vs = [.int a, .int b] ∧ Q (.int (Int.gcd a b : Nat)) H
theorem gcd_step {x y : Nat} : Nat.gcd y (x % y) = Nat.gcd x y := by
  rw [Nat.gcd_comm x y, Nat.gcd_rec y x, Nat.gcd_comm]
theorem sc__law_common : FnScope ["_law_one", "_law_two", "_law_high", "_law_low_here"] ["_law_one", "_law_two"] (defScope s__law_common) := ⟨rfl, rfl, rfl, by decide +kernel, rfl, by decide +kernel, by decide +kernel⟩
theorem ok_common {f : Addr} {fd : FuncData} (F : Fun K "_law_common" "_law_common" s__law_common f fd) (T : Blt mg) : FnG P w K mg base CX0 2 f fd ["_law_one", "_law_two"] spCommon := by
  refine fun_okG F sc__law_common (fun vs H Q E h => ?_) (fun cdv A outer s H vs Q E bare hr h => ?_)
  · obtain ⟨a, b, rfl, _⟩ := h
    rfl
  · obtain ⟨a, b, rfl, k⟩ := h
    refine ⟨_, (pss_cons (ps_par (i := 2) (j := 3) (by rfl) sc__law_common.nd rfl rfl (by decide) rfl rfl (pa_cons (pe_callB (id := "abs") call_abs (by rfl) T.b_abs (by decide +kernel) (pa_cons (pv 0) pa_nil)) (pa_cons (pe_callB (id := "abs") call_abs (by rfl) T.b_abs (by decide +kernel) (pa_cons (pv 1) pa_nil)) pa_nil)) (by rfl))
  (pss_cons (ps_while PassesOwn.never (pt_cmpR op_gt (pv 3) pe_int (nomark _)) (pss_one (ps_par (i := 2) (j := 3) (by rfl) sc__law_common.nd rfl rfl (by decide) rfl rfl (pa_cons (pv 3) (pa_cons (pe_op op_modN (pe_callTy call_int1 (by rfl) T.b_int (by decide +kernel) (pa_cons (pv 2) pa_nil)) (pv 3)) pa_nil)) (by rfl))))
  (pss_one (ps_ret (pv 2))))), ?_⟩
    refine ⟨_, rfl, _, rfl, _, rfl, _, rfl, _, _, rfl, ?_⟩
    refine while_by (fun σ H' => H' = H ∧ ∃ x y : Nat, σ = [some (.int a), some (.int b), some (.int x), some (.int y)] ∧ Nat.gcd x y = Int.gcd a b) (fun (σ : L2.St) (_ : Hp) => match σ[3]? with | some (some (V.int y)) => y.toNat | _ => 0) ?_ ?_ ?_
    · refine ⟨rfl, a.natAbs, b.natAbs, ?_, rfl⟩
      have e : ∀ z : Int, (if z < 0 then -z else z) = (z.natAbs : Int) := fun z => by split <;> omega
      show [some (V.int a), some (V.int b), some (V.int (if a < 0 then -a else a)), some (V.int (if b < 0 then -b else b))] = _
      rw [e, e]
    · rintro σ H' ⟨rfl, x, y, rfl, hg⟩
      refine ⟨_, rfl, _, _, rfl, rfl, _, rfl, ?_⟩
      refine ite2 (fun hy => ?_) (fun hy => ?_)
      · have hy' : 0 < (y : Int) := of_decide_eq_true hy
        refine ⟨_, rfl, _, rfl, Or.inl ⟨_, rfl, _, rfl, _, _, rfl, rfl, by omega, _, _, rfl, ?_⟩⟩
        have e : (x : Int).fmod (y : Int) = ((x % y : Nat) : Int) := by
          rw [Int.fmod_eq_emod_of_nonneg (x : Int) (by omega)]
          exact (Int.natCast_emod x y).symm
        refine ⟨⟨rfl, y, x % y, ?_, gcd_step.trans hg⟩, ?_⟩
        · show [some (V.int a), some (V.int b), some (V.int (y : Int)), some (V.int ((x : Int).fmod (y : Int)))] = _
          rw [e]
        · show ((x : Int).fmod (y : Int)).toNat < (y : Int).toNat
          have h1 := fmod_lt (x := (x : Int)) hy'
          omega
      · have hy' : ¬ 0 < (y : Int) := fun z => hy (decide_eq_true z)
        have y0 : y = 0 := by omega
        subst y0
        refine ⟨_, rfl, ?_⟩
        rw [Nat.gcd_zero_right] at hg
        rw [hg]
        exact k
    · rintro σ H' Q1 Q2 hq ⟨v, e, i, j, e1, e2, b', e3, q⟩
      exact ⟨v, e, i, j, e1, e2, b', e3, hq _ _ q⟩
abbrev CommonC (P : Program) (w : World) (K : PySem.W.Frag) (mg : Str → Option Value) (base : Heap) : Prop := CalG P w K mg base 2 "_law_common" spCommon []
def spLowest : Sp := fun vs H Q _ => ∃ a u : Int, vs = [.int a, .int u] ∧ u ≠ 0 ∧ Sm u ∧
  ∀ p, H p = none → Q (.ref p) (upd H p (.tup [.int (Rat.divInt a u).num, .int (Rat.divInt a u).den]))
theorem sc__law_lowest : FnScope ["_law_high", "_law_under", "_law_both"] ["_law_high", "_law_under"] (defScope s__law_lowest) := ⟨rfl, rfl, rfl, by decide +kernel, rfl, by decide +kernel, by decide +kernel⟩
theorem ok_lowest {f : Addr} {fd : FuncData} (F : Fun K "_law_lowest" "_law_lowest" s__law_lowest f fd) (c_common : CommonC P w K mg base) : FnG P w K mg base CX0 4 f fd ["_law_high", "_law_under"] spLowest := by
  refine fun_okG F sc__law_lowest (fun vs H Q E h => ?_) (fun cdv A outer s H vs Q E bare hr h => ?_)
  · obtain ⟨a, b, rfl, _⟩ := h
    rfl
  · obtain ⟨a, u, rfl, hu, su, k⟩ := h
    refine ⟨_, (pss_cons (ps_set (i := 2) sc__law_lowest.nd rfl (Or.inl rfl) (pe_cut (pe_ifExp (pt_cmpR op_gt (pv 1) pe_int (nomark _)) (pe_cg c_common bare hr (by decide) rfl (pa_cons (pv 0) (pa_cons (pv 1) pa_nil))) (pe_un un_neg (pe_cg c_common bare hr (by decide) rfl (pa_cons (pv 0) (pa_cons (pv 1) pa_nil)))))))
  (pss_one (ps_ret (pe_tup (pa_cons (pe_op op_fdivZ (pv 0) (pv 2)) (pa_cons (pe_op op_fdivZ (pv 1) (pv 2)) pa_nil)))))), ?_⟩
    refine ⟨fun v H' => v = .int (gd a u) ∧ H' = H, ?_, ?_⟩
    · refine ⟨_, rfl, _, _, rfl, rfl, _, rfl, ?_⟩
      refine ite2 (fun h => ?_) (fun h => ?_)
      · refine ⟨_, rfl, _, rfl, a, u, rfl, ?_, rfl⟩
        unfold gd
        rw [if_pos (of_decide_eq_true h)]
      · refine ⟨_, rfl, _, rfl, a, u, rfl, _, rfl, ?_, rfl⟩
        unfold gd
        rw [if_neg (fun z => h (decide_eq_true z))]
    · rintro v H' ⟨rfl, rfl⟩
      have s := sm_div (gd_sm (a := a) hu su) (gd_ne hu)
      refine ⟨_, rfl, _, rfl, _, _, rfl, rfl, s, _, rfl, _, rfl, _, _, rfl, rfl, s, by show 2 ≤ sizeLine; decide, fun p hp => ?_⟩
      have kk := k p hp
      rw [← lo_num hu, ← lo_den hu] at kk
      exact kk

/-! ### _law_purse, _law_from -/
def spPurse (K : PySem.W.Frag) : Sp := fun vs H Q _ => ∃ (a : Addr) (ns : List Int), vs = [.ref a] ∧ SqL K H a (ns.map V.int) ∧ ns.length ≤ 100000 ∧
  ∀ q H', H q = none → Same H H' → QAt H' q 0 → Q (.ref q) H'
theorem sc__law_purse : FnScope ["_law_script", "_law_cell"] ["_law_script"] (defScope s__law_purse) := ⟨rfl, rfl, rfl, by decide +kernel, rfl, by decide +kernel, by decide +kernel⟩
theorem ok_purse {f : Addr} {fd : FuncData} (F : Fun K "_law_purse" "_law_purse" s__law_purse f fd) (T : Blt mg) : FnG P w K mg base CX0 2 f fd ["_law_script"] (spPurse K) := by
  refine fun_okG F sc__law_purse (fun vs H Q E h => ?_) (fun cdv A outer s H vs Q E bare hr h => ?_)
  · obtain ⟨a, ns, rfl, _⟩ := h
    rfl
  · obtain ⟨a, ns, rfl, hS, hl, k⟩ := h
    refine ⟨_, (pss_one (ps_ret (pe_lst (pa_cons (pe_map (K := K) (j := 1) (pe_lc (own := [("_law_cell", 1)]) (g := gName 1) (tt := tYes) rfl sc__law_purse.nd (pi_list (pe_cut (pv 0))) (blkOk_by (N := ["_law_script", "_law_cell"]) (sc := defScope s__law_purse) (by decide +kernel)) (fun _ _ _ _ _ => (pg_name (i := 1) sc__law_purse.nd rfl (Or.inl rfl))) (fun _ _ _ _ _ => pts_nil) (fun _ _ _ _ _ => (pe_cut (pe_op op_modN (pe_callTy call_int1 (by rfl) T.b_int (by decide +kernel) (pa_cons (pv 1) pa_nil)) (pe_op op_mulW (pe_op op_pow pe_int pe_int) (pe_op op_pow pe_int pe_int))))))) (pa_cons pe_int (pa_cons pe_int (pa_cons pe_int pa_nil))))))), ?_⟩
    refine ⟨_, rfl, a, ns.map V.int, (ns.map fun z => z.fmod (10 ^ Int.toNat 60 * 10 ^ Int.toNat 60)).map V.int, rfl, hS, by simp, by simpa using hl, ?_, fun D H1 s1 hD e1 => ?_⟩
    · intro i x y H' hx hy s'
      rw [List.getElem?_map] at hx
      rw [List.getElem?_map, List.getElem?_map] at hy
      cases e : ns[i]? with
      | none => rw [e] at hx; cases hx
      | some z =>
        rw [e] at hx hy
        obtain rfl := (Option.some.inj hx).symm
        obtain rfl := (Option.some.inj hy).symm
        refine ⟨_, rfl, Or.inl ⟨_, rfl, _, _, rfl, rfl, ⟨by decide, by decide, by decide⟩, _, _, rfl, rfl, ⟨by decide, by decide, by decide⟩, _, _, rfl, rfl, sm_mul (sm_lt (k := 61) (by decide) (by decide) (by decide)) (sm_lt (k := 61) (by decide) (by decide) (by decide)), _, _, rfl, rfl, (show (10 : Int) ^ Int.toNat 60 * 10 ^ Int.toNat 60 ≠ 0 by decide), ?_⟩⟩
        exact ⟨rfl, Same.refl _⟩
    · refine ⟨by show 4 ≤ sizeLine; decide, fun q hq => ?_⟩
      have nq : D ≠ q := ne_of_none e1 hq
      have hq' : H q = none := s1.free hq
      refine k q _ hq' (MG.Same.new s1 hq) ⟨D, _, 0, 0, 0, upd_same, (by rw [upd_ne nq]; exact e1), ?_, (by simpa using hl), by decide, by decide, by decide⟩
      intro y hy
      obtain ⟨z, _, rfl⟩ := List.mem_map.mp hy
      have e : (10 : Int) ^ Int.toNat 60 * 10 ^ Int.toNat 60 = 10 ^ 120 := by decide
      rw [e]
      exact ⟨fmod_ge (by decide), fmod_lt (by decide)⟩
abbrev PurseC (P : Program) (w : World) (K : PySem.W.Frag) (mg : Str → Option Value) (base : Heap) : Prop := CalG P w K mg base 2 "_law_purse" (spPurse K) []
theorem cut_map (ns : List Int) (lo hi : Option Int) : ∃ zs : List Int, cutV (ns.map V.int) lo hi = zs.map V.int ∧ zs.length ≤ ns.length := by
  refine ⟨(ns.drop (HT.sIx ns.length 0 lo)).take (HT.sIx ns.length ns.length hi - HT.sIx ns.length 0 lo), ?_, ?_⟩
  · unfold cutV
    rw [List.length_map, List.map_take, List.map_drop]
  · rw [List.length_take, List.length_drop]
    omega
def spFrom (K : PySem.W.Frag) : Sp := fun vs H Q _ => ∃ (a : Addr) (ns : List Int) (j : Int), vs = [.ref a, .int j] ∧ SqL K H a (ns.map V.int) ∧ ns.length ≤ 1000 ∧
  ∀ q H', H q = none → Same H H' → QAt H' q 0 → Q (.ref q) H'
theorem sc__law_from : FnScope ["_law_script", "_law_k"] ["_law_script", "_law_k"] (defScope s__law_from) := ⟨rfl, rfl, rfl, by decide +kernel, rfl, by decide +kernel, by decide +kernel⟩
theorem ok_from {f : Addr} {fd : FuncData} (F : Fun K "_law_from" "_law_from" s__law_from f fd) (c_purse : PurseC P w K mg base) : FnG P w K mg base CX0 4 f fd ["_law_script", "_law_k"] (spFrom K) := by
  refine fun_okG F sc__law_from (fun vs H Q E h => ?_) (fun cdv A outer s H vs Q E bare hr h => ?_)
  · obtain ⟨a, ns, j, rfl, _⟩ := h
    rfl
  · obtain ⟨a, ns, j, rfl, hS, hl, k⟩ := h
    obtain ⟨z1, e1, l1⟩ := cut_map ns (some j) none
    obtain ⟨z2, e2, l2⟩ := cut_map ns none (some j)
    refine ⟨_, (pss_one (ps_ret (pe_cg c_purse bare hr (by decide) rfl (pa_cons (pe_op op_cat (pe_slice sl_list (pv 0) (po_some (pv 1)) po_none) (pe_slice sl_list (pv 0) po_none (po_some (pv 1)))) pa_nil)))), ?_⟩
    refine ⟨_, rfl, _, rfl, j, rfl, a, _, rfl, hS, fun p hp => ?_⟩
    have s1 : Same H (upd H p (.lst (cutV (ns.map V.int) (some j) none))) := MG.Same.new (Same.refl H) hp
    refine ⟨_, rfl, _, rfl, j, rfl, a, _, rfl, s1.seq hS, fun p2 hp2 => ?_⟩
    have n12 : p ≠ p2 := ne_of_none upd_same hp2
    have s2 := MG.Same.new (o := .lst (cutV (ns.map V.int) none (some j))) s1 hp2
    refine ⟨p, p2, _, _, rfl, rfl, by rw [upd_ne n12]; exact upd_same, upd_same, ?_, fun p3 hp3 => ?_⟩
    · rw [e1, e2, List.length_map, List.length_map]
      exact Nat.le_trans (m := 2000) (by omega) (by decide)
    · refine ⟨p3, z1 ++ z2, rfl, ?_, by rw [List.length_append]; omega, fun q H' hq s q0 => ?_⟩
      · refine SqL.of ?_
        rw [upd_same, e1, e2, List.map_append]
      · have s3 := MG.Same.new (o := .lst (cutV (ns.map V.int) (some j) none ++ cutV (ns.map V.int) none (some j))) s2 hp3
        exact k q H' (s3.free hq) (s3.trans s) q0
end
end Lw

namespace Lw
open PySem PySem.Spec PyProof.Rows L2 MG
abbrev s_is_whole : Stmt := top 15
abbrev s_is_number : Stmt := top 16
abbrev s_to_ratio : Stmt := top 17
abbrev s_Ratio___init__ : Stmt := inClass (top 19) 0
abbrev s_Ratio_top : Stmt := inClass (top 19) 1
abbrev s_Ratio_bottom : Stmt := inClass (top 19) 2
abbrev s_Ratio_over : Stmt := inClass (top 19) 4
abbrev s_Ratio___add__ : Stmt := inClass (top 19) 5
abbrev s_Ratio___sub__ : Stmt := inClass (top 19) 6
abbrev s_Ratio___mul__ : Stmt := inClass (top 19) 7
abbrev s_Ratio___neg__ : Stmt := inClass (top 19) 8
abbrev s_Ratio___eq__ : Stmt := inClass (top 19) 9
abbrev s_Ratio___bool__ : Stmt := inClass (top 19) 10
abbrev s_Ratio___str__ : Stmt := inClass (top 19) 11
abbrev s_Ratio___repr__ : Stmt := inClass (top 19) 12
/-- what the top says of the class Ratio, at C -/
structure TxR (K : PySem.W.Frag) (mg : Str → Option Value) (C : Addr) : Prop extends Blt mg where
  cl : Cls K C
  nT : NoAttr K C "_top"
  nB : NoAttr K C "_bottom"
  g_Ratio : mg "Ratio" = some (.ref C)
  g_gcd : mg "gcd" = some (.builtin "math.gcd")
  ca : PySem.W.findIn K (.ref C) "__class__" = some (some (.builtin "object.__class__"))
  cn : PySem.W.specialIn K (.builtin "object.__class__") "__get__" = some (some (.builtin "getset_descriptor.__get__"))
  ct : PySem.W.takesIn K (.builtin "object.__class__") = some true
  cm : PySem.W.mroIn K C (.type "object") = some true
  kI : PySem.W.kitOne K (.ref C) (.type "int") = some false
  kB : PySem.W.kitOne K (.ref C) (.type "bool") = some false
  kC : PySem.W.kitOne K (.ref C) (.ref C) = some true
  iC : PySem.W.kitOne K (.type "int") (.ref C) = some false
def flds (p : Rat) : List (Str × V) := [("_top", .int p.num), ("_bottom", .int p.den)]
theorem kn : ¬ (("_top" : Str) = "_bottom") := by decide +kernel
theorem flds_put (a b : Int) : putF "_bottom" (.int b) (putF "_top" (.int a) []) = ([("_top", .int a), ("_bottom", .int b)] : List (Str × V)) := by
  show (if ("_top" : Str) = "_bottom" then _ else (("_top" : Str), V.int a) :: putF "_bottom" (V.int b) []) = _
  rw [if_neg kn]
  rfl
theorem flds_top (p : Rat) : (flds p).lookup ("_top" : Str) = some (.int p.num) := by simp [flds, List.lookup]
theorem flds_bottom (p : Rat) : (flds p).lookup ("_bottom" : Str) = some (.int p.den) := by
  have h : (("_bottom" : Str) == "_top") = false := by decide +kernel
  simp [flds, List.lookup, h]
theorem flds_no (p : Rat) {m : Str} (h1 : (m == ("_top" : Str)) = false) (h2 : (m == ("_bottom" : Str)) = false) : (flds p).lookup m = none := by
  simp [flds, List.lookup, h1, h2]
/-- a Ratio of the value p stands at r -/
def RatAt (C : Addr) (H : Hp) (r : Addr) (p : Rat) : Prop := ∃ dx, H r = some (.ins C dx (flds p))
theorem RatAt.same {C : Addr} {H H' : Hp} {r : Addr} {p : Rat} (h : RatAt C H r p) (s : Same H H') : RatAt C H' r p := h.elim fun dx e => ⟨dx, s _ _ e⟩
theorem RatAt.tyx {K : PySem.W.Frag} {mg : Str → Option Value} {C : Addr} {H : Hp} {r : Addr} {p : Rat} (T : TxR K mg C) (h : RatAt C H r p) : TyX K H (.ref r) (.ref C) :=
  h.elim fun dx e => .base (.ins e T.cl T.ca T.cn T.ct T.cm)
theorem tyx_int {K : PySem.W.Frag} {H : Hp} (i : Int) : TyX K H (.int i) (.type "int") := .base (.int i)
section
variable {P : Program} {w : World} {K : PySem.W.Frag} {mg : Str → Option Value} {base : Heap} {C : Addr}
/-! ### is_whole, is_number -/
def spWhole (K : PySem.W.Frag) : Sp := fun vs H Q _ => ∃ (x : V) (t : Value) (b1 b2 : Bool), vs = [x] ∧ TyX K H x t ∧
  PySem.W.kitOne K t (.type "int") = some b1 ∧ PySem.W.kitOne K t (.type "bool") = some b2 ∧ Q (.bl (b1 && !b2)) H
theorem sc_is_whole : FnScope ["value"] ["value"] (defScope s_is_whole) := ⟨rfl, rfl, rfl, by decide +kernel, rfl, by decide +kernel, by decide +kernel⟩
theorem ok_whole {f : Addr} {fd : FuncData} (F : Fun K "is_whole" "is_whole" s_is_whole f fd) (T : Blt mg) : FnOk P w K mg base CX0 2 f fd ["value"] (spWhole K) := by
  refine F.ok sc_is_whole (fun vs H Q E h => ?_) (fun cdv A outer s H vs Q E hr h => ?_)
  · obtain ⟨x, t, b1, b2, rfl, _⟩ := h
    rfl
  · obtain ⟨x, t, b1, b2, rfl, tx, k1, k2, k⟩ := h
    refine ⟨_, (pss_one (ps_ret (pe_and (pe_callB (id := "isinstance") (call_isiK (K := K)) (by rfl) T.b_isinstance (by decide +kernel) (pa_cons (pv 0) (pa_cons (pe_bltn (v := V.ty "int") (u := Value.type "int") (by rfl) T.b_int (by decide +kernel) rfl) pa_nil))) (pe_one (pe_not (pe_callB (id := "isinstance") (call_isiK (K := K)) (by rfl) T.b_isinstance (by decide +kernel) (pa_cons (pv 0) (pa_cons (pe_bltn (v := V.ty "bool") (u := Value.type "bool") (by rfl) T.b_bool (by decide +kernel) rfl) pa_nil)))))))), ?_⟩
    refine ⟨_, rfl, x, _, _, _, _, rfl, .ty "int", tx, k1, _, rfl, ?_⟩
    cases b1 with
    | false => exact iteF k
    | true =>
      refine iteT ?_
      refine ⟨_, rfl, x, _, _, _, _, rfl, .ty "bool", tx, k2, _, rfl, ?_⟩
      exact k
abbrev WholeC (P : Program) (w : World) (K : PySem.W.Frag) (mg : Str → Option Value) (base : Heap) : Prop := CalF P w K mg base 2 "is_whole" (spWhole K) []
def spNumber (K : PySem.W.Frag) (C : Addr) : Sp := fun vs H Q _ => ∃ (x : V) (t : Value) (b1 b2 b3 : Bool), vs = [x] ∧ TyX K H x t ∧
  PySem.W.kitOne K t (.type "int") = some b1 ∧ PySem.W.kitOne K t (.type "bool") = some b2 ∧ PySem.W.kitOne K t (.ref C) = some b3 ∧ Q (.bl ((b1 && !b2) || b3)) H
theorem sc_is_number : FnScope ["value"] ["value"] (defScope s_is_number) := ⟨rfl, rfl, rfl, by decide +kernel, rfl, by decide +kernel, by decide +kernel⟩
theorem ok_number {f : Addr} {fd : FuncData} (F : Fun K "is_number" "is_number" s_is_number f fd) (T : TxR K mg C) (c_whole : WholeC P w K mg base) : FnOk P w K mg base CX0 4 f fd ["value"] (spNumber K C) := by
  refine F.ok sc_is_number (fun vs H Q E h => ?_) (fun cdv A outer s H vs Q E hr h => ?_)
  · obtain ⟨x, t, b1, b2, b3, rfl, _⟩ := h
    rfl
  · obtain ⟨x, t, b1, b2, b3, rfl, tx, k1, k2, k3, k⟩ := h
    refine ⟨_, (pss_one (ps_ret (pe_or (pe_cf c_whole hr (by decide) rfl (pa_cons (pv 0) pa_nil)) (pe_one (pe_callB (id := "isinstance") (call_isiK (K := K)) (by rfl) T.b_isinstance (by decide +kernel) (pa_cons (pv 0) (pa_cons (pe_glob (v := V.ref C) rfl T.g_Ratio rfl) pa_nil))))))), ?_⟩
    refine ⟨_, rfl, x, t, b1, b2, rfl, tx, k1, k2, _, rfl, ?_⟩
    cases e : (b1 && !b2) with
    | true =>
      refine iteT ?_
      rw [e] at k
      exact k
    | false =>
      refine iteF ?_
      rw [e] at k
      exact ⟨_, rfl, x, _, _, _, _, rfl, .own C, tx, k3, k⟩
abbrev NumberC (P : Program) (w : World) (K : PySem.W.Frag) (mg : Str → Option Value) (base : Heap) (C : Addr) : Prop := CalF P w K mg base 4 "is_number" (spNumber K C) []
/-! ### Ratio(top, bottom), where both are integers and the bottom is not 0 -/
def spInit (C : Addr) : Sp := fun vs H Q _ => ∃ (r dx : Addr) (a b : Int), vs = [.ref r, .int a, .int b] ∧ H r = some (.ins C dx []) ∧ b ≠ 0 ∧ Sm b ∧
  ∀ H', H' r = some (.ins C dx (flds (Rat.divInt a b))) → (∀ c o, H c = some o → c ≠ r → H' c = some o) → Q .non H'
theorem sc_Ratio___init__ : FnScope ["self", "top", "bottom", "given", "shared"] ["self", "top", "bottom"] (defScope s_Ratio___init__) := ⟨rfl, rfl, rfl, by decide +kernel, rfl, by decide +kernel, by decide +kernel⟩
theorem ok_init {f : Addr} {fd : FuncData} {dvs : List V} (F : FunD K "__init__" "Ratio.__init__" (defArgs s_Ratio___init__) (defBody s_Ratio___init__) (defScope s_Ratio___init__) dvs [] f fd) (T : TxR K mg C) (c_whole : WholeC P w K mg base) : FnOk P w K mg base CX0 4 f fd ["self", "top", "bottom"] (spInit C) := by
  refine F.ok sc_Ratio___init__ (fun vs H Q E h => ?_) (fun cdv A outer s H vs Q E hr h => ?_)
  · obtain ⟨r, dx, a, b, rfl, _⟩ := h
    rfl
  · obtain ⟨r, dx, a, b, rfl, hr0, hb, sb, k⟩ := h
    suffices hh : ∃ t, PSs (cxOf CX0 P w K mg base ["self", "top", "bottom", "given", "shared"] "Ratio.__init__" (defScope s_Ratio___init__) f cdv A outer s H E).nox (defBody s_Ratio___init__) t ∧ t { nx := fun _ H' => Q .non H', rt := Q } (start ["self", "top", "bottom", "given", "shared"] [.ref r, .int a, .int b]) H by
      obtain ⟨t, h1, h2⟩ := hh
      exact ⟨t, h1.nox, h2⟩
    refine ⟨_, (pss_cons (ps_for PassesOwn.never rfl (pi_tup (pe_tup (pa_cons (pv 1) (pa_cons (pv 2) pa_nil)))) (pg_name (i := 3) sc_Ratio___init__.nd rfl (Or.inl rfl))
  (pss_one (ps_if (pt_not (pt_val (pe_cf c_whole hr (by decide) rfl (pa_cons (pv 3) pa_nil)))) (pss_one ps_never)
  pss_nil)))
  (pss_cons (ps_if (pt_cmpR op_eq (pv 2) pe_int (nomark _)) (pss_one ps_never)
  pss_nil)
  (pss_cons (ps_set (i := 4) sc_Ratio___init__.nd rfl (Or.inl rfl) (pe_callBfun cr_gcd rfl T.g_gcd (pa_cons (pv 1) (pa_cons (pv 2) pa_nil))))
  (pss_cons (ps_cut (ps_if (pt_cmpR op_lt (pv 2) pe_int (nomark _)) (pss_one (ps_set (i := 4) sc_Ratio___init__.nd rfl (Or.inl rfl) (pe_un un_neg (pv 4))))
  pss_nil))
  (pss_cons (ps_fld (pv 0) (pe_op op_fdivZ (pv 1) (pv 4)) rfl)
  (pss_one (ps_fld (pv 0) (pe_op op_fdivZ (pv 2) (pv 4)) rfl))))))), ?_⟩
    -- for given in (top, bottom)
    refine ⟨_, rfl, _, rfl, by show 2 ≤ sizeLine; decide, fun t ht => ⟨t, rfl, ⟨_, SqT.of upd_same⟩, ?_⟩⟩
    have s1 : Same H (upd H t (.tup [.int a, .int b])) := MG.Same.new (Same.refl H) ht
    refine for_tup (K := K) (a := t) (xs := [.int a, .int b]) (fun i σ H' => H' = upd H t (.tup [.int a, .int b]) ∧ ∃ v : Option V, σ = [some (.ref r), some (.int a), some (.int b), v, none]) ⟨rfl, none, rfl⟩ ?_ ?_ ?_
    · rintro i σ H' _ ⟨rfl, _⟩
      exact SqT.of upd_same
    · rintro i x σ H' hx ⟨rfl, v, rfl⟩
      obtain ⟨z, rfl⟩ : ∃ z, x = V.int z := by
        match i, hx with
        | 0, hx => exact ⟨a, (Option.some.inj hx).symm⟩
        | 1, hx => exact ⟨b, (Option.some.inj hx).symm⟩
      refine ⟨_, rfl, _, _, true, false, rfl, tyx_int z, kit_ty (by decide +kernel), kit_ty (by decide +kernel), _, rfl, ?_⟩
      exact ⟨rfl, _, rfl⟩
    · rintro σ H' ⟨rfl, v, rfl⟩
      -- if bottom == 0
      refine ⟨_, rfl, rfl, _, rfl, ?_⟩
      refine ite2 (fun z => ?_) (fun _ => ?_)
      · exact absurd (V.int.inj (of_decide_eq_true z)) hb
      -- shared = gcd(top, bottom); if bottom < 0: shared = -shared
      refine ⟨_, rfl, _, rfl, a, b, rfl, ?_⟩
      refine ⟨fun σ H' => H' = upd H t (.tup [.int a, .int b]) ∧ σ = [some (.ref r), some (.int a), some (.int b), v, some (.int (gd a b))], ?_, ?_⟩
      · refine ⟨_, rfl, _, _, rfl, rfl, _, rfl, ?_⟩
        refine ite2 (fun z => ?_) (fun z => ?_)
        · refine ⟨_, rfl, _, rfl, rfl, ?_⟩
          have hz : b < 0 := of_decide_eq_true z
          unfold gd
          rw [if_neg (by omega)]
          rfl
        · refine ⟨rfl, ?_⟩
          have hz : ¬ b < 0 := fun q => z (decide_eq_true q)
          unfold gd
          rw [if_pos (by omega)]
          rfl
      rintro σ H' ⟨rfl, rfl⟩
      have ds := sm_div (gd_sm (a := a) hb sb) (gd_ne hb)
      have hr1 := s1 _ _ hr0
      -- self._top = top // shared; self._bottom = bottom // shared
      refine ⟨_, rfl, _, rfl, _, _, rfl, rfl, ds, _, rfl, r, C, dx, _, rfl, hr1, T.cl, T.nT, (by show 0 < 1000; decide), ?_⟩
      refine ⟨_, rfl, _, rfl, _, _, rfl, rfl, ds, _, rfl, r, C, dx, _, rfl, upd_same, T.cl, T.nB, (by show 1 < 1000; decide), ?_⟩
      refine k _ ?_ fun c o hc hne => ?_
      · rw [upd_same, flds_put, lo_num hb, lo_den hb]
        rfl
      · rw [upd_ne hne, upd_ne hne]
        exact s1 _ _ hc
abbrev Rat2C (P : Program) (w : World) (K : PySem.W.Frag) (mg : Str → Option Value) (base : Heap) (C : Addr) : Prop := MakF P w K mg base 4 "Ratio" C (spInit C) []
abbrev Rat1C (P : Program) (w : World) (K : PySem.W.Frag) (mg : Str → Option Value) (base : Heap) (C : Addr) : Prop := MakF P w K mg base 4 "Ratio" C (spInit C) [.int 1]
/-- the reading of Ratio(a, b) -/
theorem make_rat {H : Hp} {a b : Int} {Q : VK} (hb : b ≠ 0) (sb : Sm b) (k : ∀ r H', H r = none → Same H H' → RatAt C H' r (Rat.divInt a b) → Q (.ref r) H') :
    ∀ x dx, H x = none → H dx = none → dx ≠ x → spInit C [.ref x, .int a, .int b] (upd (upd H dx (.own x)) x (.ins C dx [])) (fun v H2 => v = .non ∧ Q (.ref x) H2) E0 := by
  intro x dx hx hdx hne
  refine ⟨x, dx, a, b, rfl, upd_same, hb, sb, fun H' e kp => ⟨rfl, k x H' hx (fun c o hc => ?_) ⟨dx, e⟩⟩⟩
  have n1 := ne_of_none hc hx
  have n2 := ne_of_none hc hdx
  exact kp c o (by rw [upd_ne n1, upd_ne n2]; exact hc) n1
/-! ### to_ratio -/
/-- a number: a Ratio, or an int -/
def NumAt (C : Addr) (H : Hp) (y : V) (q : Rat) : Prop := (∃ r, y = .ref r ∧ RatAt C H r q) ∨ ∃ z : Int, y = .int z ∧ q = Rat.divInt z 1
theorem NumAt.same {H H' : Hp} {y : V} {q : Rat} (h : NumAt C H y q) (s : Same H H') : NumAt C H' y q := by
  rcases h with ⟨r, e, h⟩ | h
  · exact .inl ⟨r, e, h.same s⟩
  · exact .inr h
theorem NumAt.is {H : Hp} {y : V} {q : Rat} (T : TxR K mg C) (h : NumAt C H y q) : ∃ t b1 b2 b3, TyX K H y t ∧ PySem.W.kitOne K t (.type "int") = some b1 ∧ PySem.W.kitOne K t (.type "bool") = some b2 ∧
    PySem.W.kitOne K t (.ref C) = some b3 ∧ ((b1 && !b2) || b3) = true := by
  rcases h with ⟨r, rfl, h⟩ | ⟨z, rfl, _⟩
  · exact ⟨_, _, _, _, h.tyx T, T.kI, T.kB, T.kC, rfl⟩
  · exact ⟨_, true, false, _, tyx_int z, kit_ty (by decide +kernel), kit_ty (by decide +kernel), T.iC, rfl⟩
def spTo (C : Addr) : Sp := fun vs H Q _ => ∃ (y : V) (q : Rat), vs = [y] ∧ NumAt C H y q ∧ ∀ r H', Same H H' → RatAt C H' r q → Q (.ref r) H'
theorem sc_to_ratio : FnScope ["number"] ["number"] (defScope s_to_ratio) := ⟨rfl, rfl, rfl, by decide +kernel, rfl, by decide +kernel, by decide +kernel⟩
theorem ok_to {f : Addr} {fd : FuncData} (F : Fun K "to_ratio" "to_ratio" s_to_ratio f fd) (T : TxR K mg C) (m_rat1 : Rat1C P w K mg base C) : FnOk P w K mg base CX0 6 f fd ["number"] (spTo C) := by
  refine F.ok sc_to_ratio (fun vs H Q E h => ?_) (fun cdv A outer s H vs Q E hr h => ?_)
  · obtain ⟨y, q, rfl, _⟩ := h
    rfl
  · obtain ⟨y, q, rfl, hy, k⟩ := h
    refine ⟨_, (pss_cons (ps_if (pt_val (pe_callB (id := "isinstance") (call_isiK (K := K)) (by rfl) T.b_isinstance (by decide +kernel) (pa_cons (pv 0) (pa_cons (pe_glob (v := V.ref C) rfl T.g_Ratio rfl) pa_nil)))) (pss_one (ps_ret (pv 0)))
  pss_nil)
  (pss_one (ps_ret (pe_mkf m_rat1 hr (by decide) rfl (pa_cons (pv 0) pa_nil))))), ?_⟩
    rcases hy with ⟨r, rfl, h⟩ | ⟨z, rfl, rfl⟩
    · refine ⟨_, rfl, _, _, _, _, _, rfl, .own C, h.tyx T, T.kC, _, rfl, ?_⟩
      refine iteT ?_
      exact ⟨_, rfl, k r H (Same.refl H) h⟩
    · refine ⟨_, rfl, _, _, _, _, _, rfl, .own C, tyx_int z, T.iC, _, rfl, ?_⟩
      refine iteF ?_
      refine ⟨_, rfl, ?_⟩
      exact make_rat (by decide) (sm_lt (k := 1) (by decide) (by decide) (by decide)) fun r H' _ s h => k r H' s h
abbrev ToC (P : Program) (w : World) (K : PySem.W.Frag) (mg : Str → Option Value) (base : Heap) (C : Addr) : Prop := CalF P w K mg base 6 "to_ratio" (spTo C) []

/-! ### the operators -/
def spBin (C : Addr) (g : Rat → Rat → Rat) : Sp := fun vs H Q _ => ∃ (r : Addr) (y : V) (p q : Rat), vs = [.ref r, y] ∧ RatAt C H r p ∧ NumAt C H y q ∧ Bd p 150 ∧ Bd q 150 ∧
  ∀ r' H', Same H H' → RatAt C H' r' (g p q) → Q (.ref r') H'
theorem sc_Ratio___add__ : FnScope ["self", "other", "more", "top"] ["self", "other"] (defScope s_Ratio___add__) := ⟨rfl, rfl, rfl, by decide +kernel, rfl, by decide +kernel, by decide +kernel⟩
theorem ok_add {f : Addr} {fd : FuncData} (F : Fun K "__add__" "Ratio.__add__" s_Ratio___add__ f fd) (T : TxR K mg C) (c_number : NumberC P w K mg base C) (c_to : ToC P w K mg base C) (m_rat2 : Rat2C P w K mg base C) : FnOk P w K mg base CX0 8 f fd ["self", "other"] (spBin C fun p q => p + q) := by
  refine F.ok sc_Ratio___add__ (fun vs H Q E h => ?_) (fun cdv A outer s H vs Q E hr h => ?_)
  · obtain ⟨r, y, p, q, rfl, _⟩ := h
    rfl
  · obtain ⟨r, y, p, q, rfl, hp, hy, bp, bq, k⟩ := h
    refine ⟨_, (pss_cons (ps_if (pt_not (pt_val (pe_cf c_number hr (by decide) rfl (pa_cons (pv 1) pa_nil)))) (pss_one ps_never)
  pss_nil)
  (pss_cons (ps_set (i := 2) sc_Ratio___add__.nd rfl (Or.inl rfl) (pe_cf c_to hr (by decide) rfl (pa_cons (pv 1) pa_nil)))
  (pss_cons (ps_set (i := 3) sc_Ratio___add__.nd rfl (Or.inl rfl) (pe_op op_add (pe_op op_mulW (pe_fld (pv 0) rfl) (pe_fld (pv 2) rfl)) (pe_op op_mulW (pe_fld (pv 2) rfl) (pe_fld (pv 0) rfl))))
  (pss_one (ps_ret (pe_mkf m_rat2 hr (by decide) rfl (pa_cons (pv 3) (pa_cons (pe_op op_mulW (pe_fld (pv 0) rfl) (pe_fld (pv 2) rfl)) pa_nil)))))))), ?_⟩
    obtain ⟨ty, b1, b2, b3, h1, h2, h3, h4, h5⟩ := hy.is T
    refine ⟨_, rfl, y, ty, b1, b2, b3, rfl, h1, h2, h3, h4, _, rfl, ?_⟩
    rw [h5]
    refine iteF ?_
    refine ⟨_, rfl, y, q, rfl, hy, fun r2 H1 s1 h2 => ?_⟩
    obtain ⟨d1, e1⟩ := hp.same s1
    obtain ⟨d2, e2⟩ := id h2
    refine ⟨_, rfl, r, C, d1, _, _, rfl, e1, T.cl, T.nT, flds_top p, _, rfl, r2, C, d2, _, _, rfl, e2, T.cl, T.nB, flds_bottom q, _, _, rfl, rfl, sm_mul (bp.num (by decide)) (bq.den (by decide)), ?_⟩
    refine ⟨_, rfl, r2, C, d2, _, _, rfl, e2, T.cl, T.nT, flds_top q, _, rfl, r, C, d1, _, _, rfl, e1, T.cl, T.nB, flds_bottom p, _, _, rfl, rfl, sm_mul (bq.num (by decide)) (bp.den (by decide)), _, _, rfl, rfl, ?_⟩
    refine ⟨_, rfl, _, rfl, r, C, d1, _, _, rfl, e1, T.cl, T.nB, flds_bottom p, _, rfl, r2, C, d2, _, _, rfl, e2, T.cl, T.nB, flds_bottom q, _, _, rfl, rfl, sm_mul (bp.den (by decide)) (bq.den (by decide)), ?_⟩
    refine make_rat (den_ne p q) (sm_den2 bp bq (by decide)) fun r' H' _ s h => k r' H' (s1.trans s) ?_
    show RatAt C H' r' (p + q)
    rw [add_eq]
    exact h
theorem sc_Ratio___sub__ : FnScope ["self", "other", "less", "top"] ["self", "other"] (defScope s_Ratio___sub__) := ⟨rfl, rfl, rfl, by decide +kernel, rfl, by decide +kernel, by decide +kernel⟩
theorem ok_sub {f : Addr} {fd : FuncData} (F : Fun K "__sub__" "Ratio.__sub__" s_Ratio___sub__ f fd) (T : TxR K mg C) (c_number : NumberC P w K mg base C) (c_to : ToC P w K mg base C) (m_rat2 : Rat2C P w K mg base C) : FnOk P w K mg base CX0 8 f fd ["self", "other"] (spBin C fun p q => p - q) := by
  refine F.ok sc_Ratio___sub__ (fun vs H Q E h => ?_) (fun cdv A outer s H vs Q E hr h => ?_)
  · obtain ⟨r, y, p, q, rfl, _⟩ := h
    rfl
  · obtain ⟨r, y, p, q, rfl, hp, hy, bp, bq, k⟩ := h
    refine ⟨_, (pss_cons (ps_if (pt_not (pt_val (pe_cf c_number hr (by decide) rfl (pa_cons (pv 1) pa_nil)))) (pss_one ps_never)
  pss_nil)
  (pss_cons (ps_set (i := 2) sc_Ratio___sub__.nd rfl (Or.inl rfl) (pe_cf c_to hr (by decide) rfl (pa_cons (pv 1) pa_nil)))
  (pss_cons (ps_set (i := 3) sc_Ratio___sub__.nd rfl (Or.inl rfl) (pe_op op_sub (pe_op op_mulW (pe_fld (pv 0) rfl) (pe_fld (pv 2) rfl)) (pe_op op_mulW (pe_fld (pv 2) rfl) (pe_fld (pv 0) rfl))))
  (pss_one (ps_ret (pe_mkf m_rat2 hr (by decide) rfl (pa_cons (pv 3) (pa_cons (pe_op op_mulW (pe_fld (pv 0) rfl) (pe_fld (pv 2) rfl)) pa_nil)))))))), ?_⟩
    obtain ⟨ty, b1, b2, b3, h1, h2, h3, h4, h5⟩ := hy.is T
    refine ⟨_, rfl, y, ty, b1, b2, b3, rfl, h1, h2, h3, h4, _, rfl, ?_⟩
    rw [h5]
    refine iteF ?_
    refine ⟨_, rfl, y, q, rfl, hy, fun r2 H1 s1 h2 => ?_⟩
    obtain ⟨d1, e1⟩ := hp.same s1
    obtain ⟨d2, e2⟩ := id h2
    refine ⟨_, rfl, r, C, d1, _, _, rfl, e1, T.cl, T.nT, flds_top p, _, rfl, r2, C, d2, _, _, rfl, e2, T.cl, T.nB, flds_bottom q, _, _, rfl, rfl, sm_mul (bp.num (by decide)) (bq.den (by decide)), ?_⟩
    refine ⟨_, rfl, r2, C, d2, _, _, rfl, e2, T.cl, T.nT, flds_top q, _, rfl, r, C, d1, _, _, rfl, e1, T.cl, T.nB, flds_bottom p, _, _, rfl, rfl, sm_mul (bq.num (by decide)) (bp.den (by decide)), _, _, rfl, rfl, ?_⟩
    refine ⟨_, rfl, _, rfl, r, C, d1, _, _, rfl, e1, T.cl, T.nB, flds_bottom p, _, rfl, r2, C, d2, _, _, rfl, e2, T.cl, T.nB, flds_bottom q, _, _, rfl, rfl, sm_mul (bp.den (by decide)) (bq.den (by decide)), ?_⟩
    refine make_rat (den_ne p q) (sm_den2 bp bq (by decide)) fun r' H' _ s h => k r' H' (s1.trans s) ?_
    show RatAt C H' r' (p - q)
    rw [sub_eq]
    exact h
theorem sc_Ratio___mul__ : FnScope ["self", "other", "factor"] ["self", "other"] (defScope s_Ratio___mul__) := ⟨rfl, rfl, rfl, by decide +kernel, rfl, by decide +kernel, by decide +kernel⟩
theorem ok_mul {f : Addr} {fd : FuncData} (F : Fun K "__mul__" "Ratio.__mul__" s_Ratio___mul__ f fd) (T : TxR K mg C) (c_number : NumberC P w K mg base C) (c_to : ToC P w K mg base C) (m_rat2 : Rat2C P w K mg base C) : FnOk P w K mg base CX0 8 f fd ["self", "other"] (spBin C fun p q => p * q) := by
  refine F.ok sc_Ratio___mul__ (fun vs H Q E h => ?_) (fun cdv A outer s H vs Q E hr h => ?_)
  · obtain ⟨r, y, p, q, rfl, _⟩ := h
    rfl
  · obtain ⟨r, y, p, q, rfl, hp, hy, bp, bq, k⟩ := h
    refine ⟨_, (pss_cons (ps_if (pt_not (pt_val (pe_cf c_number hr (by decide) rfl (pa_cons (pv 1) pa_nil)))) (pss_one ps_never)
  pss_nil)
  (pss_cons (ps_set (i := 2) sc_Ratio___mul__.nd rfl (Or.inl rfl) (pe_cf c_to hr (by decide) rfl (pa_cons (pv 1) pa_nil)))
  (pss_one (ps_ret (pe_mkf m_rat2 hr (by decide) rfl (pa_cons (pe_op op_mulW (pe_fld (pv 0) rfl) (pe_fld (pv 2) rfl)) (pa_cons (pe_op op_mulW (pe_fld (pv 0) rfl) (pe_fld (pv 2) rfl)) pa_nil))))))), ?_⟩
    obtain ⟨ty, b1, b2, b3, h1, h2, h3, h4, h5⟩ := hy.is T
    refine ⟨_, rfl, y, ty, b1, b2, b3, rfl, h1, h2, h3, h4, _, rfl, ?_⟩
    rw [h5]
    refine iteF ?_
    refine ⟨_, rfl, y, q, rfl, hy, fun r2 H1 s1 h2 => ?_⟩
    obtain ⟨d1, e1⟩ := hp.same s1
    obtain ⟨d2, e2⟩ := id h2
    refine ⟨_, rfl, r, C, d1, _, _, rfl, e1, T.cl, T.nT, flds_top p, _, rfl, r2, C, d2, _, _, rfl, e2, T.cl, T.nT, flds_top q, _, _, rfl, rfl, sm_mul (bp.num (by decide)) (bq.num (by decide)), ?_⟩
    refine ⟨_, rfl, r, C, d1, _, _, rfl, e1, T.cl, T.nB, flds_bottom p, _, rfl, r2, C, d2, _, _, rfl, e2, T.cl, T.nB, flds_bottom q, _, _, rfl, rfl, sm_mul (bp.den (by decide)) (bq.den (by decide)), ?_⟩
    refine make_rat (den_ne p q) (sm_den2 bp bq (by decide)) fun r' H' _ s h => k r' H' (s1.trans s) ?_
    show RatAt C H' r' (p * q)
    rw [mul_eq]
    exact h
def spNeg (C : Addr) : Sp := fun vs H Q _ => ∃ (r : Addr) (p : Rat), vs = [.ref r] ∧ RatAt C H r p ∧ Bd p 390 ∧ ∀ r' H', Same H H' → RatAt C H' r' (-p) → Q (.ref r') H'
theorem sc_Ratio___neg__ : FnScope ["self"] ["self"] (defScope s_Ratio___neg__) := ⟨rfl, rfl, rfl, by decide +kernel, rfl, by decide +kernel, by decide +kernel⟩
theorem ok_neg {f : Addr} {fd : FuncData} (F : Fun K "__neg__" "Ratio.__neg__" s_Ratio___neg__ f fd) (T : TxR K mg C) (m_rat2 : Rat2C P w K mg base C) : FnOk P w K mg base CX0 8 f fd ["self"] (spNeg C) := by
  refine F.ok sc_Ratio___neg__ (fun vs H Q E h => ?_) (fun cdv A outer s H vs Q E hr h => ?_)
  · obtain ⟨r, p, rfl, _⟩ := h
    rfl
  · obtain ⟨r, p, rfl, hp, bp, k⟩ := h
    refine ⟨_, (pss_one (ps_ret (pe_mkf m_rat2 hr (by decide) rfl (pa_cons (pe_un un_neg (pe_fld (pv 0) rfl)) (pa_cons (pe_fld (pv 0) rfl) pa_nil))))), ?_⟩
    obtain ⟨d1, e1⟩ := id hp
    refine ⟨_, rfl, r, C, d1, _, _, rfl, e1, T.cl, T.nT, flds_top p, _, rfl, _, rfl, r, C, d1, _, _, rfl, e1, T.cl, T.nB, flds_bottom p, ?_⟩
    refine make_rat (by have := p.den_nz; omega) (bp.den (by decide)) fun r' H' _ s h => k r' H' s ?_
    rw [neg_eq]
    exact h
def spEqR (K : PySem.W.Frag) (C : Addr) : Sp := fun vs H Q _ => ∃ (r : Addr) (p : Rat) (y : V), vs = [.ref r, y] ∧ RatAt C H r p ∧
  ((∃ r2 q, y = .ref r2 ∧ RatAt C H r2 q ∧ Q (.bl (decide (p = q))) H) ∨ ∃ t, TyX K H y t ∧ PySem.W.kitOne K t (.ref C) = some false ∧ Q (.bl false) H)
theorem sc_Ratio___eq__ : FnScope ["self", "other"] ["self", "other"] (defScope s_Ratio___eq__) := ⟨rfl, rfl, rfl, by decide +kernel, rfl, by decide +kernel, by decide +kernel⟩
theorem ok_eq {f : Addr} {fd : FuncData} (F : Fun K "__eq__" "Ratio.__eq__" s_Ratio___eq__ f fd) (T : TxR K mg C) : FnOk P w K mg base CX0 2 f fd ["self", "other"] (spEqR K C) := by
  refine F.ok sc_Ratio___eq__ (fun vs H Q E h => ?_) (fun cdv A outer s H vs Q E hr h => ?_)
  · obtain ⟨r, p, y, rfl, _⟩ := h
    rfl
  · obtain ⟨r, p, y, rfl, hp, h⟩ := h
    refine ⟨_, (pss_one (ps_ret (pe_and (pe_callB (id := "isinstance") (call_isiK (K := K)) (by rfl) T.b_isinstance (by decide +kernel) (pa_cons (pv 1) (pa_cons (pe_glob (v := V.ref C) rfl T.g_Ratio rfl) pa_nil))) (pe_and (pe_cmpR op_eq (pe_fld (pv 0) rfl) (pe_fld (pv 1) rfl) (nomark _)) (pe_one (pe_cmpR op_eq (pe_fld (pv 0) rfl) (pe_fld (pv 1) rfl) (nomark _))))))), ?_⟩
    obtain ⟨d1, e1⟩ := id hp
    rcases h with ⟨r2, q, rfl, hq, k⟩ | ⟨t, ty, ki, k⟩
    · obtain ⟨d2, e2⟩ := id hq
      refine ⟨_, rfl, _, _, _, _, _, rfl, .own C, hq.tyx T, T.kC, _, rfl, ?_⟩
      refine iteT ?_
      refine ⟨_, rfl, r, C, d1, _, _, rfl, e1, T.cl, T.nT, flds_top p, _, rfl, r2, C, d2, _, _, rfl, e2, T.cl, T.nT, flds_top q, rfl, _, rfl, ?_⟩
      rw [rat_dec] at k
      have en : decide (V.int p.num = V.int q.num) = decide (p.num = q.num) := by simp
      have ed : decide (V.int p.den = V.int q.den) = decide ((p.den : Int) = q.den) := by simp
      rw [en]
      cases e : decide (p.num = q.num) with
      | false =>
        rw [e] at k
        exact iteF k
      | true =>
        rw [e, Bool.true_and] at k
        refine iteT ?_
        refine ⟨_, rfl, r, C, d1, _, _, rfl, e1, T.cl, T.nB, flds_bottom p, _, rfl, r2, C, d2, _, _, rfl, e2, T.cl, T.nB, flds_bottom q, rfl, ?_⟩
        rw [ed]
        exact k
    · refine ⟨_, rfl, _, _, _, _, _, rfl, .own C, ty, ki, _, rfl, ?_⟩
      exact iteF k
def spTop (C : Addr) : Sp := fun vs H Q _ => ∃ (r : Addr) (p : Rat), vs = [.ref r] ∧ RatAt C H r p ∧ Q (.int p.num) H
def spBottom (C : Addr) : Sp := fun vs H Q _ => ∃ (r : Addr) (p : Rat), vs = [.ref r] ∧ RatAt C H r p ∧ Q (.int p.den) H
theorem sc_Ratio_top : FnScope ["self"] ["self"] (defScope s_Ratio_top) := ⟨rfl, rfl, rfl, by decide +kernel, rfl, by decide +kernel, by decide +kernel⟩
theorem ok_top {f : Addr} {fd : FuncData} (F : Fun K "top" "Ratio.top" s_Ratio_top f fd) (T : TxR K mg C) : FnOk P w K mg base CX0 2 f fd ["self"] (spTop C) := by
  refine F.ok sc_Ratio_top (fun vs H Q E h => ?_) (fun cdv A outer s H vs Q E hr h => ?_)
  · obtain ⟨r, p, rfl, _⟩ := h
    rfl
  · obtain ⟨r, p, rfl, ⟨d1, e1⟩, k⟩ := h
    exact ⟨_, (pss_one (ps_ret (pe_fld (pv 0) rfl))), _, rfl, r, C, d1, _, _, rfl, e1, T.cl, T.nT, flds_top p, k⟩
theorem sc_Ratio_bottom : FnScope ["self"] ["self"] (defScope s_Ratio_bottom) := ⟨rfl, rfl, rfl, by decide +kernel, rfl, by decide +kernel, by decide +kernel⟩
theorem ok_bottom {f : Addr} {fd : FuncData} (F : Fun K "bottom" "Ratio.bottom" s_Ratio_bottom f fd) (T : TxR K mg C) : FnOk P w K mg base CX0 2 f fd ["self"] (spBottom C) := by
  refine F.ok sc_Ratio_bottom (fun vs H Q E h => ?_) (fun cdv A outer s H vs Q E hr h => ?_)
  · obtain ⟨r, p, rfl, _⟩ := h
    rfl
  · obtain ⟨r, p, rfl, ⟨d1, e1⟩, k⟩ := h
    exact ⟨_, (pss_one (ps_ret (pe_fld (pv 0) rfl))), _, rfl, r, C, d1, _, _, rfl, e1, T.cl, T.nB, flds_bottom p, k⟩
end
end Lw

/-! own errors with their own __init__, raised, caught, read; calls in a try; things of any kind -/
namespace MG
open PySem PySem.Spec PyProof.Rows L2

theorem TyX.same {K : PySem.W.Frag} {H H' : Hp} {x : V} {t : Value} (h : TyX K H x t) (s : Same H H') : TyX K H' x t := by
  cases h with
  | base h =>
    cases h with
    | non => exact .base .non
    | bl x => exact .base (.bl x)
    | int i => exact .base (.int i)
    | str x => exact .base (.str x)
    | flt x => exact .base (.flt x)
    | lst e => exact .base (.lst (s _ _ e))
    | frz e => exact .base (.frz (s _ _ e))
    | tup e => exact .base (.tup (s _ _ e))
    | dK e => exact .base (.dK (s _ _ e))
    | dT e => exact .base (.dT (s _ _ e))
    | ins e cl ha hn htk hm => exact .base (.ins (s _ _ e) cl ha hn htk hm)
  | byt b => exact .byt b
  | set e => exact .set (s _ _ e)
  | kList e c => exact .kList e c
  | kTuple e c => exact .kTuple e c
  | kDict e c => exact .kDict e c
  | fTuple e => exact .fTuple (s _ _ e)
  | fDict e => exact .fDict (s _ _ e)

section
variable {X : Cx} {CX : CXT} {k : Nat} {f C : Addr} {fd : FuncData} {ps : List Str} {sp : Sp} {dvs : List V} {ds : List Value} {E : L2.St → XK} {x m : Str} {p pos apos : Pos} {e o : Expr} {es : List Expr} {ta : TE} {t : TA}
/-- C(..) in a try: what is raised is wished for at the slots -/
def tMakeS (C : Addr) (sp : Sp) (dvs : List V) (E : L2.St → XK) (t : TA) : TE := fun σ H Q => t σ H fun vs H1 => ∀ x dx, H1 x = none → H1 dx = none → dx ≠ x →
  sp (.ref x :: (vs ++ dvs)) (upd (upd H1 dx (.own x)) x (.ins C dx [])) (fun v H2 => v = .non ∧ Q (.ref x) H2) (E σ)
/-- o.m(..) in a try -/
def tMethS (C : Addr) (m : Str) (sp : Sp) (dvs : List V) (E : L2.St → XK) (ta : TE) (t : TA) : TE := fun σ H Q => ta σ H fun x H1 => ∃ a dx fs, x = .ref a ∧ H1 a = some (.ins C dx fs) ∧ fs.lookup m = none ∧
  t σ H1 fun vs H2 => sp (x :: (vs ++ dvs)) H2 Q (E σ)
theorem run_fnS' {pins : List (Addr × Obj)} {σ : L2.St} {H : Hp} {s : Shared} {Q : VK} {us : List Value} {vs : List V} (F : FnOk X.prog X.w X.K X.mg X.base CX k f fd ps sp) (hr : Room k X.A) (hb : Binds X.K fd ps ds) (hd : Vals dvs ds) (hx : PassesAt CX X σ (E σ))
    (I : Inv X pins σ H s) (r : Vals vs us) (h : sp (vs ++ dvs) H Q (E σ)) : wpAny (model X.prog X.w) X.A (call (.ref f) us) (EP X pins σ Q) X.xe s := by
  have r2 : Vals (vs ++ dvs) (us ++ ds) := r.append hd
  have hl : (us ++ ds).length = ps.length := by rw [← r2.length]; exact F.len _ _ _ _ h
  refine wpAny_call (codeAny_mono (F.run X.A X.stack s H ⟨us, []⟩ (us ++ ds) (vs ++ dvs) Q (E σ) hr I.env0 (hb s us I.kIn hl) r2 h) fun r s' hq => ?_)
  cases r with
  | error e => exact hx pins H s e s' I hq
  | ok fl =>
    cases fl with
    | ret u => exact I.after hq
    | next => exact False.elim hq
    | brk => exact False.elim hq
    | cont => exact False.elim hq
theorem pe_makeS (M : Mk X.K C f) (F : FnOk X.prog X.w X.K X.mg X.base CX k f fd ps sp) (hr : Room (k + 1) X.A) (hg : Gl X x) (hm : X.mg x = some (.ref C)) (hb : Binds X.K fd ps ds) (hd : Vals dvs ds) (hx : ∀ σ, PassesAt CX X σ (E σ))
    (ha : PA X (e :: es) t) (hdb : (x == ("__debug__" : Str)) = false := by decide) (he : starEach (e :: es) X.env = (false, eval e X.env) :: starEach es X.env := by rfl) (hpl : (backTo pos (starEach es X.env)).any (·.1) = false := by rfl) :
    PE X (.Call (.Name x p) (e :: es) [] pos) (tMakeS C sp dvs E t) := by
  refine ⟨fun pins s σ H Q I h => ?_⟩
  refine wpAny_Call_Name_kw (ld_glob I hg hm ?_ hdb)
  refine PySem.W.callWith_K (h₀ := X.base) I.ok.mod.kin M.kp (thn (ha.run pos pins s σ H _ I h) fun us s1 ⟨vs, H1, I1, r, q⟩ => ⟨I1.kIn, ?_⟩) he hpl
  have hq := q (s1.heap.objs.size + 1) s1.heap.objs.size (I1.hok.fresh (Nat.le_succ _)) (I1.hok.fresh (Nat.le_refl _)) (Nat.ne_of_lt (Nat.lt_succ_self _))
  have I2 := Inv.made (C := C) I1
  have r2 : Vals (V.ref (s1.heap.objs.size + 1) :: (vs ++ dvs)) (Value.ref (s1.heap.objs.size + 1) :: (us ++ ds)) := .cons rfl (r.append hd)
  have hl : (Value.ref (s1.heap.objs.size + 1) :: us ++ ds).length = ps.length := by
    have e := r2.length
    rw [F.len _ _ _ _ hq] at e
    exact e.symm
  refine wpAny_call (make_map (f := f) I1.kIn M.makes M.init (beq_iff_eq.mp M.fn) (codeAny_mono (F.run _ X.stack _ _ ⟨Value.ref (s1.heap.objs.size + 1) :: us, []⟩ (Value.ref (s1.heap.objs.size + 1) :: (us ++ ds)) _ _ (E σ) (hr.make C us [])
    (I2.env0.make C us []) (hb _ (Value.ref (s1.heap.objs.size + 1) :: us) I2.kIn hl) r2 hq) fun r s' hq' => ?_))
  cases r with
  | error e => exact hx σ pins _ _ e s' I2 hq'
  | ok fl =>
    cases fl with
    | ret u =>
      obtain ⟨v, H', I3, rv, ev, q3⟩ := I2.after hq'
      subst ev
      exact ⟨rv, ⟨V.ref (s1.heap.objs.size + 1), H', I3, rfl, q3⟩⟩
    | next => exact False.elim hq'
    | brk => exact False.elim hq'
    | cont => exact False.elim hq'
theorem pe_methS {pl : Sem Bool} (he : PE X o ta) (c : Cls X.K C) (hm : Meth X.K C m f) (F : FnOk X.prog X.w X.K X.mg X.base CX k f fd ps sp) (hr : Room k X.A) (hb : Binds X.K fd ps ds) (hd : Vals dvs ds) (hx : ∀ σ, PassesAt CX X σ (E σ)) (ha : PA X (e :: es) t)
    (hst : starEach (e :: es) X.env = (false, eval e X.env) :: starEach es X.env := by rfl) (hpl : (backTo pos (starEach es X.env)).any (·.1) = false := by rfl)
    (ht : eval (.Call (.Attribute o m apos) (e :: es) [] pos) X.env = (do
      let ov ← eval o X.env
      standAt apos.atName
      let (f, first) ← holding [ov] (getMethod ov m pl)
      callWith pos f first (backTo pos (starEach (e :: es) X.env)) (backToKw pos (keywordEach [] X.env))) := by rfl) :
    PE X (.Call (.Attribute o m apos) (e :: es) [] pos) (tMethS C m sp dvs E ta t) := by
  refine ⟨fun pins s σ H Q I h => ?_⟩
  refine PySem.W.methodCall_KW (pl := pl) (thn (he.run pins s σ H _ I h) fun u s1 ⟨x, H1, I1, rx, a, dx, fs, ex, ea, l, q⟩ => ?_) ht
  subst ex
  obtain rfl : u = Value.ref a := rx
  refine getmeth_ok I1 ea c hm l ?_
  refine PySem.W.callWith_K (first := [.ref a]) (h₀ := X.base) I.ok.mod.kin hm.kp (thn (ha.run pos pins s1 σ H1 _ I1 q) fun us s2 ⟨vs, H2, I2, r, q2⟩ => ⟨I2.kIn, ?_⟩) hst hpl
  exact run_fnS' (us := .ref a :: us) (vs := .ref a :: vs) F hr hb hd (hx σ) I2 (.cons rfl r) q2
end

/-! ### an error class with its own __init__: one field -/
def spXi (K : PySem.W.Frag) (C : Addr) (fl : Str) : Sp := fun vs H Q _ => ∃ (a : Addr) (y : V), vs = [.ref a, y] ∧ OexC K C ∧ PySem.W.findIn K (.ref C) fl = some none ∧ H a = some (exo a C none) ∧
  ∀ dx, H dx = none → dx ≠ a → Q .non (upd (upd H dx (exd dx [(fl, y)])) a (exo a C (some dx)))
/-- such a class, as those know it who raise it -/
structure ExcF (P : Program) (w : World) (K : PySem.W.Frag) (mg : Str → Option Value) (base : Heap) (k : Nat) (x : Str) (C : Addr) (fl : Str) : Prop where
  oex : OexC K C
  xf : XfC K C
  no : PySem.W.findIn K (.ref C) fl = some none
  g : mg x = some (.ref C)
  te : PySem.W.exmOne K (.ref C) (.ref C) = some true
  ex : ∃ (fI : Addr) (fd : FuncData) (ps : List Str), PySem.W.findIn K (.ref C) "__init__" = some (some (.ref fI)) ∧ PySem.W.typeIn K (.ref fI) = some (.type "function") ∧ FnOk P w K mg base CX0 k fI fd ps (spXi K C fl) ∧ Binds K fd ps []
section
variable {X : Cx} {k j : Nat} {C : Addr} {fl x : Str} {p pos : Pos} {e : Expr} {es : List Expr} {ta : TA}
/-- the error: its own dict d, new, holds the field -/
def tRx (C : Addr) (fl : Str) (ta : TA) : L2.St → Hp → XK → Prop := fun σ H Q => ta σ H fun vs H1 => ∃ y, vs = [y] ∧ ∀ d H', Same H1 H' → H1 d = none → H' d = some (.xd [(fl, y)]) → Q (.ref C) (some d) H'
theorem pmk_x (T : ExcF X.prog X.w X.K X.mg X.base k x C fl) (hr : Room j X.A) (hk : k + 1 ≤ j) (hg : Gl X x) (ha : PA X (e :: es) ta)
    (hdb : (x == ("__debug__" : Str)) = false := by decide) (he : starEach (e :: es) X.env = (false, eval e X.env) :: starEach es X.env := by rfl) (hpl : (backTo pos (starEach es X.env)).any (·.1) = false := by rfl) :
    L2N.PMk X (.Call (.Name x p) (e :: es) [] pos) (tRx C fl ta) := by
  intro pins s σ H Q I h
  obtain ⟨oex, xf, hno, hm, te, fI, fd, ps, iC, tI, F1, hb⟩ := T
  obtain ⟨nm, q, N, bs, bm, sn, sub, ab, col, dd, k0, k1, k2, k3, k5, hC, hbm⟩ := oex.cls
  refine wpAny_Call_Name_kw (ld_glob I hg hm ?_ hdb)
  refine PySem.W.callWith_K (h₀ := X.base) I.ok.mod.kin oex.kC (thn (ha.run pos pins s σ H _ I h) fun us s1 ⟨vs, H1, I1, r1, y, ev, q1⟩ => ⟨I1.kIn, ?_⟩) he hpl
  subst ev
  show wpAny _ _ (call (.ref C) us) _ _ _
  obtain ⟨hp, g, dr, tk, os⟩ := s1
  have hsz : hp.objs.size ≤ hp.objs.size + 1 := Nat.le_succ _
  have hn : H1 (hp.objs.size + 1) = none := I1.hok.fresh hsz
  have hq : spXi X.K C fl [.ref (hp.objs.size + 1), y] (upd H1 (hp.objs.size + 1) (exo (hp.objs.size + 1) C none))
      (fun v H2 => v = .non ∧ ∃ d, H2 (hp.objs.size + 1) = some (exo (hp.objs.size + 1) C (some d)) ∧ H2 d = some (exd d [(fl, y)]) ∧ H1 d = none ∧ Q (.ref C) (some d) (upd (del H2 (hp.objs.size + 1)) d (.xd [(fl, y)]))) (fun _ _ _ => False) := by
    refine ⟨_, y, rfl, oex, hno, upd_same, fun dx hdx ne => ⟨rfl, dx, upd_same, ?_, ?_, q1 dx _ ?_ ?_ ?_⟩⟩
    · rw [upd_ne ne, upd_same]
    · rw [upd_ne ne] at hdx
      exact hdx
    · intro b o hbo
      rw [upd_ne ne] at hdx
      rw [upd_ne (ne_of_none hbo hdx), del_ne (ne_of_none hbo hn), upd_ne (ne_of_none hbo hn), upd_ne (ne_of_none hbo hdx), upd_ne (ne_of_none hbo hn)]
      exact hbo
    · rw [upd_ne ne] at hdx
      exact hdx
    · exact upd_same
  have kk : ∀ b o, hp.get? b = some o → ((hp.push (PySem.W.kdv_tup us)).push (PySem.HandSPX.excO C hp.objs.size)).get? b = some o := fun b o e => Heap.get?_push_of_some _ (Heap.get?_push_of_some _ e)
  have hget : ((hp.push (PySem.W.kdv_tup us)).push (PySem.HandSPX.excO C hp.objs.size)).get? (hp.objs.size + 1) = some (PySem.HandSPX.excO C hp.objs.size) := by heap_get
  have I2 : Inv X pins σ (upd H1 (hp.objs.size + 1) (exo (hp.objs.size + 1) C none)) ⟨(hp.push (PySem.W.kdv_tup us)).push (PySem.HandSPX.excO C hp.objs.size), g, dr, tk, os⟩ :=
    I1.laid (t' := tk) (a := hp.objs.size + 1) (o := exo (hp.objs.size + 1) C none) (h' := (hp.push (PySem.W.kdv_tup us)).push (PySem.HandSPX.excO C hp.objs.size)) kk hsz (exo_ok hget)
  have r2 : Vals (V.ref (hp.objs.size + 1) :: [y]) (Value.ref (hp.objs.size + 1) :: us) := .cons rfl r1
  have hl : (Value.ref (hp.objs.size + 1) :: us ++ []).length = ps.length := by
    have e := r2.length
    have e2 := F1.len _ _ _ _ hq
    rw [List.append_nil, ← e]
    exact e2
  have hus : us.length ≤ sizeLine := by
    rw [← Paired.length r1, sizeLine_eq]
    show 1 ≤ _
    omega
  have b2 := hb _ (Value.ref (hp.objs.size + 1) :: us) I2.kIn hl
  rw [List.append_nil] at b2
  refine wpAny_call (PySem.HandSPX.call_own F.excBase_ValueError (fun Y => PySem.HandSPX.refsVE_contains Y bm hbm) (I1.kIn _ _ hC) (PySem.W.looks_findIn I1.kIn iC) (fun self => PySem.W.bind_fn I1.kIn self tI) hus
    (codeAny_mono (F1.run _ X.stack _ _ ⟨Value.ref (hp.objs.size + 1) :: us, []⟩ (Value.ref (hp.objs.size + 1) :: us) _ _ (fun _ _ _ => False) ((hr.mono hk).make C us []) (I2.env0.make C us []) b2 r2 hq) fun r s' hq' => ?_))
  cases r with
  | error er => exact False.elim hq'
  | ok fl' =>
    cases fl' with
    | ret u =>
      obtain ⟨v, H2, os2, bare2, un2, hok2, rv, ev, d, ea, ed, hd1, q2⟩ := hq'
      subst ev
      obtain ⟨h2, g2, d2, t2, os'⟩ := s'
      obtain ⟨t0, G, J, kG, ge, hoe, na⟩ := mk_end0 (d2 := d2) (t2 := t2) I1 hsz kk un2 hok2 os2 bare2 ea ed hd1
      exact ⟨rv, ⟨hp.objs.size + 1, _, _, ⟨G, g2, d2, t2, os'⟩, _, .ref C, some d, rfl, J, kG, ge, hoe, ⟨rfl, rfl, fun vs hv => by cases hv; rfl⟩, rfl, rfl, na, rfl, bare2, raises_own oex.exC oex.tyC, q2⟩⟩
    | next => exact False.elim hq'
    | brk => exact False.elim hq'
    | cont => exact False.elim hq'
theorem ps_raiseX {W : WX} {pos2 : Pos} (T : ExcF X.prog X.w X.K X.mg X.base k x C fl) (hr : Room j X.A) (hk : k + 1 ≤ j) (hc : X.calm = true) (tk : L2N.Takes X W) (hg : Gl X x) (ha : PA X (e :: es) ta)
    (hdb : (x == ("__debug__" : Str)) = false := by decide) (he : starEach (e :: es) X.env = (false, eval e X.env) :: starEach es X.env := by rfl) (hpl : (backTo pos (starEach es X.env)).any (·.1) = false := by rfl) :
    PS X (.Raise (some (.Call (.Name x p) (e :: es) [] pos)) none pos2) (fun _ σ H => tRx C fl ta σ H fun cls d H' => W cls d σ H') := L2N.ps_raise hc tk (pmk_x T hr hk hg ha hdb he hpl)
theorem takesN0 : L2N.Takes X (fun _ _ _ _ => False) := fun u s' ⟨_, _, _, _, _, _, _, _, _, _, _, _, _, _, _, _, w⟩ => w.elim
theorem hot_of {a : Addr} {oe : Obj} {cls : Value} {d : Option Addr} {pn : List (Addr × Obj)} (hz : L2N.Zn cls d oe) (hf : ∃ vs, oe.data = .fields vs) : L2H.HotC (X.suite a ((a, oe) :: pn)) := by
  obtain ⟨vs, e⟩ := hf
  exact ⟨(a, oe), ⟨rfl, vs, e, hz.2.2 vs e⟩, List.mem_cons_self⟩
end

/-- a class made by its name in a try; sp: its __init__, which may raise -/
structure MakX (P : Program) (w : World) (K : PySem.W.Frag) (mg : Str → Option Value) (base : Heap) (k : Nat) (x : Str) (C : Addr) (sp : Sp) : Prop where
  ex : ∃ (f : Addr) (fd : FuncData) (ps : List Str), Mk K C f ∧ FnOk P w K mg base (L2N.CX P w) k f fd ps sp ∧ mg x = some (.ref C) ∧ Binds K fd ps []
theorem pe_mkX {X : Cx} {W : WX} {k j : Nat} {x : Str} {C : Addr} {sp : Sp} {p pos : Pos} {e : Expr} {es : List Expr} {t : TA} (c : MakX X.prog X.w X.K X.mg X.base k x C sp) (hr : Room j X.A) (hk : k + 1 ≤ j) (tk : L2N.Takes X W) (hg : Gl X x) (ha : PA X (e :: es) t)
    (hdb : (x == ("__debug__" : Str)) = false := by decide) (he : starEach (e :: es) X.env = (false, eval e X.env) :: starEach es X.env := by rfl) (hpl : (backTo pos (starEach es X.env)).any (·.1) = false := by rfl) :
    PE X (.Call (.Name x p) (e :: es) [] pos) (tMakeS C sp [] (WE W) t) := by
  obtain ⟨f, fd, ps, M, F, hm, b⟩ := c.ex
  exact pe_makeS M F (hr.mono hk) hg hm b .nil (fun σ => L2N.passAt tk σ) ha hdb he hpl
/-- a method called in a try, which may raise -/
structure MetX (P : Program) (w : World) (K : PySem.W.Frag) (mg : Str → Option Value) (base : Heap) (k : Nat) (C : Addr) (m : Str) (sp : Sp) : Prop where
  ex : ∃ (f : Addr) (fd : FuncData) (ps : List Str), Meth K C m f ∧ FnOk P w K mg base (L2N.CX P w) k f fd ps sp ∧ Binds K fd ps []
theorem pe_metX {X : Cx} {W : WX} {k j : Nat} {C : Addr} {m : Str} {sp : Sp} {pos apos : Pos} {o : Expr} {e : Expr} {es : List Expr} {ta : TE} {t : TA} {pl : Sem Bool} (c : MetX X.prog X.w X.K X.mg X.base k C m sp) (cl : Cls X.K C) (hr : Room j X.A) (hk : k ≤ j) (tk : L2N.Takes X W) (he : PE X o ta) (ha : PA X (e :: es) t)
    (hst : starEach (e :: es) X.env = (false, eval e X.env) :: starEach es X.env := by rfl) (hpl : (backTo pos (starEach es X.env)).any (·.1) = false := by rfl)
    (ht : eval (.Call (.Attribute o m apos) (e :: es) [] pos) X.env = (do
      let ov ← eval o X.env
      standAt apos.atName
      let (f, first) ← holding [ov] (getMethod ov m pl)
      callWith pos f first (backTo pos (starEach (e :: es) X.env)) (backToKw pos (keywordEach [] X.env))) := by rfl) :
    PE X (.Call (.Attribute o m apos) (e :: es) [] pos) (tMethS C m sp [] (WE W) ta t) := by
  obtain ⟨f, fd, ps, M, F, b⟩ := c.ex
  exact pe_methS (pl := pl) he cl M F (hr.mono hk) b .nil (fun σ => L2N.passAt tk σ) ha hst hpl ht

/-- a def of the module as it is called within an except suite -/
theorem fun_okH {P : Program} {w : World} {K : PySem.W.Frag} {mg : Str → Option Value} {base : Heap} {x qual : Str} {st : Stmt} {f : Addr} {fd : FuncData} {N ps : List Str} {k : Nat} {sp : Sp} (F : Fun K x qual st f fd) (S : FnScope N ps (defScope st)) (len : ∀ vs H Q E, sp vs H Q E → vs.length = ps.length)
    (hbody : ∀ (cdv : Value) (A : Around) (outer : List Env) (s : Shared) (H : Hp) (vs : List V) (Q : VK) (E : XK) (p : Addr × Obj), L2H.RoomH k (A.deeper (envOfC qual (defScope st) s.heap.objs.size f cdv)) → sp vs H Q E →
      ∃ t, PSs (L2H.cxH CX0 P w K mg base N qual (defScope st) f cdv A outer s H E p).nox (defBody st) t ∧ t { nx := fun _ H' => Q .non H', rt := Q } (start N vs) H) : L2H.FnH P w K mg base CX0 (k + 1) f fd ps sp := by
  obtain ⟨oc, od, kV, doc, pm, an, cdv, ct, osl, rfl, lk, hcd⟩ := F.ex
  refine L2H.fn_ofH lk hcd S len ?_
  intro A outer s H vs Q E p hot hr hsp
  obtain ⟨t, h, q⟩ := hbody cdv A outer s H vs Q E p hr hsp
  exact ⟨t, h.nox, q⟩

/-! ### the heap without q -/
def hid (q : Addr) (H : Hp) : Hp := fun b => if b = q then none else H b
theorem hid_same (q : Addr) (H : Hp) : Same (hid q H) H := fun b o h => by
  unfold hid at h
  split at h
  · cases h
  · exact h
theorem hid_keep {q : Addr} {H H' : Hp} (k : Keep q H H') : Same (hid q H) (hid q H') := fun b o h => by
  unfold hid at *
  by_cases e : b = q
  · rw [if_pos e] at h; cases h
  · rw [if_neg e] at h ⊢
    exact k.all b o h e
theorem hid_ne {q b : Addr} {H : Hp} (h : b ≠ q) : hid q H b = H b := if_neg h

/-! ### the sizes of texts -/
/-- printable signs -/
def Asc (z : Str) : Prop := ∀ c ∈ z.cps.toList, 32 ≤ c ∧ c ≤ 126
theorem asc_lt : ∀ c, c < 127 → 32 ≤ c → ((PySem.Builtin.Str.reprChar 34 c).all (fun d => decide (32 ≤ d ∧ d ≤ 126)) && (PySem.Builtin.Str.reprChar 39 c).all (fun d => decide (32 ≤ d ∧ d ≤ 126))) = true := by decide +kernel
theorem asc_repr {z : Str} (h : Asc z) : Asc (reprText z) := by
  have hq : reprQuote z = 34 ∨ reprQuote z = 39 := by
    unfold reprQuote
    split
    · exact .inl rfl
    · exact .inr rfl
  have ch : ∀ c ∈ z.cps.toList, ∀ d ∈ PySem.Builtin.Str.reprChar (reprQuote z) c, 32 ≤ d ∧ d ≤ 126 := fun c hc d hd => by
    have h1 := asc_lt c (by have := (h c hc).2; omega) (h c hc).1
    rw [Bool.and_eq_true] at h1
    rcases hq with e | e
    · rw [e] at hd
      exact of_decide_eq_true (List.all_eq_true.mp h1.1 d hd)
    · rw [e] at hd
      exact of_decide_eq_true (List.all_eq_true.mp h1.2 d hd)
  have qq : 32 ≤ reprQuote z ∧ reprQuote z ≤ 126 := by rcases hq with e | e <;> rw [e] <;> decide
  have key : ∀ (l : List Nat) (acc : Array Nat), (∀ c ∈ l, ∀ d ∈ PySem.Builtin.Str.reprChar (reprQuote z) c, 32 ≤ d ∧ d ≤ 126) → (∀ d ∈ acc.toList, 32 ≤ d ∧ d ≤ 126) → ∀ d ∈ (l.foldl (fun out c => out ++ (PySem.Builtin.Str.reprChar (reprQuote z) c).toArray) acc).toList, 32 ≤ d ∧ d ≤ 126 := by
    intro l
    induction l with
    | nil => intro acc _ ha; exact ha
    | cons c l ih =>
      intro acc hl ha
      refine ih _ (fun c' hc' => hl c' (List.mem_cons_of_mem _ hc')) fun d hd => ?_
      rw [Array.toList_append] at hd
      rcases List.mem_append.mp hd with hd | hd
      · exact ha d hd
      · exact hl c List.mem_cons_self d (by simpa using hd)
  intro d hd
  unfold reprText at hd
  have hd' : d ∈ ((z.cps.foldl (fun out c => out ++ (PySem.Builtin.Str.reprChar (reprQuote z) c).toArray) #[reprQuote z]).push (reprQuote z)).toList := hd
  rw [Array.toList_push, ← Array.foldl_toList] at hd'
  rcases List.mem_append.mp hd' with hd | hd
  · exact key _ _ ch (fun d hd => by
      have e : d = reprQuote z := by simpa using hd
      rw [e]; exact qq) d hd
  · have e : d = reprQuote z := by simpa using hd
    rw [e]; exact qq
theorem asc_ok {z : Str} (h : Asc z) : PyData.strOk z = true := by
  unfold PyData.strOk
  rw [← Array.all_toList, List.all_eq_true]
  intro c hc
  have := (h c hc).2
  exact decide_eq_true (by omega)
theorem asc_append {x y : Str} (hx : Asc x) (hy : Asc y) : Asc (x ++ y) := fun c hc => by
  have e : (x ++ y).cps = x.cps ++ y.cps := rfl
  rw [e, Array.toList_append] at hc
  rcases List.mem_append.mp hc with h | h
  · exact hx c h
  · exact hy c h

/-! ### a short text times a small number -/
def mulT (x : Str) (n : Int) : Str := if n < 1 then Str.empty else if (n == 1 || x.length == 0) = true then x else ⟨(List.replicate n.toNat x.cps).foldl (· ++ ·) #[]⟩
theorem rep_fold (x : Array Nat) : ∀ (n : Nat) (acc : Array Nat), ((List.replicate n x).foldl (· ++ ·) acc).size = acc.size + n * x.size ∧ ∀ c ∈ ((List.replicate n x).foldl (· ++ ·) acc).toList, c ∈ acc.toList ∨ c ∈ x.toList
  | 0, acc => ⟨by simp, fun c hc => .inl hc⟩
  | n + 1, acc => by
    obtain ⟨h1, h2⟩ := rep_fold x n (acc ++ x)
    rw [List.replicate_succ, List.foldl_cons]
    refine ⟨?_, fun c hc => ?_⟩
    · rw [h1, Array.size_append, Nat.add_mul]
      omega
    · rcases h2 c hc with h | h
      · rw [Array.toList_append] at h
        rcases List.mem_append.mp h with h | h
        · exact .inl h
        · exact .inr h
      · exact .inr h
theorem mulT_asc {x : Str} {n : Int} (h : Asc x) : Asc (mulT x n) := by
  unfold mulT
  split
  · intro c hc
    cases hc
  · split
    · exact h
    · intro c hc
      rcases (rep_fold x.cps n.toNat #[]).2 c hc with z | z
      · cases z
      · exact h c z
theorem mulT_len {x : Str} {n : Int} : (mulT x n).length ≤ n.toNat * x.length := by
  unfold mulT
  split
  · exact Nat.zero_le _
  · split
    · rename_i h1 h2
      exact Nat.le_mul_of_pos_left _ (by omega)
    · have h := (rep_fold x.cps n.toNat #[]).1
      show ((List.replicate n.toNat x.cps).foldl (· ++ ·) #[]).size ≤ n.toNat * x.cps.size
      rw [h]
      simp
theorem op_mulStr {X : Cx} : OpR X (binaryOp .Mult) (fun x y H Q => ∃ i n, x = .str i ∧ y = .int n ∧ 0 ≤ n ∧ n ≤ 1000 ∧ i.length ≤ 1000 ∧ Q (.str (mulT i n)) H) := by
  intro pins s σ H x y v u Q I rx ry h
  obtain ⟨i, n, rfl, rfl, h0, h1, hz, q⟩ := h
  obtain ⟨t, rfl⟩ := rx
  obtain ⟨t', rfl⟩ := ry
  have hb : n.toNat ≤ 1000 := by omega
  have hp : i.length * n.toNat ≤ 1000 * 1000 := Nat.mul_le_mul hz hb
  have hle := mulT_len (x := i) (n := n)
  rw [Nat.mul_comm] at hle
  have hline : 1000000 ≤ sizeLine := by decide
  refine PySem.P.mul_str ?_ ?_ ?_ ?_
  · rw [decide_eq_false (by omega : ¬ n < -(2 ^ 63 : Int)), decide_eq_false (by omega : ¬ n ≥ 2 ^ 63)]
    rfl
  · intro hn _ hc
    have h3 : (1000 : Int) ≤ (2 ^ 63 - 1) / n := by
      refine (Int.le_ediv_iff_mul_le (by omega)).mpr ?_
      omega
    omega
  · intro _ _
    unfold PySem.Builtin.Str.tooLong
    exact decide_eq_false (by omega)
  · unfold mulT at q hle
    by_cases c1 : n < 1
    · rw [if_pos c1] at q hle ⊢
      exact ⟨by decide, .str _, H, I.tok _, ⟨_, rfl⟩, q⟩
    · rw [if_neg c1] at q hle ⊢
      by_cases c2 : (n == 1 || i.length == 0) = true
      · rw [if_pos c2] at q ⊢
        exact ⟨.str i, H, I, ⟨_, rfl⟩, q⟩
      · rw [if_neg c2] at q hle ⊢
        exact ⟨by omega, .str _, H, I.tok _, ⟨_, rfl⟩, q⟩

section
variable {X : Cx} {x n : Str} {c : Value} {i : Nat} {body suite : List Stmt} {b₀ : Stmt} {np pos pos' : Pos} {tb : WX → TS} {ts : Addr → Value → Option Addr → TS} {Wout : WX}
/-- try .. except, what is raised said once for all ways -/
theorem ps_try_cut (hs : X.stack = X.env :: X.outer) (hf : X.env.frame = some X.env.locals) (hN : X.N.Nodup) (hi : X.N[i]? = some n) (hln : X.env.kindOf n = some .local) (hc : Names X x c) (tk : L2N.Takes X Wout)
    (hb : ∀ (W : WX) (pn : List (Addr × Obj)) (xe : Value → Shared → Prop), L2N.Takes (X.tr pn xe) W → PassesOwn (model X.prog X.w) X.A X.env xe → PSs (X.tr pn xe) body (tb W))
    (hsu : ∀ (a : Addr) (oe : Obj) (cls : Value) (d : Option Addr) (pn : List (Addr × Obj)), L2N.Zn cls d oe → (∃ vs, oe.data = .fields vs) → PSs (X.suite a ((a, oe) :: pn)) (b₀ :: suite) (ts a cls d)) :
    PS X (.Try body [.ExceptHandler (some (.Name x np)) (some n) (b₀ :: suite) pos'] [] [] pos) (fun D σ H => ∃ Ce : WX, (∀ cls d σ' H', Ce cls d σ' H' → wAs X.K c i ts Wout D cls d σ' H') ∧ tb Ce D σ H) :=
  L2N.ps_try_as (tb := fun W D σ H => ∃ Ce : WX, (∀ cls d σ' H', Ce cls d σ' H' → W cls d σ' H') ∧ tb Ce D σ H) hs hf hN hi hln hc tk
    (fun W pn xe tk po => ⟨fun pins s σ H D I ⟨Ce, imp, h⟩ => (hb Ce pn xe (tk.imp imp) po).run pins s σ H D I h⟩) hsu
end

/-- a def that may raise -/
theorem fun_okN {P : Program} {w : World} {K : PySem.W.Frag} {mg : Str → Option Value} {base : Heap} {x qual : Str} {st : Stmt} {f : Addr} {fd : FuncData} {N ps : List Str} {k : Nat} {sp : Sp} (F : Fun K x qual st f fd) (S : FnScope N ps (defScope st)) (len : ∀ vs H Q E, sp vs H Q E → vs.length = ps.length)
    (hbody : ∀ (cdv : Value) (A : Around) (outer : List Env) (s : Shared) (H : Hp) (vs : List V) (Q : VK) (E : XK), Room k (A.deeper (envOfC qual (defScope st) s.heap.objs.size f cdv)) → sp vs H Q E →
      ∃ t, PSs (cxOf (L2N.CX P w) P w K mg base N qual (defScope st) f cdv A outer s H E) (defBody st) t ∧ t { nx := fun _ H' => Q .non H', rt := Q } (start N vs) H) : FnOk P w K mg base (L2N.CX P w) (k + 1) f fd ps sp := by
  obtain ⟨oc, od, kV, doc, pm, an, cdv, ct, osl, rfl, lk, hcd⟩ := F.ex
  exact fn_of lk hcd S len fun A outer s H vs Q E hr hsp => hbody cdv A outer s H vs Q E hr hsp
end MG

/-! classmethods called in a try, by a keyword; a class called by a local name -/
namespace MG
open PySem PySem.Spec PyProof.Rows L2 ClX
section
variable {X : Cx} {CX : CXT} {k j : Nat} {C p g : Addr} {m : Str} {mc : Value} {sp : Sp} {o e : Expr} {es : List Expr} {pos apos : Pos} {ta : TE} {t : TA} {pl : Sem Bool}
theorem after_cm {pins : List (Addr × Obj)} {σ : L2.St} {H : Hp} {s : Shared} {q : Addr} {Q : VK} {E : XK} {us : List Value} {kw : List (Str × Value)} (I : Inv X ((q, PySem.W.methodObj (.ref g) (.ref C)) :: pins) σ H s) (hx : PassesAt CX X σ E)
    (run : codeAny (model X.prog X.w) X.A (.call (.ref g) ⟨.ref C :: us, kw⟩) (CR CX X.stack X.prog X.w H s Q E) s) : wpAny (model X.prog X.w) X.A (call (.ref q) us kw) (EP X pins σ Q) X.xe s := by
  have z : wpAny (model X.prog X.w) X.A (call (.ref q) us kw) (EP X ((q, PySem.W.methodObj (.ref g) (.ref C)) :: pins) σ Q) X.xe s := by
    refine wpAny_call (PySem.W.method_call (pin_at I) (codeAny_mono run fun r s' hq => ?_))
    match r, hq with
    | .error er, hq => exact hx _ H s er s' I hq
    | .ok (.ret u), hq => exact I.after hq
    | .ok .next, hq => exact False.elim hq
    | .ok .brk, hq => exact False.elim hq
    | .ok .cont, hq => exact False.elim hq
  exact thn z fun _ _ y => unpinE y
/-- C.m(..), m a classmethod that may raise, in a try -/
def tCMetS (C : Addr) (sp : Sp) (E : L2.St → XK) (ta : TE) (t : TA) : TE := fun σ H Q => ta σ H fun x H1 => x = .ref C ∧ t σ H1 fun vs H2 => sp (.ref C :: vs) H2 Q (E σ)
structure CmtX (P : Program) (w : World) (K : PySem.W.Frag) (mg : Str → Option Value) (base : Heap) (k : Nat) (C : Addr) (m : Str) (sp : Sp) : Prop where
  ex : ∃ (p g : Addr) (mc : Value) (fd : FuncData) (ps : List Str), CRead K C mc ∧ CMet K C mc m p g ∧ FnOk P w K mg base (L2N.CX P w) k g fd ps sp ∧ Binds K fd ps []
theorem pe_cmtX {W : WX} (c : CmtX X.prog X.w X.K X.mg X.base k C m sp) (hr : Room j X.A) (hk : k ≤ j) (tk : L2N.Takes X W) (he : PE X o ta) (ha : PA X (e :: es) t)
    (hst : starEach (e :: es) X.env = (false, eval e X.env) :: starEach es X.env := by rfl) (hpl : (backTo pos (starEach es X.env)).any (·.1) = false := by rfl)
    (ht : eval (.Call (.Attribute o m apos) (e :: es) [] pos) X.env = (do
      let ov ← eval o X.env
      standAt apos.atName
      let (f, first) ← holding [ov] (getMethod ov m pl)
      callWith pos f first (backTo pos (starEach (e :: es) X.env)) (backToKw pos (keywordEach [] X.env))) := by rfl) :
    PE X (.Call (.Attribute o m apos) (e :: es) [] pos) (tCMetS C sp (WE W) ta t) := by
  obtain ⟨p, g, mc, fd, ps, r, cm, F, b⟩ := c.ex
  refine ⟨fun pins s σ H Q I h => ?_⟩
  refine PySem.W.methodCall_KW (pl := pl) (thn (he.run pins s σ H _ I h) fun u s1 ⟨x, H1, I1, rx, ex, q⟩ => ?_) ht
  subst ex
  obtain rfl : u = Value.ref C := rx
  refine getmethcm_ok I1 r cm fun s2 I2 => ?_
  refine callwith_cm I2 (base_none I1 (Nat.le_refl _)) cm.fi (thn (ha.run pos _ s2 σ H1 _ I2 q) fun us s3 ⟨vs, H2, I3, rv, q2⟩ => ⟨⟨pin_at I3, I3.kIn⟩, ?_⟩) hst hpl
  have q3 : sp (.ref C :: vs ++ []) H2 Q (WE W σ) := by rw [List.append_nil]; exact q2
  exact after_cm I3 (L2N.passAt tk σ) ((F.raw b .nil) X.A X.stack s3 H2 (.ref C :: us) (.ref C :: vs) Q (WE W σ) (hr.mono hk) I3.env0 (.cons rfl rv) q3)
/-- C.m(k = v), where nothing is raised -/
def tCMetK (C : Addr) (sp : Sp) (n : Nat) (gV : List V → List V → List V) (ta : TE) (tk : TA) : TE := fun σ H Q => ta σ H fun x H1 => x = .ref C ∧ tk σ H1 fun zs H2 => zs.length = n ∧ sp (gV [.ref C] zs) H2 Q (fun _ _ _ => False)
structure CmtK (P : Program) (w : World) (K : PySem.W.Frag) (mg : Str → Option Value) (base : Heap) (k : Nat) (C : Addr) (m : Str) (sp : Sp) (ks : List Str) (gV : List V → List V → List V) : Prop where
  ex : ∃ (p g : Addr) (mc : Value) (fd : FuncData) (ps : List Str) (gf : List Value → List Value → List Value), CRead K C mc ∧ CMet K C mc m p g ∧ FnOk P w K mg base (L2N.CX P w) k g fd ps sp ∧ KBn K fd ps 1 ks gf gV
theorem passF {σ : L2.St} : PassesAt (L2N.CX X.prog X.w) X σ (fun _ _ _ => False) := fun _ _ _ _ _ _ ⟨_, _, _, _, _, _, _, _, _, _, _, _, z⟩ => z.elim
theorem pe_cmtK {kws : List Keyword} {ks : List Str} {gV : List V → List V → List V} {tk : TA} (c : CmtK X.prog X.w X.K X.mg X.base k C m sp ks gV) (hr : Room j X.A) (hk : k ≤ j) (he : PE X o ta) (hkw : PK X kws tk)
    (hall : (backToKw pos (keywordEach kws X.env)).all (·.1.isSome) = true := by rfl) (hks : (backToKw pos (keywordEach kws X.env)).filterMap (·.1) = ks := by rfl)
    (hpl : ((backTo pos (starEach [] X.env)).any (·.1) || (backToKw pos (keywordEach kws X.env)).any (·.1.isNone)) = false := by rfl)
    (ht : eval (.Call (.Attribute o m apos) [] kws pos) X.env = (do
      let ov ← eval o X.env
      standAt apos.atName
      let (f, first) ← holding [ov] (getMethod ov m pl)
      callWith pos f first (backTo pos (starEach [] X.env)) (backToKw pos (keywordEach kws X.env))) := by rfl) :
    PE X (.Call (.Attribute o m apos) [] kws pos) (tCMetK C sp ks.length gV ta tk) := by
  obtain ⟨p, g, mc, fd, ps, gf, r, cm, F, b⟩ := c.ex
  refine ⟨fun pins s σ H Q I h => ?_⟩
  refine PySem.W.methodCall_KW (pl := pl) (thn (he.run pins s σ H _ I h) fun u s1 ⟨x, H1, I1, rx, ex, q⟩ => ?_) ht
  subst ex
  obtain rfl : u = Value.ref C := rx
  refine getmethcm_ok I1 r cm fun s2 I2 => ?_
  refine PySem.W.callWith_of (P := PySem.W.MethP X.K s1.heap.objs.size g (.ref C)) hpl (PySem.W.keeps_M cm.fi) (PyProof.Rows.evalArgs_kw2_nil hall (thn (hkw.run pos _ s2 σ H1 _ I2 q) fun ws s3 ⟨zs, H2, I3, rz, hl, q2⟩ => ⟨⟨pin_at I3, I3.kIn⟩, ?_⟩))
  rw [hks]
  have hlw : ws.length = ks.length := rz.length.symm.trans hl
  exact after_cm I3 passF (F.run X.A X.stack s3 H2 ⟨.ref C :: [], ks.zip ws⟩ (gf [.ref C] ws) (gV [.ref C] zs) Q _ (hr.mono hk) I3.env0 (b.to s3 [.ref C] ws I3.kIn rfl hlw) (b.rel (.cons rfl .nil) rz) q2)
/-- cls(..), the class in slot i -/
def tMakeL (i : Nat) (C : Addr) (sp : Sp) (dvs : List V) (t : TA) : TE := fun σ H Q => σ[i]? = some (some (.ref C)) ∧ tMake C sp dvs E0 t σ H Q
theorem pe_mkL {y x : Str} {i : Nat} {q : Pos} {dvs : List V} (c : MakF X.prog X.w X.K X.mg X.base k y C sp dvs) (hr : Room j X.A) (hk : k + 1 ≤ j) (hN : X.N[i]? = some x) (hv : Vis X.env.scope x) (ha : PA X (e :: es) t)
    (hdb : (x == ("__debug__" : Str)) = false := by decide) (hcd : (x == ("__classdict__" : Str)) = false := by decide)
    (he : starEach (e :: es) X.env = (false, eval e X.env) :: starEach es X.env := by rfl) (hpl : (backTo pos (starEach es X.env)).any (·.1) = false := by rfl) : PE X (.Call (.Name x q) (e :: es) [] pos) (tMakeL i C sp dvs t) := by
  obtain ⟨f, fd, ps, ds, M, F, hm, b, d⟩ := c.ex
  refine ⟨fun pins s σ H Q I h => ?_⟩
  obtain ⟨hs, ht⟩ := h
  refine wpAny_Call_Name_kw (thn ((pe_var (pos := q) hN hv hdb hcd).run pins s σ H (fun v H1 => v = .ref C ∧ H1 = H) I ⟨.ref C, hs, rfl, rfl⟩) fun u s1 ⟨v, H1, I1, r1, q1⟩ => ?_)
  obtain ⟨rfl, rfl⟩ := q1
  cases r1
  refine PySem.W.callWith_K (h₀ := X.base) I.ok.mod.kin M.kp (thn (ha.run pos pins s1 σ _ _ I1 ht) fun us s2 ⟨vs, H2, I2, r, q⟩ => ⟨I2.kIn, ?_⟩) he hpl
  exact run_make M F (hr.mono hk) b d pass0 I2 r q
end

/-! ### comprehensions over a text -/
theorem lc_str {x : Str} {g : TG} {tt : TT} {te : TE} {vs : List Nat} {σ : L2.St} {H1 : Hp} {D : Addr} {Qd : Hp → Prop} (Pv : Nat → Hp → Prop) (h0 : Pv 0 (upd H1 D (.lst [])))
    (hs : ∀ i c H, x.cps[i]? = some c → Pv i H → g (.str ⟨#[c]⟩) (wipe σ vs) H fun σ2 H2 => wipe σ2 vs = wipe σ vs ∧ tt σ2 H2 fun b H3 =>
      if b = true then te σ2 H3 fun y H4 => ∃ acc, H4 D = some (.lst acc) ∧ acc.length < sizeLine ∧ Pv (i + 1) (upd H4 D (.lst (acc ++ [y]))) else Pv (i + 1) H3) (hd : ∀ H, Pv x.cps.size H → Qd H) :
    ∃ W : Nat → Nat → Hp → Prop, (∃ m, W 0 m (upd H1 D (.lst []))) ∧ ∀ i m H, W i m H →
      ((Its x).stop i H ∧ Qd H) ∨ ((Its x).go i H ∧ ∃ Nx : Hp → Prop, (∀ H', Nx H' → ∃ m', m' < m ∧ W (i + 1) m' H') ∧ ∀ v H', (Its x).yld i H v H' → g v (wipe σ vs) H' fun σ2 H2 => wipe σ2 vs = wipe σ vs ∧ tt σ2 H2 fun b H3 =>
        if b = true then te σ2 H3 fun y H4 => ∃ acc, H4 D = some (.lst acc) ∧ acc.length < sizeLine ∧ Nx (upd H4 D (.lst (acc ++ [y]))) else Nx H3) := by
  refine ⟨fun i m H => m = x.cps.size - i ∧ i ≤ x.cps.size ∧ Pv i H, ⟨x.cps.size, by simp, Nat.zero_le _, h0⟩, ?_⟩
  rintro i m H ⟨rfl, hi, p⟩
  by_cases hlt : i < x.cps.size
  · refine .inr ⟨hlt, Pv (i + 1), fun H' p' => ⟨x.cps.size - (i + 1), by omega, rfl, hlt, p'⟩, fun v H' y => ?_⟩
    obtain ⟨rfl, c, e, rfl⟩ := y
    exact hs i c _ e p
  · have e : i = x.cps.size := by omega
    subst e
    exact .inl ⟨Nat.le_refl _, hd H p⟩
/-- [e for c in z], c in slot j: ys are the items of the new list -/
def tMapS (j : Nat) (tl te : TE) : TE := fun σ H Q => tl σ H fun x H1 => ∃ (z : Str) (ys : List V), x = .str z ∧ ys.length = z.length ∧ z.length ≤ 100000 ∧
  (∀ (i : Nat) (c : Nat) (y : V) (H' : Hp), z.cps[i]? = some c → ys[i]? = some y → Same H1 H' → te ((σ.set j none).set j (some (.str ⟨#[c]⟩))) H' fun v H'' => v = y ∧ Same H' H'') ∧
  ∀ D H', Same H1 H' → H1 D = none → H' D = some (.lst ys) → Q (.ref D) H'
theorem map_coreS {te : TE} {j : Nat} {σ : L2.St} {H1 : Hp} {Q : VK} {z : Str} {ys : List V} (hn : ys.length = z.length) (hs : z.length ≤ 100000)
    (he : ∀ (i : Nat) (c : Nat) (y : V) (H' : Hp), z.cps[i]? = some c → ys[i]? = some y → Same H1 H' → te ((σ.set j none).set j (some (.str ⟨#[c]⟩))) H' fun v H'' => v = y ∧ Same H' H'')
    (k : ∀ D H', Same H1 H' → H1 D = none → H' D = some (.lst ys) → Q (.ref D) H') :
    tLc (fun _ H R => R (Its z) H) (gName j) tYes (tCut te) [j] σ H1 Q := by
  intro D hD
  refine lc_str (x := z) (fun i H' => Same H1 H' ∧ H' D = some (.lst (ys.take i))) ⟨fun c u h => by rw [upd_ne (ne_of_none h hD)]; exact h, upd_same⟩ ?_ ?_
  · rintro i c H' hi ⟨s, e⟩
    have hi2 : i < z.cps.size := (Array.getElem?_eq_some_iff.mp hi).1
    have hn' : ys.length = z.cps.size := hn
    have hy : ys[i]? = some ys[i] := List.getElem?_eq_getElem (by omega)
    refine ⟨wipe_one, _, he i c _ H' hi hy s, ?_⟩
    rintro v H2 ⟨rfl, s2⟩
    refine ⟨_, s2 _ _ e, ?_, ?_, ?_⟩
    · rw [List.length_take]
      exact Nat.lt_of_le_of_lt (m := 100000) (by omega) (by decide)
    · intro c o hc
      rw [upd_ne (ne_of_none hc hD)]
      exact s2 _ _ (s _ _ hc)
    · rw [upd_same, take_one hy]
  · rintro H' ⟨s, e⟩
    have hn' : ys.length = z.cps.size := hn
    rw [← hn', List.take_length] at e
    exact k D H' s hD e
theorem pe_mapS {X : Cx} {e : Expr} {tl te : TE} {j : Nat} (h : PE X e (tLc (iStr (tCut tl)) (gName j) tYes (tCut te) [j])) : PE X e (tMapS j tl te) := by
  refine pe_imp h fun σ H Q q => ?_
  refine ⟨_, q, ?_⟩
  rintro v H1 ⟨z, ys, rfl, hn, hs, he, k⟩
  exact ⟨z, rfl, map_coreS hn hs he k⟩
theorem cr_allK {X : Cx} {K : PySem.W.Frag} (hc : X.calm = true) (hK : X.K = K := by rfl) : CallR X (.builtin "all") (rAll K) := hK ▸ cr_all hc
end MG

namespace MG
open PySem PySem.Spec PyProof.Rows L2
/-- [e for x in range(..)], what an item changes told by P (of the new list's place and the turn) -/
def tMapRP (j : Nat) (ta : TA) (te : TE) : TE := fun σ H Q => ta σ H fun vs H1 => ∃ (m : Int) (ys : List V) (Pv : Addr → Nat → Hp → Prop), vs = [.int m] ∧ 0 ≤ m ∧ m ≤ 100000 ∧ (ys.length : Int) = m ∧
  (∀ D, H1 D = none → Pv D 0 (upd H1 D (.lst []))) ∧
  (∀ (D : Addr) (i : Nat) (y : V) (H' : Hp), ys[i]? = some y → Pv D i H' → H' D = some (.lst (ys.take i)) → te ((σ.set j none).set j (some (.int i))) H' fun v H'' => v = y ∧ H'' D = some (.lst (ys.take i)) ∧ Pv D (i + 1) (upd H'' D (.lst (ys.take (i + 1))))) ∧
  ∀ D H', H' D = some (.lst ys) → Pv D ys.length H' → Q (.ref D) H'
theorem map_coreRP {te : TE} {j : Nat} {σ : L2.St} {H1 : Hp} {Q : VK} {m : Nat} {ys : List V} {Pv : Addr → Nat → Hp → Prop} (hn : ys.length = m) (hs : m ≤ 100000) (h0 : ∀ D, H1 D = none → Pv D 0 (upd H1 D (.lst [])))
    (he : ∀ (D : Addr) (i : Nat) (y : V) (H' : Hp), ys[i]? = some y → Pv D i H' → H' D = some (.lst (ys.take i)) → te ((σ.set j none).set j (some (.int i))) H' fun v H'' => v = y ∧ H'' D = some (.lst (ys.take i)) ∧ Pv D (i + 1) (upd H'' D (.lst (ys.take (i + 1)))))
    (k : ∀ D H', H' D = some (.lst ys) → Pv D ys.length H' → Q (.ref D) H') :
    tLc (fun _ H R => R (Itr 0 m) H) (gName j) tYes (tCut te) [j] σ H1 Q := by
  intro D hD
  refine lc_range (lo := 0) (n := m) (fun i H' => H' D = some (.lst (ys.take i)) ∧ Pv D i H') ⟨upd_same, h0 D hD⟩ ?_ ?_
  · rintro i H' hi ⟨e, p⟩
    have hy : ys[i]? = some ys[i] := List.getElem?_eq_getElem (by omega)
    have e0 : (0 : Int) + (i : Int) = i := Int.zero_add _
    rw [e0]
    refine ⟨wipe_one, _, he D i _ H' hy p e, ?_⟩
    rintro v H2 ⟨rfl, e2, p2⟩
    refine ⟨_, e2, ?_, ?_, ?_⟩
    · rw [List.length_take]
      exact Nat.lt_of_le_of_lt (m := 100000) (by omega) (by decide)
    · rw [upd_same, take_one hy]
    · rw [take_one hy] at p2
      exact p2
  · rintro H' ⟨e, p⟩
    rw [← hn, List.take_length] at e
    rw [← hn] at p
    exact k D H' e p
theorem pe_mapRP {X : Cx} {e : Expr} {ta : TA} {te : TE} {j : Nat} (mono : ∀ σ H (Q Q' : List V → Hp → Prop), (∀ v H', Q v H' → Q' v H') → ta σ H Q → ta σ H Q')
    (h : PE X e (tLc (iRng1 ta) (gName j) tYes (tCut te) [j])) : PE X e (tMapRP j ta te) := by
  refine pe_imp h fun σ H Q q => ?_
  refine mono σ H _ _ ?_ q
  rintro vs H1 ⟨m, ys, Pv, rfl, h0, hm, hn, hp, he, k⟩
  exact ⟨m, rfl, by omega, by omega, map_coreRP (by omega) (by omega) hp he k⟩
end MG

/-! own errors held as values: made by position and by keyword, their fields read, asked by isinstance -/
namespace MG
open PySem PySem.Spec PyProof.Rows L2
/-! ### a class of errors called with keywords -/
section
open PySem.HandSPX
variable {prog : Program} {w : World} {A : Around} {E : Value → Shared → Prop} {R : Result → Shared → Prop} {h : Heap} {g : Array GenState} {d : Drawn} {t : Nat} {os : OsState}
variable {nm q : Str} {C N : Addr} {bs bm tl : List Value} {hdct : Bool} {sn : List Str} {sub : List Value} {ab : Bool} {col : Option Bool} {dd : Option Addr} {k0 k1 k2 k3 k5 : Option Value} {B newId initId : String} {rest : List Value} {kw : List (Str × Value)}
theorem xk_check {M : Model} (F : ExcBaseFacts B newId initId tl) (hT : ∀ X : String, bm.contains (.type X) = tl.contains (.type X)) {Q : Unit → Shared → Prop}
    (hC : h.get? C = some (excClassObj nm q C N bs bm hdct sn sub ab col dd k0 k1 k2 k3 k5 newId)) (hq : Q () ⟨h, g, d, t, os⟩) : wpAny M A (checkBuiltinCall newId ⟨.ref C :: rest, kw⟩) Q E ⟨h, g, d, t, os⟩ := by
  have hcont : (Value.ref C :: bm).contains (.type B) = true := by rw [List.contains_cons, hT, F.hasB, Bool.or_true]
  have hstar := F.noStar
  simp only [checkBuiltinCall, F.newKind, F.newSplit, F.newRow]
  repeat (first | refine wpAny_loadPart_at hC ?_ | (refine wpAny_isSubtype_exc hC ?_; rw [hcont]) | refine wpAny_staticBase_exc hC ?_ | refine wpAny_madeBy_exc hC ?_ | simp only [bne_self_eq_false, Bool.false_eq_true, if_false] | wp_step)
  exact hq
theorem xk_new (F : ExcBaseFacts B newId initId tl) (hT : ∀ X : String, bm.contains (.type X) = tl.contains (.type X))
    (hC : h.get? C = some (excClassObj nm q C N bs bm hdct sn sub ab col dd k0 k1 k2 k3 k5 newId))
    (hq : R (.ok (.ret (.ref (h.objs.size + 1)))) ⟨(h.push (PySem.W.kdv_tup rest)).push (excO C h.objs.size), g, d, t, os⟩) (hrest : rest.length ≤ sizeLine) :
    codeAny (model prog w) A (.builtin newId ⟨.ref C :: rest, kw⟩) R ⟨h, g, d, t, os⟩ := by
  have hends := F.ends
  have hcB : (Value.ref C :: bm).contains (.type B) = true := by rw [List.contains_cons, hT, F.hasB, Bool.or_true]
  have hcA : (Value.ref C :: bm).contains (.type "AttributeError") = false := by rw [List.contains_cons, hT, F.noAttr]; rfl
  have hcN : (Value.ref C :: bm).contains (.type "NameError") = false := by rw [List.contains_cons, hT, F.noName]; rfl
  refine codeAny_builtinAt F.entry ?_
  unfold Builtin.«BaseException.__new__»
  refine PySem.wpAt_bind ?_
  show PySem.wpAt _ _ _ (stack >>= _) _ _ _
  refine PySem.wpAt_bind (PySem.wpAt_stack fun p below => PySem.wpAt_of_wpAny ?_)
  wp_walk
  refine PySem.wpAt_of_wpAny ?_
  rw [F.owner]
  repeat (first | with_reducible refine wpAny_madeHere_exc F.canon hC ?_ | with_reducible refine wpAny_loadPart_at hC ?_ | (with_reducible refine wpAny_isSubtype_exc hC ?_; first | rw [hcB] | rw [hcA] | rw [hcN]) | wp_step)
  show R _ _
  rw [Heap.size_push]
  exact hq
theorem xk_type (F : ExcBaseFacts B newId initId tl) (hT : ∀ X : String, bm.contains (.type X) = tl.contains (.type X)) {fI : Addr} {Q : Fin → Shared → Prop}
    (hC : h.get? C = some (excClassObj nm q C N bs bm hdct sn sub ab col dd k0 k1 k2 k3 k5 newId))
    (hi : PySem.W.Looks (model prog w) h (typeLookup (.ref C) "__init__") (some (.ref fI))) (hb : ∀ self, PySem.W.Looks (model prog w) h (bindSpecial (.ref fI) self) (.ref fI, [self])) (hrest : rest.length ≤ sizeLine)
    (hq : codeAny (model prog w) A (.call (.ref fI) ⟨.ref (h.objs.size + 1) :: rest, kw⟩)
      (fun r s' => match r with | .ok (.ret v) => v = .none ∧ Q (.done (.ret (.ref (h.objs.size + 1)))) s' | .ok _ => False | .error e => E e s')
      ⟨(h.push (PySem.W.kdv_tup rest)).push (excO C h.objs.size), g, d, t, os⟩) :
    wpAny (model prog w) A (Builtin.«type.__call__» ⟨.ref C :: rest, kw⟩) Q E ⟨h, g, d, t, os⟩ := by
  repeat (first | with_reducible refine wpAny_loadPart_at hC ?_ | with_reducible refine wpAny_madeBy_exc hC ?_ | wp_step)
  refine codeAny_call_builtin_code (Code.quiet_builtin _ F.quiet) (xk_check F hT hC ?_)
  refine xk_new F hT hC ?_ hrest
  show wpAny _ _ _ _ _ _
  have k : ∀ b o, h.get? b = some o → ((h.push (PySem.W.kdv_tup rest)).push (excO C h.objs.size)).get? b = some o := fun b o e => Heap.get?_push_of_some _ (Heap.get?_push_of_some _ e)
  have hC₁ := k _ _ hC
  have hget : ((h.push (PySem.W.kdv_tup rest)).push (excO C h.objs.size)).get? (h.objs.size + 1) = some (excO C h.objs.size) := by heap_get
  have hcC : (Value.ref C :: bm).contains (.ref C) = true := by simp
  have i1 := hi.keeps k
  have b1 := (hb (.ref (h.objs.size + 1))).keeps k
  unfold isInstance
  repeat (first | with_reducible refine wpAny_loadPart_at hget ?_ | (with_reducible refine wpAny_isSubtype_exc hC₁ ?_; rw [hcC]) | wp_step)
  show wpAny _ _ (typeLookup (.ref C) _) _ _ _
  refine i1.at ?_
  refine wpAny_holding (wpAny_bind (b1.at ?_))
  refine wpAny_bind (wpAny_call (codeAny_mono hq fun r s' z => ?_))
  rcases r with e | (v | _ | _ | _) <;> first | exact z | exact z.elim | skip
  obtain ⟨rfl, z⟩ := z
  first
    | exact wpAny_pure (wpAny_pure z)
    | (wp_walk; exact z)
theorem xk_call (F : ExcBaseFacts B newId initId tl) (hT : ∀ X : String, bm.contains (.type X) = tl.contains (.type X)) {fI : Addr}
    (hC : h.get? C = some (excClassObj nm q C N bs bm hdct sn sub ab col dd k0 k1 k2 k3 k5 newId))
    (hi : PySem.W.Looks (model prog w) h (typeLookup (.ref C) "__init__") (some (.ref fI))) (hb : ∀ self, PySem.W.Looks (model prog w) h (bindSpecial (.ref fI) self) (.ref fI, [self])) (hrest : rest.length ≤ sizeLine)
    (hq : codeAny (model prog w) (A.under (.builtin "type.__call__" ⟨.ref C :: rest, kw⟩)) (.call (.ref fI) ⟨.ref (h.objs.size + 1) :: rest, kw⟩) (PySem.W.InitBack (h.objs.size + 1) R)
      ⟨(h.push (PySem.W.kdv_tup rest)).push (excO C h.objs.size), g, d, t, os⟩) :
    codeAny (model prog w) A (.call (.ref C) ⟨rest, kw⟩) R ⟨h, g, d, t, os⟩ := by
  have f1 := tc_lookup
  have f2 := tc_bind (.ref C)
  have hTy : (⟨h, g, d, t, os⟩ : Shared).TypeIs (.ref C) "type" := ⟨_, hC, rfl⟩
  refine codeAny_of_tree ?_
  show wpAny _ _ (callAny (.ref C) _) _ _ _
  repeat (any_goals (first | assumption | with_reducible refine wpAny_loadPart_at hC ?_ | wp_step))
  refine ⟨rfl, ?_⟩
  refine codeAny_call_builtin_at (Code.quiet_builtin _ (by decide +kernel)) entry_typeCall (wpAny_check_type_call_sub hC (xk_type F hT hC hi hb hrest ?_))
  refine codeAny_mono hq fun r s' z => ?_
  rcases r with e | (v | _ | _ | _) <;> exact z
end
end MG

namespace MG
open PySem PySem.Spec PyProof.Rows L2
/-- a built-in class of errors over which own ones stand -/
structure ExB (B newId initId : String) (tl : List Value) : Prop where
  fb : ExcBaseFacts B newId initId tl
  sf : StoreFacts B tl "object.__setattr__" "object"
/-- what an own class of errors says -/
structure ErC (K : PySem.W.Frag) (C : Addr) : Prop where
  cls : ∃ B newId initId tl, ExB B newId initId tl ∧ PySem.W.excInitIn K C tl newId = true ∧ PySem.W.excOver K C tl = true
  sa : PySem.W.findIn K (.ref C) "__setattr__" = some (some (.builtin "object.__setattr__"))
  exC : PySem.W.subIn K (.ref C) (.type "BaseException") = some true
  tyC : PySem.W.typeIn K (.ref C) = some (.type "type")
  kC : PySem.W.keepIn K (.ref C) = true
  ga : PySem.W.findIn K (.ref C) "__getattribute__" = some (some (.builtin "BaseException.__getattribute__"))
  gg : PySem.W.findIn K (.ref C) "__getattr__" = some none
  hd : PySem.W.hasDictIn K C = true
  ca : PySem.W.findIn K (.ref C) "__class__" = some (some (.builtin "object.__class__"))
  cn : PySem.W.specialIn K (.builtin "object.__class__") "__get__" = some (some (.builtin "getset_descriptor.__get__"))
  ct : PySem.W.takesIn K (.builtin "object.__class__") = some true
  mo : PySem.W.mroIn K C (.type "object") = some true
theorem ErC.look {K : PySem.W.Frag} {C : Addr} (T : ErC K C) : ∃ cd, PySem.W.clsIn K C = some cd ∧ cd.hasDict = true ∧ ∀ self, refuseLoop self "__setattr__" cd.mro = pure () := by
  obtain ⟨B, newId, initId, tl, eb, _, ho⟩ := T.cls
  obtain ⟨cd, hcd, h⟩ := PySem.W.any_some ho
  obtain ⟨cd', hcd', hd⟩ := PySem.W.any_some T.hd
  rw [hcd] at hcd'
  obtain rfl := Option.some.inj hcd'
  refine ⟨cd, hcd, hd, fun self => ?_⟩
  obtain ⟨nm, bs, mro, ns, qn, hdd, sn, sb, ab, col, del⟩ := cd
  dsimp only at h ⊢
  split at h
  · rename_i C' bm
    have h2 := (Bool.and_eq_true_iff.mp h).2
    exact PySem.W.excTail_pass self (eb.sf.passes self) _ (show PySem.W.excTail tl (.ref C' :: bm) = true from h2)
  · cases h
section
open Builtin Builtin.ObjectAttr PySem.HandSPX
variable {prog : Program} {w : World} {A : Around} {E : Value → Shared → Prop} {R : Result → Shared → Prop} {hp : Heap} {g : Array GenState} {d : Drawn} {t : Nat} {os : OsState}
theorem er_osa0 {K : PySem.W.Frag} {name : Str} {tk : Tok} {v : Value} {x C : Addr} {fv : Array Value} (T : ErC K C)
    (X : K.In hp) (hx : hp.get? x = some { cls := .ref C, data := .fields fv }) (ha : PySem.W.findIn K (.ref C) name = some none)
    (hq : ∀ h' tk' dx, (∀ b o, b ≠ x → hp.get? b = some o → h'.get? b = some o) → hp.objs.size ≤ dx → dx ≠ x → h'.get? x = some { cls := .ref C, dict := some dx, data := .fields fv } →
      h'.Ns1 dx (fun y => if y = name then some v else none) → R (.ok (.ret .none)) ⟨h', g, d, tk', os⟩) :
    codeAny (model prog w) A (.call (.builtin "object.__setattr__") ⟨[.ref x, .str name tk, v], []⟩) R ⟨hp, g, d, t, os⟩ := by
  obtain ⟨cd, hcd, hh, hm⟩ := T.look
  have I : PySem.W.InstAt hp x { cls := .ref C, data := .fields fv } C none := ⟨hx, rfl, rfl, trivial⟩
  have SF := PySem.F.store_object
  have hxs : x ≠ hp.objs.size := Nat.ne_of_lt (Heap.lt_size hx)
  have sub : PySem.W.Looks (model prog w) hp (isInstance (.ref x) (.type "object")) true := I.type.andThen (PySem.W.looks_mroIn X T.mo)
  refine codeAny_call_builtin SF.slot.plain SF.entry (@PySem.W.check_slot (model prog w) _ _ ⟨hp, g, d, t, os⟩ "object.__setattr__" "object" "__setattr__" (.ref x) [.str name tk, v] [] _ SF.kind SF.split sub (SF.args (.ref x) (.str name tk) v) ?_)
  have hmr : PySem.W.Looks (model prog w) hp (mroOf (.ref C)) cd.mro := (PySem.W.looks_clsIn X hcd).andThen .now
  have L3 : PySem.W.Looks (model prog w) hp (storeTaker? none) none := .now
  have hcls : PySem.W.Looks (model prog w) hp (classData C) cd := PySem.W.looks_clsIn X hcd
  rw [PySem.W.osa_eq, refuse_eq]
  refine wpAny_bind (wpAny_bind (I.type.at (wpAny_bind (hmr.at ?_))))
  rw [hm]
  refine wpAny_pure (wpAny_bind (I.type.at (wpAny_bind ((PySem.W.looks_findIn X ha).at (wpAny_bind (L3.at ?_))))))
  show wpAny _ _ (storeInOwnDict (.ref x) (.ref C) (.str name tk) name v false) _ _ _
  obtain ⟨nm, bs, mro, ns, qn, hd, sn, sb, ab, col, del⟩ := cd
  dsimp only at hh
  subst hh
  unfold storeInOwnDict ownDictForStores
  repeat (first | with_reducible refine PySem.HandSPX.store_in_new ?_ ?_ | with_reducible refine wpAny_loadPart_at hx ?_ | with_reducible refine hcls.at ?_ | wp_step)
  · exact ⟨_, #[], _, (Heap.get?_update_ne _ _ _ _ hxs.symm).trans (Heap.get?_push_at rfl rfl), rfl, fun e he => absurd he (by simp), fun _ => rfl⟩
  · intro h' tk' hn' hs
    have hx₁ : (hp.push { cls := .type "dict", data := .dict #[] }).get? x = some { cls := .ref C, data := .fields fv } := Heap.get?_push_of_some _ hx
    refine hq h' tk' hp.objs.size (fun b o hb ho => ?_) (Nat.le_refl _) hxs.symm ?_ hn'
    · exact (hs.2 b (Nat.ne_of_lt (Heap.lt_size ho))).trans ((Heap.get?_update_ne _ _ _ _ hb).trans (Heap.get?_push_of_some _ ho))
    · exact (hs.2 x hxs).trans (Heap.get?_update_self _ hx₁ rfl)
theorem er_osa1 {K : PySem.W.Frag} {name : Str} {tk : Tok} {v : Value} {x C dx : Addr} {fv : Array Value} {m0 : Str → Option Value} {nl : List Str} (T : ErC K C)
    (X : K.In hp) (hx : hp.get? x = some { cls := .ref C, dict := some dx, data := .fields fv }) (hns : hp.Ns1 dx m0) (hw : Within m0 nl) (hz : nl.length ≤ 1000)
    (ha : PySem.W.findIn K (.ref C) name = some none)
    (hq : ∀ h' tk', (∀ b o, b ≠ dx → hp.get? b = some o → h'.get? b = some o) → h'.Ns1 dx (fun y => if y = name then some v else m0 y) → R (.ok (.ret .none)) ⟨h', g, d, tk', os⟩) :
    codeAny (model prog w) A (.call (.builtin "object.__setattr__") ⟨[.ref x, .str name tk, v], []⟩) R ⟨hp, g, d, t, os⟩ := by
  obtain ⟨cd, hcd, hh, hm⟩ := T.look
  obtain ⟨oD, esD, epD, hoD, hdD, _⟩ := hns.count hw
  have I : PySem.W.InstAt hp x { cls := .ref C, dict := some dx, data := .fields fv } C (some oD) := ⟨hx, rfl, rfl, hoD⟩
  have SF := PySem.F.store_object
  have sub : PySem.W.Looks (model prog w) hp (isInstance (.ref x) (.type "object")) true := I.type.andThen (PySem.W.looks_mroIn X T.mo)
  refine codeAny_call_builtin SF.slot.plain SF.entry (@PySem.W.check_slot (model prog w) _ _ ⟨hp, g, d, t, os⟩ "object.__setattr__" "object" "__setattr__" (.ref x) [.str name tk, v] [] _ SF.kind SF.split sub (SF.args (.ref x) (.str name tk) v) ?_)
  have hmr : PySem.W.Looks (model prog w) hp (mroOf (.ref C)) cd.mro := (PySem.W.looks_clsIn X hcd).andThen .now
  have L3 : PySem.W.Looks (model prog w) hp (storeTaker? none) none := .now
  have hcls : PySem.W.Looks (model prog w) hp (classData C) cd := PySem.W.looks_clsIn X hcd
  rw [PySem.W.osa_eq, refuse_eq]
  refine wpAny_bind (wpAny_bind (I.type.at (wpAny_bind (hmr.at ?_))))
  rw [hm]
  refine wpAny_pure (wpAny_bind (I.type.at (wpAny_bind ((PySem.W.looks_findIn X ha).at (wpAny_bind (L3.at ?_))))))
  show wpAny _ _ (storeInOwnDict (.ref x) (.ref C) (.str name tk) name v false) _ _ _
  obtain ⟨nm, bs, mro, ns, qn, hd, sn, sb, ab, col, del⟩ := cd
  dsimp only at hh
  subst hh
  unfold storeInOwnDict ownDictForStores
  repeat (first | with_reducible refine PySem.OEX.store_in_old hns hw hz ?_ | with_reducible refine wpAny_loadPart_at hx ?_ | with_reducible refine hcls.at ?_ | wp_step)
  intro h' tk' hn' hs
  exact hq h' tk' (fun b o hb ho => (hs.2 b hb).trans ho) hn'
end
section
variable {X : Cx} {pins : List (Addr × Obj)} {σ : L2.St} {H : Hp} {s : Shared} {a C dx : Addr} {f : Str} {y : V} {u : Value} {fs : List (Str × V)} {Q : Unit → Shared → Prop} {E : Value → Shared → Prop} {A : Around}
/-- self.f = y, the first one -/
theorem er_new (T : ErC X.K C) (I : Inv X pins σ H s) (e : H a = some (exo a C none)) (hno : PySem.W.findIn X.K (.ref C) f = some none) (ry : RelV y u)
    (h : ∀ dx s', H dx = none → dx ≠ a → Inv X pins σ (upd (upd H dx (exd dx [(f, y)])) a (exo a C (some dx))) s' → Q () s') : wpAny (model X.prog X.w) A (setAttr (.ref a) f u) Q E s := by
  obtain ⟨t1, ho⟩ := exo_at I.hok e
  obtain ⟨hp, g, d, t, os⟩ := s
  refine PySem.W.set_plain I.kIn (ox := { cls := .ref C, dict := none, data := .fields #[.ref t1, .none, .none, .none, .bool false, .none] }) (od := none) ⟨ho, rfl, rfl, trivial⟩ T.sa ?_
  refine er_osa0 T I.kIn ho hno (fun h' tk' dx k dn dne hx hn => ?_)
  have hnd : H dx = none := I.hok.fresh dn
  have nd : ∀ {b : Addr} {o : Obj}, hp.get? b = some o → b ≠ dx := fun {b o} q => Nat.ne_of_lt (Nat.lt_of_lt_of_le (Heap.lt_size q) dn)
  have na : ∀ {b : Addr}, H b = none → b ≠ a := fun {b} n z => by
    rw [z, e] at n
    cases n
  have Un1 : Un X.fs [] H (upd (upd H dx (exd dx [(f, y)])) a (exo a C (some dx))) hp h' := {
    keep := fun b o q n _ _ => k b o (na n) q
    slot := fun b o q n _ _ => ⟨o.slots, k b o (na n) q⟩
    free := fun b o q n _ => by rw [upd_ne (na n), upd_ne (nd q)]; exact n
    there := fun b o q _ => by
      by_cases hb : b = a
      · exact ⟨_, by rw [hb]; exact hx⟩
      · exact ⟨o, k b o hb q⟩
    tups := fun b xs q => by rw [upd_ne (at_ne e q exo_tup), upd_ne (ne_of_none q hnd)]; exact q
    frzs := fun b o v q => by rw [upd_ne (at_ne e q exo_frz), upd_ne (ne_of_none q hnd)]; exact q
    tbls := fun b ps q => ⟨#[], by rw [upd_ne (at_ne e q exo_tbl), upd_ne (ne_of_none q hnd), q]; simp⟩ }
  refine h dx _ hnd dne (I.un (t' := tk') Un1 fun b o q => ?_)
  by_cases hb : b = a
  · subst hb
    rw [upd_same] at q
    cases q
    exact exo_ok hx
  · rw [upd_ne hb] at q
    by_cases hd : b = dx
    · subst hd
      rw [upd_same] at q
      cases q
      exact exd_ok hn (relO_put (fs := []) ry fun g => True.intro)
    · rw [upd_ne hd] at q
      exact (I.hok b o q).stay (fun c v hc z => k c v (by
          rcases hc with hc | hc
          · rw [hc]
            exact hb
          · exact at_ne e hc exo_own) z)
        (fun c hc => by rw [upd_ne (at_ne e hc exo_own), upd_ne (ne_of_none hc hnd)]; exact hc) (fun c xs hc => by rw [upd_ne (at_ne e hc exo_tup), upd_ne (ne_of_none hc hnd)]; exact hc)
/-- self.f = y, a further one -/
theorem er_old (T : ErC X.K C) (I : Inv X pins σ H s) (e : H a = some (exo a C (some dx))) (ed : H dx = some (exd dx fs)) (hl : fs.length ≤ 900) (hno : PySem.W.findIn X.K (.ref C) f = some none) (ry : RelV y u)
    (h : ∀ s', Inv X pins σ (upd H dx (exd dx ((f, y) :: fs))) s' → Q () s') : wpAny (model X.prog X.w) A (setAttr (.ref a) f u) Q E s := by
  obtain ⟨t1, ho⟩ := exo_at I.hok e
  obtain ⟨mA, hns, rel⟩ := exd_at I.hok ed
  have hw := within_of rel
  obtain ⟨hp, g, d, t, os⟩ := s
  obtain ⟨oD, _, _, hoD, _, _⟩ := hns.count hw
  refine PySem.W.set_plain I.kIn (ox := { cls := .ref C, dict := some dx, data := .fields #[.ref t1, .none, .none, .none, .bool false, .none] }) (od := some oD) ⟨ho, rfl, rfl, hoD⟩ T.sa ?_
  refine er_osa1 T I.kIn ho hns hw (by rw [List.length_map]; omega) hno (fun h' tk' k hn => ?_)
  have hd : ∃ o, h'.get? dx = some o := by
    obtain ⟨o, _, _, e', _⟩ := hn
    exact ⟨o, e'⟩
  exact h _ (I.write (t' := tk') (x := dx) (e := dx) (o := exd dx ((f, y) :: fs)) (by rw [ed]; exact True.intro) (.inl rfl) k hd (exd_ok hn (relO_put ry rel)))
end
/-- self.f = e, self an own error -/
def tOsE (K : PySem.W.Frag) (f : Str) (to te : TE) : TS := fun D σ H => te σ H fun y H1 => to σ H1 fun x H2 => ∃ a C : Addr, x = .ref a ∧ ErC K C ∧ PySem.W.findIn K (.ref C) f = some none ∧
  ((H2 a = some (exo a C none) ∧ ∀ dx, H2 dx = none → dx ≠ a → D.nx σ (upd (upd H2 dx (exd dx [(f, y)])) a (exo a C (some dx)))) ∨
    ∃ (dx : Addr) (fs : List (Str × V)), H2 a = some (exo a C (some dx)) ∧ H2 dx = some (exd dx fs) ∧ fs.length ≤ 900 ∧ D.nx σ (upd H2 dx (exd dx ((f, y) :: fs))))
theorem ps_osE {X : Cx} {o e : Expr} {to te : TE} {f : Str} {p' pos : Pos} (ho : PE X o to) (he : PE X e te) (hs : swapsWith e (some (.Attribute o f p')) pos.line X.env = pure false := by rfl) : PS X (.Assign [.Attribute o f p'] e pos) (tOsE X.K f to te) := by
  refine ⟨fun pins s σ H D I h => ?_⟩
  refine plainObj_wpAny_Assign_Attribute (thn (he.run pins s σ H _ I h) fun v s1 ⟨y, H1, I1, r1, q1⟩ => thn (ho.run pins s1 σ H1 _ I1 q1) fun u s2 ⟨x, H2, I2, r2, a, C, ex, T, hno, q⟩ => ?_) hs
  subst ex
  obtain rfl : u = Value.ref a := r2
  rcases q with ⟨ea, q⟩ | ⟨dx, fs, ea, ed, hl, q⟩
  · exact er_new T I2 ea hno r1 fun dx s' n ne J => ⟨σ, _, J, q dx n ne⟩
  · exact er_old T I2 ea ed hl hno r1 fun s' J => ⟨σ, _, J, q⟩
/-! ### made, held as values -/
/-- what stands at a: an error of the class C with these fields -/
def ErAt (C : Addr) (fs : List (Str × V)) (H : Hp) (a : Addr) : Prop := (fs = [] ∧ H a = some (exo a C none)) ∨ ∃ d, H a = some (exo a C (some d)) ∧ H d = some (exd d fs)
theorem ErAt.same {C a : Addr} {fs : List (Str × V)} {H H' : Hp} (h : ErAt C fs H a) (s : Same H H') : ErAt C fs H' a := by
  rcases h with ⟨e, h⟩ | ⟨d, h1, h2⟩
  · exact .inl ⟨e, s _ _ h⟩
  · exact .inr ⟨d, s _ _ h1, s _ _ h2⟩
/-- the __init__ of such a class -/
def spEr (K : PySem.W.Frag) (C : Addr) (fls : List Str) : Sp := fun vs H Q _ => ∃ (a : Addr) (ys : List V), vs = .ref a :: ys ∧ ys.length = fls.length ∧ ErC K C ∧ (∀ f ∈ fls, PySem.W.findIn K (.ref C) f = some none) ∧ H a = some (exo a C none) ∧
  ∀ dx H', H dx = none → dx ≠ a → (∀ b o, H b = some o → b ≠ a → H' b = some o) → H' a = some (exo a C (some dx)) → H' dx = some (exd dx (fls.zip ys).reverse) → Q .non H'
theorem er_vrev {xs : List V} {us : List Value} (r : Vals xs us) : Vals xs.reverse us.reverse := by
  induction r with
  | nil => exact .nil
  | cons h t ih =>
    rw [List.reverse_cons, List.reverse_cons]
    exact ih.append (.cons h .nil)
structure MkE (P : Program) (w : World) (K : PySem.W.Frag) (mg : Str → Option Value) (base : Heap) (k : Nat) (x : Str) (C : Addr) (fls : List Str) : Prop where
  er : ErC K C
  no : ∀ f ∈ fls, PySem.W.findIn K (.ref C) f = some none
  g : mg x = some (.ref C)
  few : fls.length ≤ 2
  ex : ∃ (fI : Addr) (fd : FuncData) (ps : List Str), PySem.W.findIn K (.ref C) "__init__" = some (some (.ref fI)) ∧ PySem.W.typeIn K (.ref fI) = some (.type "function") ∧ FnOk P w K mg base CX0 k fI fd ps (spEr K C fls) ∧ Binds K fd ps [] ∧
    KBn K fd ps 1 fls.reverse (fun us ws => us ++ ws.reverse) (fun vs zs => vs ++ zs.reverse)
def tMkE (C : Addr) (fls : List Str) (ta : TA) : TE := fun σ H Q => ta σ H fun vs H1 => vs.length = fls.length ∧ ∀ a H', Same H1 H' → H1 a = none → ErAt C (fls.zip vs).reverse H' a → Q (.ref a) H'
def tMkEK (C : Addr) (fls : List Str) (tk : TA) : TE := fun σ H Q => tk σ H fun zs H1 => zs.length = fls.length ∧ ∀ a H', Same H1 H' → H1 a = none → ErAt C (fls.zip zs.reverse).reverse H' a → Q (.ref a) H'
section
variable {X : Cx} {k j : Nat} {C : Addr} {fls : List Str} {x : Str} {p pos : Pos} {e : Expr} {es : List Expr} {kws : List Keyword} {ta tk : TA}
/-- the call of the class: rest by position, kw by name; all of them ys in the order of the fields -/
theorem er_run {pins : List (Addr × Obj)} {σ : L2.St} {H1 : Hp} {Q : VK} {s1 : Shared} {us : List Value} {kw : List (Str × Value)} {ys : List V} {ws : List Value} (c : MkE X.prog X.w X.K X.mg X.base k x C fls) (hr : Room j X.A) (hk : k + 1 ≤ j) (I1 : Inv X pins σ H1 s1)
    (hl : ys.length = fls.length) (hu : us.length ≤ 10) (rv : Vals ys ws) (hb : ∀ (fI : Addr) (fd : FuncData) (ps : List Str), FnOk X.prog X.w X.K X.mg X.base CX0 k fI fd ps (spEr X.K C fls) → Binds X.K fd ps [] → KBn X.K fd ps 1 fls.reverse (fun us ws => us ++ ws.reverse) (fun vs zs => vs ++ zs.reverse) →
      ∀ (a : Addr) (s : Shared), X.K.In s.heap → (a :: ys.map fun _ => a).length = ps.length → BindsTo s fd ⟨.ref a :: us, kw⟩ (ps.zip (.ref a :: ws)))
    (q1 : ∀ a H', Same H1 H' → H1 a = none → ErAt C (fls.zip ys).reverse H' a → Q (.ref a) H') : wpAny (model X.prog X.w) X.A (call (.ref C) us kw) (EP X pins σ Q) X.xe s1 := by
  obtain ⟨er, hno, hm, few, fI, fd, ps, iC, tI, F1, b1, b2⟩ := c
  obtain ⟨B, newId, initId, tl, eb, hin, _⟩ := er.cls
  obtain ⟨hp, g, dr, tk, os⟩ := s1
  obtain ⟨nm, N, q, bs, bm, hdct, sn, sub, ab, col, dd, k0, k1, k2, k3, k5, hC, hT⟩ := PySem.W.excInit_of (h := hp) I1.kIn hin
  have hsz : hp.objs.size ≤ hp.objs.size + 1 := Nat.le_succ _
  have hn : H1 (hp.objs.size + 1) = none := I1.hok.fresh hsz
  have hq : spEr X.K C fls (.ref (hp.objs.size + 1) :: ys) (upd H1 (hp.objs.size + 1) (exo (hp.objs.size + 1) C none)) (fun v H2 => v = .non ∧ Q (.ref (hp.objs.size + 1)) H2) (fun _ _ _ => False) := by
    refine ⟨_, ys, rfl, hl, er, hno, upd_same, fun dx H' hdx ne hkeep ha hd => ⟨rfl, q1 _ H' (fun b o hbo => ?_) hn (.inr ⟨dx, ha, hd⟩)⟩⟩
    have nb := ne_of_none hbo hn
    exact hkeep b o (by rw [upd_ne nb]; exact hbo) nb
  have kk : ∀ b o, hp.get? b = some o → ((hp.push (PySem.W.kdv_tup us)).push (PySem.HandSPX.excO C hp.objs.size)).get? b = some o := fun b o e => Heap.get?_push_of_some _ (Heap.get?_push_of_some _ e)
  have hget : ((hp.push (PySem.W.kdv_tup us)).push (PySem.HandSPX.excO C hp.objs.size)).get? (hp.objs.size + 1) = some (PySem.HandSPX.excO C hp.objs.size) := by heap_get
  have I2 : Inv X pins σ (upd H1 (hp.objs.size + 1) (exo (hp.objs.size + 1) C none)) ⟨(hp.push (PySem.W.kdv_tup us)).push (PySem.HandSPX.excO C hp.objs.size), g, dr, tk, os⟩ :=
    I1.laid (t' := tk) (a := hp.objs.size + 1) (o := exo (hp.objs.size + 1) C none) (h' := (hp.push (PySem.W.kdv_tup us)).push (PySem.HandSPX.excO C hp.objs.size)) kk hsz (exo_ok hget)
  have r2 : Vals (V.ref (hp.objs.size + 1) :: ys) (Value.ref (hp.objs.size + 1) :: ws) := .cons rfl rv
  have hlen := F1.len _ _ _ _ hq
  have hus : us.length ≤ sizeLine := Nat.le_trans hu (by decide)
  refine wpAny_call (xk_call eb.fb hT hC (PySem.W.looks_findIn I1.kIn iC) (fun self => PySem.W.bind_fn I1.kIn self tI) hus
    (codeAny_mono (F1.run _ X.stack _ _ ⟨Value.ref (hp.objs.size + 1) :: us, kw⟩ (Value.ref (hp.objs.size + 1) :: ws) _ _ (fun _ _ _ => False) ((hr.mono hk).make C us kw) (I2.env0.make C us kw)
      (hb fI fd ps F1 b1 b2 _ _ I2.kIn (by rw [← hlen]; simp)) r2 hq) fun r s' hq' => ?_))
  cases r with
  | error er => exact False.elim hq'
  | ok fl' =>
    cases fl' with
    | ret u =>
      obtain ⟨v, H', I3, rv', ev, q3⟩ := I2.after hq'
      subst ev
      exact ⟨rv', ⟨V.ref (hp.objs.size + 1), H', I3, rfl, q3⟩⟩
    | next => exact False.elim hq'
    | brk => exact False.elim hq'
    | cont => exact False.elim hq'
theorem pe_mkE (c : MkE X.prog X.w X.K X.mg X.base k x C fls) (hr : Room j X.A) (hk : k + 1 ≤ j) (hg : Gl X x) (ha : PA X (e :: es) ta)
    (hdb : (x == ("__debug__" : Str)) = false := by decide) (he : starEach (e :: es) X.env = (false, eval e X.env) :: starEach es X.env := by rfl) (hpl : (backTo pos (starEach es X.env)).any (·.1) = false := by rfl) :
    PE X (.Call (.Name x p) (e :: es) [] pos) (tMkE C fls ta) := by
  refine ⟨fun pins s σ H Q I h => ?_⟩
  refine wpAny_Call_Name_kw (ld_glob I hg c.g ?_ hdb)
  refine PySem.W.callWith_K (h₀ := X.base) I.ok.mod.kin c.er.kC (thn (ha.run pos pins s σ H _ I h) fun us s1 ⟨vs, H1, I1, r1, hl, q1⟩ => ⟨I1.kIn, ?_⟩) he hpl
  refine er_run c hr hk I1 hl ?_ r1 (fun fI fd ps F1 b1 b2 a s hi hln => ?_) q1
  · show us.length ≤ 10
    rw [← Paired.length r1, hl]
    exact Nat.le_trans c.few (by decide)
  · have hl2 : (Value.ref a :: us ++ []).length = ps.length := by
      rw [← hln, List.append_nil, List.length_cons, List.length_cons, List.length_map, Paired.length r1]
    have z := b1 s (Value.ref a :: us) hi hl2
    rw [List.append_nil] at z
    exact z
theorem pe_mkEK (c : MkE X.prog X.w X.K X.mg X.base k x C fls) (hr : Room j X.A) (hk : k + 1 ≤ j) (hg : Gl X x) (hkw : PK X kws tk)
    (hall : (backToKw pos (keywordEach kws X.env)).all (·.1.isSome) = true := by rfl) (hks : (backToKw pos (keywordEach kws X.env)).filterMap (·.1) = fls.reverse := by rfl) (hdb : (x == ("__debug__" : Str)) = false := by decide)
    (hpl : ((backTo pos (starEach [] X.env)).any (·.1) || (backToKw pos (keywordEach kws X.env)).any (·.1.isNone)) = false := by rfl) :
    PE X (.Call (.Name x p) [] kws pos) (tMkEK C fls tk) := by
  refine ⟨fun pins s σ H Q I h => ?_⟩
  refine wpAny_Call_Name_kw (ld_glob I hg c.g ?_ hdb)
  refine PySem.W.callWith_KW0 (h₀ := X.base) I.ok.mod.kin c.er.kC hall ?_ hpl
  refine thn (hkw.run pos pins s σ H _ I h) fun ws s2 ⟨zs, H2, I2, rz, hl, q2⟩ => ⟨I2.kIn, ?_⟩
  rw [hks]
  refine er_run (us := []) (ys := zs.reverse) (ws := ws.reverse) c hr hk I2 (by rw [List.length_reverse]; exact hl) (Nat.zero_le _) (er_vrev rz) (fun fI fd ps F1 b1 b2 a s hi hln => ?_) q2
  exact b2.to s [Value.ref a] ws hi rfl (by rw [← Paired.length rz, List.length_reverse]; exact hl)
end

/-! ### made without anything -/
structure MkN (K : PySem.W.Frag) (mg : Str → Option Value) (x : Str) (C : Addr) : Prop where
  er : ErC K C
  g : mg x = some (.ref C)
  ini : ∃ B newId initId tl, ExB B newId initId tl ∧ PySem.W.excInitIn K C tl newId = true ∧ PySem.W.findIn K (.ref C) "__init__" = some (some (.builtin initId))
def tMk0 (C : Addr) : TE := fun _ H Q => ∀ a H', Same H H' → H a = none → ErAt C [] H' a → Q (.ref a) H'
theorem pe_mk0 {X : Cx} {x : Str} {C : Addr} {p pos : Pos} (c : MkN X.K X.mg x C) (hg : Gl X x) (hdb : (x == ("__debug__" : Str)) = false := by decide) : PE X (.Call (.Name x p) [] [] pos) (tMk0 C) := by
  refine ⟨fun pins s σ H Q I h => ?_⟩
  obtain ⟨B, newId, initId, tl, eb, hin, hi⟩ := c.ini
  refine wpAny_Call_Name_kw (ld_glob I hg c.g ?_ hdb)
  refine PySem.W.callWith_K0 I.kIn c.er.kC ?_
  obtain ⟨hp, g, dr, tk, os⟩ := s
  obtain ⟨nm, N, q, bs, bm, hdct, sn, sub, ab, col, dd, k0, k1, k2, k3, k5, hC, hT⟩ := PySem.W.excInit_of (h := hp) I.kIn hin
  refine PySem.W.call_B eb.fb hT hC (PySem.W.looks_findIn I.kIn hi) (Nat.zero_le _) fun h' k e' t' => ?_
  have I2 : Inv X pins σ (upd H (hp.objs.size + 1) (exo (hp.objs.size + 1) C none)) ⟨h', g, dr, tk, os⟩ :=
    I.laid (t' := tk) (a := hp.objs.size + 1) (o := exo (hp.objs.size + 1) C none) (h' := h') k (Nat.le_succ _) (exo_ok e')
  have hn : H (hp.objs.size + 1) = none := I.hok.fresh (Nat.le_succ _)
  exact ⟨.ref (hp.objs.size + 1), _, I2, rfl, h _ _ (MG.Same.new (Same.refl H) hn) hn (.inl ⟨rfl, upd_same⟩)⟩
/-! ### read, asked -/
def tErG (K : PySem.W.Frag) (f : Str) (te : TE) : TE := fun σ H Q => te σ H fun x H1 => ∃ (a C d : Addr) (fs : List (Str × V)) (v : V), x = .ref a ∧ ErC K C ∧ PySem.W.findIn K (.ref C) f = some none ∧ H1 a = some (exo a C (some d)) ∧ H1 d = some (exd d fs) ∧ fs.lookup f = some v ∧ Q v H1
theorem pe_erG {X : Cx} {e : Expr} {te : TE} {pos : Pos} {n : Str} (he : PE X e te) (hb : attributeBase e n X.env (eval e X.env) = eval e X.env := by rfl) : PE X (.Attribute e n pos) (tErG X.K n te) := by
  refine ⟨fun pins s σ H Q I h => ?_⟩
  refine attr_of hb (thn (he.run pins s σ H _ I h) fun u s1 hh => ?_)
  obtain ⟨x, H1, I1, rx, a, C, d, fs, v, ex, T, hno, ea, ed, l, q⟩ := hh
  subst ex
  obtain rfl : u = Value.ref a := rx
  obtain ⟨t1, ho⟩ := exo_at I1.hok ea
  obtain ⟨mA, hns, hr⟩ := exd_at I1.hok ed
  obtain ⟨od, hod, hl⟩ := lookIn_ns hns
  obtain ⟨u, hu, ru⟩ := RelO.some_of (v := v) (o := mA n) (by rw [← l]; exact hr n)
  have J : PySem.W.InstAt s1.heap a { cls := .ref C, dict := some d, data := .fields #[.ref t1, .none, .none, .none, .bool false, .none] } C (some od) := ⟨ho, rfl, rfl, hod⟩
  exact HandSPX.exc_get I1.kIn J T.ga T.gg T.exC (PySem.W.findObj_own T.hd hno rfl (by rw [hl, hu])) (handed_of ru) ⟨v, H1, I1.tok _, ru, q⟩
theorem pe_erGK {X : Cx} {K : PySem.W.Frag} {e : Expr} {te : TE} {pos : Pos} {n : Str} (he : PE X e te) (hK : X.K = K := by rfl) (hb : attributeBase e n X.env (eval e X.env) = eval e X.env := by rfl) : PE X (.Attribute e n pos) (tErG K n te) := by
  subst hK
  exact pe_erG he hb
def rIsEr (K : PySem.W.Frag) : List V → Hp → VK → Prop := fun xs H Q => ∃ (a C : Addr) (fs : List (Str × V)) (c : V) (cv : Value) (b : Bool), xs = [.ref a, c] ∧ ErC K C ∧ ErAt C fs H a ∧ (∀ u, RelV c u → u = cv) ∧ PySem.W.kitOne K (.ref C) cv = some b ∧ Q (.bl b) H
theorem ErC.kit {K : PySem.W.Frag} {C x : Addr} (T : ErC K C) (ox : Obj) (od : Option Obj) : PySem.W.KitX K (.ref x) (.ref C) (fun h => PySem.W.InstAt h x ox C od) := by
  obtain ⟨cd, hcd, _⟩ := T.look
  exact PySem.W.kitx_exc (by rw [hcd]; rfl) T.ga T.gg T.exC T.ca T.cn T.ct T.mo
theorem call_isEr {X : Cx} : CallR X (.builtin "isinstance") (rIsEr X.K) := by
  intro pins s σ H xs us Q I r h
  obtain ⟨a, C, fs, c, cv, b, rfl, T, ea, hcv, e, q⟩ := h
  cases r with
  | cons rx rr =>
    cases rr with
    | cons rt rr =>
      cases rr
      cases rx
      have ec := hcv _ rt
      subst ec
      rcases ea with ⟨_, ea⟩ | ⟨d, ea, ed⟩
      · obtain ⟨t1, ho⟩ := exo_at I.hok ea
        have J : PySem.W.InstAt s.heap a { cls := .ref C, dict := none, data := .fields #[.ref t1, .none, .none, .none, .bool false, .none] } C none := ⟨ho, rfl, rfl, trivial⟩
        exact PySem.W.kia_one (T.kit _ _) I.kIn J e (fun z => nomatch z) fun tk => ⟨.bl b, H, I.kept (t' := tk) fun _ _ z => z, rfl, q⟩
      · obtain ⟨t1, ho⟩ := exo_at I.hok ea
        obtain ⟨mA, hns, hr⟩ := exd_at I.hok ed
        obtain ⟨od, hod, hl⟩ := lookIn_ns hns
        have J : PySem.W.InstAt s.heap a { cls := .ref C, dict := some d, data := .fields #[.ref t1, .none, .none, .none, .bool false, .none] } C (some od) := ⟨ho, rfl, rfl, hod⟩
        exact PySem.W.kia_one (T.kit _ _) I.kIn J e (fun z => nomatch z) fun tk => ⟨.bl b, H, I.kept (t' := tk) fun _ _ z => z, rfl, q⟩
end MG

/-! comprehensions whose items make objects; operators that may raise, in a try; lcm -/
namespace MG
open PySem PySem.Spec PyProof.Rows L2
/-! ### the heap without one object -/
section
variable {D q : Addr} {H H' : Hp} {o : HO}
theorem hid_upd : hid D (upd H D o) = hid D H := funext fun b => by
  unfold hid
  by_cases e : b = D
  · rw [if_pos e, if_pos e]
  · rw [if_neg e, if_neg e, upd_ne e]
theorem hid_none (h : H D = none) : Same H (hid D H) := fun b u e => by
  rw [hid_ne (ne_of_none e h)]
  exact e
theorem hid_mono (s : Same H H') : Same (hid D H) (hid D H') := fun b u e => by
  unfold hid at *
  by_cases n : b = D
  · rw [if_pos n] at e; cases e
  · rw [if_neg n] at e ⊢
    exact s _ _ e
theorem hid_self : hid D H D = none := if_pos rfl
theorem keep_hid (k : Keep q H H') (n : q ≠ D) : Keep q (hid D H) (hid D H') := ⟨fun b u e m => by
  unfold hid at *
  by_cases z : b = D
  · rw [if_pos z] at e; cases e
  · rw [if_neg z] at e ⊢
    exact k.all _ _ e m, fun x l e => by
  rw [hid_ne n] at e ⊢
  exact k.hd x l e⟩
theorem keep_in (k : Keep q H H') (hD : H D = none) : Keep q H (hid D H') := ⟨fun b u e m => by
  rw [hid_ne (ne_of_none e hD)]
  exact k.all _ _ e m, fun x l e => by
  obtain ⟨l', e'⟩ := k.hd x l e
  exact ⟨l', by rw [hid_ne (ne_of_none e hD)]; exact e'⟩⟩
theorem keep_out (k : Keep q H (hid D H')) : Keep q H H' := k.same (hid_same D H')
end
/-! ### a comprehension by what holds of the items made so far -/
section
variable {J : It} {n : Nat} {G : Hp → Prop} {Y : Nat → Hp → V → Hp → Prop} {g : TG} {te : TE} {vs : List Nat} {σ : L2.St} {H1 : Hp} {D : Addr} {Q : VK}
/-- what a comprehension's list at D asks -/
def Lc (J : It) (g : TG) (tt : TT) (te : TE) (vs : List Nat) (σ : L2.St) (H1 : Hp) (Q : VK) (D : Addr) : Prop :=
  ∃ W : Nat → Nat → Hp → Prop, (∃ m, W 0 m (upd H1 D (.lst []))) ∧ ∀ i m H, W i m H →
    (J.stop i H ∧ Q (.ref D) H) ∨ (J.go i H ∧ ∃ Nx : Hp → Prop, (∀ H', Nx H' → ∃ m', m' < m ∧ W (i + 1) m' H') ∧ ∀ x H', J.yld i H x H' → g x (wipe σ vs) H' fun σ2 H2 => wipe σ2 vs = wipe σ vs ∧ tt σ2 H2 fun b H3 =>
      if b = true then te σ2 H3 fun y H4 => ∃ acc, H4 D = some (.lst acc) ∧ acc.length < sizeLine ∧ Nx (upd H4 D (.lst (acc ++ [y]))) else Nx H3)
def tLcI (wi : TI) (g : TG) (tt : TT) (te : TE) (vs : List Nat) : TE := fun σ H Q => wi σ H fun J H1 => ∀ D, H1 D = none → Lc J g tt te vs σ H1 Q D
theorem pe_lcI {X : Cx} {e : Expr} {wi : TI} {g : TG} {tt : TT} {te : TE} {vs : List Nat} (h : PE X e (tLc wi g tt te vs)) : PE X e (tLcI wi g tt te vs) := h
theorem ps_lcI {X : Cx} {st : Stmt} {wi : TI} {g g2 : TG} {tt : TT} {te : TE} {vs : List Nat} (h : PS X st (tAsg (tLc wi g tt te vs) g2)) : PS X st (tAsg (tLcI wi g tt te vs) g2) := h
/-- two generators -/
def Lc2 (J : It) (g : TG) (tt : TT) (wi1 : TI) (g1 : TG) (tt1 : TT) (te : TE) (vs vs1 : List Nat) (σ : L2.St) (H1 : Hp) (Q : VK) (D : Addr) : Prop :=
  ∃ W : Nat → Nat → Hp → Prop, (∃ m, W 0 m (upd H1 D (.lst []))) ∧ ∀ i m H, W i m H →
  (J.stop i H ∧ Q (.ref D) H) ∨ (J.go i H ∧ ∃ Nx : Hp → Prop, (∀ H', Nx H' → ∃ m', m' < m ∧ W (i + 1) m' H') ∧ ∀ x H', J.yld i H x H' → g x (wipe σ vs) H' fun σ2 H2 => wipe σ2 vs = wipe σ vs ∧ tt σ2 H2 fun b H3 =>
    if b = true then wi1 σ2 H3 fun J1 H4 => ∃ W1 : Nat → Nat → Hp → Prop, (∃ m, W1 0 m H4) ∧ ∀ j k H, W1 j k H →
      (J1.stop j H ∧ Nx H) ∨ (J1.go j H ∧ ∃ Nx1 : Hp → Prop, (∀ H', Nx1 H' → ∃ k', k' < k ∧ W1 (j + 1) k' H') ∧ ∀ x H', J1.yld j H x H' → g1 x (wipe σ2 vs1) H' fun σ3 H5 => wipe σ3 vs1 = wipe σ2 vs1 ∧ tt1 σ3 H5 fun b H6 =>
        if b = true then te σ3 H6 fun y H7 => ∃ acc, H7 D = some (.lst acc) ∧ acc.length < sizeLine ∧ Nx1 (upd H7 D (.lst (acc ++ [y]))) else Nx1 H6)
    else Nx H3)
def tLc2I (wi : TI) (g : TG) (tt : TT) (wi1 : TI) (g1 : TG) (tt1 : TT) (te : TE) (vs vs1 : List Nat) : TE := fun σ H Q => wi σ H fun J H1 => ∀ D, H1 D = none → Lc2 J g tt wi1 g1 tt1 te vs vs1 σ H1 Q D
theorem pe_lc2I {X : Cx} {e : Expr} {wi wi1 : TI} {g g1 : TG} {tt tt1 : TT} {te : TE} {vs vs1 : List Nat} (h : PE X e (tLc2 wi g tt wi1 g1 tt1 te vs vs1)) : PE X e (tLc2I wi g tt wi1 g1 tt1 te vs vs1) := h
theorem lc_inv (w : Walk J n G Y) (hD : H1 D = none) (hn : n ≤ 100000) (Pv : Nat → List V → Hp → Prop) (h0 : Pv 0 [] (hid D H1)) (hG : ∀ i ys H, i ≤ n → Pv i ys (hid D H) → H D = some (.lst ys) → G H)
    (hs : ∀ i x ys H H', i < n → ys.length = i → Pv i ys (hid D H) → H D = some (.lst ys) → Y i H x H' → ∃ σ2, (∀ R : L2.St → Hp → Prop, R σ2 H' → g x (wipe σ vs) H' R) ∧ wipe σ2 vs = wipe σ vs ∧
      tCut te σ2 H' fun y H4 => H4 D = some (.lst ys) ∧ Pv (i + 1) (ys ++ [y]) (hid D H4))
    (k : ∀ ys H, ys.length = n → H D = some (.lst ys) → Pv n ys (hid D H) → Q (.ref D) H) : Lc J g tYes (tCut te) vs σ H1 Q D := by
  refine lc_it (Qd := Q (.ref D)) w (fun i H => ∃ ys : List V, ys.length = i ∧ H D = some (.lst ys) ∧ Pv i ys (hid D H)) ⟨[], rfl, upd_same, by rw [hid_upd]; exact h0⟩ ?_ ?_ ?_
  · rintro i H hi ⟨ys, _, e, p⟩
    exact hG i ys H hi p e
  · rintro i x H H' hi ⟨ys, hl, e, p⟩ y
    obtain ⟨σ2, h1, h2, h3⟩ := hs i x ys H H' hi hl p e y
    refine h1 _ ⟨h2, ?_⟩
    show if (true : Bool) = true then tCut te σ2 H' (fun y H4 => ∃ acc, H4 D = some (.lst acc) ∧ acc.length < sizeLine ∧ ∃ ys : List V, ys.length = i + 1 ∧ (upd H4 D (.lst (acc ++ [y]))) D = some (.lst ys) ∧ Pv (i + 1) ys (hid D (upd H4 D (.lst (acc ++ [y]))))) else ∃ ys : List V, ys.length = i + 1 ∧ H' D = some (.lst ys) ∧ Pv (i + 1) ys (hid D H')
    refine iteT ?_
    refine tCut_mono _ _ _ _ ?_ h3
    rintro v H4 ⟨e4, p4⟩
    refine ⟨ys, e4, Nat.lt_of_le_of_lt (m := 100000) (by omega) (by decide), ys ++ [v], by simp [hl], upd_same, ?_⟩
    rw [hid_upd]
    exact p4
  · rintro H ⟨ys, hl, e, p⟩
    exact k ys H hl e p
/-- with a test -/
theorem lc_filt {tt : TT} (w : Walk J n G Y) (hD : H1 D = none) (hn : n ≤ 100000) (Pv : Nat → List V → Hp → Prop) (h0 : Pv 0 [] (hid D H1)) (hG : ∀ i ys H, i ≤ n → Pv i ys (hid D H) → H D = some (.lst ys) → G H)
    (hs : ∀ i x ys H H', i < n → Pv i ys (hid D H) → H D = some (.lst ys) → Y i H x H' → ∃ σ2 b, (∀ R : L2.St → Hp → Prop, R σ2 H' → g x (wipe σ vs) H' R) ∧ wipe σ2 vs = wipe σ vs ∧ (∀ R : Bool → Hp → Prop, R b H' → tt σ2 H' R) ∧
      (b = false → H' D = some (.lst ys) ∧ Pv (i + 1) ys (hid D H')) ∧ (b = true → tCut te σ2 H' fun y H4 => H4 D = some (.lst ys) ∧ Pv (i + 1) (ys ++ [y]) (hid D H4)))
    (k : ∀ ys H, H D = some (.lst ys) → Pv n ys (hid D H) → Q (.ref D) H) : Lc J g tt (tCut te) vs σ H1 Q D := by
  refine lc_it (Qd := Q (.ref D)) w (fun i H => ∃ ys : List V, ys.length ≤ i ∧ H D = some (.lst ys) ∧ Pv i ys (hid D H)) ⟨[], Nat.le_refl _, upd_same, by rw [hid_upd]; exact h0⟩ ?_ ?_ ?_
  · rintro i H hi ⟨ys, _, e, p⟩
    exact hG i ys H hi p e
  · rintro i x H H' hi ⟨ys, hl, e, p⟩ y
    obtain ⟨σ2, b, h1, h2, h3, h4, h5⟩ := hs i x ys H H' hi p e y
    refine h1 _ ⟨h2, h3 _ ?_⟩
    cases b with
    | false => exact iteF ⟨ys, by omega, (h4 rfl).1, (h4 rfl).2⟩
    | true =>
      refine iteT (tCut_mono _ _ _ _ ?_ (h5 rfl))
      rintro v H4 ⟨e4, p4⟩
      refine ⟨ys, e4, Nat.lt_of_le_of_lt (m := 100000) (by omega) (by decide), ys ++ [v], by simp; omega, upd_same, ?_⟩
      rw [hid_upd]
      exact p4
  · rintro H ⟨ys, hl, e, p⟩
    exact k ys H e p
/-- the items make objects only: R i y tells of the i-th item y -/
theorem lc_same (w : Walk J n G Y) (hD : H1 D = none) (hn : n ≤ 100000) (R : Nat → V → Hp → Prop) (hR : ∀ i y H H', R i y H → Same H H' → R i y H') (hG : ∀ H, Same H1 H → G H) (hY : ∀ i H x H', Y i H x H' → Same H H')
    (hs : ∀ i x H H', i < n → Same H1 H → H' D ≠ none → Y i H x H' → ∃ σ2, (∀ R : L2.St → Hp → Prop, R σ2 H' → g x (wipe σ vs) H' R) ∧ wipe σ2 vs = wipe σ vs ∧
      te σ2 H' fun y H4 => Same H' H4 ∧ ((∃ l, H4 D = some (.lst l)) → R i y (hid D H4)))
    (k : ∀ ys H, ys.length = n → Same H1 H → H D = some (.lst ys) → (∀ i y, ys[i]? = some y → R i y (hid D H)) → Q (.ref D) H) : Lc J g tYes (tCut te) vs σ H1 Q D := by
  refine lc_inv w hD hn (fun i ys H => Same H1 H ∧ ∀ j y, ys[j]? = some y → R j y H) ⟨hid_none hD, fun j y z => by simp at z⟩ (fun i ys H _ p _ => hG H (p.1.trans (hid_same D H))) ?_ fun ys H hl e p => k ys H hl (p.1.trans (hid_same D H)) e p.2
  rintro i x ys H H' hi hl ⟨s1, p⟩ e y
  have sY := hY i H x H' y
  obtain ⟨σ2, h1, h2, h3⟩ := hs i x H H' hi (s1.trans (hid_same D H)) (by rw [sY _ _ e]; exact nofun) y
  refine ⟨σ2, h1, h2, _, h3, ?_⟩
  rintro v H4 ⟨s4, r4⟩
  have e4 := s4 _ _ (sY _ _ e)
  refine ⟨e4, s1.trans (hid_mono (sY.trans s4)), fun j z hz => ?_⟩
  by_cases hj : j < ys.length
  · rw [List.getElem?_append_left hj] at hz
    exact hR _ _ _ _ (p j z hz) (hid_mono (sY.trans s4))
  · rw [List.getElem?_append_right (by omega)] at hz
    have hj0 : j - ys.length = 0 := by
      by_cases c : j - ys.length = 0
      · exact c
      · rw [List.getElem?_eq_none (by simp; omega)] at hz; cases hz
    rw [hj0] at hz
    have ej : j = i := by omega
    obtain rfl : v = z := Option.some.inj hz
    rw [ej]
    exact r4 ⟨_, e4⟩
/-- the items draw from the purse at q: Pq m tells of it behind m items -/
theorem lc_keep {q : Addr} (w : Walk J n G Y) (hD : H1 D = none) (hq : H1 q ≠ none) (hn : n ≤ 100000) (Pq : Nat → Hp → Prop) (up : ∀ m H H', Pq m H → Same H H' → Pq m H') (down : ∀ m H, Keep q H1 H → Pq m H → Pq m (hid D H)) (hq0 : Pq 0 H1)
    (R : Nat → V → Hp → Prop) (hR : ∀ i y H H', R i y H → Same H H' → R i y H') (hG : ∀ H, Keep q H1 H → G H) (hY : ∀ i H x H', Y i H x H' → Same H H')
    (hs : ∀ i x H H', i < n → Keep q H1 H' → Pq i H' → H' D ≠ none → Y i H x H' → ∃ σ2, (∀ R : L2.St → Hp → Prop, R σ2 H' → g x (wipe σ vs) H' R) ∧ wipe σ2 vs = wipe σ vs ∧
      te σ2 H' fun y H4 => Keep q H' H4 ∧ Pq (i + 1) H4 ∧ ((∃ l, H4 D = some (.lst l)) → R i y (hid q (hid D H4))))
    (k : ∀ ys H, ys.length = n → Keep q H1 H → Pq n H → H D = some (.lst ys) → (∀ i y, ys[i]? = some y → R i y (hid q (hid D H))) → Q (.ref D) H) : Lc J g tYes (tCut te) vs σ H1 Q D := by
  have nq : q ≠ D := fun e => hq (e ▸ hD)
  refine lc_inv w hD hn (fun i ys H => Keep q H1 H ∧ Pq i H ∧ ∀ j y, ys[j]? = some y → R j y (hid q H)) ⟨Same.keep (hid_none hD), up _ _ _ hq0 (hid_none hD), fun j y z => by simp at z⟩ (fun i ys H _ p _ => hG H (keep_out p.1)) ?_ fun ys H hl e p => k ys H hl (keep_out p.1) (up _ _ _ p.2.1 (hid_same D H)) e p.2.2
  rintro i x ys H H' hi hl ⟨s1, pq, p⟩ e y
  have sY := hY i H x H' y
  have kY := (keep_out s1).same sY
  obtain ⟨σ2, h1, h2, h3⟩ := hs i x H H' hi kY (up _ _ _ (up _ _ _ pq (hid_same D H)) sY) (by rw [sY _ _ e]; exact nofun) y
  refine ⟨σ2, h1, h2, _, h3, ?_⟩
  rintro v H4 ⟨s4, q4, r4⟩
  have e4 := s4.all _ _ (sY _ _ e) (fun z => nq z.symm)
  have k14 := kY.trans s4
  refine ⟨e4, keep_in k14 hD, down _ _ k14 q4, fun j z hz => ?_⟩
  have ks : Same (hid q (hid D H)) (hid q (hid D H4)) := hid_keep (keep_hid ((Same.keep sY).trans s4) nq)
  by_cases hj : j < ys.length
  · rw [List.getElem?_append_left hj] at hz
    exact hR _ _ _ _ (p j z hz) ks
  · rw [List.getElem?_append_right (by omega)] at hz
    have hj0 : j - ys.length = 0 := by
      by_cases c : j - ys.length = 0
      · exact c
      · rw [List.getElem?_eq_none (by simp; omega)] at hz; cases hz
    rw [hj0] at hz
    have ej : j = i := by omega
    obtain rfl : v = z := Option.some.inj hz
    rw [ej]
    exact r4 ⟨_, e4⟩
end
/-- two generators, tuples within a tuple: all items are as R says -/
theorem lc2_tup {K : PySem.W.Frag} {te : TE} {i1 j1 : Nat} {σ : L2.St} {H1 : Hp} {D a : Addr} {Q : VK} {rs : List V} (R : V → Prop) (ht : H1 a = some (.tup rs)) (hD : H1 D = none) (nij : j1 ≠ i1) (hi1 : i1 < σ.length) (hj1 : j1 < σ.length) (hn : ∀ x ∈ rs, ∃ p xs, x = .ref p ∧ H1 p = some (.tup xs) ∧ xs.length ≤ 1000) (hr : rs.length ≤ 1000)
    (hs : ∀ (i j : Nat) (p : Addr) (xs : List V) (y : V) (H : Hp), rs[i]? = some (.ref p) → H1 p = some (.tup xs) → xs[j]? = some y → Same H1 H → te ((((wipe σ [i1, j1]).set i1 (some (.ref p))).set j1 none).set j1 (some y)) H fun v H4 => Same H H4 ∧ R v)
    (k : ∀ ys H, Same H1 H → H D = some (.lst ys) → (∀ (i : Nat) y, ys[i]? = some y → R y) → Q (.ref D) H) :
    Lc2 (Itt K a) (gName i1) tYes (iTup K (fun σ H Q => ∃ v, σ[i1]? = some (some v) ∧ Q v H)) (gName j1) tYes (tCut te) [i1, j1] [j1] σ H1 Q D := by
  have nD : ∀ {H : Hp} {ys : List V}, Same H1 H → Same H1 (upd H D (.lst ys)) := fun {H ys} s b o e => by
    rw [upd_ne (ne_of_none e hD)]
    exact s _ _ e
  refine ⟨fun i m H => m = rs.length - i ∧ i ≤ rs.length ∧ Same H1 H ∧ ∃ ys : List V, H D = some (.lst ys) ∧ ys.length ≤ i * 1000 ∧ ∀ (j : Nat) y, ys[j]? = some y → R y, ⟨rs.length, by simp, Nat.zero_le _, nD (Same.refl H1), [], upd_same, by simp, fun j y h => by simp at h⟩, ?_⟩
  rintro i m H ⟨rfl, hi, s1, ys, e1, l1, r1⟩
  by_cases hlt : i < rs.length
  · refine .inr ⟨(walk_tup (K := K) (a := a) (xs := rs)).goes i H hlt (SqT.of (s1 _ _ ht)), fun H' => Same H1 H' ∧ ∃ ys : List V, H' D = some (.lst ys) ∧ ys.length ≤ (i + 1) * 1000 ∧ ∀ (j : Nat) y, ys[j]? = some y → R y, fun H' q => ⟨rs.length - (i + 1), by omega, rfl, hlt, q.1, q.2⟩, fun x H' y => ?_⟩
    obtain ⟨rfl, hx⟩ := (walk_tup (K := K) (a := a) (xs := rs)).yields i H x H' hlt (SqT.of (s1 _ _ ht)) y
    obtain ⟨p, xs, rfl, hp, hxl⟩ := hn x (List.mem_of_getElem? hx)
    refine ⟨?_, ?_⟩
    · show ((((σ.set j1 none).set i1 none).set i1 (some (V.ref p))).set j1 none).set i1 none = (σ.set j1 none).set i1 none
      rw [List.set_set, List.set_comm none none nij, List.set_set, List.set_comm none none nij, List.set_set]
    · unfold tYes
      dsimp only
      rw [if_pos rfl]
      have len1 : i1 < (wipe σ [i1, j1]).length := by rw [wipe_length]; exact hi1
      refine ⟨.ref p, by rw [List.getElem?_set_self len1], p, rfl, ⟨xs, SqT.of (s1 _ _ hp)⟩, ?_⟩
      refine ⟨fun j k H => k = xs.length - j ∧ j ≤ xs.length ∧ Same H1 H ∧ ∃ ys : List V, H D = some (.lst ys) ∧ ys.length ≤ i * 1000 + j ∧ ∀ (j : Nat) y, ys[j]? = some y → R y, ⟨xs.length, by simp, Nat.zero_le _, s1, ys, e1, by omega, r1⟩, ?_⟩
      rintro j k H ⟨rfl, hj, s2, zs, e2, l2, r2⟩
      by_cases hlj : j < xs.length
      · refine .inr ⟨(walk_tup (K := K) (a := p) (xs := xs)).goes j H hlj (SqT.of (s2 _ _ hp)), fun H' => Same H1 H' ∧ ∃ ys : List V, H' D = some (.lst ys) ∧ ys.length ≤ i * 1000 + (j + 1) ∧ ∀ (j : Nat) y, ys[j]? = some y → R y, fun H' q => ⟨xs.length - (j + 1), by omega, rfl, hlj, q.1, q.2⟩, fun x H' y => ?_⟩
        obtain ⟨rfl, hy⟩ := (walk_tup (K := K) (a := p) (xs := xs)).yields j H x H' hlj (SqT.of (s2 _ _ hp)) y
        refine ⟨wipe_one, ?_⟩
        rw [if_pos rfl]
        refine ⟨_, hs i j p xs x H' hx hp hy s2, ?_⟩
        rintro v H4 ⟨s4, rv⟩
        refine ⟨zs, s4 _ _ e2, Nat.lt_of_le_of_lt (m := 1000 * 1000 + 1000) ?_ (by decide), nD (s2.trans s4), zs ++ [v], upd_same, by simp; omega, fun m y hm => ?_⟩
        · have : i * 1000 ≤ 1000 * 1000 := Nat.mul_le_mul_right _ (by omega)
          omega
        · by_cases hm1 : m < zs.length
          · rw [List.getElem?_append_left hm1] at hm
            exact r2 m y hm
          · rw [List.getElem?_append_right (by omega)] at hm
            have : y ∈ [v] := List.mem_of_getElem? hm
            have e : y = v := by simpa using this
            rw [e]
            exact rv
      · have e : j = xs.length := by omega
        subst e
        exact .inl ⟨(walk_tup (K := K) (a := p) (xs := xs)).stops H (SqT.of (s2 _ _ hp)), s2, zs, e2, by omega, r2⟩
  · have e : i = rs.length := by omega
    subst e
    exact .inl ⟨(walk_tup (K := K) (a := a) (xs := rs)).stops H (SqT.of (s1 _ _ ht)), k ys H s1 e1 r1⟩
section
variable {j : Nat} {σ : L2.St} {x : V} {H : Hp}
/-- the target is one name -/
theorem tg1 : (∀ R : L2.St → Hp → Prop, R ((σ.set j none).set j (some x)) H → gName j x (wipe σ [j]) H R) ∧ wipe ((σ.set j none).set j (some x)) [j] = wipe σ [j] := ⟨fun _ h => h, wipe_one⟩
end
theorem yat_same {xs : List V} : ∀ i H x H', YAt xs i H x H' → Same H H' := fun i H x H' y => by rw [y.1]; exact Same.refl H
theorem yfn_same {f : Nat → V} : ∀ i H x H', YFn f i H x H' → Same H H' := fun i H x H' y => by rw [y.1]; exact Same.refl H
theorem ypair_same {a b : Nat → Option V} : ∀ i H x H', YPair a b i H x H' → Same H H' := fun i H x H' ⟨T, _, _, _, h, e, _⟩ => by
  rw [e]
  exact MG.Same.new (Same.refl H) h

theorem walk_zipT {K : PySem.W.Frag} {a b : Addr} {xs ys : List V} {n : Nat} (hn : n = min xs.length ys.length) : Walk (RZ.ItzT K a b) n (fun H => SqT K H a xs ∧ SqT K H b ys) (YPair (fun i => xs[i]?) (fun i => ys[i]?)) := by
  subst hn
  refine ⟨fun i _ hi q => ?_, fun _ q => ⟨xs, ys, q.1, q.2, by omega⟩, fun i H v H' _ q y => ?_⟩
  · have h1 : i < xs.length := by omega
    have h2 : i < ys.length := by omega
    exact ⟨xs, ys, xs[i], ys[i], q.1, q.2, by simp [h1], by simp [h2]⟩
  · obtain ⟨T, x, z, h1, h2, h3, h4, h5⟩ := y
    exact ⟨T, x, z, h1, h2, h3, h4 xs q.1, h5 ys q.2⟩
/-- a pair put into two names -/
theorem tg2 {K : PySem.W.Frag} {H : Hp} {T : Addr} {x y : V} {i j : Nat} {σ : L2.St} (e : H T = some (.tup [x, y])) : ∀ R : L2.St → Hp → Prop, R ((σ.set i (some x)).set j (some y)) H → gTup K 2 (gCons (gName i) (gCons (gName j) gNil)) (.ref T) σ H R :=
  fun R h => ⟨T, [x, y], rfl, SqT.of e, rfl, x, [y], rfl, y, [], rfl, rfl, h⟩
/-! ### within a comprehension: the written part by its name -/
theorem pi_listK {X : Cx} {K : PySem.W.Frag} {tg l : Expr} {tl : TE} (h : PE X l tl) (hK : X.K = K := by rfl) : PI X tg l (iList K tl) := hK ▸ pi_list h
theorem pi_tupK {X : Cx} {K : PySem.W.Frag} {tg l : Expr} {tl : TE} (h : PE X l tl) (hK : X.K = K := by rfl) : PI X tg l (iTup K tl) := hK ▸ pi_tup h

/-! ### operators of an own class that may raise, in a try -/
structure OpX (P : Program) (w : World) (K : PySem.W.Frag) (mg : Str → Option Value) (base : Heap) (k : Nat) (C : Addr) (op : Operator) (sp : Sp) : Prop where
  ex : ∃ (f : Addr) (fd : FuncData) (ps : List Str), OpAt K C op f ∧ FnOk P w K mg base (L2N.CX P w) k f fd ps sp ∧ Binds K fd ps []
def tOpX (C : Addr) (sp : Sp) (E : L2.St → XK) (ta tb : TE) : TE := fun σ H Q => ta σ H fun x H1 => tb σ H1 fun y H2 => ∃ a dx fs b dy gs, x = .ref a ∧ H2 a = some (.ins C dx fs) ∧ y = .ref b ∧ H2 b = some (.ins C dy gs) ∧ sp [x, y] H2 Q (E σ)
theorem pe_opX {X : Cx} {W : WX} {k j : Nat} {C : Addr} {op : Operator} {sp : Sp} {a b : Expr} {ta tb : TE} {pos : Pos} (c : OpX X.prog X.w X.K X.mg X.base k C op sp) (hr : Room j X.A) (hk : k ≤ j) (tk : L2N.Takes X W) (ha : PE X a ta) (hb : PE X b tb) :
    PE X (.BinOp a op b pos) (tOpX C sp (WE W) ta tb) := by
  refine ⟨fun pins s σ H Q I h => ?_⟩
  obtain ⟨f, fd, ps, o, F, bd⟩ := c.ex
  refine wpAny_BinOp (binT ha hb I h fun v u s2 x y H2 I2 rx ry q => ?_)
  obtain ⟨a, dx, fs, b, dy, gs, rfl, ea, rfl, eb, hsp⟩ := q
  cases rx
  cases ry
  obtain ⟨mA, J, _⟩ := ins_get I2.hok ea
  obtain ⟨od, J, _⟩ := J.look
  obtain ⟨mB, J', _⟩ := ins_get I2.hok eb
  obtain ⟨od', J', _⟩ := J'.look
  obtain ⟨m, hF⟩ := I2.fr
  refine PySem.W.binop_K hF I2.ok.mod.kin J J'.type o.first o.at_ o.fn ?_
  exact wpAny_mono (run_fnS' (vs := [.ref a, .ref b]) F (hr.mono hk) bd .nil (L2N.passAt tk σ) I2 (.cons rfl (.cons rfl .nil)) (by rw [List.append_nil]; exact hsp))
    (fun _ _ hq => match hq with | ⟨_, _, _, r, _⟩ => back_of r hq) fun _ _ e => e

/-! ### math.lcm -/
def rLcm : List V → Hp → VK → Prop := fun vs H Q => ∃ a b : Int, vs = [.int a, .int b] ∧ a.natAbs < 2 ^ 64 ∧ b.natAbs < 2 ^ 64 ∧ Q (.int ((a.natAbs.lcm b.natAbs : Nat) : Int)) H
theorem cr_lcm {X : Cx} : CallR X (.builtin "math.lcm") rLcm := by
  intro pins s σ H vs us Q I r h
  obtain ⟨a, b, rfl, h1, h2, q⟩ := h
  obtain ⟨t, u, rfl⟩ := Vals.int2 r
  exact PySem.W.mc_lcm h1 h2 fun _ => ⟨.int _, H, I.tok _, ⟨_, rfl⟩, q⟩

theorem pi_zipK {X : Cx} {K : PySem.W.Frag} {e e2 : Expr} {ta : TA} {p pos tpos : Pos} {elts : List Expr} {kk : Nat} (hg : Gl X "zip") (hm : X.mg "zip" = none) (ha : PA X [e, e2] ta)
    (hs : starEach [e, e2] X.env = (false, eval e X.env) :: starEach [e2] X.env := by rfl) (hpl : (backTo pos (starEach [e2] X.env)).any (·.1) = false := by rfl) (hK : X.K = K := by rfl) :
    PI X (.Tuple elts kk tpos) (.Call (.Name "zip" p) [e, e2] [] pos) (RZ.iZipA K ta) := hK ▸ RZ.pi_zipA hg hm ha hs hpl
theorem pi_enumK {X : Cx} {K : PySem.W.Frag} {e : Expr} {ta : TA} {p pos tpos : Pos} {elts : List Expr} {kk : Nat} (hg : Gl X "enumerate") (hm : X.mg "enumerate" = none) (ha : PA X [e] ta) (hs : starEach [e] X.env = [(false, eval e X.env)] := by rfl) (hK : X.K = K := by rfl) :
    PI X (.Tuple elts kk tpos) (.Call (.Name "enumerate" p) [e] [] pos) (iEnum K ta) := hK ▸ pi_enum hg hm ha hs
theorem pg_tupK {X : Cx} {K : PySem.W.Frag} {es : List Expr} {k : Nat} {t : TGs} {n : Nat} {pos : Pos} (hc : X.calm = true) (h : PGs X es t)
    (hn : (assignEach es X.env).length = n := by rfl) (hst : (assignEach es X.env).findIdx? (·.1) = none := by rfl) (hK : X.K = K := by rfl) : PG X (.Tuple es k pos) (gTup K n t) := hK ▸ pg_tup hc h hn hst
theorem pe_fldK {X : Cx} {K : PySem.W.Frag} {e : Expr} {f : Str} {ta : TE} {pos : Pos} (he : PE X e ta) (hb : attributeBase e f X.env (eval e X.env) = eval e X.env) (hK : X.K = K := by rfl) : PE X (.Attribute e f pos) (tFld K ta f) := hK ▸ pe_fld he hb
theorem pt_truthK {X : Cx} {K : PySem.W.Frag} {a : Expr} {ta : TE} (ha : PE X a ta) (he : ∀ whole, isTrue a X.env whole = (do let v ← whole; standAt a.pos; holding [v] (truthy v))) (hK : X.K = K := by rfl) :
    PT X a (fun σ H Q => ta σ H fun x H' => ∃ k, TruV K x H' k ∧ Q k H') := hK ▸ pt_truth ha he
theorem call_len_seqK {X : Cx} {K : PySem.W.Frag} (hK : X.K = K := by rfl) : CallR X (.builtin "len") (fun xs H Q => ∃ p ys, xs = [.ref p] ∧ (SqL K H p ys ∨ SqT K H p ys) ∧ Q (.int ys.length) H) := hK ▸ call_len_seq
theorem call_tuple_ofK {X : Cx} {K : PySem.W.Frag} (hK : X.K = K := by rfl) : CallR X (.type "tuple") (fun xs H Q => ∃ p ys, xs = [.ref p] ∧ ((SqL K H p ys ∧ ∀ l, H l = none → Q (.ref l) (upd H l (.tup ys))) ∨ (SqT K H p ys ∧ Q (.ref p) H))) := hK ▸ call_tuple_of
theorem cr_sumK {X : Cx} {K : PySem.W.Frag} (hc : X.calm = true) (hK : X.K = K := by rfl) : CallR X (.builtin "sum") (rSum K) := hK ▸ cr_sum hc
/-! ### an error class with its own __init__: two fields -/
def spXi2 (K : PySem.W.Frag) (C : Addr) (fl gl : Str) : Sp := fun vs H Q _ => ∃ (a : Addr) (y z : V), vs = [.ref a, y, z] ∧ ErC K C ∧ PySem.W.findIn K (.ref C) fl = some none ∧ PySem.W.findIn K (.ref C) gl = some none ∧ H a = some (exo a C none) ∧
  ∀ dx, H dx = none → dx ≠ a → Q .non (upd (upd H dx (exd dx [(gl, z), (fl, y)])) a (exo a C (some dx)))
/-- such a class, as those know it who raise it -/
structure ExcF2 (P : Program) (w : World) (K : PySem.W.Frag) (mg : Str → Option Value) (base : Heap) (k : Nat) (x : Str) (C : Addr) (fl gl : Str) : Prop where
  oex : ErC K C
  xf : XfC K C
  no1 : PySem.W.findIn K (.ref C) fl = some none
  no2 : PySem.W.findIn K (.ref C) gl = some none
  g : mg x = some (.ref C)
  te : PySem.W.exmOne K (.ref C) (.ref C) = some true
  ex : ∃ (fI : Addr) (fd : FuncData) (ps : List Str), PySem.W.findIn K (.ref C) "__init__" = some (some (.ref fI)) ∧ PySem.W.typeIn K (.ref fI) = some (.type "function") ∧ FnOk P w K mg base CX0 k fI fd ps (spXi2 K C fl gl) ∧ Binds K fd ps []
section
variable {X : Cx} {k j : Nat} {C : Addr} {fl gl x : Str} {p pos : Pos} {e : Expr} {es : List Expr} {ta : TA}
/-- the error: its own dict d, new, holds the field -/
def tRx2 (C : Addr) (fl gl : Str) (ta : TA) : L2.St → Hp → XK → Prop := fun σ H Q => ta σ H fun vs H1 => ∃ y z, vs = [y, z] ∧ ∀ d H', Same H1 H' → H1 d = none → H' d = some (.xd [(gl, z), (fl, y)]) → Q (.ref C) (some d) H'
theorem pmk_x2 (T : ExcF2 X.prog X.w X.K X.mg X.base k x C fl gl) (hr : Room j X.A) (hk : k + 1 ≤ j) (hg : Gl X x) (ha : PA X (e :: es) ta)
    (hdb : (x == ("__debug__" : Str)) = false := by decide) (he : starEach (e :: es) X.env = (false, eval e X.env) :: starEach es X.env := by rfl) (hpl : (backTo pos (starEach es X.env)).any (·.1) = false := by rfl) :
    L2N.PMk X (.Call (.Name x p) (e :: es) [] pos) (tRx2 C fl gl ta) := by
  intro pins s σ H Q I h
  obtain ⟨oex, xf, hno, hno2, hm, te, fI, fd, ps, iC, tI, F1, hb⟩ := T
  obtain ⟨B, newId, initId, tl, eb, hin, _⟩ := oex.cls
  refine wpAny_Call_Name_kw (ld_glob I hg hm ?_ hdb)
  refine PySem.W.callWith_K (h₀ := X.base) I.ok.mod.kin oex.kC (thn (ha.run pos pins s σ H _ I h) fun us s1 ⟨vs, H1, I1, r1, y, z, ev, q1⟩ => ⟨I1.kIn, ?_⟩) he hpl
  subst ev
  show wpAny _ _ (call (.ref C) us) _ _ _
  obtain ⟨hp, g, dr, tk, os⟩ := s1
  obtain ⟨nm, N, q, bs, bm, hdct, sn, sub, ab, col, dd, k0, k1, k2, k3, k5, hC, hT⟩ := PySem.W.excInit_of (h := hp) I1.kIn hin
  have hsz : hp.objs.size ≤ hp.objs.size + 1 := Nat.le_succ _
  have hn : H1 (hp.objs.size + 1) = none := I1.hok.fresh hsz
  have hq : spXi2 X.K C fl gl [.ref (hp.objs.size + 1), y, z] (upd H1 (hp.objs.size + 1) (exo (hp.objs.size + 1) C none))
      (fun v H2 => v = .non ∧ ∃ d, H2 (hp.objs.size + 1) = some (exo (hp.objs.size + 1) C (some d)) ∧ H2 d = some (exd d [(gl, z), (fl, y)]) ∧ H1 d = none ∧ Q (.ref C) (some d) (upd (del H2 (hp.objs.size + 1)) d (.xd [(gl, z), (fl, y)]))) (fun _ _ _ => False) := by
    refine ⟨_, y, z, rfl, oex, hno, hno2, upd_same, fun dx hdx ne => ⟨rfl, dx, upd_same, ?_, ?_, q1 dx _ ?_ ?_ ?_⟩⟩
    · rw [upd_ne ne, upd_same]
    · rw [upd_ne ne] at hdx
      exact hdx
    · intro b o hbo
      rw [upd_ne ne] at hdx
      rw [upd_ne (ne_of_none hbo hdx), del_ne (ne_of_none hbo hn), upd_ne (ne_of_none hbo hn), upd_ne (ne_of_none hbo hdx), upd_ne (ne_of_none hbo hn)]
      exact hbo
    · rw [upd_ne ne] at hdx
      exact hdx
    · exact upd_same
  have kk : ∀ b o, hp.get? b = some o → ((hp.push (PySem.W.kdv_tup us)).push (PySem.HandSPX.excO C hp.objs.size)).get? b = some o := fun b o e => Heap.get?_push_of_some _ (Heap.get?_push_of_some _ e)
  have hget : ((hp.push (PySem.W.kdv_tup us)).push (PySem.HandSPX.excO C hp.objs.size)).get? (hp.objs.size + 1) = some (PySem.HandSPX.excO C hp.objs.size) := by heap_get
  have I2 : Inv X pins σ (upd H1 (hp.objs.size + 1) (exo (hp.objs.size + 1) C none)) ⟨(hp.push (PySem.W.kdv_tup us)).push (PySem.HandSPX.excO C hp.objs.size), g, dr, tk, os⟩ :=
    I1.laid (t' := tk) (a := hp.objs.size + 1) (o := exo (hp.objs.size + 1) C none) (h' := (hp.push (PySem.W.kdv_tup us)).push (PySem.HandSPX.excO C hp.objs.size)) kk hsz (exo_ok hget)
  have r2 : Vals (V.ref (hp.objs.size + 1) :: [y, z]) (Value.ref (hp.objs.size + 1) :: us) := .cons rfl r1
  have hl : (Value.ref (hp.objs.size + 1) :: us ++ []).length = ps.length := by
    have e := r2.length
    have e2 := F1.len _ _ _ _ hq
    rw [List.append_nil, ← e]
    exact e2
  have hus : us.length ≤ sizeLine := by
    rw [← Paired.length r1, sizeLine_eq]
    show 2 ≤ _
    omega
  have b2 := hb _ (Value.ref (hp.objs.size + 1) :: us) I2.kIn hl
  rw [List.append_nil] at b2
  refine wpAny_call (xk_call eb.fb hT hC (PySem.W.looks_findIn I1.kIn iC) (fun self => PySem.W.bind_fn I1.kIn self tI) hus
    (codeAny_mono (F1.run _ X.stack _ _ ⟨Value.ref (hp.objs.size + 1) :: us, []⟩ (Value.ref (hp.objs.size + 1) :: us) _ _ (fun _ _ _ => False) ((hr.mono hk).make C us []) (I2.env0.make C us []) b2 r2 hq) fun r s' hq' => ?_))
  cases r with
  | error er => exact False.elim hq'
  | ok fl' =>
    cases fl' with
    | ret u =>
      obtain ⟨v, H2, os2, bare2, un2, hok2, rv, ev, d, ea, ed, hd1, q2⟩ := hq'
      subst ev
      obtain ⟨h2, g2, d2, t2, os'⟩ := s'
      obtain ⟨t0, G, J, kG, ge, hoe, na⟩ := mk_end0 (d2 := d2) (t2 := t2) I1 hsz kk un2 hok2 os2 bare2 ea ed hd1
      exact ⟨rv, ⟨hp.objs.size + 1, _, _, ⟨G, g2, d2, t2, os'⟩, _, .ref C, some d, rfl, J, kG, ge, hoe, ⟨rfl, rfl, fun vs hv => by cases hv; rfl⟩, rfl, rfl, na, rfl, bare2, raises_own oex.exC oex.tyC, q2⟩⟩
    | next => exact False.elim hq'
    | brk => exact False.elim hq'
    | cont => exact False.elim hq'
theorem ps_raise2 {W : WX} {pos2 : Pos} (T : ExcF2 X.prog X.w X.K X.mg X.base k x C fl gl) (hr : Room j X.A) (hk : k + 1 ≤ j) (hc : X.calm = true) (tk : L2N.Takes X W) (hg : Gl X x) (ha : PA X (e :: es) ta)
    (hdb : (x == ("__debug__" : Str)) = false := by decide) (he : starEach (e :: es) X.env = (false, eval e X.env) :: starEach es X.env := by rfl) (hpl : (backTo pos (starEach es X.env)).any (·.1) = false := by rfl) :
    PS X (.Raise (some (.Call (.Name x p) (e :: es) [] pos)) none pos2) (fun _ σ H => tRx2 C fl gl ta σ H fun cls d H' => W cls d σ H') := L2N.ps_raise hc tk (pmk_x2 T hr hk hg ha hdb he hpl)
end
end MG

/-! an operator with an instance of another class behind; without a try -/
namespace PySem.W
open PyProof.Rows
section
variable {prog : Program} {w : World} {A : Around} {E : Value → Shared → Prop} {s : Shared} {K : Frag} {x C C2 L f f2 : Addr} {h₀ : Heap} {m : Str → Option Value} {ox : Obj} {od : Option Obj}
theorem mg_binC {op : Operator} {b : Value} {Q : Value → Shared → Prop} (F : Fr h₀ L s.heap m) (X₀ : K.In h₀) (I : InstAt s.heap x ox C od) (hb : Looks (model prog w) s.heap (typeOf b) (.ref C2)) (hc : selfFirst K C = true) (hc2 : selfFirst K C2 = true)
    (hs : findIn K (.ref C) (PySem.dunder op.info.2) = some (some (.ref f))) (hf : isFn K (.ref f) = true) (hr : findIn K (.ref C) (dunderR op.info.2) = some none)
    (hs2 : findIn K (.ref C2) (PySem.dunder op.info.2) = some (some (.ref f2))) (hr2 : findIn K (.ref C2) (dunderR op.info.2) = some none) (hsub : subIn K (.ref C2) (.ref C) = some false) (hne : C ≠ C2)
    (h : wpAny (model prog w) A (call (.ref f) [.ref x, b]) (CmpBack Q) E s) : wpAny (model prog w) A (binaryOp op (.ref x) b) Q E s := by
  have X := X₀.keeps F.keep
  obtain ⟨cd, rest, hcd, hm⟩ := ksp_first hc
  obtain ⟨cd2, rest2, hcd2, hm2⟩ := ksp_first hc2
  rcases hi : op.info with ⟨sym, nm'⟩
  rw [hi] at hs hr hs2 hr2
  dsimp only at hs hr hs2 hr2
  have one := ksp_try X I hs hf h
  obtain ⟨hh, g, d, tt, os⟩ := s
  have L1 : Looks (model prog w) hh (typeOf (.ref x)) (.ref C) := I.type
  have L2 : Looks (model prog w) hh (typeOf b) (.ref C2) := hb
  have L3 : Looks (model prog w) hh (fillsNumberSlot (.ref C) nm') true := fills_K X hcd hm hs
  have L4 : Looks (model prog w) hh (fillsNumberSlot (.ref C2) nm') true := fills_K X hcd2 hm2 hs2
  have L5 : Looks (model prog w) hh (isSubtype (.ref C2) (.ref C)) false := looks_subIn X hsub
  have L6 : Looks (model prog w) hh (numberSlotInPython (.ref C) nm') true := ksp_inPy X hs hr (.inl rfl)
  have L7 : Looks (model prog w) hh (numberSlotInPython (.ref C2) nm') true := ksp_inPy X hs2 hr2 (.inl rfl)
  have hne' : (Value.ref C == Value.ref C2) = false := Bool.eq_false_iff.mpr fun q => hne (by cases beq_iff_eq.mp q; rfl)
  simp only [binaryOp, hi]
  refine wpAny_holding (wpAny_bind ?_)
  unfold binaryOp1
  refine wpAny_bind (L1.at (wpAny_bind (L2.at (wpAny_bind (L3.at ?_)))))
  simp only [hne', Bool.false_eq_true, if_false]
  ksp_lk
  refine wpAny_mono one (fun r s' hr' => ?_) fun _ _ e => e
  obtain ⟨v, rfl, hq⟩ := hr'
  ksp_lk
  exact hq
end
end PySem.W
namespace MG
open PySem PySem.Spec PyProof.Rows L2
/-- what the top says of an operator of C with an instance of C2 behind -/
structure OpTwo (K : PySem.W.Frag) (C C2 : Addr) (op : Operator) : Prop where
  first : PySem.W.selfFirst K C2 = true
  at2 : ∃ f2, PySem.W.findIn K (.ref C2) (PySem.dunder op.info.2) = some (some (.ref f2))
  ref2 : PySem.W.findIn K (.ref C2) (dunderR op.info.2) = some none
  sub : PySem.W.subIn K (.ref C2) (.ref C) = some false
  ne : C ≠ C2
/-- x op y, x of the class at C, y of it, of that at C2, or an int -/
def rOwn2 (C C2 : Addr) (sp : Sp) (E : XK) : R2 := fun x y H Q => ∃ a dx fs, x = .ref a ∧ H a = some (.ins C dx fs) ∧
  ((∃ b dy gs, y = .ref b ∧ H b = some (.ins C dy gs)) ∨ (∃ b dy gs, y = .ref b ∧ H b = some (.ins C2 dy gs)) ∨ ∃ i, y = .int i) ∧ sp [x, y] H Q E
theorem op_two {X : Cx} {CX : CXT} {k : Nat} {C C2 f : Addr} {op : Operator} {fd : FuncData} {ps : List Str} {sp : Sp} {E : XK}
    (o : OpAt X.K C op f) (oi : OpInt X.K C op) (o2 : OpTwo X.K C C2 op) (F : FnOk X.prog X.w X.K X.mg X.base CX k f fd ps sp) (hr : Room k X.A)
    (hb : Binds X.K fd ps []) (hx : Passes CX X E) : OpR X (binaryOp op) (rOwn2 C C2 sp E) := by
  intro pins s σ H x y v u Q I rx ry h
  obtain ⟨a, dx, fs, rfl, ha, hy, hsp⟩ := h
  rcases hy with hy | ⟨b, dy, gs, rfl, hb'⟩ | hy
  · exact op_own o oi F hr hb hx pins s σ H _ y v u Q I rx ry ⟨a, dx, fs, rfl, ha, .inl hy, hsp⟩
  · cases rx
    cases ry
    obtain ⟨mA, J, _⟩ := ins_get I.hok ha
    obtain ⟨od, J, _⟩ := J.look
    obtain ⟨m, hF⟩ := I.fr
    obtain ⟨mB, J', _⟩ := ins_get I.hok hb'
    obtain ⟨od', J', _⟩ := J'.look
    obtain ⟨f2, h2⟩ := o2.at2
    refine PySem.W.mg_binC hF I.ok.mod.kin J J'.type o.first o2.first o.at_ o.fn o.ref h2 o2.ref2 o2.sub o2.ne ?_
    exact wpAny_mono (run_fn (vs := [.ref a, .ref b]) F hr hb .nil hx I (.cons rfl (.cons rfl .nil)) (by rw [List.append_nil]; exact hsp))
      (fun _ _ hq => match hq with | ⟨_, _, _, r, _⟩ => back_of r hq) fun _ _ e => e
  · exact op_own o oi F hr hb hx pins s σ H _ y v u Q I rx ry ⟨a, dx, fs, rfl, ha, .inr hy, hsp⟩
theorem passX {X : Cx} : Passes (L2N.CX X.prog X.w) X (fun _ _ _ => False) := fun _ σ _ _ _ _ I h => passF (σ := σ) _ _ _ _ _ I h
/-- an operator that may raise, where it doesn't -/
structure OpXF (P : Program) (w : World) (K : PySem.W.Frag) (mg : Str → Option Value) (base : Heap) (k : Nat) (C C2 : Addr) (op : Operator) (sp : Sp) : Prop where
  ex : ∃ (f : Addr) (fd : FuncData) (ps : List Str), OpAt K C op f ∧ OpInt K C op ∧ OpTwo K C C2 op ∧ FnOk P w K mg base (L2N.CX P w) k f fd ps sp ∧ Binds K fd ps []
theorem op_xf {X : Cx} {k j : Nat} {C C2 : Addr} {op : Operator} {sp : Sp} (o : OpXF X.prog X.w X.K X.mg X.base k C C2 op sp) (hr : Room j X.A) (hk : k ≤ j) : OpR X (binaryOp op) (rOwn2 C C2 sp E0) := by
  obtain ⟨f, fd, ps, a, i, t, F, b⟩ := o.ex
  exact op_two a i t F (hr.mono hk) b passX
theorem OpXF.x {P : Program} {w : World} {K : PySem.W.Frag} {mg : Str → Option Value} {base : Heap} {k : Nat} {C C2 : Addr} {op : Operator} {sp : Sp} (o : OpXF P w K mg base k C C2 op sp) : OpX P w K mg base k C op sp := by
  obtain ⟨f, fd, ps, a, i, t, F, b⟩ := o.ex
  exact ⟨f, fd, ps, a, F, b⟩
end MG

/-! data of lists of lists; sums -/
namespace MG
open PySem PySem.Spec PyProof.Rows L2
section
variable {K : PySem.W.Frag} {H H' : Hp}
theorem seqL_same {a : Addr} {xs : List V} (s : Same H H') (h : SqL K H a xs) : SqL K H' a xs := s.seq h
mutual
theorem Dp.same (s : Same H H') : ∀ {v : V} {d : PyData}, Dp K H v d → Dp K H' v d
  | _, _, .non => .non
  | _, _, .bl b => .bl b
  | _, _, .int i => .int i
  | _, _, .str x => .str x
  | _, _, .lst h a => .lst (s.seq h) (DpAll.same s a)
  | _, _, .tup h a => .tup (same_tup s h) (DpAll.same s a)
theorem DpAll.same (s : Same H H') : ∀ {vs : List V} {ds : List PyData}, DpAll K H vs ds → DpAll K H' vs ds
  | _, _, .nil => .nil
  | _, _, .cons h t => .cons (Dp.same s h) (DpAll.same s t)
end
theorem dpAll_of : ∀ {xs : List V} {ds : List PyData}, ds.length = xs.length → (∀ (i : Nat) (x : V) (d : PyData), xs[i]? = some x → ds[i]? = some d → Dp K H x d) → DpAll K H xs ds
  | [], [], _, _ => .nil
  | [], _ :: _, h, _ => by simp at h
  | _ :: _, [], h, _ => by simp at h
  | x :: xs, d :: ds, h, p => .cons (p 0 x d rfl rfl) (dpAll_of (by simpa using h) fun i y e h1 h2 => p (i + 1) y e (by simpa using h1) (by simpa using h2))
end
theorem showAll_of : ∀ {ds : List PyData}, (∀ d ∈ ds, d.showable = true) → PyData.showableAll ds = true
  | [], _ => by simp [PyData.showableAll]
  | d :: ds, h => by
    rw [PyData.showableAll, h d (by simp), showAll_of fun e he => h e (by simp [he])]
    rfl
theorem dictAll_of : ∀ {ds : List PyData}, (∀ d ∈ ds, d.hasDict = false) → PyData.hasDictAll ds = false
  | [], _ => by simp [PyData.hasDictAll]
  | d :: ds, h => by
    rw [PyData.hasDictAll, h d (by simp), dictAll_of fun e he => h e (by simp [he])]
    rfl
theorem shownAll_map : ∀ (ds : List PyData), PyData.shownAll ds = ds.map PyData.shown
  | [] => by simp [PyData.shownAll]
  | d :: ds => by rw [PyData.shownAll, shownAll_map ds]; rfl
theorem piled_le {n : Nat} : ∀ {ts : List Str}, (∀ t ∈ ts, t.length ≤ n) → piled ts ≤ (n + 2) * ts.length
  | [], _ => by simp [piled]
  | t :: ts, h => by
    have h1 := h t (by simp)
    have h2 : piled ts ≤ (n + 2) * ts.length := piled_le fun e he => h e (List.mem_cons_of_mem _ he)
    rw [piled_cons, List.length_cons, Nat.mul_succ]
    omega
theorem listText_le {ts : List Str} : (listText ts).length ≤ piled ts + 2 := by
  cases ts with
  | nil => decide
  | cons t ts =>
    unfold listText
    have h := textFrom_length_pos ts 1 (("[" : Str) ++ (if 0 > 0 then ", " else "" : String) ++ t) (by decide)
    have e : textFrom 0 "[" (t :: ts) = textFrom 1 (("[" : Str) ++ (if 0 > 0 then ", " else "" : String) ++ t) ts := rfl
    rw [e, strLen_append, h, strLen_append, strLen_append, piled_cons]
    have h1 : (("[" : Str)).length = 1 := rfl
    have h2 : (("]" : Str)).length = 1 := rfl
    have h3 : (Str.ofString (if 0 > 0 then ", " else "" : String)).length = 0 := rfl
    omega
theorem listText_bd {ts : List Str} {n : Nat} (h : ∀ t ∈ ts, t.length ≤ n) : (listText ts).length ≤ (n + 2) * ts.length + 2 := Nat.le_trans listText_le (Nat.add_le_add_right (piled_le h) 2)
/-- what repr asks of data -/
structure Okd (d : PyData) (n k : Nat) : Prop where
  sh : d.showable = true
  nd : d.hasDict = false
  dp : d.depth ≤ k
  ln : d.shown.length ≤ n
theorem depthAll_le {k : Nat} : ∀ {ds : List PyData}, (∀ d ∈ ds, d.depth ≤ k) → PyData.depthAll ds ≤ k
  | [], _ => by simp [PyData.depthAll]
  | d :: ds, h => by
    have h1 := h d (by simp)
    have h2 : PyData.depthAll ds ≤ k := depthAll_le fun e he => h e (List.mem_cons_of_mem _ he)
    rw [PyData.depthAll]
    omega
theorem okd_list {ds : List PyData} {n k m : Nat} (h : ∀ d ∈ ds, Okd d n k) (hm : ds.length ≤ m) : Okd (.list ds) ((n + 2) * m + 2) (k + 1) := by
  refine ⟨?_, ?_, ?_, ?_⟩
  · rw [PyData.showable]; exact showAll_of fun d hd => (h d hd).sh
  · rw [PyData.hasDict]; exact dictAll_of fun d hd => (h d hd).nd
  · have := depthAll_le (k := k) fun d hd => (h d hd).dp
    rw [PyData.depth]
    omega
  · rw [PyData.shown, shownAll_map]
    refine Nat.le_trans (listText_bd (n := n) fun t ht => ?_) ?_
    · obtain ⟨d, hd, rfl⟩ := List.mem_map.mp ht
      exact (h d hd).ln
    · rw [List.length_map]
      exact Nat.add_le_add_right (Nat.mul_le_mul_left _ hm) 2
theorem okd_pair {a b : Int} (ha : Sm a) (hb : Sm b) : Okd (.tuple [.int a, .int b]) 4000 1 := by
  refine ⟨?_, rfl, ?_, shw_len ha hb⟩
  · simp [PyData.showable, PyData.showableAll, log_sm ha, log_sm hb]
  · simp [PyData.depth, PyData.depthAll]
theorem Okd.rep {K : PySem.W.Frag} {H : Hp} {x : V} {d : PyData} {n k : Nat} {Q : VK} (o : Okd d n k) (h : Dp K H x d) (hk : k ≤ 60) (hn : n ≤ sizeLine) (q : Q (.str d.shown) H) : rRepr K [x] H Q :=
  ⟨x, d, rfl, h, o.sh, o.nd, Nat.le_trans o.dp hk, Nat.le_trans o.ln hn, q⟩
/-- numerators and denominators of a row, of a table -/
def prD (p : Rat) : PyData := .tuple [.int p.num, .int p.den]
def rowD (c : Nat) (g : Nat → Rat) : PyData := .list ((List.range c).map fun j => prD (g j))
def tabD (r c : Nat) (f : Nat → Nat → Rat) : PyData := .list ((List.range r).map fun i => rowD c (f i))
theorem tabD_congr {r c : Nat} {f g : Nat → Nat → Rat} (h : ∀ i j, i < r → j < c → f i j = g i j) : tabD r c f = tabD r c g := by
  unfold tabD
  congr 1
  refine List.map_congr_left fun i hi => ?_
  unfold rowD
  congr 1
  refine List.map_congr_left fun j hj => ?_
  rw [h i j (List.mem_range.mp hi) (List.mem_range.mp hj)]
theorem okd_tab {r c m n k : Nat} {f : Nat → Nat → Rat} (hr : r ≤ m) (hc : c ≤ n) (hk : k ≤ 400) (h : ∀ i j, i < r → j < c → Bd (f i j) k) : Okd (tabD r c f) (((4000 + 2) * n + 2 + 2) * m + 2) 3 := by
  refine okd_list (fun d hd => ?_) (by simpa using hr)
  obtain ⟨i, hi, rfl⟩ := List.mem_map.mp hd
  refine okd_list (fun e he => ?_) (by simpa using hc)
  obtain ⟨j, hj, rfl⟩ := List.mem_map.mp he
  have b := h i j (List.mem_range.mp hi) (List.mem_range.mp hj)
  exact okd_pair (b.num hk) (b.den hk)
theorem range_get {α : Type} {n : Nat} {f : Nat → α} {i : Nat} {x : α} (h : ((List.range n).map f)[i]? = some x) : i < n ∧ x = f i := by
  rw [List.getElem?_map] at h
  by_cases hi : i < n
  · rw [List.getElem?_range hi] at h
    exact ⟨hi, (Option.some.inj h).symm⟩
  · rw [List.getElem?_eq_none (by simpa using hi)] at h; cases h
theorem dp_row {K : PySem.W.Frag} {H : Hp} {p : Addr} {xs : List V} {c : Nat} {d : Nat → PyData} (e : H p = some (.lst xs)) (hl : xs.length = c) (h : ∀ j y, xs[j]? = some y → Dp K H y (d j)) : Dp K H (.ref p) (.list ((List.range c).map d)) :=
  .lst (SqL.of e) (dpAll_of (by simp [hl]) fun i x z h1 h2 => by
    obtain ⟨_, rfl⟩ := range_get h2
    exact h i x h1)
/-! ### sums -/
def sumQ : Nat → (Nat → Rat) → Rat
  | 0, _ => 0
  | n + 1, f => sumQ n f + f n
def smZ : Nat → (Nat → Int) → Int
  | 0, _ => 0
  | n + 1, f => smZ n f + f n
theorem smZ_list (n : Nat) (f : Nat → Int) : ((List.range n).map f).sum = smZ n f := by
  induction n with
  | zero => rfl
  | succ n ih =>
    rw [List.range_succ, List.map_append, List.sum_append, ih]
    simp [smZ]
theorem sumQ_congr {n : Nat} {f g : Nat → Rat} (h : ∀ i, i < n → f i = g i) : sumQ n f = sumQ n g := by
  induction n with
  | zero => rfl
  | succ n ih => rw [sumQ, sumQ, ih fun i hi => h i (by omega), h n (by omega)]
theorem smZ_congr {n : Nat} {f g : Nat → Int} (h : ∀ i, i < n → f i = g i) : smZ n f = smZ n g := by
  induction n with
  | zero => rfl
  | succ n ih => rw [smZ, smZ, ih fun i hi => h i (by omega), h n (by omega)]
theorem sumQ_add (n : Nat) (f g : Nat → Rat) : sumQ n (fun i => f i + g i) = sumQ n f + sumQ n g := by
  induction n with
  | zero => exact (Rat.add_zero 0).symm
  | succ n ih => rw [sumQ, sumQ, sumQ, ih]; grind
theorem sumQ_mul (n : Nat) (a : Rat) (f : Nat → Rat) : sumQ n (fun i => a * f i) = a * sumQ n f := by
  induction n with
  | zero => simp [sumQ]
  | succ n ih => rw [sumQ, sumQ, ih]; grind
theorem sumQ_mulr (n : Nat) (a : Rat) (f : Nat → Rat) : sumQ n (fun i => f i * a) = sumQ n f * a := by
  induction n with
  | zero => simp [sumQ]
  | succ n ih => rw [sumQ, sumQ, ih]; grind
theorem sumQ_zero (n : Nat) : sumQ n (fun _ => 0) = 0 := by
  induction n with
  | zero => rfl
  | succ n ih => rw [sumQ, ih]; grind
theorem sumQ_swap (m n : Nat) (f : Nat → Nat → Rat) : sumQ m (fun i => sumQ n (f i)) = sumQ n (fun j => sumQ m fun i => f i j) := by
  induction m with
  | zero => simp only [sumQ]; rw [sumQ_zero]
  | succ m ih => rw [sumQ, ih, ← sumQ_add]; exact sumQ_congr fun i _ => rfl
/-- the product of tables; n: what both have in common -/
def mulQ (n : Nat) (f g : Nat → Nat → Rat) : Nat → Nat → Rat := fun i k => sumQ n fun j => f i j * g j k
theorem mulQ_assoc (m n : Nat) (f g h : Nat → Nat → Rat) (i l : Nat) : mulQ n (mulQ m f g) h i l = mulQ m f (mulQ n g h) i l := by
  unfold mulQ
  have e1 : (fun k => sumQ m (fun j => f i j * g j k) * h k l) = fun k => sumQ m fun j => f i j * g j k * h k l := by
    funext k; rw [sumQ_mulr]
  have e2 : (fun j => f i j * sumQ n fun k => g j k * h k l) = fun j => sumQ n fun k => f i j * (g j k * h k l) := by
    funext j; rw [sumQ_mul]
  rw [e1, e2, sumQ_swap]
  exact sumQ_congr fun j _ => sumQ_congr fun k _ => Rat.mul_assoc _ _ _
/-- one fraction of a sum of products of ints over one bottom each -/
theorem sum_div {n : Nat} {a b : Nat → Int} {u v : Int} (hu : u ≠ 0) (hv : v ≠ 0) : Rat.divInt (smZ n fun i => a i * b i) (u * v) = sumQ n fun i => Rat.divInt (a i) u * Rat.divInt (b i) v := by
  induction n with
  | zero => simp [smZ, sumQ]
  | succ n ih =>
    rw [smZ, sumQ, ← ih, Rat.divInt_mul_divInt]
    have h := Int.mul_ne_zero hu hv
    rw [Rat.divInt_add_divInt _ _ h h, ← Int.add_mul, Rat.divInt_mul_right h]
theorem all_bl {K : PySem.W.Frag} {H : Hp} {D : Addr} {ys : List V} (e : H D = some (.lst ys)) (h : ∀ (i : Nat) (y : V), ys[i]? = some y → y = .bl true) : ∃ bs : List Bool, SqL K H D (bs.map V.bl) ∧ bs.all id = true := by
  have e1 : ys = (List.replicate ys.length true).map V.bl := by
    refine List.ext_getElem? fun i => ?_
    rw [List.getElem?_map]
    by_cases hi : i < ys.length
    · rw [List.getElem?_replicate, if_pos hi, List.getElem?_eq_getElem hi]
      exact congrArg some (h i _ (List.getElem?_eq_getElem hi))
    · rw [List.getElem?_eq_none (by omega), List.getElem?_eq_none (by simpa using hi)]
      rfl
  exact ⟨_, SqL.of (e1 ▸ e), by simp⟩
theorem ints_of {ys : List V} {n : Nat} {f : Nat → Int} (hl : ys.length = n) (h : ∀ (i : Nat) (y : V), ys[i]? = some y → y = .int (f i)) : ys = ((List.range n).map f).map V.int := by
  refine List.ext_getElem? fun i => ?_
  rw [List.map_map, List.getElem?_map]
  by_cases hi : i < n
  · rw [List.getElem?_range hi, List.getElem?_eq_getElem (by omega)]
    exact congrArg some (h i _ (List.getElem?_eq_getElem (by omega)))
  · rw [List.getElem?_eq_none (by omega), List.getElem?_eq_none (by simpa using hi)]
    rfl
/-- a row of ints -/
def rowV (c : Nat) (g : Nat → Int) : List V := ((List.range c).map g).map V.int
theorem rowV_len {c : Nat} {g : Nat → Int} : (rowV c g).length = c := by simp [rowV]
theorem rowV_get {c : Nat} {g : Nat → Int} {i : Nat} {y : V} (h : (rowV c g)[i]? = some y) : i < c ∧ y = .int (g i) := by
  unfold rowV at h
  rw [List.map_map] at h
  exact range_get h
theorem rowV_at {c : Nat} {g : Nat → Int} {i : Nat} (h : i < c) : (rowV c g)[i]? = some (.int (g i)) := by
  unfold rowV
  rw [List.map_map, List.getElem?_map, List.getElem?_range h]
  rfl
end MG

/-! math.lcm of greater numbers -/
namespace MG
open PySem PySem.Spec PyProof.Rows L2
theorem log_lt {n k : Nat} (h : n < 2 ^ k) (hk : 0 < k) : n.log2 < k := by
  by_cases h0 : n = 0
  · subst h0; exact Nat.lt_of_le_of_lt (by decide) hk
  · exact (Nat.log2_lt h0).mpr h
def rLcmB : List V → Hp → VK → Prop := fun vs H Q => ∃ a b : Int, vs = [.int a, .int b] ∧ a.natAbs < 2 ^ 1400 ∧ b.natAbs < 2 ^ 1400 ∧ Q (.int ((a.natAbs.lcm b.natAbs : Nat) : Int)) H
theorem cr_lcmB {X : Cx} : CallR X (.builtin "math.lcm") rLcmB := by
  intro pins s σ H vs us Q I r h
  obtain ⟨a, b, rfl, h1, h2, q⟩ := h
  obtain ⟨t, u, rfl⟩ := Vals.int2 r
  have one : (1 : Nat) < 2 ^ 1400 := by decide
  have l1 : (max 1 a.natAbs).log2 < 1400 := log_lt (by omega) (by decide)
  have l2 : (max a.natAbs b.natAbs).log2 < 1400 := log_lt (by omega) (by decide)
  have e1 : Nat.lcm 1 a.natAbs = a.natAbs := by simp [Nat.lcm]
  have hsz : ((((Nat.lcm 1 a.natAbs).lcm b.natAbs : Nat) : Int)).natAbs.log2 < bitsLine := by
    rw [e1, Int.natAbs_natCast]
    have : a.natAbs.lcm b.natAbs < 2 ^ 2800 := by
      refine Nat.lt_of_le_of_lt (PySem.W.mc_lcm_le _ _) ?_
      have : a.natAbs * b.natAbs < 2 ^ 1400 * 2 ^ 1400 := Nat.mul_lt_mul'' h1 h2
      rw [← Nat.pow_add] at this
      exact this
    exact Nat.lt_trans (log_lt this (by decide)) (by decide)
  have g := PySem.W.mg_run_lcm a t b u (by omega) (by omega) hsz
  rw [e1] at g
  exact PySem.call_function_meets PySem.W.MGF.kind_lcm PySem.W.MGF.plain_lcm PySem.W.MGF.entry_lcm (PySem.W.MGF.args_lcm _ _) g.meets ⟨.int _, H, I.tok _, ⟨_, rfl⟩, q⟩
end MG

namespace Lw
open PySem PySem.Spec PyProof.Rows L2 MG
abbrev s_is_table : Stmt := top 24
abbrev s_over_one_bottom : Stmt := top 25
abbrev s_row_times : Stmt := top 26
abbrev s_multiplied : Stmt := top 27
abbrev s_Matrix___init__ : Stmt := inClass (top 33) 0
abbrev s_Matrix_entries : Stmt := inClass (top 33) 1
abbrev s_Matrix_rows : Stmt := inClass (top 33) 2
abbrev s_Matrix_columns : Stmt := inClass (top 33) 3
abbrev s_Matrix_transposed : Stmt := inClass (top 33) 4
abbrev s_Matrix__check_equal_sizes : Stmt := inClass (top 33) 11
abbrev s_Matrix___add__ : Stmt := inClass (top 33) 12
abbrev s_Matrix___sub__ : Stmt := inClass (top 33) 13
abbrev s_Matrix___mul__ : Stmt := inClass (top 33) 14
abbrev s_Matrix___neg__ : Stmt := inClass (top 33) 15
abbrev s_Matrix___eq__ : Stmt := inClass (top 33) 18
abbrev s_Mismatch___init__ : Stmt := inClass (top 11) 0
/-- what the top says of the class Matrix, at CM -/
structure TxM (K : PySem.W.Frag) (mg : Str → Option Value) (C CM : Addr) : Prop extends TxR K mg C where
  clM : Cls K CM
  nE : NoAttr K CM "_entries"
  g_Matrix : mg "Matrix" = some (.ref CM)
  g_lcm : mg "lcm" = some (.builtin "math.lcm")
  caM : PySem.W.findIn K (.ref CM) "__class__" = some (some (.builtin "object.__class__"))
  cmM : PySem.W.mroIn K CM (.type "object") = some true
  kMM : PySem.W.kitOne K (.ref CM) (.ref CM) = some true
  kMR : PySem.W.kitOne K (.ref CM) (.ref C) = some false
  kRM : PySem.W.kitOne K (.ref C) (.ref CM) = some false
  kMI : PySem.W.kitOne K (.ref CM) (.type "int") = some false
  kMB : PySem.W.kitOne K (.ref CM) (.type "bool") = some false
  kIM : PySem.W.kitOne K (.type "int") (.ref CM) = some false
/-! ### tables of numbers in the heap -/
abbrev CellP := Hp → V → Rat → Prop
/-- a Ratio -/
def RC (C : Addr) : CellP := fun H y q => ∃ a, y = .ref a ∧ RatAt C H a q
def Rw (P : CellP) (H : Hp) (x : V) (c : Nat) (g : Nat → Rat) : Prop := ∃ p xs, x = .ref p ∧ H p = some (.tup xs) ∧ xs.length = c ∧ ∀ (j : Nat) (y : V), xs[j]? = some y → P H y (g j)
def Tb (P : CellP) (H : Hp) (t : Addr) (r c : Nat) (f : Nat → Nat → Rat) : Prop := ∃ rs, H t = some (.tup rs) ∧ rs.length = r ∧ ∀ (i : Nat) (x : V), rs[i]? = some x → Rw P H x c (f i)
structure Mono (P : CellP) : Prop where
  same : ∀ {H H' : Hp} {y : V} {q : Rat}, P H y q → Same H H' → P H' y q
  hid : ∀ {H : Hp} {y : V} {q : Rat} {D : Addr} {l : List V}, P H y q → H D = some (.lst l) → P (hid D H) y q
theorem rc_mono (C : Addr) : Mono (RC C) := ⟨fun ⟨a, e, h⟩ s => ⟨a, e, h.same s⟩, fun {H y q D l} ⟨a, e, dx, h⟩ hD => ⟨a, e, dx, by rw [hid_ne (ne_of h hD (by intro z; cases z))]; exact h⟩⟩
theorem num_mono (C : Addr) : Mono (NumAt C) := ⟨fun h s => h.same s, fun {H y q D l} h hD => by
  rcases h with ⟨a, e, h⟩ | h
  · obtain ⟨b, e', h'⟩ := (rc_mono C).hid ⟨a, e, h⟩ hD
    exact .inl ⟨b, e', h'⟩
  · exact .inr h⟩
theorem RC.num {C : Addr} {H : Hp} {y : V} {q : Rat} (h : RC C H y q) : NumAt C H y q := h.elim fun a ⟨e, h⟩ => .inl ⟨a, e, h⟩
section
variable {P : CellP} {H H' : Hp} {x : V} {t D : Addr} {r c : Nat} {g g' : Nat → Rat} {f f' : Nat → Nat → Rat} {l : List V}
theorem Rw.same (m : Mono P) (h : Rw P H x c g) (s : Same H H') : Rw P H' x c g := by
  obtain ⟨p, xs, e, hp, hl, hc⟩ := h
  exact ⟨p, xs, e, s _ _ hp, hl, fun j y hy => m.same (hc j y hy) s⟩
theorem Rw.hid (m : Mono P) (h : Rw P H x c g) (hD : H D = some (.lst l)) : Rw P (hid D H) x c g := by
  obtain ⟨p, xs, e, hp, hl, hc⟩ := h
  exact ⟨p, xs, e, by rw [hid_ne (ne_of hp hD (by intro z; cases z))]; exact hp, hl, fun j y hy => m.hid (hc j y hy) hD⟩
theorem Rw.congr (h : Rw P H x c g) (e : ∀ j, j < c → g j = g' j) : Rw P H x c g' := by
  obtain ⟨p, xs, e', hp, hl, hc⟩ := h
  refine ⟨p, xs, e', hp, hl, fun j y hy => ?_⟩
  rw [← e j (by have := (List.getElem?_eq_some_iff.mp hy).1; omega)]
  exact hc j y hy
theorem Tb.same (m : Mono P) (h : Tb P H t r c f) (s : Same H H') : Tb P H' t r c f := by
  obtain ⟨rs, ht, hl, hc⟩ := h
  exact ⟨rs, s _ _ ht, hl, fun i x hx => (hc i x hx).same m s⟩
theorem Tb.hid (m : Mono P) (h : Tb P H t r c f) (hD : H D = some (.lst l)) : Tb P (hid D H) t r c f := by
  obtain ⟨rs, ht, hl, hc⟩ := h
  exact ⟨rs, by rw [hid_ne (ne_of ht hD (by intro z; cases z))]; exact ht, hl, fun i x hx => (hc i x hx).hid m hD⟩
theorem Tb.congr (h : Tb P H t r c f) (e : ∀ i j, i < r → j < c → f i j = f' i j) : Tb P H t r c f' := by
  obtain ⟨rs, ht, hl, hc⟩ := h
  exact ⟨rs, ht, hl, fun i x hx => (hc i x hx).congr fun j hj => e i j (by have := (List.getElem?_eq_some_iff.mp hx).1; omega) hj⟩
theorem Tb.imp {P' : CellP} (i : ∀ {H y q}, P H y q → P' H y q) (h : Tb P H t r c f) : Tb P' H t r c f := by
  obtain ⟨rs, ht, hl, hc⟩ := h
  refine ⟨rs, ht, hl, fun k x hx => ?_⟩
  obtain ⟨p, xs, e, hp, hl, hc⟩ := hc k x hx
  exact ⟨p, xs, e, hp, hl, fun j y hy => i (hc j y hy)⟩
end
/-- a Matrix stands at a -/
def mfl (t : Addr) : List (Str × V) := [("_entries", .ref t)]
def MtAt (C CM : Addr) (H : Hp) (a : Addr) (r c : Nat) (f : Nat → Nat → Rat) : Prop := ∃ dx t, H a = some (.ins CM dx (mfl t)) ∧ Tb (RC C) H t r c f
theorem MtAt.same {C CM : Addr} {H H' : Hp} {a : Addr} {r c : Nat} {f : Nat → Nat → Rat} (h : MtAt C CM H a r c f) (s : Same H H') : MtAt C CM H' a r c f := by
  obtain ⟨dx, t, e, h⟩ := h
  exact ⟨dx, t, s _ _ e, h.same (rc_mono C) s⟩
theorem MtAt.hid {C CM : Addr} {H : Hp} {a D : Addr} {r c : Nat} {f : Nat → Nat → Rat} {l : List V} (h : MtAt C CM H a r c f) (hD : H D = some (.lst l)) : MtAt C CM (hid D H) a r c f := by
  obtain ⟨dx, t, e, h⟩ := h
  exact ⟨dx, t, by rw [hid_ne (ne_of e hD (by intro z; cases z))]; exact e, h.hid (rc_mono C) hD⟩
theorem MtAt.congr {C CM : Addr} {H : Hp} {a : Addr} {r c : Nat} {f f' : Nat → Nat → Rat} (h : MtAt C CM H a r c f) (e : ∀ i j, i < r → j < c → f i j = f' i j) : MtAt C CM H a r c f' := by
  obtain ⟨dx, t, e', h⟩ := h
  exact ⟨dx, t, e', h.congr e⟩
theorem MtAt.tyx {K : PySem.W.Frag} {mg : Str → Option Value} {C CM : Addr} {H : Hp} {a : Addr} {r c : Nat} {f : Nat → Nat → Rat} (T : TxM K mg C CM) (h : MtAt C CM H a r c f) : TyX K H (.ref a) (.ref CM) :=
  h.elim fun dx ⟨t, e, _⟩ => .base (.ins e T.clM T.caM T.cn T.ct T.cmM)
theorem mfl_at (t : Addr) : (mfl t).lookup ("_entries" : Str) = some (.ref t) := by simp [mfl, List.lookup]
theorem ifF {b : Bool} {A B : Prop} (e : b = false) (h : B) : if b = true then A else B := by rw [e]; exact iteF h
theorem ifT {b : Bool} {A B : Prop} (e : b = true) (h : A) : if b = true then A else B := by rw [e]; exact iteT h
section
variable {P : Program} {w : World} {K : PySem.W.Frag} {mg : Str → Option Value} {base : Heap} {C CM : Addr}
/-! ### is_table, of a table -/
def Shape (H : Hp) (t : Addr) (r c : Nat) : Prop := ∃ rs : List V, H t = some (.tup rs) ∧ rs.length = r ∧ ∀ (i : Nat) (x : V), rs[i]? = some x → ∃ p xs, x = .ref p ∧ H p = some (.tup xs) ∧ xs.length = c
theorem Tb.shape {Q : CellP} {H : Hp} {t : Addr} {r c : Nat} {f : Nat → Nat → Rat} (h : Tb Q H t r c f) : Shape H t r c := by
  obtain ⟨rs, ht, hl, hc⟩ := h
  refine ⟨rs, ht, hl, fun i x hx => ?_⟩
  obtain ⟨p, xs, e, hp, hl, _⟩ := hc i x hx
  exact ⟨p, xs, e, hp, hl⟩
def spIstab : Sp := fun vs H Q _ => ∃ (t : Addr) (r c : Nat), vs = [.ref t] ∧ Shape H t r c ∧ 0 < r ∧ r ≤ 1000 ∧ 0 < c ∧ ∀ H', Same H H' → Q (.bl true) H'
theorem sc_is_table : FnScope ["given", "row"] ["given"] (defScope s_is_table) := ⟨rfl, rfl, rfl, by decide +kernel, rfl, by decide +kernel, by decide +kernel⟩
theorem ok_istab {f : Addr} {fd : FuncData} (F : Fun K "is_table" "is_table" s_is_table f fd) (T : Blt mg) : FnOk P w K mg base CX0 2 f fd ["given"] spIstab := by
  refine F.ok sc_is_table (fun vs H Q E h => ?_) (fun cdv A outer s H vs Q E hr h => ?_)
  · obtain ⟨t, r, c, rfl, _⟩ := h
    rfl
  · obtain ⟨t, r, c, rfl, ⟨rs, ht, hl, hrow⟩, hr0, hr1, hc0, k⟩ := h
    refine ⟨_, (pss_cons (ps_if (pt_not (PW.pt (pw_and (pt_val (pe_callB (id := "isinstance") (call_isiK (K := K)) (by rfl) T.b_isinstance (by decide +kernel) (pa_cons (pv 0) (pa_cons (pe_bltn (v := V.ty "tuple") (u := Value.type "tuple") (by rfl) T.b_tuple (by decide +kernel) rfl) pa_nil)))) (pw_and1 (pt_cmpR op_ge (pe_callB (id := "len") (call_len_seqK (K := K)) (by rfl) T.b_len (by decide +kernel) (pa_cons (pv 0) pa_nil)) pe_int (nomark _)))))) (pss_one (ps_ret pe_bl))
  pss_nil)
  (pss_cons (ps_if (pt_not (pt_val (pe_callB (id := "all") (cr_allK (K := K) rfl) (by rfl) T.b_all (by decide +kernel) (pa_cons (pe_lcI (pe_lc (own := [("row", 1)]) rfl sc_is_table.nd (pi_tupK (K := K) (pv 0)) (blkOk_by (N := ["given", "row"]) (sc := (defScope s_is_table)) (by decide +kernel)) (fun _ _ _ _ _ => (pg_name (i := 1) sc_is_table.nd rfl (Or.inl rfl))) (fun _ _ _ _ _ => pts_nil) (fun _ _ _ _ _ => (pe_cut (pe_and (pe_callB (id := "isinstance") (call_isiK (K := K)) (by rfl) T.b_isinstance (by decide +kernel) (pa_cons (pv 1) (pa_cons (pe_bltn (v := V.ty "tuple") (u := Value.type "tuple") (by rfl) T.b_tuple (by decide +kernel) rfl) pa_nil))) (pe_one (pe_cmpR op_ge (pe_callB (id := "len") (call_len_seqK (K := K)) (by rfl) T.b_len (by decide +kernel) (pa_cons (pv 1) pa_nil)) pe_int (nomark _)))))))) pa_nil)))) (pss_one (ps_ret pe_bl))
  pss_nil)
  (pss_one (ps_ret (pe_callB (id := "all") (cr_allK (K := K) rfl) (by rfl) T.b_all (by decide +kernel) (pa_cons (pe_lcI (pe_lc (own := [("row", 1)]) rfl sc_is_table.nd (pi_tupK (K := K) (pv 0)) (blkOk_by (N := ["given", "row"]) (sc := (defScope s_is_table)) (by decide +kernel)) (fun _ _ _ _ _ => (pg_name (i := 1) sc_is_table.nd rfl (Or.inl rfl))) (fun _ _ _ _ _ => pts_nil) (fun _ _ _ _ _ => (pe_cut (pe_cmpR op_eq (pe_callB (id := "len") (call_len_seqK (K := K)) (by rfl) T.b_len (by decide +kernel) (pa_cons (pv 1) pa_nil)) (pe_callB (id := "len") (call_len_seqK (K := K)) (by rfl) T.b_len (by decide +kernel) (pa_cons (pe_ix (ix_tupK (K := K)) (pv 0) pe_int (fun _ _ => rfl)) pa_nil)) (nomark _)))))) pa_nil)))))), ?_⟩
    -- if not (isinstance(given, tuple) and len(given) >= 1)
    refine ⟨_, rfl, .ref t, _, _, _, _, rfl, .ty "tuple", .base (.tup ht), kit_ty (by decide +kernel), _, rfl, iteT ?_⟩
    refine ⟨_, rfl, t, rs, rfl, .inr (SqT.of ht), _, _, rfl, rfl, _, rfl, ?_⟩
    refine ifF (by simp; omega) ?_
    -- if not all([isinstance(row, tuple) and len(row) >= 1 for row in given])
    refine ⟨_, rfl, t, rfl, ⟨rs, SqT.of ht⟩, fun D hD => ?_⟩
    refine lc_same (walk_tup (K := K) (a := t) (xs := rs)) hD (by omega) (fun _ y _ => y = .bl true) (fun _ _ _ _ e _ => e) (fun H' s' => SqT.of (s' _ _ ht)) yat_same (fun i x H1 H1' hi s1 _ hy => ?_) fun ys H1 hl1 s1 e1 h1 => ?_
    · obtain ⟨rfl, hx⟩ := hy
      obtain ⟨p, xs, rfl, hp, hxl⟩ := hrow i x hx
      refine ⟨_, fun _ h => h, wipe_one, ?_⟩
      refine ⟨_, rfl, .ref p, _, _, _, _, rfl, .ty "tuple", .base (.tup (s1 _ _ hp)), kit_ty (by decide +kernel), _, rfl, iteT ?_⟩
      refine ⟨_, rfl, p, xs, rfl, .inr (SqT.of (s1 _ _ hp)), _, _, rfl, rfl, Same.refl _, fun _ => ?_⟩
      congr 1
      simp
      omega
    obtain ⟨bs, hb, ab⟩ := all_bl (K := K) e1 h1
    refine ⟨D, bs, rfl, hb, _, rfl, ifF (by rw [ab]; rfl) ?_⟩
    -- return all([len(row) == len(given[0]) for row in given])
    refine ⟨_, rfl, t, rfl, ⟨rs, SqT.of (s1 _ _ ht)⟩, fun D2 hD2 => ?_⟩
    refine lc_same (walk_tup (K := K) (a := t) (xs := rs)) hD2 (by omega) (fun _ y _ => y = .bl true) (fun _ _ _ _ e _ => e) (fun H' s' => SqT.of (s' _ _ (s1 _ _ ht))) yat_same (fun i x H2 H2' hi s2 _ hy => ?_) fun ys2 H2 hl2 s2 e2 h2 => ?_
    · obtain ⟨rfl, hx⟩ := hy
      obtain ⟨p, xs, rfl, hp, hxl⟩ := hrow i x hx
      have h0 : rs[0]? = some rs[0] := List.getElem?_eq_getElem (by omega)
      obtain ⟨p0, xs0, e0, hp0, hxl0⟩ := hrow 0 _ h0
      have s12 := s1.trans s2
      refine ⟨_, fun _ h => h, wipe_one, ?_⟩
      refine ⟨_, rfl, p, xs, rfl, .inr (SqT.of (s12 _ _ hp)), ?_⟩
      refine ⟨_, rfl, t, _, _, _, rfl, rfl, SqT.of (s12 _ _ ht), atI_nat h0, ?_⟩
      rw [e0]
      refine ⟨p0, xs0, rfl, .inr (SqT.of (s12 _ _ hp0)), rfl, Same.refl _, fun _ => ?_⟩
      rw [hxl, hxl0]
      simp
    obtain ⟨bs2, hb2, ab2⟩ := all_bl (K := K) e2 h2
    refine ⟨D2, bs2, rfl, hb2, ?_⟩
    rw [ab2]
    exact k H2 (s1.trans s2)
abbrev IstabC (P : Program) (w : World) (K : PySem.W.Frag) (mg : Str → Option Value) (base : Heap) : Prop := CalF P w K mg base 2 "is_table" spIstab []
/-! ### new tuples -/
theorem rw_new {Q : CellP} {G H : Hp} {T : Addr} {ys : List V} {c : Nat} {g : Nat → Rat} (m : Mono Q) (s : Same G H) (hT : H T = none) (hl : ys.length = c) (h : ∀ (j : Nat) (y : V), ys[j]? = some y → Q G y (g j)) : Rw Q (upd H T (.tup ys)) (.ref T) c g :=
  ⟨T, ys, rfl, upd_same, hl, fun j y hy => m.same (h j y hy) (MG.Same.new s hT)⟩
theorem tb_new {Q : CellP} {G H : Hp} {T : Addr} {ys : List V} {r c : Nat} {f : Nat → Nat → Rat} (m : Mono Q) (s : Same G H) (hT : H T = none) (hl : ys.length = r) (h : ∀ (i : Nat) (y : V), ys[i]? = some y → Rw Q G y c (f i)) : Tb Q (upd H T (.tup ys)) T r c f :=
  ⟨ys, upd_same, hl, fun i y hy => (h i y hy).same m (MG.Same.new s hT)⟩
theorem tb_upd {H : Hp} {a dx t : Addr} {r c : Nat} {f : Nat → Nat → Rat} {o : HO} (ha : H a = some (.ins CM dx [])) (h : Tb (RC C) H t r c f) : Tb (RC C) (upd H a o) t r c f := by
  obtain ⟨rs, ht, hl, hrow⟩ := h
  refine ⟨rs, by rw [upd_ne (ne_of ht ha (by intro z; cases z))]; exact ht, hl, fun i x hx => ?_⟩
  obtain ⟨p, xs, e, hp, hxl, hc⟩ := hrow i x hx
  refine ⟨p, xs, e, by rw [upd_ne (ne_of hp ha (by intro z; cases z))]; exact hp, hxl, fun j y hy => ?_⟩
  obtain ⟨b, e', d, hb⟩ := hc j y hy
  exact ⟨b, e', d, by rw [upd_ne (ne_of hb ha (by intro z; unfold flds at z; cases z))]; exact hb⟩
/-! ### Matrix(entries), of a table of numbers -/
def spMInit (C CM : Addr) : Sp := fun vs H Q _ => ∃ (a dx t : Addr) (r c : Nat) (f : Nat → Nat → Rat), vs = [.ref a, .ref t] ∧ H a = some (.ins CM dx []) ∧ Tb (NumAt C) H t r c f ∧ (0 < r ∧ r ≤ 1000 ∧ 0 < c ∧ c ≤ 1000) ∧
  ∀ H' t', H' a = some (.ins CM dx (mfl t')) → Tb (RC C) H' t' r c f → (∀ b o, H b = some o → b ≠ a → H' b = some o) → Q .non H'
theorem sc_Matrix___init__ : FnScope ["self", "entries", "row", "number"] ["self", "entries"] (defScope s_Matrix___init__) := ⟨rfl, rfl, rfl, by decide +kernel, rfl, by decide +kernel, by decide +kernel⟩
theorem ok_minit {f : Addr} {fd : FuncData} (F : Fun K "__init__" "Matrix.__init__" s_Matrix___init__ f fd) (T : TxM K mg C CM) (c_istab : IstabC P w K mg base) (c_number : NumberC P w K mg base C) (c_to : ToC P w K mg base C) : FnOk P w K mg base CX0 8 f fd ["self", "entries"] (spMInit C CM) := by
  refine F.ok sc_Matrix___init__ (fun vs H Q E h => ?_) (fun cdv A outer s H vs Q E hr h => ?_)
  · obtain ⟨a, dx, t, r, c, f, rfl, _⟩ := h
    rfl
  · obtain ⟨a, dx, t, r, c, f, rfl, ha, ht, ⟨hr0, hr1, hc0, hc1⟩, k⟩ := h
    refine ⟨_, (pss_cons (ps_if (pt_not (PW.pt (pw_and (pt_val (pe_cf c_istab hr (by decide) rfl (pa_cons (pv 1) pa_nil))) (pw_and1 (pt_val (pe_callB (id := "all") (cr_allK (K := K) rfl) (by rfl) T.b_all (by decide +kernel) (pa_cons (pe_lc2I (pe_lc2 (own := [("row", 2), ("number", 3)]) (vs1 := [3]) rfl sc_Matrix___init__.nd (pi_tupK (K := K) (pv 1)) (blkOk_by (N := ["self", "entries", "row", "number"]) (sc := (defScope s_Matrix___init__)) (by decide +kernel)) (by decide) (fun _ _ _ _ _ => (pg_name (i := 2) sc_Matrix___init__.nd rfl (Or.inl rfl))) (fun _ _ _ _ _ => pts_nil) (fun _ _ _ _ _ => (pi_tupK (K := K) (pv 2))) (fun _ _ _ _ _ => (pg_name (i := 3) sc_Matrix___init__.nd rfl (Or.inl rfl))) (fun _ _ _ _ _ => pts_nil) (fun _ _ _ _ _ => (pe_cut (pe_cf c_number hr (by decide) rfl (pa_cons (pv 3) pa_nil)))))) pa_nil))))))) (pss_one ps_never)
  pss_nil)
  (pss_one (ps_fld (pv 0) (pe_callTy (call_tuple_ofK (K := K)) (by rfl) T.b_tuple (by decide +kernel) (pa_cons (pe_lcI (pe_lc (own := [("row", 2)]) rfl sc_Matrix___init__.nd (pi_tupK (K := K) (pv 1)) (blkOk_by (N := ["self", "entries", "row", "number"]) (sc := (defScope s_Matrix___init__)) (by decide +kernel)) (fun _ _ _ _ _ => (pg_name (i := 2) sc_Matrix___init__.nd rfl (Or.inl rfl))) (fun _ _ _ _ _ => pts_nil) (fun _ _ _ _ _ => (pe_cut (pe_callTy (call_tuple_ofK (K := K)) (by rfl) T.b_tuple (by decide +kernel) (pa_cons (pe_lcI (pe_lc (own := [("number", 3)]) rfl sc_Matrix___init__.nd (pi_tupK (K := K) (pv 2)) (blkOk_by (N := ["self", "entries", "row", "number"]) (sc := ({ kind := .function, names := [(PySem.Str.ofString ".0", .local), (PySem.Str.ofString "row", .local), (PySem.Str.ofString "tuple", .globalImplicit)], isGenerator := false, isCoroutine := false } : Scope)) (by decide +kernel)) (fun _ _ _ _ _ => (pg_name (i := 3) sc_Matrix___init__.nd rfl (Or.inl rfl))) (fun _ _ _ _ _ => pts_nil) (fun _ _ _ _ _ => (pe_cut (pe_cf c_to hr (by decide) rfl (pa_cons (pv 3) pa_nil)))))) pa_nil)))))) pa_nil)) rfl))), ?_⟩
    -- if not (is_table(entries) and all([is_number(number) for row in entries for number in row]))
    refine ⟨_, rfl, t, r, c, rfl, ht.shape, hr0, hr1, hc0, fun H1 s1 => ⟨_, rfl, iteT ?_⟩⟩
    obtain ⟨rs, et, hl, hrow⟩ := ht.same (num_mono C) s1
    refine ⟨_, rfl, t, rfl, ⟨rs, SqT.of et⟩, fun D hD => ?_⟩
    refine lc2_tup (K := K) (R := fun v => v = .bl true) et hD (by decide) (show 2 < 4 by decide) (show 3 < 4 by decide) (fun x hx => ?_) (by omega) (fun i j p xs y H2 hi hp hj s2 => ?_) fun ys H2 s2 e2 h2 => ?_
    · obtain ⟨i, hi⟩ := List.getElem?_of_mem hx
      obtain ⟨p, xs, e, hp, hxl, _⟩ := hrow i x hi
      exact ⟨p, xs, e, hp, by omega⟩
    · obtain ⟨p', xs', e, hp', hxl, hc⟩ := hrow i _ hi
      cases e
      have exs : xs = xs' := by
        have := hp.symm.trans hp'
        cases this
        rfl
      subst exs
      have hn := (hc j y hj).same s2
      obtain ⟨ty, b1, b2, b3, h1, h2, h3, h4, h5⟩ := hn.is T.toTxR
      refine ⟨_, rfl, y, ty, b1, b2, b3, rfl, h1, h2, h3, h4, Same.refl _, ?_⟩
      rw [h5]
    obtain ⟨bs, hb, ab⟩ := all_bl (K := K) e2 h2
    refine ⟨D, bs, rfl, hb, _, rfl, ifF (by rw [ab]; rfl) ?_⟩
    -- self._entries = tuple([tuple([to_ratio(number) for number in row]) for row in entries])
    have s12 := s1.trans s2
    refine ⟨_, rfl, t, rfl, ⟨rs, SqT.of (s2 _ _ et)⟩, fun D3 hD3 => ?_⟩
    refine lc_same (walk_tup (K := K) (a := t) (xs := rs)) hD3 (by omega) (fun i y G => Rw (RC C) G y c (f i)) (fun i y G G' h s => h.same (rc_mono C) s) (fun G s => SqT.of (s _ _ (s2 _ _ et))) yat_same (fun i x H3 H3' hi s3 _ hy => ?_) fun ys3 H3 hl3 s3 e3 h3 => ?_
    · obtain ⟨rfl, hx⟩ := hy
      obtain ⟨p, xs, rfl, hp, hxl, hc⟩ := (hrow i x hx).same (num_mono C) (s2.trans s3)
      refine ⟨_, fun _ h => h, wipe_one, ?_⟩
      refine ⟨_, rfl, p, rfl, ⟨xs, SqT.of hp⟩, fun D4 hD4 => ?_⟩
      refine lc_same (walk_tup (K := K) (a := p) (xs := xs)) hD4 (by omega) (fun j y G => RC C G y (f i j)) (fun j y G G' h s => (rc_mono C).same h s) (fun G s => SqT.of (s _ _ hp)) yat_same (fun j y H4 H4' hj s4 _ hy => ?_) fun ys4 H4 hl4 s4 e4 h4 => ?_
      · obtain ⟨rfl, hy⟩ := hy
        refine ⟨_, fun _ h => h, wipe_one, ?_⟩
        exact ⟨_, rfl, y, f i j, rfl, (hc j y hy).same s4, fun r' H5 s5 h5 => ⟨s5, fun ⟨l, hl⟩ => (rc_mono C).hid ⟨r', rfl, h5⟩ hl⟩⟩
      · refine ⟨D4, ys4, rfl, .inl ⟨SqL.of e4, fun T2 hT2 => ⟨MG.Same.new s4 hT2, fun ⟨l, hl⟩ => ?_⟩⟩⟩
        exact (rw_new (rc_mono C) (hid_same D4 H4) hT2 (hl4.trans hxl) h4).hid (rc_mono C) hl
    refine ⟨D3, ys3, rfl, .inl ⟨SqL.of e3, fun T3 hT3 => ?_⟩⟩
    have s123 := s12.trans s3
    have s4 : Same H (upd H3 T3 (.tup ys3)) := MG.Same.new s123 hT3
    refine ⟨_, rfl, a, CM, dx, _, rfl, s4 _ _ ha, T.clM, T.nE, (by show 0 < 1000; decide), ?_⟩
    have tb := tb_new (rc_mono C) (hid_same D3 H3) hT3 (hl3.trans hl) h3
    have na : ∀ {b : Addr} {o : HO}, (upd H3 T3 (.tup ys3)) b = some o → (∀ dx fs, o ≠ .ins CM dx fs) → b ≠ a := fun {b o} e z e' => by
      rw [e', s4 _ _ ha] at e
      exact z _ _ (Option.some.inj e).symm
    refine k _ T3 upd_same ?_ fun b o hb hne => ?_
    · exact tb_upd (s4 _ _ ha) tb
    · rw [upd_ne hne]
      exact s4 _ _ hb
abbrev MatC (P : Program) (w : World) (K : PySem.W.Frag) (mg : Str → Option Value) (base : Heap) (C CM : Addr) : Prop := MakF P w K mg base 8 "Matrix" CM (spMInit C CM) []
end
end Lw

namespace Lw
open PySem PySem.Spec PyProof.Rows L2 MG
section
variable {P : Program} {w : World} {K : PySem.W.Frag} {mg : Str → Option Value} {base : Heap} {C CM CX : Addr}
/-- sizes that occur -/
def Sz (r c : Nat) : Prop := 0 < r ∧ r ≤ 1000 ∧ 0 < c ∧ c ≤ 1000
/-- the reading of Matrix(t) -/
theorem make_mat {H : Hp} {t : Addr} {r c : Nat} {f : Nat → Nat → Rat} {Q : VK} (ht : Tb (RC C) H t r c f) (z : Sz r c) (k : ∀ m H', H m = none → Same H H' → MtAt C CM H' m r c f → Q (.ref m) H') :
    ∀ x dx, H x = none → H dx = none → dx ≠ x → spMInit C CM [.ref x, .ref t] (upd (upd H dx (.own x)) x (.ins CM dx [])) (fun v H2 => v = .non ∧ Q (.ref x) H2) E0 := by
  intro x dx hx hdx hne
  have s1 : Same H (upd (upd H dx (.own x)) x (.ins CM dx [])) := MG.Same.new (MG.Same.new (Same.refl H) hdx) (by rw [upd_ne (fun e => hne e.symm)]; exact hx)
  refine ⟨x, dx, t, r, c, f, rfl, upd_same, (ht.same (rc_mono C) s1).imp RC.num, z, fun H' t' e tb kp => ⟨rfl, k x H' hx (fun b o hb => ?_) ⟨dx, t', e, tb⟩⟩⟩
  exact kp b o (s1 _ _ hb) (ne_of_none hb hx)
/-! ### properties -/
def spEntries (CM : Addr) : Sp := fun vs H Q _ => ∃ (a dx t : Addr), vs = [.ref a] ∧ H a = some (.ins CM dx (mfl t)) ∧ Q (.ref t) H
theorem sc_Matrix_entries : FnScope ["self"] ["self"] (defScope s_Matrix_entries) := ⟨rfl, rfl, rfl, by decide +kernel, rfl, by decide +kernel, by decide +kernel⟩
theorem ok_entries {f : Addr} {fd : FuncData} (F : Fun K "entries" "Matrix.entries" s_Matrix_entries f fd) (T : TxM K mg C CM) : FnOk P w K mg base CX0 2 f fd ["self"] (spEntries CM) := by
  refine F.ok sc_Matrix_entries (fun vs H Q E h => ?_) (fun cdv A outer s H vs Q E hr h => ?_)
  · obtain ⟨a, dx, t, rfl, _⟩ := h
    rfl
  · obtain ⟨a, dx, t, rfl, ha, k⟩ := h
    exact ⟨_, (pss_one (ps_ret (pe_fldK (K := K) (pv 0) rfl))), _, rfl, a, CM, dx, _, _, rfl, ha, T.clM, T.nE, mfl_at t, k⟩
def spRows (C CM : Addr) : Sp := fun vs H Q _ => ∃ (a : Addr) (r c : Nat) (f : Nat → Nat → Rat), vs = [.ref a] ∧ MtAt C CM H a r c f ∧ Q (.int r) H
theorem sc_Matrix_rows : FnScope ["self"] ["self"] (defScope s_Matrix_rows) := ⟨rfl, rfl, rfl, by decide +kernel, rfl, by decide +kernel, by decide +kernel⟩
theorem ok_rows {f : Addr} {fd : FuncData} (F : Fun K "rows" "Matrix.rows" s_Matrix_rows f fd) (T : TxM K mg C CM) : FnOk P w K mg base CX0 2 f fd ["self"] (spRows C CM) := by
  refine F.ok sc_Matrix_rows (fun vs H Q E h => ?_) (fun cdv A outer s H vs Q E hr h => ?_)
  · obtain ⟨a, r, c, g, rfl, _⟩ := h
    rfl
  · obtain ⟨a, r, c, g, rfl, ⟨dx, t, ha, rs, ht, hl, hrow⟩, k⟩ := h
    refine ⟨_, (pss_one (ps_ret (pe_callB (id := "len") (call_len_seqK (K := K)) (by rfl) T.b_len (by decide +kernel) (pa_cons (pe_fldK (K := K) (pv 0) rfl) pa_nil)))), _, rfl, a, CM, dx, _, _, rfl, ha, T.clM, T.nE, mfl_at t, t, rs, rfl, .inr (SqT.of ht), ?_⟩
    rw [hl]
    exact k
def spColumns (C CM : Addr) : Sp := fun vs H Q _ => ∃ (a : Addr) (r c : Nat) (f : Nat → Nat → Rat), vs = [.ref a] ∧ MtAt C CM H a r c f ∧ 0 < r ∧ Q (.int c) H
theorem sc_Matrix_columns : FnScope ["self"] ["self"] (defScope s_Matrix_columns) := ⟨rfl, rfl, rfl, by decide +kernel, rfl, by decide +kernel, by decide +kernel⟩
theorem ok_columns {f : Addr} {fd : FuncData} (F : Fun K "columns" "Matrix.columns" s_Matrix_columns f fd) (T : TxM K mg C CM) : FnOk P w K mg base CX0 2 f fd ["self"] (spColumns C CM) := by
  refine F.ok sc_Matrix_columns (fun vs H Q E h => ?_) (fun cdv A outer s H vs Q E hr h => ?_)
  · obtain ⟨a, r, c, g, rfl, _⟩ := h
    rfl
  · obtain ⟨a, r, c, g, rfl, ⟨dx, t, ha, rs, ht, hl, hrow⟩, hr0, k⟩ := h
    have h0 : rs[0]? = some rs[0] := List.getElem?_eq_getElem (by omega)
    obtain ⟨p, xs, e, hp, hxl, _⟩ := hrow 0 _ h0
    refine ⟨_, (pss_one (ps_ret (pe_callB (id := "len") (call_len_seqK (K := K)) (by rfl) T.b_len (by decide +kernel) (pa_cons (pe_ix (ix_tupK (K := K)) (pe_fldK (K := K) (pv 0) rfl) pe_int (fun _ _ => rfl)) pa_nil)))), _, rfl, a, CM, dx, _, _, rfl, ha, T.clM, T.nE, mfl_at t, t, _, _, _, rfl, rfl, SqT.of ht, atI_nat h0, ?_⟩
    rw [e]
    refine ⟨p, xs, rfl, .inr (SqT.of hp), ?_⟩
    rw [hxl]
    exact k
abbrev EntriesC (P : Program) (w : World) (K : PySem.W.Frag) (mg : Str → Option Value) (base : Heap) (CM : Addr) : Prop := PropF P w K mg base 2 CM "entries" (spEntries CM)
abbrev RowsC (P : Program) (w : World) (K : PySem.W.Frag) (mg : Str → Option Value) (base : Heap) (C CM : Addr) : Prop := PropF P w K mg base 2 CM "rows" (spRows C CM)
abbrev ColumnsC (P : Program) (w : World) (K : PySem.W.Frag) (mg : Str → Option Value) (base : Heap) (C CM : Addr) : Prop := PropF P w K mg base 2 CM "columns" (spColumns C CM)
def spTrans (C CM : Addr) : Sp := fun vs H Q _ => ∃ (a : Addr) (r c : Nat) (f : Nat → Nat → Rat), vs = [.ref a] ∧ MtAt C CM H a r c f ∧ Sz r c ∧ ∀ m H', Same H H' → MtAt C CM H' m c r (fun i j => f j i) → Q (.ref m) H'
theorem sc_Matrix_transposed : FnScope ["self", "index", "row"] ["self"] (defScope s_Matrix_transposed) := ⟨rfl, rfl, rfl, by decide +kernel, rfl, by decide +kernel, by decide +kernel⟩
theorem ok_trans {f : Addr} {fd : FuncData} (F : Fun K "transposed" "Matrix.transposed" s_Matrix_transposed f fd) (T : TxM K mg C CM) (m_mat : MatC P w K mg base C CM) (pm_columns : ColumnsC P w K mg base C CM) : FnOk P w K mg base CX0 10 f fd ["self"] (spTrans C CM) := by
  refine F.ok sc_Matrix_transposed (fun vs H Q E h => ?_) (fun cdv A outer s H vs Q E hr h => ?_)
  · obtain ⟨a, r, c, g, rfl, _⟩ := h
    rfl
  · obtain ⟨a, r, c, g, rfl, hM, z, k⟩ := h
    obtain ⟨dx, t, ha, hT⟩ := id hM
    obtain ⟨rs, ht, hl, hrow⟩ := id hT
    obtain ⟨z1, z2, z3, z4⟩ := id z
    refine ⟨_, (pss_one (ps_ret (pe_mkf m_mat hr (by decide) rfl (pa_cons (pe_callTy (call_tuple_ofK (K := K)) (by rfl) T.b_tuple (by decide +kernel) (pa_cons (pe_lcI (pe_lc (own := [("index", 1)]) rfl sc_Matrix_transposed.nd (pi_range1 (by rfl) T.b_range (pa_cons (pe_pf pm_columns T.clM hr (by decide) (pv 0) rfl) pa_nil)) (blkOk_by (N := ["self", "index", "row"]) (sc := (defScope s_Matrix_transposed)) (by decide +kernel)) (fun _ _ _ _ _ => (pg_name (i := 1) sc_Matrix_transposed.nd rfl (Or.inr rfl))) (fun _ _ _ _ _ => pts_nil) (fun _ _ _ _ _ => (pe_cut (pe_callTy (call_tuple_ofK (K := K)) (by rfl) T.b_tuple (by decide +kernel) (pa_cons (pe_lcI (pe_lc (own := [("row", 2)]) rfl sc_Matrix_transposed.nd (pi_tupK (K := K) (pe_fldK (K := K) (pv 0) rfl)) (blkOk_by (N := ["self", "index", "row"]) (sc := ({ kind := .function, names := [(PySem.Str.ofString ".0", .local), (PySem.Str.ofString "index", .cell), (PySem.Str.ofString "tuple", .globalImplicit), (PySem.Str.ofString "self", .cell)], isGenerator := false, isCoroutine := false } : Scope)) (by decide +kernel)) (fun _ _ _ _ _ => (pg_name (i := 2) sc_Matrix_transposed.nd rfl (Or.inl rfl))) (fun _ _ _ _ _ => pts_nil) (fun _ _ _ _ _ => (pe_cut (pe_ix (ix_tupK (K := K)) (pv 2) (pv 1) (fun _ _ => rfl)))))) pa_nil)))))) pa_nil)) pa_nil)))), ?_⟩
    refine ⟨_, rfl, a, dx, _, rfl, ha, a, r, c, g, rfl, hM, z1, c, rfl, by omega, by omega, fun D hD => ?_⟩
    refine lc_same (walk_range (lo := 0) (n := c)) hD (by omega) (fun i y G => Rw (RC C) G y r (fun j => g j i)) (fun i y G G' h s => h.same (rc_mono C) s) (fun G s => trivial) yfn_same (fun i x H1 H1' hi s1 _ hy => ?_) fun ys H1 hl1 s1 e1 h1 => ?_
    · obtain ⟨rfl, rfl⟩ := hy
      refine ⟨_, fun _ h => h, wipe_one, ?_⟩
      obtain ⟨rs2, ht2, hl2, hrow2⟩ := hT.same (rc_mono C) s1
      refine ⟨_, rfl, a, CM, dx, _, _, rfl, s1 _ _ ha, T.clM, T.nE, mfl_at t, t, rfl, ⟨rs2, SqT.of ht2⟩, fun D2 hD2 => ?_⟩
      refine lc_same (walk_tup (K := K) (a := t) (xs := rs2)) hD2 (by omega) (fun j y G => RC C G y (g j i)) (fun j y G G' h s => (rc_mono C).same h s) (fun G s => SqT.of (s _ _ ht2)) yat_same (fun j x H2 H2' hj s2 _ hy => ?_) fun ys2 H2 hl3 s2 e2 h2 => ?_
      · obtain ⟨rfl, hx⟩ := hy
        refine ⟨_, fun _ h => h, wipe_one, ?_⟩
        obtain ⟨p, xs, rfl, hp, hxl, hc⟩ := (hrow2 j x hx).same (rc_mono C) s2
        have hx2 : xs[i]? = some xs[i] := List.getElem?_eq_getElem (by omega)
        obtain ⟨b, e', hb⟩ := hc i _ hx2
        have ei : V.int (0 + (i : Int)) = V.int (i : Int) := by rw [Int.zero_add]
        refine ⟨_, rfl, _, rfl, p, _, _, _, rfl, ei, SqT.of hp, atI_nat hx2, Same.refl _, fun ⟨l, hl⟩ => ?_⟩
        rw [e']
        exact (rc_mono C).hid ⟨b, rfl, hb⟩ hl
      · refine ⟨D2, ys2, rfl, .inl ⟨SqL.of e2, fun T2 hT2 => ⟨MG.Same.new s2 hT2, fun ⟨l, hl⟩ => ?_⟩⟩⟩
        exact (rw_new (rc_mono C) (hid_same D2 H2) hT2 (hl3.trans hl2) h2).hid (rc_mono C) hl
    refine ⟨D, ys, rfl, .inl ⟨SqL.of e1, fun T3 hT3 => ?_⟩⟩
    have s4 : Same H (upd H1 T3 (.tup ys)) := MG.Same.new s1 hT3
    exact make_mat (tb_new (rc_mono C) (hid_same D H1) hT3 hl1 h1) ⟨z3, z4, z1, z2⟩ fun m H' _ s h => k m H' (s4.trans s) h
abbrev TransC (P : Program) (w : World) (K : PySem.W.Frag) (mg : Str → Option Value) (base : Heap) (C CM : Addr) : Prop := PropF P w K mg base 10 CM "transposed" (spTrans C CM)
/-! ### Mismatch -/
theorem sc_Mismatch___init__ : FnScope ["self", "first", "second"] ["self", "first", "second"] (defScope s_Mismatch___init__) := ⟨rfl, rfl, rfl, by decide +kernel, rfl, by decide +kernel, by decide +kernel⟩
theorem ok_xm {f : Addr} {fd : FuncData} (F : Fun K "__init__" "Mismatch.__init__" s_Mismatch___init__ f fd) : FnOk P w K mg base CX0 2 f fd ["self", "first", "second"] (spXi2 K CX "first" "second") := by
  refine F.ok sc_Mismatch___init__ (fun vs H Q E h => ?_) (fun cdv A outer s H vs Q E hr h => ?_)
  · obtain ⟨a, y, z, rfl, _⟩ := h
    rfl
  · obtain ⟨a, y, z, rfl, T, no1, no2, ha, k⟩ := h
    refine ⟨_, (pss_cons (ps_osE (pv 0) (pv 1))
  (pss_one (ps_osE (pv 0) (pv 2)))), ?_⟩
    refine ⟨_, rfl, _, rfl, a, CX, rfl, T, no1, .inl ⟨ha, fun dx n ne => ?_⟩⟩
    refine ⟨_, rfl, _, rfl, a, CX, rfl, T, no2, .inr ⟨dx, _, upd_same, by rw [upd_ne ne, upd_same], by show 1 ≤ 900; decide, ?_⟩⟩
    have e0 : upd (upd (upd H dx (exd dx [("first", y)])) a (exo a CX (some dx))) dx (exd dx [("second", z), ("first", y)]) = upd (upd H dx (exd dx [("second", z), ("first", y)])) a (exo a CX (some dx)) := by
      funext b
      by_cases hb : b = dx
      · subst hb
        rw [upd_same, upd_ne ne, upd_same]
      · rw [upd_ne hb]
        by_cases hb2 : b = a
        · subst hb2
          rw [upd_same, upd_same]
        · rw [upd_ne hb2, upd_ne hb2, upd_ne hb, upd_ne hb]
    show Q .non _
    rw [e0]
    exact k dx n ne
abbrev XmC (P : Program) (w : World) (K : PySem.W.Frag) (mg : Str → Option Value) (base : Heap) (CX : Addr) : Prop := ExcF2 P w K mg base 2 "Mismatch" CX "first" "second"
/-- Mismatch(x, y) is raised -/
def Rsd2 (CX : Addr) (H : Hp) (x y : V) (E : XK) : Prop := ∀ d H', Same H H' → H d = none → H' d = some (.xd [("second", y), ("first", x)]) → E (.ref CX) (some d) H'
/-- Mismatch of two pairs -/
def RsdP (CX : Addr) (H : Hp) (r c r2 c2 : Nat) (E : XK) : Prop := ∀ H' t1 t2, Same H H' → H' t1 = some (.tup [.int r, .int c]) → H' t2 = some (.tup [.int r2, .int c2]) → Rsd2 CX H' (.ref t1) (.ref t2) E
theorem RsdP.same {H H' : Hp} {r c r2 c2 : Nat} {E : XK} (h : RsdP CX H r c r2 c2 E) (s : Same H H') : RsdP CX H' r c r2 c2 E := fun H2 t1 t2 s2 => h H2 t1 t2 (s.trans s2)
def spChk (C CM CX : Addr) : Sp := fun vs H Q E => ∃ (a b : Addr) (r c r2 c2 : Nat) (f g : Nat → Nat → Rat), vs = [.ref a, .ref b] ∧ MtAt C CM H a r c f ∧ MtAt C CM H b r2 c2 g ∧ 0 < r ∧ 0 < r2 ∧
  (r = r2 ∧ c = c2 → ∀ H', Same H H' → Q .non H') ∧ (¬ (r = r2 ∧ c = c2) → RsdP CX H r c r2 c2 E)
theorem eqv_ints (a b c d : Nat) : PyData.eqv (.tuple [.int a, .int b]) (.tuple [.int c, .int d]) = decide (a = c ∧ b = d) := by
  simp only [PyData.eqv, PyData.eqvAll, Bool.and_true]
  by_cases h1 : a = c <;> by_cases h2 : b = d <;> simp [h1, h2] <;> omega
theorem sc_Matrix__check_equal_sizes : FnScope ["self", "other"] ["self", "other"] (defScope s_Matrix__check_equal_sizes) := ⟨rfl, rfl, rfl, by decide +kernel, rfl, by decide +kernel, by decide +kernel⟩
theorem ok_chk {f : Addr} {fd : FuncData} (F : Fun K "_check_equal_sizes" "Matrix._check_equal_sizes" s_Matrix__check_equal_sizes f fd) (T : TxM K mg C CM) (x_mis : XmC P w K mg base CX) (pm_rows : RowsC P w K mg base C CM) (pm_columns : ColumnsC P w K mg base C CM) : FnOk P w K mg base (L2N.CX P w) 6 f fd ["self", "other"] (spChk C CM CX) := by
  refine fun_okN F sc_Matrix__check_equal_sizes (fun vs H Q E h => ?_) (fun cdv A outer s H vs Q E hr h => ?_)
  · obtain ⟨a, b, r, c, r2, c2, f, g, rfl, _⟩ := h
    rfl
  · obtain ⟨a, b, r, c, r2, c2, f, g, rfl, hA, hB, hr0, hr20, k1, k2⟩ := h
    have hu64 := hr.units
    refine ⟨_, (pss_one (ps_if (pt_cmpR (op_neD hu64) (pe_tup (pa_cons (pe_pf pm_rows T.clM hr (by decide) (pv 0) rfl) (pa_cons (pe_pf pm_columns T.clM hr (by decide) (pv 0) rfl) pa_nil))) (pe_tup (pa_cons (pe_pf pm_rows T.clM hr (by decide) (pv 1) rfl) (pa_cons (pe_pf pm_columns T.clM hr (by decide) (pv 1) rfl) pa_nil))) (nomark _)) (pss_one (ps_raise2 x_mis hr (by decide) rfl (L2N.takes_of rfl rfl rfl rfl) rfl (pa_cons (pe_tup (pa_cons (pe_pf pm_rows T.clM hr (by decide) (pv 0) rfl) (pa_cons (pe_pf pm_columns T.clM hr (by decide) (pv 0) rfl) pa_nil))) (pa_cons (pe_tup (pa_cons (pe_pf pm_rows T.clM hr (by decide) (pv 1) rfl) (pa_cons (pe_pf pm_columns T.clM hr (by decide) (pv 1) rfl) pa_nil))) pa_nil))))
  pss_nil)), ?_⟩
    obtain ⟨dx, t, ea, _⟩ := id hA
    obtain ⟨dy, u, eb, _⟩ := id hB
    have la : ∀ {H' : Hp} {Q : VK}, Same H H' → ((∃ p, Q (.ref p) (upd H' p (.tup [.int r, .int c]))) → True) := fun _ _ => trivial
    -- if (self.rows, self.columns) != (other.rows, other.columns)
    refine ⟨_, rfl, a, dx, _, rfl, ea, a, r, c, f, rfl, hA, _, rfl, a, dx, _, rfl, ea, a, r, c, f, rfl, hA, hr0, by show 2 ≤ sizeLine; decide, fun p hp => ?_⟩
    have s1 : Same H (upd H p (.tup [.int r, .int c])) := MG.Same.new (Same.refl H) hp
    refine ⟨_, rfl, b, dy, _, rfl, s1 _ _ eb, b, r2, c2, g, rfl, hB.same s1, _, rfl, b, dy, _, rfl, s1 _ _ eb, b, r2, c2, g, rfl, hB.same s1, hr20, by show 2 ≤ sizeLine; decide, fun p2 hp2 => ?_⟩
    have s2 := MG.Same.new (o := .tup [.int r2, .int c2]) s1 hp2
    have e1 := (MG.Same.new (o := .tup [.int r2, .int c2]) (Same.refl _) hp2) _ _ (upd_same (H := H) (a := p) (o := .tup [.int r, .int c]))
    refine ⟨.tuple [.int r, .int c], .tuple [.int r2, .int c2], .tup (SqT.of e1) (.cons (.int _) (.cons (.int _) .nil)), .tup (SqT.of upd_same) (.cons (.int _) (.cons (.int _) .nil)), rfl, rfl, _, rfl, ?_⟩
    rw [eqv_ints]
    by_cases heq : r = r2 ∧ c = c2
    · rw [decide_eq_true heq]
      exact iteF (k1 heq _ s2)
    · rw [decide_eq_false heq]
      refine iteT ?_
      -- raise
      refine ⟨_, rfl, a, dx, _, rfl, s2 _ _ ea, a, r, c, f, rfl, hA.same s2, _, rfl, a, dx, _, rfl, s2 _ _ ea, a, r, c, f, rfl, hA.same s2, hr0, by show 2 ≤ sizeLine; decide, fun p3 hp3 => ?_⟩
      have s3 := MG.Same.new (o := .tup [.int r, .int c]) s2 hp3
      refine ⟨_, rfl, b, dy, _, rfl, s3 _ _ eb, b, r2, c2, g, rfl, hB.same s3, _, rfl, b, dy, _, rfl, s3 _ _ eb, b, r2, c2, g, rfl, hB.same s3, hr20, by show 2 ≤ sizeLine; decide, fun p4 hp4 => ?_⟩
      have s4 := MG.Same.new (o := .tup [.int r2, .int c2]) s3 hp4
      have e3 := (MG.Same.new (o := .tup [.int r2, .int c2]) (Same.refl _) hp4) _ _ (upd_same (H := upd (upd H p (.tup [.int r, .int c])) p2 (.tup [.int r2, .int c2])) (a := p3) (o := .tup [.int r, .int c]))
      exact ⟨_, _, rfl, fun d H' s5 n e => k2 heq _ p3 p4 s4 e3 upd_same d H' s5 n e⟩
abbrev ChkC (P : Program) (w : World) (K : PySem.W.Frag) (mg : Str → Option Value) (base : Heap) (C CM CX : Addr) : Prop := MetX P w K mg base 6 CM "_check_equal_sizes" (spChk C CM CX)
end
end Lw

namespace Lw
open PySem PySem.Spec PyProof.Rows L2 MG
section
variable {P : Program} {w : World} {K : PySem.W.Frag} {mg : Str → Option Value} {base : Heap} {C CM CX : Addr}
abbrev Bds (r c : Nat) (f : Nat → Nat → Rat) (k : Nat) : Prop := ∀ i j, i < r → j < c → Bd (f i j) k
def spMBin (C CM CX : Addr) (op : Rat → Rat → Rat) : Sp := fun vs H Q E => ∃ (a b : Addr) (r c r2 c2 : Nat) (f g : Nat → Nat → Rat), vs = [.ref a, .ref b] ∧ MtAt C CM H a r c f ∧ MtAt C CM H b r2 c2 g ∧ Sz r c ∧ Sz r2 c2 ∧ Bds r c f 100 ∧ Bds r2 c2 g 100 ∧
  (r = r2 ∧ c = c2 → ∀ m H', Same H H' → MtAt C CM H' m r c (fun i j => op (f i j) (g i j)) → Q (.ref m) H') ∧ (¬ (r = r2 ∧ c = c2) → RsdP CX H r c r2 c2 E)
/-! ### over one bottom -/
theorem over_div {p : Rat} {b : Nat} (hd : p.den ∣ b) (hb : 0 < b) : Rat.divInt (p.num * ((b : Int).fdiv (p.den : Int))) b = p := by
  obtain ⟨m, rfl⟩ := hd
  have hden : (p.den : Int) ≠ 0 := by have := p.den_nz; omega
  have e : ((p.den * m : Nat) : Int).fdiv (p.den : Int) = (m : Int) := by
    rw [Int.natCast_mul]
    exact Int.mul_fdiv_cancel_left _ hden
  have hm : (m : Int) ≠ 0 := by
    intro z
    have : m = 0 := by omega
    subst this
    simp at hb
  rw [e, Int.natCast_mul, Rat.divInt_mul_right hm, Rat.num_divInt_den]
/-- ints over one bottom b in a new tuple -/
structure Ovr (H : Hp) (T L : Addr) (n : Nat) (g : Nat → Rat) (z : Nat → Int) (b U : Nat) : Prop where
  at_ : H T = some (.tup [.ref L, .int b])
  li : H L = some (.lst (rowV n z))
  pos : 0 < b
  dvd : b ∣ U
  val : ∀ j, j < n → Rat.divInt (z j) b = g j
  bd : ∀ j, j < n → (z j).natAbs < 10 ^ 195
theorem Ovr.same {H H' : Hp} {T L : Addr} {n : Nat} {g : Nat → Rat} {z : Nat → Int} {b U : Nat} (h : Ovr H T L n g z b U) (s : Same H H') : Ovr H' T L n g z b U :=
  ⟨s _ _ h.at_, s _ _ h.li, h.pos, h.dvd, h.val, h.bd⟩
def spOob (C : Addr) (sq : List V → HO) : Sp := fun vs H Q _ => ∃ (a : Addr) (xs : List V) (n : Nat) (g : Nat → Rat) (U : Nat), vs = [.ref a] ∧ H a = some (sq xs) ∧ xs.length = n ∧ n ≤ 1000 ∧ (∀ (j : Nat) (y : V), xs[j]? = some y → RC C H y (g j)) ∧ 0 < U ∧ U < 10 ^ 90 ∧
  (∀ j, j < n → (g j).den ∣ U ∧ Bd (g j) 100) ∧ ∀ T L H' z b, Same H H' → H T = none → H L = none → Ovr H' T L n g z b U → Q (.ref T) H'
theorem sc_over_one_bottom : FnScope ["numbers", "bottom", "number"] ["numbers"] (defScope s_over_one_bottom) := ⟨rfl, rfl, rfl, by decide +kernel, rfl, by decide +kernel, by decide +kernel⟩
theorem ok_oobT {f : Addr} {fd : FuncData} (F : Fun K "over_one_bottom" "over_one_bottom" s_over_one_bottom f fd) (T : TxM K mg C CM) (p_top : PropF P w K mg base 2 C "top" (spTop C)) (p_bottom : PropF P w K mg base 2 C "bottom" (spBottom C)) : FnOk P w K mg base CX0 6 f fd ["numbers"] (spOob C .tup) := by
  refine F.ok sc_over_one_bottom (fun vs H Q E h => ?_) (fun cdv A outer s H vs Q E hr h => ?_)
  · obtain ⟨a, xs, n, g, U, rfl, _⟩ := h
    rfl
  · obtain ⟨a, xs, n, g, U, rfl, ha, hl, hn, hc, hU, hU2, hg, k⟩ := h
    refine ⟨_, (pss_cons (ps_set (i := 1) sc_over_one_bottom.nd rfl (Or.inr rfl) pe_int)
  (pss_cons (ps_for PassesOwn.never rfl (pi_tupK (K := K) (pv 0)) (pg_name (i := 2) sc_over_one_bottom.nd rfl (Or.inl rfl))
  (pss_one (ps_set (i := 1) sc_over_one_bottom.nd rfl (Or.inr rfl) (pe_callBfun cr_lcmB rfl T.g_lcm (pa_cons (pv 1) (pa_cons (pe_pf p_bottom T.cl hr (by decide) (pv 2) rfl) pa_nil))))))
  (pss_one (ps_ret (pe_tup (pa_cons (pe_lcI (pe_lc (own := [("number", 2)]) rfl sc_over_one_bottom.nd (pi_tupK (K := K) (pv 0)) (blkOk_by (N := ["numbers", "bottom", "number"]) (sc := (defScope s_over_one_bottom)) (by decide +kernel)) (fun _ _ _ _ _ => (pg_name (i := 2) sc_over_one_bottom.nd rfl (Or.inl rfl))) (fun _ _ _ _ _ => pts_nil) (fun _ _ _ _ _ => (pe_cut (pe_op op_mulW (pe_pf p_top T.cl hr (by decide) (pv 2) rfl) (pe_op op_fdivZ (pv 1) (pe_pf p_bottom T.cl hr (by decide) (pv 2) rfl))))))) (pa_cons (pv 1) pa_nil))))))), ?_⟩
    -- for number in numbers: bottom = lcm(bottom, number.bottom)
    refine ⟨_, rfl, a, rfl, ⟨xs, SqT.of ha⟩, ?_⟩
    refine for_tup (K := K) (a := a) (xs := xs) (fun i σ H' => H' = H ∧ ∃ (b : Nat) (v : Option V), σ = [some (.ref a), some (.int b), v] ∧ 0 < b ∧ b ∣ U ∧ ∀ j, j < i → (g j).den ∣ b) ⟨rfl, 1, none, rfl, by decide, Nat.one_dvd _, fun j hj => absurd hj (Nat.not_lt_zero j)⟩ ?_ ?_ ?_
    · rintro i σ H' _ ⟨rfl, _⟩
      exact SqT.of ha
    · rintro i x σ H' hx ⟨rfl, b, v, rfl, hb0, hbU, hb⟩
      have hi : i < n := by have := (List.getElem?_eq_some_iff.mp hx).1; omega
      obtain ⟨r, rfl, hR⟩ := hc i x hx
      obtain ⟨d1, e1⟩ := id hR
      obtain ⟨hdU, _⟩ := hg i hi
      have bU : b ≤ U := Nat.le_of_dvd hU hbU
      have dU : (g i).den ≤ U := Nat.le_of_dvd hU hdU
      have big : (10 : Nat) ^ 18 < 2 ^ 1400 := by decide
      refine ⟨_, rfl, _, rfl, r, d1, _, rfl, e1, r, g i, rfl, hR, (b : Int), ((g i).den : Int), rfl, by omega, by omega, ?_⟩
      refine ⟨rfl, Nat.lcm b (g i).den, some (.ref r), rfl, Nat.lcm_pos hb0 (g i).den_pos, Nat.lcm_dvd hbU hdU, fun j hj => ?_⟩
      by_cases e : j = i
      · subst e
        exact Nat.dvd_lcm_right _ _
      · exact Nat.dvd_trans (hb j (by omega)) (Nat.dvd_lcm_left _ _)
    rintro σ H' ⟨rfl, b, v, rfl, hb0, hbU, hb⟩
    have bU : b ≤ U := Nat.le_of_dvd hU hbU
    -- return [number.top * (bottom // number.bottom) for number in numbers], bottom
    refine ⟨_, rfl, a, rfl, ⟨xs, SqT.of ha⟩, fun D hD => ?_⟩
    refine lc_same (walk_tup (K := K) (a := a) (xs := xs)) hD (by omega) (fun j y _ => y = .int ((g j).num * ((b : Int).fdiv ((g j).den : Int)))) (fun _ _ _ _ h _ => h) (fun G s => SqT.of (s _ _ ha)) yat_same (fun i x H1 H1' hi s1 _ hy => ?_) fun ys H1 hl1 s1 e1 h1 => ?_
    · obtain ⟨rfl, hx⟩ := hy
      obtain ⟨r, rfl, hR⟩ := hc i x hx
      have hR1 := hR.same s1
      obtain ⟨d1, e1⟩ := id hR1
      have hi' : i < n := by omega
      obtain ⟨hdU, hbd⟩ := hg i hi'
      have hdb := hb i (by omega)
      have dpos := (g i).den_pos
      have db : (g i).den ≤ b := Nat.le_of_dvd hb0 hdb
      refine ⟨_, fun _ h => h, wipe_one, ?_⟩
      refine ⟨_, rfl, r, d1, _, rfl, e1, r, g i, rfl, hR1, _, rfl, _, rfl, r, d1, _, rfl, e1, r, g i, rfl, hR1, _, _, rfl, rfl, sm_div (hbd.den (by decide)) (by omega), _, _, rfl, rfl, sm_mul (hbd.num (by decide)) (sm_lt (k := 91) (by decide) ?_ ?_), Same.refl _, fun _ => rfl⟩
      · have := fdiv_ge (x := (b : Int)) (m := ((g i).den : Int)) (by omega) (by omega)
        omega
      · have := fdiv_le (x := (b : Int)) (m := ((g i).den : Int)) (by omega) (by omega)
        omega
    refine ⟨_, rfl, by show 2 ≤ sizeLine; decide, fun T2 hT2 => ?_⟩
    have e2 : ys = rowV n fun j => (g j).num * ((b : Int).fdiv ((g j).den : Int)) := ints_of (by omega) h1
    subst e2
    have s2 := MG.Same.new (o := .tup [.ref D, .int b]) s1 hT2
    refine k T2 D _ _ b s2 (s1.free hT2) hD ⟨upd_same, (MG.Same.new (Same.refl _) hT2) _ _ e1, hb0, hbU, fun j hj => over_div (hb j (by omega)) hb0, fun j hj => ?_⟩
    have hdb := hb j (by omega)
    have dpos := (g j).den_pos
    have f0 := fdiv_ge (x := (b : Int)) (m := ((g j).den : Int)) (by omega) (by omega)
    have f1 := fdiv_le (x := (b : Int)) (m := ((g j).den : Int)) (by omega) (by omega)
    rw [Int.natAbs_mul]
    exact Nat.lt_of_lt_of_le (lt_mul (j := 91) (hg j hj).2.1 (by omega)) (by exact Nat.pow_le_pow_right (by decide) (by decide))
theorem ok_oobL {f : Addr} {fd : FuncData} (F : Fun K "over_one_bottom" "over_one_bottom" s_over_one_bottom f fd) (T : TxM K mg C CM) (p_top : PropF P w K mg base 2 C "top" (spTop C)) (p_bottom : PropF P w K mg base 2 C "bottom" (spBottom C)) : FnOk P w K mg base CX0 6 f fd ["numbers"] (spOob C .lst) := by
  refine F.ok sc_over_one_bottom (fun vs H Q E h => ?_) (fun cdv A outer s H vs Q E hr h => ?_)
  · obtain ⟨a, xs, n, g, U, rfl, _⟩ := h
    rfl
  · obtain ⟨a, xs, n, g, U, rfl, ha, hl, hn, hc, hU, hU2, hg, k⟩ := h
    refine ⟨_, (pss_cons (ps_set (i := 1) sc_over_one_bottom.nd rfl (Or.inr rfl) pe_int)
  (pss_cons (ps_for PassesOwn.never rfl (pi_listK (K := K) (pv 0)) (pg_name (i := 2) sc_over_one_bottom.nd rfl (Or.inl rfl))
  (pss_one (ps_set (i := 1) sc_over_one_bottom.nd rfl (Or.inr rfl) (pe_callBfun cr_lcmB rfl T.g_lcm (pa_cons (pv 1) (pa_cons (pe_pf p_bottom T.cl hr (by decide) (pv 2) rfl) pa_nil))))))
  (pss_one (ps_ret (pe_tup (pa_cons (pe_lcI (pe_lc (own := [("number", 2)]) rfl sc_over_one_bottom.nd (pi_listK (K := K) (pv 0)) (blkOk_by (N := ["numbers", "bottom", "number"]) (sc := (defScope s_over_one_bottom)) (by decide +kernel)) (fun _ _ _ _ _ => (pg_name (i := 2) sc_over_one_bottom.nd rfl (Or.inl rfl))) (fun _ _ _ _ _ => pts_nil) (fun _ _ _ _ _ => (pe_cut (pe_op op_mulW (pe_pf p_top T.cl hr (by decide) (pv 2) rfl) (pe_op op_fdivZ (pv 1) (pe_pf p_bottom T.cl hr (by decide) (pv 2) rfl))))))) (pa_cons (pv 1) pa_nil))))))), ?_⟩
    -- for number in numbers: bottom = lcm(bottom, number.bottom)
    refine ⟨_, rfl, a, rfl, ⟨xs, SqL.of ha⟩, ?_⟩
    refine for_list (K := K) (a := a) (xs := xs) (fun i σ H' => H' = H ∧ ∃ (b : Nat) (v : Option V), σ = [some (.ref a), some (.int b), v] ∧ 0 < b ∧ b ∣ U ∧ ∀ j, j < i → (g j).den ∣ b) ⟨rfl, 1, none, rfl, by decide, Nat.one_dvd _, fun j hj => absurd hj (Nat.not_lt_zero j)⟩ ?_ ?_ ?_
    · rintro i σ H' _ ⟨rfl, _⟩
      exact SqL.of ha
    · rintro i x σ H' hx ⟨rfl, b, v, rfl, hb0, hbU, hb⟩
      have hi : i < n := by have := (List.getElem?_eq_some_iff.mp hx).1; omega
      obtain ⟨r, rfl, hR⟩ := hc i x hx
      obtain ⟨d1, e1⟩ := id hR
      obtain ⟨hdU, _⟩ := hg i hi
      have bU : b ≤ U := Nat.le_of_dvd hU hbU
      have dU : (g i).den ≤ U := Nat.le_of_dvd hU hdU
      have big : (10 : Nat) ^ 18 < 2 ^ 1400 := by decide
      refine ⟨_, rfl, _, rfl, r, d1, _, rfl, e1, r, g i, rfl, hR, (b : Int), ((g i).den : Int), rfl, by omega, by omega, ?_⟩
      refine ⟨rfl, Nat.lcm b (g i).den, some (.ref r), rfl, Nat.lcm_pos hb0 (g i).den_pos, Nat.lcm_dvd hbU hdU, fun j hj => ?_⟩
      by_cases e : j = i
      · subst e
        exact Nat.dvd_lcm_right _ _
      · exact Nat.dvd_trans (hb j (by omega)) (Nat.dvd_lcm_left _ _)
    rintro σ H' ⟨rfl, b, v, rfl, hb0, hbU, hb⟩
    have bU : b ≤ U := Nat.le_of_dvd hU hbU
    -- return [number.top * (bottom // number.bottom) for number in numbers], bottom
    refine ⟨_, rfl, a, rfl, ⟨xs, SqL.of ha⟩, fun D hD => ?_⟩
    refine lc_same (walk_list (K := K) (a := a) (xs := xs)) hD (by omega) (fun j y _ => y = .int ((g j).num * ((b : Int).fdiv ((g j).den : Int)))) (fun _ _ _ _ h _ => h) (fun G s => SqL.of (s _ _ ha)) yat_same (fun i x H1 H1' hi s1 _ hy => ?_) fun ys H1 hl1 s1 e1 h1 => ?_
    · obtain ⟨rfl, hx⟩ := hy
      obtain ⟨r, rfl, hR⟩ := hc i x hx
      have hR1 := hR.same s1
      obtain ⟨d1, e1⟩ := id hR1
      have hi' : i < n := by omega
      obtain ⟨hdU, hbd⟩ := hg i hi'
      have hdb := hb i (by omega)
      have dpos := (g i).den_pos
      have db : (g i).den ≤ b := Nat.le_of_dvd hb0 hdb
      refine ⟨_, fun _ h => h, wipe_one, ?_⟩
      refine ⟨_, rfl, r, d1, _, rfl, e1, r, g i, rfl, hR1, _, rfl, _, rfl, r, d1, _, rfl, e1, r, g i, rfl, hR1, _, _, rfl, rfl, sm_div (hbd.den (by decide)) (by omega), _, _, rfl, rfl, sm_mul (hbd.num (by decide)) (sm_lt (k := 91) (by decide) ?_ ?_), Same.refl _, fun _ => rfl⟩
      · have := fdiv_ge (x := (b : Int)) (m := ((g i).den : Int)) (by omega) (by omega)
        omega
      · have := fdiv_le (x := (b : Int)) (m := ((g i).den : Int)) (by omega) (by omega)
        omega
    refine ⟨_, rfl, by show 2 ≤ sizeLine; decide, fun T2 hT2 => ?_⟩
    have e2 : ys = rowV n fun j => (g j).num * ((b : Int).fdiv ((g j).den : Int)) := ints_of (by omega) h1
    subst e2
    have s2 := MG.Same.new (o := .tup [.ref D, .int b]) s1 hT2
    refine k T2 D _ _ b s2 (s1.free hT2) hD ⟨upd_same, (MG.Same.new (Same.refl _) hT2) _ _ e1, hb0, hbU, fun j hj => over_div (hb j (by omega)) hb0, fun j hj => ?_⟩
    have hdb := hb j (by omega)
    have dpos := (g j).den_pos
    have f0 := fdiv_ge (x := (b : Int)) (m := ((g j).den : Int)) (by omega) (by omega)
    have f1 := fdiv_le (x := (b : Int)) (m := ((g j).den : Int)) (by omega) (by omega)
    rw [Int.natAbs_mul]
    exact Nat.lt_of_lt_of_le (lt_mul (j := 91) (hg j hj).2.1 (by omega)) (by exact Nat.pow_le_pow_right (by decide) (by decide))
abbrev OobT (P : Program) (w : World) (K : PySem.W.Frag) (mg : Str → Option Value) (base : Heap) (C : Addr) : Prop := CalF P w K mg base 6 "over_one_bottom" (spOob C .tup) []
abbrev OobL (P : Program) (w : World) (K : PySem.W.Frag) (mg : Str → Option Value) (base : Heap) (C : Addr) : Prop := CalF P w K mg base 6 "over_one_bottom" (spOob C .lst) []
end
end Lw

namespace Lw
open PySem PySem.Spec PyProof.Rows L2 MG
section
variable {P : Program} {w : World} {K : PySem.W.Frag} {mg : Str → Option Value} {base : Heap} {C CM CX : Addr}
theorem smI {i : Int} {k : Nat} (h : i.natAbs < 10 ^ k) (hk : k ≤ 390) : Sm i := by
  have := nab h
  rw [Int.natCast_pow] at this
  exact sm_lt (k := k) (by omega) this.1 this.2
/-! ### the ints that are not 0 -/
def nz (n : Nat) (z : Nat → Int) : List Nat := (List.range n).filter fun j => decide (z j ≠ 0)
theorem nz_sum (n : Nat) (z w : Nat → Int) : ((nz n z).map fun j => z j * w j).sum = smZ n fun j => z j * w j := by
  unfold nz
  induction n with
  | zero => rfl
  | succ n ih =>
    rw [List.range_succ, List.filter_append, List.map_append, List.sum_append, ih, smZ]
    by_cases h : z n = 0
    · simp [h]
    · simp [h]
theorem nz_succ (n : Nat) (z : Nat → Int) : nz (n + 1) z = nz n z ++ if z n ≠ 0 then [n] else [] := by
  unfold nz
  rw [List.range_succ, List.filter_append]
  by_cases h : z n = 0 <;> simp [h]
theorem nz_lt {n : Nat} {z : Nat → Int} {j : Nat} (h : j ∈ nz n z) : j < n := by
  unfold nz at h
  exact List.mem_range.mp (List.mem_filter.mp h).1
/-- pairs of an index and its int -/
def Prs2 (H : Hp) (ys : List V) (js : List Nat) (z : Nat → Int) : Prop := ys.length = js.length ∧ ∀ (m : Nat) (y : V) (j : Nat), ys[m]? = some y → js[m]? = some j → ∃ T, y = .ref T ∧ H T = some (.tup [.int j, .int (z j)])
theorem Prs2.same {H H' : Hp} {ys : List V} {js : List Nat} {z : Nat → Int} (h : Prs2 H ys js z) (s : Same H H') : Prs2 H' ys js z :=
  ⟨h.1, fun m y j a b => (h.2 m y j a b).elim fun T e => ⟨T, e.1, s _ _ e.2⟩⟩
theorem Prs2.snoc {H : Hp} {ys : List V} {js : List Nat} {z : Nat → Int} {T : Addr} {j : Nat} (h : Prs2 H ys js z) (e : H T = some (.tup [.int j, .int (z j)])) : Prs2 H (ys ++ [.ref T]) (js ++ [j]) z := by
  refine ⟨by simp [h.1], fun m y i hy hi => ?_⟩
  by_cases hm : m < ys.length
  · rw [List.getElem?_append_left hm] at hy
    rw [List.getElem?_append_left (by rw [← h.1]; exact hm)] at hi
    exact h.2 m y i hy hi
  · rw [List.getElem?_append_right (by omega)] at hy
    rw [List.getElem?_append_right (by rw [← h.1]; omega)] at hi
    have e1 : y = .ref T := by simpa using List.mem_of_getElem? hy
    have e2 : i = j := by simpa using List.mem_of_getElem? hi
    exact ⟨T, e1, by rw [e2]; exact e⟩
def spRowt (C : Addr) : Sp := fun vs H Q _ => ∃ (a Cl : Addr) (xs cs : List V) (n c : Nat) (g : Nat → Rat) (gg : Nat → Nat → Rat) (U U2 : Nat), vs = [.ref a, .ref Cl] ∧ H a = some (.tup xs) ∧ xs.length = n ∧ n ≤ 1000 ∧ (∀ (j : Nat) (y : V), xs[j]? = some y → RC C H y (g j)) ∧
  0 < U ∧ U < 10 ^ 90 ∧ (∀ j, j < n → (g j).den ∣ U ∧ Bd (g j) 100) ∧ H Cl = some (.lst cs) ∧ cs.length = c ∧ c ≤ 1000 ∧ 0 < U2 ∧ U2 < 10 ^ 90 ∧ (∀ (k : Nat) (x : V), cs[k]? = some x → ∃ T L z b, x = .ref T ∧ Ovr H T L n (fun j => gg j k) z b U2) ∧
  ∀ p H', Same H H' → Rw (RC C) H' (.ref p) c (fun k => sumQ n fun j => g j * gg j k) → Q (.ref p) H'
theorem sc_row_times : FnScope ["row", "columns", "tops", "bottom", "used", "index", "top", "cells", "below"] ["row", "columns"] (defScope s_row_times) := ⟨rfl, rfl, rfl, by decide +kernel, rfl, by decide +kernel, by decide +kernel⟩
theorem ok_rowt {f : Addr} {fd : FuncData} (F : Fun K "row_times" "row_times" s_row_times f fd) (T : TxM K mg C CM) (c_oob : OobT P w K mg base C) (m_rat2 : Rat2C P w K mg base C) : FnOk P w K mg base CX0 8 f fd ["row", "columns"] (spRowt C) := by
  refine F.ok sc_row_times (fun vs H Q E h => ?_) (fun cdv A outer s H vs Q E hr h => ?_)
  · obtain ⟨a, Cl, xs, cs, n, c, g, gg, U, U2, rfl, _⟩ := h
    rfl
  · obtain ⟨a, Cl, xs, cs, n, c, g, gg, U, U2, rfl, ha, hl, hn, hc, hU, hU2, hg, hCl, hcl, hc1, hV, hV2, hcs, k⟩ := h
    refine ⟨_, (pss_cons (ps_asg (pe_cf c_oob hr (by decide) rfl (pa_cons (pv 0) pa_nil)) (pg_tupK (K := K) (n := 2) rfl (pgs_cons (pg_name (i := 2) sc_row_times.nd rfl (Or.inl rfl)) (pgs_cons (pg_name (i := 3) sc_row_times.nd rfl (Or.inr rfl)) pgs_nil))))
  (pss_cons (ps_set (i := 4) sc_row_times.nd rfl (Or.inr rfl) (pe_lcI (pe_lc (own := [("index", 5), ("top", 6)]) rfl sc_row_times.nd (pi_enumK (K := K) (by rfl) T.b_enumerate (pa_cons (pv 2) pa_nil)) (blkOk_by (N := ["row", "columns", "tops", "bottom", "used", "index", "top", "cells", "below"]) (sc := (defScope s_row_times)) (by decide +kernel)) (fun _ _ _ _ _ => (pg_tupK (K := K) (n := 2) rfl (pgs_cons (pg_name (i := 5) sc_row_times.nd rfl (Or.inl rfl)) (pgs_cons (pg_name (i := 6) sc_row_times.nd rfl (Or.inl rfl)) pgs_nil)))) (fun _ _ _ _ _ => (pts_one (pt_truthK (K := K) (pv 6) (by intro _; rfl)))) (fun _ _ _ _ _ => (pe_cut (pe_tup (pa_cons (pv 5) (pa_cons (pv 6) pa_nil))))))))
  (pss_one (ps_ret (pe_callTy (call_tuple_ofK (K := K)) (by rfl) T.b_tuple (by decide +kernel) (pa_cons (pe_lcI (pe_lc (own := [("cells", 7), ("below", 8)]) rfl sc_row_times.nd (pi_listK (K := K) (pv 1)) (blkOk_by (N := ["row", "columns", "tops", "bottom", "used", "index", "top", "cells", "below"]) (sc := (defScope s_row_times)) (by decide +kernel)) (fun _ _ _ _ _ => (pg_tupK (K := K) (n := 2) rfl (pgs_cons (pg_name (i := 7) sc_row_times.nd rfl (Or.inr rfl)) (pgs_cons (pg_name (i := 8) sc_row_times.nd rfl (Or.inl rfl)) pgs_nil)))) (fun _ _ _ _ _ => pts_nil) (fun _ _ _ _ _ => (pe_cut (pe_mkf m_rat2 hr (by decide) rfl (pa_cons (pe_callB (id := "sum") (cr_sumK (K := K) rfl) (by rfl) T.b_sum (by decide +kernel) (pa_cons (pe_lcI (pe_lc (own := [("index", 5), ("top", 6)]) rfl sc_row_times.nd (pi_listK (K := K) (pv 4)) (blkOk_by (N := ["row", "columns", "tops", "bottom", "used", "index", "top", "cells", "below"]) (sc := ({ kind := .function, names := [(PySem.Str.ofString ".0", .local), (PySem.Str.ofString "cells", .cell), (PySem.Str.ofString "below", .local), (PySem.Str.ofString "Ratio", .globalImplicit), (PySem.Str.ofString "sum", .globalImplicit), (PySem.Str.ofString "bottom", .cell), (PySem.Str.ofString "used", .cell)], isGenerator := false, isCoroutine := false } : Scope)) (by decide +kernel)) (fun _ _ _ _ _ => (pg_tupK (K := K) (n := 2) rfl (pgs_cons (pg_name (i := 5) sc_row_times.nd rfl (Or.inl rfl)) (pgs_cons (pg_name (i := 6) sc_row_times.nd rfl (Or.inl rfl)) pgs_nil)))) (fun _ _ _ _ _ => pts_nil) (fun _ _ _ _ _ => (pe_cut (pe_op op_mulW (pv 6) (pe_ix (ix_listK (K := K)) (pv 7) (pv 5) (fun _ _ => rfl))))))) pa_nil)) (pa_cons (pe_op op_mulW (pv 3) (pv 8)) pa_nil))))))) pa_nil)))))), ?_⟩
    -- tops, bottom = over_one_bottom(row)
    refine ⟨_, rfl, a, xs, n, g, U, rfl, ha, hl, hn, hc, hU, hU2, hg, fun T1 L H1 z b s1 _ _ ov => ?_⟩
    refine ⟨T1, _, rfl, SqT.of ov.at_, rfl, _, _, rfl, _, _, rfl, rfl, ?_⟩
    -- used = [(index, top) for index, top in enumerate(tops) if top]
    refine ⟨_, rfl, L, _, rfl, SqL.of ov.li, fun D hD => ?_⟩
    have posb := ov.pos
    have hzb : ∀ j, j < n → (z j).natAbs < 10 ^ 195 := ov.bd
    have hlr : (rowV n z).length = n := rowV_len
    refine lc_filt walk_enum hD (by rw [hlr]; omega) (fun i ys G => Same H1 G ∧ Prs2 G ys (nz i z) z) ⟨hid_none hD, by simp [nz], fun m y j e => by simp at e⟩ (fun i ys G hi p _ => SqL.of ((p.1.trans (hid_same D G)) _ _ ov.li)) (fun i x ys G G' hi p e hy => ?_) fun ys H2 e2 p2 => ?_
    · obtain ⟨T2, x1, x2, rfl, hT2, rfl, hx1, hx2⟩ := hy
      obtain rfl : V.int (i : Nat) = x1 := Option.some.inj hx1
      obtain ⟨hi2, rfl⟩ := rowV_get hx2
      have nD : T2 ≠ D := fun q => by rw [q, e] at hT2; cases hT2
      have eD : (upd G T2 (.tup [.int (i : Nat), .int (z i)])) D = some (.lst ys) := by rw [upd_ne (fun q => nD q.symm)]; exact e
      have sG : Same (hid D G) (hid D (upd G T2 (.tup [.int (i : Nat), .int (z i)]))) := hid_mono (MG.Same.new (Same.refl G) hT2)
      refine ⟨_, (z i != 0), tg2 upd_same, rfl, fun R h => ⟨_, rfl, z i != 0, rfl, h⟩, fun hb => ⟨eD, p.1.trans sG, ?_⟩, fun hb => ?_⟩
      · have hz : z i = 0 := by simpa using hb
        rw [nz_succ, if_neg (by simp [hz]), List.append_nil]
        exact p.2.same sG
      · have hz : z i ≠ 0 := by simpa using hb
        refine ⟨fun y H4 => ∃ T3, y = .ref T3 ∧ (upd G T2 (.tup [.int (i : Nat), .int (z i)])) T3 = none ∧ H4 = upd (upd G T2 (.tup [.int (i : Nat), .int (z i)])) T3 (.tup [.int (i : Nat), .int (z i)]), ⟨_, rfl, _, rfl, by show 2 ≤ sizeLine; decide, fun T3 hT3 => ⟨T3, rfl, hT3, rfl⟩⟩, ?_⟩
        rintro y H4 ⟨T3, rfl, hT3, rfl⟩
        have nD3 : T3 ≠ D := fun q => by rw [q, eD] at hT3; cases hT3
        refine ⟨by rw [upd_ne (fun q => nD3 q.symm)]; exact eD, (p.1.trans sG).trans (hid_mono (MG.Same.new (Same.refl _) hT3)), ?_⟩
        rw [nz_succ, if_pos hz]
        exact ((p.2.same sG).same (hid_mono (MG.Same.new (Same.refl _) hT3))).snoc (by rw [hid_ne nD3]; exact upd_same)
    rw [hlr] at p2
    have s2 : Same H1 H2 := p2.1.trans (hid_same D H2)
    have pr : Prs2 H2 ys (nz n z) z := p2.2.same (hid_same D H2)
    have ln : (nz n z).length ≤ n := by unfold nz; exact Nat.le_trans (List.length_filter_le _ _) (by simp)
    clear p2
    -- return tuple([Ratio(sum([top * cells[index] ..]), bottom * below) for cells, below in columns])
    have s12 := s1.trans s2
    refine ⟨_, rfl, Cl, rfl, ⟨cs, SqL.of (s12 _ _ hCl)⟩, fun D2 hD2 => ?_⟩
    refine lc_same (walk_list (K := K) (a := Cl) (xs := cs)) hD2 (by omega) (fun m y G => RC C G y (sumQ n fun j => g j * gg j m)) (fun m y G G' h s => (rc_mono C).same h s) (fun G s => SqL.of (s _ _ (s12 _ _ hCl))) yat_same (fun m x H3 H3' hm s3 _ hy => ?_) fun ys3 H3 hl3 s3 e3 h3 => ?_
    · obtain ⟨rfl, hx⟩ := hy
      obtain ⟨T4, L4, z4, b4, rfl, ov4⟩ := hcs m x hx
      have ov3 := ov4.same (s12.trans s3)
      have b4U : b4 ≤ U2 := Nat.le_of_dvd hV ov4.dvd
      have bU : b ≤ U := Nat.le_of_dvd hU ov.dvd
      have pos4 := ov4.pos
      refine ⟨_, tg2 ov3.at_, rfl, ?_⟩
      have prs := pr.same s3
      refine ⟨_, rfl, D, rfl, ⟨ys, SqL.of (s3 _ _ e2)⟩, fun D5 hD5 => ?_⟩
      refine lc_same (walk_list (K := K) (a := D) (xs := ys)) hD5 (by have := pr.1; omega) (fun p y _ => ∃ j, (nz n z)[p]? = some j ∧ y = .int (z j * z4 j)) (fun _ _ _ _ h _ => h) (fun G s => SqL.of (s _ _ (s3 _ _ e2))) yat_same (fun p x H5 H5' hp s5 _ hy => ?_) fun ys5 H5 hl5 s5 e5 h5 => ?_
      · obtain ⟨rfl, hx5⟩ := hy
        have hjl : p < (nz n z).length := by rw [← pr.1]; exact hp
        obtain ⟨j, hj⟩ : ∃ j, (nz n z)[p]? = some j := ⟨_, List.getElem?_eq_getElem hjl⟩
        obtain ⟨T6, rfl, eT6⟩ := prs.2 p x j hx5 hj
        have hjn := nz_lt (List.mem_of_getElem? hj)
        refine ⟨_, tg2 (s5 _ _ eT6), rfl, ?_⟩
        exact ⟨_, rfl, _, rfl, _, rfl, L4, _, _, _, rfl, rfl, SqL.of (s5 _ _ ov3.li), atI_nat (rowV_at hjn), _, _, rfl, rfl, sm_mul (smI (hzb j hjn) (by decide)) (smI (ov4.bd j hjn) (by decide)), Same.refl _, fun _ => ⟨j, hj, rfl⟩⟩
      have e6 : ys5 = ((nz n z).map fun j => z j * z4 j).map V.int := by
        refine List.ext_getElem? fun p => ?_
        rw [List.map_map, List.getElem?_map]
        by_cases hp : p < ys5.length
        · obtain ⟨j, hj, e⟩ := h5 p _ (List.getElem?_eq_getElem hp)
          rw [hj, List.getElem?_eq_getElem hp, e]
          rfl
        · have : (nz n z).length ≤ p := by rw [← pr.1]; omega
          rw [List.getElem?_eq_none (by omega), List.getElem?_eq_none this]
          rfl
      subst e6
      refine ⟨D5, _, rfl, SqL.of e5, _, rfl, _, rfl, _, _, rfl, rfl, sm_mul (sm_lt (k := 91) (by decide) (by omega) (by omega)) (sm_lt (k := 91) (by decide) (by omega) (by omega)), ?_⟩
      have hbb : (b : Int) * (b4 : Int) ≠ 0 := Int.mul_ne_zero (by omega) (by omega)
      have smb : Sm ((b : Int) * (b4 : Int)) := by
        refine sm_of ?_
        rw [Int.natAbs_mul]
        exact Nat.lt_of_lt_of_le (lt_mul (i := 91) (j := 91) (by omega) (by omega)) (by exact Nat.pow_le_pow_right (by decide) (by decide))
      refine make_rat (Q := fun y H4 => Same H3' H4 ∧ ((∃ l, H4 D2 = some (.lst l)) → RC C (hid D2 H4) y (sumQ n fun j => g j * gg j m))) hbb smb fun r' H6 _ s6 h6 => ⟨s5.trans s6, fun ⟨l, hl⟩ => ?_⟩
      refine (rc_mono C).hid ⟨r', rfl, ?_⟩ hl
      have ev : Rat.divInt (((nz n z).map fun j => z j * z4 j).sum) ((b : Int) * (b4 : Int)) = sumQ n fun j => g j * gg j m := by
        rw [nz_sum, sum_div (by omega) (by omega)]
        exact sumQ_congr fun j hj => by rw [ov.val j hj, ov4.val j hj]
      rw [ev] at h6
      exact h6
    refine ⟨D2, ys3, rfl, .inl ⟨SqL.of e3, fun T7 hT7 => ?_⟩⟩
    exact k T7 _ (MG.Same.new (s12.trans s3) hT7) (rw_new (rc_mono C) (hid_same D2 H3) hT7 (hl3.trans hcl) h3)
abbrev RowtC (P : Program) (w : World) (K : PySem.W.Frag) (mg : Str → Option Value) (base : Heap) (C : Addr) : Prop := CalF P w K mg base 8 "row_times" (spRowt C) []
end
end Lw

namespace Lw
open PySem PySem.Spec PyProof.Rows L2 MG
section
variable {P : Program} {w : World} {K : PySem.W.Frag} {mg : Str → Option Value} {base : Heap} {C CM CX : Addr}
/-- a common bottom -/
def Den (r c : Nat) (f : Nat → Nat → Rat) (U : Nat) : Prop := 0 < U ∧ U < 10 ^ 90 ∧ ∀ i j, i < r → j < c → (f i j).den ∣ U
def spMult (C : Addr) : Sp := fun vs H Q _ => ∃ (t u : Addr) (r n c : Nat) (f g : Nat → Nat → Rat) (U V' : Nat), vs = [.ref t, .ref u] ∧ Tb (RC C) H t r n f ∧ Tb (RC C) H u n c g ∧ Sz r n ∧ Sz n c ∧ Den r n f U ∧ Den n c g V' ∧ Bds r n f 100 ∧ Bds n c g 100 ∧
  ∀ p H', Same H H' → Tb (RC C) H' p r c (mulQ n f g) → Q (.ref p) H'
theorem sc_multiplied : FnScope ["entries", "others", "columns", "index", "row"] ["entries", "others"] (defScope s_multiplied) := ⟨rfl, rfl, rfl, by decide +kernel, rfl, by decide +kernel, by decide +kernel⟩
theorem ok_mult {f : Addr} {fd : FuncData} (F : Fun K "multiplied" "multiplied" s_multiplied f fd) (T : TxM K mg C CM) (c_oob : OobL P w K mg base C) (c_rowt : RowtC P w K mg base C) : FnOk P w K mg base CX0 10 f fd ["entries", "others"] (spMult C) := by
  refine F.ok sc_multiplied (fun vs H Q E h => ?_) (fun cdv A outer s H vs Q E hr h => ?_)
  · obtain ⟨t, u, r, n, c, f, g, U, V', rfl, _⟩ := h
    rfl
  · obtain ⟨t, u, r, n, c, f, g, U, V', rfl, hT, hU, zT, zU, dT, dU, bT, bU, k⟩ := h
    obtain ⟨rs, et, hl, hrow⟩ := id hT
    obtain ⟨rs2, eu, hl2, hrow2⟩ := id hU
    obtain ⟨z1, z2, z3, z4⟩ := id zT
    obtain ⟨y1, y2, y3, y4⟩ := id zU
    refine ⟨_, (pss_cons (ps_set (i := 2) sc_multiplied.nd rfl (Or.inr rfl) (pe_lcI (pe_lc (own := [("index", 3)]) rfl sc_multiplied.nd (pi_range1 (by rfl) T.b_range (pa_cons (pe_callB (id := "len") (call_len_seqK (K := K)) (by rfl) T.b_len (by decide +kernel) (pa_cons (pe_ix (ix_tupK (K := K)) (pv 1) pe_int (fun _ _ => rfl)) pa_nil)) pa_nil)) (blkOk_by (N := ["entries", "others", "columns", "index", "row"]) (sc := (defScope s_multiplied)) (by decide +kernel)) (fun _ _ _ _ _ => (pg_name (i := 3) sc_multiplied.nd rfl (Or.inr rfl))) (fun _ _ _ _ _ => pts_nil) (fun _ _ _ _ _ => (pe_cut (pe_cf c_oob hr (by decide) rfl (pa_cons (pe_lcI (pe_lc (own := [("row", 4)]) rfl sc_multiplied.nd (pi_tupK (K := K) (pv 1)) (blkOk_by (N := ["entries", "others", "columns", "index", "row"]) (sc := ({ kind := .function, names := [(PySem.Str.ofString ".0", .local), (PySem.Str.ofString "index", .cell), (PySem.Str.ofString "over_one_bottom", .globalImplicit), (PySem.Str.ofString "others", .cell)], isGenerator := false, isCoroutine := false } : Scope)) (by decide +kernel)) (fun _ _ _ _ _ => (pg_name (i := 4) sc_multiplied.nd rfl (Or.inl rfl))) (fun _ _ _ _ _ => pts_nil) (fun _ _ _ _ _ => (pe_cut (pe_ix (ix_tupK (K := K)) (pv 4) (pv 3) (fun _ _ => rfl)))))) pa_nil)))))))
  (pss_one (ps_ret (pe_callTy (call_tuple_ofK (K := K)) (by rfl) T.b_tuple (by decide +kernel) (pa_cons (pe_lcI (pe_lc (own := [("row", 4)]) rfl sc_multiplied.nd (pi_tupK (K := K) (pv 0)) (blkOk_by (N := ["entries", "others", "columns", "index", "row"]) (sc := (defScope s_multiplied)) (by decide +kernel)) (fun _ _ _ _ _ => (pg_name (i := 4) sc_multiplied.nd rfl (Or.inl rfl))) (fun _ _ _ _ _ => pts_nil) (fun _ _ _ _ _ => (pe_cut (pe_cf c_rowt hr (by decide) rfl (pa_cons (pv 4) (pa_cons (pv 2) pa_nil))))))) pa_nil))))), ?_⟩
    have h0 : rs2[0]? = some rs2[0] := List.getElem?_eq_getElem (by omega)
    obtain ⟨p0, xs0, e0, hp0, hxl0, _⟩ := hrow2 0 _ h0
    -- columns = [over_one_bottom([row[index] for row in others]) for index in range(len(others[0]))]
    refine ⟨_, rfl, u, _, _, _, rfl, rfl, SqT.of eu, atI_nat h0, p0, xs0, e0 ▸ rfl, .inr (SqT.of hp0), (xs0.length : Int), rfl, by omega, by omega, fun D hD => ?_⟩
    have hc0 : ((xs0.length : Int)).toNat = c := by omega
    rw [hc0]
    refine lc_same (walk_range (lo := 0) (n := c)) hD (by omega) (fun m y G => ∃ T L z b, y = .ref T ∧ Ovr G T L n (fun j => g j m) z b V') (fun m y G G' h s => by
      obtain ⟨T, L, z, b, e, o⟩ := h
      exact ⟨T, L, z, b, e, o.same s⟩) (fun G s => trivial) yfn_same (fun m x H1 H1' hm s1 nD hy => ?_) fun ys H1 hl1 s1 e1 h1 => ?_
    · obtain ⟨rfl, rfl⟩ := hy
      obtain ⟨rs3, eu3, hl3, hrow3⟩ := hU.same (rc_mono C) s1
      refine ⟨_, fun _ h => h, wipe_one, ?_⟩
      refine ⟨_, rfl, u, rfl, ⟨rs3, SqT.of eu3⟩, fun D2 hD2 => ?_⟩
      refine lc_same (walk_tup (K := K) (a := u) (xs := rs3)) hD2 (by omega) (fun j y G => RC C G y (g j m)) (fun j y G G' h s => (rc_mono C).same h s) (fun G s => SqT.of (s _ _ eu3)) yat_same (fun j x H2 H2' hj s2 _ hy => ?_) fun ys2 H2 hl4 s2 e2 h2 => ?_
      · obtain ⟨rfl, hx⟩ := hy
        obtain ⟨p, xs, rfl, hp, hxl, hc⟩ := (hrow3 j x hx).same (rc_mono C) s2
        have hx2 : xs[m]? = some xs[m] := List.getElem?_eq_getElem (by omega)
        obtain ⟨b, e', hb⟩ := hc m _ hx2
        have ei : V.int (0 + (m : Int)) = V.int (m : Int) := by rw [Int.zero_add]
        refine ⟨_, fun _ h => h, wipe_one, ?_⟩
        refine ⟨_, rfl, _, rfl, p, _, _, _, rfl, ei, SqT.of hp, atI_nat hx2, Same.refl _, fun ⟨l, hl⟩ => ?_⟩
        rw [e']
        exact (rc_mono C).hid ⟨b, rfl, hb⟩ hl
      · refine ⟨D2, ys2, n, fun j => g j m, V', rfl, e2, by omega, by omega, fun j y hy => (rc_mono C).same (h2 j y hy) (hid_same D2 H2), dU.1, dU.2.1, fun j hj => ⟨dU.2.2 j m hj hm, bU j m hj hm⟩, fun T L H3 z b s3 fT fL ov => ⟨s2.trans s3, fun ⟨l, hl⟩ => ?_⟩⟩
        have nT : T ≠ D := ne_of ov.at_ hl (by intro z; cases z)
        have nL : L ≠ D := fun q => by
          cases e : H1' D with
          | none => exact nD e
          | some o => rw [q, (s2 _ _ e)] at fL; cases fL
        exact ⟨T, L, z, b, rfl, by rw [hid_ne nT]; exact ov.at_, by rw [hid_ne nL]; exact ov.li, ov.pos, ov.dvd, ov.val, ov.bd⟩
    -- return tuple([row_times(row, columns) for row in entries])
    refine ⟨_, rfl, t, rfl, ⟨rs, SqT.of (s1 _ _ et)⟩, fun D3 hD3 => ?_⟩
    refine lc_same (walk_tup (K := K) (a := t) (xs := rs)) hD3 (by omega) (fun i y G => Rw (RC C) G y c (mulQ n f g i)) (fun i y G G' h s => h.same (rc_mono C) s) (fun G s => SqT.of (s _ _ (s1 _ _ et))) yat_same (fun i x H3 H3' hi s3 _ hy => ?_) fun ys3 H3 hl3 s3 e3 h3 => ?_
    · obtain ⟨rfl, hx⟩ := hy
      obtain ⟨p, xs, rfl, hp, hxl, hc⟩ := (hrow i x hx).same (rc_mono C) (s1.trans s3)
      have hi' : i < r := by omega
      refine ⟨_, fun _ h => h, wipe_one, ?_⟩
      refine ⟨_, rfl, _, rfl, p, D, xs, ys, n, c, f i, g, U, V', rfl, hp, hxl, by omega, hc, dT.1, dT.2.1, fun j hj => ⟨dT.2.2 i j hi' hj, bT i j hi' hj⟩, s3 _ _ e1, hl1, by omega, dU.1, dU.2.1, fun m x hx => ?_, fun p2 H4 s4 h4 => ⟨s4, fun ⟨l, hl⟩ => h4.hid (rc_mono C) hl⟩⟩
      obtain ⟨T, L, z, b, e, o⟩ := h1 m x hx
      exact ⟨T, L, z, b, e, (o.same (hid_same D H1)).same s3⟩
    refine ⟨D3, ys3, rfl, .inl ⟨SqL.of e3, fun T7 hT7 => ?_⟩⟩
    exact k T7 _ (MG.Same.new (s1.trans s3) hT7) (tb_new (rc_mono C) (hid_same D3 H3) hT7 (hl3.trans hl) h3)
abbrev MultC (P : Program) (w : World) (K : PySem.W.Frag) (mg : Str → Option Value) (base : Heap) (C : Addr) : Prop := CalF P w K mg base 10 "multiplied" (spMult C) []
/-! ### * -/
def spMMul (C CM CX : Addr) : Sp := fun vs H Q E => ∃ (a : Addr) (y : V) (r c : Nat) (f : Nat → Nat → Rat), vs = [.ref a, y] ∧ MtAt C CM H a r c f ∧ Sz r c ∧ Bds r c f 100 ∧
  ((∃ q, NumAt C H y q ∧ Bd q 100 ∧ ∀ m H', Same H H' → MtAt C CM H' m r c (fun i j => f i j * q) → Q (.ref m) H') ∨
   ∃ (b : Addr) (r2 c2 : Nat) (g : Nat → Nat → Rat), y = .ref b ∧ MtAt C CM H b r2 c2 g ∧ Sz r2 c2 ∧ Bds r2 c2 g 100 ∧
     (c = r2 → ∃ U V', Den r c f U ∧ Den r2 c2 g V' ∧ ∀ m H', Same H H' → MtAt C CM H' m r c2 (mulQ c f g) → Q (.ref m) H') ∧ (c ≠ r2 → ∀ H', Same H H' → Rsd2 CX H' (.int c) (.int r2) E))
theorem sc_Matrix___mul__ : FnScope ["self", "other", "row", "number"] ["self", "other"] (defScope s_Matrix___mul__) := ⟨rfl, rfl, rfl, by decide +kernel, rfl, by decide +kernel, by decide +kernel⟩
theorem ok_mmul {f : Addr} {fd : FuncData} (F : Fun K "__mul__" "Matrix.__mul__" s_Matrix___mul__ f fd) (T : TxM K mg C CM) (x_mis : XmC P w K mg base CX) (m_mat : MatC P w K mg base C CM) (c_number : NumberC P w K mg base C) (c_mult : MultC P w K mg base C) (pm_entries : EntriesC P w K mg base CM) (pm_rows : RowsC P w K mg base C CM) (pm_columns : ColumnsC P w K mg base C CM) (o_mul : OpF P w K mg base 8 C .Mult (spBin C fun p q => p * q)) :
    FnOk P w K mg base (L2N.CX P w) 12 f fd ["self", "other"] (spMMul C CM CX) := by
  refine fun_okN F sc_Matrix___mul__ (fun vs H Q E h => ?_) (fun cdv A outer s H vs Q E hr h => ?_)
  · obtain ⟨a, y, r, c, f, rfl, _⟩ := h
    rfl
  · obtain ⟨a, y, r, c, f, rfl, hA, zA, bA, h⟩ := h
    refine ⟨_, (pss_cons (ps_if (pt_val (pe_cf c_number hr (by decide) rfl (pa_cons (pv 1) pa_nil))) (pss_one (ps_ret (pe_mkf m_mat hr (by decide) rfl (pa_cons (pe_callTy (call_tuple_ofK (K := K)) (by rfl) T.b_tuple (by decide +kernel) (pa_cons (pe_lcI (pe_lc (own := [("row", 2)]) rfl sc_Matrix___mul__.nd (pi_tupK (K := K) (pe_fldK (K := K) (pv 0) rfl)) (blkOk_by (N := ["self", "other", "row", "number"]) (sc := (defScope s_Matrix___mul__)) (by decide +kernel)) (fun _ _ _ _ _ => (pg_name (i := 2) sc_Matrix___mul__.nd rfl (Or.inl rfl))) (fun _ _ _ _ _ => pts_nil) (fun _ _ _ _ _ => (pe_cut (pe_callTy (call_tuple_ofK (K := K)) (by rfl) T.b_tuple (by decide +kernel) (pa_cons (pe_lcI (pe_lc (own := [("number", 3)]) rfl sc_Matrix___mul__.nd (pi_tupK (K := K) (pv 2)) (blkOk_by (N := ["self", "other", "row", "number"]) (sc := ({ kind := .function, names := [(PySem.Str.ofString ".0", .local), (PySem.Str.ofString "row", .local), (PySem.Str.ofString "tuple", .globalImplicit), (PySem.Str.ofString "other", .cell)], isGenerator := false, isCoroutine := false } : Scope)) (by decide +kernel)) (fun _ _ _ _ _ => (pg_name (i := 3) sc_Matrix___mul__.nd rfl (Or.inl rfl))) (fun _ _ _ _ _ => pts_nil) (fun _ _ _ _ _ => (pe_cut (pe_op (op_f o_mul hr (by decide)) (pv 3) (pv 1)))))) pa_nil)))))) pa_nil)) pa_nil))))
  pss_nil)
  (pss_cons (ps_if (pt_not (pt_val (pe_callB (id := "isinstance") (call_isiK (K := K)) (by rfl) T.b_isinstance (by decide +kernel) (pa_cons (pv 1) (pa_cons (pe_glob (v := V.ref CM) rfl T.g_Matrix rfl) pa_nil))))) (pss_one ps_never)
  pss_nil)
  (pss_cons (ps_if (pt_cmpR op_ne (pe_pf pm_columns T.clM hr (by decide) (pv 0) rfl) (pe_pf pm_rows T.clM hr (by decide) (pv 1) rfl) (nomark _)) (pss_one (ps_raise2 x_mis hr (by decide) rfl (L2N.takes_of rfl rfl rfl rfl) rfl (pa_cons (pe_pf pm_columns T.clM hr (by decide) (pv 0) rfl) (pa_cons (pe_pf pm_rows T.clM hr (by decide) (pv 1) rfl) pa_nil))))
  pss_nil)
  (pss_one (ps_ret (pe_mkf m_mat hr (by decide) rfl (pa_cons (pe_cf c_mult hr (by decide) rfl (pa_cons (pe_fldK (K := K) (pv 0) rfl) (pa_cons (pe_pf pm_entries T.clM hr (by decide) (pv 1) rfl) pa_nil))) pa_nil))))))), ?_⟩
    obtain ⟨dx, t, ea, hT⟩ := id hA
    obtain ⟨z1, z2, z3, z4⟩ := id zA
    rcases h with ⟨q, hy, bq, k⟩ | ⟨b, r2, c2, g, rfl, hB, zB, bB, k1, k2⟩
    · -- a number
      obtain ⟨ty, b1, b2, b3, h1, h2, h3, h4, h5⟩ := hy.is T.toTxR
      refine ⟨_, rfl, y, ty, b1, b2, b3, rfl, h1, h2, h3, h4, _, rfl, ?_⟩
      rw [h5]
      refine iteT ?_
      obtain ⟨rs, et, hl, hrow⟩ := id hT
      refine ⟨_, rfl, a, CM, dx, _, _, rfl, ea, T.clM, T.nE, mfl_at t, t, rfl, ⟨rs, SqT.of et⟩, fun D hD => ?_⟩
      refine lc_same (walk_tup (K := K) (a := t) (xs := rs)) hD (by omega) (fun i y G => Rw (RC C) G y c (fun j => f i j * q)) (fun i y G G' h s => h.same (rc_mono C) s) (fun G s => SqT.of (s _ _ et)) yat_same (fun i x H2 H2' hi s2 _ hy2 => ?_) fun ys H2 hl3 s2 e2 h2 => ?_
      · obtain ⟨rfl, hx⟩ := hy2
        obtain ⟨p, xs, rfl, hp, hxl, hc⟩ := (hrow i x hx).same (rc_mono C) s2
        refine ⟨_, fun _ h => h, wipe_one, ?_⟩
        refine ⟨_, rfl, p, rfl, ⟨xs, SqT.of hp⟩, fun D2 hD2 => ?_⟩
        refine lc_same (walk_tup (K := K) (a := p) (xs := xs)) hD2 (by omega) (fun j y G => RC C G y (f i j * q)) (fun j y G G' h s => (rc_mono C).same h s) (fun G s => SqT.of (s _ _ hp)) yat_same (fun j x H3 H3' hj s3 _ hy3 => ?_) fun ys3 H3 hl4 s3 e3 h3 => ?_
        · obtain ⟨rfl, hx3⟩ := hy3
          obtain ⟨b1, rfl, h1⟩ := (rc_mono C).same (hc j x hx3) s3
          obtain ⟨d1, e1⟩ := id h1
          have hy' := hy.same (s2.trans s3)
          refine ⟨_, fun _ h => h, wipe_one, ?_⟩
          refine ⟨_, rfl, _, rfl, b1, d1, _, rfl, e1, ?_, b1, y, _, q, rfl, h1, hy', (bA i j (by omega) (by omega)).mono (by decide), bq.mono (by decide), fun r' H5 s5 h5 => ⟨s5, fun ⟨l, hl⟩ => (rc_mono C).hid ⟨r', rfl, h5⟩ hl⟩⟩
          rcases hy' with ⟨b2, rfl, d2, e2⟩ | ⟨z, rfl, _⟩
          · exact .inl ⟨b2, d2, _, rfl, e2⟩
          · exact .inr ⟨z, rfl⟩
        · refine ⟨D2, ys3, rfl, .inl ⟨SqL.of e3, fun T4 hT4 => ⟨MG.Same.new s3 hT4, fun ⟨l, hl⟩ => ?_⟩⟩⟩
          exact (rw_new (rc_mono C) (hid_same D2 H3) hT4 (hl4.trans hxl) h3).hid (rc_mono C) hl
      refine ⟨D, ys, rfl, .inl ⟨SqL.of e2, fun T5 hT5 => ?_⟩⟩
      have s4 : Same H (upd H2 T5 (.tup ys)) := MG.Same.new s2 hT5
      exact make_mat (tb_new (rc_mono C) (hid_same D H2) hT5 (hl3.trans hl) h2) zA fun m H' _ s h => k m H' (s4.trans s) h
    · -- a Matrix
      obtain ⟨dy, u, eb, hU⟩ := id hB
      refine ⟨_, rfl, .ref b, _, false, false, false, rfl, hB.tyx T, T.kMI, T.kMB, T.kMR, _, rfl, iteF ?_⟩
      refine ⟨_, rfl, .ref b, _, _, _, _, rfl, .own CM, hB.tyx T, T.kMM, _, rfl, iteF ?_⟩
      -- if self.columns != other.rows
      refine ⟨_, rfl, a, dx, _, rfl, ea, a, r, c, f, rfl, hA, z1, _, rfl, b, dy, _, rfl, eb, b, r2, c2, g, rfl, hB, rfl, _, rfl, ?_⟩
      by_cases hcr : c = r2
      · subst hcr
        obtain ⟨U, V', dU, dV, k⟩ := k1 rfl
        refine ifF (by simp) ?_
        refine ⟨_, rfl, a, CM, dx, _, _, rfl, ea, T.clM, T.nE, mfl_at t, _, rfl, b, dy, _, rfl, eb, b, dy, u, rfl, eb, t, u, r, c, c2, f, g, U, V', rfl, hT, hU, zA, zB, dU, dV, bA, bB, fun p H1 s1 h1 => ?_⟩
        exact make_mat h1 ⟨z1, z2, zB.2.2⟩ fun m H' _ s h => k m H' (s1.trans s) h
      · refine ifT (by simp; omega) ?_
        exact ⟨_, rfl, a, dx, _, rfl, ea, a, r, c, f, rfl, hA, z1, _, rfl, b, dy, _, rfl, eb, b, r2, c2, g, rfl, hB, _, _, rfl, fun d H' s5 n e => k2 hcr H (Same.refl H) d H' s5 n e⟩
abbrev MMulC (P : Program) (w : World) (K : PySem.W.Frag) (mg : Str → Option Value) (base : Heap) (C CM CX : Addr) : Prop := OpXF P w K mg base 12 CM C .Mult (spMMul C CM CX)
/-! ### - -/
def spMNeg (C CM : Addr) : Sp := fun vs H Q _ => ∃ (a : Addr) (r c : Nat) (f : Nat → Nat → Rat), vs = [.ref a] ∧ MtAt C CM H a r c f ∧ Sz r c ∧ Bds r c f 100 ∧ ∀ m H', Same H H' → MtAt C CM H' m r c (fun i j => f i j * Rat.divInt (-1) 1) → Q (.ref m) H'
/-! ### ==, of equal tables -/
theorem FnOk.imp {CX : CXT} {k : Nat} {f : Addr} {fd : FuncData} {ps : List Str} {sp sp' : Sp} (F : FnOk P w K mg base CX k f fd ps sp) (h : ∀ vs H Q E, sp' vs H Q E → sp vs H Q E) : FnOk P w K mg base CX k f fd ps sp' :=
  ⟨fun vs H Q E q => F.len vs H Q E (h vs H Q E q), fun A outer s H args us vs Q E hr e hb r q => F.run A outer s H args us vs Q E hr e hb r (h vs H Q E q)⟩
def REq (C : Addr) : Addr → Addr → Hp → Prop := fun a b H => ∃ p, RatAt C H a p ∧ RatAt C H b p
theorem spEqR_imp : ∀ vs H Q E, L2.spEq (REq C) vs H Q E → spEqR K C vs H Q E := by
  rintro vs H Q E ⟨a, b, rfl, ⟨p, h1, h2⟩, k⟩
  refine ⟨a, p, .ref b, rfl, h1, .inl ⟨b, p, rfl, h2, ?_⟩⟩
  rw [decide_eq_true rfl]
  exact k H Ext.rfl'
theorem rcG_mat {X : Cx} (o : EqF X.prog X.w X.K X.mg X.base 2 C (spEqR K C)) : RcG X 4 (DTup X.K (DTup X.K (DIns C (REq C)))) := by
  obtain ⟨f, fd, ps, n, F, b⟩ := o.ex
  have m0 : Mon (DIns C (REq C)) := mon_ins fun a b H H' e ⟨p, h1, h2⟩ => ⟨p, h1.same e, h2.same e⟩
  exact rcG_tup (mon_tup m0) (eqG_tup m0 (eqG_ins (FnOk.imp F spEqR_imp) n.eq n.fn b pass0))
theorem dtup_of {H : Hp} {t u : Addr} {r c : Nat} {f : Nat → Nat → Rat} (h : Tb (RC C) H t r c f) (h' : Tb (RC C) H u r c f) : DTup K (DTup K (DIns C (REq C))) (.ref t) (.ref u) H := by
  obtain ⟨rs, et, hl, hrow⟩ := h
  obtain ⟨rs2, eu, hl2, hrow2⟩ := h'
  refine ⟨t, u, rs, rs2, rfl, rfl, SqT.of et, SqT.of eu, by omega, fun i x y hx hy => ?_⟩
  obtain ⟨p, xs, rfl, hp, hxl, hc⟩ := hrow i x hx
  obtain ⟨p2, xs2, rfl, hp2, hxl2, hc2⟩ := hrow2 i y hy
  refine ⟨p, p2, xs, xs2, rfl, rfl, SqT.of hp, SqT.of hp2, by omega, fun j x y hx hy => ?_⟩
  obtain ⟨a, rfl, ha⟩ := hc j x hx
  obtain ⟨b, rfl, hb⟩ := hc2 j y hy
  obtain ⟨d1, e1⟩ := id ha
  obtain ⟨d2, e2⟩ := id hb
  exact ⟨a, b, d1, d2, _, _, rfl, rfl, e1, e2, f i j, ha, hb⟩
def spMEq (C CM : Addr) : Sp := fun vs H Q _ => ∃ (a b : Addr) (r c : Nat) (f : Nat → Nat → Rat), vs = [.ref a, .ref b] ∧ MtAt C CM H a r c f ∧ MtAt C CM H b r c f ∧ ∀ H', Same H H' → Q (.bl true) H'
theorem sc_Matrix___eq__ : FnScope ["self", "other"] ["self", "other"] (defScope s_Matrix___eq__) := ⟨rfl, rfl, rfl, by decide +kernel, rfl, by decide +kernel, by decide +kernel⟩
theorem ok_meq {f : Addr} {fd : FuncData} (F : Fun K "__eq__" "Matrix.__eq__" s_Matrix___eq__ f fd) (T : TxM K mg C CM) (o_eq : EqF P w K mg base 2 C (spEqR K C)) : FnOk P w K mg base CX0 6 f fd ["self", "other"] (spMEq C CM) := by
  refine F.ok sc_Matrix___eq__ (fun vs H Q E h => ?_) (fun cdv A outer s H vs Q E hr h => ?_)
  · obtain ⟨a, b, r, c, f, rfl, _⟩ := h
    rfl
  · obtain ⟨a, b, r, c, f, rfl, hA, hB, k⟩ := h
    refine ⟨_, (pss_one (ps_ret (pe_and (pe_callB (id := "isinstance") (call_isiK (K := K)) (by rfl) T.b_isinstance (by decide +kernel) (pa_cons (pv 1) (pa_cons (pe_glob (v := V.ref CM) rfl T.g_Matrix rfl) pa_nil))) (pe_one (pe_cmpR (op_eqG (rcG_mat (C := C) (K := K) o_eq) (hr.mono (by decide))) (pe_fldK (K := K) (pv 0) rfl) (pe_fldK (K := K) (pv 1) rfl) (nomark _)))))), ?_⟩
    obtain ⟨dx, t, ea, hT⟩ := id hA
    obtain ⟨dy, u, eb, hU⟩ := id hB
    refine ⟨_, rfl, .ref b, _, _, _, _, rfl, .own CM, hB.tyx T, T.kMM, _, rfl, iteT ?_⟩
    exact ⟨_, rfl, a, CM, dx, _, _, rfl, ea, T.clM, T.nE, mfl_at t, _, rfl, b, CM, dy, _, _, rfl, eb, T.clM, T.nE, mfl_at u, dtup_of hT hU, fun H' s => k H' s⟩
end
end Lw

namespace Lw
open PySem PySem.Spec PyProof.Rows L2 MG
abbrev s__law_low : Stmt := top 39
abbrev s__law_turn : Stmt := top 41
abbrev s__law_told : Stmt := top 46
abbrev s__law_pairs : Stmt := top 47
abbrev s__law_is : Stmt := top 48
abbrev s__law_entries : Stmt := top 49
abbrev s__law_dot : Stmt := top 40
abbrev s__law_times : Stmt := top 42
/-! ### the law's tables: lists of lists of ints over one bottom -/
def LL (H : Hp) (L : Addr) (r c : Nat) (A : Nat → Nat → Int) : Prop := ∃ rs, H L = some (.lst rs) ∧ rs.length = r ∧ ∀ (i : Nat) (x : V), rs[i]? = some x → ∃ p, x = .ref p ∧ H p = some (.lst (rowV c (A i)))
def PrAt (H : Hp) (t : Addr) (r c : Nat) (A : Nat → Nat → Int) (u : Int) : Prop := ∃ L, H t = some (.tup [.ref L, .int u]) ∧ LL H L r c A
theorem LL.same {H H' : Hp} {L : Addr} {r c : Nat} {A : Nat → Nat → Int} (h : LL H L r c A) (s : Same H H') : LL H' L r c A := by
  obtain ⟨rs, e, hl, hr⟩ := h
  exact ⟨rs, s _ _ e, hl, fun i x hx => (hr i x hx).elim fun p e => ⟨p, e.1, s _ _ e.2⟩⟩
theorem PrAt.same {H H' : Hp} {t : Addr} {r c : Nat} {A : Nat → Nat → Int} {u : Int} (h : PrAt H t r c A u) (s : Same H H') : PrAt H' t r c A u := h.elim fun L e => ⟨L, s _ _ e.1, e.2.same s⟩
/-- the fractions of a table -/
def qv (A : Nat → Nat → Int) (u : Int) : Nat → Nat → Rat := fun i j => Rat.divInt (A i j) u
/-- its ints are below 10 ^ k -/
structure Bn (r c : Nat) (A : Nat → Nat → Int) (u : Int) (k : Nat) : Prop where
  pos : 0 < u
  ub : u.natAbs < 10 ^ k
  ab : ∀ i j, i < r → j < c → (A i j).natAbs < 10 ^ k
theorem Bn.mono {r c : Nat} {A : Nat → Nat → Int} {u : Int} {k k' : Nat} (h : Bn r c A u k) (hk : k ≤ k') : Bn r c A u k' := by
  have := Nat.pow_le_pow_right (show 0 < 10 by decide) hk
  exact ⟨h.pos, Nat.lt_of_lt_of_le h.ub this, fun i j hi hj => Nat.lt_of_lt_of_le (h.ab i j hi hj) this⟩
theorem Bn.bds {r c : Nat} {A : Nat → Nat → Int} {u : Int} {k : Nat} (h : Bn r c A u k) : Bds r c (qv A u) k := fun i j hi hj => bd_div (by have := h.pos; omega) (h.ab i j hi hj) h.ub
/-- a new list of rows: the row list in the heap without D -/
theorem row_hid {H H2 : Hp} {D D2 : Addr} {ys : List V} {c : Nat} {g : Nat → Int} (nD : H D ≠ none) (hD2 : H D2 = none) (e : H2 D2 = some (.lst ys)) (hl : ys.length = c) (h : ∀ (j : Nat) (y : V), ys[j]? = some y → y = .int (g j)) : (hid D H2) D2 = some (.lst (rowV c g)) := by
  have n : D2 ≠ D := fun q => nD (q ▸ hD2)
  rw [hid_ne n, e]
  exact congrArg _ (congrArg _ (ints_of hl h))
/-- a row of a list of lists that is made -/
abbrev RowR (c : Nat) (A : Nat → Nat → Int) : Nat → V → Hp → Prop := fun i y G => ∃ p, y = .ref p ∧ G p = some (.lst (rowV c (A i)))
theorem rowR_same {c : Nat} {A : Nat → Nat → Int} : ∀ i y H H', RowR c A i y H → Same H H' → RowR c A i y H' := fun i y H H' ⟨p, e, h⟩ s => ⟨p, e, s _ _ h⟩
theorem ll_of {H : Hp} {D : Addr} {ys : List V} {r c : Nat} {A : Nat → Nat → Int} (e : H D = some (.lst ys)) (hl : ys.length = r) (h : ∀ (i : Nat) (y : V), ys[i]? = some y → RowR c A i y (hid D H)) : LL H D r c A :=
  ⟨ys, e, hl, fun i y hy => (h i y hy).elim fun p q => ⟨p, q.1, hid_same D H _ _ q.2⟩⟩
section
variable {P : Program} {w : World} {K : PySem.W.Frag} {mg : Str → Option Value} {base : Heap} {C CM CX : Addr}
/-! ### _law_low -/
def spLow : Sp := fun vs H Q _ => ∃ (t : Addr) (r c : Nat) (A : Nat → Nat → Int) (u : Int) (k : Nat), vs = [.ref t] ∧ PrAt H t r c A u ∧ r ≤ 1000 ∧ c ≤ 1000 ∧ Bn r c A u k ∧ k ≤ 390 ∧
  ∀ t' H' A' u', Same H H' → PrAt H' t' r c A' u' → Bn r c A' u' k → u' ∣ u → (∀ i j, i < r → j < c → qv A' u' i j = qv A u i j) → Q (.ref t') H'
theorem fdiv_dvd {g a : Int} (hg : 0 < g) (h : g ∣ a) : a = g * a.fdiv g := by
  obtain ⟨m, rfl⟩ := h
  rw [Int.mul_fdiv_cancel_left _ (by omega)]
theorem fdiv_abs {g a : Int} (hg : 0 < g) (h : g ∣ a) : (a.fdiv g).natAbs ≤ a.natAbs := by
  have e := fdiv_dvd hg h
  conv => rhs; rw [e]
  rw [Int.natAbs_mul]
  exact Nat.le_mul_of_pos_left _ (by omega)
theorem sc__law_low : FnScope ["_law_pair", "_law_both", "_law_line", "_law_cell"] ["_law_pair"] (defScope s__law_low) := ⟨rfl, rfl, rfl, by decide +kernel, rfl, by decide +kernel, by decide +kernel⟩
theorem ok_low {f : Addr} {fd : FuncData} (F : Fun K "_law_low" "_law_low" s__law_low f fd) (T : Blt mg) (c_common : CommonC P w K mg base) : FnG P w K mg base CX0 4 f fd ["_law_pair"] spLow := by
  refine fun_okG F sc__law_low (fun vs H Q E h => ?_) (fun cdv A' outer s H vs Q E bare hr h => ?_)
  · obtain ⟨t, r, c, A, u, k, rfl, _⟩ := h
    rfl
  · obtain ⟨t, r, c, A, u, k, rfl, ⟨L, ht, rs, hL, hl, hrow⟩, hr1, hc1, bn, hk, kk⟩ := h
    refine ⟨_, (pss_cons (ps_set (i := 1) sc__law_low.nd rfl (Or.inr rfl) (pe_ix (ix_tupK (K := K)) (pv 0) pe_int (fun _ _ => rfl)))
  (pss_cons (ps_for PassesOwn.never rfl (pi_listK (K := K) (pe_ix (ix_tupK (K := K)) (pv 0) pe_int (fun _ _ => rfl))) (pg_name (i := 2) sc__law_low.nd rfl (Or.inl rfl))
  (pss_one (ps_for PassesOwn.never rfl (pi_listK (K := K) (pv 2)) (pg_name (i := 3) sc__law_low.nd rfl (Or.inl rfl))
  (pss_one (ps_set (i := 1) sc__law_low.nd rfl (Or.inr rfl) (pe_cg c_common bare hr (by decide) rfl (pa_cons (pv 1) (pa_cons (pv 3) pa_nil))))))))
  (pss_one (ps_ret (pe_tup (pa_cons (pe_lcI (pe_lc (own := [("_law_line", 2)]) rfl sc__law_low.nd (pi_listK (K := K) (pe_ix (ix_tupK (K := K)) (pv 0) pe_int (fun _ _ => rfl))) (blkOk_by (N := ["_law_pair", "_law_both", "_law_line", "_law_cell"]) (sc := (defScope s__law_low)) (by decide +kernel)) (fun _ _ _ _ _ => (pg_name (i := 2) sc__law_low.nd rfl (Or.inl rfl))) (fun _ _ _ _ _ => pts_nil) (fun _ _ _ _ _ => (pe_cut (pe_lcI (pe_lc (own := [("_law_cell", 3)]) rfl sc__law_low.nd (pi_listK (K := K) (pv 2)) (blkOk_by (N := ["_law_pair", "_law_both", "_law_line", "_law_cell"]) (sc := ({ kind := .function, names := [(PySem.Str.ofString ".0", .local), (PySem.Str.ofString "_law_line", .local), (PySem.Str.ofString "_law_both", .cell)], isGenerator := false, isCoroutine := false } : Scope)) (by decide +kernel)) (fun _ _ _ _ _ => (pg_name (i := 3) sc__law_low.nd rfl (Or.inl rfl))) (fun _ _ _ _ _ => pts_nil) (fun _ _ _ _ _ => (pe_cut (pe_op op_fdivZ (pv 3) (pv 1)))))))))) (pa_cons (pe_op op_fdivZ (pe_ix (ix_tupK (K := K)) (pv 0) pe_int (fun _ _ => rfl)) (pv 1)) pa_nil))))))), ?_⟩
    refine ⟨_, rfl, t, _, _, _, rfl, rfl, SqT.of ht, rfl, ?_⟩
    -- the common divisor
    refine ⟨_, rfl, t, _, _, _, rfl, rfl, SqT.of ht, rfl, L, rfl, ⟨rs, SqL.of hL⟩, ?_⟩
    refine for_list (K := K) (a := L) (xs := rs) (fun i σ H' => H' = H ∧ ∃ (g : Int) (v2 v3 : Option V), σ = [some (.ref t), some (.int g), v2, v3] ∧ 0 < g ∧ g ∣ u ∧ ∀ k j, k < i → j < c → g ∣ A k j) ⟨rfl, u, none, none, rfl, bn.pos, ⟨1, by simp⟩, fun k j hk => absurd hk (Nat.not_lt_zero k)⟩ ?_ ?_ ?_
    · rintro i σ H' _ ⟨rfl, _⟩
      exact SqL.of hL
    · rintro i x σ H' hx ⟨rfl, g, v2, v3, rfl, hg0, hgu, hg⟩
      obtain ⟨p, rfl, hp⟩ := hrow i x hx
      refine ⟨_, rfl, p, rfl, ⟨_, SqL.of hp⟩, ?_⟩
      refine for_list (K := K) (a := p) (xs := rowV c (A i)) (fun j σ H'' => H'' = H' ∧ ∃ (g : Int) (v3 : Option V), σ = [some (.ref t), some (.int g), some (.ref p), v3] ∧ 0 < g ∧ g ∣ u ∧ (∀ k j, k < i → j < c → g ∣ A k j) ∧ ∀ m, m < j → g ∣ A i m) ⟨rfl, g, v3, rfl, hg0, hgu, hg, fun m hm => absurd hm (Nat.not_lt_zero m)⟩ ?_ ?_ ?_
      · rintro j σ H'' _ ⟨rfl, _⟩
        exact SqL.of hp
      · rintro j y σ H'' hy ⟨rfl, g, v3, rfl, hg0, hgu, hg, hgi⟩
        obtain ⟨hj, rfl⟩ := rowV_get hy
        refine ⟨_, rfl, _, rfl, g, A i j, rfl, ?_⟩
        have d1 : ((Int.gcd g (A i j) : Nat) : Int) ∣ g := Int.gcd_dvd_left g (A i j)
        have d2 : ((Int.gcd g (A i j) : Nat) : Int) ∣ A i j := Int.gcd_dvd_right g (A i j)
        refine ⟨rfl, _, _, rfl, ?_, Int.dvd_trans d1 hgu, fun k m h1 h2 => Int.dvd_trans d1 (hg k m h1 h2), fun m hm => ?_⟩
        · have := Int.gcd_pos_of_ne_zero_left (A i j) (show g ≠ 0 by omega)
          omega
        · by_cases e : m = j
          · subst e; exact d2
          · exact Int.dvd_trans d1 (hgi m (by omega))
      · rintro σ H'' ⟨rfl, g, v3, rfl, hg0, hgu, hg, hgi⟩
        refine ⟨rfl, g, _, v3, rfl, hg0, hgu, fun k m h1 h2 => ?_⟩
        by_cases e : k = i
        · subst e; exact hgi m (by rw [rowV_len]; exact h2)
        · exact hg k m (by omega) h2
    rintro σ H' ⟨rfl, g, v2, v3, rfl, hg0, hgu, hg⟩
    rw [hl] at hg
    have smg : Sm g := by
      have h1 : g ≤ u := Int.le_of_dvd bn.pos hgu
      have := bn.ub
      exact smI (k := k) (by omega) hk
    -- return ([[cell // both ..] ..], pair[1] // both)
    refine ⟨_, rfl, t, _, _, _, rfl, rfl, SqT.of ht, rfl, L, rfl, ⟨rs, SqL.of hL⟩, fun D hD => ?_⟩
    refine lc_same (walk_list (K := K) (a := L) (xs := rs)) hD (by omega) (RowR c fun i j => (A i j).fdiv g) rowR_same (fun G s => SqL.of (s _ _ hL)) yat_same (fun i x H1 H1' hi s1 nD hy => ?_) fun ys H1 hl1 s1 e1 h1 => ?_
    · obtain ⟨rfl, hx⟩ := hy
      obtain ⟨p, rfl, hp⟩ := hrow i x hx
      refine ⟨_, fun _ h => h, wipe_one, ?_⟩
      refine ⟨_, rfl, p, rfl, ⟨_, SqL.of (s1 _ _ hp)⟩, fun D2 hD2 => ?_⟩
      refine lc_same (walk_list (K := K) (a := p) (xs := rowV c (A i))) hD2 (by rw [rowV_len]; omega) (fun j y _ => y = .int ((A i j).fdiv g)) (fun _ _ _ _ h _ => h) (fun G s => SqL.of (s _ _ (s1 _ _ hp))) yat_same (fun j y H2 H2' hj s2 _ hy => ?_) fun ys2 H2 hl2 s2 e2 h2 => ?_
      · obtain ⟨rfl, hy⟩ := hy
        obtain ⟨hj, rfl⟩ := rowV_get hy
        exact ⟨_, fun _ h => h, wipe_one, _, rfl, _, rfl, _, _, rfl, rfl, sm_div smg (by omega), Same.refl _, fun _ => rfl⟩
      · exact ⟨s2, fun _ => ⟨D2, rfl, row_hid nD hD2 e2 (hl2.trans rowV_len) h2⟩⟩
    refine ⟨_, rfl, t, _, _, _, rfl, rfl, SqT.of (s1 _ _ ht), rfl, _, rfl, _, _, rfl, rfl, sm_div smg (by omega), by show 2 ≤ sizeLine; decide, fun T2 hT2 => ?_⟩
    have s2 := MG.Same.new (o := .tup [.ref D, .int (u.fdiv g)]) (Same.refl H1) hT2
    have eu := fdiv_dvd hg0 hgu
    have hu0 : 0 < u.fdiv g := by
      have := bn.pos
      rcases Int.lt_trichotomy (u.fdiv g) 0 with h | h | h
      · have := Int.mul_neg_of_pos_of_neg hg0 h
        omega
      · rw [h] at eu; omega
      · exact h
    refine kk T2 _ (fun i j => (A i j).fdiv g) (u.fdiv g) (s1.trans s2) ⟨D, upd_same, (ll_of e1 (hl1.trans hl) h1).same s2⟩ ⟨hu0, Nat.lt_of_le_of_lt (fdiv_abs hg0 hgu) bn.ub, fun i j hi hj => Nat.lt_of_le_of_lt (fdiv_abs hg0 (hg i j hi hj)) (bn.ab i j hi hj)⟩ ⟨g, by rw [Int.mul_comm]; exact eu⟩ fun i j hi hj => ?_
    have ea := fdiv_dvd hg0 (hg i j hi hj)
    show Rat.divInt ((A i j).fdiv g) (u.fdiv g) = Rat.divInt (A i j) u
    conv => rhs; rw [ea, eu]
    rw [Rat.divInt_mul_left (by omega)]
abbrev LowTC (P : Program) (w : World) (K : PySem.W.Frag) (mg : Str → Option Value) (base : Heap) : Prop := CalG P w K mg base 4 "_law_low" spLow []
/-! ### _law_turn -/
def spTurn : Sp := fun vs H Q _ => ∃ (t : Addr) (r c : Nat) (A : Nat → Nat → Int) (u : Int), vs = [.ref t] ∧ PrAt H t r c A u ∧ 0 < r ∧ r ≤ 1000 ∧ c ≤ 1000 ∧ ∀ t' H', Same H H' → PrAt H' t' c r (fun i j => A j i) u → Q (.ref t') H'
theorem sc__law_turn : FnScope ["_law_one", "_law_j", "_law_line"] ["_law_one"] (defScope s__law_turn) := ⟨rfl, rfl, rfl, by decide +kernel, rfl, by decide +kernel, by decide +kernel⟩
theorem ok_turn {f : Addr} {fd : FuncData} (F : Fun K "_law_turn" "_law_turn" s__law_turn f fd) (T : Blt mg) : FnG P w K mg base CX0 2 f fd ["_law_one"] spTurn := by
  refine fun_okG F sc__law_turn (fun vs H Q E h => ?_) (fun cdv A' outer s H vs Q E bare hr h => ?_)
  · obtain ⟨t, r, c, A, u, rfl, _⟩ := h
    rfl
  · obtain ⟨t, r, c, A, u, rfl, ⟨L, ht, rs, hL, hl, hrow⟩, hr0, hr1, hc1, k⟩ := h
    refine ⟨_, (pss_one (ps_ret (pe_tup (pa_cons (pe_lcI (pe_lc (own := [("_law_j", 1)]) rfl sc__law_turn.nd (pi_range1 (by rfl) T.b_range (pa_cons (pe_callB (id := "len") (call_len_seqK (K := K)) (by rfl) T.b_len (by decide +kernel) (pa_cons (pe_ix (ix_listK (K := K)) (pe_ix (ix_tupK (K := K)) (pv 0) pe_int (fun _ _ => rfl)) pe_int (fun _ _ => rfl)) pa_nil)) pa_nil)) (blkOk_by (N := ["_law_one", "_law_j", "_law_line"]) (sc := (defScope s__law_turn)) (by decide +kernel)) (fun _ _ _ _ _ => (pg_name (i := 1) sc__law_turn.nd rfl (Or.inr rfl))) (fun _ _ _ _ _ => pts_nil) (fun _ _ _ _ _ => (pe_cut (pe_lcI (pe_lc (own := [("_law_line", 2)]) rfl sc__law_turn.nd (pi_listK (K := K) (pe_ix (ix_tupK (K := K)) (pv 0) pe_int (fun _ _ => rfl))) (blkOk_by (N := ["_law_one", "_law_j", "_law_line"]) (sc := ({ kind := .function, names := [(PySem.Str.ofString ".0", .local), (PySem.Str.ofString "_law_j", .cell), (PySem.Str.ofString "_law_one", .cell)], isGenerator := false, isCoroutine := false } : Scope)) (by decide +kernel)) (fun _ _ _ _ _ => (pg_name (i := 2) sc__law_turn.nd rfl (Or.inl rfl))) (fun _ _ _ _ _ => pts_nil) (fun _ _ _ _ _ => (pe_cut (pe_ix (ix_listK (K := K)) (pv 2) (pv 1) (fun _ _ => rfl)))))))))) (pa_cons (pe_ix (ix_tupK (K := K)) (pv 0) pe_int (fun _ _ => rfl)) pa_nil))))), ?_⟩
    have h0 : rs[0]? = some rs[0] := List.getElem?_eq_getElem (by omega)
    obtain ⟨p0, e0, hp0⟩ := hrow 0 _ h0
    refine ⟨_, rfl, t, _, _, _, rfl, rfl, SqT.of ht, rfl, L, _, _, _, rfl, rfl, SqL.of hL, atI_nat h0, p0, _, e0 ▸ rfl, .inl (SqL.of hp0), ((rowV c (A 0)).length : Int), rfl, ?_, ?_, fun D hD => ?_⟩
    · rw [rowV_len]; omega
    · rw [rowV_len]; omega
    have hc0 : (((rowV c (A 0)).length : Nat) : Int).toNat = c := by rw [rowV_len]; omega
    rw [hc0]
    refine lc_same (walk_range (lo := 0) (n := c)) hD (by omega) (RowR r fun i j => A j i) rowR_same (fun G s => trivial) yfn_same (fun m y H1 H1' hm s1 nD hy => ?_) fun ys H1 hl1 s1 e1 h1 => ?_
    · obtain ⟨rfl, rfl⟩ := hy
      refine ⟨_, fun _ h => h, wipe_one, ?_⟩
      refine ⟨_, rfl, t, _, _, _, rfl, rfl, SqT.of (s1 _ _ ht), rfl, L, rfl, ⟨rs, SqL.of (s1 _ _ hL)⟩, fun D2 hD2 => ?_⟩
      refine lc_same (walk_list (K := K) (a := L) (xs := rs)) hD2 (by omega) (fun j y _ => y = .int (A j m)) (fun _ _ _ _ h _ => h) (fun G s => SqL.of (s _ _ (s1 _ _ hL))) yat_same (fun j x H2 H2' hj s2 _ hy => ?_) fun ys2 H2 hl2 s2 e2 h2 => ?_
      · obtain ⟨rfl, hx⟩ := hy
        obtain ⟨p, rfl, hp⟩ := hrow j x hx
        have ei : V.int (0 + (m : Int)) = V.int (m : Int) := by rw [Int.zero_add]
        exact ⟨_, fun _ h => h, wipe_one, _, rfl, _, rfl, p, _, _, _, rfl, ei, SqL.of (s2 _ _ (s1 _ _ hp)), atI_nat (rowV_at hm), Same.refl _, fun _ => rfl⟩
      · exact ⟨s2, fun _ => ⟨D2, rfl, row_hid nD hD2 e2 (hl2.trans hl) h2⟩⟩
    refine ⟨_, rfl, t, _, _, _, rfl, rfl, SqT.of (s1 _ _ ht), rfl, by show 2 ≤ sizeLine; decide, fun T2 hT2 => ?_⟩
    have s2 := MG.Same.new (o := .tup [.ref D, .int u]) (Same.refl H1) hT2
    exact k T2 _ (s1.trans s2) ⟨D, upd_same, (ll_of e1 hl1 h1).same s2⟩
abbrev TurnC (P : Program) (w : World) (K : PySem.W.Frag) (mg : Str → Option Value) (base : Heap) : Prop := CalG P w K mg base 2 "_law_turn" spTurn []
/-! ### _law_pairs -/
def spPairs (K : PySem.W.Frag) : Sp := fun vs H Q _ => ∃ (t : Addr) (r c : Nat) (A : Nat → Nat → Int) (u : Int), vs = [.ref t] ∧ PrAt H t r c A u ∧ r ≤ 1000 ∧ c ≤ 1000 ∧ u ≠ 0 ∧ Sm u ∧ ∀ D H', Same H H' → Dp K H' (.ref D) (tabD r c (qv A u)) → Q (.ref D) H'
theorem pr_dp {H : Hp} {T : Addr} {p : Rat} (e : H T = some (.tup [.int p.num, .int p.den])) : Dp K H (.ref T) (prD p) := .tup (SqT.of e) (.cons (.int _) (.cons (.int _) .nil))
theorem sc__law_pairs : FnScope ["_law_pair", "_law_line", "_law_cell"] ["_law_pair"] (defScope s__law_pairs) := ⟨rfl, rfl, rfl, by decide +kernel, rfl, by decide +kernel, by decide +kernel⟩
theorem ok_pairs {f : Addr} {fd : FuncData} (F : Fun K "_law_pairs" "_law_pairs" s__law_pairs f fd) (T : Blt mg) (c_lowest : CalG P w K mg base 4 "_law_lowest" spLowest []) : FnG P w K mg base CX0 6 f fd ["_law_pair"] (spPairs K) := by
  refine fun_okG F sc__law_pairs (fun vs H Q E h => ?_) (fun cdv A' outer s H vs Q E bare hr h => ?_)
  · obtain ⟨t, r, c, A, u, rfl, _⟩ := h
    rfl
  · obtain ⟨t, r, c, A, u, rfl, ⟨L, ht, rs, hL, hl, hrow⟩, hr1, hc1, hu, su, k⟩ := h
    refine ⟨_, (pss_one (ps_ret (pe_lcI (pe_lc (own := [("_law_line", 1)]) rfl sc__law_pairs.nd (pi_listK (K := K) (pe_ix (ix_tupK (K := K)) (pv 0) pe_int (fun _ _ => rfl))) (blkOk_by (N := ["_law_pair", "_law_line", "_law_cell"]) (sc := (defScope s__law_pairs)) (by decide +kernel)) (fun _ _ _ _ _ => (pg_name (i := 1) sc__law_pairs.nd rfl (Or.inl rfl))) (fun _ _ _ _ _ => pts_nil) (fun _ _ _ _ _ => (pe_cut (pe_lcI (pe_lc (own := [("_law_cell", 2)]) rfl sc__law_pairs.nd (pi_listK (K := K) (pv 1)) (blkOk_by (N := ["_law_pair", "_law_line", "_law_cell"]) (sc := ({ kind := .function, names := [(PySem.Str.ofString ".0", .local), (PySem.Str.ofString "_law_line", .local), (PySem.Str.ofString "_law_pair", .cell)], isGenerator := false, isCoroutine := false } : Scope)) (by decide +kernel)) (fun _ _ _ _ _ => (pg_name (i := 2) sc__law_pairs.nd rfl (Or.inl rfl))) (fun _ _ _ _ _ => pts_nil) (fun _ _ _ _ _ => (pe_cut (pe_cg c_lowest bare hr (by decide) rfl (pa_cons (pv 2) (pa_cons (pe_ix (ix_tupK (K := K)) (pv 0) pe_int (fun _ _ => rfl)) pa_nil))))))))))))), ?_⟩
    refine ⟨_, rfl, t, _, _, _, rfl, rfl, SqT.of ht, rfl, L, rfl, ⟨rs, SqL.of hL⟩, fun D hD => ?_⟩
    refine lc_same (walk_list (K := K) (a := L) (xs := rs)) hD (by omega) (fun i y G => Dp K G y (rowD c (qv A u i))) (fun i y G G' h s => MG.Dp.same s h) (fun G s => SqL.of (s _ _ hL)) yat_same (fun i x H1 H1' hi s1 nD hy => ?_) fun ys H1 hl1 s1 e1 h1 => ?_
    · obtain ⟨rfl, hx⟩ := hy
      obtain ⟨p, rfl, hp⟩ := hrow i x hx
      refine ⟨_, fun _ h => h, wipe_one, ?_⟩
      refine ⟨_, rfl, p, rfl, ⟨_, SqL.of (s1 _ _ hp)⟩, fun D2 hD2 => ?_⟩
      refine lc_same (walk_list (K := K) (a := p) (xs := rowV c (A i))) hD2 (by rw [rowV_len]; omega) (fun j y G => ∃ T, y = .ref T ∧ G T = some (.tup [.int (qv A u i j).num, .int (qv A u i j).den])) (fun j y G G' ⟨T, e, h⟩ s => ⟨T, e, s _ _ h⟩) (fun G s => SqL.of (s _ _ (s1 _ _ hp))) yat_same (fun j y H2 H2' hj s2 _ hy => ?_) fun ys2 H2 hl2 s2 e2 h2 => ?_
      · obtain ⟨rfl, hy⟩ := hy
        obtain ⟨hj, rfl⟩ := rowV_get hy
        refine ⟨_, fun _ h => h, wipe_one, ?_⟩
        exact ⟨_, rfl, _, rfl, t, _, _, _, rfl, rfl, SqT.of (s2 _ _ (s1 _ _ ht)), rfl, _, _, rfl, hu, su, fun T2 hT2 => ⟨MG.Same.new (Same.refl _) hT2, fun ⟨l, hl⟩ => ⟨T2, rfl, by rw [hid_ne (ne_of upd_same hl (by intro z; cases z))]; exact upd_same⟩⟩⟩
      · refine ⟨s2, fun ⟨l, hl⟩ => ?_⟩
        have n : D2 ≠ D := fun q => nD (q ▸ hD2)
        have e3 : (hid D H2) D2 = some (.lst ys2) := by rw [hid_ne n]; exact e2
        refine dp_row e3 (hl2.trans rowV_len) fun j y hy => ?_
        obtain ⟨T2, rfl, h⟩ := h2 j y hy
        have h' := hid_same D2 H2 _ _ h
        exact pr_dp (by rw [hid_ne (ne_of h' hl (by intro z; cases z))]; exact h')
    exact k D H1 s1 (dp_row e1 (hl1.trans hl) fun i y hy => MG.Dp.same (hid_same D H1) (h1 i y hy))
abbrev PairsC (P : Program) (w : World) (K : PySem.W.Frag) (mg : Str → Option Value) (base : Heap) : Prop := CalG P w K mg base 6 "_law_pairs" (spPairs K) []
/-! ### _law_told -/
def spTold (K : PySem.W.Frag) (C CM : Addr) : Sp := fun vs H Q _ => ∃ (m : Addr) (r c : Nat) (f : Nat → Nat → Rat), vs = [.ref m] ∧ MtAt C CM H m r c f ∧ r ≤ 1000 ∧ c ≤ 1000 ∧ ∀ D H', Same H H' → Dp K H' (.ref D) (tabD r c f) → Q (.ref D) H'
theorem sc__law_told : FnScope ["_law_matrix", "_law_lines", "_law_line", "_law_found", "_law_cell"] ["_law_matrix"] (defScope s__law_told) := ⟨rfl, rfl, rfl, by decide +kernel, rfl, by decide +kernel, by decide +kernel⟩
theorem ok_told {f : Addr} {fd : FuncData} (F : Fun K "_law_told" "_law_told" s__law_told f fd) (T : TxM K mg C CM) (pm_entries : EntriesC P w K mg base CM) (p_top : PropF P w K mg base 2 C "top" (spTop C)) (p_bottom : PropF P w K mg base 2 C "bottom" (spBottom C)) : FnG P w K mg base CX0 6 f fd ["_law_matrix"] (spTold K C CM) := by
  refine fun_okG F sc__law_told (fun vs H Q E h => ?_) (fun cdv A' outer s H vs Q E bare hr h => ?_)
  · obtain ⟨m, r, c, f, rfl, _⟩ := h
    rfl
  · obtain ⟨m, r, c, f, rfl, ⟨dx, t, em, rs, ht, hl, hrow⟩, hr1, hc1, k⟩ := h
    refine ⟨_, (pss_cons (ps_set (i := 1) sc__law_told.nd rfl (Or.inl rfl) (pe_pf pm_entries T.clM hr (by decide) (pv 0) rfl))
  (pss_cons (ps_if (PW.pt (pw_or (pt_not (pt_val (pe_callB (id := "isinstance") (call_isiK (K := K)) (by rfl) T.b_isinstance (by decide +kernel) (pa_cons (pv 1) (pa_cons (pe_bltn (v := V.ty "tuple") (u := Value.type "tuple") (by rfl) T.b_tuple (by decide +kernel) rfl) pa_nil))))) (pw_or1 (pt_not (pt_val (pe_callB (id := "all") (cr_allK (K := K) rfl) (by rfl) T.b_all (by decide +kernel) (pa_cons (pe_lcI (pe_lc (own := [("_law_line", 2)]) rfl sc__law_told.nd (pi_tupK (K := K) (pv 1)) (blkOk_by (N := ["_law_matrix", "_law_lines", "_law_line", "_law_found", "_law_cell"]) (sc := (defScope s__law_told)) (by decide +kernel)) (fun _ _ _ _ _ => (pg_name (i := 2) sc__law_told.nd rfl (Or.inl rfl))) (fun _ _ _ _ _ => pts_nil) (fun _ _ _ _ _ => (pe_cut (pe_callB (id := "isinstance") (call_isiK (K := K)) (by rfl) T.b_isinstance (by decide +kernel) (pa_cons (pv 2) (pa_cons (pe_bltn (v := V.ty "tuple") (u := Value.type "tuple") (by rfl) T.b_tuple (by decide +kernel) rfl) pa_nil))))))) pa_nil))))))) (pss_one (ps_ret pe_non))
  pss_nil)
  (pss_cons (ps_set (i := 3) sc__law_told.nd rfl (Or.inl rfl) (pe_lst pa_nil))
  (pss_cons (ps_for PassesOwn.never rfl (pi_tupK (K := K) (pv 1)) (pg_name (i := 2) sc__law_told.nd rfl (Or.inl rfl))
  (pss_cons (ps_if (pt_not (pt_val (pe_callB (id := "all") (cr_allK (K := K) rfl) (by rfl) T.b_all (by decide +kernel) (pa_cons (pe_lcI (pe_lc (own := [("_law_cell", 4)]) rfl sc__law_told.nd (pi_tupK (K := K) (pv 2)) (blkOk_by (N := ["_law_matrix", "_law_lines", "_law_line", "_law_found", "_law_cell"]) (sc := (defScope s__law_told)) (by decide +kernel)) (fun _ _ _ _ _ => (pg_name (i := 4) sc__law_told.nd rfl (Or.inl rfl))) (fun _ _ _ _ _ => pts_nil) (fun _ _ _ _ _ => (pe_cut (pe_callB (id := "isinstance") (call_isiK (K := K)) (by rfl) T.b_isinstance (by decide +kernel) (pa_cons (pv 4) (pa_cons (pe_glob (v := V.ref C) rfl T.g_Ratio rfl) pa_nil))))))) pa_nil)))) (pss_one (ps_ret pe_non))
  pss_nil)
  (pss_one (ps_expr (pe_bm PySem.F.plainAttrs_list PySem.F.slot_list_append PySem.F.type_list_append mt_append (pv 3) (pa_cons (pe_lcI (pe_lc (own := [("_law_cell", 4)]) rfl sc__law_told.nd (pi_tupK (K := K) (pv 2)) (blkOk_by (N := ["_law_matrix", "_law_lines", "_law_line", "_law_found", "_law_cell"]) (sc := (defScope s__law_told)) (by decide +kernel)) (fun _ _ _ _ _ => (pg_name (i := 4) sc__law_told.nd rfl (Or.inl rfl))) (fun _ _ _ _ _ => pts_nil) (fun _ _ _ _ _ => (pe_cut (pe_tup (pa_cons (pe_pf p_top T.cl hr (by decide) (pv 4) rfl) (pa_cons (pe_pf p_bottom T.cl hr (by decide) (pv 4) rfl) pa_nil))))))) pa_nil))))))
  (pss_one (ps_ret (pv 3))))))), ?_⟩
    refine ⟨_, rfl, m, dx, _, rfl, em, m, dx, t, rfl, em, ?_⟩
    -- if not isinstance(lines, tuple) or not all(..)
    refine ⟨_, rfl, .ref t, _, _, _, true, rfl, .ty "tuple", .base (.tup ht), kit_ty (by decide +kernel), _, rfl, iteF ?_⟩
    refine ⟨_, rfl, t, rfl, ⟨rs, SqT.of ht⟩, fun D hD => ?_⟩
    refine lc_same (walk_tup (K := K) (a := t) (xs := rs)) hD (by omega) (fun _ y _ => y = .bl true) (fun _ _ _ _ e _ => e) (fun H' s' => SqT.of (s' _ _ ht)) yat_same (fun i x H1 H1' hi s1 _ hy => ?_) fun ys H1 hl1 s1 e1 h1 => ?_
    · obtain ⟨rfl, hx⟩ := hy
      obtain ⟨p, xs, rfl, hp, hxl, _⟩ := hrow i x hx
      exact ⟨_, fun _ h => h, wipe_one, _, rfl, .ref p, _, _, _, _, rfl, .ty "tuple", .base (.tup (s1 _ _ hp)), kit_ty (by decide +kernel), Same.refl _, fun _ => rfl⟩
    obtain ⟨bs, hb, ab⟩ := all_bl (K := K) e1 h1
    refine ⟨D, bs, rfl, hb, _, rfl, ifF (by rw [ab]; rfl) ?_⟩
    -- found = []
    refine ⟨by show 0 ≤ sizeLine; decide, fun F0 hF0 => ?_⟩
    have sF : Same H (upd H1 F0 (.lst [])) := MG.Same.new s1 hF0
    have fF : H F0 = none := s1.free hF0
    refine ⟨_, rfl, t, rfl, ⟨rs, SqT.of (sF _ _ ht)⟩, ?_⟩
    refine for_tup (K := K) (a := t) (xs := rs) (fun i σ H' => Same H (hid F0 H') ∧ ∃ (ds : List V) (v2 v4 : Option V), σ = [some (.ref m), some (.ref t), v2, some (.ref F0), v4] ∧ H' F0 = some (.lst ds) ∧ ds.length = i ∧ ∀ (k : Nat) (y : V), ds[k]? = some y → Dp K (hid F0 H') y (rowD c (f k))) ⟨(hid_none fF).trans (hid_mono sF), [], none, none, rfl, upd_same, rfl, fun k y h => by simp at h⟩ ?_ ?_ ?_
    · rintro i σ H' _ ⟨s', _⟩
      exact SqT.of (hid_same F0 H' _ _ (s' _ _ ht))
    · rintro i x σ H' hx ⟨s', ds, v2, v4, rfl, eF, hdl, hds⟩
      have sH := s'.trans (hid_same F0 H')
      obtain ⟨p, xs, rfl, hp, hxl, hc⟩ := (hrow i x hx).same (rc_mono C) sH
      -- if not all([isinstance(cell, Ratio) ..])
      refine ⟨_, rfl, p, rfl, ⟨xs, SqT.of hp⟩, fun D2 hD2 => ?_⟩
      refine lc_same (walk_tup (K := K) (a := p) (xs := xs)) hD2 (by omega) (fun _ y _ => y = .bl true) (fun _ _ _ _ e _ => e) (fun H' s' => SqT.of (s' _ _ hp)) yat_same (fun j y H2 H2' hj s2 _ hy => ?_) fun ys2 H2 hl2 s2 e2 h2 => ?_
      · obtain ⟨rfl, hy⟩ := hy
        obtain ⟨b, rfl, hb⟩ := hc j y hy
        exact ⟨_, fun _ h => h, wipe_one, _, rfl, .ref b, _, _, _, _, rfl, .own C, (hb.same s2).tyx T.toTxR, T.kC, Same.refl _, fun _ => rfl⟩
      obtain ⟨bs2, hb2, ab2⟩ := all_bl (K := K) e2 h2
      refine ⟨D2, bs2, rfl, hb2, _, rfl, ifF (by rw [ab2]; rfl) ?_⟩
      -- found.append([(cell.top, cell.bottom) ..])
      have eF2 := s2 _ _ eF
      refine ⟨_, rfl, .inl ⟨rfl, ds, SqL.of eF2⟩, ?_⟩
      refine ⟨_, rfl, p, rfl, ⟨xs, SqT.of (s2 _ _ hp)⟩, fun D3 hD3 => ?_⟩
      refine lc_same (walk_tup (K := K) (a := p) (xs := xs)) hD3 (by omega) (fun j y G => ∃ T, y = .ref T ∧ G T = some (.tup [.int (f i j).num, .int (f i j).den])) (fun j y G G' ⟨T, e, h⟩ s => ⟨T, e, s _ _ h⟩) (fun H' s' => SqT.of (s' _ _ (s2 _ _ hp))) yat_same (fun j y H3 H3' hj s3 _ hy => ?_) fun ys3 H3 hl3 s3 e3 h3 => ?_
      · obtain ⟨rfl, hy⟩ := hy
        obtain ⟨b, rfl, hb⟩ := hc j y hy
        have hb3 := (hb.same s2).same s3
        obtain ⟨d1, e1⟩ := id hb3
        refine ⟨_, fun _ h => h, wipe_one, ?_⟩
        exact ⟨_, rfl, b, d1, _, rfl, e1, b, f i j, rfl, hb3, _, rfl, b, d1, _, rfl, e1, b, f i j, rfl, hb3, by show 2 ≤ sizeLine; decide, fun T2 hT2 => ⟨MG.Same.new (Same.refl _) hT2, fun ⟨l, hl⟩ => ⟨T2, rfl, by rw [hid_ne (ne_of upd_same hl (by intro z; cases z))]; exact upd_same⟩⟩⟩
      have eF3 := s3 _ _ eF2
      have n3 : D3 ≠ F0 := fun q => by rw [q, eF2] at hD3; cases hD3
      refine ⟨F0, ds, _, rfl, rfl, eF3, Nat.lt_of_le_of_lt (m := 1000) (by have := (List.getElem?_eq_some_iff.mp hx).1; omega) (by decide), ?_⟩
      have sh : Same (hid F0 H') (hid F0 (upd H3 F0 (.lst (ds ++ [.ref D3])))) := by rw [hid_upd]; exact hid_mono (s2.trans s3)
      refine ⟨s'.trans sh, ds ++ [.ref D3], _, _, rfl, upd_same, by simp [hdl], fun n y hy => ?_⟩
      by_cases hn : n < ds.length
      · rw [List.getElem?_append_left hn] at hy
        exact MG.Dp.same sh (hds n y hy)
      · rw [List.getElem?_append_right (by omega)] at hy
        have ey : y = .ref D3 := by simpa using List.mem_of_getElem? hy
        have en : n = i := by
          have := (List.getElem?_eq_some_iff.mp hy).1
          simp at this
          omega
        rw [ey, en]
        have e4 : (hid F0 (upd H3 F0 (.lst (ds ++ [.ref D3])))) D3 = some (.lst ys3) := by rw [hid_upd, hid_ne n3]; exact e3
        refine dp_row e4 (hl3.trans hxl) fun j y hy => ?_
        obtain ⟨T2, rfl, h⟩ := h3 j y hy
        have h' := hid_same D3 H3 _ _ h
        exact pr_dp (by rw [hid_upd, hid_ne (ne_of h' eF3 (by intro z; cases z))]; exact h')
    · rintro σ H' ⟨s', ds, v2, v4, rfl, eF, hdl, hds⟩
      exact ⟨_, rfl, k F0 H' (s'.trans (hid_same F0 H')) (dp_row eF (hdl.trans hl) fun i y hy => MG.Dp.same (hid_same F0 H') (hds i y hy))⟩
abbrev ToldC (P : Program) (w : World) (K : PySem.W.Frag) (mg : Str → Option Value) (base : Heap) (C CM : Addr) : Prop := CalG P w K mg base 6 "_law_told" (spTold K C CM) []
end
end Lw

namespace Lw
open PySem PySem.Spec PyProof.Rows L2 MG
section
variable {P : Program} {w : World} {K : PySem.W.Frag} {mg : Str → Option Value} {base : Heap} {C CM CX : Addr}
/-! ### _law_is -/
def spIs (C CM : Addr) : Sp := fun vs H Q _ => ∃ (m t : Addr) (r c : Nat) (f : Nat → Nat → Rat) (A : Nat → Nat → Int) (u : Int), vs = [.ref m, .ref t] ∧ MtAt C CM H m r c f ∧ PrAt H t r c A u ∧ r ≤ 60 ∧ c ≤ 60 ∧ u ≠ 0 ∧ Sm u ∧ Bds r c f 390 ∧ (∀ i j, i < r → j < c → f i j = qv A u i j) ∧ ∀ H', Same H H' → Q (.bl true) H'
theorem sc__law_is : FnScope ["_law_matrix", "_law_pair"] ["_law_matrix", "_law_pair"] (defScope s__law_is) := ⟨rfl, rfl, rfl, by decide +kernel, rfl, by decide +kernel, by decide +kernel⟩
theorem ok_is {f : Addr} {fd : FuncData} (F : Fun K "_law_is" "_law_is" s__law_is f fd) (T : TxM K mg C CM) (c_told : ToldC P w K mg base C CM) (c_pairs : PairsC P w K mg base) : FnG P w K mg base CX0 8 f fd ["_law_matrix", "_law_pair"] (spIs C CM) := by
  refine fun_okG F sc__law_is (fun vs H Q E h => ?_) (fun cdv A' outer s H vs Q E bare hr h => ?_)
  · obtain ⟨m, t, r, c, f, A, u, rfl, _⟩ := h
    rfl
  · obtain ⟨m, t, r, c, f, A, u, rfl, hM, hP, hr1, hc1, hu, su, bd, hf, k⟩ := h
    have hu64 := hr.units
    refine ⟨_, (pss_cons (ps_if (pt_not (pt_val (pe_callB (id := "isinstance") (call_isiK (K := K)) (by rfl) T.b_isinstance (by decide +kernel) (pa_cons (pv 0) (pa_cons (pe_glob (v := V.ref CM) rfl T.g_Matrix rfl) pa_nil))))) (pss_one (ps_ret pe_bl))
  pss_nil)
  (pss_one (ps_ret (pe_cmpR op_eq (pe_callB (id := "repr") (call_reprK (K := K) bare hu64) (by rfl) T.b_repr (by decide +kernel) (pa_cons (pe_cg c_told bare hr (by decide) rfl (pa_cons (pv 0) pa_nil)) pa_nil)) (pe_callB (id := "repr") (call_reprK (K := K) bare hu64) (by rfl) T.b_repr (by decide +kernel) (pa_cons (pe_cg c_pairs bare hr (by decide) rfl (pa_cons (pv 1) pa_nil)) pa_nil)) (nomark _))))), ?_⟩
    refine ⟨_, rfl, .ref m, _, _, _, _, rfl, .own CM, hM.tyx T, T.kMM, _, rfl, iteF ?_⟩
    refine ⟨_, rfl, m, r, c, f, rfl, hM, by omega, by omega, fun D H1 s1 h1 => ?_⟩
    have ok1 := okd_tab (m := 60) (n := 60) hr1 hc1 (by decide) bd
    refine ⟨.ref D, _, rfl, h1, ok1.sh, ok1.nd, Nat.le_trans ok1.dp (by decide), Nat.le_trans ok1.ln (by decide), ?_⟩
    refine ⟨_, rfl, t, r, c, A, u, rfl, hP.same s1, by omega, by omega, hu, su, fun D2 H2 s2 h2 => ?_⟩
    have e := tabD_congr hf
    rw [← e] at h2
    refine ⟨.ref D2, _, rfl, h2, ok1.sh, ok1.nd, Nat.le_trans ok1.dp (by decide), Nat.le_trans ok1.ln (by decide), rfl, ?_⟩
    rw [decide_eq_true rfl]
    exact k H2 (s1.trans s2)
abbrev IsC (P : Program) (w : World) (K : PySem.W.Frag) (mg : Str → Option Value) (base : Heap) (C CM : Addr) : Prop := CalG P w K mg base 8 "_law_is" (spIs C CM) []
/-! ### _law_entries -/
def spEnt (C : Addr) : Sp := fun vs H Q _ => ∃ (t : Addr) (r c : Nat) (A : Nat → Nat → Int) (u : Int), vs = [.ref t] ∧ PrAt H t r c A u ∧ r ≤ 1000 ∧ c ≤ 1000 ∧ u ≠ 0 ∧ Sm u ∧ ∀ p H', Same H H' → Tb (RC C) H' p r c (qv A u) → Q (.ref p) H'
theorem sc__law_entries : FnScope ["_law_pair", "_law_line", "_law_cell"] ["_law_pair"] (defScope s__law_entries) := ⟨rfl, rfl, rfl, by decide +kernel, rfl, by decide +kernel, by decide +kernel⟩
theorem ok_ent {f : Addr} {fd : FuncData} (F : Fun K "_law_entries" "_law_entries" s__law_entries f fd) (T : TxM K mg C CM) (m_rat2 : Rat2C P w K mg base C) : FnG P w K mg base CX0 6 f fd ["_law_pair"] (spEnt C) := by
  refine fun_okG F sc__law_entries (fun vs H Q E h => ?_) (fun cdv A' outer s H vs Q E bare hr h => ?_)
  · obtain ⟨t, r, c, A, u, rfl, _⟩ := h
    rfl
  · obtain ⟨t, r, c, A, u, rfl, ⟨L, ht, rs, hL, hl, hrow⟩, hr1, hc1, hu, su, k⟩ := h
    refine ⟨_, (pss_one (ps_ret (pe_callTy (call_tuple_ofK (K := K)) (by rfl) T.b_tuple (by decide +kernel) (pa_cons (pe_lcI (pe_lc (own := [("_law_line", 1)]) rfl sc__law_entries.nd (pi_listK (K := K) (pe_ix (ix_tupK (K := K)) (pv 0) pe_int (fun _ _ => rfl))) (blkOk_by (N := ["_law_pair", "_law_line", "_law_cell"]) (sc := (defScope s__law_entries)) (by decide +kernel)) (fun _ _ _ _ _ => (pg_name (i := 1) sc__law_entries.nd rfl (Or.inl rfl))) (fun _ _ _ _ _ => pts_nil) (fun _ _ _ _ _ => (pe_cut (pe_callTy (call_tuple_ofK (K := K)) (by rfl) T.b_tuple (by decide +kernel) (pa_cons (pe_lcI (pe_lc (own := [("_law_cell", 2)]) rfl sc__law_entries.nd (pi_listK (K := K) (pv 1)) (blkOk_by (N := ["_law_pair", "_law_line", "_law_cell"]) (sc := ({ kind := .function, names := [(PySem.Str.ofString ".0", .local), (PySem.Str.ofString "_law_line", .local), (PySem.Str.ofString "tuple", .globalImplicit), (PySem.Str.ofString "_law_pair", .cell)], isGenerator := false, isCoroutine := false } : Scope)) (by decide +kernel)) (fun _ _ _ _ _ => (pg_name (i := 2) sc__law_entries.nd rfl (Or.inl rfl))) (fun _ _ _ _ _ => pts_nil) (fun _ _ _ _ _ => (pe_cut (pe_mkf m_rat2 hr (by decide) rfl (pa_cons (pv 2) (pa_cons (pe_ix (ix_tupK (K := K)) (pv 0) pe_int (fun _ _ => rfl)) pa_nil))))))) pa_nil)))))) pa_nil)))), ?_⟩
    refine ⟨_, rfl, t, _, _, _, rfl, rfl, SqT.of ht, rfl, L, rfl, ⟨rs, SqL.of hL⟩, fun D hD => ?_⟩
    refine lc_same (walk_list (K := K) (a := L) (xs := rs)) hD (by omega) (fun i y G => Rw (RC C) G y c (qv A u i)) (fun i y G G' h s => h.same (rc_mono C) s) (fun G s => SqL.of (s _ _ hL)) yat_same (fun i x H1 H1' hi s1 nD hy => ?_) fun ys H1 hl1 s1 e1 h1 => ?_
    · obtain ⟨rfl, hx⟩ := hy
      obtain ⟨p, rfl, hp⟩ := hrow i x hx
      refine ⟨_, fun _ h => h, wipe_one, ?_⟩
      refine ⟨_, rfl, p, rfl, ⟨_, SqL.of (s1 _ _ hp)⟩, fun D2 hD2 => ?_⟩
      refine lc_same (walk_list (K := K) (a := p) (xs := rowV c (A i))) hD2 (by rw [rowV_len]; omega) (fun j y G => RC C G y (qv A u i j)) (fun j y G G' h s => (rc_mono C).same h s) (fun G s => SqL.of (s _ _ (s1 _ _ hp))) yat_same (fun j y H2 H2' hj s2 _ hy => ?_) fun ys2 H2 hl2 s2 e2 h2 => ?_
      · obtain ⟨rfl, hy⟩ := hy
        obtain ⟨hj, rfl⟩ := rowV_get hy
        refine ⟨_, fun _ h => h, wipe_one, ?_⟩
        refine ⟨_, rfl, _, rfl, t, _, _, _, rfl, rfl, SqT.of (s2 _ _ (s1 _ _ ht)), rfl, ?_⟩
        exact make_rat (Q := fun y H4 => Same H2' H4 ∧ ((∃ l, H4 D2 = some (.lst l)) → RC C (hid D2 H4) y (qv A u i j))) hu su fun r' H6 _ s6 h6 => ⟨s6, fun ⟨l, hl⟩ => (rc_mono C).hid ⟨r', rfl, h6⟩ hl⟩
      · refine ⟨D2, ys2, rfl, .inl ⟨SqL.of e2, fun T2 hT2 => ⟨MG.Same.new s2 hT2, fun ⟨l, hl⟩ => ?_⟩⟩⟩
        exact (rw_new (rc_mono C) (hid_same D2 H2) hT2 (hl2.trans rowV_len) h2).hid (rc_mono C) hl
    refine ⟨D, ys, rfl, .inl ⟨SqL.of e1, fun T7 hT7 => ?_⟩⟩
    exact k T7 _ (MG.Same.new s1 hT7) (tb_new (rc_mono C) (hid_same D H1) hT7 (hl1.trans hl) h1)
abbrev EntC (P : Program) (w : World) (K : PySem.W.Frag) (mg : Str → Option Value) (base : Heap) (C : Addr) : Prop := CalG P w K mg base 6 "_law_entries" (spEnt C) []
/-! ### _law_shape -/
def spShape : Sp := fun vs H Q _ => ∃ (t : Addr) (r c : Nat) (A : Nat → Nat → Int) (u : Int), vs = [.ref t] ∧ PrAt H t r c A u ∧ 0 < r ∧ ∀ p, H p = none → Q (.ref p) (upd H p (.tup [.int r, .int c]))
abbrev ShapeC (P : Program) (w : World) (K : PySem.W.Frag) (mg : Str → Option Value) (base : Heap) : Prop := CalG P w K mg base 2 "_law_shape" spShape []
/-! ### _law_dot -/
def spDot (K : PySem.W.Frag) : Sp := fun vs H Q _ => ∃ (a b : Addr) (n : Nat) (z y : Nat → Int) (k : Nat), vs = [.ref a, .ref b] ∧ H a = some (.lst (rowV n z)) ∧ H b = some (.lst (rowV n y)) ∧ n ≤ 1000 ∧ k ≤ 390 ∧ (∀ j, j < n → (z j).natAbs < 10 ^ k ∧ (y j).natAbs < 10 ^ k) ∧ ∀ H', Same H H' → Q (.int (smZ n fun j => z j * y j)) H'
theorem sc__law_dot : FnScope ["_law_one", "_law_two", "_law_a", "_law_b"] ["_law_one", "_law_two"] (defScope s__law_dot) := ⟨rfl, rfl, rfl, by decide +kernel, rfl, by decide +kernel, by decide +kernel⟩
theorem ok_dot {f : Addr} {fd : FuncData} (F : Fun K "_law_dot" "_law_dot" s__law_dot f fd) (T : Blt mg) : FnG P w K mg base CX0 2 f fd ["_law_one", "_law_two"] (spDot K) := by
  refine fun_okG F sc__law_dot (fun vs H Q E h => ?_) (fun cdv A' outer s H vs Q E bare hr h => ?_)
  · obtain ⟨a, b, n, z, y, k, rfl, _⟩ := h
    rfl
  · obtain ⟨a, b, n, z, y, k, rfl, ha, hb, hn, hk, hz, kk⟩ := h
    refine ⟨_, (pss_one (ps_ret (pe_callB (id := "sum") (cr_sumK (K := K) rfl) (by rfl) T.b_sum (by decide +kernel) (pa_cons (pe_lcI (pe_lc (own := [("_law_a", 2), ("_law_b", 3)]) rfl sc__law_dot.nd (pi_zipK (K := K) (by rfl) T.b_zip (pa_cons (pv 0) (pa_cons (pv 1) pa_nil))) (blkOk_by (N := ["_law_one", "_law_two", "_law_a", "_law_b"]) (sc := (defScope s__law_dot)) (by decide +kernel)) (fun _ _ _ _ _ => (pg_tupK (K := K) (n := 2) rfl (pgs_cons (pg_name (i := 2) sc__law_dot.nd rfl (Or.inl rfl)) (pgs_cons (pg_name (i := 3) sc__law_dot.nd rfl (Or.inl rfl)) pgs_nil)))) (fun _ _ _ _ _ => pts_nil) (fun _ _ _ _ _ => (pe_cut (pe_op op_mulW (pv 2) (pv 3)))))) pa_nil)))), ?_⟩
    refine ⟨_, rfl, _, rfl, a, b, _, _, rfl, .inl ⟨SqL.of ha, SqL.of hb, fun D hD => ?_⟩⟩
    refine lc_same (walk_zip (K := K) (a := a) (b := b) (xs := rowV n z) (ys := rowV n y) (n := n) (by rw [rowV_len, rowV_len]; omega)) hD (by omega) (fun j v _ => v = .int (z j * y j)) (fun _ _ _ _ h _ => h) (fun G s => ⟨SqL.of (s _ _ ha), SqL.of (s _ _ hb)⟩) ypair_same (fun j x H1 H1' hj s1 _ hy => ?_) fun ys H1 hl1 s1 e1 h1 => ?_
    · obtain ⟨T2, x1, x2, rfl, hT2, rfl, hx1, hx2⟩ := hy
      obtain ⟨_, rfl⟩ := rowV_get hx1
      obtain ⟨_, rfl⟩ := rowV_get hx2
      obtain ⟨b1, b2⟩ := hz j hj
      refine ⟨_, tg2 upd_same, rfl, ?_⟩
      exact ⟨_, rfl, _, rfl, _, _, rfl, rfl, sm_mul (smI b1 hk) (smI b2 hk), Same.refl _, fun _ => rfl⟩
    have e2 := ints_of hl1 h1
    refine ⟨D, _, rfl, SqL.of (e2 ▸ e1), ?_⟩
    rw [smZ_list]
    exact kk H1 s1
abbrev DotC (P : Program) (w : World) (K : PySem.W.Frag) (mg : Str → Option Value) (base : Heap) : Prop := CalG P w K mg base 2 "_law_dot" (spDot K) []
/-! ### _law_times -/
def spTimes : Sp := fun vs H Q _ => ∃ (t u : Addr) (r n c : Nat) (A B : Nat → Nat → Int) (v x : Int) (k : Nat), vs = [.ref t, .ref u] ∧ PrAt H t r n A v ∧ PrAt H u n c B x ∧ r ≤ 60 ∧ 0 < n ∧ n ≤ 60 ∧ c ≤ 60 ∧ k ≤ 150 ∧ Bn r n A v k ∧ Bn n c B x k ∧
  ∀ t' H' A' u', Same H H' → PrAt H' t' r c A' u' → Bn r c A' u' (2 * k + 2) → u' ∣ v * x → (∀ i j, i < r → j < c → qv A' u' i j = mulQ n (qv A v) (qv B x) i j) → Q (.ref t') H'
theorem smZ_abs {n : Nat} {f : Nat → Int} {m : Nat} (h : ∀ j, j < n → (f j).natAbs ≤ m) : (smZ n f).natAbs ≤ n * m := by
  induction n with
  | zero => simp [smZ]
  | succ n ih =>
    have h1 := ih fun j hj => h j (by omega)
    have h2 := h n (by omega)
    have h3 := Int.natAbs_add_le (smZ n f) (f n)
    rw [smZ, Nat.succ_mul]
    omega
theorem dot_abs {n k : Nat} {f g : Nat → Int} (hn : n ≤ 99) (h : ∀ j, j < n → (f j).natAbs < 10 ^ k ∧ (g j).natAbs < 10 ^ k) : (smZ n fun j => f j * g j).natAbs < 10 ^ (2 * k + 2) := by
  have h1 : (smZ n fun j => f j * g j).natAbs ≤ n * (10 ^ k * 10 ^ k) := smZ_abs fun j hj => by
    obtain ⟨a, b⟩ := h j hj
    rw [Int.natAbs_mul]
    exact Nat.mul_le_mul (by omega) (by omega)
  have h2 : n * (10 ^ k * 10 ^ k) ≤ 99 * (10 ^ k * 10 ^ k) := Nat.mul_le_mul_right _ hn
  have e : (10 : Nat) ^ (2 * k + 2) = 100 * (10 ^ k * 10 ^ k) := by
    rw [Nat.pow_add, Nat.two_mul, Nat.pow_add, Nat.mul_comm]
  have pos : 0 < 10 ^ k * 10 ^ k := Nat.mul_pos (Nat.pow_pos (by decide)) (Nat.pow_pos (by decide))
  rw [e]
  omega
theorem two_abs {a b : Int} {k : Nat} (ha : a.natAbs < 10 ^ k) (hb : b.natAbs < 10 ^ k) : (a * b).natAbs < 10 ^ (2 * k + 2) := by
  rw [Int.natAbs_mul]
  have := lt_mul ha hb
  exact Nat.lt_of_lt_of_le this (Nat.pow_le_pow_right (by decide) (by omega))
theorem sc__law_times : FnScope ["_law_one", "_law_two", "_law_files", "_law_line", "_law_file_here"] ["_law_one", "_law_two"] (defScope s__law_times) := ⟨rfl, rfl, rfl, by decide +kernel, rfl, by decide +kernel, by decide +kernel⟩
theorem ok_times {f : Addr} {fd : FuncData} (F : Fun K "_law_times" "_law_times" s__law_times f fd) (T : Blt mg) (c_turn : TurnC P w K mg base) (c_dot : DotC P w K mg base) (c_low : LowTC P w K mg base) : FnG P w K mg base CX0 6 f fd ["_law_one", "_law_two"] spTimes := by
  refine fun_okG F sc__law_times (fun vs H Q E h => ?_) (fun cdv A' outer s H vs Q E bare hr h => ?_)
  · obtain ⟨t, u, r, n, c, A, B, v, x, k, rfl, _⟩ := h
    rfl
  · obtain ⟨t, u, r, n, c, A, B, v, x, k, rfl, ⟨L, ht, rs, hL, hl, hrow⟩, hB, hr1, hn0, hn1, hc1, hk, bA, bB, kk⟩ := h
    obtain ⟨L2, hu, _⟩ := id hB
    refine ⟨_, (pss_cons (ps_set (i := 2) sc__law_times.nd rfl (Or.inr rfl) (pe_ix (ix_tupK (K := K)) (pe_cg c_turn bare hr (by decide) rfl (pa_cons (pv 1) pa_nil)) pe_int (fun _ _ => rfl)))
  (pss_one (ps_ret (pe_cg c_low bare hr (by decide) rfl (pa_cons (pe_tup (pa_cons (pe_lcI (pe_lc (own := [("_law_line", 3)]) rfl sc__law_times.nd (pi_listK (K := K) (pe_ix (ix_tupK (K := K)) (pv 0) pe_int (fun _ _ => rfl))) (blkOk_by (N := ["_law_one", "_law_two", "_law_files", "_law_line", "_law_file_here"]) (sc := (defScope s__law_times)) (by decide +kernel)) (fun _ _ _ _ _ => (pg_name (i := 3) sc__law_times.nd rfl (Or.inr rfl))) (fun _ _ _ _ _ => pts_nil) (fun _ _ _ _ _ => (pe_cut (pe_lcI (pe_lc (own := [("_law_file_here", 4)]) rfl sc__law_times.nd (pi_listK (K := K) (pv 2)) (blkOk_by (N := ["_law_one", "_law_two", "_law_files", "_law_line", "_law_file_here"]) (sc := ({ kind := .function, names := [(PySem.Str.ofString ".0", .local), (PySem.Str.ofString "_law_line", .cell), (PySem.Str.ofString "_law_files", .cell)], isGenerator := false, isCoroutine := false } : Scope)) (by decide +kernel)) (fun _ _ _ _ _ => (pg_name (i := 4) sc__law_times.nd rfl (Or.inl rfl))) (fun _ _ _ _ _ => pts_nil) (fun _ _ _ _ _ => (pe_cut (pe_cg c_dot bare hr (by decide) rfl (pa_cons (pv 3) (pa_cons (pv 4) pa_nil))))))))))) (pa_cons (pe_op op_mulW (pe_ix (ix_tupK (K := K)) (pv 0) pe_int (fun _ _ => rfl)) (pe_ix (ix_tupK (K := K)) (pv 1) pe_int (fun _ _ => rfl))) pa_nil))) pa_nil))))), ?_⟩
    -- files = turn(two)[0]
    refine ⟨_, rfl, u, n, c, B, x, rfl, hB, hn0, by omega, by omega, fun t2 H1 s1 hT2 => ?_⟩
    obtain ⟨L3, ht2, rs2, hL3, hl2, hrow2⟩ := hT2
    refine ⟨t2, _, _, _, rfl, rfl, SqT.of ht2, rfl, ?_⟩
    -- return low(([[dot(line, file) ..] ..], one[1] * two[1]))
    refine ⟨_, rfl, t, _, _, _, rfl, rfl, SqT.of (s1 _ _ ht), rfl, L, rfl, ⟨rs, SqL.of (s1 _ _ hL)⟩, fun D hD => ?_⟩
    refine lc_same (walk_list (K := K) (a := L) (xs := rs)) hD (by omega) (RowR c fun i j => smZ n fun m => A i m * B m j) rowR_same (fun G s => SqL.of (s _ _ (s1 _ _ hL))) yat_same (fun i y H2 H2' hi s2 nD hy => ?_) fun ys H2 hl3 s2 e2 h2 => ?_
    · obtain ⟨rfl, hx⟩ := hy
      obtain ⟨p, rfl, hp⟩ := hrow i y hx
      have hi' : i < r := by omega
      refine ⟨_, fun _ h => h, wipe_one, ?_⟩
      refine ⟨_, rfl, L3, rfl, ⟨rs2, SqL.of (s2 _ _ hL3)⟩, fun D2 hD2 => ?_⟩
      refine lc_same (walk_list (K := K) (a := L3) (xs := rs2)) hD2 (by omega) (fun j y _ => y = .int (smZ n fun m => A i m * B m j)) (fun _ _ _ _ h _ => h) (fun G s => SqL.of (s _ _ (s2 _ _ hL3))) yat_same (fun j y H3 H3' hj s3 _ hy => ?_) fun ys2 H3 hl4 s3 e3 h3 => ?_
      · obtain ⟨rfl, hx3⟩ := hy
        obtain ⟨p2, rfl, hp2⟩ := hrow2 j y hx3
        refine ⟨_, fun _ h => h, wipe_one, ?_⟩
        exact ⟨_, rfl, _, rfl, p, p2, n, A i, fun m => B m j, k, rfl, s3 _ _ (s2 _ _ (s1 _ _ hp)), s3 _ _ (s2 _ _ hp2), by omega, by omega, fun m hm => ⟨bA.ab i m hi' hm, bB.ab m j hm (by omega)⟩, fun H4 s4 => ⟨s4, fun _ => rfl⟩⟩
      · exact ⟨s3, fun _ => ⟨D2, rfl, row_hid nD hD2 e3 (hl4.trans hl2) h3⟩⟩
    have s12 := s1.trans s2
    have smv := smI bA.ub (show k ≤ 390 by omega)
    have smx := smI bB.ub (show k ≤ 390 by omega)
    refine ⟨_, rfl, t, _, _, _, rfl, rfl, SqT.of (s12 _ _ ht), rfl, _, rfl, u, _, _, _, rfl, rfl, SqT.of (s12 _ _ hu), rfl, _, _, rfl, rfl, sm_mul smv smx, by show 2 ≤ sizeLine; decide, fun T2 hT2 => ?_⟩
    have s3 := MG.Same.new (o := .tup [.ref D, .int (v * x)]) (Same.refl H2) hT2
    have hpos := Int.mul_pos bA.pos bB.pos
    refine ⟨T2, r, c, _, v * x, 2 * k + 2, rfl, ⟨D, upd_same, (ll_of e2 (hl3.trans hl) h2).same s3⟩, by omega, by omega, ⟨hpos, two_abs bA.ub bB.ub, fun i j hi hj => dot_abs (by omega) fun m hm => ⟨bA.ab i m hi hm, bB.ab m j hm hj⟩⟩, by omega, fun t' H' A' u' s4 hP bn dv vals => ?_⟩
    refine kk t' H' A' u' ((s12.trans s3).trans s4) hP bn dv fun i j hi hj => ?_
    rw [vals i j hi hj]
    exact sum_div (by have := bA.pos; omega) (by have := bB.pos; omega)
abbrev TimesC (P : Program) (w : World) (K : PySem.W.Frag) (mg : Str → Option Value) (base : Heap) : Prop := CalG P w K mg base 6 "_law_times" spTimes []
/-! ### _law_scale -/
def spScale : Sp := fun vs H Q _ => ∃ (t p : Addr) (r c : Nat) (A : Nat → Nat → Int) (u a b : Int) (k : Nat), vs = [.ref t, .ref p] ∧ PrAt H t r c A u ∧ H p = some (.tup [.int a, .int b]) ∧ r ≤ 1000 ∧ c ≤ 1000 ∧ k ≤ 150 ∧ Bn r c A u k ∧ a.natAbs < 10 ^ k ∧ 0 < b ∧ b.natAbs < 10 ^ k ∧
  ∀ t' H' A' u', Same H H' → PrAt H' t' r c A' u' → Bn r c A' u' (2 * k + 2) → (∀ i j, i < r → j < c → qv A' u' i j = qv A u i j * Rat.divInt a b) → Q (.ref t') H'
abbrev ScaleC (P : Program) (w : World) (K : PySem.W.Frag) (mg : Str → Option Value) (base : Heap) : Prop := CalG P w K mg base 6 "_law_scale" spScale []
/-! ### _law_plus -/
def spPlus : Sp := fun vs H Q _ => ∃ (t u : Addr) (r c : Nat) (A B : Nat → Nat → Int) (v x sg : Int) (k : Nat), vs = [.ref t, .ref u, .int sg] ∧ PrAt H t r c A v ∧ PrAt H u r c B x ∧ r ≤ 1000 ∧ c ≤ 1000 ∧ k ≤ 150 ∧ Bn r c A v k ∧ Bn r c B x k ∧ (sg = 1 ∨ sg = -1) ∧
  ∀ t' H' A' u', Same H H' → PrAt H' t' r c A' u' → Bn r c A' u' (2 * k + 2) → (∀ i j, i < r → j < c → qv A' u' i j = qv A v i j + Rat.divInt sg 1 * qv B x i j) → Q (.ref t') H'
theorem plus_div {a b v x sg : Int} (hv : v ≠ 0) (hx : x ≠ 0) : Rat.divInt (a * x + sg * b * v) (v * x) = Rat.divInt a v + Rat.divInt sg 1 * Rat.divInt b x := by
  rw [Rat.divInt_mul_divInt, Rat.divInt_add_divInt _ _ hv (by omega)]
  congr 1
  · rw [Int.one_mul]
  · rw [Int.one_mul]
theorem plus_abs {a b v x sg : Int} {k : Nat} (ha : a.natAbs < 10 ^ k) (hb : b.natAbs < 10 ^ k) (hv : v.natAbs < 10 ^ k) (hx : x.natAbs < 10 ^ k) (hs : sg = 1 ∨ sg = -1) : (a * x + sg * b * v).natAbs < 10 ^ (2 * k + 2) := by
  have h1 := lt_mul ha hx
  have h2 := lt_mul hb hv
  have h3 := Int.natAbs_add_le (a * x) (sg * b * v)
  have e1 : (a * x).natAbs = a.natAbs * x.natAbs := Int.natAbs_mul _ _
  have e2 : (sg * b * v).natAbs = b.natAbs * v.natAbs := by
    rw [Int.natAbs_mul, Int.natAbs_mul]
    rcases hs with rfl | rfl <;> simp
  have e : (10 : Nat) ^ (2 * k + 2) = 100 * 10 ^ (k + k) := by
    rw [Nat.pow_add, Nat.two_mul, Nat.mul_comm]
  rw [e]
  omega
abbrev PlusC (P : Program) (w : World) (K : PySem.W.Frag) (mg : Str → Option Value) (base : Heap) : Prop := CalG P w K mg base 6 "_law_plus" spPlus []
end
end Lw

namespace Lw
open PySem PySem.Spec PyProof.Rows L2 MG
abbrev s__law_cells : Stmt := top 51
theorem QAt.le {H : Hp} {q : Addr} {n n' : Nat} (h : QAt H q n) (hn : n ≤ n') : QAt H q n' := by
  obtain ⟨c, ns, i, r, t, hq, hc, hz, hl, h1, h2, h3⟩ := h
  exact ⟨c, ns, i, r, t, hq, hc, hz, hl, ⟨h1.1, by omega⟩, h2, ⟨h3.1, by omega⟩⟩
/-- the purse without an object that is newer -/
theorem QAt.down {H1 H : Hp} {q D : Addr} {n n0 : Nat} (h0 : QAt H1 q n0) (k : Keep q H1 H) (h : QAt H q n) (hD : H1 D = none) : QAt (hid D H) q n := by
  obtain ⟨c0, ns0, i0, r0, t0, hq0, hc0, _⟩ := h0
  obtain ⟨c, ns, i, r, t, hq, hc, h⟩ := h
  obtain ⟨l', hl⟩ := k.hd _ _ hq0
  have e : V.ref c = V.ref c0 := by
    have := hq.symm.trans hl
    cases this
    rfl
  have ec : c = c0 := by
    cases e
    rfl
  refine ⟨c, ns, i, r, t, ?_, ?_, h⟩
  · rw [hid_ne (ne_of_none hq0 hD)]; exact hq
  · rw [hid_ne (ne_of_none (ec ▸ hc0) hD)]; exact hc
/-- the tables are not the purse -/
theorem PrAt.hq {H : Hp} {q t : Addr} {n r c : Nat} {A : Nat → Nat → Int} {u : Int} (h : PrAt H t r c A u) (hq : QAt H q n) : PrAt (hid q H) t r c A u := by
  obtain ⟨L, ht, rs, hL, hl, hrow⟩ := h
  obtain ⟨c0, ns, i, r0, t0, eq, _⟩ := hq
  have nL : L ≠ q := fun e => by
    rw [e, eq] at hL
    have e1 := HO.lst.inj (Option.some.inj hL)
    obtain ⟨p, z, _⟩ := hrow 1 (.int i) (by rw [← e1]; rfl)
    cases z
  refine ⟨L, by rw [hid_ne (ne_of ht eq (by intro z; cases z))]; exact ht, rs, by rw [hid_ne nL]; exact hL, hl, fun k x hx => ?_⟩
  obtain ⟨p, e, hp⟩ := hrow k x hx
  have np : p ≠ q := fun e' => by
    rw [e', eq] at hp
    have e1 := HO.lst.inj (Option.some.inj hp)
    have z : (rowV c (A k))[0]? = some (.ref c0) := by rw [← e1]; rfl
    cases (rowV_get z).2
  exact ⟨p, e, by rw [hid_ne np]; exact hp⟩
section
variable {P : Program} {w : World} {K : PySem.W.Frag} {mg : Str → Option Value} {base : Heap} {C CM CX : Addr}
/-! ### _law_pick -/
def spPick : Sp := fun vs H Q _ => ∃ (q l : Addr) (n : Nat) (xs : List V), vs = [.ref q, .ref l] ∧ QAt H q n ∧ n + 1 ≤ 100000 ∧ l ≠ q ∧ H l = some (.lst xs) ∧ 0 < xs.length ∧ xs.length ≤ 100 ∧ ∀ (i : Nat) (x : V) (H' : Hp), xs[i]? = some x → Keep q H H' → QAt H' q (n + 1) → Q x H'
abbrev PickC (P : Program) (w : World) (K : PySem.W.Frag) (mg : Str → Option Value) (base : Heap) : Prop := CalG P w K mg base 4 "_law_pick" spPick []
/-! ### _law_thin -/
def spThin : Sp := fun vs H Q _ => ∃ (q : Addr) (n : Nat) (m : Int), vs = [.ref q, .int m] ∧ QAt H q n ∧ n + 4 ≤ 100000 ∧ 0 < m ∧ m ≤ 40 ∧
  ∀ (p : Addr) (h b : Nat) (H' : Hp), 0 < h → h ≤ 42 → 0 < b → b ≤ 42 → (h : Int) ≤ m + 2 → (b : Int) ≤ m + 2 → Keep q H H' → QAt H' q (n + 4) → H p = none → p ≠ q → H' p = some (.tup [.int h, .int b]) → Q (.ref p) H'
abbrev ThinC (P : Program) (w : World) (K : PySem.W.Frag) (mg : Str → Option Value) (base : Heap) : Prop := CalG P w K mg base 4 "_law_thin" spThin []
/-! ### _law_cells -/
def spCells : Sp := fun vs H Q _ => ∃ (q : Addr) (n h b : Nat), vs = [.ref q, .int h, .int b] ∧ QAt H q n ∧ n + 3 + h * b ≤ 100000 ∧ 0 < h ∧ h ≤ 100 ∧ 0 < b ∧ b ≤ 100 ∧
  ∀ (t : Addr) (A : Nat → Nat → Int) (u : Int) (H' : Hp), Keep q H H' → QAt H' q (n + 3 + h * b) → PrAt (hid q H') t h b A u → Bn h b A u 13 → u ≤ 30 → Q (.ref t) H'
def far4 : List Int := [2, 3, 9, 10 ^ Int.toNat 12]
theorem far4_ok : ∀ z ∈ far4, 2 ≤ z ∧ z ≤ 10 ^ 12 := by decide +kernel
def bel3 : List Int := [1, 4, 30]
theorem bel3_ok : ∀ z ∈ bel3, 1 ≤ z ∧ z ≤ 30 := by decide
theorem sc__law_cells : FnScope ["_law_q", "_law_high", "_law_broad", "_law_far", "_law_below", "_law_cells_here", "_law_i", "_law_j"] ["_law_q", "_law_high", "_law_broad"] (defScope s__law_cells) := ⟨rfl, rfl, rfl, by decide +kernel, rfl, by decide +kernel, by decide +kernel⟩
theorem ok_cells {f : Addr} {fd : FuncData} (F : Fun K "_law_cells" "_law_cells" s__law_cells f fd) (T : Blt mg) (c_draw : DrawC P w K mg base) (c_low : LowTC P w K mg base) : FnG P w K mg base CX0 6 f fd ["_law_q", "_law_high", "_law_broad"] spCells := by
  refine fun_okG F sc__law_cells (fun vs H Q E h => ?_) (fun cdv A' outer s H vs Q E bare hr h => ?_)
  · obtain ⟨q, n, h, b, rfl, _⟩ := h
    rfl
  · obtain ⟨q, n, h, b, rfl, hq, hn, h0, h1, b0, b1, k⟩ := h
    refine ⟨_, (pss_cons (ps_set (i := 3) sc__law_cells.nd rfl (Or.inr rfl) (pe_ix (ix_listK (K := K)) (pe_lst (pa_cons pe_int (pa_cons pe_int (pa_cons pe_int (pa_cons (pe_op op_pow pe_int pe_int) pa_nil))))) (pe_cg c_draw bare hr (by decide) rfl (pa_cons (pv 0) (pa_cons pe_int pa_nil))) (fun _ _ => rfl)))
  (pss_cons (ps_set (i := 4) sc__law_cells.nd rfl (Or.inl rfl) (pe_op op_add pe_int (pe_cg c_draw bare hr (by decide) rfl (pa_cons (pv 0) (pa_cons (pe_ix (ix_listK (K := K)) (pe_lst (pa_cons pe_int (pa_cons pe_int (pa_cons pe_int pa_nil)))) (pe_cg c_draw bare hr (by decide) rfl (pa_cons (pv 0) (pa_cons pe_int pa_nil))) (fun _ _ => rfl)) pa_nil)))))
  (pss_cons (ps_lcI (ps_setLc (i := 5) (own := [("_law_i", 6)]) rfl sc__law_cells.nd rfl rfl (sw_true rfl rfl rfl (by decide +kernel)) (pi_range1 (by rfl) T.b_range (pa_cons (pv 1) pa_nil)) (blkOk_by (N := ["_law_q", "_law_high", "_law_broad", "_law_far", "_law_below", "_law_cells_here", "_law_i", "_law_j"]) (sc := (defScope s__law_cells)) (by decide +kernel)) (fun _ _ _ _ _ => (pg_name (i := 6) sc__law_cells.nd rfl (Or.inl rfl))) (fun _ _ _ _ _ => pts_nil) (fun _ _ _ _ _ => (pe_cut (pe_lcI (pe_lc (own := [("_law_j", 7)]) rfl sc__law_cells.nd (pi_range1 (by rfl) T.b_range (pa_cons (pv 2) pa_nil)) (blkOk_by (N := ["_law_q", "_law_high", "_law_broad", "_law_far", "_law_below", "_law_cells_here", "_law_i", "_law_j"]) (sc := ({ kind := .function, names := [(PySem.Str.ofString ".0", .local), (PySem.Str.ofString "_law_i", .local), (PySem.Str.ofString "range", .globalImplicit), (PySem.Str.ofString "_law_broad", .cell), (PySem.Str.ofString "_law_far", .cell), (PySem.Str.ofString "_law_q", .cell)], isGenerator := false, isCoroutine := false } : Scope)) (by decide +kernel)) (fun _ _ _ _ _ => (pg_name (i := 7) sc__law_cells.nd rfl (Or.inl rfl))) (fun _ _ _ _ _ => pts_nil) (fun _ _ _ _ _ => (pe_cut (pe_op op_sub (pe_cg c_draw bare hr (by decide) rfl (pa_cons (pv 0) (pa_cons (pe_op op_add (pe_op op_mulW pe_int (pv 3)) pe_int) pa_nil))) (pv 3))))))))))
  (pss_one (ps_ret (pe_cg c_low bare hr (by decide) rfl (pa_cons (pe_tup (pa_cons (pv 5) (pa_cons (pv 4) pa_nil))) pa_nil))))))), ?_⟩
    -- far
    refine ⟨_, _, rfl, rfl, ⟨by decide, by decide, by decide⟩, by show 4 ≤ sizeLine; decide, fun p hp => ?_⟩
    refine ⟨_, rfl, q, 4, n, rfl, hq.new hp, by omega, by decide, by decide, fun r H1 r0 r1 k1 q1 => ?_⟩
    obtain ⟨y, hy, ey⟩ := at_ints (l := far4) r0 (by show r < 4; exact r1)
    obtain ⟨y0, y1⟩ := far4_ok y hy
    refine ⟨p, _, _, _, rfl, rfl, SqL.of (k1 _ _ upd_same (hq.ne hp)), ey, ?_⟩
    -- below
    refine ⟨_, rfl, by show 3 ≤ sizeLine; decide, fun p2 hp2 => ?_⟩
    refine ⟨_, rfl, q, 3, n + 1, rfl, q1.new hp2, by omega, by decide, by decide, fun r2 H2 r20 r21 k2 q2 => ?_⟩
    obtain ⟨x, hx, ex⟩ := at_ints (l := bel3) r20 (by show r2 < 3; exact r21)
    obtain ⟨x0, x1⟩ := bel3_ok x hx
    refine ⟨p2, _, _, _, rfl, rfl, SqL.of (k2 _ _ upd_same (q1.ne hp2)), ex, ?_⟩
    refine ⟨q, x, n + 2, rfl, q2, by omega, by omega, by omega, fun u H3 u0 u1 k3 q3 => ⟨_, _, rfl, rfl, ?_⟩⟩
    have kk : Keep q H H3 := ((Keep.refl.new hp).trans k1).trans ((Keep.refl.new hp2).trans (k2.trans k3))
    clear k1 k2 k3 q1 q2
    -- the cells
    refine ⟨_, rfl, (h : Int), rfl, by omega, by omega, fun D hD => ?_⟩
    have hh : ((h : Int)).toNat = h := by omega
    rw [hh]
    have nqD : q ≠ D := (q3.ne hD).symm
    refine lc_keep (q := q) (walk_range (lo := 0) (n := h)) hD (by obtain ⟨o, e⟩ := q3.at_; rw [e]; exact nofun) (by omega) (fun i G => QAt G q (n + 3 + i * b)) (fun m G G' h s => h.keep s) (fun m G kG h => QAt.down q3 kG h hD) (by rw [Nat.zero_mul]; exact q3)
      (fun i y G => ∃ p g, y = .ref p ∧ G p = some (.lst (rowV b g)) ∧ ∀ j, j < b → (g j).natAbs ≤ 10 ^ 12) (fun i y G G' ⟨p, g, e, h, z⟩ s => ⟨p, g, e, s _ _ h, z⟩) (fun G kG => trivial) yfn_same (fun i v H4 H4' hi k4 q4 nD hy => ?_) fun ys H4 hl4 k4 q4 e4 h4 => ?_
    · obtain ⟨rfl, rfl⟩ := hy
      refine ⟨_, fun _ h => h, wipe_one, ?_⟩
      refine ⟨_, rfl, (b : Int), rfl, by omega, by omega, fun D2 hD2 => ?_⟩
      have hb : ((b : Int)).toNat = b := by omega
      rw [hb]
      have hib : i * b + b ≤ h * b := by
        have : (i + 1) * b ≤ h * b := Nat.mul_le_mul_right _ (by omega)
        rw [Nat.succ_mul] at this
        exact this
      have nqD2 : q ≠ D2 := (q4.ne hD2).symm
      refine lc_keep (q := q) (walk_range (lo := 0) (n := b)) hD2 (by obtain ⟨o, e⟩ := q4.at_; rw [e]; exact nofun) (by omega) (fun j G => QAt G q (n + 3 + i * b + j)) (fun m G G' h s => h.keep s) (fun m G kG h => QAt.down q4 kG h hD2) q4
        (fun j y G => ∃ z : Int, y = .int z ∧ z.natAbs ≤ 10 ^ 12) (fun j y G G' h s => h) (fun G kG => trivial) yfn_same (fun j v H5 H5' hj k5 q5 nD2 hy => ?_) fun ys2 H5 hl5 k5 q5 e5 h5 => ?_
      · obtain ⟨rfl, rfl⟩ := hy
        refine ⟨_, fun _ h => h, wipe_one, ?_⟩
        refine ⟨_, rfl, _, rfl, _, _, rfl, rfl, sm_mul (sm_lt (k := 1) (by decide) (by decide) (by decide)) (sm_lt (k := 20) (by decide) (by omega) (by omega)), _, _, rfl, rfl, q, _, _, rfl, q5, by omega, by omega, by omega, fun z H6 z0 z1 k6 q6 => ?_⟩
        exact ⟨_, rfl, _, _, rfl, rfl, k6, q6, fun _ => ⟨_, rfl, by omega⟩⟩
      · have sel : ∃ g : Nat → Int, (∀ (j : Nat) (y : V), ys2[j]? = some y → y = .int (g j)) ∧ ∀ j, j < b → (g j).natAbs ≤ 10 ^ 12 := by
          refine ⟨fun j => match ys2[j]? with | some (.int z) => z | _ => 0, fun j y hy => ?_, fun j hj => ?_⟩
          · obtain ⟨z, rfl, _⟩ := h5 j y hy
            show V.int z = V.int (match ys2[j]? with | some (.int z) => z | _ => 0)
            rw [hy]
          · have hy : ys2[j]? = some ys2[j] := List.getElem?_eq_getElem (by omega)
            obtain ⟨z, e, hz⟩ := h5 j _ hy
            show (match ys2[j]? with | some (.int z) => z | _ => 0 : Int).natAbs ≤ 10 ^ 12
            rw [hy, e]
            exact hz
        obtain ⟨g, hg, gb⟩ := sel
        refine ⟨k5, ?_, fun _ => ⟨D2, g, rfl, ?_, gb⟩⟩
        · have : n + 3 + i * b + b = n + 3 + (i + 1) * b := by rw [Nat.succ_mul]; omega
          rw [← this]; exact q5
        · have n : D2 ≠ D := fun q => nD (q ▸ hD2)
          rw [hid_ne nqD2.symm, hid_ne n, e5]
          exact congrArg _ (congrArg _ (ints_of hl5 hg))
    -- return low((cells, below))
    have sel : ∃ A : Nat → Nat → Int, (∀ (i : Nat) (y : V), ys[i]? = some y → RowR b A i y (hid q (hid D H4))) ∧ ∀ i j, i < h → j < b → (A i j).natAbs ≤ 10 ^ 12 := by
      have pick : ∀ i : Nat, ∃ g : Nat → Int, ∀ y : V, ys[i]? = some y → (∃ p, y = V.ref p ∧ (hid q (hid D H4)) p = some (.lst (rowV b g))) ∧ ∀ j, j < b → (g j).natAbs ≤ 10 ^ 12 := fun i => by
        cases e : ys[i]? with
        | none => exact ⟨fun _ => 0, fun y hy => by cases hy⟩
        | some y =>
          obtain ⟨p, g, e1, e2, e3⟩ := h4 i y e
          refine ⟨g, fun y' hy' => ?_⟩
          cases hy'
          exact ⟨⟨p, e1, e2⟩, e3⟩
      refine ⟨fun i => (pick i).choose, fun i y hy => ((pick i).choose_spec y hy).1, fun i j hi hj => ?_⟩
      have hy : ys[i]? = some ys[i] := List.getElem?_eq_getElem (by omega)
      exact ((pick i).choose_spec _ hy).2 j hj
    obtain ⟨A, hA, bA⟩ := sel
    have nDq : D ≠ q := nqD.symm
    have eD : (hid q H4) D = some (.lst ys) := by rw [hid_ne nDq]; exact e4
    have hq2 : Same (hid q (hid D H4)) (hid q H4) := hid_mono (hid_same D H4)
    have hLL : LL (hid q H4) D h b A := ⟨ys, eD, hl4, fun i y hy => (hA i y hy).elim fun p e => ⟨p, e.1, hq2 _ _ e.2⟩⟩
    refine ⟨_, rfl, _, rfl, by show 2 ≤ sizeLine; decide, fun T2 hT2 => ?_⟩
    have s3 := MG.Same.new (o := .tup [.ref D, .int (1 + u)]) (Same.refl H4) hT2
    have nT : T2 ≠ q := q4.ne hT2
    have bn : Bn h b A (1 + u) 13 := ⟨by omega, by omega, fun i j hi hj => Nat.lt_of_le_of_lt (bA i j hi hj) (by decide)⟩
    have eT : (hid q (upd H4 T2 (.tup [.ref D, .int (1 + u)]))) T2 = some (.tup [.ref D, .int (1 + u)]) := by rw [hid_ne nT]; exact upd_same
    refine ⟨T2, h, b, A, 1 + u, 13, rfl, ⟨D, upd_same, (hLL.same (hid_same q H4)).same s3⟩, by omega, by omega, bn, by decide, fun t' H' A'' u' s4 hP bn' dv vals => ?_⟩
    have s34 := s3.trans s4
    have qF := q4.keep s34
    have u30 : u' ≤ 30 := Int.le_trans (Int.le_of_dvd (by omega) dv) (by omega)
    exact k t' A'' u' H' ((kk.trans k4).same s34) qF (hP.hq qF) bn' u30
abbrev CellsC (P : Program) (w : World) (K : PySem.W.Frag) (mg : Str → Option Value) (base : Heap) : Prop := CalG P w K mg base 6 "_law_cells" spCells []
end
end Lw

/-! Determinants of whole numbers, by columns: what Cramer's rule says -/
namespace Dt

/-- f 0 + .. + f (n - 1) -/
def sm : Nat → (Nat → Int) → Int
  | 0, _ => 0
  | n + 1, f => sm n f + f n

theorem sm_congr {n : Nat} {f g : Nat → Int} (h : ∀ i, i < n → f i = g i) : sm n f = sm n g := by
  induction n with
  | zero => rfl
  | succ n ih => show sm n f + f n = sm n g + g n; rw [ih fun i hi => h i (by omega), h n (by omega)]
theorem sm_zero {n : Nat} {f : Nat → Int} (h : ∀ i, i < n → f i = 0) : sm n f = 0 := by
  induction n with
  | zero => rfl
  | succ n ih => show sm n f + f n = 0; rw [ih fun i hi => h i (by omega), h n (by omega)]; rfl
theorem sm_add {n : Nat} {f g : Nat → Int} : sm n (fun i => f i + g i) = sm n f + sm n g := by
  induction n with
  | zero => rfl
  | succ n ih => show sm n (fun i => f i + g i) + (f n + g n) = (sm n f + f n) + (sm n g + g n); rw [ih]; omega
theorem sm_mul {n : Nat} {f : Nat → Int} {c : Int} : sm n (fun i => c * f i) = c * sm n f := by
  induction n with
  | zero => exact (Int.mul_zero c).symm
  | succ n ih => show sm n (fun i => c * f i) + c * f n = c * (sm n f + f n); rw [ih, Int.mul_add]
theorem sm_sub {n : Nat} {f g : Nat → Int} : sm n (fun i => f i - g i) = sm n f - sm n g := by
  induction n with
  | zero => rfl
  | succ n ih => show sm n (fun i => f i - g i) + (f n - g n) = (sm n f + f n) - (sm n g + g n); rw [ih]; omega
theorem sm_neg {n : Nat} {f : Nat → Int} : sm n (fun i => - f i) = - sm n f := by
  induction n with
  | zero => rfl
  | succ n ih => show sm n (fun i => - f i) + (- f n) = - (sm n f + f n); rw [ih]; omega
/-- one summand alone -/
theorem sm_one {n c : Nat} {f : Nat → Int} (hc : c < n) (h : ∀ i, i < n → i ≠ c → f i = 0) : sm n f = f c := by
  induction n with
  | zero => omega
  | succ n ih =>
    show sm n f + f n = f c
    by_cases e : c = n
    · subst e; rw [sm_zero fun i hi => h i (by omega) (by omega)]; omega
    · rw [ih (by omega) fun i hi => h i (by omega), h n (by omega) (by omega)]; omega
/-- one summand apart -/
theorem sm_at {n c : Nat} {f : Nat → Int} (hc : c < n) : sm n f = f c + sm n (fun i => if i = c then 0 else f i) := by
  have e : sm n f = sm n (fun i => (if i = c then f c else 0) + (if i = c then 0 else f i)) := sm_congr fun i _ => by
    by_cases h : i = c
    · subst h; simp
    · simp [h]
  rw [e, sm_add, sm_one hc fun i _ h => by simp [h]]
  simp
theorem sm_swap {n m : Nat} {f : Nat → Nat → Int} : sm n (fun i => sm m (fun j => f i j)) = sm m (fun j => sm n (fun i => f i j)) := by
  induction n with
  | zero => exact (sm_zero fun _ _ => rfl).symm
  | succ n ih =>
    show sm n (fun i => sm m (fun j => f i j)) + sm m (fun j => f n j) = sm m (fun j => sm n (fun i => f i j) + f n j)
    rw [ih, sm_add]
/-- two neighbours that cancel, and nothing else -/
theorem sm_two {n c : Nat} {f : Nat → Int} (hc : c + 1 < n) (h : ∀ i, i < n → i ≠ c → i ≠ c + 1 → f i = 0) (h2 : f c + f (c + 1) = 0) : sm n f = 0 := by
  rw [sm_at (c := c) (by omega), sm_one (c := c + 1) hc fun i hi hn => by
    by_cases e : i = c
    · simp [e]
    · simp [e]; exact h i hi e hn]
  have e : ¬ c + 1 = c := by omega
  simp [e]; exact h2

/-- the j-th number left out -/
def sk (j i : Nat) : Nat := if i < j then i else i + 1
theorem sk_ne {j i : Nat} : sk j i ≠ j := by unfold sk; split <;> omega
theorem sk_lt {j i n : Nat} (h : i < n) : sk j i < n + 1 := by unfold sk; split <;> omega
/-- 1, -1, 1, .. -/
def sg : Nat → Int
  | 0 => 1
  | n + 1 => - sg n
/-- M c r: column c, row r -/
abbrev Mt := Nat → Nat → Int
def det : Nat → Mt → Int
  | 0, _ => 1
  | n + 1, M => sm (n + 1) fun j => sg j * M j 0 * det n fun c r => M (sk j c) (r + 1)
/-- column c becomes v -/
def up (M : Mt) (c : Nat) (v : Nat → Int) : Mt := fun d r => if d = c then v r else M d r
theorem up_self {M : Mt} {c : Nat} {v : Nat → Int} {r : Nat} : up M c v c r = v r := by simp [up]
theorem up_ne {M : Mt} {c d : Nat} {v : Nat → Int} {r : Nat} (h : d ≠ c) : up M c v d r = M d r := by simp [up, h]

theorem det_congr {n : Nat} {M N : Mt} (h : ∀ c r, c < n → r < n → M c r = N c r) : det n M = det n N := by
  induction n generalizing M N with
  | zero => rfl
  | succ n ih =>
    refine sm_congr fun j hj => ?_
    rw [h j 0 hj (by omega), ih fun c r hc hr => h _ _ (sk_lt hc) (by omega)]

/-- the column of the minor that was column c -/
def bk (j c : Nat) : Nat := if c < j then c else c - 1
theorem sk_bk {j c : Nat} (h : c ≠ j) : sk j (bk j c) = c := by unfold sk bk; repeat (first | split | omega) 
theorem sk_inj {j a b : Nat} (h : sk j a = sk j b) : a = b := by unfold sk at h; repeat (first | omega | split at h)
theorem bk_lt {j c n : Nat} (h : c ≠ j) (hc : c < n + 1) (hj : j < n + 1) : bk j c < n := by unfold bk; split <;> omega
theorem minor_up {M : Mt} {j c : Nat} {v : Nat → Int} (h : c ≠ j) : (fun d r => up M c v (sk j d) (r + 1)) = up (fun d r => M (sk j d) (r + 1)) (bk j c) (fun r => v (r + 1)) := by
  funext d r
  by_cases e : d = bk j c
  · subst e; rw [sk_bk h, up_self, up_self]
  · rw [up_ne e, up_ne]
    intro q
    exact e (sk_inj (q.trans (sk_bk h).symm))
theorem minor_up_self {M : Mt} {c : Nat} {v : Nat → Int} : (fun d r => up M c v (sk c d) (r + 1)) = fun d r => M (sk c d) (r + 1) := by
  funext d r
  rw [up_ne sk_ne]
theorem det_lin {n c : Nat} {M : Mt} {a b : Int} {u v : Nat → Int} (hc : c < n) : det n (up M c fun r => a * u r + b * v r) = a * det n (up M c u) + b * det n (up M c v) := by
  induction n generalizing M c u v with
  | zero => omega
  | succ n ih =>
    show sm (n + 1) _ = a * sm (n + 1) _ + b * sm (n + 1) _
    rw [← sm_mul, ← sm_mul, ← sm_add]
    refine sm_congr fun j hj => ?_
    by_cases e : c = j
    · subst e
      rw [minor_up_self, minor_up_self, minor_up_self, up_self, up_self, up_self]
      generalize det n _ = d
      grind
    · rw [minor_up e, minor_up e, minor_up e, up_ne (Ne.symm e), up_ne (Ne.symm e), up_ne (Ne.symm e), ih (bk_lt e hc hj)]
      generalize det n _ = d1
      generalize det n _ = d2
      grind
theorem det_adj {n c : Nat} {M : Mt} (hc : c + 1 < n) (h : ∀ r, M c r = M (c + 1) r) : det n M = 0 := by
  induction n generalizing M c with
  | zero => omega
  | succ n ih =>
    refine sm_two hc (fun j hj h1 h2 => ?_) ?_
    · have z : det n (fun d r => M (sk j d) (r + 1)) = 0 := by
        by_cases l : c < j
        · refine ih (c := c) (by omega) fun r => ?_
          have e1 : sk j c = c := by unfold sk; split <;> omega
          have e2 : sk j (c + 1) = c + 1 := by unfold sk; split <;> omega
          rw [e1, e2]; exact h _
        · obtain ⟨k, rfl⟩ : ∃ k, c = k + 1 := ⟨c - 1, by omega⟩
          refine ih (c := k) (by omega) fun r => ?_
          have e1 : sk j k = k + 1 := by unfold sk; split <;> omega
          have e2 : sk j (k + 1) = k + 1 + 1 := by unfold sk; split <;> omega
          rw [e1, e2]; exact h _
      rw [z, Int.mul_zero]
    · have e : (fun d r => M (sk (c + 1) d) (r + 1)) = fun d r => M (sk c d) (r + 1) := by
        funext d r
        by_cases l : d = c
        · subst l
          have e1 : sk (d + 1) d = d := by unfold sk; split <;> omega
          have e2 : sk d d = d + 1 := by unfold sk; split <;> omega
          rw [e1, e2, h]
        · have : sk (c + 1) d = sk c d := by unfold sk; split <;> split <;> omega
          rw [this]
      rw [e, h 0]
      show sg c * M (c + 1) 0 * _ + - sg c * M (c + 1) 0 * _ = 0
      generalize det n _ = d
      grind
theorem det_lin0 {n c : Nat} {M : Mt} {u v : Nat → Int} (hc : c < n) : det n (up M c fun r => u r + v r) = det n (up M c u) + det n (up M c v) := by
  have := det_lin (n := n) (c := c) (M := M) (a := 1) (b := 1) (u := u) (v := v) hc
  simp only [Int.one_mul] at this
  exact this
theorem up_id {M : Mt} {c : Nat} : up M c (M c) = M := by
  funext d r
  by_cases e : d = c
  · subst e; exact up_self
  · exact up_ne e
theorem up_comm {M : Mt} {c d : Nat} {u v : Nat → Int} (h : c ≠ d) : up (up M c u) d v = up (up M d v) c u := by
  funext e r
  unfold up
  by_cases h1 : e = d
  · subst h1; simp [Ne.symm h]
  · simp [h1]
theorem up_up {M : Mt} {c : Nat} {u v : Nat → Int} : up (up M c u) c v = up M c v := by
  funext e r
  unfold up
  by_cases h1 : e = c <;> simp [h1]
/-- neighbours turned: the sign turns -/
theorem det_turn {n c : Nat} {M : Mt} (hc : c + 1 < n) : det n (up (up M c (M (c + 1))) (c + 1) (M c)) = - det n M := by
  have h : ∀ x : Nat → Int, det n (up (up M c x) (c + 1) x) = 0 := fun x => det_adj hc fun r => by
    rw [up_ne (by omega), up_self, up_self]
  have h0 := h fun r => M c r + M (c + 1) r
  have ne : c ≠ c + 1 := by omega
  rw [det_lin0 (by omega), up_comm ne, up_comm (M := M) ne, det_lin0 (by omega), det_lin0 (by omega), ← up_comm ne, ← up_comm ne, ← up_comm ne, ← up_comm ne, h, h] at h0
  have e : up (up M c (M c)) (c + 1) (M (c + 1)) = M := by rw [up_id, up_id]
  rw [e] at h0
  omega
/-- two equal columns -/
theorem det_eq {n c d : Nat} {M : Mt} (hcd : c < d) (hd : d < n) (h : ∀ r, M c r = M d r) : det n M = 0 := by
  obtain ⟨k, rfl⟩ : ∃ k, d = c + 1 + k := ⟨d - (c + 1), by omega⟩
  induction k generalizing M with
  | zero => exact det_adj hd h
  | succ k ih =>
    have t := det_turn (n := n) (c := c + 1 + k) (M := M) (by omega)
    rw [ih (M := up (up M (c + 1 + k) (M (c + 1 + k + 1))) (c + 1 + k + 1) (M (c + 1 + k))) (by omega) (by omega) fun r => by
      rw [up_ne (by omega), up_ne (by omega), up_ne (by omega), up_self]
      exact h r] at t
    omega
theorem det_eq2 {n c d : Nat} {M : Mt} (hne : c ≠ d) (hc : c < n) (hd : d < n) (h : ∀ r, M c r = M d r) : det n M = 0 := by
  rcases Nat.lt_or_gt_of_ne hne with l | l
  · exact det_eq l hd h
  · exact det_eq l hc fun r => (h r).symm
theorem det_up_other {n c d : Nat} {M : Mt} (hne : d ≠ c) (hc : c < n) (hd : d < n) : det n (up M c (M d)) = 0 :=
  det_eq2 hne hd hc fun r => by rw [up_ne hne, up_self]
/-- a column is a sum -/
theorem det_sm {n c m : Nat} {M : Mt} {a : Nat → Int} {v : Nat → Nat → Int} (hc : c < n) : det n (up M c fun r => sm m fun k => a k * v k r) = sm m fun k => a k * det n (up M c (v k)) := by
  induction m with
  | zero =>
    have := det_lin (n := n) (c := c) (M := M) (a := 0) (b := 0) (u := fun _ => 0) (v := fun _ => 0) hc
    simp only [Int.zero_mul, Int.add_zero] at this
    exact this
  | succ m ih =>
    show det n (up M c fun r => (sm m fun k => a k * v k r) + a m * v m r) = (sm m fun k => a k * det n (up M c (v k))) + a m * det n (up M c (v m))
    rw [← ih]
    have := det_lin (n := n) (c := c) (M := M) (a := 1) (b := a m) (u := fun r => sm m fun k => a k * v k r) (v := v m) hc
    simp only [Int.one_mul] at this
    exact this
theorem det_up_congr {n c : Nat} {M : Mt} {u v : Nat → Int} (h : ∀ r, r < n → u r = v r) : det n (up M c u) = det n (up M c v) := det_congr fun d r _ hr => by
  unfold up
  split
  · exact h r hr
  · rfl
/-- Cramer's rule -/
theorem cramer {n i : Nat} {B : Mt} {x C : Nat → Int} {d : Int} (hi : i < n) (h : ∀ r, r < n → (sm n fun m => x m * B m r) = d * C r) : d * det n (up B i C) = x i * det n B := by
  have e : d * det n (up B i C) = det n (up B i fun r => d * C r) := by
    have := det_lin (n := n) (c := i) (M := B) (a := d) (b := 0) (u := C) (v := C) hi
    simp only [Int.zero_mul, Int.add_zero] at this
    exact this.symm
  rw [e, det_up_congr fun r hr => (h r hr).symm, det_sm hi, sm_one hi fun m hm hn => by rw [det_up_other hn hi hm, Int.mul_zero], up_id]
theorem det_one {n : Nat} : det n (fun c r => if c = r then 1 else 0) = 1 := by
  induction n with
  | zero => rfl
  | succ n ih =>
    show sm (n + 1) _ = 1
    rw [sm_one (c := 0) (by omega) fun j _ hj => by simp [hj]]
    have e : (fun c r => if sk 0 c = r + 1 then (1 : Int) else 0) = fun c r => if c = r then 1 else 0 := by
      funext c r
      have : sk 0 c = c + 1 := by unfold sk; split <;> omega
      rw [this]
      by_cases h : c = r <;> simp [h]
    rw [e, ih]
    rfl
def fac : Nat → Nat
  | 0 => 1
  | n + 1 => (n + 1) * fac n
theorem sg_abs {n : Nat} : (sg n).natAbs = 1 := by
  induction n with
  | zero => rfl
  | succ n ih => show (- sg n).natAbs = 1; rw [Int.natAbs_neg, ih]
theorem sm_abs {n : Nat} {f : Nat → Int} {b : Nat} (h : ∀ i, i < n → (f i).natAbs ≤ b) : (sm n f).natAbs ≤ n * b := by
  induction n with
  | zero => simp [sm]
  | succ n ih =>
    show (sm n f + f n).natAbs ≤ _
    have h1 := ih fun i hi => h i (by omega)
    have h2 := h n (by omega)
    have h3 := Int.natAbs_add_le (sm n f) (f n)
    rw [Nat.succ_mul]
    omega
/-- how great it can be -/
theorem det_abs {n b : Nat} {M : Mt} (h : ∀ c r, c < n → r < n → (M c r).natAbs ≤ b) : (det n M).natAbs ≤ fac n * b ^ n := by
  induction n generalizing M with
  | zero => simp [det, fac]
  | succ n ih =>
    show (sm (n + 1) _).natAbs ≤ _
    refine Nat.le_trans (sm_abs (b := b * (fac n * b ^ n)) fun j hj => ?_) (Nat.le_of_eq ?_)
    · rw [Int.natAbs_mul, Int.natAbs_mul, sg_abs, Nat.one_mul]
      exact Nat.mul_le_mul (h j 0 hj (by omega)) (ih fun c r hc hr => h _ _ (sk_lt hc) (by omega))
    · show (n + 1) * (b * (fac n * b ^ n)) = (n + 1) * fac n * b ^ (n + 1)
      rw [Nat.pow_succ]
      grind
end Dt

/-! Elimination in whole numbers: the divisions come out even, and what is found is the inverse -/
namespace Dt

/-- all columns but c and d stay: the sign turns -/
theorem det_swap {n c d : Nat} {M : Mt} (hne : c ≠ d) (hc : c < n) (hd : d < n) : det n (up (up M c (M d)) d (M c)) = - det n M := by
  have h : ∀ x : Nat → Int, det n (up (up M c x) d x) = 0 := fun x => det_eq2 hne hc hd fun r => by
    rw [up_ne hne, up_self, up_self]
  have h0 := h fun r => M c r + M d r
  rw [det_lin0 hd, up_comm hne, up_comm (M := M) hne, det_lin0 hc, det_lin0 hc, ← up_comm hne, ← up_comm hne, ← up_comm hne, ← up_comm hne, h, h] at h0
  have e : up (up M c (M c)) d (M d) = M := by rw [up_id, up_id]
  rw [e] at h0
  omega
/-- k and p change places -/
def sw (k p i : Nat) : Nat := if i = k then p else if i = p then k else i
theorem sw_lt {k p i n : Nat} (hk : k < n) (hp : p < n) (hi : i < n) : sw k p i < n := by unfold sw; split; exact hp; split; exact hk; exact hi
theorem sw_sw {k p i : Nat} : sw k p (sw k p i) = i := by unfold sw; repeat (first | omega | split)
theorem sw_self {k i : Nat} : sw k k i = i := by unfold sw; repeat (first | omega | split)
theorem sm_sw {n k p : Nat} {f : Nat → Int} (hk : k < n) (hp : p < n) : sm n (fun i => f (sw k p i)) = sm n f := by
  by_cases e : k = p
  · subst e; exact sm_congr fun i _ => by rw [sw_self]
  · rw [sm_at (c := k) hk, sm_at (c := p) hp, sm_at (f := f) (c := k) hk, sm_at (n := n) (c := p) (f := fun i => if i = k then 0 else f i) hp]
    have e1 : sw k p k = p := by simp [sw]
    have e2 : sw k p p = k := by simp [sw, Ne.symm e]
    simp only [if_neg (Ne.symm e), e1, e2]
    rw [sm_congr (g := fun i => if i = p then 0 else if i = k then 0 else f i) fun i _ => by
      by_cases h1 : i = p
      · simp [h1]
      · by_cases h2 : i = k
        · simp [h2]
        · simp [h1, h2, sw]]
    omega
theorem up_sw {M : Mt} {k p : Nat} (e : k ≠ p) : (fun m => M (sw k p m)) = up (up M k (M p)) p (M k) := by
  funext m r
  unfold up sw
  by_cases h1 : m = k
  · subst h1; simp [e]
  · by_cases h2 : m = p
    · simp [h2, Ne.symm e]
    · simp [h1, h2]

/-- column j of the table beside the identity -/
def bs (n : Nat) (P : Mt) : Mt := fun j r => if j < n then P j r else if j = n + r then 1 else 0

/-- after k steps: lines L, the last lead d, the columns B that the lines stand for -/
structure Ba (n : Nat) (P : Mt) (k : Nat) (L : Nat → Nat → Int) (d : Int) (B : Mt) : Prop where
  d0 : d ≠ 0
  tot : ∀ j r, j < n + n → r < n → sm n (fun m => L m j * B m r) = d * bs n P j r
  sgn : det n B = d ∨ det n B = -d
  got : ∀ m r, m < k → r < n → B m r = P m r
  col : ∀ m, m < n → ∃ j, j < n + n ∧ ∀ r, r < n → B m r = bs n P j r

theorem Ba.det0 {n k : Nat} {P B : Mt} {L d} (h : Ba n P k L d B) : det n B ≠ 0 := by
  have := h.d0
  rcases h.sgn with e | e <;> omega

theorem ba_init {n : Nat} {P : Mt} {L : Nat → Nat → Int} (hL : ∀ i j, i < n → j < n + n → L i j = bs n P j i) : Ba n P 0 L 1 (fun m r => if m = r then 1 else 0) where
  d0 := by decide
  tot j r hj hr := by
    rw [sm_one hr fun i _ hne => by simp [hne], hL r j hr hj]
    simp
  sgn := Or.inl det_one
  got m r h := by omega
  col m hm := ⟨n + m, by omega, fun r hr => by
    unfold bs
    have e1 : ¬ n + m < n := by omega
    by_cases e : m = r
    · subst e; simp [e1]
    · simp [e1, e]⟩

theorem ba_congr {n k : Nat} {P B : Mt} {L L' : Nat → Nat → Int} {d} (h : Ba n P k L d B) (e : ∀ i j, i < n → j < n + n → L' i j = L i j) : Ba n P k L' d B :=
  { h with tot := fun j r hj hr => (sm_congr fun i hi => by rw [e i j hi hj]).trans (h.tot j r hj hr) }

/-- lines k and p change places -/
theorem ba_swap {n k p : Nat} {P B : Mt} {L d} (h : Ba n P k L d B) (hk : k < n) (hp : p < n) (hkp : k ≤ p) :
    ∃ B', Ba n P k (fun i => L (sw k p i)) d B' := by
  by_cases e : k = p
  · subst e
    exact ⟨B, ba_congr h fun i j _ _ => by rw [sw_self]⟩
  · refine ⟨fun m => B (sw k p m), h.d0, fun j r hj hr => ?_, ?_, fun m r hm hr => ?_, fun m hm => ?_⟩
    · rw [sm_sw (f := fun m => L m j * B m r) hk hp]
      exact h.tot j r hj hr
    · rw [up_sw e, det_swap e hk hp]
      rcases h.sgn with g | g <;> rw [g]
      · exact Or.inr rfl
      · exact Or.inl (Int.neg_neg d)
    · have : sw k p m = m := by unfold sw; repeat (first | omega | split)
      rw [this]; exact h.got m r hm hr
    · exact h.col _ (sw_lt hk hp hm)

/-- what the lines hold, as determinants -/
theorem Ba.val {n k i j : Nat} {P B : Mt} {L d} (h : Ba n P k L d B) (hi : i < n) (hj : j < n + n) :
    L i j = det n (up B i (bs n P j)) ∨ L i j = - det n (up B i (bs n P j)) := by
  have c := cramer (n := n) (i := i) (B := B) (x := fun m => L m j) (C := bs n P j) (d := d) hi fun r hr => h.tot j r hj hr
  have d0 := h.d0
  rcases h.sgn with e | e <;> rw [e] at c
  · left
    refine Int.eq_of_mul_eq_mul_left d0 ?_
    rw [Int.mul_comm d (L i j)]; exact c.symm
  · right
    refine Int.eq_of_mul_eq_mul_left d0 ?_
    rw [Int.mul_neg, c]; grind
theorem Ba.abs {n k i j b : Nat} {P B : Mt} {L d} (h : Ba n P k L d B) (hb : ∀ j r, j < n + n → r < n → (bs n P j r).natAbs ≤ b) (hi : i < n) (hj : j < n + n) : (L i j).natAbs ≤ fac n * b ^ n := by
  have key : (det n (up B i (bs n P j))).natAbs ≤ fac n * b ^ n := det_abs fun c r hc hr => by
    unfold up
    split
    · exact hb j r hj hr
    · obtain ⟨j', h1, h2⟩ := h.col c hc
      rw [h2 r hr]; exact hb j' r h1 hr
  rcases h.val hi hj with e | e <;> rw [e]
  · exact key
  · rw [Int.natAbs_neg]; exact key
theorem Ba.dabs {n k b : Nat} {P B : Mt} {L d} (h : Ba n P k L d B) (hb : ∀ j r, j < n + n → r < n → (bs n P j r).natAbs ≤ b) : d.natAbs ≤ fac n * b ^ n := by
  have key : (det n B).natAbs ≤ fac n * b ^ n := det_abs fun c r hc hr => by
    obtain ⟨j', h1, h2⟩ := h.col c hc
    rw [h2 r hr]; exact hb j' r h1 hr
  rcases h.sgn with e | e <;> rw [e] at key
  · exact key
  · rw [Int.natAbs_neg] at key; exact key

/-- one step: what is left of the lines is divided by the last lead, evenly -/
theorem ba_step {n k : Nat} {P B : Mt} {L d} (h : Ba n P k L d B) (hk : k < n) (hl : L k k ≠ 0) :
    (∀ i j, i < n → i ≠ k → j < n + n → d ∣ (L k k * L i j - L i k * L k j)) ∧
    ∀ L' : Nat → Nat → Int, (∀ i j, i < n → j < n + n → L' i j = if i = k then L k j else (L k k * L i j - L i k * L k j).fdiv d) → ∃ B', Ba n P (k + 1) L' (L k k) B' := by
  have d0 := h.d0
  -- the new columns
  have pk : ∀ r, r < n → bs n P k r = P k r := fun r _ => by simp [bs, hk]
  have tk : ∀ r, r < n → d * P k r = sm n (fun m => L m k * B m r) := fun r hr => by rw [h.tot k r (by omega) hr, pk r hr]
  have tn : ∀ j r, j < n + n → r < n → sm n (fun m => (if m = k then d * L k j else L k k * L m j - L m k * L k j) * up B k (P k) m r) = (L k k * d) * bs n P j r := by
    intro j r hj hr
    have e : sm n (fun m => (if m = k then d * L k j else L k k * L m j - L m k * L k j) * up B k (P k) m r) = sm n (fun m => L k k * (L m j * B m r) + ((-(L k j)) * (L m k * B m r) + (if m = k then d * L k j * P k r else 0))) := sm_congr fun m hm => by
      by_cases e : m = k
      · subst e; rw [up_self]; simp; grind
      · rw [up_ne e]; simp [e]; grind
    rw [e, sm_add, sm_add, sm_mul, sm_mul, sm_one (f := fun m => if m = k then d * L k j * P k r else 0) hk fun i _ hne => by simp [hne], ← tk r hr, h.tot j r hj hr]
    simp
    grind
  have cd := cramer (n := n) (i := k) (B := B) (x := fun m => L m k) (C := P k) (d := d) hk fun r hr => (tk r hr).symm
  have sg' : det n (up B k (P k)) = L k k ∨ det n (up B k (P k)) = - L k k := by
    rcases h.sgn with e | e <;> rw [e] at cd
    · left; refine Int.eq_of_mul_eq_mul_left d0 ?_; rw [cd, Int.mul_comm]
    · right; refine Int.eq_of_mul_eq_mul_left d0 ?_; rw [cd]; grind
  have num : ∀ i j, i < n → i ≠ k → j < n + n → ∃ D : Int, L k k * L i j - L i k * L k j = d * D := by
    intro i j hi hne hj
    have c := cramer (n := n) (i := i) (B := up B k (P k)) (x := fun m => if m = k then d * L k j else L k k * L m j - L m k * L k j) (C := bs n P j) (d := L k k * d) hi fun r hr => tn j r hj hr
    simp only [if_neg hne] at c
    rcases sg' with e | e <;> rw [e] at c
    · refine ⟨det n (up (up B k (P k)) i (bs n P j)), Int.eq_of_mul_eq_mul_left hl ?_⟩
      rw [← Int.mul_assoc, c, Int.mul_comm]
    · refine ⟨- det n (up (up B k (P k)) i (bs n P j)), Int.eq_of_mul_eq_mul_left hl ?_⟩
      rw [← Int.mul_assoc, Int.mul_neg, c]; grind
  refine ⟨fun i j hi hne hj => ?_, fun L' hL => ⟨up B k (P k), hl, fun j r hj hr => ?_, sg', fun m r hm hr => ?_, fun m hm => ?_⟩⟩
  · obtain ⟨D, e⟩ := num i j hi hne hj
    exact ⟨D, e⟩
  · refine Int.eq_of_mul_eq_mul_left d0 ?_
    rw [← sm_mul]
    have e : sm n (fun m => d * (L' m j * up B k (P k) m r)) = sm n (fun m => (if m = k then d * L k j else L k k * L m j - L m k * L k j) * up B k (P k) m r) := sm_congr fun m hm => by
      rw [hL m j hm hj]
      by_cases e : m = k
      · simp [e, Int.mul_assoc]
      · obtain ⟨D, e'⟩ := num m j hm e hj
        simp only [if_neg e]
        rw [e', Int.mul_fdiv_cancel_left _ d0, Int.mul_assoc]
    rw [e, tn j r hj hr]
    grind
  · by_cases e : m = k
    · subst e; exact up_self
    · rw [up_ne e]; exact h.got m r (by omega) hr
  · by_cases e : m = k
    · subst e
      exact ⟨m, by omega, fun r hr => by rw [up_self, pk r hr]⟩
    · obtain ⟨j, h1, h2⟩ := h.col m hm
      exact ⟨j, h1, fun r hr => by rw [up_ne e]; exact h2 r hr⟩

/-- no lead: something goes to zero -/
theorem ba_none {n k : Nat} {P B : Mt} {L d} (h : Ba n P k L d B) (hk : k < n) (hz : ∀ i, k ≤ i → i < n → L i k = 0) :
    ∃ v : Nat → Int, v k ≠ 0 ∧ ∀ r, r < n → sm n (fun m => v m * P m r) = 0 := by
  refine ⟨fun m => if m < k then L m k else if m = k then -d else 0, by simp; exact h.d0, fun r hr => ?_⟩
  have pk : bs n P k r = P k r := by simp [bs, hk]
  have t := h.tot k r (by omega) hr
  rw [pk] at t
  have e : sm n (fun m => (if m < k then L m k else if m = k then -d else 0) * P m r) = sm n (fun m => L m k * B m r + (if m = k then -d * P k r else 0)) := sm_congr fun m hm => by
    by_cases e1 : m < k
    · have e2 : m ≠ k := by omega
      simp [e1, e2, h.got m r e1 hr]
    · rw [hz m (by omega) hm]
      by_cases e2 : m = k
      · subst e2; simp
      · simp [e1, e2]
  rw [e, sm_add, t, sm_one (f := fun m => if m = k then -d * P k r else 0) hk fun i _ hne => by simp [hne]]
  simp
  grind

/-- at the end -/
theorem ba_end {n : Nat} {P B : Mt} {L d} (h : Ba n P n L d B) : (∀ j r, j < n → r < n → sm n (fun m => L m (n + j) * P m r) = if j = r then d else 0) ∧ det n P ≠ 0 := by
  refine ⟨fun j r hj hr => ?_, ?_⟩
  · have t := h.tot (n + j) r (by omega) hr
    have e1 : bs n P (n + j) r = if j = r then 1 else 0 := by
      unfold bs
      have : ¬ n + j < n := by omega
      by_cases e : j = r
      · subst e; simp [this]
      · simp [this, e]
    rw [e1] at t
    rw [sm_congr (g := fun m => L m (n + j) * B m r) fun m hm => by rw [h.got m r hm hr], t]
    by_cases e : j = r <;> simp [e]
  · rw [← det_congr fun c r hc hr => h.got c r hc hr]
    exact h.det0
/-- either something goes to zero, or there is an inverse from the right -/
theorem alt (n : Nat) (P : Mt) : (∃ v : Nat → Int, (∃ k, k < n ∧ v k ≠ 0) ∧ ∀ r, r < n → sm n (fun m => v m * P m r) = 0) ∨
    (det n P ≠ 0 ∧ ∃ (Y : Nat → Nat → Int) (d : Int), d ≠ 0 ∧ ∀ j r, j < n → r < n → sm n (fun m => Y m j * P m r) = if j = r then d else 0) := by
  have go : ∀ k, k ≤ n → (∃ v : Nat → Int, (∃ k, k < n ∧ v k ≠ 0) ∧ ∀ r, r < n → sm n (fun m => v m * P m r) = 0) ∨ ∃ L d B, Ba n P k L d B := by
    intro k
    induction k with
    | zero => exact fun _ => Or.inr ⟨_, _, _, ba_init (L := fun i j => bs n P j i) fun i j _ _ => rfl⟩
    | succ k ih =>
      intro hk
      rcases ih (by omega) with h | ⟨L, d, B, h⟩
      · exact Or.inl h
      · by_cases q : ∃ p, k ≤ p ∧ p < n ∧ L p k ≠ 0
        · obtain ⟨p, h1, h2, h3⟩ := q
          obtain ⟨B1, hb⟩ := ba_swap h (p := p) (by omega) h2 h1
          have e : (fun i => L (sw k p i)) k k ≠ 0 := by
            show L (sw k p k) k ≠ 0
            have : sw k p k = p := by simp [sw]
            rw [this]; exact h3
          obtain ⟨B2, hb2⟩ := (ba_step hb (by omega) e).2 _ fun i j _ _ => rfl
          exact Or.inr ⟨_, _, B2, hb2⟩
        · obtain ⟨v, h1, h2⟩ := ba_none h (by omega) fun i hi hn => Decidable.byContradiction fun hne => q ⟨i, hi, hn, hne⟩
          exact Or.inl ⟨v, ⟨k, by omega, h1⟩, h2⟩
  rcases go n (Nat.le_refl n) with h | ⟨L, d, B, h⟩
  · exact Or.inl h
  · exact Or.inr ⟨(ba_end h).2, fun m j => L m (n + j), d, h.d0, (ba_end h).1⟩
end Dt

/-! Elimination row by row, each row without a common divisor: what the rows are, and how great -/
namespace Dt

theorem sm_mul_r {n : Nat} {f : Nat → Int} {c : Int} : sm n (fun i => f i * c) = sm n f * c := by
  rw [Int.mul_comm, ← sm_mul]
  exact sm_congr fun i _ => Int.mul_comm _ _
theorem ite_mul {p : Prop} [Decidable p] {a b : Int} : (if p then a else 0) * b = if p then a * b else 0 := by
  by_cases h : p <;> simp [h]
theorem sm_ite {n c : Nat} {f : Nat → Int} (hc : c < n) : sm n (fun i => if i = c then f i else 0) = f c := by
  rw [sm_one hc fun i _ h => by simp [h]]; simp
theorem sm_ite' {n c : Nat} {f : Nat → Int} (hc : c < n) : sm n (fun i => if c = i then f i else 0) = f c := by
  rw [sm_one hc fun i _ h => by simp [Ne.symm h]]; simp

/-- what has an inverse from the right sends nothing else to zero -/
theorem ker0 {n : Nat} {P : Mt} {Y : Nat → Nat → Int} {d : Nat → Int} (hd : ∀ j, j < n → d j ≠ 0)
    (h : ∀ j r, j < n → r < n → sm n (fun m => Y m j * P m r) = if j = r then d j else 0)
    {v : Nat → Int} (hv : ∀ r, r < n → sm n (fun m => v m * P m r) = 0) : ∀ t, t < n → v t = 0 := by
  rcases alt n (fun c r => Y r c) with ⟨u, ⟨k, hk, hu⟩, hz⟩ | ⟨_, Z, e, he, hz⟩
  · exfalso
    refine hu ?_
    have q : sm n (fun m => u m * sm n (fun t => Y t m * P t k)) = d k * u k := by
      rw [sm_congr (g := fun m => if m = k then u m * d m else 0) fun m hm => by
        rw [h m k hm hk]; by_cases e : m = k <;> simp [e]]
      rw [sm_ite hk, Int.mul_comm]
    have q2 : sm n (fun m => u m * sm n (fun t => Y t m * P t k)) = 0 := by
      rw [sm_congr (g := fun m => sm n (fun t => u m * Y t m * P t k)) fun m _ => by
        rw [← sm_mul]; exact sm_congr fun t _ => (Int.mul_assoc _ _ _).symm]
      rw [sm_swap]
      refine sm_zero fun t ht => ?_
      rw [sm_mul_r, hz t ht, Int.zero_mul]
    rw [q2] at q
    rcases Int.mul_eq_zero.mp q.symm with e | e
    · exact absurd e (hd k hk)
    · exact e
  · have k1 : ∀ r s, r < n → s < n → Z r s * d r = e * P s r := by
      intro r s hr hs
      have a : sm n (fun j => Z j s * sm n (fun m => Y m j * P m r)) = Z r s * d r := by
        rw [sm_congr (g := fun j => if j = r then Z j s * d j else 0) fun j hj => by
          rw [h j r hj hr]; by_cases e : j = r <;> simp [e]]
        rw [sm_ite hr]
      have b : sm n (fun j => Z j s * sm n (fun m => Y m j * P m r)) = e * P s r := by
        rw [sm_congr (g := fun j => sm n (fun m => Z j s * Y m j * P m r)) fun j _ => by
          rw [← sm_mul]; exact sm_congr fun t _ => (Int.mul_assoc _ _ _).symm]
        rw [sm_swap]
        rw [sm_congr (g := fun m => if s = m then e * P m r else 0) fun m hm => by
          rw [sm_mul_r, hz s m hs hm, ite_mul]]
        rw [sm_ite' hs]
      rw [← a, b]
    have k2 : ∀ r, r < n → sm n (fun s => v s * Z r s) = 0 := by
      intro r hr
      have : d r * sm n (fun s => v s * Z r s) = 0 := by
        rw [← sm_mul, sm_congr (g := fun s => e * (v s * P s r)) fun s hs => by have := k1 r s hr hs; grind]
        rw [sm_mul, hv r hr, Int.mul_zero]
      rcases Int.mul_eq_zero.mp this with q | q
      · exact absurd q (hd r hr)
      · exact q
    intro t ht
    have : e * v t = 0 := by
      have a : sm n (fun s => v s * sm n (fun m => Z m s * Y t m)) = v t * e := by
        rw [sm_congr (g := fun s => if s = t then v s * e else 0) fun s hs => by
          rw [hz s t hs ht]; by_cases q : s = t <;> simp [q]]
        rw [sm_ite ht]
      have b : sm n (fun s => v s * sm n (fun m => Z m s * Y t m)) = 0 := by
        rw [sm_congr (g := fun s => sm n (fun m => v s * Z m s * Y t m)) fun s _ => by
          rw [← sm_mul]; exact sm_congr fun t _ => (Int.mul_assoc _ _ _).symm]
        rw [sm_swap]
        exact sm_zero fun m hm => by rw [sm_mul_r, k2 m hm, Int.zero_mul]
      rw [Int.mul_comm, ← a, b]
    rcases Int.mul_eq_zero.mp this with q | q
    · exact absurd q he
    · exact q
/-- an inverse from the right is one from the left -/
theorem left_of {n : Nat} {P : Mt} {Y : Nat → Nat → Int} {d : Int} (hd : d ≠ 0)
    (h : ∀ j r, j < n → r < n → sm n (fun m => Y m j * P m r) = if j = r then d else 0) :
    ∀ j m, j < n → m < n → sm n (fun r => Y j r * P m r) = if j = m then d else 0 := by
  intro j m hj hm
  have k := ker0 (P := P) (Y := Y) (d := fun _ => d) (fun _ _ => hd) h (v := fun t => sm n (fun r => Y t r * P m r) - if t = m then d else 0) (fun r hr => by
    rw [sm_congr (g := fun t => sm n (fun s => Y t s * P m s) * P t r - (if t = m then d * P t r else 0)) fun t _ => by rw [Int.sub_mul, ite_mul]]
    rw [sm_sub, sm_ite hm]
    rw [sm_congr (g := fun t => sm n (fun s => P m s * (Y t s * P t r))) fun t _ => by
      rw [← sm_mul_r]; exact sm_congr fun s _ => by grind]
    rw [sm_swap, sm_congr (g := fun s => if s = r then P m s * d else 0) fun s hs => by
      rw [sm_mul, h s r hs hr]; by_cases e : s = r <;> simp [e]]
    rw [sm_ite hr]
    grind) j hj
  have k' : sm n (fun r => Y j r * P m r) - (if j = m then d else 0) = 0 := k
  omega

/-- no common divisor, as it is used -/
def Prim (N : Nat) (f : Nat → Int) : Prop := ∀ t ρ : Int, (∀ j, j < N → ρ ∣ f j * t) → ρ ∣ t

structure Pr (n : Nat) (P : Mt) (w : Int) (b : Nat) (k : Nat) (R : Nat → Nat → Int) (c : Nat → Nat) : Prop where
  cl : ∀ i, i < n → c i < n + n
  ne : ∀ i, i < n → R i (c i) ≠ 0
  ze : ∀ i m, i < n → m < n → m ≠ i → R m (c i) = 0
  ck : ∀ i, i < k → c i = i
  row : ∀ i j, i < n → j < n → w * R i j = sm n (fun m => R i (n + m) * P j m)
  ker : ∀ v : Nat → Int, (∀ i, i < n → sm n (fun j => R i j * v j) = 0) → ∀ r, r < n → sm n (fun j => v j * P j r) = 0
  pri : ∀ i, i < n → (∀ j, j < n + n → (R i j).natAbs ≤ b) ∨ Prim (n + n) (R i)

theorem pr_init {n b : Nat} {P : Mt} {w : Int} {R : Nat → Nat → Int} {bot : Nat → Int} (hb : ∀ i, i < n → bot i ≠ 0)
    (h1 : ∀ i j, i < n → j < n → w * R i j = bot i * P j i) (h2 : ∀ i j, i < n → j < n → R i (n + j) = if j = i then bot i else 0) (hw : w ≠ 0)
    (ha : ∀ i j, i < n → j < n + n → (R i j).natAbs ≤ b) : Pr n P w b 0 R (fun i => n + i) where
  cl i hi := by omega
  ne i hi := by rw [h2 i i hi hi]; simp; exact hb i hi
  ze i m hi hm hne := by rw [h2 m i hm hi]; simp [Ne.symm hne]
  ck i hi := by omega
  row i j hi hj := by
    rw [h1 i j hi hj, sm_congr (g := fun m => if m = i then bot i * P j m else 0) fun m hm => by rw [h2 i m hi hm, ite_mul]]
    rw [sm_ite hi]
  ker v hv r hr := by
    have q := hv r hr
    have e : bot r * sm n (fun j => v j * P j r) = w * sm n (fun j => R r j * v j) := by
      rw [← sm_mul, ← sm_mul]
      exact sm_congr fun j hj => by have := h1 r j hr hj; grind
    rw [q, Int.mul_zero] at e
    rcases Int.mul_eq_zero.mp e with q | q
    · exact absurd q (hb r hr)
    · exact q
  pri i hi := Or.inl fun j hj => ha i j hi hj
theorem pr_congr {n b k : Nat} {P : Mt} {w : Int} {R R' : Nat → Nat → Int} {c : Nat → Nat} (h : Pr n P w b k R c) (e : ∀ i j, i < n → j < n + n → R' i j = R i j) : Pr n P w b k R' c where
  cl := h.cl
  ne i hi := by rw [e i _ hi (h.cl i hi)]; exact h.ne i hi
  ze i m hi hm hn := by rw [e m _ hm (h.cl i hi)]; exact h.ze i m hi hm hn
  ck := h.ck
  row i j hi hj := by rw [e i j hi (by omega), h.row i j hi hj]; exact sm_congr fun m hm => by rw [e i _ hi (by omega)]
  ker v hv := h.ker v fun i hi => (sm_congr fun j hj => by rw [e i j hi (by omega)]).trans (hv i hi)
  pri i hi := by
    rcases h.pri i hi with q | q
    · exact Or.inl fun j hj => by rw [e i j hi hj]; exact q j hj
    · exact Or.inr fun t ρ ht => q t ρ fun j hj => by rw [← e i j hi hj]; exact ht j hj
theorem pr_swap {n b k p : Nat} {P : Mt} {w : Int} {R : Nat → Nat → Int} {c : Nat → Nat} (h : Pr n P w b k R c) (hk : k < n) (hp : p < n) (hkp : k ≤ p) :
    Pr n P w b k (fun i => R (sw k p i)) (fun i => c (sw k p i)) where
  cl i hi := h.cl _ (sw_lt hk hp hi)
  ne i hi := h.ne _ (sw_lt hk hp hi)
  ze i m hi hm hn := h.ze _ _ (sw_lt hk hp hi) (sw_lt hk hp hm) fun q => hn (by rw [← sw_sw (k := k) (p := p) (i := m), q, sw_sw])
  ck i hi := by
    have : sw k p i = i := by unfold sw; repeat (first | omega | split)
    show c (sw k p i) = i
    rw [this]; exact h.ck i hi
  row i j hi hj := h.row _ j (sw_lt hk hp hi) hj
  ker v hv := h.ker v fun i hi => by
    have := hv (sw k p i) (sw_lt hk hp hi)
    rw [sw_sw] at this
    exact this
  pri i hi := h.pri _ (sw_lt hk hp hi)
/-- one step -/
theorem pr_step {n b k : Nat} {P : Mt} {w : Int} {R R' : Nat → Nat → Int} {c : Nat → Nat} (h : Pr n P w b k R c) (hk : k < n) (hl : R k k ≠ 0) 
    (hk' : ∀ j, j < n + n → R' k j = R k j)
    (hi' : ∀ i, i < n → i ≠ k → (R i k = 0 ∧ ∀ j, j < n + n → R' i j = R i j) ∨ (∃ g : Int, g ≠ 0 ∧ ∀ j, j < n + n → g * R' i j = R k k * R i j - R i k * R k j) ∧ Prim (n + n) (R' i)) :
    Pr n P w b (k + 1) R' (fun i => if i = k then k else c i) := by
  have G : ∀ i, i < n → i ≠ k → ∃ g : Int, g ≠ 0 ∧ ∀ j, j < n + n → g * R' i j = R k k * R i j - R i k * R k j := by
    intro i hi hn
    rcases hi' i hi hn with ⟨z, e⟩ | ⟨q, _⟩
    · exact ⟨R k k, hl, fun j hj => by rw [e j hj, z]; omega⟩
    · exact q
  have cz : ∀ {g x : Int}, g ≠ 0 → g * x = 0 → x = 0 := fun {g x} h0 e => by
    rcases Int.mul_eq_zero.mp e with q | q
    · exact absurd q h0
    · exact q
  refine ⟨fun i hi => ?_, fun i hi => ?_, fun i m hi hm hn => ?_, fun i hi => ?_, fun i j hi hj => ?_, fun v hv => ?_, fun i hi => ?_⟩
  · by_cases e : i = k
    · simp [e]; omega
    · simp [e]; exact h.cl i hi
  · by_cases e : i = k
    · subst e; simp only [if_true]; rw [hk' i (by omega)]; exact hl
    · simp only [if_neg e]
      obtain ⟨g, h0, q⟩ := G i hi e
      intro z
      have := q (c i) (h.cl i hi)
      rw [z, h.ze i k hi hk (Ne.symm e), Int.mul_zero, Int.mul_zero, Int.sub_zero] at this
      rcases Int.mul_eq_zero.mp this.symm with y | y
      · exact hl y
      · exact h.ne i hi y
  · by_cases e : i = k
    · subst e; simp only [if_true]
      obtain ⟨g, h0, q⟩ := G m hm hn
      refine cz h0 ?_
      rw [q i (by omega)]; grind
    · simp only [if_neg e]
      by_cases e2 : m = k
      · subst e2; rw [hk' _ (h.cl i hi)]; exact h.ze i m hi hm hn
      · obtain ⟨g, h0, q⟩ := G m hm e2
        refine cz h0 ?_
        rw [q _ (h.cl i hi), h.ze i m hi hm hn, h.ze i k hi hk (Ne.symm e)]; simp
  · by_cases e : i = k
    · simp [e]
    · simp only [if_neg e]; exact h.ck i (by omega)
  · by_cases e : i = k
    · subst e
      rw [hk' j (by omega), h.row i j hi hj]; exact sm_congr fun m hm => by rw [hk' _ (by omega)]
    · obtain ⟨g, h0, q⟩ := G i hi e
      refine Int.eq_of_mul_eq_mul_left h0 ?_
      rw [← sm_mul, sm_congr (g := fun m => R k k * (R i (n + m) * P j m) - R i k * (R k (n + m) * P j m)) fun m hm => by have := q (n + m) (by omega); grind]
      rw [sm_sub, sm_mul, sm_mul, ← h.row i j hi hj, ← h.row k j hk hj]
      have := q j (by omega)
      grind
  · refine h.ker v fun i hi => ?_
    have kz : sm n (fun j => R k j * v j) = 0 := (sm_congr fun j hj => by rw [hk' j (by omega)]).trans (hv k hk)
    by_cases e : i = k
    · rw [e]; exact kz
    · obtain ⟨g, h0, q⟩ := G i hi e
      refine cz hl ?_
      rw [← sm_mul, sm_congr (g := fun j => g * (R' i j * v j) + R i k * (R k j * v j)) fun j hj => by have := q j (by omega); grind]
      rw [sm_add, sm_mul, sm_mul, hv i hi, kz]; simp
  · by_cases e : i = k
    · subst e
      rcases h.pri i hi with q | q
      · exact Or.inl fun j hj => by rw [hk' j hj]; exact q j hj
      · exact Or.inr fun t ρ ht => q t ρ fun j hj => by rw [← hk' j hj]; exact ht j hj
    · rcases hi' i hi e with ⟨_, y⟩ | ⟨_, y⟩
      · rcases h.pri i hi with q | q
        · exact Or.inl fun j hj => by rw [y j hj]; exact q j hj
        · exact Or.inr fun t ρ ht => q t ρ fun j hj => by rw [← y j hj]; exact ht j hj
      · exact Or.inr y

/-- the table beside w times the identity -/
def bw (n : Nat) (P : Mt) (w : Int) : Mt := fun j r => if j < n then P j r else if j = n + r then w else 0
theorem Pr.tot {n b k : Nat} {P : Mt} {w : Int} {R : Nat → Nat → Int} {c : Nat → Nat} (h : Pr n P w b k R c) {i j : Nat} (hi : i < n) (hj : j < n + n) :
    sm n (fun m => R i (n + m) * bw n P w j m) = w * R i j := by
  by_cases e : j < n
  · rw [h.row i j hi e]; exact sm_congr fun m _ => by simp [bw, e]
  · rw [sm_congr (g := fun m => if m = j - n then R i (n + m) * w else 0) fun m hm => by
      unfold bw
      by_cases q : m = j - n
      · have : j = n + m := by omega
        subst this; simp [e]
      · have : ¬ j = n + m := by omega
        simp [e, this, q]]
    rw [sm_ite (by omega), show n + (j - n) = j by omega, Int.mul_comm]
/-- how great the rows can be -/
theorem Pr.abs {n b k β : Nat} {P : Mt} {w : Int} {R : Nat → Nat → Int} {c : Nat → Nat} (h : Pr n P w b k R c) (hw : w ≠ 0) (hβ : ∀ j r, j < n + n → r < n → (bw n P w j r).natAbs ≤ β) (hb : b ≤ fac n * β ^ n)
    {i j : Nat} (hi : i < n) (hj : j < n + n) : (R i j).natAbs ≤ fac n * β ^ n := by
  rcases h.pri i hi with q | pr
  · exact Nat.le_trans (q j hj) hb
  · -- the columns in which one row alone is not zero
    let B : Mt := fun m => bw n P w (c m)
    have ub : ∀ i m, i < n → m < n → sm n (fun t => R i (n + t) * B m t) = if m = i then w * R i (c i) else 0 := by
      intro i m hi hm
      rw [h.tot hi (h.cl m hm)]
      by_cases e : m = i
      · subst e; simp
      · rw [h.ze m i hm hi (Ne.symm e)]; simp [e]
    rcases alt n B with ⟨v, ⟨t, ht, hv⟩, hz⟩ | ⟨hdet, Y, d, hd, hY⟩
    · exfalso
      have a : sm n (fun r => R t (n + r) * sm n (fun m => v m * B m r)) = 0 := sm_zero fun r hr => by rw [hz r hr, Int.mul_zero]
      have b' : sm n (fun r => R t (n + r) * sm n (fun m => v m * B m r)) = v t * (w * R t (c t)) := by
        rw [sm_congr (g := fun r => sm n (fun m => v m * (R t (n + r) * B m r))) fun r _ => by
          rw [← sm_mul]; exact sm_congr fun m _ => by grind]
        rw [sm_swap, sm_congr (g := fun m => if m = t then v m * (w * R t (c t)) else 0) fun m hm => by
          rw [sm_mul, ub t m ht hm]; by_cases e : m = t <;> simp [e]]
        rw [sm_ite ht]
      rw [a] at b'
      rcases Int.mul_eq_zero.mp b'.symm with e | e
      · exact hv e
      · rcases Int.mul_eq_zero.mp e with e | e
        · exact hw e
        · exact h.ne t ht e
    · -- each column by these
      let y : Nat → Nat → Int := fun j m => sm n (fun t => Y m t * bw n P w j t)
      have col : ∀ j, j < n + n → ∀ r, r < n → sm n (fun m => y j m * B m r) = d * bw n P w j r := by
        intro j hj r hr
        rw [sm_congr (g := fun m => sm n (fun t => bw n P w j t * (Y m t * B m r))) fun m _ => by
          rw [← sm_mul_r]; exact sm_congr fun t _ => by grind]
        rw [sm_swap, sm_congr (g := fun t => if t = r then bw n P w j t * d else 0) fun t ht => by
          rw [sm_mul, hY t r ht hr]; by_cases e : t = r <;> simp [e]]
        rw [sm_ite hr, Int.mul_comm]
      have ru : ∀ j, j < n + n → d * R i j = y j i * R i (c i) := by
        intro j hj
        refine Int.eq_of_mul_eq_mul_left hw ?_
        have a : sm n (fun r => R i (n + r) * sm n (fun m => y j m * B m r)) = d * (w * R i j) := by
          rw [sm_congr (g := fun r => d * (R i (n + r) * bw n P w j r)) fun r hr => by rw [col j hj r hr]; grind]
          rw [sm_mul, h.tot hi hj]
        have b' : sm n (fun r => R i (n + r) * sm n (fun m => y j m * B m r)) = y j i * (w * R i (c i)) := by
          rw [sm_congr (g := fun r => sm n (fun m => y j m * (R i (n + r) * B m r))) fun r _ => by
            rw [← sm_mul]; exact sm_congr fun m _ => by grind]
          rw [sm_swap, sm_congr (g := fun m => if m = i then y j m * (w * R i (c i)) else 0) fun m hm => by
            rw [sm_mul, ub i m hi hm]; by_cases e : m = i <;> simp [e]]
          rw [sm_ite hi]
        rw [a] at b'
        grind
      have rd : ∀ j, j < n + n → R i (c i) * det n (up B i (bw n P w j)) = R i j * det n B := by
        intro j hj
        have cr := cramer (n := n) (i := i) (B := B) (x := y j) (C := bw n P w j) (d := d) hi fun r hr => col j hj r hr
        refine Int.eq_of_mul_eq_mul_left hd ?_
        have := ru j hj
        grind
      obtain ⟨t, ht⟩ := pr (det n B) (R i (c i)) fun j hj => ⟨_, (rd j hj).symm⟩
      have t0 : t ≠ 0 := fun z => by subst z; rw [Int.mul_zero] at ht; exact hdet ht
      have fin : det n (up B i (bw n P w j)) = R i j * t := by
        refine Int.eq_of_mul_eq_mul_left (h.ne i hi) ?_
        rw [rd j hj, ht]; grind
      have a1 : (det n (up B i (bw n P w j))).natAbs ≤ fac n * β ^ n := det_abs fun m r hm hr => by
        unfold up
        split
        · exact hβ j r hj hr
        · exact hβ _ r (h.cl m hm) hr
      rw [fin, Int.natAbs_mul] at a1
      have a2 : 1 ≤ t.natAbs := by omega
      have a3 : (R i j).natAbs * 1 ≤ (R i j).natAbs * t.natAbs := Nat.mul_le_mul_left _ a2
      omega

/-- f 0 * .. * f (n - 1) -/
def pd : Nat → (Nat → Int) → Int
  | 0, _ => 1
  | n + 1, f => pd n f * f n
theorem pd_ne {n : Nat} {f : Nat → Int} (h : ∀ i, i < n → f i ≠ 0) : pd n f ≠ 0 := by
  induction n with
  | zero => exact Int.one_ne_zero
  | succ n ih => exact Int.mul_ne_zero (ih fun i hi => h i (by omega)) (h n (by omega))
theorem pd_dvd {n c : Nat} {f : Nat → Int} (hc : c < n) : ∃ q, pd n f = f c * q := by
  induction n with
  | zero => omega
  | succ n ih =>
    by_cases e : c = n
    · subst e; exact ⟨pd c f, Int.mul_comm _ _⟩
    · obtain ⟨q, h⟩ := ih (by omega)
      exact ⟨q * f n, by show pd n f * f n = _; rw [h, Int.mul_assoc]⟩
/-- no pivot: something goes to zero -/
theorem pr_none {n b k : Nat} {P : Mt} {w : Int} {R : Nat → Nat → Int} {c : Nat → Nat} (h : Pr n P w b k R c) (hk : k < n) (hz : ∀ i, k ≤ i → i < n → R i k = 0) :
    ∃ v : Nat → Int, v k ≠ 0 ∧ ∀ r, r < n → sm n (fun m => v m * P m r) = 0 := by
  have dn : ∀ i, i < k → R i i ≠ 0 := fun i hi => by have := h.ne i (by omega); rw [h.ck i hi] at this; exact this
  have dz : ∀ i m, i < k → m < n → m ≠ i → R m i = 0 := fun i m hi hm hn => by have := h.ze i m (by omega) hm hn; rw [h.ck i hi] at this; exact this
  let p := pd k fun i => R i i
  have p0 : p ≠ 0 := pd_ne dn
  have qe : ∃ q : Nat → Int, ∀ i, i < k → p = R i i * q i := by
    refine ⟨fun i => if hi : i < k then (pd_dvd (f := fun i => R i i) hi).choose else 0, fun i hi => ?_⟩
    simp only [hi, dite_true]
    exact (pd_dvd (f := fun i => R i i) hi).choose_spec
  obtain ⟨q, hq⟩ := qe
  let v : Nat → Int := fun j => if j = k then p else if j < k then - (R j k * q j) else 0
  refine ⟨v, by show (if k = k then p else _) ≠ 0; simp; exact p0, h.ker v fun i hi => ?_⟩
  by_cases e : i < k
  · -- two summands
    rw [sm_congr (g := fun j => (if j = i then R i j * v j else 0) + (if j = k then R i j * v j else 0)) fun j hj => by
      by_cases e1 : j = i
      · have : ¬ i = k := by omega
        subst e1; simp [this]
      · by_cases e2 : j = k
        · subst e2; simp [e1]
        · simp only [if_neg e1, if_neg e2]
          show R i j * (if j = k then p else if j < k then - (R j k * q j) else 0) = 0 + 0
          by_cases e3 : j < k
          · rw [dz j i e3 hi (Ne.symm e1)]; simp
          · simp [e2, e3]]
    rw [sm_add, sm_ite hi, sm_ite hk]
    show R i i * (if i = k then p else if i < k then - (R i k * q i) else 0) + R i k * (if k = k then p else _) = 0
    have : ¬ i = k := by omega
    simp only [if_neg this, if_pos e, if_true]
    have := hq i e
    grind
  · refine sm_zero fun j hj => ?_
    show R i j * (if j = k then p else if j < k then - (R j k * q j) else 0) = 0
    by_cases e2 : j = k
    · subst e2; rw [hz i (by omega) hi, Int.zero_mul]
    · by_cases e3 : j < k
      · rw [dz j i e3 hi (by omega), Int.zero_mul]
      · simp [e2, e3]
/-- at the end: the inverse -/
theorem pr_end {n b : Nat} {P : Mt} {w : Int} {R : Nat → Nat → Int} {c : Nat → Nat} (h : Pr n P w b n R c) :
    (∀ i, i < n → R i i ≠ 0) ∧ ∀ i j, i < n → j < n → sm n (fun m => R i (n + m) * P j m) = if j = i then w * R i i else 0 := by
  refine ⟨fun i hi => by have := h.ne i hi; rw [h.ck i hi] at this; exact this, fun i j hi hj => ?_⟩
  rw [← h.row i j hi hj]
  by_cases e : j = i
  · subst e; simp
  · have := h.ze j i hj hi (Ne.symm e)
    rw [h.ck j hj] at this
    rw [this]; simp [e]
/-- what goes to zero keeps it from its end -/
theorem pr_sing {n b : Nat} {P : Mt} {w : Int} {R : Nat → Nat → Int} {c : Nat → Nat} (h : Pr n P w b n R c) (hw : w ≠ 0) {v : Nat → Int} (hv : ∀ r, r < n → sm n (fun m => v m * P m r) = 0) : ∀ k, k < n → v k = 0 := by
  intro k hk
  obtain ⟨h1, h2⟩ := pr_end h
  have a : sm n (fun r => R k (n + r) * sm n (fun m => v m * P m r)) = 0 := sm_zero fun r hr => by rw [hv r hr, Int.mul_zero]
  have b' : sm n (fun r => R k (n + r) * sm n (fun m => v m * P m r)) = v k * (w * R k k) := by
    rw [sm_congr (g := fun r => sm n (fun m => v m * (R k (n + r) * P m r))) fun r _ => by
      rw [← sm_mul]; exact sm_congr fun m _ => by grind]
    rw [sm_swap, sm_congr (g := fun m => if m = k then v m * (w * R k k) else 0) fun m hm => by
      rw [sm_mul, h2 k m hk hm]; by_cases e : m = k <;> simp [e]]
    rw [sm_ite hk]
  rw [a] at b'
  rcases Int.mul_eq_zero.mp b'.symm with e | e
  · exact e
  · rcases Int.mul_eq_zero.mp e with e | e
    · exact absurd e hw
    · exact absurd e (h1 k hk)
/-- beside an inverse from the right: the same fractions -/
theorem pr_same {n b : Nat} {P : Mt} {w d : Int} {R Y : Nat → Nat → Int} {c : Nat → Nat} (h : Pr n P w b n R c) 
    (hY : ∀ j r, j < n → r < n → sm n (fun m => Y m j * P m r) = if j = r then d else 0) {i s : Nat} (hi : i < n) (hs : s < n) : R i (n + s) * d = w * R i i * Y i s := by
  obtain ⟨_, h2⟩ := pr_end h
  have a : sm n (fun r => R i (n + r) * sm n (fun m => Y m s * P m r)) = R i (n + s) * d := by
    rw [sm_congr (g := fun r => if s = r then R i (n + r) * d else 0) fun r hr => by
      rw [hY s r hs hr]; by_cases e : s = r <;> simp [e]]
    rw [sm_ite' hs]
  have b' : sm n (fun r => R i (n + r) * sm n (fun m => Y m s * P m r)) = Y i s * (w * R i i) := by
    rw [sm_congr (g := fun r => sm n (fun m => Y m s * (R i (n + r) * P m r))) fun r _ => by
      rw [← sm_mul]; exact sm_congr fun m _ => by grind]
    rw [sm_swap, sm_congr (g := fun m => if m = i then Y m s * (w * R i i) else 0) fun m hm => by
      rw [sm_mul, h2 i m hi hm]; by_cases e : m = i <;> simp [e]]
    rw [sm_ite hi]
  rw [← a, b', Int.mul_comm]
/-- how great the rows are at the end -/
theorem pr_fin {n b γ : Nat} {P : Mt} {w d : Int} {R Y : Nat → Nat → Int} {c : Nat → Nat} (h : Pr n P w b n R c) (hd : d ≠ 0)
    (hY : ∀ j r, j < n → r < n → sm n (fun m => Y m j * P m r) = if j = r then d else 0) (hb : b ≤ γ) (h1 : d.natAbs ≤ γ) (h2 : ∀ i s, i < n → s < n → (w * Y i s).natAbs ≤ γ) {i j : Nat} (hi : i < n) (hj : j < n + n) : (R i j).natAbs ≤ γ := by
  rcases h.pri i hi with q | pr
  · exact Nat.le_trans (q j hj) hb
  · have e0 := pr_end h
    have z : ∀ m, m < n → m ≠ i → R i m = 0 := fun m hm hn => by have := h.ze m i hm hi (Ne.symm hn); rw [h.ck m hm] at this; exact this
    obtain ⟨t, ht⟩ := pr d (R i i) fun m hm => by
      by_cases e : m < n
      · by_cases e2 : m = i
        · subst e2; exact ⟨d, rfl⟩
        · rw [z m e e2, Int.zero_mul]; exact Int.dvd_zero _
      · refine ⟨w * Y i (m - n), ?_⟩
        have := pr_same h hY hi (s := m - n) (by omega)
        rw [show n + (m - n) = m by omega] at this
        rw [this]; grind
    have t0 : t ≠ 0 := fun z => by subst z; rw [Int.mul_zero] at ht; exact hd ht
    have a2 : 1 ≤ t.natAbs := by omega
    by_cases e : j < n
    · by_cases e2 : j = i
      · subst e2
        rw [ht, Int.natAbs_mul] at h1
        have a3 : (R j j).natAbs * 1 ≤ (R j j).natAbs * t.natAbs := Nat.mul_le_mul_left _ a2
        omega
      · rw [z j e e2]; simp
    · have s := pr_same h hY hi (s := j - n) (by omega)
      rw [show n + (j - n) = j by omega] at s
      have e3 : R i j * t = w * Y i (j - n) := by
        refine Int.eq_of_mul_eq_mul_left (e0.1 i hi) ?_
        rw [ht] at s
        grind
      have a1 := h2 i (j - n) hi (by omega)
      rw [← e3, Int.natAbs_mul] at a1
      have a3 : (R i j).natAbs * 1 ≤ (R i j).natAbs * t.natAbs := Nat.mul_le_mul_left _ a2
      omega
end Dt

namespace Lw
open PySem PySem.Spec PyProof.Rows L2 MG
abbrev s_primitive : Stmt := top 28
abbrev s_cleared : Stmt := top 29
abbrev s_with_pivot : Stmt := top 30
abbrev s_beside_unit : Stmt := top 31
abbrev s_inverted : Stmt := top 32
section
variable {P : Program} {w : World} {K : PySem.W.Frag} {mg : Str → Option Value} {base : Heap} {C CM CX : Addr}
theorem wd_div {j : Int} (h : j.natAbs < 2 ^ 8000) (h0 : j ≠ 0) : j ≠ 0 ∧ j.natAbs.log2 < 9000 := ⟨h0, Nat.lt_of_lt_of_le (MG.log_lt h (by decide)) (by decide)⟩
def spPrim : Sp := fun vs H Q _ => ∃ (L : Addr) (N : Nat) (g : Nat → Int), vs = [.ref L] ∧ H L = some (.lst (rowV N g)) ∧ N ≤ 1000 ∧ (∀ j, j < N → (g j).natAbs < 2 ^ 8000) ∧ (∃ j, j < N ∧ g j ≠ 0) ∧
  ∀ L' H' g', (L' = L ∨ H L' = none) → Same H H' → H' L' = some (.lst (rowV N g')) → (∃ s : Int, s ≠ 0 ∧ ∀ j, j < N → s * g' j = g j) → Dt.Prim N g' → Q (.ref L') H'
theorem sc_primitive : FnScope ["numbers", "shared", "number"] ["numbers"] (defScope s_primitive) := ⟨rfl, rfl, rfl, by decide +kernel, rfl, by decide +kernel, by decide +kernel⟩
theorem ok_prim {f : Addr} {fd : FuncData} (F : Fun K "primitive" "primitive" s_primitive f fd) (T : TxM K mg C CM) : FnOk P w K mg base CX0 2 f fd ["numbers"] spPrim := by
  refine F.ok sc_primitive (fun vs H Q E h => ?_) (fun cdv A outer s H vs Q E hr h => ?_)
  · obtain ⟨L, N, g, rfl, _⟩ := h
    rfl
  · obtain ⟨L, N, g, rfl, hL, hN, hb, ⟨j0, hj0, gj0⟩, k⟩ := h
    refine ⟨_, (pss_cons (ps_set (i := 1) sc_primitive.nd rfl (Or.inr rfl) pe_int)
  (pss_cons (ps_for PassesOwn.never rfl (pi_listK (K := K) (pv 0)) (pg_name (i := 2) sc_primitive.nd rfl (Or.inl rfl))
  (pss_cons (ps_set (i := 1) sc_primitive.nd rfl (Or.inr rfl) (pe_callBfun cr_gcd rfl T.g_gcd (pa_cons (pv 1) (pa_cons (pv 2) pa_nil))))
  (pss_one (ps_if (pt_cmpR op_eq (pv 1) pe_int (nomark _)) (pss_one (ps_ret (pv 0)))
  pss_nil))))
  (pss_one (ps_ret (pe_lcI (pe_lc (own := [("number", 2)]) rfl sc_primitive.nd (pi_listK (K := K) (pv 0)) (blkOk_by (N := ["numbers", "shared", "number"]) (sc := (defScope s_primitive)) (by decide +kernel)) (fun _ _ _ _ _ => (pg_name (i := 2) sc_primitive.nd rfl (Or.inl rfl))) (fun _ _ _ _ _ => pts_nil) (fun _ _ _ _ _ => (pe_cut (pe_op op_fdivZ (pv 2) (pv 1)))))))))), ?_⟩
    have hlr : (rowV N g).length = N := rowV_len
    refine ⟨_, rfl, L, rfl, ⟨_, SqL.of hL⟩, ?_⟩
    refine for_list (K := K) (a := L) (xs := rowV N g) (fun i σ H' => H' = H ∧ ∃ (d : Nat) (v : Option V), σ = [some (.ref L), some (.int d), v] ∧ (∀ j, j < i → (d : Int) ∣ g j) ∧ ∀ t ρ : Int, (∀ j, j < i → ρ ∣ g j * t) → ρ ∣ (d : Int) * t) ⟨rfl, 0, none, rfl, fun j hj => absurd hj (Nat.not_lt_zero j), fun t ρ _ => by rw [show ((0 : Nat) : Int) = 0 from rfl, Int.zero_mul]; exact Int.dvd_zero _⟩ ?_ ?_ ?_
    · rintro i σ H' _ ⟨rfl, _⟩
      exact SqL.of hL
    · rintro i x σ H' hx ⟨rfl, d, v, rfl, h1, h2⟩
      obtain ⟨hi, rfl⟩ := rowV_get hx
      refine ⟨_, rfl, _, rfl, (d : Int), g i, rfl, ?_⟩
      have d1 : ((Int.gcd (d : Int) (g i) : Nat) : Int) ∣ (d : Int) := Int.gcd_dvd_left _ _
      have d2 : ((Int.gcd (d : Int) (g i) : Nat) : Int) ∣ g i := Int.gcd_dvd_right _ _
      have p1 : ∀ j, j < i + 1 → ((Int.gcd (d : Int) (g i) : Nat) : Int) ∣ g j := fun j hj => by
        by_cases e : j = i
        · subst e; exact d2
        · exact Int.dvd_trans d1 (h1 j (by omega))
      have p2 : ∀ t ρ : Int, (∀ j, j < i + 1 → ρ ∣ g j * t) → ρ ∣ ((Int.gcd (d : Int) (g i) : Nat) : Int) * t := fun t ρ ht => by
        have a := h2 t ρ fun j hj => ht j (by omega)
        have b := ht i (by omega)
        have c : ρ ∣ ((Int.gcd ((d : Int) * t) (g i * t) : Nat) : Int) := Int.dvd_coe_gcd a b
        rw [Int.gcd_mul_right, Int.natCast_mul] at c
        rcases Int.natAbs_eq t with e | e
        · rw [e]; exact c
        · rw [e, Int.mul_neg]; exact Int.dvd_neg.mpr c
      refine ⟨_, rfl, rfl, _, rfl, ?_⟩
      refine ite2 (fun z => ?_) (fun _ => ?_)
      · have z1 : ((Int.gcd (d : Int) (g i) : Nat) : Int) = 1 := V.int.inj (of_decide_eq_true z)
        refine ⟨_, rfl, k L _ g (.inl rfl) (Same.refl _) hL ⟨1, by decide, fun j _ => Int.one_mul _⟩ fun t ρ ht => ?_⟩
        have := p2 t ρ fun j hj => ht j (by omega)
        rw [z1, Int.one_mul] at this
        exact this
      · exact ⟨rfl, _, _, rfl, p1, p2⟩
    rintro σ H' ⟨rfl, d, v, rfl, h1, h2⟩
    rw [hlr] at h1 h2
    have dp : (d : Int) ≠ 0 := fun z => gj0 (by have := h1 j0 hj0; rw [z] at this; exact Int.zero_dvd.mp this)
    have dw : ((d : Int)).natAbs < 2 ^ 8000 := by
      have := Nat.le_of_dvd (Int.natAbs_pos.mpr gj0) (Int.natAbs_dvd_natAbs.mpr (h1 j0 hj0))
      exact Nat.lt_of_le_of_lt this (hb j0 hj0)
    refine ⟨_, rfl, L, rfl, ⟨_, SqL.of hL⟩, fun D hD => ?_⟩
    refine lc_same (walk_list (K := K) (a := L) (xs := rowV N g)) hD (by rw [hlr]; omega) (fun j y _ => y = .int ((g j).fdiv d)) (fun _ _ _ _ h _ => h) (fun G s => SqL.of (s _ _ hL)) yat_same (fun j y H2 H2' hj s2 _ hy => ?_) fun ys2 H2 hl2 s2 e2 h2' => ?_
    · obtain ⟨rfl, hy⟩ := hy
      obtain ⟨hj, rfl⟩ := rowV_get hy
      exact ⟨_, fun _ h => h, wipe_one, _, rfl, _, rfl, _, _, rfl, rfl, wd_div dw dp, Same.refl _, fun _ => rfl⟩
    have e3 : ys2 = rowV N fun j => (g j).fdiv d := ints_of (hl2.trans hlr) h2'
    subst e3
    have ev : ∀ j, j < N → (d : Int) * (g j).fdiv d = g j := fun j hj => (fdiv_dvd (by omega) (h1 j hj)).symm
    refine k D _ _ (.inr hD) s2 e2 ⟨d, dp, ev⟩ fun t ρ ht => ?_
    have := h2 t ((d : Int) * ρ) fun j hj => by
      rw [← ev j hj, Int.mul_assoc]
      exact Int.mul_dvd_mul (Int.dvd_refl _) (ht j hj)
    exact Int.dvd_of_mul_dvd_mul_left dp this
abbrev PrimC (P : Program) (w : World) (K : PySem.W.Frag) (mg : Str → Option Value) (base : Heap) : Prop := CalF P w K mg base 2 "primitive" spPrim []
theorem wd3 {i j : Int} (hi : i.natAbs < 2 ^ 3900) (hj : j.natAbs < 2 ^ 3900) : CMulW i j := wide_mul hi hj (by decide) (by decide) (by decide)
theorem wd_diff {a b c d : Int} (ha : a.natAbs < 2 ^ 3900) (hb : b.natAbs < 2 ^ 3900) (hc : c.natAbs < 2 ^ 3900) (hd : d.natAbs < 2 ^ 3900) : (a * b - c * d).natAbs < 2 ^ 8000 := by
  have h1 : (a * b).natAbs ≤ 2 ^ 7800 := by
    rw [Int.natAbs_mul]
    have := Nat.mul_le_mul (Nat.le_of_lt ha) (Nat.le_of_lt hb)
    rwa [← Nat.pow_add] at this
  have h2 : (c * d).natAbs ≤ 2 ^ 7800 := by
    rw [Int.natAbs_mul]
    have := Nat.mul_le_mul (Nat.le_of_lt hc) (Nat.le_of_lt hd)
    rwa [← Nat.pow_add] at this
  have h3 : (2 : Nat) ^ 7800 + 2 ^ 7800 < 2 ^ 8000 := by decide +kernel
  have := Int.natAbs_sub_le (a * b) (c * d)
  omega
/-- a row less a multiple of the pivot's row -/
def Clr (N : Nat) (k : Nat) (g p g' : Nat → Int) : Prop := (g k = 0 ∧ ∀ j, j < N → g' j = g j) ∨ (∃ s : Int, s ≠ 0 ∧ ∀ j, j < N → s * g' j = p k * g j - g k * p j) ∧ Dt.Prim N g'
def spCleared : Sp := fun vs H Q _ => ∃ (L M : Addr) (N k : Nat) (g p : Nat → Int), vs = [.ref L, .ref M, .int k] ∧ H L = some (.lst (rowV N g)) ∧ H M = some (.lst (rowV N p)) ∧ k < N ∧ N ≤ 1000 ∧ (∀ j, j < N → (g j).natAbs < 2 ^ 3900) ∧ (∀ j, j < N → (p j).natAbs < 2 ^ 3900) ∧
  (g k ≠ 0 → ∃ j, j < N ∧ p k * g j - g k * p j ≠ 0) ∧ ∀ L' H' g', (L' = L ∨ H L' = none) → Same H H' → H' L' = some (.lst (rowV N g')) → Clr N k g p g' → Q (.ref L') H'
theorem sc_cleared : FnScope ["row", "pivot_row", "column", "lead", "factor", "number", "less"] ["row", "pivot_row", "column"] (defScope s_cleared) := ⟨rfl, rfl, rfl, by decide +kernel, rfl, by decide +kernel, by decide +kernel⟩
theorem ok_cleared {f : Addr} {fd : FuncData} (F : Fun K "cleared" "cleared" s_cleared f fd) (T : TxM K mg C CM) (c_prim : PrimC P w K mg base) : FnOk P w K mg base CX0 4 f fd ["row", "pivot_row", "column"] spCleared := by
  refine F.ok sc_cleared (fun vs H Q E h => ?_) (fun cdv A outer s H vs Q E hr h => ?_)
  · obtain ⟨L, M, N, k, g, p, rfl, _⟩ := h
    rfl
  · obtain ⟨L, M, N, k, g, p, rfl, hL, hM, hk, hN, hb, hb2, hne, kk⟩ := h
    refine ⟨_, (pss_cons (ps_if (pt_cmpR op_eq (pe_ix (ix_listK (K := K)) (pv 0) (pv 2) (fun _ _ => rfl)) pe_int (nomark _)) (pss_one (ps_ret (pv 0)))
  pss_nil)
  (pss_cons (ps_asg (pe_tup (pa_cons (pe_ix (ix_listK (K := K)) (pv 1) (pv 2) (fun _ _ => rfl)) (pa_cons (pe_ix (ix_listK (K := K)) (pv 0) (pv 2) (fun _ _ => rfl)) pa_nil))) (pg_tupK (K := K) (n := 2) rfl (pgs_cons (pg_name (i := 3) sc_cleared.nd rfl (Or.inr rfl)) (pgs_cons (pg_name (i := 4) sc_cleared.nd rfl (Or.inr rfl)) pgs_nil))))
  (pss_one (ps_ret (pe_cf c_prim hr (by decide) rfl (pa_cons (pe_lcI (pe_lc (own := [("number", 5), ("less", 6)]) rfl sc_cleared.nd (pi_zipK (K := K) (by rfl) T.b_zip (pa_cons (pv 0) (pa_cons (pv 1) pa_nil))) (blkOk_by (N := ["row", "pivot_row", "column", "lead", "factor", "number", "less"]) (sc := (defScope s_cleared)) (by decide +kernel)) (fun _ _ _ _ _ => (pg_tupK (K := K) (n := 2) rfl (pgs_cons (pg_name (i := 5) sc_cleared.nd rfl (Or.inl rfl)) (pgs_cons (pg_name (i := 6) sc_cleared.nd rfl (Or.inl rfl)) pgs_nil)))) (fun _ _ _ _ _ => pts_nil) (fun _ _ _ _ _ => (pe_cut (pe_op op_sub (pe_op op_mulW (pv 3) (pv 5)) (pe_op op_mulW (pv 4) (pv 6))))))) pa_nil)))))), ?_⟩
    -- if row[column] == 0
    refine ⟨_, rfl, _, rfl, L, _, _, _, rfl, rfl, SqL.of hL, atI_nat (rowV_at hk), rfl, _, rfl, ?_⟩
    refine ite2 (fun z => ?_) (fun z => ?_)
    · have z1 : g k = 0 := V.int.inj (of_decide_eq_true z)
      exact ⟨_, rfl, kk L _ g (.inl rfl) (Same.refl _) hL (.inl ⟨z1, fun j _ => rfl⟩)⟩
    have z1 : g k ≠ 0 := fun e => z (decide_eq_true (by rw [e]))
    -- lead, factor = pivot_row[column], row[column]
    refine ⟨_, rfl, _, rfl, M, _, _, _, rfl, rfl, SqL.of hM, atI_nat (rowV_at hk), _, rfl, _, rfl, L, _, _, _, rfl, rfl, SqL.of hL, atI_nat (rowV_at hk), by show 2 ≤ sizeLine; decide, fun T0 hT0 => ?_⟩
    have s0 := MG.Same.new (o := .tup [.int (p k), .int (g k)]) (Same.refl H) hT0
    refine ⟨T0, _, rfl, SqT.of upd_same, rfl, _, _, rfl, _, _, rfl, rfl, ?_⟩
    -- return primitive([lead * number - factor * less ..])
    refine ⟨_, rfl, _, rfl, L, M, _, _, rfl, .inl ⟨SqL.of (s0 _ _ hL), SqL.of (s0 _ _ hM), fun D hD => ?_⟩⟩
    refine lc_same (walk_zip (K := K) (a := L) (b := M) (xs := rowV N g) (ys := rowV N p) (n := N) (by rw [rowV_len, rowV_len]; omega)) hD (by omega) (fun j v _ => v = .int (p k * g j - g k * p j)) (fun _ _ _ _ h _ => h) (fun G s => ⟨SqL.of (s _ _ (s0 _ _ hL)), SqL.of (s _ _ (s0 _ _ hM))⟩) ypair_same (fun j x H1 H1' hj s1 _ hy => ?_) fun ys H1 hl1 s1 e1 h1 => ?_
    · obtain ⟨T2, x1, x2, rfl, hT2, rfl, hx1, hx2⟩ := hy
      obtain ⟨_, rfl⟩ := rowV_get hx1
      obtain ⟨_, rfl⟩ := rowV_get hx2
      refine ⟨_, tg2 upd_same, rfl, ?_⟩
      exact ⟨_, rfl, _, rfl, _, _, rfl, rfl, wd3 (hb2 k hk) (hb j hj), _, rfl, _, rfl, _, _, rfl, rfl, wd3 (hb k hk) (hb2 j hj), _, _, rfl, rfl, Same.refl _, fun _ => rfl⟩
    have e2 : ys = rowV N fun j => p k * g j - g k * p j := ints_of hl1 h1
    subst e2
    refine ⟨D, N, _, rfl, e1, hN, fun j hj => wd_diff (hb2 k hk) (hb j hj) (hb k hk) (hb2 j hj), hne z1, fun L' H2 g' hn s2 e' hs hp => ?_⟩
    have fr : H L' = none := by
      rcases hn with rfl | hn
      · exact s0.free hD
      · exact (s0.trans s1).free hn
    exact kk L' H2 g' (.inr fr) ((s0.trans s1).trans s2) e' (.inr ⟨hs, hp⟩)
abbrev ClearedC (P : Program) (w : World) (K : PySem.W.Frag) (mg : Str → Option Value) (base : Heap) : Prop := CalF P w K mg base 4 "cleared" spCleared []
end
end Lw

/-! comprehensions whose items may raise, in a try -/
namespace MG
open PySem PySem.Spec PyProof.Rows L2
/-- an exception in the air, L the own dict of the frame in which it is raised -/
def XEL (L : Addr) (X : Cx) (W : WX) (u : Value) (s' : Shared) : Prop :=
  ∃ (a : Addr) (B : Heap) (sI : Shared) (pins : List (Addr × Obj)) (σ : L2.St) (H : Hp) (cls : Value) (d : Option Addr),
    u = .ref a ∧ Inv X pins σ H sI ∧ (∀ b o, sI.heap.get? b = some o → b ∉ frs X.stack → B.get? b = some o) ∧ sI.heap.UpToSlots s'.heap ∧
      Sky B X.stack a (L2N.Zn cls d) L s'.heap ∧ H a = none ∧ s'.os = sI.os ∧ AllBare s'.gens ∧ W cls d σ H
def TakesL (L : Addr) (X : Cx) (W : WX) : Prop := ∀ u s', XEL L X W u s' → X.xe u s'
theorem takesL {X : Cx} {W : WX} (tk : L2N.Takes X W) : TakesL X.env.locals X W := fun u s' x => tk u s' x
section
variable {X : Cx} {pins : List (Addr × Obj)} {σ : L2.St} {H : Hp} {s s' : Shared} {W : WX} {E : XK} {L : Addr}
/-- a call's exception is in our air -/
theorem XEL.of_call (I : Inv X pins σ H s) (hW : ∀ cls d H', E cls d H' → W cls d σ H') {u : Value} (c : L2N.CX X.prog X.w X.stack H s E u s') : XEL L X W u s' := by
  obtain ⟨a, B, H', cls, d, rfl, fl, hok, ub, na, os, ag, hE⟩ := c
  obtain ⟨G, g1, g2⟩ := restrict s'.heap fun b => (B.get? b).isSome || decide (b ∈ frs X.stack)
  have st : B.StaysIn s'.heap := fl.1
  have gB : ∀ b o, B.get? b = some o → G.get? b = some o := fun b o e => by
    rw [g1 b (by simp [e])]
    exact st b o e
  have gF : ∀ b, b ∈ frs X.stack → G.get? b = s'.heap.get? b := fun b hb => g1 b (by simp [hb])
  have og : ∀ b o, G.get? b = some o → s'.heap.get? b = some o ∧ ((B.get? b).isSome = true ∨ b ∈ frs X.stack) := fun b o e => by
    cases q : ((B.get? b).isSome || decide (b ∈ frs X.stack)) with
    | false => rw [g2 b q] at e; cases e
    | true =>
      rw [g1 b q] at e
      exact ⟨e, by simpa [Bool.or_eq_true] using q⟩
  refine ⟨a, B, { s with heap := G, gens := s'.gens, drawn := s'.drawn, toks := s'.toks }, pins, σ, H', cls, d, rfl, ?_, fun b o e hb => ?_, Heap.UpToSlots.of_keeps fun b o e => (og b o e).1, .inr (.inl fl), na, os, ag, hW _ _ _ hE⟩
  · refine I.call (ch := []) ⟨fun b o e n hb _ => gB b o (ub.keep b o e n hb), fun b o e n hb _ => ?_, fun b o e n _ => ub.free b o e n, fun b o e _ => ?_, ub.tups, ub.frzs, ub.tbls⟩ (hok.kept gB) ag (fun _ z => nomatch z)
    · obtain ⟨sl, q⟩ := ub.slot b o e hb
      exact ⟨sl, by rw [gF b hb]; exact q⟩
    · by_cases hb : b ∈ frs X.stack
      · obtain ⟨sl, q⟩ := ub.slot b o e hb
        exact ⟨_, by rw [gF b hb]; exact q⟩
      · obtain ⟨o', q⟩ := ub.there b o e hb
        exact ⟨o', gB b o' q⟩
  · obtain ⟨e', h⟩ := og b o e
    rcases h with h | h
    · obtain ⟨o', q⟩ := Option.isSome_iff_exists.mp h
      have z := st b o' q
      rw [e'] at z; cases z
      exact q
    · exact absurd h hb
theorem passAtL (tk : TakesL L X W) (σ : L2.St) : PassesAt (L2N.CX X.prog X.w) X σ (WE W σ) := fun _ _ _ e s' I c => tk e s' (XEL.of_call I (fun _ _ _ h => h) c)
end
/-! ### the ground without one object -/
section
variable {B B0 h h2 : Heap} {l : List Env} {a C L : Addr} {Z : Obj → Prop} {fl : Value} {m : Str → Option Value}
theorem funFrames_sub (le : ∀ b, B.get? b = none → B0.get? b = none) : ∀ {l : List Env}, h.FunFrames B l → h.FunFrames B0 l
  | [], _ => trivial
  | env :: l, x => by
    obtain ⟨hk, ⟨L, o, hf, hn, ho, hd⟩, hr⟩ := x
    exact ⟨hk, ⟨L, o, hf, le L hn, ho, hd⟩, funFrames_sub le hr⟩
theorem traced_sub (le : ∀ b, B.get? b = none → B0.get? b = none) (x : HandSPX.TracedZ h B a Z fl) : HandSPX.TracedZ h B0 a Z fl := by
  obtain ⟨oe, vs, T, oT, ts, he, hz, hd, h1, hn, r⟩ := x
  exact ⟨oe, vs, T, oT, ts, he, hz, hd, h1, le T hn, r⟩
theorem sky_sub (le : ∀ b o, B0.get? b = some o → B.get? b = some o) (x : Sky B l a Z L h) : Sky B0 l a Z L h := by
  have le' : ∀ b, B.get? b = none → B0.get? b = none := fun b n => by
    cases e : B0.get? b with
    | none => rfl
    | some o => rw [le b o e] at n; cases n
  rcases x with ⟨hB, hn, hl, r⟩ | ⟨h1, h2, h3, h4⟩ | ⟨h1, h2, h3, h4⟩
  · exact .inl ⟨fun b o e => hB b o (le b o e), le' _ hn, funFrames_sub le' hl, r⟩
  · exact .inr (.inl ⟨fun b o e => h1 b o (le b o e), le' _ h2, funFrames_sub le' h3, traced_sub le' h4⟩)
  · exact .inr (.inr ⟨fun b o e => h1 b o (le b o e), le' _ h2, funFrames_sub le' h3, traced_sub le' h4⟩)
theorem traced_but (hn : h.Ns C m) (hs : Heap.SameBut C h h2) (x : HandSPX.TracedZ h B a Z fl) : HandSPX.TracedZ h2 B a Z fl := by
  obtain ⟨oC, es, ep, hoC, hdC, _⟩ := hn
  obtain ⟨oe, vs, T, oT, ts, he, hz, hd, h1, hnT, hTe, hT, hdT, h3⟩ := x
  have n1 : a ≠ C := fun e => by rw [e, hoC] at he; cases he; rw [hdC] at hd; cases hd
  have n2 : T ≠ C := fun e => by rw [e, hoC] at hT; cases hT; rw [hdC] at hdT; cases hdT
  exact ⟨oe, vs, T, oT, ts, (hs.2 a n1).trans he, hz, hd, h1, hnT, hTe, (hs.2 T n2).trans hT, hdT, h3⟩
end
/-- the context of a block whose items may raise -/
abbrev blkX (X : Cx) (s : Shared) (H : Hp) (scope : Scope) (cenv : Env) (fp : List Addr) (xe : Value → Shared → Prop) : Cx := { X.blk s H scope cenv fp with xe := xe }
section
variable {X : Cx} {pins : List (Addr × Obj)} {σ : L2.St} {H3 : Hp} {s3 : Shared} {W : WX} {L : Addr} {scope : Scope} {ce : Env} {fp : List Addr}
theorem blk_takes (hst : ∃ env0 outer0, X.stack = env0 :: outer0 ∧ env0.frame = some L) (hcf : ce.frame = some L) (tk : TakesL L X W) (I3 : Inv X pins σ H3 s3) (hC : ce.locals = s3.heap.objs.size) (f3 : ∀ b ∈ fp, FpOk X pins H3 b ∧ b < s3.heap.objs.size) :
    TakesL L (blkX X s3 H3 scope ce fp (notedBy (model X.prog X.w) X.A ce (CompFails (model X.prog X.w) X.A X.xe ce))) (fun cls d _ H' => W cls d σ H') := by
  rintro u s' ⟨a, B, sI, pins', σ', H', cls, d, rfl, I, nb, up, sky, na, os, ag, w⟩
  obtain ⟨env0, outer0, hs, hf0⟩ := hst
  have hfr : X.A.frames = some (env0 :: outer0) := by rw [I3.ok.frames, hs]
  have sky' : Sky B (env0 :: outer0) a (L2N.Zn cls d) L s'.heap := by rw [← hs]; exact sky
  obtain ⟨B0, g1, g2⟩ := restrict B fun b => decide (b ≠ ce.locals)
  have leB : ∀ b o, B0.get? b = some o → B.get? b = some o := fun b o e => by
    by_cases hb : b = ce.locals
    · rw [g2 b (by simp [hb])] at e; cases e
    · rw [g1 b (by simp [hb])] at e; exact e
  have sky0 := sky_sub leB sky'
  obtain ⟨S0, k1, k2⟩ := restrict sI.heap fun b => decide (b ≠ ce.locals)
  have leS : ∀ b o, S0.get? b = some o → sI.heap.get? b = some o ∧ b ≠ ce.locals := fun b o e => by
    by_cases hb : b = ce.locals
    · rw [k2 b (by simp [hb])] at e; cases e
    · rw [k1 b (by simp [hb])] at e; exact ⟨e, hb⟩
  have geS : ∀ b, b ≠ ce.locals → S0.get? b = sI.heap.get? b := fun b hb => k1 b (by simp [hb])
  obtain ⟨m, hn, _⟩ := I.loc
  have hn : sI.heap.Ns ce.locals m := hn
  have fin : ∀ h1, HandSPX.HeldZ B0 (env0 :: outer0) a (L2N.Zn cls d) L h1 → s'.heap.UpToSlots h1 → CompFails (model X.prog X.w) X.A X.xe ce (.ref a) { s' with heap := h1 } := by
    intro h1 hh up1
    have n1 := (up.trans up1).ns hn
    refine ⟨m, n1, fun h2 m2 hn2 hs2 => ?_⟩
    obtain ⟨b1, b0, f1, t1⟩ := hh
    have nC : B0.get? ce.locals = none := g2 _ (by simp)
    have b2 : B0.StaysIn h2 := fun b o hb => (hs2.2 b fun q => by rw [q, nC] at hb; cases hb).trans (b1 b o hb)
    have f2 : h2.FunFrames B0 (env0 :: outer0) := Heap.FunFrames.sameBut hs2 hn2 f1
    have t2 := traced_but n1 hs2 t1
    have hh2 : HandSPX.HeldZ B0 (env0 :: outer0) a (L2N.Zn cls d) L h2 := ⟨b2, b0, f2, t2⟩
    obtain ⟨oe, vs, T, oT, ts, he, hz, hd, h1', r⟩ := t2
    unfold PySem.passOn
    refine wpAny_bind (wpAny_field he hd h1' ?_)
    rw [if_neg (show ¬ ((Value.ref T == Value.none) = true) from by simp), hcf]
    refine wpAny_bind (HandSPX.setFlight_onZ hh2 fun h3 hh3 up3 => wpAny_throw (tk _ _ ?_))
    refine ⟨a, B0, { sI with heap := S0 }, pins, σ, H', cls, d, rfl, ?_, fun b o e hb => ?_, fun b o e hnf => ?_, .inr (.inr (by rw [hs]; exact hh3)), na, os, ag, w⟩
    · have ub := I.base
      have nlt : ∀ {b : Addr} {o : Obj}, s3.heap.get? b = some o → b ≠ ce.locals := fun {b o} e => by rw [hC]; exact Nat.ne_of_lt (Heap.lt_size e)
      have ub' : Un (frs X.stack) fp H3 H' s3.heap sI.heap := ub
      refine I3.call' (ch := fp) I.os ⟨fun b o e n hb hx => ?_, fun b o e n hb hx => ?_, ub'.free, fun b o e hx => ?_, ub'.tups, ub'.frzs, ub'.tbls⟩ (fun b o q => ?_) I.bare fun b hb => ⟨(f3 b hb).1.2.2.2.1, (f3 b hb).1.2.1, (f3 b hb).1.2.2.2.2.1, (f3 b hb).1.2.2.2.2.2⟩
      · show S0.get? b = some o
        rw [geS b (nlt e)]
        exact ub'.keep b o e n hb hx
      · show ∃ sl, S0.get? b = _
        rw [geS b (nlt e)]
        exact ub'.slot b o e n hb hx
      · show ∃ o', S0.get? b = some o'
        rw [geS b (nlt e)]
        exact ub'.there b o e hx
      · refine (I.hok b o q).stay (fun c u hc r => ?_) (fun _ r => r) fun _ _ r => r
        show S0.get? c = some u
        rw [geS c fun z => ?_]
        · exact r
        · have fr : H' ce.locals = none := I.free
          rw [z] at hc
          rcases hc with hc | hc
          · rw [← hc, fr] at q; cases q
          · rw [fr] at hc; cases hc
    · obtain ⟨e1, nb1⟩ := leS b o e
      rw [g1 b (by simp [nb1])]
      exact nb b o e1 hb
    · obtain ⟨e1, nb1⟩ := leS b o e
      obtain ⟨sl, e2⟩ := (up.trans up1) b o e1 hnf
      obtain ⟨sl3, e3⟩ := up3 b _ ((hs2.2 b nb1).trans e2) hnf
      exact ⟨sl3, e3⟩
  show wpAny (model X.prog X.w) X.A (noteFrame (.ref a) ce) _ _ s'
  rw [noteFrame_env (.ref a) (hcf.trans hf0.symm)]
  rcases sky0 with ⟨hB, hn', hl, oe, vs, he, hz, hd, h1⟩ | flz | hh
  · exact PXN.look_newZ L2N.Zn.steady hfr hl hf0 he hB hn' hd h1 hz fin
  · exact PXN.looks_onZ L2N.Zn.steady hfr hf0 flz fin
  · exact HandSPX.againZ hf0 hh.2.2.2 (fin s'.heap hh (Heap.UpToSlots.refl _))
end
end MG

namespace MG
open PySem PySem.Spec PyProof.Rows L2
theorem thnN {α : Type} {t : Sem α} {Q Q' : α → Shared → Prop} {M : Model} {A : Around} {E E' : Value → Shared → Prop} {s : Shared} (hE : ∀ e s, E e s → E' e s) (h : wpAny M A t Q E s) (hQ : ∀ a s, Q a s → Q' a s) : wpAny M A t Q' E' s := wpAny_mono h hQ hE
/-- the reading of a comprehension whose items may raise: V is what they wish -/
def tLcX (wi : TI) (g : TG) (tt : TT) (te : WX → TE) (vs : List Nat) (W : WX) : TE := fun σ H Q => tLcI wi g tt (te fun cls d _ H' => W cls d σ H') vs σ H Q
section
variable {X : Cx}
theorem lc_coreX {pins : List (Addr × Obj)} {s : Shared} {σ : L2.St} {H : Hp} {Q : VK} {elt tg iter : Expr} {ifs : List Expr} {scope : Scope} {own : List (Str × Nat)} {pos pos' : Pos} {wi : TI} {g : TG} {tt : TT} {te : WX → TE} {Wx : WX} {L : Addr} {use : Option (Value → Sem Unit)} {Qf : Value → Shared → Prop}
    (hc : X.calm = true) (hN : X.N.Nodup) (I : Inv X pins σ H s) (hi : PI X tg iter wi) (ok : BlkOk X.N X.env.scope scope own)
    (hst : ∃ env0 outer0, X.stack = env0 :: outer0 ∧ env0.frame = some L) (hcf : X.env.frame = some L) (tk : TakesL L X Wx)
    (hg : ∀ (s : Shared) (H : Hp) (C : Addr) (cl : List (Str × Addr)) (fp : List Addr) (xe : Value → Shared → Prop), PG (blkX X s H scope (compEnvC scope cl C X.env) fp xe) tg g) (ht : ∀ (s : Shared) (H : Hp) (C : Addr) (cl : List (Str × Addr)) (fp : List Addr) (xe : Value → Shared → Prop), PTs (blkX X s H scope (compEnvC scope cl C X.env) fp xe) ifs tt)
    (he : ∀ (s : Shared) (H : Hp) (C : Addr) (cl : List (Str × Addr)) (fp : List Addr) (xe : Value → Shared → Prop) (V : WX), TakesL L (blkX X s H scope (compEnvC scope cl C X.env) fp xe) V → PE (blkX X s H scope (compEnvC scope cl C X.env) fp xe) elt (te V)) (hs : ∀ x, foldedSetIterable iter X.env x = pure x)
    (h : tLc wi g tt (te fun cls d _ H' => Wx cls d σ H') (own.map (·.2)) σ H Q)
    (hRR : ∀ D C s' m H', Inv X pins σ H' s' → Q (.ref D) H' → s'.heap.Ns C m → FpOk X pins H' C → ∀ ce : Env, ce.locals = C → compEnds (model X.prog X.w) X.A X.xe use Qf (.ref D) ce (.ok .next) s') :
    wpAny (model X.prog X.w) X.A (comprehension (.ListComp elt [⟨tg, iter, ifs, 0⟩] scope pos) scope X.env pos' (newList []) false (eval iter X.env) use) Qf X.xe s := by
  have hfree : ∀ y ∈ scope.names, y.2 = .free → ∃ c, X.env.cells.lookup y.1 = some c := fun y hy e => by
    rcases ok.free y hy e with k | k
    · exact I.ok.has _ (.inl k)
    · exact I.ok.has _ (.inr k)
  refine comprehension_at (use := use) rfl hs (closure_ok hfree) ok.kind (fun y hy e => by rw [ok.uniq y hy, e])
    (thn (hi.run pins s σ H _ I h) fun xv s1 hx => thn hx fun itv s2 h2 => ?_)
  obtain ⟨it, fp, tn, J, H2, e, I2, T, st2, f2, q⟩ := h2
  subst e
  refine wpAny_newObj_type (newEnv_comp ?_) (by show 0 ≤ sizeLine; decide)
  generalize hD : s2.heap.objs.size = D
  have hDn : H2 D = none := I2.hok.fresh (Nat.le_of_eq hD)
  obtain ⟨W, ⟨m0, w0⟩, turn⟩ := q D hDn
  -- the new list
  generalize hs3 : ({ s2 with heap := s2.heap.push { cls := .type "list", data := .seq ([] : List Value).toArray } } : Shared) = s3
  have I3 : Inv X pins σ (upd H2 D (.lst [])) s3 := by
    rw [← hs3]
    refine I2.laid (t' := s2.toks) (fun b o e => Heap.get?_push_of_some _ e) (Nat.le_of_eq hD) ⟨Nat.zero_le _, [], 0, .nil, ?_⟩
    rw [← hD]
    exact Heap.get?_push_size _ rfl
  have h3 : s3.heap = s2.heap.push { cls := .type "list", data := .seq ([] : List Value).toArray } := by rw [← hs3]
  have sz : ∀ b ∈ fp, b < s2.heap.objs.size := fun b hb => by
    obtain ⟨o, e, _⟩ := T.obj _ _ st2 b hb
    exact Heap.lt_size e
  have f3 : ∀ b ∈ fp, FpOk X pins (upd H2 D (.lst [])) b ∧ b < s3.heap.objs.size := fun b hb => by
    have hlt := sz b hb
    refine ⟨⟨?_, (f2 b hb).2⟩, by rw [h3, Heap.size_push]; exact Nat.lt_succ_of_lt hlt⟩
    rw [upd_ne (by rw [← hD]; exact Nat.ne_of_lt hlt)]
    exact (f2 b hb).1
  have st3 : tn 0 s3.heap := T.keep _ _ _ st2 fun b _ o e => by rw [h3]; exact Heap.get?_push_of_some _ e
  have I4 := block_start I3 ok hN f3
  have pg := hg s3 (upd H2 D (.lst [])) s3.heap.objs.size (cellsFrom (s3.heap.objs.size + 1) scope.names (cloFrom X.env.cells scope.names [])) fp
  have pt := ht s3 (upd H2 D (.lst [])) s3.heap.objs.size (cellsFrom (s3.heap.objs.size + 1) scope.names (cloFrom X.env.cells scope.names [])) fp
  have pe0 := he s3 (upd H2 D (.lst [])) s3.heap.objs.size (cellsFrom (s3.heap.objs.size + 1) scope.names (cloFrom X.env.cells scope.names [])) fp
  have hcf2 : (compEnvC scope (cellsFrom (s3.heap.objs.size + 1) scope.names (cloFrom X.env.cells scope.names [])) s3.heap.objs.size X.env).frame = some L := hcf
  show codeAny _ _ (.compStart (.ListComp elt [⟨tg, iter, ifs, 0⟩] scope pos) 0 (.ref it) (.ref D) (compEnvC scope (cellsFrom (s3.heap.objs.size + 1) scope.names (cloFrom X.env.cells scope.names [])) s3.heap.objs.size X.env)) (compEnds (model X.prog X.w) X.A X.xe use Qf (.ref D) (compEnvC scope (cellsFrom (s3.heap.objs.size + 1) scope.names (cloFrom X.env.cells scope.names [])) s3.heap.objs.size X.env)) { s3 with heap := pushCells (s3.heap.push { cls := .type "dict", data := .dict #[] }) scope.names }
  have nfp : ∀ b ∈ fp, (upd H2 D (.lst [])) b = none := fun b hb => (f3 b hb).1.1
  generalize hce : compEnvC scope (cellsFrom (s3.heap.objs.size + 1) scope.names (cloFrom X.env.cells scope.names [])) s3.heap.objs.size X.env = ce at I4 pg pt pe0 hcf2 ⊢
  have cL : ce.locals = s3.heap.objs.size := by subst hce; rfl
  have eE : ∀ x s', CompFails (model X.prog X.w) X.A X.xe ce x s' → compEnds (model X.prog X.w) X.A X.xe use Qf (.ref D) ce (.error x) s' := fun x s' h => by cases use <;> exact h
  have eN : ∀ e s', notedBy (model X.prog X.w) X.A ce (CompFails (model X.prog X.w) X.A X.xe ce) e s' → notedBy (model X.prog X.w) X.A ce (fun e s' => compEnds (model X.prog X.w) X.A X.xe use Qf (.ref D) ce (.error e) s') e s' := fun e s' h => wpAny_mono h (fun _ s2 q => eE e s2 q) fun e2 s2 q => eE e2 s2 q
  generalize hH3 : upd H2 D (.lst []) = H3 at I3 I4 pg pt pe0 w0 nfp f3
  generalize hs4 : ({ s3 with heap := pushCells (s3.heap.push { cls := .type "dict", data := .dict #[] }) scope.names } : Shared) = s4 at I4 ⊢
  have bt := blk_takes (W := Wx) (scope := scope) hst hcf2 tk I3 cL f3
  have pe := pe0 _ _ bt
  generalize hxe : (notedBy (model X.prog X.w) X.A ce (CompFails (model X.prog X.w) X.A X.xe ce)) = xe at bt pe eN
  replace pg := pg xe
  replace pt := pt xe
  have I4' : Inv (blkX X s3 H3 scope ce fp xe) [] (wipe σ (own.map (·.2))) H3 s4 := I4.wish xe
  have st4 : tn 0 s4.heap := T.keep _ _ _ st3 fun b _ o e => by rw [← hs4]; exact pushCells_keeps _ _ _ _ (Heap.get?_push_of_some _ e)
  have stat : ∀ {σ' : L2.St} {H' : Hp} {s' : Shared}, Inv (blkX X s3 H3 scope ce fp xe) [] σ' H' s' → (∀ b ∈ fp, H' b = none) → ∀ b ∈ fp, FpOk (blkX X s3 H3 scope ce fp xe) [] H' b := fun {σ' H' s'} I' hn b hb =>
    ⟨hn b hb, (I'.ok.exf b hb).1, I'.ok.exfs b hb, .inl hb, fun x c e => (I'.ok.exf b hb).2 x c e, fun p hp => absurd (show p ∈ ([] : List (Addr × Obj)) ++ [] from hp) (by simp)⟩
  have loop : codeAny (model X.prog X.w) X.A (.compLoop (.ListComp elt [⟨tg, iter, ifs, 0⟩] scope pos) 0 (.ref it) (.ref D) ce) (compEnds (model X.prog X.w) X.A X.xe use Qf (.ref D) ce) s4 := by
    refine compLoop_any (fun n s' => ∃ i H', Inv (blkX X s3 H3 scope ce fp xe) [] (wipe σ (own.map (·.2))) H' s' ∧ tn i s'.heap ∧ (∀ b ∈ fp, H' b = none) ∧ W i n H') ?_ m0 ⟨0, H3, I4', st4, nfp, w0⟩
    rintro n s5 ⟨i, H5, I5, st5, n5, w5⟩
    rcases turn i n H5 w5 with ⟨stop, qq⟩ | ⟨go, Nx, hNx, step⟩
    · have td := T.done (blkX X s3 H3 scope ce fp xe) rfl rfl rfl hc i [] s5 _ H5 (fun _ _ => False) I5 (stat I5 n5) st5 stop
      refine thnF td fun r s6 ⟨hr, I6⟩ => ?_
      subst hr
      -- back in the def's context
      have I7 : Inv X pins σ H5 s6 := I3.call' (ch := fp) I6.os I6.base I6.hok I6.bare fun b hb => ⟨(f3 b hb).1.2.2.2.1, (f3 b hb).1.2.1, (f3 b hb).1.2.2.2.2.1, (f3 b hb).1.2.2.2.2.2⟩
      have nC : H5 s3.heap.objs.size = none := by
        have z : H5 ce.locals = none := I6.free
        rw [cL] at z
        exact z
      obtain ⟨m, hn, _⟩ := I6.loc
      have hn : s6.heap.Ns ce.locals m := hn
      rw [cL] at hn
      exact hRR D s3.heap.objs.size s6 m H5 I7 qq hn (I3.fpOk (Nat.le_refl _) nC) ce cL
    · have ti := T.item (blkX X s3 H3 scope ce fp xe) rfl rfl rfl hc i [] s5 _ H5 (fun _ _ => False) I5 (stat I5 n5) st5 go
      refine thnF ti fun r s6 ⟨u, hr, h6⟩ => ?_
      subst hr
      refine thnF h6 fun _ s7 ⟨x, H7, I7, r7, y7, st7, n7⟩ => ?_
      have I7' := I7.pinned (stat I7 n7) (T.obj _ _ st7)
      refine thnN eN (pg.run _ s7 _ H7 x u _ I7' r7 (step x H7 y7)) fun _ s8 ⟨σ8, H8, I8, hw8, q8⟩ => ?_
      refine thnN eN (pt.run _ s8 σ8 H8 _ I8 q8) fun b s9 ⟨H9, I9, q9⟩ => ?_
      -- the turn's end
      have fin : ∀ {s' : Shared} {H' : Hp}, Inv (blkX X s3 H3 scope ce fp xe) ([] ++ pinsAt fp s7.heap) σ8 H' s' → Nx H' → ∃ m, m < n ∧ ∃ i H', Inv (blkX X s3 H3 scope ce fp xe) [] (wipe σ (own.map (·.2))) H' s' ∧ tn i s'.heap ∧ (∀ b ∈ fp, H' b = none) ∧ W i m H' := fun {s' H'} I' nx => by
        obtain ⟨m', hm, w'⟩ := hNx H' nx
        have pin' : ∀ b ∈ fp, ∀ o, s7.heap.get? b = some o → s'.heap.get? b = some o ∧ H' b = none := fun b hb o e =>
          let z := I'.pin (b, o) (List.mem_append_right _ (List.mem_append_right _ (mem_pinsAt hb e)))
          ⟨z.1, z.2.1⟩
        have hl : (wipe σ (own.map (·.2))).length = σ8.length := by rw [← hw8, wipe_length]
        refine ⟨m', hm, i + 1, H', (I'.unpinned (pins := [])).weak hl (fun j v e => ?_), T.keep _ _ _ st7 fun b hb o e => (pin' b hb o e).1, fun b hb => ?_, w'⟩
        · rw [← hw8] at e
          exact (wipe_some e).1
        · obtain ⟨o, e, _⟩ := T.obj _ _ st7 b hb
          exact (pin' b hb o e).2
      cases b with
      | false =>
        simp only [Bool.false_eq_true, if_false] at q9 ⊢
        exact fin I9 q9
      | true =>
        simp only [if_true] at q9 ⊢
        refine thnN eN (pe.run _ s9 σ8 H9 _ I9 q9) fun z s10 ⟨yv, H10, I10, r10, acc, hD10, hz10, nx⟩ => ?_
        exact app_ok (X := blkX X s3 H3 scope ce fp xe) I10 hD10 hz10 r10 fun s11 I11 => fin I11 nx
  exact codeAny_compStart_list loop (T.self X.A 0 _ _ _ st4 loop)
/-- as a value -/
theorem pe_lcX {elt tg iter : Expr} {ifs : List Expr} {scope : Scope} {own : List (Str × Nat)} {pos : Pos} {wi : TI} {g : TG} {tt : TT} {te : WX → TE} {W : WX} {L : Addr} (hc : X.calm = true) (hN : X.N.Nodup) (hi : PI X tg iter wi) (ok : BlkOk X.N X.env.scope scope own)
    (hst : ∃ env0 outer0, X.stack = env0 :: outer0 ∧ env0.frame = some L) (hcf : X.env.frame = some L) (tk : TakesL L X W)
    (hg : ∀ (s : Shared) (H : Hp) (C : Addr) (cl : List (Str × Addr)) (fp : List Addr) (xe : Value → Shared → Prop), PG (blkX X s H scope (compEnvC scope cl C X.env) fp xe) tg g) (ht : ∀ (s : Shared) (H : Hp) (C : Addr) (cl : List (Str × Addr)) (fp : List Addr) (xe : Value → Shared → Prop), PTs (blkX X s H scope (compEnvC scope cl C X.env) fp xe) ifs tt)
    (he : ∀ (s : Shared) (H : Hp) (C : Addr) (cl : List (Str × Addr)) (fp : List Addr) (xe : Value → Shared → Prop) (V : WX), TakesL L (blkX X s H scope (compEnvC scope cl C X.env) fp xe) V → PE (blkX X s H scope (compEnvC scope cl C X.env) fp xe) elt (te V)) (hs : ∀ x, foldedSetIterable iter X.env x = pure x := by intro _; rfl) :
    PE X (.ListComp elt [⟨tg, iter, ifs, 0⟩] scope pos) (tLcX wi g tt te (own.map (·.2)) W) := by
  refine ⟨fun pins s σ H Q I h => ?_⟩
  rw [eval_ListComp]
  refine lc_coreX hc hN I hi ok hst hcf tk hg ht he hs h fun D C s' m H' I' q hn f ce hce => ?_
  subst hce
  refine ⟨m, hn, fun h'' sb => ?_⟩
  obtain ⟨f0, f1, f2, f3, f4, f5⟩ := f
  exact ⟨.ref D, H', I'.turned (t' := s'.toks) (fun b o hb e => (sb.2 b hb).trans e) f0 f1 f3 f4 f5, rfl, q⟩
theorem ps_setLcX {i : Nat} {y : Str} {py : Pos} {elt tg iter : Expr} {ifs : List Expr} {scope : Scope} {own : List (Str × Nat)} {pos spos : Pos} {wi : TI} {g : TG} {tt : TT} {te : WX → TE} {W : WX} {L : Addr} (hc : X.calm = true) (hN : X.N.Nodup) (hy : X.N[i]? = some y) (hyl : X.env.scope.names.lookup y = some .local)
    (hsw : swapsWith (.ListComp elt [⟨tg, iter, ifs, 0⟩] scope pos) (some (.Name y py)) spos.line X.env = pure true) (hi : PI X tg iter wi) (ok : BlkOk X.N X.env.scope scope own)
    (hst : ∃ env0 outer0, X.stack = env0 :: outer0 ∧ env0.frame = some L) (hcf : X.env.frame = some L) (tk : TakesL L X W)
    (hg : ∀ (s : Shared) (H : Hp) (C : Addr) (cl : List (Str × Addr)) (fp : List Addr) (xe : Value → Shared → Prop), PG (blkX X s H scope (compEnvC scope cl C X.env) fp xe) tg g) (ht : ∀ (s : Shared) (H : Hp) (C : Addr) (cl : List (Str × Addr)) (fp : List Addr) (xe : Value → Shared → Prop), PTs (blkX X s H scope (compEnvC scope cl C X.env) fp xe) ifs tt)
    (he : ∀ (s : Shared) (H : Hp) (C : Addr) (cl : List (Str × Addr)) (fp : List Addr) (xe : Value → Shared → Prop) (V : WX), TakesL L (blkX X s H scope (compEnvC scope cl C X.env) fp xe) V → PE (blkX X s H scope (compEnvC scope cl C X.env) fp xe) elt (te V)) (hs : ∀ x, foldedSetIterable iter X.env x = pure x := by intro _; rfl) :
    PS X (.Assign [.Name y py] (.ListComp elt [⟨tg, iter, ifs, 0⟩] scope pos) spos) (tAsg (tLcX wi g tt te (own.map (·.2)) W) (gName i)) := by
  refine ⟨fun pins s σ H D I h => ?_⟩
  rw [exec_Assign_Name_used _ _ _ _ hsw]
  refine wpAny_bind (wpAny_standAt (wpAny_bind ?_))
  show wpAny _ X.A (do let _ ← comprehension (.ListComp elt [⟨tg, iter, ifs, 0⟩] scope pos) scope X.env (firstIterPos [⟨tg, iter, ifs, 0⟩] pos) (newList []) false (eval iter X.env) (some (assign (.Name y py) X.env))) _ _ s
  have h : tLc wi g tt (te fun cls d _ H' => W cls d σ H') (own.map (·.2)) σ H (fun x H1 => gName i x σ H1 D.nx) := h
  refine wpAny_bind (thn (lc_coreX (Qf := fun _ s' => SP X pins D .next s') hc hN I hi ok hst hcf tk hg ht he hs h fun L C s' m H' I' q hn f ce hce => ?_) fun _ s' hq => wpAny_pure (wpAny_pure hq))
  show wpAny _ _ (assign (.Name y py) X.env (.ref L)) _ _ _
  refine wpAny_assign_Name (store_ok2 (v := V.ref L) I' hN hy (.inl hyl) rfl (fun s2 I2 ⟨a, sb, ha⟩ => ?_) (.inr hyl))
  obtain ⟨f0, f1, f2, f3, f4, f5⟩ := f
  have haC : C ≠ a := by
    rcases ha with z | z
    · rw [z]; exact f1
    · exact fun e => f4 y a z e.symm
  subst hce
  refine ⟨m, hn.sameBut sb haC, fun h3 sb3 => ?_⟩
  exact ⟨_, H', I2.turned (t' := s2.toks) (fun b o hb e => (sb3.2 b hb).trans e) f0 f1 f3 f4 f5, q⟩
end
end MG

/-! raising where something is handled; errors with a context, in a try -/
namespace MG
open PySem PySem.Spec PyProof.Rows L2 ClX
section
variable {X : Cx} {W : WX}
theorem sky_c {B : Heap} {l : List Env} {a L : Addr} {cls : Value} {d : Option Addr} {h : Heap} (x : Sky B l a (L2N.Zn cls d) L h) : Sky B l a (Zc cls d) L h := by
  rcases x with ⟨hB, hn, hl, oe, vs, he, hz, r⟩ | ⟨h1, h2, h3, h4⟩ | ⟨h1, h2, h3, h4⟩
  · exact .inl ⟨hB, hn, hl, oe, vs, he, hz.zc, r⟩
  · exact .inr (.inl ⟨h1, h2, h3, L2H.tracedZ_imp (fun _ z => z.zc) h4⟩)
  · exact .inr (.inr ⟨h1, h2, h3, L2H.tracedZ_imp (fun _ z => z.zc) h4⟩)
theorem takes_c (tk : L2.Takes X W) : L2N.Takes X W := fun u s' ⟨a, B, sI, pins, σ, H, cls, d, e, I, nb, up, sky, r⟩ => tk u s' ⟨a, B, sI, pins, σ, H, cls, d, e, I, nb, up, sky_c sky, r⟩
/-- a def that may raise errors of any context -/
theorem fun_okC {P : Program} {w : World} {K : PySem.W.Frag} {mg : Str → Option Value} {base : Heap} {x qual : Str} {st : Stmt} {f : Addr} {fd : FuncData} {N ps : List Str} {k : Nat} {sp : Sp} (F : Fun K x qual st f fd) (S : FnScope N ps (defScope st)) (len : ∀ vs H Q E, sp vs H Q E → vs.length = ps.length)
    (hbody : ∀ (cdv : Value) (A : Around) (outer : List Env) (s : Shared) (H : Hp) (vs : List V) (Q : VK) (E : XK), Room k (A.deeper (envOfC qual (defScope st) s.heap.objs.size f cdv)) → sp vs H Q E →
      ∃ t, PSs (cxOf (L2.CX P w) P w K mg base N qual (defScope st) f cdv A outer s H E) (defBody st) t ∧ t { nx := fun _ H' => Q .non H', rt := Q } (start N vs) H) : FnOk P w K mg base (L2.CX P w) (k + 1) f fd ps sp := by
  obtain ⟨oc, od, kV, doc, pm, an, cdv, ct, osl, rfl, lk, hcd⟩ := F.ex
  exact fn_of lk hcd S len fun A outer s H vs Q E hr hsp => hbody cdv A outer s H vs Q E hr hsp
end
section
variable {X : Cx} {CX : CXT} {k j : Nat} {C p g : Addr} {m : Str} {mc : Value} {sp : Sp} {o e : Expr} {es : List Expr} {pos apos : Pos} {ta : TE} {t : TA} {pl : Sem Bool}
/-- a classmethod that may raise, within a comprehension in a try -/
theorem pe_cmtXL {W : WX} {L : Addr} (c : CmtX X.prog X.w X.K X.mg X.base k C m sp) (hr : Room j X.A) (hk : k ≤ j) (tk : TakesL L X W) (he : PE X o ta) (ha : PA X (e :: es) t)
    (hst : starEach (e :: es) X.env = (false, eval e X.env) :: starEach es X.env := by rfl) (hpl : (backTo pos (starEach es X.env)).any (·.1) = false := by rfl)
    (ht : eval (.Call (.Attribute o m apos) (e :: es) [] pos) X.env = (do
      let ov ← eval o X.env
      standAt apos.atName
      let (f, first) ← holding [ov] (getMethod ov m pl)
      callWith pos f first (backTo pos (starEach (e :: es) X.env)) (backToKw pos (keywordEach [] X.env))) := by rfl) :
    PE X (.Call (.Attribute o m apos) (e :: es) [] pos) (tCMetS C sp (WE W) ta t) := by
  obtain ⟨p, g, mc, fd, ps, r, cm, F, b⟩ := c.ex
  refine ⟨fun pins s σ H Q I h => ?_⟩
  refine PySem.W.methodCall_KW (pl := pl) (thn (he.run pins s σ H _ I h) fun u s1 ⟨x, H1, I1, rx, ex, q⟩ => ?_) ht
  subst ex
  obtain rfl : u = Value.ref C := rx
  refine getmethcm_ok I1 r cm fun s2 I2 => ?_
  refine callwith_cm I2 (base_none I1 (Nat.le_refl _)) cm.fi (thn (ha.run pos _ s2 σ H1 _ I2 q) fun us s3 ⟨vs, H2, I3, rv, q2⟩ => ⟨⟨pin_at I3, I3.kIn⟩, ?_⟩) hst hpl
  have q3 : sp (.ref C :: vs ++ []) H2 Q (WE W σ) := by rw [List.append_nil]; exact q2
  exact after_cm I3 (passAtL tk σ) ((F.raw b .nil) X.A X.stack s3 H2 (.ref C :: us) (.ref C :: vs) Q (WE W σ) (hr.mono hk) I3.env0 (.cons rfl rv) q3)
/-- the same where its errors have any context, in a try -/
structure CmtC (P : Program) (w : World) (K : PySem.W.Frag) (mg : Str → Option Value) (base : Heap) (k : Nat) (C : Addr) (m : Str) (sp : Sp) : Prop where
  ex : ∃ (p g : Addr) (mc : Value) (fd : FuncData) (ps : List Str), CRead K C mc ∧ CMet K C mc m p g ∧ FnOk P w K mg base (L2.CX P w) k g fd ps sp ∧ Binds K fd ps []
theorem pe_cmtC {W : WX} (c : CmtC X.prog X.w X.K X.mg X.base k C m sp) (hr : Room j X.A) (hk : k ≤ j) (tk : L2.Takes X W) (he : PE X o ta) (ha : PA X (e :: es) t)
    (hst : starEach (e :: es) X.env = (false, eval e X.env) :: starEach es X.env := by rfl) (hpl : (backTo pos (starEach es X.env)).any (·.1) = false := by rfl)
    (ht : eval (.Call (.Attribute o m apos) (e :: es) [] pos) X.env = (do
      let ov ← eval o X.env
      standAt apos.atName
      let (f, first) ← holding [ov] (getMethod ov m pl)
      callWith pos f first (backTo pos (starEach (e :: es) X.env)) (backToKw pos (keywordEach [] X.env))) := by rfl) :
    PE X (.Call (.Attribute o m apos) (e :: es) [] pos) (tCMetS C sp (WE W) ta t) := by
  obtain ⟨p, g, mc, fd, ps, r, cm, F, b⟩ := c.ex
  refine ⟨fun pins s σ H Q I h => ?_⟩
  refine PySem.W.methodCall_KW (pl := pl) (thn (he.run pins s σ H _ I h) fun u s1 ⟨x, H1, I1, rx, ex, q⟩ => ?_) ht
  subst ex
  obtain rfl : u = Value.ref C := rx
  refine getmethcm_ok I1 r cm fun s2 I2 => ?_
  refine callwith_cm I2 (base_none I1 (Nat.le_refl _)) cm.fi (thn (ha.run pos _ s2 σ H1 _ I2 q) fun us s3 ⟨vs, H2, I3, rv, q2⟩ => ⟨⟨pin_at I3, I3.kIn⟩, ?_⟩) hst hpl
  have q3 : sp (.ref C :: vs ++ []) H2 Q (WE W σ) := by rw [List.append_nil]; exact q2
  exact after_cm I3 (L2.passAt tk σ) ((F.raw b .nil) X.A X.stack s3 H2 (.ref C :: us) (.ref C :: vs) Q (WE W σ) (hr.mono hk) I3.env0 (.cons rfl rv) q3)
structure CmtKC (P : Program) (w : World) (K : PySem.W.Frag) (mg : Str → Option Value) (base : Heap) (k : Nat) (C : Addr) (m : Str) (sp : Sp) (ks : List Str) (gV : List V → List V → List V) : Prop where
  ex : ∃ (p g : Addr) (mc : Value) (fd : FuncData) (ps : List Str) (gf : List Value → List Value → List Value), CRead K C mc ∧ CMet K C mc m p g ∧ FnOk P w K mg base (L2.CX P w) k g fd ps sp ∧ KBn K fd ps 1 ks gf gV
theorem passFC {σ : L2.St} : PassesAt (L2.CX X.prog X.w) X σ (fun _ _ _ => False) := fun _ _ _ _ _ _ ⟨_, _, _, _, _, _, _, _, _, _, _, _, z⟩ => z.elim
theorem pe_cmtKC {kws : List Keyword} {ks : List Str} {gV : List V → List V → List V} {tk : TA} (c : CmtKC X.prog X.w X.K X.mg X.base k C m sp ks gV) (hr : Room j X.A) (hk : k ≤ j) (he : PE X o ta) (hkw : PK X kws tk)
    (hall : (backToKw pos (keywordEach kws X.env)).all (·.1.isSome) = true := by rfl) (hks : (backToKw pos (keywordEach kws X.env)).filterMap (·.1) = ks := by rfl)
    (hpl : ((backTo pos (starEach [] X.env)).any (·.1) || (backToKw pos (keywordEach kws X.env)).any (·.1.isNone)) = false := by rfl)
    (ht : eval (.Call (.Attribute o m apos) [] kws pos) X.env = (do
      let ov ← eval o X.env
      standAt apos.atName
      let (f, first) ← holding [ov] (getMethod ov m pl)
      callWith pos f first (backTo pos (starEach [] X.env)) (backToKw pos (keywordEach kws X.env))) := by rfl) :
    PE X (.Call (.Attribute o m apos) [] kws pos) (tCMetK C sp ks.length gV ta tk) := by
  obtain ⟨p, g, mc, fd, ps, gf, r, cm, F, b⟩ := c.ex
  refine ⟨fun pins s σ H Q I h => ?_⟩
  refine PySem.W.methodCall_KW (pl := pl) (thn (he.run pins s σ H _ I h) fun u s1 ⟨x, H1, I1, rx, ex, q⟩ => ?_) ht
  subst ex
  obtain rfl : u = Value.ref C := rx
  refine getmethcm_ok I1 r cm fun s2 I2 => ?_
  refine PySem.W.callWith_of (P := PySem.W.MethP X.K s1.heap.objs.size g (.ref C)) hpl (PySem.W.keeps_M cm.fi) (PyProof.Rows.evalArgs_kw2_nil hall (thn (hkw.run pos _ s2 σ H1 _ I2 q) fun ws s3 ⟨zs, H2, I3, rz, hl, q2⟩ => ⟨⟨pin_at I3, I3.kIn⟩, ?_⟩))
  rw [hks]
  have hlw : ws.length = ks.length := rz.length.symm.trans hl
  exact after_cm I3 passFC (F.run X.A X.stack s3 H2 ⟨.ref C :: [], ks.zip ws⟩ (gf [.ref C] ws) (gV [.ref C] zs) Q _ (hr.mono hk) I3.env0 (b.to s3 [.ref C] ws I3.kIn rfl hlw) (b.rel (.cons rfl .nil) rz) q2)
end
section
variable {X : Cx} {k j : Nat} {C : Addr} {fl x : Str} {p pos pos2 : Pos} {e : Expr} {es : List Expr} {ta : TA} {W : WX}
theorem pmk_c {e : Expr} {t : L2.St → Hp → XK → Prop} (h : L2N.PMk X e t) : L2.PMk X e t := fun pins s σ H Q I q => wpAny_mono (h pins s σ H Q I q) (fun u s' ⟨a, oe, vs, sI, H', cls, d, e1, J, kk, hne, ha, hz, r⟩ => ⟨a, oe, vs, sI, H', cls, d, e1, J, kk, hne, ha, hz.zc, r⟩) fun _ _ z => z
/-- raise C(..) in such a def -/
theorem ps_raiseC (T : ExcF X.prog X.w X.K X.mg X.base k x C fl) (hr : Room j X.A) (hk : k + 1 ≤ j) (hc : X.calm = true) (tk : L2.Takes X W) (hg : Gl X x) (ha : PA X (e :: es) ta)
    (hdb : (x == ("__debug__" : Str)) = false := by decide) (he : starEach (e :: es) X.env = (false, eval e X.env) :: starEach es X.env := by rfl) (hpl : (backTo pos (starEach es X.env)).any (·.1) = false := by rfl) :
    PS X (.Raise (some (.Call (.Name x p) (e :: es) [] pos)) none pos2) (fun _ σ H => tRx C fl ta σ H fun cls d H' => W cls d σ H') := L2.ps_raise hc tk (pmk_c (pmk_x T hr hk hg ha hdb he hpl))
/-- such a class of errors, made in an except suite -/
structure ExcH (P : Program) (w : World) (K : PySem.W.Frag) (mg : Str → Option Value) (base : Heap) (k : Nat) (x : Str) (C : Addr) (fl : Str) : Prop where
  oex : OexC K C
  no : PySem.W.findIn K (.ref C) fl = some none
  g : mg x = some (.ref C)
  ex : ∃ (fI : Addr) (fd : FuncData) (ps : List Str), PySem.W.findIn K (.ref C) "__init__" = some (some (.ref fI)) ∧ PySem.W.typeIn K (.ref fI) = some (.type "function") ∧ L2H.FnH P w K mg base CX0 k fI fd ps (spXi K C fl) ∧ Binds K fd ps []
theorem pmk5_x (T : ExcH X.prog X.w X.K X.mg X.base k x C fl) (hr : L2H.RoomH j X.A) (hk : k + 1 ≤ j) (hc : L2H.HotC X) (hg : Gl X x) (ha : PA X (e :: es) ta)
    (hdb : (x == ("__debug__" : Str)) = false := by decide) (he : starEach (e :: es) X.env = (false, eval e X.env) :: starEach es X.env := by rfl) (hpl : (backTo pos (starEach es X.env)).any (·.1) = false := by rfl) :
    L2H.PMk5 X (.Call (.Name x p) (e :: es) [] pos) (tRx C fl ta) := by
  obtain ⟨oex, hno, hm, fI, fd, ps, iC, tI, F, hb⟩ := T
  have base := L2H.pmk5_oexH (p := p) (CX := CX0) (ta := tCutA ta) oex iC tI F (hr.mono hk) hc hb pass0 hg hm ⟨fun pos pins s σ H Q I ⟨Cc, h1, h2⟩ => thn (ha.run pos pins s σ H Cc I h1) fun us s2 ⟨vs, H', I2, r, q⟩ => ⟨vs, H', I2, r, h2 vs H' q⟩⟩ hdb he hpl
  intro pins s σ H Q I h
  refine base pins s σ H Q I ⟨_, h, ?_⟩
  rintro vs H1 ⟨y, rfl, q⟩
  refine ⟨by show 1 ≤ 1000; decide, fun a hn => ⟨_, y, rfl, oex, hno, upd_same, fun dx hdx ne => ⟨rfl, dx, [(fl, y)], upd_same, ?_, ?_, q dx _ ?_ ?_ ?_⟩⟩⟩
  · rw [upd_ne ne, upd_same]
  · rw [upd_ne ne] at hdx
    exact hdx
  · intro b o hbo
    rw [upd_ne ne] at hdx
    rw [upd_ne (ne_of_none hbo hdx), del_ne (ne_of_none hbo hn), upd_ne (ne_of_none hbo hn), upd_ne (ne_of_none hbo hdx), upd_ne (ne_of_none hbo hn)]
    exact hbo
  · rw [upd_ne ne] at hdx
    exact hdx
  · exact upd_same
/-- raise C(..) from None -/
theorem ps_raiseFN {jn : Nat} {cpos : Pos} (T : ExcH X.prog X.w X.K X.mg X.base k x C fl) (hr : L2H.RoomH j X.A) (hk : k + 1 ≤ j) (hc : L2H.HotC X) (tk : L2.Takes X W) (hg : Gl X x) (ha : PA X (e :: es) ta)
    (hdb : (x == ("__debug__" : Str)) = false := by decide) (he : starEach (e :: es) X.env = (false, eval e X.env) :: starEach es X.env := by rfl) (hpl : (backTo pos (starEach es X.env)).any (·.1) = false := by rfl) :
    PS X (.Raise (some (.Call (.Name x p) (e :: es) [] pos)) (some (.Constant .none jn cpos)) pos2) (fun _ σ H => tRx C fl ta σ H fun cls d H' => W cls d σ H') := L2H.ps_raiseHN hc tk (pmk5_x T hr hk hc hg ha hdb he hpl)
end
section
variable {X : Cx} {x n : Str} {c : Value} {i : Nat} {body suite : List Stmt} {b₀ : Stmt} {np pos pos' : Pos} {tb : WX → TS} {ts : Addr → Value → Option Addr → TS} {Wout : WX}
theorem takes0 : L2.Takes X (fun _ _ _ _ => False) := fun u s' ⟨_, _, _, _, _, _, _, _, _, _, _, _, _, _, _, _, w⟩ => w.elim
/-- try .. except X as n, errors of any context; what is raised said once for all ways -/
theorem ps_tryC_cut (hs : X.stack = X.env :: X.outer) (hf : X.env.frame = some X.env.locals) (hN : X.N.Nodup) (hi : X.N[i]? = some n) (hln : X.env.kindOf n = some .local) (hc : Names X x c) (tk : L2.Takes X Wout)
    (hb : ∀ (W : WX) (pn : List (Addr × Obj)) (xe : Value → Shared → Prop), L2.Takes (X.tr pn xe) W → PassesOwn (model X.prog X.w) X.A X.env xe → PSs (X.tr pn xe) body (tb W))
    (hsu : ∀ (a : Addr) (oe : Obj) (cls : Value) (d : Option Addr) (pn : List (Addr × Obj)), Zc cls d oe → (∃ vs, oe.data = .fields vs) → PSs (X.suite a ((a, oe) :: pn)) (b₀ :: suite) (ts a cls d)) :
    PS X (.Try body [.ExceptHandler (some (.Name x np)) (some n) (b₀ :: suite) pos'] [] [] pos) (fun D σ H => ∃ Ce : WX, (∀ cls d σ' H', Ce cls d σ' H' → wAs X.K c i ts Wout D cls d σ' H') ∧ tb Ce D σ H) :=
  L2.ps_try_as (tb := fun W D σ H => ∃ Ce : WX, (∀ cls d σ' H', Ce cls d σ' H' → W cls d σ' H') ∧ tb Ce D σ H) hs hf hN hi hln hc tk
    (fun W pn xe tk po => ⟨fun pins s σ H D I ⟨Ce, imp, h⟩ => (hb Ce pn xe (tk.imp imp) po).run pins s σ H D I h⟩) hsu
/-- try .. except X: whose suite raises -/
theorem ps_tryX_cut (hs : X.stack = X.env :: X.outer) (hf : X.env.frame = some X.env.locals) (hc : Names X x c) (hpa : ∀ hd : Option Value, PassesOwnAt (model X.prog X.w) (X.A.mark hd) X.A X.env X.xe) (tk : L2.Takes X Wout)
    (hb : ∀ (W : WX) (pn : List (Addr × Obj)) (xe : Value → Shared → Prop), L2N.Takes (X.tr pn xe) W → PassesOwn (model X.prog X.w) X.A X.env xe → PSs (X.tr pn xe) body (tb W))
    (hsu : ∀ (a : Addr) (oe : Obj) (cls : Value) (d : Option Addr) (pn : List (Addr × Obj)), L2N.Zn cls d oe → (∃ vs, oe.data = .fields vs) → L2.Takes (L2H.suiteX X a ((a, oe) :: pn)) Wout → L2H.HotC (L2H.suiteX X a ((a, oe) :: pn)) →
      PSs (L2H.suiteX X a ((a, oe) :: pn)) (b₀ :: suite) (ts a cls d)) :
    PS X (.Try body [.ExceptHandler (some (.Name x np)) none (b₀ :: suite) pos'] [] [] pos) (fun D σ H => ∃ Ce : WX, (∀ cls d σ' H', Ce cls d σ' H' → wOnly X.K c ts Wout D cls d σ' H') ∧ tb Ce D σ H) :=
  L2H.ps_try_onlyX (tb := fun W D σ H => ∃ Ce : WX, (∀ cls d σ' H', Ce cls d σ' H' → W cls d σ' H') ∧ tb Ce D σ H) hs hf hc hpa tk
    (fun W pn xe tk _ po => ⟨fun pins s σ H D I ⟨Ce, imp, h⟩ => (hb Ce pn xe (tk.imp imp) po).run pins s σ H D I h⟩) hsu
end
end MG

/-! a token behind the first item of a written list; e.replace behind it -/
namespace MG
open PySem PySem.Spec PyProof.Rows L2 CwR
section
variable {X : Cx} {e f : Expr} {es : List Expr} {te tf : TE} {ta : TA} {pos : Pos}
/-- an expression behind which a token is out -/
def PEk (X : Cx) (e : Expr) (t : TE) : Prop :=
  ∀ (pins : List (Addr × Obj)) (s : Shared) (σ : L2.St) (H : Hp) (Q : VK), Inv X pins σ H s → t σ H Q → wpAny (model X.prog X.w) X.A (eval e X.env) (fun u s' => EP X pins σ Q u s' ∧ 1 ≤ s'.toks) X.xe s
theorem pek_str {x : Str} {j : Nat} : PEk X (.Constant (.str x) j pos) (tC (.str x)) := fun _ s _ H _ I h => Calls.Constant_str ⟨⟨.str x, H, I.tok _, ⟨_, rfl⟩, h⟩, Nat.succ_le_succ (Nat.zero_le _)⟩
theorem pek_opR {op : Operator} {r : R2} (ho : OpR X (binaryOp op) r) (ha : PE X e te) (hb : PEk X f tf) : PEk X (.BinOp e op f pos) (tOp r te tf) := by
  intro pins s σ H Q I h
  refine wpAny_BinOp (thn (ha.run pins s σ H _ I h) fun v s1 ⟨x, H1, I1, r1, q1⟩ => ?_)
  refine thn (hb pins s1 σ H1 _ I1 q1) fun u s2 ⟨⟨y, H2, I2, r2, q2⟩, k⟩ => ?_
  exact wpAny_mono (wpAny_toks (ho pins s2 σ H2 x y v u Q I2 r1 r2 q2)) (fun z s3 ⟨k3, q3⟩ => ⟨q3, Nat.le_trans k k3⟩) fun _ _ z => z.2
theorem pek_opL {op : Operator} {r : R2} (ho : OpR X (binaryOp op) r) (ha : PEk X e te) (hb : PE X f tf) : PEk X (.BinOp e op f pos) (tOp r te tf) := by
  intro pins s σ H Q I h
  refine wpAny_BinOp (thn (ha pins s σ H _ I h) fun v s1 ⟨⟨x, H1, I1, r1, q1⟩, k⟩ => ?_)
  refine wpAny_mono (wpAny_toks (hb.run pins s1 σ H1 _ I1 q1)) (fun u s2 ⟨k2, y, H2, I2, r2, q2⟩ => ?_) fun _ _ z => z.2
  exact wpAny_mono (wpAny_toks (ho pins s2 σ H2 x y v u Q I2 r1 r2 q2)) (fun z s3 ⟨k3, q3⟩ => ⟨q3, Nat.le_trans k (Nat.le_trans k2 k3)⟩) fun _ _ z => z.2
theorem pa_consK (ha : PEk X e te) (hr : PAT X es ta) (hs : starEach (e :: es) X.env = (false, eval e X.env) :: starEach es X.env := by rfl) : PA X (e :: es) (tCons te ta) := by
  refine ⟨fun pos pins s σ H Q I h => ?_⟩
  rw [hs]
  show wpAny _ _ (spliced ((false, eval e X.env) :: backTo pos (starEach es X.env))) _ _ s
  refine Calls.spliced_cons (thn (ha pins s σ H _ I h) fun v s1 ⟨⟨x, H1, I1, r1, q1⟩, k⟩ => ?_)
  exact thn (hr pos pins s1 σ H1 _ k I1 q1) fun us s2 ⟨xs, H2, I2, r2, q2⟩ => ⟨x :: xs, H2, I2, .cons r1 r2, q2⟩
theorem pe_joinK {K : PySem.W.Frag} {o : Expr} {to : TE} {apos : Pos} (ho : PE X o to) (he : PE X e te) (hs : starEach [e] X.env = [(false, eval e X.env)] := by rfl) (hbase : attributeBase o "join" X.env (eval o X.env) = eval o X.env := by rfl) (hline : (apos.endLine == pos.line) = true := by rfl) (hK : X.K = K := by rfl) :
    PE X (.Call (.Attribute o "join" apos) [e] [] pos) (tM1 (fun x xs H Q => ∃ a p, ∃ ys : List Str, x = .str a ∧ xs = [.ref p] ∧ (SqL K H p (ys.map V.str) ∨ SqT K H p (ys.map V.str)) ∧
      (ys.map (·.length)).sum + ys.length * a.length ≤ 16777216 ∧ Q (.str (Txt.join a ys)) H) to te) := hK ▸ pe_join ho he hs hbase hline
end
end MG

/-! None in a list of tuples and None -/
namespace MG
open PySem PySem.Spec PyProof.Rows L2
def isNon : Value → Bool
  | .none => true
  | _ => false
def rInNon (K : PySem.W.Frag) : R2 := fun x y H Q => ∃ p xs b, x = .non ∧ y = .ref p ∧ SqL K H p xs ∧ (∀ z ∈ xs, z = .non ∨ ∃ t ys, z = .ref t ∧ H t = some (.tup ys)) ∧ (b = true ↔ V.non ∈ xs) ∧ Q (.bl b) H
theorem any_non : ∀ {xs : List V} {us : List Value}, Vals xs us → (∀ z ∈ xs, z = .non ∨ ∃ t, z = .ref t) → (us.any isNon = true ↔ V.non ∈ xs)
  | _, _, .nil, _ => by simp
  | y :: xs, u :: us, .cons r t, h => by
    rw [List.any_cons, Bool.or_eq_true, any_non t fun z hz => h z (List.mem_cons_of_mem _ hz), List.mem_cons]
    rcases h y (by simp) with rfl | ⟨a, rfl⟩
    · cases r
      simp [isNon]
    · cases r
      simp [isNon]
theorem op_in_non {X : Cx} (hu : X.A.units + 1 < cLine) : OpR X (compareOp .In) (rInNon X.K) := by
  intro pins s σ H x y v u Q I rx ry h
  obtain ⟨p, xs, b, rfl, rfl, hq, hz, hb, q⟩ := h
  cases ry
  cases rx
  obtain ⟨its, r, pl, hl⟩ := I.list hq
  have key : ∀ {xs : List V} {us : List Value}, Vals xs us → (∀ z ∈ xs, z = .non ∨ ∃ t ys, z = .ref t ∧ H t = some (.tup ys)) → ∀ w ∈ us, SeqAt.EqAt X.A.in1 s w .none (isNon w) := by
    intro xs us r h
    induction r with
    | nil => intro w hw; cases hw
    | @cons y u xs us r1 t ih =>
      intro w hw
      rcases List.mem_cons.mp hw with rfl | hw
      · rcases h y (by simp) with rfl | ⟨a, ys, rfl, ha⟩
        · cases r1
          exact SeqAt.EqAt.same _
        · cases r1
          obtain ⟨hz', its, rr, tp⟩ := I.hok a _ ha
          exact SeqAt.EqAt.tuple_none tp hu
      · exact ih (fun z hz => h z (List.mem_cons_of_mem _ hz)) w hw
  refine SeqAt.in_listAt isNon pl.isList (fun w hw => key r hz w (by simpa using hw)) ⟨.bl b, H, I, ?_, q⟩
  have e : its.any isNon = b := by
    have := any_non r fun z hz' => (hz z hz').imp id fun ⟨t, _, e, _⟩ => ⟨t, e⟩
    cases b with
    | true => exact this.mpr (hb.mp rfl)
    | false =>
      cases c : its.any isNon with
      | false => rfl
      | true => exact absurd (hb.mpr (this.mp c)) (by decide)
  show _ = Value.bool b
  rw [← e]
  simp
end MG

/-! == of tuples, decided -/
namespace MGQ
open PySem PySem.Spec PyProof.Rows GQ
section
variable {prog : Program} {w : World} {A : Around} {R : Result → Shared → Prop}
/-- e i: whether the i-th two are equal -/
theorem tuple_eqB (l b : Addr) (items items2 : Array Value) (n n2 : Nat) (dd dd2 : Option Addr) (sl sl2 : Array (Option Value)) (e : Nat → Bool) (I : Nat → Shared → Prop)
    (turn : ∀ i (h1 : i < items.size) (h2 : i < items2.size) s, I i s → wpAny (model prog w) A.in1 (eqBool items[i] items2[i]) (fun r s' => r = e i ∧ I (i + 1) s') (fun e s' => R (.error e) s') s)
    (bad : ∀ i s, i < items.size → i < items2.size → e i = false → I (i + 1) s → R (.ok (.ret (.bool false))) s)
    (fin : ∀ s, (∀ i, i < items.size → i < items2.size → e i = true) → I (min items.size items2.size) s → R (.ok (.ret (.bool (items.size == items2.size)))) s) {s : Shared} (hl1 : s.heap.get? l = some { cls := .type "tuple", dict := dd, data := .seq items n, slots := sl }) (hb1 : s.heap.get? b = some { cls := .type "tuple", dict := dd2, data := .seq items2 n2, slots := sl2 }) (h : I 0 s) :
    wpAny (model prog w) A.in1 (Builtin.«tuple.__eq__» ⟨[.ref l, .ref b], []⟩) (FinOf prog w A R) (fun e s' => R (.error e) s') s := by
  have f2 := AutoSeq1.sub_tuple_tuple
  have hZ : (items.toList.zip items2.toList).length = min items.size items2.size := by simp
  have h0 := h
  obtain ⟨hp, g, d, tk, os⟩ := s
  wp_walk using wpAny_loadPart' hl1, wpAny_loadPart' hb1, wpAny_forIn_list _ (fun rest b s' => (b.1 = none ∧ ∃ i, rest = (items.toList.zip items2.toList).drop i ∧ i ≤ min items.size items2.size ∧ (∀ j, j < i → e j = true) ∧ I i s')) _
  case turn =>
    rintro ⟨y, x⟩ rest b s' ⟨hb', i, hz, hi, he, hI⟩
    have hlt : i < (items.toList.zip items2.toList).length := by
      rcases Nat.lt_or_ge i (items.toList.zip items2.toList).length with h' | h'
      · exact h'
      · rw [List.drop_of_length_le h'] at hz; cases hz
    have h1 : i < items.size := by rw [hZ] at hlt; omega
    have h2 : i < items2.size := by rw [hZ] at hlt; omega
    rw [List.drop_eq_getElem_cons hlt] at hz
    injection hz with hyx hrest
    have hy : y = items[i] := by have := congrArg Prod.fst hyx; simpa using this
    have hx : x = items2[i] := by have := congrArg Prod.snd hyx; simpa using this
    subst hy hx
    refine wpAny_bind (wpAny_mono (turn i h1 h2 s' hI) (fun r s2 q2 => ?_) fun _ _ x => x)
    obtain ⟨hr, q2⟩ := q2
    subst hr
    cases ei : e i with
    | true =>
      wp_walk
      refine ⟨rfl, i + 1, hrest, by omega, fun j hj => ?_, q2⟩
      by_cases hji : j = i
      · rw [hji]; exact ei
      · exact he j (by omega)
    | false =>
      have hB := bad i s2 h1 h2 ei q2
      wp_walk
      exact hB
  case fin =>
    rintro ⟨b1, b2⟩ s' ⟨hb', i, hz, hi, he, hI⟩
    simp only at hb'
    subst hb'
    have hge : min items.size items2.size ≤ i := by
      rcases Nat.lt_or_ge i (items.toList.zip items2.toList).length with h' | h'
      · rw [List.drop_eq_getElem_cons h'] at hz; cases hz
      · rw [hZ] at h'; exact h'
    have hi' : i = min items.size items2.size := by omega
    have hR : R (.ok (.ret (.bool (items.size == items2.size)))) s' := fin s' (fun j h1 h2 => he j (by omega)) (hi' ▸ hI)
    wp_walk
    simpa [Builtin.Tuple.tupleCompareSizes] using hR
  case h =>
    exact ⟨rfl, 0, rfl, Nat.zero_le _, fun j hj => absurd hj (Nat.not_lt_zero j), h0⟩
end
section
variable {prog : Program} {w : World} {A : Around} {E : Value → Shared → Prop} {s : Shared}
theorem rc_tupB {l b : Addr} {items items2 : Array Value} {Q : Value → Shared → Prop} (hu : A.units < cLine) (e : Nat → Bool) (I : Nat → Shared → Prop)
    (hl : s.heap.IsTuple l items) (hb : s.heap.IsTuple b items2)
    (turn : ∀ i (h1 : i < items.size) (h2 : i < items2.size) s, I i s → wpAny (model prog w) A.in1 (eqBool items[i] items2[i]) (fun r s' => r = e i ∧ I (i + 1) s') E s)
    (bad : ∀ i s, i < items.size → i < items2.size → e i = false → I (i + 1) s → Q (.bool false) s)
    (fin : ∀ s, (∀ i, i < items.size → i < items2.size → e i = true) → I (min items.size items2.size) s → Q (.bool (items.size == items2.size)) s) (h : I 0 s) : wpAny (model prog w) A (richCompare .Eq (.ref l) (.ref b)) Q E s := by
  obtain ⟨⟨cls, dd, data, sl⟩, ho, hc, n, hd⟩ := id hl
  obtain ⟨⟨cls2, dd2, data2, sl2⟩, ho2, hc2, n2, hd2⟩ := id hb
  simp only at hc hd hc2 hd2
  subst hc hd hc2 hd2
  refine wpAny_richCompare_same_room (op := .Eq) ⟨_, ho, rfl⟩ ⟨_, ho2, rfl⟩ F.slot_tuple_eq (GQ.call_here F.slot_tuple_eq ⟨_, ho, rfl⟩ F.entry_tuple_eq (F.args_tuple_eq_2 _ _) ?_) hu
  exact tuple_eqB (R := wants (fun v s' => v ≠ .notImplemented ∧ Q v s') E) l b items items2 n n2 dd dd2 sl sl2 e I turn (fun i s' h1 h2 he q => ⟨(fun x => nomatch x), bad i s' h1 h2 he q⟩) (fun s' he q => ⟨(fun x => nomatch x), fin s' he q⟩) ho ho2 h
end
end MGQ
namespace MG
open PySem PySem.Spec PyProof.Rows L2
abbrev Eqb := V → V → Hp → Bool → Prop
def MonB (D : Eqb) : Prop := ∀ x y H H' b, Ext H H' → D x y H b → D x y H' b
def ReflB (D : Eqb) : Prop := ∀ x H b, D x x H b → b = true
def EqB (X : Cx) (n : Nat) (D : Eqb) : Prop :=
  ∀ (A : Around) (pins : List (Addr × Obj)) (s : Shared) (σ : L2.St) (H : Hp) (x y : V) (u v : Value) (b : Bool), Sub X n A → Inv X pins σ H s → RelV x u → RelV y v → D x y H b →
    wpAny (model X.prog X.w) A (eqBool u v) (fun r s' => r = b ∧ ∃ H', Inv X pins σ H' s' ∧ Ext H H') X.xe s
def RcB (X : Cx) (n : Nat) (D : Eqb) : Prop :=
  ∀ (A : Around) (pins : List (Addr × Obj)) (s : Shared) (σ : L2.St) (H : Hp) (x y : V) (u v : Value) (b : Bool), Sub X n A → Inv X pins σ H s → RelV x u → RelV y v → D x y H b →
    wpAny (model X.prog X.w) A (richCompare .Eq u v) (fun r s' => r = .bool b ∧ ∃ H', Inv X pins σ H' s' ∧ Ext H H') X.xe s
section
variable {X : Cx} {n : Nat} {D : Eqb}
theorem RcB.eqB (h : RcB X n D) (hr : ∀ x y H b, D x y H b → ∃ a c, x = .ref a ∧ y = .ref c) (rf : ReflB D) : EqB X n D := by
  intro A pins s σ H x y u v b sb I rx ry d
  obtain ⟨a, c, rfl, rfl⟩ := hr _ _ _ _ d
  cases rx
  cases ry
  by_cases hab : a = c
  · subst hab
    obtain rfl := rf _ _ _ d
    exact SeqAt.EqAt.same (A := A) (s := s) (.ref a) X.prog X.w X.xe _ ⟨rfl, H, I, Ext.rfl'⟩
  · refine GQ.eqBool_refG hab (wpAny_mono (h A pins s σ H (.ref a) (.ref c) _ _ b sb I rfl rfl d) (fun r s' q => ?_) fun _ _ x => x)
    obtain ⟨hr', q⟩ := q
    exact ⟨b, hr', rfl, q⟩
/-- item by item -/
def DTupB (D : Eqb) : Eqb := fun x y H v => ∃ (a c : Addr) (xs ys : List V) (e : Nat → Bool), x = .ref a ∧ y = .ref c ∧ H a = some (.tup xs) ∧ H c = some (.tup ys) ∧
  (∀ (i : Nat) (p q : V), xs[i]? = some p → ys[i]? = some q → D p q H (e i)) ∧ (v = true ↔ xs.length = ys.length ∧ ∀ i, i < xs.length → i < ys.length → e i = true)
theorem monB_tup (hD : MonB D) : MonB (DTupB D) := fun x y H H' b ex d => by
  obtain ⟨a, c, xs, ys, e, hx, hy, h1, h2, p, hv⟩ := d
  exact ⟨a, c, xs, ys, e, hx, hy, ex _ _ h1, ex _ _ h2, fun i p' q' hp hq => hD _ _ _ _ _ ex (p i p' q' hp hq), hv⟩
theorem rcB_tup (hD : MonB D) (h : EqB X n D) : RcB X (n + 1) (DTupB D) := by
  intro A pins s σ H x y u v b sb I rx ry d
  obtain ⟨a, c, xs, ys, e, rfl, rfl, ha, hc, p, hv⟩ := d
  cases rx
  cases ry
  obtain ⟨its, r, te, z⟩ := I.tuple (SqT.of ha)
  obtain ⟨its2, r2, te2, z2⟩ := I.tuple (SqT.of hc)
  have l1 : its.toArray.size = xs.length := by rw [List.size_toArray, ← r.length]
  have l2 : its2.toArray.size = ys.length := by rw [List.size_toArray, ← r2.length]
  refine MGQ.rc_tupB sb.room.units0 e (fun _ s' => LoopI X pins σ H s') te te2 (fun i h1 h2 s' q => ?_) (fun i s' h1 h2 he q => ⟨?_, q⟩) (fun s' he q => ⟨?_, q⟩) ⟨H, I, Ext.rfl'⟩
  · obtain ⟨H1, I1, e1⟩ := q
    have g1 : its[i]? = some its.toArray[i] := by
      have h1' : i < its.length := by simpa using h1
      rw [List.getElem?_eq_getElem h1'] <;> simp
    have g2 : its2[i]? = some its2.toArray[i] := by
      have h2' : i < its2.length := by simpa using h2
      rw [List.getElem?_eq_getElem h2'] <;> simp
    have k1 : i < xs.length := by omega
    have k2 : i < ys.length := by omega
    obtain ⟨u, hu, ru⟩ := r.get (List.getElem?_eq_getElem k1)
    obtain ⟨v, hv', rv⟩ := r2.get (List.getElem?_eq_getElem k2)
    rw [g1] at hu
    rw [g2] at hv'
    rw [Option.some.inj hu, Option.some.inj hv']
    refine wpAny_mono (h A.in1 pins s' σ H1 _ _ u v (e i) sb.in1 I1 ru rv (hD _ _ _ _ _ e1 (p i _ _ (List.getElem?_eq_getElem k1) (List.getElem?_eq_getElem k2)))) (fun r s2 q => ?_) fun _ _ x => x
    obtain ⟨hr, H2, I2, e2⟩ := q
    exact ⟨hr, H2, I2, e1.trans e2⟩
  · cases b with
    | false => rfl
    | true =>
      have := (hv.mp rfl).2 i (by omega) (by omega)
      rw [he] at this
      cases this
  · rw [l1, l2]
    cases b with
    | true => rw [(hv.mp rfl).1]; simp
    | false =>
      by_cases hl : xs.length = ys.length
      · exact absurd (hv.mpr ⟨hl, fun i h1 h2 => he i (by omega) (by omega)⟩) (by decide)
      · simp [hl]
theorem reflB_tup (hD : ReflB D) : ReflB (DTupB D) := fun x H b d => by
  obtain ⟨a, c, xs, ys, e, rfl, hy, h1, h2, p, hv⟩ := d
  obtain rfl := V.ref.inj hy
  have := h1.symm.trans h2
  cases this
  refine hv.mpr ⟨rfl, fun i hi _ => ?_⟩
  have g := List.getElem?_eq_getElem hi
  exact hD _ _ _ (p i _ _ g g)
theorem tupB_ref : ∀ x y H b, DTupB D x y H b → ∃ a c, x = .ref a ∧ y = .ref c := fun x y H b d => by
  obtain ⟨a, c, xs, ys, e, hx, hy, _⟩ := d
  exact ⟨a, c, hx, hy⟩
/-- what an own == promises of two instances -/
def DInsB (C : Addr) (R : Addr → Addr → Hp → Bool → Prop) : Eqb := fun x y H v => ∃ a b dx dy fs gs, x = .ref a ∧ y = .ref b ∧ H a = some (.ins C dx fs) ∧ H b = some (.ins C dy gs) ∧ R a b H v
def spEqB (R : Addr → Addr → Hp → Bool → Prop) : Sp := fun vs H Q _ => ∃ a b v, vs = [.ref a, .ref b] ∧ R a b H v ∧ ∀ H', Ext H H' → Q (.bl v) H'
theorem rcB_ins {CX : CXT} {C f : Addr} {fd : FuncData} {ps : List Str} {R : Addr → Addr → Hp → Bool → Prop} {E : XK} (F : FnOk X.prog X.w X.K X.mg X.base CX n f fd ps (spEqB R))
    (hs : PySem.W.findIn X.K (.ref C) "__eq__" = some (some (.ref f))) (hf : PySem.W.isFn X.K (.ref f) = true) (hb : Binds X.K fd ps []) (hx : Passes CX X E) : RcB X n (DInsB C R) := by
  intro A pins s σ H x y u v bb sb I rx ry d
  obtain ⟨a, b, dx, dy, fs, gs, rfl, rfl, ha, hb', hr⟩ := d
  cases rx
  cases ry
  obtain ⟨mA, J, _⟩ := ins_get I.hok ha
  obtain ⟨mB, J', _⟩ := ins_get I.hok hb'
  obtain ⟨od, J, _⟩ := J.look
  obtain ⟨od', J', _⟩ := J'.look
  obtain ⟨m, hF⟩ := I.fr
  refine PySem.W.cmp_K (op := .Eq) (tb := .ref C) sb.room.units0 hF I.ok.mod.kin J J'.type (by simp [PySem.W.notFirst]) hs hf ?_
  have hsp : spEqB R [.ref a, .ref b] H (fun v H' => v = .bl bb ∧ Ext H H') E := ⟨a, b, bb, rfl, hr, fun H' e => ⟨rfl, e⟩⟩
  have e0 : Env0 X.prog X.w X.K X.mg X.base A X.stack s H := by
    have e := I.env0
    exact ⟨by rw [sb.fr]; exact e.frames, e.mod, e.bs, e.bsz, e.funs, e.frf, e.hok, e.bare⟩
  have hl := F.len _ _ _ _ hsp
  have r2 : Vals [V.ref a, V.ref b] [Value.ref a, Value.ref b] := .cons rfl (.cons rfl .nil)
  refine wpAny_call (codeAny_mono (F.run A X.stack s H ⟨[.ref a, .ref b], []⟩ [.ref a, .ref b] [.ref a, .ref b] _ E sb.room e0 (by
    have := hb s [.ref a, .ref b] I.kIn (by simpa using hl)
    simpa using this) r2 hsp) fun r s' hq => ?_)
  cases r with
  | error e => exact hx pins σ H s e s' I hq
  | ok fl =>
    cases fl with
    | ret w =>
      obtain ⟨z, H', I', rz, ez, ex⟩ := I.after hq
      subst ez
      cases rz
      exact ⟨rfl, H', I', ex⟩
    | next => exact False.elim hq
    | brk => exact False.elim hq
    | cont => exact False.elim hq
theorem insB_ref {C : Addr} {R : Addr → Addr → Hp → Bool → Prop} : ∀ x y H b, DInsB C R x y H b → ∃ a c, x = .ref a ∧ y = .ref c := fun x y H b d => by
  obtain ⟨a, c, dx, dy, fs, gs, hx, hy, _⟩ := d
  exact ⟨a, c, hx, hy⟩
theorem monB_ins {C : Addr} {R : Addr → Addr → Hp → Bool → Prop} (h : ∀ a b H H' v, Ext H H' → R a b H v → R a b H' v) : MonB (DInsB C R) := fun x y H H' b ex d => by
  obtain ⟨a, c, dx, dy, fs, gs, hx, hy, h1, h2, r⟩ := d
  exact ⟨a, c, dx, dy, fs, gs, hx, hy, ex _ _ h1, ex _ _ h2, h _ _ _ _ _ ex r⟩
/-- x == y as an expression -/
def rEqB (D : Eqb) : R2 := fun x y H Q => ∃ b, D x y H b ∧ ∀ H', Ext H H' → Q (.bl b) H'
theorem op_eqB (h : RcB X n D) (hr : Room n X.A) : OpR X (compareOp .Eq) (rEqB D) := by
  intro pins s σ H x y v u Q I rx ry hq
  obtain ⟨b, d, q⟩ := hq
  show wpAny (model X.prog X.w) X.A (richCompare .Eq v u) (EP X pins σ Q) X.xe s
  refine wpAny_mono (h X.A pins s σ H x y v u b ⟨hr, rfl⟩ I rx ry d) (fun r s' z => ?_) fun _ _ x => x
  obtain ⟨hr', H', I', e⟩ := z
  subst hr'
  exact ⟨.bl b, H', I', rfl, q H' e⟩
end
end MG

/-! x[i] by the class's own __getitem__; the truth of an instance that says nothing of it -/
namespace MG
open PySem PySem.Spec PyProof.Rows L2
structure IxF (P : Program) (w : World) (K : PySem.W.Frag) (mg : Str → Option Value) (base : Heap) (k : Nat) (C : Addr) (sp : Sp) : Prop where
  ex : ∃ (f : Addr) (fd : FuncData) (ps : List Str), PySem.W.findIn K (.ref C) "__getitem__" = some (some (.ref f)) ∧ PySem.W.fnIn K f = true ∧ PySem.W.isFn K (.ref f) = true ∧ FnOk P w K mg base CX0 k f fd ps sp ∧ Binds K fd ps []
def tIxO (C : Addr) (sp : Sp) (ta tb : TE) : TE := fun σ H Q => ta σ H fun x H1 => tb σ H1 fun y H2 => ∃ a dx fs, x = .ref a ∧ H2 a = some (.ins C dx fs) ∧ sp [x, y] H2 Q E0
section
variable {X : Cx} {k j : Nat} {C : Addr} {sp : Sp} {a b : Expr} {ta tb : TE} {pos : Pos}
theorem pe_ixO (o : IxF X.prog X.w X.K X.mg X.base k C sp) (hr : Room j X.A) (hk : k + 1 ≤ j) (ha : PE X a ta) (hb : PE X b tb)
    (hsl : ∀ v u, subscripted b true v u = runValue (.builtin "lifetime.subscript" ⟨[v, u], []⟩) := by intro _ _; rfl) : PE X (.Subscript a b pos) (tIxO C sp ta tb) := by
  obtain ⟨f, fd, ps, hs, hf, hfn, F, bd⟩ := o.ex
  refine ⟨fun pins s σ H Q I h => ?_⟩
  refine Subscript_ (binT ha hb I (R := fun x y H2 => ∃ a dx fs, x = .ref a ∧ H2 a = some (.ins C dx fs) ∧ sp [x, y] H2 Q E0) h fun v u s2 x y H2 I2 rx ry q => ?_)
  obtain ⟨a, dx, fs, rfl, ea, hsp⟩ := q
  cases rx
  obtain ⟨mA, J, _⟩ := ins_get I2.hok ea
  obtain ⟨od, J, _⟩ := J.look
  obtain ⟨m, hF⟩ := I2.fr
  refine PySem.W.sub_K hF I2.ok.mod.kin J hs hf hfn ?_ (hsl _ _)
  have hl := F.len _ _ _ _ hsp
  have r2 : Vals [V.ref a, y] [Value.ref a, u] := .cons rfl (.cons ry .nil)
  refine wpAny_call (codeAny_mono (F.run X.A.in1 X.stack s2 H2 ⟨[.ref a, u], []⟩ [.ref a, u] [.ref a, y] Q E0 ((hr.mono hk).in1) I2.env0.in1 (by
    have := bd s2 [.ref a, u] I2.kIn (by simpa using hl)
    simpa using this) r2 hsp) fun r s' hq => ?_)
  match r, hq with
  | .error e, hq => exact pass0 pins σ H2 s2 e s' I2 hq
  | .ok (.ret z), hq => exact I2.after hq
  | .ok .next, hq => exact False.elim hq
  | .ok .brk, hq => exact False.elim hq
  | .ok .cont, hq => exact False.elim hq
end
open Builtin in
theorem bool_plain {prog : Program} {w : World} {A : Around} {E : Value → Shared → Prop} {s : Shared} {K : PySem.W.Frag} {x C : Addr} {ox : Obj} {od : Option Obj} {m : Str → Option Value} {L : Addr} {h₀ : Heap} {Q : Value → Shared → Prop} (F : Fr h₀ L s.heap m) (X₀ : K.In h₀) (I : PySem.W.InstAt s.heap x ox C od)
    (hs : PySem.W.findIn K (.ref C) "__bool__" = some none) (hn : PySem.W.findIn K (.ref C) "__len__" = some none) (h : Q (.bool true) s) :
    wpAny (model prog w) A (call (.type "bool") [.ref x]) Q E s := by
  refine callType_codes (T := "bool") (Bi := Builtin.«object.__init__») (Q₁ := fun r s₁ => ∃ b, r = .bool b ∧ Q r s₁) PySem.F.called_bool (PySem.F.typeCall_bool_1 _) PySem.F.entry_object_init ?_ ?_
  · refine codeAny_of_tree ?_
    show wpAny _ A.in1.in1 (do checkBuiltinCall "bool.__new__" ⟨[.type "bool", .ref x], []⟩; again (.builtin "bool.__new__" ⟨[.type "bool", .ref x], []⟩)) _ _ s
    refine wpAny_bind (wpAny_of_eq (PySem.F.newCall_bool_1 _) (wpAny_pure ⟨plainId_quiet (by decide +kernel) _, codeAny_builtin PySem.F.entry_bool_new ?_⟩))
    rw [Around.under_plainId (by decide +kernel) _]
    have f1 := PySem.F.conv_sub_bool
    have tr : ∀ {R : Bool → Shared → Prop}, R true s → wpAny (model prog w) A.in1.in1 (truthy (.ref x)) R E s := fun {R} hr => PySem.W.truthy_K0 F X₀ I hs hn hr
    unfold Builtin.«bool.__new__»
    repeat (any_goals (first | assumption | (refine wpAny_bind (m := truthy (.ref x)) (tr ?_)) | wp_step))
    all_goals first | exact wpAny_pure ⟨_, rfl, h⟩ | exact ⟨_, rfl, h⟩ | skip
  · rintro obj s₁ ⟨b, rfl, hq⟩
    exact ⟨PySem.typeIs_bool _ _, PySem.F.args_object_init_2 _ _, object_init_meets PySem.F.called_bool.init.lookup PySem.F.called_bool.made (by decide) prog w A.in1 _ s₁ ⟨PySem.typeIs_bool _ _, rfl, hq⟩⟩
theorem call_boolP {X : Cx} {C : Addr} (hs : PySem.W.findIn X.K (.ref C) "__bool__" = some none) (hn : PySem.W.findIn X.K (.ref C) "__len__" = some none) : CallR X (.type "bool") (fun xs H Q => ∃ a dx fs, xs = [.ref a] ∧ H a = some (.ins C dx fs) ∧ Q (.bl true) H) := by
  intro pins s σ H xs us Q I r h
  obtain ⟨a, dx, fs, rfl, ha, q⟩ := h
  obtain ⟨u, rfl, ru⟩ := vals1 r
  cases ru
  obtain ⟨mA, J, _⟩ := ins_get I.hok ha
  obtain ⟨od, J, _⟩ := J.look
  obtain ⟨m, hF⟩ := I.fr
  exact bool_plain hF I.ok.mod.kin J hs hn ⟨.bl true, H, I, rfl, q⟩
end MG

/-! comprehensions with two clauses, told item by item; t * 1; truths of a list -/
namespace L2
open PySem PySem.Spec PyProof.Rows
theorem tuple_mul1 (l : Addr) (items : Array Value) (n : Nat) (dd : Option Addr) (sl : Array (Option Value)) (u : Tok) :
    Meets (Builtin.«tuple.__mul__» ⟨[.ref l, .int 1 u], []⟩) (fun _ R s => s.heap.get? l = some { cls := .type "tuple", dict := dd, data := .seq items n, slots := sl } ∧
      R (.ok (.ret (Value.ref l))) s) :=
  .of_wp fun prog w A R s h => by
    obtain ⟨hp, g, d, tk, os⟩ := s
    obtain ⟨hl, h⟩ := h
    have f1 := AutoSeq1.idx_int
    wp_walk using wpAny_loadPart' hl
    repeat (first
      | (refine wpAny_ite_true (decide_eq_true (by simp)) ?_; wp_walk using wpAny_loadPart' hl)
      | (refine wpAny_ite_false (decide_eq_false (by decide)) ?_; wp_walk using wpAny_loadPart' hl))
    exact ⟨_, rfl, h⟩
end L2
namespace MG
open PySem PySem.Spec PyProof.Rows L2
section
variable {X : Cx} {K : PySem.W.Frag}
def rRepA (K : PySem.W.Frag) : R2 := fun x y H Q => ∃ l k xs, x = .ref l ∧ y = .int k ∧ SqT K H l xs ∧ xs ≠ [] ∧ 1 ≤ k ∧ k ≤ 1000 ∧ xs.length ≤ 1000 ∧ (k = 1 → Q (.ref l) H) ∧ (k ≠ 1 → ∀ p, H p = none → Q (.ref p) (upd H p (.tup (List.replicate k.toNat xs).flatten)))
theorem op_repTA (hK : X.K = K := by rfl) : OpR X (binaryOp .Mult) (rRepA K) := by
  subst hK
  intro pins s σ H x y v u Q I rx ry h
  obtain ⟨l, k, xs, rfl, rfl, hT, hne, h1, h2, hz, q1, q2⟩ := h
  by_cases hk : k = 1
  · subst hk
    cases rx
    obtain ⟨t, rfl⟩ := ry
    obtain ⟨its, r, ⟨⟨cls, dd, data, sl⟩, ho, hc, n, hd⟩, hs⟩ := I.tuple hT
    simp only at hc hd
    subst hc hd
    refine wpAny_binaryOp_repeat_ref (T := "tuple") (U := "int") (by decide) ⟨_, ho, rfl⟩ (fun s' => typeIs_int s' 1 t) noFill_tuple_mul F.fills_int_mul F.slot_int_rmul repeat_tuple F.slot_int_index.lookup
      (call_meets F.slot_int_rmul (typeIs_int s 1 t) F.entry_int_rmul (F.args_int_rmul_2 _ _) (int_rmul_tuple 1 t l its.toArray n dd sl)
        ⟨ho, rfl, ⟨_, ho, rfl⟩, call_meets F.slot_tuple_mul ⟨_, ho, rfl⟩ F.entry_tuple_mul (F.args_tuple_mul_2 _ _) (tuple_mul1 l its.toArray n dd sl t) ⟨ho, ?_⟩⟩)
    exact ⟨.ref l, H, I, rfl, q1 rfl⟩
  · exact op_repT pins s σ H _ _ v u Q I rx ry ⟨l, k, xs, rfl, rfl, hT, hne, by omega, h2, hz, q2 hk⟩
theorem op_catAK (hK : X.K = K := by rfl) : OpR X (binaryOp .Add) (rCatA K) := hK ▸ op_catA
theorem sl_tupAK (hK : X.K = K := by rfl) : SlR X (rSlA K) := hK ▸ sl_tupA
theorem call_list_ofK (hK : X.K = K := by rfl) : CallR X (.type "list") (fun xs H Q => ∃ p ys, xs = [.ref p] ∧ (SqL K H p ys ∨ SqT K H p ys) ∧ ∀ l, H l = none → Q (.ref l) (upd H l (.lst ys))) := hK ▸ call_list_of
end
/-- two generators, tuples within a tuple, rows of one length: each item by its places -/
theorem lc2_tupF {K : PySem.W.Frag} {te : TE} {i1 j1 : Nat} {σ : L2.St} {H1 : Hp} {D a : Addr} {Q : VK} {rs : List V} (c : Nat) (f : Nat → Nat → V) (ht : H1 a = some (.tup rs)) (hD : H1 D = none) (nij : j1 ≠ i1) (hi1 : i1 < σ.length) (hj1 : j1 < σ.length) (hn : ∀ x ∈ rs, ∃ p xs, x = .ref p ∧ H1 p = some (.tup xs) ∧ xs.length = c) (hc : c ≤ 1000) (hr : rs.length ≤ 1000)
    (hs : ∀ (i j : Nat) (p : Addr) (xs : List V) (y : V) (H : Hp), rs[i]? = some (.ref p) → H1 p = some (.tup xs) → xs[j]? = some y → Same H1 H → te ((((wipe σ [i1, j1]).set i1 (some (.ref p))).set j1 none).set j1 (some y)) H fun v H4 => Same H H4 ∧ v = f i j)
    (k : ∀ H, Same H1 H → H D = some (.lst ((List.range rs.length).flatMap fun i => (List.range c).map (f i))) → Q (.ref D) H) :
    Lc2 (Itt K a) (gName i1) tYes (iTup K (fun σ H Q => ∃ v, σ[i1]? = some (some v) ∧ Q v H)) (gName j1) tYes (tCut te) [i1, j1] [j1] σ H1 Q D := by
  have nD : ∀ {H : Hp} {ys : List V}, Same H1 H → Same H1 (upd H D (.lst ys)) := fun {H ys} s b o e => by
    rw [upd_ne (ne_of_none e hD)]
    exact s _ _ e
  have fl : ∀ i, ((List.range i).flatMap fun i => (List.range c).map (f i)).length = i * c := fun i => by
    induction i with
    | zero => simp
    | succ i ih => rw [List.range_succ, List.flatMap_append, List.length_append, ih, Nat.succ_mul]; simp
  refine ⟨fun i m H => m = rs.length - i ∧ i ≤ rs.length ∧ Same H1 H ∧ H D = some (.lst ((List.range i).flatMap fun i => (List.range c).map (f i))), ⟨rs.length, by simp, Nat.zero_le _, nD (Same.refl H1), upd_same⟩, ?_⟩
  rintro i m H ⟨rfl, hi, s1, e1⟩
  by_cases hlt : i < rs.length
  · refine .inr ⟨(walk_tup (K := K) (a := a) (xs := rs)).goes i H hlt (SqT.of (s1 _ _ ht)), fun H' => Same H1 H' ∧ H' D = some (.lst ((List.range (i + 1)).flatMap fun i => (List.range c).map (f i))), fun H' q => ⟨rs.length - (i + 1), by omega, rfl, hlt, q.1, q.2⟩, fun x H' y => ?_⟩
    obtain ⟨rfl, hx⟩ := (walk_tup (K := K) (a := a) (xs := rs)).yields i H x H' hlt (SqT.of (s1 _ _ ht)) y
    obtain ⟨p, xs, rfl, hp, hxl⟩ := hn x (List.mem_of_getElem? hx)
    refine ⟨?_, ?_⟩
    · show ((((σ.set j1 none).set i1 none).set i1 (some (V.ref p))).set j1 none).set i1 none = (σ.set j1 none).set i1 none
      rw [List.set_set, List.set_comm none none nij, List.set_set, List.set_comm none none nij, List.set_set]
    · unfold tYes
      dsimp only
      rw [if_pos rfl]
      have len1 : i1 < (wipe σ [i1, j1]).length := by rw [wipe_length]; exact hi1
      refine ⟨.ref p, by rw [List.getElem?_set_self len1], p, rfl, ⟨xs, SqT.of (s1 _ _ hp)⟩, ?_⟩
      refine ⟨fun j k H => k = xs.length - j ∧ j ≤ xs.length ∧ Same H1 H ∧ H D = some (.lst (((List.range i).flatMap fun i => (List.range c).map (f i)) ++ (List.range j).map (f i))), ⟨xs.length, by simp, Nat.zero_le _, s1, by simpa using e1⟩, ?_⟩
      rintro j k H ⟨rfl, hj, s2, e2⟩
      by_cases hlj : j < xs.length
      · refine .inr ⟨(walk_tup (K := K) (a := p) (xs := xs)).goes j H hlj (SqT.of (s2 _ _ hp)), fun H' => Same H1 H' ∧ H' D = some (.lst (((List.range i).flatMap fun i => (List.range c).map (f i)) ++ (List.range (j + 1)).map (f i))), fun H' q => ⟨xs.length - (j + 1), by omega, rfl, hlj, q.1, q.2⟩, fun x H' y => ?_⟩
        obtain ⟨rfl, hy⟩ := (walk_tup (K := K) (a := p) (xs := xs)).yields j H x H' hlj (SqT.of (s2 _ _ hp)) y
        refine ⟨wipe_one, ?_⟩
        rw [if_pos rfl]
        refine ⟨_, hs i j p xs x H' hx hp hy s2, ?_⟩
        rintro v H4 ⟨s4, rfl⟩
        refine ⟨_, s4 _ _ e2, Nat.lt_of_le_of_lt (m := 1000 * 1000 + 1000) ?_ (by decide), nD (s2.trans s4), ?_⟩
        · rw [List.length_append, fl, List.length_map, List.length_range]
          have : i * c ≤ 1000 * 1000 := Nat.mul_le_mul (by omega) hc
          omega
        · rw [upd_same, List.range_succ, List.map_append, ← List.append_assoc]
          rfl
      · have e : j = xs.length := by omega
        subst e
        refine .inl ⟨(walk_tup (K := K) (a := p) (xs := xs)).stops H (SqT.of (s2 _ _ hp)), s2, ?_⟩
        rw [e2, hxl, List.range_succ, List.flatMap_append]
        simp
  · have e : i = rs.length := by omega
    subst e
    exact .inl ⟨(walk_tup (K := K) (a := a) (xs := rs)).stops H (SqT.of (s1 _ _ ht)), k H s1 e1⟩
theorem bls_map {α : Type} {ys : List V} {ss : List α} {g : α → Bool} (hl : ys.length = ss.length) (h : ∀ (i : Nat) (y : V) (o : α), ys[i]? = some y → ss[i]? = some o → y = .bl (g o)) : ys = (ss.map g).map V.bl := by
  refine List.ext_getElem? fun i => ?_
  rw [List.getElem?_map, List.getElem?_map]
  by_cases hi : i < ss.length
  · have e1 := List.getElem?_eq_getElem hi
    have e2 := List.getElem?_eq_getElem (l := ys) (i := i) (by omega)
    rw [e1, e2, h i _ _ e2 e1]
    rfl
  · rw [List.getElem?_eq_none (by omega), List.getElem?_eq_none (by omega)]
    rfl
end MG

/-! classmethods called by position, where nothing is raised; t * n; plain texts shown -/
namespace MG
open PySem PySem.Spec PyProof.Rows L2 ClX
section
variable {X : Cx} {k j : Nat} {C : Addr} {m : Str} {sp : Sp} {o e : Expr} {es : List Expr} {pos apos : Pos} {ta : TE} {t : TA} {pl : Sem Bool}
structure CmtF (P : Program) (w : World) (K : PySem.W.Frag) (mg : Str → Option Value) (base : Heap) (k : Nat) (C : Addr) (m : Str) (sp : Sp) : Prop where
  ex : ∃ (p g : Addr) (mc : Value) (fd : FuncData) (ps : List Str), CRead K C mc ∧ CMet K C mc m p g ∧ FnOk P w K mg base CX0 k g fd ps sp ∧ Binds K fd ps []
theorem pe_cmf (c : CmtF X.prog X.w X.K X.mg X.base k C m sp) (hr : Room j X.A) (hk : k ≤ j) (he : PE X o ta) (ha : PA X (e :: es) t)
    (hst : starEach (e :: es) X.env = (false, eval e X.env) :: starEach es X.env := by rfl) (hpl : (backTo pos (starEach es X.env)).any (·.1) = false := by rfl)
    (ht : eval (.Call (.Attribute o m apos) (e :: es) [] pos) X.env = (do
      let ov ← eval o X.env
      standAt apos.atName
      let (f, first) ← holding [ov] (getMethod ov m pl)
      callWith pos f first (backTo pos (starEach (e :: es) X.env)) (backToKw pos (keywordEach [] X.env))) := by rfl) :
    PE X (.Call (.Attribute o m apos) (e :: es) [] pos) (tCMeth C sp E0 ta t) := by
  obtain ⟨p, g, mc, fd, ps, r, cm, F, b⟩ := c.ex
  refine ⟨fun pins s σ H Q I h => ?_⟩
  refine PySem.W.methodCall_KW (pl := pl) (thn (he.run pins s σ H _ I h) fun u s1 ⟨x, H1, I1, rx, ex, q⟩ => ?_) ht
  subst ex
  obtain rfl : u = Value.ref C := rx
  refine getmethcm_ok I1 r cm fun s2 I2 => ?_
  refine callwith_cm I2 (base_none I1 (Nat.le_refl _)) cm.fi (thn (ha.run pos _ s2 σ H1 _ I2 q) fun us s3 ⟨vs, H2, I3, rv, q2⟩ => ⟨⟨pin_at I3, I3.kIn⟩, ?_⟩) hst hpl
  have q3 : sp (.ref C :: vs ++ []) H2 Q E0 := by rw [List.append_nil]; exact q2
  exact after_cm I3 (fun pins H s e s' I hq => hq.elim) ((F.raw b .nil) X.A X.stack s3 H2 (.ref C :: us) (.ref C :: vs) Q E0 (hr.mono hk) I3.env0 (.cons rfl rv) q3)
end
theorem op_eqDK {X : Cx} {K : PySem.W.Frag} (hu : X.A.units + 64 < cLine) (hK : X.K = K := by rfl) : OpR X (compareOp .Eq) (rEqD K) := hK ▸ op_eqD hu
theorem op_neDK {X : Cx} {K : PySem.W.Frag} (hu : X.A.units + 64 < cLine) (hK : X.K = K := by rfl) : OpR X (compareOp .NotEq) (rNeD K) := hK ▸ op_neD hu
theorem rep_all {K : PySem.W.Frag} {G : Hp} {l : Addr} {v : V} {k : Nat} {R : VK} (hl : G l = some (.tup [v])) (k0 : 0 < k) (k1 : k ≤ 1000) (h : ∀ p G', Same G G' → G' p = some (.tup (List.replicate k v)) → R (.ref p) G') : rRepA K (.ref l) (.int (k : Int)) G R := by
  refine ⟨l, k, [v], rfl, rfl, SqT.of hl, by simp, by omega, by omega, by simp, fun e => ?_, fun e p hp => ?_⟩
  · have e1 : k = 1 := by omega
    subst e1
    exact h l G (Same.refl G) hl
  · refine h p _ (MG.Same.new (Same.refl G) hp) ?_
    rw [upd_same]
    congr 2
    simp
theorem Okd.repG {K : PySem.W.Frag} {H : Hp} {x : V} {d : PyData} {n k : Nat} {Q : VK} (o : Okd d n k) (h : Dp K H x d) (hk : k ≤ 60) (hn : n ≤ sizeLine) (q : ∀ z, d.shown = z → Q (.str z) H) : rRepr K [x] H Q :=
  ⟨x, d, rfl, h, o.sh, o.nd, Nat.le_trans o.dp hk, Nat.le_trans o.ln hn, q _ rfl⟩
/-! ### plain texts -/
def Pl (z : Str) : Prop := ∀ c ∈ z.cps.toList, (32 ≤ c ∧ c ≤ 126) ∧ c ≠ 39 ∧ c ≠ 92
theorem pl_ch : ∀ c, c < 127 → (decide (32 ≤ c) && decide (c ≠ 39) && decide (c ≠ 92)) = true → PySem.Builtin.Str.reprChar 39 c = [c] := by decide +kernel
theorem pl_fold : ∀ (l : List Nat) (acc : Array Nat), (∀ c ∈ l, (32 ≤ c ∧ c ≤ 126) ∧ c ≠ 39 ∧ c ≠ 92) → l.foldl (fun out c => out ++ (PySem.Builtin.Str.reprChar 39 c).toArray) acc = acc ++ l.toArray
  | [], acc, _ => by simp
  | c :: r, acc, h => by
    have hc := h c (by simp)
    have e := pl_ch c (by omega) (by simp only [Bool.and_eq_true, decide_eq_true_eq]; omega)
    rw [List.foldl_cons, e, pl_fold r _ fun d hd => h d (List.mem_cons_of_mem _ hd)]
    simp
theorem repr_pl {z : Str} (h : Pl z) : reprText z = ("'" : Str) ++ z ++ ("'" : Str) := by
  have n39 : z.cps.contains 39 = false := by
    cases e : z.cps.contains 39 with
    | false => rfl
    | true =>
      exfalso
      have m : 39 ∈ z.cps := by simpa using e
      exact (h 39 (Array.mem_toList_iff.mpr m)).2.1 rfl
  unfold reprText
  rw [show reprQuote z = 39 by unfold reprQuote; rw [n39]; rfl, ← Array.foldl_toList, pl_fold _ _ h]
  have e1 : ("'" : Str).cps = #[39] := by decide +kernel
  have e2 : (("'" : Str) ++ z ++ ("'" : Str)).cps = #[39] ++ z.cps ++ #[39] := by
    show ("'" : Str).cps ++ z.cps ++ ("'" : Str).cps = _
    rw [e1]
  have e3 : ∀ a b : Str, a.cps = b.cps → a = b := fun a b h => by cases a; cases b; cases h; rfl
  refine e3 _ _ ?_
  rw [e2]
  simp
theorem pl_append {x y : Str} (hx : Pl x) (hy : Pl y) : Pl (x ++ y) := fun c hc => by
  have e : (x ++ y).cps = x.cps ++ y.cps := rfl
  rw [e, Array.toList_append] at hc
  rcases List.mem_append.mp hc with h | h
  · exact hx c h
  · exact hy c h
theorem pl_of (s : String) (h : (s.toList.all fun c => decide ((32 ≤ c.toNat ∧ c.toNat ≤ 126) ∧ c.toNat ≠ 39 ∧ c.toNat ≠ 92)) = true) : Pl (Str.ofString s) := by
  intro c hc
  rw [signs_ofString] at hc
  obtain ⟨d, hd, rfl⟩ := List.mem_map.mp hc
  exact of_decide_eq_true (List.all_eq_true.mp h d hd)
theorem pl_int (i : Int) : Pl (Str.ofString (toString i)) := by
  refine pl_of _ (List.all_eq_true.mpr fun c hc => ?_)
  rcases int_sign i c hc with h | h
  · have := digit_range h
    exact decide_eq_true ⟨⟨by omega, by omega⟩, by omega, by omega⟩
  · rw [h]
    decide
theorem pl_join {y : Str} (ay : Pl y) : ∀ {ps : List Str}, (∀ p ∈ ps, Pl p) → Pl (Str.join y ps)
  | [], _ => fun c hc => by cases hc
  | [p], h => h p (by simp)
  | p :: q :: r, h => by
    show Pl (p ++ y ++ Str.join y (q :: r))
    exact pl_append (pl_append (h p (by simp)) ay) (pl_join ay fun x hx => h x (by simp at hx ⊢; rcases hx with h | h <;> simp [h]))
end MG

/-! several named except clauses; lambdas whose errors have no context, handed to a def -/
namespace MG
open PySem PySem.Spec PyProof.Rows L2 LamX
/-! ### try: .. except x1 as n: .. except x2 as n: .. -/
def wAll (K : PySem.W.Frag) (i len : Nat) (Wz : WX) (D : Ends) : List (Value × (Addr → Value → Option Addr → TS)) → WX
  | [] => Wz
  | p :: r => fun cls d τ G => ∃ b, PySem.W.exmOne K cls p.1 = some b ∧
      (b = true → ∀ a, G a = none → τ.length = len → p.2 a cls d { nx := fun τ' G' => D.nx (τ'.set i none) G', rt := D.rt, bk := fun τ' G' => D.bk (τ'.set i none) G', ct := fun τ' G' => D.ct (τ'.set i none) G' } (τ.set i (some (.ref a))) G) ∧ (b = false → wAll K i len Wz D r cls d τ G)
inductive ClsAs (X : Cx) (n : Str) : List ExceptHandler → List (Value × (Addr → Value → Option Addr → TS)) → Prop
  | nil : ClsAs X n [] []
  | cons {x : Str} {c : Value} {ts : Addr → Value → Option Addr → TS} {b1 : Stmt} {su : List Stmt} {p1 p2 : Pos} {hs : List ExceptHandler} {l : List (Value × (Addr → Value → Option Addr → TS))} (hc : Names X x c)
      (hsu : ∀ (a : Addr) (oe : Obj) (cls : Value) (d : Option Addr) (pn : List (Addr × Obj)), L2N.Zn cls d oe → (∃ vs, oe.data = .fields vs) → PSs (X.suite a ((a, oe) :: pn)) (b1 :: su) (ts a cls d)) (r : ClsAs X n hs l) :
      ClsAs X n (.ExceptHandler (some (.Name x p1)) (some n) (b1 :: su) p2 :: hs) ((c, ts) :: l)
section
variable {X : Cx} {n : Str} {i : Nat} {body : List Stmt} {h1 : ExceptHandler} {hs : List ExceptHandler} {l : List (Value × (Addr → Value → Option Addr → TS))} {pos : Pos} {tb : WX → TS} {Wz : WX}
theorem ps_many_as (hst : X.stack = X.env :: X.outer) (hfr : X.env.frame = some X.env.locals) (hN : X.N.Nodup) (hi : X.N[i]? = some n) (hln : X.env.kindOf n = some .local) (tk : L2N.Takes X Wz)
    (hb : ∀ (W : WX) (pn : List (Addr × Obj)) (xe : Value → Shared → Prop), L2N.Takes (X.tr pn xe) W → PassesOwn (model X.prog X.w) X.A X.env xe → PSs (X.tr pn xe) body (tb W))
    (hh : ClsAs X n (h1 :: hs) l) : PS X (.Try body (h1 :: hs) [] [] pos) (fun D σ H => tb (wAll X.K i X.N.length Wz D l) D σ H) := by
  refine ⟨fun pins s σ H D I h => wpAny_Try_except ?_⟩
  have ok := I.ok
  have fr1 : X.A.frames = some (X.env :: X.outer) := hst ▸ ok.frames
  let xe1 : Value → Shared → Prop := fun e u1 => wpAny (model X.prog X.w) X.A (noteFrame e X.env) (fun _ u2 => wpAny (model X.prog X.w) X.A (setFlight e none) (fun _ u3 => wpAny (model X.prog X.w) X.A (handleBy e X.env (h1 :: hs)) (SP X pins D) X.xe u3) X.xe u2) X.xe u1
  refine wpAny_mono ((hb (wAll X.K i X.N.length Wz D l) (X.pn ++ pins) xe1 (fun u s' xx => ?_) PassesOwn.looking).run [] s σ H D (I.toTry _) h) (fun f t1 ht => ?_) (fun _ _ z => z)
  · obtain ⟨a, B, sI, pins1, σ1, G, cls, d, rfl, J1, nb, up, sky, na, os, ag, wsh⟩ := xx
    have J : Inv X pins σ1 G sI := J1.ofTry ok
    have sky1 : Sky B (X.env :: X.outer) a (L2N.Zn cls d) X.env.locals s'.heap := hst ▸ sky
    show wpAny (model X.prog X.w) X.A (noteFrame (.ref a) X.env) _ _ _
    refine L2N.Sky.land L2N.Zn.steady fr1 hfr sky1 fun k1 fly1 u1 => ?_
    have J2 : Inv X pins σ1 G { s' with heap := k1 } := J.landed nb fly1.1 (up.trans u1) os ag
    obtain ⟨oe1, vs1, he1, hz1, hd1⟩ := fly1.there
    have nfr : a ∉ frs (X.env :: X.outer) := fun hm => by
      obtain ⟨_, o1, e1, z1⟩ := fly1.2.2.1.mem hm
      rw [he1] at e1
      cases e1
      exact z1 _ hd1
    have nL : a ≠ X.env.locals := fun z => nfr (List.mem_filterMap.mpr ⟨X.env, by simp, by rw [hfr, z]⟩)
    have nF : a ∉ X.fs := fun hm => (List.mem_filterMap.mp hm).elim fun e ⟨h2, h3⟩ => nfr (List.mem_filterMap.mpr ⟨e, by simp [h2], h3⟩)
    have S1 := J2.suite he1 hd1 na nL nF
    have lk : PySem.W.Looks (model X.prog X.w) k1 (typeOf (.ref a)) cls := fun A Q E s k q => wpAny_typeOf_ref (k _ _ he1) (hz1.1.symm ▸ q)
    have go : ∀ {hs2 : List ExceptHandler} {l2 : List (Value × (Addr → Value → Option Addr → TS))}, ClsAs X n hs2 l2 → wAll X.K i X.N.length Wz D l2 cls d σ1 G → wpAny (model X.prog X.w) X.A (handleBy (.ref a) X.env hs2) (SP X pins D) X.xe { s' with heap := k1 } := by
      intro hs2 l2 hk
      induction hk with
      | nil =>
        intro wz
        refine wpAny_handleBy_nil ?_
        obtain ⟨_, _, _, oe2, vs2, T2, _, _, he2, hz2, hd2, hv2, _⟩ := id fly1
        unfold PySem.passOn
        refine wpAny_bind (wpAny_field he2 hd2 hv2 ?_)
        rw [if_neg (show ¬ ((Value.ref T2 == Value.none) = true) by simp)]
        have fin : wpAny (model X.prog X.w) X.A (setFlight (.ref a) X.env.frame) (fun _ t4 => wpAny (model X.prog X.w) X.A (throw (.ref a) : Sem Flow) (SP X pins D) X.xe t4) X.xe { s' with heap := k1 } := by
          rw [hfr]
          exact HandSPX.setFlight_upZ fly1 fun k4 hl4 u4 => wpAny_throw (tk _ _ ⟨a, B, sI, pins, σ1, G, cls, d, rfl, J, nb, (up.trans u1).trans u4, .inr (.inr (hst ▸ hl4)), na, os, ag, wz⟩)
        first | exact wpAny_bind (wpAny_pure (wpAny_bind fin)) | exact wpAny_bind fin
      | @cons x c ts b1 su p1 p2 hs3 l3 hc hsu r ih =>
        intro wz
        obtain ⟨b, hb1, yes, no⟩ := wz
        refine wpAny_handleBy_cons (codeAny_handlers_test ?_) nofun
        have LM := PySem.W.exm_one (M := model X.prog X.w) J2.kIn lk hb1
        have test : ∀ {Q : Value → Shared → Prop} {E : Value → Shared → Prop}, Q c { s' with heap := k1 } → wpAny (model X.prog X.w) (X.A.mark (some (.ref a))) (eval (.Name x p1) X.env) Q E { s' with heap := k1 } := fun {Q E} q => by
          rcases hc with ⟨hg, hdb, hm | ⟨hm, hv, hnn⟩⟩
          · exact ld_glob (X := X.suite a ((a, oe1) :: (X.pn ++ pins))) S1 hg hm q hdb
          · exact ld_blt (X := X.suite a ((a, oe1) :: (X.pn ++ pins))) S1 hg hm hv q hnn hdb
        refine test (LM.here ?_)
        match b, yes, no with
        | true, yes, _ =>
          refine codeAny_handlers_suite_as (HandSPX.lands_againZ fly1 fun k4 fly4 u4 => ?_)
          have J4 : Inv X pins σ1 G { s' with heap := k4 } := J.landed nb fly4.1 ((up.trans u1).trans u4) os ag
          obtain ⟨oe4, vs4, he4, hz4, hd4⟩ := fly4.there
          refine store_ok (X := X.suite a ((a, oe4) :: (X.pn ++ pins))) (v := .ref a) (J4.suite he4 hd4 na nL nF) hN hi (.inl hln) rfl (fun t5 S5 => ?_) (.inr hln)
          refine wpAny_mono ((hsu a oe4 cls d (X.pn ++ pins) hz4 ⟨_, hd4⟩).run [] t5 _ G _ S5 (yes rfl a na J.len)) (fun f t6 hf6 => ?_) (fun _ _ z => z.elim)
          have done : ∀ {σ6 : L2.St} {G6 : Hp} {Q : Shared → Prop}, Inv (X.suite a ((a, oe4) :: (X.pn ++ pins))) [] σ6 G6 t6 → (∀ t7, Inv X pins (σ6.set i none) G6 t7 → Q t7) → wpAny (model X.prog X.w) X.A (do bindName X.env n .none; unbindBehindTheSuite X.env n p2) (fun _ t7 => Q t7) X.xe t6 :=
            fun {σ6 G6 Q} S6 hq => gone_ok (S6.unsuite ok) hN hi hln hq
          match f, hf6 with
          | .next, ⟨σ6, G6, S6, q6⟩ => exact done S6 fun t7 J7 => ⟨_, _, J7, q6⟩
          | .brk, ⟨σ6, G6, S6, q6⟩ => exact done S6 fun t7 J7 => ⟨_, _, J7, q6⟩
          | .cont, ⟨σ6, G6, S6, q6⟩ => exact done S6 fun t7 J7 => ⟨_, _, J7, q6⟩
          | .ret u, ⟨v6, σ6, G6, S6, r6, q6⟩ => exact done S6 fun t7 J7 => ⟨_, _, _, J7, r6, q6⟩
        | false, _, no => exact ih (no rfl)
    exact go hh wsh
  · match f, ht with
    | .next, ⟨σ1, G, J1, q⟩ => exact wpAny_execs_nil ⟨σ1, G, J1.ofTry ok, q⟩
    | .brk, ⟨σ1, G, J1, q⟩ => exact ⟨σ1, G, J1.ofTry ok, q⟩
    | .cont, ⟨σ1, G, J1, q⟩ => exact ⟨σ1, G, J1.ofTry ok, q⟩
    | .ret u, ⟨v, σ1, G, J1, r, q⟩ => exact ⟨v, σ1, G, J1.ofTry ok, r, q⟩
/-- what is raised said once for all ways -/
theorem ps_manyAs_cut (hst : X.stack = X.env :: X.outer) (hfr : X.env.frame = some X.env.locals) (hN : X.N.Nodup) (hi : X.N[i]? = some n) (hln : X.env.kindOf n = some .local) (tk : L2N.Takes X Wz)
    (hb : ∀ (W : WX) (pn : List (Addr × Obj)) (xe : Value → Shared → Prop), L2N.Takes (X.tr pn xe) W → PassesOwn (model X.prog X.w) X.A X.env xe → PSs (X.tr pn xe) body (tb W))
    (hh : ClsAs X n (h1 :: hs) l) : PS X (.Try body (h1 :: hs) [] [] pos) (fun D σ H => ∃ Ce : WX, (∀ cls d τ G, Ce cls d τ G → wAll X.K i X.N.length Wz D l cls d τ G) ∧ tb Ce D σ H) :=
  ps_many_as (tb := fun W D σ H => ∃ Ce : WX, (∀ cls d τ G, Ce cls d τ G → W cls d τ G) ∧ tb Ce D σ H) hst hfr hN hi hln tk
    (fun W pn xe t po => ⟨fun pins s σ H D I ⟨Ce, imp, q⟩ => (hb Ce pn xe (t.imp imp) po).run pins s σ H D I q⟩) hh
end
/-! ### lambdas -/
/-- the context of the lambda's body -/
def lamN (X : Cx) (A : Around) (outer : List Env) (s : Shared) (G : Hp) (E : XK) (sc : Scope) (f c : Addr) : Cx :=
  (lamCx X A outer s G E sc f c).tr [] fun e t => wpAny (model X.prog X.w) (A.deeper (lamEnv X sc s.heap.objs.size f c)) (leaving (lamEnv X sc s.heap.objs.size f c) e) (fun _ t2 => L2N.CX X.prog X.w outer G s E e t2) (fun e2 t2 => L2N.CX X.prog X.w outer G s E e2 t2) t
theorem lamN_takes {X : Cx} {A : Around} {outer : List Env} {s : Shared} {G : Hp} {E : XK} {sc : Scope} {f c : Addr} : L2N.Takes (lamN X A outer s G E sc f c) (fun cls d _ H => E cls d H) := L2N.takes_of rfl rfl rfl rfl
section
variable {X : Cx} {pins : List (Addr × Obj)} {σ : L2.St} {H : Hp} {s : Shared}
/-- a(), in the def that was given the lambda -/
theorem pe_actN {CXg : CXT} {Eg : XK} {Ng : List Str} {qg : Str} {sg : Scope} {g f c : Addr} {cdg pm ctv : Value} {ps : Arguments} {bd : Expr} {sc : Scope} {k i : Nat} {a : Str} {pn : List (Addr × Obj)} {xe : Value → Shared → Prop} {W : WX} {tb : XK → TE} {p1 p2 : Pos}
    (I : Inv X pins σ H s) (L : LamS X.env.scope sc) (hf : s.heap.get? f = some (PySem.W.kla_obj "<lambda>" (X.env.qual ++ "<lambda>") ps bd sc (cloFrom X.env.cells sc.names []) pm c ctv)) (hfn : H f = none) (hfs : f ∉ frs X.stack)
    (hbind : bindArgs (PySem.W.kla_fn "<lambda>" (X.env.qual ++ "<lambda>") ps bd sc (cloFrom X.env.cells sc.names []) pm (.ref c) ctv) ⟨[], []⟩ = pure [])
    (tk : L2N.Takes ((cxOf CXg X.prog X.w X.K X.mg X.base Ng qg sg g cdg X.A X.stack s H Eg).tr pn xe) W) (hr : Room (k + 1) (X.A.deeper (envOfC qg sg s.heap.objs.size g cdg)))
    (hbody : ∀ (A : Around) (outer : List Env) (s : Shared) (G : Hp) (E : XK), Room k (A.deeper (lamEnv X sc s.heap.objs.size f c)) → PE (lamN X A outer s G E sc f c) bd (tb E))
    (hN : Ng[i]? = some a) (hv : Vis sg a) (hd : (a == ("__debug__" : Str)) = false := by decide) (hcd : (a == ("__classdict__" : Str)) = false := by decide) :
    PE ((cxOf CXg X.prog X.w X.K X.mg X.base Ng qg sg g cdg X.A X.stack s H Eg).tr pn xe) (.Call (.Name a p1) [] [] p2)
      (fun τ G Q => τ[i]? = some (some (.ref f)) ∧ G c = some (CodeO c (X.env.qual ++ "<lambda>")) ∧ tb (WE W τ) σ G Q) := by
  refine ⟨fun pins1 s1 τ G Q I1 h => ?_⟩
  obtain ⟨hs, hc, ht⟩ := h
  refine wpAny_Call_Name_kw (thn ((pe_var (pos := p1) (i := i) hN hv hd hcd).run pins1 s1 τ G (fun v G2 => v = .ref f ∧ G2 = G) I1 ⟨.ref f, hs, rfl, rfl⟩) fun u s2 ⟨v, G2, I2, r2, ev, eG⟩ => ?_)
  subst ev
  rw [eG] at I2
  cases (show u = Value.ref f from r2)
  have of2 : s2.heap.get? f = some (PySem.W.kla_obj "<lambda>" (X.env.qual ++ "<lambda>") ps bd sc (cloFrom X.env.cells sc.names []) pm c ctv) := I2.base.keep f _ hf hfn hfs (fun z => nomatch (show f ∈ ([] : List Addr) from z))
  refine PySem.W.callWith_F0 ⟨_, _, _, _, of2⟩ ?_
  have un : Un (frs X.stack) [] H G s.heap s2.heap := I2.base
  obtain ⟨⟨oc, vs, t, hoc, hdc, hvc⟩, _, _⟩ := I2.hok c _ hc
  have rc : codeAny (model X.prog X.w) (X.A.deeper (envOfC qg sg s.heap.objs.size g cdg)) (.call (.ref f) ⟨[], []⟩) (CR (L2N.CX X.prog X.w) (envOfC qg sg s.heap.objs.size g cdg :: X.stack) X.prog X.w G s2 Q (WE W τ)) s2 := by
    refine PySem.W.kla_callFunE hr.depth of2 rfl L.co L.gen rfl ⟨c, oc, vs, t, rfl, hoc, hdc, hvc⟩ ?_
    rw [hbind]
    refine wpAny_pure (wpAny_newFunctionEnv (fun y hy => (L.own y hy).2) (fun y hy => absurd hy (by simp)) (fun h1 hns hsb => ⟨I2.nolimit.fresh _ hsb, ?_⟩) L.kind)
    have kp : ∀ b o, s2.heap.get? b = some o → h1.get? b = some o := fun b o e => hsb.extBut b o (Nat.ne_of_lt (Heap.lt_size e)) (Heap.get?_push_of_some _ e)
    have J0 : Inv (lamCx X (X.A.deeper (envOfC qg sg s.heap.objs.size g cdg)) (envOfC qg sg s.heap.objs.size g cdg :: X.stack) s2 G (WE W τ) sc f c) [] σ G { s2 with heap := h1, toks := s2.toks + ([] : List (Str × Value)).length } := lam_start2 I L I2.env0 hr.hd un hns kp
    have J : Inv (lamN X (X.A.deeper (envOfC qg sg s.heap.objs.size g cdg)) (envOfC qg sg s.heap.objs.size g cdg :: X.stack) s2 G (WE W τ) sc f c) [] σ G { s2 with heap := h1, toks := s2.toks + ([] : List (Str × Value)).length } := J0.toTry _
    show codeAny _ _ (.expr bd (lamEnv X sc s2.heap.objs.size f c)) _ _
    exact PySem.W.kla_codeExpr (wpAny_mono ((hbody _ _ s2 G _ (hr.deeper _)).run [] _ _ G Q J ht) (fun v t2 ⟨w2, G3, J3, rv, q⟩ => ⟨w2, G3, J3.os, J3.bare, J3.base, J3.hok, rv, q⟩) fun e t2 q => q)
  refine wpAny_call (codeAny_mono rc fun r t2 q => ?_)
  match r, q with
  | .error e, q => exact L2N.passAt tk τ pins1 G s2 e t2 I2 q
  | .ok (.ret u), q => exact I2.after q
  | .ok .next, q => exact q.elim
  | .ok .brk, q => exact q.elim
  | .ok .cont, q => exact q.elim
/-- the def x(a) that calls what it was given; TT: what it makes of the lambda's reading -/
def GivesN (X : Cx) (Ng : List Str) (x : Str) (sg : Scope) (g : Addr) (cdg : Value) (bg : List Stmt) (a : Str) (q : Str) (k : Nat) (TT : (XK → Hp → VK → Prop) → Hp → VK → Prop) : Prop :=
  ∀ (f c : Addr) (s : Shared) (H : Hp) (Q : VK) (tl : XK → Hp → VK → Prop), Room (k + 1) (X.A.deeper (envOfC x sg s.heap.objs.size g cdg)) →
    (∀ (W : WX) (pn : List (Addr × Obj)) (xe : Value → Shared → Prop) (p1 p2 : Pos), L2N.Takes ((cxOf C8.CX0 X.prog X.w X.K X.mg X.base Ng x sg g cdg X.A X.stack s H C8.E0).tr pn xe) W →
      PE ((cxOf C8.CX0 X.prog X.w X.K X.mg X.base Ng x sg g cdg X.A X.stack s H C8.E0).tr pn xe) (.Call (.Name a p1) [] [] p2) (fun τ G Q => τ[0]? = some (some (.ref f)) ∧ G c = some (CodeO c q) ∧ tl (WE W τ) G Q)) →
    H c = some (CodeO c q) → TT tl H Q → ∃ t, PSs (cxOf C8.CX0 X.prog X.w X.K X.mg X.base Ng x sg g cdg X.A X.stack s H C8.E0).nox bg t ∧ t { nx := fun _ G => Q .non G, rt := Q } (L2.start Ng [.ref f]) H
end
section
variable {X : Cx}
/-- x(lambda: body) -/
theorem pe_lamN {T : List (Addr × Str)} {TT : (XK → Hp → VK → Prop) → Hp → VK → Prop} {x a : Str} {g c P : Addr} {k : Nat} {pg : Arguments} {bg : List Stmt} {sg : Scope} {dV kV doc pm cdv ct oc : Value} {an od : Option Addr} {osl : Array (Option Value)} {Ng : List Str}
    {ps : Arguments} {bd : Expr} {sc : Scope} {t : XK → TE} {p lp pos : Pos} (hg : Gl X x) (hm : X.mg x = some (.ref g)) (hk : PySem.W.keepIn X.K (.ref g) = true)
    (lk : X.K.lookup g = some ⟨oc, od, .func (PySem.W.fnOf x x pg bg sg dV kV doc pm an cdv ct), osl⟩) (hcg : PySem.W.codeIn X.K cdv x = true) (hb : L2.Binds X.K (PySem.W.fnOf x x pg bg sg dV kV doc pm an cdv ct) [a] []) (Sg : FnScope Ng [a] sg) (hNg : Ng[0]? = some a) (hva : Vis sg a)
    (hG : GivesN X Ng x sg g cdv bg a (X.env.qual ++ "<lambda>") k TT)
    (TB : TabB X.base X.mg c P) (hcode : X.env.code = .ref c) (hmT : (P, X.env.qual ++ "<lambda>") ∈ T) (hu : ∀ p ∈ T, p.1 = P → p.2 = X.env.qual ++ "<lambda>") {j : Nat} (hr : Room j X.A) (hj : k + 2 ≤ j) (L : LamS X.env.scope sc) (hdef : defaultsOf ps X.env = ([], []))
    (hbind : ∀ (q : Str) (cl : List (Str × Addr)) (pm cv ctv : Value), bindArgs (PySem.W.kla_fn "<lambda>" q ps bd sc cl pm cv ctv) ⟨[], []⟩ = pure [])
    (hbody : ∀ (A : Around) (outer : List Env) (s : Shared) (H : Hp) (E : XK) (f c1 : Addr), Room k (A.deeper (lamEnv X sc s.heap.objs.size f c1)) → PE (lamN X A outer s H E sc f c1) bd (t E))
    (hdb : (x == ("__debug__" : Str)) = false := by decide) (hd : (a == ("__debug__" : Str)) = false := by decide) (hcd : (a == ("__classdict__" : Str)) = false := by decide) :
    PE X (.Call (.Name x p) [.Lambda ps bd sc lp] [] pos) (tLam T TT t) := by
  refine ⟨fun pins s σ H Q I ⟨hT, h⟩ => wpAny_Call_Name_kw (ld_glob I hg hm ?_ hdb)⟩
  refine PySem.W.callWith_K (h₀ := X.base) I.ok.mod.kin hk ?_ (by rfl) (by rfl)
  show wpAny _ _ (spliced ((false, eval (.Lambda ps bd sc lp) X.env) :: backTo pos (starEach [] X.env))) _ _ s
  refine Calls.spliced_cons (lam_make2 I TB hcode hmT hu hT hdef (L.has I.ok) fun f c1 pm1 ctv1 H1 s1 I1 eN T1 hf hfn hfr hco => Calls.spliced_nil ⟨I1.kIn, ?_⟩)
  have rc : codeAny (model X.prog X.w) X.A (.call (.ref g) ⟨[.ref f], []⟩) (CR C8.CX0 X.stack X.prog X.w H1 s1 Q C8.E0) s1 := by
    refine run_ofS (N := Ng) (ps := [a]) (us := [.ref f]) (vs := [.ref f]) lk hcg Sg (hr.mono hj) I1.env0 (hb s1 [.ref f] I1.kIn rfl) (.cons rfl .nil) rfl fun hr1 => ?_
    obtain ⟨t1, ht1, hq1⟩ := hG f c1 s1 H1 Q (fun E G Q2 => t E σ G Q2) hr1 (fun W pn xe p1 p2 tk => pe_actN (i := 0) I1 L hf hfn hfr (hbind _ _ _ _ _) tk hr1 (fun A outer s H E hr2 => hbody A outer s H E f c1 hr2) hNg hva hd hcd) hco (h H1 eN T1)
    exact ⟨t1, ht1.nox, hq1⟩
  refine wpAny_call (codeAny_mono rc fun r s2 q => ?_)
  match r, q with
  | .error e, q => exact (show False from q).elim
  | .ok (.ret u), q => exact I1.after q
  | .ok .next, q => exact q.elim
  | .ok .brk, q => exact q.elim
  | .ok .cont, q => exact q.elim
end
end MG

/-! the heap without its tables of code objects -/
namespace MG
open PySem PySem.Spec PyProof.Rows L2 LamX
def ntb (H : Hp) : Hp := fun b => match H b with
  | some (.tbl _) => none
  | o => o
theorem nt_some {H : Hp} {b : Addr} {o : HO} (h : H b = some o) (n : ∀ ps, o ≠ .tbl ps := by intro _; nofun) : ntb H b = some o := by
  unfold ntb
  rw [h]
  cases o <;> first | rfl | exact absurd rfl (n _)
theorem nt_of {H : Hp} {b : Addr} {o : HO} (h : ntb H b = some o) : H b = some o ∧ ∀ ps, o ≠ .tbl ps := by
  unfold ntb at h
  split at h
  · cases h
  · rename_i z
    exact ⟨h, fun ps e => z ps (by rw [h, e])⟩
theorem nt_none {H : Hp} {b : Addr} (h : H b = none) : ntb H b = none := by
  unfold ntb
  rw [h]
theorem nt_same {H : Hp} : Same (ntb H) H := fun b o h => (nt_of h).1
theorem nt_idem {H : Hp} : Same (ntb H) (ntb (ntb H)) := fun b o h => nt_some h (nt_of h).2
theorem nt_mono {H H' : Hp} (s : Same H H') : Same (ntb H) (ntb H') := fun b o h => nt_some (s _ _ (nt_of h).1) (nt_of h).2
theorem nt_ext {H H' : Hp} (s : ExtN H H') : Same (ntb H) (ntb H') := fun b o h => nt_some (s _ _ (nt_of h).1 (nt_of h).2) (nt_of h).2
theorem nt_keep {q : Addr} {H H' : Hp} (k : Keep q H H') : Keep q (ntb H) (ntb H') := ⟨fun b o h n => nt_some (k _ _ (nt_of h).1 n) (nt_of h).2, fun x l h => (k.hd x l (nt_of h).1).elim fun l' e => ⟨l', nt_some e⟩⟩
theorem ext_nt {H H' : Hp} (s : Same (ntb H) (ntb H')) : ExtN H H' := fun b o h n => (nt_of (s _ _ (nt_some h n))).1
section
variable {K : PySem.W.Frag} {H : Hp}
theorem rd_nt {a : Addr} {o : HO} (h : Rd H a o) (n : ∀ ps, o ≠ .tbl ps := by intro _; nofun) : Rd (ntb H) a o := by
  rcases h with h | ⟨ob, h⟩
  · exact .inl (nt_some h n)
  · exact .inr ⟨ob, nt_some h⟩
theorem SqL.nt {a : Addr} {xs : List V} (h : SqL K H a xs) : SqL K (ntb H) a xs := h.imp (fun h => rd_nt h) id
theorem SqT.nt {a : Addr} {xs : List V} (h : SqT K H a xs) : SqT K (ntb H) a xs := h.imp (fun h => rd_nt h) id
theorem TyX.nt {x : V} {t : Value} (h : TyX K H x t) : TyX K (ntb H) x t := by
  cases h with
  | base h =>
    cases h with
    | non => exact .base .non
    | bl x => exact .base (.bl x)
    | int i => exact .base (.int i)
    | str x => exact .base (.str x)
    | flt x => exact .base (.flt x)
    | lst e => exact .base (.lst (nt_some e))
    | frz e => exact .base (.frz (nt_some e))
    | tup e => exact .base (.tup (nt_some e))
    | dK e => exact .base (.dK (nt_some e))
    | dT e => exact .base (.dT (nt_some e))
    | ins e cl ha hn htk hm => exact .base (.ins (nt_some e) cl ha hn htk hm)
  | byt b => exact .byt b
  | set e => exact .set (nt_some e)
  | kList e c => exact .kList e c
  | kTuple e c => exact .kTuple e c
  | kDict e c => exact .kDict e c
  | fTuple e => exact .fTuple (nt_some e)
  | fDict e => exact .fDict (nt_some e)
end
end MG

/-! x[i] that raises; classmethods by name that raise; a def whose code object is known; tables kept -/
namespace MG
open PySem PySem.Spec PyProof.Rows L2 ClX LamX
structure IxX (P : Program) (w : World) (K : PySem.W.Frag) (mg : Str → Option Value) (base : Heap) (k : Nat) (C : Addr) (sp : Sp) : Prop where
  ex : ∃ (f : Addr) (fd : FuncData) (ps : List Str), PySem.W.findIn K (.ref C) "__getitem__" = some (some (.ref f)) ∧ PySem.W.fnIn K f = true ∧ PySem.W.isFn K (.ref f) = true ∧ FnOk P w K mg base (L2N.CX P w) k f fd ps sp ∧ Binds K fd ps []
def tIxX (C : Addr) (sp : Sp) (E : L2.St → XK) (ta tb : TE) : TE := fun σ H Q => ta σ H fun x H1 => tb σ H1 fun y H2 => ∃ a dx fs, x = .ref a ∧ H2 a = some (.ins C dx fs) ∧ sp [x, y] H2 Q (E σ)
section
variable {X : Cx} {k j : Nat} {C : Addr} {sp : Sp} {a b : Expr} {ta tb : TE} {pos : Pos} {W : WX}
theorem pe_ixX (o : IxX X.prog X.w X.K X.mg X.base k C sp) (hr : Room j X.A) (hk : k + 1 ≤ j) (tk : L2N.Takes X W) (ha : PE X a ta) (hb : PE X b tb)
    (hsl : ∀ v u, subscripted b true v u = runValue (.builtin "lifetime.subscript" ⟨[v, u], []⟩) := by intro _ _; rfl) : PE X (.Subscript a b pos) (tIxX C sp (WE W) ta tb) := by
  obtain ⟨f, fd, ps, hs, hf, hfn, F, bd⟩ := o.ex
  refine ⟨fun pins s σ H Q I h => ?_⟩
  refine Subscript_ (binT ha hb I (R := fun x y H2 => ∃ a dx fs, x = .ref a ∧ H2 a = some (.ins C dx fs) ∧ sp [x, y] H2 Q (WE W σ)) h fun v u s2 x y H2 I2 rx ry q => ?_)
  obtain ⟨a, dx, fs, rfl, ea, hsp⟩ := q
  cases rx
  obtain ⟨mA, J, _⟩ := ins_get I2.hok ea
  obtain ⟨od, J, _⟩ := J.look
  obtain ⟨m, hF⟩ := I2.fr
  refine PySem.W.sub_K hF I2.ok.mod.kin J hs hf hfn ?_ (hsl _ _)
  have hl := F.len _ _ _ _ hsp
  have r2 : Vals [V.ref a, y] [Value.ref a, u] := .cons rfl (.cons ry .nil)
  refine wpAny_call (codeAny_mono (F.run X.A.in1 X.stack s2 H2 ⟨[.ref a, u], []⟩ [.ref a, u] [.ref a, y] Q (WE W σ) ((hr.mono hk).in1) I2.env0.in1 (by
    have := bd s2 [.ref a, u] I2.kIn (by simpa using hl)
    simpa using this) r2 hsp) fun r s' hq => ?_)
  match r, hq with
  | .error e, hq => exact L2N.passAt tk σ pins H2 s2 e s' I2 hq
  | .ok (.ret z), hq => exact I2.after hq
  | .ok .next, hq => exact False.elim hq
  | .ok .brk, hq => exact False.elim hq
  | .ok .cont, hq => exact False.elim hq
end
section
variable {X : Cx} {k j : Nat} {C p g : Addr} {m : Str} {mc : Value} {sp : Sp} {o e : Expr} {es : List Expr} {pos apos : Pos} {ta : TE} {t : TA} {pl : Sem Bool}
structure CmtKX (P : Program) (w : World) (K : PySem.W.Frag) (mg : Str → Option Value) (base : Heap) (k : Nat) (C : Addr) (m : Str) (sp : Sp) (ks : List Str) (gV : List V → List V → List V) : Prop where
  ex : ∃ (p g : Addr) (mc : Value) (fd : FuncData) (ps : List Str) (gf : List Value → List Value → List Value), CRead K C mc ∧ CMet K C mc m p g ∧ FnOk P w K mg base (L2N.CX P w) k g fd ps sp ∧ KBn K fd ps 1 ks gf gV
def tCMetKS (C : Addr) (sp : Sp) (n : Nat) (gV : List V → List V → List V) (E : L2.St → XK) (ta : TE) (tk : TA) : TE := fun σ H Q => ta σ H fun x H1 => x = .ref C ∧ tk σ H1 fun zs H2 => zs.length = n ∧ sp (gV [.ref C] zs) H2 Q (E σ)
theorem pe_cmtKX {W : WX} {kws : List Keyword} {ks : List Str} {gV : List V → List V → List V} {tk : TA} (c : CmtKX X.prog X.w X.K X.mg X.base k C m sp ks gV) (hr : Room j X.A) (hk : k ≤ j) (tak : L2N.Takes X W) (he : PE X o ta) (hkw : PK X kws tk)
    (hall : (backToKw pos (keywordEach kws X.env)).all (·.1.isSome) = true := by rfl) (hks : (backToKw pos (keywordEach kws X.env)).filterMap (·.1) = ks := by rfl)
    (hpl : ((backTo pos (starEach [] X.env)).any (·.1) || (backToKw pos (keywordEach kws X.env)).any (·.1.isNone)) = false := by rfl)
    (ht : eval (.Call (.Attribute o m apos) [] kws pos) X.env = (do
      let ov ← eval o X.env
      standAt apos.atName
      let (f, first) ← holding [ov] (getMethod ov m pl)
      callWith pos f first (backTo pos (starEach [] X.env)) (backToKw pos (keywordEach kws X.env))) := by rfl) :
    PE X (.Call (.Attribute o m apos) [] kws pos) (tCMetKS C sp ks.length gV (WE W) ta tk) := by
  obtain ⟨p, g, mc, fd, ps, gf, r, cm, F, b⟩ := c.ex
  refine ⟨fun pins s σ H Q I h => ?_⟩
  refine PySem.W.methodCall_KW (pl := pl) (thn (he.run pins s σ H _ I h) fun u s1 ⟨x, H1, I1, rx, ex, q⟩ => ?_) ht
  subst ex
  obtain rfl : u = Value.ref C := rx
  refine getmethcm_ok I1 r cm fun s2 I2 => ?_
  refine PySem.W.callWith_of (P := PySem.W.MethP X.K s1.heap.objs.size g (.ref C)) hpl (PySem.W.keeps_M cm.fi) (PyProof.Rows.evalArgs_kw2_nil hall (thn (hkw.run pos _ s2 σ H1 _ I2 q) fun ws s3 ⟨zs, H2, I3, rz, hl, q2⟩ => ⟨⟨pin_at I3, I3.kIn⟩, ?_⟩))
  rw [hks]
  have hlw : ws.length = ks.length := rz.length.symm.trans hl
  exact after_cm I3 (L2N.passAt tak σ) (F.run X.A X.stack s3 H2 ⟨.ref C :: [], ks.zip ws⟩ (gf [.ref C] ws) (gV [.ref C] zs) Q _ (hr.mono hk) I3.env0 (b.to s3 [.ref C] ws I3.kIn rfl hlw) (b.rel (.cons rfl .nil) rz) q2)
theorem cr_or {f : Value} {r1 r2 : List V → Hp → VK → Prop} (h1 : CallR X f r1) (h2 : CallR X f r2) : CallR X f (fun xs H Q => r1 xs H Q ∨ r2 xs H Q) := fun pins s σ H xs us Q I r h => h.elim (h1 pins s σ H xs us Q I r) (h2 pins s σ H xs us Q I r)
end
/-- a def, its code object known -/
structure FunC (K : PySem.W.Frag) (x qual : Str) (st : Stmt) (f : Addr) (fd : FuncData) (c : Addr) : Prop where
  ex : ∃ (oc : Value) (od : Option Addr) (kV doc pm : Value) (an : Option Addr) (ct : Value) (osl : Array (Option Value)),
    fd = PySem.W.fnOf x qual (defArgs st) (defBody st) (defScope st) .none kV doc pm an (.ref c) ct ∧ K.lookup f = some ⟨oc, od, .func fd, osl⟩ ∧ PySem.W.codeIn K (.ref c) qual = true
theorem fun_okGC {P : Program} {w : World} {K : PySem.W.Frag} {mg : Str → Option Value} {base : Heap} {x qual : Str} {st : Stmt} {f c : Addr} {fd : FuncData} {N ps : List Str} {k : Nat} {sp : Sp} (F : FunC K x qual st f fd c) (S : FnScope N ps (defScope st)) (len : ∀ vs H Q E, sp vs H Q E → vs.length = ps.length)
    (hbody : ∀ (A : Around) (outer : List Env) (s : Shared) (H : Hp) (vs : List V) (Q : VK) (E : XK), Bare (A.deeper (envOfC qual (defScope st) s.heap.objs.size f (.ref c))) → Room k (A.deeper (envOfC qual (defScope st) s.heap.objs.size f (.ref c))) → sp vs H Q E →
      ∃ t, PSs (cxOf CX0 P w K mg base N qual (defScope st) f (.ref c) A outer s H E).nox (defBody st) t ∧ t { nx := fun _ H' => Q .non H', rt := Q } (start N vs) H) : FnG P w K mg base CX0 (k + 1) f fd ps sp := by
  obtain ⟨oc, od, kV, doc, pm, an, ct, osl, rfl, lk, hcd⟩ := F.ex
  refine fnG_of lk hcd S len fun A outer s H vs Q E bare hr hsp => ?_
  obtain ⟨t, h, q⟩ := hbody A outer s H vs Q E bare hr hsp
  exact ⟨t, h.nox, q⟩
/-! ### tables -/
theorem tabs_keep {T : List (Addr × Str)} {q : Addr} {l : List V} {H H' : Hp} (t : Tabs T H) (hq : H q = some (.lst l)) (k : Keep q H H') : Tabs T H' := fun p hp => by
  obtain ⟨ps, h1, h2, h3⟩ := t p hp
  refine ⟨ps, k _ _ h1 fun e => ?_, h2, fun pos cv hc => ?_⟩
  · rw [e, hq] at h1
    cases h1
  · obtain ⟨c, e1, e2⟩ := h3 pos cv hc
    refine ⟨c, e1, k _ _ e2 fun e => ?_⟩
    rw [e, hq] at e2
    cases e2
theorem tabs_hid {T : List (Addr × Str)} {D : Addr} {l : List V} {H : Hp} (t : Tabs T H) (e : H D = some (.lst l)) : Tabs T (hid D H) := fun p hp => by
  obtain ⟨ps, h1, h2, h3⟩ := t p hp
  have n1 : p.1 ≠ D := fun z => by
    rw [z, e] at h1
    cases h1
  refine ⟨ps, by rw [hid_ne n1]; exact h1, h2, fun pos cv hc => ?_⟩
  obtain ⟨c, e1, e2⟩ := h3 pos cv hc
  have n2 : c ≠ D := fun z => by
    rw [z, e] at e2
    cases e2
  exact ⟨c, e1, by rw [hid_ne n2]; exact e2⟩
theorem tabs_sub {T T' : List (Addr × Str)} {H : Hp} (t : Tabs T H) (s : ∀ p ∈ T', p ∈ T) : Tabs T' H := fun p hp => t p (s p hp)
theorem tabs_same {T : List (Addr × Str)} {H H' : Hp} (t : Tabs T H) (s : Same H H') : Tabs T H' := t.ext s
/-- the def that is handed a lambda, as those know it who call it -/
structure AskC (K : PySem.W.Frag) (mg : Str → Option Value) (x a : Str) (st : Stmt) (g : Addr) (fd : FuncData) (cdv : Value) : Prop where
  gl : mg x = some (.ref g)
  kp : PySem.W.keepIn K (.ref g) = true
  ex : ∃ (oc : Value) (od : Option Addr) (kV doc pm : Value) (an : Option Addr) (ct : Value) (osl : Array (Option Value)),
    fd = PySem.W.fnOf x x (defArgs st) (defBody st) (defScope st) .none kV doc pm an cdv ct ∧ K.lookup g = some ⟨oc, od, .func fd, osl⟩ ∧ PySem.W.codeIn K cdv x = true
  b : L2.Binds K fd [a] []
theorem pe_ask {X : Cx} {T : List (Addr × Str)} {TT : (XK → Hp → VK → Prop) → Hp → VK → Prop} {x a : Str} {st : Stmt} {g c P : Addr} {k : Nat} {fd : FuncData} {cdv : Value} {Ng : List Str} {ps : Arguments} {bd : Expr} {sc : Scope} {t : XK → TE} {p lp pos : Pos} (B : AskC X.K X.mg x a st g fd cdv) (hg : Gl X x)
    (Sg : FnScope Ng [a] (defScope st)) (hNg : Ng[0]? = some a) (hva : Vis (defScope st) a) (hG : GivesN X Ng x (defScope st) g cdv (defBody st) a (X.env.qual ++ "<lambda>") k TT)
    (TB : TabB X.base X.mg c P) (hcode : X.env.code = .ref c) (hmT : (P, X.env.qual ++ "<lambda>") ∈ T) (hu : ∀ p ∈ T, p.1 = P → p.2 = X.env.qual ++ "<lambda>") {j : Nat} (hr : Room j X.A) (hj : k + 2 ≤ j) (L : LamS X.env.scope sc) (hdef : defaultsOf ps X.env = ([], []))
    (hbind : ∀ (q : Str) (cl : List (Str × Addr)) (pm cv ctv : Value), bindArgs (PySem.W.kla_fn "<lambda>" q ps bd sc cl pm cv ctv) ⟨[], []⟩ = pure [])
    (hbody : ∀ (A : Around) (outer : List Env) (s : Shared) (H : Hp) (E : XK) (f c1 : Addr), Room k (A.deeper (lamEnv X sc s.heap.objs.size f c1)) → PE (lamN X A outer s H E sc f c1) bd (t E))
    (hdb : (x == ("__debug__" : Str)) = false := by decide) (hd : (a == ("__debug__" : Str)) = false := by decide) (hcd : (a == ("__classdict__" : Str)) = false := by decide) :
    PE X (.Call (.Name x p) [.Lambda ps bd sc lp] [] pos) (tLam T TT t) := by
  obtain ⟨oc, od, kV, doc, pm, an, ct, osl, rfl, lk, hc⟩ := B.ex
  exact pe_lamN hg B.gl B.kp lk hc B.b Sg hNg hva hG TB hcode hmT hu hr hj L hdef hbind hbody hdb hd hcd
end MG

/-! the law's call where it makes lambdas: tables of code objects -/
namespace MG
open PySem PySem.Spec PyProof.Rows L2 LamX
/-- the code objects' tables -/
abbrev tabsOf (cs : List (Addr × Addr)) : List Addr := cs.map (·.2)
theorem mem_tabs {cs : List (Addr × Addr)} {p : Addr × Addr} (h : p ∈ cs) : p.2 ∈ tabsOf cs := List.mem_map.mpr ⟨p, h, rfl⟩
/-- what the head's heap says of the makers -/
structure Makers (K : PySem.W.Frag) (mg : Str → Option Value) (cs : List (Addr × Addr)) (h : Heap) : Prop where
  emp : ∀ b, b ∈ tabsOf cs → h.get? b = some { cls := .none, data := .fields #[] }
  non : ∀ b, b ∈ tabsOf cs → K.lookup b = none
  code : ∀ p ∈ cs, PySem.W.CodeHd h p.1 p.2
  bm : ∃ (bm : Addr) (ob : Obj), mg "__builtins__" = some (.ref bm) ∧ bm ≠ builtinsNs ∧ h.get? bm = some ob ∧ ob.cls = .type "module" ∧ ob.dict = some builtinsNs ∧ ob.data = .plain
section
variable {P : Program} {w : World} {K : PySem.W.Frag} {mg mb : Str → Option Value} {k : Nat} {fa a : Addr} {fd : FuncData} {x : Str} {sp : Sp} {s1 : Shared} {vs : List Value} {ns : List Int} {cs : List (Addr × Addr)} {H : Hp}
theorem enterT (KX : K.In s1.heap) (hns : s1.heap.Ns mainGlobals mg) (hb : s1.heap.Ns builtinsNs mb) (hbb : ∀ x : Str, x ≠ "__name__" → mb x = bootBuiltins x) (hlim : s1.heap.NoLimit) (hg : s1.gens = #[])
    (ha : s1.heap.get? a = some { cls := .type "list", data := .seq vs.toArray }) (M : Makers K mg cs s1.heap) (hr : Room k callerA)
    (F : ∀ base : Heap, K.In base → base.Ns mainGlobals mg → (∀ p ∈ cs, TabB base mg p.1 p.2) → FnG P w K mg base CX0 k fa fd [x] sp) (hbind : ∀ (s : Shared) (u : Value), BindsTo s fd ⟨[u], []⟩ [(x, u)])
    (hT : ∀ b, b ∈ tabsOf cs → H b = some (.tbl #[])) (hO : ∀ b, b ∉ tabsOf cs → H b = none ∨ ∃ o xs, H b = some (.frz o (.lst xs))) (hok : HOk P w H s1.heap) (hA : ∀ b, b ∉ tabsOf cs → H b ≠ none → b = a) (hK : H a ≠ none → K.lookup a = none)
    (hsp : sp [.ref a] H (fun v _ => v = .bl true) fun _ _ _ => False) :
    codeAny (model P w) callerA (.call (.ref fa) ⟨[.ref a], []⟩) (fun r t => r = .ok (.ret (.bool true)) ∧ OldK s1.heap t.heap ∧ t.os = s1.os ∧ AllBare t.gens) s1 := by
  -- an object that is neither a list of values nor an empty table isn't tracked
  have free : ∀ {b : Addr} {o : Obj}, s1.heap.get? b = some o → (∀ us n, o.data ≠ .seq us n) → o.data ≠ .fields #[] → H b = none := fun {b o} e z1 z2 => by
    by_cases ht : b ∈ tabsOf cs
    · cases (M.emp b ht).symm.trans e
      exact absurd rfl z2
    · cases q : H b with
      | none => rfl
      | some u =>
        cases hA b ht (by rw [q]; nofun)
        cases ha.symm.trans e
        exact absurd rfl (z1 _ _)
  have stay : ∀ {b : Addr} {o : Obj}, s1.heap.get? b = some o → (∀ us n, o.data ≠ .seq us n) → o.data ≠ .fields #[] → (hidT s1.heap H).get? b = some o := fun e z1 z2 => hidT_get e (free e z1 z2)
  have ns1 : ∀ {b : Addr} {m : Str → Option Value}, s1.heap.Ns b m → (hidT s1.heap H).Ns b m := fun {b m} ⟨o, es, ep, e, d, r⟩ => ⟨o, es, ep, stay e (fun us n z => by rw [d] at z; cases z) (fun z => by rw [d] at z; cases z), d, r⟩
  have inB : K.In (hidT s1.heap H) := fun b o e => hidT_get (KX b o e) (by
    by_cases ht : b ∈ tabsOf cs
    · exact nomatch (M.non b ht).symm.trans e
    · cases q : H b with
      | none => rfl
      | some u =>
        cases hA b ht (by rw [q]; nofun)
        exact nomatch (hK (by rw [q]; nofun)).symm.trans e)
  have TBs : ∀ p ∈ cs, TabB (hidT s1.heap H) mg p.1 p.2 := fun p hp => by
    have e0 := M.emp _ (mem_tabs hp)
    refine ⟨?_, ?_, fun z => ?_⟩
    · obtain ⟨o, us, fl, tf, g1, g2, i1, n1, n2, e1, r1, r2, r3, rest⟩ := M.code p hp
      refine ⟨o, us, fl, tf, g1, g2, i1, n1, n2, stay e1 (fun us n z => by rw [r2] at z; cases z) (fun z => ?_), r1, r2, r3, rest⟩
      rw [r2] at z
      cases z
      simp at r3
    · obtain ⟨bm, ob, b1, b2, b3, b4, b5, b6⟩ := M.bm
      refine ⟨bm, ob, b1, b2, fun q => ?_, fun q => ?_, stay b3 (fun us n z => by rw [b6] at z; cases z) (fun z => by rw [b6] at z; cases z), b4, b5, b6⟩
      · obtain ⟨o, es, ep, e, d, _⟩ := hns
        rw [q] at b3
        cases e.symm.trans b3
        rw [d] at b6
        cases b6
      · rw [q] at b3
        cases e0.symm.trans b3
        cases b6
    · obtain ⟨o, es, ep, e, d, _⟩ := hns
      rw [← z] at e0
      cases e.symm.trans e0
      cases d
  have Md : Mod K mg (hidT s1.heap H) := ⟨inB, ns1 hns, ⟨mb, ns1 hb, hbb⟩, hlim.elim fun mc z => ⟨mc, ns1 z.1, z.2⟩⟩
  have env : Env0 P w K mg (hidT s1.heap H) callerA [] s1 H :=
    { frames := rfl, mod := Md, bs := fun b o e => of_hidT e, bsz := Nat.le_of_eq (hidT_size _ _), funs := trivial, frf := (fun b z => nomatch (show b ∈ ([] : List Addr) from z)), hok := hok, bare := .of_eq hg }
  refine codeAny_mono ((F _ inB (ns1 hns) TBs).run callerA [] s1 H ⟨[.ref a], []⟩ [.ref a] [.ref a] _ _ rfl hr env (hbind s1 (.ref a)) (.cons rfl .nil) hsp) fun r t h => ?_
  match r, h with
  | .error e, h => exact h.elim
  | .ok .next, h => exact h.elim
  | .ok .brk, h => exact h.elim
  | .ok .cont, h => exact h.elim
  | .ok (.ret u), ⟨v, H2, os, bare, un, hok2, rv, hv⟩ =>
    cases (show v = .bl true from hv)
    cases (show u = Value.bool true from rv)
    have old : ∀ b o, b ∉ tabsOf cs → s1.heap.get? b = some o → t.heap.get? b = some o := fun b o nb e => by
      cases q : H b with
      | none => exact un.keep b o e q (fun z => nomatch z) (by simp)
      | some u =>
        obtain ⟨ob, xs, z⟩ := (hO b nb).resolve_left (by rw [q]; nofun)
        exact ((hok2 b _ (un.frzs b ob _ z)).left.trans (hok b _ z).left.symm).trans e
    have grow : ∀ b, b ∈ tabsOf cs → ∃ ms : Array Value, t.heap.get? b = some { cls := .none, data := .fields ms } := fun b hb => by
      obtain ⟨ms, z⟩ := un.tbls b #[] (hT b hb)
      exact ⟨_, hok2 b _ z⟩
    refine ⟨rfl, ⟨fun b o e => ?_, fun b o e => ?_⟩, os, bare⟩
    · by_cases ht : b ∈ tabsOf cs
      · obtain ⟨ms, hm⟩ := grow b ht
        obtain ⟨p, hp, rfl⟩ := List.mem_map.mp ht
        cases (M.emp _ ht).symm.trans e
        exact .inr (.inl ⟨((M.code p hp).tab (M.emp _ ht)).isCodeTable, rfl, #[], ms, rfl, by rw [Array.empty_append]; exact hm⟩)
      · exact .inl (old b o ht e)
    · by_cases ht : b ∈ tabsOf cs
      · exact (grow b ht).elim fun ms z => ⟨_, z⟩
      · exact ⟨o, old b o ht e⟩
theorem callT (KX : K.In s1.heap) (hns : s1.heap.Ns mainGlobals mg) (hb : s1.heap.Ns builtinsNs mb) (hbb : ∀ x : Str, x ≠ "__name__" → mb x = bootBuiltins x) (hlim : s1.heap.NoLimit) (hg : s1.gens = #[])
    (ha : s1.heap.get? a = some { cls := .type "list", data := .seq vs.toArray }) (hi : IntsAre vs ns) (hl : ns.length ≤ sizeLine) (M : Makers K mg cs s1.heap) (hr : Room k callerA)
    (F : ∀ base : Heap, K.In base → base.Ns mainGlobals mg → (∀ p ∈ cs, TabB base mg p.1 p.2) → FnG P w K mg base CX0 k fa fd [x] sp) (hbind : ∀ (s : Shared) (u : Value), BindsTo s fd ⟨[u], []⟩ [(x, u)])
    (hsp : ∀ H : Hp, (∀ b, b ∈ tabsOf cs → H b = some (.tbl #[])) → SqL K H a (ns.map V.int) → sp [.ref a] H (fun v _ => v = .bl true) fun _ _ _ => False) :
    codeAny (model P w) callerA (.call (.ref fa) ⟨[.ref a], []⟩) (fun r t => r = .ok (.ret (.bool true)) ∧ OldK s1.heap t.heap ∧ t.os = s1.os ∧ AllBare t.gens) s1 := by
  classical
  have rv := vals_ints hi
  have lv := hi.length
  have na : a ∉ tabsOf cs := fun z => by
    have e := (M.emp a z).symm.trans ha
    cases e
  let E0 : Hp := fun b => if b ∈ tabsOf cs then some (.tbl #[]) else none
  have t0 : ∀ b, b ∈ tabsOf cs → E0 b = some (.tbl #[]) := fun b z => if_pos z
  have n0 : ∀ b, b ∉ tabsOf cs → E0 b = none := fun b z => if_neg z
  by_cases hk : K.lookup a = none
  · let fz : HO := .frz { cls := .type "list", data := .seq vs.toArray } (.lst (ns.map V.int))
    have t1 : ∀ b, b ∈ tabsOf cs → (upd E0 a fz) b = some (.tbl #[]) := fun b z => by
      rw [upd_ne (fun e : b = a => na (by rw [← e]; exact z))]
      exact t0 b z
    refine enterT (H := upd E0 a fz) KX hns hb hbb hlim hg ha M hr F hbind t1 (fun b nb => ?_) (fun b u z => ?_) (fun b nb z => ?_) (fun _ => hk) (hsp _ t1 (.inl (.inr ⟨_, upd_same⟩)))
    · by_cases e : b = a
      · rw [e]
        exact .inr ⟨_, _, upd_same⟩
      · exact .inl (by rw [upd_ne e]; exact n0 b nb)
    · by_cases e : b = a
      · subst e
        cases (upd_same (H := E0) (a := b) (o := fz)).symm.trans z
        exact ⟨ha, by rw [List.length_map]; exact hl, vs, _, rv, ha⟩
      · rw [upd_ne e] at z
        by_cases ht : b ∈ tabsOf cs
        · cases (t0 b ht).symm.trans z
          exact M.emp b ht
        · exact nomatch (n0 b ht).symm.trans z
    · by_cases e : b = a
      · exact e
      · rw [upd_ne e] at z
        exact absurd (n0 b nb) z
  · obtain ⟨o, e⟩ := Option.ne_none_iff_exists'.mp hk
    cases (KX a o e).symm.trans ha
    refine enterT (H := E0) KX hns hb hbb hlim hg ha M hr F hbind t0 (fun b nb => .inl (n0 b nb)) (fun b u z => ?_) (fun b nb z => absurd (n0 b nb) z) (fun z => absurd (n0 a na) z) (hsp _ t0 (.inr ?_))
    · by_cases ht : b ∈ tabsOf cs
      · cases (t0 b ht).symm.trans z
        exact M.emp b ht
      · exact nomatch (n0 b ht).symm.trans z
    · exact ⟨_, vs.toArray, _, e, rfl, rfl, rfl, by rw [List.size_toArray, lv]; exact hl, by simpa using rv⟩
end
theorem walkT {l : PySem.W.OpenLaw} {n k : Nat} {q : Program} {loose : List Str} {XP : (Str → Option Value) → Heap → Prop} {YP : World → Heap → Prop} {d : DefRec} {K : Params → PySem.W.Frag} {cs : List (Addr × Addr)} {sp : World → Sp} {x : Str}
    (hn : l.most = some n) (hn2 : n ≤ sizeLine) (hdf : d.params.defaults = []) (hr : Room k callerA) (hY : ∀ (w : World) (h : Heap), YP w h → (K w.params).In h ∧ (∀ b, b ∈ tabsOf cs → h.get? b = some { cls := .none, data := .fields #[] }))
    (hN : ∀ (w : World), ∀ b, b ∈ tabsOf cs → (K w.params).lookup b = none) (hC : ∀ (w : World) (h : Heap), (K w.params).In h → ∀ p ∈ cs, PySem.W.CodeHd h p.1 p.2)
    (F : ∀ (w : World) (mg : Str → Option Value) (fa : Addr) (h : Heap), (K w.params).In h → h.Ns mainGlobals mg → mg d.name = some (.ref fa) →
      ∃ fd : FuncData, (∀ (s : Shared) (u : Value), BindsTo s fd ⟨[u], []⟩ [(x, u)]) ∧ ∀ base : Heap, (K w.params).In base → base.Ns mainGlobals mg → (∀ p ∈ cs, TabB base mg p.1 p.2) → FnG l.prog w (K w.params) mg base CX0 k fa fd [x] (sp w))
    (hsp : ∀ (w : World) (H : Hp) (a : Addr) (ns : List Int), ns.length ≤ n → (∀ b, b ∈ tabsOf cs → H b = some (.tbl #[])) → SqL (K w.params) H a (ns.map V.int) → sp w [.ref a] H (fun v _ => v = .bl true) fun _ _ _ => False) :
    PySem.W.WalkO q loose XP YP l.row.toRowW d [] (fun f vs => PySem.call f vs) := by
  refine Att.attach_call hn hdf fun w s₀ s1 mg mb fa o pm cd doc a vs ns G Y ho hd hcd hmg hobj hints hlen hg => ?_
  obtain ⟨inK, hE⟩ := hY w _ Y
  obtain ⟨fd, hb, hF⟩ := F w mg fa _ inK G.T.g hmg
  exact callT inK G.T.g G.T.b G.T.builtins G.T.nolimit hg hobj hints (Nat.le_trans hlen hn2) ⟨hE, hN w, hC w _ inK, G.T.bmain⟩ hr hF hb fun H hH hS => hsp w H a ns hlen hH hS
end MG

/-! own classes that derive from own classes: super().__init__(..) -/
namespace MG
open PySem PySem.Spec PyProof.Rows L2 ClX LamX

/-- the names of a def that speaks of its own class -/
structure SupScope (N ps : List Str) (sc : Scope) : Prop where
  kind : sc.kind = .function
  co : sc.isCoroutine = false
  gen : sc.isGenerator = false
  nd : N.Nodup
  pre : N.take ps.length = ps
  par : ∀ x ∈ ps, sc.names.lookup x = some .local
  nocell : ∀ y ∈ sc.names, y.2 ≠ .cell
  free : ∀ y ∈ sc.names, y.2 = .free → y.1 = "__class__"
def supC (N ps : List Str) (sc : Scope) : Bool :=
  decide (sc.kind = .function) && (!sc.isCoroutine && (!sc.isGenerator && (decide N.Nodup && (decide (N.take ps.length = ps) && (ps.all (fun x => decide (sc.names.lookup x = some .local)) &&
    (sc.names.all (fun y => decide (y.2 ≠ .cell)) && sc.names.all (fun y => !decide (y.2 = .free) || decide (y.1 = "__class__"))))))))
theorem supScope_by {N ps : List Str} {sc : Scope} (h : supC N ps sc = true) : SupScope N ps sc := by
  unfold supC at h
  simp only [Bool.and_eq_true, Bool.not_eq_true', decide_eq_true_eq, List.all_eq_true, Bool.or_eq_true, decide_eq_false_iff_not] at h
  obtain ⟨h1, h2, h3, h4, h5, h6, h7, h8⟩ := h
  exact ⟨h1, h2, h3, h4, h5, h6, h7, fun y hy e => (h8 y hy).resolve_left fun z => z e⟩

/-- the context of such a def's body, at its entry; cc: the cell that holds the class -/
def cxS (CX : CXT) (P : Program) (w : World) (K : PySem.W.Frag) (mg : Str → Option Value) (base : Heap) (N : List Str) (qual : Str) (scope : Scope) (f : Addr) (cd : Value) (cc : Addr) (A : Around) (outer : List Env) (s : Shared) (H : Hp) (E : XK) : Cx where
  prog := P
  w := w
  K := K
  mg := mg
  base := base
  A := A.deeper (PySem.W.ksEnv qual scope s.heap.objs.size f cd cc)
  N := N
  s_0 := s
  H_0 := H
  env := PySem.W.ksEnv qual scope s.heap.objs.size f cd cc
  outer := outer
  stack := PySem.W.ksEnv qual scope s.heap.objs.size f cd cc :: outer
  ex := []
  calm := true
  fn := fun _ => false
  pn := []
  xe := fun e s' => wpAny (model P w) (A.deeper (PySem.W.ksEnv qual scope s.heap.objs.size f cd cc)) (leaving (PySem.W.ksEnv qual scope s.heap.objs.size f cd cc) e) (fun _ s'' => CX outer H s E e s'') (fun e' s'' => CX outer H s E e' s'') s'

theorem fst_sub : ∀ (ps : List Str) (us : List Value), List.Sublist ((ps.zip us).map (·.1)) ps
  | [], _ => List.Sublist.slnil
  | _ :: _, [] => List.nil_sublist _
  | p :: ps, _ :: us => (fst_sub ps us).cons₂ p
theorem rev_lookup {ps : List Str} {us : List Value} {i : Nat} {y : Str} {u : Value} (nd : ps.Nodup) (h1 : ps[i]? = some y) (h2 : us[i]? = some u) : (ps.zip us).reverse.lookup y = some u := by
  have hm : (y, u) ∈ (ps.zip us).reverse := List.mem_reverse.mpr (List.mem_of_getElem? (i := i) (by simp [List.getElem?_zip_eq_some, h1, h2]))
  have hn : ((ps.zip us).reverse.map (·.1)).Nodup := by
    rw [List.map_reverse]
    unfold List.Nodup
    rw [List.pairwise_reverse]
    refine List.Pairwise.imp (fun h => Ne.symm h) ?_
    exact nd.sublist (fst_sub ps us)
  revert hm hn
  generalize (ps.zip us).reverse = l
  intro hm hn
  induction l with
  | nil => cases hm
  | cons p l ih =>
    obtain ⟨a, b⟩ := p
    rw [List.map_cons, List.nodup_cons] at hn
    rcases List.mem_cons.mp hm with e | hm
    · cases e
      simp [List.lookup]
    · have ne : y ≠ a := fun e => hn.1 (e ▸ List.mem_map.mpr ⟨_, hm, rfl⟩)
      rw [List.lookup_cons, beq_eq_false_iff_ne.mpr ne]
      exact ih hm hn.2

section
variable {CX : CXT} {P : Program} {w : World} {K : PySem.W.Frag} {mg : Str → Option Value} {base : Heap} {N ps : List Str} {qual : Str} {scope : Scope} {f cc D : Addr} {cd : Value} {A : Around} {outer : List Env} {s : Shared} {H : Hp} {E : XK} {us : List Value} {vs : List V}
theorem invS_start {h₁ : Heap} {tk : Nat} {cl : Value} {cld : Option Addr} {csl : Array (Option Value)} (S : SupScope N ps scope) (hc : K.lookup cc = some ⟨cl, cld, .cell (some (.ref D)), csl⟩) (hd : A.handled = none) (e0 : Env0 P w K mg base A outer s H) (hl : vs.length = ps.length) (r : Vals vs us)
    (hns : h₁.Ns s.heap.objs.size (fun x => (ps.zip us).reverse.lookup x)) (hk : ∀ b o, s.heap.get? b = some o → h₁.get? b = some o) :
    Inv (cxS CX P w K mg base N qual scope f cd cc A outer s H E) [] (start N vs) H { s with heap := h₁, toks := tk } := by
  have noA : ∀ b : Addr, b ∉ (cxS CX P w K mg base N qual scope f cd cc A outer s H E).ex := fun b z => absurd (show b ∈ ([] : List Addr) from z) (by simp)
  have one : ∀ (x : Str) (c : Addr), (cxS CX P w K mg base N qual scope f cd cc A outer s H E).env.cells.lookup x = some c → x = "__class__" ∧ c = cc := by
    intro x c h
    have h' : List.lookup x [(("__class__" : Str), cc)] = some c := h
    rw [List.lookup_cons] at h'
    split at h'
    · rename_i e
      exact ⟨beq_iff_eq.mp e, (Option.some.inj h').symm⟩
    · cases h'
  have hcb := e0.mod.kin _ _ hc
  obtain ⟨hcs, hcH⟩ := e0.bs _ _ hcb
  have sup : s.heap.get? s.heap.objs.size = none := Heap.get?_none_of_le (Nat.le_refl _)
  refine ⟨⟨e0.mod, S.kind, rfl, rfl, Nat.le_refl _, fun x y c h1 h2 => ?_, fun y hy => ?_, fun y c hf _ => (nomatch hf), fun _ => hd, Around.frames_deeper e0.frames, .inr ⟨rfl, rfl⟩, fun b z => absurd z (noA b), e0.bs, e0.bsz, fun b _ _ => noA b, fun b z => absurd z (noA b), e0.funs, e0.frf⟩,
    rfl, e0.bare, Un.kept hk, ⟨_, hns, fun i y v h1 h2 h3 => ?_⟩, fun y c h => ?_, e0.hok.fresh (Nat.le_refl _), fun y c h => ?_, fun p hp => absurd (show p ∈ ([] : List (Addr × Obj)) from hp) (by simp), e0.hok.kept hk, ?_⟩
  · exact (one x c h1).1.trans (one y c h2).1.symm
  · have hy : scope.names.lookup y = some .cell ∨ scope.names.lookup y = some .free := hy
    rcases hy with hy | hy
    · exact absurd rfl (S.nocell _ (PySem.mem_of_lookup hy))
    · have e := S.free _ (PySem.mem_of_lookup hy) rfl
      exact ⟨cc, by show List.lookup y [(("__class__" : Str), cc)] = some cc; rw [show y = "__class__" from e]; rfl⟩
  · have hi : i < vs.length := by
      unfold L2.start at h2
      by_cases hi : i < vs.length
      · exact hi
      · rw [List.getElem?_append_right (by simpa using hi)] at h2
        rw [List.getElem?_replicate] at h2
        split at h2 <;> cases h2
    have ha : vs[i]? = some v := by
      unfold L2.start at h2
      rw [List.getElem?_append_left (by simpa using hi), List.getElem?_map] at h2
      cases e : vs[i]? with
      | none => rw [e] at h2; cases h2
      | some a => rw [e] at h2; cases h2; rfl
    obtain ⟨u, hu, rv⟩ := r.get ha
    have hp : ps[i]? = some y := by
      rw [← S.pre, List.getElem?_take_of_lt (by omega)]; exact h1
    have ndP : ps.Nodup := by rw [← S.pre]; exact S.nd.sublist (List.take_sublist _ _)
    exact ⟨u, rv, .inl ⟨S.par y (List.mem_of_getElem? hp), rev_lookup ndP hp hu⟩⟩
  · obtain ⟨_, e⟩ := one y c h
    rw [e]
    exact ⟨_, _, hk _ _ hcs, rfl⟩
  · rw [(one y c h).2]
    exact hcH
  · unfold L2.start
    show _ = N.length
    have := congrArg List.length S.pre
    rw [List.length_take] at this
    rw [List.length_append, List.length_map, List.length_replicate]
    omega
end

/-- as PSs, where the frame that runs is known to be the def's own -/
structure PsA (X : Cx) (bd st : List Stmt) (t : TS) : Prop where
  run : ∀ (pins : List (Addr × Obj)) (s : Shared) (σ : L2.St) (H : Hp) (D : Ends), Inv X pins σ H s → t D σ H → _root_.PySem.wpAt (model X.prog X.w) X.A (.func bd X.env) (execs st X.env) (SP X pins D) X.xe s
section
variable {X : Cx} {bd rest : List Stmt} {st : Stmt} {t u : TS}
theorem psA_of (h : PSs X rest t) : PsA X bd rest t := ⟨fun pins s σ H D I q => wpAt_of_wpAny (h.run pins s σ H D I q)⟩
theorem psA_cons (h1 : PS X st t) (h2 : PsA X bd rest u) : PsA X bd (st :: rest) (tSeq t u) := by
  refine ⟨fun pins s σ H D I h => ?_⟩
  refine ks_wpAt_execs_cons (wpAt_of_wpAny (thn (h1.run pins s σ H { D with nx := u D } I h) fun f s1 q => ?_))
  match f, q with
  | .next, ⟨σ', H', I', q⟩ => exact h2.run pins s1 σ' H' D I' q
  | .ret v, q => exact q
  | .brk, q => exact q
  | .cont, q => exact q
end

/-- what must be known of super().m in the def at f, self an instance of C, the def's own class at D; the method found is at f2 -/
structure Sup (P : Program) (K : PySem.W.Frag) (C D : Addr) (m x0 : Str) (f cda cc f2 : Addr) (fd : FuncData) : Prop where
  fn : ∃ (oc : Value) (od : Option Addr) (osl : Array (Option Value)), K.lookup f = some ⟨oc, od, .func fd, osl⟩
  hd : ∃ ar : Arg, (fd.params.posonlyargs ++ fd.params.args).head? = some ar ∧ ar.arg = x0
  code : ∃ (cl : Value) (cd : Option Addr) (vs : Array Value) (cs : Array (Option Value)) (file : Str) (tf : Tok), K.lookup cda = some ⟨cl, cd, .fields vs, cs⟩ ∧ vs[2]? = some (.str file tf) ∧ ((P.main.file : Str) == file) = true
  cell : ∃ (cl : Value) (cd : Option Addr) (cs : Array (Option Value)), K.lookup cc = some ⟨cl, cd, .cell (some (.ref D)), cs⟩
  clD : ∃ cd, PySem.W.clsIn K D = some cd
  clC : ∃ cd, PySem.W.clsIn K C = some cd
  sub : PySem.W.mroIn K C (.ref D) = some true
  top : (P.main.scope.names.lookup ("super" : Str)).isSome = false
  op : PySem.W.nsIn K cStatics "thirdparty.any" = some none
  at_ : PySem.W.ks_superIn K C D m = some (some (.ref f2))
  ty : PySem.W.typeIn K (.ref f2) = some (.type "function")
  fi : PySem.W.fnIn K f2 = true
def tSup (i : Nat) (C : Addr) (sp : Sp) (dvs : List V) (E : XK) (t : TA) : TS := fun D σ H => ∃ x dx fs, σ[i]? = some (some (.ref x)) ∧ H x = some (.ins C dx fs) ∧ t σ H fun vs H1 => sp (.ref x :: vs ++ dvs) H1 (fun _ H2 => D.nx σ H2) E

section
variable {X : Cx} {CX : CXT} {bd rest : List Stmt} {u : TS} {C D f cda cc f2 : Addr} {fd fd2 : FuncData} {ps : List Str} {sp : Sp} {E : XK} {k i : Nat} {m self : Str} {p0 p1 p2 apos pos : Pos} {e : Expr} {es : List Expr} {t : TA} {dvs : List V} {ds : List Value}
theorem psA_sup (S : Sup X.prog X.K C D m self f cda cc f2 fd) (F : FnOk X.prog X.w X.K X.mg X.base CX k f2 fd2 ps sp) (hr : Room k X.A) (hb : Binds X.K fd2 ps ds) (hd : Vals dvs ds) (hx : Passes CX X E) (hm : X.mg "super" = none)
    (hN : X.N[i]? = some self) (hks : X.env.kindOf "super" = some .globalImplicit) (hkc : X.env.kindOf "__class__" = some .free) (hka : X.env.kindOf self = some .local) (hcl : X.env.cells.lookup ("__class__" : Str) = some cc)
    (hfu : X.env.func = some f) (hco : X.env.code = .ref cda) (ha : PA X (e :: es) t) (h2 : PSs X rest u)
    (hn : (m == ("__class__" : Str)) = false := by decide)
    (hi : interactive X.env = false := by rfl) (hs : swapsWith (.Call (.Attribute (.Call (.Name "super" p0) [] [] p1) m apos) (e :: es) [] pos) none p2.line X.env = pure false := by rfl)
    (hst : starEach (e :: es) X.env = (false, eval e X.env) :: starEach es X.env := by rfl) (hpl : (backTo pos (starEach es X.env)).any (·.1) = false := by rfl) {pl : Sem Bool}
    (ht : eval (.Call (.Attribute (.Call (.Name "super" p0) [] [] p1) m apos) (e :: es) [] pos) X.env = (do
      let ov ← attributeBase (.Call (.Name "super" p0) [] [] p1) m X.env (eval (.Call (.Name "super" p0) [] [] p1) X.env)
      standAt apos.atName
      let (f, first) ← holding [ov] (getMethod ov m pl)
      callWith pos f first (backTo pos (starEach (e :: es) X.env)) []) := by rfl) :
    PsA X bd (.Expr (.Call (.Attribute (.Call (.Name "super" p0) [] [] p1) m apos) (e :: es) [] pos) p2 :: rest) (tSeq (tSup i C sp dvs E t) u) := by
  refine ⟨fun pins s σ H D' I h => ?_⟩
  obtain ⟨x, dx, fs, hσ, ex, q⟩ := h
  obtain ⟨oc, od, osl, hf⟩ := S.fn
  obtain ⟨ar, har, hself⟩ := S.hd
  obtain ⟨cl1, cd1, vs1, cs1, file, tf, hcode, hvs, hfile⟩ := S.code
  obtain ⟨cl2, cd2, cs2, hcell⟩ := S.cell
  obtain ⟨cdD, hclD⟩ := S.clD
  obtain ⟨cdC, hclC⟩ := S.clC
  obtain ⟨mb, hb1, hb2⟩ := I.mod.blt
  obtain ⟨m0, hns, hloc⟩ := id I.loc
  obtain ⟨ux, rx, hlook⟩ := hloc i self _ hN hσ (.inl hka)
  obtain rfl : ux = Value.ref x := rx
  have hms : m0 self = some (.ref x) := by
    rcases hlook with ⟨_, z⟩ | ⟨z, _⟩
    · exact z
    · rcases z with z | z <;> exact nomatch z.symm.trans hka
  obtain ⟨mA, O, _⟩ := ins_get I.hok ex
  obtain ⟨odx, J, _⟩ := O.look
  obtain ⟨oD, hD1, hD2⟩ : ∃ oD, s.heap.get? D = some oD ∧ oD.data = .cls cdD := by
    unfold PySem.W.clsIn at hclD
    split at hclD
    · rename_i c d cd' sl ho
      cases hclD
      exact ⟨_, I.kIn _ _ ho, rfl⟩
    · cases hclD
  refine ks_wpAt_execs_cons (ks_wpAt_Expr_any (ks_wpAt_MethodCall (pl := pl) ?_ ht) hi hs)
  refine ks_wpAt_super_base hks hkc hn hfu (I.kIn _ _ hf) rfl har hco (I.kIn _ _ hcode) rfl hvs hfile S.top ?_
  refine PySem.W.ks_loadName_global I.ok.kind hks ?_
  refine Calls.loadGlobal_builtin (v := .type "super") (by rw [I.ok.glob]; exact I.mod.glob.keeps I.bk) hm (by rw [I.ok.blt]; exact hb1.keeps I.bk) ((hb2 "super" (by decide)).trans (by kernel_rfl)) ⟨rfl, ?_⟩
  refine PySem.wpAny_loadName_free I.ok.kind hkc hcl ⟨_, I.kIn _ _ hcell, rfl⟩ ?_
  rw [hself]
  refine PySem.wpAny_loadName_local I.ok.kind hka hns hms ?_
  refine ks_wpAny_isType_cls hD1 hD2 ⟨rfl, ?_⟩
  refine ks_wpAny_call_super hD1 hD2 J.at_ J.cls (fun c e => ?_) (PySem.W.looks_mroIn I.kIn S.sub) (fun h' e k => ?_)
  · have z := J.no
    unfold PySem.W.notCls at z
    rw [e] at z
    exact Bool.noConfusion z
  · have I2 := pin_new (t' := s.toks) I k (Nat.le_refl _) e (fun v z => nomatch z)
    have hm2 := S.at_
    unfold PySem.W.ks_superIn at hm2
    rw [hclC] at hm2
    obtain ⟨of, hof, hofc⟩ : ∃ of, h'.get? f2 = some of ∧ of.cls = .type "function" := by
      have ht' : (X.K.lookup f2).map (·.cls) = some (.type "function") := S.ty
      cases z : X.K.lookup f2 with
      | none => rw [z] at ht'; cases ht'
      | some of => rw [z] at ht'; exact ⟨of, I2.kIn _ _ z, Option.some.inj ht'⟩
    refine PySem.ks_wpAny_getMethod_super e (PySem.W.looks_opaque I2.kIn S.op) (l₀ := cdC.mro) ?_ rfl I2.kIn hm2 hof hofc (PySem.W.ks_ne I.kIn J hclC) hn ?_
    · exact fun A Q E s k q => wpAny_bind ((PySem.W.looks_clsIn I2.kIn hclC) A _ E s k (wpAny_pure q))
    · have I3 := met_new (g := f2) (C := x) I2
      refine callwith_cm I3 (base_none I2 (Nat.le_refl _)) S.fi (thn (ha.run pos _ _ σ H _ I3 q) fun us s4 ⟨vs, H2, I4, rv, q2⟩ => ⟨⟨pin_at I4, I4.kIn⟩, ?_⟩) hst hpl
      have q3 : sp (.ref x :: vs ++ dvs) H2 (fun _ H5 => u D' σ H5) E := q2
      refine thn (after_cm I4 (fun pins H s e s' => hx pins σ H s e s') ((F.raw hb hd) X.A X.stack s4 H2 (.ref x :: us) (.ref x :: vs) _ E hr I4.env0 (.cons rfl rv) q3)) fun v s5 ⟨v', H5, I5, rv5, q5⟩ => ?_
      exact wpAt_of_wpAny (h2.run pins s5 σ H5 D' (unpin I5) q5)
end
/-! ### such defs, and those that are called with them -/
structure FunS (K : PySem.W.Frag) (x qual : Str) (st : Stmt) (kws : List (Str × V)) (f : Addr) (fd : FuncData) (cda cc : Addr) : Prop where
  ex : ∃ (oc : Value) (od : Option Addr) (kV doc pm : Value) (an : Option Addr) (ct : Value) (osl : Array (Option Value)),
    fd = PySem.W.ksFn x qual (defArgs st) (defBody st) (defScope st) .none kV doc pm an (.ref cda) ct cc ∧ K.lookup f = some ⟨oc, od, .func fd, osl⟩ ∧ PySem.W.codeIn K (.ref cda) qual = true ∧ KwdV K kV kws
  cell : ∃ (D : Addr) (cl : Value) (cd : Option Addr) (cs : Array (Option Value)), K.lookup cc = some ⟨cl, cd, .cell (some (.ref D)), cs⟩
section
variable {P : Program} {w : World} {K : PySem.W.Frag} {mg : Str → Option Value} {base : Heap} {x qual : Str} {st : Stmt} {kws : List (Str × V)} {f cda cc : Addr} {fd : FuncData} {N ps : List Str} {k : Nat} {sp : Sp}
theorem FunS.ok {CX : CXT} (F : FunS K x qual st kws f fd cda cc) (S : SupScope N ps (defScope st)) (len : ∀ vs H Q E, sp vs H Q E → vs.length = ps.length)
    (hbody : ∀ (A : Around) (outer : List Env) (s : Shared) (H : Hp) (vs : List V) (Q : VK) (E : XK), Room k (A.deeper (PySem.W.ksEnv qual (defScope st) s.heap.objs.size f (.ref cda) cc)) → sp vs H Q E →
      ∃ t, PsA (cxS CX P w K mg base N qual (defScope st) f (.ref cda) cc A outer s H E) (defBody st) (defBody st) t ∧ t { nx := fun _ H' => Q .non H', rt := Q } (L2.start N vs) H) : FnOk P w K mg base CX (k + 1) f fd ps sp := by
  obtain ⟨oc, od, kV, doc, pm, an, ct, osl, rfl, lk, hcd, _⟩ := F.ex
  obtain ⟨D, cl, cld, cs, hc⟩ := F.cell
  refine ⟨len, fun A outer s H args us vs Q E hr e0 hb r hsp => ?_⟩
  have KX : K.In s.heap := e0.mod.kin.keeps fun b o e => (e0.bs b o e).1
  have lim : s.heap.NoLimit := e0.mod.nolimit.keeps fun b o e => (e0.bs b o e).1
  refine ks_codeAny_call_defAt (body := defBody st) hr.depth (KX _ _ lk) rfl lim (PySem.W.codeRec_of KX hcd) rfl hb S.nocell (fun ⟨n, v⟩ hy => S.par n (List.of_mem_zip hy).1) (fun h₁ hns hk => ?_) S.co S.gen S.kind
  obtain ⟨t, ht, hq⟩ := hbody A outer s H vs Q E (hr.deeper _) hsp
  have I := invS_start (CX := CX) (E := E) (P := P) (w := w) (qual := qual) (f := f) (cd := .ref cda) (tk := s.toks + (ps.zip us).length) S hc hr.hd e0 (len _ _ _ _ hsp) r hns hk
  refine ks_wpAt_mono (ht.run [] _ (L2.start N vs) H _ I hq) (fun fl s' hs => ?_) (fun e s' hs => hs)
  match fl, hs with
  | .ret u, ⟨v, σ', H', J, rv, q⟩ => exact ⟨v, H', J.os, J.bare, J.base, J.hok, rv, q⟩
  | .next, ⟨σ', H', J, q⟩ => exact ⟨V.non, H', J.os, J.bare, J.base, J.hok, rfl, q⟩
  | .brk, ⟨_, _, _, q⟩ => exact False.elim q
  | .cont, ⟨_, _, _, q⟩ => exact False.elim q
/-- its arguments, all by place -/
theorem FunS.binds (F : FunS K x qual st kws f fd cda cc)
    (h : ∀ (kV doc pm : Value) (an : Option Addr) (ct : Value) (us : List Value), us.length = ps.length → bindArgs (PySem.W.ksFn x qual (defArgs st) (defBody st) (defScope st) .none kV doc pm an (.ref cda) ct cc) ⟨us, []⟩ = pure (ps.zip us)) : Binds K fd ps [] := by
  obtain ⟨oc, od, kV, doc, pm, an, ct, osl, rfl, lk, hcd, _⟩ := F.ex
  exact .all (h kV doc pm an ct)
/-- .. n by place, the keywords ks by name; ms lack -/
theorem FunS.kbinds (F : FunS K x qual st kws f fd cda cc) (n : Nat) (ks : List Str) (ms : List (Str × V)) (g : {α : Type} → List α → List α → List α → List α) (nz : kws ≠ []) (sub : ∀ q ∈ ms, q ∈ kws)
    (grel : ∀ {vs mz zs : List V} {us mv ws : List Value}, Vals vs us → Vals mz mv → Vals zs ws → Vals (g vs mz zs) (g us mv ws))
    (h : ∀ (B : Addr) (doc pm : Value) (an : Option Addr) (ct : Value) (us mv ws : List Value), us.length = n → mv.length = ms.length → ws.length = ks.length →
      KwChain B ((ms.map (·.1)).zip mv) (bindArgs (PySem.W.ksFn x qual (defArgs st) (defBody st) (defScope st) .none (.ref B) doc pm an (.ref cda) ct cc) ⟨us, ks.zip ws⟩) (ps.zip (g us mv ws))) :
    ∃ mv : List Value, KBn K fd ps n ks (fun us ws => g us mv ws) (fun vs zs => g vs (ms.map (·.2)) zs) := by
  obtain ⟨oc, od, kV, doc, pm, an, ct, osl, rfl, lk, hcd, hK⟩ := F.ex
  rcases hK with e | ⟨B, rfl, hq⟩
  · exact (nz e).elim
  obtain ⟨mv, hl, rk, hks⟩ := kwd_vals (ms := ms) fun q hm => hq q (sub q hm)
  refine ⟨mv, ?_, ?_⟩
  · intro s us ws X l1 l2
    exact BindsTo.of_looks fun M => KwChain.looks X hks (h B doc pm an ct us mv ws l1 hl l2)
  · intro vs us zs ws r1 r2
    exact grel r1 rk r2
end
/-- a def called by its name, which may raise -/
structure CalX (P : Program) (w : World) (K : PySem.W.Frag) (mg : Str → Option Value) (base : Heap) (k : Nat) (x : Str) (sp : Sp) : Prop where
  ex : ∃ (f : Addr) (fd : FuncData) (ps : List Str), FnOk P w K mg base (L2N.CX P w) k f fd ps sp ∧ mg x = some (.ref f) ∧ PySem.W.keepIn K (.ref f) = true ∧ Binds K fd ps []
def tCalX (sp : Sp) (E : L2.St → XK) (t : TA) : TE := fun σ H Q => t σ H fun vs H1 => sp vs H1 Q (E σ)
/-- a class made by its name, n values by place and the keywords ks, which may raise -/
structure MakKX (P : Program) (w : World) (K : PySem.W.Frag) (mg : Str → Option Value) (base : Heap) (k : Nat) (x : Str) (C : Addr) (sp : Sp) (n : Nat) (ks : List Str) (gV : List V → List V → List V) : Prop where
  ex : ∃ (f : Addr) (fd : FuncData) (ps : List Str) (gf : List Value → List Value → List Value), Mk K C f ∧ FnOk P w K mg base (L2N.CX P w) k f fd ps sp ∧ mg x = some (.ref C) ∧ KBn K fd ps (n + 1) ks gf gV
def tMakKX (C : Addr) (n m : Nat) (sp : Sp) (gV : List V → List V → List V) (E : L2.St → XK) (t tk : TA) : TE := fun σ H Q => t σ H fun vs H1 => tk σ H1 fun zs H2 => vs.length = n ∧ zs.length = m ∧ ∀ x dx, H2 x = none → H2 dx = none → dx ≠ x →
  sp (gV (.ref x :: vs) zs) (upd (upd H2 dx (.own x)) x (.ins C dx [])) (fun v H3 => v = .non ∧ Q (.ref x) H3) (E σ)
section
variable {X : Cx} {k j n : Nat} {C : Addr} {x : Str} {sp : Sp} {p pos : Pos} {e : Expr} {es : List Expr} {t tk : TA} {W : WX} {ks : List Str} {gV : List V → List V → List V} {kws : List Keyword}
theorem pe_calX (c : CalX X.prog X.w X.K X.mg X.base k x sp) (hr : Room j X.A) (hk : k ≤ j) (tak : L2N.Takes X W) (hg : Gl X x) (ha : PA X (e :: es) t)
    (hdb : (x == ("__debug__" : Str)) = false := by decide)
    (he : starEach (e :: es) X.env = (false, eval e X.env) :: starEach es X.env := by rfl)
    (hpl : (backTo pos (starEach es X.env)).any (·.1) = false := by rfl) : PE X (.Call (.Name x p) (e :: es) [] pos) (tCalX sp (WE W) t) := by
  obtain ⟨f, fd, ps, F, hm, kp, b⟩ := c.ex
  refine ⟨fun pins s σ H Q I h => wpAny_Call_Name_kw (ld_glob I hg hm ?_ hdb)⟩
  refine PySem.W.callWith_K (h₀ := X.base) I.ok.mod.kin kp (thn (ha.run pos pins s σ H _ I h) fun us s1 ⟨vs, H1, I1, r, q⟩ => ⟨I1.kIn, ?_⟩) he hpl
  have q' : sp (vs ++ []) H1 Q (WE W σ) := by rw [List.append_nil]; exact q
  exact run_fnS' (E := WE W) F (hr.mono hk) b .nil (L2N.passAt tak σ) I1 r q'
theorem pe_makKX (c : MakKX X.prog X.w X.K X.mg X.base k x C sp n ks gV) (hr : Room j X.A) (hk : k + 1 ≤ j) (tak : L2N.Takes X W) (hg : Gl X x) (ha : PA X (e :: es) t) (hkw : PK X kws tk)
    (hall : (backToKw pos (keywordEach kws X.env)).all (·.1.isSome) = true := by rfl) (hks : (backToKw pos (keywordEach kws X.env)).filterMap (·.1) = ks := by rfl) (hdb : (x == ("__debug__" : Str)) = false := by decide)
    (he : starEach (e :: es) X.env = (false, eval e X.env) :: starEach es X.env := by rfl)
    (hpl : ((backTo pos (starEach (e :: es) X.env)).any (·.1) || (backToKw pos (keywordEach kws X.env)).any (·.1.isNone)) = false := by rfl) :
    PE X (.Call (.Name x p) (e :: es) kws pos) (tMakKX C n ks.length sp gV (WE W) t tk) := by
  obtain ⟨f, fd, ps, gf, M, F, hm, b⟩ := c.ex
  refine ⟨fun pins s σ H Q I h => wpAny_Call_Name_kw (ld_glob I hg hm ?_ hdb)⟩
  refine PySem.W.callWith_KW (h₀ := X.base) I.ok.mod.kin M.kp hall (thn (ha.run pos pins s σ H _ I h) fun us s1 ⟨vs, H1, I1, r, q⟩ => ?_) hpl he
  refine thn (hkw.run pos pins s1 σ H1 _ I1 q) fun ws s2 ⟨zs, H2, I2, rz, l1, l2, q2⟩ => ⟨I2.kIn, ?_⟩
  rw [hks]
  have hq := q2 (s2.heap.objs.size + 1) s2.heap.objs.size (I2.hok.fresh (Nat.le_succ _)) (I2.hok.fresh (Nat.le_refl _)) (Nat.ne_of_lt (Nat.lt_succ_self _))
  have I3 := Inv.made (C := C) I2
  have r1 : Vals (V.ref (s2.heap.objs.size + 1) :: vs) (Value.ref (s2.heap.objs.size + 1) :: us) := .cons rfl r
  have n1 : (Value.ref (s2.heap.objs.size + 1) :: us).length = n + 1 := by rw [List.length_cons, ← r.length, l1]
  have run := F.run _ X.stack _ _ ⟨Value.ref (s2.heap.objs.size + 1) :: us, ks.zip ws⟩ (gf (Value.ref (s2.heap.objs.size + 1) :: us) ws) _ _ (WE W σ) ((hr.mono hk).make C us (ks.zip ws)) (I3.env0.make C us (ks.zip ws))
    (b.to _ (Value.ref (s2.heap.objs.size + 1) :: us) ws I3.kIn n1 (rz.length.symm.trans l2)) (b.rel r1 rz) hq
  refine wpAny_call (make_map (f := f) I2.kIn M.makes M.init (beq_iff_eq.mp M.fn) (codeAny_mono run fun r s' hq' => ?_))
  match r, hq' with
  | .error er, hq' => exact L2N.passAt tak σ pins _ _ er s' I3 hq'
  | .ok (.ret u), hq' =>
    obtain ⟨v, H', I4, rv, ev, q3⟩ := I3.after hq'
    subst ev
    exact ⟨rv, ⟨V.ref (s2.heap.objs.size + 1), H', I4, rfl, q3⟩⟩
  | .ok .next, hq' => exact False.elim hq'
  | .ok .brk, hq' => exact False.elim hq'
  | .ok .cont, hq' => exact False.elim hq'
end
/-- super().m(..), as its def knows it -/
structure SupF (P : Program) (w : World) (K : PySem.W.Frag) (mg : Str → Option Value) (base : Heap) (k : Nat) (C D : Addr) (m x0 : Str) (f cda cc : Addr) (fd : FuncData) (sp : Sp) : Prop where
  ex : ∃ (f2 : Addr) (fd2 : FuncData) (ps : List Str), Sup P K C D m x0 f cda cc f2 fd ∧ FnOk P w K mg base CX0 k f2 fd2 ps sp ∧ Binds K fd2 ps []
theorem psA_supF {X : Cx} {bd rest : List Stmt} {u : TS} {C D f cda cc : Addr} {fd : FuncData} {sp : Sp} {k j i : Nat} {m x0 : Str} {p0 p1 p2 apos pos : Pos} {e : Expr} {es : List Expr} {t : TA}
    (c : SupF X.prog X.w X.K X.mg X.base k C D m x0 f cda cc fd sp) (hr : Room j X.A) (hk : k ≤ j) (hm : X.mg "super" = none) (hN : X.N[i]? = some x0) (ha : PA X (e :: es) t) (h2 : PSs X rest u)
    (hks : X.env.kindOf "super" = some .globalImplicit := by rfl) (hkc : X.env.kindOf "__class__" = some .free := by rfl) (hka : X.env.kindOf x0 = some .local := by rfl) (hcl : X.env.cells.lookup ("__class__" : Str) = some cc := by rfl)
    (hfu : X.env.func = some f := by rfl) (hco : X.env.code = .ref cda := by rfl) (hn : (m == ("__class__" : Str)) = false := by decide)
    (hi : interactive X.env = false := by rfl) (hs : swapsWith (.Call (.Attribute (.Call (.Name "super" p0) [] [] p1) m apos) (e :: es) [] pos) none p2.line X.env = pure false := by rfl)
    (hst : starEach (e :: es) X.env = (false, eval e X.env) :: starEach es X.env := by rfl) (hpl : (backTo pos (starEach es X.env)).any (·.1) = false := by rfl) {pl : Sem Bool}
    (ht : eval (.Call (.Attribute (.Call (.Name "super" p0) [] [] p1) m apos) (e :: es) [] pos) X.env = (do
      let ov ← attributeBase (.Call (.Name "super" p0) [] [] p1) m X.env (eval (.Call (.Name "super" p0) [] [] p1) X.env)
      standAt apos.atName
      let (f, first) ← holding [ov] (getMethod ov m pl)
      callWith pos f first (backTo pos (starEach (e :: es) X.env)) []) := by rfl) :
    PsA X bd (.Expr (.Call (.Attribute (.Call (.Name "super" p0) [] [] p1) m apos) (e :: es) [] pos) p2 :: rest) (tSeq (tSup i C sp [] E0 t) u) := by
  obtain ⟨f2, fd2, ps, S, F, b⟩ := c.ex
  exact psA_sup (pl := pl) S F (hr.mono hk) b .nil pass0 hm hN hks hkc hka hcl hfu hco ha h2 hn hi hs hst hpl ht
/-- an expression that is never reached -/
theorem pe_no {X : Cx} {e : Expr} : PE X e (fun _ _ _ => False) := ⟨fun _ _ _ _ _ _ h => h.elim⟩
end MG

/-! an own error class without own __init__, made without anything; except clauses with and without a name -/
namespace L2N
open PySem PySem.Spec PyProof.Rows L2
section
variable {X : Cx} {C : Addr} {bmB : List Value} {B newId initId : String}
theorem pmk_own0 {x : Str} {p pos : Pos} (F : ExcBaseFacts B newId initId bmB) (q : PySem.W.excIn X.K C bmB newId = true) (gC : X.mg x = some (.ref C)) (kC : PySem.W.keepIn X.K (.ref C) = true) (r : Raises X (.ref C)) (hg : Gl X x)
    (hdb : (x == ("__debug__" : Str)) = false := by decide) : L2N.PMk X (.Call (.Name x p) [] [] pos) (fun _ H Q => Q (.ref C) none H) := by
  intro pins s σ H Q I h
  refine wpAny_Call_Name_kw (ld_glob I hg gC ?_ hdb)
  refine PySem.W.callWith_K0 I.kIn kC ?_
  show wpAny _ _ (call (.ref C) []) _ _ _
  obtain ⟨bm, N, nm, qn, bs, hdct, sn, sub, ab, col, dd, k0, k1, k2, k3, k5, mN, hC, hN, hni, T⟩ := exc_obj I.kIn q
  refine wpAny_call_exc_subT F T hC hN hni (fun h' e hm => ?_) (Nat.zero_le _)
  exact mk_of I hm r h (I.hok.gone hm.new)
end
end L2N
namespace MG
open PySem PySem.Spec PyProof.Rows L2 LamX
structure Exc0 (P : Program) (w : World) (K : PySem.W.Frag) (mg : Str → Option Value) (base : Heap) (x : Str) (C : Addr) : Prop where
  inn : ∃ B newId initId bmB, ExcBaseFacts B newId initId bmB ∧ PySem.W.excIn K C bmB newId = true
  g : mg x = some (.ref C)
  kC : PySem.W.keepIn K (.ref C) = true
  exC : PySem.W.subIn K (.ref C) (.type "BaseException") = some true
  tyC : PySem.W.typeIn K (.ref C) = some (.type "type")
  te : PySem.W.exmOne K (.ref C) (.ref C) = some true
theorem ps_raise0 {X : Cx} {W : WX} {x : Str} {C : Addr} {p pos pos2 : Pos} (T : Exc0 X.prog X.w X.K X.mg X.base x C) (hc : X.calm = true) (tk : L2N.Takes X W) (hg : Gl X x) (hdb : (x == ("__debug__" : Str)) = false := by decide) :
    PS X (.Raise (some (.Call (.Name x p) [] [] pos)) none pos2) (fun _ σ H => W (.ref C) none σ H) := by
  obtain ⟨B, newId, initId, bmB, F, q⟩ := T.inn
  exact L2N.ps_raise hc tk (L2N.pmk_own0 F q T.g T.kC (raises_own T.exC T.tyC) hg hdb)
/-! ### try: .. except x1: .. except x2 as n: .. -/
def wMix (K : PySem.W.Frag) (i len : Nat) (Wz : WX) (D : Ends) : List (Bool × Value × (Addr → Value → Option Addr → TS)) → WX
  | [] => Wz
  | (true, c, ts) :: r => fun cls d τ G => ∃ b, PySem.W.exmOne K cls c = some b ∧
      (b = true → ∀ a, G a = none → τ.length = len → ts a cls d { nx := fun τ' G' => D.nx (τ'.set i none) G', rt := D.rt, bk := fun τ' G' => D.bk (τ'.set i none) G', ct := fun τ' G' => D.ct (τ'.set i none) G' } (τ.set i (some (.ref a))) G) ∧ (b = false → wMix K i len Wz D r cls d τ G)
  | (false, c, ts) :: r => fun cls d τ G => ∃ b, PySem.W.exmOne K cls c = some b ∧ (b = true → ∀ a, G a = none → τ.length = len → ts a cls d D τ G) ∧ (b = false → wMix K i len Wz D r cls d τ G)
inductive ClsMix (X : Cx) (n : Str) : List ExceptHandler → List (Bool × Value × (Addr → Value → Option Addr → TS)) → Prop
  | nil : ClsMix X n [] []
  | named {x : Str} {c : Value} {ts : Addr → Value → Option Addr → TS} {b1 : Stmt} {su : List Stmt} {p1 p2 : Pos} {hs : List ExceptHandler} {l : List (Bool × Value × (Addr → Value → Option Addr → TS))} (hc : Names X x c)
      (hsu : ∀ (a : Addr) (oe : Obj) (cls : Value) (d : Option Addr) (pn : List (Addr × Obj)), L2N.Zn cls d oe → (∃ vs, oe.data = .fields vs) → PSs (X.suite a ((a, oe) :: pn)) (b1 :: su) (ts a cls d)) (r : ClsMix X n hs l) :
      ClsMix X n (.ExceptHandler (some (.Name x p1)) (some n) (b1 :: su) p2 :: hs) ((true, c, ts) :: l)
  | bare {x : Str} {c : Value} {ts : Addr → Value → Option Addr → TS} {b1 : Stmt} {su : List Stmt} {p1 p2 : Pos} {hs : List ExceptHandler} {l : List (Bool × Value × (Addr → Value → Option Addr → TS))} (hc : Names X x c)
      (hsu : ∀ (a : Addr) (oe : Obj) (cls : Value) (d : Option Addr) (pn : List (Addr × Obj)), L2N.Zn cls d oe → (∃ vs, oe.data = .fields vs) → PSs (X.suite a ((a, oe) :: pn)) (b1 :: su) (ts a cls d)) (r : ClsMix X n hs l) :
      ClsMix X n (.ExceptHandler (some (.Name x p1)) none (b1 :: su) p2 :: hs) ((false, c, ts) :: l)
section
variable {X : Cx} {n : Str} {i : Nat} {body : List Stmt} {h1 : ExceptHandler} {hs : List ExceptHandler} {l : List (Bool × Value × (Addr → Value → Option Addr → TS))} {pos : Pos} {tb : WX → TS} {Wz : WX}
theorem ps_mix (hst : X.stack = X.env :: X.outer) (hfr : X.env.frame = some X.env.locals) (hN : X.N.Nodup) (hi : X.N[i]? = some n) (hln : X.env.kindOf n = some .local) (tk : L2N.Takes X Wz)
    (hb : ∀ (W : WX) (pn : List (Addr × Obj)) (xe : Value → Shared → Prop), L2N.Takes (X.tr pn xe) W → PassesOwn (model X.prog X.w) X.A X.env xe → PSs (X.tr pn xe) body (tb W))
    (hh : ClsMix X n (h1 :: hs) l) : PS X (.Try body (h1 :: hs) [] [] pos) (fun D σ H => tb (wMix X.K i X.N.length Wz D l) D σ H) := by
  refine ⟨fun pins s σ H D I h => wpAny_Try_except ?_⟩
  have ok := I.ok
  have fr1 : X.A.frames = some (X.env :: X.outer) := hst ▸ ok.frames
  let xe1 : Value → Shared → Prop := fun e u1 => wpAny (model X.prog X.w) X.A (noteFrame e X.env) (fun _ u2 => wpAny (model X.prog X.w) X.A (setFlight e none) (fun _ u3 => wpAny (model X.prog X.w) X.A (handleBy e X.env (h1 :: hs)) (SP X pins D) X.xe u3) X.xe u2) X.xe u1
  refine wpAny_mono ((hb (wMix X.K i X.N.length Wz D l) (X.pn ++ pins) xe1 (fun u s' xx => ?_) PassesOwn.looking).run [] s σ H D (I.toTry _) h) (fun f t1 ht => ?_) (fun _ _ z => z)
  · obtain ⟨a, B, sI, pins1, σ1, G, cls, d, rfl, J1, nb, up, sky, na, os, ag, wsh⟩ := xx
    have J : Inv X pins σ1 G sI := J1.ofTry ok
    have sky1 : Sky B (X.env :: X.outer) a (L2N.Zn cls d) X.env.locals s'.heap := hst ▸ sky
    show wpAny (model X.prog X.w) X.A (noteFrame (.ref a) X.env) _ _ _
    refine L2N.Sky.land L2N.Zn.steady fr1 hfr sky1 fun k1 fly1 u1 => ?_
    have J2 : Inv X pins σ1 G { s' with heap := k1 } := J.landed nb fly1.1 (up.trans u1) os ag
    obtain ⟨oe1, vs1, he1, hz1, hd1⟩ := fly1.there
    have nfr : a ∉ frs (X.env :: X.outer) := fun hm => by
      obtain ⟨_, o1, e1, z1⟩ := fly1.2.2.1.mem hm
      rw [he1] at e1
      cases e1
      exact z1 _ hd1
    have nL : a ≠ X.env.locals := fun z => nfr (List.mem_filterMap.mpr ⟨X.env, by simp, by rw [hfr, z]⟩)
    have nF : a ∉ X.fs := fun hm => (List.mem_filterMap.mp hm).elim fun e ⟨h2, h3⟩ => nfr (List.mem_filterMap.mpr ⟨e, by simp [h2], h3⟩)
    have S1 := J2.suite he1 hd1 na nL nF
    have lk : PySem.W.Looks (model X.prog X.w) k1 (typeOf (.ref a)) cls := fun A Q E s k q => wpAny_typeOf_ref (k _ _ he1) (hz1.1.symm ▸ q)
    have go : ∀ {hs2 : List ExceptHandler} {l2 : List (Bool × Value × (Addr → Value → Option Addr → TS))}, ClsMix X n hs2 l2 → wMix X.K i X.N.length Wz D l2 cls d σ1 G → wpAny (model X.prog X.w) X.A (handleBy (.ref a) X.env hs2) (SP X pins D) X.xe { s' with heap := k1 } := by
      intro hs2 l2 hk
      induction hk with
      | nil =>
        intro wz
        refine wpAny_handleBy_nil ?_
        obtain ⟨_, _, _, oe2, vs2, T2, _, _, he2, hz2, hd2, hv2, _⟩ := id fly1
        unfold PySem.passOn
        refine wpAny_bind (wpAny_field he2 hd2 hv2 ?_)
        rw [if_neg (show ¬ ((Value.ref T2 == Value.none) = true) by simp)]
        have fin : wpAny (model X.prog X.w) X.A (setFlight (.ref a) X.env.frame) (fun _ t4 => wpAny (model X.prog X.w) X.A (throw (.ref a) : Sem Flow) (SP X pins D) X.xe t4) X.xe { s' with heap := k1 } := by
          rw [hfr]
          exact HandSPX.setFlight_upZ fly1 fun k4 hl4 u4 => wpAny_throw (tk _ _ ⟨a, B, sI, pins, σ1, G, cls, d, rfl, J, nb, (up.trans u1).trans u4, .inr (.inr (hst ▸ hl4)), na, os, ag, wz⟩)
        first | exact wpAny_bind (wpAny_pure (wpAny_bind fin)) | exact wpAny_bind fin
      | @named x c ts b1 su p1 p2 hs3 l3 hc hsu r ih =>
        intro wz
        obtain ⟨b, hb1, yes, no⟩ := wz
        refine wpAny_handleBy_cons (codeAny_handlers_test ?_) nofun
        have LM := PySem.W.exm_one (M := model X.prog X.w) J2.kIn lk hb1
        have test : ∀ {Q : Value → Shared → Prop} {E : Value → Shared → Prop}, Q c { s' with heap := k1 } → wpAny (model X.prog X.w) (X.A.mark (some (.ref a))) (eval (.Name x p1) X.env) Q E { s' with heap := k1 } := fun {Q E} q => by
          rcases hc with ⟨hg, hdb, hm | ⟨hm, hv, hnn⟩⟩
          · exact ld_glob (X := X.suite a ((a, oe1) :: (X.pn ++ pins))) S1 hg hm q hdb
          · exact ld_blt (X := X.suite a ((a, oe1) :: (X.pn ++ pins))) S1 hg hm hv q hnn hdb
        refine test (LM.here ?_)
        match b, yes, no with
        | true, yes, _ =>
          refine codeAny_handlers_suite_as (HandSPX.lands_againZ fly1 fun k4 fly4 u4 => ?_)
          have J4 : Inv X pins σ1 G { s' with heap := k4 } := J.landed nb fly4.1 ((up.trans u1).trans u4) os ag
          obtain ⟨oe4, vs4, he4, hz4, hd4⟩ := fly4.there
          refine store_ok (X := X.suite a ((a, oe4) :: (X.pn ++ pins))) (v := .ref a) (J4.suite he4 hd4 na nL nF) hN hi (.inl hln) rfl (fun t5 S5 => ?_) (.inr hln)
          refine wpAny_mono ((hsu a oe4 cls d (X.pn ++ pins) hz4 ⟨_, hd4⟩).run [] t5 _ G _ S5 (yes rfl a na J.len)) (fun f t6 hf6 => ?_) (fun _ _ z => z.elim)
          have done : ∀ {σ6 : L2.St} {G6 : Hp} {Q : Shared → Prop}, Inv (X.suite a ((a, oe4) :: (X.pn ++ pins))) [] σ6 G6 t6 → (∀ t7, Inv X pins (σ6.set i none) G6 t7 → Q t7) → wpAny (model X.prog X.w) X.A (do bindName X.env n .none; unbindBehindTheSuite X.env n p2) (fun _ t7 => Q t7) X.xe t6 :=
            fun {σ6 G6 Q} S6 hq => gone_ok (S6.unsuite ok) hN hi hln hq
          match f, hf6 with
          | .next, ⟨σ6, G6, S6, q6⟩ => exact done S6 fun t7 J7 => ⟨_, _, J7, q6⟩
          | .brk, ⟨σ6, G6, S6, q6⟩ => exact done S6 fun t7 J7 => ⟨_, _, J7, q6⟩
          | .cont, ⟨σ6, G6, S6, q6⟩ => exact done S6 fun t7 J7 => ⟨_, _, J7, q6⟩
          | .ret u, ⟨v6, σ6, G6, S6, r6, q6⟩ => exact done S6 fun t7 J7 => ⟨_, _, _, J7, r6, q6⟩
        | false, _, no => exact ih (no rfl)
      | @bare x c ts b1 su p1 p2 hs3 l3 hc hsu r ih =>
        intro wz
        obtain ⟨b, hb1, yes, no⟩ := wz
        refine wpAny_handleBy_cons (codeAny_handlers_test ?_) nofun
        have LM := PySem.W.exm_one (M := model X.prog X.w) J2.kIn lk hb1
        have test : ∀ {Q : Value → Shared → Prop} {E : Value → Shared → Prop}, Q c { s' with heap := k1 } → wpAny (model X.prog X.w) (X.A.mark (some (.ref a))) (eval (.Name x p1) X.env) Q E { s' with heap := k1 } := fun {Q E} q => by
          rcases hc with ⟨hg, hdb, hm | ⟨hm, hv, hnn⟩⟩
          · exact ld_glob (X := X.suite a ((a, oe1) :: (X.pn ++ pins))) S1 hg hm q hdb
          · exact ld_blt (X := X.suite a ((a, oe1) :: (X.pn ++ pins))) S1 hg hm hv q hnn hdb
        refine test (LM.here ?_)
        match b, yes, no with
        | true, yes, _ =>
          refine codeAny_handlers_suite (HandSPX.lands_againZ fly1 fun k4 fly4 u4 => ?_)
          have J4 : Inv X pins σ1 G { s' with heap := k4 } := J.landed nb fly4.1 ((up.trans u1).trans u4) os ag
          obtain ⟨oe4, vs4, he4, hz4, hd4⟩ := fly4.there
          refine wpAny_mono ((hsu a oe4 cls d (X.pn ++ pins) hz4 ⟨_, hd4⟩).run [] _ _ G _ (J4.suite he4 hd4 na nL nF) (yes rfl a na J.len)) (fun f t6 hf6 => ?_) (fun _ _ z => z.elim)
          match f, hf6 with
          | .next, ⟨σ6, G6, S6, q6⟩ => exact ⟨_, _, S6.unsuite ok, q6⟩
          | .brk, ⟨σ6, G6, S6, q6⟩ => exact ⟨_, _, S6.unsuite ok, q6⟩
          | .cont, ⟨σ6, G6, S6, q6⟩ => exact ⟨_, _, S6.unsuite ok, q6⟩
          | .ret u, ⟨v6, σ6, G6, S6, r6, q6⟩ => exact ⟨_, _, _, S6.unsuite ok, r6, q6⟩
        | false, _, no => exact ih (no rfl)
    exact go hh wsh
  · match f, ht with
    | .next, ⟨σ1, G, J1, q⟩ => exact wpAny_execs_nil ⟨σ1, G, J1.ofTry ok, q⟩
    | .brk, ⟨σ1, G, J1, q⟩ => exact ⟨σ1, G, J1.ofTry ok, q⟩
    | .cont, ⟨σ1, G, J1, q⟩ => exact ⟨σ1, G, J1.ofTry ok, q⟩
    | .ret u, ⟨v, σ1, G, J1, r, q⟩ => exact ⟨v, σ1, G, J1.ofTry ok, r, q⟩
/-- what is raised said once for all ways -/
theorem ps_mix_cut (hst : X.stack = X.env :: X.outer) (hfr : X.env.frame = some X.env.locals) (hN : X.N.Nodup) (hi : X.N[i]? = some n) (hln : X.env.kindOf n = some .local) (tk : L2N.Takes X Wz)
    (hb : ∀ (W : WX) (pn : List (Addr × Obj)) (xe : Value → Shared → Prop), L2N.Takes (X.tr pn xe) W → PassesOwn (model X.prog X.w) X.A X.env xe → PSs (X.tr pn xe) body (tb W))
    (hh : ClsMix X n (h1 :: hs) l) : PS X (.Try body (h1 :: hs) [] [] pos) (fun D σ H => ∃ Ce : WX, (∀ cls d τ G, Ce cls d τ G → wMix X.K i X.N.length Wz D l cls d τ G) ∧ tb Ce D σ H) :=
  ps_mix (tb := fun W D σ H => ∃ Ce : WX, (∀ cls d τ G, Ce cls d τ G → W cls d τ G) ∧ tb Ce D σ H) hst hfr hN hi hln tk
    (fun W pn xe t po => ⟨fun pins s σ H D I ⟨Ce, imp, q⟩ => (hb Ce pn xe (t.imp imp) po).run pins s σ H D I q⟩) hh
end
/-- o.m() of a method that may raise -/
theorem pe_metX0 {X : Cx} {W : WX} {k j : Nat} {C : Addr} {m : Str} {sp : Sp} {pos apos : Pos} {o : Expr} {ta : TE} {pl : Sem Bool} (c : MetX X.prog X.w X.K X.mg X.base k C m sp) (cl : Cls X.K C) (hr : Room j X.A) (hk : k ≤ j) (tk : L2N.Takes X W) (he : PE X o ta)
    (ht : eval (.Call (.Attribute o m apos) [] [] pos) X.env = (do
      let w1 ← eval o X.env
      standAt apos.atName
      let (g, ahead) ← holding [w1] (getMethod w1 m pl)
      callWith pos g ahead (backTo pos (starEach [] X.env)) (backToKw pos (keywordEach [] X.env))) := by rfl) :
    PE X (.Call (.Attribute o m apos) [] [] pos) (tMethS C m sp [] (WE W) ta tNil) := by
  obtain ⟨f, fd, ps, M, F, b⟩ := c.ex
  refine ⟨fun pins s σ H Q I h => PySem.W.methodCall_KW (pl := pl) (thn (he.run pins s σ H _ I h) fun v t1 ⟨x, H1, I1, rx, a, dx, fs, ex, ea, nl, q⟩ => ?_) ht⟩
  subst ex
  obtain rfl : v = Value.ref a := rx
  refine getmeth_ok I1 ea cl M nl ?_
  exact PySem.W.callWith_K0 (first := [.ref a]) I1.kIn M.kp (run_fnS' (us := [.ref a]) (vs := [.ref a]) F (hr.mono hk) b .nil (L2N.passAt tk σ) I1 (.cons rfl .nil) q)
theorem sl_listK {X : Cx} {K : PySem.W.Frag} (hK : X.K = K := by rfl) : SlR X (rSlL K) := hK ▸ sl_list
end MG

namespace Lw
open PySem PySem.Spec PyProof.Rows L2 MG
section
variable {P : Program} {w : World} {K : PySem.W.Frag} {mg : Str → Option Value} {base : Heap} {C CM CX CS : Addr}
/-- the rows, from k on, of which column k is not 0: behind i of them -/
def fnd (k : Nat) (R : Nat → Nat → Int) (i : Nat) : List Nat := ((List.range i).map (k + ·)).filter fun a => decide (R a k ≠ 0)
theorem fnd_succ {k : Nat} {R : Nat → Nat → Int} {i : Nat} : fnd k R (i + 1) = fnd k R i ++ if R (k + i) k ≠ 0 then [k + i] else [] := by
  unfold fnd
  rw [List.range_succ, List.map_append, List.filter_append]
  by_cases h : R (k + i) k ≠ 0 <;> simp [h]
theorem fnd_mem {k : Nat} {R : Nat → Nat → Int} {i a : Nat} (h : a ∈ fnd k R i) : k ≤ a ∧ a < k + i ∧ R a k ≠ 0 := by
  unfold fnd at h
  rw [List.mem_filter, List.mem_map] at h
  obtain ⟨⟨j, hj, rfl⟩, h2⟩ := h
  have := List.mem_range.mp hj
  exact ⟨by omega, by omega, of_decide_eq_true h2⟩
theorem fnd_nil {k : Nat} {R : Nat → Nat → Int} {i : Nat} (h : fnd k R i = []) : ∀ a, k ≤ a → a < k + i → R a k = 0 := by
  intro a h1 h2
  refine Decidable.byContradiction fun h3 => ?_
  have : a ∈ fnd k R i := by
    unfold fnd
    rw [List.mem_filter, List.mem_map]
    exact ⟨⟨a - k, List.mem_range.mpr (by omega), by omega⟩, decide_eq_true h3⟩
  rw [h] at this
  cases this
theorem dec0 {x : Int} : (!decide (V.int x = V.int 0)) = decide (x ≠ 0) := by
  by_cases h : x = 0 <;> simp [h]
def spPivot (CS : Addr) : Sp := fun vs H Q E => ∃ (Lr : Addr) (n k b : Nat) (P : Dt.Mt) (w : Int) (R : Nat → Nat → Int) (c : Nat → Nat), vs = [.ref Lr, .int k] ∧ LL H Lr n (n + n) R ∧ Dt.Pr n P w b k R c ∧ k < n ∧ n ≤ 100 ∧ (∀ i j, i < n → j < n + n → (R i j).natAbs < 2 ^ 3900) ∧
  (∀ L' H' R' c', Same H H' → LL H' L' n (n + n) R' → Dt.Pr n P w b (k + 1) R' c' → Q (.ref L') H') ∧ ((∀ i, k ≤ i → i < n → R i k = 0) → ∀ H', Same H H' → E (.ref CS) none H')
theorem pr_nonzero {n b k : Nat} {P : Dt.Mt} {w : Int} {R : Nat → Nat → Int} {c : Nat → Nat} (h : Dt.Pr n P w b k R c) (hk : k < n) (hl : R k k ≠ 0) {i : Nat} (hi : i < n) (hne : i ≠ k) : ∃ j, j < n + n ∧ R k k * R i j - R i k * R k j ≠ 0 := by
  refine ⟨c i, h.cl i hi, ?_⟩
  rw [h.ze i k hi hk (Ne.symm hne), Int.mul_zero, Int.sub_zero]
  exact Int.mul_ne_zero hl (h.ne i hi)
theorem sc_with_pivot : FnScope ["rows", "column", "at", "found", "pivot_row", "others", "k", "row"] ["rows", "column"] (defScope s_with_pivot) := ⟨rfl, rfl, rfl, by decide +kernel, rfl, by decide +kernel, by decide +kernel⟩
theorem ok_pivot {f : Addr} {fd : FuncData} (F : Fun K "with_pivot" "with_pivot" s_with_pivot f fd) (T : TxM K mg C CM) (x_sing : Exc0 P w K mg base "Singular" CS) (c_cleared : ClearedC P w K mg base) : FnOk P w K mg base (L2N.CX P w) 6 f fd ["rows", "column"] (spPivot CS) := by
  refine fun_okN F sc_with_pivot (fun vs H Q E h => ?_) (fun cdv A outer s H vs Q E hr h => ?_)
  · obtain ⟨Lr, n, k, b, P, w, R, c, rfl, _⟩ := h
    rfl
  · obtain ⟨Lr, n, k, b, Pm, w', R, c, rfl, hLL, hPr, hk, hn, hb, kQ, kE⟩ := h
    refine ⟨_, (pss_cons (ps_lcI (ps_setLc (i := 3) (own := [("at", 2)]) rfl sc_with_pivot.nd rfl rfl (sw_true rfl rfl rfl (by decide +kernel)) (pi_range2 (by rfl) T.b_range (pa_cons (pv 1) (pa_cons (pe_callB (id := "len") (call_len_seqK (K := K)) (by rfl) T.b_len (by decide +kernel) (pa_cons (pv 0) pa_nil)) pa_nil))) (blkOk_by (N := ["rows", "column", "at", "found", "pivot_row", "others", "k", "row"]) (sc := (defScope s_with_pivot)) (by decide +kernel)) (fun _ _ _ _ _ => (pg_name (i := 2) sc_with_pivot.nd rfl (Or.inl rfl))) (fun _ _ _ _ _ => (pts_one (pt_cmpR op_ne (pe_ix (ix_listK (K := K)) (pe_ix (ix_listK (K := K)) (pv 0) (pv 2) (fun _ _ => rfl)) (pv 1) (fun _ _ => rfl)) pe_int (nomark _)))) (fun _ _ _ _ _ => (pe_cut (pv 2)))))
  (pss_cons (ps_if (pt_not (pt_truthK (K := K) (pv 3) (by intro _; rfl))) (pss_one (ps_raise0 x_sing rfl (L2N.takes_of rfl rfl rfl rfl) rfl))
  pss_nil)
  (pss_cons (ps_set (i := 2) sc_with_pivot.nd rfl (Or.inr rfl) (pe_ix (ix_listK (K := K)) (pv 3) pe_int (fun _ _ => rfl)))
  (pss_cons (ps_set (i := 4) sc_with_pivot.nd rfl (Or.inr rfl) (pe_ix (ix_listK (K := K)) (pv 0) (pv 2) (fun _ _ => rfl)))
  (pss_cons (ps_lcI (ps_setLc (i := 5) (own := [("k", 6), ("row", 7)]) rfl sc_with_pivot.nd rfl rfl (sw_true rfl rfl rfl (by decide +kernel)) (pi_enumK (K := K) (by rfl) T.b_enumerate (pa_cons (pv 0) pa_nil)) (blkOk_by (N := ["rows", "column", "at", "found", "pivot_row", "others", "k", "row"]) (sc := (defScope s_with_pivot)) (by decide +kernel)) (fun _ _ _ _ _ => (pg_tupK (K := K) (n := 2) rfl (pgs_cons (pg_name (i := 6) sc_with_pivot.nd rfl (Or.inl rfl)) (pgs_cons (pg_name (i := 7) sc_with_pivot.nd rfl (Or.inl rfl)) pgs_nil)))) (fun _ _ _ _ _ => pts_nil) (fun _ _ _ _ _ => (pe_cut (pe_ifExp (pt_cmpR op_eq (pv 6) (pv 2) (nomark _)) (pe_ix (ix_listK (K := K)) (pv 0) (pv 1) (fun _ _ => rfl)) (pv 7))))))
  (pss_one (ps_ret (pe_lcI (pe_lc (own := [("k", 6), ("row", 7)]) rfl sc_with_pivot.nd (pi_enumK (K := K) (by rfl) T.b_enumerate (pa_cons (pv 5) pa_nil)) (blkOk_by (N := ["rows", "column", "at", "found", "pivot_row", "others", "k", "row"]) (sc := (defScope s_with_pivot)) (by decide +kernel)) (fun _ _ _ _ _ => (pg_tupK (K := K) (n := 2) rfl (pgs_cons (pg_name (i := 6) sc_with_pivot.nd rfl (Or.inl rfl)) (pgs_cons (pg_name (i := 7) sc_with_pivot.nd rfl (Or.inl rfl)) pgs_nil)))) (fun _ _ _ _ _ => pts_nil) (fun _ _ _ _ _ => (pe_cut (pe_ifExp (pt_cmpR op_eq (pv 6) (pv 1) (nomark _)) (pv 4) (pe_cf c_cleared hr (by decide) rfl (pa_cons (pv 7) (pa_cons (pv 4) (pa_cons (pv 1) pa_nil)))))))))))))))), ?_⟩
    obtain ⟨rs, eL, hl, hrow⟩ := id hLL
    -- found = [at for at in range(column, len(rows)) if rows[at][column] != 0]
    refine ⟨_, rfl, _, rfl, Lr, rs, rfl, .inl (SqL.of eL), (k : Int), (n : Int), by rw [hl], ⟨by omega, by omega, by omega, by omega⟩, fun D hD => ?_⟩
    have hnk : ((n : Int) - (k : Int)).toNat = n - k := by omega
    rw [hnk]
    refine lc_filt (walk_range (lo := (k : Int)) (n := n - k)) hD (by omega) (fun i ys G => Same H G ∧ ys = (fnd k R i).map fun a => V.int (a : Nat)) ⟨hid_none hD, rfl⟩ (fun i ys G _ _ _ => trivial) (fun i x ys G G' hi p e hy => ?_) fun ys H1 e1 p1 => ?_
    · obtain ⟨rfl, rfl⟩ := hy
      obtain ⟨sG, rfl⟩ := p
      have sG' : Same H G' := sG.trans (hid_same D G')
      have ei : V.int ((k : Int) + (i : Nat)) = V.int ((k + i : Nat) : Int) := by rw [Int.natCast_add]
      have hx : rs[k + i]? = some rs[k + i] := List.getElem?_eq_getElem (by omega)
      obtain ⟨p, ep, hp⟩ := hrow (k + i) _ hx
      have hr2 : (rowV (n + n) (R (k + i)))[k]? = some (V.int (R (k + i) k)) := rowV_at (by omega)
      refine ⟨_, decide (R (k + i) k ≠ 0), fun _ h => h, wipe_one, fun Q2 h => ⟨_, rfl, _, rfl, Lr, _, _, _, rfl, ei, SqL.of (sG' _ _ eL), atI_nat hx, _, rfl, p, _, _, _, ep, rfl, SqL.of (sG' _ _ hp), atI_nat hr2, rfl, _, rfl, ?_⟩, fun hb => ⟨e, sG, ?_⟩, fun hb => ⟨fun y H4 => y = V.int ((k : Int) + (i : Nat)) ∧ H4 = G', ⟨_, rfl, rfl, rfl⟩, ?_⟩⟩
      · rw [dec0]; exact h
      · rw [fnd_succ, if_neg (of_decide_eq_false hb), List.append_nil]
      · rintro y H4 ⟨rfl, rfl⟩
        refine ⟨e, sG, ?_⟩
        rw [fnd_succ, if_pos (of_decide_eq_true hb), List.map_append]
        show _ = _ ++ [V.int ((k + i : Nat) : Int)]
        rw [ei]
    obtain ⟨s1, rfl⟩ := p1
    have sH1 : Same H H1 := s1.trans (hid_same D H1)
    -- if not found: raise Singular()
    refine ⟨_, rfl, !((fnd k R (n - k)).map fun a => V.int (a : Nat)).isEmpty, .inl ⟨_, SqL.of e1, rfl⟩, ?_⟩
    cases eF : fnd k R (n - k) with
    | nil =>
      refine ifT rfl ?_
      exact kE (fun i h1 h2 => fnd_nil eF i h1 (by omega)) H1 sH1
    | cons a0 rest =>
    refine ifF rfl ?_
    obtain ⟨a1, a2, a3⟩ := fnd_mem (k := k) (R := R) (i := n - k) (a := a0) (by rw [eF]; exact List.mem_cons_self)
    have ha0 : a0 < n := by omega
    rw [eF, List.map_cons] at e1
    -- at = found[0]; pivot_row = rows[at]
    have hx0 : rs[a0]? = some rs[a0] := List.getElem?_eq_getElem (by omega)
    obtain ⟨p0, ep0, hp0⟩ := hrow a0 _ hx0
    rw [ep0] at hx0
    refine ⟨_, rfl, D, _, _, _, rfl, rfl, SqL.of e1, atI_nat (j := 0) rfl, ?_⟩
    refine ⟨_, rfl, _, rfl, Lr, _, _, _, rfl, rfl, SqL.of (sH1 _ _ eL), atI_nat hx0, ?_⟩
    -- others = [rows[column] if k == at else row for k, row in enumerate(rows)]
    have hxk : rs[k]? = some rs[k] := List.getElem?_eq_getElem (by omega)
    obtain ⟨pk, epk, hpk⟩ := hrow k _ hxk
    rw [epk] at hxk
    have hs := Dt.pr_swap hPr hk ha0 a1
    have ek : R (Dt.sw k a0 k) = R a0 := by simp [Dt.sw]
    have es : ∀ i, i ≠ k → R (Dt.sw k a0 i) = if i = a0 then R k else R i := fun i hi => by
      by_cases e : i = a0
      · subst e; simp [Dt.sw, hi]
      · simp [Dt.sw, hi, e]
    have hl0 : R (Dt.sw k a0 k) k ≠ 0 := by rw [ek]; exact a3
    have old : ∀ {p : Addr} {o : HO} {D2 : Addr} {G : Hp}, H p = some o → H1 D2 = none → Same H1 G → (hid D2 G) p = some o := fun {p o D2 G} e n s => by
      have e' := sH1 _ _ e
      have : p ≠ D2 := fun q => by rw [q, n] at e'; cases e'
      rw [hid_ne this]; exact s _ _ e'
    refine ⟨_, rfl, Lr, _, rfl, SqL.of (sH1 _ _ eL), fun D2 hD2 => ?_⟩
    refine lc_same walk_enum hD2 (by omega) (RowR (n + n) fun i => if i = a0 then R k else R i) rowR_same (fun G s => SqL.of (s _ _ (sH1 _ _ eL))) ypair_same (fun i x H2 H2' hi s2 _ hy => ?_) fun ys2 H2 hl2 s2 e2 h2 => ?_
    · obtain ⟨T2, x1, x2, rfl, hT2, rfl, hx1, hx2⟩ := hy
      obtain rfl : V.int (i : Nat) = x1 := Option.some.inj hx1
      have sT := MG.Same.new (o := .tup [.int (i : Nat), x2]) s2 hT2
      obtain ⟨p, rfl, hp⟩ := hrow i x2 hx2
      refine ⟨_, tg2 upd_same, rfl, ?_⟩
      refine ⟨_, rfl, _, rfl, rfl, _, rfl, ?_⟩
      refine ite2 (fun z => ?_) (fun z => ?_)
      · have z1 : i = a0 := by have := V.int.inj (of_decide_eq_true z); omega
        refine ⟨_, rfl, _, rfl, Lr, _, _, _, rfl, rfl, SqL.of (sT _ _ (sH1 _ _ eL)), atI_nat hxk, Same.refl _, fun _ => ⟨pk, rfl, ?_⟩⟩
        show _ = some (HO.lst (rowV (n + n) (if i = a0 then R k else R i)))
        rw [if_pos z1]
        exact old hpk hD2 sT
      · have z1 : i ≠ a0 := fun q => z (decide_eq_true (by rw [q]))
        refine ⟨_, rfl, Same.refl _, fun _ => ⟨p, rfl, ?_⟩⟩
        show _ = some (HO.lst (rowV (n + n) (if i = a0 then R k else R i)))
        rw [if_neg z1]
        exact old hp hD2 sT
    have sH2 : Same H H2 := sH1.trans s2
    have hl2' : ys2.length = n := hl2.trans hl
    -- return [pivot_row if k == column else cleared(row, pivot_row, column) for k, row in enumerate(others)]
    refine ⟨_, rfl, D2, _, rfl, SqL.of e2, fun D3 hD3 => ?_⟩
    refine lc_same walk_enum hD3 (by omega) (fun i y G => ∃ p g', y = .ref p ∧ G p = some (.lst (rowV (n + n) g')) ∧ (i = k → g' = R a0) ∧ (i ≠ k → Clr (n + n) k (if i = a0 then R k else R i) (R a0) g')) (fun i y G G' ⟨p, g', e, h, c⟩ s => ⟨p, g', e, s _ _ h, c⟩) (fun G s => SqL.of (s _ _ e2)) ypair_same (fun i x H3 H3' hi s3 nD3 hy => ?_) fun ys3 H3 hl3 s3 e3 h3 => ?_
    · obtain ⟨T2, x1, x2, rfl, hT2, rfl, hx1, hx2⟩ := hy
      obtain rfl : V.int (i : Nat) = x1 := Option.some.inj hx1
      have hin : i < n := by omega
      have sT := MG.Same.new (o := .tup [.int (i : Nat), x2]) s3 hT2
      obtain ⟨p, rfl, hp⟩ := h2 i x2 hx2
      have hp' : H2 p = some (.lst (rowV (n + n) (if i = a0 then R k else R i))) := hid_same D2 H2 _ _ hp
      refine ⟨_, tg2 upd_same, rfl, ?_⟩
      refine ⟨_, rfl, _, rfl, rfl, _, rfl, ?_⟩
      have old3 : ∀ {p : Addr} {o : HO} {G : Hp}, H2 p = some o → Same H2 G → (hid D3 G) p = some o := fun {p o G} e s => by
        have : p ≠ D3 := fun q => by rw [q, hD3] at e; cases e
        rw [hid_ne this]; exact s _ _ e
      refine ite2 (fun z => ?_) (fun z => ?_)
      · have z1 : i = k := by have := V.int.inj (of_decide_eq_true z); omega
        exact ⟨_, rfl, Same.refl _, fun _ => ⟨p0, R a0, rfl, old3 (sH2 _ _ hp0) sT, fun _ => rfl, fun q => absurd z1 q⟩⟩
      · have z1 : i ≠ k := fun q => z (decide_eq_true (by rw [q]))
        refine ⟨_, rfl, _, rfl, _, rfl, p, p0, n + n, k, (if i = a0 then R k else R i), R a0, rfl, sT _ _ hp', sT _ _ (sH2 _ _ hp0), by omega, by omega, fun j hj => ?_, fun j hj => hb a0 j ha0 hj, fun _ => ?_, fun L' H4 g' hn' s4 e4 cl => ⟨s4, fun ⟨l, hl⟩ => ?_⟩⟩
        · by_cases e : i = a0
          · rw [if_pos e]; exact hb k j hk hj
          · rw [if_neg e]; exact hb i j hin hj
        · have := pr_nonzero hs hk hl0 hin z1
          rw [ek, es i z1] at this
          exact this
        · have nL : L' ≠ D3 := by
            rcases hn' with rfl | hn'
            · exact fun q => by rw [q, hD3] at hp'; cases hp'
            · exact fun q => nD3 (q ▸ hn')
          exact ⟨L', g', rfl, by rw [hid_ne nL]; exact e4, fun q => absurd q z1, fun _ => cl⟩
    have sel : ∃ R' : Nat → Nat → Int, (∀ (i : Nat) (y : V), ys3[i]? = some y → RowR (n + n) R' i y (hid D3 H3)) ∧ (∀ i, i < n → (i = k → R' i = R a0) ∧ (i ≠ k → Clr (n + n) k (if i = a0 then R k else R i) (R a0) (R' i))) := by
      have pick : ∀ i : Nat, ∃ g : Nat → Int, ∀ y : V, ys3[i]? = some y → (∃ p, y = V.ref p ∧ (hid D3 H3) p = some (.lst (rowV (n + n) g))) ∧ (i = k → g = R a0) ∧ (i ≠ k → Clr (n + n) k (if i = a0 then R k else R i) (R a0) g) := fun i => by
        cases e : ys3[i]? with
        | none => exact ⟨fun _ => 0, fun y hy => by cases hy⟩
        | some y =>
          obtain ⟨p, g, e1, e2, e3, e4⟩ := h3 i y e
          refine ⟨g, fun y' hy' => ?_⟩
          cases hy'
          exact ⟨⟨p, e1, e2⟩, e3, e4⟩
      refine ⟨fun i => (pick i).choose, fun i y hy => ((pick i).choose_spec y hy).1, fun i hi => ?_⟩
      have hy : ys3[i]? = some ys3[i] := List.getElem?_eq_getElem (by omega)
      exact ((pick i).choose_spec _ hy).2
    obtain ⟨R', hR', cR'⟩ := sel
    refine kQ D3 H3 R' _ (sH2.trans s3) (ll_of e3 (hl3.trans hl2') hR') (Dt.pr_step hs hk hl0 (fun j _ => by rw [(cR' k hk).1 rfl, ek]) fun i hi hne => ?_)
    rw [es i hne, ek]
    rcases (cR' i hi).2 hne with ⟨c1, c2⟩ | c
    · exact .inl ⟨c1, c2⟩
    · exact .inr c
abbrev PivotC (P : Program) (w : World) (K : PySem.W.Frag) (mg : Str → Option Value) (base : Heap) (CS : Addr) : Prop := CalX P w K mg base 6 "with_pivot" (spPivot CS)
end
end Lw

/-! enumerate of a tuple -/
namespace MG
open PySem PySem.Spec PyProof.Rows L2
open AutoSeq1 (wpAny_loadPart')
theorem meets_enumT (t : Addr) (items : Array Value) (m : Nat) (dc : Option Addr) (sq : Array (Option Value)) :
    Meets (Builtin.«enumerate.__new__» ⟨[.type "enumerate", .ref t], []⟩) (fun _ R s => s.heap.get? t = some { cls := .type "tuple", dict := dc, data := .seq items m, slots := sq } ∧
      R (.ok (.ret (.ref (s.heap.push { cls := .type "tuple_iterator", data := .fields #[.ref t, .int 0 0] }).objs.size)))
        { s with heap := (s.heap.push { cls := .type "tuple_iterator", data := .fields #[.ref t, .int 0 0] }).push { cls := .type "enumerate", data := .fields #[.none, .bool false, .ref s.heap.objs.size, rawInt 0, .none, .none] } }) :=
  .of_wp fun prog w A R s hh => by
    obtain ⟨hp, g, d, tk, os⟩ := s
    obtain ⟨hl, fin⟩ := hh
    have hsub := sub_enumerate
    have hT : Heap.IsTuple (Shared.heap ⟨hp, g, d, tk, os⟩) t items := ⟨_, hl, rfl, m, rfl⟩
    wp_walk using wpAny_loadPart' hl
    refine wpAny_stack_any fun st => wpAny_pure ?_
    split
    · rename_i c _ _ _ _ _
      cases (c == Value.type "enumerate") <;>
      · wp_walk using wpAny_loadPart' hl, wpAny_pyIter_tuple hT
        exact ⟨_, rfl, fin⟩
    · wp_walk using wpAny_loadPart' hl, wpAny_pyIter_tuple hT
      exact ⟨_, rfl, fin⟩
section
/-- enumerate(t): its two new objects -/
theorem call_enumT {prog : Program} {w : World} {A : Around} {E : Value → Shared → Prop} {s : Shared} {t : Addr} {items : Array Value} {Q : Value → Shared → Prop} (hT : s.heap.IsTuple t items)
    (k : ∀ g, IsEnum g (s.heap.objs.size + 1) s.heap.objs.size 0 .none → g.IsTupleIter s.heap.objs.size t 0 → (∀ b o, s.heap.get? b = some o → g.get? b = some o) → Q (.ref (s.heap.objs.size + 1)) { s with heap := g }) :
    wpAny (model prog w) A (call (.type "enumerate") [.ref t]) Q E s := by
  obtain ⟨⟨c, dc, dt, sq⟩, hl, hc, m, hd⟩ := hT
  obtain rfl : c = .type "tuple" := hc
  obtain rfl : dt = .seq items m := hd
  refine callType_new F.called_enumerate (by decide) (F.typeCall_enumerate_1 _) (F.newCall_enumerate_1 _) (fun obj => F.args_object_init_2 obj _) F.entry_enumerate_new (meets_enumT t items m dc sq) ⟨hl, ?_⟩
  generalize ei : ({ cls := .type "tuple_iterator", data := .fields #[.ref t, .int 0 0] } : Obj) = oi
  have fi : oi.isFreed = false := by rw [← ei]; rfl
  have sz : (s.heap.push oi).objs.size = s.heap.objs.size + 1 := Heap.size_push ..
  show _ ∧ _
  rw [sz]
  have he : IsEnum ((s.heap.push oi).push { cls := .type "enumerate", data := .fields #[.none, .bool false, .ref s.heap.objs.size, rawInt 0, .none, .none] }) (s.heap.objs.size + 1) s.heap.objs.size 0 .none := by
    have q := Heap.get?_push_size (s.heap.push oi) (o := { cls := .type "enumerate", data := .fields #[.none, .bool false, .ref s.heap.objs.size, rawInt 0, .none, .none] }) rfl
    rw [sz] at q
    exact q
  exact ⟨⟨_, he, rfl⟩, k _ he ⟨_, Heap.get?_push_of_some _ (Heap.get?_push_size _ fi), by rw [← ei], by rw [← ei]; rfl⟩ fun b o y => Heap.get?_push_of_some _ (Heap.get?_push_of_some _ y)⟩
theorem enumT_end {prog : Program} {w : World} {A : Around} {E : Value → Shared → Prop} {s : Shared} {e it t : Addr} {i : Nat} {items : Array Value} {old : Value} {Q : Option Value → Shared → Prop} (hh : A.handled = none)
    (he : IsEnum s.heap e it i old) (hit : s.heap.IsTupleIter it t i) (ht : s.heap.IsTuple t items) (hx : items[i]? = none)
    (k : ∀ g, Heap.ExtBut it s.heap g → Q none { s with heap := g }) : wpAny (model prog w) A (pyNext (.ref e)) Q E s := by
  have ty : s.TypeIs (.ref e) "enumerate" := ⟨_, he, rfl⟩
  unfold pyNext
  refine wpAny_bind (wpAny_attempt (wpAny_callSpecial?_slot (name := Str.ofString "__next__") ty F.slot_enumerate_next (wpAny_call_entry F.slot_enumerate_next ty F.entry_enumerate_next ?_ (F.args_enumerate_next_1 _))))
  show wpAny _ _ (field (.ref e) 2 >>= _) _ _ _
  refine wpAny_bind (wpAny_field he rfl (x := .ref it) rfl (wpAny_bind (wpAny_nextOf_tuple_end hh hit ht hx fun g x eb ⟨o, ho, hc⟩ => ?_)))
  exact wpAny_bind (wpAny_isInstance (T := "StopIteration") (b := true) ⟨o, ho, hc⟩ isSubtype_stop (wpAny_pure (k _ eb)))
/-- the tuple at a as it stands at each turn, each item in a new pair -/
def IteT (K : PySem.W.Frag) (a : Addr) : It :=
  ⟨fun i H => ∃ (xs : List V) (x : V), SqT K H a xs ∧ xs[i]? = some x, fun i H v H' => ∃ T x, v = .ref T ∧ H T = none ∧ H' = upd H T (.tup [.int (i : Nat), x]) ∧ ∀ xs, SqT K H a xs → xs[i]? = some x, fun i H => ∃ xs : List V, SqT K H a xs ∧ xs.length ≤ i⟩
theorem turn_enumT {P : Program} {w : World} {K : PySem.W.Frag} {elts : List Expr} {kk : Nat} {tpos : Pos} (a e it : Addr) :
    Turn P w K (.Tuple elts kk tpos) (IteT K a) [e, it] e (fun i h => (∃ old, IsEnum h e it ((i : Nat) : Int) old) ∧ h.IsTupleIter it a i ∧ e ≠ it) where
  mem := List.mem_cons_self
  obj := fun i h ⟨⟨old, he⟩, ⟨o, ho, hc, hd⟩, _⟩ b hb => by
    rcases (show b = e ∨ b = it by simpa using hb) with rfl | rfl
    · exact ⟨_, he, fun v q => nomatch q⟩
    · exact ⟨o, ho, fun v q => by rw [hd] at q; cases q⟩
  keep := fun i h h' ⟨⟨old, he⟩, hi, hne⟩ k => ⟨⟨old, k e (by simp) _ he⟩, hi.at fun o q => k it (by simp) o q, hne⟩
  item := by
    intro X hP hw hK hc i pins s σ H E I hf st hg
    subst hP hw hK
    obtain ⟨⟨old, he⟩, hit, hne⟩ := st
    obtain ⟨xs, x, hq, hx⟩ := hg
    obtain ⟨its, rv, pt, _⟩ := I.tuple hq
    obtain ⟨u, hu, ru⟩ := rv.get hx
    have lt1 : e < s.heap.objs.size := Heap.lt_size he
    have lt2 : it < s.heap.objs.size := hit.elim fun _ q => Heap.lt_size q.1
    have nt : a ≠ it := fun z => by
      obtain ⟨o1, q1, c1, _⟩ := pt
      obtain ⟨o2, q2, c2, _⟩ := hit
      rw [z, q2] at q1
      obtain rfl := Option.some.inj q1
      exact absurd (Value.type.inj (c2.symm.trans c1)) (by decide)
    have ne : a ≠ e := fun z => by
      obtain ⟨o1, q1, c1, _⟩ := pt
      rw [z, he] at q1
      obtain rfl := Option.some.inj q1
      exact absurd (Value.type.inj c1) (by decide)
    have hlt : i < its.toArray.size := by
      rw [List.size_toArray]
      exact (List.getElem?_eq_some_iff.mp hu).1
    refine wpAny_pyNext_enum_itemD (Draws.tuple (A := X.A.in1) (show X.A.in1.handled = none from I.ok.hd hc) it a nt its.toArray) he ⟨hit, pt⟩ hlt hne (by simp [hne, Ne.symm ne]) fun x1 h1 tk hx1 ho st1 hT _ hk => ?_
    have ex1 : x1 = u := by
      have hu' : its.toArray[i]? = some u := by simpa using hu
      rw [hu'] at hx1
      exact (Option.some.inj hx1).symm
    subst ex1
    refine ⟨_, rfl, wpAny_letOwnedTupleGo_enum (s := { s with heap := h1, toks := tk + 1 }) ho fun h2 he2 sb => ?_⟩
    have hT2 : h2.get? s.heap.objs.size = some { cls := .type "tuple", data := .seq #[.int i tk, x1] } := (sb.2 _ (Nat.ne_of_gt lt1)).trans hT
    have new : ObjOk X.prog X.w (upd H s.heap.objs.size (.tup [.int (i : Nat), x])) h2 s.heap.objs.size (.tup [.int (i : Nat), x]) :=
      ⟨by show 2 ≤ sizeLine; decide, [.int i tk, x1], .cons ⟨_, rfl⟩ (.cons ru .nil), ⟨_, hT2, rfl, _, rfl⟩⟩
    have J : Inv X pins σ (upd H s.heap.objs.size (.tup [.int (i : Nat), x])) { s with heap := h2, toks := tk + 1 } :=
      I.turnedNew (ch := [e, it]) (fun b ob hb q => (sb.2 b (fun z => hb (by simp [z]))).trans (hk b ob (fun z => hb (by simp [z])) (fun z => hb (by simp [z])) q)) hf (Nat.le_refl _) new
    refine ⟨.ref s.heap.objs.size, _, J, rfl, ⟨_, x, rfl, I.hok.fresh (Nat.le_refl _), rfl, fun ys hy => by rw [I.tuple_inj hy hq]; exact hx⟩, ⟨⟨x1, by rw [show ((i + 1 : Nat) : Int) = (i : Int) + 1 by omega]; exact he2⟩, st1.1.at fun o q => (sb.2 it (Ne.symm hne)).trans q, hne⟩, fun b hb => ?_⟩
    have hb' : b < s.heap.objs.size := by
      rcases (show b = e ∨ b = it by simpa using hb) with rfl | rfl
      · exact lt1
      · exact lt2
    rw [upd_ne (Nat.ne_of_lt hb')]
    exact (hf b hb).1
  done := by
    intro X hP hw hK hc i pins s σ H E I hf st hg
    subst hP hw hK
    obtain ⟨⟨old, he⟩, hit, hne⟩ := st
    obtain ⟨xs, hq, hx⟩ := hg
    obtain ⟨its, rv, pt, _⟩ := I.tuple hq
    obtain ⟨f0, f1, f2, f3, f4, f5⟩ := hf it (by simp)
    have ll := rv.length
    refine enumT_end (I.ok.hd hc) he hit pt (by simp; omega) fun h1 eb => ⟨rfl, I.turned (t' := s.toks) (fun b o hb q => eb b o hb q) f0 f1 f3 f4 f5⟩
  self := fun A i s Q E ⟨⟨_, he⟩, _⟩ h => wpAny_pyIter_enum he h
end
end MG

/-! enumerate of a tuple, as it is walked -/
namespace MG
open PySem PySem.Spec PyProof.Rows L2
def iEnumT (K : PySem.W.Frag) (ta : TA) : TI := fun σ H R => ta σ H fun vs H1 => ∃ a xs, vs = [.ref a] ∧ SqT K H1 a xs ∧ R (IteT K a) H1
theorem pi_enumT {X : Cx} {K : PySem.W.Frag} {e : Expr} {ta : TA} {p pos tpos : Pos} {elts : List Expr} {kk : Nat} (hg : Gl X "enumerate") (hm : X.mg "enumerate" = none) (ha : PA X [e] ta) (hs : starEach [e] X.env = [(false, eval e X.env)] := by rfl) (hK : X.K = K := by rfl) :
    PI X (.Tuple elts kk tpos) (.Call (.Name "enumerate" p) [e] [] pos) (iEnumT K ta) := by
  subst hK
  refine ⟨fun pins s σ H R I h => Call_ (ld_blt I hg hm boot_enumerate (PyProof.Rows.callWith_type1 (thn (ha.run pos pins s σ H _ I h) fun us t1 ⟨vs, H1, I1, r1, a, xs, ev, hq, q⟩ => ?_) hs rfl))⟩
  subst ev
  cases r1 with
  | cons r rr =>
    cases rr
    cases r
    obtain ⟨its, rv, pt, _⟩ := I1.tuple hq
    refine call_enumT pt fun g he hit hk => wpAny_pyIter_enum he ?_
    have J : Inv X pins σ H1 { t1 with heap := g } := I1.kept (t' := t1.toks) hk
    refine ⟨t1.heap.objs.size + 1, [t1.heap.objs.size + 1, t1.heap.objs.size], _, _, H1, rfl, J, turn_enumT a (t1.heap.objs.size + 1) t1.heap.objs.size, ⟨⟨.none, he⟩, hit, Nat.succ_ne_self _⟩, fun b hb => ?_, q⟩
    have le : t1.heap.objs.size ≤ b := by
      rcases (show b = t1.heap.objs.size + 1 ∨ b = t1.heap.objs.size by simpa using hb) with rfl | rfl
      · exact Nat.le_succ _
      · exact Nat.le_refl _
    exact I1.fpOk le (I1.hok.fresh le)
theorem walk_enumT {K : PySem.W.Frag} {a : Addr} {xs : List V} : Walk (IteT K a) xs.length (fun H => SqT K H a xs) (YPair (fun i => some (.int (i : Nat))) (fun i => xs[i]?)) := by
  refine ⟨fun i _ hi q => ⟨xs, xs[i], q, List.getElem?_eq_getElem hi⟩, fun _ q => ⟨xs, q, Nat.le_refl _⟩, fun i H v H' _ q y => ?_⟩
  obtain ⟨T, x, y1, y2, y3, y4⟩ := y
  exact ⟨T, .int (i : Nat), x, y1, y2, y3, rfl, y4 xs q⟩
end MG

namespace Lw
open PySem PySem.Spec PyProof.Rows L2 MG StX
section
variable {P : Program} {w : World} {K : PySem.W.Frag} {mg : Str → Option Value} {base : Heap} {C CM CX CS : Addr}
theorem rowV_app {n : Nat} {z u : Nat → Int} : rowV n z ++ rowV n u = rowV (n + n) fun j => if j < n then z j else u (j - n) := by
  refine List.ext_getElem? fun i => ?_
  by_cases h : i < n
  · rw [List.getElem?_append_left (by rw [rowV_len]; exact h), rowV_at h, rowV_at (by omega), if_pos h]
  · by_cases h2 : i < n + n
    · rw [List.getElem?_append_right (by rw [rowV_len]; omega), rowV_len, rowV_at (by omega), rowV_at h2, if_neg h]
    · rw [List.getElem?_eq_none (by rw [List.length_append, rowV_len, rowV_len]; omega), List.getElem?_eq_none (by rw [rowV_len]; omega)]
theorem rowV_cut {n : Nat} {g : Nat → Int} : cutV (rowV (n + n) g) (some (n : Int)) none = rowV n fun s => g (n + s) := by
  unfold cutV
  rw [HT.sIx_nat, HT.sIx_none, rowV_len, show min n (n + n) = n by omega]
  refine List.ext_getElem? fun i => ?_
  by_cases h : i < n
  · rw [List.getElem?_take_of_lt (by omega), List.getElem?_drop, rowV_at (by omega), rowV_at h]
  · rw [List.getElem?_eq_none (by rw [List.length_take, List.length_drop, rowV_len]; omega), List.getElem?_eq_none (by rw [rowV_len]; omega)]
def spBeside (C : Addr) : Sp := fun vs H Q _ => ∃ (a : Addr) (xs : List V) (n i : Nat) (g : Nat → Rat) (U : Nat), vs = [.ref a, .int i] ∧ H a = some (.tup xs) ∧ xs.length = n ∧ n ≤ 100 ∧ i < n ∧ (∀ (j : Nat) (y : V), xs[j]? = some y → RC C H y (g j)) ∧ 0 < U ∧ U < 10 ^ 90 ∧
  (∀ j, j < n → (g j).den ∣ U ∧ Bd (g j) 100) ∧ ∀ (L : Addr) (H' : Hp) (z : Nat → Int) (b : Nat), H L = none → Same H H' → H' L = some (.lst (rowV (n + n) fun j => if j < n then z j else if j - n = i then (b : Int) else 0)) → 0 < b → b ∣ U → (∀ j, j < n → Rat.divInt (z j) b = g j) → Q (.ref L) H'
theorem sc_beside_unit : FnScope ["row", "place", "tops", "bottom", "index"] ["row", "place"] (defScope s_beside_unit) := ⟨rfl, rfl, rfl, by decide +kernel, rfl, by decide +kernel, by decide +kernel⟩
theorem ok_beside {f : Addr} {fd : FuncData} (F : Fun K "beside_unit" "beside_unit" s_beside_unit f fd) (T : TxM K mg C CM) (c_oob : OobT P w K mg base C) : FnOk P w K mg base CX0 8 f fd ["row", "place"] (spBeside C) := by
  refine F.ok sc_beside_unit (fun vs H Q E h => ?_) (fun cdv A outer s H vs Q E hr h => ?_)
  · obtain ⟨a, xs, n, i, g, U, rfl, _⟩ := h
    rfl
  · obtain ⟨a, xs, n, i, g, U, rfl, ha, hl, hn, hi, hc, hU, hU2, hg, k⟩ := h
    refine ⟨_, (pss_cons (ps_asg (pe_cf c_oob hr (by decide) rfl (pa_cons (pv 0) pa_nil)) (pg_tupK (K := K) (n := 2) rfl (pgs_cons (pg_name (i := 2) sc_beside_unit.nd rfl (Or.inl rfl)) (pgs_cons (pg_name (i := 3) sc_beside_unit.nd rfl (Or.inr rfl)) pgs_nil))))
  (pss_one (ps_ret (pe_lst (pa_star (pv 2) (pa_star (pe_lcI (pe_lc (own := [("index", 4)]) rfl sc_beside_unit.nd (pi_range1 (by rfl) T.b_range (pa_cons (pe_callB (id := "len") (call_len_seqK (K := K)) (by rfl) T.b_len (by decide +kernel) (pa_cons (pv 0) pa_nil)) pa_nil)) (blkOk_by (N := ["row", "place", "tops", "bottom", "index"]) (sc := (defScope s_beside_unit)) (by decide +kernel)) (fun _ _ _ _ _ => (pg_name (i := 4) sc_beside_unit.nd rfl (Or.inl rfl))) (fun _ _ _ _ _ => pts_nil) (fun _ _ _ _ _ => (pe_cut (pe_ifExp (pt_cmpR op_eq (pv 4) (pv 1) (nomark _)) (pv 3) pe_int))))) pa_nil)))))), ?_⟩
    refine ⟨_, rfl, a, xs, n, g, U, rfl, ha, hl, by omega, hc, hU, hU2, hg, fun T1 L H1 z b s1 _ _ ov => ?_⟩
    refine ⟨T1, _, rfl, SqT.of ov.at_, rfl, _, _, rfl, _, _, rfl, rfl, ?_⟩
    refine ⟨_, rfl, L, _, rfl, .inr (SqL.of ov.li), ?_⟩
    refine ⟨_, rfl, a, xs, rfl, .inr (SqT.of (s1 _ _ ha)), (n : Int), by rw [hl], by omega, by omega, fun D hD => ?_⟩
    have hn' : ((n : Int)).toNat = n := by omega
    rw [hn']
    refine lc_same (walk_range (lo := 0) (n := n)) hD (by omega) (fun j y _ => y = .int (if j = i then (b : Int) else 0)) (fun _ _ _ _ h _ => h) (fun G s => trivial) yfn_same (fun j x H2 H2' hj s2 _ hy => ?_) fun ys H2 hl2 s2 e2 h2 => ?_
    · obtain ⟨rfl, rfl⟩ := hy
      refine ⟨_, fun _ h => h, wipe_one, ?_⟩
      refine ⟨_, rfl, _, rfl, rfl, _, rfl, ?_⟩
      refine ite2 (fun q => ?_) (fun q => ?_)
      · have q1 : j = i := by have := V.int.inj (of_decide_eq_true q); omega
        exact ⟨_, rfl, Same.refl _, fun _ => by rw [if_pos q1]⟩
      · have q1 : j ≠ i := fun e => q (decide_eq_true (by rw [e]; show V.int (0 + (i : Int)) = V.int i; rw [Int.zero_add]))
        exact ⟨Same.refl _, fun _ => by rw [if_neg q1]⟩
    have e3 : ys = rowV n fun j => if j = i then (b : Int) else 0 := ints_of hl2 h2
    subst e3
    refine ⟨D, _, rfl, .inr (SqL.of e2), ?_⟩
    refine ⟨Nat.le_trans (m := 200) (by rw [List.append_nil, List.length_append, rowV_len, rowV_len]; omega) (by decide), fun p hp => ?_⟩
    refine k p _ z b ((s1.trans s2).free hp) ((s1.trans s2).trans (MG.Same.new (Same.refl _) hp)) ?_ ov.pos ov.dvd ov.val
    rw [upd_same, List.append_nil, rowV_app]
abbrev BesideC (P : Program) (w : World) (K : PySem.W.Frag) (mg : Str → Option Value) (base : Heap) (C : Addr) : Prop := CalF P w K mg base 8 "beside_unit" (spBeside C) []
theorem den_qv {A : Nat → Nat → Int} {u : Int} (hu : u ≠ 0) (i j : Nat) : (qv A u i j).den ∣ u.natAbs := by
  show (Rat.divInt (A i j) u).den ∣ _
  rw [Rat.den_divInt, if_neg hu]
  exact Nat.div_dvd_of_dvd (Int.gcd_dvd_natAbs_left u (A i j))
theorem den_of {r c : Nat} {A : Nat → Nat → Int} {u : Int} (hu : 0 < u) (h : u ≤ 900) : Den r c (qv A u) u.natAbs := ⟨by omega, by omega, fun i j _ _ => den_qv (by omega) i j⟩
/-- the product of two tables of ints -/
def mulZ (n : Nat) (A B : Nat → Nat → Int) : Nat → Nat → Int := fun i k => smZ n fun j => A i j * B j k
theorem mul_qv {n : Nat} {A B : Nat → Nat → Int} {u v : Int} (hu : u ≠ 0) (hv : v ≠ 0) (i k : Nat) : mulQ n (qv A u) (qv B v) i k = qv (mulZ n A B) (u * v) i k := (sum_div hu hv).symm
theorem mul_bn {r n c k : Nat} {A B : Nat → Nat → Int} {u v : Int} (hn : n ≤ 99) (bA : Bn r n A u k) (bB : Bn n c B v k) : Bn r c (mulZ n A B) (u * v) (2 * k + 2) :=
  ⟨Int.mul_pos bA.pos bB.pos, two_abs bA.ub bB.ub, fun i j hi hj => dot_abs hn fun m hm => ⟨bA.ab i m hi hm, bB.ab m j hm hj⟩⟩
/-! ### the inverse of a table -/
theorem fac_bits : ∀ n, n ≤ 6 → Dt.fac n * (10 ^ 110) ^ n < 2 ^ 3900 := by
  have h : (List.range 7).all (fun n => decide (Dt.fac n * (10 ^ 110) ^ n < 2 ^ 3900)) = true := by decide +kernel
  intro n hn
  exact of_decide_eq_true (List.all_eq_true.mp h n (List.mem_range.mpr (by omega)))
theorem fac_pos {n : Nat} : 1 ≤ Dt.fac n := by
  induction n with
  | zero => exact Nat.le_refl _
  | succ n ih => exact Nat.mul_le_mul (Nat.succ_le_succ (Nat.zero_le n)) ih
theorem fac_ge {n : Nat} (h : 0 < n) : 10 ^ 110 ≤ Dt.fac n * (10 ^ 110) ^ n := by
  have h1 : (10 ^ 110) ^ 1 ≤ (10 ^ 110) ^ n := Nat.pow_le_pow_right (by decide) h
  have h2 := Nat.mul_le_mul (fac_pos (n := n)) h1
  rw [Nat.one_mul, Nat.pow_one] at h2
  exact h2
/-- n rows and columns: P's columns over w -/
structure Sq (n : Nat) (f : Nat → Nat → Rat) (P : Dt.Mt) (w : Nat) : Prop where
  n0 : 0 < n
  n6 : n ≤ 6
  w0 : 0 < w
  wb : w < 10 ^ 90
  val : ∀ i j, i < n → j < n → f i j = Rat.divInt (P j i) w
  bd : ∀ i j, i < n → j < n → (P j i).natAbs < 10 ^ 110
def Sing (n : Nat) (P : Dt.Mt) : Prop := ∃ v : Nat → Int, (∃ k, k < n ∧ v k ≠ 0) ∧ ∀ r, r < n → Dt.sm n (fun m => v m * P m r) = 0
structure Rinv (n : Nat) (P : Dt.Mt) (w : Nat) (Y : Nat → Nat → Int) (d : Int) : Prop where
  d0 : d ≠ 0
  db : d.natAbs ≤ 10 ^ 110
  tot : ∀ j r, j < n → r < n → Dt.sm n (fun m => Y m j * P m r) = if j = r then d else 0
  yb : ∀ i s, i < n → s < n → ((w : Int) * Y i s).natAbs ≤ 10 ^ 110
def spInvd (C CS : Addr) : Sp := fun vs H Q E => ∃ (t : Addr) (n : Nat) (f : Nat → Nat → Rat) (P : Dt.Mt) (w : Nat), vs = [.ref t] ∧ Tb (RC C) H t n n f ∧ Sq n f P w ∧ Bds n n f 100 ∧
  ((Sing n P ∧ ∀ H', Same H H' → E (.ref CS) none H') ∨ ∃ Y d, Rinv n P w Y d ∧ ∀ p H', Same H H' → Tb (RC C) H' p n n (fun i s => Rat.divInt (w * Y i s) d) → Q (.ref p) H')
theorem sc_inverted : FnScope ["entries", "size", "rows", "column", "place", "row", "top"] ["entries"] (defScope s_inverted) := ⟨rfl, rfl, rfl, by decide +kernel, rfl, by decide +kernel, by decide +kernel⟩
theorem ok_invd {f : Addr} {fd : FuncData} (F : Fun K "inverted" "inverted" s_inverted f fd) (T : TxM K mg C CM) (c_beside : BesideC P w K mg base C) (c_pivot : PivotC P w K mg base CS) (m_rat2 : Rat2C P w K mg base C) : FnOk P w K mg base (L2N.CX P w) 10 f fd ["entries"] (spInvd C CS) := by
  refine fun_okN F sc_inverted (fun vs H Q E h => ?_) (fun cdv A outer s H vs Q E hr h => ?_)
  · obtain ⟨t, n, f, Pm, w', rfl, _⟩ := h
    rfl
  · obtain ⟨t, n, f, Pm, w', rfl, hT, sq, bT, hk⟩ := h
    refine ⟨_, (pss_cons (ps_set (i := 1) sc_inverted.nd rfl (Or.inr rfl) (pe_callB (id := "len") (call_len_seqK (K := K)) (by rfl) T.b_len (by decide +kernel) (pa_cons (pv 0) pa_nil)))
  (pss_cons (ps_lcI (ps_setLc (i := 2) (own := [("place", 4), ("row", 5)]) rfl sc_inverted.nd rfl rfl (sw_true rfl rfl rfl (by decide +kernel)) (pi_enumT (K := K) (by rfl) T.b_enumerate (pa_cons (pv 0) pa_nil)) (blkOk_by (N := ["entries", "size", "rows", "column", "place", "row", "top"]) (sc := (defScope s_inverted)) (by decide +kernel)) (fun _ _ _ _ _ => (pg_tupK (K := K) (n := 2) rfl (pgs_cons (pg_name (i := 4) sc_inverted.nd rfl (Or.inl rfl)) (pgs_cons (pg_name (i := 5) sc_inverted.nd rfl (Or.inl rfl)) pgs_nil)))) (fun _ _ _ _ _ => pts_nil) (fun _ _ _ _ _ => (pe_cut (pe_cf c_beside hr (by decide) rfl (pa_cons (pv 5) (pa_cons (pv 4) pa_nil)))))))
  (pss_cons (ps_for (passes_of rfl) rfl (pi_range1 (by rfl) T.b_range (pa_cons (pv 1) pa_nil)) (pg_name (i := 3) sc_inverted.nd rfl (Or.inl rfl))
  (pss_one (ps_set (i := 2) sc_inverted.nd rfl (Or.inl rfl) (pe_calX c_pivot hr (by decide) (L2N.takes_of rfl rfl rfl rfl) rfl (pa_cons (pv 2) (pa_cons (pv 3) pa_nil))))))
  (pss_one (ps_ret (pe_callTy (call_tuple_ofK (K := K)) (by rfl) T.b_tuple (by decide +kernel) (pa_cons (pe_lcI (pe_lc (own := [("place", 4), ("row", 5)]) rfl sc_inverted.nd (pi_enumK (K := K) (by rfl) T.b_enumerate (pa_cons (pv 2) pa_nil)) (blkOk_by (N := ["entries", "size", "rows", "column", "place", "row", "top"]) (sc := (defScope s_inverted)) (by decide +kernel)) (fun _ _ _ _ _ => (pg_tupK (K := K) (n := 2) rfl (pgs_cons (pg_name (i := 4) sc_inverted.nd rfl (Or.inr rfl)) (pgs_cons (pg_name (i := 5) sc_inverted.nd rfl (Or.inr rfl)) pgs_nil)))) (fun _ _ _ _ _ => pts_nil) (fun _ _ _ _ _ => (pe_cut (pe_callTy (call_tuple_ofK (K := K)) (by rfl) T.b_tuple (by decide +kernel) (pa_cons (pe_lcI (pe_lc (own := [("top", 6)]) rfl sc_inverted.nd (pi_listK (K := K) (pe_slice (sl_listK (K := K)) (pv 5) (po_some (pv 1)) po_none)) (blkOk_by (N := ["entries", "size", "rows", "column", "place", "row", "top"]) (sc := ({ kind := .function, names := [(PySem.Str.ofString ".0", .local), (PySem.Str.ofString "place", .cell), (PySem.Str.ofString "row", .cell), (PySem.Str.ofString "tuple", .globalImplicit), (PySem.Str.ofString "size", .cell)], isGenerator := false, isCoroutine := false } : Scope)) (by decide +kernel)) (fun _ _ _ _ _ => (pg_name (i := 6) sc_inverted.nd rfl (Or.inl rfl))) (fun _ _ _ _ _ => pts_nil) (fun _ _ _ _ _ => (pe_cut (pe_mkf m_rat2 hr (by decide) rfl (pa_cons (pv 6) (pa_cons (pe_ix (ix_listK (K := K)) (pv 5) (pv 4) (fun _ _ => rfl)) pa_nil))))))) pa_nil)))))) pa_nil))))))), ?_⟩
    obtain ⟨rs, et, hl, hrow⟩ := id hT
    obtain ⟨n0, n6, w0, wb, val, bd⟩ := id sq
    -- size = len(entries)
    refine ⟨_, rfl, t, rs, rfl, .inr (SqT.of et), ?_⟩
    -- rows = [beside_unit(row, place) for place, row in enumerate(entries)]
    refine ⟨_, rfl, t, _, rfl, SqT.of et, fun D hD => ?_⟩
    have ofR : ∀ i j, i < n → j < n → (f i j).den ∣ w' := fun i j hi hj => by
      rw [val i j hi hj]
      have := den_qv (A := fun i j => Pm j i) (u := (w' : Int)) (by omega) i j
      rwa [Int.natAbs_natCast] at this
    refine lc_same walk_enumT hD (by omega) (fun i y G => ∃ (p : Addr) (z : Nat → Int) (b : Nat), y = .ref p ∧ G p = some (.lst (rowV (n + n) fun j => if j < n then z j else if j - n = i then (b : Int) else 0)) ∧ 0 < b ∧ b ∣ w' ∧ ∀ j, j < n → Rat.divInt (z j) b = f i j) (fun i y G G' ⟨p, z, b, e, h, c⟩ s => ⟨p, z, b, e, s _ _ h, c⟩) (fun G s => SqT.of (s _ _ et)) ypair_same (fun i x H1 H1' hi s1 nD hy => ?_) fun ys H1 hl1 s1 e1 h1 => ?_
    · obtain ⟨T2, x1, x2, rfl, hT2, rfl, hx1, hx2⟩ := hy
      obtain rfl : V.int (i : Nat) = x1 := Option.some.inj hx1
      have sT := MG.Same.new (o := .tup [.int (i : Nat), x2]) s1 hT2
      obtain ⟨p, xs, rfl, hp, hxl, hc⟩ := (hrow i x2 hx2).same (rc_mono C) sT
      refine ⟨_, tg2 upd_same, rfl, ?_⟩
      refine ⟨_, rfl, _, rfl, p, xs, n, i, f i, w', rfl, hp, hxl, by omega, by omega, hc, w0, wb, fun j hj => ⟨ofR i j (by omega) hj, bT i j (by omega) hj⟩, fun L H2 z b fr s2 e2 b0 bd' v2 => ⟨s2, fun ⟨l, hl⟩ => ?_⟩⟩
      have nL : L ≠ D := fun q => nD (q ▸ fr)
      exact ⟨L, z, b, rfl, by rw [hid_ne nL]; exact e2, b0, bd', v2⟩
    have sel : ∃ (zz : Nat → Nat → Int) (bb : Nat → Nat), (∀ (i : Nat) (y : V), ys[i]? = some y → RowR (n + n) (fun i j => if j < n then zz i j else if j - n = i then (bb i : Int) else 0) i y (hid D H1)) ∧ ∀ i, i < n → 0 < bb i ∧ bb i ∣ w' ∧ ∀ j, j < n → Rat.divInt (zz i j) (bb i) = f i j := by
      have pick : ∀ i : Nat, ∃ (g : Nat → Int) (b : Nat), ∀ y : V, ys[i]? = some y → (∃ p, y = V.ref p ∧ (hid D H1) p = some (.lst (rowV (n + n) fun j => if j < n then g j else if j - n = i then (b : Int) else 0))) ∧ 0 < b ∧ b ∣ w' ∧ ∀ j, j < n → Rat.divInt (g j) b = f i j := fun i => by
        cases e : ys[i]? with
        | none => exact ⟨fun _ => 0, 0, fun y hy => by cases hy⟩
        | some y =>
          obtain ⟨p, g, b, e1, e2, e3, e4, e5⟩ := h1 i y e
          refine ⟨g, b, fun y' hy' => ?_⟩
          cases hy'
          exact ⟨⟨p, e1, e2⟩, e3, e4, e5⟩
      refine ⟨fun i => (pick i).choose, fun i => (pick i).choose_spec.choose, fun i y hy => ((pick i).choose_spec.choose_spec y hy).1, fun i hi => ?_⟩
      have hy : ys[i]? = some ys[i] := List.getElem?_eq_getElem (by omega)
      exact ((pick i).choose_spec.choose_spec _ hy).2
    obtain ⟨zz, bb, hR0, hbb⟩ := sel
    have hl1' : ys.length = n := hl1.trans hl
    have hLL0 : LL H1 D n (n + n) (fun i j => if j < n then zz i j else if j - n = i then (bb i : Int) else 0) := ll_of e1 hl1' hR0
    have wne : (w' : Int) ≠ 0 := by omega
    have eqz : ∀ i j, i < n → j < n → zz i j * (w' : Int) = Pm j i * (bb i : Int) := fun i j hi hj => by
      obtain ⟨b0, _, v⟩ := hbb i hi
      have := (v j hj).trans (val i j hi hj)
      exact (Rat.divInt_eq_divInt_iff (by omega) wne).mp this
    have hPr0 : Dt.Pr n Pm w' (10 ^ 110) 0 (fun i j => if j < n then zz i j else if j - n = i then (bb i : Int) else 0) (fun i => n + i) := by
      refine Dt.pr_init (bot := fun i => (bb i : Int)) (fun i hi => ?_) (fun i j hi hj => ?_) (fun i j hi hj => ?_) wne (fun i j hi hj => ?_)
      · have := (hbb i hi).1
        omega
      · have := eqz i j hi hj
        simp only [if_pos hj]
        rw [Int.mul_comm, this, Int.mul_comm]
      · have h1 : ¬ n + j < n := by omega
        have h2 : n + j - n = j := by omega
        simp only [if_neg h1, h2]
      · obtain ⟨b0, bd', _⟩ := hbb i hi
        have bw : bb i ≤ w' := Nat.le_of_dvd w0 bd'
        by_cases e : j < n
        · simp only [if_pos e]
          have h1 := eqz i j hi e
          have h2 := congrArg Int.natAbs h1
          rw [Int.natAbs_mul, Int.natAbs_mul, Int.natAbs_natCast, Int.natAbs_natCast] at h2
          have h3 : (Pm j i).natAbs * bb i ≤ (Pm j i).natAbs * w' := Nat.mul_le_mul_left _ bw
          rw [← h2] at h3
          exact Nat.le_trans (Nat.le_of_mul_le_mul_right h3 w0) (Nat.le_of_lt (bd i j hi e))
        · simp only [if_neg e]
          split
          · rw [Int.natAbs_natCast]
            exact Nat.le_trans bw (Nat.le_trans (Nat.le_of_lt wb) (Nat.pow_le_pow_right (by decide) (by decide)))
          · exact Nat.zero_le _
    have hβ : ∀ j r, j < n + n → r < n → (Dt.bw n Pm w' j r).natAbs ≤ 10 ^ 110 := fun j r hj hr => by
      unfold Dt.bw
      split
      · rename_i e; exact Nat.le_of_lt (bd r j hr e)
      · split
        · rw [Int.natAbs_natCast]
          exact Nat.le_trans (Nat.le_of_lt wb) (Nat.pow_le_pow_right (by decide) (by decide))
        · exact Nat.zero_le _
    have small : ∀ {k : Nat} {R : Nat → Nat → Int} {c : Nat → Nat}, Dt.Pr n Pm w' (10 ^ 110) k R c → ∀ i j, i < n → j < n + n → (R i j).natAbs < 2 ^ 3900 := fun {k R c} h i j hi hj =>
      Nat.lt_of_le_of_lt (h.abs wne hβ (fac_ge n0) hi hj) (fac_bits n n6)
    -- for column in range(size): rows = with_pivot(rows, column)
    refine ⟨_, rfl, (n : Int), by rw [hl], by omega, by omega, ?_⟩
    have hn' : ((n : Int)).toNat = n := by omega
    rw [hn']
    refine for_range (lo := 0) (n := n) (fun i σ G => Same H G ∧ ∃ (Lr : Addr) (R : Nat → Nat → Int) (c : Nat → Nat) (v3 : Option V), σ = [some (.ref t), some (.int n), some (.ref Lr), v3, none, none, none] ∧ LL G Lr n (n + n) R ∧ Dt.Pr n Pm w' (10 ^ 110) i R c) ⟨s1, D, _, _, none, ?_, hLL0, hPr0⟩ ?_ ?_
    · rw [hl]; rfl
    · rintro i σ G hi ⟨sG, Lr, R, c, v3, rfl, hLL, hPr⟩
      have ei : V.int (0 + (i : Int)) = V.int (i : Int) := by rw [Int.zero_add]
      refine ⟨_, rfl, _, rfl, Lr, n, i, 10 ^ 110, Pm, w', R, c, by rw [ei], hLL, hPr, hi, by omega, small hPr, fun L' G' R' c' s' h' p' => ?_, fun hz G' s' => ?_⟩
      · exact ⟨sG.trans s', L', R', c', _, rfl, h', p'⟩
      · obtain ⟨v, h1, h2⟩ := Dt.pr_none hPr hi hz
        rcases hk with ⟨_, kE⟩ | ⟨Y, d, hI, _⟩
        · exact kE G' (sG.trans s')
        · exact absurd (Dt.ker0 (P := Pm) (Y := Y) (d := fun _ => d) (fun _ _ => hI.d0) hI.tot h2 i hi) h1
    rintro σ G ⟨sG, Lr, R, c, v3, rfl, hLL, hPr⟩
    rcases hk with ⟨⟨v, ⟨k, hk, hv⟩, hz⟩, _⟩ | ⟨Y, d, hI, kQ⟩
    · exact absurd (Dt.pr_sing hPr wne hz k hk) hv
    obtain ⟨dn, _⟩ := Dt.pr_end hPr
    obtain ⟨rs2, e2, hl2, hrow2⟩ := id hLL
    -- return tuple([tuple([Ratio(top, row[place]) for top in row[size:]]) for place, row in enumerate(rows)])
    refine ⟨_, rfl, Lr, _, rfl, SqL.of e2, fun D2 hD2 => ?_⟩
    refine lc_same walk_enum hD2 (by omega) (fun i y G => Rw (RC C) G y n (fun s => Rat.divInt (w' * Y i s) d)) (fun i y G G' h s => h.same (rc_mono C) s) (fun G' s => SqL.of (s _ _ e2)) ypair_same (fun i x H3 H3' hi s3 nD3 hy => ?_) fun ys3 H3 hl3 s3 e3 h3 => ?_
    · obtain ⟨T2, x1, x2, rfl, hT2, rfl, hx1, hx2⟩ := hy
      obtain rfl : V.int (i : Nat) = x1 := Option.some.inj hx1
      have hin : i < n := by omega
      have sT := MG.Same.new (o := .tup [.int (i : Nat), x2]) s3 hT2
      obtain ⟨p, rfl, hp⟩ := hrow2 i x2 hx2
      refine ⟨_, tg2 upd_same, rfl, ?_⟩
      have ecut : cutV (rowV (n + n) (R i)) (some (n : Int)) none = rowV n fun s => R i (n + s) := rowV_cut
      refine ⟨_, rfl, _, rfl, (n : Int), rfl, p, _, rfl, SqL.of (sT _ _ hp), fun p2 hp2 => ⟨p2, rfl, ⟨rowV n fun s => R i (n + s), SqL.of (by rw [upd_same, ecut])⟩, fun D5 hD5 => ?_⟩⟩
      rw [ecut] at hD5 ⊢
      have sU := MG.Same.new (o := .lst (rowV n fun s => R i (n + s))) sT hp2
      have fin := Dt.pr_fin hPr hI.d0 hI.tot (Nat.le_refl _) hI.db hI.yb hin (j := i) (by omega)
      have smi : Sm (R i i) := smI (k := 111) (Nat.lt_of_le_of_lt fin (by decide)) (by decide)
      refine lc_same (walk_list (K := K) (a := p2) (xs := rowV n fun s => R i (n + s))) hD5 (by rw [rowV_len]; omega) (fun s y G' => RC C G' y (Rat.divInt (w' * Y i s) d)) (fun s y G' G'' h q => (rc_mono C).same h q) (fun G' q => SqL.of (q _ _ upd_same)) yat_same (fun s x H5 H5' hs s5 _ hy5 => ?_) fun ys5 H5 hl5 s5 e5 h5 => ?_
      · obtain ⟨rfl, hx5⟩ := hy5
        obtain ⟨hs', rfl⟩ := rowV_get hx5
        refine ⟨_, fun _ h => h, wipe_one, ?_⟩
        refine ⟨_, rfl, _, rfl, _, rfl, p, _, _, _, rfl, rfl, SqL.of (s5 _ _ (sU _ _ hp)), atI_nat (rowV_at (by omega)), ?_⟩
        refine make_rat (Q := fun y H4 => Same H5' H4 ∧ ((∃ l, H4 D5 = some (.lst l)) → RC C (hid D5 H4) y (Rat.divInt (w' * Y i s) d))) (dn i hin) smi fun r' H6 _ s6 h6 => ⟨s6, fun ⟨l, hl⟩ => (rc_mono C).hid ⟨r', rfl, ?_⟩ hl⟩
        have ev : Rat.divInt (R i (n + s)) (R i i) = Rat.divInt (w' * Y i s) d := by
          rw [Rat.divInt_eq_divInt_iff (dn i hin) hI.d0]
          have := Dt.pr_same hPr hI.tot hin hs'
          rw [this]
          grind
        rw [← ev]
        exact h6
      refine ⟨D5, ys5, rfl, .inl ⟨SqL.of e5, fun T8 hT8 => ⟨(MG.Same.new (Same.refl _) hp2).trans (s5.trans (MG.Same.new (Same.refl _) hT8)), fun ⟨l, hl⟩ => ?_⟩⟩⟩
      exact (rw_new (rc_mono C) (hid_same D5 H5) hT8 (hl5.trans rowV_len) h5).hid (rc_mono C) hl
    refine ⟨D2, ys3, rfl, .inl ⟨SqL.of e3, fun T5 hT5 => ?_⟩⟩
    exact kQ T5 _ ((sG.trans s3).trans (MG.Same.new (Same.refl _) hT5)) (tb_new (rc_mono C) (hid_same D2 H3) hT5 (hl3.trans hl2) h3)
abbrev InvdC (P : Program) (w : World) (K : PySem.W.Frag) (mg : Str → Option Value) (base : Heap) (C CS : Addr) : Prop := CalX P w K mg base 10 "inverted" (spInvd C CS)
end
end Lw

namespace Lw
open PySem PySem.Spec PyProof.Rows L2 MG
abbrev s_Matrix__check_square : Stmt := inClass (top 33) 10
abbrev s_Matrix_inverse : Stmt := inClass (top 33) 8
abbrev s_Matrix_trace : Stmt := inClass (top 33) 9
section
variable {P : Program} {w : World} {K : PySem.W.Frag} {mg : Str → Option Value} {base : Heap} {C CM CX CS : Addr}
theorem rat_at {H : Hp} {x dx : Addr} {a b : Int} {R : Hp → Prop} (hx : H x = none) (hdx : H dx = none) (hne : dx ≠ x) (hb : b ≠ 0) (sb : Sm b) (k : ∀ H', Same H H' → RatAt C H' x (Rat.divInt a b) → R H') :
    spInit C [.ref x, .int a, .int b] (upd (upd H dx (.own x)) x (.ins C dx [])) (fun v H2 => v = .non ∧ R H2) E0 :=
  ⟨x, dx, a, b, rfl, upd_same, hb, sb, fun H' e kp => ⟨rfl, k H' (fun c o hc => by
    have n1 := ne_of_none hc hx
    have n2 := ne_of_none hc hdx
    exact kp c o (by rw [upd_ne n1, upd_ne n2]; exact hc) n1) ⟨dx, e⟩⟩⟩
def spSq (C CM CX : Addr) : Sp := fun vs H Q E => ∃ (a : Addr) (r c : Nat) (f : Nat → Nat → Rat), vs = [.ref a] ∧ MtAt C CM H a r c f ∧ 0 < r ∧ (r = c → Q .non H) ∧ (r ≠ c → Rsd2 CX H (.int r) (.int c) E)
theorem sc_Matrix__check_square : FnScope ["self"] ["self"] (defScope s_Matrix__check_square) := ⟨rfl, rfl, rfl, by decide +kernel, rfl, by decide +kernel, by decide +kernel⟩
theorem ok_sq {f : Addr} {fd : FuncData} (F : Fun K "_check_square" "Matrix._check_square" s_Matrix__check_square f fd) (T : TxM K mg C CM) (x_mis : XmC P w K mg base CX) (pm_rows : RowsC P w K mg base C CM) (pm_columns : ColumnsC P w K mg base C CM) : FnOk P w K mg base (L2N.CX P w) 6 f fd ["self"] (spSq C CM CX) := by
  refine fun_okN F sc_Matrix__check_square (fun vs H Q E h => ?_) (fun cdv A outer s H vs Q E hr h => ?_)
  · obtain ⟨a, r, c, f, rfl, _⟩ := h
    rfl
  · obtain ⟨a, r, c, f, rfl, hA, hr0, k1, k2⟩ := h
    refine ⟨_, (pss_one (ps_if (pt_cmpR op_ne (pe_pf pm_rows T.clM hr (by decide) (pv 0) rfl) (pe_pf pm_columns T.clM hr (by decide) (pv 0) rfl) (nomark _)) (pss_one (ps_raise2 x_mis hr (by decide) rfl (L2N.takes_of rfl rfl rfl rfl) rfl (pa_cons (pe_pf pm_rows T.clM hr (by decide) (pv 0) rfl) (pa_cons (pe_pf pm_columns T.clM hr (by decide) (pv 0) rfl) pa_nil))))
  pss_nil)), ?_⟩
    obtain ⟨dx, t, ea, _⟩ := id hA
    refine ⟨_, rfl, a, dx, _, rfl, ea, a, r, c, f, rfl, hA, _, rfl, a, dx, _, rfl, ea, a, r, c, f, rfl, hA, hr0, rfl, _, rfl, ?_⟩
    by_cases heq : r = c
    · exact ifF (by simp [heq]) (k1 heq)
    · refine ifT (by simp; omega) ?_
      exact ⟨_, rfl, a, dx, _, rfl, ea, a, r, c, f, rfl, hA, _, rfl, a, dx, _, rfl, ea, a, r, c, f, rfl, hA, hr0, _, _, rfl, fun d H' s n e => k2 heq d H' s n e⟩
abbrev SqC (P : Program) (w : World) (K : PySem.W.Frag) (mg : Str → Option Value) (base : Heap) (C CM CX : Addr) : Prop := MetX P w K mg base 6 CM "_check_square" (spSq C CM CX)
def spMInv (C CM CX CS : Addr) : Sp := fun vs H Q E => ∃ (a : Addr) (r c : Nat) (f : Nat → Nat → Rat), vs = [.ref a] ∧ MtAt C CM H a r c f ∧ 0 < r ∧ (r ≠ c → Rsd2 CX H (.int r) (.int c) E) ∧
  (r = c → ∃ P w, Sq r f P w ∧ Bds r r f 100 ∧ ((Sing r P ∧ ∀ H', Same H H' → E (.ref CS) none H') ∨ ∃ Y d, Rinv r P w Y d ∧ ∀ m H', Same H H' → MtAt C CM H' m r r (fun i s => Rat.divInt (w * Y i s) d) → Q (.ref m) H'))
theorem sc_Matrix_inverse : FnScope ["self"] ["self"] (defScope s_Matrix_inverse) := ⟨rfl, rfl, rfl, by decide +kernel, rfl, by decide +kernel, by decide +kernel⟩
theorem ok_minv {f : Addr} {fd : FuncData} (F : Fun K "inverse" "Matrix.inverse" s_Matrix_inverse f fd) (T : TxM K mg C CM) (m_sq : SqC P w K mg base C CM CX) (c_invd : InvdC P w K mg base C CS) (m_mat : MatC P w K mg base C CM) : FnOk P w K mg base (L2N.CX P w) 12 f fd ["self"] (spMInv C CM CX CS) := by
  refine fun_okN F sc_Matrix_inverse (fun vs H Q E h => ?_) (fun cdv A outer s H vs Q E hr h => ?_)
  · obtain ⟨a, r, c, f, rfl, _⟩ := h
    rfl
  · obtain ⟨a, r, c, f, rfl, hA, hr0, k1, k2⟩ := h
    refine ⟨_, (pss_cons (ps_expr (pe_metX0 m_sq T.clM hr (by decide) (L2N.takes_of rfl rfl rfl rfl) (pv 0)))
  (pss_one (ps_ret (pe_mkf m_mat hr (by decide) rfl (pa_cons (pe_calX c_invd hr (by decide) (L2N.takes_of rfl rfl rfl rfl) rfl (pa_cons (pe_fldK (K := K) (pv 0) rfl) pa_nil)) pa_nil))))), ?_⟩
    obtain ⟨dx, t, ea, hT⟩ := id hA
    refine ⟨_, rfl, a, dx, _, rfl, ea, rfl, a, r, c, f, rfl, hA, hr0, fun heq => ?_, fun hne d H' s n e => k1 hne d H' s n e⟩
    subst heq
    obtain ⟨Pm, w', sq, bd, kk⟩ := k2 rfl
    have n6 := sq.n6
    refine ⟨_, rfl, a, CM, dx, _, _, rfl, ea, T.clM, T.nE, mfl_at t, t, r, f, Pm, w', rfl, hT, sq, bd, ?_⟩
    rcases kk with ⟨hs, kE⟩ | ⟨Y, d, hI, kQ⟩
    · exact .inl ⟨hs, kE⟩
    · refine .inr ⟨Y, d, hI, fun p H1 s1 h1 => ?_⟩
      exact make_mat h1 ⟨hr0, by omega, hr0, by omega⟩ fun m H' _ s h => kQ m H' (s1.trans s) h
abbrev MInvC (P : Program) (w : World) (K : PySem.W.Frag) (mg : Str → Option Value) (base : Heap) (C CM CX CS : Addr) : Prop := MetX P w K mg base 12 CM "inverse" (spMInv C CM CX CS)
def spMTr (C CM CX : Addr) : Sp := fun vs H Q E => ∃ (a : Addr) (r c : Nat) (f : Nat → Nat → Rat), vs = [.ref a] ∧ MtAt C CM H a r c f ∧ 0 < r ∧ r ≤ 60 ∧ (r ≠ c → Rsd2 CX H (.int r) (.int c) E) ∧
  (r = c → ∃ (A : Nat → Nat → Int) (u : Int), Bn r r A u 100 ∧ (∀ i j, i < r → j < r → f i j = qv A u i j) ∧ ∀ y H', Same H H' → RatAt C H' y (Rat.divInt (smZ r fun i => A i i) u) → Q (.ref y) H')
theorem sc_Matrix_trace : FnScope ["self", "total", "index"] ["self"] (defScope s_Matrix_trace) := ⟨rfl, rfl, rfl, by decide +kernel, rfl, by decide +kernel, by decide +kernel⟩
theorem ok_mtr {f : Addr} {fd : FuncData} (F : Fun K "trace" "Matrix.trace" s_Matrix_trace f fd) (T : TxM K mg C CM) (m_sq : SqC P w K mg base C CM CX) (pm_rows : RowsC P w K mg base C CM) (m_rat1 : Rat1C P w K mg base C) (o_add : OpF P w K mg base 8 C .Add (spBin C fun p q => p + q)) : FnOk P w K mg base (L2N.CX P w) 12 f fd ["self"] (spMTr C CM CX) := by
  refine fun_okN F sc_Matrix_trace (fun vs H Q E h => ?_) (fun cdv A outer s H vs Q E hr h => ?_)
  · obtain ⟨a, r, c, f, rfl, _⟩ := h
    rfl
  · obtain ⟨a, r, c, f, rfl, hA, hr0, hr1, k1, k2⟩ := h
    refine ⟨_, (pss_cons (ps_expr (pe_metX0 m_sq T.clM hr (by decide) (L2N.takes_of rfl rfl rfl rfl) (pv 0)))
  (pss_cons (ps_set (i := 1) sc_Matrix_trace.nd rfl (Or.inl rfl) (pe_mkf m_rat1 hr (by decide) rfl (pa_cons pe_int pa_nil)))
  (pss_cons (ps_for (passes_of rfl) rfl (pi_range1 (by rfl) T.b_range (pa_cons (pe_pf pm_rows T.clM hr (by decide) (pv 0) rfl) pa_nil)) (pg_name (i := 2) sc_Matrix_trace.nd rfl (Or.inl rfl))
  (pss_one (ps_set (i := 1) sc_Matrix_trace.nd rfl (Or.inl rfl) (pe_op (op_f o_add hr (by decide)) (pv 1) (pe_ix (ix_tupK (K := K)) (pe_ix (ix_tupK (K := K)) (pe_fldK (K := K) (pv 0) rfl) (pv 2) (fun _ _ => rfl)) (pv 2) (fun _ _ => rfl))))))
  (pss_one (ps_ret (pv 1)))))), ?_⟩
    obtain ⟨dx, t, ea, hT⟩ := id hA
    refine ⟨_, rfl, a, dx, _, rfl, ea, rfl, a, r, c, f, rfl, hA, hr0, fun heq => ?_, fun hne d H' s n e => k1 hne d H' s n e⟩
    subst heq
    obtain ⟨A, u, bn, ev, kk⟩ := k2 rfl
    have u0 : u ≠ 0 := by have := bn.pos; omega
    obtain ⟨rs, et, hl, hrow⟩ := id hT
    -- total = Ratio(0)
    intro y0 dy0 hy0 hdy0 hne0
    show spInit C [V.ref y0, V.int 0, V.int 1] _ _ _
    refine rat_at (C := C) (a := 0) (b := 1) hy0 hdy0 hne0 (by decide) (sm_lt (k := 1) (by decide) (by decide) (by decide)) fun H1 s1 h1 => ?_
    -- for index in range(self.rows)
    refine ⟨_, rfl, a, dx, _, rfl, s1 _ _ ea, a, r, r, f, rfl, hA.same s1, (r : Int), rfl, by omega, by omega, ?_⟩
    have hr' : ((r : Int)).toNat = r := by omega
    rw [hr']
    refine for_range (lo := 0) (n := r) (fun i σ G => Same H G ∧ ∃ (y : Addr) (v : Option V), σ = [some (.ref a), some (.ref y), v] ∧ RatAt C G y (Rat.divInt (smZ i fun k => A k k) u)) ⟨s1, y0, none, rfl, ?_⟩ ?_ ?_
    · show RatAt C H1 y0 (Rat.divInt 0 u)
      rw [Rat.zero_divInt] at h1 ⊢
      exact h1
    · rintro i σ G hi ⟨sG, y, v, rfl, hy⟩
      have ei : V.int (0 + (i : Int)) = V.int (i : Int) := by rw [Int.zero_add]
      have hx : rs[i]? = some rs[i] := List.getElem?_eq_getElem (by omega)
      obtain ⟨p, xs, ep, hp, hxl, hc⟩ := hrow i _ hx
      have hx2 : xs[i]? = some xs[i] := List.getElem?_eq_getElem (by omega)
      obtain ⟨b2, eb2, hb2⟩ := hc i _ hx2
      rw [ep] at hx
      rw [eb2] at hx2
      have hb2' := hb2.same sG
      obtain ⟨d1, e1⟩ := id hy
      obtain ⟨d2, e2⟩ := id hb2'
      have bs : (smZ i fun k => A k k).natAbs < 10 ^ 150 := by
        have h1 := smZ_abs (n := i) (f := fun k => A k k) (m := 10 ^ 100) fun j hj => Nat.le_of_lt (bn.ab j j (by omega) (by omega))
        exact Nat.lt_of_le_of_lt (Nat.le_trans h1 (Nat.mul_le_mul_right _ (show i ≤ 60 by omega))) (by decide)
      have bdS : Bd (Rat.divInt (smZ i fun k => A k k) u) 150 := bd_div u0 bs (Nat.lt_of_lt_of_le bn.ub (Nat.pow_le_pow_right (by decide) (by decide)))
      have bdA : Bd (f i i) 150 := by
        rw [ev i i hi hi]
        exact (bn.mono (k' := 150) (by decide)).bds i i hi hi
      refine ⟨_, rfl, _, rfl, a, CM, dx, _, _, rfl, sG _ _ ea, T.clM, T.nE, mfl_at t, _, rfl, t, _, _, _, rfl, ei, SqT.of (sG _ _ et), atI_nat hx, _, rfl, p, _, _, _, rfl, ei, SqT.of (sG _ _ hp), atI_nat hx2, y, d1, _, rfl, e1, .inl ⟨b2, d2, _, rfl, e2⟩, y, .ref b2, _, _, rfl, hy, .inl ⟨b2, rfl, hb2'⟩, bdS, bdA, fun r' G' s5 h5 => ?_⟩
      refine ⟨sG.trans s5, r', _, rfl, ?_⟩
      have ee : Rat.divInt (smZ i fun k => A k k) u + f i i = Rat.divInt (smZ (i + 1) fun k => A k k) u := by
        rw [ev i i hi hi]
        show _ + Rat.divInt (A i i) u = Rat.divInt ((smZ i fun k => A k k) + A i i) u
        rw [Rat.divInt_add_divInt _ _ u0 u0, Rat.divInt_eq_divInt_iff (Int.mul_ne_zero u0 u0) u0]
        grind
      rw [← ee]
      exact h5
    rintro σ G ⟨sG, y, v, rfl, hy⟩
    exact ⟨_, rfl, kk y G sG hy⟩
abbrev MTrC (P : Program) (w : World) (K : PySem.W.Frag) (mg : Str → Option Value) (base : Heap) (C CM CX : Addr) : Prop := MetX P w K mg base 12 CM "trace" (spMTr C CM CX)
end
end Lw

namespace Lw
open PySem PySem.Spec PyProof.Rows L2 MG
abbrev s__law_invert : Stmt := top 44
abbrev s__law_eye : Stmt := top 43
abbrev s__law_alike : Stmt := top 45
section
variable {P : Program} {w : World} {K : PySem.W.Frag} {mg : Str → Option Value} {base : Heap} {C CM CX CS : Addr}
/-- the columns of a table of whole numbers -/
abbrev cols (A : Nat → Nat → Int) : Dt.Mt := fun m r => A r m
def spInvert : Sp := fun vs H Q _ => ∃ (t : Addr) (n : Nat) (A : Nat → Nat → Int) (u : Int), vs = [.ref t] ∧ PrAt H t n n A u ∧ Bn n n A u 14 ∧ u ≤ 30 ∧ 0 < n ∧ n ≤ 6 ∧
  (Sing n (cols A) → ∀ H', Same H H' → Q .non H') ∧
  ∀ (t' : Addr) (H' : Hp) (A' : Nat → Nat → Int) (e : Int), Same H H' → PrAt H' t' n n A' e → Bn n n A' e 90 → (∀ j r, j < n → r < n → Dt.sm n (fun m => A' m j * A r m) = if j = r then u * e else 0) → Dt.det n (cols A) ≠ 0 → Q (.ref t') H'
theorem fac_bits2 : ∀ n, n ≤ 6 → Dt.fac n * (10 ^ 14) ^ n < 10 ^ 88 := by
  have h : (List.range 7).all (fun n => decide (Dt.fac n * (10 ^ 14) ^ n < 10 ^ 88)) = true := by decide +kernel
  intro n hn
  exact of_decide_eq_true (List.all_eq_true.mp h n (List.mem_range.mpr (by omega)))
theorem ixN_n {n j : Nat} (h : j < n) : ixN n (j : Int) = some j := by
  unfold ixN
  rw [if_pos (Int.natCast_nonneg j), if_pos (Int.ofNat_lt.mpr h), Int.toNat_natCast]
/-- a list of rows, which is written to -/
def LLD (G : Hp) (D : Addr) (n : Nat) (R : Nat → Nat → Int) : Prop := ∃ rs, G D = some (.lst rs) ∧ rs.length = n ∧ ∀ (i : Nat) (x : V), rs[i]? = some x → RowR (n + n) R i x (hid D G)
theorem dp_ints {H : Hp} {l : List Nat} : DpAll K H (l.map fun a => V.int (a : Nat)) (l.map fun a => PyData.int (a : Nat)) := by
  induction l with
  | nil => exact .nil
  | cons a r ih => exact .cons (.int _) ih
theorem can_ints {l : List Nat} : PyData.canLayAll0 (l.map fun a => PyData.int (a : Nat)) = true := by
  induction l with
  | nil => rfl
  | cons a r ih => simp only [List.map_cons, PyData.canLayAll0, PyData.canLay0, ih, Bool.and_self]
theorem dep_ints {l : List Nat} : PyData.depthAll (l.map fun a => PyData.int (a : Nat)) = 0 := by
  induction l with
  | nil => rfl
  | cons a r ih => simp only [List.map_cons, PyData.depthAll, PyData.depth, ih, Nat.max_self]
theorem shp_ints {l : List Nat} : SeqAt.shaped (.list (l.map fun a => PyData.int (a : Nat))) = true := by
  unfold SeqAt.shaped
  rw [show PyData.canLay0 (.list (l.map fun a => PyData.int (a : Nat))) = true from can_ints, show PyData.depth (.list (l.map fun a => PyData.int (a : Nat))) = PyData.depthAll (l.map fun a => PyData.int (a : Nat)) + 1 from rfl, dep_ints]
  rfl
theorem sc__law_invert : FnScope ["_law_one", "_law_many", "_law_i", "_law_lines", "_law_last", "_law_k", "_law_free", "_law_held", "_law_lead", "_law_factor", "_law_sign", "_law_j", "_law_a", "_law_b", "_law_line", "_law_cell"] ["_law_one"] (defScope s__law_invert) := ⟨rfl, rfl, rfl, by decide +kernel, rfl, by decide +kernel, by decide +kernel⟩
theorem ok_invert {f : Addr} {fd : FuncData} (F : Fun K "_law_invert" "_law_invert" s__law_invert f fd) (T : Blt mg) (c_low : LowTC P w K mg base) : FnG P w K mg base CX0 6 f fd ["_law_one"] spInvert := by
  refine fun_okG F sc__law_invert (fun vs H Q E h => ?_) (fun cdv A' outer s H vs Q E bare hr h => ?_)
  · obtain ⟨t, n, A, u, rfl, _⟩ := h
    rfl
  · obtain ⟨t, n, A, u, rfl, ⟨L, ht, rs, hL, hl, hrow⟩, bn, u30, n0, n6, kS, kQ⟩ := h
    have hu64 := hr.units
    refine ⟨_, (pss_cons (ps_set (i := 1) sc__law_invert.nd rfl (Or.inr rfl) (pe_callB (id := "len") (call_len_seqK (K := K)) (by rfl) T.b_len (by decide +kernel) (pa_cons (pe_ix (ix_tupK (K := K)) (pv 0) pe_int (fun _ _ => rfl)) pa_nil)))
  (pss_cons (ps_set (i := 3) sc__law_invert.nd rfl (Or.inr rfl) (pe_lcI (pe_lc (own := [("_law_i", 2)]) rfl sc__law_invert.nd (pi_range1 (by rfl) T.b_range (pa_cons (pv 1) pa_nil)) (blkOk_by (N := ["_law_one", "_law_many", "_law_i", "_law_lines", "_law_last", "_law_k", "_law_free", "_law_held", "_law_lead", "_law_factor", "_law_sign", "_law_j", "_law_a", "_law_b", "_law_line", "_law_cell"]) (sc := (defScope s__law_invert)) (by decide +kernel)) (fun _ _ _ _ _ => (pg_name (i := 2) sc__law_invert.nd rfl (Or.inr rfl))) (fun _ _ _ _ _ => pts_nil) (fun _ _ _ _ _ => (pe_cut (pe_op op_cat (pe_ix (ix_listK (K := K)) (pe_ix (ix_tupK (K := K)) (pv 0) pe_int (fun _ _ => rfl)) (pv 2) (fun _ _ => rfl)) (pe_lcI (pe_lc (own := [("_law_j", 11)]) rfl sc__law_invert.nd (pi_range1 (by rfl) T.b_range (pa_cons (pv 1) pa_nil)) (blkOk_by (N := ["_law_one", "_law_many", "_law_i", "_law_lines", "_law_last", "_law_k", "_law_free", "_law_held", "_law_lead", "_law_factor", "_law_sign", "_law_j", "_law_a", "_law_b", "_law_line", "_law_cell"]) (sc := ({ kind := .function, names := [(PySem.Str.ofString ".0", .local), (PySem.Str.ofString "_law_i", .cell), (PySem.Str.ofString "range", .globalImplicit), (PySem.Str.ofString "_law_many", .cell), (PySem.Str.ofString "_law_one", .cell)], isGenerator := false, isCoroutine := false } : Scope)) (by decide +kernel)) (fun _ _ _ _ _ => (pg_name (i := 11) sc__law_invert.nd rfl (Or.inl rfl))) (fun _ _ _ _ _ => pts_nil) (fun _ _ _ _ _ => (pe_cut (pe_callTy call_int1 (by rfl) T.b_int (by decide +kernel) (pa_cons (pe_cmpR op_eq (pv 2) (pv 11) (nomark _)) pa_nil))))))))))))
  (pss_cons (ps_set (i := 4) sc__law_invert.nd rfl (Or.inr rfl) pe_int)
  (pss_cons (ps_for PassesOwn.never rfl (pi_range1 (by rfl) T.b_range (pa_cons (pv 1) pa_nil)) (pg_name (i := 5) sc__law_invert.nd rfl (Or.inr rfl))
  (pss_cons (ps_lcI (ps_setLc (i := 6) (own := [("_law_i", 2)]) rfl sc__law_invert.nd rfl rfl (sw_true rfl rfl rfl (by decide +kernel)) (pi_range2 (by rfl) T.b_range (pa_cons (pv 5) (pa_cons (pv 1) pa_nil))) (blkOk_by (N := ["_law_one", "_law_many", "_law_i", "_law_lines", "_law_last", "_law_k", "_law_free", "_law_held", "_law_lead", "_law_factor", "_law_sign", "_law_j", "_law_a", "_law_b", "_law_line", "_law_cell"]) (sc := (defScope s__law_invert)) (by decide +kernel)) (fun _ _ _ _ _ => (pg_name (i := 2) sc__law_invert.nd rfl (Or.inl rfl))) (fun _ _ _ _ _ => (pts_one (pt_cmpR op_ne (pe_ix (ix_listK (K := K)) (pe_ix (ix_listK (K := K)) (pv 3) (pv 2) (fun _ _ => rfl)) (pv 5) (fun _ _ => rfl)) pe_int (nomark _)))) (fun _ _ _ _ _ => (pe_cut (pv 2)))))
  (pss_cons (ps_if (pt_cmpR (op_eqD hu64) (pv 6) (pe_lst pa_nil) (nomark _)) (pss_one (ps_ret pe_non))
  pss_nil)
  (pss_cons (ps_set (i := 7) sc__law_invert.nd rfl (Or.inl rfl) (pe_ix (ix_listK (K := K)) (pv 3) (pe_ix (ix_listK (K := K)) (pv 6) pe_int (fun _ _ => rfl)) (fun _ _ => rfl)))
  (pss_cons (ps_asg (pe_ix (ix_listK (K := K)) (pv 3) (pv 5) (fun _ _ => rfl)) (pg_sub (pv 3) (pe_ix (ix_listK (K := K)) (pv 6) pe_int (fun _ _ => rfl)) set_list))
  (pss_cons (ps_asg (pv 7) (pg_sub (pv 3) (pv 5) set_list))
  (pss_cons (ps_set (i := 8) sc__law_invert.nd rfl (Or.inr rfl) (pe_ix (ix_listK (K := K)) (pv 7) (pv 5) (fun _ _ => rfl)))
  (pss_cons (ps_for PassesOwn.never rfl (pi_range1 (by rfl) T.b_range (pa_cons (pv 1) pa_nil)) (pg_name (i := 2) sc__law_invert.nd rfl (Or.inl rfl))
  (pss_one (ps_if (pt_cmpR op_ne (pv 2) (pv 5) (nomark _)) (pss_cons (ps_set (i := 9) sc__law_invert.nd rfl (Or.inr rfl) (pe_ix (ix_listK (K := K)) (pe_ix (ix_listK (K := K)) (pv 3) (pv 2) (fun _ _ => rfl)) (pv 5) (fun _ _ => rfl)))
  (pss_one (ps_asg (pe_lcI (pe_lc (own := [("_law_a", 12), ("_law_b", 13)]) rfl sc__law_invert.nd (pi_zipK (K := K) (by rfl) T.b_zip (pa_cons (pe_ix (ix_listK (K := K)) (pv 3) (pv 2) (fun _ _ => rfl)) (pa_cons (pv 7) pa_nil))) (blkOk_by (N := ["_law_one", "_law_many", "_law_i", "_law_lines", "_law_last", "_law_k", "_law_free", "_law_held", "_law_lead", "_law_factor", "_law_sign", "_law_j", "_law_a", "_law_b", "_law_line", "_law_cell"]) (sc := (defScope s__law_invert)) (by decide +kernel)) (fun _ _ _ _ _ => (pg_tupK (K := K) (n := 2) rfl (pgs_cons (pg_name (i := 12) sc__law_invert.nd rfl (Or.inl rfl)) (pgs_cons (pg_name (i := 13) sc__law_invert.nd rfl (Or.inl rfl)) pgs_nil)))) (fun _ _ _ _ _ => pts_nil) (fun _ _ _ _ _ => (pe_cut (pe_op op_fdivZ (pe_op op_sub (pe_op op_mulW (pv 8) (pv 12)) (pe_op op_mulW (pv 9) (pv 13))) (pv 4)))))) (pg_sub (pv 3) (pv 2) set_list))))
  pss_nil)))
  (pss_one (ps_set (i := 4) sc__law_invert.nd rfl (Or.inr rfl) (pv 8)))))))))))
  (pss_cons (ps_set (i := 10) sc__law_invert.nd rfl (Or.inr rfl) (pe_ifExp (pt_cmpR op_gt (pv 4) pe_int (nomark _)) pe_int (pe_un un_neg pe_int)))
  (pss_one (ps_ret (pe_cg c_low bare hr (by decide) rfl (pa_cons (pe_tup (pa_cons (pe_lcI (pe_lc (own := [("_law_line", 14)]) rfl sc__law_invert.nd (pi_listK (K := K) (pv 3)) (blkOk_by (N := ["_law_one", "_law_many", "_law_i", "_law_lines", "_law_last", "_law_k", "_law_free", "_law_held", "_law_lead", "_law_factor", "_law_sign", "_law_j", "_law_a", "_law_b", "_law_line", "_law_cell"]) (sc := (defScope s__law_invert)) (by decide +kernel)) (fun _ _ _ _ _ => (pg_name (i := 14) sc__law_invert.nd rfl (Or.inl rfl))) (fun _ _ _ _ _ => pts_nil) (fun _ _ _ _ _ => (pe_cut (pe_lcI (pe_lc (own := [("_law_cell", 15)]) rfl sc__law_invert.nd (pi_listK (K := K) (pe_slice (sl_listK (K := K)) (pv 14) (po_some (pv 1)) po_none)) (blkOk_by (N := ["_law_one", "_law_many", "_law_i", "_law_lines", "_law_last", "_law_k", "_law_free", "_law_held", "_law_lead", "_law_factor", "_law_sign", "_law_j", "_law_a", "_law_b", "_law_line", "_law_cell"]) (sc := ({ kind := .function, names := [(PySem.Str.ofString ".0", .local), (PySem.Str.ofString "_law_line", .local), (PySem.Str.ofString "_law_many", .cell), (PySem.Str.ofString "_law_one", .cell), (PySem.Str.ofString "_law_sign", .cell)], isGenerator := false, isCoroutine := false } : Scope)) (by decide +kernel)) (fun _ _ _ _ _ => (pg_name (i := 15) sc__law_invert.nd rfl (Or.inl rfl))) (fun _ _ _ _ _ => pts_nil) (fun _ _ _ _ _ => (pe_cut (pe_op op_mulW (pe_op op_mulW (pv 10) (pe_ix (ix_tupK (K := K)) (pv 0) pe_int (fun _ _ => rfl))) (pv 15)))))))))) (pa_cons (pe_op op_mulW (pv 10) (pv 4)) pa_nil))) pa_nil))))))))), ?_⟩
    -- many = len(pair[0])
    refine ⟨_, rfl, t, _, _, _, rfl, rfl, SqT.of ht, rfl, L, rs, rfl, .inl (SqL.of hL), ?_⟩
    -- lines
    refine ⟨_, rfl, (n : Int), by rw [hl], by omega, by omega, fun D hD => ?_⟩
    have hn' : ((n : Int)).toNat = n := by omega
    rw [hn']
    refine lc_same (walk_range (lo := 0) (n := n)) hD (by omega) (RowR (n + n) fun i j => Dt.bs n (cols A) j i) rowR_same (fun G s => trivial) yfn_same (fun i y H1 H1' hi s1 nD hy => ?_) fun ys H1 hl1 s1 e1 h1 => ?_
    · obtain ⟨rfl, rfl⟩ := hy
      refine ⟨_, fun _ h => h, wipe_one, ?_⟩
      have ei : V.int (0 + (i : Int)) = V.int (i : Int) := by rw [Int.zero_add]
      have hx : rs[i]? = some rs[i] := List.getElem?_eq_getElem (by omega)
      obtain ⟨p, ep, hp⟩ := hrow i _ hx
      rw [ep] at hx
      refine ⟨_, rfl, t, _, _, _, rfl, rfl, SqT.of (s1 _ _ ht), rfl, _, rfl, L, _, _, _, rfl, ei, SqL.of (s1 _ _ hL), atI_nat hx, ?_⟩
      refine ⟨_, rfl, (n : Int), by rw [hl], by omega, by omega, fun D2 hD2 => ?_⟩
      rw [hn']
      refine lc_same (walk_range (lo := 0) (n := n)) hD2 (by omega) (fun j y _ => y = .int (if i = j then 1 else 0)) (fun _ _ _ _ h _ => h) (fun G s => trivial) yfn_same (fun j x H2 H2' hj s2 _ hy => ?_) fun ys2 H2 hl2 s2 e2 h2 => ?_
      · obtain ⟨rfl, rfl⟩ := hy
        refine ⟨_, fun _ h => h, wipe_one, ?_⟩
        refine ⟨_, rfl, _, rfl, rfl, .inr ⟨_, rfl, Same.refl _, fun _ => ?_⟩⟩
        by_cases e : i = j
        · rw [if_pos e, if_pos (decide_eq_true (by rw [e]))]
        · rw [if_neg e, if_neg (fun z => e (by have := V.int.inj (of_decide_eq_true z); omega))]
      have e3 : ys2 = rowV n fun j => if i = j then 1 else 0 := ints_of hl2 h2
      subst e3
      have hp2 := s2 _ _ (s1 _ _ hp)
      refine ⟨p, D2, _, _, rfl, rfl, hp2, e2, Nat.le_trans (m := 200) (by rw [rowV_len, rowV_len]; omega) (by decide), fun p3 hp3 => ⟨s2.trans (MG.Same.new (Same.refl _) hp3), fun ⟨l, hl⟩ => ⟨p3, rfl, ?_⟩⟩⟩
      have n3 : p3 ≠ D := fun q => by
        have : H1' D ≠ none := nD
        cases e : H1' D with
        | none => exact this e
        | some o => rw [q, (s2 _ _ e)] at hp3; cases hp3
      rw [hid_ne n3, upd_same, rowV_app]
      refine congrArg (fun g => some (HO.lst (rowV (n + n) g))) (funext fun j => ?_)
      show _ = (if j < n then A i j else if j = n + i then 1 else 0)
      by_cases e : j < n
      · rw [if_pos e, if_pos e]
      · rw [if_neg e, if_neg e]
        by_cases q : i = j - n
        · rw [if_pos q, if_pos (by omega)]
        · rw [if_neg q, if_neg (by omega)]
    have hLL : LLD H1 D n fun i j => Dt.bs n (cols A) j i := ⟨ys, e1, hl1, h1⟩
    have s10 : Same H (hid D H1) := fun c o hc => by
      have : c ≠ D := fun q => by rw [q, hD] at hc; cases hc
      rw [hid_ne this]; exact s1 _ _ hc
    -- last = 1; for k in range(many)
    have nA : ∀ j r, j < n + n → r < n → (Dt.bs n (cols A) j r).natAbs ≤ 10 ^ 14 := fun j r hj hr => by
      unfold Dt.bs
      split
      · rename_i e; exact Nat.le_of_lt (bn.ab r j hr e)
      · split <;> decide
    have sml : ∀ {k : Nat} {R : Nat → Nat → Int} {d : Int} {B : Dt.Mt}, Dt.Ba n (cols A) k R d B → ∀ i j, i < n → j < n + n → (R i j).natAbs < 10 ^ 88 := fun {k R d B} h i j hi hj =>
      Nat.lt_of_le_of_lt (h.abs nA hi hj) (fac_bits2 n n6)
    have smd : ∀ {k : Nat} {R : Nat → Nat → Int} {d : Int} {B : Dt.Mt}, Dt.Ba n (cols A) k R d B → d.natAbs < 10 ^ 88 := fun {k R d B} h =>
      Nat.lt_of_le_of_lt (h.dabs nA) (fac_bits2 n n6)
    have sH1 : Same H H1 := s1
    refine ⟨_, rfl, (n : Int), by rw [hl], by omega, by omega, ?_⟩
    rw [hn']
    refine for_range (lo := 0) (n := n) (fun k σ G => Same H (hid D G) ∧ ∃ (d : Int) (R : Nat → Nat → Int) (B : Dt.Mt) (v2 v5 v6 v7 v8 v9 v10 v11 v12 v13 v14 v15 : Option V), σ = [some (.ref t), some (.int n), v2, some (.ref D), some (.int d), v5, v6, v7, v8, v9, v10, v11, v12, v13, v14, v15] ∧ LLD G D n R ∧ Dt.Ba n (cols A) k R d B) ⟨s10, 1, _, _, none, none, none, none, none, none, none, none, none, none, none, none, by rw [hl]; rfl, hLL, Dt.ba_init fun i j _ _ => rfl⟩ ?_ ?_
    · rintro k σ G hk ⟨sG, d, R, B, v2, v5, v6, v7, v8, v9, v10, v11, v12, v13, v14, v15, rfl, ⟨rs, eD, hl, hrow⟩, hBa⟩
      have sG' : Same H G := sG.trans (hid_same D G)
      rw [show (0 : Int) + (k : Int) = k from Int.zero_add _]
      -- free = [i for i in range(k, many) if lines[i][k] != 0]
      refine ⟨_, rfl, _, rfl, (k : Int), (n : Int), rfl, ⟨by omega, by omega, by omega, by omega⟩, fun F hF => ?_⟩
      rw [show ((n : Int) - (k : Int)).toNat = n - k by omega]
      refine lc_filt (walk_range (lo := (k : Int)) (n := n - k)) hF (by omega) (fun i ys G' => Same G G' ∧ ys = (fnd k R i).map fun a => V.int (a : Nat)) ⟨hid_none hF, rfl⟩ (fun i ys G _ _ _ => trivial) (fun i x ys G1 G1' hi p e hy => ?_) fun ys G1 e1 p1 => ?_
      · obtain ⟨rfl, rfl⟩ := hy
        obtain ⟨s2, rfl⟩ := p
        have s2' : Same G G1' := s2.trans (hid_same F G1')
        have ei : V.int ((k : Int) + (i : Nat)) = V.int ((k + i : Nat) : Int) := by rw [Int.natCast_add]
        have hx : rs[k + i]? = some rs[k + i] := List.getElem?_eq_getElem (by omega)
        obtain ⟨p, ep, hp⟩ := hrow (k + i) _ hx
        have hp' := hid_same D G _ _ hp
        have hr2 : (rowV (n + n) (R (k + i)))[k]? = some (V.int (R (k + i) k)) := rowV_at (by omega)
        refine ⟨_, decide (R (k + i) k ≠ 0), fun _ h => h, wipe_one, fun Q2 h => ⟨_, rfl, _, rfl, D, _, _, _, rfl, ei, SqL.of (s2' _ _ eD), atI_nat hx, _, rfl, p, _, _, _, ep, rfl, SqL.of (s2' _ _ hp'), atI_nat hr2, rfl, _, rfl, ?_⟩, fun hb => ⟨e, s2, ?_⟩, fun hb => ⟨fun y H4 => y = V.int ((k : Int) + (i : Nat)) ∧ H4 = G1', ⟨_, rfl, rfl, rfl⟩, ?_⟩⟩
        · rw [dec0]; exact h
        · rw [fnd_succ, if_neg (of_decide_eq_false hb), List.append_nil]
        · rintro y H4 ⟨rfl, rfl⟩
          refine ⟨e, s2, ?_⟩
          rw [fnd_succ, if_pos (of_decide_eq_true hb), List.map_append]
          show _ = _ ++ [V.int ((k + i : Nat) : Int)]
          rw [ei]
      obtain ⟨s2, rfl⟩ := p1
      have s2' : Same G G1 := s2.trans (hid_same F G1)
      -- if free == []: return None
      refine ⟨_, rfl, by show 0 ≤ sizeLine; decide, fun p0 hp0 => ?_⟩
      have s3 : Same G (upd G1 p0 (.lst [])) := MG.Same.new s2' hp0
      have eF := (MG.Same.new (o := .lst []) (Same.refl _) hp0) _ _ e1
      refine ⟨_, _, .lst (SqL.of eF) dp_ints, .lst (SqL.of upd_same) .nil, shp_ints, rfl, _, rfl, ?_⟩
      cases eF' : fnd k R (n - k) with
      | nil =>
        refine ifT (by rfl) (kS ?_ _ (sG'.trans s3))
        obtain ⟨v, h1, h2⟩ := Dt.ba_none hBa hk fun i h1 h2 => fnd_nil eF' i h1 (by omega)
        exact ⟨v, ⟨k, hk, h1⟩, h2⟩
      | cons a0 rest =>
      refine ifF (by rfl) ?_
      obtain ⟨a1, a2, a3⟩ := fnd_mem (k := k) (R := R) (i := n - k) (a := a0) (by rw [eF']; exact List.mem_cons_self)
      have ha0 : a0 < n := by omega
      rw [eF', List.map_cons] at eF
      have hxk : rs[k]? = some rs[k] := List.getElem?_eq_getElem (by omega)
      obtain ⟨pk, epk, hpk⟩ := hrow k _ hxk
      rw [epk] at hxk
      have hx0 : rs[a0]? = some rs[a0] := List.getElem?_eq_getElem (by omega)
      obtain ⟨ph, eph, hph⟩ := hrow a0 _ hx0
      rw [eph] at hx0
      -- held = lines[free[0]]
      refine ⟨_, rfl, _, rfl, F, _, _, _, rfl, rfl, SqL.of eF, atI_nat (j := 0) rfl, D, _, _, _, rfl, rfl, SqL.of (s3 _ _ eD), atI_nat hx0, ?_⟩
      -- lines[free[0]] = lines[k]
      refine ⟨_, rfl, _, rfl, D, _, _, _, rfl, rfl, SqL.of (s3 _ _ eD), atI_nat hxk, ?_⟩
      refine ⟨_, rfl, _, rfl, F, _, _, _, rfl, rfl, SqL.of eF, atI_nat (j := 0) rfl, D, rs, (a0 : Int), a0, rfl, rfl, s3 _ _ eD, ixN_n (by omega), ?_⟩
      -- lines[k] = held
      refine ⟨_, rfl, _, rfl, _, rfl, D, _, (k : Int), k, rfl, rfl, upd_same, ixN_n (by rw [List.length_set]; omega), ?_⟩
      generalize eU : upd (upd (upd G1 p0 (.lst [])) D (.lst (rs.set a0 (.ref pk)))) D (.lst ((rs.set a0 (.ref pk)).set k (.ref ph))) = U
      have hU : hid D U = hid D (upd G1 p0 (.lst [])) := by rw [← eU, hid_upd, hid_upd]
      have mU : Same (hid D G) (hid D U) := by rw [hU]; exact hid_mono s3
      have eDU : U D = some (.lst ((rs.set a0 (.ref pk)).set k (.ref ph))) := by rw [← eU]; exact upd_same
      have ek : R (Dt.sw k a0 k) = R a0 := by simp [Dt.sw]
      obtain ⟨Bs, hBs⟩ := Dt.ba_swap hBa hk ha0 a1
      have hl0 : R (Dt.sw k a0 k) k ≠ 0 := by rw [ek]; exact a3
      have hrow2 : ∀ (i : Nat) (x : V), ((rs.set a0 (.ref pk)).set k (.ref ph))[i]? = some x → RowR (n + n) (fun i => R (Dt.sw k a0 i)) i x (hid D U) := fun i x hx => by
        by_cases h1 : i = k
        · subst h1
          rw [List.getElem?_set_self (by rw [List.length_set]; omega)] at hx
          obtain rfl := Option.some.inj hx
          refine ⟨ph, rfl, ?_⟩
          show _ = some (HO.lst (rowV (n + n) (R (Dt.sw i a0 i))))
          rw [ek]
          exact mU _ _ hph
        · rw [List.getElem?_set_ne (Ne.symm h1)] at hx
          by_cases h2 : i = a0
          · subst h2
            rw [List.getElem?_set_self (by omega)] at hx
            obtain rfl := Option.some.inj hx
            refine ⟨pk, rfl, ?_⟩
            show _ = some (HO.lst (rowV (n + n) (R (Dt.sw k i i))))
            rw [show Dt.sw k i i = k by simp [Dt.sw, h1]]
            exact mU _ _ hpk
          · rw [List.getElem?_set_ne (Ne.symm h2)] at hx
            obtain ⟨p, rfl, hp⟩ := hrow i x hx
            refine ⟨p, rfl, ?_⟩
            show _ = some (HO.lst (rowV (n + n) (R (Dt.sw k a0 i))))
            rw [show Dt.sw k a0 i = i by simp [Dt.sw, h1, h2]]
            exact mU _ _ hp
      have sU : Same H (hid D U) := sG.trans mU
      -- lead = held[k]
      refine ⟨_, rfl, _, rfl, ph, _, _, _, rfl, rfl, SqL.of (hid_same D U _ _ (mU _ _ hph)), atI_nat (rowV_at (by omega)), ?_⟩
      -- for i in range(many)
      refine ⟨_, rfl, (n : Int), rfl, by omega, by omega, ?_⟩
      rw [hn']
      refine for_range (lo := 0) (n := n) (fun m σ G' => Same H (hid D G') ∧ ∃ (v2 v9 v10 v11 v12 v13 v14 v15 : Option V), σ = [some (.ref t), some (.int n), v2, some (.ref D), some (.int d), some (.int k), some (.ref F), some (.ref ph), some (.int (R a0 k)), v9, v10, v11, v12, v13, v14, v15] ∧
        (hid D G') ph = some (.lst (rowV (n + n) (R a0))) ∧ LLD G' D n fun i => if i < m ∧ i ≠ k then (fun j => (R a0 k * R (Dt.sw k a0 i) j - R (Dt.sw k a0 i) k * R a0 j).fdiv d) else R (Dt.sw k a0 i)) ⟨sU, _, _, _, _, _, _, _, _, rfl, mU _ _ hph, _, eDU, by rw [List.length_set, List.length_set]; exact hl, fun i x hx => ?_⟩ ?_ ?_
      · obtain ⟨p, e, h⟩ := hrow2 i x hx
        exact ⟨p, e, by simpa using h⟩
      · rintro m σ G' hm ⟨sG2, v2, v9, v10, v11, v12, v13, v14, v15, rfl, hph', rs2, eD2, hl2, hrow3⟩
        rw [show (0 : Int) + (m : Int) = m from Int.zero_add _]
        refine ⟨_, rfl, _, rfl, rfl, _, rfl, ?_⟩
        by_cases hmk : m = k
        · refine ifF (by simp [hmk]) ?_
          refine ⟨sG2, _, _, _, _, _, _, _, _, rfl, hph', rs2, eD2, hl2, fun i x hx => ?_⟩
          obtain ⟨p, e, h⟩ := hrow3 i x hx
          refine ⟨p, e, h.trans ?_⟩
          refine congrArg (fun g => some (HO.lst (rowV (n + n) g))) ?_
          dsimp only
          by_cases c : i < m ∧ i ≠ k
          · rw [if_pos c, if_pos ⟨by omega, c.2⟩]
          · rw [if_neg c, if_neg (fun q => c ⟨by omega, q.2⟩)]
        · refine ifT (by simp; omega) ?_
          have hx : rs2[m]? = some rs2[m] := List.getElem?_eq_getElem (by omega)
          obtain ⟨pm, epm, hpm⟩ := hrow3 m _ hx
          rw [epm] at hx
          have hpm : (hid D G') pm = some (.lst (rowV (n + n) (R (Dt.sw k a0 m)))) := by rw [hpm]; simp
          have hpm' := hid_same D G' _ _ hpm
          have hph2 := hid_same D G' _ _ hph'
          -- factor = lines[i][k]
          refine ⟨_, rfl, _, rfl, D, _, _, _, rfl, rfl, SqL.of eD2, atI_nat hx, _, rfl, pm, _, _, _, rfl, rfl, SqL.of hpm', atI_nat (rowV_at (by omega)), ?_⟩
          -- lines[i] = [..]
          refine ⟨_, rfl, _, rfl, D, _, _, _, rfl, rfl, SqL.of eD2, atI_nat hx, _, rfl, pm, ph, _, _, rfl, .inl ⟨SqL.of hpm', SqL.of hph2, fun D5 hD5 => ?_⟩⟩
          have sA : ∀ i j, i < n → j < n + n → Sm (R i j) := fun i j hi hj => smI (k := 88) (sml hBa i j hi hj) (by decide)
          have sd : Sm d := smI (k := 88) (smd hBa) (by decide)
          have hsm : Dt.sw k a0 m < n := Dt.sw_lt hk ha0 hm
          refine lc_same (walk_zip (K := K) (a := pm) (b := ph) (xs := rowV (n + n) (R (Dt.sw k a0 m))) (ys := rowV (n + n) (R a0)) (n := n + n) (by rw [rowV_len, rowV_len]; omega)) hD5 (by omega) (fun j v _ => v = .int ((R a0 k * R (Dt.sw k a0 m) j - R (Dt.sw k a0 m) k * R a0 j).fdiv d)) (fun _ _ _ _ h _ => h) (fun G s => ⟨SqL.of (s _ _ hpm'), SqL.of (s _ _ hph2)⟩) ypair_same (fun j x H3 H3' hj s5 _ hy => ?_) fun ys5 H3 hl5 s5 e5 h5 => ?_
          · obtain ⟨T2, x1, x2, rfl, hT2, rfl, hx1, hx2⟩ := hy
            obtain ⟨_, rfl⟩ := rowV_get hx1
            obtain ⟨_, rfl⟩ := rowV_get hx2
            refine ⟨_, tg2 upd_same, rfl, ?_⟩
            exact ⟨_, rfl, _, rfl, _, _, rfl, rfl, sm_mul (sA _ _ ha0 (by omega)) (sA _ _ hsm hj), _, rfl, _, rfl, _, _, rfl, rfl, sm_mul (sA _ _ hsm (by omega)) (sA _ _ ha0 hj), _, _, rfl, rfl, _, rfl, _, _, rfl, rfl, sm_div sd hBa.d0, Same.refl _, fun _ => rfl⟩
          have e6 : ys5 = rowV (n + n) fun j => (R a0 k * R (Dt.sw k a0 m) j - R (Dt.sw k a0 m) k * R a0 j).fdiv d := ints_of hl5 h5
          subst e6
          refine ⟨_, rfl, _, rfl, D, rs2, (m : Int), m, rfl, rfl, s5 _ _ eD2, ixN_n (by omega), ?_⟩
          have n5 : D5 ≠ D := fun q => by rw [q, eD2] at hD5; cases hD5
          have mV : Same (hid D G') (hid D (upd H3 D (.lst (rs2.set m (.ref D5))))) := by rw [hid_upd]; exact hid_mono s5
          refine ⟨sG2.trans mV, _, _, _, _, _, _, _, _, rfl, mV _ _ hph', _, upd_same, by rw [List.length_set]; exact hl2, fun i x hx => ?_⟩
          by_cases c : i = m
          · subst c
            rw [List.getElem?_set_self (by omega)] at hx
            obtain rfl := Option.some.inj hx
            refine ⟨D5, rfl, ?_⟩
            rw [hid_upd, hid_ne n5, e5]
            dsimp only
            rw [if_pos ⟨Nat.lt_succ_self i, hmk⟩]
          · rw [List.getElem?_set_ne (Ne.symm c)] at hx
            obtain ⟨p, e, h⟩ := hrow3 i x hx
            refine ⟨p, e, (mV _ _ h).trans ?_⟩
            refine congrArg (fun g => some (HO.lst (rowV (n + n) g))) ?_
            dsimp only
            by_cases q : i < m ∧ i ≠ k
            · rw [if_pos q, if_pos ⟨by omega, q.2⟩]
            · rw [if_neg q, if_neg (fun z => q ⟨by omega, z.2⟩)]
      rintro σ G' ⟨sG2, v2, v9, v10, v11, v12, v13, v14, v15, rfl, hph', rs2, eD2, hl2, hrow3⟩
      -- last = lead
      obtain ⟨B2, hB2⟩ := (Dt.ba_step hBs hk hl0).2 (fun i j => if i = k then R a0 j else (R a0 k * R (Dt.sw k a0 i) j - R (Dt.sw k a0 i) k * R a0 j).fdiv d) fun i j _ _ => by rw [ek]
      rw [ek] at hB2
      refine ⟨_, rfl, sG2, R a0 k, _, B2, _, _, _, _, _, _, _, _, _, _, _, _, rfl, ⟨rs2, eD2, hl2, fun i x hx => ?_⟩, hB2⟩
      obtain ⟨p, e, h⟩ := hrow3 i x hx
      have hin : i < n := by have := (List.getElem?_eq_some_iff.mp hx).1; omega
      refine ⟨p, e, h.trans ?_⟩
      refine congrArg (fun g => some (HO.lst (rowV (n + n) g))) (funext fun j => ?_)
      by_cases q : i = k
      · subst q
        dsimp only
        rw [if_neg (fun z => z.2 rfl), if_pos rfl, ek]
      · dsimp only
        rw [if_pos ⟨hin, q⟩, if_neg q]
    rintro σ G ⟨sG, d, R, B, v2, v5, v6, v7, v8, v9, v10, v11, v12, v13, v14, v15, rfl, ⟨rs, eD, hl, hrow⟩, hBa⟩
    have sG' : Same H G := sG.trans (hid_same D G)
    obtain ⟨tot, dne⟩ := Dt.ba_end hBa
    have d0 := hBa.d0
    have smu : Sm u := sm_lt (k := 14) (by decide) (by have := bn.pos; omega) (by omega)
    have smu' : Sm (-1 * u) := sm_lt (k := 14) (by decide) (by omega) (by have := bn.pos; omega)
    have smu1 : Sm (1 * u) := by rw [Int.one_mul]; exact smu
    refine ⟨_, rfl, _, _, rfl, rfl, _, rfl, ?_⟩
    by_cases hd : 0 < d
    · refine ifT (decide_eq_true hd) ?_
      -- return low((.., sign * last))
      refine ⟨_, rfl, D, rfl, ⟨rs, SqL.of eD⟩, fun D2 hD2 => ?_⟩
      refine lc_same (walk_list (K := K) (a := D) (xs := rs)) hD2 (by omega) (RowR n fun i j => 1 * u * R i (n + j)) rowR_same (fun G' s => SqL.of (s _ _ eD)) yat_same (fun i x H1 H1' hi s1 nD hy => ?_) fun ys H1 hl1 s1 e1 h1 => ?_
      · obtain ⟨rfl, hx⟩ := hy
        obtain ⟨p, rfl, hp⟩ := hrow i x hx
        have hp' := s1 _ _ (hid_same D G _ _ hp)
        have hin : i < n := by omega
        have ecut : cutV (rowV (n + n) (R i)) (some (n : Int)) none = rowV n fun s => R i (n + s) := rowV_cut
        refine ⟨_, fun _ h => h, wipe_one, ?_⟩
        refine ⟨_, rfl, _, rfl, (n : Int), rfl, p, _, rfl, SqL.of hp', fun p2 hp2 => ⟨p2, rfl, ⟨rowV n fun s => R i (n + s), SqL.of (by rw [upd_same, ecut])⟩, fun D5 hD5 => ?_⟩⟩
        rw [ecut] at hD5 ⊢
        have sU := MG.Same.new (o := .lst (rowV n fun s => R i (n + s))) (Same.refl _) hp2
        have nD2 : (upd H1' p2 (.lst (rowV n fun s => R i (n + s)))) D2 ≠ none := by
          have : D2 ≠ p2 := fun q => nD (q ▸ hp2)
          rw [upd_ne this]; exact nD
        refine lc_same (walk_list (K := K) (a := p2) (xs := rowV n fun s => R i (n + s))) hD5 (by rw [rowV_len]; omega) (fun j y _ => y = .int (1 * u * R i (n + j))) (fun _ _ _ _ h _ => h) (fun G' q => SqL.of (q _ _ upd_same)) yat_same (fun j x H5 H5' hj s5 _ hy5 => ?_) fun ys5 H5 hl5 s5 e5 h5 => ?_
        · obtain ⟨rfl, hx5⟩ := hy5
          obtain ⟨hj', rfl⟩ := rowV_get hx5
          exact ⟨_, fun _ h => h, wipe_one, _, rfl, _, rfl, t, _, _, _, rfl, rfl, SqT.of (s5 _ _ (sU _ _ (s1 _ _ (sG' _ _ ht)))), rfl, _, _, rfl, rfl, sm_mul (sm_lt (k := 1) (by decide) (by decide) (by decide)) smu, _, rfl, _, _, rfl, rfl, sm_mul smu1 (smI (k := 88) (sml hBa i (n + j) hin (by omega)) (by decide)), Same.refl _, fun _ => rfl⟩
        · exact ⟨sU.trans s5, fun _ => ⟨D5, rfl, row_hid nD2 hD5 e5 (hl5.trans rowV_len) h5⟩⟩
      refine ⟨_, rfl, _, rfl, _, _, rfl, rfl, sm_mul (sm_lt (k := 1) (by decide) (by decide) (by decide)) (smI (k := 88) (smd hBa) (by decide)), by show 2 ≤ sizeLine; decide, fun T2 hT2 => ?_⟩
      have s2 := MG.Same.new (o := .tup [.ref D2, .int (1 * d)]) (Same.refl H1) hT2
      have bn0 : Bn n n (fun i j => 1 * u * R i (n + j)) (1 * d) 90 := by
        refine ⟨by omega, ?_, fun i j hi hj => ?_⟩
        · have := smd hBa
          rw [Int.natAbs_mul, show (1 : Int).natAbs = 1 from rfl, Nat.one_mul]
          exact Nat.lt_trans this (by decide)
        · have h1 := sml hBa i (n + j) hi (by omega)
          rw [Int.natAbs_mul, Int.natAbs_mul, show (1 : Int).natAbs = 1 from rfl, Nat.one_mul]
          have h2 : u.natAbs ≤ 30 := by have := bn.pos; omega
          exact Nat.lt_of_le_of_lt (Nat.mul_le_mul h2 (Nat.le_of_lt h1)) (by decide)
      refine ⟨T2, n, n, _, 1 * d, 90, rfl, ⟨D2, upd_same, (ll_of e1 (hl1.trans hl) h1).same s2⟩, by omega, by omega, bn0, by decide, fun t' H' A'' u' s4 hP bn' dv vals => ?_⟩
      refine kQ t' H' A'' u' ((sG'.trans s1).trans (s2.trans s4)) hP bn' (fun j r hj hr => ?_) dne
      have d0 := hBa.d0
      have u'0 : u' ≠ 0 := by have := bn'.pos; omega
      have sd0 : (1 : Int) * d ≠ 0 := by omega
      have ev : ∀ m, m < n → A'' m j * (1 * d) = (1 * u * R m (n + j)) * u' := fun m hm => (Rat.divInt_eq_divInt_iff u'0 sd0).mp (vals m j hm hj)
      refine Int.eq_of_mul_eq_mul_left sd0 ?_
      rw [← Dt.sm_mul, Dt.sm_congr (g := fun m => (1 * u * u') * (R m (n + j) * A r m)) fun m hm => by have := ev m hm; grind]
      rw [Dt.sm_mul, tot j r hj hr]
      by_cases q : j = r
      · rw [if_pos q, if_pos q]; grind
      · rw [if_neg q, if_neg q]; simp
    · refine ifF (decide_eq_false hd) ?_
      refine ⟨_, rfl, ?_⟩
      -- return low((.., sign * last))
      refine ⟨_, rfl, D, rfl, ⟨rs, SqL.of eD⟩, fun D2 hD2 => ?_⟩
      refine lc_same (walk_list (K := K) (a := D) (xs := rs)) hD2 (by omega) (RowR n fun i j => -1 * u * R i (n + j)) rowR_same (fun G' s => SqL.of (s _ _ eD)) yat_same (fun i x H1 H1' hi s1 nD hy => ?_) fun ys H1 hl1 s1 e1 h1 => ?_
      · obtain ⟨rfl, hx⟩ := hy
        obtain ⟨p, rfl, hp⟩ := hrow i x hx
        have hp' := s1 _ _ (hid_same D G _ _ hp)
        have hin : i < n := by omega
        have ecut : cutV (rowV (n + n) (R i)) (some (n : Int)) none = rowV n fun s => R i (n + s) := rowV_cut
        refine ⟨_, fun _ h => h, wipe_one, ?_⟩
        refine ⟨_, rfl, _, rfl, (n : Int), rfl, p, _, rfl, SqL.of hp', fun p2 hp2 => ⟨p2, rfl, ⟨rowV n fun s => R i (n + s), SqL.of (by rw [upd_same, ecut])⟩, fun D5 hD5 => ?_⟩⟩
        rw [ecut] at hD5 ⊢
        have sU := MG.Same.new (o := .lst (rowV n fun s => R i (n + s))) (Same.refl _) hp2
        have nD2 : (upd H1' p2 (.lst (rowV n fun s => R i (n + s)))) D2 ≠ none := by
          have : D2 ≠ p2 := fun q => nD (q ▸ hp2)
          rw [upd_ne this]; exact nD
        refine lc_same (walk_list (K := K) (a := p2) (xs := rowV n fun s => R i (n + s))) hD5 (by rw [rowV_len]; omega) (fun j y _ => y = .int (-1 * u * R i (n + j))) (fun _ _ _ _ h _ => h) (fun G' q => SqL.of (q _ _ upd_same)) yat_same (fun j x H5 H5' hj s5 _ hy5 => ?_) fun ys5 H5 hl5 s5 e5 h5 => ?_
        · obtain ⟨rfl, hx5⟩ := hy5
          obtain ⟨hj', rfl⟩ := rowV_get hx5
          exact ⟨_, fun _ h => h, wipe_one, _, rfl, _, rfl, t, _, _, _, rfl, rfl, SqT.of (s5 _ _ (sU _ _ (s1 _ _ (sG' _ _ ht)))), rfl, _, _, rfl, rfl, sm_mul (sm_lt (k := 1) (by decide) (by decide) (by decide)) smu, _, rfl, _, _, rfl, rfl, sm_mul (smu') (smI (k := 88) (sml hBa i (n + j) hin (by omega)) (by decide)), Same.refl _, fun _ => rfl⟩
        · exact ⟨sU.trans s5, fun _ => ⟨D5, rfl, row_hid nD2 hD5 e5 (hl5.trans rowV_len) h5⟩⟩
      refine ⟨_, rfl, _, rfl, _, _, rfl, rfl, sm_mul (sm_lt (k := 1) (by decide) (by decide) (by decide)) (smI (k := 88) (smd hBa) (by decide)), by show 2 ≤ sizeLine; decide, fun T2 hT2 => ?_⟩
      have s2 := MG.Same.new (o := .tup [.ref D2, .int (-1 * d)]) (Same.refl H1) hT2
      have bn0 : Bn n n (fun i j => -1 * u * R i (n + j)) (-1 * d) 90 := by
        refine ⟨by omega, ?_, fun i j hi hj => ?_⟩
        · have := smd hBa
          rw [Int.natAbs_mul, show (-1 : Int).natAbs = 1 from rfl, Nat.one_mul]
          exact Nat.lt_trans this (by decide)
        · have h1 := sml hBa i (n + j) hi (by omega)
          rw [Int.natAbs_mul, Int.natAbs_mul, show (-1 : Int).natAbs = 1 from rfl, Nat.one_mul]
          have h2 : u.natAbs ≤ 30 := by have := bn.pos; omega
          exact Nat.lt_of_le_of_lt (Nat.mul_le_mul h2 (Nat.le_of_lt h1)) (by decide)
      refine ⟨T2, n, n, _, -1 * d, 90, rfl, ⟨D2, upd_same, (ll_of e1 (hl1.trans hl) h1).same s2⟩, by omega, by omega, bn0, by decide, fun t' H' A'' u' s4 hP bn' dv vals => ?_⟩
      refine kQ t' H' A'' u' ((sG'.trans s1).trans (s2.trans s4)) hP bn' (fun j r hj hr => ?_) dne
      have d0 := hBa.d0
      have u'0 : u' ≠ 0 := by have := bn'.pos; omega
      have sd0 : (-1 : Int) * d ≠ 0 := by omega
      have ev : ∀ m, m < n → A'' m j * (-1 * d) = (-1 * u * R m (n + j)) * u' := fun m hm => (Rat.divInt_eq_divInt_iff u'0 sd0).mp (vals m j hm hj)
      refine Int.eq_of_mul_eq_mul_left sd0 ?_
      rw [← Dt.sm_mul, Dt.sm_congr (g := fun m => (-1 * u * u') * (R m (n + j) * A r m)) fun m hm => by have := ev m hm; grind]
      rw [Dt.sm_mul, tot j r hj hr]
      by_cases q : j = r
      · rw [if_pos q, if_pos q]; grind
      · rw [if_neg q, if_neg q]; simp
abbrev InvertC (P : Program) (w : World) (K : PySem.W.Frag) (mg : Str → Option Value) (base : Heap) : Prop := CalG P w K mg base 6 "_law_invert" spInvert []
end
end Lw

namespace Lw
open PySem PySem.Spec PyProof.Rows L2 MG
section
variable {P : Program} {w : World} {K : PySem.W.Frag} {mg : Str → Option Value} {base : Heap} {C CM CX CS : Addr}
/-! ### the identity; equal tables -/
def eyeI (i j : Nat) : Int := if i = j then 1 else 0
def spLEye : Sp := fun vs H Q _ => ∃ n : Nat, vs = [.int n] ∧ n ≤ 1000 ∧ ∀ t H', Same H H' → PrAt H' t n n eyeI 1 → Q (.ref t) H'
theorem sc__law_eye : FnScope ["_law_many", "_law_i", "_law_j"] ["_law_many"] (defScope s__law_eye) := ⟨rfl, rfl, rfl, by decide +kernel, rfl, by decide +kernel, by decide +kernel⟩
theorem ok_leye {f : Addr} {fd : FuncData} (F : Fun K "_law_eye" "_law_eye" s__law_eye f fd) (T : Blt mg) : FnG P w K mg base CX0 2 f fd ["_law_many"] spLEye := by
  refine fun_okG F sc__law_eye (fun vs H Q E h => ?_) (fun cdv A outer s H vs Q E bare hr h => ?_)
  · obtain ⟨n, rfl, _⟩ := h
    rfl
  · obtain ⟨n, rfl, n1, k⟩ := h
    refine ⟨_, (pss_one (ps_ret (pe_tup (pa_cons (pe_lcI (pe_lc (own := [("_law_i", 1)]) rfl sc__law_eye.nd (pi_range1 (by rfl) T.b_range (pa_cons (pv 0) pa_nil)) (blkOk_by (N := ["_law_many", "_law_i", "_law_j"]) (sc := (defScope s__law_eye)) (by decide +kernel)) (fun _ _ _ _ _ => (pg_name (i := 1) sc__law_eye.nd rfl (Or.inr rfl))) (fun _ _ _ _ _ => pts_nil) (fun _ _ _ _ _ => (pe_cut (pe_lcI (pe_lc (own := [("_law_j", 2)]) rfl sc__law_eye.nd (pi_range1 (by rfl) T.b_range (pa_cons (pv 0) pa_nil)) (blkOk_by (N := ["_law_many", "_law_i", "_law_j"]) (sc := ({ kind := .function, names := [(PySem.Str.ofString ".0", .local), (PySem.Str.ofString "_law_i", .cell), (PySem.Str.ofString "range", .globalImplicit), (PySem.Str.ofString "_law_many", .cell)], isGenerator := false, isCoroutine := false } : Scope)) (by decide +kernel)) (fun _ _ _ _ _ => (pg_name (i := 2) sc__law_eye.nd rfl (Or.inl rfl))) (fun _ _ _ _ _ => pts_nil) (fun _ _ _ _ _ => (pe_cut (pe_callTy call_int1 (by rfl) T.b_int (by decide +kernel) (pa_cons (pe_cmpR op_eq (pv 1) (pv 2) (nomark _)) pa_nil)))))))))) (pa_cons pe_int pa_nil))))), ?_⟩
    have hc0 : ((n : Nat) : Int).toNat = n := by omega
    refine ⟨_, rfl, (n : Int), rfl, by omega, by omega, fun D hD => ?_⟩
    rw [hc0]
    refine lc_same (walk_range (lo := 0) (n := n)) hD (by omega) (RowR n eyeI) rowR_same (fun G s => trivial) yfn_same (fun i y H1 H1' hi s1 nD hy => ?_) fun ys H1 hl1 s1 e1 h1 => ?_
    · obtain ⟨rfl, rfl⟩ := hy
      refine ⟨_, fun _ h => h, wipe_one, ?_⟩
      refine ⟨_, rfl, (n : Int), rfl, by omega, by omega, fun D2 hD2 => ?_⟩
      rw [hc0]
      refine lc_same (walk_range (lo := 0) (n := n)) hD2 (by omega) (fun j y _ => y = .int (eyeI i j)) (fun _ _ _ _ h _ => h) (fun G s => trivial) yfn_same (fun j x H2 H2' hj s2 _ hy => ?_) fun ys2 H2 hl2 s2 e2 h2 => ?_
      · obtain ⟨rfl, rfl⟩ := hy
        refine ⟨_, fun _ h => h, wipe_one, ?_⟩
        refine ⟨_, rfl, _, rfl, rfl, .inr ⟨_, rfl, Same.refl _, fun _ => ?_⟩⟩
        unfold eyeI
        by_cases e : i = j
        · rw [if_pos e, if_pos (decide_eq_true (by rw [e]))]
        · rw [if_neg e, if_neg (fun z => e (by have := V.int.inj (of_decide_eq_true z); omega))]
      · exact ⟨s2, fun _ => ⟨D2, rfl, row_hid nD hD2 e2 hl2 h2⟩⟩
    refine ⟨by show 2 ≤ sizeLine; decide, fun T2 hT2 => ?_⟩
    have s2 := MG.Same.new (o := .tup [.ref D, .int 1]) (Same.refl H1) hT2
    exact k T2 _ (s1.trans s2) ⟨D, upd_same, (ll_of e1 hl1 h1).same s2⟩
abbrev LEyeC (P : Program) (w : World) (K : PySem.W.Frag) (mg : Str → Option Value) (base : Heap) : Prop := CalG P w K mg base 2 "_law_eye" spLEye []
/-- a table of ints as data -/
def tabI (r c : Nat) (A : Nat → Nat → Int) : PyData := .list ((List.range r).map fun i => .list ((List.range c).map fun j => .int (A i j)))
theorem dp_row {H : Hp} {g : Nat → Int} {l : List Nat} : DpAll K H ((l.map g).map V.int) (l.map fun j => PyData.int (g j)) := by
  induction l with
  | nil => exact .nil
  | cons a r ih => exact .cons (.int _) ih
theorem dp_tab {H : Hp} {D : Addr} {r c : Nat} {A : Nat → Nat → Int} (h : LL H D r c A) : Dp K H (.ref D) (tabI r c A) := by
  obtain ⟨rs, e, hl, hrow⟩ := h
  refine .lst (SqL.of e) (dpAll_of (by simp [hl]) fun i x z h1 h2 => ?_)
  obtain ⟨p, rfl, hp⟩ := hrow i x h1
  have hi : i < r := by have := (List.getElem?_eq_some_iff.mp h1).1; omega
  rw [List.getElem?_map, List.getElem?_range hi] at h2
  obtain rfl := Option.some.inj h2
  exact .lst (SqL.of hp) dp_row
theorem can_row {g : Nat → Int} {l : List Nat} : PyData.canLayAll0 (l.map fun j => PyData.int (g j)) = true := by
  induction l with
  | nil => rfl
  | cons a r ih => simp only [List.map_cons, PyData.canLayAll0, PyData.canLay0, ih, Bool.and_self]
theorem dep_row {g : Nat → Int} {l : List Nat} : PyData.depthAll (l.map fun j => PyData.int (g j)) = 0 := by
  induction l with
  | nil => rfl
  | cons a r ih => simp only [List.map_cons, PyData.depthAll, PyData.depth, ih, Nat.max_self]
theorem can_tab {c : Nat} {A : Nat → Nat → Int} {l : List Nat} : PyData.canLayAll0 (l.map fun i => PyData.list ((List.range c).map fun j => .int (A i j))) = true := by
  induction l with
  | nil => rfl
  | cons a r ih =>
    rw [List.map_cons]
    show (PyData.canLayAll0 ((List.range c).map fun j => PyData.int (A a j)) && _) = true
    rw [can_row, ih]
    rfl
theorem dep_tab {c : Nat} {A : Nat → Nat → Int} {l : List Nat} : PyData.depthAll (l.map fun i => PyData.list ((List.range c).map fun j => .int (A i j))) ≤ 1 := by
  induction l with
  | nil => exact Nat.zero_le _
  | cons a r ih =>
    rw [List.map_cons]
    show max (PyData.depthAll ((List.range c).map fun j => PyData.int (A a j)) + 1) _ ≤ 1
    rw [dep_row]
    omega
theorem shp_tab {r c : Nat} {A : Nat → Nat → Int} : SeqAt.shaped (tabI r c A) = true := by
  unfold SeqAt.shaped
  have h1 : PyData.canLay0 (tabI r c A) = true := can_tab
  have h2 : PyData.depth (tabI r c A) ≤ 2 := Nat.succ_le_succ dep_tab
  rw [h1, decide_eq_true (show PyData.depth (tabI r c A) ≤ 64 by omega)]
  rfl
theorem rowV_congr {c : Nat} {g g' : Nat → Int} (h : ∀ j, j < c → g j = g' j) : rowV c g = rowV c g' := by
  unfold rowV
  refine congrArg (List.map V.int) (List.map_congr_left fun j hj => h j (List.mem_range.mp hj))
/-- equal as fractions -/
def spAlike : Sp := fun vs H Q _ => ∃ (t1 t2 : Addr) (r c : Nat) (A B : Nat → Nat → Int) (u v : Int), vs = [.ref t1, .ref t2] ∧ PrAt H t1 r c A u ∧ PrAt H t2 r c B v ∧ r ≤ 60 ∧ c ≤ 60 ∧ Bn r c A u 390 ∧ Bn r c B v 390 ∧ (∀ i j, i < r → j < c → A i j * v = B i j * u) ∧ ∀ H', Same H H' → Q (.bl true) H'
theorem sc__law_alike : FnScope ["_law_one", "_law_two", "_law_left", "_law_line", "_law_cell"] ["_law_one", "_law_two"] (defScope s__law_alike) := ⟨rfl, rfl, rfl, by decide +kernel, rfl, by decide +kernel, by decide +kernel⟩
theorem ok_alike {f : Addr} {fd : FuncData} (F : Fun K "_law_alike" "_law_alike" s__law_alike f fd) (T : Blt mg) : FnG P w K mg base CX0 4 f fd ["_law_one", "_law_two"] spAlike := by
  refine fun_okG F sc__law_alike (fun vs H Q E h => ?_) (fun cdv A outer s H vs Q E bare hr h => ?_)
  · obtain ⟨t1, t2, r, c, A, B, u, v, rfl, _⟩ := h
    rfl
  · obtain ⟨t1, t2, r, c, A, B, u, v, rfl, ⟨L1, ht1, rs1, hL1, hl1, hrow1⟩, ⟨L2, ht2, rs2, hL2, hl2, hrow2⟩, r60, c60, bA, bB, eqs, k⟩ := h
    have hu64 := hr.units
    refine ⟨_, (pss_cons (ps_lcI (ps_setLc (i := 2) (own := [("_law_line", 3)]) rfl sc__law_alike.nd rfl rfl (sw_true rfl rfl rfl (by decide +kernel)) (pi_listK (K := K) (pe_ix (ix_tupK (K := K)) (pv 0) pe_int (fun _ _ => rfl))) (blkOk_by (N := ["_law_one", "_law_two", "_law_left", "_law_line", "_law_cell"]) (sc := (defScope s__law_alike)) (by decide +kernel)) (fun _ _ _ _ _ => (pg_name (i := 3) sc__law_alike.nd rfl (Or.inl rfl))) (fun _ _ _ _ _ => pts_nil) (fun _ _ _ _ _ => (pe_cut (pe_lcI (pe_lc (own := [("_law_cell", 4)]) rfl sc__law_alike.nd (pi_listK (K := K) (pv 3)) (blkOk_by (N := ["_law_one", "_law_two", "_law_left", "_law_line", "_law_cell"]) (sc := ({ kind := .function, names := [(PySem.Str.ofString ".0", .local), (PySem.Str.ofString "_law_line", .local), (PySem.Str.ofString "_law_two", .cell)], isGenerator := false, isCoroutine := false } : Scope)) (by decide +kernel)) (fun _ _ _ _ _ => (pg_name (i := 4) sc__law_alike.nd rfl (Or.inl rfl))) (fun _ _ _ _ _ => pts_nil) (fun _ _ _ _ _ => (pe_cut (pe_op op_mulW (pv 4) (pe_ix (ix_tupK (K := K)) (pv 1) pe_int (fun _ _ => rfl)))))))))))
  (pss_one (ps_ret (pe_cmpR (op_eqD hu64) (pv 2) (pe_lcI (pe_lc (own := [("_law_line", 3)]) rfl sc__law_alike.nd (pi_listK (K := K) (pe_ix (ix_tupK (K := K)) (pv 1) pe_int (fun _ _ => rfl))) (blkOk_by (N := ["_law_one", "_law_two", "_law_left", "_law_line", "_law_cell"]) (sc := (defScope s__law_alike)) (by decide +kernel)) (fun _ _ _ _ _ => (pg_name (i := 3) sc__law_alike.nd rfl (Or.inl rfl))) (fun _ _ _ _ _ => pts_nil) (fun _ _ _ _ _ => (pe_cut (pe_lcI (pe_lc (own := [("_law_cell", 4)]) rfl sc__law_alike.nd (pi_listK (K := K) (pv 3)) (blkOk_by (N := ["_law_one", "_law_two", "_law_left", "_law_line", "_law_cell"]) (sc := ({ kind := .function, names := [(PySem.Str.ofString ".0", .local), (PySem.Str.ofString "_law_line", .local), (PySem.Str.ofString "_law_one", .cell)], isGenerator := false, isCoroutine := false } : Scope)) (by decide +kernel)) (fun _ _ _ _ _ => (pg_name (i := 4) sc__law_alike.nd rfl (Or.inl rfl))) (fun _ _ _ _ _ => pts_nil) (fun _ _ _ _ _ => (pe_cut (pe_op op_mulW (pv 4) (pe_ix (ix_tupK (K := K)) (pv 0) pe_int (fun _ _ => rfl))))))))))) (nomark _))))), ?_⟩
    -- left = [[cell * two[1] ..] for line in one[0]]
    refine ⟨_, rfl, t1, _, _, _, rfl, rfl, SqT.of ht1, rfl, L1, rfl, ⟨rs1, SqL.of hL1⟩, fun D hD => ?_⟩
    refine lc_same (walk_list (K := K) (a := L1) (xs := rs1)) hD (by omega) (RowR c fun i j => A i j * v) rowR_same (fun G s => SqL.of (s _ _ hL1)) yat_same (fun i x H1 H1' hi s1 nD hy => ?_) fun ys H1 hl3 s1 e1 h1 => ?_
    · obtain ⟨rfl, hx⟩ := hy
      obtain ⟨p, rfl, hp⟩ := hrow1 i x hx
      refine ⟨_, fun _ h => h, wipe_one, ?_⟩
      refine ⟨_, rfl, p, rfl, ⟨_, SqL.of (s1 _ _ hp)⟩, fun D2 hD2 => ?_⟩
      refine lc_same (walk_list (K := K) (a := p) (xs := rowV c (A i))) hD2 (by rw [rowV_len]; omega) (fun j y _ => y = .int (A i j * v)) (fun _ _ _ _ h _ => h) (fun G s => SqL.of (s _ _ (s1 _ _ hp))) yat_same (fun j y H2 H2' hj s2 _ hy => ?_) fun ys2 H2 hl4 s2 e2 h2 => ?_
      · obtain ⟨rfl, hy⟩ := hy
        obtain ⟨hj, rfl⟩ := rowV_get hy
        exact ⟨_, fun _ h => h, wipe_one, _, rfl, _, rfl, t2, _, _, _, rfl, rfl, SqT.of (s2 _ _ (s1 _ _ ht2)), rfl, _, _, rfl, rfl, sm_mul (smI (bA.ab i j (by omega) hj) (by decide)) (smI bB.ub (by decide)), Same.refl _, fun _ => rfl⟩
      · exact ⟨s2, fun _ => ⟨D2, rfl, row_hid nD hD2 e2 (hl4.trans rowV_len) h2⟩⟩
    have ll1 : LL H1 D r c fun i j => A i j * v := ll_of e1 (hl3.trans hl1) h1
    -- left == [[cell * one[1] ..] for line in two[0]]
    refine ⟨_, rfl, _, rfl, t2, _, _, _, rfl, rfl, SqT.of (s1 _ _ ht2), rfl, L2, rfl, ⟨rs2, SqL.of (s1 _ _ hL2)⟩, fun D3 hD3 => ?_⟩
    refine lc_same (walk_list (K := K) (a := L2) (xs := rs2)) hD3 (by omega) (RowR c fun i j => B i j * u) rowR_same (fun G s => SqL.of (s _ _ (s1 _ _ hL2))) yat_same (fun i x H3 H3' hi s3 nD hy => ?_) fun ys3 H3 hl5 s3 e3 h3 => ?_
    · obtain ⟨rfl, hx⟩ := hy
      obtain ⟨p, rfl, hp⟩ := hrow2 i x hx
      have hp := s1 _ _ hp
      refine ⟨_, fun _ h => h, wipe_one, ?_⟩
      refine ⟨_, rfl, p, rfl, ⟨_, SqL.of (s3 _ _ hp)⟩, fun D2 hD2 => ?_⟩
      refine lc_same (walk_list (K := K) (a := p) (xs := rowV c (B i))) hD2 (by rw [rowV_len]; omega) (fun j y _ => y = .int (B i j * u)) (fun _ _ _ _ h _ => h) (fun G s => SqL.of (s _ _ (s3 _ _ hp))) yat_same (fun j y H2 H2' hj s2 _ hy => ?_) fun ys2 H2 hl4 s2 e2 h2 => ?_
      · obtain ⟨rfl, hy⟩ := hy
        obtain ⟨hj, rfl⟩ := rowV_get hy
        exact ⟨_, fun _ h => h, wipe_one, _, rfl, _, rfl, t1, _, _, _, rfl, rfl, SqT.of (s2 _ _ (s3 _ _ (s1 _ _ ht1))), rfl, _, _, rfl, rfl, sm_mul (smI (bB.ab i j (by omega) hj) (by decide)) (smI bA.ub (by decide)), Same.refl _, fun _ => rfl⟩
      · exact ⟨s2, fun _ => ⟨D2, rfl, row_hid nD hD2 e2 (hl4.trans rowV_len) h2⟩⟩
    have ll3 : LL H3 D3 r c fun i j => A i j * v := by
      obtain ⟨rs, a1, a2, a3⟩ := ll_of e3 (hl5.trans hl2) h3
      refine ⟨rs, a1, a2, fun i x hx => ?_⟩
      obtain ⟨p, b1, b2⟩ := a3 i x hx
      have hi : i < r := by have := (List.getElem?_eq_some_iff.mp hx).1; omega
      refine ⟨p, b1, b2.trans (congrArg (fun l => some (HO.lst l)) (rowV_congr fun j hj => ?_))⟩
      exact (eqs i j hi hj).symm
    refine ⟨_, _, dp_tab (ll1.same s3), dp_tab ll3, shp_tab, shp_tab, ?_⟩
    rw [SeqAt.eqv_refl _ (SeqAt.canLay_of_shaped shp_tab)]
    exact k _ (s1.trans s3)
abbrev AlikeC (P : Program) (w : World) (K : PySem.W.Frag) (mg : Str → Option Value) (base : Heap) : Prop := CalG P w K mg base 4 "_law_alike" spAlike []
end
end Lw

namespace Lw
open PySem PySem.Spec PyProof.Rows L2 MG
abbrev s_Matrix_eye : Stmt := inClass (top 33) 5
abbrev s_is_size : Stmt := top 23
section
variable {P : Program} {w : World} {K : PySem.W.Frag} {mg : Str → Option Value} {base : Heap} {C CM CX CS : Addr}
/-! ### Matrix.eye -/
def spIsSize : Sp := fun vs H Q _ => ∃ n : Nat, vs = [.int n] ∧ 0 < n ∧ Q (.bl true) H
theorem sc_is_size : FnScope ["given"] ["given"] (defScope s_is_size) := ⟨rfl, rfl, rfl, by decide +kernel, rfl, by decide +kernel, by decide +kernel⟩
theorem ok_size {f : Addr} {fd : FuncData} (F : Fun K "is_size" "is_size" s_is_size f fd) (c_whole : WholeC P w K mg base) : FnOk P w K mg base CX0 4 f fd ["given"] spIsSize := by
  refine F.ok sc_is_size (fun vs H Q E h => ?_) (fun cdv A outer s H vs Q E hr h => ?_)
  · obtain ⟨n, rfl, _⟩ := h
    rfl
  · obtain ⟨n, rfl, h0, k⟩ := h
    refine ⟨_, (pss_one (ps_ret (pe_and (pe_cf c_whole hr (by decide) rfl (pa_cons (pv 0) pa_nil)) (pe_one (pe_cmpR op_ge (pv 0) pe_int (nomark _)))))), ?_⟩
    refine ⟨_, rfl, .int n, .type "int", true, false, rfl, tyx_int _, kit_ty (by decide +kernel), kit_ty (by decide +kernel), _, rfl, iteT ⟨_, rfl, _, _, rfl, rfl, ?_⟩⟩
    show Q (.bl (decide ((1 : Int) ≤ (n : Int)))) H
    rw [decide_eq_true (show (1 : Int) ≤ (n : Int) by omega)]
    exact k
abbrev SizeC (P : Program) (w : World) (K : PySem.W.Frag) (mg : Str → Option Value) (base : Heap) : Prop := CalF P w K mg base 4 "is_size" spIsSize []
theorem make_num {H : Hp} {t : Addr} {r c : Nat} {f : Nat → Nat → Rat} {Q : VK} (ht : Tb (NumAt C) H t r c f) (z : Sz r c) (k : ∀ m H', H m = none → Same H H' → MtAt C CM H' m r c f → Q (.ref m) H') :
    ∀ x dx, H x = none → H dx = none → dx ≠ x → spMInit C CM [.ref x, .ref t] (upd (upd H dx (.own x)) x (.ins CM dx [])) (fun v H2 => v = .non ∧ Q (.ref x) H2) E0 := by
  intro x dx hx hdx hne
  have s1 : Same H (upd (upd H dx (.own x)) x (.ins CM dx [])) := MG.Same.new (MG.Same.new (Same.refl H) hdx) (by rw [upd_ne (fun e => hne e.symm)]; exact hx)
  refine ⟨x, dx, t, r, c, f, rfl, upd_same, ht.same (num_mono C) s1, z, fun H' t' e tb kp => ⟨rfl, k x H' hx (fun b o hb => ?_) ⟨dx, t', e, tb⟩⟩⟩
  exact kp b o (s1 _ _ hb) (ne_of_none hb hx)
def spEyeM (C CM : Addr) : Sp := fun vs H Q _ => ∃ n : Nat, vs = [.ref CM, .int n] ∧ 0 < n ∧ n ≤ 100 ∧ ∀ m H', Same H H' → MtAt C CM H' m n n (qv eyeI 1) → Q (.ref m) H'
theorem sc_Matrix_eye : FnScope ["cls", "size", "row", "column"] ["cls", "size"] (defScope s_Matrix_eye) := ⟨rfl, rfl, rfl, by decide +kernel, rfl, by decide +kernel, by decide +kernel⟩
theorem ok_meye {f : Addr} {fd : FuncData} (F : Fun K "eye" "Matrix.eye" s_Matrix_eye f fd) (T : TxM K mg C CM) (c_size : SizeC P w K mg base) (m_mat : MatC P w K mg base C CM) : FnOk P w K mg base CX0 10 f fd ["cls", "size"] (spEyeM C CM) := by
  refine F.ok sc_Matrix_eye (fun vs H Q E h => ?_) (fun cdv A outer s H vs Q E hr h => ?_)
  · obtain ⟨n, rfl, _⟩ := h
    rfl
  · obtain ⟨n, rfl, n0, n1, k⟩ := h
    refine ⟨_, (pss_cons (ps_if (pt_not (pt_val (pe_cf c_size hr (by decide) rfl (pa_cons (pv 1) pa_nil)))) (pss_one ps_never)
  pss_nil)
  (pss_one (ps_ret (pe_mkL (i := 0) m_mat hr (by decide) rfl (Or.inl rfl) (pa_cons (pe_callTy (call_tuple_ofK (K := K)) (by rfl) T.b_tuple (by decide +kernel) (pa_cons (pe_lcI (pe_lc (own := [("row", 2)]) rfl sc_Matrix_eye.nd (pi_range1 (by rfl) T.b_range (pa_cons (pv 1) pa_nil)) (blkOk_by (N := ["cls", "size", "row", "column"]) (sc := (defScope s_Matrix_eye)) (by decide +kernel)) (fun _ _ _ _ _ => (pg_name (i := 2) sc_Matrix_eye.nd rfl (Or.inr rfl))) (fun _ _ _ _ _ => pts_nil) (fun _ _ _ _ _ => (pe_cut (pe_callTy (call_tuple_ofK (K := K)) (by rfl) T.b_tuple (by decide +kernel) (pa_cons (pe_lcI (pe_lc (own := [("column", 3)]) rfl sc_Matrix_eye.nd (pi_range1 (by rfl) T.b_range (pa_cons (pv 1) pa_nil)) (blkOk_by (N := ["cls", "size", "row", "column"]) (sc := ({ kind := .function, names := [(PySem.Str.ofString ".0", .local), (PySem.Str.ofString "row", .cell), (PySem.Str.ofString "tuple", .globalImplicit), (PySem.Str.ofString "range", .globalImplicit), (PySem.Str.ofString "size", .cell)], isGenerator := false, isCoroutine := false } : Scope)) (by decide +kernel)) (fun _ _ _ _ _ => (pg_name (i := 3) sc_Matrix_eye.nd rfl (Or.inl rfl))) (fun _ _ _ _ _ => pts_nil) (fun _ _ _ _ _ => (pe_cut (pe_ifExp (pt_cmpR op_eq (pv 3) (pv 2) (nomark _)) pe_int pe_int))))) pa_nil)))))) pa_nil)) pa_nil))))), ?_⟩
    refine ⟨_, rfl, n, rfl, n0, _, rfl, iteF ?_⟩
    refine ⟨rfl, _, rfl, (n : Int), rfl, by omega, by omega, fun D hD => ?_⟩
    have hc0 : ((n : Nat) : Int).toNat = n := by omega
    rw [hc0]
    refine lc_same (walk_range (lo := 0) (n := n)) hD (by omega) (fun i y G => Rw (NumAt C) G y n (qv eyeI 1 i)) (fun i y G G' h s => h.same (num_mono C) s) (fun G s => trivial) yfn_same (fun i y H1 H1' hi s1 nD hy => ?_) fun ys H1 hl1 s1 e1 h1 => ?_
    · obtain ⟨rfl, rfl⟩ := hy
      refine ⟨_, fun _ h => h, wipe_one, ?_⟩
      refine ⟨_, rfl, (n : Int), rfl, by omega, by omega, fun D2 hD2 => ?_⟩
      rw [hc0]
      refine lc_same (walk_range (lo := 0) (n := n)) hD2 (by omega) (fun j y G => NumAt C G y (qv eyeI 1 i j)) (fun j y G G' h s => h.same s) (fun G s => trivial) yfn_same (fun j y H2 H2' hj s2 _ hy => ?_) fun ys2 H2 hl2 s2 e2 h2 => ?_
      · obtain ⟨rfl, rfl⟩ := hy
        refine ⟨_, fun _ h => h, wipe_one, ?_⟩
        refine ⟨_, rfl, _, rfl, rfl, _, rfl, ?_⟩
        refine ite2 (fun z => ?_) (fun z => ?_)
        · have ij : i = j := by have := of_decide_eq_true z; have := V.int.inj this; omega
          exact ⟨Same.refl _, fun _ => .inr ⟨1, rfl, by unfold qv eyeI; rw [if_pos ij]⟩⟩
        · have ij : ¬ i = j := fun e => z (decide_eq_true (by rw [e]))
          exact ⟨Same.refl _, fun _ => .inr ⟨0, rfl, by unfold qv eyeI; rw [if_neg ij]⟩⟩
      · refine ⟨D2, ys2, rfl, .inl ⟨SqL.of e2, fun T2 hT2 => ⟨MG.Same.new s2 hT2, fun ⟨l, hl⟩ => ?_⟩⟩⟩
        exact (rw_new (num_mono C) (hid_same D2 H2) hT2 hl2 h2).hid (num_mono C) hl
    refine ⟨D, ys, rfl, .inl ⟨SqL.of e1, fun T7 hT7 => ?_⟩⟩
    exact make_num (tb_new (num_mono C) (hid_same D H1) hT7 hl1 h1) ⟨n0, by omega, n0, by omega⟩ fun m H' _ s h => k m H' ((MG.Same.new s1 hT7).trans s) h
abbrev MEyeC (P : Program) (w : World) (K : PySem.W.Frag) (mg : Str → Option Value) (base : Heap) (C CM : Addr) : Prop := CmtF P w K mg base 10 CM "eye" (spEyeM C CM)
end
end Lw

namespace Lw
open PySem PySem.Spec PyProof.Rows L2 MG
abbrev s__law_inverted : Stmt := top 53
abbrev s__law_traced : Stmt := top 54
section
variable {P : Program} {w : World} {K : PySem.W.Frag} {mg : Str → Option Value} {base : Heap} {C CM CX CS : Addr}
theorem lk1 {x y : V} : ([("second", y), ("first", x)] : List (Str × V)).lookup ("first" : Str) = some x := by
  rw [List.lookup_cons, show (("first" : Str) == ("second" : Str)) = false by decide +kernel]
  simp [List.lookup]
theorem lk2 {x y : V} : ([("second", y), ("first", x)] : List (Str × V)).lookup ("second" : Str) = some y := by simp [List.lookup]
def spTraced (C CM : Addr) : Sp := fun vs H Q _ => ∃ (a : Addr) (r c : Nat) (f : Nat → Nat → Rat), vs = [.ref a] ∧ MtAt C CM H a r c f ∧ 0 < r ∧ r ≤ 60 ∧ (r ≠ c → ∀ p H', Same H H' → H' p = some (.tup [.int r, .int c]) → Q (.ref p) H') ∧
  (r = c → ∃ (A : Nat → Nat → Int) (u : Int), Bn r r A u 100 ∧ (∀ i j, i < r → j < r → f i j = qv A u i j) ∧ ∀ y H', Same H H' → RatAt C H' y (Rat.divInt (smZ r fun i => A i i) u) → Q (.ref y) H')
theorem sc__law_traced : FnScope ["_law_one", "e"] ["_law_one"] (defScope s__law_traced) := ⟨rfl, rfl, rfl, by decide +kernel, rfl, by decide +kernel, by decide +kernel⟩
theorem ok_traced {f : Addr} {fd : FuncData} (F : Fun K "_law_traced" "_law_traced" s__law_traced f fd) (T : TxM K mg C CM) (x_mis : XmC P w K mg base CX) (m_tr : MTrC P w K mg base C CM CX) : FnG P w K mg base CX0 14 f fd ["_law_one"] (spTraced C CM) := by
  refine fun_okG F sc__law_traced (fun vs H Q E h => ?_) (fun cdv A' outer s H vs Q E bare hr h => ?_)
  · obtain ⟨a, r, c, f, rfl, _⟩ := h
    rfl
  · obtain ⟨a, r, c, f, rfl, hA, r0, r1, k1, k2⟩ := h
    obtain ⟨dx, t, ea, _⟩ := id hA
    refine ⟨_, (pss_one (ps_try_cut (i := 1) (Wout := fun _ _ _ _ => False) rfl rfl sc__law_traced.nd rfl rfl ⟨rfl, by decide, Or.inl x_mis.g⟩ takesN0
  (fun W pn xe tk _ => (pss_one (ps_ret (pe_metX0 m_tr T.clM hr (by decide) tk (pv 0)))))
  (fun a oe cls d pn hz hf => (pss_one (ps_ret (pe_tup (pa_cons (pe_xf (C := CX) x_mis.xf x_mis.no1 hz.zc hf (pv 1)) (pa_cons (pe_xf (C := CX) x_mis.xf x_mis.no2 hz.zc hf (pv 1)) pa_nil)))))))), ?_⟩
    refine ⟨fun cls d σ' H' => cls = .ref CX ∧ σ' = [some (.ref a), none] ∧ ∃ dd x y, d = some dd ∧ H' dd = some (.xd [("second", y), ("first", x)]) ∧ ∀ p, H' p = none → Q (.ref p) (upd H' p (.tup [x, y])), ?_, ?_⟩
    · rintro cls d σ' H' ⟨rfl, rfl, dd, x, y, rfl, ed, k⟩
      refine ⟨true, x_mis.te, fun _ a ha => ?_, fun q => Bool.noConfusion q⟩
      exact ⟨_, rfl, rfl, rfl, dd, _, _, rfl, ed, lk1, _, rfl, rfl, rfl, dd, _, _, rfl, ed, lk2, by show 2 ≤ sizeLine; decide, fun p hp => k p hp⟩
    refine ⟨_, rfl, a, dx, _, rfl, ea, rfl, a, r, c, f, rfl, hA, r0, r1, fun hne d H' s n e => ?_, fun heq => ?_⟩
    · exact ⟨rfl, rfl, d, _, _, rfl, e, fun p hp => k1 hne p _ (s.trans (MG.Same.new (Same.refl _) hp)) upd_same⟩
    · obtain ⟨A, u, bn, ev, kk⟩ := k2 heq
      exact ⟨A, u, bn, ev, fun y H' s h => kk y H' s h⟩
abbrev TracedC (P : Program) (w : World) (K : PySem.W.Frag) (mg : Str → Option Value) (base : Heap) (C CM : Addr) : Prop := CalG P w K mg base 14 "_law_traced" (spTraced C CM) []
def spLInv (C CM : Addr) : Sp := fun vs H Q _ => ∃ (a : Addr) (r c : Nat) (f : Nat → Nat → Rat), vs = [.ref a] ∧ MtAt C CM H a r c f ∧ 0 < r ∧ (r ≠ c → ∀ p H', Same H H' → H' p = some (.tup [.int r, .int c]) → Q (.ref p) H') ∧
  (r = c → ∃ P w, Sq r f P w ∧ Bds r r f 100 ∧ ((Sing r P ∧ ∀ p H', Same H H' → H' p = some (.tup []) → Q (.ref p) H') ∨ ∃ Y d, Rinv r P w Y d ∧ ∀ m H', Same H H' → MtAt C CM H' m r r (fun i s => Rat.divInt (w * Y i s) d) → Q (.ref m) H'))
theorem sc__law_inverted : FnScope ["_law_one", "e"] ["_law_one"] (defScope s__law_inverted) := ⟨rfl, rfl, rfl, by decide +kernel, rfl, by decide +kernel, by decide +kernel⟩
theorem ok_linv {f : Addr} {fd : FuncData} (F : Fun K "_law_inverted" "_law_inverted" s__law_inverted f fd) (T : TxM K mg C CM) (x_mis : XmC P w K mg base CX) (x_sing : Exc0 P w K mg base "Singular" CS) (nXS : PySem.W.exmOne K (.ref CX) (.ref CS) = some false) (m_inv : MInvC P w K mg base C CM CX CS) : FnG P w K mg base CX0 14 f fd ["_law_one"] (spLInv C CM) := by
  refine fun_okG F sc__law_inverted (fun vs H Q E h => ?_) (fun cdv A' outer s H vs Q E bare hr h => ?_)
  · obtain ⟨a, r, c, f, rfl, _⟩ := h
    rfl
  · obtain ⟨a, r, c, f, rfl, hA, r0, k1, k2⟩ := h
    obtain ⟨dx, t, ea, _⟩ := id hA
    refine ⟨_, pss_one (ps_mix_cut (i := 1) (Wz := fun _ _ _ _ => False) rfl rfl sc__law_inverted.nd rfl rfl takesN0
      (fun W pn xe tk _ => pss_one (ps_ret (pe_metX0 m_inv T.clM hr (by decide) tk (pv 0))))
      (.bare ⟨rfl, by decide, .inl x_sing.g⟩ (fun a oe cls d pn hz hf => pss_one (ps_ret (pe_tup pa_nil)))
      (.named ⟨rfl, by decide, .inl x_mis.g⟩ (fun a oe cls d pn hz hf => pss_one (ps_ret (pe_tup (pa_cons (pe_xf (C := CX) x_mis.xf x_mis.no1 hz.zc hf (pv 1)) (pa_cons (pe_xf (C := CX) x_mis.xf x_mis.no2 hz.zc hf (pv 1)) pa_nil)))))
      .nil))), ?_⟩
    refine ⟨fun cls d σ' H' => σ' = [some (.ref a), none] ∧ ((cls = .ref CX ∧ ∃ dd x y, d = some dd ∧ H' dd = some (.xd [("second", y), ("first", x)]) ∧ ∀ p, H' p = none → Q (.ref p) (upd H' p (.tup [x, y]))) ∨ (cls = .ref CS ∧ ∀ p, H' p = none → Q (.ref p) (upd H' p (.tup [])))), ?_, ?_⟩
    · rintro cls d σ' H' ⟨rfl, ⟨rfl, dd, x, y, rfl, ed, k⟩ | ⟨rfl, k⟩⟩
      · refine ⟨false, nXS, fun q => Bool.noConfusion q, fun _ => ⟨true, x_mis.te, fun _ a ha hl => ?_, fun q => Bool.noConfusion q⟩⟩
        exact ⟨_, rfl, rfl, rfl, dd, _, _, rfl, ed, lk1, _, rfl, rfl, rfl, dd, _, _, rfl, ed, lk2, by show 2 ≤ sizeLine; decide, fun p hp => k p hp⟩
      · refine ⟨true, x_sing.te, fun _ a ha hl => ?_, fun q => Bool.noConfusion q⟩
        exact ⟨by show 0 ≤ sizeLine; decide, fun p hp => k p hp⟩
    refine ⟨_, rfl, a, dx, _, rfl, ea, rfl, a, r, c, f, rfl, hA, r0, fun hne d H' s n e => ?_, fun heq => ?_⟩
    · exact ⟨rfl, .inl ⟨rfl, d, _, _, rfl, e, fun p hp => k1 hne p _ (s.trans (MG.Same.new (Same.refl _) hp)) upd_same⟩⟩
    · obtain ⟨Pm, w', sq, bd, kk⟩ := k2 heq
      refine ⟨Pm, w', sq, bd, ?_⟩
      rcases kk with ⟨hs, kE⟩ | ⟨Y, d, hI, kQ⟩
      · exact .inl ⟨hs, fun H' s => ⟨rfl, .inr ⟨rfl, fun p hp => kE p _ (s.trans (MG.Same.new (Same.refl _) hp)) upd_same⟩⟩⟩
      · exact .inr ⟨Y, d, hI, fun m H' s h => kQ m H' s h⟩
abbrev LInvC (P : Program) (w : World) (K : PySem.W.Frag) (mg : Str → Option Value) (base : Heap) (C CM : Addr) : Prop := CalG P w K mg base 14 "_law_inverted" (spLInv C CM) []
end
end Lw

namespace Lw
open PySem PySem.Spec PyProof.Rows L2 MG
abbrev s__law_square : Stmt := top 52
section
variable {P : Program} {w : World} {K : PySem.W.Frag} {mg : Str → Option Value} {base : Heap} {C CM CX CS : Addr}
def spSquare : Sp := fun vs H Q _ => ∃ (q : Addr) (n : Nat), vs = [.ref q] ∧ QAt H q n ∧ n + 90 ≤ 100000 ∧
  ∀ (t : Addr) (m : Nat) (A : Nat → Nat → Int) (u : Int) (H' : Hp), Keep q H H' → QAt H' q (n + 90) → PrAt (hid q H') t m m A u → Bn m m A u 14 → u ≤ 30 → 0 < m → m ≤ 6 → Q (.ref t) H'
/-- the rows of a table drawn, under names -/
theorem sel_rows {G : Hp} {ys : List V} {r c b : Nat} (hl : ys.length = r) (h : ∀ (i : Nat) (y : V), ys[i]? = some y → ∃ p g, y = .ref p ∧ G p = some (.lst (rowV c g)) ∧ ∀ j, j < c → (g j).natAbs < b) :
    ∃ A : Nat → Nat → Int, (∀ (i : Nat) (y : V), ys[i]? = some y → RowR c A i y G) ∧ ∀ i j, i < r → j < c → (A i j).natAbs < b := by
  have pick : ∀ i : Nat, ∃ g : Nat → Int, ∀ y : V, ys[i]? = some y → (∃ p, y = V.ref p ∧ G p = some (.lst (rowV c g))) ∧ ∀ j, j < c → (g j).natAbs < b := fun i => by
    cases e : ys[i]? with
    | none => exact ⟨fun _ => 0, fun y hy => by cases hy⟩
    | some y =>
      obtain ⟨p, g, e1, e2, e3⟩ := h i y e
      refine ⟨g, fun y' hy' => ?_⟩
      cases hy'
      exact ⟨⟨p, e1, e2⟩, e3⟩
  refine ⟨fun i => (pick i).choose, fun i y hy => ((pick i).choose_spec y hy).1, fun i j hi hj => ?_⟩
  have hy : ys[i]? = some ys[i] := List.getElem?_eq_getElem (by omega)
  exact ((pick i).choose_spec _ hy).2 j hj
theorem sel_ints {ys : List V} {c b : Nat} (hl : ys.length = c) (h : ∀ (j : Nat) (y : V), ys[j]? = some y → ∃ z : Int, y = .int z ∧ z.natAbs < b) : ∃ g : Nat → Int, (∀ (j : Nat) (y : V), ys[j]? = some y → y = .int (g j)) ∧ ∀ j, j < c → (g j).natAbs < b := by
  refine ⟨fun j => match ys[j]? with | some (.int z) => z | _ => 0, fun j y hy => ?_, fun j hj => ?_⟩
  · obtain ⟨z, rfl, _⟩ := h j y hy
    show V.int z = V.int (match ys[j]? with | some (.int z) => z | _ => 0)
    rw [hy]
  · have hy : ys[j]? = some ys[j] := List.getElem?_eq_getElem (by omega)
    obtain ⟨z, e, hz⟩ := h j _ hy
    show (match ys[j]? with | some (.int z) => z | _ => 0 : Int).natAbs < b
    rw [hy, e]
    exact hz
theorem sc__law_square : FnScope ["_law_q", "_law_many", "_law_pair", "_law_lines", "_law_way", "_law_at", "_law_left", "_law_right_here", "_law_a", "_law_b", "_law_line", "_law_cell", "_law_x", "_law_y"] ["_law_q"] (defScope s__law_square) := ⟨rfl, rfl, rfl, by decide +kernel, rfl, by decide +kernel, by decide +kernel⟩
theorem ok_square {f : Addr} {fd : FuncData} (F : Fun K "_law_square" "_law_square" s__law_square f fd) (T : Blt mg) (c_draw : DrawC P w K mg base) (c_cells : CellsC P w K mg base) (c_low : LowTC P w K mg base) : FnG P w K mg base CX0 8 f fd ["_law_q"] spSquare := by
  refine fun_okG F sc__law_square (fun vs H Q E h => ?_) (fun cdv A' outer s H vs Q E bare hr h => ?_)
  · obtain ⟨q, n, rfl, _⟩ := h
    rfl
  · obtain ⟨q, n, rfl, hq, hn, k⟩ := h
    refine ⟨_, (pss_cons (ps_set (i := 1) sc__law_square.nd rfl (Or.inl rfl) (pe_op op_add pe_int (pe_cg c_draw bare hr (by decide) rfl (pa_cons (pv 0) (pa_cons pe_int pa_nil)))))
  (pss_cons (ps_set (i := 2) sc__law_square.nd rfl (Or.inl rfl) (pe_cg c_cells bare hr (by decide) rfl (pa_cons (pv 0) (pa_cons (pv 1) (pa_cons (pv 1) pa_nil)))))
  (pss_cons (ps_par (i := 3) (j := 4) (by rfl) sc__law_square.nd rfl rfl (by decide) rfl rfl (pa_cons (pe_ix (ix_tupK (K := K)) (pv 2) pe_int (fun _ _ => rfl)) (pa_cons (pe_cg c_draw bare hr (by decide) rfl (pa_cons (pv 0) (pa_cons pe_int pa_nil))) pa_nil)) (by rfl))
  (pss_cons (ps_cut (ps_if (pt_cmpR op_eq (pv 4) pe_int (nomark _)) (pss_one (ps_lcI (ps_setLc (i := 3) (own := [("_law_line", 10)]) rfl sc__law_square.nd rfl rfl (sw_true rfl rfl rfl (by decide +kernel)) (pi_listK (K := K) (pv 3)) (blkOk_by (N := ["_law_q", "_law_many", "_law_pair", "_law_lines", "_law_way", "_law_at", "_law_left", "_law_right_here", "_law_a", "_law_b", "_law_line", "_law_cell", "_law_x", "_law_y"]) (sc := (defScope s__law_square)) (by decide +kernel)) (fun _ _ _ _ _ => (pg_name (i := 10) sc__law_square.nd rfl (Or.inl rfl))) (fun _ _ _ _ _ => pts_nil) (fun _ _ _ _ _ => (pe_cut (pe_lcI (pe_lc (own := [("_law_cell", 11)]) rfl sc__law_square.nd (pi_listK (K := K) (pv 10)) (blkOk_by (N := ["_law_q", "_law_many", "_law_pair", "_law_lines", "_law_way", "_law_at", "_law_left", "_law_right_here", "_law_a", "_law_b", "_law_line", "_law_cell", "_law_x", "_law_y"]) (sc := ({ kind := .function, names := [(PySem.Str.ofString ".0", .local), (PySem.Str.ofString "_law_line", .local), (PySem.Str.ofString "_law_q", .cell)], isGenerator := false, isCoroutine := false } : Scope)) (by decide +kernel)) (fun _ _ _ _ _ => (pg_name (i := 11) sc__law_square.nd rfl (Or.inl rfl))) (fun _ _ _ _ _ => pts_nil) (fun _ _ _ _ _ => (pe_cut (pe_op op_mulW (pv 11) (pe_callTy call_int1 (by rfl) T.b_int (by decide +kernel) (pa_cons (pe_cmpR op_eq (pe_cg c_draw bare hr (by decide) rfl (pa_cons (pv 0) (pa_cons pe_int pa_nil))) pe_int (nomark _)) pa_nil))))))))))))
  pss_nil))
  (pss_cons (ps_cut (ps_if (pt_cmpR op_gt (pv 4) pe_int (nomark _)) (pss_cons (ps_par3 (i := 5) (j := 6) (l := 7) (by rfl) sc__law_square.nd rfl rfl rfl (by decide) (by decide) (by decide) rfl rfl rfl (pa_cons (pe_cg c_draw bare hr (by decide) rfl (pa_cons (pv 0) (pa_cons (pv 1) pa_nil))) (pa_cons (pe_cg c_draw bare hr (by decide) rfl (pa_cons (pv 0) (pa_cons (pv 1) pa_nil))) (pa_cons (pe_cg c_draw bare hr (by decide) rfl (pa_cons (pv 0) (pa_cons (pv 1) pa_nil))) pa_nil))) (by rfl))
  (pss_cons (ps_asg (pe_tup (pa_cons (pe_op op_sub (pe_cg c_draw bare hr (by decide) rfl (pa_cons (pv 0) (pa_cons pe_int pa_nil))) pe_int) (pa_cons (pe_op op_sub (pe_cg c_draw bare hr (by decide) rfl (pa_cons (pv 0) (pa_cons pe_int pa_nil))) pe_int) pa_nil))) (pg_tupK (K := K) (n := 2) rfl (pgs_cons (pg_name (i := 8) sc__law_square.nd rfl (Or.inr rfl)) (pgs_cons (pg_name (i := 9) sc__law_square.nd rfl (Or.inr rfl)) pgs_nil))))
  (pss_one (ps_set (i := 3) sc__law_square.nd rfl (Or.inl rfl) (pe_op op_cat (pe_op op_cat (pe_slice (sl_listK (K := K)) (pv 3) po_none (po_some (pv 5))) (pe_lst (pa_cons (pe_lcI (pe_lc (own := [("_law_x", 12), ("_law_y", 13)]) rfl sc__law_square.nd (pi_zipK (K := K) (by rfl) T.b_zip (pa_cons (pe_ix (ix_listK (K := K)) (pv 3) (pv 6) (fun _ _ => rfl)) (pa_cons (pe_ix (ix_listK (K := K)) (pv 3) (pv 7) (fun _ _ => rfl)) pa_nil))) (blkOk_by (N := ["_law_q", "_law_many", "_law_pair", "_law_lines", "_law_way", "_law_at", "_law_left", "_law_right_here", "_law_a", "_law_b", "_law_line", "_law_cell", "_law_x", "_law_y"]) (sc := (defScope s__law_square)) (by decide +kernel)) (fun _ _ _ _ _ => (pg_tupK (K := K) (n := 2) rfl (pgs_cons (pg_name (i := 12) sc__law_square.nd rfl (Or.inl rfl)) (pgs_cons (pg_name (i := 13) sc__law_square.nd rfl (Or.inl rfl)) pgs_nil)))) (fun _ _ _ _ _ => pts_nil) (fun _ _ _ _ _ => (pe_cut (pe_op op_add (pe_op op_mulW (pv 8) (pv 12)) (pe_op op_mulW (pv 9) (pv 13))))))) pa_nil))) (pe_slice (sl_listK (K := K)) (pv 3) (po_some (pe_op op_add (pv 5) pe_int)) po_none))))))
  pss_nil))
  (pss_one (ps_ret (pe_cg c_low bare hr (by decide) rfl (pa_cons (pe_tup (pa_cons (pv 3) (pa_cons (pe_ix (ix_tupK (K := K)) (pv 2) pe_int (fun _ _ => rfl)) pa_nil))) pa_nil))))))))), ?_⟩
    -- many
    refine ⟨_, rfl, q, 6, n, rfl, hq, by omega, by decide, by decide, fun m0 H1 m00 m01 k1 q1 => ⟨_, _, rfl, rfl, ?_⟩⟩
    obtain ⟨m, em⟩ : ∃ m : Nat, 1 + m0 = (m : Int) := ⟨(1 + m0).toNat, by omega⟩
    rw [show (fun i j : Int => V.int (i + j)) 1 m0 = V.int (m : Int) from congrArg V.int em]
    have hm0 : 0 < m := by omega
    have hm6 : m ≤ 6 := by omega
    have mm : m * m ≤ 36 := Nat.mul_le_mul hm6 hm6
    -- pair
    refine ⟨_, rfl, _, rfl, _, rfl, q, n + 1, m, m, rfl, q1, by omega, hm0, by omega, hm0, by omega, fun t A u H2 k2 q2 hP bn u30 => ?_⟩
    obtain ⟨L, ht, rs, hL, hl, hrow⟩ := hP
    -- lines, way
    refine ⟨_, rfl, t, _, _, _, rfl, rfl, SqT.of (hid_same q H2 _ _ ht), rfl, _, rfl, q, 4, _, rfl, q2, by omega, by decide, by decide, fun wy H3 w0 w1 k3 q3 => ?_⟩
    refine ⟨_, _, rfl, ?_⟩
    have k13 : Keep q H H3 := (k1.trans k2).trans k3
    have h23 : ∀ {b : Addr} {o : HO}, (hid q H2) b = some o → H3 b = some o ∧ b ≠ q := fun {b o} e => by
      have nb : b ≠ q := fun z => by rw [z, hid_self] at e; cases e
      exact ⟨k3 _ _ (hid_same q H2 _ _ e) nb, nb⟩
    have ht3 := (h23 ht).1
    have hL3 := (h23 hL).1
    have hrow3 : ∀ (i : Nat) (x : V), rs[i]? = some x → ∃ p, x = .ref p ∧ H3 p = some (.lst (rowV m (A i))) ∧ p ≠ q := fun i x hx => by
      obtain ⟨p, e, h⟩ := hrow i x hx
      exact ⟨p, e, (h23 h).1, (h23 h).2⟩
    -- if way == 0
    refine ⟨fun σ G => Keep q H G ∧ QAt G q (n + 80) ∧ ∃ (Lx : Addr) (A1 : Nat → Nat → Int), σ = [some (.ref q), some (.int m), some (.ref t), some (.ref Lx), some (.int wy), none, none, none, none, none, none, none, none, none] ∧ LL (hid q G) Lx m m A1 ∧ (∀ i j, i < m → j < m → (A1 i j).natAbs < 10 ^ 13) ∧ (hid q G) t = some (.tup [.ref L, .int u]), ?_, ?_⟩
    · refine ⟨_, rfl, rfl, _, rfl, ?_⟩
      refine ite2 (fun z => ?_) (fun _ => ?_)
      · refine ⟨_, rfl, L, rfl, ⟨rs, SqL.of hL3⟩, fun D hD => ?_⟩
        have nqD : q ≠ D := (q3.ne hD).symm
        have nLq := (h23 hL).2
        refine lc_keep (q := q) (walk_list (K := K) (a := L) (xs := rs)) hD (by obtain ⟨o, e⟩ := q3.at_; rw [e]; exact nofun) (by omega) (fun i G => QAt G q (n + 1 + 3 + m * m + 1 + i * m)) (fun m G G' h s => h.keep s) (fun m G kG h => QAt.down q3 kG h hD) (by rw [Nat.zero_mul]; exact q3)
          (fun i y G => ∃ p g, y = .ref p ∧ G p = some (.lst (rowV m g)) ∧ ∀ j, j < m → (g j).natAbs < 10 ^ 13) (fun i y G G' ⟨p, g, e, h, z⟩ s => ⟨p, g, e, s _ _ h, z⟩) (fun G kG => SqL.of (kG _ _ hL3 nLq)) yat_same (fun i x H4 H4' hi k4 q4 nD hy => ?_) fun ys H4 hl4 k4 q4 e4 h4 => ?_
        · obtain ⟨rfl, hx⟩ := hy
          obtain ⟨p, rfl, hp, npq⟩ := hrow3 i x hx
          have him : i < m := by omega
          have hp4 := k4 _ _ hp npq
          refine ⟨_, fun _ h => h, wipe_one, ?_⟩
          refine ⟨_, rfl, p, rfl, ⟨_, SqL.of hp4⟩, fun D2 hD2 => ?_⟩
          have nqD2 : q ≠ D2 := (q4.ne hD2).symm
          have hib : i * m + m ≤ m * m := by
            have : (i + 1) * m ≤ m * m := Nat.mul_le_mul_right _ (by omega)
            rw [Nat.succ_mul] at this
            exact this
          refine lc_keep (q := q) (walk_list (K := K) (a := p) (xs := rowV m (A i))) hD2 (by obtain ⟨o, e⟩ := q4.at_; rw [e]; exact nofun) (by rw [rowV_len]; omega) (fun j G => QAt G q (n + 1 + 3 + m * m + 1 + i * m + j)) (fun m G G' h s => h.keep s) (fun m G kG h => QAt.down q4 kG h hD2) q4
            (fun j y G => ∃ z : Int, y = .int z ∧ z.natAbs < 10 ^ 13) (fun j y G G' h s => h) (fun G kG => SqL.of (kG _ _ hp4 npq)) yat_same (fun j v H5 H5' hj k5 q5 nD2 hy => ?_) fun ys2 H5 hl5 k5 q5 e5 h5 => ?_
          · obtain ⟨rfl, hy⟩ := hy
            obtain ⟨hjm, rfl⟩ := rowV_get hy
            refine ⟨_, fun _ h => h, wipe_one, ?_⟩
            refine ⟨_, rfl, _, rfl, q, 3, _, rfl, q5, by omega, by decide, by decide, fun z H6 z0 z1 k6 q6 => ?_⟩
            have b01 := bn.ab i j him hjm
            refine ⟨rfl, .inr ⟨_, rfl, _, _, rfl, rfl, sm_mul (smI b01 (by decide)) ?_, k6, q6, fun _ => ⟨_, rfl, ?_⟩⟩⟩
            · split
              · exact sm_lt (k := 1) (by decide) (by decide) (by decide)
              · exact sm_lt (k := 1) (by decide) (by decide) (by decide)
            · split
              · rw [Int.mul_one]; exact b01
              · rw [Int.mul_zero]; exact (show (0 : Int).natAbs < 10 ^ 13 by decide)
          · obtain ⟨g, hg, gb⟩ := sel_ints (hl5.trans rowV_len) h5
            rw [rowV_len] at q5
            refine ⟨k5, ?_, fun _ => ⟨D2, g, rfl, ?_, gb⟩⟩
            · have : n + 1 + 3 + m * m + 1 + i * m + m = n + 1 + 3 + m * m + 1 + (i + 1) * m := by rw [Nat.succ_mul]; omega
              rw [← this]; exact q5
            · have n : D2 ≠ D := fun q => nD (q ▸ hD2)
              rw [hid_ne nqD2.symm, hid_ne n, e5]
              exact congrArg _ (congrArg _ (ints_of (hl5.trans rowV_len) hg))
        obtain ⟨A1, hA1, bA1⟩ := sel_rows (hl4.trans hl) h4
        have nDq : D ≠ q := nqD.symm
        rw [hl] at q4
        refine ⟨k13.trans k4, q4.le (by omega), D, A1, rfl, ⟨ys, by rw [hid_ne nDq]; exact e4, hl4.trans hl, fun i y hy => (hA1 i y hy).elim fun p e => ⟨p, e.1, hid_mono (hid_same D H4) _ _ e.2⟩⟩, bA1, ?_⟩
        rw [hid_ne (h23 ht).2]
        exact k4 _ _ ht3 (h23 ht).2
      · refine ⟨k13, q3.le (by omega), L, A, rfl, ?_, bn.ab, ?_⟩
        · refine ⟨rs, by rw [hid_ne (h23 hL).2]; exact hL3, hl, fun i x hx => ?_⟩
          obtain ⟨p, e, h, np⟩ := hrow3 i x hx
          exact ⟨p, e, by rw [hid_ne np]; exact h⟩
        · rw [hid_ne (h23 ht).2]; exact ht3
    rintro σ G ⟨kG, qG, Lx, A1, rfl, ⟨rs1, eL1, hl1, hrow1⟩, bA1, htq⟩
    have outq : ∀ {b : Addr} {o : HO} {G' : Hp}, (hid q G) b = some o → Keep q G G' → G' b = some o ∧ b ≠ q := fun {b o G'} e kk => by
      have nb : b ≠ q := fun z => by rw [z, hid_self] at e; cases e
      exact ⟨kk _ _ (hid_same q G _ _ e) nb, nb⟩
    refine ⟨fun σ G' => Keep q H G' ∧ QAt G' q (n + 85) ∧ ∃ (Ly : Addr) (A2 : Nat → Nat → Int) (v5 v6 v7 v8 v9 : Option V), σ = [some (.ref q), some (.int m), some (.ref t), some (.ref Ly), some (.int wy), v5, v6, v7, v8, v9, none, none, none, none] ∧ LL (hid q G') Ly m m A2 ∧ (∀ i j, i < m → j < m → (A2 i j).natAbs < 10 ^ 14) ∧ (hid q G') t = some (.tup [.ref L, .int u]), ?_, ?_⟩
    · refine ⟨_, rfl, _, _, rfl, rfl, _, rfl, ?_⟩
      by_cases hw : 1 < wy
      · refine ifT (decide_eq_true hw) ?_
        have m30 : (m : Int) < 10 ^ 30 := by omega
        refine ⟨_, rfl, _, rfl, q, m, _, rfl, qG, by omega, by omega, m30, fun x0 G1 x00 x01 k5 q5 => ?_⟩
        refine ⟨_, rfl, _, rfl, q, m, _, rfl, q5, by omega, by omega, m30, fun y0 G2 y00 y01 k6 q6 => ?_⟩
        refine ⟨_, rfl, _, rfl, q, m, _, rfl, q6, by omega, by omega, m30, fun z0 G3 z00 z01 k7 q7 => ?_⟩
        refine ⟨_, _, _, rfl, ?_⟩
        obtain ⟨i0, rfl⟩ := Int.eq_ofNat_of_zero_le x00
        obtain ⟨l0, rfl⟩ := Int.eq_ofNat_of_zero_le y00
        obtain ⟨r0, rfl⟩ := Int.eq_ofNat_of_zero_le z00
        refine ⟨_, rfl, q, 5, _, rfl, q7, by omega, by decide, by decide, fun a0 G4 a00 a01 k8 q8 => ⟨_, _, rfl, rfl, _, rfl, q, 5, _, rfl, q8, by omega, by decide, by decide, fun b0 G5 b00 b01 k9 q9 => ⟨_, _, rfl, rfl, by show 2 ≤ sizeLine; decide, fun T1 hT1 => ?_⟩⟩⟩
        refine ⟨T1, _, rfl, SqT.of upd_same, rfl, _, _, rfl, _, _, rfl, rfl, ?_⟩
        have kD : Keep q G G5 := (((k5.trans k6).trans k7).trans k8).trans k9
        have s0 : Same G5 (upd G5 T1 (.tup [.int (a0 - 2), .int (b0 - 2)])) := MG.Same.new (Same.refl _) hT1
        have eL5 := (outq eL1 kD).1
        have c1 : cutV rs1 none (some (i0 : Int)) = rs1.take i0 := by
          unfold cutV
          rw [HT.sIx_nat, HT.sIx_none, List.drop_zero, hl1, show min i0 m - 0 = i0 by omega]
        have c2 : cutV rs1 (some ((i0 : Int) + 1)) none = rs1.drop (i0 + 1) := by
          unfold cutV
          rw [show (i0 : Int) + 1 = ((i0 + 1 : Nat) : Int) by omega, HT.sIx_nat, HT.sIx_none, hl1, show min (i0 + 1) m = i0 + 1 by omega]
          exact List.take_of_length_le (by rw [List.length_drop]; omega)
        -- lines[:at]
        refine ⟨_, rfl, _, rfl, (i0 : Int), rfl, Lx, rs1, rfl, SqL.of (s0 _ _ eL5), fun p1 hp1 => ?_⟩
        rw [c1]
        have s1 := MG.Same.new (o := .lst (rs1.take i0)) s0 hp1
        have hxl : rs1[l0]? = some rs1[l0] := List.getElem?_eq_getElem (by omega)
        have hxr : rs1[r0]? = some rs1[r0] := List.getElem?_eq_getElem (by omega)
        obtain ⟨pl, epl, hpl⟩ := hrow1 l0 _ hxl
        obtain ⟨pr, epr, hpr⟩ := hrow1 r0 _ hxr
        rw [epl] at hxl
        rw [epr] at hxr
        have hpl5 := s1 _ _ (outq hpl kD).1
        have hpr5 := s1 _ _ (outq hpr kD).1
        refine ⟨_, rfl, _, rfl, Lx, _, _, _, rfl, rfl, SqL.of (s1 _ _ eL5), atI_nat hxl, _, rfl, _, rfl, Lx, _, _, _, rfl, rfl, SqL.of (s1 _ _ eL5), atI_nat hxr, pl, pr, _, _, rfl, .inl ⟨SqL.of hpl5, SqL.of hpr5, fun D hD => ?_⟩⟩
        have sa : ∀ z : Int, 0 ≤ z → z < 5 → Sm (z - 2) := fun z h1 h2 => sm_lt (k := 1) (by decide) (by omega) (by omega)
        refine lc_same (walk_zip (K := K) (a := pl) (b := pr) (xs := rowV m (A1 l0)) (ys := rowV m (A1 r0)) (n := m) (by rw [rowV_len, rowV_len]; omega)) hD (by omega) (fun j v _ => v = .int ((a0 - 2) * A1 l0 j + (b0 - 2) * A1 r0 j)) (fun _ _ _ _ h _ => h) (fun G s => ⟨SqL.of (s _ _ hpl5), SqL.of (s _ _ hpr5)⟩) ypair_same (fun j x H6 H6' hj s6 _ hy => ?_) fun ys6 H6 hl6 s6 e6 h6 => ?_
        · obtain ⟨T2, x1, x2, rfl, hT2, rfl, hx1, hx2⟩ := hy
          obtain ⟨_, rfl⟩ := rowV_get hx1
          obtain ⟨_, rfl⟩ := rowV_get hx2
          refine ⟨_, tg2 upd_same, rfl, ?_⟩
          exact ⟨_, rfl, _, rfl, _, _, rfl, rfl, sm_mul (sa a0 a00 a01) (smI (bA1 l0 j (by omega) hj) (by decide)), _, rfl, _, rfl, _, _, rfl, rfl, sm_mul (sa b0 b00 b01) (smI (bA1 r0 j (by omega) hj) (by decide)), _, _, rfl, rfl, Same.refl _, fun _ => rfl⟩
        have e7 : ys6 = rowV m fun j => (a0 - 2) * A1 l0 j + (b0 - 2) * A1 r0 j := ints_of hl6 h6
        subst e7
        refine ⟨by show 1 ≤ sizeLine; decide, fun p3 hp3 => ?_⟩
        have s3 := MG.Same.new (o := .lst [V.ref D]) s6 hp3
        refine ⟨p1, p3, _, _, rfl, rfl, s3 _ _ upd_same, upd_same, Nat.le_trans (m := 200) (by rw [List.length_take]; show min i0 rs1.length + 1 ≤ 200; omega) (by decide), fun p4 hp4 => ?_⟩
        have s4 := MG.Same.new (o := .lst (rs1.take i0 ++ [V.ref D])) s3 hp4
        refine ⟨_, rfl, _, rfl, _, _, rfl, rfl, (i0 : Int) + 1, rfl, Lx, rs1, rfl, SqL.of (s4 _ _ (s1 _ _ eL5)), fun p5 hp5 => ?_⟩
        rw [c2]
        have s5 := MG.Same.new (o := .lst (rs1.drop (i0 + 1))) s4 hp5
        have e4 := (MG.Same.new (o := .lst (rs1.drop (i0 + 1))) (Same.refl _) hp5) _ _ (upd_same (o := .lst (rs1.take i0 ++ [V.ref D])))
        refine ⟨p4, p5, _, _, rfl, rfl, e4, upd_same, Nat.le_trans (m := 200) (by rw [List.length_append, List.length_take, List.length_drop]; show min i0 rs1.length + 1 + (rs1.length - (i0 + 1)) ≤ 200; omega) (by decide), fun p6 hp6 => ?_⟩
        have elist : rs1.take i0 ++ [V.ref D] ++ rs1.drop (i0 + 1) = rs1.set i0 (.ref D) := by
          rw [List.set_eq_take_append_cons_drop, if_pos (by omega), List.append_assoc]
          rfl
        rw [elist]
        have s6' := MG.Same.new (o := .lst (rs1.set i0 (.ref D))) s5 hp6
        -- from G on
        have S := s1.trans s6'
        have nDq : D ≠ q := (q9.keep s1).ne hD
        have n6q : p6 ≠ q := (q9.keep (s1.trans s5)).ne hp6
        have sE := (MG.Same.new (o := .lst [V.ref D]) (Same.refl _) hp3).trans ((MG.Same.new (o := .lst (rs1.take i0 ++ [V.ref D])) (Same.refl _) hp4).trans ((MG.Same.new (o := .lst (rs1.drop (i0 + 1))) (Same.refl _) hp5).trans (MG.Same.new (o := .lst (rs1.set i0 (.ref D))) (Same.refl _) hp6)))
        have eDD := sE _ _ e6
        refine ⟨(kG.trans kD).same S, (q9.keep S).le (by omega), p6, (fun i => if i = i0 then (fun j => (a0 - 2) * A1 l0 j + (b0 - 2) * A1 r0 j) else A1 i), _, _, _, _, _, rfl, ⟨rs1.set i0 (.ref D), by rw [hid_ne n6q]; exact upd_same, by rw [List.length_set]; exact hl1, fun i x hx => ?_⟩, fun i j hi hj => ?_, ?_⟩
        · by_cases c : i = i0
          · subst c
            rw [List.getElem?_set_self (by omega)] at hx
            obtain rfl := Option.some.inj hx
            refine ⟨D, rfl, ?_⟩
            rw [hid_ne nDq]
            dsimp only
            rw [if_pos rfl]
            exact eDD
          · rw [List.getElem?_set_ne (Ne.symm c)] at hx
            obtain ⟨p, rfl, hp⟩ := hrow1 i x hx
            obtain ⟨h5', np⟩ := outq hp kD
            refine ⟨p, rfl, ?_⟩
            rw [hid_ne np]
            dsimp only
            rw [if_neg c]
            exact S _ _ h5'
        · dsimp only
          split
          · have h1 := bA1 l0 j (by omega) hj
            have h2 := bA1 r0 j (by omega) hj
            have h3 : ((a0 - 2) * A1 l0 j).natAbs ≤ 2 * 10 ^ 13 := by
              rw [Int.natAbs_mul]
              exact Nat.mul_le_mul (by omega) (Nat.le_of_lt h1)
            have h4 : ((b0 - 2) * A1 r0 j).natAbs ≤ 2 * 10 ^ 13 := by
              rw [Int.natAbs_mul]
              exact Nat.mul_le_mul (by omega) (Nat.le_of_lt h2)
            exact Nat.lt_of_le_of_lt (Nat.le_trans (Int.natAbs_add_le ((a0 - 2) * A1 l0 j) ((b0 - 2) * A1 r0 j)) (Nat.add_le_add h3 h4)) (by decide)
          · exact Nat.lt_trans (bA1 i j hi hj) (by decide)
        · obtain ⟨h5', np⟩ := outq htq kD
          rw [hid_ne np]
          exact S _ _ h5'
      · refine ifF (decide_eq_false hw) ?_
        exact ⟨kG, qG.le (by omega), Lx, A1, _, _, _, _, _, rfl, ⟨rs1, eL1, hl1, hrow1⟩, fun i j hi hj => Nat.lt_trans (bA1 i j hi hj) (by decide), htq⟩
    · rintro σ G' ⟨kG', qG', Ly, A2, v5, v6, v7, v8, v9, rfl, hLL, bA2, htq'⟩
      -- return low((lines, pair[1]))
      have nt : t ≠ q := fun z => by rw [z, hid_self] at htq'; cases htq'
      have ht' := hid_same q G' _ _ htq'
      refine ⟨_, rfl, _, rfl, t, _, _, _, rfl, rfl, SqT.of ht', rfl, by show 2 ≤ sizeLine; decide, fun T2 hT2 => ?_⟩
      have s3 := MG.Same.new (o := .tup [.ref Ly, .int u]) (Same.refl G') hT2
      have bn2 : Bn m m A2 u 14 := ⟨bn.pos, Nat.lt_trans bn.ub (by decide), bA2⟩
      refine ⟨T2, m, m, A2, u, 14, rfl, ⟨Ly, upd_same, (hLL.same (hid_same q G')).same s3⟩, by omega, by omega, bn2, by decide, fun t' H' A'' u' s4 hP' bn' dv vals => ?_⟩
      have s34 := s3.trans s4
      have qF := qG'.keep s34
      exact k t' m A'' u' H' (kG'.same s34) (qF.le (by omega)) (hP'.hq qF) bn' (Int.le_trans (Int.le_of_dvd bn.pos dv) u30) hm0 hm6
abbrev SquareC (P : Program) (w : World) (K : PySem.W.Frag) (mg : Str → Option Value) (base : Heap) : Prop := CalG P w K mg base 8 "_law_square" spSquare []
end
end Lw

namespace Lw
open PySem PySem.Spec PyProof.Rows L2 MG
abbrev s__law_oblong : Stmt := top 56
section
variable {P : Program} {w : World} {K : PySem.W.Frag} {mg : Str → Option Value} {base : Heap} {C CM CX CS : Addr}
theorem mat_arg {H : Hp} {t x dx : Addr} {r c : Nat} {f : Nat → Nat → Rat} (ht : Tb (RC C) H t r c f) (hx : H x = none) (hdx : H dx = none) (hne : dx ≠ x) : Tb (NumAt C) (upd (upd H dx (.own x)) x (.ins CM dx [])) t r c f :=
  (ht.same (rc_mono C) (MG.Same.new (MG.Same.new (Same.refl H) hdx) (by rw [upd_ne (fun e => hne e.symm)]; exact hx))).imp RC.num
theorem mat_same {H J : Hp} {x dx : Addr} (hx : H x = none) (hdx : H dx = none) (hne : dx ≠ x) (kp : ∀ b o, (upd (upd H dx (.own x)) x (.ins CM dx [])) b = some o → b ≠ x → J b = some o) : Same H J := fun b o hb => by
  have s1 : Same H (upd (upd H dx (.own x)) x (.ins CM dx [])) := MG.Same.new (MG.Same.new (Same.refl H) hdx) (by rw [upd_ne (fun e => hne e.symm)]; exact hx)
  exact kp b o (s1 _ _ hb) (ne_of_none hb hx)
def dQ (c r2 : Nat) : PyData := .tuple [.int c, .int r2]
theorem smN {n : Nat} (h : n ≤ 1000) : Sm (n : Int) := sm_lt (k := 4) (by decide) (by omega) (by omega)
theorem okd_dQ {c r2 : Nat} (h1 : c ≤ 1000) (h2 : r2 ≤ 1000) : Okd (dQ c r2) 20000 2 := by
  have o := okd_pair (smN h1) (smN h2)
  exact ⟨o.sh, o.nd, Nat.le_trans o.dp (by decide), Nat.le_trans o.ln (by decide)⟩
theorem dp_dQ {H : Hp} {p : Addr} {c r2 : Nat} (e : H p = some (.tup [.int c, .int r2])) : Dp K H (.ref p) (dQ c r2) := .tup (SqT.of e) (.cons (.int _) (.cons (.int _) .nil))
theorem den_big {m : Nat} {A : Nat → Nat → Int} {u : Int} (bn : Bn m m A u 13) : Bds m m (qv A u) 100 := (bn.mono (k' := 100) (by decide)).bds
def spOblong : Sp := fun vs H Q _ => ∃ (q : Addr) (n : Nat), vs = [.ref q] ∧ QAt H q n ∧ n + 200 ≤ 100000 ∧ ∀ H', Keep q H H' → QAt H' q (n + 200) → Q (.bl true) H'
theorem sc__law_oblong : FnScope ["_law_q", "_law_high", "_law_more", "_law_shape", "_law_one"] ["_law_q"] (defScope s__law_oblong) := ⟨rfl, rfl, rfl, by decide +kernel, rfl, by decide +kernel, by decide +kernel⟩
theorem ok_oblong {f : Addr} {fd : FuncData} (F : Fun K "_law_oblong" "_law_oblong" s__law_oblong f fd) (T : TxM K mg C CM) (c_draw : DrawC P w K mg base) (c_cells : CellsC P w K mg base) (c_entries : EntC P w K mg base C) (m_mat : MatC P w K mg base C CM) (c_inverted : LInvC P w K mg base C CM) (c_traced : TracedC P w K mg base C CM) : FnG P w K mg base CX0 18 f fd ["_law_q"] spOblong := by
  refine fun_okG F sc__law_oblong (fun vs H Q E h => ?_) (fun cdv A' outer s H vs Q E bare hr h => ?_)
  · obtain ⟨q, n, rfl, _⟩ := h
    rfl
  · obtain ⟨q, n, rfl, hq, hn, k⟩ := h
    have hu64 := hr.units
    refine ⟨_, (pss_cons (ps_par (i := 1) (j := 2) (by rfl) sc__law_oblong.nd rfl rfl (by decide) rfl rfl (pa_cons (pe_op op_add pe_int (pe_cg c_draw bare hr (by decide) rfl (pa_cons (pv 0) (pa_cons pe_int pa_nil)))) (pa_cons (pe_op op_add pe_int (pe_cg c_draw bare hr (by decide) rfl (pa_cons (pv 0) (pa_cons pe_int pa_nil)))) pa_nil)) (by rfl))
  (pss_cons (ps_for PassesOwn.never rfl (pi_listK (K := K) (pe_lst (pa_cons (pe_tup (pa_cons (pv 1) (pa_cons (pe_op op_add (pv 1) (pv 2)) pa_nil))) (pa_cons (pe_tup (pa_cons (pe_op op_add (pv 1) (pv 2)) (pa_cons (pv 1) pa_nil))) pa_nil)))) (pg_name (i := 3) sc__law_oblong.nd rfl (Or.inl rfl))
  (pss_cons (ps_set (i := 4) sc__law_oblong.nd rfl (Or.inl rfl) (pe_mkf m_mat hr (by decide) rfl (pa_cons (pe_cg c_entries bare hr (by decide) rfl (pa_cons (pe_cg c_cells bare hr (by decide) rfl (pa_cons (pv 0) (pa_cons (pe_ix (ix_tupK (K := K)) (pv 3) pe_int (fun _ _ => rfl)) (pa_cons (pe_ix (ix_tupK (K := K)) (pv 3) pe_int (fun _ _ => rfl)) pa_nil)))) pa_nil)) pa_nil)))
  (pss_one (ps_if (PW.pt (pw_or (pt_cmpR op_ne (pe_callB (id := "repr") (call_reprK (K := K) bare hu64) (by rfl) T.b_repr (by decide +kernel) (pa_cons (pe_cg c_inverted bare hr (by decide) rfl (pa_cons (pv 4) pa_nil)) pa_nil)) (pe_callB (id := "repr") (call_reprK (K := K) bare hu64) (by rfl) T.b_repr (by decide +kernel) (pa_cons (pv 3) pa_nil)) (nomark _)) (pw_or1 (pt_cmpR op_ne (pe_callB (id := "repr") (call_reprK (K := K) bare hu64) (by rfl) T.b_repr (by decide +kernel) (pa_cons (pe_cg c_traced bare hr (by decide) rfl (pa_cons (pv 4) pa_nil)) pa_nil)) (pe_callB (id := "repr") (call_reprK (K := K) bare hu64) (by rfl) T.b_repr (by decide +kernel) (pa_cons (pv 3) pa_nil)) (nomark _))))) (pss_one (ps_ret pe_bl))
  pss_nil))))
  (pss_one (ps_ret pe_bl)))), ?_⟩
    refine ⟨_, rfl, q, 5, n, rfl, hq, by omega, by decide, by decide, fun a0 H1 a00 a01 k1 q1 => ⟨_, _, rfl, rfl, _, rfl, q, 4, _, rfl, q1, by omega, by decide, by decide, fun b0 H2 b00 b01 k2 q2 => ⟨_, _, rfl, rfl, ?_⟩⟩⟩
    refine ⟨_, _, rfl, ?_⟩
    obtain ⟨h, eh⟩ : ∃ h : Nat, 1 + a0 = (h : Int) := ⟨(1 + a0).toNat, by omega⟩
    obtain ⟨mo, emo⟩ : ∃ h : Nat, 1 + b0 = (h : Int) := ⟨(1 + b0).toNat, by omega⟩
    rw [show (fun i j : Int => V.int (i + j)) 1 a0 = V.int (h : Int) from congrArg V.int eh, show (fun i j : Int => V.int (i + j)) 1 b0 = V.int (mo : Int) from congrArg V.int emo]
    have kk : Keep q H H2 := k1.trans k2
    refine ⟨_, rfl, _, rfl, _, rfl, _, _, rfl, rfl, by show 2 ≤ sizeLine; decide, fun t1 ht1 => ?_⟩
    refine ⟨_, rfl, _, rfl, _, _, rfl, rfl, _, rfl, by show 2 ≤ sizeLine; decide, fun t2 ht2 => ⟨by show 2 ≤ sizeLine; decide, fun Lp hLp => ⟨Lp, rfl, ⟨[.ref t1, .ref t2], SqL.of upd_same⟩, ?_⟩⟩⟩
    have sT1 := MG.Same.new (o := .tup [.int (h : Int), .int ((h : Int) + mo)]) (Same.refl H2) ht1
    have sT2 := MG.Same.new (o := .tup [.int ((h : Int) + mo), .int (h : Int)]) sT1 ht2
    have sL := MG.Same.new (o := .lst [.ref t1, .ref t2]) sT2 hLp
    have e1 := (MG.Same.new (o := .lst [V.ref t1, .ref t2]) (Same.refl _) hLp) _ _ ((MG.Same.new (o := .tup [.int ((h : Int) + mo), .int (h : Int)]) (Same.refl _) ht2) _ _ (upd_same (H := H2) (a := t1) (o := .tup [.int (h : Int), .int ((h : Int) + mo)])))
    have e2 := (MG.Same.new (o := .lst [V.ref t1, .ref t2]) (Same.refl _) hLp) _ _ (upd_same (a := t2) (o := .tup [.int ((h : Int) + mo), .int (h : Int)]))
    have nLq : Lp ≠ q := (q2.keep sT2).ne hLp
    have n1q : t1 ≠ q := q2.ne ht1
    have n2q : t2 ≠ q := (q2.keep sT1).ne ht2
    refine for_list (K := K) (a := Lp) (xs := [.ref t1, .ref t2]) (fun i σ G => Keep q H G ∧ QAt G q (n + 2 + 90 * i) ∧ ∃ (v3 v4 : Option V), σ = [some (.ref q), some (.int h), some (.int mo), v3, v4] ∧ G Lp = some (.lst [.ref t1, .ref t2]) ∧ G t1 = some (.tup [.int (h : Int), .int ((h : Int) + mo)]) ∧ G t2 = some (.tup [.int ((h : Int) + mo), .int (h : Int)])) ⟨kk.same sL, q2.keep sL, none, none, rfl, upd_same, e1, e2⟩ ?_ ?_ ?_
    · rintro i σ G _ ⟨_, _, v3, v4, rfl, e, _, _⟩
      exact SqL.of e
    · rintro i x σ G hx ⟨kG, qG, v3, v4, rfl, eL, et1, et2⟩
      obtain ⟨ts, r, c, rfl, ets, hrc, r0, r1, c0, c1, ntq⟩ : ∃ (ts : Addr) (r c : Nat), x = .ref ts ∧ G ts = some (.tup [.int (r : Int), .int (c : Int)]) ∧ r ≠ c ∧ 0 < r ∧ r ≤ 9 ∧ 0 < c ∧ c ≤ 9 ∧ ts ≠ q := by
        match i, hx with
        | 0, hx => exact ⟨t1, h, h + mo, (Option.some.inj hx).symm, by rw [et1, Int.natCast_add], by omega, by omega, by omega, by omega, by omega, n1q⟩
        | 1, hx => exact ⟨t2, h + mo, h, (Option.some.inj hx).symm, by rw [et2, Int.natCast_add], by omega, by omega, by omega, by omega, by omega, n2q⟩
      have i2 : i < 2 := (List.getElem?_eq_some_iff.mp hx).1
      have rc : r * c ≤ 81 := Nat.mul_le_mul r1 c1
      refine ⟨_, rfl, _, rfl, ts, _, _, _, rfl, rfl, SqT.of ets, rfl, _, rfl, ts, _, _, _, rfl, rfl, SqT.of ets, rfl, q, _, r, c, rfl, qG, by omega, r0, by omega, c0, by omega, fun t A u G1 k5 q5 hP bn u30 => ?_⟩
      have hP' := hP.same (hid_same q G1)
      refine ⟨t, r, c, A, u, rfl, hP', by omega, by omega, (by have := bn.pos; omega), smI (k := 13) bn.ub (by decide), fun p G2 s6 htb => ?_⟩
      refine fun m1 dx hx hdx hne => ⟨m1, dx, p, r, c, qv A u, rfl, upd_same, mat_arg htb hx hdx hne, ⟨r0, by omega, c0, by omega⟩, fun G3 t3 e3 tb3 kp => ⟨rfl, ?_⟩⟩
      have s7 := mat_same (CM := CM) hx hdx hne kp
      have hM : MtAt C CM G3 m1 r c (qv A u) := ⟨dx, t3, e3, tb3⟩
      have ets3 := s7 _ _ (s6 _ _ (k5 _ _ ets ntq))
      refine ⟨_, rfl, m1, r, c, qv A u, rfl, hM, r0, fun _ p1 G4 s8 ep1 => ?_, fun e => absurd e hrc⟩
      have od : Okd (dQ r c) 20000 2 := okd_dQ (by omega) (by omega)
      refine ⟨.ref p1, _, rfl, dp_dQ ep1, od.sh, od.nd, Nat.le_trans od.dp (by decide), Nat.le_trans od.ln (by decide), ?_⟩
      refine ⟨_, rfl, .ref ts, _, rfl, dp_dQ (s8 _ _ ets3), od.sh, od.nd, Nat.le_trans od.dp (by decide), Nat.le_trans od.ln (by decide), rfl, ?_⟩
      refine ⟨_, rfl, ifF (by simp) ?_⟩
      refine ⟨_, rfl, m1, r, c, qv A u, rfl, hM.same s8, r0, by omega, fun _ p2 G5 s9 ep2 => ?_, fun e => absurd e hrc⟩
      refine ⟨.ref p2, _, rfl, dp_dQ ep2, od.sh, od.nd, Nat.le_trans od.dp (by decide), Nat.le_trans od.ln (by decide), ?_⟩
      refine ⟨_, rfl, .ref ts, _, rfl, dp_dQ (s9 _ _ (s8 _ _ ets3)), od.sh, od.nd, Nat.le_trans od.dp (by decide), Nat.le_trans od.ln (by decide), rfl, ?_⟩
      refine ⟨_, rfl, ifF (by simp) ?_⟩
      have S := (s6.trans s7).trans (s8.trans s9)
      have kE : Keep q G G5 := k5.same S
      exact ⟨kG.trans kE, (q5.keep S).le (by omega), _, _, rfl, kE _ _ eL nLq, kE _ _ et1 n1q, kE _ _ et2 n2q⟩
    · rintro σ G ⟨kG, qG, v3, v4, rfl, _, _, _⟩
      exact k G kG (qG.le (by show n + 2 + 90 * 2 ≤ n + 200; omega))
abbrev OblongC (P : Program) (w : World) (K : PySem.W.Frag) (mg : Str → Option Value) (base : Heap) : Prop := CalG P w K mg base 18 "_law_oblong" spOblong []
end
end Lw

/-! a method that may raise, where it doesn't -/
namespace MG
open PySem PySem.Spec PyProof.Rows L2
theorem pe_metE0 {X : Cx} {k j : Nat} {C : Addr} {m : Str} {sp : Sp} {pos apos : Pos} {o : Expr} {ta : TE} {pl : Sem Bool} (c : MetX X.prog X.w X.K X.mg X.base k C m sp) (cl : Cls X.K C) (hr : Room j X.A) (hk : k ≤ j) (he : PE X o ta)
    (ht : eval (.Call (.Attribute o m apos) [] [] pos) X.env = (do
      let w1 ← eval o X.env
      standAt apos.atName
      let (g, ahead) ← holding [w1] (getMethod w1 m pl)
      callWith pos g ahead (backTo pos (starEach [] X.env)) (backToKw pos (keywordEach [] X.env))) := by rfl) :
    PE X (.Call (.Attribute o m apos) [] [] pos) (tMeth C m sp [] E0 ta tNil) := by
  obtain ⟨f, fd, ps, M, F, b⟩ := c.ex
  refine ⟨fun pins s σ H Q I h => PySem.W.methodCall_KW (pl := pl) (thn (he.run pins s σ H _ I h) fun v t1 ⟨x, H1, I1, rx, a, dx, fs, ex, ea, nl, q⟩ => ?_) ht⟩
  subst ex
  obtain rfl : v = Value.ref a := rx
  refine getmeth_ok I1 ea cl M nl ?_
  exact PySem.W.callWith_K0 (first := [.ref a]) I1.kIn M.kp (run_fn (us := [.ref a]) (vs := [.ref a]) F (hr.mono hk) b .nil passX I1 (.cons rfl .nil) q)
end MG

namespace Lw
open PySem PySem.Spec PyProof.Rows L2 MG
abbrev s__law_right : Stmt := top 55
abbrev s_law : Stmt := top 57
/-! ### the numbers -/
theorem smZ_sm {n : Nat} {f : Nat → Int} : smZ n f = Dt.sm n f := by
  induction n with
  | zero => rfl
  | succ n ih => show smZ n f + f n = Dt.sm n f + f n; rw [ih]
/-- what has a right kernel has a left one -/
theorem sing_turn {n : Nat} {A : Nat → Nat → Int} (h : Sing n (cols A)) : Sing n (fun m r => A m r) := by
  rcases Dt.alt n (fun m r => A m r) with h' | ⟨_, Y, d, hd, hY⟩
  · exact h'
  · obtain ⟨v, ⟨k, hk, hv⟩, hz⟩ := h
    exact absurd (Dt.ker0 (P := cols A) (Y := fun m j => Y j m) (d := fun _ => d) (fun _ _ => hd) (fun j r hj hr => Dt.left_of hd hY j r hj hr) hz k hk) hv
/-- the table A over u -/
structure IA (n : Nat) (A : Nat → Nat → Int) (u : Int) : Prop where
  n0 : 0 < n
  n6 : n ≤ 6
  bA : Bn n n A u 14
  u30 : u ≤ 30
/-- and its inverse B over e -/
structure IV (n : Nat) (A B : Nat → Nat → Int) (u e : Int) : Prop extends IA n A u where
  bB : Bn n n B e 90
  tot : ∀ j r, j < n → r < n → Dt.sm n (fun m => B m j * A r m) = if j = r then u * e else 0
section
variable {n : Nat} {A B : Nat → Nat → Int} {u e : Int}
theorem IA.u0 (h : IA n A u) : 0 < u := h.bA.pos
theorem IA.tn (h : IA n A u) : ((u.toNat : Nat) : Int) = u := by have := h.u0; omega
theorem IA.sz (h : IA n A u) : Sz n n := by have := h.n0; have := h.n6; exact ⟨by omega, by omega, by omega, by omega⟩
theorem IA.bd (h : IA n A u) : Bds n n (qv A u) 100 := (h.bA.mono (k' := 100) (by decide)).bds
theorem IA.turn (h : IA n A u) : IA n (fun i j => A j i) u := ⟨h.n0, h.n6, ⟨h.bA.pos, h.bA.ub, fun i j hi hj => h.bA.ab j i hj hi⟩, h.u30⟩
theorem IA.sq (h : IA n A u) : Sq n (qv A u) (cols A) u.toNat := by
  have h0 := h.u0
  have h1 := h.u30
  refine ⟨h.n0, h.n6, by omega, Nat.lt_of_le_of_lt (m := 30) (by omega) (by decide), fun i j _ _ => ?_, fun i j hi hj => Nat.lt_trans (h.bA.ab i j hi hj) (by decide)⟩
  show Rat.divInt (A i j) u = Rat.divInt (A i j) (u.toNat : Int)
  rw [h.tn]
theorem IA.sm (h : IA n A u) : u ≠ 0 ∧ Sm u := ⟨by have := h.u0; omega, smI h.bA.ub (by decide)⟩
theorem IV.e0 (h : IV n A B u e) : 0 < e := h.bB.pos
theorem IV.tn2 (h : IV n A B u e) : ((e.toNat : Nat) : Int) = e := by have := h.e0; omega
theorem IV.d0 (h : IV n A B u e) : u * e ≠ 0 := by have := Int.mul_pos h.u0 h.e0; omega
theorem IV.left (h : IV n A B u e) : ∀ j m, j < n → m < n → Dt.sm n (fun r => B j r * A r m) = if j = m then u * e else 0 :=
  Dt.left_of (P := cols A) (Y := B) h.d0 h.tot
theorem IV.db (h : IV n A B u e) : (u * e).natAbs ≤ 10 ^ 110 := by
  rw [Int.natAbs_mul]
  have := h.u30
  have := h.u0
  exact Nat.le_trans (Nat.mul_le_mul (show u.natAbs ≤ 30 by omega) (Nat.le_of_lt h.bB.ub)) (by decide)
theorem IV.uB (h : IV n A B u e) {i s : Nat} (hi : i < n) (hs : s < n) : (((u.toNat : Nat) : Int) * B i s).natAbs ≤ 10 ^ 110 := by
  rw [Int.natAbs_mul, h.tn]
  have := h.u30
  have := h.u0
  exact Nat.le_trans (Nat.mul_le_mul (show u.natAbs ≤ 30 by omega) (Nat.le_of_lt (h.bB.ab i s hi hs))) (by decide)
/-- the program's inverse -/
theorem IV.ri (h : IV n A B u e) : Rinv n (cols A) u.toNat B (u * e) := ⟨h.d0, h.db, h.tot, fun i s hi hs => h.uB hi hs⟩
theorem IV.riT (h : IV n A B u e) : Rinv n (fun m r => A m r) u.toNat (fun m j => B j m) (u * e) := ⟨h.d0, h.db, h.left, fun i s hi hs => h.uB hs hi⟩
theorem IV.riB (h : IV n A B u e) : Rinv n (cols B) e.toNat A (u * e) := by
  refine ⟨h.d0, h.db, fun j r hj hr => ?_, fun i s hi hs => ?_⟩
  · have l := h.left r j hr hj
    show Dt.sm n (fun m => A m j * B r m) = _
    rw [Dt.sm_congr (g := fun m => B r m * A m j) fun m _ => Int.mul_comm _ _, l]
    by_cases q : j = r
    · rw [if_pos q, if_pos q.symm]
    · rw [if_neg q, if_neg (fun z => q z.symm)]
  · rw [Int.natAbs_mul, h.tn2]
    exact Nat.le_trans (Nat.mul_le_mul (Nat.le_of_lt h.bB.ub) (Nat.le_of_lt (h.bA.ab i s hi hs))) (by decide)
theorem IV.val (h : IV n A B u e) (i s : Nat) : Rat.divInt ((u.toNat : Nat) * B i s) (u * e) = qv B e i s := by
  rw [h.tn]
  have := h.u0
  exact Rat.divInt_mul_left (by omega)
theorem IV.valB (h : IV n A B u e) (i s : Nat) : Rat.divInt ((e.toNat : Nat) * A i s) (u * e) = qv A u i s := by
  rw [h.tn2, Int.mul_comm u e]
  have := h.e0
  exact Rat.divInt_mul_left (by omega)
theorem IV.sqB (h : IV n A B u e) : Sq n (qv B e) (cols B) e.toNat := by
  have h0 := h.e0
  have h1 := h.bB.ub
  refine ⟨h.n0, h.n6, by omega, by omega, fun i j _ _ => ?_, fun i j hi hj => Nat.lt_trans (h.bB.ab i j hi hj) (by decide)⟩
  show Rat.divInt (B i j) e = Rat.divInt (B i j) (e.toNat : Int)
  rw [h.tn2]
theorem IV.bdB (h : IV n A B u e) : Bds n n (qv B e) 100 := (h.bB.mono (k' := 100) (by decide)).bds
theorem divEye {d : Int} (hd : d ≠ 0) (i j : Nat) : Rat.divInt (if i = j then d else 0) d = qv eyeI 1 i j := by
  unfold qv eyeI
  by_cases q : i = j
  · rw [if_pos q, if_pos q]
    exact (Rat.divInt_eq_divInt_iff hd (by decide)).mpr (by omega)
  · rw [if_neg q, if_neg q]
    exact (Rat.divInt_eq_divInt_iff hd (by decide)).mpr (by omega)
theorem IV.mulR (h : IV n A B u e) (i k : Nat) (hi : i < n) (hk : k < n) : mulQ n (qv A u) (qv B e) i k = qv eyeI 1 i k := by
  rw [mul_qv (by have := h.u0; omega) (by have := h.e0; omega)]
  show Rat.divInt (smZ n fun j => A i j * B j k) (u * e) = _
  rw [smZ_sm, Dt.sm_congr (g := fun j => B j k * A i j) fun m _ => Int.mul_comm _ _, h.tot k i hk hi, ← divEye h.d0 i k]
  by_cases q : i = k
  · rw [if_pos q, if_pos q.symm]
  · rw [if_neg q, if_neg (fun z => q z.symm)]
theorem IV.mulL (h : IV n A B u e) (i k : Nat) (hi : i < n) (hk : k < n) : mulQ n (qv B e) (qv A u) i k = qv eyeI 1 i k := by
  rw [mul_qv (by have := h.e0; omega) (by have := h.u0; omega)]
  show Rat.divInt (smZ n fun j => B i j * A j k) (e * u) = _
  rw [smZ_sm, h.left i k hi hk, Int.mul_comm e u, divEye h.d0 i k]
theorem IV.denB (h : IV n A B u e) : Den n n (qv B e) e.natAbs := ⟨by have := h.e0; omega, h.bB.ub, fun i j _ _ => den_qv (by have := h.e0; omega) i j⟩
theorem IA.denA (h : IA n A u) : Den n n (qv A u) u.natAbs := ⟨by have := h.u0; omega, by have := h.u0; have := h.u30; exact Nat.lt_of_le_of_lt (m := 30) (by omega) (by decide), fun i j _ _ => den_qv (by have := h.u0; omega) i j⟩
/-- equal to the identity, as the law asks for it -/
theorem alikeI {A3 : Nat → Nat → Int} {u3 : Int} (h3 : 0 < u3) {i j : Nat} (h : qv A3 u3 i j = qv eyeI 1 i j) : A3 i j * 1 = eyeI i j * u3 := by
  exact (Rat.divInt_eq_divInt_iff (by omega) (by decide)).mp h
theorem bn_eye {k : Nat} (hk : 1 ≤ k) : Bn n n eyeI 1 k := by
  have : 10 ^ 1 ≤ 10 ^ k := Nat.pow_le_pow_right (by decide) hk
  refine ⟨by decide, Nat.lt_of_lt_of_le (by decide) this, fun i j _ _ => Nat.lt_of_lt_of_le ?_ this⟩
  unfold eyeI
  split <;> decide
end
section
variable {P : Program} {w : World} {K : PySem.W.Frag} {mg : Str → Option Value} {base : Heap} {C CM CX CS : Addr}
/-- what is due and what is told -/
def Due8 (C CM : Addr) (G : Hp) (n : Nat) (A : Nat → Nat → Int) (u : Int) (x y : V) : Prop :=
  (x = .non ∧ Sing n (cols A) ∧ ∃ p, y = .ref p ∧ G p = some (.tup [])) ∨ ∃ t m B e, x = .ref t ∧ y = .ref m ∧ PrAt G t n n B e ∧ MtAt C CM G m n n (qv B e) ∧ IV n A B u e
theorem Due8.same {G G' : Hp} {n : Nat} {A : Nat → Nat → Int} {u : Int} {x y : V} (h : Due8 C CM G n A u x y) (s : Same G G') : Due8 C CM G' n A u x y := by
  rcases h with ⟨rfl, hs, p, rfl, e⟩ | ⟨t, m, B, e, rfl, rfl, h1, h2, h3⟩
  · exact .inl ⟨rfl, hs, p, rfl, s _ _ e⟩
  · exact .inr ⟨t, m, B, e, rfl, rfl, h1.same s, h2.same s, h3⟩
theorem mm_mul {H : Hp} {a b : Addr} {r n c : Nat} {f g : Nat → Nat → Rat} {Q : VK} {U V' : Nat} (hA : MtAt C CM H a r n f) (hB : MtAt C CM H b n c g) (zA : Sz r n) (zB : Sz n c) (bA : Bds r n f 100) (bB : Bds n c g 100) (dA : Den r n f U) (dB : Den n c g V') (k : ∀ m H', Same H H' → MtAt C CM H' m r c (mulQ n f g) → Q (.ref m) H') : rOwn2 CM C (spMMul C CM CX) E0 (.ref a) (.ref b) H Q := by
  obtain ⟨dx, t, ea, _⟩ := id hA
  obtain ⟨dy, u, eb, _⟩ := id hB
  exact ⟨a, dx, _, rfl, ea, .inl ⟨b, dy, _, rfl, eb⟩, a, .ref b, r, n, f, rfl, hA, zA, bA, .inr ⟨b, n, c, g, rfl, hB, zB, bB, fun _ => ⟨U, V', dA, dB, k⟩, fun z => absurd rfl z⟩⟩
theorem is_args {r c k : Nat} {f : Nat → Nat → Rat} {A : Nat → Nat → Int} {u : Int} (bn : Bn r c A u k) (hk : k ≤ 390) (hv : ∀ i j, i < r → j < c → qv A u i j = f i j) : u ≠ 0 ∧ Sm u ∧ Bds r c f 390 ∧ ∀ i j, i < r → j < c → f i j = qv A u i j :=
  ⟨by have := bn.pos; omega, smI bn.ub hk, fun i j hi hj => by rw [← hv i j hi hj]; exact (bn.bds i j hi hj).mono hk, fun i j hi hj => (hv i j hi hj).symm⟩
def spRight : Sp := fun vs H Q _ => ∃ (q : Addr), vs = [.ref q] ∧ QAt H q 0 ∧ ∀ H', Keep q H H' → Q (.bl true) H'
theorem sc__law_right : FnScope ["_law_q", "_law_pair", "_law_many", "_law_one", "_law_due", "_law_told_here", "_law_corner_sum", "_law_traced_here", "_law_i"] ["_law_q"] (defScope s__law_right) := ⟨rfl, rfl, rfl, by decide +kernel, rfl, by decide +kernel, by decide +kernel⟩
theorem ok_right {f : Addr} {fd : FuncData} (F : Fun K "_law_right" "_law_right" s__law_right f fd) (T : TxM K mg C CM) (c_square : SquareC P w K mg base) (c_lowest : CalG P w K mg base 4 "_law_lowest" spLowest []) (m_mat : MatC P w K mg base C CM) (c_entries : EntC P w K mg base C) (c_invert : InvertC P w K mg base) (c_inverted : LInvC P w K mg base C CM) (c_traced : TracedC P w K mg base C CM)
    (c_times : TimesC P w K mg base) (c_turn : TurnC P w K mg base) (c_is : IsC P w K mg base C CM) (c_alike : AlikeC P w K mg base) (c_eye : LEyeC P w K mg base) (m_meye : MEyeC P w K mg base C CM) (m_inv : MInvC P w K mg base C CM CX CS) (p_top : PropF P w K mg base 2 C "top" (spTop C)) (p_bottom : PropF P w K mg base 2 C "bottom" (spBottom C))
    (o_mmul : MMulC P w K mg base C CM CX) (o_meq : EqF P w K mg base 6 CM (spMEq C CM)) (pm_transposed : TransC P w K mg base C CM) : FnG P w K mg base CX0 20 f fd ["_law_q"] spRight := by
  refine fun_okG F sc__law_right (fun vs H Q E h => ?_) (fun cdv A' outer s H vs Q E bare hr h => ?_)
  · obtain ⟨q, rfl, _⟩ := h
    rfl
  · obtain ⟨q, rfl, hq, k⟩ := h
    have hu64 := hr.units
    refine ⟨_, (pss_cons (ps_cut (ps_set (i := 1) sc__law_right.nd rfl (Or.inr rfl) (pe_cg c_square bare hr (by decide) rfl (pa_cons (pv 0) pa_nil))))
  (pss_cons (ps_cut (ps_set (i := 2) sc__law_right.nd rfl (Or.inl rfl) (pe_callB (id := "len") (call_len_seqK (K := K)) (by rfl) T.b_len (by decide +kernel) (pa_cons (pe_ix (ix_tupK (K := K)) (pv 1) pe_int (fun _ _ => rfl)) pa_nil))))
  (pss_cons (ps_cut (ps_par (i := 3) (j := 4) (by rfl) sc__law_right.nd rfl rfl (by decide) rfl rfl (pa_cons (pe_mkf m_mat hr (by decide) rfl (pa_cons (pe_cg c_entries bare hr (by decide) rfl (pa_cons (pv 1) pa_nil)) pa_nil)) (pa_cons (pe_cg c_invert bare hr (by decide) rfl (pa_cons (pv 1) pa_nil)) pa_nil)) (by rfl)))
  (pss_cons (ps_cut (ps_set (i := 5) sc__law_right.nd rfl (Or.inl rfl) (pe_cg c_inverted bare hr (by decide) rfl (pa_cons (pv 3) pa_nil))))
  (pss_cons (ps_cut (ps_set (i := 6) sc__law_right.nd rfl (Or.inl rfl) (pe_cg c_lowest bare hr (by decide) rfl (pa_cons (pe_callB (id := "sum") (cr_sumK (K := K) rfl) (by rfl) T.b_sum (by decide +kernel) (pa_cons (pe_lcI (pe_lc (own := [("_law_i", 8)]) rfl sc__law_right.nd (pi_range1 (by rfl) T.b_range (pa_cons (pv 2) pa_nil)) (blkOk_by (N := ["_law_q", "_law_pair", "_law_many", "_law_one", "_law_due", "_law_told_here", "_law_corner_sum", "_law_traced_here", "_law_i"]) (sc := (defScope s__law_right)) (by decide +kernel)) (fun _ _ _ _ _ => (pg_name (i := 8) sc__law_right.nd rfl (Or.inl rfl))) (fun _ _ _ _ _ => pts_nil) (fun _ _ _ _ _ => (pe_cut (pe_ix (ix_listK (K := K)) (pe_ix (ix_listK (K := K)) (pe_ix (ix_tupK (K := K)) (pv 1) pe_int (fun _ _ => rfl)) (pv 8) (fun _ _ => rfl)) (pv 8) (fun _ _ => rfl)))))) pa_nil)) (pa_cons (pe_ix (ix_tupK (K := K)) (pv 1) pe_int (fun _ _ => rfl)) pa_nil)))))
  (pss_cons (ps_cut (ps_set (i := 7) sc__law_right.nd rfl (Or.inl rfl) (pe_cg c_traced bare hr (by decide) rfl (pa_cons (pv 3) pa_nil))))
  (pss_cons (ps_cut (ps_if (PW.pt (pw_or (pt_not (pt_val (pe_callB (id := "isinstance") (call_isiK (K := K)) (by rfl) T.b_isinstance (by decide +kernel) (pa_cons (pv 7) (pa_cons (pe_glob (v := V.ref C) rfl T.g_Ratio rfl) pa_nil))))) (pw_or1 (pt_cmpR op_ne (pe_callB (id := "repr") (call_reprK (K := K) bare hu64) (by rfl) T.b_repr (by decide +kernel) (pa_cons (pe_tup (pa_cons (pe_pf p_top T.cl hr (by decide) (pv 7) rfl) (pa_cons (pe_pf p_bottom T.cl hr (by decide) (pv 7) rfl) pa_nil))) pa_nil)) (pe_callB (id := "repr") (call_reprK (K := K) bare hu64) (by rfl) T.b_repr (by decide +kernel) (pa_cons (pv 6) pa_nil)) (nomark _))))) (pss_one (ps_ret pe_bl))
  pss_nil))
  (pss_cons (ps_cut (ps_if (pt_cmpR op_isN (pv 4) pe_non (nomark _)) (pss_one (ps_ret (pe_and (pe_cmpR (op_eqD hu64) (pv 5) (pe_tup pa_nil) (nomark _)) (pe_and (pe_cmpR (op_eqD hu64) (pe_cg c_inverted bare hr (by decide) rfl (pa_cons (pe_pf pm_transposed T.clM hr (by decide) (pv 3) rfl) pa_nil)) (pe_tup pa_nil) (nomark _)) (pe_one (pe_cg c_is bare hr (by decide) rfl (pa_cons (pv 3) (pa_cons (pv 1) pa_nil))))))))
  pss_nil))
  (pss_cons (ps_cut (ps_if (PW.pt (pw_or (pt_not (pt_val (pe_cg c_is bare hr (by decide) rfl (pa_cons (pv 5) (pa_cons (pv 4) pa_nil))))) (pw_or1 (pt_not (pt_val (pe_cg c_is bare hr (by decide) rfl (pa_cons (pe_metE0 m_inv T.clM hr (by decide) (pv 5)) (pa_cons (pv 1) pa_nil)))))))) (pss_one (ps_ret pe_bl))
  pss_nil))
  (pss_cons (ps_cut (ps_if (PW.pt (pw_or (pt_not (pt_val (pe_cg c_alike bare hr (by decide) rfl (pa_cons (pe_cg c_times bare hr (by decide) rfl (pa_cons (pv 1) (pa_cons (pv 4) pa_nil))) (pa_cons (pe_cg c_eye bare hr (by decide) rfl (pa_cons (pv 2) pa_nil)) pa_nil))))) (pw_or1 (pt_not (pt_val (pe_cg c_alike bare hr (by decide) rfl (pa_cons (pe_cg c_times bare hr (by decide) rfl (pa_cons (pv 4) (pa_cons (pv 1) pa_nil))) (pa_cons (pe_cg c_eye bare hr (by decide) rfl (pa_cons (pv 2) pa_nil)) pa_nil)))))))) (pss_one (ps_ret pe_bl))
  pss_nil))
  (pss_cons (ps_cut (ps_if (PW.pt (pw_or (pt_cmpR (ne_f o_meq hr (by decide)) (pe_op (op_xf o_mmul hr (by decide)) (pv 3) (pv 5)) (pe_cmf m_meye hr (by decide) (pe_glob (v := V.ref CM) rfl T.g_Matrix rfl) (pa_cons (pv 2) pa_nil)) (nomark _)) (pw_or1 (pt_cmpR (ne_f o_meq hr (by decide)) (pe_op (op_xf o_mmul hr (by decide)) (pv 5) (pv 3)) (pe_cmf m_meye hr (by decide) (pe_glob (v := V.ref CM) rfl T.g_Matrix rfl) (pa_cons (pv 2) pa_nil)) (nomark _))))) (pss_one (ps_ret pe_bl))
  pss_nil))
  (pss_one (ps_cut (ps_ret (pe_and (pe_cg c_is bare hr (by decide) rfl (pa_cons (pe_metE0 m_inv T.clM hr (by decide) (pe_pf pm_transposed T.clM hr (by decide) (pv 3) rfl)) (pa_cons (pe_cg c_turn bare hr (by decide) rfl (pa_cons (pv 4) pa_nil)) pa_nil))) (pe_one (pe_cg c_is bare hr (by decide) rfl (pa_cons (pv 3) (pa_cons (pv 1) pa_nil))))))))))))))))))), ?_⟩
    -- pair = square(q)
    refine ⟨fun σ G => ∃ (t : Addr) (n : Nat) (A : Nat → Nat → Int) (u : Int), σ = [some (.ref q), some (.ref t), none, none, none, none, none, none, none] ∧ Keep q H G ∧ PrAt G t n n A u ∧ IA n A u, ?_, ?_⟩
    · exact ⟨_, rfl, q, 0, rfl, hq, by decide, fun t m A u H' k1 q1 hP bn u30 m0 m6 => ⟨t, m, A, u, rfl, k1, hP.same (hid_same q H'), ⟨m0, m6, bn, u30⟩⟩⟩
    rintro _ G1 ⟨t, n, A, u, rfl, k1, hP, ia⟩
    have n0 := ia.n0
    have n6 := ia.n6
    -- many = len(pair[0])
    obtain ⟨L, ht, rs, hL, hl, hrow⟩ := id hP
    refine ⟨fun σ G => σ = [some (.ref q), some (.ref t), some (.int n), none, none, none, none, none, none] ∧ G1 = G, ?_, ?_⟩
    · exact ⟨_, rfl, t, _, _, _, rfl, rfl, SqT.of ht, rfl, L, rs, rfl, .inl (SqL.of hL), by rw [hl]; rfl, rfl⟩
    rintro _ _ ⟨rfl, rfl⟩
    -- one, due = (Matrix(entries(pair)), invert(pair))
    refine ⟨fun σ G => ∃ (m1 : Addr) (v4 : V), σ = [some (.ref q), some (.ref t), some (.int n), some (.ref m1), some v4, none, none, none, none] ∧ Same G1 G ∧ MtAt C CM G m1 n n (qv A u) ∧ ((v4 = .non ∧ Sing n (cols A)) ∨ ∃ t' B e, v4 = .ref t' ∧ PrAt G t' n n B e ∧ IV n A B u e), ?_, ?_⟩
    · refine ⟨_, rfl, t, n, n, A, u, rfl, hP, by omega, by omega, ia.sm.1, ia.sm.2, fun p H1 s1 h1 => ?_⟩
      refine fun m1 dx hx hdx hne => ⟨m1, dx, p, n, n, qv A u, rfl, upd_same, mat_arg h1 hx hdx hne, ia.sz, fun H2 t2 e2 tb2 kp => ⟨rfl, ?_⟩⟩
      have s2 := mat_same (CM := CM) hx hdx hne kp
      have hm1 : MtAt C CM H2 m1 n n (qv A u) := ⟨dx, t2, e2, tb2⟩
      have s12 := s1.trans s2
      refine ⟨_, rfl, t, n, A, u, rfl, hP.same s12, ia.bA, ia.u30, n0, n6, fun hs H3 s3 => ?_, fun t' H3 B e s3 hP3 bn tot _ => ?_⟩
      · exact ⟨_, _, rfl, m1, .non, rfl, s12.trans s3, hm1.same s3, .inl ⟨rfl, hs⟩⟩
      · exact ⟨_, _, rfl, m1, .ref t', rfl, s12.trans s3, hm1.same s3, .inr ⟨t', B, e, rfl, hP3, ⟨ia, bn, tot⟩⟩⟩
    rintro _ G2 ⟨m1, v4, rfl, s2, hm1, hv4⟩
    -- told = inverted(one)
    refine ⟨fun σ G => ∃ v5 : V, σ = [some (.ref q), some (.ref t), some (.int n), some (.ref m1), some v4, some v5, none, none, none] ∧ Same G2 G ∧ Due8 C CM G n A u v4 v5, ?_, ?_⟩
    · refine ⟨_, rfl, m1, n, n, _, rfl, hm1, n0, fun z => absurd rfl z, fun _ => ⟨cols A, u.toNat, ia.sq, ia.bd, ?_⟩⟩
      rcases hv4 with ⟨rfl, hs⟩ | ⟨t', B, e, rfl, hP4, iv⟩
      · exact .inl ⟨hs, fun p H' s3 e3 => ⟨.ref p, rfl, s3, .inl ⟨rfl, hs, p, rfl, e3⟩⟩⟩
      · exact .inr ⟨B, u * e, iv.ri, fun m H' s3 h3 => ⟨.ref m, rfl, s3, .inr ⟨t', m, B, e, rfl, rfl, hP4.same s3, h3.congr fun i j _ _ => iv.val i j, iv⟩⟩⟩
    rintro _ G3 ⟨v5, rfl, s3, hd⟩
    clear hv4
    have s13 := s2.trans s3
    have hP3 := hP.same s13
    have hm3 := hm1.same s3
    clear hm1
    -- corner_sum
    have bnA : ∀ i j, i < n → j < n → (A i j).natAbs < 10 ^ 14 := ia.bA.ab
    refine ⟨fun σ G => ∃ p6 : Addr, σ = [some (.ref q), some (.ref t), some (.int n), some (.ref m1), some v4, some v5, some (.ref p6), none, none] ∧ Same G3 G ∧ G p6 = some (.tup [.int (Rat.divInt (smZ n fun i => A i i) u).num, .int (Rat.divInt (smZ n fun i => A i i) u).den]), ?_, ?_⟩
    · obtain ⟨L3, ht3, rs3, hL3, hl3, hrow3⟩ := id hP3
      refine ⟨_, rfl, (n : Int), rfl, by omega, by omega, fun D hD => ?_⟩
      have hn' : ((n : Int)).toNat = n := by omega
      rw [hn']
      refine lc_same (walk_range (lo := 0) (n := n)) hD (by omega) (fun i y _ => y = .int (A i i)) (fun _ _ _ _ h _ => h) (fun G s => trivial) yfn_same (fun i y H1 H1' hi s1 nD hy => ?_) fun ys H1 hl1 s1 e1 h1 => ?_
      · obtain ⟨rfl, rfl⟩ := hy
        refine ⟨_, fun _ h => h, wipe_one, ?_⟩
        have ei : V.int (0 + (i : Int)) = V.int (i : Int) := by rw [Int.zero_add]
        have hx : rs3[i]? = some rs3[i] := List.getElem?_eq_getElem (by omega)
        obtain ⟨p, ep, hp⟩ := hrow3 i _ hx
        rw [ep] at hx
        exact ⟨_, rfl, t, _, _, _, rfl, rfl, SqT.of (s1 _ _ ht3), rfl, _, rfl, L3, _, _, _, rfl, ei, SqL.of (s1 _ _ hL3), atI_nat hx, _, rfl, p, _, _, _, rfl, ei, SqL.of (s1 _ _ hp), atI_nat (rowV_at hi), Same.refl _, fun _ => rfl⟩
      have e7 : ys = rowV n fun i => A i i := ints_of hl1 h1
      subst e7
      refine ⟨D, _, rfl, SqL.of e1, ?_⟩
      rw [smZ_list]
      refine ⟨_, rfl, t, _, _, _, rfl, rfl, SqT.of (s1 _ _ ht3), rfl, _, u, rfl, ia.sm.1, ia.sm.2, fun p hp => ⟨p, rfl, s1.trans (MG.Same.new (Same.refl _) hp), upd_same⟩⟩
    rintro _ G4 ⟨p6, rfl, s4, e6⟩
    have hP4 := hP3.same s4
    have hm4 := hm3.same s4
    have hd4 := hd.same s4
    clear hP3 hm3 hd
    -- traced
    refine ⟨fun σ G => ∃ y7 : Addr, σ = [some (.ref q), some (.ref t), some (.int n), some (.ref m1), some v4, some v5, some (.ref p6), some (.ref y7), none] ∧ Same G4 G ∧ RatAt C G y7 (Rat.divInt (smZ n fun i => A i i) u), ?_, ?_⟩
    · exact ⟨_, rfl, m1, n, n, _, rfl, hm4, n0, by omega, fun z => absurd rfl z, fun _ => ⟨A, u, ia.bA.mono (by decide), fun i j _ _ => rfl, fun y H' s5 h5 => ⟨y, rfl, s5, h5⟩⟩⟩
    rintro _ G5 ⟨y7, rfl, s5, hy7⟩
    have e65 := s5 _ _ e6
    have hP5 := hP4.same s5
    have hm5 := hm4.same s5
    have hd5 := hd4.same s5
    clear hP4 hm4 hd4 e6
    have bW : Bd (Rat.divInt (smZ n fun i => A i i) u) 20 := bd_div ia.sm.1 (Nat.lt_of_le_of_lt (smZ_abs (m := 10 ^ 14) fun j hj => Nat.le_of_lt (bnA j j hj hj)) (Nat.lt_of_le_of_lt (Nat.mul_le_mul_right _ n6) (by decide))) (Nat.lt_trans ia.bA.ub (by decide))
    generalize eW : Rat.divInt (smZ n fun i => A i i) u = W at *
    have od : Okd (prD W) 4000 1 := okd_pair (bW.num (by decide)) (bW.den (by decide))
    -- if not isinstance(traced, Ratio) or repr((traced.top, traced.bottom)) != repr(corner_sum)
    refine ⟨fun σ G => σ = [some (.ref q), some (.ref t), some (.int n), some (.ref m1), some v4, some v5, some (.ref p6), some (.ref y7), none] ∧ Same G5 G, ?_, ?_⟩
    · obtain ⟨d7, e7⟩ := id hy7
      refine ⟨_, rfl, .ref y7, _, _, _, _, rfl, .own C, hy7.tyx T.toTxR, T.kC, _, rfl, iteF ?_⟩
      refine ⟨_, rfl, y7, d7, _, rfl, e7, y7, W, rfl, hy7, _, rfl, y7, d7, _, rfl, e7, y7, W, rfl, hy7, by show 2 ≤ sizeLine; decide, fun T2 hT2 => ?_⟩
      have s6 := MG.Same.new (o := .tup [.int W.num, .int W.den]) (Same.refl G5) hT2
      have dp2 : Dp K (upd G5 T2 (.tup [.int W.num, .int W.den])) (.ref T2) (prD W) := pr_dp upd_same
      have dp6 : Dp K (upd G5 T2 (.tup [.int W.num, .int W.den])) (.ref p6) (prD W) := pr_dp (s6 _ _ e65)
      refine ⟨.ref T2, _, rfl, dp2, od.sh, od.nd, Nat.le_trans od.dp (by decide), Nat.le_trans od.ln (by decide), ?_⟩
      refine ⟨_, rfl, .ref p6, _, rfl, dp6, od.sh, od.nd, Nat.le_trans od.dp (by decide), Nat.le_trans od.ln (by decide), rfl, ?_⟩
      exact ⟨_, rfl, ifF (by simp) ⟨rfl, s6⟩⟩
    rintro _ G6 ⟨rfl, s6⟩
    have hP6 := hP5.same s6
    have hm6 := hm5.same s6
    have hd6 := hd5.same s6
    have s16 := ((s13.trans s4).trans s5).trans s6
    clear hP5 hm5 hd5 hy7 e65 s13 s4 s5 s6 od eW
    have zz := ia.sz
    obtain ⟨g1, g2, g3, g4⟩ := is_args (ia.bA.mono (k' := 14) (by decide)) (by decide) (fun i j _ _ => rfl)
    have isA : ∀ {G : Hp} {Q : VK}, Same G6 G → (∀ H', Same G H' → Q (.bl true) H') → spIs C CM [.ref m1, .ref t] G Q E0 := fun {G Q} s kk => ⟨m1, t, n, n, _, A, u, rfl, hm6.same s, hP6.same s, by omega, by omega, g1, g2, g3, g4, kk⟩
    -- if due is None
    refine ⟨fun σ G => ∃ (t' m2 : Addr) (B : Nat → Nat → Int) (e : Int), σ = [some (.ref q), some (.ref t), some (.int n), some (.ref m1), some (.ref t'), some (.ref m2), some (.ref p6), some (.ref y7), none] ∧ G6 = G ∧ PrAt G6 t' n n B e ∧ MtAt C CM G6 m2 n n (qv B e) ∧ IV n A B u e, ?_, ?_⟩
    · rcases hd6 with ⟨rfl, hs, p, rfl, ep⟩ | ⟨t', m2, B, e, rfl, rfl, h1, h2, h3⟩
      · refine ⟨_, rfl, rfl, _, rfl, ifT (by rfl) ?_⟩
        obtain ⟨dx1, t1', em1, _⟩ := id hm6
        have dpN : ∀ {G : Hp} {p : Addr}, G p = some (.tup []) → Dp K G (.ref p) (.tuple []) := fun {G p} e => .tup (SqT.of e) .nil
        refine ⟨_, rfl, by show 0 ≤ sizeLine; decide, fun p0 hp0 => ?_⟩
        have a1 := MG.Same.new (o := .tup []) (Same.refl G6) hp0
        refine ⟨.tuple [], .tuple [], dpN (a1 _ _ ep), dpN upd_same, rfl, rfl, ⟨_, rfl, iteT ?_⟩⟩
        refine ⟨_, rfl, m1, dx1, _, rfl, a1 _ _ em1, m1, n, n, _, rfl, hm6.same a1, zz, fun mt H1 a2 ht => ?_⟩
        refine ⟨mt, n, n, _, rfl, ht, n0, fun z => absurd rfl z, fun _ => ⟨fun m r => A m r, u.toNat, ia.turn.sq, ia.turn.bd, .inl ⟨sing_turn hs, fun p2 H2 a3 e2 => ?_⟩⟩⟩
        refine ⟨by show 0 ≤ sizeLine; decide, fun p3 hp3 => ?_⟩
        have a4 := MG.Same.new (o := .tup []) (Same.refl H2) hp3
        refine ⟨.tuple [], .tuple [], dpN (a4 _ _ e2), dpN upd_same, rfl, rfl, ⟨_, rfl, iteT ?_⟩⟩
        have a14 := a1.trans (a2.trans (a3.trans a4))
        exact ⟨_, rfl, _, rfl, isA a14 fun H4 a5 => k H4 (k1.same (s16.trans (a14.trans a5)))⟩
      · refine ⟨_, rfl, rfl, _, rfl, ifF (by rfl) ?_⟩
        exact ⟨t', m2, B, e, rfl, rfl, h1, h2, h3⟩
    rintro _ G7 ⟨t', m2, B, e, rfl, e7, hP7, hm7, iv⟩
    subst e7
    have fB : ∀ i s, i < n → s < n → Rat.divInt ((u.toNat : Nat) * B i s) (u * e) = qv B e i s := fun i s _ _ => iv.val i s
    have fA : ∀ i s, i < n → s < n → Rat.divInt ((e.toNat : Nat) * A i s) (u * e) = qv A u i s := fun i s _ _ => iv.valB i s
    obtain ⟨j1, j2, j3, j4⟩ := is_args (iv.bB.mono (k' := 90) (by decide)) (by decide) (fun i j _ _ => rfl)
    obtain ⟨d2, t2', em2, _⟩ := id hm7
    -- if not is(told, due) or not is(told.inverse(), pair)
    refine ⟨fun σ G => σ = [some (.ref q), some (.ref t), some (.int n), some (.ref m1), some (.ref t'), some (.ref m2), some (.ref p6), some (.ref y7), none] ∧ Same G6 G, ?_, ?_⟩
    · refine ⟨_, rfl, _, rfl, m2, t', n, n, _, B, e, rfl, hm7, hP7, by omega, by omega, j1, j2, j3, j4, fun H1 a1 => ⟨_, rfl, iteF ?_⟩⟩
      refine ⟨_, rfl, m2, d2, _, rfl, a1 _ _ em2, rfl, m2, n, n, _, rfl, hm7.same a1, n0, fun z => absurd rfl z, fun _ => ⟨cols B, e.toNat, iv.sqB, iv.bdB, .inr ⟨A, u * e, iv.riB, fun m3 H2 a2 h3 => ?_⟩⟩⟩
      have a12 := a1.trans a2
      refine ⟨_, rfl, m3, t, n, n, _, A, u, rfl, h3.congr fA, hP6.same a12, by omega, by omega, g1, g2, g3, g4, fun H3 a3 => ⟨_, rfl, iteF ?_⟩⟩
      exact ⟨rfl, a12.trans a3⟩
    rintro _ G8 ⟨rfl, s8⟩
    -- if not alike(times(pair, due), eye(many)) or not alike(times(due, pair), eye(many))
    refine ⟨fun σ G => σ = [some (.ref q), some (.ref t), some (.int n), some (.ref m1), some (.ref t'), some (.ref m2), some (.ref p6), some (.ref y7), none] ∧ Same G6 G, ?_, ?_⟩
    · refine ⟨_, rfl, _, rfl, t, t', n, n, n, A, B, u, e, 90, rfl, hP6.same s8, hP7.same s8, by omega, n0, by omega, by omega, by decide, ia.bA.mono (by decide), iv.bB, fun t3 H1 A3 u3 a1 h3 bn3 _ hv3 => ?_⟩
      refine ⟨_, rfl, n, rfl, by omega, fun te H2 a2 he => ?_⟩
      refine ⟨t3, te, n, n, A3, eyeI, u3, 1, rfl, h3.same a2, he, by omega, by omega, bn3.mono (by decide), bn_eye (by decide), fun i j hi hj => alikeI bn3.pos ((hv3 i j hi hj).trans (iv.mulR i j hi hj)), fun H3 a3 => ⟨_, rfl, iteF ?_⟩⟩
      have a13 := a1.trans (a2.trans a3)
      refine ⟨_, rfl, _, rfl, t', t, n, n, n, B, A, e, u, 90, rfl, hP7.same (s8.trans a13), hP6.same (s8.trans a13), by omega, n0, by omega, by omega, by decide, iv.bB, ia.bA.mono (by decide), fun t4 H4 A4 u4 a4 h4 bn4 _ hv4 => ?_⟩
      refine ⟨_, rfl, n, rfl, by omega, fun te2 H5 a5 he2 => ?_⟩
      refine ⟨t4, te2, n, n, A4, eyeI, u4, 1, rfl, h4.same a5, he2, by omega, by omega, bn4.mono (by decide), bn_eye (by decide), fun i j hi hj => alikeI bn4.pos ((hv4 i j hi hj).trans (iv.mulL i j hi hj)), fun H6 a6 => ⟨_, rfl, iteF ?_⟩⟩
      exact ⟨rfl, s8.trans (a13.trans (a4.trans (a5.trans a6)))⟩
    rintro _ G9 ⟨rfl, s9⟩
    clear s8
    -- if one * told != eye(many) or told * one != eye(many)
    refine ⟨fun σ G => σ = [some (.ref q), some (.ref t), some (.int n), some (.ref m1), some (.ref t'), some (.ref m2), some (.ref p6), some (.ref y7), none] ∧ Same G6 G, ?_, ?_⟩
    · refine ⟨_, rfl, _, rfl, mm_mul (hm6.same s9) (hm7.same s9) zz zz ia.bd iv.bdB ia.denA iv.denB fun m3 H1 a1 h3 => ?_⟩
      refine ⟨rfl, _, rfl, n, rfl, n0, by omega, fun m4 H2 a2 h4 => ?_⟩
      have h3' : MtAt C CM H2 m3 n n (qv eyeI 1) := (h3.same a2).congr fun i j hi hj => iv.mulR i j hi hj
      obtain ⟨x3, y3, e3, _⟩ := id h3'
      obtain ⟨x4, y4, e4, _⟩ := id h4
      refine ⟨m3, x3, _, m4, x4, _, rfl, e3, rfl, e4, m3, m4, n, n, _, rfl, h3', h4, fun H3 a3 => ⟨true, rfl, _, rfl, iteF ?_⟩⟩
      have a13 := s9.trans (a1.trans (a2.trans a3))
      refine ⟨_, rfl, _, rfl, mm_mul (hm7.same a13) (hm6.same a13) zz zz iv.bdB ia.bd iv.denB ia.denA fun m5 H4 a4 h5 => ?_⟩
      refine ⟨rfl, _, rfl, n, rfl, n0, by omega, fun m6 H5 a5 h6 => ?_⟩
      have h5' : MtAt C CM H5 m5 n n (qv eyeI 1) := (h5.same a5).congr fun i j hi hj => iv.mulL i j hi hj
      obtain ⟨x5, y5, e5, _⟩ := id h5'
      obtain ⟨x6, y6, e6, _⟩ := id h6
      refine ⟨m5, x5, _, m6, x6, _, rfl, e5, rfl, e6, m5, m6, n, n, _, rfl, h5', h6, fun H6 a6 => ⟨true, rfl, _, rfl, iteF ?_⟩⟩
      exact ⟨rfl, a13.trans (a4.trans (a5.trans a6))⟩
    rintro _ G10 ⟨rfl, s10⟩
    clear s9
    -- return is(one.transposed.inverse(), turn(due)) and is(one, pair)
    refine ⟨fun σ G => False, ?_, fun _ _ z => z.elim⟩
    have hm10 := hm6.same s10
    obtain ⟨dx1, t1', em1, _⟩ := id hm10
    refine ⟨_, rfl, m1, dx1, _, rfl, em1, m1, n, n, _, rfl, hm10, zz, fun mt H1 a1 ht => ?_⟩
    have ht' : MtAt C CM H1 mt n n (qv (fun i j => A j i) u) := ht
    obtain ⟨x2, y2, e2, _⟩ := id ht'
    refine ⟨mt, x2, _, rfl, e2, rfl, mt, n, n, _, rfl, ht', n0, fun z => absurd rfl z, fun _ => ⟨fun m r => A m r, u.toNat, ia.turn.sq, ia.turn.bd, .inr ⟨fun m j => B j m, u * e, iv.riT, fun m3 H2 a2 h3 => ?_⟩⟩⟩
    refine ⟨_, rfl, t', n, n, B, e, rfl, hP7.same (s10.trans (a1.trans a2)), n0, by omega, by omega, fun t5 H3 a3 h5 => ?_⟩
    have bT : Bn n n (fun i j => B j i) e 90 := ⟨iv.bB.pos, iv.bB.ub, fun i j hi hj => iv.bB.ab j i hj hi⟩
    obtain ⟨l1, l2, l3, l4⟩ := is_args bT (by decide) (fun i j _ _ => rfl)
    have h3' : MtAt C CM H2 m3 n n (qv (fun i j => B j i) e) := h3.congr fun i s hi hs => iv.val s i
    refine ⟨m3, t5, n, n, _, _, e, rfl, h3'.same a3, h5, by omega, by omega, l1, l2, l3, l4, fun H4 a4 => ⟨_, rfl, iteT ?_⟩⟩
    have a14 := s10.trans (a1.trans (a2.trans (a3.trans a4)))
    exact ⟨_, rfl, _, rfl, isA a14 fun H5 a5 => k H5 (k1.same (s16.trans (a14.trans a5)))⟩
abbrev RightC (P : Program) (w : World) (K : PySem.W.Frag) (mg : Str → Option Value) (base : Heap) : Prop := CalG P w K mg base 20 "_law_right" spRight []
/-! ### law -/
def spLaw (K : PySem.W.Frag) : Sp := fun vs H Q _ => ∃ (a : Addr) (ns : List Int), vs = [.ref a] ∧ SqL K H a (ns.map V.int) ∧ ns.length ≤ 63 ∧ ∀ H', Q (.bl true) H'
theorem sc_law : FnScope ["_law_script", "_law_q", "_law_k"] ["_law_script"] (defScope s_law) := ⟨rfl, rfl, rfl, by decide +kernel, rfl, by decide +kernel, by decide +kernel⟩
theorem ok_law {f : Addr} {fd : FuncData} (F : Fun K "law" "law" s_law f fd) (T : Blt mg) (c_purse : PurseC P w K mg base) (c_from : CalG P w K mg base 4 "_law_from" (spFrom K) []) (c_oblong : OblongC P w K mg base) (c_right : RightC P w K mg base) : FnG P w K mg base CX0 22 f fd ["_law_script"] (spLaw K) := by
  refine fun_okG F sc_law (fun vs H Q E h => ?_) (fun cdv A' outer s H vs Q E bare hr h => ?_)
  · obtain ⟨a, ns, rfl, _⟩ := h
    rfl
  · obtain ⟨a, ns, rfl, hS, hl, k⟩ := h
    refine ⟨_, (pss_cons (ps_set (i := 1) sc_law.nd rfl (Or.inl rfl) (pe_cg c_purse bare hr (by decide) rfl (pa_cons (pv 0) pa_nil)))
  (pss_cons (ps_if (pt_not (pt_val (pe_cg c_oblong bare hr (by decide) rfl (pa_cons (pv 1) pa_nil)))) (pss_one (ps_ret pe_bl))
  pss_nil)
  (pss_one (ps_ret (pe_callB (id := "all") (cr_allK (K := K) rfl) (by rfl) T.b_all (by decide +kernel) (pa_cons (pe_lcI (pe_lc (own := [("_law_k", 2)]) rfl sc_law.nd (pi_range1 (by rfl) T.b_range (pa_cons (pe_callB (id := "max") (call_max2 rfl) (by rfl) T.b_max (by decide +kernel) (pa_cons pe_int (pa_cons (pe_callB (id := "min") (call_min2 rfl) (by rfl) T.b_min (by decide +kernel) (pa_cons (pe_callB (id := "len") (call_len_seqK (K := K)) (by rfl) T.b_len (by decide +kernel) (pa_cons (pv 0) pa_nil)) (pa_cons pe_int pa_nil))) pa_nil))) pa_nil)) (blkOk_by (N := ["_law_script", "_law_q", "_law_k"]) (sc := (defScope s_law)) (by decide +kernel)) (fun _ _ _ _ _ => (pg_name (i := 2) sc_law.nd rfl (Or.inl rfl))) (fun _ _ _ _ _ => pts_nil) (fun _ _ _ _ _ => (pe_cut (pe_cg c_right bare hr (by decide) rfl (pa_cons (pe_cg c_from bare hr (by decide) rfl (pa_cons (pv 0) (pa_cons (pv 2) pa_nil))) pa_nil)))))) pa_nil)))))), ?_⟩
    refine ⟨_, rfl, a, ns, rfl, hS, by omega, fun q0 J0 hq0 b0 qq0 => ?_⟩
    refine ⟨_, rfl, q0, 0, rfl, qq0, by decide, fun J1 kq _ => ⟨_, rfl, iteF ?_⟩⟩
    have hS1 : SqL K J1 a (ns.map V.int) := by
      have b1 : Same H J1 := fun b o hb => kq _ _ (b0 _ _ hb) (ne_of_none hb hq0)
      exact b1.seq hS
    clear hS
    have hm : ∃ m : Nat, (m : Int) = (if (if (4 : Int) < ((ns.map V.int).length : Int) then 4 else ((ns.map V.int).length : Int)) > 1 then (if (4 : Int) < ((ns.map V.int).length : Int) then 4 else ((ns.map V.int).length : Int)) else 1) ∧ m ≤ 63 := by
      rw [List.length_map]
      refine ⟨(if (if (4 : Int) < (ns.length : Int) then 4 else (ns.length : Int)) > 1 then (if (4 : Int) < (ns.length : Int) then 4 else (ns.length : Int)) else 1).toNat, ?_, ?_⟩
      · split <;> (try split) <;> omega
      · split <;> (try split) <;> omega
    obtain ⟨m, em, hm⟩ := hm
    refine ⟨_, rfl, a, _, rfl, .inl hS1, _, _, rfl, _, _, rfl, _, rfl, ?_, ?_, fun D hD => ?_⟩
    · rw [← em]; omega
    · rw [← em]; omega
    · have hh : (if (if (4 : Int) < ((ns.map V.int).length : Int) then 4 else ((ns.map V.int).length : Int)) > 1 then (if (4 : Int) < ((ns.map V.int).length : Int) then 4 else ((ns.map V.int).length : Int)) else 1).toNat = m := by rw [← em]; omega
      rw [hh]
      refine lc_same (walk_range (lo := 0) (n := m)) hD (by omega) (fun _ y _ => y = .bl true) (fun _ _ _ _ r _ => r) (fun _ _ => True.intro) (fun i H x H' y => y.1 ▸ Same.refl _) ?_ ?_
      · rintro i _ H _ hi s1 _ ⟨rfl, rfl⟩
        refine ⟨_, fun _ h => h, wipe_one, _, rfl, _, rfl, a, ns, _, rfl, ?_, by omega, fun q H2 hq s q0 => ⟨q, rfl, q0, fun H3 k2 => ⟨fun b o hb => k2 _ _ (s _ _ hb) (ne_of_none hb hq), fun _ => rfl⟩⟩⟩
        exact s1.seq hS1
      · intro ys H hl s1 e h
        obtain ⟨bs, hb, ab⟩ := all_bl (K := K) e h
        refine ⟨D, bs, rfl, hb, ?_⟩
        rw [ab]
        exact k _
end
end Lw

namespace Lw
open PySem PySem.Spec PyProof.Rows L2 MG
theorem kit_rc {K : PySem.W.Frag} {D C : Addr} {b : Bool} (h1 : PySem.W.isClsIn K C = true) (h2 : PySem.W.typeIn K (.ref C) = some (.type "type")) (n : D ≠ C) (h : PySem.W.subIn K (.ref D) (.ref C) = some b) : PySem.W.kitOne K (.ref D) (.ref C) = some b := by
  have e : (Value.ref D == Value.ref C) = false := beq_eq_false_iff_ne.mpr fun q => n (by cases q; rfl)
  unfold PySem.W.kitOne
  rw [e]
  show (if ((PySem.W.clsIn K C).isSome && PySem.W.typeIn K (.ref C) == some (.type "type")) = true then PySem.W.subIn K (.ref D) (.ref C) else none) = some b
  have h1' : (PySem.W.clsIn K C).isSome = true := h1
  rw [h1', h2, if_pos (by simp), h]
theorem all_mk {l : PySem.W.OpenLaw} {w : World} {K : PySem.W.Frag} {h : Heap} {mg : Str → Option Value} {fa fD0 fD1 fD2 fD3 fD4 fD5 fD6 fD7 fD8 fD9 fD10 fD11 fD12 fD13 fD14 fD15 fD16 fD17 fD18 fD19 fD20 fD21 fD22 fD23 fD24 fD25 fD26 fD27 fD28 fD29 fD30 fD31 fD32 fD33 fD34 fD35 C CM fM0 fM1 fM2 fM3 fM4 fM5 fM6 fM7 fM8 fP0 pP0 fP1 pP1 fP2 pP2 fP3 pP3 fP4 pP4 fP5 pP5 fI tI : Addr} (X : K.In h) (G : h.Ns mainGlobals mg) (hfa : mg "law" = some (.ref fa))
    {odD0 anD0 : Option Addr} {slD0 : Array (Option Value)} {ocD0 kVD0 dcD0 pmD0 cdD0 ctD0 : Value}
    {odD1 anD1 : Option Addr} {slD1 : Array (Option Value)} {ocD1 kVD1 dcD1 pmD1 cdD1 ctD1 : Value}
    {odD2 anD2 : Option Addr} {slD2 : Array (Option Value)} {ocD2 kVD2 dcD2 pmD2 cdD2 ctD2 : Value}
    {odD3 anD3 : Option Addr} {slD3 : Array (Option Value)} {ocD3 kVD3 dcD3 pmD3 cdD3 ctD3 : Value}
    {odD4 anD4 : Option Addr} {slD4 : Array (Option Value)} {ocD4 kVD4 dcD4 pmD4 cdD4 ctD4 : Value}
    {odD5 anD5 : Option Addr} {slD5 : Array (Option Value)} {ocD5 kVD5 dcD5 pmD5 cdD5 ctD5 : Value}
    {odD6 anD6 : Option Addr} {slD6 : Array (Option Value)} {ocD6 kVD6 dcD6 pmD6 cdD6 ctD6 : Value}
    {odD7 anD7 : Option Addr} {slD7 : Array (Option Value)} {ocD7 kVD7 dcD7 pmD7 cdD7 ctD7 : Value}
    {odD8 anD8 : Option Addr} {slD8 : Array (Option Value)} {ocD8 kVD8 dcD8 pmD8 cdD8 ctD8 : Value}
    {odD9 anD9 : Option Addr} {slD9 : Array (Option Value)} {ocD9 kVD9 dcD9 pmD9 cdD9 ctD9 : Value}
    {odD10 anD10 : Option Addr} {slD10 : Array (Option Value)} {ocD10 kVD10 dcD10 pmD10 cdD10 ctD10 : Value}
    {odD11 anD11 : Option Addr} {slD11 : Array (Option Value)} {ocD11 kVD11 dcD11 pmD11 cdD11 ctD11 : Value}
    {odD12 anD12 : Option Addr} {slD12 : Array (Option Value)} {ocD12 kVD12 dcD12 pmD12 cdD12 ctD12 : Value}
    {odD13 anD13 : Option Addr} {slD13 : Array (Option Value)} {ocD13 kVD13 dcD13 pmD13 cdD13 ctD13 : Value}
    {odD14 anD14 : Option Addr} {slD14 : Array (Option Value)} {ocD14 kVD14 dcD14 pmD14 cdD14 ctD14 : Value}
    {odD15 anD15 : Option Addr} {slD15 : Array (Option Value)} {ocD15 kVD15 dcD15 pmD15 cdD15 ctD15 : Value}
    {odD16 anD16 : Option Addr} {slD16 : Array (Option Value)} {ocD16 kVD16 dcD16 pmD16 cdD16 ctD16 : Value}
    {odD17 anD17 : Option Addr} {slD17 : Array (Option Value)} {ocD17 kVD17 dcD17 pmD17 cdD17 ctD17 : Value}
    {odD18 anD18 : Option Addr} {slD18 : Array (Option Value)} {ocD18 kVD18 dcD18 pmD18 cdD18 ctD18 : Value}
    {odD19 anD19 : Option Addr} {slD19 : Array (Option Value)} {ocD19 kVD19 dcD19 pmD19 cdD19 ctD19 : Value}
    {odD20 anD20 : Option Addr} {slD20 : Array (Option Value)} {ocD20 kVD20 dcD20 pmD20 cdD20 ctD20 : Value}
    {odD21 anD21 : Option Addr} {slD21 : Array (Option Value)} {ocD21 kVD21 dcD21 pmD21 cdD21 ctD21 : Value}
    {odD22 anD22 : Option Addr} {slD22 : Array (Option Value)} {ocD22 kVD22 dcD22 pmD22 cdD22 ctD22 : Value}
    {odD23 anD23 : Option Addr} {slD23 : Array (Option Value)} {ocD23 kVD23 dcD23 pmD23 cdD23 ctD23 : Value}
    {odD24 anD24 : Option Addr} {slD24 : Array (Option Value)} {ocD24 kVD24 dcD24 pmD24 cdD24 ctD24 : Value}
    {odD25 anD25 : Option Addr} {slD25 : Array (Option Value)} {ocD25 kVD25 dcD25 pmD25 cdD25 ctD25 : Value}
    {odD26 anD26 : Option Addr} {slD26 : Array (Option Value)} {ocD26 kVD26 dcD26 pmD26 cdD26 ctD26 : Value}
    {odD27 anD27 : Option Addr} {slD27 : Array (Option Value)} {ocD27 kVD27 dcD27 pmD27 cdD27 ctD27 : Value}
    {odD28 anD28 : Option Addr} {slD28 : Array (Option Value)} {ocD28 kVD28 dcD28 pmD28 cdD28 ctD28 : Value}
    {odD29 anD29 : Option Addr} {slD29 : Array (Option Value)} {ocD29 kVD29 dcD29 pmD29 cdD29 ctD29 : Value}
    {odD30 anD30 : Option Addr} {slD30 : Array (Option Value)} {ocD30 kVD30 dcD30 pmD30 cdD30 ctD30 : Value}
    {odD31 anD31 : Option Addr} {slD31 : Array (Option Value)} {ocD31 kVD31 dcD31 pmD31 cdD31 ctD31 : Value}
    {odD32 anD32 : Option Addr} {slD32 : Array (Option Value)} {ocD32 kVD32 dcD32 pmD32 cdD32 ctD32 : Value}
    {odD33 anD33 : Option Addr} {slD33 : Array (Option Value)} {ocD33 kVD33 dcD33 pmD33 cdD33 ctD33 : Value}
    {odD34 anD34 : Option Addr} {slD34 : Array (Option Value)} {ocD34 kVD34 dcD34 pmD34 cdD34 ctD34 : Value}
    {odD35 anD35 : Option Addr} {slD35 : Array (Option Value)} {ocD35 kVD35 dcD35 pmD35 cdD35 ctD35 : Value}
    {odM0 anM0 : Option Addr} {slM0 : Array (Option Value)} {ocM0 kVM0 dcM0 pmM0 cdM0 ctM0 : Value}
    {odM1 anM1 : Option Addr} {slM1 : Array (Option Value)} {ocM1 kVM1 dcM1 pmM1 cdM1 ctM1 : Value}
    {odM2 anM2 : Option Addr} {slM2 : Array (Option Value)} {ocM2 kVM2 dcM2 pmM2 cdM2 ctM2 : Value}
    {odM3 anM3 : Option Addr} {slM3 : Array (Option Value)} {ocM3 kVM3 dcM3 pmM3 cdM3 ctM3 : Value}
    {odM4 anM4 : Option Addr} {slM4 : Array (Option Value)} {ocM4 kVM4 dcM4 pmM4 cdM4 ctM4 : Value}
    {odM5 anM5 : Option Addr} {slM5 : Array (Option Value)} {ocM5 kVM5 dcM5 pmM5 cdM5 ctM5 : Value}
    {odM6 anM6 : Option Addr} {slM6 : Array (Option Value)} {ocM6 kVM6 dcM6 pmM6 cdM6 ctM6 : Value}
    {odM7 anM7 : Option Addr} {slM7 : Array (Option Value)} {ocM7 kVM7 dcM7 pmM7 cdM7 ctM7 : Value}
    {odM8 anM8 : Option Addr} {slM8 : Array (Option Value)} {ocM8 kVM8 dcM8 pmM8 cdM8 ctM8 : Value}
    {reP0 : List Value}
    {odP0 anP0 : Option Addr} {slP0 : Array (Option Value)} {ocP0 kVP0 dcP0 pmP0 cdP0 ctP0 : Value}
    {reP1 : List Value}
    {odP1 anP1 : Option Addr} {slP1 : Array (Option Value)} {ocP1 kVP1 dcP1 pmP1 cdP1 ctP1 : Value}
    {reP2 : List Value}
    {odP2 anP2 : Option Addr} {slP2 : Array (Option Value)} {ocP2 kVP2 dcP2 pmP2 cdP2 ctP2 : Value}
    {reP3 : List Value}
    {odP3 anP3 : Option Addr} {slP3 : Array (Option Value)} {ocP3 kVP3 dcP3 pmP3 cdP3 ctP3 : Value}
    {reP4 : List Value}
    {odP4 anP4 : Option Addr} {slP4 : Array (Option Value)} {ocP4 kVP4 dcP4 pmP4 cdP4 ctP4 : Value}
    {reP5 : List Value}
    {odP5 anP5 : Option Addr} {slP5 : Array (Option Value)} {ocP5 kVP5 dcP5 pmP5 cdP5 ctP5 : Value}
    {odI anI : Option Addr} {slI : Array (Option Value)} {ocI kVI dcI pmI cdI ctI : Value}
    {oT : Obj} {nT : Nat} {kT : Tok}
    {v_add u_add : Option Value}
    {v_mul u_mul : Option Value}
    {CX fX : Addr} {odX anX : Option Addr} {slX : Array (Option Value)} {ocX kVX dcX pmX cdX ctX : Value}
    {CS : Addr}
    {pRE fRE : Addr} {reRE : List Value} {odRE anRE : Option Addr} {slRE : Array (Option Value)} {ocRE kVRE dcRE pmRE cdRE ctRE : Value}
    (aD0 : PySem.W.nsIn K mainGlobals "is_whole" = some (some (.ref fD0)))
    (lD0 : K.lookup fD0 = some ⟨ocD0, odD0, .func (PySem.W.fnOf "is_whole" "is_whole" (defArgs s_is_whole) (defBody s_is_whole) (defScope s_is_whole) .none kVD0 dcD0 pmD0 anD0 cdD0 ctD0), slD0⟩)
    (cD0 : PySem.W.codeIn K cdD0 "is_whole" = true)
    (kD0 : PySem.W.keepIn K (.ref fD0) = true)
    (aD1 : PySem.W.nsIn K mainGlobals "is_number" = some (some (.ref fD1)))
    (lD1 : K.lookup fD1 = some ⟨ocD1, odD1, .func (PySem.W.fnOf "is_number" "is_number" (defArgs s_is_number) (defBody s_is_number) (defScope s_is_number) .none kVD1 dcD1 pmD1 anD1 cdD1 ctD1), slD1⟩)
    (cD1 : PySem.W.codeIn K cdD1 "is_number" = true)
    (kD1 : PySem.W.keepIn K (.ref fD1) = true)
    (aD2 : PySem.W.nsIn K mainGlobals "to_ratio" = some (some (.ref fD2)))
    (lD2 : K.lookup fD2 = some ⟨ocD2, odD2, .func (PySem.W.fnOf "to_ratio" "to_ratio" (defArgs s_to_ratio) (defBody s_to_ratio) (defScope s_to_ratio) .none kVD2 dcD2 pmD2 anD2 cdD2 ctD2), slD2⟩)
    (cD2 : PySem.W.codeIn K cdD2 "to_ratio" = true)
    (kD2 : PySem.W.keepIn K (.ref fD2) = true)
    (aD3 : PySem.W.nsIn K mainGlobals "is_size" = some (some (.ref fD3)))
    (lD3 : K.lookup fD3 = some ⟨ocD3, odD3, .func (PySem.W.fnOf "is_size" "is_size" (defArgs s_is_size) (defBody s_is_size) (defScope s_is_size) .none kVD3 dcD3 pmD3 anD3 cdD3 ctD3), slD3⟩)
    (cD3 : PySem.W.codeIn K cdD3 "is_size" = true)
    (kD3 : PySem.W.keepIn K (.ref fD3) = true)
    (aD4 : PySem.W.nsIn K mainGlobals "is_table" = some (some (.ref fD4)))
    (lD4 : K.lookup fD4 = some ⟨ocD4, odD4, .func (PySem.W.fnOf "is_table" "is_table" (defArgs s_is_table) (defBody s_is_table) (defScope s_is_table) .none kVD4 dcD4 pmD4 anD4 cdD4 ctD4), slD4⟩)
    (cD4 : PySem.W.codeIn K cdD4 "is_table" = true)
    (kD4 : PySem.W.keepIn K (.ref fD4) = true)
    (aD5 : PySem.W.nsIn K mainGlobals "over_one_bottom" = some (some (.ref fD5)))
    (lD5 : K.lookup fD5 = some ⟨ocD5, odD5, .func (PySem.W.fnOf "over_one_bottom" "over_one_bottom" (defArgs s_over_one_bottom) (defBody s_over_one_bottom) (defScope s_over_one_bottom) .none kVD5 dcD5 pmD5 anD5 cdD5 ctD5), slD5⟩)
    (cD5 : PySem.W.codeIn K cdD5 "over_one_bottom" = true)
    (kD5 : PySem.W.keepIn K (.ref fD5) = true)
    (aD6 : PySem.W.nsIn K mainGlobals "row_times" = some (some (.ref fD6)))
    (lD6 : K.lookup fD6 = some ⟨ocD6, odD6, .func (PySem.W.fnOf "row_times" "row_times" (defArgs s_row_times) (defBody s_row_times) (defScope s_row_times) .none kVD6 dcD6 pmD6 anD6 cdD6 ctD6), slD6⟩)
    (cD6 : PySem.W.codeIn K cdD6 "row_times" = true)
    (kD6 : PySem.W.keepIn K (.ref fD6) = true)
    (aD7 : PySem.W.nsIn K mainGlobals "multiplied" = some (some (.ref fD7)))
    (lD7 : K.lookup fD7 = some ⟨ocD7, odD7, .func (PySem.W.fnOf "multiplied" "multiplied" (defArgs s_multiplied) (defBody s_multiplied) (defScope s_multiplied) .none kVD7 dcD7 pmD7 anD7 cdD7 ctD7), slD7⟩)
    (cD7 : PySem.W.codeIn K cdD7 "multiplied" = true)
    (kD7 : PySem.W.keepIn K (.ref fD7) = true)
    (aD8 : PySem.W.nsIn K mainGlobals "primitive" = some (some (.ref fD8)))
    (lD8 : K.lookup fD8 = some ⟨ocD8, odD8, .func (PySem.W.fnOf "primitive" "primitive" (defArgs s_primitive) (defBody s_primitive) (defScope s_primitive) .none kVD8 dcD8 pmD8 anD8 cdD8 ctD8), slD8⟩)
    (cD8 : PySem.W.codeIn K cdD8 "primitive" = true)
    (kD8 : PySem.W.keepIn K (.ref fD8) = true)
    (aD9 : PySem.W.nsIn K mainGlobals "cleared" = some (some (.ref fD9)))
    (lD9 : K.lookup fD9 = some ⟨ocD9, odD9, .func (PySem.W.fnOf "cleared" "cleared" (defArgs s_cleared) (defBody s_cleared) (defScope s_cleared) .none kVD9 dcD9 pmD9 anD9 cdD9 ctD9), slD9⟩)
    (cD9 : PySem.W.codeIn K cdD9 "cleared" = true)
    (kD9 : PySem.W.keepIn K (.ref fD9) = true)
    (aD10 : PySem.W.nsIn K mainGlobals "with_pivot" = some (some (.ref fD10)))
    (lD10 : K.lookup fD10 = some ⟨ocD10, odD10, .func (PySem.W.fnOf "with_pivot" "with_pivot" (defArgs s_with_pivot) (defBody s_with_pivot) (defScope s_with_pivot) .none kVD10 dcD10 pmD10 anD10 cdD10 ctD10), slD10⟩)
    (cD10 : PySem.W.codeIn K cdD10 "with_pivot" = true)
    (kD10 : PySem.W.keepIn K (.ref fD10) = true)
    (aD11 : PySem.W.nsIn K mainGlobals "beside_unit" = some (some (.ref fD11)))
    (lD11 : K.lookup fD11 = some ⟨ocD11, odD11, .func (PySem.W.fnOf "beside_unit" "beside_unit" (defArgs s_beside_unit) (defBody s_beside_unit) (defScope s_beside_unit) .none kVD11 dcD11 pmD11 anD11 cdD11 ctD11), slD11⟩)
    (cD11 : PySem.W.codeIn K cdD11 "beside_unit" = true)
    (kD11 : PySem.W.keepIn K (.ref fD11) = true)
    (aD12 : PySem.W.nsIn K mainGlobals "inverted" = some (some (.ref fD12)))
    (lD12 : K.lookup fD12 = some ⟨ocD12, odD12, .func (PySem.W.fnOf "inverted" "inverted" (defArgs s_inverted) (defBody s_inverted) (defScope s_inverted) .none kVD12 dcD12 pmD12 anD12 cdD12 ctD12), slD12⟩)
    (cD12 : PySem.W.codeIn K cdD12 "inverted" = true)
    (kD12 : PySem.W.keepIn K (.ref fD12) = true)
    (aD13 : PySem.W.nsIn K mainGlobals "_law_purse" = some (some (.ref fD13)))
    (lD13 : K.lookup fD13 = some ⟨ocD13, odD13, .func (PySem.W.fnOf "_law_purse" "_law_purse" (defArgs s__law_purse) (defBody s__law_purse) (defScope s__law_purse) .none kVD13 dcD13 pmD13 anD13 cdD13 ctD13), slD13⟩)
    (cD13 : PySem.W.codeIn K cdD13 "_law_purse" = true)
    (kD13 : PySem.W.keepIn K (.ref fD13) = true)
    (aD14 : PySem.W.nsIn K mainGlobals "_law_draw" = some (some (.ref fD14)))
    (lD14 : K.lookup fD14 = some ⟨ocD14, odD14, .func (PySem.W.fnOf "_law_draw" "_law_draw" (defArgs s__law_draw) (defBody s__law_draw) (defScope s__law_draw) .none kVD14 dcD14 pmD14 anD14 cdD14 ctD14), slD14⟩)
    (cD14 : PySem.W.codeIn K cdD14 "_law_draw" = true)
    (kD14 : PySem.W.keepIn K (.ref fD14) = true)
    (aD15 : PySem.W.nsIn K mainGlobals "_law_common" = some (some (.ref fD15)))
    (lD15 : K.lookup fD15 = some ⟨ocD15, odD15, .func (PySem.W.fnOf "_law_common" "_law_common" (defArgs s__law_common) (defBody s__law_common) (defScope s__law_common) .none kVD15 dcD15 pmD15 anD15 cdD15 ctD15), slD15⟩)
    (cD15 : PySem.W.codeIn K cdD15 "_law_common" = true)
    (kD15 : PySem.W.keepIn K (.ref fD15) = true)
    (aD16 : PySem.W.nsIn K mainGlobals "_law_lowest" = some (some (.ref fD16)))
    (lD16 : K.lookup fD16 = some ⟨ocD16, odD16, .func (PySem.W.fnOf "_law_lowest" "_law_lowest" (defArgs s__law_lowest) (defBody s__law_lowest) (defScope s__law_lowest) .none kVD16 dcD16 pmD16 anD16 cdD16 ctD16), slD16⟩)
    (cD16 : PySem.W.codeIn K cdD16 "_law_lowest" = true)
    (kD16 : PySem.W.keepIn K (.ref fD16) = true)
    (aD17 : PySem.W.nsIn K mainGlobals "_law_from" = some (some (.ref fD17)))
    (lD17 : K.lookup fD17 = some ⟨ocD17, odD17, .func (PySem.W.fnOf "_law_from" "_law_from" (defArgs s__law_from) (defBody s__law_from) (defScope s__law_from) .none kVD17 dcD17 pmD17 anD17 cdD17 ctD17), slD17⟩)
    (cD17 : PySem.W.codeIn K cdD17 "_law_from" = true)
    (kD17 : PySem.W.keepIn K (.ref fD17) = true)
    (aD18 : PySem.W.nsIn K mainGlobals "_law_cells" = some (some (.ref fD18)))
    (lD18 : K.lookup fD18 = some ⟨ocD18, odD18, .func (PySem.W.fnOf "_law_cells" "_law_cells" (defArgs s__law_cells) (defBody s__law_cells) (defScope s__law_cells) .none kVD18 dcD18 pmD18 anD18 cdD18 ctD18), slD18⟩)
    (cD18 : PySem.W.codeIn K cdD18 "_law_cells" = true)
    (kD18 : PySem.W.keepIn K (.ref fD18) = true)
    (aD19 : PySem.W.nsIn K mainGlobals "_law_low" = some (some (.ref fD19)))
    (lD19 : K.lookup fD19 = some ⟨ocD19, odD19, .func (PySem.W.fnOf "_law_low" "_law_low" (defArgs s__law_low) (defBody s__law_low) (defScope s__law_low) .none kVD19 dcD19 pmD19 anD19 cdD19 ctD19), slD19⟩)
    (cD19 : PySem.W.codeIn K cdD19 "_law_low" = true)
    (kD19 : PySem.W.keepIn K (.ref fD19) = true)
    (aD20 : PySem.W.nsIn K mainGlobals "_law_turn" = some (some (.ref fD20)))
    (lD20 : K.lookup fD20 = some ⟨ocD20, odD20, .func (PySem.W.fnOf "_law_turn" "_law_turn" (defArgs s__law_turn) (defBody s__law_turn) (defScope s__law_turn) .none kVD20 dcD20 pmD20 anD20 cdD20 ctD20), slD20⟩)
    (cD20 : PySem.W.codeIn K cdD20 "_law_turn" = true)
    (kD20 : PySem.W.keepIn K (.ref fD20) = true)
    (aD21 : PySem.W.nsIn K mainGlobals "_law_pairs" = some (some (.ref fD21)))
    (lD21 : K.lookup fD21 = some ⟨ocD21, odD21, .func (PySem.W.fnOf "_law_pairs" "_law_pairs" (defArgs s__law_pairs) (defBody s__law_pairs) (defScope s__law_pairs) .none kVD21 dcD21 pmD21 anD21 cdD21 ctD21), slD21⟩)
    (cD21 : PySem.W.codeIn K cdD21 "_law_pairs" = true)
    (kD21 : PySem.W.keepIn K (.ref fD21) = true)
    (aD22 : PySem.W.nsIn K mainGlobals "_law_told" = some (some (.ref fD22)))
    (lD22 : K.lookup fD22 = some ⟨ocD22, odD22, .func (PySem.W.fnOf "_law_told" "_law_told" (defArgs s__law_told) (defBody s__law_told) (defScope s__law_told) .none kVD22 dcD22 pmD22 anD22 cdD22 ctD22), slD22⟩)
    (cD22 : PySem.W.codeIn K cdD22 "_law_told" = true)
    (kD22 : PySem.W.keepIn K (.ref fD22) = true)
    (aD23 : PySem.W.nsIn K mainGlobals "_law_is" = some (some (.ref fD23)))
    (lD23 : K.lookup fD23 = some ⟨ocD23, odD23, .func (PySem.W.fnOf "_law_is" "_law_is" (defArgs s__law_is) (defBody s__law_is) (defScope s__law_is) .none kVD23 dcD23 pmD23 anD23 cdD23 ctD23), slD23⟩)
    (cD23 : PySem.W.codeIn K cdD23 "_law_is" = true)
    (kD23 : PySem.W.keepIn K (.ref fD23) = true)
    (aD24 : PySem.W.nsIn K mainGlobals "_law_entries" = some (some (.ref fD24)))
    (lD24 : K.lookup fD24 = some ⟨ocD24, odD24, .func (PySem.W.fnOf "_law_entries" "_law_entries" (defArgs s__law_entries) (defBody s__law_entries) (defScope s__law_entries) .none kVD24 dcD24 pmD24 anD24 cdD24 ctD24), slD24⟩)
    (cD24 : PySem.W.codeIn K cdD24 "_law_entries" = true)
    (kD24 : PySem.W.keepIn K (.ref fD24) = true)
    (aD25 : PySem.W.nsIn K mainGlobals "_law_dot" = some (some (.ref fD25)))
    (lD25 : K.lookup fD25 = some ⟨ocD25, odD25, .func (PySem.W.fnOf "_law_dot" "_law_dot" (defArgs s__law_dot) (defBody s__law_dot) (defScope s__law_dot) .none kVD25 dcD25 pmD25 anD25 cdD25 ctD25), slD25⟩)
    (cD25 : PySem.W.codeIn K cdD25 "_law_dot" = true)
    (kD25 : PySem.W.keepIn K (.ref fD25) = true)
    (aD26 : PySem.W.nsIn K mainGlobals "_law_times" = some (some (.ref fD26)))
    (lD26 : K.lookup fD26 = some ⟨ocD26, odD26, .func (PySem.W.fnOf "_law_times" "_law_times" (defArgs s__law_times) (defBody s__law_times) (defScope s__law_times) .none kVD26 dcD26 pmD26 anD26 cdD26 ctD26), slD26⟩)
    (cD26 : PySem.W.codeIn K cdD26 "_law_times" = true)
    (kD26 : PySem.W.keepIn K (.ref fD26) = true)
    (aD27 : PySem.W.nsIn K mainGlobals "_law_invert" = some (some (.ref fD27)))
    (lD27 : K.lookup fD27 = some ⟨ocD27, odD27, .func (PySem.W.fnOf "_law_invert" "_law_invert" (defArgs s__law_invert) (defBody s__law_invert) (defScope s__law_invert) .none kVD27 dcD27 pmD27 anD27 cdD27 ctD27), slD27⟩)
    (cD27 : PySem.W.codeIn K cdD27 "_law_invert" = true)
    (kD27 : PySem.W.keepIn K (.ref fD27) = true)
    (aD28 : PySem.W.nsIn K mainGlobals "_law_eye" = some (some (.ref fD28)))
    (lD28 : K.lookup fD28 = some ⟨ocD28, odD28, .func (PySem.W.fnOf "_law_eye" "_law_eye" (defArgs s__law_eye) (defBody s__law_eye) (defScope s__law_eye) .none kVD28 dcD28 pmD28 anD28 cdD28 ctD28), slD28⟩)
    (cD28 : PySem.W.codeIn K cdD28 "_law_eye" = true)
    (kD28 : PySem.W.keepIn K (.ref fD28) = true)
    (aD29 : PySem.W.nsIn K mainGlobals "_law_alike" = some (some (.ref fD29)))
    (lD29 : K.lookup fD29 = some ⟨ocD29, odD29, .func (PySem.W.fnOf "_law_alike" "_law_alike" (defArgs s__law_alike) (defBody s__law_alike) (defScope s__law_alike) .none kVD29 dcD29 pmD29 anD29 cdD29 ctD29), slD29⟩)
    (cD29 : PySem.W.codeIn K cdD29 "_law_alike" = true)
    (kD29 : PySem.W.keepIn K (.ref fD29) = true)
    (aD30 : PySem.W.nsIn K mainGlobals "_law_square" = some (some (.ref fD30)))
    (lD30 : K.lookup fD30 = some ⟨ocD30, odD30, .func (PySem.W.fnOf "_law_square" "_law_square" (defArgs s__law_square) (defBody s__law_square) (defScope s__law_square) .none kVD30 dcD30 pmD30 anD30 cdD30 ctD30), slD30⟩)
    (cD30 : PySem.W.codeIn K cdD30 "_law_square" = true)
    (kD30 : PySem.W.keepIn K (.ref fD30) = true)
    (aD31 : PySem.W.nsIn K mainGlobals "_law_inverted" = some (some (.ref fD31)))
    (lD31 : K.lookup fD31 = some ⟨ocD31, odD31, .func (PySem.W.fnOf "_law_inverted" "_law_inverted" (defArgs s__law_inverted) (defBody s__law_inverted) (defScope s__law_inverted) .none kVD31 dcD31 pmD31 anD31 cdD31 ctD31), slD31⟩)
    (cD31 : PySem.W.codeIn K cdD31 "_law_inverted" = true)
    (kD31 : PySem.W.keepIn K (.ref fD31) = true)
    (aD32 : PySem.W.nsIn K mainGlobals "_law_traced" = some (some (.ref fD32)))
    (lD32 : K.lookup fD32 = some ⟨ocD32, odD32, .func (PySem.W.fnOf "_law_traced" "_law_traced" (defArgs s__law_traced) (defBody s__law_traced) (defScope s__law_traced) .none kVD32 dcD32 pmD32 anD32 cdD32 ctD32), slD32⟩)
    (cD32 : PySem.W.codeIn K cdD32 "_law_traced" = true)
    (kD32 : PySem.W.keepIn K (.ref fD32) = true)
    (aD33 : PySem.W.nsIn K mainGlobals "_law_oblong" = some (some (.ref fD33)))
    (lD33 : K.lookup fD33 = some ⟨ocD33, odD33, .func (PySem.W.fnOf "_law_oblong" "_law_oblong" (defArgs s__law_oblong) (defBody s__law_oblong) (defScope s__law_oblong) .none kVD33 dcD33 pmD33 anD33 cdD33 ctD33), slD33⟩)
    (cD33 : PySem.W.codeIn K cdD33 "_law_oblong" = true)
    (kD33 : PySem.W.keepIn K (.ref fD33) = true)
    (aD34 : PySem.W.nsIn K mainGlobals "_law_right" = some (some (.ref fD34)))
    (lD34 : K.lookup fD34 = some ⟨ocD34, odD34, .func (PySem.W.fnOf "_law_right" "_law_right" (defArgs s__law_right) (defBody s__law_right) (defScope s__law_right) .none kVD34 dcD34 pmD34 anD34 cdD34 ctD34), slD34⟩)
    (cD34 : PySem.W.codeIn K cdD34 "_law_right" = true)
    (kD34 : PySem.W.keepIn K (.ref fD34) = true)
    (aD35 : PySem.W.nsIn K mainGlobals "law" = some (some (.ref fD35)))
    (lD35 : K.lookup fD35 = some ⟨ocD35, odD35, .func (PySem.W.fnOf "law" "law" (defArgs s_law) (defBody s_law) (defScope s_law) .none kVD35 dcD35 pmD35 anD35 cdD35 ctD35), slD35⟩)
    (cD35 : PySem.W.codeIn K cdD35 "law" = true)
    (kD35 : PySem.W.keepIn K (.ref fD35) = true)
    (aM0 : PySem.W.findIn K (.ref C) "__add__" = some (some (.ref fM0)))
    (iM0 : PySem.W.isFn K (.ref fM0) = true)
    (lM0 : K.lookup fM0 = some ⟨ocM0, odM0, .func (PySem.W.fnOf "__add__" "Ratio.__add__" (defArgs s_Ratio___add__) (defBody s_Ratio___add__) (defScope s_Ratio___add__) .none kVM0 dcM0 pmM0 anM0 cdM0 ctM0), slM0⟩)
    (cM0 : PySem.W.codeIn K cdM0 "Ratio.__add__" = true)
    (kM0 : PySem.W.keepIn K (.ref fM0) = true)
    (aM1 : PySem.W.findIn K (.ref C) "__mul__" = some (some (.ref fM1)))
    (iM1 : PySem.W.isFn K (.ref fM1) = true)
    (lM1 : K.lookup fM1 = some ⟨ocM1, odM1, .func (PySem.W.fnOf "__mul__" "Ratio.__mul__" (defArgs s_Ratio___mul__) (defBody s_Ratio___mul__) (defScope s_Ratio___mul__) .none kVM1 dcM1 pmM1 anM1 cdM1 ctM1), slM1⟩)
    (cM1 : PySem.W.codeIn K cdM1 "Ratio.__mul__" = true)
    (kM1 : PySem.W.keepIn K (.ref fM1) = true)
    (aM2 : PySem.W.findIn K (.ref C) "__eq__" = some (some (.ref fM2)))
    (iM2 : PySem.W.isFn K (.ref fM2) = true)
    (lM2 : K.lookup fM2 = some ⟨ocM2, odM2, .func (PySem.W.fnOf "__eq__" "Ratio.__eq__" (defArgs s_Ratio___eq__) (defBody s_Ratio___eq__) (defScope s_Ratio___eq__) .none kVM2 dcM2 pmM2 anM2 cdM2 ctM2), slM2⟩)
    (cM2 : PySem.W.codeIn K cdM2 "Ratio.__eq__" = true)
    (kM2 : PySem.W.keepIn K (.ref fM2) = true)
    (aM3 : PySem.W.findIn K (.ref CM) "__init__" = some (some (.ref fM3)))
    (iM3 : PySem.W.isFn K (.ref fM3) = true)
    (lM3 : K.lookup fM3 = some ⟨ocM3, odM3, .func (PySem.W.fnOf "__init__" "Matrix.__init__" (defArgs s_Matrix___init__) (defBody s_Matrix___init__) (defScope s_Matrix___init__) .none kVM3 dcM3 pmM3 anM3 cdM3 ctM3), slM3⟩)
    (cM3 : PySem.W.codeIn K cdM3 "Matrix.__init__" = true)
    (kM3 : PySem.W.keepIn K (.ref fM3) = true)
    (aM4 : PySem.W.findIn K (.ref CM) "_check_square" = some (some (.ref fM4)))
    (iM4 : PySem.W.isFn K (.ref fM4) = true)
    (lM4 : K.lookup fM4 = some ⟨ocM4, odM4, .func (PySem.W.fnOf "_check_square" "Matrix._check_square" (defArgs s_Matrix__check_square) (defBody s_Matrix__check_square) (defScope s_Matrix__check_square) .none kVM4 dcM4 pmM4 anM4 cdM4 ctM4), slM4⟩)
    (cM4 : PySem.W.codeIn K cdM4 "Matrix._check_square" = true)
    (kM4 : PySem.W.keepIn K (.ref fM4) = true)
    (aM5 : PySem.W.findIn K (.ref CM) "inverse" = some (some (.ref fM5)))
    (iM5 : PySem.W.isFn K (.ref fM5) = true)
    (lM5 : K.lookup fM5 = some ⟨ocM5, odM5, .func (PySem.W.fnOf "inverse" "Matrix.inverse" (defArgs s_Matrix_inverse) (defBody s_Matrix_inverse) (defScope s_Matrix_inverse) .none kVM5 dcM5 pmM5 anM5 cdM5 ctM5), slM5⟩)
    (cM5 : PySem.W.codeIn K cdM5 "Matrix.inverse" = true)
    (kM5 : PySem.W.keepIn K (.ref fM5) = true)
    (aM6 : PySem.W.findIn K (.ref CM) "trace" = some (some (.ref fM6)))
    (iM6 : PySem.W.isFn K (.ref fM6) = true)
    (lM6 : K.lookup fM6 = some ⟨ocM6, odM6, .func (PySem.W.fnOf "trace" "Matrix.trace" (defArgs s_Matrix_trace) (defBody s_Matrix_trace) (defScope s_Matrix_trace) .none kVM6 dcM6 pmM6 anM6 cdM6 ctM6), slM6⟩)
    (cM6 : PySem.W.codeIn K cdM6 "Matrix.trace" = true)
    (kM6 : PySem.W.keepIn K (.ref fM6) = true)
    (aM7 : PySem.W.findIn K (.ref CM) "__mul__" = some (some (.ref fM7)))
    (iM7 : PySem.W.isFn K (.ref fM7) = true)
    (lM7 : K.lookup fM7 = some ⟨ocM7, odM7, .func (PySem.W.fnOf "__mul__" "Matrix.__mul__" (defArgs s_Matrix___mul__) (defBody s_Matrix___mul__) (defScope s_Matrix___mul__) .none kVM7 dcM7 pmM7 anM7 cdM7 ctM7), slM7⟩)
    (cM7 : PySem.W.codeIn K cdM7 "Matrix.__mul__" = true)
    (kM7 : PySem.W.keepIn K (.ref fM7) = true)
    (aM8 : PySem.W.findIn K (.ref CM) "__eq__" = some (some (.ref fM8)))
    (iM8 : PySem.W.isFn K (.ref fM8) = true)
    (lM8 : K.lookup fM8 = some ⟨ocM8, odM8, .func (PySem.W.fnOf "__eq__" "Matrix.__eq__" (defArgs s_Matrix___eq__) (defBody s_Matrix___eq__) (defScope s_Matrix___eq__) .none kVM8 dcM8 pmM8 anM8 cdM8 ctM8), slM8⟩)
    (cM8 : PySem.W.codeIn K cdM8 "Matrix.__eq__" = true)
    (kM8 : PySem.W.keepIn K (.ref fM8) = true)
    (aP0 : PySem.W.findIn K (.ref C) "top" = some (some (.ref pP0)))
    (gP0 : PySem.W.specialIn K (.ref pP0) "__get__" = some (some (.builtin "property.__get__")))
    (tP0 : PySem.W.takesIn K (.ref pP0) = some true)
    (rP0 : PySem.W.recIn K pP0 "property" = some (.ref fP0 :: reP0))
    (lP0 : K.lookup fP0 = some ⟨ocP0, odP0, .func (PySem.W.fnOf "top" "Ratio.top" (defArgs s_Ratio_top) (defBody s_Ratio_top) (defScope s_Ratio_top) .none kVP0 dcP0 pmP0 anP0 cdP0 ctP0), slP0⟩)
    (cP0 : PySem.W.codeIn K cdP0 "Ratio.top" = true)
    (kP0 : PySem.W.keepIn K (.ref fP0) = true)
    (aP1 : PySem.W.findIn K (.ref C) "bottom" = some (some (.ref pP1)))
    (gP1 : PySem.W.specialIn K (.ref pP1) "__get__" = some (some (.builtin "property.__get__")))
    (tP1 : PySem.W.takesIn K (.ref pP1) = some true)
    (rP1 : PySem.W.recIn K pP1 "property" = some (.ref fP1 :: reP1))
    (lP1 : K.lookup fP1 = some ⟨ocP1, odP1, .func (PySem.W.fnOf "bottom" "Ratio.bottom" (defArgs s_Ratio_bottom) (defBody s_Ratio_bottom) (defScope s_Ratio_bottom) .none kVP1 dcP1 pmP1 anP1 cdP1 ctP1), slP1⟩)
    (cP1 : PySem.W.codeIn K cdP1 "Ratio.bottom" = true)
    (kP1 : PySem.W.keepIn K (.ref fP1) = true)
    (aP2 : PySem.W.findIn K (.ref CM) "entries" = some (some (.ref pP2)))
    (gP2 : PySem.W.specialIn K (.ref pP2) "__get__" = some (some (.builtin "property.__get__")))
    (tP2 : PySem.W.takesIn K (.ref pP2) = some true)
    (rP2 : PySem.W.recIn K pP2 "property" = some (.ref fP2 :: reP2))
    (lP2 : K.lookup fP2 = some ⟨ocP2, odP2, .func (PySem.W.fnOf "entries" "Matrix.entries" (defArgs s_Matrix_entries) (defBody s_Matrix_entries) (defScope s_Matrix_entries) .none kVP2 dcP2 pmP2 anP2 cdP2 ctP2), slP2⟩)
    (cP2 : PySem.W.codeIn K cdP2 "Matrix.entries" = true)
    (kP2 : PySem.W.keepIn K (.ref fP2) = true)
    (aP3 : PySem.W.findIn K (.ref CM) "rows" = some (some (.ref pP3)))
    (gP3 : PySem.W.specialIn K (.ref pP3) "__get__" = some (some (.builtin "property.__get__")))
    (tP3 : PySem.W.takesIn K (.ref pP3) = some true)
    (rP3 : PySem.W.recIn K pP3 "property" = some (.ref fP3 :: reP3))
    (lP3 : K.lookup fP3 = some ⟨ocP3, odP3, .func (PySem.W.fnOf "rows" "Matrix.rows" (defArgs s_Matrix_rows) (defBody s_Matrix_rows) (defScope s_Matrix_rows) .none kVP3 dcP3 pmP3 anP3 cdP3 ctP3), slP3⟩)
    (cP3 : PySem.W.codeIn K cdP3 "Matrix.rows" = true)
    (kP3 : PySem.W.keepIn K (.ref fP3) = true)
    (aP4 : PySem.W.findIn K (.ref CM) "columns" = some (some (.ref pP4)))
    (gP4 : PySem.W.specialIn K (.ref pP4) "__get__" = some (some (.builtin "property.__get__")))
    (tP4 : PySem.W.takesIn K (.ref pP4) = some true)
    (rP4 : PySem.W.recIn K pP4 "property" = some (.ref fP4 :: reP4))
    (lP4 : K.lookup fP4 = some ⟨ocP4, odP4, .func (PySem.W.fnOf "columns" "Matrix.columns" (defArgs s_Matrix_columns) (defBody s_Matrix_columns) (defScope s_Matrix_columns) .none kVP4 dcP4 pmP4 anP4 cdP4 ctP4), slP4⟩)
    (cP4 : PySem.W.codeIn K cdP4 "Matrix.columns" = true)
    (kP4 : PySem.W.keepIn K (.ref fP4) = true)
    (aP5 : PySem.W.findIn K (.ref CM) "transposed" = some (some (.ref pP5)))
    (gP5 : PySem.W.specialIn K (.ref pP5) "__get__" = some (some (.builtin "property.__get__")))
    (tP5 : PySem.W.takesIn K (.ref pP5) = some true)
    (rP5 : PySem.W.recIn K pP5 "property" = some (.ref fP5 :: reP5))
    (lP5 : K.lookup fP5 = some ⟨ocP5, odP5, .func (PySem.W.fnOf "transposed" "Matrix.transposed" (defArgs s_Matrix_transposed) (defBody s_Matrix_transposed) (defScope s_Matrix_transposed) .none kVP5 dcP5 pmP5 anP5 cdP5 ctP5), slP5⟩)
    (cP5 : PySem.W.codeIn K cdP5 "Matrix.transposed" = true)
    (kP5 : PySem.W.keepIn K (.ref fP5) = true)
    (aI : PySem.W.findIn K (.ref C) "__init__" = some (some (.ref fI)))
    (iI : PySem.W.isFn K (.ref fI) = true)
    (lI : K.lookup fI = some ⟨ocI, odI, .func (PySem.W.fnOf "__init__" "Ratio.__init__" (defArgs s_Ratio___init__) (defBody s_Ratio___init__) (defScope s_Ratio___init__) (.ref tI) kVI dcI pmI anI cdI ctI), slI⟩)
    (cI : PySem.W.codeIn K cdI "Ratio.__init__" = true)
    (kI : PySem.W.keepIn K (.ref fI) = true)
    (lT : K.lookup tI = some oT)
    (dT : oT.data = .seq #[.int 1 kT] nT)
    (z_int : PySem.W.nsIn K mainGlobals "int" = some none)
    (z_len : PySem.W.nsIn K mainGlobals "len" = some none)
    (z_abs : PySem.W.nsIn K mainGlobals "abs" = some none)
    (z_range : PySem.W.nsIn K mainGlobals "range" = some none)
    (z_max : PySem.W.nsIn K mainGlobals "max" = some none)
    (z_min : PySem.W.nsIn K mainGlobals "min" = some none)
    (z_all : PySem.W.nsIn K mainGlobals "all" = some none)
    (z_repr : PySem.W.nsIn K mainGlobals "repr" = some none)
    (z_isinstance : PySem.W.nsIn K mainGlobals "isinstance" = some none)
    (z_bool : PySem.W.nsIn K mainGlobals "bool" = some none)
    (z_str : PySem.W.nsIn K mainGlobals "str" = some none)
    (z_any : PySem.W.nsIn K mainGlobals "any" = some none)
    (z_tuple : PySem.W.nsIn K mainGlobals "tuple" = some none)
    (z_list : PySem.W.nsIn K mainGlobals "list" = some none)
    (z_sum : PySem.W.nsIn K mainGlobals "sum" = some none)
    (z_zip : PySem.W.nsIn K mainGlobals "zip" = some none)
    (z_enumerate : PySem.W.nsIn K mainGlobals "enumerate" = some none)
    (aR : PySem.W.nsIn K mainGlobals "Ratio" = some (some (.ref C)))
    (aCM : PySem.W.nsIn K mainGlobals "Matrix" = some (some (.ref CM)))
    (aG : PySem.W.nsIn K mainGlobals "gcd" = some (some (.builtin "math.gcd")))
    (aL : PySem.W.nsIn K mainGlobals "lcm" = some (some (.builtin "math.lcm")))
    (pgC : PySem.W.plainGet K C Str.empty = true)
    (hdC : PySem.W.hasDictIn K C = true)
    (poC : PySem.W.plainOver K C = true)
    (saC : PySem.W.findIn K (.ref C) "__setattr__" = some (some (.builtin "object.__setattr__")))
    (mkC : PySem.W.makesIn K C = true)
    (kcC : PySem.W.keepIn K (.ref C) = true)
    (caC : PySem.W.findIn K (.ref C) "__class__" = some (some (.builtin "object.__class__")))
    (cmC : PySem.W.mroIn K C (.type "object") = some true)
    (sIC : PySem.W.subIn K (.ref C) (.type "int") = some false)
    (sBC : PySem.W.subIn K (.ref C) (.type "bool") = some false)
    (tyC : PySem.W.typeIn K (.ref C) = some (.type "type"))
    (isC : PySem.W.isClsIn K C = true)
    (sfC : PySem.W.selfFirst K C = true)
    (sbC : PySem.W.subIn K (.type "int") (.ref C) = some false)
    (soC : PySem.W.subIn K (.ref C) (.type "object") = some true)
    (neC : PySem.W.findIn K (.ref C) "__ne__" = some (some (.builtin "object.__ne__")))
    (pgM : PySem.W.plainGet K CM Str.empty = true)
    (hdM : PySem.W.hasDictIn K CM = true)
    (poM : PySem.W.plainOver K CM = true)
    (saM : PySem.W.findIn K (.ref CM) "__setattr__" = some (some (.builtin "object.__setattr__")))
    (mkM : PySem.W.makesIn K CM = true)
    (kcM : PySem.W.keepIn K (.ref CM) = true)
    (caM : PySem.W.findIn K (.ref CM) "__class__" = some (some (.builtin "object.__class__")))
    (cmM : PySem.W.mroIn K CM (.type "object") = some true)
    (sIM : PySem.W.subIn K (.ref CM) (.type "int") = some false)
    (sBM : PySem.W.subIn K (.ref CM) (.type "bool") = some false)
    (tyM : PySem.W.typeIn K (.ref CM) = some (.type "type"))
    (isM : PySem.W.isClsIn K CM = true)
    (sfM : PySem.W.selfFirst K CM = true)
    (sbM : PySem.W.subIn K (.type "int") (.ref CM) = some false)
    (soM : PySem.W.subIn K (.ref CM) (.type "object") = some true)
    (neM : PySem.W.findIn K (.ref CM) "__ne__" = some (some (.builtin "object.__ne__")))
    (nT' : PySem.W.findIn K (.ref C) "_top" = some none)
    (nB' : PySem.W.findIn K (.ref C) "_bottom" = some none)
    (nE' : PySem.W.findIn K (.ref CM) "_entries" = some none)
    (nTop : PySem.W.findIn K (.ref CM) "top" = some none)
    (cn : PySem.W.specialIn K (.builtin "object.__class__") "__get__" = some (some (.builtin "getset_descriptor.__get__")))
    (ct' : PySem.W.takesIn K (.builtin "object.__class__") = some true)
    (sRM : PySem.W.subIn K (.ref C) (.ref CM) = some false)
    (sMR : PySem.W.subIn K (.ref CM) (.ref C) = some false)
    (r_add : PySem.W.findIn K (.ref C) "__radd__" = some none)
    (x_add : PySem.W.findIn K (.type "int") "__add__" = some v_add)
    (y_add : PySem.W.findIn K (.type "int") "__radd__" = some u_add)
    (r_mul : PySem.W.findIn K (.ref C) "__rmul__" = some none)
    (rM_mul : PySem.W.findIn K (.ref CM) "__rmul__" = some none)
    (x_mul : PySem.W.findIn K (.type "int") "__mul__" = some v_mul)
    (y_mul : PySem.W.findIn K (.type "int") "__rmul__" = some u_mul)
    (aX : PySem.W.nsIn K mainGlobals "Mismatch" = some (some (.ref CX)))
    (xei : PySem.W.excInitIn K CX [.type "LookupError", .type "Exception", .type "BaseException", .type "object"] "LookupError.__new__" = true)
    (xeo : PySem.W.excOver K CX [.type "LookupError", .type "Exception", .type "BaseException", .type "object"] = true)
    (xsa : PySem.W.findIn K (.ref CX) "__setattr__" = some (some (.builtin "object.__setattr__")))
    (xga : PySem.W.findIn K (.ref CX) "__getattribute__" = some (some (.builtin "BaseException.__getattribute__")))
    (xgg : PySem.W.findIn K (.ref CX) "__getattr__" = some none)
    (xca : PySem.W.findIn K (.ref CX) "__class__" = some (some (.builtin "object.__class__")))
    (xmo : PySem.W.mroIn K CX (.type "object") = some true)
    (xn1 : PySem.W.findIn K (.ref CX) "first" = some none)
    (xn2 : PySem.W.findIn K (.ref CX) "second" = some none)
    (xin : PySem.W.findIn K (.ref CX) "__init__" = some (some (.ref fX)))
    (xt : PySem.W.typeIn K (.ref fX) = some (.type "function"))
    (xk : PySem.W.keepIn K (.ref CX) = true)
    (xeC : PySem.W.subIn K (.ref CX) (.type "BaseException") = some true)
    (xtC : PySem.W.typeIn K (.ref CX) = some (.type "type"))
    (xhC : PySem.W.hasDictIn K CX = true)
    (xsC : PySem.W.subIn K (.ref CX) (.ref CX) = some true)
    (lX : K.lookup fX = some ⟨ocX, odX, .func (PySem.W.fnOf "__init__" "Mismatch.__init__" (defArgs s_Mismatch___init__) (defBody s_Mismatch___init__) (defScope s_Mismatch___init__) .none kVX dcX pmX anX cdX ctX), slX⟩)
    (cX : PySem.W.codeIn K cdX "Mismatch.__init__" = true)
    (kX : PySem.W.keepIn K (.ref fX) = true)
    (aS : PySem.W.nsIn K mainGlobals "Singular" = some (some (.ref CS)))
    (sgi : PySem.W.excIn K CS [.type "ArithmeticError", .type "Exception", .type "BaseException", .type "object"] "ArithmeticError.__new__" = true)
    (sgk : PySem.W.keepIn K (.ref CS) = true)
    (sge : PySem.W.subIn K (.ref CS) (.type "BaseException") = some true)
    (sgt : PySem.W.typeIn K (.ref CS) = some (.type "type"))
    (sgh : PySem.W.hasDictIn K CS = true)
    (sgs : PySem.W.subIn K (.ref CS) (.ref CS) = some true)
    (sgx : PySem.W.subIn K (.ref CX) (.ref CS) = some false)
    (rerd : PySem.W.readsIn K CM (.type "type") = true)
    (rega : PySem.W.specialIn K (.ref CM) "__getattribute__" = some (some (.builtin "type.__getattribute__")))
    (reat : PySem.W.findCls K (.ref CM) (.type "type") "eye" = some (.get (.builtin "classmethod.__get__") (.ref pRE) .none (.ref CM)))
    (rerc : PySem.W.recIn K pRE "classmethod" = some (.ref fRE :: reRE))
    (refi : PySem.W.fnIn K fRE = true)
    (lRE : K.lookup fRE = some ⟨ocRE, odRE, .func (PySem.W.fnOf "eye" "Matrix.eye" (defArgs s_Matrix_eye) (defBody s_Matrix_eye) (defScope s_Matrix_eye) .none kVRE dcRE pmRE anRE cdRE ctRE), slRE⟩)
    (cRE : PySem.W.codeIn K cdRE "Matrix.eye" = true)
    (kRE : PySem.W.keepIn K (.ref fRE) = true)
    : ∃ fd : FuncData, (∀ (s : Shared) (v : Value), BindsTo s fd ⟨[v], []⟩ [("_law_script", v)]) ∧ ∀ base : Heap, K.In base → base.Ns mainGlobals mg → FnG l.prog w K mg base CX0 22 fa fd ["_law_script"] (spLaw K) := by
  have e := hfa.symm.trans (PySem.W.mg_of X G aD35)
  cases e
  have FD0 := fun_mk (st := s_is_whole) lD0 cD0 kD0
  have bD0 := FD0.binds (ps := ["value"]) fun _ _ _ _ _ _ us hl => match us, hl with | [_], _ => rfl
  have gD0 := PySem.W.mg_of X G aD0
  have FD1 := fun_mk (st := s_is_number) lD1 cD1 kD1
  have bD1 := FD1.binds (ps := ["value"]) fun _ _ _ _ _ _ us hl => match us, hl with | [_], _ => rfl
  have gD1 := PySem.W.mg_of X G aD1
  have FD2 := fun_mk (st := s_to_ratio) lD2 cD2 kD2
  have bD2 := FD2.binds (ps := ["number"]) fun _ _ _ _ _ _ us hl => match us, hl with | [_], _ => rfl
  have gD2 := PySem.W.mg_of X G aD2
  have FD3 := fun_mk (st := s_is_size) lD3 cD3 kD3
  have bD3 := FD3.binds (ps := ["given"]) fun _ _ _ _ _ _ us hl => match us, hl with | [_], _ => rfl
  have gD3 := PySem.W.mg_of X G aD3
  have FD4 := fun_mk (st := s_is_table) lD4 cD4 kD4
  have bD4 := FD4.binds (ps := ["given"]) fun _ _ _ _ _ _ us hl => match us, hl with | [_], _ => rfl
  have gD4 := PySem.W.mg_of X G aD4
  have FD5 := fun_mk (st := s_over_one_bottom) lD5 cD5 kD5
  have bD5 := FD5.binds (ps := ["numbers"]) fun _ _ _ _ _ _ us hl => match us, hl with | [_], _ => rfl
  have gD5 := PySem.W.mg_of X G aD5
  have FD6 := fun_mk (st := s_row_times) lD6 cD6 kD6
  have bD6 := FD6.binds (ps := ["row", "columns"]) fun _ _ _ _ _ _ us hl => match us, hl with | [_, _], _ => rfl
  have gD6 := PySem.W.mg_of X G aD6
  have FD7 := fun_mk (st := s_multiplied) lD7 cD7 kD7
  have bD7 := FD7.binds (ps := ["entries", "others"]) fun _ _ _ _ _ _ us hl => match us, hl with | [_, _], _ => rfl
  have gD7 := PySem.W.mg_of X G aD7
  have FD8 := fun_mk (st := s_primitive) lD8 cD8 kD8
  have bD8 := FD8.binds (ps := ["numbers"]) fun _ _ _ _ _ _ us hl => match us, hl with | [_], _ => rfl
  have gD8 := PySem.W.mg_of X G aD8
  have FD9 := fun_mk (st := s_cleared) lD9 cD9 kD9
  have bD9 := FD9.binds (ps := ["row", "pivot_row", "column"]) fun _ _ _ _ _ _ us hl => match us, hl with | [_, _, _], _ => rfl
  have gD9 := PySem.W.mg_of X G aD9
  have FD10 := fun_mk (st := s_with_pivot) lD10 cD10 kD10
  have bD10 := FD10.binds (ps := ["rows", "column"]) fun _ _ _ _ _ _ us hl => match us, hl with | [_, _], _ => rfl
  have gD10 := PySem.W.mg_of X G aD10
  have FD11 := fun_mk (st := s_beside_unit) lD11 cD11 kD11
  have bD11 := FD11.binds (ps := ["row", "place"]) fun _ _ _ _ _ _ us hl => match us, hl with | [_, _], _ => rfl
  have gD11 := PySem.W.mg_of X G aD11
  have FD12 := fun_mk (st := s_inverted) lD12 cD12 kD12
  have bD12 := FD12.binds (ps := ["entries"]) fun _ _ _ _ _ _ us hl => match us, hl with | [_], _ => rfl
  have gD12 := PySem.W.mg_of X G aD12
  have FD13 := fun_mk (st := s__law_purse) lD13 cD13 kD13
  have bD13 := FD13.binds (ps := ["_law_script"]) fun _ _ _ _ _ _ us hl => match us, hl with | [_], _ => rfl
  have gD13 := PySem.W.mg_of X G aD13
  have FD14 := fun_mk (st := s__law_draw) lD14 cD14 kD14
  have bD14 := FD14.binds (ps := ["_law_q", "_law_many"]) fun _ _ _ _ _ _ us hl => match us, hl with | [_, _], _ => rfl
  have gD14 := PySem.W.mg_of X G aD14
  have FD15 := fun_mk (st := s__law_common) lD15 cD15 kD15
  have bD15 := FD15.binds (ps := ["_law_one", "_law_two"]) fun _ _ _ _ _ _ us hl => match us, hl with | [_, _], _ => rfl
  have gD15 := PySem.W.mg_of X G aD15
  have FD16 := fun_mk (st := s__law_lowest) lD16 cD16 kD16
  have bD16 := FD16.binds (ps := ["_law_high", "_law_under"]) fun _ _ _ _ _ _ us hl => match us, hl with | [_, _], _ => rfl
  have gD16 := PySem.W.mg_of X G aD16
  have FD17 := fun_mk (st := s__law_from) lD17 cD17 kD17
  have bD17 := FD17.binds (ps := ["_law_script", "_law_k"]) fun _ _ _ _ _ _ us hl => match us, hl with | [_, _], _ => rfl
  have gD17 := PySem.W.mg_of X G aD17
  have FD18 := fun_mk (st := s__law_cells) lD18 cD18 kD18
  have bD18 := FD18.binds (ps := ["_law_q", "_law_high", "_law_broad"]) fun _ _ _ _ _ _ us hl => match us, hl with | [_, _, _], _ => rfl
  have gD18 := PySem.W.mg_of X G aD18
  have FD19 := fun_mk (st := s__law_low) lD19 cD19 kD19
  have bD19 := FD19.binds (ps := ["_law_pair"]) fun _ _ _ _ _ _ us hl => match us, hl with | [_], _ => rfl
  have gD19 := PySem.W.mg_of X G aD19
  have FD20 := fun_mk (st := s__law_turn) lD20 cD20 kD20
  have bD20 := FD20.binds (ps := ["_law_one"]) fun _ _ _ _ _ _ us hl => match us, hl with | [_], _ => rfl
  have gD20 := PySem.W.mg_of X G aD20
  have FD21 := fun_mk (st := s__law_pairs) lD21 cD21 kD21
  have bD21 := FD21.binds (ps := ["_law_pair"]) fun _ _ _ _ _ _ us hl => match us, hl with | [_], _ => rfl
  have gD21 := PySem.W.mg_of X G aD21
  have FD22 := fun_mk (st := s__law_told) lD22 cD22 kD22
  have bD22 := FD22.binds (ps := ["_law_matrix"]) fun _ _ _ _ _ _ us hl => match us, hl with | [_], _ => rfl
  have gD22 := PySem.W.mg_of X G aD22
  have FD23 := fun_mk (st := s__law_is) lD23 cD23 kD23
  have bD23 := FD23.binds (ps := ["_law_matrix", "_law_pair"]) fun _ _ _ _ _ _ us hl => match us, hl with | [_, _], _ => rfl
  have gD23 := PySem.W.mg_of X G aD23
  have FD24 := fun_mk (st := s__law_entries) lD24 cD24 kD24
  have bD24 := FD24.binds (ps := ["_law_pair"]) fun _ _ _ _ _ _ us hl => match us, hl with | [_], _ => rfl
  have gD24 := PySem.W.mg_of X G aD24
  have FD25 := fun_mk (st := s__law_dot) lD25 cD25 kD25
  have bD25 := FD25.binds (ps := ["_law_one", "_law_two"]) fun _ _ _ _ _ _ us hl => match us, hl with | [_, _], _ => rfl
  have gD25 := PySem.W.mg_of X G aD25
  have FD26 := fun_mk (st := s__law_times) lD26 cD26 kD26
  have bD26 := FD26.binds (ps := ["_law_one", "_law_two"]) fun _ _ _ _ _ _ us hl => match us, hl with | [_, _], _ => rfl
  have gD26 := PySem.W.mg_of X G aD26
  have FD27 := fun_mk (st := s__law_invert) lD27 cD27 kD27
  have bD27 := FD27.binds (ps := ["_law_one"]) fun _ _ _ _ _ _ us hl => match us, hl with | [_], _ => rfl
  have gD27 := PySem.W.mg_of X G aD27
  have FD28 := fun_mk (st := s__law_eye) lD28 cD28 kD28
  have bD28 := FD28.binds (ps := ["_law_many"]) fun _ _ _ _ _ _ us hl => match us, hl with | [_], _ => rfl
  have gD28 := PySem.W.mg_of X G aD28
  have FD29 := fun_mk (st := s__law_alike) lD29 cD29 kD29
  have bD29 := FD29.binds (ps := ["_law_one", "_law_two"]) fun _ _ _ _ _ _ us hl => match us, hl with | [_, _], _ => rfl
  have gD29 := PySem.W.mg_of X G aD29
  have FD30 := fun_mk (st := s__law_square) lD30 cD30 kD30
  have bD30 := FD30.binds (ps := ["_law_q"]) fun _ _ _ _ _ _ us hl => match us, hl with | [_], _ => rfl
  have gD30 := PySem.W.mg_of X G aD30
  have FD31 := fun_mk (st := s__law_inverted) lD31 cD31 kD31
  have bD31 := FD31.binds (ps := ["_law_one"]) fun _ _ _ _ _ _ us hl => match us, hl with | [_], _ => rfl
  have gD31 := PySem.W.mg_of X G aD31
  have FD32 := fun_mk (st := s__law_traced) lD32 cD32 kD32
  have bD32 := FD32.binds (ps := ["_law_one"]) fun _ _ _ _ _ _ us hl => match us, hl with | [_], _ => rfl
  have gD32 := PySem.W.mg_of X G aD32
  have FD33 := fun_mk (st := s__law_oblong) lD33 cD33 kD33
  have bD33 := FD33.binds (ps := ["_law_q"]) fun _ _ _ _ _ _ us hl => match us, hl with | [_], _ => rfl
  have gD33 := PySem.W.mg_of X G aD33
  have FD34 := fun_mk (st := s__law_right) lD34 cD34 kD34
  have bD34 := FD34.binds (ps := ["_law_q"]) fun _ _ _ _ _ _ us hl => match us, hl with | [_], _ => rfl
  have gD34 := PySem.W.mg_of X G aD34
  have FD35 := fun_mk (st := s_law) lD35 cD35 kD35
  have gD35 := PySem.W.mg_of X G aD35
  have FM0 := fun_mk (st := s_Ratio___add__) lM0 cM0 kM0
  have bM0 := FM0.binds (ps := ["self", "other"]) fun _ _ _ _ _ _ us hl => match us, hl with | [_, _], _ => rfl
  have FM1 := fun_mk (st := s_Ratio___mul__) lM1 cM1 kM1
  have bM1 := FM1.binds (ps := ["self", "other"]) fun _ _ _ _ _ _ us hl => match us, hl with | [_, _], _ => rfl
  have FM2 := fun_mk (st := s_Ratio___eq__) lM2 cM2 kM2
  have bM2 := FM2.binds (ps := ["self", "other"]) fun _ _ _ _ _ _ us hl => match us, hl with | [_, _], _ => rfl
  have FM3 := fun_mk (st := s_Matrix___init__) lM3 cM3 kM3
  have bM3 := FM3.binds (ps := ["self", "entries"]) fun _ _ _ _ _ _ us hl => match us, hl with | [_, _], _ => rfl
  have FM4 := fun_mk (st := s_Matrix__check_square) lM4 cM4 kM4
  have bM4 := FM4.binds (ps := ["self"]) fun _ _ _ _ _ _ us hl => match us, hl with | [_], _ => rfl
  have FM5 := fun_mk (st := s_Matrix_inverse) lM5 cM5 kM5
  have bM5 := FM5.binds (ps := ["self"]) fun _ _ _ _ _ _ us hl => match us, hl with | [_], _ => rfl
  have FM6 := fun_mk (st := s_Matrix_trace) lM6 cM6 kM6
  have bM6 := FM6.binds (ps := ["self"]) fun _ _ _ _ _ _ us hl => match us, hl with | [_], _ => rfl
  have FM7 := fun_mk (st := s_Matrix___mul__) lM7 cM7 kM7
  have bM7 := FM7.binds (ps := ["self", "other"]) fun _ _ _ _ _ _ us hl => match us, hl with | [_, _], _ => rfl
  have FM8 := fun_mk (st := s_Matrix___eq__) lM8 cM8 kM8
  have bM8 := FM8.binds (ps := ["self", "other"]) fun _ _ _ _ _ _ us hl => match us, hl with | [_, _], _ => rfl
  have FP0 := fun_mk (st := s_Ratio_top) lP0 cP0 kP0
  have bP0 := FP0.binds (ps := ["self"]) fun _ _ _ _ _ _ us hl => match us, hl with | [_], _ => rfl
  have pP0' : PropOf K C "top" pP0 fP0 := ⟨aP0, gP0, tP0, _, rP0⟩
  have FP1 := fun_mk (st := s_Ratio_bottom) lP1 cP1 kP1
  have bP1 := FP1.binds (ps := ["self"]) fun _ _ _ _ _ _ us hl => match us, hl with | [_], _ => rfl
  have pP1' : PropOf K C "bottom" pP1 fP1 := ⟨aP1, gP1, tP1, _, rP1⟩
  have FP2 := fun_mk (st := s_Matrix_entries) lP2 cP2 kP2
  have bP2 := FP2.binds (ps := ["self"]) fun _ _ _ _ _ _ us hl => match us, hl with | [_], _ => rfl
  have pP2' : PropOf K CM "entries" pP2 fP2 := ⟨aP2, gP2, tP2, _, rP2⟩
  have FP3 := fun_mk (st := s_Matrix_rows) lP3 cP3 kP3
  have bP3 := FP3.binds (ps := ["self"]) fun _ _ _ _ _ _ us hl => match us, hl with | [_], _ => rfl
  have pP3' : PropOf K CM "rows" pP3 fP3 := ⟨aP3, gP3, tP3, _, rP3⟩
  have FP4 := fun_mk (st := s_Matrix_columns) lP4 cP4 kP4
  have bP4 := FP4.binds (ps := ["self"]) fun _ _ _ _ _ _ us hl => match us, hl with | [_], _ => rfl
  have pP4' : PropOf K CM "columns" pP4 fP4 := ⟨aP4, gP4, tP4, _, rP4⟩
  have FP5 := fun_mk (st := s_Matrix_transposed) lP5 cP5 kP5
  have bP5 := FP5.binds (ps := ["self"]) fun _ _ _ _ _ _ us hl => match us, hl with | [_], _ => rfl
  have pP5' : PropOf K CM "transposed" pP5 fP5 := ⟨aP5, gP5, tP5, _, rP5⟩
  have FI : FunD K "__init__" "Ratio.__init__" (defArgs s_Ratio___init__) (defBody s_Ratio___init__) (defScope s_Ratio___init__) [.int 1] [] fI _ := ⟨⟨_, _, _, _, _, _, _, _, _, _, rfl, lI, cI, .inr ⟨nofun, tI, oT, [.int 1 kT], nT, rfl, lT, dT, .cons ⟨_, rfl⟩ .nil⟩, .inl rfl⟩, kI⟩
  obtain ⟨ds2, v2, bI2⟩ := FI.binds1 (ps := ["self", "top", "bottom"]) 3 1 nofun rfl fun T kV doc pm an cdv ct us its h1 h2 => match us, its, h1, h2 with | [_, _, _], [_], _, _ => ⟨_, rfl, rfl⟩
  obtain ⟨ds1, v1, bI1⟩ := FI.binds1 (ps := ["self", "top", "bottom"]) 2 0 nofun rfl fun T kV doc pm an cdv ct us its h1 h2 => match us, its, h1, h2 with | [_, _], [_], _, _ => ⟨_, rfl, rfl⟩
  refine ⟨PySem.W.fnOf "law" "law" (defArgs s_law) (defBody s_law) (defScope s_law) .none kVD35 dcD35 pmD35 anD35 cdD35 ctD35, fun s v => .of_eq rfl, fun base _ _ => ?_⟩
  have B : Blt mg := ⟨PySem.W.mg_none_of X G z_int, PySem.W.mg_none_of X G z_len, PySem.W.mg_none_of X G z_abs, PySem.W.mg_none_of X G z_range, PySem.W.mg_none_of X G z_max, PySem.W.mg_none_of X G z_min, PySem.W.mg_none_of X G z_all, PySem.W.mg_none_of X G z_repr, PySem.W.mg_none_of X G z_isinstance, PySem.W.mg_none_of X G z_bool, PySem.W.mg_none_of X G z_str, PySem.W.mg_none_of X G z_any, PySem.W.mg_none_of X G z_tuple, PySem.W.mg_none_of X G z_list, PySem.W.mg_none_of X G z_sum, PySem.W.mg_none_of X G z_zip, PySem.W.mg_none_of X G z_enumerate⟩
  have R : TxR K mg C := { toBlt := B, cl := ⟨pgC, hdC, poC, saC⟩, nT := nT', nB := nB', g_Ratio := PySem.W.mg_of X G aR, g_gcd := PySem.W.mg_of X G aG, ca := caC, cn := cn, ct := ct', cm := cmC, kI := kit_rt (by decide +kernel) sIC, kB := kit_rt (by decide +kernel) sBC, kC := kit_rr, iC := kit_tr isC tyC sbC }
  have nMR : CM ≠ C := fun e => by rw [e, aP0] at nTop; cases nTop
  have TM : TxM K mg C CM := { toTxR := R, clM := ⟨pgM, hdM, poM, saM⟩, nE := nE', g_Matrix := PySem.W.mg_of X G aCM, g_lcm := PySem.W.mg_of X G aL, caM := caM, cmM := cmM, kMM := kit_rr, kMR := kit_rc isC tyC nMR sMR, kRM := kit_rc isM tyM (Ne.symm nMR) sRM, kMI := kit_rt (by decide +kernel) sIM, kMB := kit_rt (by decide +kernel) sBM, kIM := kit_tr isM tyM sbM }
  have c_whole : CalF l.prog w K mg base _ "is_whole" _ [] := ⟨fD0, _, _, [], ok_whole FD0 B, gD0, kD0, bD0, .nil⟩
  have c_number : CalF l.prog w K mg base _ "is_number" _ [] := ⟨fD1, _, _, [], ok_number FD1 R c_whole, gD1, kD1, bD1, .nil⟩
  have MC : Mk K C fI := ⟨mkC, aI, iI, kcC⟩
  have m_rat2 : Rat2C l.prog w K mg base C := ⟨fI, _, _, ds2, MC, ok_init FI R c_whole, PySem.W.mg_of X G aR, bI2, v2⟩
  have m_rat1 : Rat1C l.prog w K mg base C := ⟨fI, _, _, ds1, MC, ok_init FI R c_whole, PySem.W.mg_of X G aR, bI1, v1⟩
  have c_to : CalF l.prog w K mg base _ "to_ratio" _ [] := ⟨fD2, _, _, [], ok_to FD2 R m_rat1, gD2, kD2, bD2, .nil⟩
  have o_add : OpF l.prog w K mg base 8 C .Add _ := ⟨fM0, _, _, ⟨sfC, aM0, iM0, r_add⟩, ⟨⟨_, x_add⟩, ⟨_, y_add⟩, sbC⟩, ok_add FM0 R c_number c_to m_rat2, bM0⟩
  have o_mul : OpF l.prog w K mg base 8 C .Mult _ := ⟨fM1, _, _, ⟨sfC, aM1, iM1, r_mul⟩, ⟨⟨_, x_mul⟩, ⟨_, y_mul⟩, sbC⟩, ok_mul FM1 R c_number c_to m_rat2, bM1⟩
  have o_eq : EqF l.prog w K mg base 2 C _ := ⟨fM2, _, _, ⟨neC, aM2, iM2, soC⟩, ok_eq FM2 R, bM2⟩
  have p_top : PropF l.prog w K mg base 2 C "top" _ := ⟨pP0, fP0, _, _, pP0', ok_top FP0 R, bP0⟩
  have p_bottom : PropF l.prog w K mg base 2 C "bottom" _ := ⟨pP1, fP1, _, _, pP1', ok_bottom FP1 R, bP1⟩
  have c_istab : CalF l.prog w K mg base _ "is_table" _ [] := ⟨fD4, _, _, [], ok_istab FD4 B, gD4, kD4, bD4, .nil⟩
  have c_size : CalF l.prog w K mg base _ "is_size" _ [] := ⟨fD3, _, _, [], ok_size FD3 c_whole, gD3, kD3, bD3, .nil⟩
  have m_mat : MatC l.prog w K mg base C CM := ⟨fM3, _, _, [], ⟨mkM, aM3, iM3, kcM⟩, ok_minit FM3 TM c_istab c_number c_to, PySem.W.mg_of X G aCM, bM3, .nil⟩
  have pm_entries : PropF l.prog w K mg base 2 CM "entries" _ := ⟨pP2, fP2, _, _, pP2', ok_entries FP2 TM, bP2⟩
  have pm_rows : PropF l.prog w K mg base 2 CM "rows" _ := ⟨pP3, fP3, _, _, pP3', ok_rows FP3 TM, bP3⟩
  have pm_columns : PropF l.prog w K mg base 2 CM "columns" _ := ⟨pP4, fP4, _, _, pP4', ok_columns FP4 TM, bP4⟩
  have pm_transposed : PropF l.prog w K mg base 10 CM "transposed" _ := ⟨pP5, fP5, _, _, pP5', ok_trans FP5 TM m_mat pm_columns, bP5⟩
  have FX := fun_mk (st := s_Mismatch___init__) lX cX kX
  have bX := FX.binds (ps := ["self", "first", "second"]) fun _ _ _ _ _ _ us hl => match us, hl with | [_, _, _], _ => rfl
  have erX : ErC K CX := ⟨⟨"LookupError", "LookupError.__new__", "LookupError.__init__", _, ⟨PySem.F.excBase_LookupError, PySem.F.store_LookupError⟩, xei, xeo⟩, xsa, xeC, xtC, xk, xga, xgg, xhC, xca, cn, ct', xmo⟩
  have x_mis : XmC l.prog w K mg base CX := ⟨erX, ⟨xga, xgg, xeC, xhC⟩, xn1, xn2, PySem.W.mg_of X G aX, PySem.W.exm_ref xeC xhC xtC xsC, fX, _, _, xin, xt, ok_xm FX, bX⟩
  have x_sing : Exc0 l.prog w K mg base "Singular" CS := ⟨⟨"ArithmeticError", "ArithmeticError.__new__", "ArithmeticError.__init__", _, PySem.F.excBase_ArithmeticError, sgi⟩, PySem.W.mg_of X G aS, sgk, sge, sgt, PySem.W.exm_ref sge sgh sgt sgs⟩
  have c_oobT : OobT l.prog w K mg base C := ⟨fD5, _, _, [], ok_oobT FD5 TM p_top p_bottom, gD5, kD5, bD5, .nil⟩
  have c_oobL : OobL l.prog w K mg base C := ⟨fD5, _, _, [], ok_oobL FD5 TM p_top p_bottom, gD5, kD5, bD5, .nil⟩
  have c_rowt : CalF l.prog w K mg base _ "row_times" _ [] := ⟨fD6, _, _, [], ok_rowt FD6 TM c_oobT m_rat2, gD6, kD6, bD6, .nil⟩
  have c_mult : CalF l.prog w K mg base _ "multiplied" _ [] := ⟨fD7, _, _, [], ok_mult FD7 TM c_oobL c_rowt, gD7, kD7, bD7, .nil⟩
  have c_prim : CalF l.prog w K mg base _ "primitive" _ [] := ⟨fD8, _, _, [], ok_prim FD8 TM, gD8, kD8, bD8, .nil⟩
  have c_cleared : CalF l.prog w K mg base _ "cleared" _ [] := ⟨fD9, _, _, [], ok_cleared FD9 TM c_prim, gD9, kD9, bD9, .nil⟩
  have c_pivot : PivotC l.prog w K mg base CS := ⟨fD10, _, _, ok_pivot FD10 TM x_sing c_cleared, gD10, kD10, bD10⟩
  have c_beside : CalF l.prog w K mg base _ "beside_unit" _ [] := ⟨fD11, _, _, [], ok_beside FD11 TM c_oobT, gD11, kD11, bD11, .nil⟩
  have c_invd : InvdC l.prog w K mg base C CS := ⟨fD12, _, _, ok_invd FD12 TM c_beside c_pivot m_rat2, gD12, kD12, bD12⟩
  have m_sq : SqC l.prog w K mg base C CM CX := ⟨fM4, _, _, ⟨aM4, iM4, kM4⟩, ok_sq FM4 TM x_mis pm_rows pm_columns, bM4⟩
  have m_inv : MInvC l.prog w K mg base C CM CX CS := ⟨fM5, _, _, ⟨aM5, iM5, kM5⟩, ok_minv FM5 TM m_sq c_invd m_mat, bM5⟩
  have m_tr : MTrC l.prog w K mg base C CM CX := ⟨fM6, _, _, ⟨aM6, iM6, kM6⟩, ok_mtr FM6 TM m_sq pm_rows m_rat1 o_add, bM6⟩
  have o_mmul : MMulC l.prog w K mg base C CM CX := ⟨fM7, _, _, ⟨sfM, aM7, iM7, rM_mul⟩, ⟨⟨_, x_mul⟩, ⟨_, y_mul⟩, sbM⟩, ⟨sfC, ⟨_, aM1⟩, r_mul, sRM, nMR⟩, ok_mmul FM7 TM x_mis m_mat c_number c_mult pm_entries pm_rows pm_columns o_mul, bM7⟩
  have o_meq : EqF l.prog w K mg base 6 CM (spMEq C CM) := ⟨fM8, _, _, ⟨neM, aM8, iM8, soM⟩, ok_meq FM8 TM o_eq, bM8⟩
  have FRE := fun_mk (st := s_Matrix_eye) lRE cRE kRE
  have bRE := FRE.binds (ps := ["cls", "size"]) fun _ _ _ _ _ _ us hl => match us, hl with | [_, _], _ => rfl
  have m_meye : MEyeC l.prog w K mg base C CM := ⟨pRE, fRE, _, _, _, ⟨rerd, rega⟩, ⟨reat, ⟨_, rerc⟩, refi⟩, ok_meye FRE TM c_size m_mat, bRE⟩
  have c_draw : CalG l.prog w K mg base _ "_law_draw" _ [] := ⟨fD14, _, _, [], ok_draw FD14 B, gD14, kD14, bD14, .nil⟩
  have c_common : CalG l.prog w K mg base _ "_law_common" _ [] := ⟨fD15, _, _, [], ok_common FD15 B, gD15, kD15, bD15, .nil⟩
  have c_lowest : CalG l.prog w K mg base _ "_law_lowest" _ [] := ⟨fD16, _, _, [], ok_lowest FD16 c_common, gD16, kD16, bD16, .nil⟩
  have c_purse : CalG l.prog w K mg base _ "_law_purse" _ [] := ⟨fD13, _, _, [], ok_purse FD13 B, gD13, kD13, bD13, .nil⟩
  have c_from : CalG l.prog w K mg base _ "_law_from" _ [] := ⟨fD17, _, _, [], ok_from FD17 c_purse, gD17, kD17, bD17, .nil⟩
  have c_low : CalG l.prog w K mg base _ "_law_low" _ [] := ⟨fD19, _, _, [], ok_low FD19 B c_common, gD19, kD19, bD19, .nil⟩
  have c_turn : CalG l.prog w K mg base _ "_law_turn" _ [] := ⟨fD20, _, _, [], ok_turn FD20 B, gD20, kD20, bD20, .nil⟩
  have c_pairs : CalG l.prog w K mg base _ "_law_pairs" _ [] := ⟨fD21, _, _, [], ok_pairs FD21 B c_lowest, gD21, kD21, bD21, .nil⟩
  have c_told : CalG l.prog w K mg base _ "_law_told" _ [] := ⟨fD22, _, _, [], ok_told FD22 TM pm_entries p_top p_bottom, gD22, kD22, bD22, .nil⟩
  have c_is : CalG l.prog w K mg base _ "_law_is" _ [] := ⟨fD23, _, _, [], ok_is FD23 TM c_told c_pairs, gD23, kD23, bD23, .nil⟩
  have c_entries : CalG l.prog w K mg base _ "_law_entries" _ [] := ⟨fD24, _, _, [], ok_ent FD24 TM m_rat2, gD24, kD24, bD24, .nil⟩
  have c_dot : CalG l.prog w K mg base _ "_law_dot" _ [] := ⟨fD25, _, _, [], ok_dot FD25 B, gD25, kD25, bD25, .nil⟩
  have c_times : CalG l.prog w K mg base _ "_law_times" _ [] := ⟨fD26, _, _, [], ok_times FD26 B c_turn c_dot c_low, gD26, kD26, bD26, .nil⟩
  have c_cells : CalG l.prog w K mg base _ "_law_cells" _ [] := ⟨fD18, _, _, [], ok_cells FD18 B c_draw c_low, gD18, kD18, bD18, .nil⟩
  have c_invert : CalG l.prog w K mg base _ "_law_invert" _ [] := ⟨fD27, _, _, [], ok_invert FD27 B c_low, gD27, kD27, bD27, .nil⟩
  have c_eye : CalG l.prog w K mg base _ "_law_eye" _ [] := ⟨fD28, _, _, [], ok_leye FD28 B, gD28, kD28, bD28, .nil⟩
  have c_alike : CalG l.prog w K mg base _ "_law_alike" _ [] := ⟨fD29, _, _, [], ok_alike FD29 B, gD29, kD29, bD29, .nil⟩
  have c_square : CalG l.prog w K mg base _ "_law_square" _ [] := ⟨fD30, _, _, [], ok_square FD30 B c_draw c_cells c_low, gD30, kD30, bD30, .nil⟩
  have c_traced : CalG l.prog w K mg base _ "_law_traced" _ [] := ⟨fD32, _, _, [], ok_traced FD32 TM x_mis m_tr, gD32, kD32, bD32, .nil⟩
  have c_inverted : CalG l.prog w K mg base _ "_law_inverted" _ [] := ⟨fD31, _, _, [], ok_linv FD31 TM x_mis x_sing (PySem.W.exm_ref sge sgh sgt sgx) m_inv, gD31, kD31, bD31, .nil⟩
  have c_oblong : CalG l.prog w K mg base _ "_law_oblong" _ [] := ⟨fD33, _, _, [], ok_oblong FD33 TM c_draw c_cells c_entries m_mat c_inverted c_traced, gD33, kD33, bD33, .nil⟩
  have c_right : CalG l.prog w K mg base _ "_law_right" _ [] := ⟨fD34, _, _, [], ok_right FD34 TM c_square c_lowest m_mat c_entries c_invert c_inverted c_traced c_times c_turn c_is c_alike c_eye m_meye m_inv p_top p_bottom o_mmul o_meq pm_transposed, gD34, kD34, bD34, .nil⟩
  exact ok_law FD35 B c_purse c_from c_oblong c_right
theorem walk {l : PySem.W.OpenLaw} {q : Program} {loose : List Str} {XP : (Str → Option Value) → Heap → Prop} {YP : World → Heap → Prop} {d : DefRec} {K : Params → PySem.W.Frag} (hn : l.most = some 63) (hdf : d.params.defaults = [])
    (hY : ∀ (w : World) (h : Heap), YP w h → (K w.params).In h)
    (F : ∀ (w : World) (mg : Str → Option Value) (fa : Addr) (h : Heap), (K w.params).In h → h.Ns mainGlobals mg → mg d.name = some (.ref fa) →
      ∃ fd : FuncData, (∀ (s : Shared) (u : Value), BindsTo s fd ⟨[u], []⟩ [("_law_script", u)]) ∧ ∀ base : Heap, (K w.params).In base → base.Ns mainGlobals mg → FnG l.prog w (K w.params) mg base CX0 22 fa fd ["_law_script"] (spLaw (K w.params))) :
    PySem.W.WalkO q loose XP YP l.row.toRowW d [] (fun f vs => PySem.call f vs) :=
  walkG (n := 63) (k := 22) (x := "_law_script") (sp := fun w => spLaw (K w.params)) hn (by decide) hdf ⟨rfl, by decide, by decide⟩ hY F (fun _ _ a ns hl _ hS => ⟨a, ns, rfl, hS, hl, fun _ => rfl⟩)
end Lw

open PySem PySem.W PyProof.Rows
set_option maxRecDepth 100000 in
set_option maxHeartbeats 0 in
theorem PySem.Challenge.cw_matrixforms_k08_whole_inverses_of_matric_holds : PySem.Challenge.rw_matrixforms_k08_whole_inverses_of_matric.Holds := by
  refine Lw.hd ?_
  k_fill
  refine Lw.walk (l := PySem.Challenge.rw_matrixforms_k08_whole_inverses_of_matric) rfl rfl (fun w h Y => PySem.W.kIn_of Y) ?F
  case F =>
    intro w mg fa h KX G hmg
    refine' Lw.all_mk KX G hmg ?aD0 ?lD0 ?cD0 ?kD0 ?aD1 ?lD1 ?cD1 ?kD1 ?aD2 ?lD2 ?cD2 ?kD2 ?aD3 ?lD3 ?cD3 ?kD3 ?aD4 ?lD4 ?cD4 ?kD4 ?aD5 ?lD5 ?cD5 ?kD5 ?aD6 ?lD6 ?cD6 ?kD6 ?aD7 ?lD7 ?cD7 ?kD7 ?aD8 ?lD8 ?cD8 ?kD8 ?aD9 ?lD9 ?cD9 ?kD9 ?aD10 ?lD10 ?cD10 ?kD10 ?aD11 ?lD11 ?cD11 ?kD11 ?aD12 ?lD12 ?cD12 ?kD12 ?aD13 ?lD13 ?cD13 ?kD13 ?aD14 ?lD14 ?cD14 ?kD14 ?aD15 ?lD15 ?cD15 ?kD15 ?aD16 ?lD16 ?cD16 ?kD16 ?aD17 ?lD17 ?cD17 ?kD17 ?aD18 ?lD18 ?cD18 ?kD18 ?aD19 ?lD19 ?cD19 ?kD19 ?aD20 ?lD20 ?cD20 ?kD20 ?aD21 ?lD21 ?cD21 ?kD21 ?aD22 ?lD22 ?cD22 ?kD22 ?aD23 ?lD23 ?cD23 ?kD23 ?aD24 ?lD24 ?cD24 ?kD24 ?aD25 ?lD25 ?cD25 ?kD25 ?aD26 ?lD26 ?cD26 ?kD26 ?aD27 ?lD27 ?cD27 ?kD27 ?aD28 ?lD28 ?cD28 ?kD28 ?aD29 ?lD29 ?cD29 ?kD29 ?aD30 ?lD30 ?cD30 ?kD30 ?aD31 ?lD31 ?cD31 ?kD31 ?aD32 ?lD32 ?cD32 ?kD32 ?aD33 ?lD33 ?cD33 ?kD33 ?aD34 ?lD34 ?cD34 ?kD34 ?aD35 ?lD35 ?cD35 ?kD35 ?aM0 ?iM0 ?lM0 ?cM0 ?kM0 ?aM1 ?iM1 ?lM1 ?cM1 ?kM1 ?aM2 ?iM2 ?lM2 ?cM2 ?kM2 ?aM3 ?iM3 ?lM3 ?cM3 ?kM3 ?aM4 ?iM4 ?lM4 ?cM4 ?kM4 ?aM5 ?iM5 ?lM5 ?cM5 ?kM5 ?aM6 ?iM6 ?lM6 ?cM6 ?kM6 ?aM7 ?iM7 ?lM7 ?cM7 ?kM7 ?aM8 ?iM8 ?lM8 ?cM8 ?kM8 ?aP0 ?gP0 ?tP0 ?rP0 ?lP0 ?cP0 ?kP0 ?aP1 ?gP1 ?tP1 ?rP1 ?lP1 ?cP1 ?kP1 ?aP2 ?gP2 ?tP2 ?rP2 ?lP2 ?cP2 ?kP2 ?aP3 ?gP3 ?tP3 ?rP3 ?lP3 ?cP3 ?kP3 ?aP4 ?gP4 ?tP4 ?rP4 ?lP4 ?cP4 ?kP4 ?aP5 ?gP5 ?tP5 ?rP5 ?lP5 ?cP5 ?kP5 ?aI ?iI ?lI ?cI ?kI ?lT ?dT ?z_int ?z_len ?z_abs ?z_range ?z_max ?z_min ?z_all ?z_repr ?z_isinstance ?z_bool ?z_str ?z_any ?z_tuple ?z_list ?z_sum ?z_zip ?z_enumerate ?aR ?aCM ?aG ?aL ?pgC ?hdC ?poC ?saC ?mkC ?kcC ?caC ?cmC ?sIC ?sBC ?tyC ?isC ?sfC ?sbC ?soC ?neC ?pgM ?hdM ?poM ?saM ?mkM ?kcM ?caM ?cmM ?sIM ?sBM ?tyM ?isM ?sfM ?sbM ?soM ?neM ?nT' ?nB' ?nE' ?nTop ?cn ?ct' ?sRM ?sMR ?r_add ?x_add ?y_add ?r_mul ?rM_mul ?x_mul ?y_mul ?aX ?xei ?xeo ?xsa ?xga ?xgg ?xca ?xmo ?xn1 ?xn2 ?xin ?xt ?xk ?xeC ?xtC ?xhC ?xsC ?lX ?cX ?kX ?aS ?sgi ?sgk ?sge ?sgt ?sgh ?sgs ?sgx ?rerd ?rega ?reat ?rerc ?refi ?lRE ?cRE ?kRE
    (case aR => k_is)
    (case aCM => k_is)
    (case aX => k_is)
    (case aS => k_is)
    (case aD0 => k_is)
    (case lD0 => k_is)
    (case cD0 => k_is)
    (case kD0 => k_is)
    (case aD1 => k_is)
    (case lD1 => k_is)
    (case cD1 => k_is)
    (case kD1 => k_is)
    (case aD2 => k_is)
    (case lD2 => k_is)
    (case cD2 => k_is)
    (case kD2 => k_is)
    (case aD3 => k_is)
    (case lD3 => k_is)
    (case cD3 => k_is)
    (case kD3 => k_is)
    (case aD4 => k_is)
    (case lD4 => k_is)
    (case cD4 => k_is)
    (case kD4 => k_is)
    (case aD5 => k_is)
    (case lD5 => k_is)
    (case cD5 => k_is)
    (case kD5 => k_is)
    (case aD6 => k_is)
    (case lD6 => k_is)
    (case cD6 => k_is)
    (case kD6 => k_is)
    (case aD7 => k_is)
    (case lD7 => k_is)
    (case cD7 => k_is)
    (case kD7 => k_is)
    (case aD8 => k_is)
    (case lD8 => k_is)
    (case cD8 => k_is)
    (case kD8 => k_is)
    (case aD9 => k_is)
    (case lD9 => k_is)
    (case cD9 => k_is)
    (case kD9 => k_is)
    (case aD10 => k_is)
    (case lD10 => k_is)
    (case cD10 => k_is)
    (case kD10 => k_is)
    (case aD11 => k_is)
    (case lD11 => k_is)
    (case cD11 => k_is)
    (case kD11 => k_is)
    (case aD12 => k_is)
    (case lD12 => k_is)
    (case cD12 => k_is)
    (case kD12 => k_is)
    (case aD13 => k_is)
    (case lD13 => k_is)
    (case cD13 => k_is)
    (case kD13 => k_is)
    (case aD14 => k_is)
    (case lD14 => k_is)
    (case cD14 => k_is)
    (case kD14 => k_is)
    (case aD15 => k_is)
    (case lD15 => k_is)
    (case cD15 => k_is)
    (case kD15 => k_is)
    (case aD16 => k_is)
    (case lD16 => k_is)
    (case cD16 => k_is)
    (case kD16 => k_is)
    (case aD17 => k_is)
    (case lD17 => k_is)
    (case cD17 => k_is)
    (case kD17 => k_is)
    (case aD18 => k_is)
    (case lD18 => k_is)
    (case cD18 => k_is)
    (case kD18 => k_is)
    (case aD19 => k_is)
    (case lD19 => k_is)
    (case cD19 => k_is)
    (case kD19 => k_is)
    (case aD20 => k_is)
    (case lD20 => k_is)
    (case cD20 => k_is)
    (case kD20 => k_is)
    (case aD21 => k_is)
    (case lD21 => k_is)
    (case cD21 => k_is)
    (case kD21 => k_is)
    (case aD22 => k_is)
    (case lD22 => k_is)
    (case cD22 => k_is)
    (case kD22 => k_is)
    (case aD23 => k_is)
    (case lD23 => k_is)
    (case cD23 => k_is)
    (case kD23 => k_is)
    (case aD24 => k_is)
    (case lD24 => k_is)
    (case cD24 => k_is)
    (case kD24 => k_is)
    (case aD25 => k_is)
    (case lD25 => k_is)
    (case cD25 => k_is)
    (case kD25 => k_is)
    (case aD26 => k_is)
    (case lD26 => k_is)
    (case cD26 => k_is)
    (case kD26 => k_is)
    (case aD27 => k_is)
    (case lD27 => k_is)
    (case cD27 => k_is)
    (case kD27 => k_is)
    (case aD28 => k_is)
    (case lD28 => k_is)
    (case cD28 => k_is)
    (case kD28 => k_is)
    (case aD29 => k_is)
    (case lD29 => k_is)
    (case cD29 => k_is)
    (case kD29 => k_is)
    (case aD30 => k_is)
    (case lD30 => k_is)
    (case cD30 => k_is)
    (case kD30 => k_is)
    (case aD31 => k_is)
    (case lD31 => k_is)
    (case cD31 => k_is)
    (case kD31 => k_is)
    (case aD32 => k_is)
    (case lD32 => k_is)
    (case cD32 => k_is)
    (case kD32 => k_is)
    (case aD33 => k_is)
    (case lD33 => k_is)
    (case cD33 => k_is)
    (case kD33 => k_is)
    (case aD34 => k_is)
    (case lD34 => k_is)
    (case cD34 => k_is)
    (case kD34 => k_is)
    (case aD35 => k_is)
    (case lD35 => k_is)
    (case cD35 => k_is)
    (case kD35 => k_is)
    (case aM0 => k_is)
    (case iM0 => k_is)
    (case lM0 => k_is)
    (case cM0 => k_is)
    (case kM0 => k_is)
    (case aM1 => k_is)
    (case iM1 => k_is)
    (case lM1 => k_is)
    (case cM1 => k_is)
    (case kM1 => k_is)
    (case aM2 => k_is)
    (case iM2 => k_is)
    (case lM2 => k_is)
    (case cM2 => k_is)
    (case kM2 => k_is)
    (case aM3 => k_is)
    (case iM3 => k_is)
    (case lM3 => k_is)
    (case cM3 => k_is)
    (case kM3 => k_is)
    (case aM4 => k_is)
    (case iM4 => k_is)
    (case lM4 => k_is)
    (case cM4 => k_is)
    (case kM4 => k_is)
    (case aM5 => k_is)
    (case iM5 => k_is)
    (case lM5 => k_is)
    (case cM5 => k_is)
    (case kM5 => k_is)
    (case aM6 => k_is)
    (case iM6 => k_is)
    (case lM6 => k_is)
    (case cM6 => k_is)
    (case kM6 => k_is)
    (case aM7 => k_is)
    (case iM7 => k_is)
    (case lM7 => k_is)
    (case cM7 => k_is)
    (case kM7 => k_is)
    (case aM8 => k_is)
    (case iM8 => k_is)
    (case lM8 => k_is)
    (case cM8 => k_is)
    (case kM8 => k_is)
    (case aP0 => k_is)
    (case gP0 => k_is)
    (case tP0 => k_is)
    (case rP0 => k_is)
    (case lP0 => k_is)
    (case cP0 => k_is)
    (case kP0 => k_is)
    (case aP1 => k_is)
    (case gP1 => k_is)
    (case tP1 => k_is)
    (case rP1 => k_is)
    (case lP1 => k_is)
    (case cP1 => k_is)
    (case kP1 => k_is)
    (case aP2 => k_is)
    (case gP2 => k_is)
    (case tP2 => k_is)
    (case rP2 => k_is)
    (case lP2 => k_is)
    (case cP2 => k_is)
    (case kP2 => k_is)
    (case aP3 => k_is)
    (case gP3 => k_is)
    (case tP3 => k_is)
    (case rP3 => k_is)
    (case lP3 => k_is)
    (case cP3 => k_is)
    (case kP3 => k_is)
    (case aP4 => k_is)
    (case gP4 => k_is)
    (case tP4 => k_is)
    (case rP4 => k_is)
    (case lP4 => k_is)
    (case cP4 => k_is)
    (case kP4 => k_is)
    (case aP5 => k_is)
    (case gP5 => k_is)
    (case tP5 => k_is)
    (case rP5 => k_is)
    (case lP5 => k_is)
    (case cP5 => k_is)
    (case kP5 => k_is)
    (case aI => k_is)
    (case iI => k_is)
    (case lI => k_is)
    (case cI => k_is)
    (case kI => k_is)
    (case lT => k_is)
    (case dT => rfl)
    (case z_int => k_is)
    (case z_len => k_is)
    (case z_abs => k_is)
    (case z_range => k_is)
    (case z_max => k_is)
    (case z_min => k_is)
    (case z_all => k_is)
    (case z_repr => k_is)
    (case z_isinstance => k_is)
    (case z_bool => k_is)
    (case z_str => k_is)
    (case z_any => k_is)
    (case z_tuple => k_is)
    (case z_list => k_is)
    (case z_sum => k_is)
    (case z_zip => k_is)
    (case z_enumerate => k_is)
    (case aG => k_is)
    (case aL => k_is)
    (case pgC => k_is)
    (case hdC => k_is)
    (case poC => k_is)
    (case saC => k_is)
    (case mkC => k_is)
    (case kcC => k_is)
    (case caC => k_is)
    (case cmC => k_is)
    (case sIC => k_is)
    (case sBC => k_is)
    (case tyC => k_is)
    (case isC => k_is)
    (case sfC => k_is)
    (case sbC => k_is)
    (case soC => k_is)
    (case neC => k_is)
    (case pgM => k_is)
    (case hdM => k_is)
    (case poM => k_is)
    (case saM => k_is)
    (case mkM => k_is)
    (case kcM => k_is)
    (case caM => k_is)
    (case cmM => k_is)
    (case sIM => k_is)
    (case sBM => k_is)
    (case tyM => k_is)
    (case isM => k_is)
    (case sfM => k_is)
    (case sbM => k_is)
    (case soM => k_is)
    (case neM => k_is)
    (case nT' => k_is)
    (case nB' => k_is)
    (case nE' => k_is)
    (case nTop => k_is)
    (case cn => k_is)
    (case ct' => k_is)
    (case sRM => k_is)
    (case sMR => k_is)
    (case r_add => k_is)
    (case x_add => k_is)
    (case y_add => k_is)
    (case r_mul => k_is)
    (case rM_mul => k_is)
    (case x_mul => k_is)
    (case y_mul => k_is)
    (case xei => kernel_rfl!)
    (case xeo => kernel_rfl!)
    (case xsa => k_is)
    (case xga => k_is)
    (case xgg => k_is)
    (case xca => k_is)
    (case xmo => k_is)
    (case xn1 => k_is)
    (case xn2 => k_is)
    (case xin => k_is)
    (case xt => k_is)
    (case xk => k_is)
    (case xeC => k_is)
    (case xtC => k_is)
    (case xhC => k_is)
    (case xsC => first | rfl | k_is)
    (case lX => k_is)
    (case cX => k_is)
    (case kX => k_is)
    (case sgi => first | k_is | kernel_rfl!)
    (case sgk => k_is)
    (case sge => k_is)
    (case sgt => k_is)
    (case sgh => k_is)
    (case sgs => first | rfl | k_is)
    (case sgx => k_is)
    (case rerd => k_is)
    (case rega => k_is)
    (case reat => k_is)
    (case rerc => k_is)
    (case refi => k_is)
    (case lRE => k_is)
    (case cRE => k_is)
    (case kRE => k_is)


import PyProof.Rows.All
import Wide.All
import OpenK.AllK
import Wide.FinOn
import KE.KLam
import KE.KNestM
import HandS.ForMost
import HandS.Wide
import HandS.Gcd
import HandS.IsInst
import HandS.Property
import HandS.OwnEq
import KE.KOpsOwn
import PyProof.ReprRoads
import HandS.Codes
import HandS.Defaults
import HandS.MakeKwOnly
import OpenK.KOps
import KE.KCallOwn
import PyProof.ReprDict
import PyProof.StrHeap
import HandS.MakeKw
import HandS.HotCalls
import HandS.Style
import PyProof.Rows.SortStrRead
import PyProof.Rows.ReprOcc
import PyProof.ReprLen
import PyProof.P3Eq
import HandS.FStr
import HandS.ExcInitHot
import HandS.ExcField
import HandS.WordsExc
import HandS.ExcIs
import HandS.ClsMeth
import HandS.StrMore
import KE.KExcIs
import KE.KExcMake
import HandS.Zip
import HandS.Walk
import KE.KMathGC
import KE.GoesRaise
import HandS.SuiteRaise
import HandS.RaiseFrom
import HandS.ReplaceLit
import OpenK.KMeth
import HandS.TupMul
import HandS.TupAny
import HandS.Lambda
import HandS.Text
import HandS.EndTab
import PySem.Challenge.RW_matrixforms_k10_matrices_refused
set_option Elab.async false
set_option linter.all false
set_option maxRecDepth 100000
set_option maxHeartbeats 8000000
namespace PySem.W.Fast
def tw9967116599492735744 : Nat := 0
def tw1288099228469307458 : Nat := 0
def tw8811857325694988482 : Nat := 0
def tw13038423980101241282 : Nat := 0
def tw14599332172640487106 : Nat := 0
def tw17483277094293194499 : Nat := 0
def tw14757209450809001604 : Nat := 0
def tw13003813497681833509 : Nat := 0
def tw1487048900614144007 : Nat := 0
def tw4514897271842853319 : Nat := 0
def tw15562031337378092520 : Nat := 0
def tw16840763169968634089 : Nat := 0
def tw14709345873436272073 : Nat := 0
def tw9119016348627585577 : Nat := 0
def tw10702267428988894793 : Nat := 0
def tw17470204699935561738 : Nat := 0
def tw12455607561565205482 : Nat := 0
def tw12390798536196764139 : Nat := 0
def tw5450258263924663628 : Nat := 0
def tw12986296579006380524 : Nat := 0
def tw10865999569827503724 : Nat := 0
def tw7701985651219459149 : Nat := 0
def tw2935140487651924461 : Nat := 0
def tw13086138719991198381 : Nat := 0
def tw13425314653348942222 : Nat := 0
def tw14760827729671038734 : Nat := 0
def tw12180059504389519182 : Nat := 0
def tw5667831154058412400 : Nat := 0
def tw7252615004872133713 : Nat := 0
def tw15970157262093910098 : Nat := 0
def tw14453503360848856690 : Nat := 0
def tw13499960397644939284 : Nat := 0
def tw1737057240331206740 : Nat := 0
def tw3080929937059602580 : Nat := 0
def tw12926278093574727828 : Nat := 0
def tw1287773363030064820 : Nat := 0
def tw756233759059836661 : Nat := 0
def tw12263435471711974774 : Nat := 0
def tw7127957495903313366 : Nat := 0
def tw17820185125571121239 : Nat := 0
def tw10300263290365601271 : Nat := 0
def tw10135133717475870263 : Nat := 0
def tw11978938367332538935 : Nat := 0
def tw8425951337583676215 : Nat := 0
def tw11363929442370915191 : Nat := 0
def tw7233395076006136984 : Nat := 0
def tw5766912683543112184 : Nat := 0
def tw9173443816259348408 : Nat := 0
def tw16301303209125159897 : Nat := 0
def tw2518412735853312188 : Nat := 0
def tw7422322528679159484 : Nat := 0
def tw10991416421247094205 : Nat := 0
def tw14437431875040045214 : Nat := 0
end PySem.W.Fast
namespace Lw
open PySem PySem.W PyProof.Rows
set_option maxHeartbeats 0
open_top hd for PySem.Challenge.rw_matrixforms_k10_matrices_refused
end Lw

/-! A layer over L2 in which it is known that no guarded builtin (repr of a container) is running around. -/
namespace MG
open PySem PySem.Spec PyProof.Rows L2

/-- nothing guarded runs around -/
def Bare (A : Around) : Prop := A.guards = some []

/-- as FnOk, called only where nothing guarded runs around -/
structure FnG (P : Program) (w : World) (K : PySem.W.Frag) (mg : Str → Option Value) (base : Heap) (CX : CXT) (k : Nat)
    (f : Addr) (fd : FuncData) (ps : List Str) (sp : Sp) : Prop where
  len : ∀ vs H Q E, sp vs H Q E → vs.length = ps.length
  run : ∀ (A : Around) (outer : List Env) (s : Shared) (H : Hp) (args : Args) (us : List Value) (vs : List V) (Q : VK) (E : XK),
    Bare A → Room k A → Env0 P w K mg base A outer s H → BindsTo s fd args (ps.zip us) → Vals vs us → sp vs H Q E →
      codeAny (model P w) A (.call (.ref f) args) (CR CX outer P w H s Q E) s

section
variable {P : Program} {w : World} {K : PySem.W.Frag} {mg : Str → Option Value} {base : Heap} {CX : CXT} {k : Nat} {f : Addr}
theorem FnG.of {fd : FuncData} {ps : List Str} {sp : Sp} (F : FnOk P w K mg base CX k f fd ps sp) : FnG P w K mg base CX k f fd ps sp :=
  ⟨F.len, fun A outer s H args us vs Q E _ => F.run A outer s H args us vs Q E⟩

theorem fnG_of {name qual : Str} {params : Arguments} {body : List Stmt} {scope : Scope} {dV kV doc pm cdv ct oc : Value} {an od : Option Addr}
    {osl : Array (Option Value)} {N ps : List Str} {sp : Sp}
    (lk : K.lookup f = some ⟨oc, od, .func (PySem.W.fnOf name qual params body scope dV kV doc pm an cdv ct), osl⟩)
    (hcd : PySem.W.codeIn K cdv qual = true) (S : FnScope N ps scope) (len : ∀ vs H Q E, sp vs H Q E → vs.length = ps.length)
    (hbody : ∀ (A : Around) (outer : List Env) (s : Shared) (H : Hp) (vs : List V) (Q : VK) (E : XK), Bare A →
      Room k (A.deeper (envOfC qual scope s.heap.objs.size f cdv)) → sp vs H Q E →
      ∃ t, PSs (cxOf CX P w K mg base N qual scope f cdv A outer s H E) body t ∧ t { nx := fun _ H' => Q .non H', rt := Q } (start N vs) H) :
    FnG P w K mg base CX (k + 1) f (PySem.W.fnOf name qual params body scope dV kV doc pm an cdv ct) ps sp := by
  refine ⟨len, ?_⟩
  intro A outer s H args us vs Q E bare hr e0 hb r hsp
  have hl := len _ _ _ _ hsp
  have inK : K.In s.heap := e0.mod.kin.keeps (fun b o e => (e0.bs b o e).left)
  have free : s.heap.NoLimit := e0.mod.nolimit.keeps (fun b o e => (e0.bs b o e).left)
  refine codeAny_call_function hr.depth (inK _ _ lk) rfl S.co S.gen rfl (PySem.W.codeRec_of inK hcd) (hb _ _ _ _ ?_)
  have kinds : ∀ y ∈ ps.zip us, scope.names.lookup y.1 = some .local ∨
      (scope.names.lookup y.1 = some .cell ∧ ((cellsFrom (s.heap.objs.size + 1) scope.names []).lookup y.1).isSome = true) := by
    rintro ⟨n, v⟩ hy
    exact (S.par n (List.of_mem_zip hy).left).imp id fun q => ⟨q, PySem.W.cellsFrom_some _ _ _ (.inl q)⟩
  refine wpAny_newFunctionEnv_cells S.kind kinds ?_
  intro env he s1 x
  subst he
  refine ⟨free.keeps x.toInCall.keep, codeAny_func ?_⟩
  obtain ⟨t, ht, hq⟩ := hbody A outer s H vs Q E bare (hr.deeper _) hsp
  have I := inv_start (CX := CX) (E := E) S hr.hd e0 hl r x
  refine wpAny_mono (ht.run [] s1 (start N vs) H _ I hq) ?_ (fun e s' hs => hs)
  intro fl s' hs
  match fl, hs with
  | .ret u, ⟨v, σ', H', J, rv, q⟩ => exact ⟨v, H', J.os, J.bare, J.base, J.hok, rv, q⟩
  | .next, ⟨σ', H', J, q⟩ => exact ⟨V.non, H', J.os, J.bare, J.base, J.hok, rfl, q⟩
  | .brk, ⟨_, _, _, q⟩ => exact False.elim q
  | .cont, ⟨_, _, _, q⟩ => exact False.elim q
end

section
variable {X : Cx} {CX : CXT} {k : Nat} {f C : Addr} {fd : FuncData} {ps : List Str} {sp : Sp} {dvs : List V} {ds : List Value} {E : XK} {x m : Str} {p pos apos : Pos} {e o : Expr} {es : List Expr} {ta : TE} {t : TA}
variable {pins : List (Addr × Obj)} {σ : L2.St} {H : Hp} {s : Shared}
theorem run_fnG {Q : VK} {us : List Value} {vs : List V} (F : FnG X.prog X.w X.K X.mg X.base CX k f fd ps sp) (bare : Bare X.A) (hr : Room k X.A)
    (hb : Binds X.K fd ps ds) (hd : Vals dvs ds) (hx : Passes CX X E) (I : Inv X pins σ H s) (r : Vals vs us) (h : sp (vs ++ dvs) H Q E) :
    wpAny (model X.prog X.w) X.A (call (.ref f) us) (EP X pins σ Q) X.xe s := by
  have r2 := r.append hd
  have hl : (us ++ ds).length = ps.length := r2.length.symm.trans (F.len _ _ _ _ h)
  refine wpAny_call (codeAny_mono (F.run X.A X.stack s H ⟨us, []⟩ _ _ Q E bare hr I.env0 (hb s us I.kIn hl) r2 h) ?_)
  intro r s' hq
  match r, hq with
  | .error e, hq => exact hx pins σ H s e s' I hq
  | .ok (.ret u), hq => exact I.after hq
  | .ok .next, hq => exact False.elim hq
  | .ok .brk, hq => exact False.elim hq
  | .ok .cont, hq => exact False.elim hq

theorem pe_callG (F : FnG X.prog X.w X.K X.mg X.base CX k f fd ps sp) (bare : Bare X.A) (hr : Room k X.A) (hg : Gl X x) (hm : X.mg x = some (.ref f))
    (hk : PySem.W.keepIn X.K (.ref f) = true) (hb : Binds X.K fd ps ds) (hd : Vals dvs ds) (hx : Passes CX X E) (ha : PA X (e :: es) t)
    (hdb : (x == ("__debug__" : Str)) = false := by decide)
    (he : starEach (e :: es) X.env = (false, eval e X.env) :: starEach es X.env := by rfl)
    (hpl : (backTo pos (starEach es X.env)).any (·.1) = false := by rfl) : PE X (.Call (.Name x p) (e :: es) [] pos) (tCall sp dvs E t) := by
  constructor
  intro pins s σ H Q I h
  refine wpAny_Call_Name_kw (ld_glob I hg hm ?_ hdb)
  refine PySem.W.callWith_K (h₀ := X.base) I.ok.mod.kin hk (thn (ha.run pos pins s σ H _ I h) ?_) he hpl
  rintro us s1 ⟨vs, H1, I1, r, q⟩
  exact ⟨I1.kIn, run_fnG F bare hr hb hd hx I1 r q⟩
end

/-- the law's call at the heap behind the top, H being what is tracked there: at most the script -/
theorem enterG {P : Program} {w : World} {K : PySem.W.Frag} {mg mb : Str → Option Value} {k : Nat} {fa a : Addr} {fd : FuncData} {x : Str} {sp : Sp}
    {s₁ : Shared} {vs : List Value} {ns : List Int} {H : Hp}
    (KX : K.In s₁.heap) (hns : s₁.heap.Ns mainGlobals mg) (hb : s₁.heap.Ns builtinsNs mb) (hbb : ∀ x : Str, x ≠ "__name__" → mb x = bootBuiltins x)
    (hlim : s₁.heap.NoLimit) (hg : s₁.gens = #[]) (ha : s₁.heap.get? a = some { cls := .type "list", data := .seq vs.toArray })
    (hr : Room k callerA) (F : ∀ base : Heap, K.In base → base.Ns mainGlobals mg → FnG P w K mg base CX0 k fa fd [x] sp)
    (hbind : ∀ (s : Shared) (u : Value), BindsTo s fd ⟨[u], []⟩ [(x, u)])
    (hO : Only H) (hok : HOk P w H s₁.heap) (hA : ∀ b, H b ≠ none → b = a) (hK : H a ≠ none → K.lookup a = none)
    (hsp : sp [.ref a] H (fun v _ => v = .bl true) fun _ _ _ => False) :
    codeAny (model P w) callerA (.call (.ref fa) ⟨[.ref a], []⟩)
      (fun r s' => r = .ok (.ret (.bool true)) ∧ OldK s₁.heap s'.heap ∧ s'.os = s₁.os ∧ AllBare s'.gens) s₁ := by
  have untr : ∀ {b : Addr}, (b = a → False) → H b = none := fun {b} hne => by
    cases q : H b with
    | none => rfl
    | some u => exact (hne (hA b (by rw [q]; exact Option.some_ne_none u))).elim
  have ns' : ∀ {b : Addr} {m : Str → Option Value}, s₁.heap.Ns b m → (hidT s₁.heap H).Ns b m := by
    rintro b m ⟨o, es, ep, e, d, r⟩
    refine ⟨o, es, ep, hidT_get e (untr fun z => ?_), d, r⟩
    subst z
    have e' := e.symm.trans ha
    cases e'
    cases d
  have inB : K.In (hidT s₁.heap H) := fun b o e => hidT_get (KX b o e) (by
    by_cases z : b = a
    · subst z
      cases q : H b with
      | none => rfl
      | some u =>
        have e2 := hK (by rw [q]; exact Option.some_ne_none u)
        exact nomatch e.symm.trans e2
    · exact untr z)
  have M : Mod K mg (hidT s₁.heap H) := by
    refine ⟨inB, ns' hns, ⟨mb, ns' hb, hbb⟩, ?_⟩
    obtain ⟨mc, h1, h2⟩ := hlim
    exact ⟨mc, ns' h1, h2⟩
  have env : Env0 P w K mg (hidT s₁.heap H) callerA [] s₁ H :=
    { frames := rfl, mod := M, bs := fun b o e => of_hidT e, bsz := Nat.le_of_eq (hidT_size _ _), funs := trivial,
      frf := (fun b z => nomatch (show b ∈ ([] : List Addr) from z)), hok := hok, bare := .of_eq hg }
  refine codeAny_mono ((F _ inB (ns' hns)).run callerA [] s₁ H ⟨[.ref a], []⟩ [.ref a] [.ref a] _ _ rfl hr env (hbind s₁ (.ref a)) (.cons rfl .nil) hsp) ?_
  intro r s' h
  match r, h with
  | .error e, h => exact False.elim h
  | .ok .next, h => exact False.elim h
  | .ok .brk, h => exact False.elim h
  | .ok .cont, h => exact False.elim h
  | .ok (.ret u), ⟨v, H', os, bare, un, hok', rv, hv⟩ =>
    have hv' : v = .bl true := hv
    subst hv'
    have hu : u = Value.bool true := rv
    subst hu
    refine ⟨rfl, OldK.of_keep ?_, os, bare⟩
    intro b o e
    cases q : H b with
    | none => exact un.keep b o e q (fun z => by cases z) (by simp)
    | some t =>
      obtain ⟨ob, xs, z⟩ := (hO b).resolve_left (by rw [q]; exact Option.some_ne_none t)
      have o1 : s₁.heap.get? b = some ob := (hok b _ z).left
      have o2 : s'.heap.get? b = some ob := (hok' b _ (un.frzs b ob _ z)).left
      rw [o2]
      exact o1.symm.trans e

theorem callG {P : Program} {w : World} {K : PySem.W.Frag} {mg mb : Str → Option Value} {k : Nat} {fa a : Addr} {fd : FuncData} {x : Str} {sp : Sp}
    {s₁ : Shared} {vs : List Value} {ns : List Int}
    (KX : K.In s₁.heap) (hns : s₁.heap.Ns mainGlobals mg) (hb : s₁.heap.Ns builtinsNs mb) (hbb : ∀ x : Str, x ≠ "__name__" → mb x = bootBuiltins x)
    (hlim : s₁.heap.NoLimit) (hg : s₁.gens = #[]) (ha : s₁.heap.get? a = some { cls := .type "list", data := .seq vs.toArray }) (hi : IntsAre vs ns)
    (hl : ns.length ≤ sizeLine) (hr : Room k callerA) (F : ∀ base : Heap, K.In base → base.Ns mainGlobals mg → FnG P w K mg base CX0 k fa fd [x] sp)
    (hbind : ∀ (s : Shared) (u : Value), BindsTo s fd ⟨[u], []⟩ [(x, u)])
    (hsp : ∀ H : Hp, Only H → SqL K H a (ns.map V.int) → sp [.ref a] H (fun v _ => v = .bl true) fun _ _ _ => False) :
    codeAny (model P w) callerA (.call (.ref fa) ⟨[.ref a], []⟩)
      (fun r s' => r = .ok (.ret (.bool true)) ∧ OldK s₁.heap s'.heap ∧ s'.os = s₁.os ∧ AllBare s'.gens) s₁ := by
  have rv := vals_ints hi
  have lv := hi.length
  by_cases hk : K.lookup a = none
  · let H0 : Hp := upd (fun _ => none) a (.frz { cls := .type "list", data := .seq vs.toArray } (.lst (ns.map V.int)))
    have h0 : ∀ b, b ≠ a → H0 b = none := fun b z => upd_ne z
    have h1 : H0 a = some (.frz { cls := .type "list", data := .seq vs.toArray } (.lst (ns.map V.int))) := upd_same
    have O : Only H0 := fun b => by
      by_cases z : b = a
      · rw [z]
        exact .inr ⟨_, _, h1⟩
      · exact .inl (h0 b z)
    refine enterG (ns := ns) KX hns hb hbb hlim hg ha hr F hbind O (fun b u z => ?_) (fun b z => ?_) (fun _ => hk) (hsp _ O (.inl (.inr ⟨_, h1⟩)))
    · by_cases hba : b = a
      · subst hba
        cases h1.symm.trans z
        exact ⟨ha, by rw [List.length_map]; exact hl, vs, _, rv, ha⟩
      · exact nomatch (h0 b hba).symm.trans z
    · by_cases hba : b = a
      · exact hba
      · exact (z (h0 b hba)).elim
  · obtain ⟨o, e⟩ := Option.ne_none_iff_exists'.mp hk
    have e2 := (KX a o e).symm.trans ha
    cases e2
    have O : Only (fun _ => none) := fun _ => .inl rfl
    refine enterG (ns := ns) KX hns hb hbb hlim hg ha hr F hbind O (fun b u z => nomatch z) (fun b z => (z rfl).elim) (fun z => (z rfl).elim) (hsp _ O (.inr ?_))
    exact ⟨_, vs.toArray, _, e, rfl, rfl, rfl, by rw [List.size_toArray, lv]; exact hl, by simpa using rv⟩

theorem walkG {l : PySem.W.OpenLaw} {n k : Nat} {q : Program} {loose : List Str} {XP : (Str → Option Value) → Heap → Prop} {YP : World → Heap → Prop} {d : DefRec}
    {K : Params → PySem.W.Frag} {sp : World → Sp} {x : Str} (hn : l.most = some n) (hn2 : n ≤ sizeLine) (hdf : d.params.defaults = []) (hr : Room k callerA)
    (hY : ∀ (w : World) (h : Heap), YP w h → (K w.params).In h)
    (F : ∀ (w : World) (mg : Str → Option Value) (fa : Addr) (h : Heap), (K w.params).In h → h.Ns mainGlobals mg → mg d.name = some (.ref fa) →
      ∃ fd : FuncData, (∀ (s : Shared) (u : Value), BindsTo s fd ⟨[u], []⟩ [(x, u)]) ∧
        ∀ base : Heap, (K w.params).In base → base.Ns mainGlobals mg → FnG l.prog w (K w.params) mg base CX0 k fa fd [x] (sp w))
    (hsp : ∀ (w : World) (H : Hp) (a : Addr) (ns : List Int), ns.length ≤ n → Only H → SqL (K w.params) H a (ns.map V.int) →
      sp w [.ref a] H (fun v _ => v = .bl true) fun _ _ _ => False) :
    PySem.W.WalkO q loose XP YP l.row.toRowW d [] (fun f vs => PySem.call f vs) := by
  refine Att.attach_call hn hdf ?_
  intro w s₀ s₁ mg mb fa o pm cd doc a vs ns G Y ho hd hcd hmg hobj hints hlen hg
  have inK := hY w _ Y
  obtain ⟨fd, hb, hF⟩ := F w mg fa _ inK G.T.g hmg
  exact callG inK G.T.g G.T.b G.T.builtins G.T.nolimit hg hobj hints (Nat.le_trans hlen hn2) hr hF hb fun H hO hS => hsp w H a ns hlen hO hS
end MG

/-! Further rules: operators of own classes, repr of data, // of any sign -/
namespace MG
open PySem PySem.Spec PyProof.Rows L2

section
variable {X : Cx}
/-- // by any divisor but 0 -/
theorem op_fdivZ : OpR X (binaryOp .FloorDiv) (rI (fun _ j => j ≠ 0 ∧ j.natAbs.log2 < 9000) fun i j => .int (i.fdiv j)) :=
  opI fun _ _ _ _ _ _ _ hc q => floordiv_int hc.1 q (.inl (PyProof.noPylong_of_log2 hc.2))

theorem rel_ni {v : V} (r : RelV v Value.notImplemented) : False := by
  cases v with
  | non => cases (show Value.notImplemented = Value.none from r)
  | bl b => cases (show Value.notImplemented = Value.bool b from r)
  | int i => obtain ⟨_, q⟩ := (show ∃ t, Value.notImplemented = Value.int i t from r); cases q
  | str i => obtain ⟨_, q⟩ := (show ∃ t, Value.notImplemented = Value.str i t from r); cases q
  | byt i => obtain ⟨_, q⟩ := (show ∃ t, Value.notImplemented = Value.bytes i t from r); cases q
  | flt i => obtain ⟨_, q⟩ := (show ∃ t, Value.notImplemented = Value.float i t from r); cases q
  | ref i => cases (show Value.notImplemented = Value.ref i from r)
  | ty i => cases (show Value.notImplemented = Value.type i from r)
theorem back_of {Q : Value → Shared → Prop} {v : V} {u : Value} {s : Shared} (r : RelV v u) (q : Q u s) : PySem.W.CmpBack Q u s := by
  cases u <;> first | exact q | exact (rel_ni r).elim

/-- what the top says of an operator's method of an own class -/
structure OpAt (K : PySem.W.Frag) (C : Addr) (op : Operator) (f : Addr) : Prop where
  first : PySem.W.selfFirst K C = true
  at_ : PySem.W.findIn K (.ref C) (PySem.dunder op.info.2) = some (some (.ref f))
  fn : PySem.W.isFn K (.ref f) = true
  ref : PySem.W.findIn K (.ref C) (dunderR op.info.2) = some none
structure OpInt (K : PySem.W.Frag) (C : Addr) (op : Operator) : Prop where
  to : ∃ fo, PySem.W.findIn K (.type "int") (PySem.dunder op.info.2) = some fo
  ro : ∃ ro, PySem.W.findIn K (.type "int") (dunderR op.info.2) = some ro
  sub : PySem.W.subIn K (.type "int") (.ref C) = some false

/-- x op y, x of the class at C, y of it too or an int -/
def rOwn (C : Addr) (sp : Sp) (E : XK) : R2 := fun x y H Q => ∃ a dx fs, x = .ref a ∧ H a = some (.ins C dx fs) ∧
  ((∃ b dy gs, y = .ref b ∧ H b = some (.ins C dy gs)) ∨ ∃ i, y = .int i) ∧ sp [x, y] H Q E
theorem op_own {CX : CXT} {k : Nat} {C f : Addr} {op : Operator} {fd : FuncData} {ps : List Str} {sp : Sp} {E : XK}
    (o : OpAt X.K C op f) (oi : OpInt X.K C op) (F : FnOk X.prog X.w X.K X.mg X.base CX k f fd ps sp) (hr : Room k X.A)
    (hb : Binds X.K fd ps []) (hx : Passes CX X E) : OpR X (binaryOp op) (rOwn C sp E) := by
  intro pins s σ H x y v u Q I rx ry h
  obtain ⟨a, dx, fs, rfl, ha, hy, hsp⟩ := h
  cases rx
  obtain ⟨mA, J, _⟩ := ins_get I.hok ha
  obtain ⟨od, J, _⟩ := J.look
  obtain ⟨m, hF⟩ := I.fr
  have call1 : wpAny (model X.prog X.w) X.A (call (.ref f) [.ref a, u]) (PySem.W.CmpBack (EP X pins σ Q)) X.xe s :=
    wpAny_mono (run_fn (vs := [.ref a, y]) F hr hb .nil hx I (.cons rfl (.cons ry .nil)) (by rw [List.append_nil]; exact hsp))
      (fun _ _ hq => match hq with | ⟨_, _, _, r, _⟩ => back_of r hq) fun _ _ e => e
  rcases hy with ⟨b, dy, gs, rfl, hb'⟩ | ⟨i, rfl⟩
  · cases ry
    obtain ⟨mB, J', _⟩ := ins_get I.hok hb'
    obtain ⟨od', J', _⟩ := J'.look
    exact PySem.W.binop_K hF I.ok.mod.kin J J'.type o.first o.at_ o.fn call1
  · obtain ⟨t, rfl⟩ := ry
    obtain ⟨fo, h1⟩ := oi.to
    obtain ⟨ro, h2⟩ := oi.ro
    exact PySem.W.ksp_binT hF I.ok.mod.kin J (T := "int") rfl o.first o.at_ o.fn o.ref (.inl rfl) h1 h2 oi.sub call1

/-- -x of an own class -/
def rNegO (C : Addr) (sp : Sp) (E : XK) : V → Hp → VK → Prop := fun x H Q => ∃ a dx fs, x = .ref a ∧ H a = some (.ins C dx fs) ∧ sp [x] H Q E
theorem un_negO {CX : CXT} {k : Nat} {C f : Addr} {fd : FuncData} {ps : List Str} {sp : Sp} {E : XK}
    (at_ : PySem.W.findIn X.K (.ref C) "__neg__" = some (some (.ref f))) (fn : PySem.W.isFn X.K (.ref f) = true)
    (F : FnOk X.prog X.w X.K X.mg X.base CX k f fd ps sp) (hr : Room k X.A) (hb : Binds X.K fd ps []) (hx : Passes CX X E) :
    UnR X (unaryOp .USub) (rNegO C sp E) := by
  intro pins s σ H x v Q I rx h
  obtain ⟨a, dx, fs, rfl, ha, hsp⟩ := h
  cases rx
  obtain ⟨mA, J, _⟩ := ins_get I.hok ha
  obtain ⟨od, J, _⟩ := J.look
  obtain ⟨m, hF⟩ := I.fr
  exact PySem.W.ksp_neg hF I.ok.mod.kin J at_ fn (run_fn (vs := [.ref a]) F hr hb .nil hx I (.cons rfl .nil) (by rw [List.append_nil]; exact hsp))

/-- x == y, x of the class at C with its own ==, y of it too -/
def rEqO (C : Addr) (sp : Sp) (E : XK) : R2 := fun x y H Q => ∃ a dx fs b dy gs, x = .ref a ∧ H a = some (.ins C dx fs) ∧ y = .ref b ∧ H b = some (.ins C dy gs) ∧ sp [x, y] H Q E
theorem op_eqO {CX : CXT} {k : Nat} {C f : Addr} {fd : FuncData} {ps : List Str} {sp : Sp} {E : XK}
    (at_ : PySem.W.findIn X.K (.ref C) "__eq__" = some (some (.ref f))) (fn : PySem.W.isFn X.K (.ref f) = true)
    (F : FnOk X.prog X.w X.K X.mg X.base CX k f fd ps sp) (hr : Room k X.A) (hb : Binds X.K fd ps []) (hx : Passes CX X E) :
    OpR X (compareOp .Eq) (rEqO C sp E) := by
  intro pins s σ H x y v u Q I rx ry h
  obtain ⟨a, dx, fs, b, dy, gs, rfl, ha, rfl, hb', hsp⟩ := h
  cases rx
  cases ry
  obtain ⟨mA, J, _⟩ := ins_get I.hok ha
  obtain ⟨od, J, _⟩ := J.look
  obtain ⟨mB, J', _⟩ := ins_get I.hok hb'
  obtain ⟨od', J', _⟩ := J'.look
  obtain ⟨m, hF⟩ := I.fr
  refine PySem.W.cmp_K (op := .Eq) (tb := .ref C) hr.units0 hF I.ok.mod.kin J J'.type (by simp [PySem.W.notFirst]) at_ fn ?_
  exact wpAny_mono (run_fn (vs := [.ref a, .ref b]) F hr hb .nil hx I (.cons rfl (.cons rfl .nil)) (by rw [List.append_nil]; exact hsp))
    (fun _ _ hq => match hq with | ⟨_, _, _, r, _⟩ => back_of r hq) fun _ _ e => e
end
end MG

namespace MG
open PySem PySem.Spec PyProof.Rows L2 PySem.Calls

section
variable {prog : Program} {w : World} {A : Around} {E : Value → Shared → Prop} {s : Shared} {K : PySem.W.Frag} {x y C L f : Addr} {h₀ : Heap} {m : Str → Option Value} {ox oy : Obj} {od oe : Option Obj}

theorem objNe_run (X : K.In s.heap) (I : PySem.W.InstAt s.heap x ox C od) (hs : PySem.W.findIn K (.ref C) "__eq__" = some (some (.ref f))) (hf : PySem.W.isFn K (.ref f) = true)
    (hu : A.units < cLine) {Q : Fin → Shared → Prop}
    (hcall : wpAny (model prog w) A (call (.ref f) [.ref x, .ref y]) (fun v s' => ∃ b, v = .bool b ∧ Q (.done (.ret (.bool (!b)))) s') E s) :
    wpAny (model prog w) A (Builtin.«object.__ne__» ⟨[.ref x, .ref y], []⟩) Q E s := by
  unfold Builtin.«object.__ne__»
  repeat (first
    | with_reducible refine wpAny_cRoomFor hu ?_
    | (refine wpAny_bind (m := callSpecialIfBound? (.ref x) (Str.ofString "__eq__") [.ref y])
        (PySem.W.ifBound_K X I hs hf (wpAny_mono hcall (fun r s' hr => ?_) fun _ _ e => e)))
    | wp_step)
  obtain ⟨b, rfl, hq⟩ := hr
  repeat (first | exact hq | exact wpAny_pure hq | exact wpAny_truthy_bool hq | (refine wpAny_bind (m := truthy (.bool _)) (wpAny_truthy_bool ?_)) | wp_step)

theorem ifBound_ne (X : K.In s.heap) (I : PySem.W.InstAt s.heap x ox C od) (hn : PySem.W.findIn K (.ref C) "__ne__" = some (some (.builtin "object.__ne__")))
    {args : List Value} {Q : Option Value → Shared → Prop}
    (h : wpAny (model prog w) A (call (.builtin "object.__ne__") (.ref x :: args)) (fun v => Q (some v)) E s) :
    wpAny (model prog w) A (callSpecialIfBound? (.ref x) "__ne__" args) Q E s := by
  have S : Slot "object" "__ne__" "object.__ne__" := PySem.F.cmp_object.ne
  have hb := S.bind
  simp only [callSpecialIfBound?, bindSpecialIfBound?]
  refine wpAny_holding (wpAny_bind (wpAny_bind (wpAny_bind (I.type.here ((PySem.W.looks_findIn X hn).here ?_)))))
  simp only [hb]
  refine wpAny_bind (wpAny_askSetting (wpAny_ite ?_))
  have fin : wpAny (model prog w) A (call (.builtin "object.__ne__") ([.ref x] ++ args) >>= fun v => pure (some v)) Q E s :=
    wpAny_bind (wpAny_mono h (fun v s' h' => wpAny_pure h') fun _ _ h' => h')
  split
  · exact wpAny_bind (wpAny_pure (wpAny_pure fin))
  · exact wpAny_tryCatch (wpAny_bind (wpAny_pure (wpAny_pure fin)))

theorem ne_K (X : K.In s.heap) (I : PySem.W.InstAt s.heap x ox C od) (I' : PySem.W.InstAt s.heap y oy C oe)
    (hn : PySem.W.findIn K (.ref C) "__ne__" = some (some (.builtin "object.__ne__"))) (hs : PySem.W.findIn K (.ref C) "__eq__" = some (some (.ref f)))
    (hf : PySem.W.isFn K (.ref f) = true) (ho : PySem.W.subIn K (.ref C) (.type "object") = some true) (hu : A.units + 1 < cLine) {Q : Value → Shared → Prop}
    (hcall : wpAny (model prog w) A.in1 (call (.ref f) [.ref x, .ref y]) (fun v s' => ∃ b, v = .bool b ∧ Q (.bool (!b)) s') E s) :
    wpAny (model prog w) A (richCompare .NotEq (.ref x) (.ref y)) Q E s := by
  have sub : PySem.W.Looks (model prog w) s.heap (isInstance (.ref x) (.type "object")) true := I.type.andThen (PySem.W.looks_subIn X ho)
  have one : wpAny (model prog w) A (tryCompare (.ref x) "__ne__" (.ref y)) (fun r s' => ∃ v, r = some v ∧ Q v s') E s := by
    simp only [tryCompare]
    refine wpAny_bind (ifBound_ne X I hn (wpAny_call (codeAny_call_builtin PySem.F.cmp_object.ne.plain PySem.F.cmpEntry_ne
      (PySem.W.check_slot PySem.F.cmpKind_ne PySem.F.cmpSplit_ne sub (PySem.F.cmpArgs_ne _ _) ?_))))
    refine objNe_run (A := A.in1) X I hs hf hu (wpAny_mono hcall (fun v s' hv => ?_) fun _ _ e => e)
    obtain ⟨b, rfl, hq⟩ := hv
    first | exact ⟨b, rfl, wpAny_pure ⟨_, rfl, hq⟩⟩ | exact ⟨b, rfl, wpAny_pure (wpAny_pure ⟨_, rfl, hq⟩)⟩ | exact ⟨b, rfl, _, rfl, hq⟩
  unfold richCompare
  simp only [oneThing_ref]
  refine wpAny_holding (wpAny_bind (wpAny_cRoomFor (Nat.lt_of_succ_lt hu) ?_))
  refine wpAny_bind (I.type.here (wpAny_bind (I'.type.here ?_)))
  rw [show (Value.ref C != Value.ref C) = false from by simp]
  simp only [Bool.false_eq_true, if_false]
  refine wpAny_bind (wpAny_pure ?_)
  simp only [Bool.false_eq_true, if_false]
  refine wpAny_bind (wpAny_mono one (fun v s' hv => ?_) fun _ _ e => e)
  obtain ⟨b, rfl, hq⟩ := hv
  exact wpAny_pure hq
end

section
variable {X : Cx}
structure NeAt (K : PySem.W.Frag) (C f : Addr) : Prop where
  ne : PySem.W.findIn K (.ref C) "__ne__" = some (some (.builtin "object.__ne__"))
  eq : PySem.W.findIn K (.ref C) "__eq__" = some (some (.ref f))
  fn : PySem.W.isFn K (.ref f) = true
  sub : PySem.W.subIn K (.ref C) (.type "object") = some true
def rNeO (C : Addr) (sp : Sp) (E : XK) : R2 := fun x y H Q => ∃ a dx fs b dy gs, x = .ref a ∧ H a = some (.ins C dx fs) ∧ y = .ref b ∧ H b = some (.ins C dy gs) ∧
  sp [x, y] H (fun v H' => ∃ c, v = .bl c ∧ Q (.bl (!c)) H') E
theorem op_neO {CX : CXT} {k : Nat} {C f : Addr} {fd : FuncData} {ps : List Str} {sp : Sp} {E : XK} (n : NeAt X.K C f)
    (F : FnOk X.prog X.w X.K X.mg X.base CX k f fd ps sp) (hr : Room (k + 1) X.A) (hb : Binds X.K fd ps []) (hx : Passes CX X E) :
    OpR X (compareOp .NotEq) (rNeO C sp E) := by
  intro pins s σ H x y v u Q I rx ry h
  obtain ⟨a, dx, fs, b, dy, gs, rfl, ha, rfl, hb', hsp⟩ := h
  cases rx
  cases ry
  obtain ⟨mA, J, _⟩ := ins_get I.hok ha
  obtain ⟨od, J, _⟩ := J.look
  obtain ⟨mB, J', _⟩ := ins_get I.hok hb'
  obtain ⟨od', J', _⟩ := J'.look
  refine ne_K I.kIn J J' n.ne n.eq n.fn n.sub (Nat.lt_trans (by omega) hr.un) ?_
  have hl := F.len _ _ _ _ hsp
  refine wpAny_call (codeAny_mono (F.run X.A.in1 X.stack s H ⟨[.ref a, .ref b], []⟩ [.ref a, .ref b] [.ref a, .ref b] _ E hr.in1 I.env0.in1 (by
    have := hb s [.ref a, .ref b] I.kIn (by simpa using hl)
    simpa using this) (.cons rfl (.cons rfl .nil)) hsp) fun r s' hq => ?_)
  match r, hq with
  | .error e, hq => exact hx pins σ H s e s' I hq
  | .ok (.ret z), hq =>
    obtain ⟨v, H', I', rv, c, rfl, q⟩ := I.after hq
    cases rv
    exact ⟨c, rfl, .bl (!c), H', I', rfl, q⟩
  | .ok .next, hq => exact False.elim hq
  | .ok .brk, hq => exact False.elim hq
  | .ok .cont, hq => exact False.elim hq

/-- repr(x) of data: None, bools, ints, texts, lists, tuples -/
def rRepr (K : PySem.W.Frag) : List V → Hp → VK → Prop := fun xs H Q => ∃ x d, xs = [x] ∧ Dp K H x d ∧ d.showable = true ∧ d.hasDict = false ∧ d.depth ≤ 60 ∧ d.shown.length ≤ sizeLine ∧ Q (.str d.shown) H
theorem call_reprD (bare : Bare X.A) (hu : X.A.units + 64 < cLine) : CallR X (.builtin "repr") (rRepr X.K) := by
  intro pins s σ H xs us Q I r h
  obtain ⟨x, d, rfl, hd, hs, hdict, hdep, hz, q⟩ := h
  cases r with
  | cons rx rn =>
    cases rn
    rename_i u
    obtain ⟨as, R⟩ := Dp.reads I d x u hd rx
    have leaf : ∀ (k : Nat), EP X pins σ Q (.str d.shown k) { s with toks := s.toks + 1 } := fun k => ⟨.str _, H, I.tok _, ⟨_, rfl⟩, q⟩
    cases R with
    | none => exact PySem.P.repr_of_none (leaf _)
    | bool b => exact PySem.P.repr_of_bool (leaf _)
    | int i t => exact PySem.P.repr_of_int (by simpa [PyData.showable] using hs) (leaf _)
    | str z t => exact PySem.P.repr_of_str (leaf _) hz
    | list h1 h2 h3 h4 => exact repr_of_reads' (.list h1 h2 h3 h4) hs (fun z => by rw [hdict] at z; cases z) bare (by omega) (fun _ _ e => e) (fun h' u tk k => ⟨.str _, H, I.kept k, ⟨_, rfl⟩, q⟩) hz
    | tuple h1 h2 h3 h4 => exact repr_of_reads' (.tuple h1 h2 h3 h4) hs (fun z => by rw [hdict] at z; cases z) bare (by omega) (fun _ _ e => e) (fun h' u tk k => ⟨.str _, H, I.kept k, ⟨_, rfl⟩, q⟩) hz
    | dict h1 h2 h3 h4 h5 => exact absurd hd nofun
end
end MG

/-! Defs as callers know them -/
namespace MG
open PySem PySem.Spec PyProof.Rows L2

/-- a def of the module that lets nothing out, as callers know it -/
structure CalG (P : Program) (w : World) (K : PySem.W.Frag) (mg : Str → Option Value) (base : Heap) (k : Nat) (x : Str) (sp : Sp) (dvs : List V) : Prop where
  ex : ∃ (f : Addr) (fd : FuncData) (ps : List Str) (ds : List Value), FnG P w K mg base CX0 k f fd ps sp ∧ mg x = some (.ref f) ∧ PySem.W.keepIn K (.ref f) = true ∧ Binds K fd ps ds ∧ Vals dvs ds
theorem pe_cg {X : Cx} {k j : Nat} {x : Str} {sp : Sp} {dvs : List V} {p pos : Pos} {e : Expr} {es : List Expr} {t : TA}
    (c : CalG X.prog X.w X.K X.mg X.base k x sp dvs) (bare : Bare X.A) (hr : Room j X.A) (hk : k ≤ j) (hg : Gl X x) (ha : PA X (e :: es) t)
    (hdb : (x == ("__debug__" : Str)) = false := by decide)
    (he : starEach (e :: es) X.env = (false, eval e X.env) :: starEach es X.env := by rfl)
    (hpl : (backTo pos (starEach es X.env)).any (·.1) = false := by rfl) : PE X (.Call (.Name x p) (e :: es) [] pos) (tCall sp dvs E0 t) := by
  obtain ⟨f, fd, ps, ds, F, hm, kp, b, d⟩ := c.ex
  exact pe_callG F bare (hr.mono hk) hg hm kp b d pass0 ha hdb he hpl

section
variable {P : Program} {w : World} {K : PySem.W.Frag} {mg : Str → Option Value} {base : Heap}
/-- its body, as a term of rules, and the reading of that term -/
theorem fun_okG {x qual : Str} {st : Stmt} {f : Addr} {fd : FuncData} {N ps : List Str} {k : Nat} {sp : Sp} (F : Fun K x qual st f fd) (S : FnScope N ps (defScope st)) (len : ∀ vs H Q E, sp vs H Q E → vs.length = ps.length)
    (hbody : ∀ (cdv : Value) (A : Around) (outer : List Env) (s : Shared) (H : Hp) (vs : List V) (Q : VK) (E : XK), Bare (A.deeper (envOfC qual (defScope st) s.heap.objs.size f cdv)) →
      Room k (A.deeper (envOfC qual (defScope st) s.heap.objs.size f cdv)) → sp vs H Q E →
      ∃ t, PSs (cxOf CX0 P w K mg base N qual (defScope st) f cdv A outer s H E).nox (defBody st) t ∧ t { nx := fun _ H' => Q .non H', rt := Q } (start N vs) H) : FnG P w K mg base CX0 (k + 1) f fd ps sp := by
  obtain ⟨oc, od, kV, doc, pm, an, cdv, ct, osl, rfl, lk, hcd⟩ := F.ex
  refine fnG_of lk hcd S len ?_
  intro A outer s H vs Q E bare hr hsp
  obtain ⟨t, h, q⟩ := hbody cdv A outer s H vs Q E bare hr hsp
  exact ⟨t, h.nox, q⟩
theorem calG_of {x qual : Str} {st : Stmt} {f : Addr} {fd : FuncData} {N ps : List Str} {k : Nat} {sp : Sp} (F : Fun K x qual st f fd) (hm : mg x = some (.ref f)) (b : Binds K fd ps []) (S : FnScope N ps (defScope st)) (len : ∀ vs H Q E, sp vs H Q E → vs.length = ps.length)
    (hbody : ∀ (cdv : Value) (A : Around) (outer : List Env) (s : Shared) (H : Hp) (vs : List V) (Q : VK) (E : XK), Bare (A.deeper (envOfC qual (defScope st) s.heap.objs.size f cdv)) →
      Room k (A.deeper (envOfC qual (defScope st) s.heap.objs.size f cdv)) → sp vs H Q E →
      ∃ t, PSs (cxOf CX0 P w K mg base N qual (defScope st) f cdv A outer s H E).nox (defBody st) t ∧ t { nx := fun _ H' => Q .non H', rt := Q } (start N vs) H) : CalG P w K mg base (k + 1) x sp [] :=
  ⟨f, fd, ps, [], fun_okG F S len hbody, hm, F.kp, b, .nil⟩
end

/-- the same where nothing need be known of what runs around -/
structure CalF (P : Program) (w : World) (K : PySem.W.Frag) (mg : Str → Option Value) (base : Heap) (k : Nat) (x : Str) (sp : Sp) (dvs : List V) : Prop where
  ex : ∃ (f : Addr) (fd : FuncData) (ps : List Str) (ds : List Value), FnOk P w K mg base CX0 k f fd ps sp ∧ mg x = some (.ref f) ∧ PySem.W.keepIn K (.ref f) = true ∧ Binds K fd ps ds ∧ Vals dvs ds
theorem pe_cf {X : Cx} {k j : Nat} {x : Str} {sp : Sp} {dvs : List V} {p pos : Pos} {e : Expr} {es : List Expr} {t : TA}
    (c : CalF X.prog X.w X.K X.mg X.base k x sp dvs) (hr : Room j X.A) (hk : k ≤ j) (hg : Gl X x) (ha : PA X (e :: es) t)
    (hdb : (x == ("__debug__" : Str)) = false := by decide)
    (he : starEach (e :: es) X.env = (false, eval e X.env) :: starEach es X.env := by rfl)
    (hpl : (backTo pos (starEach es X.env)).any (·.1) = false := by rfl) : PE X (.Call (.Name x p) (e :: es) [] pos) (tCall sp dvs E0 t) := by
  obtain ⟨f, fd, ps, ds, F, hm, kp, b, d⟩ := c.ex
  exact pe_call F (hr.mono hk) hg hm kp b d pass0 ha hdb he hpl
/-- a class that may be made by its name; sp: its __init__ -/
structure MakF (P : Program) (w : World) (K : PySem.W.Frag) (mg : Str → Option Value) (base : Heap) (k : Nat) (x : Str) (C : Addr) (sp : Sp) (dvs : List V) : Prop where
  ex : ∃ (f : Addr) (fd : FuncData) (ps : List Str) (ds : List Value), Mk K C f ∧ FnOk P w K mg base CX0 k f fd ps sp ∧ mg x = some (.ref C) ∧ Binds K fd ps ds ∧ Vals dvs ds
theorem pe_mkf {X : Cx} {k j : Nat} {x : Str} {C : Addr} {sp : Sp} {dvs : List V} {p pos : Pos} {e : Expr} {es : List Expr} {t : TA}
    (c : MakF X.prog X.w X.K X.mg X.base k x C sp dvs) (hr : Room j X.A) (hk : k + 1 ≤ j) (hg : Gl X x) (ha : PA X (e :: es) t)
    (hdb : (x == ("__debug__" : Str)) = false := by decide)
    (he : starEach (e :: es) X.env = (false, eval e X.env) :: starEach es X.env := by rfl)
    (hpl : (backTo pos (starEach es X.env)).any (·.1) = false := by rfl) : PE X (.Call (.Name x p) (e :: es) [] pos) (tMake C sp dvs E0 t) := by
  obtain ⟨f, fd, ps, ds, M, F, hm, b, d⟩ := c.ex
  exact pe_make M F (hr.mono hk) hg hm b d pass0 ha hdb he hpl
/-- one value by place, one by name -/
def one1 {α : Type} : List α → List α → List α
  | [a], [b] => [a, b]
  | _, _ => []
/-- o.m(k = v, ..) -/
def tMethK (C : Addr) (m : Str) (sp : Sp) (gV : List V → List V → List V) (E : XK) (ta : TE) (tk : TA) : TE := fun σ H Q => ta σ H fun x H1 =>
  ∃ a dx fs, x = .ref a ∧ H1 a = some (.ins C dx fs) ∧ fs.lookup m = none ∧ tk σ H1 fun zs H2 => sp (gV [x] zs) H2 Q E
theorem pe_methK0 {X : Cx} {CX : CXT} {k : Nat} {f C : Addr} {fd : FuncData} {ps ks : List Str} {sp : Sp} {E : XK} {m : Str} {pos apos : Pos} {o : Expr} {kws : List Keyword} {ta : TE} {tk : TA}
    {g : List Value → List Value → List Value} {gV : List V → List V → List V} {pl : Sem Bool}
    (he : PE X o ta) (c : Cls X.K C) (hm : Meth X.K C m f) (F : FnOk X.prog X.w X.K X.mg X.base CX k f fd ps sp) (hr : Room k X.A) (hb : KBinds X.K fd ps ks g gV) (hx : Passes CX X E) (hkw : PK X kws tk)
    (hall : (backToKw pos (keywordEach kws X.env)).all (·.1.isSome) = true := by rfl) (hks : (backToKw pos (keywordEach kws X.env)).filterMap (·.1) = ks := by rfl)
    (hpl : ((backTo pos (starEach [] X.env)).any (·.1) || (backToKw pos (keywordEach kws X.env)).any (·.1.isNone)) = false := by rfl)
    (ht : eval (.Call (.Attribute o m apos) [] kws pos) X.env = (do
      let ov ← eval o X.env
      standAt apos.atName
      let (f, first) ← holding [ov] (getMethod ov m pl)
      callWith pos f first (backTo pos (starEach [] X.env)) (backToKw pos (keywordEach kws X.env))) := by rfl) :
    PE X (.Call (.Attribute o m apos) [] kws pos) (tMethK C m sp gV E ta tk) := by
  constructor
  intro pins s σ H Q I h
  refine PySem.W.methodCall_KW (pl := pl) (thn (he.run pins s σ H _ I h) ?_) ht
  rintro u s1 ⟨x, H1, I1, rx, a, dx, fs, ex, ea, l, q⟩
  subst ex
  have eu : u = Value.ref a := rx
  subst eu
  refine getmeth_ok I1 ea c hm l ?_
  refine PySem.W.callWith_KW0 (h₀ := X.base) I.ok.mod.kin hm.kp hall (thn (hkw.run pos pins s1 σ H1 _ I1 q) ?_) hpl
  rintro ws s2 ⟨zs, H2, I2, rz, q2⟩
  refine ⟨I2.kIn, ?_⟩
  rw [hks]
  exact run_fnk (us := [.ref a]) (vs := [.ref a]) F hr hb hx I2 (.cons rfl .nil) rz q2

/-! ### operators, properties and methods of a class, as callers know them -/
section
variable (P : Program) (w : World) (K : PySem.W.Frag) (mg : Str → Option Value) (base : Heap) (k : Nat) (C : Addr)
structure OpF (op : Operator) (sp : Sp) : Prop where
  ex : ∃ (f : Addr) (fd : FuncData) (ps : List Str), OpAt K C op f ∧ OpInt K C op ∧ FnOk P w K mg base CX0 k f fd ps sp ∧ Binds K fd ps []
structure NegF (sp : Sp) : Prop where
  ex : ∃ (f : Addr) (fd : FuncData) (ps : List Str), PySem.W.findIn K (.ref C) "__neg__" = some (some (.ref f)) ∧ PySem.W.isFn K (.ref f) = true ∧ FnOk P w K mg base CX0 k f fd ps sp ∧ Binds K fd ps []
structure EqF (sp : Sp) : Prop where
  ex : ∃ (f : Addr) (fd : FuncData) (ps : List Str), NeAt K C f ∧ FnOk P w K mg base CX0 k f fd ps sp ∧ Binds K fd ps []
structure PropF (x : Str) (sp : Sp) : Prop where
  ex : ∃ (p g : Addr) (fd : FuncData) (ps : List Str), PropOf K C x p g ∧ FnOk P w K mg base CX0 k g fd ps sp ∧ Binds K fd ps []
structure MetF (m : Str) (sp : Sp) (dvs : List V) : Prop where
  ex : ∃ (f : Addr) (fd : FuncData) (ps : List Str) (ds : List Value), Meth K C m f ∧ FnOk P w K mg base CX0 k f fd ps sp ∧ Binds K fd ps ds ∧ Vals dvs ds
structure MetK (m : Str) (sp : Sp) (ks : List Str) (gV : List V → List V → List V) : Prop where
  ex : ∃ (f : Addr) (fd : FuncData) (ps : List Str) (g : List Value → List Value → List Value), Meth K C m f ∧ FnOk P w K mg base CX0 k f fd ps sp ∧ KBinds K fd ps ks g gV
end
section
variable {X : Cx} {k j : Nat} {C : Addr} {sp : Sp} {op : Operator}
theorem op_f (o : OpF X.prog X.w X.K X.mg X.base k C op sp) (hr : Room j X.A) (hk : k ≤ j) : OpR X (binaryOp op) (rOwn C sp E0) := by
  obtain ⟨f, fd, ps, a, i, F, b⟩ := o.ex
  exact op_own a i F (hr.mono hk) b pass0
theorem un_f (o : NegF X.prog X.w X.K X.mg X.base k C sp) (hr : Room j X.A) (hk : k ≤ j) : UnR X (unaryOp .USub) (rNegO C sp E0) := by
  obtain ⟨f, fd, ps, a, i, F, b⟩ := o.ex
  exact un_negO a i F (hr.mono hk) b pass0
theorem eq_f (o : EqF X.prog X.w X.K X.mg X.base k C sp) (hr : Room j X.A) (hk : k ≤ j) : OpR X (compareOp .Eq) (rEqO C sp E0) := by
  obtain ⟨f, fd, ps, n, F, b⟩ := o.ex
  exact op_eqO n.eq n.fn F (hr.mono hk) b pass0
theorem ne_f (o : EqF X.prog X.w X.K X.mg X.base k C sp) (hr : Room j X.A) (hk : k + 1 ≤ j) : OpR X (compareOp .NotEq) (rNeO C sp E0) := by
  obtain ⟨f, fd, ps, n, F, b⟩ := o.ex
  exact op_neO n F (hr.mono hk) b pass0
theorem pe_pf {x : Str} {e : Expr} {pos : Pos} {ta : TE} (o : PropF X.prog X.w X.K X.mg X.base k C x sp) (c : Cls X.K C) (hr : Room j X.A) (hk : k + 1 ≤ j) (he : PE X e ta)
    (hab : attributeBase e x X.env (eval e X.env) = eval e X.env) : PE X (.Attribute e x pos) (tProp C sp [] E0 ta) := by
  obtain ⟨p, g, fd, ps, hp, F, b⟩ := o.ex
  exact pe_prop he c hp F (hr.mono hk) b .nil pass0 hab
theorem pe_mf {m : Str} {pos apos : Pos} {o : Expr} {e : Expr} {es : List Expr} {dvs : List V} {ta : TE} {t : TA} {pl : Sem Bool} (c : MetF X.prog X.w X.K X.mg X.base k C m sp dvs) (cl : Cls X.K C) (hr : Room j X.A) (hk : k ≤ j) (he : PE X o ta) (ha : PA X (e :: es) t)
    (hst : starEach (e :: es) X.env = (false, eval e X.env) :: starEach es X.env := by rfl) (hpl : (backTo pos (starEach es X.env)).any (·.1) = false := by rfl)
    (ht : eval (.Call (.Attribute o m apos) (e :: es) [] pos) X.env = (do
      let ov ← eval o X.env
      standAt apos.atName
      let (f, first) ← holding [ov] (getMethod ov m pl)
      callWith pos f first (backTo pos (starEach (e :: es) X.env)) (backToKw pos (keywordEach [] X.env))) := by rfl) :
    PE X (.Call (.Attribute o m apos) (e :: es) [] pos) (tMeth C m sp dvs E0 ta t) := by
  obtain ⟨f, fd, ps, ds, M, F, b, d⟩ := c.ex
  exact pe_meth (pl := pl) he cl M F (hr.mono hk) b d pass0 ha hst hpl ht
end
/-! ### joining the ways -/
/-- what holds of the value is said once for all ways -/
def tCut (te : TE) : TE := fun σ H Q => ∃ C : VK, te σ H C ∧ ∀ v H', C v H' → Q v H'
theorem pe_cut {X : Cx} {e : Expr} {te : TE} (h : PE X e te) : PE X e (tCut te) := by
  constructor
  rintro pins s σ H Q I ⟨C, h1, h2⟩
  refine wpAny_mono (h.run pins s σ H C I h1) ?_ fun _ _ z => z
  rintro u s' ⟨v, H', J, r, q⟩
  exact ⟨v, H', J, r, h2 v H' q⟩
/-- what holds behind a statement is said once for all ways -/
def tCutS (ts : TS) : TS := fun D σ H => ∃ C : L2.St → Hp → Prop, ts { D with nx := C } σ H ∧ ∀ σ' H', C σ' H' → D.nx σ' H'
theorem ps_cut {X : Cx} {st : Stmt} {ts : TS} (h : PS X st ts) : PS X st (tCutS ts) := by
  constructor
  rintro pins s σ H D I ⟨C, h1, h2⟩
  refine wpAny_mono (h.run pins s σ H { D with nx := C } I h1) ?_ fun _ _ z => z
  intro f s' q
  cases f with
  | next =>
    obtain ⟨σ', H', J, q⟩ := q
    exact ⟨σ', H', J, h2 σ' H' q⟩
  | ret u => exact q
  | brk => exact q
  | cont => exact q

/-! ### isinstance, from what the top says -/
theorem kit_rt {K : PySem.W.Frag} {C : Addr} {T : String} {b : Bool} (hm : PySem.W.kitMeta T = true) (h : PySem.W.subIn K (.ref C) (.type T) = some b) : PySem.W.kitOne K (.ref C) (.type T) = some b := by
  have e : (Value.ref C == Value.type T) = false := beq_eq_false_iff_ne.mpr nofun
  unfold PySem.W.kitOne
  rw [e]
  show (if PySem.W.kitMeta T = true then PySem.W.subIn K (.ref C) (.type T) else none) = some b
  rw [if_pos hm, h]
theorem kit_tr {K : PySem.W.Frag} {C : Addr} {T : String} {b : Bool} (h1 : PySem.W.isClsIn K C = true) (h2 : PySem.W.typeIn K (.ref C) = some (.type "type")) (h : PySem.W.subIn K (.type T) (.ref C) = some b) : PySem.W.kitOne K (.type T) (.ref C) = some b := by
  have e : (Value.type T == Value.ref C) = false := beq_eq_false_iff_ne.mpr nofun
  unfold PySem.W.kitOne
  rw [e]
  show (if ((PySem.W.clsIn K C).isSome && PySem.W.typeIn K (.ref C) == some (.type "type")) = true then PySem.W.subIn K (.type T) (.ref C) else none) = some b
  have h1' : (PySem.W.clsIn K C).isSome = true := h1
  rw [h1', h2, if_pos (by simp), h]
theorem kit_rr {K : PySem.W.Frag} {C : Addr} : PySem.W.kitOne K (.ref C) (.ref C) = some true := by
  unfold PySem.W.kitOne
  rw [if_pos (by simp)]

/-! ### comprehensions, item by item -/
theorem pe_imp {X : Cx} {e : Expr} {t t' : TE} (h : PE X e t) (hi : ∀ σ H Q, t' σ H Q → t σ H Q) : PE X e t' :=
  ⟨fun pins s σ H Q I q => h.run pins s σ H Q I (hi σ H Q q)⟩
theorem ps_imp {X : Cx} {st : Stmt} {t t' : TS} (h : PS X st t) (hi : ∀ D σ H, t' D σ H → t D σ H) : PS X st t' :=
  ⟨fun pins s σ H D I q => h.run pins s σ H D I (hi D σ H q)⟩
/-- [e for x in l], x in slot j: ys are the items of the new list -/
def tMapL (K : PySem.W.Frag) (j : Nat) (tl te : TE) : TE := fun σ H Q => tl σ H fun x H1 => ∃ a xs ys, x = .ref a ∧ SqL K H1 a xs ∧ ys.length = xs.length ∧ xs.length ≤ 100000 ∧
  (∀ (i : Nat) (x y : V) (H' : Hp), xs[i]? = some x → ys[i]? = some y → Same H1 H' → te ((σ.set j none).set j (some x)) H' fun v H'' => v = y ∧ Same H' H'') ∧
  ∀ D H', Same H1 H' → H1 D = none → H' D = some (.lst ys) → Q (.ref D) H'
/-- the same over range(..) -/
def tMapR (j : Nat) (ta : TA) (te : TE) : TE := fun σ H Q => ta σ H fun vs H1 => ∃ (m : Int) (ys : List V), vs = [.int m] ∧ 0 ≤ m ∧ m ≤ 100000 ∧ (ys.length : Int) = m ∧
  (∀ (i : Nat) (y : V) (H' : Hp), ys[i]? = some y → Same H1 H' → te ((σ.set j none).set j (some (.int i))) H' fun v H'' => v = y ∧ Same H' H'') ∧
  ∀ D H', Same H1 H' → H1 D = none → H' D = some (.lst ys) → Q (.ref D) H'
theorem take_one {α : Type} {l : List α} {i : Nat} {x : α} (h : l[i]? = some x) : l.take (i + 1) = l.take i ++ [x] := by
  rw [List.take_succ, h]
  rfl
theorem wipe_one {σ : L2.St} {j : Nat} {x : V} : wipe ((wipe σ [j]).set j (some x)) [j] = wipe σ [j] := by
  show (((σ.set j none).set j (some x)).set j none) = σ.set j none
  rw [List.set_set, List.set_set]
theorem map_core {K : PySem.W.Frag} {te : TE} (mono : ∀ σ H Q Q', (∀ v H', Q v H' → Q' v H') → te σ H Q → te σ H Q') {j : Nat} {σ : L2.St} {H1 : Hp} {Q : VK} {a : Addr} {xs ys : List V} (hl : SqL K H1 a xs) (hn : ys.length = xs.length) (hs : xs.length ≤ 100000)
    (he : ∀ (i : Nat) (x y : V) (H' : Hp), xs[i]? = some x → ys[i]? = some y → Same H1 H' → te ((σ.set j none).set j (some x)) H' fun v H'' => v = y ∧ Same H' H'')
    (k : ∀ D H', Same H1 H' → H1 D = none → H' D = some (.lst ys) → Q (.ref D) H') :
    tLc (fun _ H R => R (Itl K a) H) (gName j) tYes te [j] σ H1 Q := by
  intro D hD
  refine lc_list (K := K) (a := a) (xs := xs) (fun i H' => Same H1 H' ∧ H' D = some (.lst (ys.take i))) ⟨fun c u h => by rw [upd_ne (ne_of_none h hD)]; exact h, upd_same⟩ (fun i H' _ h => h.1.seq hl) ?_ ?_
  · rintro i x H' hi ⟨s, e⟩
    have hi2 : i < xs.length := (List.getElem?_eq_some_iff.mp hi).1
    have hy : ys[i]? = some ys[i] := List.getElem?_eq_getElem (by omega)
    refine ⟨wipe_one, mono _ _ _ _ ?_ (he i x _ H' hi hy s)⟩
    rintro v H2 ⟨rfl, s2⟩
    refine ⟨_, s2 _ _ e, ?_, ?_, ?_⟩
    · rw [List.length_take]
      exact Nat.lt_of_le_of_lt (m := 100000) (by omega) (by decide)
    · intro c o hc
      rw [upd_ne (ne_of_none hc hD)]
      exact s2 _ _ (s _ _ hc)
    · rw [upd_same, take_one hy]
  · rintro H' ⟨s, e⟩
    rw [← hn, List.take_length] at e
    exact k D H' s hD e
theorem tCut_mono {te : TE} : ∀ σ H (Q Q' : VK), (∀ v H', Q v H' → Q' v H') → tCut te σ H Q → tCut te σ H Q' :=
  fun _ _ _ _ hq ⟨C, h1, h2⟩ => ⟨C, h1, fun v H' c => hq v H' (h2 v H' c)⟩
theorem tl_core {K : PySem.W.Frag} {tl te : TE} {j : Nat} {σ : L2.St} {H : Hp} {Q : VK} (q : tMapL K j tl te σ H Q) : tLc (iList K (tCut tl)) (gName j) tYes (tCut te) [j] σ H Q := by
  refine ⟨_, q, ?_⟩
  rintro v H1 ⟨a, xs, ys, rfl, hl, hn, hs, he, k⟩
  exact ⟨a, rfl, ⟨_, hl⟩, map_core tCut_mono hl hn hs (fun i x y H' h1 h2 h3 => ⟨_, he i x y H' h1 h2 h3, fun _ _ c => c⟩) k⟩
theorem pe_map {X : Cx} {K : PySem.W.Frag} {e : Expr} {tl te : TE} {j : Nat} (h : PE X e (tLc (iList K (tCut tl)) (gName j) tYes (tCut te) [j])) : PE X e (tMapL K j tl te) :=
  pe_imp h fun _ _ _ => tl_core
theorem ps_map {X : Cx} {K : PySem.W.Frag} {st : Stmt} {tl te : TE} {j i : Nat} (h : PS X st (tAsg (tLc (iList K (tCut tl)) (gName j) tYes (tCut te) [j]) (gName i))) : PS X st (tAsg (tMapL K j tl te) (gName i)) :=
  ps_imp h fun _ _ _ => tl_core
/-- arguments, cut -/
def tCutA (ta : TA) : TA := fun σ H Q => ∃ C : List V → Hp → Prop, ta σ H C ∧ ∀ vs H', C vs H' → Q vs H'
theorem map_coreR {te : TE} {j : Nat} {σ : L2.St} {H1 : Hp} {Q : VK} {m : Nat} {ys : List V} (hn : ys.length = m) (hs : m ≤ 100000)
    (he : ∀ (i : Nat) (y : V) (H' : Hp), ys[i]? = some y → Same H1 H' → te ((σ.set j none).set j (some (.int i))) H' fun v H'' => v = y ∧ Same H' H'')
    (k : ∀ D H', Same H1 H' → H1 D = none → H' D = some (.lst ys) → Q (.ref D) H') :
    tLc (fun _ H R => R (Itr 0 m) H) (gName j) tYes (tCut te) [j] σ H1 Q := by
  intro D hD
  refine lc_range (lo := 0) (n := m) (fun i H' => Same H1 H' ∧ H' D = some (.lst (ys.take i))) ⟨fun c u h => by rw [upd_ne (ne_of_none h hD)]; exact h, upd_same⟩ ?_ ?_
  · rintro i H' hi ⟨s, e⟩
    have hy : ys[i]? = some ys[i] := List.getElem?_eq_getElem (by omega)
    have e0 : (0 : Int) + (i : Int) = i := Int.zero_add _
    rw [e0]
    refine ⟨wipe_one, _, he i _ H' hy s, ?_⟩
    rintro v H2 ⟨rfl, s2⟩
    refine ⟨_, s2 _ _ e, ?_, ?_, ?_⟩
    · rw [List.length_take]
      exact Nat.lt_of_le_of_lt (m := 100000) (by omega) (by decide)
    · intro c o hc
      rw [upd_ne (ne_of_none hc hD)]
      exact s2 _ _ (s _ _ hc)
    · rw [upd_same, take_one hy]
  · rintro H' ⟨s, e⟩
    rw [← hn, List.take_length] at e
    exact k D H' s hD e
theorem pe_mapR {X : Cx} {e : Expr} {ta : TA} {te : TE} {j : Nat} (mono : ∀ σ H (Q Q' : List V → Hp → Prop), (∀ v H', Q v H' → Q' v H') → ta σ H Q → ta σ H Q')
    (h : PE X e (tLc (iRng1 ta) (gName j) tYes (tCut te) [j])) : PE X e (tMapR j ta te) := by
  refine pe_imp h fun σ H Q q => ?_
  refine mono σ H _ _ ?_ q
  rintro vs H1 ⟨m, ys, rfl, h0, hm, hn, he, k⟩
  exact ⟨m, rfl, by omega, by omega, map_coreR (by omega) (by omega) he k⟩

/-! ### within a comprehension: the written part by its name -/
theorem call_reprK {X : Cx} {K : PySem.W.Frag} (bare : Bare X.A) (hu : X.A.units + 64 < cLine) (hK : X.K = K := by rfl) : CallR X (.builtin "repr") (rRepr K) := hK ▸ call_reprD bare hu
theorem ix_listK {X : Cx} {K : PySem.W.Frag} (hK : X.K = K := by rfl) : IxR X (rIxL K) := hK ▸ ix_list
theorem ix_tupK {X : Cx} {K : PySem.W.Frag} (hK : X.K = K := by rfl) : IxR X (rIxT K) := hK ▸ ix_tup
theorem call_isiK {X : Cx} {K : PySem.W.Frag} (hK : X.K = K := by rfl) : CallR X (.builtin "isinstance") (rIsi K) := hK ▸ call_isi

/-! ### heaps: all that was tracked stays, but for the list at q -/
structure Keep (q : Addr) (H H' : Hp) : Prop where
  all : ∀ b o, H b = some o → b ≠ q → H' b = some o
  hd : ∀ x l, H q = some (.lst (x :: l)) → ∃ l', H' q = some (.lst (x :: l'))
instance {q : Addr} {H H' : Hp} : CoeFun (Keep q H H') (fun _ => ∀ b o, H b = some o → b ≠ q → H' b = some o) := ⟨Keep.all⟩
theorem Keep.refl {q : Addr} {H : Hp} : Keep q H H := ⟨fun _ _ h _ => h, fun x l h => ⟨l, h⟩⟩
theorem Keep.trans {q : Addr} {H H1 H2 : Hp} (a : Keep q H H1) (b : Keep q H1 H2) : Keep q H H2 := ⟨fun c o h n => b.all c o (a.all c o h n) n, fun x l h => by
  obtain ⟨l1, h1⟩ := a.hd x l h
  exact b.hd x l1 h1⟩
theorem Keep.upd {q : Addr} {H H' : Hp} {x : V} {l l' : List V} (a : Keep q H H') (hq : H q = some (.lst (x :: l))) : Keep q H (L2.upd H' q (.lst (x :: l'))) := ⟨fun c u h n => by rw [upd_ne n]; exact a.all c u h n, fun y m h => by
  obtain ⟨rfl, _⟩ := List.cons.inj (HO.lst.inj (Option.some.inj (hq.symm.trans h)))
  exact ⟨l', upd_same⟩⟩
theorem Keep.new {q p : Addr} {H H' : Hp} {o : HO} (a : Keep q H H') (hp : H' p = none) : Keep q H (L2.upd H' p o) := ⟨fun c u h n => by
  have e := a.all c u h n
  rw [upd_ne (ne_of_none e hp)]
  exact e, fun x l h => by
  obtain ⟨l1, h1⟩ := a.hd x l h
  exact ⟨l1, by rw [upd_ne (ne_of_none h1 hp)]; exact h1⟩⟩
theorem Keep.same {q : Addr} {H H1 H2 : Hp} (a : Keep q H H1) (b : Same H1 H2) : Keep q H H2 := ⟨fun c o h n => b c o (a.all c o h n), fun x l h => by
  obtain ⟨l1, h1⟩ := a.hd x l h
  exact ⟨l1, b _ _ h1⟩⟩
theorem Same.keep {q : Addr} {H H' : Hp} (a : Same H H') : Keep q H H' := ⟨fun c o h _ => a c o h, fun x l h => ⟨l, a _ _ h⟩⟩
theorem Same.new {p : Addr} {H H' : Hp} {o : HO} (a : Same H H') (hp : H' p = none) : Same H (L2.upd H' p o) := fun c u h => by
  have e := a c u h
  rw [upd_ne (ne_of_none e hp)]
  exact e
theorem Keep.toSame {q : Addr} {H H' : Hp} (a : Keep q H H') (hq : H q = none) : Same H H' := fun c o h => a.all c o h (ne_of_none h hq)
theorem Keep.free {q p : Addr} {H H' : Hp} (a : Keep q H H') (hne : p ≠ q) (h : H' p = none) : H p = none := by
  cases e : H p with
  | none => rfl
  | some o => exact nomatch h.symm.trans (a.all p o e hne)
theorem pe_mk_ {X : Cx} {k j : Nat} {C : Addr} {sp : Sp} {m : Str} {pos apos : Pos} {o : Expr} {kws : List Keyword} {ks : List Str} {gV : List V → List V → List V} {ta : TE} {tk : TA} {pl : Sem Bool}
    (c : MetK X.prog X.w X.K X.mg X.base k C m sp ks gV) (cl : Cls X.K C) (hr : Room j X.A) (hk : k ≤ j) (he : PE X o ta) (hkw : PK X kws tk)
    (hall : (backToKw pos (keywordEach kws X.env)).all (·.1.isSome) = true := by rfl) (hks : (backToKw pos (keywordEach kws X.env)).filterMap (·.1) = ks := by rfl)
    (hpl : ((backTo pos (starEach [] X.env)).any (·.1) || (backToKw pos (keywordEach kws X.env)).any (·.1.isNone)) = false := by rfl)
    (ht : eval (.Call (.Attribute o m apos) [] kws pos) X.env = (do
      let ov ← eval o X.env
      standAt apos.atName
      let (f, first) ← holding [ov] (getMethod ov m pl)
      callWith pos f first (backTo pos (starEach [] X.env)) (backToKw pos (keywordEach kws X.env))) := by rfl) :
    PE X (.Call (.Attribute o m apos) [] kws pos) (tMethK C m sp gV E0 ta tk) := by
  obtain ⟨f, fd, ps, g, M, F, b⟩ := c.ex
  exact pe_methK0 (pl := pl) he cl M F (hr.mono hk) b pass0 hkw hall hks hpl ht
end MG

/-! str, repr and bool of an own instance -/
namespace MG
open PySem PySem.Spec PyProof.Rows L2

section
variable {prog : Program} {w : World} {A : Around} {E : Value → Shared → Prop} {s : Shared} {K : PySem.W.Frag} {x C f : Addr} {ox : Obj} {od : Option Obj} {m : Str → Option Value} {L : Addr} {h₀ : Heap}
open Builtin in
theorem bool_own {Q : Value → Shared → Prop} (F : Fr h₀ L s.heap m) (X₀ : K.In h₀) (I : PySem.W.InstAt s.heap x ox C od)
    (hs : PySem.W.findIn K (.ref C) "__bool__" = some (some (.ref f))) (hf : PySem.W.isFn K (.ref f) = true)
    (h : wpAny (model prog w) A.in1.in1 (call (.ref f) [.ref x]) (fun v s' => ∃ b, v = .bool b ∧ Q (.bool b) s') E s) :
    wpAny (model prog w) A (call (.type "bool") [.ref x]) Q E s := by
  refine callType_codes (T := "bool") (Bi := Builtin.«object.__init__») (Q₁ := fun r s₁ => ∃ b, r = .bool b ∧ Q r s₁) PySem.F.called_bool (PySem.F.typeCall_bool_1 _) PySem.F.entry_object_init ?_ ?_
  · refine codeAny_of_tree ?_
    show wpAny _ A.in1.in1 (do checkBuiltinCall "bool.__new__" ⟨[.type "bool", .ref x], []⟩; again (.builtin "bool.__new__" ⟨[.type "bool", .ref x], []⟩)) _ _ s
    refine wpAny_bind (wpAny_of_eq (PySem.F.newCall_bool_1 _) (wpAny_pure ⟨plainId_quiet (by decide +kernel) _, codeAny_builtin PySem.F.entry_bool_new ?_⟩))
    rw [Around.under_plainId (by decide +kernel) _]
    have f1 := PySem.F.conv_sub_bool
    have tr : ∀ {R : Bool → Shared → Prop}, (∀ b s', Q (.bool b) s' → R b s') → wpAny (model prog w) A.in1.in1 (truthy (.ref x)) R E s := fun {R} hr =>
      PySem.W.truthy_K F X₀ I hs hf (wpAny_mono h (fun v s' z => match v, z with | _, ⟨b, rfl, q⟩ => hr b s' q) fun _ _ z => z)
    unfold Builtin.«bool.__new__»
    repeat (any_goals (first | assumption | (refine wpAny_bind (m := truthy (.ref x)) (tr fun b s' q => ?_)) | wp_step))
    all_goals first | exact wpAny_pure ⟨_, rfl, q⟩ | exact ⟨_, rfl, q⟩ | skip
  · rintro obj s₁ ⟨b, rfl, hq⟩
    exact ⟨PySem.typeIs_bool _ _, PySem.F.args_object_init_2 _ _, object_init_meets PySem.F.called_bool.init.lookup PySem.F.called_bool.made (by decide) prog w A.in1 _ s₁ ⟨PySem.typeIs_bool _ _, rfl, hq⟩⟩
end

section
variable {X : Cx} {CX : CXT} {k : Nat} {C f a : Addr} {fd : FuncData} {ps : List Str} {sp : Sp} {E : XK} {pins : List (Addr × Obj)} {σ : L2.St} {H : Hp} {s : Shared} {Q : VK}
/-- the callee, below a builtin -/
theorem run_in1 (F : FnOk X.prog X.w X.K X.mg X.base CX k f fd ps sp) (hr : Room (k + 1) X.A) (hb : Binds X.K fd ps []) (hx : Passes CX X E) (I : Inv X pins σ H s) (hsp : sp [.ref a] H Q E) :
    wpAny (model X.prog X.w) X.A.in1 (call (.ref f) [.ref a]) (EP X pins σ Q) X.xe s := by
  have hl := F.len _ _ _ _ hsp
  refine wpAny_call (codeAny_mono (F.run X.A.in1 X.stack s H ⟨[.ref a], []⟩ [.ref a] [.ref a] Q E hr.in1 I.env0.in1 (by
    have := hb s [.ref a] I.kIn (by simpa using hl)
    simpa using this) (.cons rfl .nil) hsp) fun r s' hq => ?_)
  match r, hq with
  | .error e, hq => exact hx pins σ H s e s' I hq
  | .ok (.ret z), hq => exact I.after hq
  | .ok .next, hq => exact False.elim hq
  | .ok .brk, hq => exact False.elim hq
  | .ok .cont, hq => exact False.elim hq
theorem run_in2 (F : FnOk X.prog X.w X.K X.mg X.base CX k f fd ps sp) (hr : Room (k + 2) X.A) (hb : Binds X.K fd ps []) (hx : Passes CX X E) (I : Inv X pins σ H s) (hsp : sp [.ref a] H Q E) :
    wpAny (model X.prog X.w) X.A.in1.in1 (call (.ref f) [.ref a]) (EP X pins σ Q) X.xe s := by
  have hl := F.len _ _ _ _ hsp
  refine wpAny_call (codeAny_mono (F.run X.A.in1.in1 X.stack s H ⟨[.ref a], []⟩ [.ref a] [.ref a] Q E hr.in1.in1 I.env0.in1.in1 (by
    have := hb s [.ref a] I.kIn (by simpa using hl)
    simpa using this) (.cons rfl .nil) hsp) fun r s' hq => ?_)
  match r, hq with
  | .error e, hq => exact hx pins σ H s e s' I hq
  | .ok (.ret z), hq => exact I.after hq
  | .ok .next, hq => exact False.elim hq
  | .ok .brk, hq => exact False.elim hq
  | .ok .cont, hq => exact False.elim hq
/-- str(x), repr(x): the own def's text -/
def rTxtO (C : Addr) (sp : Sp) (E : XK) : List V → Hp → VK → Prop := fun xs H Q => ∃ a dx fs, xs = [.ref a] ∧ H a = some (.ins C dx fs) ∧ sp [.ref a] H (fun v H' => ∃ z, v = .str z ∧ Q v H') E
/-- bool(x) -/
def rBoolO (C : Addr) (sp : Sp) (E : XK) : List V → Hp → VK → Prop := fun xs H Q => ∃ a dx fs, xs = [.ref a] ∧ H a = some (.ins C dx fs) ∧ sp [.ref a] H (fun v H' => ∃ z, v = .bl z ∧ Q v H') E
theorem strBack {u : Value} {s' : Shared} (h : EP X pins σ (fun v H' => ∃ z, v = .str z ∧ Q v H') u s') : PySem.W.StrBack (EP X pins σ Q) u s' := by
  obtain ⟨v, H', I, r, z, rfl, q⟩ := h
  obtain ⟨t, rfl⟩ := r
  exact ⟨.str z, H', I, ⟨t, rfl⟩, q⟩
theorem call_strO (at_ : PySem.W.findIn X.K (.ref C) "__str__" = some (some (.ref f))) (fn : PySem.W.isFn X.K (.ref f) = true)
    (F : FnOk X.prog X.w X.K X.mg X.base CX k f fd ps sp) (hr : Room (k + 2) X.A) (hb : Binds X.K fd ps []) (hx : Passes CX X E) : CallR X (.type "str") (rTxtO C sp E) := by
  intro pins s σ H xs us Q I r h
  obtain ⟨a, dx, fs, rfl, ha, hsp⟩ := h
  obtain ⟨u, rfl, ru⟩ := vals1 r
  cases ru
  obtain ⟨mA, J, _⟩ := ins_get I.hok ha
  obtain ⟨od, J, _⟩ := J.look
  exact PySem.W.kso_call (Nat.lt_trans (by show X.A.units + 1 + 1 < X.A.units + 16 * (k + 2) + 200; omega) hr.un) I.kIn J at_ fn (wpAny_mono (run_in2 F hr hb hx I hsp) (fun _ _ q => strBack q) fun _ _ e => e)
theorem call_reprO (at_ : PySem.W.findIn X.K (.ref C) "__repr__" = some (some (.ref f))) (fn : PySem.W.isFn X.K (.ref f) = true)
    (F : FnOk X.prog X.w X.K X.mg X.base CX k f fd ps sp) (hr : Room (k + 1) X.A) (hb : Binds X.K fd ps []) (hx : Passes CX X E) : CallR X (.builtin "repr") (rTxtO C sp E) := by
  intro pins s σ H xs us Q I r h
  obtain ⟨a, dx, fs, rfl, ha, hsp⟩ := h
  obtain ⟨u, rfl, ru⟩ := vals1 r
  cases ru
  obtain ⟨mA, J, _⟩ := ins_get I.hok ha
  obtain ⟨od, J, _⟩ := J.look
  obtain ⟨m, hF⟩ := I.fr
  exact PySem.W.repr_K (Nat.lt_trans (by show X.A.units + 1 < X.A.units + 16 * (k + 1) + 200; omega) hr.un) hF I.ok.mod.kin J at_ fn (wpAny_mono (run_in1 F hr hb hx I hsp) (fun _ _ q => strBack q) fun _ _ e => e)
theorem call_boolO (at_ : PySem.W.findIn X.K (.ref C) "__bool__" = some (some (.ref f))) (fn : PySem.W.isFn X.K (.ref f) = true)
    (F : FnOk X.prog X.w X.K X.mg X.base CX k f fd ps sp) (hr : Room (k + 2) X.A) (hb : Binds X.K fd ps []) (hx : Passes CX X E) : CallR X (.type "bool") (rBoolO C sp E) := by
  intro pins s σ H xs us Q I r h
  obtain ⟨a, dx, fs, rfl, ha, hsp⟩ := h
  obtain ⟨u, rfl, ru⟩ := vals1 r
  cases ru
  obtain ⟨mA, J, _⟩ := ins_get I.hok ha
  obtain ⟨od, J, _⟩ := J.look
  obtain ⟨m, hF⟩ := I.fr
  refine bool_own hF I.ok.mod.kin J at_ fn (wpAny_mono (run_in2 F hr hb hx I hsp) ?_ fun _ _ e => e)
  rintro u s' ⟨v, H', I', r, z, rfl, q⟩
  cases r
  exact ⟨z, rfl, .bl z, H', I', rfl, q⟩
end
section
variable (P : Program) (w : World) (K : PySem.W.Frag) (mg : Str → Option Value) (base : Heap) (k : Nat) (C : Addr)
/-- a double-underscore method of one parameter -/
structure DunF (nm : Str) (sp : Sp) : Prop where
  ex : ∃ (f : Addr) (fd : FuncData) (ps : List Str), PySem.W.findIn K (.ref C) nm = some (some (.ref f)) ∧ PySem.W.isFn K (.ref f) = true ∧ FnOk P w K mg base CX0 k f fd ps sp ∧ Binds K fd ps []
end
section
variable {X : Cx} {k j : Nat} {C : Addr} {sp : Sp}
theorem str_f (o : DunF X.prog X.w X.K X.mg X.base k C "__str__" sp) (hr : Room j X.A) (hk : k + 2 ≤ j) : CallR X (.type "str") (rTxtO C sp E0) := by
  obtain ⟨f, fd, ps, a, i, F, b⟩ := o.ex
  exact call_strO a i F (hr.mono hk) b pass0
theorem repr_f (o : DunF X.prog X.w X.K X.mg X.base k C "__repr__" sp) (hr : Room j X.A) (hk : k + 1 ≤ j) : CallR X (.builtin "repr") (rTxtO C sp E0) := by
  obtain ⟨f, fd, ps, a, i, F, b⟩ := o.ex
  exact call_reprO a i F (hr.mono hk) b pass0
theorem bool_f (o : DunF X.prog X.w X.K X.mg X.base k C "__bool__" sp) (hr : Room j X.A) (hk : k + 2 ≤ j) : CallR X (.type "bool") (rBoolO C sp E0) := by
  obtain ⟨f, fd, ps, a, i, F, b⟩ := o.ex
  exact call_boolO a i F (hr.mono hk) b pass0
end

section
variable {prog : Program} {w : World} {A : Around} {E : Value → Shared → Prop} {s : Shared} {K : PySem.W.Frag} {x C L f : Addr} {h₀ : Heap} {m : Str → Option Value} {ox : Obj} {od : Option Obj} {b tb : Value}
theorem objNe_any (X : K.In s.heap) (I : PySem.W.InstAt s.heap x ox C od) (hs : PySem.W.findIn K (.ref C) "__eq__" = some (some (.ref f))) (hf : PySem.W.isFn K (.ref f) = true)
    (hu : A.units < cLine) {Q : Fin → Shared → Prop}
    (hcall : wpAny (model prog w) A (call (.ref f) [.ref x, b]) (fun v s' => ∃ c, v = .bool c ∧ Q (.done (.ret (.bool (!c)))) s') E s) :
    wpAny (model prog w) A (Builtin.«object.__ne__» ⟨[.ref x, b], []⟩) Q E s := by
  unfold Builtin.«object.__ne__»
  repeat (first
    | with_reducible refine wpAny_cRoomFor hu ?_
    | (refine wpAny_bind (m := callSpecialIfBound? (.ref x) (Str.ofString "__eq__") [b])
        (PySem.W.ifBound_K X I hs hf (wpAny_mono hcall (fun r s' hr => ?_) fun _ _ e => e)))
    | wp_step)
  obtain ⟨c, rfl, hq⟩ := hr
  repeat (first | exact hq | exact wpAny_pure hq | exact wpAny_truthy_bool hq | (refine wpAny_bind (m := truthy (.bool _)) (wpAny_truthy_bool ?_)) | wp_step)
theorem ne_any (X : K.In s.heap) (I : PySem.W.InstAt s.heap x ox C od) (hb : PySem.W.Looks (model prog w) s.heap (typeOf b) tb) (hn : PySem.W.notFirst K C tb = true)
    (n : NeAt K C f) (ha : ∀ y, argsOk "object.__ne__" ⟨[y, b], []⟩) (hu : A.units + 1 < cLine) {Q : Value → Shared → Prop}
    (hcall : wpAny (model prog w) A.in1 (call (.ref f) [.ref x, b]) (fun v s' => ∃ c, v = .bool c ∧ Q (.bool (!c)) s') E s) :
    wpAny (model prog w) A (richCompare .NotEq (.ref x) b) Q E s := by
  have sub : PySem.W.Looks (model prog w) s.heap (isInstance (.ref x) (.type "object")) true := I.type.andThen (PySem.W.looks_subIn X n.sub)
  have one : wpAny (model prog w) A (tryCompare (.ref x) "__ne__" b) (fun r s' => ∃ v, r = some v ∧ Q v s') E s := by
    simp only [tryCompare]
    refine wpAny_bind (ifBound_ne X I n.ne (wpAny_call (codeAny_call_builtin PySem.F.cmp_object.ne.plain PySem.F.cmpEntry_ne
      (PySem.W.check_slot PySem.F.cmpKind_ne PySem.F.cmpSplit_ne sub (ha _) ?_))))
    refine objNe_any (A := A.in1) X I n.eq n.fn hu (wpAny_mono hcall (fun v s' hv => ?_) fun _ _ e => e)
    obtain ⟨c, rfl, hq⟩ := hv
    first | exact ⟨c, rfl, wpAny_pure ⟨_, rfl, hq⟩⟩ | exact ⟨c, rfl, wpAny_pure (wpAny_pure ⟨_, rfl, hq⟩)⟩ | exact ⟨c, rfl, _, rfl, hq⟩
  unfold richCompare
  simp only [oneThing_ref]
  refine wpAny_holding (wpAny_bind (wpAny_cRoomFor (Nat.lt_of_succ_lt hu) ?_))
  refine wpAny_bind (I.type.here (wpAny_bind (hb.here ?_)))
  split
  · rename_i q
    have e : PySem.W.subIn K tb (.ref C) = some false := by
      rcases Bool.or_eq_true_iff.mp hn with z | z
      · rw [beq_iff_eq.mp z] at q
        simp at q
      · exact beq_iff_eq.mp z
    refine wpAny_bind ((PySem.W.looks_subIn X e).here ?_)
    simp only [Bool.false_eq_true, if_false]
    refine wpAny_bind (wpAny_mono one (fun v s' hv => ?_) fun _ _ e => e)
    obtain ⟨c, rfl, hq⟩ := hv
    exact wpAny_pure hq
  · refine wpAny_bind (wpAny_pure ?_)
    simp only [Bool.false_eq_true, if_false]
    refine wpAny_bind (wpAny_mono one (fun v s' hv => ?_) fun _ _ e => e)
    obtain ⟨c, rfl, hq⟩ := hv
    exact wpAny_pure hq
end
section
variable {X : Cx}
/-- x == y, x of the class at C with its own ==, y anything -/
def rEqA (K : PySem.W.Frag) (C : Addr) (sp : Sp) (E : XK) : R2 := fun x y H Q => ∃ a dx fs t, x = .ref a ∧ H a = some (.ins C dx fs) ∧ TyX K H y t ∧ PySem.W.notFirst K C t = true ∧ sp [x, y] H Q E
def rNeA (K : PySem.W.Frag) (C : Addr) (sp : Sp) (E : XK) : R2 := fun x y H Q => ∃ a dx fs t, x = .ref a ∧ H a = some (.ins C dx fs) ∧ TyX K H y t ∧ PySem.W.notFirst K C t = true ∧ sp [x, y] H (fun v H' => ∃ c, v = .bl c ∧ Q (.bl (!c)) H') E
theorem op_eqA {CX : CXT} {k : Nat} {C f : Addr} {fd : FuncData} {ps : List Str} {sp : Sp} {E : XK} (n : NeAt X.K C f)
    (F : FnOk X.prog X.w X.K X.mg X.base CX k f fd ps sp) (hr : Room k X.A) (hb : Binds X.K fd ps []) (hx : Passes CX X E) : OpR X (compareOp .Eq) (rEqA X.K C sp E) := by
  intro pins s σ H x y v u Q I rx ry h
  obtain ⟨a, dx, fs, t, rfl, ha, ty, hn, hsp⟩ := h
  cases rx
  obtain ⟨mA, J, _⟩ := ins_get I.hok ha
  obtain ⟨od, J, _⟩ := J.look
  obtain ⟨Z, kz, hz, _⟩ := kit_of I ry ty
  obtain ⟨m, hF⟩ := I.fr
  refine PySem.W.cmp_K (op := .Eq) hr.units0 hF I.ok.mod.kin J (kz.ty _ _ I.kIn hz) hn n.eq n.fn ?_
  exact wpAny_mono (run_fn (vs := [.ref a, y]) F hr hb .nil hx I (.cons rfl (.cons ry .nil)) (by rw [List.append_nil]; exact hsp))
    (fun _ _ hq => match hq with | ⟨_, _, _, r, _⟩ => back_of r hq) fun _ _ e => e
theorem op_neA {CX : CXT} {k : Nat} {C f : Addr} {fd : FuncData} {ps : List Str} {sp : Sp} {E : XK} (n : NeAt X.K C f)
    (F : FnOk X.prog X.w X.K X.mg X.base CX k f fd ps sp) (hr : Room (k + 1) X.A) (hb : Binds X.K fd ps []) (hx : Passes CX X E) : OpR X (compareOp .NotEq) (rNeA X.K C sp E) := by
  intro pins s σ H x y v u Q I rx ry h
  obtain ⟨a, dx, fs, t, rfl, ha, ty, hn, hsp⟩ := h
  cases rx
  obtain ⟨mA, J, _⟩ := ins_get I.hok ha
  obtain ⟨od, J, _⟩ := J.look
  obtain ⟨Z, kz, hz, _⟩ := kit_of I ry ty
  refine ne_any I.kIn J (kz.ty _ _ I.kIn hz) hn n (fun z => PySem.F.cmpArgs_ne z u) (Nat.lt_trans (by omega) hr.un) ?_
  have hl := F.len _ _ _ _ hsp
  refine wpAny_call (codeAny_mono (F.run X.A.in1 X.stack s H ⟨[.ref a, u], []⟩ [.ref a, u] [.ref a, y] _ E hr.in1 I.env0.in1 (by
    have := hb s [.ref a, u] I.kIn (by simpa using hl)
    simpa using this) (.cons rfl (.cons ry .nil)) hsp) fun r s' hq => ?_)
  match r, hq with
  | .error e, hq => exact hx pins σ H s e s' I hq
  | .ok (.ret z), hq =>
    obtain ⟨v, H', I', rv, c, rfl, q⟩ := I.after hq
    cases rv
    exact ⟨c, rfl, .bl (!c), H', I', rfl, q⟩
  | .ok .next, hq => exact False.elim hq
  | .ok .brk, hq => exact False.elim hq
  | .ok .cont, hq => exact False.elim hq
variable {k j : Nat} {C : Addr} {sp : Sp} {K : PySem.W.Frag}
theorem eq_a (o : EqF X.prog X.w X.K X.mg X.base k C sp) (hr : Room j X.A) (hk : k ≤ j) (hK : X.K = K := by rfl) : OpR X (compareOp .Eq) (rEqA K C sp E0) := by
  obtain ⟨f, fd, ps, n, F, b⟩ := o.ex
  exact hK ▸ op_eqA n F (hr.mono hk) b pass0
theorem ne_a (o : EqF X.prog X.w X.K X.mg X.base k C sp) (hr : Room j X.A) (hk : k + 1 ≤ j) (hK : X.K = K := by rfl) : OpR X (compareOp .NotEq) (rNeA K C sp E0) := by
  obtain ⟨f, fd, ps, n, F, b⟩ := o.ex
  exact hK ▸ op_neA n F (hr.mono hk) b pass0
end
end MG

/-! repr of lists and tuples that hold own instances -/
namespace MG
open PySem PySem.Spec PyProof.Rows L2
open Builtin.List Builtin.Tuple

/-- a builtin that shows a container: little room -/
structure Lit (A : Around) (c : Code) : Prop where
  frames : (A.under c).frames = A.frames
  handled : (A.under c).handled = A.handled
  depth : (A.under c).depth ≤ A.depth + 1
  units : (A.under c).units = A.units + 1
  guard : c.isGuard = true
/-- near the frame of X: its frames, its handled exception, room -/
structure Near (X : Cx) (k : Nat) (A : Around) : Prop where
  fr : A.frames = X.A.frames
  hn : A.handled = X.A.handled
  room : L2H.RoomH k A
theorem Near.mono {X : Cx} {j k : Nat} {A : Around} (n : Near X k A) (h : j ≤ k) : Near X j A := ⟨n.fr, n.hn, n.room.mono h⟩
theorem Near.line {X : Cx} {k : Nat} {A : Around} (n : Near X k A) : A.units < cLine := by have := n.room.un; omega
theorem Near.in1 {X : Cx} {k : Nat} {A : Around} (n : Near X (k + 1) A) : Near X k A.in1 :=
  ⟨n.fr, n.hn, by have := n.room.dp; show A.depth + 3 * k + 5 < _; omega, by have := n.room.un; show A.units + 1 + 16 * k + 200 < _; omega⟩
theorem Near.self {X : Cx} {k : Nat} (r : L2H.RoomH k X.A) : Near X k X.A := ⟨rfl, rfl, r⟩
theorem Lit.near {X : Cx} {k : Nat} {A : Around} {c : Code} (l : Lit A c) (n : Near X (k + 1) A) : Near X k (A.under c) :=
  ⟨l.frames.trans n.fr, l.handled.trans n.hn, by have := n.room.dp; have := l.depth; omega, by have := n.room.un; rw [l.units]; omega⟩
theorem lit_list (A : Around) (args : Args) : Lit A (.builtin "list.__repr__.loop" args) where
  frames := by first | rfl | simp [Around.under, Code.envs, Code.isFrame, pushEnvs]
  handled := by first | rfl | simp [Around.under]
  depth := by first | exact Nat.le_refl _ | simp [Around.under, Code.weight, Code.isCreation, Code.isGuard, Code.isCaller, Code.frames, Code.isFrame, guardIds]
  units := by first | rfl | simp [Around.under, Code.cUnits, Code.frames, Code.isFrame]
  guard := by
    show guardIds.contains "list.__repr__.loop" = true
    decide +kernel
theorem lit_tuple (A : Around) (args : Args) : Lit A (.builtin "tuple.__repr__" args) where
  frames := by first | rfl | simp [Around.under, Code.envs, Code.isFrame, pushEnvs]
  handled := by first | rfl | simp [Around.under]
  depth := by first | exact Nat.le_refl _ | simp [Around.under, Code.weight, Code.isCreation, Code.isGuard, Code.isCaller, Code.frames, Code.isFrame, guardIds]
  units := by first | rfl | simp [Around.under, Code.cUnits, Code.frames, Code.isFrame]
  guard := by
    show guardIds.contains "tuple.__repr__" = true
    decide +kernel
theorem lit_tupleU (A : Around) (args : Args) : Lit A (.builtin "tuple.__repr__.under" args) where
  frames := by first | rfl | simp [Around.under, Code.envs, Code.isFrame, pushEnvs]
  handled := by first | rfl | simp [Around.under]
  depth := by first | exact Nat.le_refl _ | simp [Around.under, Code.weight, Code.isCreation, Code.isGuard, Code.isCaller, Code.frames, Code.isFrame, guardIds]
  units := by first | rfl | simp [Around.under, Code.cUnits, Code.frames, Code.isFrame]
  guard := by
    show guardIds.contains "tuple.__repr__.under" = true
    decide +kernel
theorem lit_dict (A : Around) (args : Args) : Lit A (.builtin "dict.__repr__" args) where
  frames := by first | rfl | simp [Around.under, Code.envs, Code.isFrame, pushEnvs]
  handled := by first | rfl | simp [Around.under]
  depth := by first | exact Nat.le_refl _ | simp [Around.under, Code.weight, Code.isCreation, Code.isGuard, Code.isCaller, Code.frames, Code.isFrame, guardIds]
  units := by first | rfl | simp [Around.under, Code.cUnits, Code.frames, Code.isFrame]
  guard := by
    show guardIds.contains "dict.__repr__" = true
    decide +kernel
theorem lit_dictU (A : Around) (args : Args) : Lit A (.builtin "dict.__repr__.under" args) where
  frames := by first | rfl | simp [Around.under, Code.envs, Code.isFrame, pushEnvs]
  handled := by first | rfl | simp [Around.under]
  depth := by first | exact Nat.le_refl _ | simp [Around.under, Code.weight, Code.isCreation, Code.isGuard, Code.isCaller, Code.frames, Code.isFrame, guardIds]
  units := by first | rfl | simp [Around.under, Code.cUnits, Code.frames, Code.isFrame]
  guard := by
    show guardIds.contains "dict.__repr__.under" = true
    decide +kernel
theorem same_tup {K : PySem.W.Frag} {H H' : Hp} {a : Addr} {xs : List V} (e : Same H H') (h : SqT K H a xs) : SqT K H' a xs := by
  rcases h with (h | ⟨o, h⟩) | h
  · exact .inl (.inl (e _ _ h))
  · exact .inl (.inr ⟨o, e _ _ h⟩)
  · exact .inr h
section
variable {X : Cx}
/-- what is shown of x is t, wherever the things of H stand; as: the containers within -/
def Rp (X : Cx) (σ : L2.St) (H : Hp) (as : List Addr) (k : Nat) (x : V) (t : Str) : Prop :=
  ∀ (u : Value), RelV x u → ∀ (b : Nat), b + t.length ≤ sizeLine → ∀ (A : Around) (g : List Code), Near X k A → A.guards = some g → (∀ a ∈ as, Clear g a) →
    ∀ (pins : List (Addr × Obj)) (s : Shared) (H1 : Hp), Inv X pins σ H1 s → Same H H1 → ∀ (Q : Str → Shared → Prop) (E : Value → Shared → Prop),
      (∀ s' H2, Inv X pins σ H2 s' → Same H1 H2 → Q t s') → wpAny (model X.prog X.w) A (pyReprUnder b u) Q E s
variable {σ : L2.St} {H H' : Hp} {as as' : List Addr} {k k' : Nat} {x : V} {t : Str}
theorem Rp.same (h : Rp X σ H as k x t) (s : Same H H') : Rp X σ H' as k x t := fun u ru b hb A g n hg hc pins s1 H1 I s2 Q E q => h u ru b hb A g n hg hc pins s1 H1 I (s.trans s2) Q E q
theorem Rp.more (h : Rp X σ H as k x t) (m : ∀ a ∈ as, a ∈ as') : Rp X σ H as' k x t := fun u ru b hb A g n hg hc => h u ru b hb A g n hg fun a ha => hc a (m a ha)
theorem Rp.mono (h : Rp X σ H as k x t) (hk : k ≤ k') : Rp X σ H as k' x t := fun u ru b hb A g n hg hc => h u ru b hb A g (n.mono hk) hg hc
theorem Rp.is (h : ∀ u, RelV x u → ReprIs X.prog X.w u t) : Rp X σ H as k x t := fun u ru b hb A g n hg hc pins s H1 I s2 Q E q => h u ru b hb A E s Q fun tk => q _ _ (I.tok tk) (Same.refl H1)
theorem Rp.int {i : Int} (hi : i.natAbs.log2 < 1920) : Rp X σ H as k (.int i) (toString i) := Rp.is fun u ru => by
  obtain ⟨tk, rfl⟩ := ru
  exact .int tk hi
theorem Rp.bl {b : Bool} : Rp X σ H as k (.bl b) (if b then "True" else "False") := Rp.is fun u ru => by
  cases ru
  exact .bool b
theorem Rp.non : Rp X σ H as k .non "None" := Rp.is fun u ru => by
  cases ru
  exact .none
theorem Rp.str {z : Str} (hz : (reprText z).length ≤ sizeLine) : Rp X σ H as k (.str z) (reprText z) := Rp.is fun u ru => by
  obtain ⟨tk, rfl⟩ := ru
  exact .str z tk hz

/-! an own instance -/
section
variable {M : Model} {A : Around} {E : Value → Shared → Prop} {s : Shared} {K : PySem.W.Frag} {y C f : Addr} {ox : Obj} {od : Option Obj}
theorem underBy_own {nm : Str} {fin : Value → List Value → Sem Value} {Q : Option Value → Shared → Prop} (X0 : K.In s.heap) (I : PySem.W.InstAt s.heap y ox C od) (hs : PySem.W.findIn K (.ref C) nm = some (some (.ref f))) (hf : PySem.W.isFn K (.ref f) = true)
    (h : wpAny M A (fin (.ref f) [.ref y]) (fun v => Q (some v)) E s) : wpAny M A (callSpecialIfBoundBy? fin (.ref y) nm) Q E s := by
  have last : wpAny M A (fin (.ref f) [.ref y] >>= fun v => pure (some v)) Q E s := wpAny_bind (wpAny_mono h (fun _ _ q => wpAny_pure q) fun _ _ q => q)
  have bound := (PySem.W.bind_fn (M := M) X0 (.ref y) (beq_iff_eq.mp hf))
  unfold callSpecialIfBoundBy? bindSpecialIfBound?
  refine wpAny_holding (wpAny_bind (wpAny_bind (wpAny_bind (I.type.here ((PySem.W.looks_findIn X0 hs).here (wpAny_bind (wpAny_askSetting (wpAny_ite ?_))))))))
  split
  · exact wpAny_bind (bound.here (wpAny_pure last))
  · exact wpAny_tryCatch (wpAny_bind (bound.here (wpAny_pure last)))
theorem under_own {b : Nat} {Q : Value → Shared → Prop} (hu : A.units < cLine) (X0 : K.In s.heap) (I : PySem.W.InstAt s.heap y ox C od) (hs : PySem.W.findIn K (.ref C) "__repr__" = some (some (.ref f))) (hf : PySem.W.isFn K (.ref f) = true)
    (h : wpAny M A (call (.ref f) [.ref y]) (fun v s' => (∃ z u, v = .str z u) ∧ Q v s') E s) : wpAny M A (pyReprObjUnder b (.ref y)) Q E s := by
  show wpAny M A (pyReprObjBy _ (.ref y)) Q E s
  unfold pyReprObjBy
  refine wpAny_bind (wpAny_cRoomFor hu (wpAny_bind (wpAny_bind (I.type.here ((PySem.W.looks_findIn X0 hs).here ?_)))))
  rw [show (some (Value.ref f)).isNone = false from rfl]
  simp only [Bool.false_eq_true, if_neg, not_false_eq_true]
  refine wpAny_bind (underBy_own X0 I hs hf (wpAny_mono (show wpAny M A (call (.ref f) ([.ref y] ++ [])) _ E s from h) (fun v s' hv => ?_) fun _ _ z => z))
  obtain ⟨⟨z, u, rfl⟩, hq⟩ := hv
  exact wpAny_bind (wpAny_isInstance (b := true) (typeIs_str _ _ _) isSubtype_str_str (wpAny_pure hq))
end
/-- how the own instances of X are shown: the def's text, wherever it is called near X -/
structure OwnX (X : Cx) (own : Hp → Addr → Str → Prop) (kO : Nat) : Prop where
  run : ∀ (H : Hp) (a : Addr) (t : Str), own H a t → ∃ (C f dx : Addr) (fs : List (Str × V)), H a = some (.ins C dx fs) ∧ PySem.W.findIn X.K (.ref C) "__repr__" = some (some (.ref f)) ∧ PySem.W.isFn X.K (.ref f) = true ∧
    ∀ (A : Around) (pins : List (Addr × Obj)) (σ : L2.St) (s : Shared) (H1 : Hp), Near X kO A → Inv X pins σ H1 s → Same H H1 → ∀ (Q : Value → Shared → Prop) (E : Value → Shared → Prop),
      (∀ s' H2 tk, Inv X pins σ H2 s' → Same H1 H2 → Q (.str t tk) s') → wpAny (model X.prog X.w) A (call (.ref f) [.ref a]) Q E s
theorem Rp.own {own : Hp → Addr → Str → Prop} {a : Addr} (o : OwnX X own k) (ho : own H a t) : Rp X σ H as k (.ref a) t := by
  intro u ru b hb A g n hg hc pins s H1 I s1 Q E q
  obtain rfl : u = Value.ref a := ru
  obtain ⟨C, f, dx, fs, hi, at_, fn, run⟩ := o.run H a t ho
  obtain ⟨mA, J, _⟩ := ins_get I.hok (s1 _ _ hi)
  obtain ⟨od, J, _⟩ := J.look
  exact wpAny_pyReprUnder_ref (by omega) (under_own n.line I.kIn J at_ fn (run A pins σ s H1 n I s1 _ E fun s' H2 tk I2 s2 => ⟨⟨_, _, rfl⟩, _, _, rfl, q s' H2 I2 s2⟩))

/-! lists -/
theorem vals_get {xs : List V} {its : List Value} (r : Vals xs its) : ∀ (i : Nat) (x : V), xs[i]? = some x → ∃ u, its[i]? = some u ∧ RelV x u := by
  induction r with
  | nil => intro i x h; simp at h
  | cons h t ih =>
    intro i x hx
    cases i with
    | zero => simp at hx; subst hx; exact ⟨_, by simp, h⟩
    | succ i => exact ih i x (by simpa using hx)
/-- each item is shown -/
def RpAll (X : Cx) (σ : L2.St) (H : Hp) (as : List Addr) (k : Nat) (xs : List V) (ts : List Str) : Prop :=
  ts.length = xs.length ∧ ∀ (i : Nat) (x : V), xs[i]? = some x → ∃ t, ts[i]? = some t ∧ Rp X σ H as k x t
theorem pinOf {pins : List (Addr × Obj)} {s : Shared} {H1 : Hp} {P : Addr} {o : Obj} (I : Inv X pins σ H1 s) (f : FpOk X pins H1 P) (e : s.heap.get? P = some o) (d : ∀ v, o.data ≠ .cell v) : Inv X (pins ++ [(P, o)]) σ H1 s := by
  have := I.pinned (fp := [P]) (fun b hb => by rw [List.mem_singleton.mp hb]; exact f) (fun b hb => by rw [List.mem_singleton.mp hb]; exact ⟨o, e, d⟩)
  have e2 : pinsAt [P] s.heap = [(P, o)] := by simp [pinsAt, e]
  rw [e2] at this
  exact this
theorem pinBack {pins : List (Addr × Obj)} {s : Shared} {H1 H2 : Hp} {P : Addr} {o : Obj} (I : Inv X (pins ++ [(P, o)]) σ H2 s) (f : FpOk X pins H1 P) : Inv X pins σ H2 s ∧ FpOk X pins H2 P ∧ s.heap.get? P = some o := by
  obtain ⟨e, n, _⟩ := I.pin (P, o) (by simp)
  exact ⟨I.unpinned, ⟨n, f.2.1, f.2.2.1, f.2.2.2.1, f.2.2.2.2.1, f.2.2.2.2.2⟩, e⟩
theorem fpTurn {pins : List (Addr × Obj)} {s : Shared} {H1 : Hp} {P : Addr} {h' : Heap} {t' : Nat} (I : Inv X pins σ H1 s) (f : FpOk X pins H1 P) (k : ∀ b o, b ≠ P → s.heap.get? b = some o → h'.get? b = some o) : Inv X pins σ H1 { s with heap := h', toks := t' } :=
  I.turned k f.1 f.2.1 f.2.2.2.1 f.2.2.2.2.1 f.2.2.2.2.2
/-- what a list's text says of its parts -/
structure Fit (b : Nat) (ts : List Str) : Prop where
  all : (listText ts).length ≤ sizeLine
  each : ∀ t ∈ ts, t.length ≤ sizeLine
  many : ts.length ≤ sizeLine
  far : b + piled ts ≤ sizeLine
theorem Fit.of {b : Nat} {ts : List Str} (h : b + (listText ts).length ≤ sizeLine) : Fit b ts := by
  have far := piled_le_listText ts
  obtain ⟨w1, w2, _⟩ := textFrom_len ts 0 (Str.ofString "[")
  rw [if_neg (by omega)] at w1
  have grow : (listText ts).length = (textFrom 0 (Str.ofString "[") ts).length + 1 := (strLen_append _ _).trans rfl
  exact ⟨by omega, fun t m => by have := w2 t m; omega, by omega, by omega⟩
theorem piled_snoc (dn : List Str) (t : Str) : piled (dn ++ [t]) = piled dn + (t.length + 2) := by rw [piled_append, piled_cons, piled_nil]
theorem rp_list_loop {a P : Addr} {xs : List V} {ts : List Str} {A : Around} {g : List Code} {b : Nat} {pins : List (Addr × Obj)} {R : Result → Shared → Prop}
    (hl : SqL X.K H a xs) (n : Near X (k + 1) A) (hg : A.guards = some g) (free : ∀ c ∈ as, Clear g c) (out : a ∉ as) (T : RpAll X σ H as k xs ts) (fit : Fit b ts) :
    ∀ (rest dn : List Str) (l : List (Str × Tok)) (s : Shared) (H1 : Hp) (parts : Array Value) (c : Nat), ts = dn ++ rest → l.map (·.1) = dn → parts.toList = strValues l → Inv X pins σ H1 s → Same H H1 → FpOk X pins H1 P →
    s.heap.get? P = some { cls := .type "list", dict := none, data := .seq parts c, slots := #[] } →
    (∀ s' H2 u, Inv X pins σ H2 s' → Same H1 H2 → R (.ok (.ret (.str (listText ts) u))) s') →
    codeAny (model X.prog X.w) A (.builtin "list.__repr__.loop" ⟨[.ref a, rawInt dn.length, .ref P, rawInt ((b + piled dn : Nat) : Int)], []⟩) R s := by
  intro rest
  induction rest with
  | nil =>
    intro dn l s H1 parts c split told lay I same hP0 hP done
    rw [List.append_nil] at split
    obtain ⟨its, rv, ⟨o, m, get, _, _, dat⟩, _⟩ := I.list (same.seq hl)
    have off : its.toArray[((dn.length : Nat) : Int).toNat]? = none := by
      have h1 := rv.length
      have h2 := T.1
      rw [split] at h2
      simp only [Int.toNat_natCast, List.getElem?_toArray]
      exact List.getElem?_eq_none (by omega)
    refine codeAny_builtin F.entry_list_repr_loop (show wpAny _ _ (Builtin.«list.__repr__.loop» ⟨[.ref a, .int dn.length 0, .ref P, .int ((b + piled dn : Nat) : Int) 0], []⟩) _ _ s from ?_)
    rw [repr_loop_tree]
    refine wpAny_bind (wpAny_listItems get dat ?_)
    rw [off]
    show wpAny _ _ (reprEnd (.ref P)) _ _ s
    refine wpAny_bind (wpAny_listItems hP rfl ?_)
    rw [lay, repr_fold, told, ← split]
    exact wpAny_bind (wpAny_pure (wpAny_bind (wpAny_mkStr (wpAny_pure (done _ H1 _ (I.tok _) (Same.refl H1))) fit.all)))
  | cons t rest ih =>
    intro dn l s H1 parts c split told lay I same hP0 hP done
    obtain ⟨its, rv, ⟨o, m, get, _, _, dat⟩, _⟩ := I.list (same.seq hl)
    have inn : dn.length < xs.length := by
      have h2 := T.1
      rw [split, List.length_append, List.length_cons] at h2
      omega
    have item : xs[dn.length]? = some xs[dn.length] := List.getElem?_eq_getElem inn
    obtain ⟨t', ht, shows⟩ := T.2 _ _ item
    obtain rfl : t = t' := by
      rw [split, List.getElem?_append_right (Nat.le_refl _), Nat.sub_self] at ht
      exact Option.some.inj ht
    obtain ⟨u, hu, ru⟩ := vals_get rv _ _ item
    have fast : its.toArray[((dn.length : Nat) : Int).toNat]? = some u := by simpa using hu
    have far := fit.far
    have near : piled ts = piled dn + (t.length + 2) + piled rest := by rw [split, piled_append, piled_cons]; omega
    have lit := lit_list A ⟨[.ref a, .int dn.length 0, .ref P, .int ((b + piled dn : Nat) : Int) 0], []⟩
    refine codeAny_builtin F.entry_list_repr_loop (show wpAny _ _ (Builtin.«list.__repr__.loop» ⟨[.ref a, .int dn.length 0, .ref P, .int ((b + piled dn : Nat) : Int) 0], []⟩) _ _ s from ?_)
    rw [repr_loop_tree]
    refine wpAny_bind (wpAny_listItems get dat ?_)
    rw [fast]
    dsimp only
    rw [Int.toNat_natCast]
    refine wpAny_bind (wpAny_holding (shows u ru (b + piled dn + 1) (by omega) _ _ (lit.near n) (guards_under_guard lit.guard hg) (fun c hc => (free c hc).cons fun e => out (e ▸ hc)) _ s H1 (pinOf I hP0 hP (fun _ z => nomatch z)) same _ _ fun s2 H2 I2 same2 => ?_))
    obtain ⟨I2, hP2, there⟩ := pinBack I2 hP0
    have lp : parts.size ≤ sizeLine := by
      have z : parts.toList.length = l.length := by rw [lay]; exact List.length_map ..
      have z2 : l.length = dn.length := by rw [← told, List.length_map]
      have z3 := fit.many
      rw [split, List.length_append] at z3
      rw [Array.length_toList] at z
      omega
    refine wpAny_bind (wpAny_mkStr (wpAny_bind ?_) (fit.each t (by rw [split]; simp)))
    refine wpAny_updateSeq (show s2.heap.get? P = _ from there) rfl (wpAny_pure ⟨F.quiet_list_repr_loop _, ?_⟩) lp
    have w1 : ((dn.length : Nat) : Int) + 1 = (((dn ++ [t]).length : Nat) : Int) := by rw [List.length_append]; rfl
    have w2 : b + piled dn + (t.length + 2) = b + piled (dn ++ [t]) := by rw [piled_snoc]; omega
    rw [w1, w2]
    refine ih (dn ++ [t]) (l ++ [(t, s2.toks)]) _ H2 (parts.push (.str t s2.toks)) _ (by rw [split, List.append_assoc]; rfl) (by rw [List.map_append, told]; rfl) (by simp [lay, strValues]) (fpTurn (I2.tok _) hP2 fun c o ne e => (Heap.get?_update_other _ _ (Ne.symm ne)).trans e) (same.trans same2) hP2
      (Heap.get?_update_self _ there rfl) fun s3 H3 u I3 same3 => done s3 H3 u I3 (same2.trans same3)
theorem rp_list_at {a : Addr} {x : V} {l : List V} {ts : List Str} {A : Around} {g : List Code} {b : Nat} {pins : List (Addr × Obj)} {s : Shared} {H1 : Hp} {R : Result → Shared → Prop}
    (hl : SqL X.K H a (x :: l)) (n : Near X (k + 1) A) (hg : A.guards = some g) (free : ∀ c ∈ a :: as, Clear g c) (out : a ∉ as) (T : RpAll X σ H as k (x :: l) ts) (hsz : b + (listText ts).length ≤ sizeLine) (I : Inv X pins σ H1 s) (same : Same H H1)
    (done : ∀ s' H2 u, Inv X pins σ H2 s' → Same H1 H2 → R (.ok (.ret (.str (listText ts) u))) s') :
    wpAny (model X.prog X.w) A.in1 (Builtin.listReprAt b ⟨[.ref a], []⟩) (fun fin s' => match fin with | .done f => R (.ok f) s' | .again c' => c'.quiet = true ∧ codeAny (model X.prog X.w) A c' R s') (fun e s' => R (.error e) s') s := by
  obtain ⟨its, rv, ⟨o, m, get, _, _, dat⟩, _⟩ := I.list (same.seq hl)
  cases rv with
  | cons ru rus =>
    refine wpAny_list_repr_head (A := A.in1) hg (fun v rest kw mem => listSameRef_of_ne (free a (.head _) _ _ _ _ mem)) get dat (wpAny_bind (wpAny_newObj_type (wpAny_pure ⟨F.quiet_list_repr_loop _, ?_⟩)))
    have I' : Inv X pins σ H1 { s with heap := _, toks := s.toks } := I.kept (h' := s.heap.push { cls := .type "list", dict := none, data := .seq #[] 0, slots := #[] }) (t' := s.toks) fun c u e => Heap.get?_push_of_some _ e
    exact rp_list_loop (P := s.heap.objs.size) hl n hg (fun c hc => free c (.tail _ hc)) out T (Fit.of hsz) ts [] [] _ H1 #[] _ rfl rfl rfl I' same (I.fpOk (Nat.le_refl _) (I.hok.fresh (Nat.le_refl _))) (Heap.get?_push_size _ rfl) done
theorem sq_type {pins : List (Addr × Obj)} {s : Shared} {H1 : Hp} {a : Addr} {xs : List V} (I : Inv X pins σ H1 s) (h : SqL X.K H1 a xs) : s.TypeIs (.ref a) "list" := by
  obtain ⟨its, rv, ⟨oa, na, ha, hc, _⟩, _⟩ := I.list h
  exact ⟨oa, ha, hc⟩
theorem Rp.list {a : Addr} {x : V} {l : List V} {ts : List Str} (hl : SqL X.K H a (x :: l)) (hna : a ∉ as) (hT : RpAll X σ H as k (x :: l) ts) : Rp X σ H (a :: as) (k + 2) (.ref a) (listText ts) := by
  intro u ru b hb A g n hg hc pins s H1 I s1 Q E q
  obtain rfl : u = Value.ref a := ru
  have hty := sq_type I (s1.seq hl)
  refine wpAny_pyReprUnder_ref (by omega) (wpAny_pyReprObjUnder_twin (twin := "list.__repr__.under") hty F.slot_list_repr.toG rfl n.line ?_)
  refine call_twin_plain F.plain_list_repr_under F.entry_list_repr_under F.check_list_repr_under hty F.slot_list_repr.toG (F.args_list_repr_1 _) ?_
  exact rp_list_at (R := callEnd _ E) hl (n.mono (by omega)) hg hc hna hT hb I s1 fun s' H2 u I2 s2 => ⟨⟨_, _, rfl⟩, _, _, rfl, q s' H2 I2 s2⟩
theorem Rp.list0 {a : Addr} (hl : SqL X.K H a []) : Rp X σ H as k (.ref a) "[]" := by
  intro u ru b hb A g n hg hc pins s H1 I s1 Q E q
  obtain rfl : u = Value.ref a := ru
  obtain ⟨its, rv, ⟨oa, na, ha, hc, _, hda⟩, _⟩ := I.list (s1.seq hl)
  cases rv
  exact wpAny_pyReprUnder_ref (by omega) (wpAny_pyReprObjUnder_list_empty ⟨oa, ha, hc⟩ n.line ha hda ⟨_, _, rfl, q _ H1 (I.tok _) (Same.refl H1)⟩)

/-! tuples -/
theorem RpAll.head {x : V} {xs : List V} {ts : List Str} (h : RpAll X σ H as k (x :: xs) ts) : ∃ t r, ts = t :: r ∧ Rp X σ H as k x t ∧ RpAll X σ H as k xs r := by
  cases ts with
  | nil => exact nomatch h.1
  | cons t r =>
    obtain ⟨t', e, q⟩ := h.2 0 x rfl
    cases (Option.some.inj e)
    exact ⟨t, r, rfl, q, by have := h.1; simpa using this, fun i y hy => by simpa using h.2 (i + 1) y (by simpa using hy)⟩
/-- the texts of a tuple's items, one behind the other -/
theorem rp_fold {A : Around} {g : List Code} {pins : List (Addr × Obj)} {E : Value → Shared → Prop} (n : Near X k A) (hg : A.guards = some g) (free : ∀ c ∈ as, Clear g c) {xs : List V} {us : List Value} (rv : Vals xs us) :
    ∀ (ts : List Str) (got : Array Str) (m : Nat) (s : Shared) (H1 : Hp) (Q : (Array Str × Nat) → Shared → Prop), RpAll X σ H as k xs ts → m + piled ts ≤ sizeLine → Inv X pins σ H1 s → Same H H1 →
    (∀ s' H2, Inv X pins σ H2 s' → Same H1 H2 → Q (got ++ ts.toArray, m + piled ts) s') → wpAny (model X.prog X.w) A (forIn us ((got, m) : (Array Str × Nat)) tupBody) Q E s := by
  induction rv with
  | nil =>
    intro ts got m s H1 Q T _ I _ done
    cases ts with
    | cons => exact nomatch T.1
    | nil =>
      have fin := done s H1 I (Same.refl H1)
      rw [List.forIn_nil]
      simp only [Array.append_empty, piled_nil, Nat.add_zero, List.toArray] at fin
      exact wpAny_pure fin
  | cons ru rus ih =>
    intro ts got m s H1 Q T fit I same done
    obtain ⟨t, rest, rfl, first, more⟩ := T.head
    have grow : m + piled (t :: rest) = m + (t.length + 2) + piled rest := by rw [piled_cons]; omega
    rw [grow] at fit done
    rw [List.forIn_cons]
    refine wpAny_bind (wpAny_bind (first _ ru (m + 1) (by omega) A g n hg free pins s H1 I same _ _ fun s2 H2 I2 same2 => wpAny_pure (ih rest _ _ s2 H2 Q more (by omega) I2 (same.trans same2) fun s3 H3 I3 same3 => ?_)))
    have fin := done s3 H3 I3 (same2.trans same3)
    have e : got.push t ++ rest.toArray = got ++ (t :: rest).toArray := by simp
    rw [e]
    exact fin
/-- no guard around speaks of a thing that is clear of them -/
theorem clear_any {g : List Code} {f : Code × Pos → Bool} (h : ∀ c ∈ g, f (c, default) = false) : (g.any fun c => f (c, default)) = false := List.any_eq_false.mpr fun c m => by rw [h c m]; exact Bool.false_ne_true
theorem rp_tuple_at {a : Addr} {xs : List V} {ts : List Str} {A : Around} {g : List Code} {b : Nat} {pins : List (Addr × Obj)} {s : Shared} {H1 : Hp} {R : Result → Shared → Prop} {id : String} {rest : List Value}
    (lit : Lit A (.builtin id ⟨.ref a :: rest, []⟩)) (hl : SqT X.K H a xs) (n : Near X (k + 1) A) (hg : A.guards = some g) (free : ∀ c ∈ a :: as, Clear g c) (out : a ∉ as) (T : RpAll X σ H as k xs ts)
    (hsz : b + (tupleText ts).length ≤ sizeLine) (I : Inv X pins σ H1 s) (same : Same H H1) (done : ∀ s' H2 u, Inv X pins σ H2 s' → Same H1 H2 → R (.ok (.ret (.str (tupleText ts) u))) s') :
    wpOwn (model X.prog X.w) A (.builtin id ⟨.ref a :: rest, []⟩) (Builtin.tupleReprAt b ⟨[.ref a], []⟩) (fun fin s' => match fin with | .done f => R (.ok f) s' | .again c' => c'.quiet = true ∧ codeAny (model X.prog X.w) A c' R s') (fun e s' => R (.error e) s') s := by
  obtain ⟨its, rv, ⟨o, get, cls, m, dat⟩, _⟩ := I.tuple (same_tup same hl)
  have much := piled_le_tupleText ts
  have eq : its.length = ts.length := by rw [T.1]; exact rv.length.symm
  rw [tuple_repr_tree, tupleReprUnderWay_eq]
  refine wpOwn_bind (wpOwn_stackTailAny hg (tupGuardF_off (.ref a)) (tupGuardF_pos (.ref a)) ?_)
  rw [clear_any (tupGuardF_of_clear (free a (.head _)))]
  refine wpOwn_of_wpAny (show wpAny _ _ (tupleReprRest b (.ref a)) _ _ s from ?_)
  refine wpAny_bind (wpAny_bind (wpAny_seqItems get dat (wpAny_pure ?_)))
  rw [← Array.forIn_toList]
  refine wpAny_bind (rp_fold (lit.near n) (guards_under_guard lit.guard hg) (fun c m => (free c (.tail _ m)).cons fun e => out (e ▸ m)) rv ts #[] b s H1 _ T (by omega) I same fun s2 H2 I2 same2 => ?_)
  have fin := done _ H2 s2.toks (I2.tok (s2.toks + 1)) same2
  have txt : (("(" : Str) ++ Str.join ", " ((#[] : Array Str) ++ ts.toArray).toList ++ (if its.toArray.size == 1 then ",)" else ")" : String)) = tupleText ts := by simp [tupleText, eq]
  refine wpAny_bind (wpAny_mkStr (wpAny_pure ?_) ?_)
  · rw [txt]
    exact fin
  · rw [txt]
    omega
theorem Rp.tuple {a : Addr} {xs : List V} {ts : List Str} (hl : SqT X.K H a xs) (hna : a ∉ as) (hT : RpAll X σ H as k xs ts) : Rp X σ H (a :: as) (k + 2) (.ref a) (tupleText ts) := by
  intro u ru b hb A g n hg hc pins s H1 I s1 Q E q
  obtain rfl : u = Value.ref a := ru
  obtain ⟨its, rv, ⟨o, ha, hct, _, hd⟩, _⟩ := I.tuple (same_tup s1 hl)
  refine wpAny_pyReprUnder_ref (by omega) (wpAny_pyReprObjUnder_twin (twin := "tuple.__repr__.under") ⟨o, ha, hct⟩ F.slot_tuple_repr rfl n.line ?_)
  exact call_twin_own (F.quiet_tuple_repr_under _) F.entry_tuple_repr_under F.check_tuple_repr_under ⟨o, ha, hct⟩ F.slot_tuple_repr (F.args_tuple_repr_1 _)
    (rp_tuple_at (R := callEnd _ E) (lit_tupleU A _) hl (n.mono (by omega)) hg hc hna hT hb I s1 fun s' H2 u I2 s2 => ⟨⟨_, _, rfl⟩, _, _, rfl, q s' H2 I2 s2⟩)

/-! dicts whose keys are ints and texts -/
def kTxt : Key → Str
  | .inl i => (toString i : String)
  | .inr z => reprText z
def RpKV (X : Cx) (σ : L2.St) (H : Hp) (as : List Addr) (k : Nat) (kvs : List (Key × V)) (ps : List Str) : Prop :=
  ps.length = kvs.length ∧ ∀ (i : Nat) (kv : Key × V), kvs[i]? = some kv → ∃ v, ps[i]? = some (kTxt kv.1 ++ ": " ++ v) ∧ Rp X σ H as k (kV kv.1) (kTxt kv.1) ∧ Rp X σ H as k kv.2 v
theorem kv_entry {κs : List (Key × V)} {vs : List (Key × Value)} (r : KV κs vs) : ∀ {es : List DictEntry} {P : Program} {w : World}, Pairs (mixKind P w) es vs →
    es.length = κs.length ∧ ∀ (i : Nat) (kv : Key × V), κs[i]? = some kv → ∃ e, es[i]? = some e ∧ RelV (kV kv.1) e.key ∧ RelV kv.2 e.val := by
  unfold KV at r
  induction r with
  | nil =>
    intro es P w p
    cases p
    exact ⟨rfl, fun i kv h => by simp at h⟩
  | cons h t ih =>
    intro es P w p
    cases p with
    | cons h1 h2 h3 =>
      obtain ⟨l, q⟩ := ih h3
      refine ⟨by simp [l], fun i kv hi => ?_⟩
      cases i with
      | zero =>
        simp at hi
        subst hi
        refine ⟨_, rfl, ?_, ?_⟩
        · rw [h.1]
          exact relV_key h1
        · rw [h2]
          exact h.2
      | succ i => exact q i kv (by simpa using hi)
/-- one entry more -/
theorem range_step {m i : Nat} {x : Nat} {rest : List Nat} (h : x :: rest = List.range' i (m - i)) : x = i ∧ i < m ∧ rest = List.range' (i + 1) (m - (i + 1)) := by
  cases d : m - i with
  | zero =>
    rw [d] at h
    cases h
  | succ j =>
    rw [d, List.range'_succ] at h
    injection h with h1 h2
    have : m - (i + 1) = j := by omega
    exact ⟨h1, by omega, by rw [h2, this]⟩
theorem range_end {m i : Nat} (hi : i ≤ m) (h : [] = List.range' i (m - i)) : i = m := by
  cases d : m - i with
  | zero => omega
  | succ j =>
    rw [d, List.range'_succ] at h
    cases h
theorem rp_dict_at {a : Addr} {kvs : List (Key × V)} {ps : List Str} {A : Around} {g : List Code} {b : Nat} {pins : List (Addr × Obj)} {s : Shared} {H0 H1 : Hp} {R : Result → Shared → Prop} {id : String} {rest : List Value}
    (lit : Lit A (.builtin id ⟨.ref a :: rest, []⟩)) (h0 : H0 a = none) (hl : H1 a = some (.dK kvs)) (n : Near X (k + 1) A) (hg : A.guards = some g) (free : ∀ c ∈ a :: as, Clear g c) (out : a ∉ as) (T : RpKV X σ H0 as k kvs ps)
    (hsz : b + (dictText ps).length ≤ sizeLine) (I0 : Inv X pins σ H1 s) (hs : Same H0 H1) (done : ∀ s' H2 u, Inv X pins σ H2 s' → Same H1 H2 → R (.ok (.ret (.str (dictText ps) u))) s') :
    wpOwn (model X.prog X.w) A (.builtin id ⟨.ref a :: rest, []⟩) (Builtin.dictReprAt b ⟨[.ref a], []⟩) (fun fin s' => match fin with | .done f => R (.ok f) s' | .again c' => c'.quiet = true ∧ codeAny (model X.prog X.w) A c' R s') (fun e s' => R (.error e) s') s := by
  -- the dict stays as it is while it is shown
  have hn0 := I0.nofrz hl trivial
  obtain ⟨o, I⟩ := I0.lock hl trivial
  have hfr : Same H0 (upd H1 a (.frz o (.dK kvs))) := fun c u e => by
    rw [upd_ne (ne_of_none e h0)]
    exact hs c u e
  obtain ⟨hsys, get, exact_, es, ep, vs, dat, size, rv, o', es', e1, _, e3, _, e4, _⟩ := I.frzK upd_same
  obtain rfl := Option.some.inj (get.symm.trans e1)
  obtain ⟨rfl, _⟩ := Data.dict.inj (dat.symm.trans e3)
  obtain ⟨_, entry⟩ := kv_entry rv e4
  have stays : ∀ (s' : Shared) (H2 : Hp), Inv X pins σ H2 s' → Same (upd H1 a (.frz o (.dK kvs))) H2 → s'.heap.get? a = some o := fun s' H2 I2 s2 => (I2.frzK (s2 _ _ upd_same)).2.1
  have much := piled_le_dictText ps
  have many := T.1
  unfold Builtin.dictReprAt
  refine wpOwn_bind (wpOwn_of_wpAny (wpAny_bind (wpAny_notOrdered_dict (show s.TypeIs (.ref a) "dict" from ⟨o, get, exact_.1⟩) (wpAny_pure (a := Value.ref a) ?_))))
  rw [dictReprRunning_eq]
  refine wpOwn_bind (wpOwn_stackTailAny hg (dictGuardF_off (.ref a)) (dictGuardF_pos (.ref a)) ?_)
  rw [clear_any (dictGuardF_of_clear (free a (.head _)))]
  have n' := lit.near n
  have hg' := guards_under_guard lit.guard hg
  have free' : ∀ c ∈ as, Clear (.builtin id ⟨.ref a :: rest, []⟩ :: g) c := fun c m => (free c (.tail _ m)).cons fun e => out (e ▸ m)
  refine wpOwn_of_wpAny (show wpAny _ _ (Builtin.Dict.addrOf (.ref a) >>= fun _ => _) _ _ s from wpAny_bind (wpAny_pure ?_))
  have whole : Builtin.Dict.showsAll a = pure () := by
    unfold Builtin.Dict.showsAll
    rw [hsys]
    rfl
  rw [whole]
  refine wpAny_bind (wpAny_pure (wpAny_bind (wpAny_dictEpoch get dat (wpAny_bind (wpAny_dictEntries get dat (wpAny_bind ?_))))))
  rw [Std.Legacy.Range.forIn_eq_forIn_range', show (Std.Legacy.Range.mk 0 es.size 1 _).size = es.size - 0 from by simp [Std.Legacy.Range.size]]
  refine wpAny_forIn_list _ (fun todo r s' => ∃ i H2, todo = List.range' i (es.size - i) ∧ i ≤ es.size ∧ r = ((ps.take i).toArray, b + piled (ps.take i)) ∧ Inv X pins σ H2 s' ∧ Same (upd H1 a (.frz o (.dK kvs))) H2) _ ?_ ?_ _ _ ⟨0, _, rfl, Nat.zero_le _, rfl, I, Same.refl _⟩
  · rintro x todo _ s2 ⟨i, H2, hr0, hi, rfl, I2, same2⟩
    obtain ⟨rfl, lt, hrest⟩ := range_step hr0
    have ltk : x < kvs.length := by omega
    have there : kvs[x]? = some kvs[x] := List.getElem?_eq_getElem ltk
    obtain ⟨v, txt, showK, showV⟩ := T.2 x _ there
    obtain ⟨en, he, rek, rev⟩ := entry x _ there
    have he' : es[x] = en := by
      rw [Array.getElem?_toList, Array.getElem?_eq_getElem lt] at he
      exact Option.some.inj he
    have len : (kTxt kvs[x].1 ++ ": " ++ v).length = (kTxt kvs[x].1).length + 2 + v.length := (strLen_append _ _).trans (congrArg (· + v.length) (strLen_append _ _))
    have pile := piled_take_succ txt
    have upto := piled_take_le ps (x + 1)
    rw [len] at pile
    refine wpAny_bind (wpAny_dictEntries (stays s2 H2 I2 same2) dat ?_)
    rw [Array.getElem?_eq_getElem lt, he']
    refine wpAny_bind (wpAny_holding (wpAny_bind (showK en.key rek (b + piled (ps.take x) + 1) (by omega) _ _ n' hg' free' pins s2 H2 I2 (hfr.trans same2) _ _ fun s3 H3 I3 same3 =>
      wpAny_bind (showV en.val rev (b + piled (ps.take x) + ((kTxt kvs[x].1).length + 3)) (by omega) _ _ n' hg' free' pins s3 H3 I3 ((hfr.trans same2).trans same3) _ _ fun s4 H4 I4 same4 => wpAny_pure ?_))))
    have same24 := (same2.trans same3).trans same4
    refine wpAny_bind (wpAny_dictEpoch (stays s4 H4 I4 same24) dat ?_)
    rw [if_neg (by simp)]
    have w1 : (ps.take x).toArray.push (kTxt kvs[x].1 ++ ": " ++ v) = (ps.take (x + 1)).toArray := by rw [take_one txt]; simp
    have w2 : b + piled (ps.take x) + ((kTxt kvs[x].1).length + v.length + 4) = b + piled (ps.take (x + 1)) := by omega
    exact wpAny_pure ⟨x + 1, H4, hrest, lt, by rw [w1, w2], I4, same24⟩
  · rintro _ s2 ⟨i, H2, hr0, hi, rfl, I2, same2⟩
    have last : i = ps.length := by rw [range_end hi hr0]; omega
    rw [last, List.take_length]
    have fin := done _ _ s2.toks ((I2.unlock (same2 _ _ upd_same) hn0).tok (s2.toks + 1)) fun c u e => by
      by_cases z : c = a
      · subst z
        rw [hl] at e
        obtain rfl := Option.some.inj e
        exact upd_same
      · rw [upd_ne z]
        exact same2 c u (by rw [upd_ne z]; exact e)
    have tx : (("{" : Str) ++ Str.join ", " ps.toArray.toList ++ "}") = dictText ps := by simp [dictText]
    refine wpAny_bind (wpAny_mkStr (wpAny_pure ?_) ?_)
    · rw [tx]
      exact fin
    · rw [tx]
      omega
theorem Rp.dict {a : Addr} {kvs : List (Key × V)} {ps : List Str} {H0 : Hp} (h0 : H0 a = none) (hl : H a = some (.dK kvs)) (hs : Same H0 H) (hna : a ∉ as) (hT : RpKV X σ H0 as k kvs ps) : Rp X σ H (a :: as) (k + 2) (.ref a) (dictText ps) := by
  intro u ru b hb A g n hg hc pins s H1 I s1 Q E q
  obtain rfl : u = Value.ref a := ru
  obtain ⟨_, _, vs, rv, o, es, _, ha, hx, _⟩ := dk_of I.hok (s1 _ _ hl)
  refine wpAny_pyReprUnder_ref (by omega) (wpAny_pyReprObjUnder_twin (twin := "dict.__repr__.under") ⟨o, ha, hx.1⟩ F.slot_dict_repr rfl n.line ?_)
  exact call_twin_own (F.quiet_dict_repr_under _) F.entry_dict_repr_under F.check_dict_repr_under ⟨o, ha, hx.1⟩ F.slot_dict_repr (F.args_dict_repr_1 _)
    (rp_dict_at (R := callEnd _ E) (lit_dictU A _) h0 (s1 _ _ hl) (n.mono (by omega)) hg hc hna hT hb I (hs.trans s1) fun s' H2 u I2 s2 => ⟨⟨_, _, rfl⟩, _, _, rfl, q s' H2 I2 s2⟩)
end
/-! ### values of any kind and what is shown of them -/
section
def keyFits : Key → Prop
  | .inl i => i.natAbs.log2 < 1920
  | .inr z => (reprText z).length ≤ sizeLine
def kvTxts (kvs : List (Key × V)) (vts : List Str) : List Str := List.zipWith (fun kv v => kTxt kv.1 ++ ": " ++ v) kvs vts
variable (K : PySem.W.Frag) (own : Hp → Addr → Str → Prop) (kO : Nat)
inductive Shw : Hp → List Addr → Nat → V → Str → Prop
  | non {H as k} : Shw H as k .non "None"
  | bl {H as k} (b : Bool) : Shw H as k (.bl b) (if b then "True" else "False")
  | int {H as k} {i : Int} : i.natAbs.log2 < 1920 → Shw H as k (.int i) (toString i)
  | str {H as k} {z : Str} : (reprText z).length ≤ sizeLine → Shw H as k (.str z) (reprText z)
  | own {H as k a t} : own H a t → kO ≤ k → Shw H as k (.ref a) t
  | list0 {H as k a} : SqL K H a [] → Shw H as k (.ref a) "[]"
  | list {H as as' k k' a x l ts} : SqL K H a (x :: l) → a ∉ as → ts.length = l.length + 1 → (∀ (i : Nat) (y : V) (t : Str), (x :: l)[i]? = some y → ts[i]? = some t → Shw H as k y t) → (∀ b ∈ a :: as, b ∈ as') → k + 2 ≤ k' → Shw H as' k' (.ref a) (listText ts)
  | tuple {H as as' k k' a xs ts} : SqT K H a xs → a ∉ as → ts.length = xs.length → (∀ (i : Nat) (y : V) (t : Str), xs[i]? = some y → ts[i]? = some t → Shw H as k y t) → (∀ b ∈ a :: as, b ∈ as') → k + 2 ≤ k' → Shw H as' k' (.ref a) (tupleText ts)
  | dict {H H0 as as' k k' a kvs vts} : H0 a = none → H a = some (.dK kvs) → Same H0 H → a ∉ as → vts.length = kvs.length → (∀ (i : Nat) (kv : Key × V), kvs[i]? = some kv → keyFits kv.1) →
      (∀ (i : Nat) (kv : Key × V) (v : Str), kvs[i]? = some kv → vts[i]? = some v → Shw H0 as k kv.2 v) → (∀ b ∈ a :: as, b ∈ as') → k + 2 ≤ k' → Shw H as' k' (.ref a) (dictText (kvTxts kvs vts))
end
section
variable {X : Cx} {own : Hp → Addr → Str → Prop} {kO j : Nat} {C : Addr} {sp : Sp} {H H' : Hp} {as : List Addr} {k : Nat} {x : V} {t : Str} {K : PySem.W.Frag}
theorem get_two {α β : Type} {xs : List α} {ts : List β} (h : ts.length = xs.length) {i : Nat} {x : α} (e : xs[i]? = some x) : ∃ t, ts[i]? = some t := by
  have hi : i < xs.length := (List.getElem?_eq_some_iff.mp e).1
  exact ⟨ts[i], List.getElem?_eq_getElem (by omega)⟩
theorem kvTxts_get {kvs : List (Key × V)} {vts : List Str} {i : Nat} {kv : Key × V} {v : Str} (h1 : kvs[i]? = some kv) (h2 : vts[i]? = some v) : (kvTxts kvs vts)[i]? = some (kTxt kv.1 ++ ": " ++ v) := by
  unfold kvTxts
  rw [List.getElem?_zipWith, h1, h2]
theorem Shw.same (hs : ∀ {H H' a t}, own H a t → Same H H' → own H' a t) (h : Shw K own kO H as k x t) (s : Same H H') : Shw K own kO H' as k x t := by
  induction h generalizing H' with
  | non => exact .non
  | bl b => exact .bl b
  | int h => exact .int h
  | str h => exact .str h
  | own h hk => exact .own (hs h s) hk
  | list0 h => exact .list0 (s.seq h)
  | list h n l _ m hk ih => exact .list (s.seq h) n l (fun i y t h1 h2 => ih i y t h1 h2 s) m hk
  | tuple h n l _ m hk ih => exact .tuple (same_tup s h) n l (fun i y t h1 h2 => ih i y t h1 h2 s) m hk
  | dict h0 h s0 n l kf hv m hk _ => exact .dict h0 (s _ _ h) (s0.trans s) n l kf hv m hk
theorem Shw.more {as' : List Addr} {k' : Nat} (h : Shw K own kO H as k x t) (m' : ∀ a ∈ as, a ∈ as') (hk' : k ≤ k') : Shw K own kO H as' k' x t := by
  cases h with
  | non => exact .non
  | bl b => exact .bl b
  | int h => exact .int h
  | str h => exact .str h
  | own h hk => exact .own h (Nat.le_trans hk hk')
  | list0 h => exact .list0 h
  | list h n l ih m hk => exact .list h n l ih (fun b hb => m' b (m b hb)) (Nat.le_trans hk hk')
  | tuple h n l ih m hk => exact .tuple h n l ih (fun b hb => m' b (m b hb)) (Nat.le_trans hk hk')
  | dict h0 h s0 n l kf hv m hk => exact .dict h0 h s0 n l kf hv (fun b hb => m' b (m b hb)) (Nat.le_trans hk hk')
theorem Rp.key {σ : L2.St} {κ : Key} (h : keyFits κ) : Rp X σ H as k (kV κ) (kTxt κ) := by
  cases κ with
  | inl i => exact Rp.int h
  | inr z => exact Rp.str h
theorem Shw.rp (o : OwnX X own kO) (h : Shw X.K own kO H as k x t) (σ : L2.St) : Rp X σ H as k x t := by
  induction h with
  | non => exact Rp.non
  | bl b => exact Rp.bl
  | int h => exact Rp.int h
  | str h => exact Rp.str h
  | own h hk => exact (Rp.own o h).mono hk
  | list0 h => exact Rp.list0 h
  | list h n l _ m hk ih => exact ((Rp.list h n ⟨l, fun i y hy => (get_two l hy).elim fun t ht => ⟨t, ht, ih i y t hy ht⟩⟩).more m).mono hk
  | tuple h n l _ m hk ih => exact ((Rp.tuple h n ⟨l, fun i y hy => (get_two l hy).elim fun t ht => ⟨t, ht, ih i y t hy ht⟩⟩).more m).mono hk
  | dict h0 h s0 n l kf _ m hk ih =>
    refine ((Rp.dict h0 h s0 n ⟨?_, fun i kv hkv => ?_⟩).more m).mono hk
    · unfold kvTxts
      rw [List.length_zipWith]
      omega
    · obtain ⟨v, hv⟩ := get_two l hkv
      exact ⟨v, kvTxts_get hkv hv, Rp.key (kf i kv hkv), ih i kv v hkv hv⟩
/-- repr(x), x a value of any kind, where nothing guarded runs around -/
def rShw (K : PySem.W.Frag) (own : Hp → Addr → Str → Prop) (kO j : Nat) : List V → Hp → VK → Prop := fun xs H Q => ∃ x as k t, xs = [x] ∧ Shw K own kO H as k x t ∧ t.length ≤ sizeLine ∧ k + 3 ≤ j ∧ ∀ H2, Same H H2 → Q (.str t) H2
theorem repr_top (o : OwnX X own kO) (bare : Bare X.A) (h : Shw X.K own kO H as k x t) (hz : t.length ≤ sizeLine) {pins : List (Addr × Obj)} {σ : L2.St} {s : Shared} {Q : VK} {u : Value} (hr : L2H.RoomH (k + 3) X.A) (I : Inv X pins σ H s) (ru : RelV x u)
    (hq : ∀ H2, Same H H2 → Q (.str t) H2) : wpAny (model X.prog X.w) X.A (call (.builtin "repr") [u]) (EP X pins σ Q) X.xe s := by
  have fin : ∀ (s' : Shared) (H2 : Hp) (z : Tok), Inv X pins σ H2 s' → Same H H2 → EP X pins σ Q (.str t z) s' := fun s' H2 z I2 s2 => ⟨.str t, H2, I2, ⟨z, rfl⟩, hq H2 s2⟩
  have hu : X.A.units + 1 < cLine := by have := hr.un; omega
  have nr : Near X (k + 2) X.A.in1 := (Near.self hr).in1
  cases h with
  | non =>
    obtain rfl : u = Value.none := ru
    exact PySem.P.repr_of_none (fin _ _ _ (I.tok _) (Same.refl H))
  | bl b =>
    obtain rfl : u = Value.bool b := ru
    exact PySem.P.repr_of_bool (fin _ _ _ (I.tok _) (Same.refl H))
  | int hi =>
    obtain ⟨tk, rfl⟩ := ru
    exact PySem.P.repr_of_int hi (fin _ _ _ (I.tok _) (Same.refl H))
  | str _ =>
    obtain ⟨tk, rfl⟩ := ru
    exact PySem.P.repr_of_str (fin _ _ _ (I.tok _) (Same.refl H)) hz
  | own ho hk =>
    obtain ⟨C, f, dx, fs, e, at_, fn, run⟩ := o.run _ _ _ ho
    cases ru
    obtain ⟨mA, J, _⟩ := ins_get I.hok e
    obtain ⟨od, J, _⟩ := J.look
    obtain ⟨m, hF⟩ := I.fr
    exact PySem.W.repr_K hu hF I.ok.mod.kin J at_ fn (run X.A.in1 pins σ s H (nr.mono (by omega)) I (Same.refl H) _ _ fun s' H2 tk I2 s2 => fin s' H2 tk I2 s2)
  | list0 hl =>
    cases ru
    obtain ⟨its, rv, ⟨oa, na, ha, hc, _, hda⟩, _⟩ := I.list hl
    cases rv
    exact call_repr_slot hu ⟨oa, ha, hc⟩ F.slot_list_repr.toG (call_list_repr_empty ⟨oa, ha, hc⟩ ha hda ⟨_, _, rfl, fin _ H _ (I.tok _) (Same.refl H)⟩)
  | list hl n l ih m hk =>
    cases ru
    have hty := sq_type I hl
    refine call_repr_slot hu hty F.slot_list_repr.toG (wpAny_call (codeAny_call_builtin F.slot_list_repr.plain F.entry_list_repr (F.slot_list_repr.check _ _ _ _ _ _ _ _ hty (F.args_list_repr_1 _) ?_)))
    exact rp_list_at (σ := σ) (H := H) (b := 0) (R := callEnd _ _) hl (nr.mono (by omega)) bare (fun c _ => Clear.nil c) n ⟨l, fun i y hy => (get_two l hy).elim fun t ht => ⟨t, ht, (ih i y t hy ht).rp o σ⟩⟩ (by omega) I (Same.refl H)
      fun s' H2 z I2 s2 => ⟨_, _, rfl, fin s' H2 z I2 s2⟩
  | tuple hl n l ih m hk =>
    cases ru
    obtain ⟨its, rv, ⟨o', ha, hct, n', hd⟩, _⟩ := I.tuple hl
    refine call_repr_slot hu ⟨o', ha, hct⟩ F.slot_tuple_repr (wpAny_call (codeAny_call_builtin_own (Code.quiet_builtin _ (by decide +kernel)) F.entry_tuple_repr (F.slot_tuple_repr.check _ _ _ _ _ _ _ _ ⟨o', ha, hct⟩ (F.args_tuple_repr_1 _) ?_)))
    exact rp_tuple_at (σ := σ) (H := H) (b := 0) (R := callEnd _ _) (lit_tuple _ _) hl (nr.mono (by omega)) bare (fun c _ => Clear.nil c) n ⟨l, fun i y hy => (get_two l hy).elim fun t ht => ⟨t, ht, (ih i y t hy ht).rp o σ⟩⟩ (by omega) I (Same.refl H)
      fun s' H2 z I2 s2 => ⟨_, _, rfl, fin s' H2 z I2 s2⟩
  | dict h0 hl s0 n l kf ih m hk =>
    rename_i as1 k1 a1 kvs vts
    cases ru
    obtain ⟨_, _, vs, rv, o', es, n', ha, hx, _⟩ := dk_of I.hok hl
    refine call_repr_slot hu ⟨o', ha, hx.1⟩ F.slot_dict_repr (wpAny_call (codeAny_call_builtin_own (Code.quiet_builtin _ (by decide +kernel)) F.entry_dict_repr (F.slot_dict_repr.check _ _ _ _ _ _ _ _ ⟨o', ha, hx.1⟩ (F.args_dict_repr_1 _) ?_)))
    refine rp_dict_at (σ := σ) (b := 0) (R := callEnd _ _) (lit_dict _ _) h0 hl (nr.mono (j := k1 + 1) (by omega)) bare (fun c _ => Clear.nil c) n ⟨?_, fun i kv hkv => ?_⟩ (by omega) I s0
      fun s' H2 z I2 s2 => ⟨_, _, rfl, fin s' H2 z I2 s2⟩
    · unfold kvTxts
      rw [List.length_zipWith]
      omega
    · obtain ⟨v, hv⟩ := get_two l hkv
      exact ⟨v, kvTxts_get hkv hv, Rp.key (kf i kv hkv), (ih i kv v hkv hv).rp o σ⟩
/-- the def that shows own instances, where nothing is handled -/
structure OwnF (P : Program) (w : World) (K : PySem.W.Frag) (mg : Str → Option Value) (base : Heap) (own : Hp → Addr → Str → Prop) (kO : Nat) : Prop where
  ex : ∃ (C : Addr) (sp : Sp), DunF P w K mg base kO C "__repr__" sp ∧ ∀ H a t, own H a t → (∃ dx fs, H a = some (.ins C dx fs)) ∧ ∀ H1, Same H H1 → sp [.ref a] H1 (fun v H2 => v = .str t ∧ Same H1 H2) E0
theorem OwnF.at (o : OwnF X.prog X.w X.K X.mg X.base own kO) (cold : X.A.handled = none) : OwnX X own kO := by
  obtain ⟨C, sp, ⟨f, fd, ps, at_, fn, F, hb⟩, ho⟩ := o.ex
  refine ⟨fun H a t h => ?_⟩
  obtain ⟨⟨dx, fs, e⟩, q⟩ := ho H a t h
  refine ⟨C, f, dx, fs, e, at_, fn, fun A pins σ s H1 n I s1 Q E fin => ?_⟩
  have h1 := q H1 s1
  have hl := F.len _ _ _ _ h1
  have bind := hb s [.ref a] I.kIn (by simpa using hl)
  rw [List.append_nil] at bind
  have env : Env0 X.prog X.w X.K X.mg X.base A X.stack s H1 := { I.env0 with frames := n.fr.trans I.env0.frames }
  refine wpAny_call (codeAny_mono (F.run A X.stack s H1 ⟨[.ref a], []⟩ [.ref a] [.ref a] _ E0 ⟨n.hn.trans cold, n.room.dp, n.room.un⟩ env bind (.cons rfl .nil) h1) fun r s' hq => ?_)
  match r, hq with
  | .error e, hq => exact False.elim hq
  | .ok (.ret z), hq =>
    obtain ⟨v, H', I', rv, rfl, s2⟩ := I.after hq
    obtain ⟨tk, rfl⟩ := rv
    exact fin s' H' tk I' s2
  | .ok .next, hq => exact False.elim hq
  | .ok .brk, hq => exact False.elim hq
  | .ok .cont, hq => exact False.elim hq
/-- the same within an except suite -/
structure OwnH (P : Program) (w : World) (K : PySem.W.Frag) (mg : Str → Option Value) (base : Heap) (own : Hp → Addr → Str → Prop) (kO : Nat) : Prop where
  ex : ∃ (C f : Addr) (fd : FuncData) (ps : List Str) (sp : Sp), PySem.W.findIn K (.ref C) "__repr__" = some (some (.ref f)) ∧ PySem.W.isFn K (.ref f) = true ∧ L2H.FnH P w K mg base CX0 kO f fd ps sp ∧ Binds K fd ps [] ∧
    ∀ H a t, own H a t → (∃ dx fs, H a = some (.ins C dx fs)) ∧ ∀ H1, Same H H1 → sp [.ref a] H1 (fun v H2 => v = .str t ∧ Same H1 H2) E0
theorem OwnH.at (o : OwnH X.prog X.w X.K X.mg X.base own kO) (hot : L2H.HotC X) : OwnX X own kO := by
  obtain ⟨C, f, fd, ps, sp, at_, fn, F, hb, ho⟩ := o.ex
  obtain ⟨p, hp1, hp2⟩ := hot
  refine ⟨fun H a t h => ?_⟩
  obtain ⟨⟨dx, fs, e⟩, q⟩ := ho H a t h
  refine ⟨C, f, dx, fs, e, at_, fn, fun A pins σ s H1 n I s1 Q E fin => ?_⟩
  have h1 := q H1 s1
  have hl := F.len _ _ _ _ h1
  have bind := hb s [.ref a] I.kIn (by simpa using hl)
  rw [List.append_nil] at bind
  have env : Env0 X.prog X.w X.K X.mg X.base A X.stack s H1 := { I.env0 with frames := n.fr.trans I.env0.frames }
  obtain ⟨p1, p2, p3, p4, p5⟩ := I.pin p (List.mem_append_left _ hp2)
  have pin : L2H.PinOk X.stack H1 s p := ⟨p1, p2, fun m => (List.mem_cons.mp (I.stkSub p.1 m)).elim p3 p4, p5⟩
  refine wpAny_call (codeAny_mono (F.run A X.stack s H1 ⟨[.ref a], []⟩ [.ref a] [.ref a] _ E0 p n.room ⟨n.hn.trans hp1.1, hp1.2⟩ pin env bind (.cons rfl .nil) h1) fun r s' hq => ?_)
  match r, hq with
  | .error e, hq => exact False.elim hq
  | .ok (.ret z), hq =>
    obtain ⟨v, H', I', rv, rfl, s2⟩ := I.after hq
    obtain ⟨tk, rfl⟩ := rv
    exact fin s' H' tk I' s2
  | .ok .next, hq => exact False.elim hq
  | .ok .brk, hq => exact False.elim hq
  | .ok .cont, hq => exact False.elim hq
theorem call_reprX (o : OwnX X own kO) (bare : Bare X.A) (hr : L2H.RoomH j X.A) (hK : X.K = K := by rfl) : CallR X (.builtin "repr") (rShw K own kO j) := by
  subst hK
  intro pins s σ H xs us Q I r h
  obtain ⟨x, as, k, t, rfl, hs, hz, hk, q⟩ := h
  obtain ⟨u, rfl, ru⟩ := vals1 r
  exact repr_top o bare hs hz (hr.mono hk) I ru q
theorem call_reprS (o : OwnF X.prog X.w X.K X.mg X.base own kO) (bare : Bare X.A) (hr : Room j X.A) (hK : X.K = K := by rfl) : CallR X (.builtin "repr") (rShw K own kO j) := call_reprX (o.at hr.hd) bare (L2H.roomH_of hr) hK
end
/-- a class made with values by name; sp: its __init__ -/
structure MakK (P : Program) (w : World) (K : PySem.W.Frag) (mg : Str → Option Value) (base : Heap) (k : Nat) (x : Str) (C : Addr) (sp : Sp) (ks : List Str) (gV : List V → List V → List V) : Prop where
  ex : ∃ (f : Addr) (fd : FuncData) (ps : List Str) (g : List Value → List Value → List Value), Mk K C f ∧ FnOk P w K mg base CX0 k f fd ps sp ∧ mg x = some (.ref C) ∧ KBn K fd ps 1 ks g gV
theorem pe_mkk {X : Cx} {k j : Nat} {x : Str} {C : Addr} {sp : Sp} {ks : List Str} {gV : List V → List V → List V} {p pos : Pos} {kws : List Keyword} {tk : TA}
    (c : MakK X.prog X.w X.K X.mg X.base k x C sp ks gV) (hr : Room j X.A) (hk : k + 1 ≤ j) (hg : Gl X x) (hkw : PK X kws tk)
    (hall : (backToKw pos (keywordEach kws X.env)).all (·.1.isSome) = true := by rfl) (hks : (backToKw pos (keywordEach kws X.env)).filterMap (·.1) = ks := by rfl) (hdb : (x == ("__debug__" : Str)) = false := by decide)
    (hpl : ((backTo pos (starEach [] X.env)).any (·.1) || (backToKw pos (keywordEach kws X.env)).any (·.1.isNone)) = false := by rfl) :
    PE X (.Call (.Name x p) [] kws pos) (tMakeK C 0 ks.length sp gV E0 tNil tk) := by
  obtain ⟨f, fd, ps, g, M, F, hm, b⟩ := c.ex
  exact pe_makeK0 M F (hr.mono hk) hg hm b pass0 hkw hall hks hdb hpl
end MG

/-! Plain facts about numbers, and short words for readings -/
namespace MG
open PySem PySem.Spec PyProof.Rows L2

/-- within 10 ^ 400 -/
def Sm (i : Int) : Prop := -(10 ^ 400) < i ∧ i < 10 ^ 400
theorem big400 : (10 : Nat) ^ 400 < 2 ^ 1400 := by decide +kernel
theorem Sm.abs {i : Int} (h : Sm i) : i.natAbs < 2 ^ 1400 := by
  have h1 := h.1
  have h2 := h.2
  have h3 := big400
  have e : ((10 : Int) ^ 400) = ((10 ^ 400 : Nat) : Int) := by rw [Int.natCast_pow]; rfl
  rw [e] at h1 h2
  generalize (10 : Nat) ^ 400 = a at *
  generalize (2 : Nat) ^ 1400 = b at *
  omega
theorem sm_mul {i j : Int} (hi : Sm i) (hj : Sm j) : CMulW i j := wide_mul hi.abs hj.abs (by decide) (by decide) (by decide)
theorem sm_div {j : Int} (h : Sm j) (h0 : j ≠ 0) : j ≠ 0 ∧ j.natAbs.log2 < 9000 :=
  ⟨h0, Nat.lt_of_lt_of_le (PySem.Flt.log2_lt_of (by decide) h.abs) (by decide)⟩
theorem sm_lt {i : Int} {k : Nat} (hk : k ≤ 400) (h1 : -(10 ^ k) < i) (h2 : i < 10 ^ k) : Sm i := by
  have e : (10 : Int) ^ k ≤ 10 ^ 400 := by
    have q : (10 : Nat) ^ k ≤ 10 ^ 400 := Nat.pow_le_pow_right (by decide) hk
    have z := Int.ofNat_le.mpr q
    rw [Int.natCast_pow, Int.natCast_pow] at z
    exact z
  constructor <;> generalize (10 : Int) ^ 400 = b at * <;> omega
theorem fmod_ge {x m : Int} (h : 0 < m) : 0 ≤ x.fmod m := Int.fmod_nonneg_of_pos x h
theorem fmod_lt {x m : Int} (h : 0 < m) : x.fmod m < m := Int.fmod_lt_of_pos x h
theorem fdiv_ge {x m : Int} (hx : 0 ≤ x) (h : 0 < m) : 0 ≤ x.fdiv m := by
  rw [Int.fdiv_eq_ediv_of_nonneg x (by omega)]
  exact Int.ediv_nonneg hx (by omega)
theorem fdiv_le {x m : Int} (hx : 0 ≤ x) (h : 0 < m) : x.fdiv m ≤ x := by
  rw [Int.fdiv_eq_ediv_of_nonneg x (by omega)]
  exact Int.ediv_le_self m hx
/-- an item of a written list of ints at a reckoned index -/
theorem at_ints {l : List Int} {i : Int} (h0 : 0 ≤ i) (h : i < l.length) : ∃ z ∈ l, atI (l.map V.int) i = some (V.int z) := by
  obtain ⟨j, rfl⟩ := Int.eq_ofNat_of_zero_le h0
  have hj : j < l.length := by omega
  exact ⟨l[j], List.getElem_mem hj, atI_nat (by rw [List.getElem?_map, List.getElem?_eq_getElem hj]; rfl)⟩
end MG

/-! Fractions: what crossing out gives is the numerator and the denominator -/
namespace MG
open PySem PySem.Spec PyProof.Rows L2

/-- the divisor, of the sign of the lower one -/
def gd (a u : Int) : Int := if 0 < u then (Int.gcd a u : Int) else -(Int.gcd a u : Int)
theorem gd_ne {a u : Int} (h : u ≠ 0) : gd a u ≠ 0 := by
  have := Int.gcd_pos_of_ne_zero_right a h
  unfold gd
  split <;> omega
theorem gd_sm {a u : Int} (h : u ≠ 0) (hu : Sm u) : Sm (gd a u) := by
  have h1 : (Int.gcd a u : Nat) ≤ u.natAbs := Nat.le_of_dvd (by omega) (Int.gcd_dvd_natAbs_right a u)
  obtain ⟨h2, h3⟩ := hu
  unfold gd Sm
  generalize (10 : Int) ^ 400 = t at *
  split <;> omega
theorem lo_num {a u : Int} (h : u ≠ 0) : a.fdiv (gd a u) = (Rat.divInt a u).num := by
  have hg : (Int.gcd a u : Int) ≠ 0 := by have := Int.gcd_pos_of_ne_zero_right a h; omega
  obtain ⟨x, hx⟩ := Int.gcd_dvd_left a u
  have e1 : (a.gcd u : Int) * x / (a.gcd u : Int) = x := Int.mul_ediv_cancel_left x hg
  rw [Rat.num_divInt, Int.gcd_comm u a]
  unfold gd
  generalize (a.gcd u : Int) = g at *
  rcases Int.lt_trichotomy u 0 with hu | hu | hu
  · rw [if_neg (by omega), Int.sign_eq_neg_one_of_neg hu, hx]
    have e : g * x = -g * -x := (Int.neg_mul_neg g x).symm
    rw [e, Int.mul_fdiv_cancel_left (-x) (by omega), ← e, Int.neg_one_mul, ← Int.mul_neg, Int.mul_ediv_cancel_left _ hg]
  · exact absurd hu h
  · rw [if_pos hu, Int.sign_eq_one_of_pos hu, Int.one_mul, hx, Int.mul_fdiv_cancel_left x hg, e1]
theorem lo_den {a u : Int} (h : u ≠ 0) : u.fdiv (gd a u) = ((Rat.divInt a u).den : Int) := by
  have hg : (Int.gcd a u : Int) ≠ 0 := by have := Int.gcd_pos_of_ne_zero_right a h; omega
  obtain ⟨x, hx⟩ := Int.gcd_dvd_right a u
  rw [Rat.den_divInt, if_neg h, Int.gcd_comm u a, Int.natCast_ediv]
  have e0 : (u.natAbs : Int) = if 0 < u then u else -u := by split <;> omega
  rw [e0]
  unfold gd
  generalize (a.gcd u : Int) = g at *
  rcases Int.lt_trichotomy u 0 with hu | hu | hu
  · rw [if_neg (by omega), if_neg (by omega)]
    have e : u = -g * -x := by rw [Int.neg_mul_neg]; exact hx
    have e2 : -u = g * -x := by rw [Int.mul_neg, ← hx]
    rw [e2, Int.mul_ediv_cancel_left _ hg]
    conv => lhs; rw [e]
    exact Int.mul_fdiv_cancel_left (-x) (by omega)
  · exact absurd hu h
  · rw [if_pos hu, if_pos hu]
    conv => lhs; rw [hx]
    conv => rhs; rw [hx]
    rw [Int.mul_fdiv_cancel_left x hg, Int.mul_ediv_cancel_left _ hg]

/-- numerator and denominator below 10 ^ k -/
def Bd (p : Rat) (k : Nat) : Prop := p.num.natAbs < 10 ^ k ∧ p.den < 10 ^ k
theorem Bd.mono {p : Rat} {i j : Nat} (h : Bd p i) (hij : i ≤ j) : Bd p j := by
  have := Nat.pow_le_pow_right (show 0 < 10 by decide) hij
  exact ⟨Nat.lt_of_lt_of_le h.1 this, Nat.lt_of_lt_of_le h.2 this⟩
theorem nab {x : Nat} {i : Int} (h : i.natAbs < x) : -(x : Int) < i ∧ i < x := by omega
theorem Bd.num {p : Rat} {k : Nat} (h : Bd p k) (hk : k ≤ 400) : Sm p.num := by
  have := nab h.1
  rw [Int.natCast_pow] at this
  exact sm_lt hk this.1 this.2
theorem Bd.den {p : Rat} {k : Nat} (h : Bd p k) (hk : k ≤ 400) : Sm (p.den : Int) := by
  have := nab (i := (p.den : Int)) (x := 10 ^ k) (by have := h.2; omega)
  rw [Int.natCast_pow] at this
  exact sm_lt hk this.1 this.2
theorem divInt_num_le (a u : Int) : (Rat.divInt a u).num.natAbs ≤ a.natAbs := by
  rw [Rat.num_divInt]
  have h : (u.sign * a).natAbs ≤ a.natAbs := by
    rw [Int.natAbs_mul]
    have : u.sign.natAbs ≤ 1 := by
      rcases Int.lt_trichotomy u 0 with hu | hu | hu
      · rw [Int.sign_eq_neg_one_of_neg hu]; decide
      · rw [hu]; decide
      · rw [Int.sign_eq_one_of_pos hu]; decide
    calc u.sign.natAbs * a.natAbs ≤ 1 * a.natAbs := Nat.mul_le_mul_right _ this
      _ = a.natAbs := Nat.one_mul _
  refine Nat.le_trans ?_ h
  obtain ⟨x, hx⟩ : ((u.gcd a : Nat) : Int) ∣ u.sign * a := Int.dvd_mul_of_dvd_right (Int.gcd_dvd_right u a)
  by_cases hg : ((u.gcd a : Nat) : Int) = 0
  · rw [hg, Int.ediv_zero]
    exact Nat.zero_le _
  · rw [hx, Int.mul_ediv_cancel_left _ hg, Int.natAbs_mul]
    exact Nat.le_mul_of_pos_left _ (by omega)
theorem divInt_den_le {a u : Int} (h : u ≠ 0) : (Rat.divInt a u).den ≤ u.natAbs := by
  rw [Rat.den_divInt, if_neg h]
  exact Nat.div_le_self _ _
theorem bd_div {a u : Int} {k : Nat} (h : u ≠ 0) (ha : a.natAbs < 10 ^ k) (hu : u.natAbs < 10 ^ k) : Bd (Rat.divInt a u) k :=
  ⟨Nat.lt_of_le_of_lt (divInt_num_le a u) ha, Nat.lt_of_le_of_lt (divInt_den_le h) hu⟩
theorem add_eq (p q : Rat) : p + q = Rat.divInt (p.num * q.den + q.num * p.den) (p.den * q.den) := by
  have h1 : (p.den : Int) ≠ 0 := by have := p.den_nz; omega
  have h2 : (q.den : Int) ≠ 0 := by have := q.den_nz; omega
  rw [← Rat.divInt_add_divInt _ _ h1 h2, Rat.num_divInt_den, Rat.num_divInt_den]
theorem sub_eq (p q : Rat) : p - q = Rat.divInt (p.num * q.den - q.num * p.den) (p.den * q.den) := by
  have h1 : (p.den : Int) ≠ 0 := by have := p.den_nz; omega
  have h2 : (q.den : Int) ≠ 0 := by have := q.den_nz; omega
  rw [← Rat.divInt_sub_divInt _ _ h1 h2, Rat.num_divInt_den, Rat.num_divInt_den]
theorem mul_eq (p q : Rat) : p * q = Rat.divInt (p.num * q.num) (p.den * q.den) := by
  rw [← Rat.divInt_mul_divInt, Rat.num_divInt_den, Rat.num_divInt_den]
theorem neg_eq (p : Rat) : -p = Rat.divInt (-p.num) p.den := by
  rw [← Rat.neg_divInt, Rat.num_divInt_den]
theorem over_eq (p q : Rat) : p / q = Rat.divInt (p.num * q.den) (p.den * q.num) := by
  rw [Rat.div_def]
  conv => lhs; rw [← Rat.num_divInt_den p, ← Rat.num_divInt_den q]
  rw [Rat.inv_divInt, Rat.divInt_mul_divInt]
theorem den_ne (p q : Rat) : (p.den : Int) * q.den ≠ 0 := by
  have h1 := p.den_nz
  have h2 := q.den_nz
  exact Int.mul_ne_zero (by omega) (by omega)
theorem lt_mul {a b : Nat} {i j : Nat} (ha : a < 10 ^ i) (hb : b < 10 ^ j) : a * b < 10 ^ (i + j) := by
  rw [Nat.pow_add]
  exact Nat.mul_lt_mul'' ha hb
theorem bd_mul {p q : Rat} {i j : Nat} (hp : Bd p i) (hq : Bd q j) : Bd (p * q) (i + j) := by
  rw [mul_eq]
  refine bd_div (den_ne p q) ?_ ?_
  · rw [Int.natAbs_mul]; exact lt_mul hp.1 hq.1
  · rw [Int.natAbs_mul]; exact lt_mul hp.2 hq.2
theorem ten (k : Nat) : 10 ^ (k + 1) = 10 * 10 ^ k := by rw [Nat.pow_succ, Nat.mul_comm]
theorem bd_add {p q : Rat} {i j : Nat} (hp : Bd p i) (hq : Bd q j) : Bd (p + q) (i + j + 1) := by
  rw [add_eq]
  have h1 := lt_mul hp.1 hq.2
  have h2 := lt_mul hp.2 hq.1
  have h3 := lt_mul hp.2 hq.2
  have t := ten (i + j)
  refine bd_div (den_ne p q) ?_ ?_
  · have e1 : (p.num * q.den).natAbs = p.num.natAbs * q.den := by rw [Int.natAbs_mul]; rfl
    have e2 : (q.num * p.den).natAbs = p.den * q.num.natAbs := by rw [Int.natAbs_mul, Nat.mul_comm]; rfl
    have := Int.natAbs_add_le (p.num * q.den) (q.num * p.den)
    omega
  · have e : ((p.den : Int) * q.den).natAbs = p.den * q.den := by rw [Int.natAbs_mul]; rfl
    omega
theorem bd_neg {p : Rat} {i : Nat} (hp : Bd p i) : Bd (-p) i := by
  have e1 : (-p).num = -p.num := rfl
  have e2 : (-p).den = p.den := rfl
  unfold Bd
  rw [e1, e2, Int.natAbs_neg]
  exact hp
theorem bd_sub {p q : Rat} {i j : Nat} (hp : Bd p i) (hq : Bd q j) : Bd (p - q) (i + j + 1) := by
  rw [Rat.sub_eq_add_neg]
  exact bd_add hp (bd_neg hq)
theorem sm_of {i : Int} (h : i.natAbs < 10 ^ 390) : Sm i := by
  have := nab h
  rw [Int.natCast_pow] at this
  exact sm_lt (by decide) this.1 this.2
theorem sm_den2 {p q : Rat} {i j : Nat} (hp : Bd p i) (hq : Bd q j) (h : i + j ≤ 390) : Sm ((p.den : Int) * q.den) := by
  refine sm_of ?_
  have e : ((p.den : Int) * q.den).natAbs = p.den * q.den := by rw [Int.natAbs_mul]; rfl
  rw [e]
  exact Nat.lt_of_lt_of_le (lt_mul hp.2 hq.2) (Nat.pow_le_pow_right (by decide) h)
theorem sm_dn {p q : Rat} {i j : Nat} (hp : Bd p i) (hq : Bd q j) (h : i + j ≤ 390) : Sm ((p.den : Int) * q.num) := by
  refine sm_of ?_
  have e : ((p.den : Int) * q.num).natAbs = p.den * q.num.natAbs := by rw [Int.natAbs_mul]; rfl
  rw [e]
  exact Nat.lt_of_lt_of_le (lt_mul hp.2 hq.1) (Nat.pow_le_pow_right (by decide) h)
theorem rat_dec (p q : Rat) : decide (p = q) = (decide (p.num = q.num) && decide ((p.den : Int) = q.den)) := by
  rw [← Bool.decide_and]
  refine decide_eq_decide.mpr ⟨fun e => by rw [e]; exact ⟨rfl, rfl⟩, fun ⟨h1, h2⟩ => Rat.ext h1 (by omega)⟩
end MG

/-! Texts of pairs, lists of texts compared -/
namespace MG
open PySem PySem.Spec PyProof.Rows L2

theorem all_append {x y : Str} (f : Nat → Bool) : (x ++ y).cps.all f = (x.cps.all f && y.cps.all f) := by
  show (x.cps ++ y.cps).all f = _
  exact Array.all_append
theorem ok_append {x y : Str} (hx : PyData.strOk x = true) (hy : PyData.strOk y = true) : PyData.strOk (x ++ y) = true := by
  unfold PyData.strOk at *
  rw [all_append, hx, hy]
  rfl
theorem ok_of (s : String) : PyData.strOk (Str.ofString s) = true := by
  unfold PyData.strOk
  rw [← Array.all_toList, signs_ofString, List.all_map, List.all_eq_true]
  intro c _
  have h := c.valid
  refine decide_eq_true ?_
  rcases h with h | ⟨_, h⟩
  · exact Nat.lt_trans h (by decide)
  · exact h
/-- repr((a, b)) -/
def shw (a b : Int) : Str := (PyData.tuple [.int a, .int b]).shown
theorem shw_eq (a b : Int) : shw a b = tupleText [toString a, toString b] := rfl
theorem ok_shw (a b : Int) : PyData.strOk (shw a b) = true := by
  show PyData.strOk (("(" : Str) ++ (Str.ofString (toString a) ++ (", " : Str) ++ Str.ofString (toString b)) ++ (")" : Str)) = true
  exact ok_append (ok_append (ok_of _) (ok_append (ok_append (ok_of _) (ok_of _)) (ok_of _))) (ok_of _)
theorem log_sm {i : Int} (h : Sm i) : i.natAbs.log2 < 1920 := Nat.lt_of_lt_of_le (PySem.Flt.log2_lt_of (by decide) h.abs) (by decide)
theorem txt_len {i : Int} (h : Sm i) : (Str.ofString (toString i)).length ≤ 1921 := by
  rw [PySem.ofString_length]
  exact int_text_length_le (k := 1920) (by decide) (log_sm h)
theorem shw_len {a b : Int} (ha : Sm a) (hb : Sm b) : (shw a b).length ≤ 4000 := by
  have h := tupleText_len_le [Str.ofString (toString a), Str.ofString (toString b)]
  have h1 := txt_len ha
  have h2 := txt_len hb
  simp only [List.map_cons, List.map_nil, List.sum_cons, List.sum_nil, List.length_cons, List.length_nil] at h
  have e : shw a b = tupleText [Str.ofString (toString a), Str.ofString (toString b)] := rfl
  rw [e]
  omega
theorem pair_ok {K : PySem.W.Frag} {H : Hp} {t : Addr} {a b : Int} (h : SqT K H t [.int a, .int b]) (ha : Sm a) (hb : Sm b) : Dp K H (.ref t) (.tuple [.int a, .int b]) ∧ (PyData.tuple [.int a, .int b]).showable = true ∧
    (PyData.tuple [.int a, .int b]).hasDict = false ∧ (PyData.tuple [.int a, .int b]).depth ≤ 60 ∧ (PyData.tuple [.int a, .int b]).shown.length ≤ sizeLine := by
  refine ⟨.tup h (.cons (.int a) (.cons (.int b) .nil)), ?_, rfl, ?_, ?_⟩
  · simp [PyData.showable, PyData.showableAll, log_sm ha, log_sm hb]
  · simp [PyData.depth, PyData.depthAll]
  · exact Nat.le_trans (shw_len ha hb) (by decide)
/-- the same, the data unnamed -/
theorem pair_ex {K : PySem.W.Frag} {H : Hp} {t : Addr} {a b : Int} (h : SqT K H t [.int a, .int b]) (ha : Sm a) (hb : Sm b) : ∃ d, Dp K H (.ref t) d ∧ d.showable = true ∧ d.hasDict = false ∧ d.depth ≤ 60 ∧ d.shown.length ≤ sizeLine ∧ d.shown = shw a b := by
  obtain ⟨r1, r2, r3, r4, r5⟩ := pair_ok h ha hb
  exact ⟨_, r1, r2, r3, r4, r5, rfl⟩
/-- what repr of a pair of ints asks -/
theorem repr_pair {K : PySem.W.Frag} {H : Hp} {t : Addr} {a b : Int} {Q : VK} (h : SqT K H t [.int a, .int b]) (ha : Sm a) (hb : Sm b) (k : Q (.str (shw a b)) H) : rRepr K [.ref t] H Q := by
  refine ⟨.ref t, .tuple [.int a, .int b], rfl, .tup h (.cons (.int a) (.cons (.int b) .nil)), ?_, rfl, ?_, ?_, k⟩
  · simp [PyData.showable, PyData.showableAll, log_sm ha, log_sm hb]
  · simp [PyData.depth, PyData.depthAll]
  · exact Nat.le_trans (shw_len ha hb) (by decide)
theorem dp_strs {K : PySem.W.Frag} {H : Hp} {a : Addr} {ss : List Str} (h : SqL K H a (ss.map V.str)) : Dp K H (.ref a) (.list (ss.map .str)) := by
  refine .lst h ?_
  induction ss with
  | nil => exact .nil
  | cons s ss ih => exact .cons (.str s) (all_dp ss)
where all_dp : ∀ ss : List Str, DpAll K H (ss.map V.str) (ss.map PyData.str)
  | [] => .nil
  | s :: ss => .cons (.str s) (all_dp ss)
theorem sh_strs {ss : List Str} (h : ∀ s ∈ ss, PyData.strOk s = true) : SeqAt.shaped (.list (ss.map .str)) = true := by
  unfold SeqAt.shaped
  rw [Bool.and_eq_true]
  refine ⟨?_, ?_⟩
  · show PyData.canLayAll0 (ss.map .str) = true
    rw [canLayAll_strs', List.all_eq_true]
    exact h
  · refine decide_eq_true ?_
    show PyData.depthAll (ss.map .str) + 1 ≤ 64
    rw [depthAll_strs']
    decide
/-- two lists of the same texts -/
theorem ne_strs {K : PySem.W.Frag} {H : Hp} {a b : Addr} {ss : List Str} {Q : VK} (ha : SqL K H a (ss.map V.str)) (hb : SqL K H b (ss.map V.str)) (h : ∀ s ∈ ss, PyData.strOk s = true) (k : Q (.bl false) H) : rNeD K (.ref a) (.ref b) H Q := by
  have sh := sh_strs h
  refine ⟨_, _, dp_strs ha, dp_strs hb, sh, sh, ?_⟩
  have e := SeqAt.eqv_refl (.list (ss.map .str)) (SeqAt.canLay_of_shaped sh)
  rw [e]
  exact k
theorem eq_strs {K : PySem.W.Frag} {H : Hp} {a b : Addr} {ss : List Str} {Q : VK} (ha : SqL K H a (ss.map V.str)) (hb : SqL K H b (ss.map V.str)) (h : ∀ s ∈ ss, PyData.strOk s = true) (k : Q (.bl true) H) : rEqD K (.ref a) (.ref b) H Q := by
  have sh := sh_strs h
  refine ⟨_, _, dp_strs ha, dp_strs hb, sh, sh, ?_⟩
  have e := SeqAt.eqv_refl (.list (ss.map .str)) (SeqAt.canLay_of_shaped sh)
  rw [e]
  exact k
end MG

namespace Lw
open PySem PySem.Spec PyProof.Rows L2 MG
def top (i : Nat) : Stmt := PySem.Challenge.pw_matrixforms_k10_matrices_refused.main.body.getD i (.Pass ⟨0, 0, 0, 0⟩)
abbrev s__law_purse : Stmt := top 28
abbrev s__law_draw : Stmt := top 29
abbrev s__law_great : Stmt := top 30
abbrev s__law_common : Stmt := top 31
abbrev s__law_lowest : Stmt := top 32
abbrev s__law_from : Stmt := top 41
structure Blt (mg : Str → Option Value) : Prop where
  b_int : mg "int" = none
  b_len : mg "len" = none
  b_abs : mg "abs" = none
  b_range : mg "range" = none
  b_max : mg "max" = none
  b_min : mg "min" = none
  b_all : mg "all" = none
  b_repr : mg "repr" = none
  b_isinstance : mg "isinstance" = none
  b_bool : mg "bool" = none
  b_str : mg "str" = none
  b_any : mg "any" = none
  b_tuple : mg "tuple" = none
  b_list : mg "list" = none
  b_sum : mg "sum" = none
  b_zip : mg "zip" = none
  b_enumerate : mg "enumerate" = none

/-- the cells, the next one, what is left of the last one, the turns -/
structure QAt (H : Hp) (q : Addr) (n : Nat) : Prop where
  ex : ∃ (c : Addr) (ns : List Int) (i r t : Int), H q = some (.lst [.ref c, .int i, .int r, .int t]) ∧ H c = some (.lst (ns.map V.int)) ∧
    (∀ z ∈ ns, 0 ≤ z ∧ z < 10 ^ 120) ∧ ns.length ≤ 100000 ∧ (0 ≤ i ∧ i ≤ n) ∧ (0 ≤ r ∧ r < 10 ^ 120) ∧ (0 ≤ t ∧ t ≤ n)
def spDraw : Sp := fun vs H Q _ => ∃ (q : Addr) (m : Int) (n : Nat), vs = [.ref q, .int m] ∧ QAt H q n ∧ n ≤ 100000 ∧ 0 < m ∧ m < 10 ^ 30 ∧
  ∀ (r : Int) (H' : Hp), 0 ≤ r → r < m → Keep q H H' → QAt H' q (n + 1) → Q (.int r) H'
theorem cells_ne {H : Hp} {q c : Addr} {ns : List Int} {i r t : Int} (hq : H q = some (.lst [.ref c, .int i, .int r, .int t])) (hc : H c = some (.lst (ns.map V.int))) : c ≠ q :=
  ne_of hc hq (by
    intro e
    have e2 := HO.lst.inj e
    cases ns with
    | nil => cases e2
    | cons a b => cases e2)
def primes : List Int := [1000003, 1299709, 2750159, 3497861, 4256233, 5800079, 6700417, 7368787, 8460041, 9576901, 15485863]
theorem primes_ok {z : Int} (h : z ∈ primes) : 0 < z ∧ z ≤ 15485863 := by
  simp only [primes, List.mem_cons, List.not_mem_nil, or_false] at h
  omega
theorem prime_at {i : Int} (h0 : 0 ≤ i) (h : i < 11) : ∃ z, atI ([.int 1000003, .int 1299709, .int 2750159, .int 3497861, .int 4256233, .int 5800079, .int 6700417, .int 7368787, .int 8460041, .int 9576901, .int 15485863] : List V) i = some (.int z) ∧ 0 < z ∧ z ≤ 15485863 := by
  obtain ⟨z, hz, e⟩ := at_ints (l := primes) h0 (by show i < 11; exact h)
  exact ⟨z, e, primes_ok hz⟩
section
variable {P : Program} {w : World} {K : PySem.W.Frag} {mg : Str → Option Value} {base : Heap}
theorem sc__law_draw : FnScope ["_law_q", "_law_many", "_law_digit", "_law_cells_here", "_law_cell", "_law_turn", "_law_primes", "_law_blend"] ["_law_q", "_law_many"] (defScope s__law_draw) := ⟨rfl, rfl, rfl, by decide +kernel, rfl, by decide +kernel, by decide +kernel⟩
theorem ok_draw {f : Addr} {fd : FuncData} (F : Fun K "_law_draw" "_law_draw" s__law_draw f fd) (T : Blt mg) : FnG P w K mg base CX0 2 f fd ["_law_q", "_law_many"] spDraw := by
  refine fun_okG F sc__law_draw (fun vs H Q E h => ?_) (fun cdv A outer s H vs Q E bare hr h => ?_)
  · obtain ⟨q, m, n, rfl, _⟩ := h
    rfl
  · obtain ⟨q, m, n, rfl, ⟨c, ns, i, r, t, hq, hc, hz, hl, ⟨hi0, hi⟩, ⟨hr0, hr1⟩, ⟨ht0, ht⟩⟩, hn, hm0, hm, k⟩ := h
    have ncq := cells_ne hq hc
    have smm : Sm m := sm_lt (k := 30) (by decide) (by omega) hm
    refine ⟨_, (pss_cons (ps_if (pt_cmpR op_gt (pe_ix (ix_listK (K := K)) (pv 0) pe_int (fun _ _ => rfl)) pe_int (nomark _)) (pss_cons (ps_set (i := 2) sc__law_draw.nd rfl (Or.inl rfl) (pe_op op_modN (pe_callTy call_int1 (by rfl) T.b_int (by decide +kernel) (pa_cons (pe_ix (ix_listK (K := K)) (pv 0) pe_int (fun _ _ => rfl)) pa_nil)) (pv 1)))
  (pss_cons (ps_asg (pe_op op_fdivZ (pe_ix (ix_listK (K := K)) (pv 0) pe_int (fun _ _ => rfl)) (pv 1)) (pg_sub (pv 0) pe_int set_list))
  (pss_one (ps_ret (pv 2)))))
  pss_nil)
  (pss_cons (ps_set (i := 3) sc__law_draw.nd rfl (Or.inl rfl) (pe_cut (pe_ifExp (pt_truth (pe_ix (ix_listK (K := K)) (pv 0) pe_int (fun _ _ => rfl)) (by intro _; rfl)) (pe_ix (ix_listK (K := K)) (pv 0) pe_int (fun _ _ => rfl)) (pe_lst (pa_cons pe_int pa_nil)))))
  (pss_cons (ps_set (i := 4) sc__law_draw.nd rfl (Or.inl rfl) (pe_ix (ix_listK (K := K)) (pv 3) (pe_op op_modN (pe_callTy call_int1 (by rfl) T.b_int (by decide +kernel) (pa_cons (pe_ix (ix_listK (K := K)) (pv 0) pe_int (fun _ _ => rfl)) pa_nil)) (pe_callB (id := "len") call_len_seq (by rfl) T.b_len (by decide +kernel) (pa_cons (pv 3) pa_nil))) (fun _ _ => rfl)))
  (pss_cons (ps_asg (pe_op op_add (pe_ix (ix_listK (K := K)) (pv 0) pe_int (fun _ _ => rfl)) pe_int) (pg_sub (pv 0) pe_int set_list))
  (pss_cons (ps_if (pt_cmpR op_ge (pv 4) (pe_op op_pow pe_int pe_int) (nomark _)) (pss_cons (ps_asg (pe_op op_fdivZ (pv 4) (pv 1)) (pg_sub (pv 0) pe_int set_list))
  (pss_one (ps_ret (pe_op op_modN (pe_callTy call_int1 (by rfl) T.b_int (by decide +kernel) (pa_cons (pv 4) pa_nil)) (pv 1)))))
  pss_nil)
  (pss_cons (ps_set (i := 5) sc__law_draw.nd rfl (Or.inl rfl) (pe_ix (ix_listK (K := K)) (pv 0) pe_int (fun _ _ => rfl)))
  (pss_cons (ps_asg (pe_op op_add (pv 5) pe_int) (pg_sub (pv 0) pe_int set_list))
  (pss_cons (ps_set (i := 6) sc__law_draw.nd rfl (Or.inl rfl) (pe_lst (pa_cons pe_int (pa_cons pe_int (pa_cons pe_int (pa_cons pe_int (pa_cons pe_int (pa_cons pe_int (pa_cons pe_int (pa_cons pe_int (pa_cons pe_int (pa_cons pe_int (pa_cons pe_int pa_nil)))))))))))))
  (pss_cons (ps_set (i := 7) sc__law_draw.nd rfl (Or.inl rfl) (pe_op op_modN (pe_callTy call_int1 (by rfl) T.b_int (by decide +kernel) (pa_cons (pe_op op_add (pe_op op_mulW (pe_op op_add (pv 4) pe_int) pe_int) (pe_op op_mulW (pe_op op_mulW (pe_op op_add (pv 5) pe_int) (pe_op op_add (pv 5) pe_int)) pe_int)) pa_nil)) (pe_ix (ix_listK (K := K)) (pv 6) (pe_op op_modN (pe_callTy call_int1 (by rfl) T.b_int (by decide +kernel) (pa_cons (pv 5) pa_nil)) pe_int) (fun _ _ => rfl))))
  (pss_cons (ps_set (i := 7) sc__law_draw.nd rfl (Or.inl rfl) (pe_op op_modN (pe_callTy call_int1 (by rfl) T.b_int (by decide +kernel) (pa_cons (pe_op op_add (pe_op op_pow (pv 7) pe_int) (pe_op op_mulW (pv 5) pe_int)) pa_nil)) pe_int))
  (pss_one (ps_ret (pe_op op_modN (pe_callTy call_int1 (by rfl) T.b_int (by decide +kernel) (pa_cons (pe_op op_fdivZ (pv 7) pe_int) pa_nil)) (pv 1)))))))))))))), ?_⟩
    -- if q[2] > 0
    refine ⟨_, rfl, q, _, _, _, rfl, rfl, SqL.of hq, rfl, _, _, rfl, rfl, _, rfl, ?_⟩
    refine ite2 (fun hpos => ?_) (fun hpos => ?_)
    · -- digit = int(q[2]) % many; q[2] = q[2] // many; return digit
      refine ⟨_, rfl, q, _, _, _, rfl, rfl, SqL.of hq, rfl, Or.inl ⟨_, rfl, _, rfl, _, _, rfl, rfl, by omega, ?_⟩⟩
      refine ⟨_, rfl, q, _, _, _, rfl, rfl, SqL.of hq, rfl, _, rfl, _, _, rfl, rfl, sm_div smm (by omega), ?_⟩
      refine ⟨_, rfl, q, _, _, _, rfl, rfl, hq, rfl, ?_⟩
      refine ⟨_, rfl, ?_⟩
      refine k _ _ (fmod_ge hm0) (fmod_lt hm0) (Keep.refl.upd hq) ⟨c, ns, i, _, t, upd_same, ?_, hz, hl, ⟨hi0, by omega⟩, ⟨fdiv_ge hr0 hm0, Int.lt_of_le_of_lt (fdiv_le hr0 hm0) hr1⟩, ⟨ht0, by omega⟩⟩
      rw [upd_ne ncq]
      exact hc
    · -- cells = q[0] if q[0] else [0]
      refine ⟨fun v H' => ∃ (c' : Addr) (ns' : List Int), v = .ref c' ∧ H' c' = some (.lst (ns'.map V.int)) ∧ ns' ≠ [] ∧ ns'.length ≤ 100000 ∧ (∀ z ∈ ns', 0 ≤ z ∧ z < 10 ^ 120) ∧ c' ≠ q ∧ Same H H', ?_, ?_⟩
      · refine ⟨_, rfl, q, _, _, _, rfl, rfl, SqL.of hq, rfl, _, Or.inl ⟨_, SqL.of hc, rfl⟩, ?_⟩
        cases ns with
        | nil =>
          refine iteF ?_
          refine ⟨by show 1 ≤ sizeLine; decide, fun p hp => ?_⟩
          refine ⟨p, [0], rfl, upd_same, by simp, by decide, by decide, ?_, MG.Same.new (Same.refl H) hp⟩
          exact (ne_of_none hq hp).symm
        | cons z ns =>
          refine iteT ?_
          exact ⟨_, rfl, q, _, _, _, rfl, rfl, SqL.of hq, rfl, c, z :: ns, rfl, hc, by simp, hl, hz, ncq, Same.refl H⟩
      rintro v H1 ⟨c', ns', rfl, hc', hne, hl', hz', ncq', s1⟩
      have hq1 := s1 _ _ hq
      have hlen : 0 < (ns'.length : Int) := by
        have : 0 < ns'.length := List.length_pos_iff.mpr hne
        omega
      -- cell = cells[int(q[1]) % len(cells)]
      have hlm : ((ns'.map V.int).length : Int) = ns'.length := by rw [List.length_map]
      obtain ⟨z, hzm, ez⟩ := at_ints (l := ns') (i := i.fmod ((ns'.map V.int).length : Int)) (fmod_ge (by omega)) (by rw [hlm]; exact fmod_lt hlen)
      obtain ⟨z0, z1⟩ := hz' z hzm
      refine ⟨_, rfl, _, rfl, q, _, _, _, rfl, rfl, SqL.of hq1, rfl, Or.inl ⟨_, rfl, _, rfl, c', _, rfl, Or.inl (SqL.of hc'), _, _, rfl, rfl, by omega, ?_⟩⟩
      refine ⟨c', _, _, _, rfl, rfl, SqL.of hc', ez, ?_⟩
      -- q[1] = q[1] + 1
      refine ⟨_, rfl, q, _, _, _, rfl, rfl, SqL.of hq1, rfl, _, _, rfl, rfl, ?_⟩
      refine ⟨_, rfl, q, _, _, _, rfl, rfl, hq1, rfl, ?_⟩
      -- if cell >= 10 ** 18
      refine ⟨_, rfl, _, _, rfl, rfl, ⟨by decide, by decide, by decide⟩, _, _, rfl, rfl, _, rfl, ?_⟩
      have smz : Sm z := sm_lt (k := 120) (by decide) (by omega) z1
      have nc1 : ∀ {o : HO}, upd H1 q o c = some (.lst (ns.map V.int)) := fun {o} => by rw [upd_ne ncq]; exact s1 _ _ hc
      refine ite2 (fun hbig => ?_) (fun hbig => ?_)
      · refine ⟨_, rfl, _, rfl, _, _, rfl, rfl, sm_div smm (by omega), ?_⟩
        refine ⟨_, rfl, q, _, _, _, rfl, rfl, upd_same, rfl, ?_⟩
        refine ⟨_, rfl, Or.inl ⟨_, rfl, _, rfl, _, _, rfl, rfl, by omega, ?_⟩⟩
        refine k _ _ (fmod_ge hm0) (fmod_lt hm0) (((Same.keep s1).upd hq).upd hq) ⟨c, ns, _, _, t, upd_same, ?_, hz, hl, ⟨by omega, by omega⟩, ⟨fdiv_ge z0 hm0, Int.lt_of_le_of_lt (fdiv_le z0 hm0) z1⟩, ⟨ht0, by omega⟩⟩
        rw [upd_ne ncq]
        exact nc1
      · -- turn = q[3]; q[3] = turn + 1
        refine ⟨_, rfl, q, _, _, _, rfl, rfl, SqL.of upd_same, rfl, ?_⟩
        refine ⟨_, rfl, _, _, rfl, rfl, ?_⟩
        refine ⟨_, rfl, q, _, _, _, rfl, rfl, upd_same, rfl, ?_⟩
        -- primes
        refine ⟨by show 11 ≤ sizeLine; decide, fun p hp => ?_⟩
        have hp' : H1 p = none := by
          have npq : p ≠ q := fun e => by rw [e, upd_same] at hp; cases hp
          rw [upd_ne npq, upd_ne npq] at hp
          exact hp
        -- blend = int((cell + 1) * 48271 + (turn + 1) * (turn + 7) * 69621) % primes[int(turn) % 11]
        obtain ⟨y, ey, y0, y1⟩ := prime_at (i := t.fmod 11) (fmod_ge (by decide)) (fmod_lt (by decide))
        have st : ∀ a : Int, 0 ≤ a → a ≤ 1000000 → Sm a := fun a h0 h1 => sm_lt (k := 7) (by decide) (by omega) (by omega)
        have hm1 : Sm ((t + 1) * (t + 7)) := by
          have h1 : (t + 1) * (t + 7) ≤ 200000 * 200000 := Int.mul_le_mul (by omega) (by omega) (by omega) (by omega)
          have h2 : 0 ≤ (t + 1) * (t + 7) := Int.mul_nonneg (by omega) (by omega)
          exact sm_lt (k := 20) (by decide) (by omega) (by omega)
        refine ⟨_, rfl, _, _, rfl, rfl, _, _, rfl, rfl, sm_mul (sm_lt (k := 121) (by decide) (by omega) (by omega)) (st _ (by decide) (by decide)), ?_⟩
        refine ⟨_, rfl, _, _, rfl, rfl, _, rfl, _, _, rfl, rfl, _, _, rfl, rfl, sm_mul (st _ (by omega) (by omega)) (st _ (by omega) (by omega)), _, _, rfl, rfl, sm_mul hm1 (st _ (by decide) (by decide)), ?_⟩
        refine ⟨_, _, rfl, rfl, Or.inl ⟨_, rfl, ?_⟩⟩
        refine ⟨_, rfl, _, rfl, Or.inl ⟨_, rfl, _, _, rfl, rfl, (show (11 : Int) ≠ 0 by decide), p, _, _, _, rfl, rfl, SqL.of upd_same, ey, _, _, rfl, rfl, by omega, ?_⟩⟩
        -- blend = int(blend ** 3 + turn * 40503) % 2147483647
        have b0 := fmod_ge (x := (z + 1) * 48271 + (t + 1) * (t + 7) * 69621) y0
        have b1 := fmod_lt (x := (z + 1) * 48271 + (t + 1) * (t + 7) * 69621) y0
        refine ⟨_, rfl, _, _, rfl, rfl, ⟨by decide, by decide, ?_⟩, _, rfl, _, _, rfl, rfl, sm_mul (st _ (by omega) (by omega)) (st _ (by decide) (by decide)), _, _, rfl, rfl, Or.inl ⟨_, rfl, _, _, rfl, rfl, (show (2147483647 : Int) ≠ 0 by decide), ?_⟩⟩
        · show ((((z + 1) * 48271 + (t + 1) * (t + 7) * 69621).fmod y).natAbs < 2 ^ 64)
          generalize ((z + 1) * 48271 + (t + 1) * (t + 7) * 69621).fmod y = b at *
          omega
        -- return int(blend // 32) % many
        refine ⟨_, rfl, _, _, rfl, rfl, ⟨by decide, by decide⟩, Or.inl ⟨_, rfl, _, rfl, _, _, rfl, rfl, by omega, ?_⟩⟩
        refine k _ _ (fmod_ge hm0) (fmod_lt hm0) ((((Same.keep s1).upd hq).upd hq).new hp) ⟨c, ns, i + 1, r, t + 1, ?_, ?_, hz, hl, ⟨by omega, by omega⟩, ⟨hr0, hr1⟩, ⟨by omega, by omega⟩⟩
        · rw [upd_ne (fun e => by rw [← e, upd_same] at hp; cases hp)]
          exact upd_same
        · rw [upd_ne (ne_of_none (s1 _ _ hc) hp'), upd_ne ncq]
          exact nc1

theorem QAt.keep {H H' : Hp} {q : Addr} {n : Nat} (h : QAt H q n) (s : Same H H') : QAt H' q n := by
  obtain ⟨c, ns, i, r, t, hq, hc, h⟩ := h
  exact ⟨c, ns, i, r, t, s _ _ hq, s _ _ hc, h⟩
theorem QAt.at_ {H : Hp} {q : Addr} {n : Nat} (h : QAt H q n) : ∃ o, H q = some o := by
  obtain ⟨c, ns, i, r, t, hq, hc, h⟩ := h
  exact ⟨_, hq⟩
theorem QAt.ne {H : Hp} {q p : Addr} {n : Nat} (h : QAt H q n) (hp : H p = none) : p ≠ q := by
  obtain ⟨o, e⟩ := h.at_
  exact (ne_of_none e hp).symm
theorem QAt.new {H : Hp} {q p : Addr} {n : Nat} {o : HO} (h : QAt H q n) (hp : H p = none) : QAt (upd H p o) q n := h.keep (MG.Same.new (Same.refl H) hp)

abbrev DrawC (P : Program) (w : World) (K : PySem.W.Frag) (mg : Str → Option Value) (base : Heap) : Prop := CalG P w K mg base 2 "_law_draw" spDraw []
theorem signs_ok : ∀ z ∈ ([1, -1] : List Int), z = 1 ∨ z = -1 := by decide
/-! ### _law_great -/
def spGreat : Sp := fun vs H Q _ => ∃ (q : Addr) (n : Nat), vs = [.ref q] ∧ QAt H q n ∧ n + 3 ≤ 100000 ∧
  ∀ (z : Int) (H' : Hp), -(10 ^ 42) < z → z < 10 ^ 42 → Keep q H H' → QAt H' q (n + 3) → Q (.int z) H'
def fars : List Int := [1, 1, 10, 10 ^ Int.toNat 3, 10 ^ Int.toNat 9, 10 ^ Int.toNat 20, 10 ^ Int.toNat 39]
theorem fars_ok : ∀ z ∈ fars, 1 ≤ z ∧ z ≤ 10 ^ 39 := by decide +kernel
theorem sc__law_great : FnScope ["_law_q", "_law_far"] ["_law_q"] (defScope s__law_great) := ⟨rfl, rfl, rfl, by decide +kernel, rfl, by decide +kernel, by decide +kernel⟩
theorem ok_great {f : Addr} {fd : FuncData} (F : Fun K "_law_great" "_law_great" s__law_great f fd) (T : Blt mg) (c_draw : DrawC P w K mg base) : FnG P w K mg base CX0 4 f fd ["_law_q"] spGreat := by
  refine fun_okG F sc__law_great (fun vs H Q E h => ?_) (fun cdv A outer s H vs Q E bare hr h => ?_)
  · obtain ⟨q, n, rfl, _⟩ := h
    rfl
  · obtain ⟨q, n, rfl, hq, hn, k⟩ := h
    refine ⟨_, (pss_cons (ps_set (i := 1) sc__law_great.nd rfl (Or.inl rfl) (pe_ix (ix_listK (K := K)) (pe_lst (pa_cons pe_int (pa_cons pe_int (pa_cons pe_int (pa_cons (pe_op op_pow pe_int pe_int) (pa_cons (pe_op op_pow pe_int pe_int) (pa_cons (pe_op op_pow pe_int pe_int) (pa_cons (pe_op op_pow pe_int pe_int) pa_nil)))))))) (pe_cg c_draw bare hr (by decide) rfl (pa_cons (pv 0) (pa_cons pe_int pa_nil))) (fun _ _ => rfl)))
  (pss_one (ps_ret (pe_op op_mulW (pe_ix (ix_listK (K := K)) (pe_lst (pa_cons pe_int (pa_cons (pe_un un_neg pe_int) pa_nil))) (pe_cg c_draw bare hr (by decide) rfl (pa_cons (pv 0) (pa_cons pe_int pa_nil))) (fun _ _ => rfl)) (pe_op op_add (pe_op op_sub (pv 1) pe_int) (pe_op op_mulW (pe_cg c_draw bare hr (by decide) rfl (pa_cons (pv 0) (pa_cons pe_int pa_nil))) (pe_op op_add (pe_op op_fdivZ (pv 1) pe_int) pe_int))))))), ?_⟩
    refine ⟨_, _, rfl, rfl, ⟨by decide, by decide, by decide⟩, _, _, rfl, rfl, ⟨by decide, by decide, by decide⟩, _, _, rfl, rfl, ⟨by decide, by decide, by decide⟩, _, _, rfl, rfl, ⟨by decide, by decide, by decide⟩, by show 7 ≤ sizeLine; decide, fun p hp => ?_⟩
    refine ⟨_, rfl, q, 7, n, rfl, hq.new hp, by omega, by decide, by decide, fun r H1 r0 r1 k1 q1 => ?_⟩
    obtain ⟨y, hy, ey⟩ := at_ints (l := fars) r0 (by show r < 7; exact r1)
    obtain ⟨y0, y1⟩ := fars_ok y hy
    refine ⟨p, _, _, _, rfl, rfl, SqL.of (k1 _ _ upd_same (hq.ne hp)), ey, ?_⟩
    refine ⟨_, rfl, by show 2 ≤ sizeLine; decide, fun p2 hp2 => ?_⟩
    refine ⟨_, rfl, q, 2, n + 1, rfl, q1.new hp2, by omega, by decide, by decide, fun r2 H2 r20 r21 k2 q2 => ?_⟩
    obtain ⟨e, he, ee⟩ := at_ints (l := [1, -1]) r20 (by show r2 < 2; exact r21)
    have he' := signs_ok e he
    refine ⟨p2, _, _, _, rfl, rfl, SqL.of (k2 _ _ upd_same (q1.ne hp2)), ee, ?_⟩
    refine ⟨_, rfl, _, _, rfl, rfl, _, rfl, q, 60, n + 2, rfl, q2, by omega, by decide, by decide, fun r3 H3 r30 r31 k3 q3 => ?_⟩
    have d0 := fdiv_ge (x := y) (m := 7) (by omega) (by decide)
    have d1 := fdiv_le (x := y) (m := 7) (by omega) (by decide)
    have p0 : 0 ≤ r3 * (y.fdiv 7 + 1) := Int.mul_nonneg r30 (by omega)
    have p1 : r3 * (y.fdiv 7 + 1) ≤ 60 * (10 ^ 39 + 1) := Int.mul_le_mul (by omega) (by omega) (by omega) (by omega)
    refine ⟨_, rfl, _, _, rfl, rfl, ⟨by decide, by decide⟩, _, _, rfl, rfl, _, _, rfl, rfl, sm_mul (sm_lt (k := 3) (by decide) (by omega) (by omega)) (sm_lt (k := 42) (by decide) (by omega) (by omega)), ?_⟩
    refine ⟨_, _, rfl, rfl, _, _, rfl, rfl, sm_mul (sm_lt (k := 3) (by decide) (by omega) (by omega)) (sm_lt (k := 42) (by decide) (by omega) (by omega)), ?_⟩
    have kk : Keep q H H3 := ((Keep.refl.new hp).trans k1).trans ((Keep.refl.new hp2).trans (k2.trans k3))
    generalize r3 * (y.fdiv 7 + 1) = g at *
    refine k _ H3 ?_ ?_ kk q3
    · rcases he' with rfl | rfl <;> omega
    · rcases he' with rfl | rfl <;> omega

/-! ### _law_common, _law_lowest -/
def spCommon : Sp := fun vs H Q _ => ∃ a b : Int, vs = [.int a, .int b] ∧ Q (.int (Int.gcd a b : Nat)) H
theorem gcd_step {x y : Nat} : Nat.gcd y (x % y) = Nat.gcd x y := by
  rw [Nat.gcd_comm x y, Nat.gcd_rec y x, Nat.gcd_comm]
theorem sc__law_common : FnScope ["_law_one", "_law_two", "_law_high", "_law_low_here"] ["_law_one", "_law_two"] (defScope s__law_common) := ⟨rfl, rfl, rfl, by decide +kernel, rfl, by decide +kernel, by decide +kernel⟩
theorem ok_common {f : Addr} {fd : FuncData} (F : Fun K "_law_common" "_law_common" s__law_common f fd) (T : Blt mg) : FnG P w K mg base CX0 2 f fd ["_law_one", "_law_two"] spCommon := by
  refine fun_okG F sc__law_common (fun vs H Q E h => ?_) (fun cdv A outer s H vs Q E bare hr h => ?_)
  · obtain ⟨a, b, rfl, _⟩ := h
    rfl
  · obtain ⟨a, b, rfl, k⟩ := h
    refine ⟨_, (pss_cons (ps_par (i := 2) (j := 3) (by rfl) sc__law_common.nd rfl rfl (by decide) rfl rfl (pa_cons (pe_callB (id := "abs") call_abs (by rfl) T.b_abs (by decide +kernel) (pa_cons (pv 0) pa_nil)) (pa_cons (pe_callB (id := "abs") call_abs (by rfl) T.b_abs (by decide +kernel) (pa_cons (pv 1) pa_nil)) pa_nil)) (by rfl))
  (pss_cons (ps_while PassesOwn.never (pt_cmpR op_gt (pv 3) pe_int (nomark _)) (pss_one (ps_par (i := 2) (j := 3) (by rfl) sc__law_common.nd rfl rfl (by decide) rfl rfl (pa_cons (pv 3) (pa_cons (pe_op op_modN (pe_callTy call_int1 (by rfl) T.b_int (by decide +kernel) (pa_cons (pv 2) pa_nil)) (pv 3)) pa_nil)) (by rfl))))
  (pss_one (ps_ret (pv 2))))), ?_⟩
    refine ⟨_, rfl, _, rfl, _, rfl, _, rfl, _, _, rfl, ?_⟩
    refine while_by (fun σ H' => H' = H ∧ ∃ x y : Nat, σ = [some (.int a), some (.int b), some (.int x), some (.int y)] ∧ Nat.gcd x y = Int.gcd a b) (fun (σ : L2.St) (_ : Hp) => match σ[3]? with | some (some (V.int y)) => y.toNat | _ => 0) ?_ ?_ ?_
    · refine ⟨rfl, a.natAbs, b.natAbs, ?_, rfl⟩
      have e : ∀ z : Int, (if z < 0 then -z else z) = (z.natAbs : Int) := fun z => by split <;> omega
      show [some (V.int a), some (V.int b), some (V.int (if a < 0 then -a else a)), some (V.int (if b < 0 then -b else b))] = _
      rw [e, e]
    · rintro σ H' ⟨rfl, x, y, rfl, hg⟩
      refine ⟨_, rfl, _, _, rfl, rfl, _, rfl, ?_⟩
      refine ite2 (fun hy => ?_) (fun hy => ?_)
      · have hy' : 0 < (y : Int) := of_decide_eq_true hy
        refine ⟨_, rfl, _, rfl, Or.inl ⟨_, rfl, _, rfl, _, _, rfl, rfl, by omega, _, _, rfl, ?_⟩⟩
        have e : (x : Int).fmod (y : Int) = ((x % y : Nat) : Int) := by
          rw [Int.fmod_eq_emod_of_nonneg (x : Int) (by omega)]
          exact (Int.natCast_emod x y).symm
        refine ⟨⟨rfl, y, x % y, ?_, gcd_step.trans hg⟩, ?_⟩
        · show [some (V.int a), some (V.int b), some (V.int (y : Int)), some (V.int ((x : Int).fmod (y : Int)))] = _
          rw [e]
        · show ((x : Int).fmod (y : Int)).toNat < (y : Int).toNat
          have h1 := fmod_lt (x := (x : Int)) hy'
          omega
      · have hy' : ¬ 0 < (y : Int) := fun z => hy (decide_eq_true z)
        have y0 : y = 0 := by omega
        subst y0
        refine ⟨_, rfl, ?_⟩
        rw [Nat.gcd_zero_right] at hg
        rw [hg]
        exact k
    · rintro σ H' Q1 Q2 hq ⟨v, e, i, j, e1, e2, b', e3, q⟩
      exact ⟨v, e, i, j, e1, e2, b', e3, hq _ _ q⟩
abbrev CommonC (P : Program) (w : World) (K : PySem.W.Frag) (mg : Str → Option Value) (base : Heap) : Prop := CalG P w K mg base 2 "_law_common" spCommon []
def spLowest : Sp := fun vs H Q _ => ∃ a u : Int, vs = [.int a, .int u] ∧ u ≠ 0 ∧ Sm u ∧
  ∀ p, H p = none → Q (.ref p) (upd H p (.tup [.int (Rat.divInt a u).num, .int (Rat.divInt a u).den]))
theorem sc__law_lowest : FnScope ["_law_high", "_law_under", "_law_both"] ["_law_high", "_law_under"] (defScope s__law_lowest) := ⟨rfl, rfl, rfl, by decide +kernel, rfl, by decide +kernel, by decide +kernel⟩
theorem ok_lowest {f : Addr} {fd : FuncData} (F : Fun K "_law_lowest" "_law_lowest" s__law_lowest f fd) (c_common : CommonC P w K mg base) : FnG P w K mg base CX0 4 f fd ["_law_high", "_law_under"] spLowest := by
  refine fun_okG F sc__law_lowest (fun vs H Q E h => ?_) (fun cdv A outer s H vs Q E bare hr h => ?_)
  · obtain ⟨a, b, rfl, _⟩ := h
    rfl
  · obtain ⟨a, u, rfl, hu, su, k⟩ := h
    refine ⟨_, (pss_cons (ps_set (i := 2) sc__law_lowest.nd rfl (Or.inl rfl) (pe_cut (pe_ifExp (pt_cmpR op_gt (pv 1) pe_int (nomark _)) (pe_cg c_common bare hr (by decide) rfl (pa_cons (pv 0) (pa_cons (pv 1) pa_nil))) (pe_un un_neg (pe_cg c_common bare hr (by decide) rfl (pa_cons (pv 0) (pa_cons (pv 1) pa_nil)))))))
  (pss_one (ps_ret (pe_tup (pa_cons (pe_op op_fdivZ (pv 0) (pv 2)) (pa_cons (pe_op op_fdivZ (pv 1) (pv 2)) pa_nil)))))), ?_⟩
    refine ⟨fun v H' => v = .int (gd a u) ∧ H' = H, ?_, ?_⟩
    · refine ⟨_, rfl, _, _, rfl, rfl, _, rfl, ?_⟩
      refine ite2 (fun h => ?_) (fun h => ?_)
      · refine ⟨_, rfl, _, rfl, a, u, rfl, ?_, rfl⟩
        unfold gd
        rw [if_pos (of_decide_eq_true h)]
      · refine ⟨_, rfl, _, rfl, a, u, rfl, _, rfl, ?_, rfl⟩
        unfold gd
        rw [if_neg (fun z => h (decide_eq_true z))]
    · rintro v H' ⟨rfl, rfl⟩
      have s := sm_div (gd_sm (a := a) hu su) (gd_ne hu)
      refine ⟨_, rfl, _, rfl, _, _, rfl, rfl, s, _, rfl, _, rfl, _, _, rfl, rfl, s, by show 2 ≤ sizeLine; decide, fun p hp => ?_⟩
      have kk := k p hp
      rw [← lo_num hu, ← lo_den hu] at kk
      exact kk

/-! ### _law_purse, _law_from -/
def spPurse (K : PySem.W.Frag) : Sp := fun vs H Q _ => ∃ (a : Addr) (ns : List Int), vs = [.ref a] ∧ SqL K H a (ns.map V.int) ∧ ns.length ≤ 100000 ∧
  ∀ q H', H q = none → Same H H' → QAt H' q 0 → Q (.ref q) H'
theorem sc__law_purse : FnScope ["_law_script", "_law_cell"] ["_law_script"] (defScope s__law_purse) := ⟨rfl, rfl, rfl, by decide +kernel, rfl, by decide +kernel, by decide +kernel⟩
theorem ok_purse {f : Addr} {fd : FuncData} (F : Fun K "_law_purse" "_law_purse" s__law_purse f fd) (T : Blt mg) : FnG P w K mg base CX0 2 f fd ["_law_script"] (spPurse K) := by
  refine fun_okG F sc__law_purse (fun vs H Q E h => ?_) (fun cdv A outer s H vs Q E bare hr h => ?_)
  · obtain ⟨a, ns, rfl, _⟩ := h
    rfl
  · obtain ⟨a, ns, rfl, hS, hl, k⟩ := h
    refine ⟨_, (pss_one (ps_ret (pe_lst (pa_cons (pe_map (K := K) (j := 1) (pe_lc (own := [("_law_cell", 1)]) (g := gName 1) (tt := tYes) rfl sc__law_purse.nd (pi_list (pe_cut (pv 0))) (blkOk_by (N := ["_law_script", "_law_cell"]) (sc := defScope s__law_purse) (by decide +kernel)) (fun _ _ _ _ _ => (pg_name (i := 1) sc__law_purse.nd rfl (Or.inl rfl))) (fun _ _ _ _ _ => pts_nil) (fun _ _ _ _ _ => (pe_cut (pe_op op_modN (pe_callTy call_int1 (by rfl) T.b_int (by decide +kernel) (pa_cons (pv 1) pa_nil)) (pe_op op_mulW (pe_op op_pow pe_int pe_int) (pe_op op_pow pe_int pe_int))))))) (pa_cons pe_int (pa_cons pe_int (pa_cons pe_int pa_nil))))))), ?_⟩
    refine ⟨_, rfl, a, ns.map V.int, (ns.map fun z => z.fmod (10 ^ Int.toNat 60 * 10 ^ Int.toNat 60)).map V.int, rfl, hS, by simp, by simpa using hl, ?_, fun D H1 s1 hD e1 => ?_⟩
    · intro i x y H' hx hy s'
      rw [List.getElem?_map] at hx
      rw [List.getElem?_map, List.getElem?_map] at hy
      cases e : ns[i]? with
      | none => rw [e] at hx; cases hx
      | some z =>
        rw [e] at hx hy
        obtain rfl := (Option.some.inj hx).symm
        obtain rfl := (Option.some.inj hy).symm
        refine ⟨_, rfl, Or.inl ⟨_, rfl, _, _, rfl, rfl, ⟨by decide, by decide, by decide⟩, _, _, rfl, rfl, ⟨by decide, by decide, by decide⟩, _, _, rfl, rfl, sm_mul (sm_lt (k := 61) (by decide) (by decide) (by decide)) (sm_lt (k := 61) (by decide) (by decide) (by decide)), _, _, rfl, rfl, (show (10 : Int) ^ Int.toNat 60 * 10 ^ Int.toNat 60 ≠ 0 by decide), ?_⟩⟩
        exact ⟨rfl, Same.refl _⟩
    · refine ⟨by show 4 ≤ sizeLine; decide, fun q hq => ?_⟩
      have nq : D ≠ q := ne_of_none e1 hq
      have hq' : H q = none := s1.free hq
      refine k q _ hq' (MG.Same.new s1 hq) ⟨D, _, 0, 0, 0, upd_same, (by rw [upd_ne nq]; exact e1), ?_, (by simpa using hl), by decide, by decide, by decide⟩
      intro y hy
      obtain ⟨z, _, rfl⟩ := List.mem_map.mp hy
      have e : (10 : Int) ^ Int.toNat 60 * 10 ^ Int.toNat 60 = 10 ^ 120 := by decide
      rw [e]
      exact ⟨fmod_ge (by decide), fmod_lt (by decide)⟩
abbrev PurseC (P : Program) (w : World) (K : PySem.W.Frag) (mg : Str → Option Value) (base : Heap) : Prop := CalG P w K mg base 2 "_law_purse" (spPurse K) []
theorem cut_map (ns : List Int) (lo hi : Option Int) : ∃ zs : List Int, cutV (ns.map V.int) lo hi = zs.map V.int ∧ zs.length ≤ ns.length := by
  refine ⟨(ns.drop (HT.sIx ns.length 0 lo)).take (HT.sIx ns.length ns.length hi - HT.sIx ns.length 0 lo), ?_, ?_⟩
  · unfold cutV
    rw [List.length_map, List.map_take, List.map_drop]
  · rw [List.length_take, List.length_drop]
    omega
def spFrom (K : PySem.W.Frag) : Sp := fun vs H Q _ => ∃ (a : Addr) (ns : List Int) (j : Int), vs = [.ref a, .int j] ∧ SqL K H a (ns.map V.int) ∧ ns.length ≤ 1000 ∧
  ∀ q H', H q = none → Same H H' → QAt H' q 0 → Q (.ref q) H'
theorem sc__law_from : FnScope ["_law_script", "_law_k"] ["_law_script", "_law_k"] (defScope s__law_from) := ⟨rfl, rfl, rfl, by decide +kernel, rfl, by decide +kernel, by decide +kernel⟩
theorem ok_from {f : Addr} {fd : FuncData} (F : Fun K "_law_from" "_law_from" s__law_from f fd) (c_purse : PurseC P w K mg base) : FnG P w K mg base CX0 4 f fd ["_law_script", "_law_k"] (spFrom K) := by
  refine fun_okG F sc__law_from (fun vs H Q E h => ?_) (fun cdv A outer s H vs Q E bare hr h => ?_)
  · obtain ⟨a, ns, j, rfl, _⟩ := h
    rfl
  · obtain ⟨a, ns, j, rfl, hS, hl, k⟩ := h
    obtain ⟨z1, e1, l1⟩ := cut_map ns (some j) none
    obtain ⟨z2, e2, l2⟩ := cut_map ns none (some j)
    refine ⟨_, (pss_one (ps_ret (pe_cg c_purse bare hr (by decide) rfl (pa_cons (pe_op op_cat (pe_slice sl_list (pv 0) (po_some (pv 1)) po_none) (pe_slice sl_list (pv 0) po_none (po_some (pv 1)))) pa_nil)))), ?_⟩
    refine ⟨_, rfl, _, rfl, j, rfl, a, _, rfl, hS, fun p hp => ?_⟩
    have s1 : Same H (upd H p (.lst (cutV (ns.map V.int) (some j) none))) := MG.Same.new (Same.refl H) hp
    refine ⟨_, rfl, _, rfl, j, rfl, a, _, rfl, s1.seq hS, fun p2 hp2 => ?_⟩
    have n12 : p ≠ p2 := ne_of_none upd_same hp2
    have s2 := MG.Same.new (o := .lst (cutV (ns.map V.int) none (some j))) s1 hp2
    refine ⟨p, p2, _, _, rfl, rfl, by rw [upd_ne n12]; exact upd_same, upd_same, ?_, fun p3 hp3 => ?_⟩
    · rw [e1, e2, List.length_map, List.length_map]
      exact Nat.le_trans (m := 2000) (by omega) (by decide)
    · refine ⟨p3, z1 ++ z2, rfl, ?_, by rw [List.length_append]; omega, fun q H' hq s q0 => ?_⟩
      · refine SqL.of ?_
        rw [upd_same, e1, e2, List.map_append]
      · have s3 := MG.Same.new (o := .lst (cutV (ns.map V.int) (some j) none ++ cutV (ns.map V.int) none (some j))) s2 hp3
        exact k q H' (s3.free hq) (s3.trans s) q0
end
end Lw

namespace Lw
open PySem PySem.Spec PyProof.Rows L2 MG
abbrev s_is_whole : Stmt := top 13
abbrev s_is_number : Stmt := top 14
abbrev s_to_ratio : Stmt := top 15
abbrev s_Ratio___init__ : Stmt := inClass (top 17) 0
abbrev s_Ratio_top : Stmt := inClass (top 17) 1
abbrev s_Ratio_bottom : Stmt := inClass (top 17) 2
abbrev s_Ratio_over : Stmt := inClass (top 17) 4
abbrev s_Ratio___add__ : Stmt := inClass (top 17) 5
abbrev s_Ratio___sub__ : Stmt := inClass (top 17) 6
abbrev s_Ratio___mul__ : Stmt := inClass (top 17) 7
abbrev s_Ratio___neg__ : Stmt := inClass (top 17) 8
abbrev s_Ratio___eq__ : Stmt := inClass (top 17) 9
abbrev s_Ratio___bool__ : Stmt := inClass (top 17) 10
abbrev s_Ratio___str__ : Stmt := inClass (top 17) 11
abbrev s_Ratio___repr__ : Stmt := inClass (top 17) 12
/-- what the top says of the class Ratio, at C -/
structure TxR (K : PySem.W.Frag) (mg : Str → Option Value) (C : Addr) : Prop extends Blt mg where
  cl : Cls K C
  nT : NoAttr K C "_top"
  nB : NoAttr K C "_bottom"
  g_Ratio : mg "Ratio" = some (.ref C)
  g_gcd : mg "gcd" = some (.builtin "math.gcd")
  ca : PySem.W.findIn K (.ref C) "__class__" = some (some (.builtin "object.__class__"))
  cn : PySem.W.specialIn K (.builtin "object.__class__") "__get__" = some (some (.builtin "getset_descriptor.__get__"))
  ct : PySem.W.takesIn K (.builtin "object.__class__") = some true
  cm : PySem.W.mroIn K C (.type "object") = some true
  kI : PySem.W.kitOne K (.ref C) (.type "int") = some false
  kB : PySem.W.kitOne K (.ref C) (.type "bool") = some false
  kC : PySem.W.kitOne K (.ref C) (.ref C) = some true
  iC : PySem.W.kitOne K (.type "int") (.ref C) = some false
def flds (p : Rat) : List (Str × V) := [("_top", .int p.num), ("_bottom", .int p.den)]
theorem kn : ¬ (("_top" : Str) = "_bottom") := by decide +kernel
theorem flds_put (a b : Int) : putF "_bottom" (.int b) (putF "_top" (.int a) []) = ([("_top", .int a), ("_bottom", .int b)] : List (Str × V)) := by
  show (if ("_top" : Str) = "_bottom" then _ else (("_top" : Str), V.int a) :: putF "_bottom" (V.int b) []) = _
  rw [if_neg kn]
  rfl
theorem flds_top (p : Rat) : (flds p).lookup ("_top" : Str) = some (.int p.num) := by simp [flds, List.lookup]
theorem flds_bottom (p : Rat) : (flds p).lookup ("_bottom" : Str) = some (.int p.den) := by
  have h : (("_bottom" : Str) == "_top") = false := by decide +kernel
  simp [flds, List.lookup, h]
theorem flds_no (p : Rat) {m : Str} (h1 : (m == ("_top" : Str)) = false) (h2 : (m == ("_bottom" : Str)) = false) : (flds p).lookup m = none := by
  simp [flds, List.lookup, h1, h2]
/-- a Ratio of the value p stands at r -/
def RatAt (C : Addr) (H : Hp) (r : Addr) (p : Rat) : Prop := ∃ dx, H r = some (.ins C dx (flds p))
theorem RatAt.same {C : Addr} {H H' : Hp} {r : Addr} {p : Rat} (h : RatAt C H r p) (s : Same H H') : RatAt C H' r p := h.elim fun dx e => ⟨dx, s _ _ e⟩
theorem RatAt.tyx {K : PySem.W.Frag} {mg : Str → Option Value} {C : Addr} {H : Hp} {r : Addr} {p : Rat} (T : TxR K mg C) (h : RatAt C H r p) : TyX K H (.ref r) (.ref C) :=
  h.elim fun dx e => .base (.ins e T.cl T.ca T.cn T.ct T.cm)
theorem tyx_int {K : PySem.W.Frag} {H : Hp} (i : Int) : TyX K H (.int i) (.type "int") := .base (.int i)
section
variable {P : Program} {w : World} {K : PySem.W.Frag} {mg : Str → Option Value} {base : Heap} {C : Addr}
/-! ### is_whole, is_number -/
def spWhole (K : PySem.W.Frag) : Sp := fun vs H Q _ => ∃ (x : V) (t : Value) (b1 b2 : Bool), vs = [x] ∧ TyX K H x t ∧
  PySem.W.kitOne K t (.type "int") = some b1 ∧ PySem.W.kitOne K t (.type "bool") = some b2 ∧ Q (.bl (b1 && !b2)) H
theorem sc_is_whole : FnScope ["value"] ["value"] (defScope s_is_whole) := ⟨rfl, rfl, rfl, by decide +kernel, rfl, by decide +kernel, by decide +kernel⟩
theorem ok_whole {f : Addr} {fd : FuncData} (F : Fun K "is_whole" "is_whole" s_is_whole f fd) (T : Blt mg) : FnOk P w K mg base CX0 2 f fd ["value"] (spWhole K) := by
  refine F.ok sc_is_whole (fun vs H Q E h => ?_) (fun cdv A outer s H vs Q E hr h => ?_)
  · obtain ⟨x, t, b1, b2, rfl, _⟩ := h
    rfl
  · obtain ⟨x, t, b1, b2, rfl, tx, k1, k2, k⟩ := h
    refine ⟨_, (pss_one (ps_ret (pe_and (pe_callB (id := "isinstance") (call_isiK (K := K)) (by rfl) T.b_isinstance (by decide +kernel) (pa_cons (pv 0) (pa_cons (pe_bltn (v := V.ty "int") (u := Value.type "int") (by rfl) T.b_int (by decide +kernel) rfl) pa_nil))) (pe_one (pe_not (pe_callB (id := "isinstance") (call_isiK (K := K)) (by rfl) T.b_isinstance (by decide +kernel) (pa_cons (pv 0) (pa_cons (pe_bltn (v := V.ty "bool") (u := Value.type "bool") (by rfl) T.b_bool (by decide +kernel) rfl) pa_nil)))))))), ?_⟩
    refine ⟨_, rfl, x, _, _, _, _, rfl, .ty "int", tx, k1, _, rfl, ?_⟩
    cases b1 with
    | false => exact iteF k
    | true =>
      refine iteT ?_
      refine ⟨_, rfl, x, _, _, _, _, rfl, .ty "bool", tx, k2, _, rfl, ?_⟩
      exact k
abbrev WholeC (P : Program) (w : World) (K : PySem.W.Frag) (mg : Str → Option Value) (base : Heap) : Prop := CalF P w K mg base 2 "is_whole" (spWhole K) []
def spNumber (K : PySem.W.Frag) (C : Addr) : Sp := fun vs H Q _ => ∃ (x : V) (t : Value) (b1 b2 b3 : Bool), vs = [x] ∧ TyX K H x t ∧
  PySem.W.kitOne K t (.type "int") = some b1 ∧ PySem.W.kitOne K t (.type "bool") = some b2 ∧ PySem.W.kitOne K t (.ref C) = some b3 ∧ Q (.bl ((b1 && !b2) || b3)) H
theorem sc_is_number : FnScope ["value"] ["value"] (defScope s_is_number) := ⟨rfl, rfl, rfl, by decide +kernel, rfl, by decide +kernel, by decide +kernel⟩
theorem ok_number {f : Addr} {fd : FuncData} (F : Fun K "is_number" "is_number" s_is_number f fd) (T : TxR K mg C) (c_whole : WholeC P w K mg base) : FnOk P w K mg base CX0 4 f fd ["value"] (spNumber K C) := by
  refine F.ok sc_is_number (fun vs H Q E h => ?_) (fun cdv A outer s H vs Q E hr h => ?_)
  · obtain ⟨x, t, b1, b2, b3, rfl, _⟩ := h
    rfl
  · obtain ⟨x, t, b1, b2, b3, rfl, tx, k1, k2, k3, k⟩ := h
    refine ⟨_, (pss_one (ps_ret (pe_or (pe_cf c_whole hr (by decide) rfl (pa_cons (pv 0) pa_nil)) (pe_one (pe_callB (id := "isinstance") (call_isiK (K := K)) (by rfl) T.b_isinstance (by decide +kernel) (pa_cons (pv 0) (pa_cons (pe_glob (v := V.ref C) rfl T.g_Ratio rfl) pa_nil))))))), ?_⟩
    refine ⟨_, rfl, x, t, b1, b2, rfl, tx, k1, k2, _, rfl, ?_⟩
    cases e : (b1 && !b2) with
    | true =>
      refine iteT ?_
      rw [e] at k
      exact k
    | false =>
      refine iteF ?_
      rw [e] at k
      exact ⟨_, rfl, x, _, _, _, _, rfl, .own C, tx, k3, k⟩
abbrev NumberC (P : Program) (w : World) (K : PySem.W.Frag) (mg : Str → Option Value) (base : Heap) (C : Addr) : Prop := CalF P w K mg base 4 "is_number" (spNumber K C) []
/-! ### Ratio(top, bottom), where both are integers and the bottom is not 0 -/
def spInit (C : Addr) : Sp := fun vs H Q _ => ∃ (r dx : Addr) (a b : Int), vs = [.ref r, .int a, .int b] ∧ H r = some (.ins C dx []) ∧ b ≠ 0 ∧ Sm b ∧
  ∀ H', H' r = some (.ins C dx (flds (Rat.divInt a b))) → (∀ c o, H c = some o → c ≠ r → H' c = some o) → Q .non H'
theorem sc_Ratio___init__ : FnScope ["self", "top", "bottom", "given", "shared"] ["self", "top", "bottom"] (defScope s_Ratio___init__) := ⟨rfl, rfl, rfl, by decide +kernel, rfl, by decide +kernel, by decide +kernel⟩
theorem ok_init {f : Addr} {fd : FuncData} {dvs : List V} (F : FunD K "__init__" "Ratio.__init__" (defArgs s_Ratio___init__) (defBody s_Ratio___init__) (defScope s_Ratio___init__) dvs [] f fd) (T : TxR K mg C) (c_whole : WholeC P w K mg base) : FnOk P w K mg base CX0 4 f fd ["self", "top", "bottom"] (spInit C) := by
  refine F.ok sc_Ratio___init__ (fun vs H Q E h => ?_) (fun cdv A outer s H vs Q E hr h => ?_)
  · obtain ⟨r, dx, a, b, rfl, _⟩ := h
    rfl
  · obtain ⟨r, dx, a, b, rfl, hr0, hb, sb, k⟩ := h
    suffices hh : ∃ t, PSs (cxOf CX0 P w K mg base ["self", "top", "bottom", "given", "shared"] "Ratio.__init__" (defScope s_Ratio___init__) f cdv A outer s H E).nox (defBody s_Ratio___init__) t ∧ t { nx := fun _ H' => Q .non H', rt := Q } (start ["self", "top", "bottom", "given", "shared"] [.ref r, .int a, .int b]) H by
      obtain ⟨t, h1, h2⟩ := hh
      exact ⟨t, h1.nox, h2⟩
    refine ⟨_, (pss_cons (ps_for PassesOwn.never rfl (pi_tup (pe_tup (pa_cons (pv 1) (pa_cons (pv 2) pa_nil)))) (pg_name (i := 3) sc_Ratio___init__.nd rfl (Or.inl rfl))
  (pss_one (ps_if (pt_not (pt_val (pe_cf c_whole hr (by decide) rfl (pa_cons (pv 3) pa_nil)))) (pss_one ps_never)
  pss_nil)))
  (pss_cons (ps_if (pt_cmpR op_eq (pv 2) pe_int (nomark _)) (pss_one ps_never)
  pss_nil)
  (pss_cons (ps_set (i := 4) sc_Ratio___init__.nd rfl (Or.inl rfl) (pe_callBfun cr_gcd rfl T.g_gcd (pa_cons (pv 1) (pa_cons (pv 2) pa_nil))))
  (pss_cons (ps_cut (ps_if (pt_cmpR op_lt (pv 2) pe_int (nomark _)) (pss_one (ps_set (i := 4) sc_Ratio___init__.nd rfl (Or.inl rfl) (pe_un un_neg (pv 4))))
  pss_nil))
  (pss_cons (ps_fld (pv 0) (pe_op op_fdivZ (pv 1) (pv 4)) rfl)
  (pss_one (ps_fld (pv 0) (pe_op op_fdivZ (pv 2) (pv 4)) rfl))))))), ?_⟩
    -- for given in (top, bottom)
    refine ⟨_, rfl, _, rfl, by show 2 ≤ sizeLine; decide, fun t ht => ⟨t, rfl, ⟨_, SqT.of upd_same⟩, ?_⟩⟩
    have s1 : Same H (upd H t (.tup [.int a, .int b])) := MG.Same.new (Same.refl H) ht
    refine for_tup (K := K) (a := t) (xs := [.int a, .int b]) (fun i σ H' => H' = upd H t (.tup [.int a, .int b]) ∧ ∃ v : Option V, σ = [some (.ref r), some (.int a), some (.int b), v, none]) ⟨rfl, none, rfl⟩ ?_ ?_ ?_
    · rintro i σ H' _ ⟨rfl, _⟩
      exact SqT.of upd_same
    · rintro i x σ H' hx ⟨rfl, v, rfl⟩
      obtain ⟨z, rfl⟩ : ∃ z, x = V.int z := by
        match i, hx with
        | 0, hx => exact ⟨a, (Option.some.inj hx).symm⟩
        | 1, hx => exact ⟨b, (Option.some.inj hx).symm⟩
      refine ⟨_, rfl, _, _, true, false, rfl, tyx_int z, kit_ty (by decide +kernel), kit_ty (by decide +kernel), _, rfl, ?_⟩
      exact ⟨rfl, _, rfl⟩
    · rintro σ H' ⟨rfl, v, rfl⟩
      -- if bottom == 0
      refine ⟨_, rfl, rfl, _, rfl, ?_⟩
      refine ite2 (fun z => ?_) (fun _ => ?_)
      · exact absurd (V.int.inj (of_decide_eq_true z)) hb
      -- shared = gcd(top, bottom); if bottom < 0: shared = -shared
      refine ⟨_, rfl, _, rfl, a, b, rfl, ?_⟩
      refine ⟨fun σ H' => H' = upd H t (.tup [.int a, .int b]) ∧ σ = [some (.ref r), some (.int a), some (.int b), v, some (.int (gd a b))], ?_, ?_⟩
      · refine ⟨_, rfl, _, _, rfl, rfl, _, rfl, ?_⟩
        refine ite2 (fun z => ?_) (fun z => ?_)
        · refine ⟨_, rfl, _, rfl, rfl, ?_⟩
          have hz : b < 0 := of_decide_eq_true z
          unfold gd
          rw [if_neg (by omega)]
          rfl
        · refine ⟨rfl, ?_⟩
          have hz : ¬ b < 0 := fun q => z (decide_eq_true q)
          unfold gd
          rw [if_pos (by omega)]
          rfl
      rintro σ H' ⟨rfl, rfl⟩
      have ds := sm_div (gd_sm (a := a) hb sb) (gd_ne hb)
      have hr1 := s1 _ _ hr0
      -- self._top = top // shared; self._bottom = bottom // shared
      refine ⟨_, rfl, _, rfl, _, _, rfl, rfl, ds, _, rfl, r, C, dx, _, rfl, hr1, T.cl, T.nT, (by show 0 < 1000; decide), ?_⟩
      refine ⟨_, rfl, _, rfl, _, _, rfl, rfl, ds, _, rfl, r, C, dx, _, rfl, upd_same, T.cl, T.nB, (by show 1 < 1000; decide), ?_⟩
      refine k _ ?_ fun c o hc hne => ?_
      · rw [upd_same, flds_put, lo_num hb, lo_den hb]
        rfl
      · rw [upd_ne hne, upd_ne hne]
        exact s1 _ _ hc
abbrev Rat2C (P : Program) (w : World) (K : PySem.W.Frag) (mg : Str → Option Value) (base : Heap) (C : Addr) : Prop := MakF P w K mg base 4 "Ratio" C (spInit C) []
abbrev Rat1C (P : Program) (w : World) (K : PySem.W.Frag) (mg : Str → Option Value) (base : Heap) (C : Addr) : Prop := MakF P w K mg base 4 "Ratio" C (spInit C) [.int 1]
/-- the reading of Ratio(a, b) -/
theorem make_rat {H : Hp} {a b : Int} {Q : VK} (hb : b ≠ 0) (sb : Sm b) (k : ∀ r H', H r = none → Same H H' → RatAt C H' r (Rat.divInt a b) → Q (.ref r) H') :
    ∀ x dx, H x = none → H dx = none → dx ≠ x → spInit C [.ref x, .int a, .int b] (upd (upd H dx (.own x)) x (.ins C dx [])) (fun v H2 => v = .non ∧ Q (.ref x) H2) E0 := by
  intro x dx hx hdx hne
  refine ⟨x, dx, a, b, rfl, upd_same, hb, sb, fun H' e kp => ⟨rfl, k x H' hx (fun c o hc => ?_) ⟨dx, e⟩⟩⟩
  have n1 := ne_of_none hc hx
  have n2 := ne_of_none hc hdx
  exact kp c o (by rw [upd_ne n1, upd_ne n2]; exact hc) n1
/-! ### to_ratio -/
/-- a number: a Ratio, or an int -/
def NumAt (C : Addr) (H : Hp) (y : V) (q : Rat) : Prop := (∃ r, y = .ref r ∧ RatAt C H r q) ∨ ∃ z : Int, y = .int z ∧ q = Rat.divInt z 1
theorem NumAt.same {H H' : Hp} {y : V} {q : Rat} (h : NumAt C H y q) (s : Same H H') : NumAt C H' y q := by
  rcases h with ⟨r, e, h⟩ | h
  · exact .inl ⟨r, e, h.same s⟩
  · exact .inr h
theorem NumAt.is {H : Hp} {y : V} {q : Rat} (T : TxR K mg C) (h : NumAt C H y q) : ∃ t b1 b2 b3, TyX K H y t ∧ PySem.W.kitOne K t (.type "int") = some b1 ∧ PySem.W.kitOne K t (.type "bool") = some b2 ∧
    PySem.W.kitOne K t (.ref C) = some b3 ∧ ((b1 && !b2) || b3) = true := by
  rcases h with ⟨r, rfl, h⟩ | ⟨z, rfl, _⟩
  · exact ⟨_, _, _, _, h.tyx T, T.kI, T.kB, T.kC, rfl⟩
  · exact ⟨_, true, false, _, tyx_int z, kit_ty (by decide +kernel), kit_ty (by decide +kernel), T.iC, rfl⟩
def spTo (C : Addr) : Sp := fun vs H Q _ => ∃ (y : V) (q : Rat), vs = [y] ∧ NumAt C H y q ∧ ∀ r H', Same H H' → RatAt C H' r q → Q (.ref r) H'
theorem sc_to_ratio : FnScope ["number"] ["number"] (defScope s_to_ratio) := ⟨rfl, rfl, rfl, by decide +kernel, rfl, by decide +kernel, by decide +kernel⟩
theorem ok_to {f : Addr} {fd : FuncData} (F : Fun K "to_ratio" "to_ratio" s_to_ratio f fd) (T : TxR K mg C) (m_rat1 : Rat1C P w K mg base C) : FnOk P w K mg base CX0 6 f fd ["number"] (spTo C) := by
  refine F.ok sc_to_ratio (fun vs H Q E h => ?_) (fun cdv A outer s H vs Q E hr h => ?_)
  · obtain ⟨y, q, rfl, _⟩ := h
    rfl
  · obtain ⟨y, q, rfl, hy, k⟩ := h
    refine ⟨_, (pss_cons (ps_if (pt_val (pe_callB (id := "isinstance") (call_isiK (K := K)) (by rfl) T.b_isinstance (by decide +kernel) (pa_cons (pv 0) (pa_cons (pe_glob (v := V.ref C) rfl T.g_Ratio rfl) pa_nil)))) (pss_one (ps_ret (pv 0)))
  pss_nil)
  (pss_one (ps_ret (pe_mkf m_rat1 hr (by decide) rfl (pa_cons (pv 0) pa_nil))))), ?_⟩
    rcases hy with ⟨r, rfl, h⟩ | ⟨z, rfl, rfl⟩
    · refine ⟨_, rfl, _, _, _, _, _, rfl, .own C, h.tyx T, T.kC, _, rfl, ?_⟩
      refine iteT ?_
      exact ⟨_, rfl, k r H (Same.refl H) h⟩
    · refine ⟨_, rfl, _, _, _, _, _, rfl, .own C, tyx_int z, T.iC, _, rfl, ?_⟩
      refine iteF ?_
      refine ⟨_, rfl, ?_⟩
      exact make_rat (by decide) (sm_lt (k := 1) (by decide) (by decide) (by decide)) fun r H' _ s h => k r H' s h
abbrev ToC (P : Program) (w : World) (K : PySem.W.Frag) (mg : Str → Option Value) (base : Heap) (C : Addr) : Prop := CalF P w K mg base 6 "to_ratio" (spTo C) []

/-! ### the operators -/
def spEqR (K : PySem.W.Frag) (C : Addr) : Sp := fun vs H Q _ => ∃ (r : Addr) (p : Rat) (y : V), vs = [.ref r, y] ∧ RatAt C H r p ∧
  ((∃ r2 q, y = .ref r2 ∧ RatAt C H r2 q ∧ Q (.bl (decide (p = q))) H) ∨ ∃ t, TyX K H y t ∧ PySem.W.kitOne K t (.ref C) = some false ∧ Q (.bl false) H)
theorem sc_Ratio___eq__ : FnScope ["self", "other"] ["self", "other"] (defScope s_Ratio___eq__) := ⟨rfl, rfl, rfl, by decide +kernel, rfl, by decide +kernel, by decide +kernel⟩
theorem ok_eq {f : Addr} {fd : FuncData} (F : Fun K "__eq__" "Ratio.__eq__" s_Ratio___eq__ f fd) (T : TxR K mg C) : FnOk P w K mg base CX0 2 f fd ["self", "other"] (spEqR K C) := by
  refine F.ok sc_Ratio___eq__ (fun vs H Q E h => ?_) (fun cdv A outer s H vs Q E hr h => ?_)
  · obtain ⟨r, p, y, rfl, _⟩ := h
    rfl
  · obtain ⟨r, p, y, rfl, hp, h⟩ := h
    refine ⟨_, (pss_one (ps_ret (pe_and (pe_callB (id := "isinstance") (call_isiK (K := K)) (by rfl) T.b_isinstance (by decide +kernel) (pa_cons (pv 1) (pa_cons (pe_glob (v := V.ref C) rfl T.g_Ratio rfl) pa_nil))) (pe_and (pe_cmpR op_eq (pe_fld (pv 0) rfl) (pe_fld (pv 1) rfl) (nomark _)) (pe_one (pe_cmpR op_eq (pe_fld (pv 0) rfl) (pe_fld (pv 1) rfl) (nomark _))))))), ?_⟩
    obtain ⟨d1, e1⟩ := id hp
    rcases h with ⟨r2, q, rfl, hq, k⟩ | ⟨t, ty, ki, k⟩
    · obtain ⟨d2, e2⟩ := id hq
      refine ⟨_, rfl, _, _, _, _, _, rfl, .own C, hq.tyx T, T.kC, _, rfl, ?_⟩
      refine iteT ?_
      refine ⟨_, rfl, r, C, d1, _, _, rfl, e1, T.cl, T.nT, flds_top p, _, rfl, r2, C, d2, _, _, rfl, e2, T.cl, T.nT, flds_top q, rfl, _, rfl, ?_⟩
      rw [rat_dec] at k
      have en : decide (V.int p.num = V.int q.num) = decide (p.num = q.num) := by simp
      have ed : decide (V.int p.den = V.int q.den) = decide ((p.den : Int) = q.den) := by simp
      rw [en]
      cases e : decide (p.num = q.num) with
      | false =>
        rw [e] at k
        exact iteF k
      | true =>
        rw [e, Bool.true_and] at k
        refine iteT ?_
        refine ⟨_, rfl, r, C, d1, _, _, rfl, e1, T.cl, T.nB, flds_bottom p, _, rfl, r2, C, d2, _, _, rfl, e2, T.cl, T.nB, flds_bottom q, rfl, ?_⟩
        rw [ed]
        exact k
    · refine ⟨_, rfl, _, _, _, _, _, rfl, .own C, ty, ki, _, rfl, ?_⟩
      exact iteF k
def spTop (C : Addr) : Sp := fun vs H Q _ => ∃ (r : Addr) (p : Rat), vs = [.ref r] ∧ RatAt C H r p ∧ Q (.int p.num) H
def spBottom (C : Addr) : Sp := fun vs H Q _ => ∃ (r : Addr) (p : Rat), vs = [.ref r] ∧ RatAt C H r p ∧ Q (.int p.den) H
theorem sc_Ratio_top : FnScope ["self"] ["self"] (defScope s_Ratio_top) := ⟨rfl, rfl, rfl, by decide +kernel, rfl, by decide +kernel, by decide +kernel⟩
theorem ok_top {f : Addr} {fd : FuncData} (F : Fun K "top" "Ratio.top" s_Ratio_top f fd) (T : TxR K mg C) : FnOk P w K mg base CX0 2 f fd ["self"] (spTop C) := by
  refine F.ok sc_Ratio_top (fun vs H Q E h => ?_) (fun cdv A outer s H vs Q E hr h => ?_)
  · obtain ⟨r, p, rfl, _⟩ := h
    rfl
  · obtain ⟨r, p, rfl, ⟨d1, e1⟩, k⟩ := h
    exact ⟨_, (pss_one (ps_ret (pe_fld (pv 0) rfl))), _, rfl, r, C, d1, _, _, rfl, e1, T.cl, T.nT, flds_top p, k⟩
theorem sc_Ratio_bottom : FnScope ["self"] ["self"] (defScope s_Ratio_bottom) := ⟨rfl, rfl, rfl, by decide +kernel, rfl, by decide +kernel, by decide +kernel⟩
theorem ok_bottom {f : Addr} {fd : FuncData} (F : Fun K "bottom" "Ratio.bottom" s_Ratio_bottom f fd) (T : TxR K mg C) : FnOk P w K mg base CX0 2 f fd ["self"] (spBottom C) := by
  refine F.ok sc_Ratio_bottom (fun vs H Q E h => ?_) (fun cdv A outer s H vs Q E hr h => ?_)
  · obtain ⟨r, p, rfl, _⟩ := h
    rfl
  · obtain ⟨r, p, rfl, ⟨d1, e1⟩, k⟩ := h
    exact ⟨_, (pss_one (ps_ret (pe_fld (pv 0) rfl))), _, rfl, r, C, d1, _, _, rfl, e1, T.cl, T.nB, flds_bottom p, k⟩
/-! ### truth and texts -/
def rt (p : Rat) : Str := ("Ratio(" : Str) ++ Str.ofString (toString p.num) ++ (", " : Str) ++ Str.ofString (toString (p.den : Int)) ++ (")" : Str)
def dg (p : Rat) : Str := if p.den = 1 then Str.ofString (toString p.num) else Str.ofString (toString p.num) ++ ("/" : Str) ++ Str.ofString (toString (p.den : Int))
theorem empty_add (x : Str) : Str.empty ++ x = x := by
  show Str.mk (#[] ++ x.cps) = x
  rw [Array.empty_append]
def spBool (C : Addr) : Sp := fun vs H Q _ => ∃ (r : Addr) (p : Rat), vs = [.ref r] ∧ RatAt C H r p ∧ Q (.bl (p.num != 0)) H
theorem sc_Ratio___bool__ : FnScope ["self"] ["self"] (defScope s_Ratio___bool__) := ⟨rfl, rfl, rfl, by decide +kernel, rfl, by decide +kernel, by decide +kernel⟩
theorem ok_bool {f : Addr} {fd : FuncData} (F : Fun K "__bool__" "Ratio.__bool__" s_Ratio___bool__ f fd) (T : TxR K mg C) : FnOk P w K mg base CX0 2 f fd ["self"] (spBool C) := by
  refine F.ok sc_Ratio___bool__ (fun vs H Q E h => ?_) (fun cdv A outer s H vs Q E hr h => ?_)
  · obtain ⟨r, p, rfl, _⟩ := h
    rfl
  · obtain ⟨r, p, rfl, ⟨d1, e1⟩, k⟩ := h
    refine ⟨_, (pss_one (ps_ret (pe_callTy call_bool1 (by rfl) T.b_bool (by decide +kernel) (pa_cons (pe_fld (pv 0) rfl) pa_nil)))), ?_⟩
    exact ⟨_, rfl, r, C, d1, _, _, rfl, e1, T.cl, T.nT, flds_top p, .inl ⟨_, rfl, k⟩⟩
def spStr (C : Addr) : Sp := fun vs H Q _ => ∃ (r : Addr) (p : Rat), vs = [.ref r] ∧ RatAt C H r p ∧ Sm p.num ∧ Sm (p.den : Int) ∧ Q (.str (dg p)) H
theorem len_ofTxt {i : Int} (h : Sm i) : (Str.ofString (toString i)).length ≤ 1921 := txt_len h
theorem sc_Ratio___str__ : FnScope ["self"] ["self"] (defScope s_Ratio___str__) := ⟨rfl, rfl, rfl, by decide +kernel, rfl, by decide +kernel, by decide +kernel⟩
theorem ok_str {f : Addr} {fd : FuncData} (F : Fun K "__str__" "Ratio.__str__" s_Ratio___str__ f fd) (T : TxR K mg C) : FnOk P w K mg base CX0 2 f fd ["self"] (spStr C) := by
  refine F.ok sc_Ratio___str__ (fun vs H Q E h => ?_) (fun cdv A outer s H vs Q E hr h => ?_)
  · obtain ⟨r, p, rfl, _⟩ := h
    rfl
  · obtain ⟨r, p, rfl, ⟨d1, e1⟩, sn, sd, k⟩ := h
    refine ⟨_, (pss_cons (ps_if (pt_cmpR op_eq (pe_fld (pv 0) rfl) pe_int (nomark _)) (pss_one (ps_ret (pe_callTy call_str_int (by rfl) T.b_str (by decide +kernel) (pa_cons (pe_fld (pv 0) rfl) pa_nil))))
  pss_nil)
  (pss_one (ps_ret (pe_joined (PJ.cons (pe_fmt (pe_fld (pv 0) rfl)) (PJ.cons pe_str (PJ.cons (pe_fmt (pe_fld (pv 0) rfl)) PJ.nil))))))), ?_⟩
    refine ⟨_, rfl, r, C, d1, _, _, rfl, e1, T.cl, T.nB, flds_bottom p, rfl, _, rfl, ?_⟩
    unfold dg at k
    refine ite2 (fun h => ?_) (fun h => ?_)
    · have hd : p.den = 1 := by have := V.int.inj (of_decide_eq_true h); omega
      rw [if_pos hd] at k
      exact ⟨_, rfl, r, C, d1, _, _, rfl, e1, T.cl, T.nT, flds_top p, _, rfl, log_sm sn, k⟩
    · have hd : ¬ p.den = 1 := fun z => h (decide_eq_true (by rw [z]; rfl))
      rw [if_neg hd] at k
      have l1 := txt_len sn
      have l2 := txt_len sd
      refine ⟨_, rfl, r, C, d1, _, _, rfl, e1, T.cl, T.nT, flds_top p, .inr ⟨_, rfl, log_sm sn, _, rfl, ?_, _, rfl, ?_, _, rfl, r, C, d1, _, _, rfl, e1, T.cl, T.nB, flds_bottom p, .inr ⟨_, rfl, log_sm sd, _, rfl, ?_, ?_⟩⟩⟩
      · rw [empty_add]
        exact Nat.le_trans l1 (by decide)
      · rw [empty_add, strLen_append]
        exact Nat.le_trans (Nat.add_le_add l1 (Nat.le_refl 1)) (by decide)
      · rw [empty_add, strLen_append, strLen_append]
        exact Nat.le_trans (Nat.add_le_add (Nat.add_le_add l1 (Nat.le_refl 1)) l2) (by decide)
      · rw [empty_add]
        exact k
def spRepr (C : Addr) : Sp := fun vs H Q _ => ∃ (r : Addr) (p : Rat), vs = [.ref r] ∧ RatAt C H r p ∧ Sm p.num ∧ Sm (p.den : Int) ∧ Q (.str (rt p)) H
theorem rt_len {p : Rat} (h1 : Sm p.num) (h2 : Sm (p.den : Int)) : (rt p).length ≤ 4000 := by
  unfold rt
  rw [strLen_append, strLen_append, strLen_append, strLen_append]
  have l1 := txt_len h1
  have l2 := txt_len h2
  have e1 : (("Ratio(" : Str)).length = 6 := rfl
  have e2 : ((", " : Str)).length = 2 := rfl
  have e3 : ((")" : Str)).length = 1 := rfl
  omega
theorem sc_Ratio___repr__ : FnScope ["self"] ["self"] (defScope s_Ratio___repr__) := ⟨rfl, rfl, rfl, by decide +kernel, rfl, by decide +kernel, by decide +kernel⟩
theorem ok_repr {f : Addr} {fd : FuncData} (F : Fun K "__repr__" "Ratio.__repr__" s_Ratio___repr__ f fd) (T : TxR K mg C) : FnOk P w K mg base CX0 2 f fd ["self"] (spRepr C) := by
  refine F.ok sc_Ratio___repr__ (fun vs H Q E h => ?_) (fun cdv A outer s H vs Q E hr h => ?_)
  · obtain ⟨r, p, rfl, _⟩ := h
    rfl
  · obtain ⟨r, p, rfl, ⟨d1, e1⟩, sn, sd, k⟩ := h
    refine ⟨_, (pss_one (ps_ret (pe_joined (PJ.cons pe_str (PJ.cons (pe_fmt (pe_fld (pv 0) rfl)) (PJ.cons pe_str (PJ.cons (pe_fmt (pe_fld (pv 0) rfl)) (PJ.cons pe_str PJ.nil)))))))), ?_⟩
    have l1 := txt_len sn
    have l2 := txt_len sd
    have z1 : (("Ratio(" : Str)).length = 6 := rfl
    have z2 : ((", " : Str)).length = 2 := rfl
    have z3 : ((")" : Str)).length = 1 := rfl
    refine ⟨_, rfl, ?_, _, rfl, r, C, d1, _, _, rfl, e1, T.cl, T.nT, flds_top p, .inr ⟨_, rfl, log_sm sn, _, rfl, ?_, _, rfl, ?_, _, rfl, r, C, d1, _, _, rfl, e1, T.cl, T.nB, flds_bottom p, .inr ⟨_, rfl, log_sm sd, _, rfl, ?_, _, rfl, ?_, ?_⟩⟩⟩
    · rw [empty_add]; decide
    · rw [empty_add, strLen_append]; exact Nat.le_trans (m := 4000) (by omega) (by decide)
    · rw [empty_add, strLen_append, strLen_append]; exact Nat.le_trans (m := 4000) (by omega) (by decide)
    · rw [empty_add, strLen_append, strLen_append, strLen_append]; exact Nat.le_trans (m := 4000) (by omega) (by decide)
    · rw [empty_add, strLen_append, strLen_append, strLen_append, strLen_append]; exact Nat.le_trans (m := 4000) (by omega) (by decide)
    · rw [empty_add]; exact k
/-- how a Ratio is shown -/
def ownR (C : Addr) : Hp → Addr → Str → Prop := fun H a t => ∃ p, RatAt C H a p ∧ Sm p.num ∧ Sm (p.den : Int) ∧ t = rt p
theorem ownR_same {H H' : Hp} {a : Addr} {t : Str} (h : ownR C H a t) (s : Same H H') : ownR C H' a t := h.elim fun p ⟨h, r⟩ => ⟨p, h.same s, r⟩
theorem ownF (d : DunF P w K mg base 2 C "__repr__" (spRepr C)) : OwnF P w K mg base (ownR C) 2 :=
  ⟨C, spRepr C, d, fun H a t ⟨p, h, s1, s2, e⟩ => ⟨h.elim fun dx e => ⟨dx, _, e⟩, fun H1 s => ⟨a, p, rfl, h.same s, s1, s2, by rw [e], Same.refl H1⟩⟩⟩
end
end Lw

/-! own errors with their own __init__, raised, caught, read; calls in a try; things of any kind -/
namespace MG
open PySem PySem.Spec PyProof.Rows L2

theorem TyX.same {K : PySem.W.Frag} {H H' : Hp} {x : V} {t : Value} (h : TyX K H x t) (s : Same H H') : TyX K H' x t := by
  cases h with
  | base h =>
    cases h with
    | non => exact .base .non
    | bl x => exact .base (.bl x)
    | int i => exact .base (.int i)
    | str x => exact .base (.str x)
    | flt x => exact .base (.flt x)
    | lst e => exact .base (.lst (s _ _ e))
    | frz e => exact .base (.frz (s _ _ e))
    | tup e => exact .base (.tup (s _ _ e))
    | dK e => exact .base (.dK (s _ _ e))
    | dT e => exact .base (.dT (s _ _ e))
    | ins e cl ha hn htk hm => exact .base (.ins (s _ _ e) cl ha hn htk hm)
  | byt b => exact .byt b
  | set e => exact .set (s _ _ e)
  | kList e c => exact .kList e c
  | kTuple e c => exact .kTuple e c
  | kDict e c => exact .kDict e c
  | fTuple e => exact .fTuple (s _ _ e)
  | fDict e => exact .fDict (s _ _ e)

section
variable {X : Cx} {CX : CXT} {k : Nat} {f C : Addr} {fd : FuncData} {ps : List Str} {sp : Sp} {dvs : List V} {ds : List Value} {E : L2.St → XK} {x m : Str} {p pos apos : Pos} {e o : Expr} {es : List Expr} {ta : TE} {t : TA}
/-- C(..) in a try: what is raised is wished for at the slots -/
def tMakeS (C : Addr) (sp : Sp) (dvs : List V) (E : L2.St → XK) (t : TA) : TE := fun σ H Q => t σ H fun vs H1 => ∀ x dx, H1 x = none → H1 dx = none → dx ≠ x →
  sp (.ref x :: (vs ++ dvs)) (upd (upd H1 dx (.own x)) x (.ins C dx [])) (fun v H2 => v = .non ∧ Q (.ref x) H2) (E σ)
/-- o.m(..) in a try -/
def tMethS (C : Addr) (m : Str) (sp : Sp) (dvs : List V) (E : L2.St → XK) (ta : TE) (t : TA) : TE := fun σ H Q => ta σ H fun x H1 => ∃ a dx fs, x = .ref a ∧ H1 a = some (.ins C dx fs) ∧ fs.lookup m = none ∧
  t σ H1 fun vs H2 => sp (x :: (vs ++ dvs)) H2 Q (E σ)
theorem run_fnS' {pins : List (Addr × Obj)} {σ : L2.St} {H : Hp} {s : Shared} {Q : VK} {us : List Value} {vs : List V} (F : FnOk X.prog X.w X.K X.mg X.base CX k f fd ps sp) (hr : Room k X.A) (hb : Binds X.K fd ps ds) (hd : Vals dvs ds) (hx : PassesAt CX X σ (E σ))
    (I : Inv X pins σ H s) (r : Vals vs us) (h : sp (vs ++ dvs) H Q (E σ)) : wpAny (model X.prog X.w) X.A (call (.ref f) us) (EP X pins σ Q) X.xe s := by
  have r2 : Vals (vs ++ dvs) (us ++ ds) := r.append hd
  have hl : (us ++ ds).length = ps.length := by rw [← r2.length]; exact F.len _ _ _ _ h
  refine wpAny_call (codeAny_mono (F.run X.A X.stack s H ⟨us, []⟩ (us ++ ds) (vs ++ dvs) Q (E σ) hr I.env0 (hb s us I.kIn hl) r2 h) fun r s' hq => ?_)
  cases r with
  | error e => exact hx pins H s e s' I hq
  | ok fl =>
    cases fl with
    | ret u => exact I.after hq
    | next => exact False.elim hq
    | brk => exact False.elim hq
    | cont => exact False.elim hq
theorem pe_makeS (M : Mk X.K C f) (F : FnOk X.prog X.w X.K X.mg X.base CX k f fd ps sp) (hr : Room (k + 1) X.A) (hg : Gl X x) (hm : X.mg x = some (.ref C)) (hb : Binds X.K fd ps ds) (hd : Vals dvs ds) (hx : ∀ σ, PassesAt CX X σ (E σ))
    (ha : PA X (e :: es) t) (hdb : (x == ("__debug__" : Str)) = false := by decide) (he : starEach (e :: es) X.env = (false, eval e X.env) :: starEach es X.env := by rfl) (hpl : (backTo pos (starEach es X.env)).any (·.1) = false := by rfl) :
    PE X (.Call (.Name x p) (e :: es) [] pos) (tMakeS C sp dvs E t) := by
  refine ⟨fun pins s σ H Q I h => ?_⟩
  refine wpAny_Call_Name_kw (ld_glob I hg hm ?_ hdb)
  refine PySem.W.callWith_K (h₀ := X.base) I.ok.mod.kin M.kp (thn (ha.run pos pins s σ H _ I h) fun us s1 ⟨vs, H1, I1, r, q⟩ => ⟨I1.kIn, ?_⟩) he hpl
  have hq := q (s1.heap.objs.size + 1) s1.heap.objs.size (I1.hok.fresh (Nat.le_succ _)) (I1.hok.fresh (Nat.le_refl _)) (Nat.ne_of_lt (Nat.lt_succ_self _))
  have I2 := Inv.made (C := C) I1
  have r2 : Vals (V.ref (s1.heap.objs.size + 1) :: (vs ++ dvs)) (Value.ref (s1.heap.objs.size + 1) :: (us ++ ds)) := .cons rfl (r.append hd)
  have hl : (Value.ref (s1.heap.objs.size + 1) :: us ++ ds).length = ps.length := by
    have e := r2.length
    rw [F.len _ _ _ _ hq] at e
    exact e.symm
  refine wpAny_call (make_map (f := f) I1.kIn M.makes M.init (beq_iff_eq.mp M.fn) (codeAny_mono (F.run _ X.stack _ _ ⟨Value.ref (s1.heap.objs.size + 1) :: us, []⟩ (Value.ref (s1.heap.objs.size + 1) :: (us ++ ds)) _ _ (E σ) (hr.make C us [])
    (I2.env0.make C us []) (hb _ (Value.ref (s1.heap.objs.size + 1) :: us) I2.kIn hl) r2 hq) fun r s' hq' => ?_))
  cases r with
  | error e => exact hx σ pins _ _ e s' I2 hq'
  | ok fl =>
    cases fl with
    | ret u =>
      obtain ⟨v, H', I3, rv, ev, q3⟩ := I2.after hq'
      subst ev
      exact ⟨rv, ⟨V.ref (s1.heap.objs.size + 1), H', I3, rfl, q3⟩⟩
    | next => exact False.elim hq'
    | brk => exact False.elim hq'
    | cont => exact False.elim hq'
theorem pe_methS {pl : Sem Bool} (he : PE X o ta) (c : Cls X.K C) (hm : Meth X.K C m f) (F : FnOk X.prog X.w X.K X.mg X.base CX k f fd ps sp) (hr : Room k X.A) (hb : Binds X.K fd ps ds) (hd : Vals dvs ds) (hx : ∀ σ, PassesAt CX X σ (E σ)) (ha : PA X (e :: es) t)
    (hst : starEach (e :: es) X.env = (false, eval e X.env) :: starEach es X.env := by rfl) (hpl : (backTo pos (starEach es X.env)).any (·.1) = false := by rfl)
    (ht : eval (.Call (.Attribute o m apos) (e :: es) [] pos) X.env = (do
      let ov ← eval o X.env
      standAt apos.atName
      let (f, first) ← holding [ov] (getMethod ov m pl)
      callWith pos f first (backTo pos (starEach (e :: es) X.env)) (backToKw pos (keywordEach [] X.env))) := by rfl) :
    PE X (.Call (.Attribute o m apos) (e :: es) [] pos) (tMethS C m sp dvs E ta t) := by
  refine ⟨fun pins s σ H Q I h => ?_⟩
  refine PySem.W.methodCall_KW (pl := pl) (thn (he.run pins s σ H _ I h) fun u s1 ⟨x, H1, I1, rx, a, dx, fs, ex, ea, l, q⟩ => ?_) ht
  subst ex
  obtain rfl : u = Value.ref a := rx
  refine getmeth_ok I1 ea c hm l ?_
  refine PySem.W.callWith_K (first := [.ref a]) (h₀ := X.base) I.ok.mod.kin hm.kp (thn (ha.run pos pins s1 σ H1 _ I1 q) fun us s2 ⟨vs, H2, I2, r, q2⟩ => ⟨I2.kIn, ?_⟩) hst hpl
  exact run_fnS' (us := .ref a :: us) (vs := .ref a :: vs) F hr hb hd (hx σ) I2 (.cons rfl r) q2
end

/-! ### an error class with its own __init__: one field -/
def spXi (K : PySem.W.Frag) (C : Addr) (fl : Str) : Sp := fun vs H Q _ => ∃ (a : Addr) (y : V), vs = [.ref a, y] ∧ OexC K C ∧ PySem.W.findIn K (.ref C) fl = some none ∧ H a = some (exo a C none) ∧
  ∀ dx, H dx = none → dx ≠ a → Q .non (upd (upd H dx (exd dx [(fl, y)])) a (exo a C (some dx)))
/-- such a class, as those know it who raise it -/
structure ExcF (P : Program) (w : World) (K : PySem.W.Frag) (mg : Str → Option Value) (base : Heap) (k : Nat) (x : Str) (C : Addr) (fl : Str) : Prop where
  oex : OexC K C
  xf : XfC K C
  no : PySem.W.findIn K (.ref C) fl = some none
  g : mg x = some (.ref C)
  te : PySem.W.exmOne K (.ref C) (.ref C) = some true
  ex : ∃ (fI : Addr) (fd : FuncData) (ps : List Str), PySem.W.findIn K (.ref C) "__init__" = some (some (.ref fI)) ∧ PySem.W.typeIn K (.ref fI) = some (.type "function") ∧ FnOk P w K mg base CX0 k fI fd ps (spXi K C fl) ∧ Binds K fd ps []
section
variable {X : Cx} {k j : Nat} {C : Addr} {fl x : Str} {p pos : Pos} {e : Expr} {es : List Expr} {ta : TA}
/-- the error: its own dict d, new, holds the field -/
def tRx (C : Addr) (fl : Str) (ta : TA) : L2.St → Hp → XK → Prop := fun σ H Q => ta σ H fun vs H1 => ∃ y, vs = [y] ∧ ∀ d H', Same H1 H' → H1 d = none → H' d = some (.xd [(fl, y)]) → Q (.ref C) (some d) H'
theorem pmk_x (T : ExcF X.prog X.w X.K X.mg X.base k x C fl) (hr : Room j X.A) (hk : k + 1 ≤ j) (hg : Gl X x) (ha : PA X (e :: es) ta)
    (hdb : (x == ("__debug__" : Str)) = false := by decide) (he : starEach (e :: es) X.env = (false, eval e X.env) :: starEach es X.env := by rfl) (hpl : (backTo pos (starEach es X.env)).any (·.1) = false := by rfl) :
    L2N.PMk X (.Call (.Name x p) (e :: es) [] pos) (tRx C fl ta) := by
  intro pins s σ H Q I h
  obtain ⟨oex, xf, hno, hm, te, fI, fd, ps, iC, tI, F1, hb⟩ := T
  obtain ⟨nm, q, N, bs, bm, sn, sub, ab, col, dd, k0, k1, k2, k3, k5, hC, hbm⟩ := oex.cls
  refine wpAny_Call_Name_kw (ld_glob I hg hm ?_ hdb)
  refine PySem.W.callWith_K (h₀ := X.base) I.ok.mod.kin oex.kC (thn (ha.run pos pins s σ H _ I h) fun us s1 ⟨vs, H1, I1, r1, y, ev, q1⟩ => ⟨I1.kIn, ?_⟩) he hpl
  subst ev
  show wpAny _ _ (call (.ref C) us) _ _ _
  obtain ⟨hp, g, dr, tk, os⟩ := s1
  have hsz : hp.objs.size ≤ hp.objs.size + 1 := Nat.le_succ _
  have hn : H1 (hp.objs.size + 1) = none := I1.hok.fresh hsz
  have hq : spXi X.K C fl [.ref (hp.objs.size + 1), y] (upd H1 (hp.objs.size + 1) (exo (hp.objs.size + 1) C none))
      (fun v H2 => v = .non ∧ ∃ d, H2 (hp.objs.size + 1) = some (exo (hp.objs.size + 1) C (some d)) ∧ H2 d = some (exd d [(fl, y)]) ∧ H1 d = none ∧ Q (.ref C) (some d) (upd (del H2 (hp.objs.size + 1)) d (.xd [(fl, y)]))) (fun _ _ _ => False) := by
    refine ⟨_, y, rfl, oex, hno, upd_same, fun dx hdx ne => ⟨rfl, dx, upd_same, ?_, ?_, q1 dx _ ?_ ?_ ?_⟩⟩
    · rw [upd_ne ne, upd_same]
    · rw [upd_ne ne] at hdx
      exact hdx
    · intro b o hbo
      rw [upd_ne ne] at hdx
      rw [upd_ne (ne_of_none hbo hdx), del_ne (ne_of_none hbo hn), upd_ne (ne_of_none hbo hn), upd_ne (ne_of_none hbo hdx), upd_ne (ne_of_none hbo hn)]
      exact hbo
    · rw [upd_ne ne] at hdx
      exact hdx
    · exact upd_same
  have kk : ∀ b o, hp.get? b = some o → ((hp.push (PySem.W.kdv_tup us)).push (PySem.HandSPX.excO C hp.objs.size)).get? b = some o := fun b o e => Heap.get?_push_of_some _ (Heap.get?_push_of_some _ e)
  have hget : ((hp.push (PySem.W.kdv_tup us)).push (PySem.HandSPX.excO C hp.objs.size)).get? (hp.objs.size + 1) = some (PySem.HandSPX.excO C hp.objs.size) := by heap_get
  have I2 : Inv X pins σ (upd H1 (hp.objs.size + 1) (exo (hp.objs.size + 1) C none)) ⟨(hp.push (PySem.W.kdv_tup us)).push (PySem.HandSPX.excO C hp.objs.size), g, dr, tk, os⟩ :=
    I1.laid (t' := tk) (a := hp.objs.size + 1) (o := exo (hp.objs.size + 1) C none) (h' := (hp.push (PySem.W.kdv_tup us)).push (PySem.HandSPX.excO C hp.objs.size)) kk hsz (exo_ok hget)
  have r2 : Vals (V.ref (hp.objs.size + 1) :: [y]) (Value.ref (hp.objs.size + 1) :: us) := .cons rfl r1
  have hl : (Value.ref (hp.objs.size + 1) :: us ++ []).length = ps.length := by
    have e := r2.length
    have e2 := F1.len _ _ _ _ hq
    rw [List.append_nil, ← e]
    exact e2
  have hus : us.length ≤ sizeLine := by
    rw [← Paired.length r1, sizeLine_eq]
    show 1 ≤ _
    omega
  have b2 := hb _ (Value.ref (hp.objs.size + 1) :: us) I2.kIn hl
  rw [List.append_nil] at b2
  refine wpAny_call (PySem.HandSPX.call_own F.excBase_ValueError (fun Y => PySem.HandSPX.refsVE_contains Y bm hbm) (I1.kIn _ _ hC) (PySem.W.looks_findIn I1.kIn iC) (fun self => PySem.W.bind_fn I1.kIn self tI) hus
    (codeAny_mono (F1.run _ X.stack _ _ ⟨Value.ref (hp.objs.size + 1) :: us, []⟩ (Value.ref (hp.objs.size + 1) :: us) _ _ (fun _ _ _ => False) ((hr.mono hk).make C us []) (I2.env0.make C us []) b2 r2 hq) fun r s' hq' => ?_))
  cases r with
  | error er => exact False.elim hq'
  | ok fl' =>
    cases fl' with
    | ret u =>
      obtain ⟨v, H2, os2, bare2, un2, hok2, rv, ev, d, ea, ed, hd1, q2⟩ := hq'
      subst ev
      obtain ⟨h2, g2, d2, t2, os'⟩ := s'
      obtain ⟨t0, G, J, kG, ge, hoe, na⟩ := mk_end0 (d2 := d2) (t2 := t2) I1 hsz kk un2 hok2 os2 bare2 ea ed hd1
      exact ⟨rv, ⟨hp.objs.size + 1, _, _, ⟨G, g2, d2, t2, os'⟩, _, .ref C, some d, rfl, J, kG, ge, hoe, ⟨rfl, rfl, fun vs hv => by cases hv; rfl⟩, rfl, rfl, na, rfl, bare2, raises_own oex.exC oex.tyC, q2⟩⟩
    | next => exact False.elim hq'
    | brk => exact False.elim hq'
    | cont => exact False.elim hq'
theorem ps_raiseX {W : WX} {pos2 : Pos} (T : ExcF X.prog X.w X.K X.mg X.base k x C fl) (hr : Room j X.A) (hk : k + 1 ≤ j) (hc : X.calm = true) (tk : L2N.Takes X W) (hg : Gl X x) (ha : PA X (e :: es) ta)
    (hdb : (x == ("__debug__" : Str)) = false := by decide) (he : starEach (e :: es) X.env = (false, eval e X.env) :: starEach es X.env := by rfl) (hpl : (backTo pos (starEach es X.env)).any (·.1) = false := by rfl) :
    PS X (.Raise (some (.Call (.Name x p) (e :: es) [] pos)) none pos2) (fun _ σ H => tRx C fl ta σ H fun cls d H' => W cls d σ H') := L2N.ps_raise hc tk (pmk_x T hr hk hg ha hdb he hpl)
theorem takesN0 : L2N.Takes X (fun _ _ _ _ => False) := fun u s' ⟨_, _, _, _, _, _, _, _, _, _, _, _, _, _, _, _, w⟩ => w.elim
theorem hot_of {a : Addr} {oe : Obj} {cls : Value} {d : Option Addr} {pn : List (Addr × Obj)} (hz : L2N.Zn cls d oe) (hf : ∃ vs, oe.data = .fields vs) : L2H.HotC (X.suite a ((a, oe) :: pn)) := by
  obtain ⟨vs, e⟩ := hf
  exact ⟨(a, oe), ⟨rfl, vs, e, hz.2.2 vs e⟩, List.mem_cons_self⟩
end

/-- a class made by its name in a try; sp: its __init__, which may raise -/
structure MakX (P : Program) (w : World) (K : PySem.W.Frag) (mg : Str → Option Value) (base : Heap) (k : Nat) (x : Str) (C : Addr) (sp : Sp) : Prop where
  ex : ∃ (f : Addr) (fd : FuncData) (ps : List Str), Mk K C f ∧ FnOk P w K mg base (L2N.CX P w) k f fd ps sp ∧ mg x = some (.ref C) ∧ Binds K fd ps []
theorem pe_mkX {X : Cx} {W : WX} {k j : Nat} {x : Str} {C : Addr} {sp : Sp} {p pos : Pos} {e : Expr} {es : List Expr} {t : TA} (c : MakX X.prog X.w X.K X.mg X.base k x C sp) (hr : Room j X.A) (hk : k + 1 ≤ j) (tk : L2N.Takes X W) (hg : Gl X x) (ha : PA X (e :: es) t)
    (hdb : (x == ("__debug__" : Str)) = false := by decide) (he : starEach (e :: es) X.env = (false, eval e X.env) :: starEach es X.env := by rfl) (hpl : (backTo pos (starEach es X.env)).any (·.1) = false := by rfl) :
    PE X (.Call (.Name x p) (e :: es) [] pos) (tMakeS C sp [] (WE W) t) := by
  obtain ⟨f, fd, ps, M, F, hm, b⟩ := c.ex
  exact pe_makeS M F (hr.mono hk) hg hm b .nil (fun σ => L2N.passAt tk σ) ha hdb he hpl
/-- a method called in a try, which may raise -/
structure MetX (P : Program) (w : World) (K : PySem.W.Frag) (mg : Str → Option Value) (base : Heap) (k : Nat) (C : Addr) (m : Str) (sp : Sp) : Prop where
  ex : ∃ (f : Addr) (fd : FuncData) (ps : List Str), Meth K C m f ∧ FnOk P w K mg base (L2N.CX P w) k f fd ps sp ∧ Binds K fd ps []
theorem pe_metX {X : Cx} {W : WX} {k j : Nat} {C : Addr} {m : Str} {sp : Sp} {pos apos : Pos} {o : Expr} {e : Expr} {es : List Expr} {ta : TE} {t : TA} {pl : Sem Bool} (c : MetX X.prog X.w X.K X.mg X.base k C m sp) (cl : Cls X.K C) (hr : Room j X.A) (hk : k ≤ j) (tk : L2N.Takes X W) (he : PE X o ta) (ha : PA X (e :: es) t)
    (hst : starEach (e :: es) X.env = (false, eval e X.env) :: starEach es X.env := by rfl) (hpl : (backTo pos (starEach es X.env)).any (·.1) = false := by rfl)
    (ht : eval (.Call (.Attribute o m apos) (e :: es) [] pos) X.env = (do
      let ov ← eval o X.env
      standAt apos.atName
      let (f, first) ← holding [ov] (getMethod ov m pl)
      callWith pos f first (backTo pos (starEach (e :: es) X.env)) (backToKw pos (keywordEach [] X.env))) := by rfl) :
    PE X (.Call (.Attribute o m apos) (e :: es) [] pos) (tMethS C m sp [] (WE W) ta t) := by
  obtain ⟨f, fd, ps, M, F, b⟩ := c.ex
  exact pe_methS (pl := pl) he cl M F (hr.mono hk) b .nil (fun σ => L2N.passAt tk σ) ha hst hpl ht

/-- a def of the module as it is called within an except suite -/
theorem fun_okH {P : Program} {w : World} {K : PySem.W.Frag} {mg : Str → Option Value} {base : Heap} {x qual : Str} {st : Stmt} {f : Addr} {fd : FuncData} {N ps : List Str} {k : Nat} {sp : Sp} (F : Fun K x qual st f fd) (S : FnScope N ps (defScope st)) (len : ∀ vs H Q E, sp vs H Q E → vs.length = ps.length)
    (hbody : ∀ (cdv : Value) (A : Around) (outer : List Env) (s : Shared) (H : Hp) (vs : List V) (Q : VK) (E : XK) (p : Addr × Obj), L2H.RoomH k (A.deeper (envOfC qual (defScope st) s.heap.objs.size f cdv)) → sp vs H Q E →
      ∃ t, PSs (L2H.cxH CX0 P w K mg base N qual (defScope st) f cdv A outer s H E p).nox (defBody st) t ∧ t { nx := fun _ H' => Q .non H', rt := Q } (start N vs) H) : L2H.FnH P w K mg base CX0 (k + 1) f fd ps sp := by
  obtain ⟨oc, od, kV, doc, pm, an, cdv, ct, osl, rfl, lk, hcd⟩ := F.ex
  refine L2H.fn_ofH lk hcd S len ?_
  intro A outer s H vs Q E p hot hr hsp
  obtain ⟨t, h, q⟩ := hbody cdv A outer s H vs Q E p hr hsp
  exact ⟨t, h.nox, q⟩

/-! ### the heap without q -/
def hid (q : Addr) (H : Hp) : Hp := fun b => if b = q then none else H b
theorem hid_same (q : Addr) (H : Hp) : Same (hid q H) H := fun b o h => by
  unfold hid at h
  split at h
  · cases h
  · exact h
theorem hid_keep {q : Addr} {H H' : Hp} (k : Keep q H H') : Same (hid q H) (hid q H') := fun b o h => by
  unfold hid at *
  by_cases e : b = q
  · rw [if_pos e] at h; cases h
  · rw [if_neg e] at h ⊢
    exact k.all b o h e
theorem hid_ne {q b : Addr} {H : Hp} (h : b ≠ q) : hid q H b = H b := if_neg h

/-! ### the sizes of texts -/
/-- printable signs -/
def Asc (z : Str) : Prop := ∀ c ∈ z.cps.toList, 32 ≤ c ∧ c ≤ 126
theorem asc_lt : ∀ c, c < 127 → 32 ≤ c → ((PySem.Builtin.Str.reprChar 34 c).all (fun d => decide (32 ≤ d ∧ d ≤ 126)) && (PySem.Builtin.Str.reprChar 39 c).all (fun d => decide (32 ≤ d ∧ d ≤ 126))) = true := by decide +kernel
theorem asc_repr {z : Str} (h : Asc z) : Asc (reprText z) := by
  have hq : reprQuote z = 34 ∨ reprQuote z = 39 := by
    unfold reprQuote
    split
    · exact .inl rfl
    · exact .inr rfl
  have ch : ∀ c ∈ z.cps.toList, ∀ d ∈ PySem.Builtin.Str.reprChar (reprQuote z) c, 32 ≤ d ∧ d ≤ 126 := fun c hc d hd => by
    have h1 := asc_lt c (by have := (h c hc).2; omega) (h c hc).1
    rw [Bool.and_eq_true] at h1
    rcases hq with e | e
    · rw [e] at hd
      exact of_decide_eq_true (List.all_eq_true.mp h1.1 d hd)
    · rw [e] at hd
      exact of_decide_eq_true (List.all_eq_true.mp h1.2 d hd)
  have qq : 32 ≤ reprQuote z ∧ reprQuote z ≤ 126 := by rcases hq with e | e <;> rw [e] <;> decide
  have key : ∀ (l : List Nat) (acc : Array Nat), (∀ c ∈ l, ∀ d ∈ PySem.Builtin.Str.reprChar (reprQuote z) c, 32 ≤ d ∧ d ≤ 126) → (∀ d ∈ acc.toList, 32 ≤ d ∧ d ≤ 126) → ∀ d ∈ (l.foldl (fun out c => out ++ (PySem.Builtin.Str.reprChar (reprQuote z) c).toArray) acc).toList, 32 ≤ d ∧ d ≤ 126 := by
    intro l
    induction l with
    | nil => intro acc _ ha; exact ha
    | cons c l ih =>
      intro acc hl ha
      refine ih _ (fun c' hc' => hl c' (List.mem_cons_of_mem _ hc')) fun d hd => ?_
      rw [Array.toList_append] at hd
      rcases List.mem_append.mp hd with hd | hd
      · exact ha d hd
      · exact hl c List.mem_cons_self d (by simpa using hd)
  intro d hd
  unfold reprText at hd
  have hd' : d ∈ ((z.cps.foldl (fun out c => out ++ (PySem.Builtin.Str.reprChar (reprQuote z) c).toArray) #[reprQuote z]).push (reprQuote z)).toList := hd
  rw [Array.toList_push, ← Array.foldl_toList] at hd'
  rcases List.mem_append.mp hd' with hd | hd
  · exact key _ _ ch (fun d hd => by
      have e : d = reprQuote z := by simpa using hd
      rw [e]; exact qq) d hd
  · have e : d = reprQuote z := by simpa using hd
    rw [e]; exact qq
theorem asc_ok {z : Str} (h : Asc z) : PyData.strOk z = true := by
  unfold PyData.strOk
  rw [← Array.all_toList, List.all_eq_true]
  intro c hc
  have := (h c hc).2
  exact decide_eq_true (by omega)
theorem asc_append {x y : Str} (hx : Asc x) (hy : Asc y) : Asc (x ++ y) := fun c hc => by
  have e : (x ++ y).cps = x.cps ++ y.cps := rfl
  rw [e, Array.toList_append] at hc
  rcases List.mem_append.mp hc with h | h
  · exact hx c h
  · exact hy c h

/-! ### a short text times a small number -/
def mulT (x : Str) (n : Int) : Str := if n < 1 then Str.empty else if (n == 1 || x.length == 0) = true then x else ⟨(List.replicate n.toNat x.cps).foldl (· ++ ·) #[]⟩
theorem rep_fold (x : Array Nat) : ∀ (n : Nat) (acc : Array Nat), ((List.replicate n x).foldl (· ++ ·) acc).size = acc.size + n * x.size ∧ ∀ c ∈ ((List.replicate n x).foldl (· ++ ·) acc).toList, c ∈ acc.toList ∨ c ∈ x.toList
  | 0, acc => ⟨by simp, fun c hc => .inl hc⟩
  | n + 1, acc => by
    obtain ⟨h1, h2⟩ := rep_fold x n (acc ++ x)
    rw [List.replicate_succ, List.foldl_cons]
    refine ⟨?_, fun c hc => ?_⟩
    · rw [h1, Array.size_append, Nat.add_mul]
      omega
    · rcases h2 c hc with h | h
      · rw [Array.toList_append] at h
        rcases List.mem_append.mp h with h | h
        · exact .inl h
        · exact .inr h
      · exact .inr h
theorem mulT_asc {x : Str} {n : Int} (h : Asc x) : Asc (mulT x n) := by
  unfold mulT
  split
  · intro c hc
    cases hc
  · split
    · exact h
    · intro c hc
      rcases (rep_fold x.cps n.toNat #[]).2 c hc with z | z
      · cases z
      · exact h c z
theorem mulT_len {x : Str} {n : Int} : (mulT x n).length ≤ n.toNat * x.length := by
  unfold mulT
  split
  · exact Nat.zero_le _
  · split
    · rename_i h1 h2
      exact Nat.le_mul_of_pos_left _ (by omega)
    · have h := (rep_fold x.cps n.toNat #[]).1
      show ((List.replicate n.toNat x.cps).foldl (· ++ ·) #[]).size ≤ n.toNat * x.cps.size
      rw [h]
      simp
theorem op_mulStr {X : Cx} : OpR X (binaryOp .Mult) (fun x y H Q => ∃ i n, x = .str i ∧ y = .int n ∧ 0 ≤ n ∧ n ≤ 1000 ∧ i.length ≤ 1000 ∧ Q (.str (mulT i n)) H) := by
  intro pins s σ H x y v u Q I rx ry h
  obtain ⟨i, n, rfl, rfl, h0, h1, hz, q⟩ := h
  obtain ⟨t, rfl⟩ := rx
  obtain ⟨t', rfl⟩ := ry
  have hb : n.toNat ≤ 1000 := by omega
  have hp : i.length * n.toNat ≤ 1000 * 1000 := Nat.mul_le_mul hz hb
  have hle := mulT_len (x := i) (n := n)
  rw [Nat.mul_comm] at hle
  have hline : 1000000 ≤ sizeLine := by decide
  refine PySem.P.mul_str ?_ ?_ ?_ ?_
  · rw [decide_eq_false (by omega : ¬ n < -(2 ^ 63 : Int)), decide_eq_false (by omega : ¬ n ≥ 2 ^ 63)]
    rfl
  · intro hn _ hc
    have h3 : (1000 : Int) ≤ (2 ^ 63 - 1) / n := by
      refine (Int.le_ediv_iff_mul_le (by omega)).mpr ?_
      omega
    omega
  · intro _ _
    unfold PySem.Builtin.Str.tooLong
    exact decide_eq_false (by omega)
  · unfold mulT at q hle
    by_cases c1 : n < 1
    · rw [if_pos c1] at q hle ⊢
      exact ⟨by decide, .str _, H, I.tok _, ⟨_, rfl⟩, q⟩
    · rw [if_neg c1] at q hle ⊢
      by_cases c2 : (n == 1 || i.length == 0) = true
      · rw [if_pos c2] at q ⊢
        exact ⟨.str i, H, I, ⟨_, rfl⟩, q⟩
      · rw [if_neg c2] at q hle ⊢
        exact ⟨by omega, .str _, H, I.tok _, ⟨_, rfl⟩, q⟩

section
variable {X : Cx} {x n : Str} {c : Value} {i : Nat} {body suite : List Stmt} {b₀ : Stmt} {np pos pos' : Pos} {tb : WX → TS} {ts : Addr → Value → Option Addr → TS} {Wout : WX}
/-- try .. except, what is raised said once for all ways -/
theorem ps_try_cut (hs : X.stack = X.env :: X.outer) (hf : X.env.frame = some X.env.locals) (hN : X.N.Nodup) (hi : X.N[i]? = some n) (hln : X.env.kindOf n = some .local) (hc : Names X x c) (tk : L2N.Takes X Wout)
    (hb : ∀ (W : WX) (pn : List (Addr × Obj)) (xe : Value → Shared → Prop), L2N.Takes (X.tr pn xe) W → PassesOwn (model X.prog X.w) X.A X.env xe → PSs (X.tr pn xe) body (tb W))
    (hsu : ∀ (a : Addr) (oe : Obj) (cls : Value) (d : Option Addr) (pn : List (Addr × Obj)), L2N.Zn cls d oe → (∃ vs, oe.data = .fields vs) → PSs (X.suite a ((a, oe) :: pn)) (b₀ :: suite) (ts a cls d)) :
    PS X (.Try body [.ExceptHandler (some (.Name x np)) (some n) (b₀ :: suite) pos'] [] [] pos) (fun D σ H => ∃ Ce : WX, (∀ cls d σ' H', Ce cls d σ' H' → wAs X.K c i ts Wout D cls d σ' H') ∧ tb Ce D σ H) :=
  L2N.ps_try_as (tb := fun W D σ H => ∃ Ce : WX, (∀ cls d σ' H', Ce cls d σ' H' → W cls d σ' H') ∧ tb Ce D σ H) hs hf hN hi hln hc tk
    (fun W pn xe tk po => ⟨fun pins s σ H D I ⟨Ce, imp, h⟩ => (hb Ce pn xe (tk.imp imp) po).run pins s σ H D I h⟩) hsu
end

/-- a def that may raise -/
theorem fun_okN {P : Program} {w : World} {K : PySem.W.Frag} {mg : Str → Option Value} {base : Heap} {x qual : Str} {st : Stmt} {f : Addr} {fd : FuncData} {N ps : List Str} {k : Nat} {sp : Sp} (F : Fun K x qual st f fd) (S : FnScope N ps (defScope st)) (len : ∀ vs H Q E, sp vs H Q E → vs.length = ps.length)
    (hbody : ∀ (cdv : Value) (A : Around) (outer : List Env) (s : Shared) (H : Hp) (vs : List V) (Q : VK) (E : XK), Room k (A.deeper (envOfC qual (defScope st) s.heap.objs.size f cdv)) → sp vs H Q E →
      ∃ t, PSs (cxOf (L2N.CX P w) P w K mg base N qual (defScope st) f cdv A outer s H E) (defBody st) t ∧ t { nx := fun _ H' => Q .non H', rt := Q } (start N vs) H) : FnOk P w K mg base (L2N.CX P w) (k + 1) f fd ps sp := by
  obtain ⟨oc, od, kV, doc, pm, an, cdv, ct, osl, rfl, lk, hcd⟩ := F.ex
  exact fn_of lk hcd S len fun A outer s H vs Q E hr hsp => hbody cdv A outer s H vs Q E hr hsp
end MG

/-! classmethods called in a try, by a keyword; a class called by a local name -/
namespace MG
open PySem PySem.Spec PyProof.Rows L2 ClX
section
variable {X : Cx} {CX : CXT} {k j : Nat} {C p g : Addr} {m : Str} {mc : Value} {sp : Sp} {o e : Expr} {es : List Expr} {pos apos : Pos} {ta : TE} {t : TA} {pl : Sem Bool}
theorem after_cm {pins : List (Addr × Obj)} {σ : L2.St} {H : Hp} {s : Shared} {q : Addr} {Q : VK} {E : XK} {us : List Value} {kw : List (Str × Value)} (I : Inv X ((q, PySem.W.methodObj (.ref g) (.ref C)) :: pins) σ H s) (hx : PassesAt CX X σ E)
    (run : codeAny (model X.prog X.w) X.A (.call (.ref g) ⟨.ref C :: us, kw⟩) (CR CX X.stack X.prog X.w H s Q E) s) : wpAny (model X.prog X.w) X.A (call (.ref q) us kw) (EP X pins σ Q) X.xe s := by
  have z : wpAny (model X.prog X.w) X.A (call (.ref q) us kw) (EP X ((q, PySem.W.methodObj (.ref g) (.ref C)) :: pins) σ Q) X.xe s := by
    refine wpAny_call (PySem.W.method_call (pin_at I) (codeAny_mono run fun r s' hq => ?_))
    match r, hq with
    | .error er, hq => exact hx _ H s er s' I hq
    | .ok (.ret u), hq => exact I.after hq
    | .ok .next, hq => exact False.elim hq
    | .ok .brk, hq => exact False.elim hq
    | .ok .cont, hq => exact False.elim hq
  exact thn z fun _ _ y => unpinE y
/-- C.m(..), m a classmethod that may raise, in a try -/
def tCMetS (C : Addr) (sp : Sp) (E : L2.St → XK) (ta : TE) (t : TA) : TE := fun σ H Q => ta σ H fun x H1 => x = .ref C ∧ t σ H1 fun vs H2 => sp (.ref C :: vs) H2 Q (E σ)
structure CmtX (P : Program) (w : World) (K : PySem.W.Frag) (mg : Str → Option Value) (base : Heap) (k : Nat) (C : Addr) (m : Str) (sp : Sp) : Prop where
  ex : ∃ (p g : Addr) (mc : Value) (fd : FuncData) (ps : List Str), CRead K C mc ∧ CMet K C mc m p g ∧ FnOk P w K mg base (L2N.CX P w) k g fd ps sp ∧ Binds K fd ps []
theorem pe_cmtX {W : WX} (c : CmtX X.prog X.w X.K X.mg X.base k C m sp) (hr : Room j X.A) (hk : k ≤ j) (tk : L2N.Takes X W) (he : PE X o ta) (ha : PA X (e :: es) t)
    (hst : starEach (e :: es) X.env = (false, eval e X.env) :: starEach es X.env := by rfl) (hpl : (backTo pos (starEach es X.env)).any (·.1) = false := by rfl)
    (ht : eval (.Call (.Attribute o m apos) (e :: es) [] pos) X.env = (do
      let ov ← eval o X.env
      standAt apos.atName
      let (f, first) ← holding [ov] (getMethod ov m pl)
      callWith pos f first (backTo pos (starEach (e :: es) X.env)) (backToKw pos (keywordEach [] X.env))) := by rfl) :
    PE X (.Call (.Attribute o m apos) (e :: es) [] pos) (tCMetS C sp (WE W) ta t) := by
  obtain ⟨p, g, mc, fd, ps, r, cm, F, b⟩ := c.ex
  refine ⟨fun pins s σ H Q I h => ?_⟩
  refine PySem.W.methodCall_KW (pl := pl) (thn (he.run pins s σ H _ I h) fun u s1 ⟨x, H1, I1, rx, ex, q⟩ => ?_) ht
  subst ex
  obtain rfl : u = Value.ref C := rx
  refine getmethcm_ok I1 r cm fun s2 I2 => ?_
  refine callwith_cm I2 (base_none I1 (Nat.le_refl _)) cm.fi (thn (ha.run pos _ s2 σ H1 _ I2 q) fun us s3 ⟨vs, H2, I3, rv, q2⟩ => ⟨⟨pin_at I3, I3.kIn⟩, ?_⟩) hst hpl
  have q3 : sp (.ref C :: vs ++ []) H2 Q (WE W σ) := by rw [List.append_nil]; exact q2
  exact after_cm I3 (L2N.passAt tk σ) ((F.raw b .nil) X.A X.stack s3 H2 (.ref C :: us) (.ref C :: vs) Q (WE W σ) (hr.mono hk) I3.env0 (.cons rfl rv) q3)
/-- C.m(k = v), where nothing is raised -/
def tCMetK (C : Addr) (sp : Sp) (n : Nat) (gV : List V → List V → List V) (ta : TE) (tk : TA) : TE := fun σ H Q => ta σ H fun x H1 => x = .ref C ∧ tk σ H1 fun zs H2 => zs.length = n ∧ sp (gV [.ref C] zs) H2 Q (fun _ _ _ => False)
structure CmtK (P : Program) (w : World) (K : PySem.W.Frag) (mg : Str → Option Value) (base : Heap) (k : Nat) (C : Addr) (m : Str) (sp : Sp) (ks : List Str) (gV : List V → List V → List V) : Prop where
  ex : ∃ (p g : Addr) (mc : Value) (fd : FuncData) (ps : List Str) (gf : List Value → List Value → List Value), CRead K C mc ∧ CMet K C mc m p g ∧ FnOk P w K mg base (L2N.CX P w) k g fd ps sp ∧ KBn K fd ps 1 ks gf gV
theorem passF {σ : L2.St} : PassesAt (L2N.CX X.prog X.w) X σ (fun _ _ _ => False) := fun _ _ _ _ _ _ ⟨_, _, _, _, _, _, _, _, _, _, _, _, z⟩ => z.elim
theorem pe_cmtK {kws : List Keyword} {ks : List Str} {gV : List V → List V → List V} {tk : TA} (c : CmtK X.prog X.w X.K X.mg X.base k C m sp ks gV) (hr : Room j X.A) (hk : k ≤ j) (he : PE X o ta) (hkw : PK X kws tk)
    (hall : (backToKw pos (keywordEach kws X.env)).all (·.1.isSome) = true := by rfl) (hks : (backToKw pos (keywordEach kws X.env)).filterMap (·.1) = ks := by rfl)
    (hpl : ((backTo pos (starEach [] X.env)).any (·.1) || (backToKw pos (keywordEach kws X.env)).any (·.1.isNone)) = false := by rfl)
    (ht : eval (.Call (.Attribute o m apos) [] kws pos) X.env = (do
      let ov ← eval o X.env
      standAt apos.atName
      let (f, first) ← holding [ov] (getMethod ov m pl)
      callWith pos f first (backTo pos (starEach [] X.env)) (backToKw pos (keywordEach kws X.env))) := by rfl) :
    PE X (.Call (.Attribute o m apos) [] kws pos) (tCMetK C sp ks.length gV ta tk) := by
  obtain ⟨p, g, mc, fd, ps, gf, r, cm, F, b⟩ := c.ex
  refine ⟨fun pins s σ H Q I h => ?_⟩
  refine PySem.W.methodCall_KW (pl := pl) (thn (he.run pins s σ H _ I h) fun u s1 ⟨x, H1, I1, rx, ex, q⟩ => ?_) ht
  subst ex
  obtain rfl : u = Value.ref C := rx
  refine getmethcm_ok I1 r cm fun s2 I2 => ?_
  refine PySem.W.callWith_of (P := PySem.W.MethP X.K s1.heap.objs.size g (.ref C)) hpl (PySem.W.keeps_M cm.fi) (PyProof.Rows.evalArgs_kw2_nil hall (thn (hkw.run pos _ s2 σ H1 _ I2 q) fun ws s3 ⟨zs, H2, I3, rz, hl, q2⟩ => ⟨⟨pin_at I3, I3.kIn⟩, ?_⟩))
  rw [hks]
  have hlw : ws.length = ks.length := rz.length.symm.trans hl
  exact after_cm I3 passF (F.run X.A X.stack s3 H2 ⟨.ref C :: [], ks.zip ws⟩ (gf [.ref C] ws) (gV [.ref C] zs) Q _ (hr.mono hk) I3.env0 (b.to s3 [.ref C] ws I3.kIn rfl hlw) (b.rel (.cons rfl .nil) rz) q2)
/-- cls(..), the class in slot i -/
def tMakeL (i : Nat) (C : Addr) (sp : Sp) (dvs : List V) (t : TA) : TE := fun σ H Q => σ[i]? = some (some (.ref C)) ∧ tMake C sp dvs E0 t σ H Q
theorem pe_mkL {y x : Str} {i : Nat} {q : Pos} {dvs : List V} (c : MakF X.prog X.w X.K X.mg X.base k y C sp dvs) (hr : Room j X.A) (hk : k + 1 ≤ j) (hN : X.N[i]? = some x) (hv : Vis X.env.scope x) (ha : PA X (e :: es) t)
    (hdb : (x == ("__debug__" : Str)) = false := by decide) (hcd : (x == ("__classdict__" : Str)) = false := by decide)
    (he : starEach (e :: es) X.env = (false, eval e X.env) :: starEach es X.env := by rfl) (hpl : (backTo pos (starEach es X.env)).any (·.1) = false := by rfl) : PE X (.Call (.Name x q) (e :: es) [] pos) (tMakeL i C sp dvs t) := by
  obtain ⟨f, fd, ps, ds, M, F, hm, b, d⟩ := c.ex
  refine ⟨fun pins s σ H Q I h => ?_⟩
  obtain ⟨hs, ht⟩ := h
  refine wpAny_Call_Name_kw (thn ((pe_var (pos := q) hN hv hdb hcd).run pins s σ H (fun v H1 => v = .ref C ∧ H1 = H) I ⟨.ref C, hs, rfl, rfl⟩) fun u s1 ⟨v, H1, I1, r1, q1⟩ => ?_)
  obtain ⟨rfl, rfl⟩ := q1
  cases r1
  refine PySem.W.callWith_K (h₀ := X.base) I.ok.mod.kin M.kp (thn (ha.run pos pins s1 σ _ _ I1 ht) fun us s2 ⟨vs, H2, I2, r, q⟩ => ⟨I2.kIn, ?_⟩) he hpl
  exact run_make M F (hr.mono hk) b d pass0 I2 r q
end

/-! ### comprehensions over a text -/
theorem lc_str {x : Str} {g : TG} {tt : TT} {te : TE} {vs : List Nat} {σ : L2.St} {H1 : Hp} {D : Addr} {Qd : Hp → Prop} (Pv : Nat → Hp → Prop) (h0 : Pv 0 (upd H1 D (.lst [])))
    (hs : ∀ i c H, x.cps[i]? = some c → Pv i H → g (.str ⟨#[c]⟩) (wipe σ vs) H fun σ2 H2 => wipe σ2 vs = wipe σ vs ∧ tt σ2 H2 fun b H3 =>
      if b = true then te σ2 H3 fun y H4 => ∃ acc, H4 D = some (.lst acc) ∧ acc.length < sizeLine ∧ Pv (i + 1) (upd H4 D (.lst (acc ++ [y]))) else Pv (i + 1) H3) (hd : ∀ H, Pv x.cps.size H → Qd H) :
    ∃ W : Nat → Nat → Hp → Prop, (∃ m, W 0 m (upd H1 D (.lst []))) ∧ ∀ i m H, W i m H →
      ((Its x).stop i H ∧ Qd H) ∨ ((Its x).go i H ∧ ∃ Nx : Hp → Prop, (∀ H', Nx H' → ∃ m', m' < m ∧ W (i + 1) m' H') ∧ ∀ v H', (Its x).yld i H v H' → g v (wipe σ vs) H' fun σ2 H2 => wipe σ2 vs = wipe σ vs ∧ tt σ2 H2 fun b H3 =>
        if b = true then te σ2 H3 fun y H4 => ∃ acc, H4 D = some (.lst acc) ∧ acc.length < sizeLine ∧ Nx (upd H4 D (.lst (acc ++ [y]))) else Nx H3) := by
  refine ⟨fun i m H => m = x.cps.size - i ∧ i ≤ x.cps.size ∧ Pv i H, ⟨x.cps.size, by simp, Nat.zero_le _, h0⟩, ?_⟩
  rintro i m H ⟨rfl, hi, p⟩
  by_cases hlt : i < x.cps.size
  · refine .inr ⟨hlt, Pv (i + 1), fun H' p' => ⟨x.cps.size - (i + 1), by omega, rfl, hlt, p'⟩, fun v H' y => ?_⟩
    obtain ⟨rfl, c, e, rfl⟩ := y
    exact hs i c _ e p
  · have e : i = x.cps.size := by omega
    subst e
    exact .inl ⟨Nat.le_refl _, hd H p⟩
/-- [e for c in z], c in slot j: ys are the items of the new list -/
def tMapS (j : Nat) (tl te : TE) : TE := fun σ H Q => tl σ H fun x H1 => ∃ (z : Str) (ys : List V), x = .str z ∧ ys.length = z.length ∧ z.length ≤ 100000 ∧
  (∀ (i : Nat) (c : Nat) (y : V) (H' : Hp), z.cps[i]? = some c → ys[i]? = some y → Same H1 H' → te ((σ.set j none).set j (some (.str ⟨#[c]⟩))) H' fun v H'' => v = y ∧ Same H' H'') ∧
  ∀ D H', Same H1 H' → H1 D = none → H' D = some (.lst ys) → Q (.ref D) H'
theorem map_coreS {te : TE} {j : Nat} {σ : L2.St} {H1 : Hp} {Q : VK} {z : Str} {ys : List V} (hn : ys.length = z.length) (hs : z.length ≤ 100000)
    (he : ∀ (i : Nat) (c : Nat) (y : V) (H' : Hp), z.cps[i]? = some c → ys[i]? = some y → Same H1 H' → te ((σ.set j none).set j (some (.str ⟨#[c]⟩))) H' fun v H'' => v = y ∧ Same H' H'')
    (k : ∀ D H', Same H1 H' → H1 D = none → H' D = some (.lst ys) → Q (.ref D) H') :
    tLc (fun _ H R => R (Its z) H) (gName j) tYes (tCut te) [j] σ H1 Q := by
  intro D hD
  refine lc_str (x := z) (fun i H' => Same H1 H' ∧ H' D = some (.lst (ys.take i))) ⟨fun c u h => by rw [upd_ne (ne_of_none h hD)]; exact h, upd_same⟩ ?_ ?_
  · rintro i c H' hi ⟨s, e⟩
    have hi2 : i < z.cps.size := (Array.getElem?_eq_some_iff.mp hi).1
    have hn' : ys.length = z.cps.size := hn
    have hy : ys[i]? = some ys[i] := List.getElem?_eq_getElem (by omega)
    refine ⟨wipe_one, _, he i c _ H' hi hy s, ?_⟩
    rintro v H2 ⟨rfl, s2⟩
    refine ⟨_, s2 _ _ e, ?_, ?_, ?_⟩
    · rw [List.length_take]
      exact Nat.lt_of_le_of_lt (m := 100000) (by omega) (by decide)
    · intro c o hc
      rw [upd_ne (ne_of_none hc hD)]
      exact s2 _ _ (s _ _ hc)
    · rw [upd_same, take_one hy]
  · rintro H' ⟨s, e⟩
    have hn' : ys.length = z.cps.size := hn
    rw [← hn', List.take_length] at e
    exact k D H' s hD e
theorem pe_mapS {X : Cx} {e : Expr} {tl te : TE} {j : Nat} (h : PE X e (tLc (iStr (tCut tl)) (gName j) tYes (tCut te) [j])) : PE X e (tMapS j tl te) := by
  refine pe_imp h fun σ H Q q => ?_
  refine ⟨_, q, ?_⟩
  rintro v H1 ⟨z, ys, rfl, hn, hs, he, k⟩
  exact ⟨z, rfl, map_coreS hn hs he k⟩
theorem cr_allK {X : Cx} {K : PySem.W.Frag} (hc : X.calm = true) (hK : X.K = K := by rfl) : CallR X (.builtin "all") (rAll K) := hK ▸ cr_all hc
end MG

namespace MG
open PySem PySem.Spec PyProof.Rows L2
/-- [e for x in range(..)], what an item changes told by P (of the new list's place and the turn) -/
def tMapRP (j : Nat) (ta : TA) (te : TE) : TE := fun σ H Q => ta σ H fun vs H1 => ∃ (m : Int) (ys : List V) (Pv : Addr → Nat → Hp → Prop), vs = [.int m] ∧ 0 ≤ m ∧ m ≤ 100000 ∧ (ys.length : Int) = m ∧
  (∀ D, H1 D = none → Pv D 0 (upd H1 D (.lst []))) ∧
  (∀ (D : Addr) (i : Nat) (y : V) (H' : Hp), ys[i]? = some y → Pv D i H' → H' D = some (.lst (ys.take i)) → te ((σ.set j none).set j (some (.int i))) H' fun v H'' => v = y ∧ H'' D = some (.lst (ys.take i)) ∧ Pv D (i + 1) (upd H'' D (.lst (ys.take (i + 1))))) ∧
  ∀ D H', H' D = some (.lst ys) → Pv D ys.length H' → Q (.ref D) H'
theorem map_coreRP {te : TE} {j : Nat} {σ : L2.St} {H1 : Hp} {Q : VK} {m : Nat} {ys : List V} {Pv : Addr → Nat → Hp → Prop} (hn : ys.length = m) (hs : m ≤ 100000) (h0 : ∀ D, H1 D = none → Pv D 0 (upd H1 D (.lst [])))
    (he : ∀ (D : Addr) (i : Nat) (y : V) (H' : Hp), ys[i]? = some y → Pv D i H' → H' D = some (.lst (ys.take i)) → te ((σ.set j none).set j (some (.int i))) H' fun v H'' => v = y ∧ H'' D = some (.lst (ys.take i)) ∧ Pv D (i + 1) (upd H'' D (.lst (ys.take (i + 1)))))
    (k : ∀ D H', H' D = some (.lst ys) → Pv D ys.length H' → Q (.ref D) H') :
    tLc (fun _ H R => R (Itr 0 m) H) (gName j) tYes (tCut te) [j] σ H1 Q := by
  intro D hD
  refine lc_range (lo := 0) (n := m) (fun i H' => H' D = some (.lst (ys.take i)) ∧ Pv D i H') ⟨upd_same, h0 D hD⟩ ?_ ?_
  · rintro i H' hi ⟨e, p⟩
    have hy : ys[i]? = some ys[i] := List.getElem?_eq_getElem (by omega)
    have e0 : (0 : Int) + (i : Int) = i := Int.zero_add _
    rw [e0]
    refine ⟨wipe_one, _, he D i _ H' hy p e, ?_⟩
    rintro v H2 ⟨rfl, e2, p2⟩
    refine ⟨_, e2, ?_, ?_, ?_⟩
    · rw [List.length_take]
      exact Nat.lt_of_le_of_lt (m := 100000) (by omega) (by decide)
    · rw [upd_same, take_one hy]
    · rw [take_one hy] at p2
      exact p2
  · rintro H' ⟨e, p⟩
    rw [← hn, List.take_length] at e
    rw [← hn] at p
    exact k D H' e p
theorem pe_mapRP {X : Cx} {e : Expr} {ta : TA} {te : TE} {j : Nat} (mono : ∀ σ H (Q Q' : List V → Hp → Prop), (∀ v H', Q v H' → Q' v H') → ta σ H Q → ta σ H Q')
    (h : PE X e (tLc (iRng1 ta) (gName j) tYes (tCut te) [j])) : PE X e (tMapRP j ta te) := by
  refine pe_imp h fun σ H Q q => ?_
  refine mono σ H _ _ ?_ q
  rintro vs H1 ⟨m, ys, Pv, rfl, h0, hm, hn, hp, he, k⟩
  exact ⟨m, rfl, by omega, by omega, map_coreRP (by omega) (by omega) hp he k⟩
end MG

/-! own errors held as values: made by position and by keyword, their fields read, asked by isinstance -/
namespace MG
open PySem PySem.Spec PyProof.Rows L2
/-! ### a class of errors called with keywords -/
section
open PySem.HandSPX
variable {prog : Program} {w : World} {A : Around} {E : Value → Shared → Prop} {R : Result → Shared → Prop} {h : Heap} {g : Array GenState} {d : Drawn} {t : Nat} {os : OsState}
variable {nm q : Str} {C N : Addr} {bs bm tl : List Value} {hdct : Bool} {sn : List Str} {sub : List Value} {ab : Bool} {col : Option Bool} {dd : Option Addr} {k0 k1 k2 k3 k5 : Option Value} {B newId initId : String} {rest : List Value} {kw : List (Str × Value)}
theorem xk_check {M : Model} (F : ExcBaseFacts B newId initId tl) (hT : ∀ X : String, bm.contains (.type X) = tl.contains (.type X)) {Q : Unit → Shared → Prop}
    (hC : h.get? C = some (excClassObj nm q C N bs bm hdct sn sub ab col dd k0 k1 k2 k3 k5 newId)) (hq : Q () ⟨h, g, d, t, os⟩) : wpAny M A (checkBuiltinCall newId ⟨.ref C :: rest, kw⟩) Q E ⟨h, g, d, t, os⟩ := by
  have hcont : (Value.ref C :: bm).contains (.type B) = true := by rw [List.contains_cons, hT, F.hasB, Bool.or_true]
  have hstar := F.noStar
  simp only [checkBuiltinCall, F.newKind, F.newSplit, F.newRow]
  repeat (first | refine wpAny_loadPart_at hC ?_ | (refine wpAny_isSubtype_exc hC ?_; rw [hcont]) | refine wpAny_staticBase_exc hC ?_ | refine wpAny_madeBy_exc hC ?_ | simp only [bne_self_eq_false, Bool.false_eq_true, if_false] | wp_step)
  exact hq
theorem xk_new (F : ExcBaseFacts B newId initId tl) (hT : ∀ X : String, bm.contains (.type X) = tl.contains (.type X))
    (hC : h.get? C = some (excClassObj nm q C N bs bm hdct sn sub ab col dd k0 k1 k2 k3 k5 newId))
    (hq : R (.ok (.ret (.ref (h.objs.size + 1)))) ⟨(h.push (PySem.W.kdv_tup rest)).push (excO C h.objs.size), g, d, t, os⟩) (hrest : rest.length ≤ sizeLine) :
    codeAny (model prog w) A (.builtin newId ⟨.ref C :: rest, kw⟩) R ⟨h, g, d, t, os⟩ := by
  have hends := F.ends
  have hcB : (Value.ref C :: bm).contains (.type B) = true := by rw [List.contains_cons, hT, F.hasB, Bool.or_true]
  have hcA : (Value.ref C :: bm).contains (.type "AttributeError") = false := by rw [List.contains_cons, hT, F.noAttr]; rfl
  have hcN : (Value.ref C :: bm).contains (.type "NameError") = false := by rw [List.contains_cons, hT, F.noName]; rfl
  refine codeAny_builtinAt F.entry ?_
  unfold Builtin.«BaseException.__new__»
  refine PySem.wpAt_bind ?_
  show PySem.wpAt _ _ _ (stack >>= _) _ _ _
  refine PySem.wpAt_bind (PySem.wpAt_stack fun p below => PySem.wpAt_of_wpAny ?_)
  wp_walk
  refine PySem.wpAt_of_wpAny ?_
  rw [F.owner]
  repeat (first | with_reducible refine wpAny_madeHere_exc F.canon hC ?_ | with_reducible refine wpAny_loadPart_at hC ?_ | (with_reducible refine wpAny_isSubtype_exc hC ?_; first | rw [hcB] | rw [hcA] | rw [hcN]) | wp_step)
  show R _ _
  rw [Heap.size_push]
  exact hq
theorem xk_type (F : ExcBaseFacts B newId initId tl) (hT : ∀ X : String, bm.contains (.type X) = tl.contains (.type X)) {fI : Addr} {Q : Fin → Shared → Prop}
    (hC : h.get? C = some (excClassObj nm q C N bs bm hdct sn sub ab col dd k0 k1 k2 k3 k5 newId))
    (hi : PySem.W.Looks (model prog w) h (typeLookup (.ref C) "__init__") (some (.ref fI))) (hb : ∀ self, PySem.W.Looks (model prog w) h (bindSpecial (.ref fI) self) (.ref fI, [self])) (hrest : rest.length ≤ sizeLine)
    (hq : codeAny (model prog w) A (.call (.ref fI) ⟨.ref (h.objs.size + 1) :: rest, kw⟩)
      (fun r s' => match r with | .ok (.ret v) => v = .none ∧ Q (.done (.ret (.ref (h.objs.size + 1)))) s' | .ok _ => False | .error e => E e s')
      ⟨(h.push (PySem.W.kdv_tup rest)).push (excO C h.objs.size), g, d, t, os⟩) :
    wpAny (model prog w) A (Builtin.«type.__call__» ⟨.ref C :: rest, kw⟩) Q E ⟨h, g, d, t, os⟩ := by
  repeat (first | with_reducible refine wpAny_loadPart_at hC ?_ | with_reducible refine wpAny_madeBy_exc hC ?_ | wp_step)
  refine codeAny_call_builtin_code (Code.quiet_builtin _ F.quiet) (xk_check F hT hC ?_)
  refine xk_new F hT hC ?_ hrest
  show wpAny _ _ _ _ _ _
  have k : ∀ b o, h.get? b = some o → ((h.push (PySem.W.kdv_tup rest)).push (excO C h.objs.size)).get? b = some o := fun b o e => Heap.get?_push_of_some _ (Heap.get?_push_of_some _ e)
  have hC₁ := k _ _ hC
  have hget : ((h.push (PySem.W.kdv_tup rest)).push (excO C h.objs.size)).get? (h.objs.size + 1) = some (excO C h.objs.size) := by heap_get
  have hcC : (Value.ref C :: bm).contains (.ref C) = true := by simp
  have i1 := hi.keeps k
  have b1 := (hb (.ref (h.objs.size + 1))).keeps k
  unfold isInstance
  repeat (first | with_reducible refine wpAny_loadPart_at hget ?_ | (with_reducible refine wpAny_isSubtype_exc hC₁ ?_; rw [hcC]) | wp_step)
  show wpAny _ _ (typeLookup (.ref C) _) _ _ _
  refine i1.at ?_
  refine wpAny_holding (wpAny_bind (b1.at ?_))
  refine wpAny_bind (wpAny_call (codeAny_mono hq fun r s' z => ?_))
  rcases r with e | (v | _ | _ | _) <;> first | exact z | exact z.elim | skip
  obtain ⟨rfl, z⟩ := z
  first
    | exact wpAny_pure (wpAny_pure z)
    | (wp_walk; exact z)
theorem xk_call (F : ExcBaseFacts B newId initId tl) (hT : ∀ X : String, bm.contains (.type X) = tl.contains (.type X)) {fI : Addr}
    (hC : h.get? C = some (excClassObj nm q C N bs bm hdct sn sub ab col dd k0 k1 k2 k3 k5 newId))
    (hi : PySem.W.Looks (model prog w) h (typeLookup (.ref C) "__init__") (some (.ref fI))) (hb : ∀ self, PySem.W.Looks (model prog w) h (bindSpecial (.ref fI) self) (.ref fI, [self])) (hrest : rest.length ≤ sizeLine)
    (hq : codeAny (model prog w) (A.under (.builtin "type.__call__" ⟨.ref C :: rest, kw⟩)) (.call (.ref fI) ⟨.ref (h.objs.size + 1) :: rest, kw⟩) (PySem.W.InitBack (h.objs.size + 1) R)
      ⟨(h.push (PySem.W.kdv_tup rest)).push (excO C h.objs.size), g, d, t, os⟩) :
    codeAny (model prog w) A (.call (.ref C) ⟨rest, kw⟩) R ⟨h, g, d, t, os⟩ := by
  have f1 := tc_lookup
  have f2 := tc_bind (.ref C)
  have hTy : (⟨h, g, d, t, os⟩ : Shared).TypeIs (.ref C) "type" := ⟨_, hC, rfl⟩
  refine codeAny_of_tree ?_
  show wpAny _ _ (callAny (.ref C) _) _ _ _
  repeat (any_goals (first | assumption | with_reducible refine wpAny_loadPart_at hC ?_ | wp_step))
  refine ⟨rfl, ?_⟩
  refine codeAny_call_builtin_at (Code.quiet_builtin _ (by decide +kernel)) entry_typeCall (wpAny_check_type_call_sub hC (xk_type F hT hC hi hb hrest ?_))
  refine codeAny_mono hq fun r s' z => ?_
  rcases r with e | (v | _ | _ | _) <;> exact z
end
end MG

namespace MG
open PySem PySem.Spec PyProof.Rows L2
/-- a built-in class of errors over which own ones stand -/
structure ExB (B newId initId : String) (tl : List Value) : Prop where
  fb : ExcBaseFacts B newId initId tl
  sf : StoreFacts B tl "object.__setattr__" "object"
/-- what an own class of errors says -/
structure ErC (K : PySem.W.Frag) (C : Addr) : Prop where
  cls : ∃ B newId initId tl, ExB B newId initId tl ∧ PySem.W.excInitIn K C tl newId = true ∧ PySem.W.excOver K C tl = true
  sa : PySem.W.findIn K (.ref C) "__setattr__" = some (some (.builtin "object.__setattr__"))
  exC : PySem.W.subIn K (.ref C) (.type "BaseException") = some true
  tyC : PySem.W.typeIn K (.ref C) = some (.type "type")
  kC : PySem.W.keepIn K (.ref C) = true
  ga : PySem.W.findIn K (.ref C) "__getattribute__" = some (some (.builtin "BaseException.__getattribute__"))
  gg : PySem.W.findIn K (.ref C) "__getattr__" = some none
  hd : PySem.W.hasDictIn K C = true
  ca : PySem.W.findIn K (.ref C) "__class__" = some (some (.builtin "object.__class__"))
  cn : PySem.W.specialIn K (.builtin "object.__class__") "__get__" = some (some (.builtin "getset_descriptor.__get__"))
  ct : PySem.W.takesIn K (.builtin "object.__class__") = some true
  mo : PySem.W.mroIn K C (.type "object") = some true
theorem ErC.look {K : PySem.W.Frag} {C : Addr} (T : ErC K C) : ∃ cd, PySem.W.clsIn K C = some cd ∧ cd.hasDict = true ∧ ∀ self, refuseLoop self "__setattr__" cd.mro = pure () := by
  obtain ⟨B, newId, initId, tl, eb, _, ho⟩ := T.cls
  obtain ⟨cd, hcd, h⟩ := PySem.W.any_some ho
  obtain ⟨cd', hcd', hd⟩ := PySem.W.any_some T.hd
  rw [hcd] at hcd'
  obtain rfl := Option.some.inj hcd'
  refine ⟨cd, hcd, hd, fun self => ?_⟩
  obtain ⟨nm, bs, mro, ns, qn, hdd, sn, sb, ab, col, del⟩ := cd
  dsimp only at h ⊢
  split at h
  · rename_i C' bm
    have h2 := (Bool.and_eq_true_iff.mp h).2
    exact PySem.W.excTail_pass self (eb.sf.passes self) _ (show PySem.W.excTail tl (.ref C' :: bm) = true from h2)
  · cases h
section
open Builtin Builtin.ObjectAttr PySem.HandSPX
variable {prog : Program} {w : World} {A : Around} {E : Value → Shared → Prop} {R : Result → Shared → Prop} {hp : Heap} {g : Array GenState} {d : Drawn} {t : Nat} {os : OsState}
theorem er_osa0 {K : PySem.W.Frag} {name : Str} {tk : Tok} {v : Value} {x C : Addr} {fv : Array Value} (T : ErC K C)
    (X : K.In hp) (hx : hp.get? x = some { cls := .ref C, data := .fields fv }) (ha : PySem.W.findIn K (.ref C) name = some none)
    (hq : ∀ h' tk' dx, (∀ b o, b ≠ x → hp.get? b = some o → h'.get? b = some o) → hp.objs.size ≤ dx → dx ≠ x → h'.get? x = some { cls := .ref C, dict := some dx, data := .fields fv } →
      h'.Ns1 dx (fun y => if y = name then some v else none) → R (.ok (.ret .none)) ⟨h', g, d, tk', os⟩) :
    codeAny (model prog w) A (.call (.builtin "object.__setattr__") ⟨[.ref x, .str name tk, v], []⟩) R ⟨hp, g, d, t, os⟩ := by
  obtain ⟨cd, hcd, hh, hm⟩ := T.look
  have I : PySem.W.InstAt hp x { cls := .ref C, data := .fields fv } C none := ⟨hx, rfl, rfl, trivial⟩
  have SF := PySem.F.store_object
  have hxs : x ≠ hp.objs.size := Nat.ne_of_lt (Heap.lt_size hx)
  have sub : PySem.W.Looks (model prog w) hp (isInstance (.ref x) (.type "object")) true := I.type.andThen (PySem.W.looks_mroIn X T.mo)
  refine codeAny_call_builtin SF.slot.plain SF.entry (@PySem.W.check_slot (model prog w) _ _ ⟨hp, g, d, t, os⟩ "object.__setattr__" "object" "__setattr__" (.ref x) [.str name tk, v] [] _ SF.kind SF.split sub (SF.args (.ref x) (.str name tk) v) ?_)
  have hmr : PySem.W.Looks (model prog w) hp (mroOf (.ref C)) cd.mro := (PySem.W.looks_clsIn X hcd).andThen .now
  have L3 : PySem.W.Looks (model prog w) hp (storeTaker? none) none := .now
  have hcls : PySem.W.Looks (model prog w) hp (classData C) cd := PySem.W.looks_clsIn X hcd
  rw [PySem.W.osa_eq, refuse_eq]
  refine wpAny_bind (wpAny_bind (I.type.at (wpAny_bind (hmr.at ?_))))
  rw [hm]
  refine wpAny_pure (wpAny_bind (I.type.at (wpAny_bind ((PySem.W.looks_findIn X ha).at (wpAny_bind (L3.at ?_))))))
  show wpAny _ _ (storeInOwnDict (.ref x) (.ref C) (.str name tk) name v false) _ _ _
  obtain ⟨nm, bs, mro, ns, qn, hd, sn, sb, ab, col, del⟩ := cd
  dsimp only at hh
  subst hh
  unfold storeInOwnDict ownDictForStores
  repeat (first | with_reducible refine PySem.HandSPX.store_in_new ?_ ?_ | with_reducible refine wpAny_loadPart_at hx ?_ | with_reducible refine hcls.at ?_ | wp_step)
  · exact ⟨_, #[], _, (Heap.get?_update_ne _ _ _ _ hxs.symm).trans (Heap.get?_push_at rfl rfl), rfl, fun e he => absurd he (by simp), fun _ => rfl⟩
  · intro h' tk' hn' hs
    have hx₁ : (hp.push { cls := .type "dict", data := .dict #[] }).get? x = some { cls := .ref C, data := .fields fv } := Heap.get?_push_of_some _ hx
    refine hq h' tk' hp.objs.size (fun b o hb ho => ?_) (Nat.le_refl _) hxs.symm ?_ hn'
    · exact (hs.2 b (Nat.ne_of_lt (Heap.lt_size ho))).trans ((Heap.get?_update_ne _ _ _ _ hb).trans (Heap.get?_push_of_some _ ho))
    · exact (hs.2 x hxs).trans (Heap.get?_update_self _ hx₁ rfl)
theorem er_osa1 {K : PySem.W.Frag} {name : Str} {tk : Tok} {v : Value} {x C dx : Addr} {fv : Array Value} {m0 : Str → Option Value} {nl : List Str} (T : ErC K C)
    (X : K.In hp) (hx : hp.get? x = some { cls := .ref C, dict := some dx, data := .fields fv }) (hns : hp.Ns1 dx m0) (hw : Within m0 nl) (hz : nl.length ≤ 1000)
    (ha : PySem.W.findIn K (.ref C) name = some none)
    (hq : ∀ h' tk', (∀ b o, b ≠ dx → hp.get? b = some o → h'.get? b = some o) → h'.Ns1 dx (fun y => if y = name then some v else m0 y) → R (.ok (.ret .none)) ⟨h', g, d, tk', os⟩) :
    codeAny (model prog w) A (.call (.builtin "object.__setattr__") ⟨[.ref x, .str name tk, v], []⟩) R ⟨hp, g, d, t, os⟩ := by
  obtain ⟨cd, hcd, hh, hm⟩ := T.look
  obtain ⟨oD, esD, epD, hoD, hdD, _⟩ := hns.count hw
  have I : PySem.W.InstAt hp x { cls := .ref C, dict := some dx, data := .fields fv } C (some oD) := ⟨hx, rfl, rfl, hoD⟩
  have SF := PySem.F.store_object
  have sub : PySem.W.Looks (model prog w) hp (isInstance (.ref x) (.type "object")) true := I.type.andThen (PySem.W.looks_mroIn X T.mo)
  refine codeAny_call_builtin SF.slot.plain SF.entry (@PySem.W.check_slot (model prog w) _ _ ⟨hp, g, d, t, os⟩ "object.__setattr__" "object" "__setattr__" (.ref x) [.str name tk, v] [] _ SF.kind SF.split sub (SF.args (.ref x) (.str name tk) v) ?_)
  have hmr : PySem.W.Looks (model prog w) hp (mroOf (.ref C)) cd.mro := (PySem.W.looks_clsIn X hcd).andThen .now
  have L3 : PySem.W.Looks (model prog w) hp (storeTaker? none) none := .now
  have hcls : PySem.W.Looks (model prog w) hp (classData C) cd := PySem.W.looks_clsIn X hcd
  rw [PySem.W.osa_eq, refuse_eq]
  refine wpAny_bind (wpAny_bind (I.type.at (wpAny_bind (hmr.at ?_))))
  rw [hm]
  refine wpAny_pure (wpAny_bind (I.type.at (wpAny_bind ((PySem.W.looks_findIn X ha).at (wpAny_bind (L3.at ?_))))))
  show wpAny _ _ (storeInOwnDict (.ref x) (.ref C) (.str name tk) name v false) _ _ _
  obtain ⟨nm, bs, mro, ns, qn, hd, sn, sb, ab, col, del⟩ := cd
  dsimp only at hh
  subst hh
  unfold storeInOwnDict ownDictForStores
  repeat (first | with_reducible refine PySem.OEX.store_in_old hns hw hz ?_ | with_reducible refine wpAny_loadPart_at hx ?_ | with_reducible refine hcls.at ?_ | wp_step)
  intro h' tk' hn' hs
  exact hq h' tk' (fun b o hb ho => (hs.2 b hb).trans ho) hn'
end
section
variable {X : Cx} {pins : List (Addr × Obj)} {σ : L2.St} {H : Hp} {s : Shared} {a C dx : Addr} {f : Str} {y : V} {u : Value} {fs : List (Str × V)} {Q : Unit → Shared → Prop} {E : Value → Shared → Prop} {A : Around}
/-- self.f = y, the first one -/
theorem er_new (T : ErC X.K C) (I : Inv X pins σ H s) (e : H a = some (exo a C none)) (hno : PySem.W.findIn X.K (.ref C) f = some none) (ry : RelV y u)
    (h : ∀ dx s', H dx = none → dx ≠ a → Inv X pins σ (upd (upd H dx (exd dx [(f, y)])) a (exo a C (some dx))) s' → Q () s') : wpAny (model X.prog X.w) A (setAttr (.ref a) f u) Q E s := by
  obtain ⟨t1, ho⟩ := exo_at I.hok e
  obtain ⟨hp, g, d, t, os⟩ := s
  refine PySem.W.set_plain I.kIn (ox := { cls := .ref C, dict := none, data := .fields #[.ref t1, .none, .none, .none, .bool false, .none] }) (od := none) ⟨ho, rfl, rfl, trivial⟩ T.sa ?_
  refine er_osa0 T I.kIn ho hno (fun h' tk' dx k dn dne hx hn => ?_)
  have hnd : H dx = none := I.hok.fresh dn
  have nd : ∀ {b : Addr} {o : Obj}, hp.get? b = some o → b ≠ dx := fun {b o} q => Nat.ne_of_lt (Nat.lt_of_lt_of_le (Heap.lt_size q) dn)
  have na : ∀ {b : Addr}, H b = none → b ≠ a := fun {b} n z => by
    rw [z, e] at n
    cases n
  have Un1 : Un X.fs [] H (upd (upd H dx (exd dx [(f, y)])) a (exo a C (some dx))) hp h' := {
    keep := fun b o q n _ _ => k b o (na n) q
    slot := fun b o q n _ _ => ⟨o.slots, k b o (na n) q⟩
    free := fun b o q n _ => by rw [upd_ne (na n), upd_ne (nd q)]; exact n
    there := fun b o q _ => by
      by_cases hb : b = a
      · exact ⟨_, by rw [hb]; exact hx⟩
      · exact ⟨o, k b o hb q⟩
    tups := fun b xs q => by rw [upd_ne (at_ne e q exo_tup), upd_ne (ne_of_none q hnd)]; exact q
    frzs := fun b o v q => by rw [upd_ne (at_ne e q exo_frz), upd_ne (ne_of_none q hnd)]; exact q
    tbls := fun b ps q => ⟨#[], by rw [upd_ne (at_ne e q exo_tbl), upd_ne (ne_of_none q hnd), q]; simp⟩ }
  refine h dx _ hnd dne (I.un (t' := tk') Un1 fun b o q => ?_)
  by_cases hb : b = a
  · subst hb
    rw [upd_same] at q
    cases q
    exact exo_ok hx
  · rw [upd_ne hb] at q
    by_cases hd : b = dx
    · subst hd
      rw [upd_same] at q
      cases q
      exact exd_ok hn (relO_put (fs := []) ry fun g => True.intro)
    · rw [upd_ne hd] at q
      exact (I.hok b o q).stay (fun c v hc z => k c v (by
          rcases hc with hc | hc
          · rw [hc]
            exact hb
          · exact at_ne e hc exo_own) z)
        (fun c hc => by rw [upd_ne (at_ne e hc exo_own), upd_ne (ne_of_none hc hnd)]; exact hc) (fun c xs hc => by rw [upd_ne (at_ne e hc exo_tup), upd_ne (ne_of_none hc hnd)]; exact hc)
/-- self.f = y, a further one -/
theorem er_old (T : ErC X.K C) (I : Inv X pins σ H s) (e : H a = some (exo a C (some dx))) (ed : H dx = some (exd dx fs)) (hl : fs.length ≤ 900) (hno : PySem.W.findIn X.K (.ref C) f = some none) (ry : RelV y u)
    (h : ∀ s', Inv X pins σ (upd H dx (exd dx ((f, y) :: fs))) s' → Q () s') : wpAny (model X.prog X.w) A (setAttr (.ref a) f u) Q E s := by
  obtain ⟨t1, ho⟩ := exo_at I.hok e
  obtain ⟨mA, hns, rel⟩ := exd_at I.hok ed
  have hw := within_of rel
  obtain ⟨hp, g, d, t, os⟩ := s
  obtain ⟨oD, _, _, hoD, _, _⟩ := hns.count hw
  refine PySem.W.set_plain I.kIn (ox := { cls := .ref C, dict := some dx, data := .fields #[.ref t1, .none, .none, .none, .bool false, .none] }) (od := some oD) ⟨ho, rfl, rfl, hoD⟩ T.sa ?_
  refine er_osa1 T I.kIn ho hns hw (by rw [List.length_map]; omega) hno (fun h' tk' k hn => ?_)
  have hd : ∃ o, h'.get? dx = some o := by
    obtain ⟨o, _, _, e', _⟩ := hn
    exact ⟨o, e'⟩
  exact h _ (I.write (t' := tk') (x := dx) (e := dx) (o := exd dx ((f, y) :: fs)) (by rw [ed]; exact True.intro) (.inl rfl) k hd (exd_ok hn (relO_put ry rel)))
end
/-- self.f = e, self an own error -/
def tOsE (K : PySem.W.Frag) (f : Str) (to te : TE) : TS := fun D σ H => te σ H fun y H1 => to σ H1 fun x H2 => ∃ a C : Addr, x = .ref a ∧ ErC K C ∧ PySem.W.findIn K (.ref C) f = some none ∧
  ((H2 a = some (exo a C none) ∧ ∀ dx, H2 dx = none → dx ≠ a → D.nx σ (upd (upd H2 dx (exd dx [(f, y)])) a (exo a C (some dx)))) ∨
    ∃ (dx : Addr) (fs : List (Str × V)), H2 a = some (exo a C (some dx)) ∧ H2 dx = some (exd dx fs) ∧ fs.length ≤ 900 ∧ D.nx σ (upd H2 dx (exd dx ((f, y) :: fs))))
theorem ps_osE {X : Cx} {o e : Expr} {to te : TE} {f : Str} {p' pos : Pos} (ho : PE X o to) (he : PE X e te) (hs : swapsWith e (some (.Attribute o f p')) pos.line X.env = pure false := by rfl) : PS X (.Assign [.Attribute o f p'] e pos) (tOsE X.K f to te) := by
  refine ⟨fun pins s σ H D I h => ?_⟩
  refine plainObj_wpAny_Assign_Attribute (thn (he.run pins s σ H _ I h) fun v s1 ⟨y, H1, I1, r1, q1⟩ => thn (ho.run pins s1 σ H1 _ I1 q1) fun u s2 ⟨x, H2, I2, r2, a, C, ex, T, hno, q⟩ => ?_) hs
  subst ex
  obtain rfl : u = Value.ref a := r2
  rcases q with ⟨ea, q⟩ | ⟨dx, fs, ea, ed, hl, q⟩
  · exact er_new T I2 ea hno r1 fun dx s' n ne J => ⟨σ, _, J, q dx n ne⟩
  · exact er_old T I2 ea ed hl hno r1 fun s' J => ⟨σ, _, J, q⟩
/-! ### made, held as values -/
/-- what stands at a: an error of the class C with these fields -/
def ErAt (C : Addr) (fs : List (Str × V)) (H : Hp) (a : Addr) : Prop := (fs = [] ∧ H a = some (exo a C none)) ∨ ∃ d, H a = some (exo a C (some d)) ∧ H d = some (exd d fs)
theorem ErAt.same {C a : Addr} {fs : List (Str × V)} {H H' : Hp} (h : ErAt C fs H a) (s : Same H H') : ErAt C fs H' a := by
  rcases h with ⟨e, h⟩ | ⟨d, h1, h2⟩
  · exact .inl ⟨e, s _ _ h⟩
  · exact .inr ⟨d, s _ _ h1, s _ _ h2⟩
/-- the __init__ of such a class -/
def spEr (K : PySem.W.Frag) (C : Addr) (fls : List Str) : Sp := fun vs H Q _ => ∃ (a : Addr) (ys : List V), vs = .ref a :: ys ∧ ys.length = fls.length ∧ ErC K C ∧ (∀ f ∈ fls, PySem.W.findIn K (.ref C) f = some none) ∧ H a = some (exo a C none) ∧
  ∀ dx H', H dx = none → dx ≠ a → (∀ b o, H b = some o → b ≠ a → H' b = some o) → H' a = some (exo a C (some dx)) → H' dx = some (exd dx (fls.zip ys).reverse) → Q .non H'
theorem er_vrev {xs : List V} {us : List Value} (r : Vals xs us) : Vals xs.reverse us.reverse := by
  induction r with
  | nil => exact .nil
  | cons h t ih =>
    rw [List.reverse_cons, List.reverse_cons]
    exact ih.append (.cons h .nil)
structure MkE (P : Program) (w : World) (K : PySem.W.Frag) (mg : Str → Option Value) (base : Heap) (k : Nat) (x : Str) (C : Addr) (fls : List Str) : Prop where
  er : ErC K C
  no : ∀ f ∈ fls, PySem.W.findIn K (.ref C) f = some none
  g : mg x = some (.ref C)
  few : fls.length ≤ 2
  ex : ∃ (fI : Addr) (fd : FuncData) (ps : List Str), PySem.W.findIn K (.ref C) "__init__" = some (some (.ref fI)) ∧ PySem.W.typeIn K (.ref fI) = some (.type "function") ∧ FnOk P w K mg base CX0 k fI fd ps (spEr K C fls) ∧ Binds K fd ps [] ∧
    KBn K fd ps 1 fls.reverse (fun us ws => us ++ ws.reverse) (fun vs zs => vs ++ zs.reverse)
def tMkE (C : Addr) (fls : List Str) (ta : TA) : TE := fun σ H Q => ta σ H fun vs H1 => vs.length = fls.length ∧ ∀ a H', Same H1 H' → H1 a = none → ErAt C (fls.zip vs).reverse H' a → Q (.ref a) H'
def tMkEK (C : Addr) (fls : List Str) (tk : TA) : TE := fun σ H Q => tk σ H fun zs H1 => zs.length = fls.length ∧ ∀ a H', Same H1 H' → H1 a = none → ErAt C (fls.zip zs.reverse).reverse H' a → Q (.ref a) H'
section
variable {X : Cx} {k j : Nat} {C : Addr} {fls : List Str} {x : Str} {p pos : Pos} {e : Expr} {es : List Expr} {kws : List Keyword} {ta tk : TA}
/-- the call of the class: rest by position, kw by name; all of them ys in the order of the fields -/
theorem er_run {pins : List (Addr × Obj)} {σ : L2.St} {H1 : Hp} {Q : VK} {s1 : Shared} {us : List Value} {kw : List (Str × Value)} {ys : List V} {ws : List Value} (c : MkE X.prog X.w X.K X.mg X.base k x C fls) (hr : Room j X.A) (hk : k + 1 ≤ j) (I1 : Inv X pins σ H1 s1)
    (hl : ys.length = fls.length) (hu : us.length ≤ 10) (rv : Vals ys ws) (hb : ∀ (fI : Addr) (fd : FuncData) (ps : List Str), FnOk X.prog X.w X.K X.mg X.base CX0 k fI fd ps (spEr X.K C fls) → Binds X.K fd ps [] → KBn X.K fd ps 1 fls.reverse (fun us ws => us ++ ws.reverse) (fun vs zs => vs ++ zs.reverse) →
      ∀ (a : Addr) (s : Shared), X.K.In s.heap → (a :: ys.map fun _ => a).length = ps.length → BindsTo s fd ⟨.ref a :: us, kw⟩ (ps.zip (.ref a :: ws)))
    (q1 : ∀ a H', Same H1 H' → H1 a = none → ErAt C (fls.zip ys).reverse H' a → Q (.ref a) H') : wpAny (model X.prog X.w) X.A (call (.ref C) us kw) (EP X pins σ Q) X.xe s1 := by
  obtain ⟨er, hno, hm, few, fI, fd, ps, iC, tI, F1, b1, b2⟩ := c
  obtain ⟨B, newId, initId, tl, eb, hin, _⟩ := er.cls
  obtain ⟨hp, g, dr, tk, os⟩ := s1
  obtain ⟨nm, N, q, bs, bm, hdct, sn, sub, ab, col, dd, k0, k1, k2, k3, k5, hC, hT⟩ := PySem.W.excInit_of (h := hp) I1.kIn hin
  have hsz : hp.objs.size ≤ hp.objs.size + 1 := Nat.le_succ _
  have hn : H1 (hp.objs.size + 1) = none := I1.hok.fresh hsz
  have hq : spEr X.K C fls (.ref (hp.objs.size + 1) :: ys) (upd H1 (hp.objs.size + 1) (exo (hp.objs.size + 1) C none)) (fun v H2 => v = .non ∧ Q (.ref (hp.objs.size + 1)) H2) (fun _ _ _ => False) := by
    refine ⟨_, ys, rfl, hl, er, hno, upd_same, fun dx H' hdx ne hkeep ha hd => ⟨rfl, q1 _ H' (fun b o hbo => ?_) hn (.inr ⟨dx, ha, hd⟩)⟩⟩
    have nb := ne_of_none hbo hn
    exact hkeep b o (by rw [upd_ne nb]; exact hbo) nb
  have kk : ∀ b o, hp.get? b = some o → ((hp.push (PySem.W.kdv_tup us)).push (PySem.HandSPX.excO C hp.objs.size)).get? b = some o := fun b o e => Heap.get?_push_of_some _ (Heap.get?_push_of_some _ e)
  have hget : ((hp.push (PySem.W.kdv_tup us)).push (PySem.HandSPX.excO C hp.objs.size)).get? (hp.objs.size + 1) = some (PySem.HandSPX.excO C hp.objs.size) := by heap_get
  have I2 : Inv X pins σ (upd H1 (hp.objs.size + 1) (exo (hp.objs.size + 1) C none)) ⟨(hp.push (PySem.W.kdv_tup us)).push (PySem.HandSPX.excO C hp.objs.size), g, dr, tk, os⟩ :=
    I1.laid (t' := tk) (a := hp.objs.size + 1) (o := exo (hp.objs.size + 1) C none) (h' := (hp.push (PySem.W.kdv_tup us)).push (PySem.HandSPX.excO C hp.objs.size)) kk hsz (exo_ok hget)
  have r2 : Vals (V.ref (hp.objs.size + 1) :: ys) (Value.ref (hp.objs.size + 1) :: ws) := .cons rfl rv
  have hlen := F1.len _ _ _ _ hq
  have hus : us.length ≤ sizeLine := Nat.le_trans hu (by decide)
  refine wpAny_call (xk_call eb.fb hT hC (PySem.W.looks_findIn I1.kIn iC) (fun self => PySem.W.bind_fn I1.kIn self tI) hus
    (codeAny_mono (F1.run _ X.stack _ _ ⟨Value.ref (hp.objs.size + 1) :: us, kw⟩ (Value.ref (hp.objs.size + 1) :: ws) _ _ (fun _ _ _ => False) ((hr.mono hk).make C us kw) (I2.env0.make C us kw)
      (hb fI fd ps F1 b1 b2 _ _ I2.kIn (by rw [← hlen]; simp)) r2 hq) fun r s' hq' => ?_))
  cases r with
  | error er => exact False.elim hq'
  | ok fl' =>
    cases fl' with
    | ret u =>
      obtain ⟨v, H', I3, rv', ev, q3⟩ := I2.after hq'
      subst ev
      exact ⟨rv', ⟨V.ref (hp.objs.size + 1), H', I3, rfl, q3⟩⟩
    | next => exact False.elim hq'
    | brk => exact False.elim hq'
    | cont => exact False.elim hq'
theorem pe_mkE (c : MkE X.prog X.w X.K X.mg X.base k x C fls) (hr : Room j X.A) (hk : k + 1 ≤ j) (hg : Gl X x) (ha : PA X (e :: es) ta)
    (hdb : (x == ("__debug__" : Str)) = false := by decide) (he : starEach (e :: es) X.env = (false, eval e X.env) :: starEach es X.env := by rfl) (hpl : (backTo pos (starEach es X.env)).any (·.1) = false := by rfl) :
    PE X (.Call (.Name x p) (e :: es) [] pos) (tMkE C fls ta) := by
  refine ⟨fun pins s σ H Q I h => ?_⟩
  refine wpAny_Call_Name_kw (ld_glob I hg c.g ?_ hdb)
  refine PySem.W.callWith_K (h₀ := X.base) I.ok.mod.kin c.er.kC (thn (ha.run pos pins s σ H _ I h) fun us s1 ⟨vs, H1, I1, r1, hl, q1⟩ => ⟨I1.kIn, ?_⟩) he hpl
  refine er_run c hr hk I1 hl ?_ r1 (fun fI fd ps F1 b1 b2 a s hi hln => ?_) q1
  · show us.length ≤ 10
    rw [← Paired.length r1, hl]
    exact Nat.le_trans c.few (by decide)
  · have hl2 : (Value.ref a :: us ++ []).length = ps.length := by
      rw [← hln, List.append_nil, List.length_cons, List.length_cons, List.length_map, Paired.length r1]
    have z := b1 s (Value.ref a :: us) hi hl2
    rw [List.append_nil] at z
    exact z
theorem pe_mkEK (c : MkE X.prog X.w X.K X.mg X.base k x C fls) (hr : Room j X.A) (hk : k + 1 ≤ j) (hg : Gl X x) (hkw : PK X kws tk)
    (hall : (backToKw pos (keywordEach kws X.env)).all (·.1.isSome) = true := by rfl) (hks : (backToKw pos (keywordEach kws X.env)).filterMap (·.1) = fls.reverse := by rfl) (hdb : (x == ("__debug__" : Str)) = false := by decide)
    (hpl : ((backTo pos (starEach [] X.env)).any (·.1) || (backToKw pos (keywordEach kws X.env)).any (·.1.isNone)) = false := by rfl) :
    PE X (.Call (.Name x p) [] kws pos) (tMkEK C fls tk) := by
  refine ⟨fun pins s σ H Q I h => ?_⟩
  refine wpAny_Call_Name_kw (ld_glob I hg c.g ?_ hdb)
  refine PySem.W.callWith_KW0 (h₀ := X.base) I.ok.mod.kin c.er.kC hall ?_ hpl
  refine thn (hkw.run pos pins s σ H _ I h) fun ws s2 ⟨zs, H2, I2, rz, hl, q2⟩ => ⟨I2.kIn, ?_⟩
  rw [hks]
  refine er_run (us := []) (ys := zs.reverse) (ws := ws.reverse) c hr hk I2 (by rw [List.length_reverse]; exact hl) (Nat.zero_le _) (er_vrev rz) (fun fI fd ps F1 b1 b2 a s hi hln => ?_) q2
  exact b2.to s [Value.ref a] ws hi rfl (by rw [← Paired.length rz, List.length_reverse]; exact hl)
end

/-! ### made without anything -/
structure MkN (K : PySem.W.Frag) (mg : Str → Option Value) (x : Str) (C : Addr) : Prop where
  er : ErC K C
  g : mg x = some (.ref C)
  ini : ∃ B newId initId tl, ExB B newId initId tl ∧ PySem.W.excInitIn K C tl newId = true ∧ PySem.W.findIn K (.ref C) "__init__" = some (some (.builtin initId))
def tMk0 (C : Addr) : TE := fun _ H Q => ∀ a H', Same H H' → H a = none → ErAt C [] H' a → Q (.ref a) H'
theorem pe_mk0 {X : Cx} {x : Str} {C : Addr} {p pos : Pos} (c : MkN X.K X.mg x C) (hg : Gl X x) (hdb : (x == ("__debug__" : Str)) = false := by decide) : PE X (.Call (.Name x p) [] [] pos) (tMk0 C) := by
  refine ⟨fun pins s σ H Q I h => ?_⟩
  obtain ⟨B, newId, initId, tl, eb, hin, hi⟩ := c.ini
  refine wpAny_Call_Name_kw (ld_glob I hg c.g ?_ hdb)
  refine PySem.W.callWith_K0 I.kIn c.er.kC ?_
  obtain ⟨hp, g, dr, tk, os⟩ := s
  obtain ⟨nm, N, q, bs, bm, hdct, sn, sub, ab, col, dd, k0, k1, k2, k3, k5, hC, hT⟩ := PySem.W.excInit_of (h := hp) I.kIn hin
  refine PySem.W.call_B eb.fb hT hC (PySem.W.looks_findIn I.kIn hi) (Nat.zero_le _) fun h' k e' t' => ?_
  have I2 : Inv X pins σ (upd H (hp.objs.size + 1) (exo (hp.objs.size + 1) C none)) ⟨h', g, dr, tk, os⟩ :=
    I.laid (t' := tk) (a := hp.objs.size + 1) (o := exo (hp.objs.size + 1) C none) (h' := h') k (Nat.le_succ _) (exo_ok e')
  have hn : H (hp.objs.size + 1) = none := I.hok.fresh (Nat.le_succ _)
  exact ⟨.ref (hp.objs.size + 1), _, I2, rfl, h _ _ (MG.Same.new (Same.refl H) hn) hn (.inl ⟨rfl, upd_same⟩)⟩
/-! ### read, asked -/
def tErG (K : PySem.W.Frag) (f : Str) (te : TE) : TE := fun σ H Q => te σ H fun x H1 => ∃ (a C d : Addr) (fs : List (Str × V)) (v : V), x = .ref a ∧ ErC K C ∧ PySem.W.findIn K (.ref C) f = some none ∧ H1 a = some (exo a C (some d)) ∧ H1 d = some (exd d fs) ∧ fs.lookup f = some v ∧ Q v H1
theorem pe_erG {X : Cx} {e : Expr} {te : TE} {pos : Pos} {n : Str} (he : PE X e te) (hb : attributeBase e n X.env (eval e X.env) = eval e X.env := by rfl) : PE X (.Attribute e n pos) (tErG X.K n te) := by
  refine ⟨fun pins s σ H Q I h => ?_⟩
  refine attr_of hb (thn (he.run pins s σ H _ I h) fun u s1 hh => ?_)
  obtain ⟨x, H1, I1, rx, a, C, d, fs, v, ex, T, hno, ea, ed, l, q⟩ := hh
  subst ex
  obtain rfl : u = Value.ref a := rx
  obtain ⟨t1, ho⟩ := exo_at I1.hok ea
  obtain ⟨mA, hns, hr⟩ := exd_at I1.hok ed
  obtain ⟨od, hod, hl⟩ := lookIn_ns hns
  obtain ⟨u, hu, ru⟩ := RelO.some_of (v := v) (o := mA n) (by rw [← l]; exact hr n)
  have J : PySem.W.InstAt s1.heap a { cls := .ref C, dict := some d, data := .fields #[.ref t1, .none, .none, .none, .bool false, .none] } C (some od) := ⟨ho, rfl, rfl, hod⟩
  exact HandSPX.exc_get I1.kIn J T.ga T.gg T.exC (PySem.W.findObj_own T.hd hno rfl (by rw [hl, hu])) (handed_of ru) ⟨v, H1, I1.tok _, ru, q⟩
theorem pe_erGK {X : Cx} {K : PySem.W.Frag} {e : Expr} {te : TE} {pos : Pos} {n : Str} (he : PE X e te) (hK : X.K = K := by rfl) (hb : attributeBase e n X.env (eval e X.env) = eval e X.env := by rfl) : PE X (.Attribute e n pos) (tErG K n te) := by
  subst hK
  exact pe_erG he hb
def rIsEr (K : PySem.W.Frag) : List V → Hp → VK → Prop := fun xs H Q => ∃ (a C : Addr) (fs : List (Str × V)) (c : V) (cv : Value) (b : Bool), xs = [.ref a, c] ∧ ErC K C ∧ ErAt C fs H a ∧ (∀ u, RelV c u → u = cv) ∧ PySem.W.kitOne K (.ref C) cv = some b ∧ Q (.bl b) H
theorem ErC.kit {K : PySem.W.Frag} {C x : Addr} (T : ErC K C) (ox : Obj) (od : Option Obj) : PySem.W.KitX K (.ref x) (.ref C) (fun h => PySem.W.InstAt h x ox C od) := by
  obtain ⟨cd, hcd, _⟩ := T.look
  exact PySem.W.kitx_exc (by rw [hcd]; rfl) T.ga T.gg T.exC T.ca T.cn T.ct T.mo
theorem call_isEr {X : Cx} : CallR X (.builtin "isinstance") (rIsEr X.K) := by
  intro pins s σ H xs us Q I r h
  obtain ⟨a, C, fs, c, cv, b, rfl, T, ea, hcv, e, q⟩ := h
  cases r with
  | cons rx rr =>
    cases rr with
    | cons rt rr =>
      cases rr
      cases rx
      have ec := hcv _ rt
      subst ec
      rcases ea with ⟨_, ea⟩ | ⟨d, ea, ed⟩
      · obtain ⟨t1, ho⟩ := exo_at I.hok ea
        have J : PySem.W.InstAt s.heap a { cls := .ref C, dict := none, data := .fields #[.ref t1, .none, .none, .none, .bool false, .none] } C none := ⟨ho, rfl, rfl, trivial⟩
        exact PySem.W.kia_one (T.kit _ _) I.kIn J e (fun z => nomatch z) fun tk => ⟨.bl b, H, I.kept (t' := tk) fun _ _ z => z, rfl, q⟩
      · obtain ⟨t1, ho⟩ := exo_at I.hok ea
        obtain ⟨mA, hns, hr⟩ := exd_at I.hok ed
        obtain ⟨od, hod, hl⟩ := lookIn_ns hns
        have J : PySem.W.InstAt s.heap a { cls := .ref C, dict := some d, data := .fields #[.ref t1, .none, .none, .none, .bool false, .none] } C (some od) := ⟨ho, rfl, rfl, hod⟩
        exact PySem.W.kia_one (T.kit _ _) I.kIn J e (fun z => nomatch z) fun tk => ⟨.bl b, H, I.kept (t' := tk) fun _ _ z => z, rfl, q⟩
end MG

/-! comprehensions whose items make objects; operators that may raise, in a try; lcm -/
namespace MG
open PySem PySem.Spec PyProof.Rows L2
/-! ### the heap without one object -/
section
variable {D q : Addr} {H H' : Hp} {o : HO}
theorem hid_upd : hid D (upd H D o) = hid D H := funext fun b => by
  unfold hid
  by_cases e : b = D
  · rw [if_pos e, if_pos e]
  · rw [if_neg e, if_neg e, upd_ne e]
theorem hid_none (h : H D = none) : Same H (hid D H) := fun b u e => by
  rw [hid_ne (ne_of_none e h)]
  exact e
theorem hid_mono (s : Same H H') : Same (hid D H) (hid D H') := fun b u e => by
  unfold hid at *
  by_cases n : b = D
  · rw [if_pos n] at e; cases e
  · rw [if_neg n] at e ⊢
    exact s _ _ e
theorem hid_self : hid D H D = none := if_pos rfl
theorem keep_hid (k : Keep q H H') (n : q ≠ D) : Keep q (hid D H) (hid D H') := ⟨fun b u e m => by
  unfold hid at *
  by_cases z : b = D
  · rw [if_pos z] at e; cases e
  · rw [if_neg z] at e ⊢
    exact k.all _ _ e m, fun x l e => by
  rw [hid_ne n] at e ⊢
  exact k.hd x l e⟩
theorem keep_in (k : Keep q H H') (hD : H D = none) : Keep q H (hid D H') := ⟨fun b u e m => by
  rw [hid_ne (ne_of_none e hD)]
  exact k.all _ _ e m, fun x l e => by
  obtain ⟨l', e'⟩ := k.hd x l e
  exact ⟨l', by rw [hid_ne (ne_of_none e hD)]; exact e'⟩⟩
theorem keep_out (k : Keep q H (hid D H')) : Keep q H H' := k.same (hid_same D H')
end
/-! ### a comprehension by what holds of the items made so far -/
section
variable {J : It} {n : Nat} {G : Hp → Prop} {Y : Nat → Hp → V → Hp → Prop} {g : TG} {te : TE} {vs : List Nat} {σ : L2.St} {H1 : Hp} {D : Addr} {Q : VK}
/-- what a comprehension's list at D asks -/
def Lc (J : It) (g : TG) (tt : TT) (te : TE) (vs : List Nat) (σ : L2.St) (H1 : Hp) (Q : VK) (D : Addr) : Prop :=
  ∃ W : Nat → Nat → Hp → Prop, (∃ m, W 0 m (upd H1 D (.lst []))) ∧ ∀ i m H, W i m H →
    (J.stop i H ∧ Q (.ref D) H) ∨ (J.go i H ∧ ∃ Nx : Hp → Prop, (∀ H', Nx H' → ∃ m', m' < m ∧ W (i + 1) m' H') ∧ ∀ x H', J.yld i H x H' → g x (wipe σ vs) H' fun σ2 H2 => wipe σ2 vs = wipe σ vs ∧ tt σ2 H2 fun b H3 =>
      if b = true then te σ2 H3 fun y H4 => ∃ acc, H4 D = some (.lst acc) ∧ acc.length < sizeLine ∧ Nx (upd H4 D (.lst (acc ++ [y]))) else Nx H3)
def tLcI (wi : TI) (g : TG) (tt : TT) (te : TE) (vs : List Nat) : TE := fun σ H Q => wi σ H fun J H1 => ∀ D, H1 D = none → Lc J g tt te vs σ H1 Q D
theorem pe_lcI {X : Cx} {e : Expr} {wi : TI} {g : TG} {tt : TT} {te : TE} {vs : List Nat} (h : PE X e (tLc wi g tt te vs)) : PE X e (tLcI wi g tt te vs) := h
theorem ps_lcI {X : Cx} {st : Stmt} {wi : TI} {g g2 : TG} {tt : TT} {te : TE} {vs : List Nat} (h : PS X st (tAsg (tLc wi g tt te vs) g2)) : PS X st (tAsg (tLcI wi g tt te vs) g2) := h
/-- two generators -/
def Lc2 (J : It) (g : TG) (tt : TT) (wi1 : TI) (g1 : TG) (tt1 : TT) (te : TE) (vs vs1 : List Nat) (σ : L2.St) (H1 : Hp) (Q : VK) (D : Addr) : Prop :=
  ∃ W : Nat → Nat → Hp → Prop, (∃ m, W 0 m (upd H1 D (.lst []))) ∧ ∀ i m H, W i m H →
  (J.stop i H ∧ Q (.ref D) H) ∨ (J.go i H ∧ ∃ Nx : Hp → Prop, (∀ H', Nx H' → ∃ m', m' < m ∧ W (i + 1) m' H') ∧ ∀ x H', J.yld i H x H' → g x (wipe σ vs) H' fun σ2 H2 => wipe σ2 vs = wipe σ vs ∧ tt σ2 H2 fun b H3 =>
    if b = true then wi1 σ2 H3 fun J1 H4 => ∃ W1 : Nat → Nat → Hp → Prop, (∃ m, W1 0 m H4) ∧ ∀ j k H, W1 j k H →
      (J1.stop j H ∧ Nx H) ∨ (J1.go j H ∧ ∃ Nx1 : Hp → Prop, (∀ H', Nx1 H' → ∃ k', k' < k ∧ W1 (j + 1) k' H') ∧ ∀ x H', J1.yld j H x H' → g1 x (wipe σ2 vs1) H' fun σ3 H5 => wipe σ3 vs1 = wipe σ2 vs1 ∧ tt1 σ3 H5 fun b H6 =>
        if b = true then te σ3 H6 fun y H7 => ∃ acc, H7 D = some (.lst acc) ∧ acc.length < sizeLine ∧ Nx1 (upd H7 D (.lst (acc ++ [y]))) else Nx1 H6)
    else Nx H3)
def tLc2I (wi : TI) (g : TG) (tt : TT) (wi1 : TI) (g1 : TG) (tt1 : TT) (te : TE) (vs vs1 : List Nat) : TE := fun σ H Q => wi σ H fun J H1 => ∀ D, H1 D = none → Lc2 J g tt wi1 g1 tt1 te vs vs1 σ H1 Q D
theorem pe_lc2I {X : Cx} {e : Expr} {wi wi1 : TI} {g g1 : TG} {tt tt1 : TT} {te : TE} {vs vs1 : List Nat} (h : PE X e (tLc2 wi g tt wi1 g1 tt1 te vs vs1)) : PE X e (tLc2I wi g tt wi1 g1 tt1 te vs vs1) := h
theorem lc_inv (w : Walk J n G Y) (hD : H1 D = none) (hn : n ≤ 100000) (Pv : Nat → List V → Hp → Prop) (h0 : Pv 0 [] (hid D H1)) (hG : ∀ i ys H, i ≤ n → Pv i ys (hid D H) → H D = some (.lst ys) → G H)
    (hs : ∀ i x ys H H', i < n → ys.length = i → Pv i ys (hid D H) → H D = some (.lst ys) → Y i H x H' → ∃ σ2, (∀ R : L2.St → Hp → Prop, R σ2 H' → g x (wipe σ vs) H' R) ∧ wipe σ2 vs = wipe σ vs ∧
      tCut te σ2 H' fun y H4 => H4 D = some (.lst ys) ∧ Pv (i + 1) (ys ++ [y]) (hid D H4))
    (k : ∀ ys H, ys.length = n → H D = some (.lst ys) → Pv n ys (hid D H) → Q (.ref D) H) : Lc J g tYes (tCut te) vs σ H1 Q D := by
  refine lc_it (Qd := Q (.ref D)) w (fun i H => ∃ ys : List V, ys.length = i ∧ H D = some (.lst ys) ∧ Pv i ys (hid D H)) ⟨[], rfl, upd_same, by rw [hid_upd]; exact h0⟩ ?_ ?_ ?_
  · rintro i H hi ⟨ys, _, e, p⟩
    exact hG i ys H hi p e
  · rintro i x H H' hi ⟨ys, hl, e, p⟩ y
    obtain ⟨σ2, h1, h2, h3⟩ := hs i x ys H H' hi hl p e y
    refine h1 _ ⟨h2, ?_⟩
    show if (true : Bool) = true then tCut te σ2 H' (fun y H4 => ∃ acc, H4 D = some (.lst acc) ∧ acc.length < sizeLine ∧ ∃ ys : List V, ys.length = i + 1 ∧ (upd H4 D (.lst (acc ++ [y]))) D = some (.lst ys) ∧ Pv (i + 1) ys (hid D (upd H4 D (.lst (acc ++ [y]))))) else ∃ ys : List V, ys.length = i + 1 ∧ H' D = some (.lst ys) ∧ Pv (i + 1) ys (hid D H')
    refine iteT ?_
    refine tCut_mono _ _ _ _ ?_ h3
    rintro v H4 ⟨e4, p4⟩
    refine ⟨ys, e4, Nat.lt_of_le_of_lt (m := 100000) (by omega) (by decide), ys ++ [v], by simp [hl], upd_same, ?_⟩
    rw [hid_upd]
    exact p4
  · rintro H ⟨ys, hl, e, p⟩
    exact k ys H hl e p
/-- with a test -/
theorem lc_filt {tt : TT} (w : Walk J n G Y) (hD : H1 D = none) (hn : n ≤ 100000) (Pv : Nat → List V → Hp → Prop) (h0 : Pv 0 [] (hid D H1)) (hG : ∀ i ys H, i ≤ n → Pv i ys (hid D H) → H D = some (.lst ys) → G H)
    (hs : ∀ i x ys H H', i < n → Pv i ys (hid D H) → H D = some (.lst ys) → Y i H x H' → ∃ σ2 b, (∀ R : L2.St → Hp → Prop, R σ2 H' → g x (wipe σ vs) H' R) ∧ wipe σ2 vs = wipe σ vs ∧ (∀ R : Bool → Hp → Prop, R b H' → tt σ2 H' R) ∧
      (b = false → H' D = some (.lst ys) ∧ Pv (i + 1) ys (hid D H')) ∧ (b = true → tCut te σ2 H' fun y H4 => H4 D = some (.lst ys) ∧ Pv (i + 1) (ys ++ [y]) (hid D H4)))
    (k : ∀ ys H, H D = some (.lst ys) → Pv n ys (hid D H) → Q (.ref D) H) : Lc J g tt (tCut te) vs σ H1 Q D := by
  refine lc_it (Qd := Q (.ref D)) w (fun i H => ∃ ys : List V, ys.length ≤ i ∧ H D = some (.lst ys) ∧ Pv i ys (hid D H)) ⟨[], Nat.le_refl _, upd_same, by rw [hid_upd]; exact h0⟩ ?_ ?_ ?_
  · rintro i H hi ⟨ys, _, e, p⟩
    exact hG i ys H hi p e
  · rintro i x H H' hi ⟨ys, hl, e, p⟩ y
    obtain ⟨σ2, b, h1, h2, h3, h4, h5⟩ := hs i x ys H H' hi p e y
    refine h1 _ ⟨h2, h3 _ ?_⟩
    cases b with
    | false => exact iteF ⟨ys, by omega, (h4 rfl).1, (h4 rfl).2⟩
    | true =>
      refine iteT (tCut_mono _ _ _ _ ?_ (h5 rfl))
      rintro v H4 ⟨e4, p4⟩
      refine ⟨ys, e4, Nat.lt_of_le_of_lt (m := 100000) (by omega) (by decide), ys ++ [v], by simp; omega, upd_same, ?_⟩
      rw [hid_upd]
      exact p4
  · rintro H ⟨ys, hl, e, p⟩
    exact k ys H e p
/-- the items make objects only: R i y tells of the i-th item y -/
theorem lc_same (w : Walk J n G Y) (hD : H1 D = none) (hn : n ≤ 100000) (R : Nat → V → Hp → Prop) (hR : ∀ i y H H', R i y H → Same H H' → R i y H') (hG : ∀ H, Same H1 H → G H) (hY : ∀ i H x H', Y i H x H' → Same H H')
    (hs : ∀ i x H H', i < n → Same H1 H → H' D ≠ none → Y i H x H' → ∃ σ2, (∀ R : L2.St → Hp → Prop, R σ2 H' → g x (wipe σ vs) H' R) ∧ wipe σ2 vs = wipe σ vs ∧
      te σ2 H' fun y H4 => Same H' H4 ∧ ((∃ l, H4 D = some (.lst l)) → R i y (hid D H4)))
    (k : ∀ ys H, ys.length = n → Same H1 H → H D = some (.lst ys) → (∀ i y, ys[i]? = some y → R i y (hid D H)) → Q (.ref D) H) : Lc J g tYes (tCut te) vs σ H1 Q D := by
  refine lc_inv w hD hn (fun i ys H => Same H1 H ∧ ∀ j y, ys[j]? = some y → R j y H) ⟨hid_none hD, fun j y z => by simp at z⟩ (fun i ys H _ p _ => hG H (p.1.trans (hid_same D H))) ?_ fun ys H hl e p => k ys H hl (p.1.trans (hid_same D H)) e p.2
  rintro i x ys H H' hi hl ⟨s1, p⟩ e y
  have sY := hY i H x H' y
  obtain ⟨σ2, h1, h2, h3⟩ := hs i x H H' hi (s1.trans (hid_same D H)) (by rw [sY _ _ e]; exact nofun) y
  refine ⟨σ2, h1, h2, _, h3, ?_⟩
  rintro v H4 ⟨s4, r4⟩
  have e4 := s4 _ _ (sY _ _ e)
  refine ⟨e4, s1.trans (hid_mono (sY.trans s4)), fun j z hz => ?_⟩
  by_cases hj : j < ys.length
  · rw [List.getElem?_append_left hj] at hz
    exact hR _ _ _ _ (p j z hz) (hid_mono (sY.trans s4))
  · rw [List.getElem?_append_right (by omega)] at hz
    have hj0 : j - ys.length = 0 := by
      by_cases c : j - ys.length = 0
      · exact c
      · rw [List.getElem?_eq_none (by simp; omega)] at hz; cases hz
    rw [hj0] at hz
    have ej : j = i := by omega
    obtain rfl : v = z := Option.some.inj hz
    rw [ej]
    exact r4 ⟨_, e4⟩
/-- the items draw from the purse at q: Pq m tells of it behind m items -/
theorem lc_keep {q : Addr} (w : Walk J n G Y) (hD : H1 D = none) (hq : H1 q ≠ none) (hn : n ≤ 100000) (Pq : Nat → Hp → Prop) (up : ∀ m H H', Pq m H → Same H H' → Pq m H') (down : ∀ m H, Keep q H1 H → Pq m H → Pq m (hid D H)) (hq0 : Pq 0 H1)
    (R : Nat → V → Hp → Prop) (hR : ∀ i y H H', R i y H → Same H H' → R i y H') (hG : ∀ H, Keep q H1 H → G H) (hY : ∀ i H x H', Y i H x H' → Same H H')
    (hs : ∀ i x H H', i < n → Keep q H1 H' → Pq i H' → H' D ≠ none → Y i H x H' → ∃ σ2, (∀ R : L2.St → Hp → Prop, R σ2 H' → g x (wipe σ vs) H' R) ∧ wipe σ2 vs = wipe σ vs ∧
      te σ2 H' fun y H4 => Keep q H' H4 ∧ Pq (i + 1) H4 ∧ ((∃ l, H4 D = some (.lst l)) → R i y (hid q (hid D H4))))
    (k : ∀ ys H, ys.length = n → Keep q H1 H → Pq n H → H D = some (.lst ys) → (∀ i y, ys[i]? = some y → R i y (hid q (hid D H))) → Q (.ref D) H) : Lc J g tYes (tCut te) vs σ H1 Q D := by
  have nq : q ≠ D := fun e => hq (e ▸ hD)
  refine lc_inv w hD hn (fun i ys H => Keep q H1 H ∧ Pq i H ∧ ∀ j y, ys[j]? = some y → R j y (hid q H)) ⟨Same.keep (hid_none hD), up _ _ _ hq0 (hid_none hD), fun j y z => by simp at z⟩ (fun i ys H _ p _ => hG H (keep_out p.1)) ?_ fun ys H hl e p => k ys H hl (keep_out p.1) (up _ _ _ p.2.1 (hid_same D H)) e p.2.2
  rintro i x ys H H' hi hl ⟨s1, pq, p⟩ e y
  have sY := hY i H x H' y
  have kY := (keep_out s1).same sY
  obtain ⟨σ2, h1, h2, h3⟩ := hs i x H H' hi kY (up _ _ _ (up _ _ _ pq (hid_same D H)) sY) (by rw [sY _ _ e]; exact nofun) y
  refine ⟨σ2, h1, h2, _, h3, ?_⟩
  rintro v H4 ⟨s4, q4, r4⟩
  have e4 := s4.all _ _ (sY _ _ e) (fun z => nq z.symm)
  have k14 := kY.trans s4
  refine ⟨e4, keep_in k14 hD, down _ _ k14 q4, fun j z hz => ?_⟩
  have ks : Same (hid q (hid D H)) (hid q (hid D H4)) := hid_keep (keep_hid ((Same.keep sY).trans s4) nq)
  by_cases hj : j < ys.length
  · rw [List.getElem?_append_left hj] at hz
    exact hR _ _ _ _ (p j z hz) ks
  · rw [List.getElem?_append_right (by omega)] at hz
    have hj0 : j - ys.length = 0 := by
      by_cases c : j - ys.length = 0
      · exact c
      · rw [List.getElem?_eq_none (by simp; omega)] at hz; cases hz
    rw [hj0] at hz
    have ej : j = i := by omega
    obtain rfl : v = z := Option.some.inj hz
    rw [ej]
    exact r4 ⟨_, e4⟩
end
/-- two generators, tuples within a tuple: all items are as R says -/
theorem lc2_tup {K : PySem.W.Frag} {te : TE} {i1 j1 : Nat} {σ : L2.St} {H1 : Hp} {D a : Addr} {Q : VK} {rs : List V} (R : V → Prop) (ht : H1 a = some (.tup rs)) (hD : H1 D = none) (nij : j1 ≠ i1) (hi1 : i1 < σ.length) (hj1 : j1 < σ.length) (hn : ∀ x ∈ rs, ∃ p xs, x = .ref p ∧ H1 p = some (.tup xs) ∧ xs.length ≤ 1000) (hr : rs.length ≤ 1000)
    (hs : ∀ (i j : Nat) (p : Addr) (xs : List V) (y : V) (H : Hp), rs[i]? = some (.ref p) → H1 p = some (.tup xs) → xs[j]? = some y → Same H1 H → te ((((wipe σ [i1, j1]).set i1 (some (.ref p))).set j1 none).set j1 (some y)) H fun v H4 => Same H H4 ∧ R v)
    (k : ∀ ys H, Same H1 H → H D = some (.lst ys) → (∀ (i : Nat) y, ys[i]? = some y → R y) → Q (.ref D) H) :
    Lc2 (Itt K a) (gName i1) tYes (iTup K (fun σ H Q => ∃ v, σ[i1]? = some (some v) ∧ Q v H)) (gName j1) tYes (tCut te) [i1, j1] [j1] σ H1 Q D := by
  have nD : ∀ {H : Hp} {ys : List V}, Same H1 H → Same H1 (upd H D (.lst ys)) := fun {H ys} s b o e => by
    rw [upd_ne (ne_of_none e hD)]
    exact s _ _ e
  refine ⟨fun i m H => m = rs.length - i ∧ i ≤ rs.length ∧ Same H1 H ∧ ∃ ys : List V, H D = some (.lst ys) ∧ ys.length ≤ i * 1000 ∧ ∀ (j : Nat) y, ys[j]? = some y → R y, ⟨rs.length, by simp, Nat.zero_le _, nD (Same.refl H1), [], upd_same, by simp, fun j y h => by simp at h⟩, ?_⟩
  rintro i m H ⟨rfl, hi, s1, ys, e1, l1, r1⟩
  by_cases hlt : i < rs.length
  · refine .inr ⟨(walk_tup (K := K) (a := a) (xs := rs)).goes i H hlt (SqT.of (s1 _ _ ht)), fun H' => Same H1 H' ∧ ∃ ys : List V, H' D = some (.lst ys) ∧ ys.length ≤ (i + 1) * 1000 ∧ ∀ (j : Nat) y, ys[j]? = some y → R y, fun H' q => ⟨rs.length - (i + 1), by omega, rfl, hlt, q.1, q.2⟩, fun x H' y => ?_⟩
    obtain ⟨rfl, hx⟩ := (walk_tup (K := K) (a := a) (xs := rs)).yields i H x H' hlt (SqT.of (s1 _ _ ht)) y
    obtain ⟨p, xs, rfl, hp, hxl⟩ := hn x (List.mem_of_getElem? hx)
    refine ⟨?_, ?_⟩
    · show ((((σ.set j1 none).set i1 none).set i1 (some (V.ref p))).set j1 none).set i1 none = (σ.set j1 none).set i1 none
      rw [List.set_set, List.set_comm none none nij, List.set_set, List.set_comm none none nij, List.set_set]
    · unfold tYes
      dsimp only
      rw [if_pos rfl]
      have len1 : i1 < (wipe σ [i1, j1]).length := by rw [wipe_length]; exact hi1
      refine ⟨.ref p, by rw [List.getElem?_set_self len1], p, rfl, ⟨xs, SqT.of (s1 _ _ hp)⟩, ?_⟩
      refine ⟨fun j k H => k = xs.length - j ∧ j ≤ xs.length ∧ Same H1 H ∧ ∃ ys : List V, H D = some (.lst ys) ∧ ys.length ≤ i * 1000 + j ∧ ∀ (j : Nat) y, ys[j]? = some y → R y, ⟨xs.length, by simp, Nat.zero_le _, s1, ys, e1, by omega, r1⟩, ?_⟩
      rintro j k H ⟨rfl, hj, s2, zs, e2, l2, r2⟩
      by_cases hlj : j < xs.length
      · refine .inr ⟨(walk_tup (K := K) (a := p) (xs := xs)).goes j H hlj (SqT.of (s2 _ _ hp)), fun H' => Same H1 H' ∧ ∃ ys : List V, H' D = some (.lst ys) ∧ ys.length ≤ i * 1000 + (j + 1) ∧ ∀ (j : Nat) y, ys[j]? = some y → R y, fun H' q => ⟨xs.length - (j + 1), by omega, rfl, hlj, q.1, q.2⟩, fun x H' y => ?_⟩
        obtain ⟨rfl, hy⟩ := (walk_tup (K := K) (a := p) (xs := xs)).yields j H x H' hlj (SqT.of (s2 _ _ hp)) y
        refine ⟨wipe_one, ?_⟩
        rw [if_pos rfl]
        refine ⟨_, hs i j p xs x H' hx hp hy s2, ?_⟩
        rintro v H4 ⟨s4, rv⟩
        refine ⟨zs, s4 _ _ e2, Nat.lt_of_le_of_lt (m := 1000 * 1000 + 1000) ?_ (by decide), nD (s2.trans s4), zs ++ [v], upd_same, by simp; omega, fun m y hm => ?_⟩
        · have : i * 1000 ≤ 1000 * 1000 := Nat.mul_le_mul_right _ (by omega)
          omega
        · by_cases hm1 : m < zs.length
          · rw [List.getElem?_append_left hm1] at hm
            exact r2 m y hm
          · rw [List.getElem?_append_right (by omega)] at hm
            have : y ∈ [v] := List.mem_of_getElem? hm
            have e : y = v := by simpa using this
            rw [e]
            exact rv
      · have e : j = xs.length := by omega
        subst e
        exact .inl ⟨(walk_tup (K := K) (a := p) (xs := xs)).stops H (SqT.of (s2 _ _ hp)), s2, zs, e2, by omega, r2⟩
  · have e : i = rs.length := by omega
    subst e
    exact .inl ⟨(walk_tup (K := K) (a := a) (xs := rs)).stops H (SqT.of (s1 _ _ ht)), k ys H s1 e1 r1⟩
section
variable {j : Nat} {σ : L2.St} {x : V} {H : Hp}
/-- the target is one name -/
theorem tg1 : (∀ R : L2.St → Hp → Prop, R ((σ.set j none).set j (some x)) H → gName j x (wipe σ [j]) H R) ∧ wipe ((σ.set j none).set j (some x)) [j] = wipe σ [j] := ⟨fun _ h => h, wipe_one⟩
end
theorem yat_same {xs : List V} : ∀ i H x H', YAt xs i H x H' → Same H H' := fun i H x H' y => by rw [y.1]; exact Same.refl H
theorem yfn_same {f : Nat → V} : ∀ i H x H', YFn f i H x H' → Same H H' := fun i H x H' y => by rw [y.1]; exact Same.refl H
theorem ypair_same {a b : Nat → Option V} : ∀ i H x H', YPair a b i H x H' → Same H H' := fun i H x H' ⟨T, _, _, _, h, e, _⟩ => by
  rw [e]
  exact MG.Same.new (Same.refl H) h

theorem walk_zipT {K : PySem.W.Frag} {a b : Addr} {xs ys : List V} {n : Nat} (hn : n = min xs.length ys.length) : Walk (RZ.ItzT K a b) n (fun H => SqT K H a xs ∧ SqT K H b ys) (YPair (fun i => xs[i]?) (fun i => ys[i]?)) := by
  subst hn
  refine ⟨fun i _ hi q => ?_, fun _ q => ⟨xs, ys, q.1, q.2, by omega⟩, fun i H v H' _ q y => ?_⟩
  · have h1 : i < xs.length := by omega
    have h2 : i < ys.length := by omega
    exact ⟨xs, ys, xs[i], ys[i], q.1, q.2, by simp [h1], by simp [h2]⟩
  · obtain ⟨T, x, z, h1, h2, h3, h4, h5⟩ := y
    exact ⟨T, x, z, h1, h2, h3, h4 xs q.1, h5 ys q.2⟩
/-- a pair put into two names -/
theorem tg2 {K : PySem.W.Frag} {H : Hp} {T : Addr} {x y : V} {i j : Nat} {σ : L2.St} (e : H T = some (.tup [x, y])) : ∀ R : L2.St → Hp → Prop, R ((σ.set i (some x)).set j (some y)) H → gTup K 2 (gCons (gName i) (gCons (gName j) gNil)) (.ref T) σ H R :=
  fun R h => ⟨T, [x, y], rfl, SqT.of e, rfl, x, [y], rfl, y, [], rfl, rfl, h⟩
/-! ### within a comprehension: the written part by its name -/
theorem pi_listK {X : Cx} {K : PySem.W.Frag} {tg l : Expr} {tl : TE} (h : PE X l tl) (hK : X.K = K := by rfl) : PI X tg l (iList K tl) := hK ▸ pi_list h
theorem pi_tupK {X : Cx} {K : PySem.W.Frag} {tg l : Expr} {tl : TE} (h : PE X l tl) (hK : X.K = K := by rfl) : PI X tg l (iTup K tl) := hK ▸ pi_tup h

/-! ### operators of an own class that may raise, in a try -/
structure OpX (P : Program) (w : World) (K : PySem.W.Frag) (mg : Str → Option Value) (base : Heap) (k : Nat) (C : Addr) (op : Operator) (sp : Sp) : Prop where
  ex : ∃ (f : Addr) (fd : FuncData) (ps : List Str), OpAt K C op f ∧ FnOk P w K mg base (L2N.CX P w) k f fd ps sp ∧ Binds K fd ps []
def tOpX (C : Addr) (sp : Sp) (E : L2.St → XK) (ta tb : TE) : TE := fun σ H Q => ta σ H fun x H1 => tb σ H1 fun y H2 => ∃ a dx fs b dy gs, x = .ref a ∧ H2 a = some (.ins C dx fs) ∧ y = .ref b ∧ H2 b = some (.ins C dy gs) ∧ sp [x, y] H2 Q (E σ)
theorem pe_opX {X : Cx} {W : WX} {k j : Nat} {C : Addr} {op : Operator} {sp : Sp} {a b : Expr} {ta tb : TE} {pos : Pos} (c : OpX X.prog X.w X.K X.mg X.base k C op sp) (hr : Room j X.A) (hk : k ≤ j) (tk : L2N.Takes X W) (ha : PE X a ta) (hb : PE X b tb) :
    PE X (.BinOp a op b pos) (tOpX C sp (WE W) ta tb) := by
  refine ⟨fun pins s σ H Q I h => ?_⟩
  obtain ⟨f, fd, ps, o, F, bd⟩ := c.ex
  refine wpAny_BinOp (binT ha hb I h fun v u s2 x y H2 I2 rx ry q => ?_)
  obtain ⟨a, dx, fs, b, dy, gs, rfl, ea, rfl, eb, hsp⟩ := q
  cases rx
  cases ry
  obtain ⟨mA, J, _⟩ := ins_get I2.hok ea
  obtain ⟨od, J, _⟩ := J.look
  obtain ⟨mB, J', _⟩ := ins_get I2.hok eb
  obtain ⟨od', J', _⟩ := J'.look
  obtain ⟨m, hF⟩ := I2.fr
  refine PySem.W.binop_K hF I2.ok.mod.kin J J'.type o.first o.at_ o.fn ?_
  exact wpAny_mono (run_fnS' (vs := [.ref a, .ref b]) F (hr.mono hk) bd .nil (L2N.passAt tk σ) I2 (.cons rfl (.cons rfl .nil)) (by rw [List.append_nil]; exact hsp))
    (fun _ _ hq => match hq with | ⟨_, _, _, r, _⟩ => back_of r hq) fun _ _ e => e

/-! ### math.lcm -/
def rLcm : List V → Hp → VK → Prop := fun vs H Q => ∃ a b : Int, vs = [.int a, .int b] ∧ a.natAbs < 2 ^ 64 ∧ b.natAbs < 2 ^ 64 ∧ Q (.int ((a.natAbs.lcm b.natAbs : Nat) : Int)) H
theorem cr_lcm {X : Cx} : CallR X (.builtin "math.lcm") rLcm := by
  intro pins s σ H vs us Q I r h
  obtain ⟨a, b, rfl, h1, h2, q⟩ := h
  obtain ⟨t, u, rfl⟩ := Vals.int2 r
  exact PySem.W.mc_lcm h1 h2 fun _ => ⟨.int _, H, I.tok _, ⟨_, rfl⟩, q⟩

theorem pi_zipK {X : Cx} {K : PySem.W.Frag} {e e2 : Expr} {ta : TA} {p pos tpos : Pos} {elts : List Expr} {kk : Nat} (hg : Gl X "zip") (hm : X.mg "zip" = none) (ha : PA X [e, e2] ta)
    (hs : starEach [e, e2] X.env = (false, eval e X.env) :: starEach [e2] X.env := by rfl) (hpl : (backTo pos (starEach [e2] X.env)).any (·.1) = false := by rfl) (hK : X.K = K := by rfl) :
    PI X (.Tuple elts kk tpos) (.Call (.Name "zip" p) [e, e2] [] pos) (RZ.iZipA K ta) := hK ▸ RZ.pi_zipA hg hm ha hs hpl
theorem pi_enumK {X : Cx} {K : PySem.W.Frag} {e : Expr} {ta : TA} {p pos tpos : Pos} {elts : List Expr} {kk : Nat} (hg : Gl X "enumerate") (hm : X.mg "enumerate" = none) (ha : PA X [e] ta) (hs : starEach [e] X.env = [(false, eval e X.env)] := by rfl) (hK : X.K = K := by rfl) :
    PI X (.Tuple elts kk tpos) (.Call (.Name "enumerate" p) [e] [] pos) (iEnum K ta) := hK ▸ pi_enum hg hm ha hs
theorem pg_tupK {X : Cx} {K : PySem.W.Frag} {es : List Expr} {k : Nat} {t : TGs} {n : Nat} {pos : Pos} (hc : X.calm = true) (h : PGs X es t)
    (hn : (assignEach es X.env).length = n := by rfl) (hst : (assignEach es X.env).findIdx? (·.1) = none := by rfl) (hK : X.K = K := by rfl) : PG X (.Tuple es k pos) (gTup K n t) := hK ▸ pg_tup hc h hn hst
theorem pe_fldK {X : Cx} {K : PySem.W.Frag} {e : Expr} {f : Str} {ta : TE} {pos : Pos} (he : PE X e ta) (hb : attributeBase e f X.env (eval e X.env) = eval e X.env) (hK : X.K = K := by rfl) : PE X (.Attribute e f pos) (tFld K ta f) := hK ▸ pe_fld he hb
theorem pt_truthK {X : Cx} {K : PySem.W.Frag} {a : Expr} {ta : TE} (ha : PE X a ta) (he : ∀ whole, isTrue a X.env whole = (do let v ← whole; standAt a.pos; holding [v] (truthy v))) (hK : X.K = K := by rfl) :
    PT X a (fun σ H Q => ta σ H fun x H' => ∃ k, TruV K x H' k ∧ Q k H') := hK ▸ pt_truth ha he
theorem call_len_seqK {X : Cx} {K : PySem.W.Frag} (hK : X.K = K := by rfl) : CallR X (.builtin "len") (fun xs H Q => ∃ p ys, xs = [.ref p] ∧ (SqL K H p ys ∨ SqT K H p ys) ∧ Q (.int ys.length) H) := hK ▸ call_len_seq
theorem call_tuple_ofK {X : Cx} {K : PySem.W.Frag} (hK : X.K = K := by rfl) : CallR X (.type "tuple") (fun xs H Q => ∃ p ys, xs = [.ref p] ∧ ((SqL K H p ys ∧ ∀ l, H l = none → Q (.ref l) (upd H l (.tup ys))) ∨ (SqT K H p ys ∧ Q (.ref p) H))) := hK ▸ call_tuple_of
theorem cr_sumK {X : Cx} {K : PySem.W.Frag} (hc : X.calm = true) (hK : X.K = K := by rfl) : CallR X (.builtin "sum") (rSum K) := hK ▸ cr_sum hc
/-! ### an error class with its own __init__: two fields -/
def spXi2 (K : PySem.W.Frag) (C : Addr) (fl gl : Str) : Sp := fun vs H Q _ => ∃ (a : Addr) (y z : V), vs = [.ref a, y, z] ∧ ErC K C ∧ PySem.W.findIn K (.ref C) fl = some none ∧ PySem.W.findIn K (.ref C) gl = some none ∧ H a = some (exo a C none) ∧
  ∀ dx, H dx = none → dx ≠ a → Q .non (upd (upd H dx (exd dx [(gl, z), (fl, y)])) a (exo a C (some dx)))
/-- such a class, as those know it who raise it -/
structure ExcF2 (P : Program) (w : World) (K : PySem.W.Frag) (mg : Str → Option Value) (base : Heap) (k : Nat) (x : Str) (C : Addr) (fl gl : Str) : Prop where
  oex : ErC K C
  xf : XfC K C
  no1 : PySem.W.findIn K (.ref C) fl = some none
  no2 : PySem.W.findIn K (.ref C) gl = some none
  g : mg x = some (.ref C)
  te : PySem.W.exmOne K (.ref C) (.ref C) = some true
  ex : ∃ (fI : Addr) (fd : FuncData) (ps : List Str), PySem.W.findIn K (.ref C) "__init__" = some (some (.ref fI)) ∧ PySem.W.typeIn K (.ref fI) = some (.type "function") ∧ FnOk P w K mg base CX0 k fI fd ps (spXi2 K C fl gl) ∧ Binds K fd ps []
section
variable {X : Cx} {k j : Nat} {C : Addr} {fl gl x : Str} {p pos : Pos} {e : Expr} {es : List Expr} {ta : TA}
/-- the error: its own dict d, new, holds the field -/
def tRx2 (C : Addr) (fl gl : Str) (ta : TA) : L2.St → Hp → XK → Prop := fun σ H Q => ta σ H fun vs H1 => ∃ y z, vs = [y, z] ∧ ∀ d H', Same H1 H' → H1 d = none → H' d = some (.xd [(gl, z), (fl, y)]) → Q (.ref C) (some d) H'
theorem pmk_x2 (T : ExcF2 X.prog X.w X.K X.mg X.base k x C fl gl) (hr : Room j X.A) (hk : k + 1 ≤ j) (hg : Gl X x) (ha : PA X (e :: es) ta)
    (hdb : (x == ("__debug__" : Str)) = false := by decide) (he : starEach (e :: es) X.env = (false, eval e X.env) :: starEach es X.env := by rfl) (hpl : (backTo pos (starEach es X.env)).any (·.1) = false := by rfl) :
    L2N.PMk X (.Call (.Name x p) (e :: es) [] pos) (tRx2 C fl gl ta) := by
  intro pins s σ H Q I h
  obtain ⟨oex, xf, hno, hno2, hm, te, fI, fd, ps, iC, tI, F1, hb⟩ := T
  obtain ⟨B, newId, initId, tl, eb, hin, _⟩ := oex.cls
  refine wpAny_Call_Name_kw (ld_glob I hg hm ?_ hdb)
  refine PySem.W.callWith_K (h₀ := X.base) I.ok.mod.kin oex.kC (thn (ha.run pos pins s σ H _ I h) fun us s1 ⟨vs, H1, I1, r1, y, z, ev, q1⟩ => ⟨I1.kIn, ?_⟩) he hpl
  subst ev
  show wpAny _ _ (call (.ref C) us) _ _ _
  obtain ⟨hp, g, dr, tk, os⟩ := s1
  obtain ⟨nm, N, q, bs, bm, hdct, sn, sub, ab, col, dd, k0, k1, k2, k3, k5, hC, hT⟩ := PySem.W.excInit_of (h := hp) I1.kIn hin
  have hsz : hp.objs.size ≤ hp.objs.size + 1 := Nat.le_succ _
  have hn : H1 (hp.objs.size + 1) = none := I1.hok.fresh hsz
  have hq : spXi2 X.K C fl gl [.ref (hp.objs.size + 1), y, z] (upd H1 (hp.objs.size + 1) (exo (hp.objs.size + 1) C none))
      (fun v H2 => v = .non ∧ ∃ d, H2 (hp.objs.size + 1) = some (exo (hp.objs.size + 1) C (some d)) ∧ H2 d = some (exd d [(gl, z), (fl, y)]) ∧ H1 d = none ∧ Q (.ref C) (some d) (upd (del H2 (hp.objs.size + 1)) d (.xd [(gl, z), (fl, y)]))) (fun _ _ _ => False) := by
    refine ⟨_, y, z, rfl, oex, hno, hno2, upd_same, fun dx hdx ne => ⟨rfl, dx, upd_same, ?_, ?_, q1 dx _ ?_ ?_ ?_⟩⟩
    · rw [upd_ne ne, upd_same]
    · rw [upd_ne ne] at hdx
      exact hdx
    · intro b o hbo
      rw [upd_ne ne] at hdx
      rw [upd_ne (ne_of_none hbo hdx), del_ne (ne_of_none hbo hn), upd_ne (ne_of_none hbo hn), upd_ne (ne_of_none hbo hdx), upd_ne (ne_of_none hbo hn)]
      exact hbo
    · rw [upd_ne ne] at hdx
      exact hdx
    · exact upd_same
  have kk : ∀ b o, hp.get? b = some o → ((hp.push (PySem.W.kdv_tup us)).push (PySem.HandSPX.excO C hp.objs.size)).get? b = some o := fun b o e => Heap.get?_push_of_some _ (Heap.get?_push_of_some _ e)
  have hget : ((hp.push (PySem.W.kdv_tup us)).push (PySem.HandSPX.excO C hp.objs.size)).get? (hp.objs.size + 1) = some (PySem.HandSPX.excO C hp.objs.size) := by heap_get
  have I2 : Inv X pins σ (upd H1 (hp.objs.size + 1) (exo (hp.objs.size + 1) C none)) ⟨(hp.push (PySem.W.kdv_tup us)).push (PySem.HandSPX.excO C hp.objs.size), g, dr, tk, os⟩ :=
    I1.laid (t' := tk) (a := hp.objs.size + 1) (o := exo (hp.objs.size + 1) C none) (h' := (hp.push (PySem.W.kdv_tup us)).push (PySem.HandSPX.excO C hp.objs.size)) kk hsz (exo_ok hget)
  have r2 : Vals (V.ref (hp.objs.size + 1) :: [y, z]) (Value.ref (hp.objs.size + 1) :: us) := .cons rfl r1
  have hl : (Value.ref (hp.objs.size + 1) :: us ++ []).length = ps.length := by
    have e := r2.length
    have e2 := F1.len _ _ _ _ hq
    rw [List.append_nil, ← e]
    exact e2
  have hus : us.length ≤ sizeLine := by
    rw [← Paired.length r1, sizeLine_eq]
    show 2 ≤ _
    omega
  have b2 := hb _ (Value.ref (hp.objs.size + 1) :: us) I2.kIn hl
  rw [List.append_nil] at b2
  refine wpAny_call (xk_call eb.fb hT hC (PySem.W.looks_findIn I1.kIn iC) (fun self => PySem.W.bind_fn I1.kIn self tI) hus
    (codeAny_mono (F1.run _ X.stack _ _ ⟨Value.ref (hp.objs.size + 1) :: us, []⟩ (Value.ref (hp.objs.size + 1) :: us) _ _ (fun _ _ _ => False) ((hr.mono hk).make C us []) (I2.env0.make C us []) b2 r2 hq) fun r s' hq' => ?_))
  cases r with
  | error er => exact False.elim hq'
  | ok fl' =>
    cases fl' with
    | ret u =>
      obtain ⟨v, H2, os2, bare2, un2, hok2, rv, ev, d, ea, ed, hd1, q2⟩ := hq'
      subst ev
      obtain ⟨h2, g2, d2, t2, os'⟩ := s'
      obtain ⟨t0, G, J, kG, ge, hoe, na⟩ := mk_end0 (d2 := d2) (t2 := t2) I1 hsz kk un2 hok2 os2 bare2 ea ed hd1
      exact ⟨rv, ⟨hp.objs.size + 1, _, _, ⟨G, g2, d2, t2, os'⟩, _, .ref C, some d, rfl, J, kG, ge, hoe, ⟨rfl, rfl, fun vs hv => by cases hv; rfl⟩, rfl, rfl, na, rfl, bare2, raises_own oex.exC oex.tyC, q2⟩⟩
    | next => exact False.elim hq'
    | brk => exact False.elim hq'
    | cont => exact False.elim hq'
theorem ps_raise2 {W : WX} {pos2 : Pos} (T : ExcF2 X.prog X.w X.K X.mg X.base k x C fl gl) (hr : Room j X.A) (hk : k + 1 ≤ j) (hc : X.calm = true) (tk : L2N.Takes X W) (hg : Gl X x) (ha : PA X (e :: es) ta)
    (hdb : (x == ("__debug__" : Str)) = false := by decide) (he : starEach (e :: es) X.env = (false, eval e X.env) :: starEach es X.env := by rfl) (hpl : (backTo pos (starEach es X.env)).any (·.1) = false := by rfl) :
    PS X (.Raise (some (.Call (.Name x p) (e :: es) [] pos)) none pos2) (fun _ σ H => tRx2 C fl gl ta σ H fun cls d H' => W cls d σ H') := L2N.ps_raise hc tk (pmk_x2 T hr hk hg ha hdb he hpl)
end
end MG

/-! an operator with an instance of another class behind; without a try -/
namespace PySem.W
open PyProof.Rows
section
variable {prog : Program} {w : World} {A : Around} {E : Value → Shared → Prop} {s : Shared} {K : Frag} {x C C2 L f f2 : Addr} {h₀ : Heap} {m : Str → Option Value} {ox : Obj} {od : Option Obj}
theorem mg_binC {op : Operator} {b : Value} {Q : Value → Shared → Prop} (F : Fr h₀ L s.heap m) (X₀ : K.In h₀) (I : InstAt s.heap x ox C od) (hb : Looks (model prog w) s.heap (typeOf b) (.ref C2)) (hc : selfFirst K C = true) (hc2 : selfFirst K C2 = true)
    (hs : findIn K (.ref C) (PySem.dunder op.info.2) = some (some (.ref f))) (hf : isFn K (.ref f) = true) (hr : findIn K (.ref C) (dunderR op.info.2) = some none)
    (hs2 : findIn K (.ref C2) (PySem.dunder op.info.2) = some (some (.ref f2))) (hr2 : findIn K (.ref C2) (dunderR op.info.2) = some none) (hsub : subIn K (.ref C2) (.ref C) = some false) (hne : C ≠ C2)
    (h : wpAny (model prog w) A (call (.ref f) [.ref x, b]) (CmpBack Q) E s) : wpAny (model prog w) A (binaryOp op (.ref x) b) Q E s := by
  have X := X₀.keeps F.keep
  obtain ⟨cd, rest, hcd, hm⟩ := ksp_first hc
  obtain ⟨cd2, rest2, hcd2, hm2⟩ := ksp_first hc2
  rcases hi : op.info with ⟨sym, nm'⟩
  rw [hi] at hs hr hs2 hr2
  dsimp only at hs hr hs2 hr2
  have one := ksp_try X I hs hf h
  obtain ⟨hh, g, d, tt, os⟩ := s
  have L1 : Looks (model prog w) hh (typeOf (.ref x)) (.ref C) := I.type
  have L2 : Looks (model prog w) hh (typeOf b) (.ref C2) := hb
  have L3 : Looks (model prog w) hh (fillsNumberSlot (.ref C) nm') true := fills_K X hcd hm hs
  have L4 : Looks (model prog w) hh (fillsNumberSlot (.ref C2) nm') true := fills_K X hcd2 hm2 hs2
  have L5 : Looks (model prog w) hh (isSubtype (.ref C2) (.ref C)) false := looks_subIn X hsub
  have L6 : Looks (model prog w) hh (numberSlotInPython (.ref C) nm') true := ksp_inPy X hs hr (.inl rfl)
  have L7 : Looks (model prog w) hh (numberSlotInPython (.ref C2) nm') true := ksp_inPy X hs2 hr2 (.inl rfl)
  have hne' : (Value.ref C == Value.ref C2) = false := Bool.eq_false_iff.mpr fun q => hne (by cases beq_iff_eq.mp q; rfl)
  simp only [binaryOp, hi]
  refine wpAny_holding (wpAny_bind ?_)
  unfold binaryOp1
  refine wpAny_bind (L1.at (wpAny_bind (L2.at (wpAny_bind (L3.at ?_)))))
  simp only [hne', Bool.false_eq_true, if_false]
  ksp_lk
  refine wpAny_mono one (fun r s' hr' => ?_) fun _ _ e => e
  obtain ⟨v, rfl, hq⟩ := hr'
  ksp_lk
  exact hq
end
end PySem.W
namespace MG
open PySem PySem.Spec PyProof.Rows L2
/-- what the top says of an operator of C with an instance of C2 behind -/
structure OpTwo (K : PySem.W.Frag) (C C2 : Addr) (op : Operator) : Prop where
  first : PySem.W.selfFirst K C2 = true
  at2 : ∃ f2, PySem.W.findIn K (.ref C2) (PySem.dunder op.info.2) = some (some (.ref f2))
  ref2 : PySem.W.findIn K (.ref C2) (dunderR op.info.2) = some none
  sub : PySem.W.subIn K (.ref C2) (.ref C) = some false
  ne : C ≠ C2
/-- x op y, x of the class at C, y of it, of that at C2, or an int -/
def rOwn2 (C C2 : Addr) (sp : Sp) (E : XK) : R2 := fun x y H Q => ∃ a dx fs, x = .ref a ∧ H a = some (.ins C dx fs) ∧
  ((∃ b dy gs, y = .ref b ∧ H b = some (.ins C dy gs)) ∨ (∃ b dy gs, y = .ref b ∧ H b = some (.ins C2 dy gs)) ∨ ∃ i, y = .int i) ∧ sp [x, y] H Q E
theorem op_two {X : Cx} {CX : CXT} {k : Nat} {C C2 f : Addr} {op : Operator} {fd : FuncData} {ps : List Str} {sp : Sp} {E : XK}
    (o : OpAt X.K C op f) (oi : OpInt X.K C op) (o2 : OpTwo X.K C C2 op) (F : FnOk X.prog X.w X.K X.mg X.base CX k f fd ps sp) (hr : Room k X.A)
    (hb : Binds X.K fd ps []) (hx : Passes CX X E) : OpR X (binaryOp op) (rOwn2 C C2 sp E) := by
  intro pins s σ H x y v u Q I rx ry h
  obtain ⟨a, dx, fs, rfl, ha, hy, hsp⟩ := h
  rcases hy with hy | ⟨b, dy, gs, rfl, hb'⟩ | hy
  · exact op_own o oi F hr hb hx pins s σ H _ y v u Q I rx ry ⟨a, dx, fs, rfl, ha, .inl hy, hsp⟩
  · cases rx
    cases ry
    obtain ⟨mA, J, _⟩ := ins_get I.hok ha
    obtain ⟨od, J, _⟩ := J.look
    obtain ⟨m, hF⟩ := I.fr
    obtain ⟨mB, J', _⟩ := ins_get I.hok hb'
    obtain ⟨od', J', _⟩ := J'.look
    obtain ⟨f2, h2⟩ := o2.at2
    refine PySem.W.mg_binC hF I.ok.mod.kin J J'.type o.first o2.first o.at_ o.fn o.ref h2 o2.ref2 o2.sub o2.ne ?_
    exact wpAny_mono (run_fn (vs := [.ref a, .ref b]) F hr hb .nil hx I (.cons rfl (.cons rfl .nil)) (by rw [List.append_nil]; exact hsp))
      (fun _ _ hq => match hq with | ⟨_, _, _, r, _⟩ => back_of r hq) fun _ _ e => e
  · exact op_own o oi F hr hb hx pins s σ H _ y v u Q I rx ry ⟨a, dx, fs, rfl, ha, .inr hy, hsp⟩
theorem passX {X : Cx} : Passes (L2N.CX X.prog X.w) X (fun _ _ _ => False) := fun _ σ _ _ _ _ I h => passF (σ := σ) _ _ _ _ _ I h
/-- an operator that may raise, where it doesn't -/
structure OpXF (P : Program) (w : World) (K : PySem.W.Frag) (mg : Str → Option Value) (base : Heap) (k : Nat) (C C2 : Addr) (op : Operator) (sp : Sp) : Prop where
  ex : ∃ (f : Addr) (fd : FuncData) (ps : List Str), OpAt K C op f ∧ OpInt K C op ∧ OpTwo K C C2 op ∧ FnOk P w K mg base (L2N.CX P w) k f fd ps sp ∧ Binds K fd ps []
theorem op_xf {X : Cx} {k j : Nat} {C C2 : Addr} {op : Operator} {sp : Sp} (o : OpXF X.prog X.w X.K X.mg X.base k C C2 op sp) (hr : Room j X.A) (hk : k ≤ j) : OpR X (binaryOp op) (rOwn2 C C2 sp E0) := by
  obtain ⟨f, fd, ps, a, i, t, F, b⟩ := o.ex
  exact op_two a i t F (hr.mono hk) b passX
theorem OpXF.x {P : Program} {w : World} {K : PySem.W.Frag} {mg : Str → Option Value} {base : Heap} {k : Nat} {C C2 : Addr} {op : Operator} {sp : Sp} (o : OpXF P w K mg base k C C2 op sp) : OpX P w K mg base k C op sp := by
  obtain ⟨f, fd, ps, a, i, t, F, b⟩ := o.ex
  exact ⟨f, fd, ps, a, F, b⟩
end MG

/-! data of lists of lists; sums -/
namespace MG
open PySem PySem.Spec PyProof.Rows L2
section
variable {K : PySem.W.Frag} {H H' : Hp}
theorem seqL_same {a : Addr} {xs : List V} (s : Same H H') (h : SqL K H a xs) : SqL K H' a xs := s.seq h
mutual
theorem Dp.same (s : Same H H') : ∀ {v : V} {d : PyData}, Dp K H v d → Dp K H' v d
  | _, _, .non => .non
  | _, _, .bl b => .bl b
  | _, _, .int i => .int i
  | _, _, .str x => .str x
  | _, _, .lst h a => .lst (s.seq h) (DpAll.same s a)
  | _, _, .tup h a => .tup (same_tup s h) (DpAll.same s a)
theorem DpAll.same (s : Same H H') : ∀ {vs : List V} {ds : List PyData}, DpAll K H vs ds → DpAll K H' vs ds
  | _, _, .nil => .nil
  | _, _, .cons h t => .cons (Dp.same s h) (DpAll.same s t)
end
theorem dpAll_of : ∀ {xs : List V} {ds : List PyData}, ds.length = xs.length → (∀ (i : Nat) (x : V) (d : PyData), xs[i]? = some x → ds[i]? = some d → Dp K H x d) → DpAll K H xs ds
  | [], [], _, _ => .nil
  | [], _ :: _, h, _ => by simp at h
  | _ :: _, [], h, _ => by simp at h
  | x :: xs, d :: ds, h, p => .cons (p 0 x d rfl rfl) (dpAll_of (by simpa using h) fun i y e h1 h2 => p (i + 1) y e (by simpa using h1) (by simpa using h2))
end
theorem showAll_of : ∀ {ds : List PyData}, (∀ d ∈ ds, d.showable = true) → PyData.showableAll ds = true
  | [], _ => by simp [PyData.showableAll]
  | d :: ds, h => by
    rw [PyData.showableAll, h d (by simp), showAll_of fun e he => h e (by simp [he])]
    rfl
theorem dictAll_of : ∀ {ds : List PyData}, (∀ d ∈ ds, d.hasDict = false) → PyData.hasDictAll ds = false
  | [], _ => by simp [PyData.hasDictAll]
  | d :: ds, h => by
    rw [PyData.hasDictAll, h d (by simp), dictAll_of fun e he => h e (by simp [he])]
    rfl
theorem shownAll_map : ∀ (ds : List PyData), PyData.shownAll ds = ds.map PyData.shown
  | [] => by simp [PyData.shownAll]
  | d :: ds => by rw [PyData.shownAll, shownAll_map ds]; rfl
theorem piled_le {n : Nat} : ∀ {ts : List Str}, (∀ t ∈ ts, t.length ≤ n) → piled ts ≤ (n + 2) * ts.length
  | [], _ => by simp [piled]
  | t :: ts, h => by
    have h1 := h t (by simp)
    have h2 : piled ts ≤ (n + 2) * ts.length := piled_le fun e he => h e (List.mem_cons_of_mem _ he)
    rw [piled_cons, List.length_cons, Nat.mul_succ]
    omega
theorem listText_le {ts : List Str} : (listText ts).length ≤ piled ts + 2 := by
  cases ts with
  | nil => decide
  | cons t ts =>
    unfold listText
    have h := textFrom_length_pos ts 1 (("[" : Str) ++ (if 0 > 0 then ", " else "" : String) ++ t) (by decide)
    have e : textFrom 0 "[" (t :: ts) = textFrom 1 (("[" : Str) ++ (if 0 > 0 then ", " else "" : String) ++ t) ts := rfl
    rw [e, strLen_append, h, strLen_append, strLen_append, piled_cons]
    have h1 : (("[" : Str)).length = 1 := rfl
    have h2 : (("]" : Str)).length = 1 := rfl
    have h3 : (Str.ofString (if 0 > 0 then ", " else "" : String)).length = 0 := rfl
    omega
theorem listText_bd {ts : List Str} {n : Nat} (h : ∀ t ∈ ts, t.length ≤ n) : (listText ts).length ≤ (n + 2) * ts.length + 2 := Nat.le_trans listText_le (Nat.add_le_add_right (piled_le h) 2)
/-- what repr asks of data -/
structure Okd (d : PyData) (n k : Nat) : Prop where
  sh : d.showable = true
  nd : d.hasDict = false
  dp : d.depth ≤ k
  ln : d.shown.length ≤ n
theorem depthAll_le {k : Nat} : ∀ {ds : List PyData}, (∀ d ∈ ds, d.depth ≤ k) → PyData.depthAll ds ≤ k
  | [], _ => by simp [PyData.depthAll]
  | d :: ds, h => by
    have h1 := h d (by simp)
    have h2 : PyData.depthAll ds ≤ k := depthAll_le fun e he => h e (List.mem_cons_of_mem _ he)
    rw [PyData.depthAll]
    omega
theorem okd_list {ds : List PyData} {n k m : Nat} (h : ∀ d ∈ ds, Okd d n k) (hm : ds.length ≤ m) : Okd (.list ds) ((n + 2) * m + 2) (k + 1) := by
  refine ⟨?_, ?_, ?_, ?_⟩
  · rw [PyData.showable]; exact showAll_of fun d hd => (h d hd).sh
  · rw [PyData.hasDict]; exact dictAll_of fun d hd => (h d hd).nd
  · have := depthAll_le (k := k) fun d hd => (h d hd).dp
    rw [PyData.depth]
    omega
  · rw [PyData.shown, shownAll_map]
    refine Nat.le_trans (listText_bd (n := n) fun t ht => ?_) ?_
    · obtain ⟨d, hd, rfl⟩ := List.mem_map.mp ht
      exact (h d hd).ln
    · rw [List.length_map]
      exact Nat.add_le_add_right (Nat.mul_le_mul_left _ hm) 2
theorem okd_pair {a b : Int} (ha : Sm a) (hb : Sm b) : Okd (.tuple [.int a, .int b]) 4000 1 := by
  refine ⟨?_, rfl, ?_, shw_len ha hb⟩
  · simp [PyData.showable, PyData.showableAll, log_sm ha, log_sm hb]
  · simp [PyData.depth, PyData.depthAll]
theorem Okd.rep {K : PySem.W.Frag} {H : Hp} {x : V} {d : PyData} {n k : Nat} {Q : VK} (o : Okd d n k) (h : Dp K H x d) (hk : k ≤ 60) (hn : n ≤ sizeLine) (q : Q (.str d.shown) H) : rRepr K [x] H Q :=
  ⟨x, d, rfl, h, o.sh, o.nd, Nat.le_trans o.dp hk, Nat.le_trans o.ln hn, q⟩
/-- numerators and denominators of a row, of a table -/
def prD (p : Rat) : PyData := .tuple [.int p.num, .int p.den]
def rowD (c : Nat) (g : Nat → Rat) : PyData := .list ((List.range c).map fun j => prD (g j))
def tabD (r c : Nat) (f : Nat → Nat → Rat) : PyData := .list ((List.range r).map fun i => rowD c (f i))
theorem tabD_congr {r c : Nat} {f g : Nat → Nat → Rat} (h : ∀ i j, i < r → j < c → f i j = g i j) : tabD r c f = tabD r c g := by
  unfold tabD
  congr 1
  refine List.map_congr_left fun i hi => ?_
  unfold rowD
  congr 1
  refine List.map_congr_left fun j hj => ?_
  rw [h i j (List.mem_range.mp hi) (List.mem_range.mp hj)]
theorem okd_tab {r c m n k : Nat} {f : Nat → Nat → Rat} (hr : r ≤ m) (hc : c ≤ n) (hk : k ≤ 400) (h : ∀ i j, i < r → j < c → Bd (f i j) k) : Okd (tabD r c f) (((4000 + 2) * n + 2 + 2) * m + 2) 3 := by
  refine okd_list (fun d hd => ?_) (by simpa using hr)
  obtain ⟨i, hi, rfl⟩ := List.mem_map.mp hd
  refine okd_list (fun e he => ?_) (by simpa using hc)
  obtain ⟨j, hj, rfl⟩ := List.mem_map.mp he
  have b := h i j (List.mem_range.mp hi) (List.mem_range.mp hj)
  exact okd_pair (b.num hk) (b.den hk)
theorem range_get {α : Type} {n : Nat} {f : Nat → α} {i : Nat} {x : α} (h : ((List.range n).map f)[i]? = some x) : i < n ∧ x = f i := by
  rw [List.getElem?_map] at h
  by_cases hi : i < n
  · rw [List.getElem?_range hi] at h
    exact ⟨hi, (Option.some.inj h).symm⟩
  · rw [List.getElem?_eq_none (by simpa using hi)] at h; cases h
theorem dp_row {K : PySem.W.Frag} {H : Hp} {p : Addr} {xs : List V} {c : Nat} {d : Nat → PyData} (e : H p = some (.lst xs)) (hl : xs.length = c) (h : ∀ j y, xs[j]? = some y → Dp K H y (d j)) : Dp K H (.ref p) (.list ((List.range c).map d)) :=
  .lst (SqL.of e) (dpAll_of (by simp [hl]) fun i x z h1 h2 => by
    obtain ⟨_, rfl⟩ := range_get h2
    exact h i x h1)
/-! ### sums -/
def sumQ : Nat → (Nat → Rat) → Rat
  | 0, _ => 0
  | n + 1, f => sumQ n f + f n
def smZ : Nat → (Nat → Int) → Int
  | 0, _ => 0
  | n + 1, f => smZ n f + f n
theorem smZ_list (n : Nat) (f : Nat → Int) : ((List.range n).map f).sum = smZ n f := by
  induction n with
  | zero => rfl
  | succ n ih =>
    rw [List.range_succ, List.map_append, List.sum_append, ih]
    simp [smZ]
theorem sumQ_congr {n : Nat} {f g : Nat → Rat} (h : ∀ i, i < n → f i = g i) : sumQ n f = sumQ n g := by
  induction n with
  | zero => rfl
  | succ n ih => rw [sumQ, sumQ, ih fun i hi => h i (by omega), h n (by omega)]
theorem smZ_congr {n : Nat} {f g : Nat → Int} (h : ∀ i, i < n → f i = g i) : smZ n f = smZ n g := by
  induction n with
  | zero => rfl
  | succ n ih => rw [smZ, smZ, ih fun i hi => h i (by omega), h n (by omega)]
theorem sumQ_add (n : Nat) (f g : Nat → Rat) : sumQ n (fun i => f i + g i) = sumQ n f + sumQ n g := by
  induction n with
  | zero => exact (Rat.add_zero 0).symm
  | succ n ih => rw [sumQ, sumQ, sumQ, ih]; grind
theorem sumQ_mul (n : Nat) (a : Rat) (f : Nat → Rat) : sumQ n (fun i => a * f i) = a * sumQ n f := by
  induction n with
  | zero => simp [sumQ]
  | succ n ih => rw [sumQ, sumQ, ih]; grind
theorem sumQ_mulr (n : Nat) (a : Rat) (f : Nat → Rat) : sumQ n (fun i => f i * a) = sumQ n f * a := by
  induction n with
  | zero => simp [sumQ]
  | succ n ih => rw [sumQ, sumQ, ih]; grind
theorem sumQ_zero (n : Nat) : sumQ n (fun _ => 0) = 0 := by
  induction n with
  | zero => rfl
  | succ n ih => rw [sumQ, ih]; grind
theorem sumQ_swap (m n : Nat) (f : Nat → Nat → Rat) : sumQ m (fun i => sumQ n (f i)) = sumQ n (fun j => sumQ m fun i => f i j) := by
  induction m with
  | zero => simp only [sumQ]; rw [sumQ_zero]
  | succ m ih => rw [sumQ, ih, ← sumQ_add]; exact sumQ_congr fun i _ => rfl
/-- the product of tables; n: what both have in common -/
def mulQ (n : Nat) (f g : Nat → Nat → Rat) : Nat → Nat → Rat := fun i k => sumQ n fun j => f i j * g j k
theorem mulQ_assoc (m n : Nat) (f g h : Nat → Nat → Rat) (i l : Nat) : mulQ n (mulQ m f g) h i l = mulQ m f (mulQ n g h) i l := by
  unfold mulQ
  have e1 : (fun k => sumQ m (fun j => f i j * g j k) * h k l) = fun k => sumQ m fun j => f i j * g j k * h k l := by
    funext k; rw [sumQ_mulr]
  have e2 : (fun j => f i j * sumQ n fun k => g j k * h k l) = fun j => sumQ n fun k => f i j * (g j k * h k l) := by
    funext j; rw [sumQ_mul]
  rw [e1, e2, sumQ_swap]
  exact sumQ_congr fun j _ => sumQ_congr fun k _ => Rat.mul_assoc _ _ _
/-- one fraction of a sum of products of ints over one bottom each -/
theorem sum_div {n : Nat} {a b : Nat → Int} {u v : Int} (hu : u ≠ 0) (hv : v ≠ 0) : Rat.divInt (smZ n fun i => a i * b i) (u * v) = sumQ n fun i => Rat.divInt (a i) u * Rat.divInt (b i) v := by
  induction n with
  | zero => simp [smZ, sumQ]
  | succ n ih =>
    rw [smZ, sumQ, ← ih, Rat.divInt_mul_divInt]
    have h := Int.mul_ne_zero hu hv
    rw [Rat.divInt_add_divInt _ _ h h, ← Int.add_mul, Rat.divInt_mul_right h]
theorem all_bl {K : PySem.W.Frag} {H : Hp} {D : Addr} {ys : List V} (e : H D = some (.lst ys)) (h : ∀ (i : Nat) (y : V), ys[i]? = some y → y = .bl true) : ∃ bs : List Bool, SqL K H D (bs.map V.bl) ∧ bs.all id = true := by
  have e1 : ys = (List.replicate ys.length true).map V.bl := by
    refine List.ext_getElem? fun i => ?_
    rw [List.getElem?_map]
    by_cases hi : i < ys.length
    · rw [List.getElem?_replicate, if_pos hi, List.getElem?_eq_getElem hi]
      exact congrArg some (h i _ (List.getElem?_eq_getElem hi))
    · rw [List.getElem?_eq_none (by omega), List.getElem?_eq_none (by simpa using hi)]
      rfl
  exact ⟨_, SqL.of (e1 ▸ e), by simp⟩
theorem ints_of {ys : List V} {n : Nat} {f : Nat → Int} (hl : ys.length = n) (h : ∀ (i : Nat) (y : V), ys[i]? = some y → y = .int (f i)) : ys = ((List.range n).map f).map V.int := by
  refine List.ext_getElem? fun i => ?_
  rw [List.map_map, List.getElem?_map]
  by_cases hi : i < n
  · rw [List.getElem?_range hi, List.getElem?_eq_getElem (by omega)]
    exact congrArg some (h i _ (List.getElem?_eq_getElem (by omega)))
  · rw [List.getElem?_eq_none (by omega), List.getElem?_eq_none (by simpa using hi)]
    rfl
/-- a row of ints -/
def rowV (c : Nat) (g : Nat → Int) : List V := ((List.range c).map g).map V.int
theorem rowV_len {c : Nat} {g : Nat → Int} : (rowV c g).length = c := by simp [rowV]
theorem rowV_get {c : Nat} {g : Nat → Int} {i : Nat} {y : V} (h : (rowV c g)[i]? = some y) : i < c ∧ y = .int (g i) := by
  unfold rowV at h
  rw [List.map_map] at h
  exact range_get h
theorem rowV_at {c : Nat} {g : Nat → Int} {i : Nat} (h : i < c) : (rowV c g)[i]? = some (.int (g i)) := by
  unfold rowV
  rw [List.map_map, List.getElem?_map, List.getElem?_range h]
  rfl
end MG

/-! comprehensions whose items may raise, in a try -/
namespace MG
open PySem PySem.Spec PyProof.Rows L2
/-- an exception in the air, L the own dict of the frame in which it is raised -/
def XEL (L : Addr) (X : Cx) (W : WX) (u : Value) (s' : Shared) : Prop :=
  ∃ (a : Addr) (B : Heap) (sI : Shared) (pins : List (Addr × Obj)) (σ : L2.St) (H : Hp) (cls : Value) (d : Option Addr),
    u = .ref a ∧ Inv X pins σ H sI ∧ (∀ b o, sI.heap.get? b = some o → b ∉ frs X.stack → B.get? b = some o) ∧ sI.heap.UpToSlots s'.heap ∧
      Sky B X.stack a (L2N.Zn cls d) L s'.heap ∧ H a = none ∧ s'.os = sI.os ∧ AllBare s'.gens ∧ W cls d σ H
def TakesL (L : Addr) (X : Cx) (W : WX) : Prop := ∀ u s', XEL L X W u s' → X.xe u s'
theorem takesL {X : Cx} {W : WX} (tk : L2N.Takes X W) : TakesL X.env.locals X W := fun u s' x => tk u s' x
section
variable {X : Cx} {pins : List (Addr × Obj)} {σ : L2.St} {H : Hp} {s s' : Shared} {W : WX} {E : XK} {L : Addr}
/-- a call's exception is in our air -/
theorem XEL.of_call (I : Inv X pins σ H s) (hW : ∀ cls d H', E cls d H' → W cls d σ H') {u : Value} (c : L2N.CX X.prog X.w X.stack H s E u s') : XEL L X W u s' := by
  obtain ⟨a, B, H', cls, d, rfl, fl, hok, ub, na, os, ag, hE⟩ := c
  obtain ⟨G, g1, g2⟩ := restrict s'.heap fun b => (B.get? b).isSome || decide (b ∈ frs X.stack)
  have st : B.StaysIn s'.heap := fl.1
  have gB : ∀ b o, B.get? b = some o → G.get? b = some o := fun b o e => by
    rw [g1 b (by simp [e])]
    exact st b o e
  have gF : ∀ b, b ∈ frs X.stack → G.get? b = s'.heap.get? b := fun b hb => g1 b (by simp [hb])
  have og : ∀ b o, G.get? b = some o → s'.heap.get? b = some o ∧ ((B.get? b).isSome = true ∨ b ∈ frs X.stack) := fun b o e => by
    cases q : ((B.get? b).isSome || decide (b ∈ frs X.stack)) with
    | false => rw [g2 b q] at e; cases e
    | true =>
      rw [g1 b q] at e
      exact ⟨e, by simpa [Bool.or_eq_true] using q⟩
  refine ⟨a, B, { s with heap := G, gens := s'.gens, drawn := s'.drawn, toks := s'.toks }, pins, σ, H', cls, d, rfl, ?_, fun b o e hb => ?_, Heap.UpToSlots.of_keeps fun b o e => (og b o e).1, .inr (.inl fl), na, os, ag, hW _ _ _ hE⟩
  · refine I.call (ch := []) ⟨fun b o e n hb _ => gB b o (ub.keep b o e n hb), fun b o e n hb _ => ?_, fun b o e n _ => ub.free b o e n, fun b o e _ => ?_, ub.tups, ub.frzs, ub.tbls⟩ (hok.kept gB) ag (fun _ z => nomatch z)
    · obtain ⟨sl, q⟩ := ub.slot b o e hb
      exact ⟨sl, by rw [gF b hb]; exact q⟩
    · by_cases hb : b ∈ frs X.stack
      · obtain ⟨sl, q⟩ := ub.slot b o e hb
        exact ⟨_, by rw [gF b hb]; exact q⟩
      · obtain ⟨o', q⟩ := ub.there b o e hb
        exact ⟨o', gB b o' q⟩
  · obtain ⟨e', h⟩ := og b o e
    rcases h with h | h
    · obtain ⟨o', q⟩ := Option.isSome_iff_exists.mp h
      have z := st b o' q
      rw [e'] at z; cases z
      exact q
    · exact absurd h hb
theorem passAtL (tk : TakesL L X W) (σ : L2.St) : PassesAt (L2N.CX X.prog X.w) X σ (WE W σ) := fun _ _ _ e s' I c => tk e s' (XEL.of_call I (fun _ _ _ h => h) c)
end
/-! ### the ground without one object -/
section
variable {B B0 h h2 : Heap} {l : List Env} {a C L : Addr} {Z : Obj → Prop} {fl : Value} {m : Str → Option Value}
theorem funFrames_sub (le : ∀ b, B.get? b = none → B0.get? b = none) : ∀ {l : List Env}, h.FunFrames B l → h.FunFrames B0 l
  | [], _ => trivial
  | env :: l, x => by
    obtain ⟨hk, ⟨L, o, hf, hn, ho, hd⟩, hr⟩ := x
    exact ⟨hk, ⟨L, o, hf, le L hn, ho, hd⟩, funFrames_sub le hr⟩
theorem traced_sub (le : ∀ b, B.get? b = none → B0.get? b = none) (x : HandSPX.TracedZ h B a Z fl) : HandSPX.TracedZ h B0 a Z fl := by
  obtain ⟨oe, vs, T, oT, ts, he, hz, hd, h1, hn, r⟩ := x
  exact ⟨oe, vs, T, oT, ts, he, hz, hd, h1, le T hn, r⟩
theorem sky_sub (le : ∀ b o, B0.get? b = some o → B.get? b = some o) (x : Sky B l a Z L h) : Sky B0 l a Z L h := by
  have le' : ∀ b, B.get? b = none → B0.get? b = none := fun b n => by
    cases e : B0.get? b with
    | none => rfl
    | some o => rw [le b o e] at n; cases n
  rcases x with ⟨hB, hn, hl, r⟩ | ⟨h1, h2, h3, h4⟩ | ⟨h1, h2, h3, h4⟩
  · exact .inl ⟨fun b o e => hB b o (le b o e), le' _ hn, funFrames_sub le' hl, r⟩
  · exact .inr (.inl ⟨fun b o e => h1 b o (le b o e), le' _ h2, funFrames_sub le' h3, traced_sub le' h4⟩)
  · exact .inr (.inr ⟨fun b o e => h1 b o (le b o e), le' _ h2, funFrames_sub le' h3, traced_sub le' h4⟩)
theorem traced_but (hn : h.Ns C m) (hs : Heap.SameBut C h h2) (x : HandSPX.TracedZ h B a Z fl) : HandSPX.TracedZ h2 B a Z fl := by
  obtain ⟨oC, es, ep, hoC, hdC, _⟩ := hn
  obtain ⟨oe, vs, T, oT, ts, he, hz, hd, h1, hnT, hTe, hT, hdT, h3⟩ := x
  have n1 : a ≠ C := fun e => by rw [e, hoC] at he; cases he; rw [hdC] at hd; cases hd
  have n2 : T ≠ C := fun e => by rw [e, hoC] at hT; cases hT; rw [hdC] at hdT; cases hdT
  exact ⟨oe, vs, T, oT, ts, (hs.2 a n1).trans he, hz, hd, h1, hnT, hTe, (hs.2 T n2).trans hT, hdT, h3⟩
end
/-- the context of a block whose items may raise -/
abbrev blkX (X : Cx) (s : Shared) (H : Hp) (scope : Scope) (cenv : Env) (fp : List Addr) (xe : Value → Shared → Prop) : Cx := { X.blk s H scope cenv fp with xe := xe }
section
variable {X : Cx} {pins : List (Addr × Obj)} {σ : L2.St} {H3 : Hp} {s3 : Shared} {W : WX} {L : Addr} {scope : Scope} {ce : Env} {fp : List Addr}
theorem blk_takes (hst : ∃ env0 outer0, X.stack = env0 :: outer0 ∧ env0.frame = some L) (hcf : ce.frame = some L) (tk : TakesL L X W) (I3 : Inv X pins σ H3 s3) (hC : ce.locals = s3.heap.objs.size) (f3 : ∀ b ∈ fp, FpOk X pins H3 b ∧ b < s3.heap.objs.size) :
    TakesL L (blkX X s3 H3 scope ce fp (notedBy (model X.prog X.w) X.A ce (CompFails (model X.prog X.w) X.A X.xe ce))) (fun cls d _ H' => W cls d σ H') := by
  rintro u s' ⟨a, B, sI, pins', σ', H', cls, d, rfl, I, nb, up, sky, na, os, ag, w⟩
  obtain ⟨env0, outer0, hs, hf0⟩ := hst
  have hfr : X.A.frames = some (env0 :: outer0) := by rw [I3.ok.frames, hs]
  have sky' : Sky B (env0 :: outer0) a (L2N.Zn cls d) L s'.heap := by rw [← hs]; exact sky
  obtain ⟨B0, g1, g2⟩ := restrict B fun b => decide (b ≠ ce.locals)
  have leB : ∀ b o, B0.get? b = some o → B.get? b = some o := fun b o e => by
    by_cases hb : b = ce.locals
    · rw [g2 b (by simp [hb])] at e; cases e
    · rw [g1 b (by simp [hb])] at e; exact e
  have sky0 := sky_sub leB sky'
  obtain ⟨S0, k1, k2⟩ := restrict sI.heap fun b => decide (b ≠ ce.locals)
  have leS : ∀ b o, S0.get? b = some o → sI.heap.get? b = some o ∧ b ≠ ce.locals := fun b o e => by
    by_cases hb : b = ce.locals
    · rw [k2 b (by simp [hb])] at e; cases e
    · rw [k1 b (by simp [hb])] at e; exact ⟨e, hb⟩
  have geS : ∀ b, b ≠ ce.locals → S0.get? b = sI.heap.get? b := fun b hb => k1 b (by simp [hb])
  obtain ⟨m, hn, _⟩ := I.loc
  have hn : sI.heap.Ns ce.locals m := hn
  have fin : ∀ h1, HandSPX.HeldZ B0 (env0 :: outer0) a (L2N.Zn cls d) L h1 → s'.heap.UpToSlots h1 → CompFails (model X.prog X.w) X.A X.xe ce (.ref a) { s' with heap := h1 } := by
    intro h1 hh up1
    have n1 := (up.trans up1).ns hn
    refine ⟨m, n1, fun h2 m2 hn2 hs2 => ?_⟩
    obtain ⟨b1, b0, f1, t1⟩ := hh
    have nC : B0.get? ce.locals = none := g2 _ (by simp)
    have b2 : B0.StaysIn h2 := fun b o hb => (hs2.2 b fun q => by rw [q, nC] at hb; cases hb).trans (b1 b o hb)
    have f2 : h2.FunFrames B0 (env0 :: outer0) := Heap.FunFrames.sameBut hs2 hn2 f1
    have t2 := traced_but n1 hs2 t1
    have hh2 : HandSPX.HeldZ B0 (env0 :: outer0) a (L2N.Zn cls d) L h2 := ⟨b2, b0, f2, t2⟩
    obtain ⟨oe, vs, T, oT, ts, he, hz, hd, h1', r⟩ := t2
    unfold PySem.passOn
    refine wpAny_bind (wpAny_field he hd h1' ?_)
    rw [if_neg (show ¬ ((Value.ref T == Value.none) = true) from by simp), hcf]
    refine wpAny_bind (HandSPX.setFlight_onZ hh2 fun h3 hh3 up3 => wpAny_throw (tk _ _ ?_))
    refine ⟨a, B0, { sI with heap := S0 }, pins, σ, H', cls, d, rfl, ?_, fun b o e hb => ?_, fun b o e hnf => ?_, .inr (.inr (by rw [hs]; exact hh3)), na, os, ag, w⟩
    · have ub := I.base
      have nlt : ∀ {b : Addr} {o : Obj}, s3.heap.get? b = some o → b ≠ ce.locals := fun {b o} e => by rw [hC]; exact Nat.ne_of_lt (Heap.lt_size e)
      have ub' : Un (frs X.stack) fp H3 H' s3.heap sI.heap := ub
      refine I3.call' (ch := fp) I.os ⟨fun b o e n hb hx => ?_, fun b o e n hb hx => ?_, ub'.free, fun b o e hx => ?_, ub'.tups, ub'.frzs, ub'.tbls⟩ (fun b o q => ?_) I.bare fun b hb => ⟨(f3 b hb).1.2.2.2.1, (f3 b hb).1.2.1, (f3 b hb).1.2.2.2.2.1, (f3 b hb).1.2.2.2.2.2⟩
      · show S0.get? b = some o
        rw [geS b (nlt e)]
        exact ub'.keep b o e n hb hx
      · show ∃ sl, S0.get? b = _
        rw [geS b (nlt e)]
        exact ub'.slot b o e n hb hx
      · show ∃ o', S0.get? b = some o'
        rw [geS b (nlt e)]
        exact ub'.there b o e hx
      · refine (I.hok b o q).stay (fun c u hc r => ?_) (fun _ r => r) fun _ _ r => r
        show S0.get? c = some u
        rw [geS c fun z => ?_]
        · exact r
        · have fr : H' ce.locals = none := I.free
          rw [z] at hc
          rcases hc with hc | hc
          · rw [← hc, fr] at q; cases q
          · rw [fr] at hc; cases hc
    · obtain ⟨e1, nb1⟩ := leS b o e
      rw [g1 b (by simp [nb1])]
      exact nb b o e1 hb
    · obtain ⟨e1, nb1⟩ := leS b o e
      obtain ⟨sl, e2⟩ := (up.trans up1) b o e1 hnf
      obtain ⟨sl3, e3⟩ := up3 b _ ((hs2.2 b nb1).trans e2) hnf
      exact ⟨sl3, e3⟩
  show wpAny (model X.prog X.w) X.A (noteFrame (.ref a) ce) _ _ s'
  rw [noteFrame_env (.ref a) (hcf.trans hf0.symm)]
  rcases sky0 with ⟨hB, hn', hl, oe, vs, he, hz, hd, h1⟩ | flz | hh
  · exact PXN.look_newZ L2N.Zn.steady hfr hl hf0 he hB hn' hd h1 hz fin
  · exact PXN.looks_onZ L2N.Zn.steady hfr hf0 flz fin
  · exact HandSPX.againZ hf0 hh.2.2.2 (fin s'.heap hh (Heap.UpToSlots.refl _))
end
end MG

namespace MG
open PySem PySem.Spec PyProof.Rows L2
theorem thnN {α : Type} {t : Sem α} {Q Q' : α → Shared → Prop} {M : Model} {A : Around} {E E' : Value → Shared → Prop} {s : Shared} (hE : ∀ e s, E e s → E' e s) (h : wpAny M A t Q E s) (hQ : ∀ a s, Q a s → Q' a s) : wpAny M A t Q' E' s := wpAny_mono h hQ hE
/-- the reading of a comprehension whose items may raise: V is what they wish -/
def tLcX (wi : TI) (g : TG) (tt : TT) (te : WX → TE) (vs : List Nat) (W : WX) : TE := fun σ H Q => tLcI wi g tt (te fun cls d _ H' => W cls d σ H') vs σ H Q
section
variable {X : Cx}
theorem lc_coreX {pins : List (Addr × Obj)} {s : Shared} {σ : L2.St} {H : Hp} {Q : VK} {elt tg iter : Expr} {ifs : List Expr} {scope : Scope} {own : List (Str × Nat)} {pos pos' : Pos} {wi : TI} {g : TG} {tt : TT} {te : WX → TE} {Wx : WX} {L : Addr} {use : Option (Value → Sem Unit)} {Qf : Value → Shared → Prop}
    (hc : X.calm = true) (hN : X.N.Nodup) (I : Inv X pins σ H s) (hi : PI X tg iter wi) (ok : BlkOk X.N X.env.scope scope own)
    (hst : ∃ env0 outer0, X.stack = env0 :: outer0 ∧ env0.frame = some L) (hcf : X.env.frame = some L) (tk : TakesL L X Wx)
    (hg : ∀ (s : Shared) (H : Hp) (C : Addr) (cl : List (Str × Addr)) (fp : List Addr) (xe : Value → Shared → Prop), PG (blkX X s H scope (compEnvC scope cl C X.env) fp xe) tg g) (ht : ∀ (s : Shared) (H : Hp) (C : Addr) (cl : List (Str × Addr)) (fp : List Addr) (xe : Value → Shared → Prop), PTs (blkX X s H scope (compEnvC scope cl C X.env) fp xe) ifs tt)
    (he : ∀ (s : Shared) (H : Hp) (C : Addr) (cl : List (Str × Addr)) (fp : List Addr) (xe : Value → Shared → Prop) (V : WX), TakesL L (blkX X s H scope (compEnvC scope cl C X.env) fp xe) V → PE (blkX X s H scope (compEnvC scope cl C X.env) fp xe) elt (te V)) (hs : ∀ x, foldedSetIterable iter X.env x = pure x)
    (h : tLc wi g tt (te fun cls d _ H' => Wx cls d σ H') (own.map (·.2)) σ H Q)
    (hRR : ∀ D C s' m H', Inv X pins σ H' s' → Q (.ref D) H' → s'.heap.Ns C m → FpOk X pins H' C → ∀ ce : Env, ce.locals = C → compEnds (model X.prog X.w) X.A X.xe use Qf (.ref D) ce (.ok .next) s') :
    wpAny (model X.prog X.w) X.A (comprehension (.ListComp elt [⟨tg, iter, ifs, 0⟩] scope pos) scope X.env pos' (newList []) false (eval iter X.env) use) Qf X.xe s := by
  have hfree : ∀ y ∈ scope.names, y.2 = .free → ∃ c, X.env.cells.lookup y.1 = some c := fun y hy e => by
    rcases ok.free y hy e with k | k
    · exact I.ok.has _ (.inl k)
    · exact I.ok.has _ (.inr k)
  refine comprehension_at (use := use) rfl hs (closure_ok hfree) ok.kind (fun y hy e => by rw [ok.uniq y hy, e])
    (thn (hi.run pins s σ H _ I h) fun xv s1 hx => thn hx fun itv s2 h2 => ?_)
  obtain ⟨it, fp, tn, J, H2, e, I2, T, st2, f2, q⟩ := h2
  subst e
  refine wpAny_newObj_type (newEnv_comp ?_) (by show 0 ≤ sizeLine; decide)
  generalize hD : s2.heap.objs.size = D
  have hDn : H2 D = none := I2.hok.fresh (Nat.le_of_eq hD)
  obtain ⟨W, ⟨m0, w0⟩, turn⟩ := q D hDn
  -- the new list
  generalize hs3 : ({ s2 with heap := s2.heap.push { cls := .type "list", data := .seq ([] : List Value).toArray } } : Shared) = s3
  have I3 : Inv X pins σ (upd H2 D (.lst [])) s3 := by
    rw [← hs3]
    refine I2.laid (t' := s2.toks) (fun b o e => Heap.get?_push_of_some _ e) (Nat.le_of_eq hD) ⟨Nat.zero_le _, [], 0, .nil, ?_⟩
    rw [← hD]
    exact Heap.get?_push_size _ rfl
  have h3 : s3.heap = s2.heap.push { cls := .type "list", data := .seq ([] : List Value).toArray } := by rw [← hs3]
  have sz : ∀ b ∈ fp, b < s2.heap.objs.size := fun b hb => by
    obtain ⟨o, e, _⟩ := T.obj _ _ st2 b hb
    exact Heap.lt_size e
  have f3 : ∀ b ∈ fp, FpOk X pins (upd H2 D (.lst [])) b ∧ b < s3.heap.objs.size := fun b hb => by
    have hlt := sz b hb
    refine ⟨⟨?_, (f2 b hb).2⟩, by rw [h3, Heap.size_push]; exact Nat.lt_succ_of_lt hlt⟩
    rw [upd_ne (by rw [← hD]; exact Nat.ne_of_lt hlt)]
    exact (f2 b hb).1
  have st3 : tn 0 s3.heap := T.keep _ _ _ st2 fun b _ o e => by rw [h3]; exact Heap.get?_push_of_some _ e
  have I4 := block_start I3 ok hN f3
  have pg := hg s3 (upd H2 D (.lst [])) s3.heap.objs.size (cellsFrom (s3.heap.objs.size + 1) scope.names (cloFrom X.env.cells scope.names [])) fp
  have pt := ht s3 (upd H2 D (.lst [])) s3.heap.objs.size (cellsFrom (s3.heap.objs.size + 1) scope.names (cloFrom X.env.cells scope.names [])) fp
  have pe0 := he s3 (upd H2 D (.lst [])) s3.heap.objs.size (cellsFrom (s3.heap.objs.size + 1) scope.names (cloFrom X.env.cells scope.names [])) fp
  have hcf2 : (compEnvC scope (cellsFrom (s3.heap.objs.size + 1) scope.names (cloFrom X.env.cells scope.names [])) s3.heap.objs.size X.env).frame = some L := hcf
  show codeAny _ _ (.compStart (.ListComp elt [⟨tg, iter, ifs, 0⟩] scope pos) 0 (.ref it) (.ref D) (compEnvC scope (cellsFrom (s3.heap.objs.size + 1) scope.names (cloFrom X.env.cells scope.names [])) s3.heap.objs.size X.env)) (compEnds (model X.prog X.w) X.A X.xe use Qf (.ref D) (compEnvC scope (cellsFrom (s3.heap.objs.size + 1) scope.names (cloFrom X.env.cells scope.names [])) s3.heap.objs.size X.env)) { s3 with heap := pushCells (s3.heap.push { cls := .type "dict", data := .dict #[] }) scope.names }
  have nfp : ∀ b ∈ fp, (upd H2 D (.lst [])) b = none := fun b hb => (f3 b hb).1.1
  generalize hce : compEnvC scope (cellsFrom (s3.heap.objs.size + 1) scope.names (cloFrom X.env.cells scope.names [])) s3.heap.objs.size X.env = ce at I4 pg pt pe0 hcf2 ⊢
  have cL : ce.locals = s3.heap.objs.size := by subst hce; rfl
  have eE : ∀ x s', CompFails (model X.prog X.w) X.A X.xe ce x s' → compEnds (model X.prog X.w) X.A X.xe use Qf (.ref D) ce (.error x) s' := fun x s' h => by cases use <;> exact h
  have eN : ∀ e s', notedBy (model X.prog X.w) X.A ce (CompFails (model X.prog X.w) X.A X.xe ce) e s' → notedBy (model X.prog X.w) X.A ce (fun e s' => compEnds (model X.prog X.w) X.A X.xe use Qf (.ref D) ce (.error e) s') e s' := fun e s' h => wpAny_mono h (fun _ s2 q => eE e s2 q) fun e2 s2 q => eE e2 s2 q
  generalize hH3 : upd H2 D (.lst []) = H3 at I3 I4 pg pt pe0 w0 nfp f3
  generalize hs4 : ({ s3 with heap := pushCells (s3.heap.push { cls := .type "dict", data := .dict #[] }) scope.names } : Shared) = s4 at I4 ⊢
  have bt := blk_takes (W := Wx) (scope := scope) hst hcf2 tk I3 cL f3
  have pe := pe0 _ _ bt
  generalize hxe : (notedBy (model X.prog X.w) X.A ce (CompFails (model X.prog X.w) X.A X.xe ce)) = xe at bt pe eN
  replace pg := pg xe
  replace pt := pt xe
  have I4' : Inv (blkX X s3 H3 scope ce fp xe) [] (wipe σ (own.map (·.2))) H3 s4 := I4.wish xe
  have st4 : tn 0 s4.heap := T.keep _ _ _ st3 fun b _ o e => by rw [← hs4]; exact pushCells_keeps _ _ _ _ (Heap.get?_push_of_some _ e)
  have stat : ∀ {σ' : L2.St} {H' : Hp} {s' : Shared}, Inv (blkX X s3 H3 scope ce fp xe) [] σ' H' s' → (∀ b ∈ fp, H' b = none) → ∀ b ∈ fp, FpOk (blkX X s3 H3 scope ce fp xe) [] H' b := fun {σ' H' s'} I' hn b hb =>
    ⟨hn b hb, (I'.ok.exf b hb).1, I'.ok.exfs b hb, .inl hb, fun x c e => (I'.ok.exf b hb).2 x c e, fun p hp => absurd (show p ∈ ([] : List (Addr × Obj)) ++ [] from hp) (by simp)⟩
  have loop : codeAny (model X.prog X.w) X.A (.compLoop (.ListComp elt [⟨tg, iter, ifs, 0⟩] scope pos) 0 (.ref it) (.ref D) ce) (compEnds (model X.prog X.w) X.A X.xe use Qf (.ref D) ce) s4 := by
    refine compLoop_any (fun n s' => ∃ i H', Inv (blkX X s3 H3 scope ce fp xe) [] (wipe σ (own.map (·.2))) H' s' ∧ tn i s'.heap ∧ (∀ b ∈ fp, H' b = none) ∧ W i n H') ?_ m0 ⟨0, H3, I4', st4, nfp, w0⟩
    rintro n s5 ⟨i, H5, I5, st5, n5, w5⟩
    rcases turn i n H5 w5 with ⟨stop, qq⟩ | ⟨go, Nx, hNx, step⟩
    · have td := T.done (blkX X s3 H3 scope ce fp xe) rfl rfl rfl hc i [] s5 _ H5 (fun _ _ => False) I5 (stat I5 n5) st5 stop
      refine thnF td fun r s6 ⟨hr, I6⟩ => ?_
      subst hr
      -- back in the def's context
      have I7 : Inv X pins σ H5 s6 := I3.call' (ch := fp) I6.os I6.base I6.hok I6.bare fun b hb => ⟨(f3 b hb).1.2.2.2.1, (f3 b hb).1.2.1, (f3 b hb).1.2.2.2.2.1, (f3 b hb).1.2.2.2.2.2⟩
      have nC : H5 s3.heap.objs.size = none := by
        have z : H5 ce.locals = none := I6.free
        rw [cL] at z
        exact z
      obtain ⟨m, hn, _⟩ := I6.loc
      have hn : s6.heap.Ns ce.locals m := hn
      rw [cL] at hn
      exact hRR D s3.heap.objs.size s6 m H5 I7 qq hn (I3.fpOk (Nat.le_refl _) nC) ce cL
    · have ti := T.item (blkX X s3 H3 scope ce fp xe) rfl rfl rfl hc i [] s5 _ H5 (fun _ _ => False) I5 (stat I5 n5) st5 go
      refine thnF ti fun r s6 ⟨u, hr, h6⟩ => ?_
      subst hr
      refine thnF h6 fun _ s7 ⟨x, H7, I7, r7, y7, st7, n7⟩ => ?_
      have I7' := I7.pinned (stat I7 n7) (T.obj _ _ st7)
      refine thnN eN (pg.run _ s7 _ H7 x u _ I7' r7 (step x H7 y7)) fun _ s8 ⟨σ8, H8, I8, hw8, q8⟩ => ?_
      refine thnN eN (pt.run _ s8 σ8 H8 _ I8 q8) fun b s9 ⟨H9, I9, q9⟩ => ?_
      -- the turn's end
      have fin : ∀ {s' : Shared} {H' : Hp}, Inv (blkX X s3 H3 scope ce fp xe) ([] ++ pinsAt fp s7.heap) σ8 H' s' → Nx H' → ∃ m, m < n ∧ ∃ i H', Inv (blkX X s3 H3 scope ce fp xe) [] (wipe σ (own.map (·.2))) H' s' ∧ tn i s'.heap ∧ (∀ b ∈ fp, H' b = none) ∧ W i m H' := fun {s' H'} I' nx => by
        obtain ⟨m', hm, w'⟩ := hNx H' nx
        have pin' : ∀ b ∈ fp, ∀ o, s7.heap.get? b = some o → s'.heap.get? b = some o ∧ H' b = none := fun b hb o e =>
          let z := I'.pin (b, o) (List.mem_append_right _ (List.mem_append_right _ (mem_pinsAt hb e)))
          ⟨z.1, z.2.1⟩
        have hl : (wipe σ (own.map (·.2))).length = σ8.length := by rw [← hw8, wipe_length]
        refine ⟨m', hm, i + 1, H', (I'.unpinned (pins := [])).weak hl (fun j v e => ?_), T.keep _ _ _ st7 fun b hb o e => (pin' b hb o e).1, fun b hb => ?_, w'⟩
        · rw [← hw8] at e
          exact (wipe_some e).1
        · obtain ⟨o, e, _⟩ := T.obj _ _ st7 b hb
          exact (pin' b hb o e).2
      cases b with
      | false =>
        simp only [Bool.false_eq_true, if_false] at q9 ⊢
        exact fin I9 q9
      | true =>
        simp only [if_true] at q9 ⊢
        refine thnN eN (pe.run _ s9 σ8 H9 _ I9 q9) fun z s10 ⟨yv, H10, I10, r10, acc, hD10, hz10, nx⟩ => ?_
        exact app_ok (X := blkX X s3 H3 scope ce fp xe) I10 hD10 hz10 r10 fun s11 I11 => fin I11 nx
  exact codeAny_compStart_list loop (T.self X.A 0 _ _ _ st4 loop)
/-- as a value -/
theorem pe_lcX {elt tg iter : Expr} {ifs : List Expr} {scope : Scope} {own : List (Str × Nat)} {pos : Pos} {wi : TI} {g : TG} {tt : TT} {te : WX → TE} {W : WX} {L : Addr} (hc : X.calm = true) (hN : X.N.Nodup) (hi : PI X tg iter wi) (ok : BlkOk X.N X.env.scope scope own)
    (hst : ∃ env0 outer0, X.stack = env0 :: outer0 ∧ env0.frame = some L) (hcf : X.env.frame = some L) (tk : TakesL L X W)
    (hg : ∀ (s : Shared) (H : Hp) (C : Addr) (cl : List (Str × Addr)) (fp : List Addr) (xe : Value → Shared → Prop), PG (blkX X s H scope (compEnvC scope cl C X.env) fp xe) tg g) (ht : ∀ (s : Shared) (H : Hp) (C : Addr) (cl : List (Str × Addr)) (fp : List Addr) (xe : Value → Shared → Prop), PTs (blkX X s H scope (compEnvC scope cl C X.env) fp xe) ifs tt)
    (he : ∀ (s : Shared) (H : Hp) (C : Addr) (cl : List (Str × Addr)) (fp : List Addr) (xe : Value → Shared → Prop) (V : WX), TakesL L (blkX X s H scope (compEnvC scope cl C X.env) fp xe) V → PE (blkX X s H scope (compEnvC scope cl C X.env) fp xe) elt (te V)) (hs : ∀ x, foldedSetIterable iter X.env x = pure x := by intro _; rfl) :
    PE X (.ListComp elt [⟨tg, iter, ifs, 0⟩] scope pos) (tLcX wi g tt te (own.map (·.2)) W) := by
  refine ⟨fun pins s σ H Q I h => ?_⟩
  rw [eval_ListComp]
  refine lc_coreX hc hN I hi ok hst hcf tk hg ht he hs h fun D C s' m H' I' q hn f ce hce => ?_
  subst hce
  refine ⟨m, hn, fun h'' sb => ?_⟩
  obtain ⟨f0, f1, f2, f3, f4, f5⟩ := f
  exact ⟨.ref D, H', I'.turned (t' := s'.toks) (fun b o hb e => (sb.2 b hb).trans e) f0 f1 f3 f4 f5, rfl, q⟩
theorem ps_setLcX {i : Nat} {y : Str} {py : Pos} {elt tg iter : Expr} {ifs : List Expr} {scope : Scope} {own : List (Str × Nat)} {pos spos : Pos} {wi : TI} {g : TG} {tt : TT} {te : WX → TE} {W : WX} {L : Addr} (hc : X.calm = true) (hN : X.N.Nodup) (hy : X.N[i]? = some y) (hyl : X.env.scope.names.lookup y = some .local)
    (hsw : swapsWith (.ListComp elt [⟨tg, iter, ifs, 0⟩] scope pos) (some (.Name y py)) spos.line X.env = pure true) (hi : PI X tg iter wi) (ok : BlkOk X.N X.env.scope scope own)
    (hst : ∃ env0 outer0, X.stack = env0 :: outer0 ∧ env0.frame = some L) (hcf : X.env.frame = some L) (tk : TakesL L X W)
    (hg : ∀ (s : Shared) (H : Hp) (C : Addr) (cl : List (Str × Addr)) (fp : List Addr) (xe : Value → Shared → Prop), PG (blkX X s H scope (compEnvC scope cl C X.env) fp xe) tg g) (ht : ∀ (s : Shared) (H : Hp) (C : Addr) (cl : List (Str × Addr)) (fp : List Addr) (xe : Value → Shared → Prop), PTs (blkX X s H scope (compEnvC scope cl C X.env) fp xe) ifs tt)
    (he : ∀ (s : Shared) (H : Hp) (C : Addr) (cl : List (Str × Addr)) (fp : List Addr) (xe : Value → Shared → Prop) (V : WX), TakesL L (blkX X s H scope (compEnvC scope cl C X.env) fp xe) V → PE (blkX X s H scope (compEnvC scope cl C X.env) fp xe) elt (te V)) (hs : ∀ x, foldedSetIterable iter X.env x = pure x := by intro _; rfl) :
    PS X (.Assign [.Name y py] (.ListComp elt [⟨tg, iter, ifs, 0⟩] scope pos) spos) (tAsg (tLcX wi g tt te (own.map (·.2)) W) (gName i)) := by
  refine ⟨fun pins s σ H D I h => ?_⟩
  rw [exec_Assign_Name_used _ _ _ _ hsw]
  refine wpAny_bind (wpAny_standAt (wpAny_bind ?_))
  show wpAny _ X.A (do let _ ← comprehension (.ListComp elt [⟨tg, iter, ifs, 0⟩] scope pos) scope X.env (firstIterPos [⟨tg, iter, ifs, 0⟩] pos) (newList []) false (eval iter X.env) (some (assign (.Name y py) X.env))) _ _ s
  have h : tLc wi g tt (te fun cls d _ H' => W cls d σ H') (own.map (·.2)) σ H (fun x H1 => gName i x σ H1 D.nx) := h
  refine wpAny_bind (thn (lc_coreX (Qf := fun _ s' => SP X pins D .next s') hc hN I hi ok hst hcf tk hg ht he hs h fun L C s' m H' I' q hn f ce hce => ?_) fun _ s' hq => wpAny_pure (wpAny_pure hq))
  show wpAny _ _ (assign (.Name y py) X.env (.ref L)) _ _ _
  refine wpAny_assign_Name (store_ok2 (v := V.ref L) I' hN hy (.inl hyl) rfl (fun s2 I2 ⟨a, sb, ha⟩ => ?_) (.inr hyl))
  obtain ⟨f0, f1, f2, f3, f4, f5⟩ := f
  have haC : C ≠ a := by
    rcases ha with z | z
    · rw [z]; exact f1
    · exact fun e => f4 y a z e.symm
  subst hce
  refine ⟨m, hn.sameBut sb haC, fun h3 sb3 => ?_⟩
  exact ⟨_, H', I2.turned (t' := s2.toks) (fun b o hb e => (sb3.2 b hb).trans e) f0 f1 f3 f4 f5, q⟩
end
end MG

/-! raising where something is handled; errors with a context, in a try -/
namespace MG
open PySem PySem.Spec PyProof.Rows L2 ClX
section
variable {X : Cx} {W : WX}
theorem sky_c {B : Heap} {l : List Env} {a L : Addr} {cls : Value} {d : Option Addr} {h : Heap} (x : Sky B l a (L2N.Zn cls d) L h) : Sky B l a (Zc cls d) L h := by
  rcases x with ⟨hB, hn, hl, oe, vs, he, hz, r⟩ | ⟨h1, h2, h3, h4⟩ | ⟨h1, h2, h3, h4⟩
  · exact .inl ⟨hB, hn, hl, oe, vs, he, hz.zc, r⟩
  · exact .inr (.inl ⟨h1, h2, h3, L2H.tracedZ_imp (fun _ z => z.zc) h4⟩)
  · exact .inr (.inr ⟨h1, h2, h3, L2H.tracedZ_imp (fun _ z => z.zc) h4⟩)
theorem takes_c (tk : L2.Takes X W) : L2N.Takes X W := fun u s' ⟨a, B, sI, pins, σ, H, cls, d, e, I, nb, up, sky, r⟩ => tk u s' ⟨a, B, sI, pins, σ, H, cls, d, e, I, nb, up, sky_c sky, r⟩
/-- a def that may raise errors of any context -/
theorem fun_okC {P : Program} {w : World} {K : PySem.W.Frag} {mg : Str → Option Value} {base : Heap} {x qual : Str} {st : Stmt} {f : Addr} {fd : FuncData} {N ps : List Str} {k : Nat} {sp : Sp} (F : Fun K x qual st f fd) (S : FnScope N ps (defScope st)) (len : ∀ vs H Q E, sp vs H Q E → vs.length = ps.length)
    (hbody : ∀ (cdv : Value) (A : Around) (outer : List Env) (s : Shared) (H : Hp) (vs : List V) (Q : VK) (E : XK), Room k (A.deeper (envOfC qual (defScope st) s.heap.objs.size f cdv)) → sp vs H Q E →
      ∃ t, PSs (cxOf (L2.CX P w) P w K mg base N qual (defScope st) f cdv A outer s H E) (defBody st) t ∧ t { nx := fun _ H' => Q .non H', rt := Q } (start N vs) H) : FnOk P w K mg base (L2.CX P w) (k + 1) f fd ps sp := by
  obtain ⟨oc, od, kV, doc, pm, an, cdv, ct, osl, rfl, lk, hcd⟩ := F.ex
  exact fn_of lk hcd S len fun A outer s H vs Q E hr hsp => hbody cdv A outer s H vs Q E hr hsp
end
section
variable {X : Cx} {CX : CXT} {k j : Nat} {C p g : Addr} {m : Str} {mc : Value} {sp : Sp} {o e : Expr} {es : List Expr} {pos apos : Pos} {ta : TE} {t : TA} {pl : Sem Bool}
/-- a classmethod that may raise, within a comprehension in a try -/
theorem pe_cmtXL {W : WX} {L : Addr} (c : CmtX X.prog X.w X.K X.mg X.base k C m sp) (hr : Room j X.A) (hk : k ≤ j) (tk : TakesL L X W) (he : PE X o ta) (ha : PA X (e :: es) t)
    (hst : starEach (e :: es) X.env = (false, eval e X.env) :: starEach es X.env := by rfl) (hpl : (backTo pos (starEach es X.env)).any (·.1) = false := by rfl)
    (ht : eval (.Call (.Attribute o m apos) (e :: es) [] pos) X.env = (do
      let ov ← eval o X.env
      standAt apos.atName
      let (f, first) ← holding [ov] (getMethod ov m pl)
      callWith pos f first (backTo pos (starEach (e :: es) X.env)) (backToKw pos (keywordEach [] X.env))) := by rfl) :
    PE X (.Call (.Attribute o m apos) (e :: es) [] pos) (tCMetS C sp (WE W) ta t) := by
  obtain ⟨p, g, mc, fd, ps, r, cm, F, b⟩ := c.ex
  refine ⟨fun pins s σ H Q I h => ?_⟩
  refine PySem.W.methodCall_KW (pl := pl) (thn (he.run pins s σ H _ I h) fun u s1 ⟨x, H1, I1, rx, ex, q⟩ => ?_) ht
  subst ex
  obtain rfl : u = Value.ref C := rx
  refine getmethcm_ok I1 r cm fun s2 I2 => ?_
  refine callwith_cm I2 (base_none I1 (Nat.le_refl _)) cm.fi (thn (ha.run pos _ s2 σ H1 _ I2 q) fun us s3 ⟨vs, H2, I3, rv, q2⟩ => ⟨⟨pin_at I3, I3.kIn⟩, ?_⟩) hst hpl
  have q3 : sp (.ref C :: vs ++ []) H2 Q (WE W σ) := by rw [List.append_nil]; exact q2
  exact after_cm I3 (passAtL tk σ) ((F.raw b .nil) X.A X.stack s3 H2 (.ref C :: us) (.ref C :: vs) Q (WE W σ) (hr.mono hk) I3.env0 (.cons rfl rv) q3)
/-- the same where its errors have any context, in a try -/
structure CmtC (P : Program) (w : World) (K : PySem.W.Frag) (mg : Str → Option Value) (base : Heap) (k : Nat) (C : Addr) (m : Str) (sp : Sp) : Prop where
  ex : ∃ (p g : Addr) (mc : Value) (fd : FuncData) (ps : List Str), CRead K C mc ∧ CMet K C mc m p g ∧ FnOk P w K mg base (L2.CX P w) k g fd ps sp ∧ Binds K fd ps []
theorem pe_cmtC {W : WX} (c : CmtC X.prog X.w X.K X.mg X.base k C m sp) (hr : Room j X.A) (hk : k ≤ j) (tk : L2.Takes X W) (he : PE X o ta) (ha : PA X (e :: es) t)
    (hst : starEach (e :: es) X.env = (false, eval e X.env) :: starEach es X.env := by rfl) (hpl : (backTo pos (starEach es X.env)).any (·.1) = false := by rfl)
    (ht : eval (.Call (.Attribute o m apos) (e :: es) [] pos) X.env = (do
      let ov ← eval o X.env
      standAt apos.atName
      let (f, first) ← holding [ov] (getMethod ov m pl)
      callWith pos f first (backTo pos (starEach (e :: es) X.env)) (backToKw pos (keywordEach [] X.env))) := by rfl) :
    PE X (.Call (.Attribute o m apos) (e :: es) [] pos) (tCMetS C sp (WE W) ta t) := by
  obtain ⟨p, g, mc, fd, ps, r, cm, F, b⟩ := c.ex
  refine ⟨fun pins s σ H Q I h => ?_⟩
  refine PySem.W.methodCall_KW (pl := pl) (thn (he.run pins s σ H _ I h) fun u s1 ⟨x, H1, I1, rx, ex, q⟩ => ?_) ht
  subst ex
  obtain rfl : u = Value.ref C := rx
  refine getmethcm_ok I1 r cm fun s2 I2 => ?_
  refine callwith_cm I2 (base_none I1 (Nat.le_refl _)) cm.fi (thn (ha.run pos _ s2 σ H1 _ I2 q) fun us s3 ⟨vs, H2, I3, rv, q2⟩ => ⟨⟨pin_at I3, I3.kIn⟩, ?_⟩) hst hpl
  have q3 : sp (.ref C :: vs ++ []) H2 Q (WE W σ) := by rw [List.append_nil]; exact q2
  exact after_cm I3 (L2.passAt tk σ) ((F.raw b .nil) X.A X.stack s3 H2 (.ref C :: us) (.ref C :: vs) Q (WE W σ) (hr.mono hk) I3.env0 (.cons rfl rv) q3)
structure CmtKC (P : Program) (w : World) (K : PySem.W.Frag) (mg : Str → Option Value) (base : Heap) (k : Nat) (C : Addr) (m : Str) (sp : Sp) (ks : List Str) (gV : List V → List V → List V) : Prop where
  ex : ∃ (p g : Addr) (mc : Value) (fd : FuncData) (ps : List Str) (gf : List Value → List Value → List Value), CRead K C mc ∧ CMet K C mc m p g ∧ FnOk P w K mg base (L2.CX P w) k g fd ps sp ∧ KBn K fd ps 1 ks gf gV
theorem passFC {σ : L2.St} : PassesAt (L2.CX X.prog X.w) X σ (fun _ _ _ => False) := fun _ _ _ _ _ _ ⟨_, _, _, _, _, _, _, _, _, _, _, _, z⟩ => z.elim
theorem pe_cmtKC {kws : List Keyword} {ks : List Str} {gV : List V → List V → List V} {tk : TA} (c : CmtKC X.prog X.w X.K X.mg X.base k C m sp ks gV) (hr : Room j X.A) (hk : k ≤ j) (he : PE X o ta) (hkw : PK X kws tk)
    (hall : (backToKw pos (keywordEach kws X.env)).all (·.1.isSome) = true := by rfl) (hks : (backToKw pos (keywordEach kws X.env)).filterMap (·.1) = ks := by rfl)
    (hpl : ((backTo pos (starEach [] X.env)).any (·.1) || (backToKw pos (keywordEach kws X.env)).any (·.1.isNone)) = false := by rfl)
    (ht : eval (.Call (.Attribute o m apos) [] kws pos) X.env = (do
      let ov ← eval o X.env
      standAt apos.atName
      let (f, first) ← holding [ov] (getMethod ov m pl)
      callWith pos f first (backTo pos (starEach [] X.env)) (backToKw pos (keywordEach kws X.env))) := by rfl) :
    PE X (.Call (.Attribute o m apos) [] kws pos) (tCMetK C sp ks.length gV ta tk) := by
  obtain ⟨p, g, mc, fd, ps, gf, r, cm, F, b⟩ := c.ex
  refine ⟨fun pins s σ H Q I h => ?_⟩
  refine PySem.W.methodCall_KW (pl := pl) (thn (he.run pins s σ H _ I h) fun u s1 ⟨x, H1, I1, rx, ex, q⟩ => ?_) ht
  subst ex
  obtain rfl : u = Value.ref C := rx
  refine getmethcm_ok I1 r cm fun s2 I2 => ?_
  refine PySem.W.callWith_of (P := PySem.W.MethP X.K s1.heap.objs.size g (.ref C)) hpl (PySem.W.keeps_M cm.fi) (PyProof.Rows.evalArgs_kw2_nil hall (thn (hkw.run pos _ s2 σ H1 _ I2 q) fun ws s3 ⟨zs, H2, I3, rz, hl, q2⟩ => ⟨⟨pin_at I3, I3.kIn⟩, ?_⟩))
  rw [hks]
  have hlw : ws.length = ks.length := rz.length.symm.trans hl
  exact after_cm I3 passFC (F.run X.A X.stack s3 H2 ⟨.ref C :: [], ks.zip ws⟩ (gf [.ref C] ws) (gV [.ref C] zs) Q _ (hr.mono hk) I3.env0 (b.to s3 [.ref C] ws I3.kIn rfl hlw) (b.rel (.cons rfl .nil) rz) q2)
end
section
variable {X : Cx} {k j : Nat} {C : Addr} {fl x : Str} {p pos pos2 : Pos} {e : Expr} {es : List Expr} {ta : TA} {W : WX}
theorem pmk_c {e : Expr} {t : L2.St → Hp → XK → Prop} (h : L2N.PMk X e t) : L2.PMk X e t := fun pins s σ H Q I q => wpAny_mono (h pins s σ H Q I q) (fun u s' ⟨a, oe, vs, sI, H', cls, d, e1, J, kk, hne, ha, hz, r⟩ => ⟨a, oe, vs, sI, H', cls, d, e1, J, kk, hne, ha, hz.zc, r⟩) fun _ _ z => z
/-- raise C(..) in such a def -/
theorem ps_raiseC (T : ExcF X.prog X.w X.K X.mg X.base k x C fl) (hr : Room j X.A) (hk : k + 1 ≤ j) (hc : X.calm = true) (tk : L2.Takes X W) (hg : Gl X x) (ha : PA X (e :: es) ta)
    (hdb : (x == ("__debug__" : Str)) = false := by decide) (he : starEach (e :: es) X.env = (false, eval e X.env) :: starEach es X.env := by rfl) (hpl : (backTo pos (starEach es X.env)).any (·.1) = false := by rfl) :
    PS X (.Raise (some (.Call (.Name x p) (e :: es) [] pos)) none pos2) (fun _ σ H => tRx C fl ta σ H fun cls d H' => W cls d σ H') := L2.ps_raise hc tk (pmk_c (pmk_x T hr hk hg ha hdb he hpl))
/-- such a class of errors, made in an except suite -/
structure ExcH (P : Program) (w : World) (K : PySem.W.Frag) (mg : Str → Option Value) (base : Heap) (k : Nat) (x : Str) (C : Addr) (fl : Str) : Prop where
  oex : OexC K C
  no : PySem.W.findIn K (.ref C) fl = some none
  g : mg x = some (.ref C)
  ex : ∃ (fI : Addr) (fd : FuncData) (ps : List Str), PySem.W.findIn K (.ref C) "__init__" = some (some (.ref fI)) ∧ PySem.W.typeIn K (.ref fI) = some (.type "function") ∧ L2H.FnH P w K mg base CX0 k fI fd ps (spXi K C fl) ∧ Binds K fd ps []
theorem pmk5_x (T : ExcH X.prog X.w X.K X.mg X.base k x C fl) (hr : L2H.RoomH j X.A) (hk : k + 1 ≤ j) (hc : L2H.HotC X) (hg : Gl X x) (ha : PA X (e :: es) ta)
    (hdb : (x == ("__debug__" : Str)) = false := by decide) (he : starEach (e :: es) X.env = (false, eval e X.env) :: starEach es X.env := by rfl) (hpl : (backTo pos (starEach es X.env)).any (·.1) = false := by rfl) :
    L2H.PMk5 X (.Call (.Name x p) (e :: es) [] pos) (tRx C fl ta) := by
  obtain ⟨oex, hno, hm, fI, fd, ps, iC, tI, F, hb⟩ := T
  have base := L2H.pmk5_oexH (p := p) (CX := CX0) (ta := tCutA ta) oex iC tI F (hr.mono hk) hc hb pass0 hg hm ⟨fun pos pins s σ H Q I ⟨Cc, h1, h2⟩ => thn (ha.run pos pins s σ H Cc I h1) fun us s2 ⟨vs, H', I2, r, q⟩ => ⟨vs, H', I2, r, h2 vs H' q⟩⟩ hdb he hpl
  intro pins s σ H Q I h
  refine base pins s σ H Q I ⟨_, h, ?_⟩
  rintro vs H1 ⟨y, rfl, q⟩
  refine ⟨by show 1 ≤ 1000; decide, fun a hn => ⟨_, y, rfl, oex, hno, upd_same, fun dx hdx ne => ⟨rfl, dx, [(fl, y)], upd_same, ?_, ?_, q dx _ ?_ ?_ ?_⟩⟩⟩
  · rw [upd_ne ne, upd_same]
  · rw [upd_ne ne] at hdx
    exact hdx
  · intro b o hbo
    rw [upd_ne ne] at hdx
    rw [upd_ne (ne_of_none hbo hdx), del_ne (ne_of_none hbo hn), upd_ne (ne_of_none hbo hn), upd_ne (ne_of_none hbo hdx), upd_ne (ne_of_none hbo hn)]
    exact hbo
  · rw [upd_ne ne] at hdx
    exact hdx
  · exact upd_same
/-- raise C(..) from None -/
theorem ps_raiseFN {jn : Nat} {cpos : Pos} (T : ExcH X.prog X.w X.K X.mg X.base k x C fl) (hr : L2H.RoomH j X.A) (hk : k + 1 ≤ j) (hc : L2H.HotC X) (tk : L2.Takes X W) (hg : Gl X x) (ha : PA X (e :: es) ta)
    (hdb : (x == ("__debug__" : Str)) = false := by decide) (he : starEach (e :: es) X.env = (false, eval e X.env) :: starEach es X.env := by rfl) (hpl : (backTo pos (starEach es X.env)).any (·.1) = false := by rfl) :
    PS X (.Raise (some (.Call (.Name x p) (e :: es) [] pos)) (some (.Constant .none jn cpos)) pos2) (fun _ σ H => tRx C fl ta σ H fun cls d H' => W cls d σ H') := L2H.ps_raiseHN hc tk (pmk5_x T hr hk hc hg ha hdb he hpl)
end
section
variable {X : Cx} {x n : Str} {c : Value} {i : Nat} {body suite : List Stmt} {b₀ : Stmt} {np pos pos' : Pos} {tb : WX → TS} {ts : Addr → Value → Option Addr → TS} {Wout : WX}
theorem takes0 : L2.Takes X (fun _ _ _ _ => False) := fun u s' ⟨_, _, _, _, _, _, _, _, _, _, _, _, _, _, _, _, w⟩ => w.elim
/-- try .. except X as n, errors of any context; what is raised said once for all ways -/
theorem ps_tryC_cut (hs : X.stack = X.env :: X.outer) (hf : X.env.frame = some X.env.locals) (hN : X.N.Nodup) (hi : X.N[i]? = some n) (hln : X.env.kindOf n = some .local) (hc : Names X x c) (tk : L2.Takes X Wout)
    (hb : ∀ (W : WX) (pn : List (Addr × Obj)) (xe : Value → Shared → Prop), L2.Takes (X.tr pn xe) W → PassesOwn (model X.prog X.w) X.A X.env xe → PSs (X.tr pn xe) body (tb W))
    (hsu : ∀ (a : Addr) (oe : Obj) (cls : Value) (d : Option Addr) (pn : List (Addr × Obj)), Zc cls d oe → (∃ vs, oe.data = .fields vs) → PSs (X.suite a ((a, oe) :: pn)) (b₀ :: suite) (ts a cls d)) :
    PS X (.Try body [.ExceptHandler (some (.Name x np)) (some n) (b₀ :: suite) pos'] [] [] pos) (fun D σ H => ∃ Ce : WX, (∀ cls d σ' H', Ce cls d σ' H' → wAs X.K c i ts Wout D cls d σ' H') ∧ tb Ce D σ H) :=
  L2.ps_try_as (tb := fun W D σ H => ∃ Ce : WX, (∀ cls d σ' H', Ce cls d σ' H' → W cls d σ' H') ∧ tb Ce D σ H) hs hf hN hi hln hc tk
    (fun W pn xe tk po => ⟨fun pins s σ H D I ⟨Ce, imp, h⟩ => (hb Ce pn xe (tk.imp imp) po).run pins s σ H D I h⟩) hsu
/-- try .. except X: whose suite raises -/
theorem ps_tryX_cut (hs : X.stack = X.env :: X.outer) (hf : X.env.frame = some X.env.locals) (hc : Names X x c) (hpa : ∀ hd : Option Value, PassesOwnAt (model X.prog X.w) (X.A.mark hd) X.A X.env X.xe) (tk : L2.Takes X Wout)
    (hb : ∀ (W : WX) (pn : List (Addr × Obj)) (xe : Value → Shared → Prop), L2N.Takes (X.tr pn xe) W → PassesOwn (model X.prog X.w) X.A X.env xe → PSs (X.tr pn xe) body (tb W))
    (hsu : ∀ (a : Addr) (oe : Obj) (cls : Value) (d : Option Addr) (pn : List (Addr × Obj)), L2N.Zn cls d oe → (∃ vs, oe.data = .fields vs) → L2.Takes (L2H.suiteX X a ((a, oe) :: pn)) Wout → L2H.HotC (L2H.suiteX X a ((a, oe) :: pn)) →
      PSs (L2H.suiteX X a ((a, oe) :: pn)) (b₀ :: suite) (ts a cls d)) :
    PS X (.Try body [.ExceptHandler (some (.Name x np)) none (b₀ :: suite) pos'] [] [] pos) (fun D σ H => ∃ Ce : WX, (∀ cls d σ' H', Ce cls d σ' H' → wOnly X.K c ts Wout D cls d σ' H') ∧ tb Ce D σ H) :=
  L2H.ps_try_onlyX (tb := fun W D σ H => ∃ Ce : WX, (∀ cls d σ' H', Ce cls d σ' H' → W cls d σ' H') ∧ tb Ce D σ H) hs hf hc hpa tk
    (fun W pn xe tk _ po => ⟨fun pins s σ H D I ⟨Ce, imp, h⟩ => (hb Ce pn xe (tk.imp imp) po).run pins s σ H D I h⟩) hsu
end
end MG

/-! a token behind the first item of a written list; e.replace behind it -/
namespace MG
open PySem PySem.Spec PyProof.Rows L2 CwR
section
variable {X : Cx} {e f : Expr} {es : List Expr} {te tf : TE} {ta : TA} {pos : Pos}
/-- an expression behind which a token is out -/
def PEk (X : Cx) (e : Expr) (t : TE) : Prop :=
  ∀ (pins : List (Addr × Obj)) (s : Shared) (σ : L2.St) (H : Hp) (Q : VK), Inv X pins σ H s → t σ H Q → wpAny (model X.prog X.w) X.A (eval e X.env) (fun u s' => EP X pins σ Q u s' ∧ 1 ≤ s'.toks) X.xe s
theorem pek_str {x : Str} {j : Nat} : PEk X (.Constant (.str x) j pos) (tC (.str x)) := fun _ s _ H _ I h => Calls.Constant_str ⟨⟨.str x, H, I.tok _, ⟨_, rfl⟩, h⟩, Nat.succ_le_succ (Nat.zero_le _)⟩
theorem pek_opR {op : Operator} {r : R2} (ho : OpR X (binaryOp op) r) (ha : PE X e te) (hb : PEk X f tf) : PEk X (.BinOp e op f pos) (tOp r te tf) := by
  intro pins s σ H Q I h
  refine wpAny_BinOp (thn (ha.run pins s σ H _ I h) fun v s1 ⟨x, H1, I1, r1, q1⟩ => ?_)
  refine thn (hb pins s1 σ H1 _ I1 q1) fun u s2 ⟨⟨y, H2, I2, r2, q2⟩, k⟩ => ?_
  exact wpAny_mono (wpAny_toks (ho pins s2 σ H2 x y v u Q I2 r1 r2 q2)) (fun z s3 ⟨k3, q3⟩ => ⟨q3, Nat.le_trans k k3⟩) fun _ _ z => z.2
theorem pek_opL {op : Operator} {r : R2} (ho : OpR X (binaryOp op) r) (ha : PEk X e te) (hb : PE X f tf) : PEk X (.BinOp e op f pos) (tOp r te tf) := by
  intro pins s σ H Q I h
  refine wpAny_BinOp (thn (ha pins s σ H _ I h) fun v s1 ⟨⟨x, H1, I1, r1, q1⟩, k⟩ => ?_)
  refine wpAny_mono (wpAny_toks (hb.run pins s1 σ H1 _ I1 q1)) (fun u s2 ⟨k2, y, H2, I2, r2, q2⟩ => ?_) fun _ _ z => z.2
  exact wpAny_mono (wpAny_toks (ho pins s2 σ H2 x y v u Q I2 r1 r2 q2)) (fun z s3 ⟨k3, q3⟩ => ⟨q3, Nat.le_trans k (Nat.le_trans k2 k3)⟩) fun _ _ z => z.2
theorem pa_consK (ha : PEk X e te) (hr : PAT X es ta) (hs : starEach (e :: es) X.env = (false, eval e X.env) :: starEach es X.env := by rfl) : PA X (e :: es) (tCons te ta) := by
  refine ⟨fun pos pins s σ H Q I h => ?_⟩
  rw [hs]
  show wpAny _ _ (spliced ((false, eval e X.env) :: backTo pos (starEach es X.env))) _ _ s
  refine Calls.spliced_cons (thn (ha pins s σ H _ I h) fun v s1 ⟨⟨x, H1, I1, r1, q1⟩, k⟩ => ?_)
  exact thn (hr pos pins s1 σ H1 _ k I1 q1) fun us s2 ⟨xs, H2, I2, r2, q2⟩ => ⟨x :: xs, H2, I2, .cons r1 r2, q2⟩
theorem pe_joinK {K : PySem.W.Frag} {o : Expr} {to : TE} {apos : Pos} (ho : PE X o to) (he : PE X e te) (hs : starEach [e] X.env = [(false, eval e X.env)] := by rfl) (hbase : attributeBase o "join" X.env (eval o X.env) = eval o X.env := by rfl) (hline : (apos.endLine == pos.line) = true := by rfl) (hK : X.K = K := by rfl) :
    PE X (.Call (.Attribute o "join" apos) [e] [] pos) (tM1 (fun x xs H Q => ∃ a p, ∃ ys : List Str, x = .str a ∧ xs = [.ref p] ∧ (SqL K H p (ys.map V.str) ∨ SqT K H p (ys.map V.str)) ∧
      (ys.map (·.length)).sum + ys.length * a.length ≤ 16777216 ∧ Q (.str (Txt.join a ys)) H) to te) := hK ▸ pe_join ho he hs hbase hline
end
end MG

/-! None in a list of tuples and None -/
namespace MG
open PySem PySem.Spec PyProof.Rows L2
def isNon : Value → Bool
  | .none => true
  | _ => false
def rInNon (K : PySem.W.Frag) : R2 := fun x y H Q => ∃ p xs b, x = .non ∧ y = .ref p ∧ SqL K H p xs ∧ (∀ z ∈ xs, z = .non ∨ ∃ t ys, z = .ref t ∧ H t = some (.tup ys)) ∧ (b = true ↔ V.non ∈ xs) ∧ Q (.bl b) H
theorem any_non : ∀ {xs : List V} {us : List Value}, Vals xs us → (∀ z ∈ xs, z = .non ∨ ∃ t, z = .ref t) → (us.any isNon = true ↔ V.non ∈ xs)
  | _, _, .nil, _ => by simp
  | y :: xs, u :: us, .cons r t, h => by
    rw [List.any_cons, Bool.or_eq_true, any_non t fun z hz => h z (List.mem_cons_of_mem _ hz), List.mem_cons]
    rcases h y (by simp) with rfl | ⟨a, rfl⟩
    · cases r
      simp [isNon]
    · cases r
      simp [isNon]
theorem op_in_non {X : Cx} (hu : X.A.units + 1 < cLine) : OpR X (compareOp .In) (rInNon X.K) := by
  intro pins s σ H x y v u Q I rx ry h
  obtain ⟨p, xs, b, rfl, rfl, hq, hz, hb, q⟩ := h
  cases ry
  cases rx
  obtain ⟨its, r, pl, hl⟩ := I.list hq
  have key : ∀ {xs : List V} {us : List Value}, Vals xs us → (∀ z ∈ xs, z = .non ∨ ∃ t ys, z = .ref t ∧ H t = some (.tup ys)) → ∀ w ∈ us, SeqAt.EqAt X.A.in1 s w .none (isNon w) := by
    intro xs us r h
    induction r with
    | nil => intro w hw; cases hw
    | @cons y u xs us r1 t ih =>
      intro w hw
      rcases List.mem_cons.mp hw with rfl | hw
      · rcases h y (by simp) with rfl | ⟨a, ys, rfl, ha⟩
        · cases r1
          exact SeqAt.EqAt.same _
        · cases r1
          obtain ⟨hz', its, rr, tp⟩ := I.hok a _ ha
          exact SeqAt.EqAt.tuple_none tp hu
      · exact ih (fun z hz => h z (List.mem_cons_of_mem _ hz)) w hw
  refine SeqAt.in_listAt isNon pl.isList (fun w hw => key r hz w (by simpa using hw)) ⟨.bl b, H, I, ?_, q⟩
  have e : its.any isNon = b := by
    have := any_non r fun z hz' => (hz z hz').imp id fun ⟨t, _, e, _⟩ => ⟨t, e⟩
    cases b with
    | true => exact this.mpr (hb.mp rfl)
    | false =>
      cases c : its.any isNon with
      | false => rfl
      | true => exact absurd (hb.mpr (this.mp c)) (by decide)
  show _ = Value.bool b
  rw [← e]
  simp
end MG

/-! == of tuples, decided -/
namespace MGQ
open PySem PySem.Spec PyProof.Rows GQ
section
variable {prog : Program} {w : World} {A : Around} {R : Result → Shared → Prop}
/-- e i: whether the i-th two are equal -/
theorem tuple_eqB (l b : Addr) (items items2 : Array Value) (n n2 : Nat) (dd dd2 : Option Addr) (sl sl2 : Array (Option Value)) (e : Nat → Bool) (I : Nat → Shared → Prop)
    (turn : ∀ i (h1 : i < items.size) (h2 : i < items2.size) s, I i s → wpAny (model prog w) A.in1 (eqBool items[i] items2[i]) (fun r s' => r = e i ∧ I (i + 1) s') (fun e s' => R (.error e) s') s)
    (bad : ∀ i s, i < items.size → i < items2.size → e i = false → I (i + 1) s → R (.ok (.ret (.bool false))) s)
    (fin : ∀ s, (∀ i, i < items.size → i < items2.size → e i = true) → I (min items.size items2.size) s → R (.ok (.ret (.bool (items.size == items2.size)))) s) {s : Shared} (hl1 : s.heap.get? l = some { cls := .type "tuple", dict := dd, data := .seq items n, slots := sl }) (hb1 : s.heap.get? b = some { cls := .type "tuple", dict := dd2, data := .seq items2 n2, slots := sl2 }) (h : I 0 s) :
    wpAny (model prog w) A.in1 (Builtin.«tuple.__eq__» ⟨[.ref l, .ref b], []⟩) (FinOf prog w A R) (fun e s' => R (.error e) s') s := by
  have f2 := AutoSeq1.sub_tuple_tuple
  have hZ : (items.toList.zip items2.toList).length = min items.size items2.size := by simp
  have h0 := h
  obtain ⟨hp, g, d, tk, os⟩ := s
  wp_walk using wpAny_loadPart' hl1, wpAny_loadPart' hb1, wpAny_forIn_list _ (fun rest b s' => (b.1 = none ∧ ∃ i, rest = (items.toList.zip items2.toList).drop i ∧ i ≤ min items.size items2.size ∧ (∀ j, j < i → e j = true) ∧ I i s')) _
  case turn =>
    rintro ⟨y, x⟩ rest b s' ⟨hb', i, hz, hi, he, hI⟩
    have hlt : i < (items.toList.zip items2.toList).length := by
      rcases Nat.lt_or_ge i (items.toList.zip items2.toList).length with h' | h'
      · exact h'
      · rw [List.drop_of_length_le h'] at hz; cases hz
    have h1 : i < items.size := by rw [hZ] at hlt; omega
    have h2 : i < items2.size := by rw [hZ] at hlt; omega
    rw [List.drop_eq_getElem_cons hlt] at hz
    injection hz with hyx hrest
    have hy : y = items[i] := by have := congrArg Prod.fst hyx; simpa using this
    have hx : x = items2[i] := by have := congrArg Prod.snd hyx; simpa using this
    subst hy hx
    refine wpAny_bind (wpAny_mono (turn i h1 h2 s' hI) (fun r s2 q2 => ?_) fun _ _ x => x)
    obtain ⟨hr, q2⟩ := q2
    subst hr
    cases ei : e i with
    | true =>
      wp_walk
      refine ⟨rfl, i + 1, hrest, by omega, fun j hj => ?_, q2⟩
      by_cases hji : j = i
      · rw [hji]; exact ei
      · exact he j (by omega)
    | false =>
      have hB := bad i s2 h1 h2 ei q2
      wp_walk
      exact hB
  case fin =>
    rintro ⟨b1, b2⟩ s' ⟨hb', i, hz, hi, he, hI⟩
    simp only at hb'
    subst hb'
    have hge : min items.size items2.size ≤ i := by
      rcases Nat.lt_or_ge i (items.toList.zip items2.toList).length with h' | h'
      · rw [List.drop_eq_getElem_cons h'] at hz; cases hz
      · rw [hZ] at h'; exact h'
    have hi' : i = min items.size items2.size := by omega
    have hR : R (.ok (.ret (.bool (items.size == items2.size)))) s' := fin s' (fun j h1 h2 => he j (by omega)) (hi' ▸ hI)
    wp_walk
    simpa [Builtin.Tuple.tupleCompareSizes] using hR
  case h =>
    exact ⟨rfl, 0, rfl, Nat.zero_le _, fun j hj => absurd hj (Nat.not_lt_zero j), h0⟩
end
section
variable {prog : Program} {w : World} {A : Around} {E : Value → Shared → Prop} {s : Shared}
theorem rc_tupB {l b : Addr} {items items2 : Array Value} {Q : Value → Shared → Prop} (hu : A.units < cLine) (e : Nat → Bool) (I : Nat → Shared → Prop)
    (hl : s.heap.IsTuple l items) (hb : s.heap.IsTuple b items2)
    (turn : ∀ i (h1 : i < items.size) (h2 : i < items2.size) s, I i s → wpAny (model prog w) A.in1 (eqBool items[i] items2[i]) (fun r s' => r = e i ∧ I (i + 1) s') E s)
    (bad : ∀ i s, i < items.size → i < items2.size → e i = false → I (i + 1) s → Q (.bool false) s)
    (fin : ∀ s, (∀ i, i < items.size → i < items2.size → e i = true) → I (min items.size items2.size) s → Q (.bool (items.size == items2.size)) s) (h : I 0 s) : wpAny (model prog w) A (richCompare .Eq (.ref l) (.ref b)) Q E s := by
  obtain ⟨⟨cls, dd, data, sl⟩, ho, hc, n, hd⟩ := id hl
  obtain ⟨⟨cls2, dd2, data2, sl2⟩, ho2, hc2, n2, hd2⟩ := id hb
  simp only at hc hd hc2 hd2
  subst hc hd hc2 hd2
  refine wpAny_richCompare_same_room (op := .Eq) ⟨_, ho, rfl⟩ ⟨_, ho2, rfl⟩ F.slot_tuple_eq (GQ.call_here F.slot_tuple_eq ⟨_, ho, rfl⟩ F.entry_tuple_eq (F.args_tuple_eq_2 _ _) ?_) hu
  exact tuple_eqB (R := wants (fun v s' => v ≠ .notImplemented ∧ Q v s') E) l b items items2 n n2 dd dd2 sl sl2 e I turn (fun i s' h1 h2 he q => ⟨(fun x => nomatch x), bad i s' h1 h2 he q⟩) (fun s' he q => ⟨(fun x => nomatch x), fin s' he q⟩) ho ho2 h
end
end MGQ
namespace MG
open PySem PySem.Spec PyProof.Rows L2
abbrev Eqb := V → V → Hp → Bool → Prop
def MonB (D : Eqb) : Prop := ∀ x y H H' b, Ext H H' → D x y H b → D x y H' b
def ReflB (D : Eqb) : Prop := ∀ x H b, D x x H b → b = true
def EqB (X : Cx) (n : Nat) (D : Eqb) : Prop :=
  ∀ (A : Around) (pins : List (Addr × Obj)) (s : Shared) (σ : L2.St) (H : Hp) (x y : V) (u v : Value) (b : Bool), Sub X n A → Inv X pins σ H s → RelV x u → RelV y v → D x y H b →
    wpAny (model X.prog X.w) A (eqBool u v) (fun r s' => r = b ∧ ∃ H', Inv X pins σ H' s' ∧ Ext H H') X.xe s
def RcB (X : Cx) (n : Nat) (D : Eqb) : Prop :=
  ∀ (A : Around) (pins : List (Addr × Obj)) (s : Shared) (σ : L2.St) (H : Hp) (x y : V) (u v : Value) (b : Bool), Sub X n A → Inv X pins σ H s → RelV x u → RelV y v → D x y H b →
    wpAny (model X.prog X.w) A (richCompare .Eq u v) (fun r s' => r = .bool b ∧ ∃ H', Inv X pins σ H' s' ∧ Ext H H') X.xe s
section
variable {X : Cx} {n : Nat} {D : Eqb}
theorem RcB.eqB (h : RcB X n D) (hr : ∀ x y H b, D x y H b → ∃ a c, x = .ref a ∧ y = .ref c) (rf : ReflB D) : EqB X n D := by
  intro A pins s σ H x y u v b sb I rx ry d
  obtain ⟨a, c, rfl, rfl⟩ := hr _ _ _ _ d
  cases rx
  cases ry
  by_cases hab : a = c
  · subst hab
    obtain rfl := rf _ _ _ d
    exact SeqAt.EqAt.same (A := A) (s := s) (.ref a) X.prog X.w X.xe _ ⟨rfl, H, I, Ext.rfl'⟩
  · refine GQ.eqBool_refG hab (wpAny_mono (h A pins s σ H (.ref a) (.ref c) _ _ b sb I rfl rfl d) (fun r s' q => ?_) fun _ _ x => x)
    obtain ⟨hr', q⟩ := q
    exact ⟨b, hr', rfl, q⟩
/-- item by item -/
def DTupB (D : Eqb) : Eqb := fun x y H v => ∃ (a c : Addr) (xs ys : List V) (e : Nat → Bool), x = .ref a ∧ y = .ref c ∧ H a = some (.tup xs) ∧ H c = some (.tup ys) ∧
  (∀ (i : Nat) (p q : V), xs[i]? = some p → ys[i]? = some q → D p q H (e i)) ∧ (v = true ↔ xs.length = ys.length ∧ ∀ i, i < xs.length → i < ys.length → e i = true)
theorem monB_tup (hD : MonB D) : MonB (DTupB D) := fun x y H H' b ex d => by
  obtain ⟨a, c, xs, ys, e, hx, hy, h1, h2, p, hv⟩ := d
  exact ⟨a, c, xs, ys, e, hx, hy, ex _ _ h1, ex _ _ h2, fun i p' q' hp hq => hD _ _ _ _ _ ex (p i p' q' hp hq), hv⟩
theorem rcB_tup (hD : MonB D) (h : EqB X n D) : RcB X (n + 1) (DTupB D) := by
  intro A pins s σ H x y u v b sb I rx ry d
  obtain ⟨a, c, xs, ys, e, rfl, rfl, ha, hc, p, hv⟩ := d
  cases rx
  cases ry
  obtain ⟨its, r, te, z⟩ := I.tuple (SqT.of ha)
  obtain ⟨its2, r2, te2, z2⟩ := I.tuple (SqT.of hc)
  have l1 : its.toArray.size = xs.length := by rw [List.size_toArray, ← r.length]
  have l2 : its2.toArray.size = ys.length := by rw [List.size_toArray, ← r2.length]
  refine MGQ.rc_tupB sb.room.units0 e (fun _ s' => LoopI X pins σ H s') te te2 (fun i h1 h2 s' q => ?_) (fun i s' h1 h2 he q => ⟨?_, q⟩) (fun s' he q => ⟨?_, q⟩) ⟨H, I, Ext.rfl'⟩
  · obtain ⟨H1, I1, e1⟩ := q
    have g1 : its[i]? = some its.toArray[i] := by
      have h1' : i < its.length := by simpa using h1
      rw [List.getElem?_eq_getElem h1'] <;> simp
    have g2 : its2[i]? = some its2.toArray[i] := by
      have h2' : i < its2.length := by simpa using h2
      rw [List.getElem?_eq_getElem h2'] <;> simp
    have k1 : i < xs.length := by omega
    have k2 : i < ys.length := by omega
    obtain ⟨u, hu, ru⟩ := r.get (List.getElem?_eq_getElem k1)
    obtain ⟨v, hv', rv⟩ := r2.get (List.getElem?_eq_getElem k2)
    rw [g1] at hu
    rw [g2] at hv'
    rw [Option.some.inj hu, Option.some.inj hv']
    refine wpAny_mono (h A.in1 pins s' σ H1 _ _ u v (e i) sb.in1 I1 ru rv (hD _ _ _ _ _ e1 (p i _ _ (List.getElem?_eq_getElem k1) (List.getElem?_eq_getElem k2)))) (fun r s2 q => ?_) fun _ _ x => x
    obtain ⟨hr, H2, I2, e2⟩ := q
    exact ⟨hr, H2, I2, e1.trans e2⟩
  · cases b with
    | false => rfl
    | true =>
      have := (hv.mp rfl).2 i (by omega) (by omega)
      rw [he] at this
      cases this
  · rw [l1, l2]
    cases b with
    | true => rw [(hv.mp rfl).1]; simp
    | false =>
      by_cases hl : xs.length = ys.length
      · exact absurd (hv.mpr ⟨hl, fun i h1 h2 => he i (by omega) (by omega)⟩) (by decide)
      · simp [hl]
theorem reflB_tup (hD : ReflB D) : ReflB (DTupB D) := fun x H b d => by
  obtain ⟨a, c, xs, ys, e, rfl, hy, h1, h2, p, hv⟩ := d
  obtain rfl := V.ref.inj hy
  have := h1.symm.trans h2
  cases this
  refine hv.mpr ⟨rfl, fun i hi _ => ?_⟩
  have g := List.getElem?_eq_getElem hi
  exact hD _ _ _ (p i _ _ g g)
theorem tupB_ref : ∀ x y H b, DTupB D x y H b → ∃ a c, x = .ref a ∧ y = .ref c := fun x y H b d => by
  obtain ⟨a, c, xs, ys, e, hx, hy, _⟩ := d
  exact ⟨a, c, hx, hy⟩
/-- what an own == promises of two instances -/
def DInsB (C : Addr) (R : Addr → Addr → Hp → Bool → Prop) : Eqb := fun x y H v => ∃ a b dx dy fs gs, x = .ref a ∧ y = .ref b ∧ H a = some (.ins C dx fs) ∧ H b = some (.ins C dy gs) ∧ R a b H v
def spEqB (R : Addr → Addr → Hp → Bool → Prop) : Sp := fun vs H Q _ => ∃ a b v, vs = [.ref a, .ref b] ∧ R a b H v ∧ ∀ H', Ext H H' → Q (.bl v) H'
theorem rcB_ins {CX : CXT} {C f : Addr} {fd : FuncData} {ps : List Str} {R : Addr → Addr → Hp → Bool → Prop} {E : XK} (F : FnOk X.prog X.w X.K X.mg X.base CX n f fd ps (spEqB R))
    (hs : PySem.W.findIn X.K (.ref C) "__eq__" = some (some (.ref f))) (hf : PySem.W.isFn X.K (.ref f) = true) (hb : Binds X.K fd ps []) (hx : Passes CX X E) : RcB X n (DInsB C R) := by
  intro A pins s σ H x y u v bb sb I rx ry d
  obtain ⟨a, b, dx, dy, fs, gs, rfl, rfl, ha, hb', hr⟩ := d
  cases rx
  cases ry
  obtain ⟨mA, J, _⟩ := ins_get I.hok ha
  obtain ⟨mB, J', _⟩ := ins_get I.hok hb'
  obtain ⟨od, J, _⟩ := J.look
  obtain ⟨od', J', _⟩ := J'.look
  obtain ⟨m, hF⟩ := I.fr
  refine PySem.W.cmp_K (op := .Eq) (tb := .ref C) sb.room.units0 hF I.ok.mod.kin J J'.type (by simp [PySem.W.notFirst]) hs hf ?_
  have hsp : spEqB R [.ref a, .ref b] H (fun v H' => v = .bl bb ∧ Ext H H') E := ⟨a, b, bb, rfl, hr, fun H' e => ⟨rfl, e⟩⟩
  have e0 : Env0 X.prog X.w X.K X.mg X.base A X.stack s H := by
    have e := I.env0
    exact ⟨by rw [sb.fr]; exact e.frames, e.mod, e.bs, e.bsz, e.funs, e.frf, e.hok, e.bare⟩
  have hl := F.len _ _ _ _ hsp
  have r2 : Vals [V.ref a, V.ref b] [Value.ref a, Value.ref b] := .cons rfl (.cons rfl .nil)
  refine wpAny_call (codeAny_mono (F.run A X.stack s H ⟨[.ref a, .ref b], []⟩ [.ref a, .ref b] [.ref a, .ref b] _ E sb.room e0 (by
    have := hb s [.ref a, .ref b] I.kIn (by simpa using hl)
    simpa using this) r2 hsp) fun r s' hq => ?_)
  cases r with
  | error e => exact hx pins σ H s e s' I hq
  | ok fl =>
    cases fl with
    | ret w =>
      obtain ⟨z, H', I', rz, ez, ex⟩ := I.after hq
      subst ez
      cases rz
      exact ⟨rfl, H', I', ex⟩
    | next => exact False.elim hq
    | brk => exact False.elim hq
    | cont => exact False.elim hq
theorem insB_ref {C : Addr} {R : Addr → Addr → Hp → Bool → Prop} : ∀ x y H b, DInsB C R x y H b → ∃ a c, x = .ref a ∧ y = .ref c := fun x y H b d => by
  obtain ⟨a, c, dx, dy, fs, gs, hx, hy, _⟩ := d
  exact ⟨a, c, hx, hy⟩
theorem monB_ins {C : Addr} {R : Addr → Addr → Hp → Bool → Prop} (h : ∀ a b H H' v, Ext H H' → R a b H v → R a b H' v) : MonB (DInsB C R) := fun x y H H' b ex d => by
  obtain ⟨a, c, dx, dy, fs, gs, hx, hy, h1, h2, r⟩ := d
  exact ⟨a, c, dx, dy, fs, gs, hx, hy, ex _ _ h1, ex _ _ h2, h _ _ _ _ _ ex r⟩
/-- x == y as an expression -/
def rEqB (D : Eqb) : R2 := fun x y H Q => ∃ b, D x y H b ∧ ∀ H', Ext H H' → Q (.bl b) H'
theorem op_eqB (h : RcB X n D) (hr : Room n X.A) : OpR X (compareOp .Eq) (rEqB D) := by
  intro pins s σ H x y v u Q I rx ry hq
  obtain ⟨b, d, q⟩ := hq
  show wpAny (model X.prog X.w) X.A (richCompare .Eq v u) (EP X pins σ Q) X.xe s
  refine wpAny_mono (h X.A pins s σ H x y v u b ⟨hr, rfl⟩ I rx ry d) (fun r s' z => ?_) fun _ _ x => x
  obtain ⟨hr', H', I', e⟩ := z
  subst hr'
  exact ⟨.bl b, H', I', rfl, q H' e⟩
end
end MG

/-! x[i] by the class's own __getitem__; the truth of an instance that says nothing of it -/
namespace MG
open PySem PySem.Spec PyProof.Rows L2
structure IxF (P : Program) (w : World) (K : PySem.W.Frag) (mg : Str → Option Value) (base : Heap) (k : Nat) (C : Addr) (sp : Sp) : Prop where
  ex : ∃ (f : Addr) (fd : FuncData) (ps : List Str), PySem.W.findIn K (.ref C) "__getitem__" = some (some (.ref f)) ∧ PySem.W.fnIn K f = true ∧ PySem.W.isFn K (.ref f) = true ∧ FnOk P w K mg base CX0 k f fd ps sp ∧ Binds K fd ps []
def tIxO (C : Addr) (sp : Sp) (ta tb : TE) : TE := fun σ H Q => ta σ H fun x H1 => tb σ H1 fun y H2 => ∃ a dx fs, x = .ref a ∧ H2 a = some (.ins C dx fs) ∧ sp [x, y] H2 Q E0
section
variable {X : Cx} {k j : Nat} {C : Addr} {sp : Sp} {a b : Expr} {ta tb : TE} {pos : Pos}
theorem pe_ixO (o : IxF X.prog X.w X.K X.mg X.base k C sp) (hr : Room j X.A) (hk : k + 1 ≤ j) (ha : PE X a ta) (hb : PE X b tb)
    (hsl : ∀ v u, subscripted b true v u = runValue (.builtin "lifetime.subscript" ⟨[v, u], []⟩) := by intro _ _; rfl) : PE X (.Subscript a b pos) (tIxO C sp ta tb) := by
  obtain ⟨f, fd, ps, hs, hf, hfn, F, bd⟩ := o.ex
  refine ⟨fun pins s σ H Q I h => ?_⟩
  refine Subscript_ (binT ha hb I (R := fun x y H2 => ∃ a dx fs, x = .ref a ∧ H2 a = some (.ins C dx fs) ∧ sp [x, y] H2 Q E0) h fun v u s2 x y H2 I2 rx ry q => ?_)
  obtain ⟨a, dx, fs, rfl, ea, hsp⟩ := q
  cases rx
  obtain ⟨mA, J, _⟩ := ins_get I2.hok ea
  obtain ⟨od, J, _⟩ := J.look
  obtain ⟨m, hF⟩ := I2.fr
  refine PySem.W.sub_K hF I2.ok.mod.kin J hs hf hfn ?_ (hsl _ _)
  have hl := F.len _ _ _ _ hsp
  have r2 : Vals [V.ref a, y] [Value.ref a, u] := .cons rfl (.cons ry .nil)
  refine wpAny_call (codeAny_mono (F.run X.A.in1 X.stack s2 H2 ⟨[.ref a, u], []⟩ [.ref a, u] [.ref a, y] Q E0 ((hr.mono hk).in1) I2.env0.in1 (by
    have := bd s2 [.ref a, u] I2.kIn (by simpa using hl)
    simpa using this) r2 hsp) fun r s' hq => ?_)
  match r, hq with
  | .error e, hq => exact pass0 pins σ H2 s2 e s' I2 hq
  | .ok (.ret z), hq => exact I2.after hq
  | .ok .next, hq => exact False.elim hq
  | .ok .brk, hq => exact False.elim hq
  | .ok .cont, hq => exact False.elim hq
end
open Builtin in
theorem bool_plain {prog : Program} {w : World} {A : Around} {E : Value → Shared → Prop} {s : Shared} {K : PySem.W.Frag} {x C : Addr} {ox : Obj} {od : Option Obj} {m : Str → Option Value} {L : Addr} {h₀ : Heap} {Q : Value → Shared → Prop} (F : Fr h₀ L s.heap m) (X₀ : K.In h₀) (I : PySem.W.InstAt s.heap x ox C od)
    (hs : PySem.W.findIn K (.ref C) "__bool__" = some none) (hn : PySem.W.findIn K (.ref C) "__len__" = some none) (h : Q (.bool true) s) :
    wpAny (model prog w) A (call (.type "bool") [.ref x]) Q E s := by
  refine callType_codes (T := "bool") (Bi := Builtin.«object.__init__») (Q₁ := fun r s₁ => ∃ b, r = .bool b ∧ Q r s₁) PySem.F.called_bool (PySem.F.typeCall_bool_1 _) PySem.F.entry_object_init ?_ ?_
  · refine codeAny_of_tree ?_
    show wpAny _ A.in1.in1 (do checkBuiltinCall "bool.__new__" ⟨[.type "bool", .ref x], []⟩; again (.builtin "bool.__new__" ⟨[.type "bool", .ref x], []⟩)) _ _ s
    refine wpAny_bind (wpAny_of_eq (PySem.F.newCall_bool_1 _) (wpAny_pure ⟨plainId_quiet (by decide +kernel) _, codeAny_builtin PySem.F.entry_bool_new ?_⟩))
    rw [Around.under_plainId (by decide +kernel) _]
    have f1 := PySem.F.conv_sub_bool
    have tr : ∀ {R : Bool → Shared → Prop}, R true s → wpAny (model prog w) A.in1.in1 (truthy (.ref x)) R E s := fun {R} hr => PySem.W.truthy_K0 F X₀ I hs hn hr
    unfold Builtin.«bool.__new__»
    repeat (any_goals (first | assumption | (refine wpAny_bind (m := truthy (.ref x)) (tr ?_)) | wp_step))
    all_goals first | exact wpAny_pure ⟨_, rfl, h⟩ | exact ⟨_, rfl, h⟩ | skip
  · rintro obj s₁ ⟨b, rfl, hq⟩
    exact ⟨PySem.typeIs_bool _ _, PySem.F.args_object_init_2 _ _, object_init_meets PySem.F.called_bool.init.lookup PySem.F.called_bool.made (by decide) prog w A.in1 _ s₁ ⟨PySem.typeIs_bool _ _, rfl, hq⟩⟩
theorem call_boolP {X : Cx} {C : Addr} (hs : PySem.W.findIn X.K (.ref C) "__bool__" = some none) (hn : PySem.W.findIn X.K (.ref C) "__len__" = some none) : CallR X (.type "bool") (fun xs H Q => ∃ a dx fs, xs = [.ref a] ∧ H a = some (.ins C dx fs) ∧ Q (.bl true) H) := by
  intro pins s σ H xs us Q I r h
  obtain ⟨a, dx, fs, rfl, ha, q⟩ := h
  obtain ⟨u, rfl, ru⟩ := vals1 r
  cases ru
  obtain ⟨mA, J, _⟩ := ins_get I.hok ha
  obtain ⟨od, J, _⟩ := J.look
  obtain ⟨m, hF⟩ := I.fr
  exact bool_plain hF I.ok.mod.kin J hs hn ⟨.bl true, H, I, rfl, q⟩
end MG

/-! comprehensions with two clauses, told item by item; t * 1; truths of a list -/
namespace L2
open PySem PySem.Spec PyProof.Rows
theorem tuple_mul1 (l : Addr) (items : Array Value) (n : Nat) (dd : Option Addr) (sl : Array (Option Value)) (u : Tok) :
    Meets (Builtin.«tuple.__mul__» ⟨[.ref l, .int 1 u], []⟩) (fun _ R s => s.heap.get? l = some { cls := .type "tuple", dict := dd, data := .seq items n, slots := sl } ∧
      R (.ok (.ret (Value.ref l))) s) :=
  .of_wp fun prog w A R s h => by
    obtain ⟨hp, g, d, tk, os⟩ := s
    obtain ⟨hl, h⟩ := h
    have f1 := AutoSeq1.idx_int
    wp_walk using wpAny_loadPart' hl
    repeat (first
      | (refine wpAny_ite_true (decide_eq_true (by simp)) ?_; wp_walk using wpAny_loadPart' hl)
      | (refine wpAny_ite_false (decide_eq_false (by decide)) ?_; wp_walk using wpAny_loadPart' hl))
    exact ⟨_, rfl, h⟩
end L2
namespace MG
open PySem PySem.Spec PyProof.Rows L2
section
variable {X : Cx} {K : PySem.W.Frag}
def rRepA (K : PySem.W.Frag) : R2 := fun x y H Q => ∃ l k xs, x = .ref l ∧ y = .int k ∧ SqT K H l xs ∧ xs ≠ [] ∧ 1 ≤ k ∧ k ≤ 1000 ∧ xs.length ≤ 1000 ∧ (k = 1 → Q (.ref l) H) ∧ (k ≠ 1 → ∀ p, H p = none → Q (.ref p) (upd H p (.tup (List.replicate k.toNat xs).flatten)))
theorem op_repTA (hK : X.K = K := by rfl) : OpR X (binaryOp .Mult) (rRepA K) := by
  subst hK
  intro pins s σ H x y v u Q I rx ry h
  obtain ⟨l, k, xs, rfl, rfl, hT, hne, h1, h2, hz, q1, q2⟩ := h
  by_cases hk : k = 1
  · subst hk
    cases rx
    obtain ⟨t, rfl⟩ := ry
    obtain ⟨its, r, ⟨⟨cls, dd, data, sl⟩, ho, hc, n, hd⟩, hs⟩ := I.tuple hT
    simp only at hc hd
    subst hc hd
    refine wpAny_binaryOp_repeat_ref (T := "tuple") (U := "int") (by decide) ⟨_, ho, rfl⟩ (fun s' => typeIs_int s' 1 t) noFill_tuple_mul F.fills_int_mul F.slot_int_rmul repeat_tuple F.slot_int_index.lookup
      (call_meets F.slot_int_rmul (typeIs_int s 1 t) F.entry_int_rmul (F.args_int_rmul_2 _ _) (int_rmul_tuple 1 t l its.toArray n dd sl)
        ⟨ho, rfl, ⟨_, ho, rfl⟩, call_meets F.slot_tuple_mul ⟨_, ho, rfl⟩ F.entry_tuple_mul (F.args_tuple_mul_2 _ _) (tuple_mul1 l its.toArray n dd sl t) ⟨ho, ?_⟩⟩)
    exact ⟨.ref l, H, I, rfl, q1 rfl⟩
  · exact op_repT pins s σ H _ _ v u Q I rx ry ⟨l, k, xs, rfl, rfl, hT, hne, by omega, h2, hz, q2 hk⟩
theorem op_catAK (hK : X.K = K := by rfl) : OpR X (binaryOp .Add) (rCatA K) := hK ▸ op_catA
theorem sl_tupAK (hK : X.K = K := by rfl) : SlR X (rSlA K) := hK ▸ sl_tupA
theorem call_list_ofK (hK : X.K = K := by rfl) : CallR X (.type "list") (fun xs H Q => ∃ p ys, xs = [.ref p] ∧ (SqL K H p ys ∨ SqT K H p ys) ∧ ∀ l, H l = none → Q (.ref l) (upd H l (.lst ys))) := hK ▸ call_list_of
end
/-- two generators, tuples within a tuple, rows of one length: each item by its places -/
theorem lc2_tupF {K : PySem.W.Frag} {te : TE} {i1 j1 : Nat} {σ : L2.St} {H1 : Hp} {D a : Addr} {Q : VK} {rs : List V} (c : Nat) (f : Nat → Nat → V) (ht : H1 a = some (.tup rs)) (hD : H1 D = none) (nij : j1 ≠ i1) (hi1 : i1 < σ.length) (hj1 : j1 < σ.length) (hn : ∀ x ∈ rs, ∃ p xs, x = .ref p ∧ H1 p = some (.tup xs) ∧ xs.length = c) (hc : c ≤ 1000) (hr : rs.length ≤ 1000)
    (hs : ∀ (i j : Nat) (p : Addr) (xs : List V) (y : V) (H : Hp), rs[i]? = some (.ref p) → H1 p = some (.tup xs) → xs[j]? = some y → Same H1 H → te ((((wipe σ [i1, j1]).set i1 (some (.ref p))).set j1 none).set j1 (some y)) H fun v H4 => Same H H4 ∧ v = f i j)
    (k : ∀ H, Same H1 H → H D = some (.lst ((List.range rs.length).flatMap fun i => (List.range c).map (f i))) → Q (.ref D) H) :
    Lc2 (Itt K a) (gName i1) tYes (iTup K (fun σ H Q => ∃ v, σ[i1]? = some (some v) ∧ Q v H)) (gName j1) tYes (tCut te) [i1, j1] [j1] σ H1 Q D := by
  have nD : ∀ {H : Hp} {ys : List V}, Same H1 H → Same H1 (upd H D (.lst ys)) := fun {H ys} s b o e => by
    rw [upd_ne (ne_of_none e hD)]
    exact s _ _ e
  have fl : ∀ i, ((List.range i).flatMap fun i => (List.range c).map (f i)).length = i * c := fun i => by
    induction i with
    | zero => simp
    | succ i ih => rw [List.range_succ, List.flatMap_append, List.length_append, ih, Nat.succ_mul]; simp
  refine ⟨fun i m H => m = rs.length - i ∧ i ≤ rs.length ∧ Same H1 H ∧ H D = some (.lst ((List.range i).flatMap fun i => (List.range c).map (f i))), ⟨rs.length, by simp, Nat.zero_le _, nD (Same.refl H1), upd_same⟩, ?_⟩
  rintro i m H ⟨rfl, hi, s1, e1⟩
  by_cases hlt : i < rs.length
  · refine .inr ⟨(walk_tup (K := K) (a := a) (xs := rs)).goes i H hlt (SqT.of (s1 _ _ ht)), fun H' => Same H1 H' ∧ H' D = some (.lst ((List.range (i + 1)).flatMap fun i => (List.range c).map (f i))), fun H' q => ⟨rs.length - (i + 1), by omega, rfl, hlt, q.1, q.2⟩, fun x H' y => ?_⟩
    obtain ⟨rfl, hx⟩ := (walk_tup (K := K) (a := a) (xs := rs)).yields i H x H' hlt (SqT.of (s1 _ _ ht)) y
    obtain ⟨p, xs, rfl, hp, hxl⟩ := hn x (List.mem_of_getElem? hx)
    refine ⟨?_, ?_⟩
    · show ((((σ.set j1 none).set i1 none).set i1 (some (V.ref p))).set j1 none).set i1 none = (σ.set j1 none).set i1 none
      rw [List.set_set, List.set_comm none none nij, List.set_set, List.set_comm none none nij, List.set_set]
    · unfold tYes
      dsimp only
      rw [if_pos rfl]
      have len1 : i1 < (wipe σ [i1, j1]).length := by rw [wipe_length]; exact hi1
      refine ⟨.ref p, by rw [List.getElem?_set_self len1], p, rfl, ⟨xs, SqT.of (s1 _ _ hp)⟩, ?_⟩
      refine ⟨fun j k H => k = xs.length - j ∧ j ≤ xs.length ∧ Same H1 H ∧ H D = some (.lst (((List.range i).flatMap fun i => (List.range c).map (f i)) ++ (List.range j).map (f i))), ⟨xs.length, by simp, Nat.zero_le _, s1, by simpa using e1⟩, ?_⟩
      rintro j k H ⟨rfl, hj, s2, e2⟩
      by_cases hlj : j < xs.length
      · refine .inr ⟨(walk_tup (K := K) (a := p) (xs := xs)).goes j H hlj (SqT.of (s2 _ _ hp)), fun H' => Same H1 H' ∧ H' D = some (.lst (((List.range i).flatMap fun i => (List.range c).map (f i)) ++ (List.range (j + 1)).map (f i))), fun H' q => ⟨xs.length - (j + 1), by omega, rfl, hlj, q.1, q.2⟩, fun x H' y => ?_⟩
        obtain ⟨rfl, hy⟩ := (walk_tup (K := K) (a := p) (xs := xs)).yields j H x H' hlj (SqT.of (s2 _ _ hp)) y
        refine ⟨wipe_one, ?_⟩
        rw [if_pos rfl]
        refine ⟨_, hs i j p xs x H' hx hp hy s2, ?_⟩
        rintro v H4 ⟨s4, rfl⟩
        refine ⟨_, s4 _ _ e2, Nat.lt_of_le_of_lt (m := 1000 * 1000 + 1000) ?_ (by decide), nD (s2.trans s4), ?_⟩
        · rw [List.length_append, fl, List.length_map, List.length_range]
          have : i * c ≤ 1000 * 1000 := Nat.mul_le_mul (by omega) hc
          omega
        · rw [upd_same, List.range_succ, List.map_append, ← List.append_assoc]
          rfl
      · have e : j = xs.length := by omega
        subst e
        refine .inl ⟨(walk_tup (K := K) (a := p) (xs := xs)).stops H (SqT.of (s2 _ _ hp)), s2, ?_⟩
        rw [e2, hxl, List.range_succ, List.flatMap_append]
        simp
  · have e : i = rs.length := by omega
    subst e
    exact .inl ⟨(walk_tup (K := K) (a := a) (xs := rs)).stops H (SqT.of (s1 _ _ ht)), k H s1 e1⟩
theorem bls_map {α : Type} {ys : List V} {ss : List α} {g : α → Bool} (hl : ys.length = ss.length) (h : ∀ (i : Nat) (y : V) (o : α), ys[i]? = some y → ss[i]? = some o → y = .bl (g o)) : ys = (ss.map g).map V.bl := by
  refine List.ext_getElem? fun i => ?_
  rw [List.getElem?_map, List.getElem?_map]
  by_cases hi : i < ss.length
  · have e1 := List.getElem?_eq_getElem hi
    have e2 := List.getElem?_eq_getElem (l := ys) (i := i) (by omega)
    rw [e1, e2, h i _ _ e2 e1]
    rfl
  · rw [List.getElem?_eq_none (by omega), List.getElem?_eq_none (by omega)]
    rfl
end MG

/-! classmethods called by position, where nothing is raised; t * n; plain texts shown -/
namespace MG
open PySem PySem.Spec PyProof.Rows L2 ClX
section
variable {X : Cx} {k j : Nat} {C : Addr} {m : Str} {sp : Sp} {o e : Expr} {es : List Expr} {pos apos : Pos} {ta : TE} {t : TA} {pl : Sem Bool}
structure CmtF (P : Program) (w : World) (K : PySem.W.Frag) (mg : Str → Option Value) (base : Heap) (k : Nat) (C : Addr) (m : Str) (sp : Sp) : Prop where
  ex : ∃ (p g : Addr) (mc : Value) (fd : FuncData) (ps : List Str), CRead K C mc ∧ CMet K C mc m p g ∧ FnOk P w K mg base CX0 k g fd ps sp ∧ Binds K fd ps []
theorem pe_cmf (c : CmtF X.prog X.w X.K X.mg X.base k C m sp) (hr : Room j X.A) (hk : k ≤ j) (he : PE X o ta) (ha : PA X (e :: es) t)
    (hst : starEach (e :: es) X.env = (false, eval e X.env) :: starEach es X.env := by rfl) (hpl : (backTo pos (starEach es X.env)).any (·.1) = false := by rfl)
    (ht : eval (.Call (.Attribute o m apos) (e :: es) [] pos) X.env = (do
      let ov ← eval o X.env
      standAt apos.atName
      let (f, first) ← holding [ov] (getMethod ov m pl)
      callWith pos f first (backTo pos (starEach (e :: es) X.env)) (backToKw pos (keywordEach [] X.env))) := by rfl) :
    PE X (.Call (.Attribute o m apos) (e :: es) [] pos) (tCMeth C sp E0 ta t) := by
  obtain ⟨p, g, mc, fd, ps, r, cm, F, b⟩ := c.ex
  refine ⟨fun pins s σ H Q I h => ?_⟩
  refine PySem.W.methodCall_KW (pl := pl) (thn (he.run pins s σ H _ I h) fun u s1 ⟨x, H1, I1, rx, ex, q⟩ => ?_) ht
  subst ex
  obtain rfl : u = Value.ref C := rx
  refine getmethcm_ok I1 r cm fun s2 I2 => ?_
  refine callwith_cm I2 (base_none I1 (Nat.le_refl _)) cm.fi (thn (ha.run pos _ s2 σ H1 _ I2 q) fun us s3 ⟨vs, H2, I3, rv, q2⟩ => ⟨⟨pin_at I3, I3.kIn⟩, ?_⟩) hst hpl
  have q3 : sp (.ref C :: vs ++ []) H2 Q E0 := by rw [List.append_nil]; exact q2
  exact after_cm I3 (fun pins H s e s' I hq => hq.elim) ((F.raw b .nil) X.A X.stack s3 H2 (.ref C :: us) (.ref C :: vs) Q E0 (hr.mono hk) I3.env0 (.cons rfl rv) q3)
end
theorem op_eqDK {X : Cx} {K : PySem.W.Frag} (hu : X.A.units + 64 < cLine) (hK : X.K = K := by rfl) : OpR X (compareOp .Eq) (rEqD K) := hK ▸ op_eqD hu
theorem op_neDK {X : Cx} {K : PySem.W.Frag} (hu : X.A.units + 64 < cLine) (hK : X.K = K := by rfl) : OpR X (compareOp .NotEq) (rNeD K) := hK ▸ op_neD hu
theorem rep_all {K : PySem.W.Frag} {G : Hp} {l : Addr} {v : V} {k : Nat} {R : VK} (hl : G l = some (.tup [v])) (k0 : 0 < k) (k1 : k ≤ 1000) (h : ∀ p G', Same G G' → G' p = some (.tup (List.replicate k v)) → R (.ref p) G') : rRepA K (.ref l) (.int (k : Int)) G R := by
  refine ⟨l, k, [v], rfl, rfl, SqT.of hl, by simp, by omega, by omega, by simp, fun e => ?_, fun e p hp => ?_⟩
  · have e1 : k = 1 := by omega
    subst e1
    exact h l G (Same.refl G) hl
  · refine h p _ (MG.Same.new (Same.refl G) hp) ?_
    rw [upd_same]
    congr 2
    simp
theorem Okd.repG {K : PySem.W.Frag} {H : Hp} {x : V} {d : PyData} {n k : Nat} {Q : VK} (o : Okd d n k) (h : Dp K H x d) (hk : k ≤ 60) (hn : n ≤ sizeLine) (q : ∀ z, d.shown = z → Q (.str z) H) : rRepr K [x] H Q :=
  ⟨x, d, rfl, h, o.sh, o.nd, Nat.le_trans o.dp hk, Nat.le_trans o.ln hn, q _ rfl⟩
/-! ### plain texts -/
def Pl (z : Str) : Prop := ∀ c ∈ z.cps.toList, (32 ≤ c ∧ c ≤ 126) ∧ c ≠ 39 ∧ c ≠ 92
theorem pl_ch : ∀ c, c < 127 → (decide (32 ≤ c) && decide (c ≠ 39) && decide (c ≠ 92)) = true → PySem.Builtin.Str.reprChar 39 c = [c] := by decide +kernel
theorem pl_fold : ∀ (l : List Nat) (acc : Array Nat), (∀ c ∈ l, (32 ≤ c ∧ c ≤ 126) ∧ c ≠ 39 ∧ c ≠ 92) → l.foldl (fun out c => out ++ (PySem.Builtin.Str.reprChar 39 c).toArray) acc = acc ++ l.toArray
  | [], acc, _ => by simp
  | c :: r, acc, h => by
    have hc := h c (by simp)
    have e := pl_ch c (by omega) (by simp only [Bool.and_eq_true, decide_eq_true_eq]; omega)
    rw [List.foldl_cons, e, pl_fold r _ fun d hd => h d (List.mem_cons_of_mem _ hd)]
    simp
theorem repr_pl {z : Str} (h : Pl z) : reprText z = ("'" : Str) ++ z ++ ("'" : Str) := by
  have n39 : z.cps.contains 39 = false := by
    cases e : z.cps.contains 39 with
    | false => rfl
    | true =>
      exfalso
      have m : 39 ∈ z.cps := by simpa using e
      exact (h 39 (Array.mem_toList_iff.mpr m)).2.1 rfl
  unfold reprText
  rw [show reprQuote z = 39 by unfold reprQuote; rw [n39]; rfl, ← Array.foldl_toList, pl_fold _ _ h]
  have e1 : ("'" : Str).cps = #[39] := by decide +kernel
  have e2 : (("'" : Str) ++ z ++ ("'" : Str)).cps = #[39] ++ z.cps ++ #[39] := by
    show ("'" : Str).cps ++ z.cps ++ ("'" : Str).cps = _
    rw [e1]
  have e3 : ∀ a b : Str, a.cps = b.cps → a = b := fun a b h => by cases a; cases b; cases h; rfl
  refine e3 _ _ ?_
  rw [e2]
  simp
theorem pl_append {x y : Str} (hx : Pl x) (hy : Pl y) : Pl (x ++ y) := fun c hc => by
  have e : (x ++ y).cps = x.cps ++ y.cps := rfl
  rw [e, Array.toList_append] at hc
  rcases List.mem_append.mp hc with h | h
  · exact hx c h
  · exact hy c h
theorem pl_of (s : String) (h : (s.toList.all fun c => decide ((32 ≤ c.toNat ∧ c.toNat ≤ 126) ∧ c.toNat ≠ 39 ∧ c.toNat ≠ 92)) = true) : Pl (Str.ofString s) := by
  intro c hc
  rw [signs_ofString] at hc
  obtain ⟨d, hd, rfl⟩ := List.mem_map.mp hc
  exact of_decide_eq_true (List.all_eq_true.mp h d hd)
theorem pl_int (i : Int) : Pl (Str.ofString (toString i)) := by
  refine pl_of _ (List.all_eq_true.mpr fun c hc => ?_)
  rcases int_sign i c hc with h | h
  · have := digit_range h
    exact decide_eq_true ⟨⟨by omega, by omega⟩, by omega, by omega⟩
  · rw [h]
    decide
theorem pl_join {y : Str} (ay : Pl y) : ∀ {ps : List Str}, (∀ p ∈ ps, Pl p) → Pl (Str.join y ps)
  | [], _ => fun c hc => by cases hc
  | [p], h => h p (by simp)
  | p :: q :: r, h => by
    show Pl (p ++ y ++ Str.join y (q :: r))
    exact pl_append (pl_append (h p (by simp)) ay) (pl_join ay fun x hx => h x (by simp at hx ⊢; rcases hx with h | h <;> simp [h]))
end MG

/-! several named except clauses; lambdas whose errors have no context, handed to a def -/
namespace MG
open PySem PySem.Spec PyProof.Rows L2 LamX
/-! ### try: .. except x1 as n: .. except x2 as n: .. -/
def wAll (K : PySem.W.Frag) (i len : Nat) (Wz : WX) (D : Ends) : List (Value × (Addr → Value → Option Addr → TS)) → WX
  | [] => Wz
  | p :: r => fun cls d τ G => ∃ b, PySem.W.exmOne K cls p.1 = some b ∧
      (b = true → ∀ a, G a = none → τ.length = len → p.2 a cls d { nx := fun τ' G' => D.nx (τ'.set i none) G', rt := D.rt, bk := fun τ' G' => D.bk (τ'.set i none) G', ct := fun τ' G' => D.ct (τ'.set i none) G' } (τ.set i (some (.ref a))) G) ∧ (b = false → wAll K i len Wz D r cls d τ G)
inductive ClsAs (X : Cx) (n : Str) : List ExceptHandler → List (Value × (Addr → Value → Option Addr → TS)) → Prop
  | nil : ClsAs X n [] []
  | cons {x : Str} {c : Value} {ts : Addr → Value → Option Addr → TS} {b1 : Stmt} {su : List Stmt} {p1 p2 : Pos} {hs : List ExceptHandler} {l : List (Value × (Addr → Value → Option Addr → TS))} (hc : Names X x c)
      (hsu : ∀ (a : Addr) (oe : Obj) (cls : Value) (d : Option Addr) (pn : List (Addr × Obj)), L2N.Zn cls d oe → (∃ vs, oe.data = .fields vs) → PSs (X.suite a ((a, oe) :: pn)) (b1 :: su) (ts a cls d)) (r : ClsAs X n hs l) :
      ClsAs X n (.ExceptHandler (some (.Name x p1)) (some n) (b1 :: su) p2 :: hs) ((c, ts) :: l)
section
variable {X : Cx} {n : Str} {i : Nat} {body : List Stmt} {h1 : ExceptHandler} {hs : List ExceptHandler} {l : List (Value × (Addr → Value → Option Addr → TS))} {pos : Pos} {tb : WX → TS} {Wz : WX}
theorem ps_many_as (hst : X.stack = X.env :: X.outer) (hfr : X.env.frame = some X.env.locals) (hN : X.N.Nodup) (hi : X.N[i]? = some n) (hln : X.env.kindOf n = some .local) (tk : L2N.Takes X Wz)
    (hb : ∀ (W : WX) (pn : List (Addr × Obj)) (xe : Value → Shared → Prop), L2N.Takes (X.tr pn xe) W → PassesOwn (model X.prog X.w) X.A X.env xe → PSs (X.tr pn xe) body (tb W))
    (hh : ClsAs X n (h1 :: hs) l) : PS X (.Try body (h1 :: hs) [] [] pos) (fun D σ H => tb (wAll X.K i X.N.length Wz D l) D σ H) := by
  refine ⟨fun pins s σ H D I h => wpAny_Try_except ?_⟩
  have ok := I.ok
  have fr1 : X.A.frames = some (X.env :: X.outer) := hst ▸ ok.frames
  let xe1 : Value → Shared → Prop := fun e u1 => wpAny (model X.prog X.w) X.A (noteFrame e X.env) (fun _ u2 => wpAny (model X.prog X.w) X.A (setFlight e none) (fun _ u3 => wpAny (model X.prog X.w) X.A (handleBy e X.env (h1 :: hs)) (SP X pins D) X.xe u3) X.xe u2) X.xe u1
  refine wpAny_mono ((hb (wAll X.K i X.N.length Wz D l) (X.pn ++ pins) xe1 (fun u s' xx => ?_) PassesOwn.looking).run [] s σ H D (I.toTry _) h) (fun f t1 ht => ?_) (fun _ _ z => z)
  · obtain ⟨a, B, sI, pins1, σ1, G, cls, d, rfl, J1, nb, up, sky, na, os, ag, wsh⟩ := xx
    have J : Inv X pins σ1 G sI := J1.ofTry ok
    have sky1 : Sky B (X.env :: X.outer) a (L2N.Zn cls d) X.env.locals s'.heap := hst ▸ sky
    show wpAny (model X.prog X.w) X.A (noteFrame (.ref a) X.env) _ _ _
    refine L2N.Sky.land L2N.Zn.steady fr1 hfr sky1 fun k1 fly1 u1 => ?_
    have J2 : Inv X pins σ1 G { s' with heap := k1 } := J.landed nb fly1.1 (up.trans u1) os ag
    obtain ⟨oe1, vs1, he1, hz1, hd1⟩ := fly1.there
    have nfr : a ∉ frs (X.env :: X.outer) := fun hm => by
      obtain ⟨_, o1, e1, z1⟩ := fly1.2.2.1.mem hm
      rw [he1] at e1
      cases e1
      exact z1 _ hd1
    have nL : a ≠ X.env.locals := fun z => nfr (List.mem_filterMap.mpr ⟨X.env, by simp, by rw [hfr, z]⟩)
    have nF : a ∉ X.fs := fun hm => (List.mem_filterMap.mp hm).elim fun e ⟨h2, h3⟩ => nfr (List.mem_filterMap.mpr ⟨e, by simp [h2], h3⟩)
    have S1 := J2.suite he1 hd1 na nL nF
    have lk : PySem.W.Looks (model X.prog X.w) k1 (typeOf (.ref a)) cls := fun A Q E s k q => wpAny_typeOf_ref (k _ _ he1) (hz1.1.symm ▸ q)
    have go : ∀ {hs2 : List ExceptHandler} {l2 : List (Value × (Addr → Value → Option Addr → TS))}, ClsAs X n hs2 l2 → wAll X.K i X.N.length Wz D l2 cls d σ1 G → wpAny (model X.prog X.w) X.A (handleBy (.ref a) X.env hs2) (SP X pins D) X.xe { s' with heap := k1 } := by
      intro hs2 l2 hk
      induction hk with
      | nil =>
        intro wz
        refine wpAny_handleBy_nil ?_
        obtain ⟨_, _, _, oe2, vs2, T2, _, _, he2, hz2, hd2, hv2, _⟩ := id fly1
        unfold PySem.passOn
        refine wpAny_bind (wpAny_field he2 hd2 hv2 ?_)
        rw [if_neg (show ¬ ((Value.ref T2 == Value.none) = true) by simp)]
        have fin : wpAny (model X.prog X.w) X.A (setFlight (.ref a) X.env.frame) (fun _ t4 => wpAny (model X.prog X.w) X.A (throw (.ref a) : Sem Flow) (SP X pins D) X.xe t4) X.xe { s' with heap := k1 } := by
          rw [hfr]
          exact HandSPX.setFlight_upZ fly1 fun k4 hl4 u4 => wpAny_throw (tk _ _ ⟨a, B, sI, pins, σ1, G, cls, d, rfl, J, nb, (up.trans u1).trans u4, .inr (.inr (hst ▸ hl4)), na, os, ag, wz⟩)
        first | exact wpAny_bind (wpAny_pure (wpAny_bind fin)) | exact wpAny_bind fin
      | @cons x c ts b1 su p1 p2 hs3 l3 hc hsu r ih =>
        intro wz
        obtain ⟨b, hb1, yes, no⟩ := wz
        refine wpAny_handleBy_cons (codeAny_handlers_test ?_) nofun
        have LM := PySem.W.exm_one (M := model X.prog X.w) J2.kIn lk hb1
        have test : ∀ {Q : Value → Shared → Prop} {E : Value → Shared → Prop}, Q c { s' with heap := k1 } → wpAny (model X.prog X.w) (X.A.mark (some (.ref a))) (eval (.Name x p1) X.env) Q E { s' with heap := k1 } := fun {Q E} q => by
          rcases hc with ⟨hg, hdb, hm | ⟨hm, hv, hnn⟩⟩
          · exact ld_glob (X := X.suite a ((a, oe1) :: (X.pn ++ pins))) S1 hg hm q hdb
          · exact ld_blt (X := X.suite a ((a, oe1) :: (X.pn ++ pins))) S1 hg hm hv q hnn hdb
        refine test (LM.here ?_)
        match b, yes, no with
        | true, yes, _ =>
          refine codeAny_handlers_suite_as (HandSPX.lands_againZ fly1 fun k4 fly4 u4 => ?_)
          have J4 : Inv X pins σ1 G { s' with heap := k4 } := J.landed nb fly4.1 ((up.trans u1).trans u4) os ag
          obtain ⟨oe4, vs4, he4, hz4, hd4⟩ := fly4.there
          refine store_ok (X := X.suite a ((a, oe4) :: (X.pn ++ pins))) (v := .ref a) (J4.suite he4 hd4 na nL nF) hN hi (.inl hln) rfl (fun t5 S5 => ?_) (.inr hln)
          refine wpAny_mono ((hsu a oe4 cls d (X.pn ++ pins) hz4 ⟨_, hd4⟩).run [] t5 _ G _ S5 (yes rfl a na J.len)) (fun f t6 hf6 => ?_) (fun _ _ z => z.elim)
          have done : ∀ {σ6 : L2.St} {G6 : Hp} {Q : Shared → Prop}, Inv (X.suite a ((a, oe4) :: (X.pn ++ pins))) [] σ6 G6 t6 → (∀ t7, Inv X pins (σ6.set i none) G6 t7 → Q t7) → wpAny (model X.prog X.w) X.A (do bindName X.env n .none; unbindBehindTheSuite X.env n p2) (fun _ t7 => Q t7) X.xe t6 :=
            fun {σ6 G6 Q} S6 hq => gone_ok (S6.unsuite ok) hN hi hln hq
          match f, hf6 with
          | .next, ⟨σ6, G6, S6, q6⟩ => exact done S6 fun t7 J7 => ⟨_, _, J7, q6⟩
          | .brk, ⟨σ6, G6, S6, q6⟩ => exact done S6 fun t7 J7 => ⟨_, _, J7, q6⟩
          | .cont, ⟨σ6, G6, S6, q6⟩ => exact done S6 fun t7 J7 => ⟨_, _, J7, q6⟩
          | .ret u, ⟨v6, σ6, G6, S6, r6, q6⟩ => exact done S6 fun t7 J7 => ⟨_, _, _, J7, r6, q6⟩
        | false, _, no => exact ih (no rfl)
    exact go hh wsh
  · match f, ht with
    | .next, ⟨σ1, G, J1, q⟩ => exact wpAny_execs_nil ⟨σ1, G, J1.ofTry ok, q⟩
    | .brk, ⟨σ1, G, J1, q⟩ => exact ⟨σ1, G, J1.ofTry ok, q⟩
    | .cont, ⟨σ1, G, J1, q⟩ => exact ⟨σ1, G, J1.ofTry ok, q⟩
    | .ret u, ⟨v, σ1, G, J1, r, q⟩ => exact ⟨v, σ1, G, J1.ofTry ok, r, q⟩
/-- what is raised said once for all ways -/
theorem ps_manyAs_cut (hst : X.stack = X.env :: X.outer) (hfr : X.env.frame = some X.env.locals) (hN : X.N.Nodup) (hi : X.N[i]? = some n) (hln : X.env.kindOf n = some .local) (tk : L2N.Takes X Wz)
    (hb : ∀ (W : WX) (pn : List (Addr × Obj)) (xe : Value → Shared → Prop), L2N.Takes (X.tr pn xe) W → PassesOwn (model X.prog X.w) X.A X.env xe → PSs (X.tr pn xe) body (tb W))
    (hh : ClsAs X n (h1 :: hs) l) : PS X (.Try body (h1 :: hs) [] [] pos) (fun D σ H => ∃ Ce : WX, (∀ cls d τ G, Ce cls d τ G → wAll X.K i X.N.length Wz D l cls d τ G) ∧ tb Ce D σ H) :=
  ps_many_as (tb := fun W D σ H => ∃ Ce : WX, (∀ cls d τ G, Ce cls d τ G → W cls d τ G) ∧ tb Ce D σ H) hst hfr hN hi hln tk
    (fun W pn xe t po => ⟨fun pins s σ H D I ⟨Ce, imp, q⟩ => (hb Ce pn xe (t.imp imp) po).run pins s σ H D I q⟩) hh
end
/-! ### lambdas -/
/-- the context of the lambda's body -/
def lamN (X : Cx) (A : Around) (outer : List Env) (s : Shared) (G : Hp) (E : XK) (sc : Scope) (f c : Addr) : Cx :=
  (lamCx X A outer s G E sc f c).tr [] fun e t => wpAny (model X.prog X.w) (A.deeper (lamEnv X sc s.heap.objs.size f c)) (leaving (lamEnv X sc s.heap.objs.size f c) e) (fun _ t2 => L2N.CX X.prog X.w outer G s E e t2) (fun e2 t2 => L2N.CX X.prog X.w outer G s E e2 t2) t
theorem lamN_takes {X : Cx} {A : Around} {outer : List Env} {s : Shared} {G : Hp} {E : XK} {sc : Scope} {f c : Addr} : L2N.Takes (lamN X A outer s G E sc f c) (fun cls d _ H => E cls d H) := L2N.takes_of rfl rfl rfl rfl
section
variable {X : Cx} {pins : List (Addr × Obj)} {σ : L2.St} {H : Hp} {s : Shared}
/-- a(), in the def that was given the lambda -/
theorem pe_actN {CXg : CXT} {Eg : XK} {Ng : List Str} {qg : Str} {sg : Scope} {g f c : Addr} {cdg pm ctv : Value} {ps : Arguments} {bd : Expr} {sc : Scope} {k i : Nat} {a : Str} {pn : List (Addr × Obj)} {xe : Value → Shared → Prop} {W : WX} {tb : XK → TE} {p1 p2 : Pos}
    (I : Inv X pins σ H s) (L : LamS X.env.scope sc) (hf : s.heap.get? f = some (PySem.W.kla_obj "<lambda>" (X.env.qual ++ "<lambda>") ps bd sc (cloFrom X.env.cells sc.names []) pm c ctv)) (hfn : H f = none) (hfs : f ∉ frs X.stack)
    (hbind : bindArgs (PySem.W.kla_fn "<lambda>" (X.env.qual ++ "<lambda>") ps bd sc (cloFrom X.env.cells sc.names []) pm (.ref c) ctv) ⟨[], []⟩ = pure [])
    (tk : L2N.Takes ((cxOf CXg X.prog X.w X.K X.mg X.base Ng qg sg g cdg X.A X.stack s H Eg).tr pn xe) W) (hr : Room (k + 1) (X.A.deeper (envOfC qg sg s.heap.objs.size g cdg)))
    (hbody : ∀ (A : Around) (outer : List Env) (s : Shared) (G : Hp) (E : XK), Room k (A.deeper (lamEnv X sc s.heap.objs.size f c)) → PE (lamN X A outer s G E sc f c) bd (tb E))
    (hN : Ng[i]? = some a) (hv : Vis sg a) (hd : (a == ("__debug__" : Str)) = false := by decide) (hcd : (a == ("__classdict__" : Str)) = false := by decide) :
    PE ((cxOf CXg X.prog X.w X.K X.mg X.base Ng qg sg g cdg X.A X.stack s H Eg).tr pn xe) (.Call (.Name a p1) [] [] p2)
      (fun τ G Q => τ[i]? = some (some (.ref f)) ∧ G c = some (CodeO c (X.env.qual ++ "<lambda>")) ∧ tb (WE W τ) σ G Q) := by
  refine ⟨fun pins1 s1 τ G Q I1 h => ?_⟩
  obtain ⟨hs, hc, ht⟩ := h
  refine wpAny_Call_Name_kw (thn ((pe_var (pos := p1) (i := i) hN hv hd hcd).run pins1 s1 τ G (fun v G2 => v = .ref f ∧ G2 = G) I1 ⟨.ref f, hs, rfl, rfl⟩) fun u s2 ⟨v, G2, I2, r2, ev, eG⟩ => ?_)
  subst ev
  rw [eG] at I2
  cases (show u = Value.ref f from r2)
  have of2 : s2.heap.get? f = some (PySem.W.kla_obj "<lambda>" (X.env.qual ++ "<lambda>") ps bd sc (cloFrom X.env.cells sc.names []) pm c ctv) := I2.base.keep f _ hf hfn hfs (fun z => nomatch (show f ∈ ([] : List Addr) from z))
  refine PySem.W.callWith_F0 ⟨_, _, _, _, of2⟩ ?_
  have un : Un (frs X.stack) [] H G s.heap s2.heap := I2.base
  obtain ⟨⟨oc, vs, t, hoc, hdc, hvc⟩, _, _⟩ := I2.hok c _ hc
  have rc : codeAny (model X.prog X.w) (X.A.deeper (envOfC qg sg s.heap.objs.size g cdg)) (.call (.ref f) ⟨[], []⟩) (CR (L2N.CX X.prog X.w) (envOfC qg sg s.heap.objs.size g cdg :: X.stack) X.prog X.w G s2 Q (WE W τ)) s2 := by
    refine PySem.W.kla_callFunE hr.depth of2 rfl L.co L.gen rfl ⟨c, oc, vs, t, rfl, hoc, hdc, hvc⟩ ?_
    rw [hbind]
    refine wpAny_pure (wpAny_newFunctionEnv (fun y hy => (L.own y hy).2) (fun y hy => absurd hy (by simp)) (fun h1 hns hsb => ⟨I2.nolimit.fresh _ hsb, ?_⟩) L.kind)
    have kp : ∀ b o, s2.heap.get? b = some o → h1.get? b = some o := fun b o e => hsb.extBut b o (Nat.ne_of_lt (Heap.lt_size e)) (Heap.get?_push_of_some _ e)
    have J0 : Inv (lamCx X (X.A.deeper (envOfC qg sg s.heap.objs.size g cdg)) (envOfC qg sg s.heap.objs.size g cdg :: X.stack) s2 G (WE W τ) sc f c) [] σ G { s2 with heap := h1, toks := s2.toks + ([] : List (Str × Value)).length } := lam_start2 I L I2.env0 hr.hd un hns kp
    have J : Inv (lamN X (X.A.deeper (envOfC qg sg s.heap.objs.size g cdg)) (envOfC qg sg s.heap.objs.size g cdg :: X.stack) s2 G (WE W τ) sc f c) [] σ G { s2 with heap := h1, toks := s2.toks + ([] : List (Str × Value)).length } := J0.toTry _
    show codeAny _ _ (.expr bd (lamEnv X sc s2.heap.objs.size f c)) _ _
    exact PySem.W.kla_codeExpr (wpAny_mono ((hbody _ _ s2 G _ (hr.deeper _)).run [] _ _ G Q J ht) (fun v t2 ⟨w2, G3, J3, rv, q⟩ => ⟨w2, G3, J3.os, J3.bare, J3.base, J3.hok, rv, q⟩) fun e t2 q => q)
  refine wpAny_call (codeAny_mono rc fun r t2 q => ?_)
  match r, q with
  | .error e, q => exact L2N.passAt tk τ pins1 G s2 e t2 I2 q
  | .ok (.ret u), q => exact I2.after q
  | .ok .next, q => exact q.elim
  | .ok .brk, q => exact q.elim
  | .ok .cont, q => exact q.elim
/-- the def x(a) that calls what it was given; TT: what it makes of the lambda's reading -/
def GivesN (X : Cx) (Ng : List Str) (x : Str) (sg : Scope) (g : Addr) (cdg : Value) (bg : List Stmt) (a : Str) (q : Str) (k : Nat) (TT : (XK → Hp → VK → Prop) → Hp → VK → Prop) : Prop :=
  ∀ (f c : Addr) (s : Shared) (H : Hp) (Q : VK) (tl : XK → Hp → VK → Prop), Room (k + 1) (X.A.deeper (envOfC x sg s.heap.objs.size g cdg)) →
    (∀ (W : WX) (pn : List (Addr × Obj)) (xe : Value → Shared → Prop) (p1 p2 : Pos), L2N.Takes ((cxOf C8.CX0 X.prog X.w X.K X.mg X.base Ng x sg g cdg X.A X.stack s H C8.E0).tr pn xe) W →
      PE ((cxOf C8.CX0 X.prog X.w X.K X.mg X.base Ng x sg g cdg X.A X.stack s H C8.E0).tr pn xe) (.Call (.Name a p1) [] [] p2) (fun τ G Q => τ[0]? = some (some (.ref f)) ∧ G c = some (CodeO c q) ∧ tl (WE W τ) G Q)) →
    H c = some (CodeO c q) → TT tl H Q → ∃ t, PSs (cxOf C8.CX0 X.prog X.w X.K X.mg X.base Ng x sg g cdg X.A X.stack s H C8.E0).nox bg t ∧ t { nx := fun _ G => Q .non G, rt := Q } (L2.start Ng [.ref f]) H
end
section
variable {X : Cx}
/-- x(lambda: body) -/
theorem pe_lamN {T : List (Addr × Str)} {TT : (XK → Hp → VK → Prop) → Hp → VK → Prop} {x a : Str} {g c P : Addr} {k : Nat} {pg : Arguments} {bg : List Stmt} {sg : Scope} {dV kV doc pm cdv ct oc : Value} {an od : Option Addr} {osl : Array (Option Value)} {Ng : List Str}
    {ps : Arguments} {bd : Expr} {sc : Scope} {t : XK → TE} {p lp pos : Pos} (hg : Gl X x) (hm : X.mg x = some (.ref g)) (hk : PySem.W.keepIn X.K (.ref g) = true)
    (lk : X.K.lookup g = some ⟨oc, od, .func (PySem.W.fnOf x x pg bg sg dV kV doc pm an cdv ct), osl⟩) (hcg : PySem.W.codeIn X.K cdv x = true) (hb : L2.Binds X.K (PySem.W.fnOf x x pg bg sg dV kV doc pm an cdv ct) [a] []) (Sg : FnScope Ng [a] sg) (hNg : Ng[0]? = some a) (hva : Vis sg a)
    (hG : GivesN X Ng x sg g cdv bg a (X.env.qual ++ "<lambda>") k TT)
    (TB : TabB X.base X.mg c P) (hcode : X.env.code = .ref c) (hmT : (P, X.env.qual ++ "<lambda>") ∈ T) (hu : ∀ p ∈ T, p.1 = P → p.2 = X.env.qual ++ "<lambda>") {j : Nat} (hr : Room j X.A) (hj : k + 2 ≤ j) (L : LamS X.env.scope sc) (hdef : defaultsOf ps X.env = ([], []))
    (hbind : ∀ (q : Str) (cl : List (Str × Addr)) (pm cv ctv : Value), bindArgs (PySem.W.kla_fn "<lambda>" q ps bd sc cl pm cv ctv) ⟨[], []⟩ = pure [])
    (hbody : ∀ (A : Around) (outer : List Env) (s : Shared) (H : Hp) (E : XK) (f c1 : Addr), Room k (A.deeper (lamEnv X sc s.heap.objs.size f c1)) → PE (lamN X A outer s H E sc f c1) bd (t E))
    (hdb : (x == ("__debug__" : Str)) = false := by decide) (hd : (a == ("__debug__" : Str)) = false := by decide) (hcd : (a == ("__classdict__" : Str)) = false := by decide) :
    PE X (.Call (.Name x p) [.Lambda ps bd sc lp] [] pos) (tLam T TT t) := by
  refine ⟨fun pins s σ H Q I ⟨hT, h⟩ => wpAny_Call_Name_kw (ld_glob I hg hm ?_ hdb)⟩
  refine PySem.W.callWith_K (h₀ := X.base) I.ok.mod.kin hk ?_ (by rfl) (by rfl)
  show wpAny _ _ (spliced ((false, eval (.Lambda ps bd sc lp) X.env) :: backTo pos (starEach [] X.env))) _ _ s
  refine Calls.spliced_cons (lam_make2 I TB hcode hmT hu hT hdef (L.has I.ok) fun f c1 pm1 ctv1 H1 s1 I1 eN T1 hf hfn hfr hco => Calls.spliced_nil ⟨I1.kIn, ?_⟩)
  have rc : codeAny (model X.prog X.w) X.A (.call (.ref g) ⟨[.ref f], []⟩) (CR C8.CX0 X.stack X.prog X.w H1 s1 Q C8.E0) s1 := by
    refine run_ofS (N := Ng) (ps := [a]) (us := [.ref f]) (vs := [.ref f]) lk hcg Sg (hr.mono hj) I1.env0 (hb s1 [.ref f] I1.kIn rfl) (.cons rfl .nil) rfl fun hr1 => ?_
    obtain ⟨t1, ht1, hq1⟩ := hG f c1 s1 H1 Q (fun E G Q2 => t E σ G Q2) hr1 (fun W pn xe p1 p2 tk => pe_actN (i := 0) I1 L hf hfn hfr (hbind _ _ _ _ _) tk hr1 (fun A outer s H E hr2 => hbody A outer s H E f c1 hr2) hNg hva hd hcd) hco (h H1 eN T1)
    exact ⟨t1, ht1.nox, hq1⟩
  refine wpAny_call (codeAny_mono rc fun r s2 q => ?_)
  match r, q with
  | .error e, q => exact (show False from q).elim
  | .ok (.ret u), q => exact I1.after q
  | .ok .next, q => exact q.elim
  | .ok .brk, q => exact q.elim
  | .ok .cont, q => exact q.elim
end
end MG

/-! the heap without its tables of code objects -/
namespace MG
open PySem PySem.Spec PyProof.Rows L2 LamX
def ntb (H : Hp) : Hp := fun b => match H b with
  | some (.tbl _) => none
  | o => o
theorem nt_some {H : Hp} {b : Addr} {o : HO} (h : H b = some o) (n : ∀ ps, o ≠ .tbl ps := by intro _; nofun) : ntb H b = some o := by
  unfold ntb
  rw [h]
  cases o <;> first | rfl | exact absurd rfl (n _)
theorem nt_of {H : Hp} {b : Addr} {o : HO} (h : ntb H b = some o) : H b = some o ∧ ∀ ps, o ≠ .tbl ps := by
  unfold ntb at h
  split at h
  · cases h
  · rename_i z
    exact ⟨h, fun ps e => z ps (by rw [h, e])⟩
theorem nt_none {H : Hp} {b : Addr} (h : H b = none) : ntb H b = none := by
  unfold ntb
  rw [h]
theorem nt_same {H : Hp} : Same (ntb H) H := fun b o h => (nt_of h).1
theorem nt_idem {H : Hp} : Same (ntb H) (ntb (ntb H)) := fun b o h => nt_some h (nt_of h).2
theorem nt_mono {H H' : Hp} (s : Same H H') : Same (ntb H) (ntb H') := fun b o h => nt_some (s _ _ (nt_of h).1) (nt_of h).2
theorem nt_ext {H H' : Hp} (s : ExtN H H') : Same (ntb H) (ntb H') := fun b o h => nt_some (s _ _ (nt_of h).1 (nt_of h).2) (nt_of h).2
theorem nt_keep {q : Addr} {H H' : Hp} (k : Keep q H H') : Keep q (ntb H) (ntb H') := ⟨fun b o h n => nt_some (k _ _ (nt_of h).1 n) (nt_of h).2, fun x l h => (k.hd x l (nt_of h).1).elim fun l' e => ⟨l', nt_some e⟩⟩
theorem ext_nt {H H' : Hp} (s : Same (ntb H) (ntb H')) : ExtN H H' := fun b o h n => (nt_of (s _ _ (nt_some h n))).1
section
variable {K : PySem.W.Frag} {H : Hp}
theorem rd_nt {a : Addr} {o : HO} (h : Rd H a o) (n : ∀ ps, o ≠ .tbl ps := by intro _; nofun) : Rd (ntb H) a o := by
  rcases h with h | ⟨ob, h⟩
  · exact .inl (nt_some h n)
  · exact .inr ⟨ob, nt_some h⟩
theorem SqL.nt {a : Addr} {xs : List V} (h : SqL K H a xs) : SqL K (ntb H) a xs := h.imp (fun h => rd_nt h) id
theorem SqT.nt {a : Addr} {xs : List V} (h : SqT K H a xs) : SqT K (ntb H) a xs := h.imp (fun h => rd_nt h) id
theorem TyX.nt {x : V} {t : Value} (h : TyX K H x t) : TyX K (ntb H) x t := by
  cases h with
  | base h =>
    cases h with
    | non => exact .base .non
    | bl x => exact .base (.bl x)
    | int i => exact .base (.int i)
    | str x => exact .base (.str x)
    | flt x => exact .base (.flt x)
    | lst e => exact .base (.lst (nt_some e))
    | frz e => exact .base (.frz (nt_some e))
    | tup e => exact .base (.tup (nt_some e))
    | dK e => exact .base (.dK (nt_some e))
    | dT e => exact .base (.dT (nt_some e))
    | ins e cl ha hn htk hm => exact .base (.ins (nt_some e) cl ha hn htk hm)
  | byt b => exact .byt b
  | set e => exact .set (nt_some e)
  | kList e c => exact .kList e c
  | kTuple e c => exact .kTuple e c
  | kDict e c => exact .kDict e c
  | fTuple e => exact .fTuple (nt_some e)
  | fDict e => exact .fDict (nt_some e)
end
end MG

/-! x[i] that raises; classmethods by name that raise; a def whose code object is known; tables kept -/
namespace MG
open PySem PySem.Spec PyProof.Rows L2 ClX LamX
structure IxX (P : Program) (w : World) (K : PySem.W.Frag) (mg : Str → Option Value) (base : Heap) (k : Nat) (C : Addr) (sp : Sp) : Prop where
  ex : ∃ (f : Addr) (fd : FuncData) (ps : List Str), PySem.W.findIn K (.ref C) "__getitem__" = some (some (.ref f)) ∧ PySem.W.fnIn K f = true ∧ PySem.W.isFn K (.ref f) = true ∧ FnOk P w K mg base (L2N.CX P w) k f fd ps sp ∧ Binds K fd ps []
def tIxX (C : Addr) (sp : Sp) (E : L2.St → XK) (ta tb : TE) : TE := fun σ H Q => ta σ H fun x H1 => tb σ H1 fun y H2 => ∃ a dx fs, x = .ref a ∧ H2 a = some (.ins C dx fs) ∧ sp [x, y] H2 Q (E σ)
section
variable {X : Cx} {k j : Nat} {C : Addr} {sp : Sp} {a b : Expr} {ta tb : TE} {pos : Pos} {W : WX}
theorem pe_ixX (o : IxX X.prog X.w X.K X.mg X.base k C sp) (hr : Room j X.A) (hk : k + 1 ≤ j) (tk : L2N.Takes X W) (ha : PE X a ta) (hb : PE X b tb)
    (hsl : ∀ v u, subscripted b true v u = runValue (.builtin "lifetime.subscript" ⟨[v, u], []⟩) := by intro _ _; rfl) : PE X (.Subscript a b pos) (tIxX C sp (WE W) ta tb) := by
  obtain ⟨f, fd, ps, hs, hf, hfn, F, bd⟩ := o.ex
  refine ⟨fun pins s σ H Q I h => ?_⟩
  refine Subscript_ (binT ha hb I (R := fun x y H2 => ∃ a dx fs, x = .ref a ∧ H2 a = some (.ins C dx fs) ∧ sp [x, y] H2 Q (WE W σ)) h fun v u s2 x y H2 I2 rx ry q => ?_)
  obtain ⟨a, dx, fs, rfl, ea, hsp⟩ := q
  cases rx
  obtain ⟨mA, J, _⟩ := ins_get I2.hok ea
  obtain ⟨od, J, _⟩ := J.look
  obtain ⟨m, hF⟩ := I2.fr
  refine PySem.W.sub_K hF I2.ok.mod.kin J hs hf hfn ?_ (hsl _ _)
  have hl := F.len _ _ _ _ hsp
  have r2 : Vals [V.ref a, y] [Value.ref a, u] := .cons rfl (.cons ry .nil)
  refine wpAny_call (codeAny_mono (F.run X.A.in1 X.stack s2 H2 ⟨[.ref a, u], []⟩ [.ref a, u] [.ref a, y] Q (WE W σ) ((hr.mono hk).in1) I2.env0.in1 (by
    have := bd s2 [.ref a, u] I2.kIn (by simpa using hl)
    simpa using this) r2 hsp) fun r s' hq => ?_)
  match r, hq with
  | .error e, hq => exact L2N.passAt tk σ pins H2 s2 e s' I2 hq
  | .ok (.ret z), hq => exact I2.after hq
  | .ok .next, hq => exact False.elim hq
  | .ok .brk, hq => exact False.elim hq
  | .ok .cont, hq => exact False.elim hq
end
section
variable {X : Cx} {k j : Nat} {C p g : Addr} {m : Str} {mc : Value} {sp : Sp} {o e : Expr} {es : List Expr} {pos apos : Pos} {ta : TE} {t : TA} {pl : Sem Bool}
structure CmtKX (P : Program) (w : World) (K : PySem.W.Frag) (mg : Str → Option Value) (base : Heap) (k : Nat) (C : Addr) (m : Str) (sp : Sp) (ks : List Str) (gV : List V → List V → List V) : Prop where
  ex : ∃ (p g : Addr) (mc : Value) (fd : FuncData) (ps : List Str) (gf : List Value → List Value → List Value), CRead K C mc ∧ CMet K C mc m p g ∧ FnOk P w K mg base (L2N.CX P w) k g fd ps sp ∧ KBn K fd ps 1 ks gf gV
def tCMetKS (C : Addr) (sp : Sp) (n : Nat) (gV : List V → List V → List V) (E : L2.St → XK) (ta : TE) (tk : TA) : TE := fun σ H Q => ta σ H fun x H1 => x = .ref C ∧ tk σ H1 fun zs H2 => zs.length = n ∧ sp (gV [.ref C] zs) H2 Q (E σ)
theorem pe_cmtKX {W : WX} {kws : List Keyword} {ks : List Str} {gV : List V → List V → List V} {tk : TA} (c : CmtKX X.prog X.w X.K X.mg X.base k C m sp ks gV) (hr : Room j X.A) (hk : k ≤ j) (tak : L2N.Takes X W) (he : PE X o ta) (hkw : PK X kws tk)
    (hall : (backToKw pos (keywordEach kws X.env)).all (·.1.isSome) = true := by rfl) (hks : (backToKw pos (keywordEach kws X.env)).filterMap (·.1) = ks := by rfl)
    (hpl : ((backTo pos (starEach [] X.env)).any (·.1) || (backToKw pos (keywordEach kws X.env)).any (·.1.isNone)) = false := by rfl)
    (ht : eval (.Call (.Attribute o m apos) [] kws pos) X.env = (do
      let ov ← eval o X.env
      standAt apos.atName
      let (f, first) ← holding [ov] (getMethod ov m pl)
      callWith pos f first (backTo pos (starEach [] X.env)) (backToKw pos (keywordEach kws X.env))) := by rfl) :
    PE X (.Call (.Attribute o m apos) [] kws pos) (tCMetKS C sp ks.length gV (WE W) ta tk) := by
  obtain ⟨p, g, mc, fd, ps, gf, r, cm, F, b⟩ := c.ex
  refine ⟨fun pins s σ H Q I h => ?_⟩
  refine PySem.W.methodCall_KW (pl := pl) (thn (he.run pins s σ H _ I h) fun u s1 ⟨x, H1, I1, rx, ex, q⟩ => ?_) ht
  subst ex
  obtain rfl : u = Value.ref C := rx
  refine getmethcm_ok I1 r cm fun s2 I2 => ?_
  refine PySem.W.callWith_of (P := PySem.W.MethP X.K s1.heap.objs.size g (.ref C)) hpl (PySem.W.keeps_M cm.fi) (PyProof.Rows.evalArgs_kw2_nil hall (thn (hkw.run pos _ s2 σ H1 _ I2 q) fun ws s3 ⟨zs, H2, I3, rz, hl, q2⟩ => ⟨⟨pin_at I3, I3.kIn⟩, ?_⟩))
  rw [hks]
  have hlw : ws.length = ks.length := rz.length.symm.trans hl
  exact after_cm I3 (L2N.passAt tak σ) (F.run X.A X.stack s3 H2 ⟨.ref C :: [], ks.zip ws⟩ (gf [.ref C] ws) (gV [.ref C] zs) Q _ (hr.mono hk) I3.env0 (b.to s3 [.ref C] ws I3.kIn rfl hlw) (b.rel (.cons rfl .nil) rz) q2)
theorem cr_or {f : Value} {r1 r2 : List V → Hp → VK → Prop} (h1 : CallR X f r1) (h2 : CallR X f r2) : CallR X f (fun xs H Q => r1 xs H Q ∨ r2 xs H Q) := fun pins s σ H xs us Q I r h => h.elim (h1 pins s σ H xs us Q I r) (h2 pins s σ H xs us Q I r)
end
/-- a def, its code object known -/
structure FunC (K : PySem.W.Frag) (x qual : Str) (st : Stmt) (f : Addr) (fd : FuncData) (c : Addr) : Prop where
  ex : ∃ (oc : Value) (od : Option Addr) (kV doc pm : Value) (an : Option Addr) (ct : Value) (osl : Array (Option Value)),
    fd = PySem.W.fnOf x qual (defArgs st) (defBody st) (defScope st) .none kV doc pm an (.ref c) ct ∧ K.lookup f = some ⟨oc, od, .func fd, osl⟩ ∧ PySem.W.codeIn K (.ref c) qual = true
theorem fun_okGC {P : Program} {w : World} {K : PySem.W.Frag} {mg : Str → Option Value} {base : Heap} {x qual : Str} {st : Stmt} {f c : Addr} {fd : FuncData} {N ps : List Str} {k : Nat} {sp : Sp} (F : FunC K x qual st f fd c) (S : FnScope N ps (defScope st)) (len : ∀ vs H Q E, sp vs H Q E → vs.length = ps.length)
    (hbody : ∀ (A : Around) (outer : List Env) (s : Shared) (H : Hp) (vs : List V) (Q : VK) (E : XK), Bare (A.deeper (envOfC qual (defScope st) s.heap.objs.size f (.ref c))) → Room k (A.deeper (envOfC qual (defScope st) s.heap.objs.size f (.ref c))) → sp vs H Q E →
      ∃ t, PSs (cxOf CX0 P w K mg base N qual (defScope st) f (.ref c) A outer s H E).nox (defBody st) t ∧ t { nx := fun _ H' => Q .non H', rt := Q } (start N vs) H) : FnG P w K mg base CX0 (k + 1) f fd ps sp := by
  obtain ⟨oc, od, kV, doc, pm, an, ct, osl, rfl, lk, hcd⟩ := F.ex
  refine fnG_of lk hcd S len fun A outer s H vs Q E bare hr hsp => ?_
  obtain ⟨t, h, q⟩ := hbody A outer s H vs Q E bare hr hsp
  exact ⟨t, h.nox, q⟩
/-! ### tables -/
theorem tabs_keep {T : List (Addr × Str)} {q : Addr} {l : List V} {H H' : Hp} (t : Tabs T H) (hq : H q = some (.lst l)) (k : Keep q H H') : Tabs T H' := fun p hp => by
  obtain ⟨ps, h1, h2, h3⟩ := t p hp
  refine ⟨ps, k _ _ h1 fun e => ?_, h2, fun pos cv hc => ?_⟩
  · rw [e, hq] at h1
    cases h1
  · obtain ⟨c, e1, e2⟩ := h3 pos cv hc
    refine ⟨c, e1, k _ _ e2 fun e => ?_⟩
    rw [e, hq] at e2
    cases e2
theorem tabs_hid {T : List (Addr × Str)} {D : Addr} {l : List V} {H : Hp} (t : Tabs T H) (e : H D = some (.lst l)) : Tabs T (hid D H) := fun p hp => by
  obtain ⟨ps, h1, h2, h3⟩ := t p hp
  have n1 : p.1 ≠ D := fun z => by
    rw [z, e] at h1
    cases h1
  refine ⟨ps, by rw [hid_ne n1]; exact h1, h2, fun pos cv hc => ?_⟩
  obtain ⟨c, e1, e2⟩ := h3 pos cv hc
  have n2 : c ≠ D := fun z => by
    rw [z, e] at e2
    cases e2
  exact ⟨c, e1, by rw [hid_ne n2]; exact e2⟩
theorem tabs_sub {T T' : List (Addr × Str)} {H : Hp} (t : Tabs T H) (s : ∀ p ∈ T', p ∈ T) : Tabs T' H := fun p hp => t p (s p hp)
theorem tabs_same {T : List (Addr × Str)} {H H' : Hp} (t : Tabs T H) (s : Same H H') : Tabs T H' := t.ext s
/-- the def that is handed a lambda, as those know it who call it -/
structure AskC (K : PySem.W.Frag) (mg : Str → Option Value) (x a : Str) (st : Stmt) (g : Addr) (fd : FuncData) (cdv : Value) : Prop where
  gl : mg x = some (.ref g)
  kp : PySem.W.keepIn K (.ref g) = true
  ex : ∃ (oc : Value) (od : Option Addr) (kV doc pm : Value) (an : Option Addr) (ct : Value) (osl : Array (Option Value)),
    fd = PySem.W.fnOf x x (defArgs st) (defBody st) (defScope st) .none kV doc pm an cdv ct ∧ K.lookup g = some ⟨oc, od, .func fd, osl⟩ ∧ PySem.W.codeIn K cdv x = true
  b : L2.Binds K fd [a] []
theorem pe_ask {X : Cx} {T : List (Addr × Str)} {TT : (XK → Hp → VK → Prop) → Hp → VK → Prop} {x a : Str} {st : Stmt} {g c P : Addr} {k : Nat} {fd : FuncData} {cdv : Value} {Ng : List Str} {ps : Arguments} {bd : Expr} {sc : Scope} {t : XK → TE} {p lp pos : Pos} (B : AskC X.K X.mg x a st g fd cdv) (hg : Gl X x)
    (Sg : FnScope Ng [a] (defScope st)) (hNg : Ng[0]? = some a) (hva : Vis (defScope st) a) (hG : GivesN X Ng x (defScope st) g cdv (defBody st) a (X.env.qual ++ "<lambda>") k TT)
    (TB : TabB X.base X.mg c P) (hcode : X.env.code = .ref c) (hmT : (P, X.env.qual ++ "<lambda>") ∈ T) (hu : ∀ p ∈ T, p.1 = P → p.2 = X.env.qual ++ "<lambda>") {j : Nat} (hr : Room j X.A) (hj : k + 2 ≤ j) (L : LamS X.env.scope sc) (hdef : defaultsOf ps X.env = ([], []))
    (hbind : ∀ (q : Str) (cl : List (Str × Addr)) (pm cv ctv : Value), bindArgs (PySem.W.kla_fn "<lambda>" q ps bd sc cl pm cv ctv) ⟨[], []⟩ = pure [])
    (hbody : ∀ (A : Around) (outer : List Env) (s : Shared) (H : Hp) (E : XK) (f c1 : Addr), Room k (A.deeper (lamEnv X sc s.heap.objs.size f c1)) → PE (lamN X A outer s H E sc f c1) bd (t E))
    (hdb : (x == ("__debug__" : Str)) = false := by decide) (hd : (a == ("__debug__" : Str)) = false := by decide) (hcd : (a == ("__classdict__" : Str)) = false := by decide) :
    PE X (.Call (.Name x p) [.Lambda ps bd sc lp] [] pos) (tLam T TT t) := by
  obtain ⟨oc, od, kV, doc, pm, an, ct, osl, rfl, lk, hc⟩ := B.ex
  exact pe_lamN hg B.gl B.kp lk hc B.b Sg hNg hva hG TB hcode hmT hu hr hj L hdef hbind hbody hdb hd hcd
end MG

namespace Lw
open PySem PySem.Spec PyProof.Rows L2 MG
abbrev s_InvalidSize___init__ : Stmt := inClass (top 6) 0
abbrev s__law_sign_text : Stmt := top 42
abbrev s__law_odd : Stmt := top 43
section
variable {P : Program} {w : World} {K : PySem.W.Frag} {mg : Str → Option Value} {base : Heap} {C CI : Addr}
/-! ### the error -/
abbrev XnC (P : Program) (w : World) (K : PySem.W.Frag) (mg : Str → Option Value) (base : Heap) (CI : Addr) : Prop := ExcF P w K mg base 2 "InvalidSize" CI "given"
/-! ### what is whole -/
def WholeAt (K : PySem.W.Frag) (H : Hp) (x : V) (b : Bool) : Prop := ∃ t b1 b2, TyX K H x t ∧ PySem.W.kitOne K t (.type "int") = some b1 ∧ PySem.W.kitOne K t (.type "bool") = some b2 ∧ (b1 && !b2) = b
theorem WholeAt.same {H H' : Hp} {x : V} {b : Bool} (h : WholeAt K H x b) (s : Same H H') : WholeAt K H' x b := by
  obtain ⟨t, b1, b2, h1, h2, h3, h4⟩ := h
  exact ⟨t, b1, b2, MG.TyX.same h1 s, h2, h3, h4⟩
theorem whole_int {H : Hp} (i : Int) : WholeAt K H (.int i) true := ⟨_, true, false, tyx_int i, kit_ty (by decide +kernel), kit_ty (by decide +kernel), rfl⟩
/-- the error that carries x is raised -/
def Rsd (CI : Addr) (H : Hp) (x : V) (E : XK) : Prop := ∀ d H', Same H H' → H d = none → H' d = some (.xd [("given", x)]) → E (.ref CI) (some d) H'
theorem Rsd.same {H H' : Hp} {x : V} {E : XK} (h : Rsd CI H x E) (s : Same H H') : Rsd CI H' x E := fun d H2 s2 n e => h d H2 (s.trans s2) (s.free n) e
/-! ### Ratio.__repr__ within an except suite -/
theorem ok_reprH {f : Addr} {fd : FuncData} (F : Fun K "__repr__" "Ratio.__repr__" s_Ratio___repr__ f fd) (T : TxR K mg C) : L2H.FnH P w K mg base CX0 2 f fd ["self"] (spRepr C) := by
  refine fun_okH F sc_Ratio___repr__ (fun vs H Q E h => ?_) (fun cdv A outer s H vs Q E p hr h => ?_)
  · obtain ⟨r, p, rfl, _⟩ := h
    rfl
  · obtain ⟨r, p, rfl, ⟨d1, e1⟩, sn, sd, k⟩ := h
    refine ⟨_, (pss_one (ps_ret (pe_joined (PJ.cons pe_str (PJ.cons (pe_fmt (pe_fld (pv 0) rfl)) (PJ.cons pe_str (PJ.cons (pe_fmt (pe_fld (pv 0) rfl)) (PJ.cons pe_str PJ.nil)))))))), ?_⟩
    have l1 := txt_len sn
    have l2 := txt_len sd
    have z1 : (("Ratio(" : Str)).length = 6 := rfl
    have z2 : ((", " : Str)).length = 2 := rfl
    have z3 : ((")" : Str)).length = 1 := rfl
    refine ⟨_, rfl, ?_, _, rfl, r, C, d1, _, _, rfl, e1, T.cl, T.nT, flds_top p, .inr ⟨_, rfl, log_sm sn, _, rfl, ?_, _, rfl, ?_, _, rfl, r, C, d1, _, _, rfl, e1, T.cl, T.nB, flds_bottom p, .inr ⟨_, rfl, log_sm sd, _, rfl, ?_, _, rfl, ?_, ?_⟩⟩⟩
    · rw [empty_add]; decide
    · rw [empty_add, strLen_append]; exact Nat.le_trans (m := 4000) (by omega) (by decide)
    · rw [empty_add, strLen_append, strLen_append]; exact Nat.le_trans (m := 4000) (by omega) (by decide)
    · rw [empty_add, strLen_append, strLen_append, strLen_append]; exact Nat.le_trans (m := 4000) (by omega) (by decide)
    · rw [empty_add, strLen_append, strLen_append, strLen_append, strLen_append]; exact Nat.le_trans (m := 4000) (by omega) (by decide)
    · rw [empty_add]; exact k
theorem ownH {f : Addr} {fd : FuncData} {ps : List Str} (at_ : PySem.W.findIn K (.ref C) "__repr__" = some (some (.ref f))) (fn : PySem.W.isFn K (.ref f) = true) (F : L2H.FnH P w K mg base CX0 2 f fd ps (spRepr C)) (b : Binds K fd ps []) : OwnH P w K mg base (ownR C) 2 :=
  ⟨C, f, fd, ps, spRepr C, at_, fn, F, b, fun H a t ⟨p, h, s1, s2, e⟩ => ⟨h.elim fun dx e => ⟨dx, _, e⟩, fun H1 s => ⟨a, p, rfl, h.same s, s1, s2, by rw [e], Same.refl H1⟩⟩⟩
/-! ### things of any kind -/
/-- no int, None, text, tuple, list, dict or truth is a Ratio -/
structure Others (K : PySem.W.Frag) (C : Addr) : Prop where
  is : PySem.W.isClsIn K C = true
  ty : PySem.W.typeIn K (.ref C) = some (.type "type")
  non : PySem.W.subIn K (.type "NoneType") (.ref C) = some false
  str : PySem.W.subIn K (.type "str") (.ref C) = some false
  tup : PySem.W.subIn K (.type "tuple") (.ref C) = some false
  lst : PySem.W.subIn K (.type "list") (.ref C) = some false
  bl : PySem.W.subIn K (.type "bool") (.ref C) = some false
  dict : PySem.W.subIn K (.type "dict") (.ref C) = some false
  sst : PySem.W.subIn K (.ref C) (.type "str") = some false
  stu : PySem.W.subIn K (.ref C) (.type "tuple") = some false
def OddAt (K : PySem.W.Frag) (C : Addr) (H : Hp) (x : V) : Prop := ∃ t b1 b2, TyX K H x t ∧ PySem.W.kitOne K t (.type "int") = some b1 ∧ PySem.W.kitOne K t (.type "bool") = some b2 ∧ (b1 && !b2) = false ∧ PySem.W.kitOne K t (.ref C) = some false
/-- what a value is, for tables -/
inductive Sh where
  | num (p : Rat)
  | oth
  | tup (l : List Sh)
instance : Inhabited Sh := ⟨.oth⟩
def NotT (K : PySem.W.Frag) (H : Hp) (x : V) : Prop := ∃ t, TyX K H x t ∧ PySem.W.kitOne K t (.type "tuple") = some false
inductive ShAt (K : PySem.W.Frag) (C : Addr) (H : Hp) : V → Sh → Prop
  | num {x p} : NumAt C H x p → Bd p 43 → NotT K H x → ShAt K C H x (.num p)
  | oth {x} : OddAt K C H x → NotT K H x → ShAt K C H x .oth
  | tup {a xs ss} : H a = some (.tup xs) → xs.length ≤ 100 → ss.length = xs.length → (∀ (i : Nat) (x : V) (s : Sh), xs[i]? = some x → ss[i]? = some s → ShAt K C H x s) → ShAt K C H (.ref a) (.tup ss)
/-- x at H, shown as t (of at most n signs, containers at most k deep); o what it is -/
structure Thing (K : PySem.W.Frag) (C : Addr) (H : Hp) (x : V) (t : Str) (o : Sh) (n k : Nat) : Prop where
  shw : ∃ as k', Shw K (ownR C) 2 H as k' x t ∧ k' ≤ k ∧ ∀ a ∈ as, H a ≠ none
  len : t.length ≤ n
  asc : Asc t
  kd : ShAt K C H x o
theorem OddAt.same {H H' : Hp} {x : V} (h : OddAt K C H x) (s : Same H H') : OddAt K C H' x := by
  obtain ⟨t, b1, b2, h1, h2⟩ := h
  exact ⟨t, b1, b2, MG.TyX.same h1 s, h2⟩
theorem NotT.same {H H' : Hp} {x : V} (h : NotT K H x) (s : Same H H') : NotT K H' x := h.elim fun t h => ⟨t, MG.TyX.same h.1 s, h.2⟩
theorem ShAt.same {H H' : Hp} {x : V} {o : Sh} (h : ShAt K C H x o) (s : Same H H') : ShAt K C H' x o := by
  induction h with
  | num h b n => exact .num (h.same s) b (n.same s)
  | oth h n => exact .oth (h.same s) (n.same s)
  | tup e l1 l2 _ ih => exact .tup (s _ _ e) l1 l2 ih
theorem Thing.same {H H' : Hp} {x : V} {t : Str} {o : Sh} {n k : Nat} (h : Thing K C H x t o n k) (s : Same H H') : Thing K C H' x t o n k := by
  obtain ⟨⟨as, k', h1, h2, h3⟩, h4, h5, h6⟩ := h
  refine ⟨⟨as, k', Shw.same (fun h s => ownR_same h s) h1 s, h2, fun a ha z => ?_⟩, h4, h5, h6.same s⟩
  cases e : H a with
  | none => exact h3 a ha e
  | some o' => exact nomatch (s _ _ e).symm.trans z
theorem Thing.le {H : Hp} {x : V} {t : Str} {o : Sh} {n k n' k' : Nat} (h : Thing K C H x t o n k) (hn : n ≤ n') (hk : k ≤ k') : Thing K C H x t o n' k' := by
  obtain ⟨⟨as, k1, h1, h2, h3⟩, h4, h5, h6⟩ := h
  exact ⟨⟨as, k1, h1, by omega, h3⟩, by omega, h5, h6⟩
theorem asc_of (s : String) (h : (s.toList.all fun c => decide (32 ≤ c.toNat ∧ c.toNat ≤ 126)) = true) : Asc (Str.ofString s) := by
  intro c hc
  rw [signs_ofString] at hc
  obtain ⟨d, hd, rfl⟩ := List.mem_map.mp hc
  exact of_decide_eq_true (List.all_eq_true.mp h d hd)
theorem asc_int (i : Int) : Asc (Str.ofString (toString i)) := by
  refine asc_of _ (List.all_eq_true.mpr fun c hc => ?_)
  rcases int_sign i c hc with h | h
  · have := digit_range h
    exact decide_eq_true ⟨by omega, by omega⟩
  · rw [h]
    decide
end
end Lw

namespace Lw
open PySem PySem.Spec PyProof.Rows L2 MG
section
variable {P : Program} {w : World} {K : PySem.W.Frag} {mg : Str → Option Value} {base : Heap} {C CI : Addr}
abbrev GreatC (P : Program) (w : World) (K : PySem.W.Frag) (mg : Str → Option Value) (base : Heap) : Prop := CalG P w K mg base 4 "_law_great" spGreat []
/-! ### _law_sign_text -/
def spSign : Sp := fun vs H Q _ => ∃ (q : Addr) (n : Nat), vs = [.ref q] ∧ QAt H q n ∧ n + 1 ≤ 100000 ∧ ∀ (z : Str) (H' : Hp), Asc z → z.length = 1 → Keep q H H' → QAt H' q (n + 1) → Q (.str z) H'
theorem at_str {z : Str} (hz : Asc z) {i : Int} (h0 : 0 ≤ i) (h : i < z.length) : ∃ c, atI z.cps.toList i = some c ∧ 32 ≤ c ∧ c ≤ 126 := by
  obtain ⟨j, rfl⟩ := Int.eq_ofNat_of_zero_le h0
  have hl : z.cps.toList.length = z.length := by simp [Str.length]
  have hj : j < z.cps.toList.length := by omega
  exact ⟨z.cps.toList[j], atI_nat (List.getElem?_eq_getElem hj), hz _ (List.getElem_mem hj)⟩
theorem sc__law_sign_text : FnScope ["_law_q", "_law_signs"] ["_law_q"] (defScope s__law_sign_text) := ⟨rfl, rfl, rfl, by decide +kernel, rfl, by decide +kernel, by decide +kernel⟩
theorem ok_sign {f : Addr} {fd : FuncData} (F : Fun K "_law_sign_text" "_law_sign_text" s__law_sign_text f fd) (T : Blt mg) (c_draw : DrawC P w K mg base) : FnG P w K mg base CX0 4 f fd ["_law_q"] spSign := by
  refine fun_okG F sc__law_sign_text (fun vs H Q E h => ?_) (fun cdv A outer s H vs Q E bare hr h => ?_)
  · obtain ⟨q, n, rfl, _⟩ := h
    rfl
  · obtain ⟨q, n, rfl, hq, hn, k⟩ := h
    refine ⟨_, (pss_cons (ps_set (i := 1) sc__law_sign_text.nd rfl (Or.inl rfl) pe_str)
  (pss_one (ps_ret (pe_ix ix_str (pv 1) (pe_cg c_draw bare hr (by decide) rfl (pa_cons (pv 0) (pa_cons (pe_callB (id := "len") call_len_str (by rfl) T.b_len (by decide +kernel) (pa_cons (pv 1) pa_nil)) pa_nil))) (fun _ _ => rfl))))), ?_⟩
    refine ⟨_, rfl, _, rfl, _, rfl, _, rfl, by decide +kernel, q, 93, n, rfl, hq, by omega, by decide, by decide, fun r H1 r0 r1 k1 q1 => ?_⟩
    obtain ⟨c, hc, h1, h2⟩ := at_str (z := Str.ofString " !\"#$&'()*+,-./0123456789:;<=>?@ABCDEFGHIJKLMNOPQRSTUVWXYZ[\\]^_abcdefghijklmnopqrstuvwxyz{|}~") (asc_of _ (by decide +kernel)) r0 (by show r < 93; exact r1)
    refine ⟨_, _, c, rfl, rfl, by decide +kernel, hc, k _ H1 (fun d hd => ?_) rfl k1 q1⟩
    have e : d = c := by simpa using hd
    rw [e]
    exact ⟨h1, h2⟩
abbrev SignC (P : Program) (w : World) (K : PySem.W.Frag) (mg : Str → Option Value) (base : Heap) : Prop := CalG P w K mg base 4 "_law_sign_text" spSign []
/-! ### _law_odd -/
theorem shw_same {H H' : Hp} {as : List Addr} {k : Nat} {x : V} {t : Str} (h : Shw K (ownR C) 2 H as k x t) (s : Same H H') : Shw K (ownR C) 2 H' as k x t := Shw.same (own := ownR C) (fun h s => ownR_same h s) h s
def tn : Nat → Nat
  | 0 => 4
  | m + 1 => 1 + 2 * tn m
def sz : Nat → Nat
  | 0 => 400
  | m + 1 => 2 * sz m + 10
theorem tn_ge : ∀ m, 4 ≤ tn m
  | 0 => Nat.le_refl 4
  | m + 1 => by have := tn_ge m; show 4 ≤ 1 + 2 * tn m; omega
theorem sz_ge : ∀ m, 400 ≤ sz m
  | 0 => Nat.le_refl 400
  | m + 1 => by have := sz_ge m; show 400 ≤ 2 * sz m + 10; omega
theorem hid2_keep {q : Addr} {H H' : Hp} (k : Keep q H H') : Same (hid q (ntb H)) (hid q (ntb H')) := fun b o h => by
  have nq : b ≠ q := fun e => by rw [e, hid_self] at h; cases h
  rw [hid_ne nq] at h ⊢
  exact nt_some (k _ _ (nt_of h).1 nq) (nt_of h).2
def spOdd (K : PySem.W.Frag) (C : Addr) : Nat → Sp
  | 0 => fun _ _ _ _ => False
  | m + 1 => fun vs H Q _ => ∃ (q : Addr) (n : Nat), vs = [.ref q, .int m] ∧ QAt H q n ∧ n + tn m ≤ 100000 ∧
      ∀ (x : V) (t : Str) (o : Sh) (H' : Hp), Keep q H H' → QAt H' q (n + tn m) → Thing K C (hid q (ntb H')) x t o (sz m) (2 * m + 2) → Q x H'
theorem QAt.le {H : Hp} {q : Addr} {n n' : Nat} (h : QAt H q n) (hn : n ≤ n') : QAt H q n' := by
  obtain ⟨c, ns, i, r, t, hq, hc, hz, hl, h1, h2, h3⟩ := h
  exact ⟨c, ns, i, r, t, hq, hc, hz, hl, ⟨h1.1, by omega⟩, h2, ⟨h3.1, by omega⟩⟩
section
variable {H : Hp} {n k : Nat}
theorem thing_non (O : Others K C) : Thing K C H .non "None" .oth 400 2 := ⟨⟨[], 2, .non, Nat.le_refl _, nofun⟩, by decide, asc_of _ (by decide +kernel), .oth ⟨_, false, false, .base .non, kit_ty (by decide +kernel), kit_ty (by decide +kernel), rfl, kit_tr O.is O.ty O.non⟩ ⟨_, .base .non, kit_ty (by decide +kernel)⟩⟩
theorem thing_bl (O : Others K C) (b : Bool) : Thing K C H (.bl b) (if b then "True" else "False") .oth 400 2 := ⟨⟨[], 2, .bl b, Nat.le_refl _, nofun⟩, by cases b <;> decide, by cases b <;> exact asc_of _ (by decide +kernel), .oth ⟨_, true, true, .base (.bl b), kit_ty (by decide +kernel), kit_ty (by decide +kernel), rfl, kit_tr O.is O.ty O.bl⟩ ⟨_, .base (.bl b), kit_ty (by decide +kernel)⟩⟩
theorem thing_str (O : Others K C) {z : Str} (hz : Asc z) (hl : z.length ≤ 3) : Thing K C H (.str z) (reprText z) .oth 400 2 := by
  have l := PySem.StrLaws.reprText_len z fun c hc => by have := (hz c hc).2; omega
  exact ⟨⟨[], 2, .str (Nat.le_trans (m := 60) (by omega) (by decide)), Nat.le_refl _, nofun⟩, by omega, asc_repr hz, .oth ⟨_, false, false, .base (.str z), kit_ty (by decide +kernel), kit_ty (by decide +kernel), rfl, kit_tr O.is O.ty O.str⟩ ⟨_, .base (.str z), kit_ty (by decide +kernel)⟩⟩
theorem int_len {i : Int} (h : i.natAbs < 10 ^ 43) : (Str.ofString (toString i)).length ≤ 400 := by
  rw [PySem.ofString_length]
  exact Nat.le_trans (int_text_length_le (k := 150) (by decide) (Nat.lt_of_lt_of_le (PySem.Flt.log2_lt_of (k := 150) (by decide) (Nat.lt_of_lt_of_le h (by decide))) (by decide))) (by decide)
theorem thing_int {i : Int} (h : i.natAbs < 10 ^ 43) : Thing K C H (.int i) (toString i) (.num (Rat.divInt i 1)) 400 2 := by
  have sm : Sm i := sm_of (Nat.lt_of_lt_of_le h (Nat.pow_le_pow_right (by decide) (by decide)))
  exact ⟨⟨[], 2, .int (log_sm sm), Nat.le_refl _, nofun⟩, int_len h, asc_int i, .num (.inr ⟨i, rfl, rfl⟩) (bd_div (by decide) h (by decide)) ⟨_, .base (.int i), kit_ty (by decide +kernel)⟩⟩
theorem thing_rat (O : Others K C) {r : Addr} {p : Rat} (T : TxR K mg C) (h : RatAt C H r p) (b : Bd p 3) : Thing K C H (.ref r) (rt p) (.num p) 400 2 := by
  have sn : Sm p.num := b.num (by decide)
  have sd : Sm (p.den : Int) := b.den (by decide)
  refine ⟨⟨[], 2, .own ⟨p, h, sn, sd, rfl⟩ (Nat.le_refl _), Nat.le_refl _, nofun⟩, ?_, ?_, .num (.inl ⟨r, rfl, h⟩) (b.mono (by decide)) ⟨_, h.tyx T, kit_rt (by decide +kernel) O.stu⟩⟩
  · have l1 : (Str.ofString (toString p.num)).length ≤ 20 := by
      rw [PySem.ofString_length]
      exact Nat.le_trans (int_text_length_le (k := 12) (by decide) (Nat.lt_of_lt_of_le (PySem.Flt.log2_lt_of (k := 12) (by decide) (Nat.lt_of_lt_of_le b.1 (by decide))) (by decide))) (by decide)
    have l2 : (Str.ofString (toString (p.den : Int))).length ≤ 20 := by
      rw [PySem.ofString_length]
      exact Nat.le_trans (int_text_length_le (k := 12) (by decide) (Nat.lt_of_lt_of_le (PySem.Flt.log2_lt_of (k := 12) (by decide) (Nat.lt_of_lt_of_le (show (p.den : Int).natAbs < 10 ^ 3 from b.2) (by decide))) (by decide))) (by decide)
    unfold rt
    rw [strLen_append, strLen_append, strLen_append, strLen_append]
    have e1 : (("Ratio(" : Str)).length = 6 := rfl
    have e2 : ((", " : Str)).length = 2 := rfl
    have e3 : ((")" : Str)).length = 1 := rfl
    omega
  · exact asc_append (asc_append (asc_append (asc_append (asc_of _ (by decide +kernel)) (asc_int _)) (asc_of _ (by decide +kernel))) (asc_int _)) (asc_of _ (by decide +kernel))
theorem asc_join {y : Str} (ay : Asc y) : ∀ {ps : List Str}, (∀ p ∈ ps, Asc p) → Asc (Str.join y ps)
  | [], _ => fun c hc => by cases hc
  | [p], h => h p (by simp)
  | p :: q :: r, h => by
    show Asc (p ++ y ++ Str.join y (q :: r))
    exact asc_append (asc_append (h p (by simp)) ay) (asc_join ay fun x hx => h x (by simp at hx ⊢; rcases hx with h | h <;> simp [h]))
theorem sum_le {n : Nat} : ∀ {ts : List Str}, (∀ t ∈ ts, t.length ≤ n) → (ts.map (·.length)).sum ≤ n * ts.length
  | [], _ => by simp
  | t :: ts, h => by
    have h1 := h t (by simp)
    have h2 : (ts.map (·.length)).sum ≤ n * ts.length := sum_le fun e he => h e (List.mem_cons_of_mem _ he)
    rw [List.map_cons, List.sum_cons, List.length_cons, Nat.mul_succ]
    omega
theorem sel_fn {α : Type} [Inhabited α] {n : Nat} {P : Nat → α → Prop} (h : ∀ i, i < n → ∃ q, P i q) : ∃ g : Nat → α, ∀ i, i < n → P i (g i) := by
  classical
  exact ⟨fun i => if hi : i < n then (h i hi).choose else default, fun i hi => by simp only [dif_pos hi]; exact (h i hi).choose_spec⟩
/-- a tuple of things -/
theorem thing_tup {a : Addr} {xs : List V} {ts : List Str} {ss : List Sh} {n k : Nat} (e : H a = some (.tup xs)) (hl : xs.length ≤ 100) (l1 : ts.length = xs.length) (l2 : ss.length = xs.length)
    (h : ∀ (i : Nat) (x : V) (t : Str) (o : Sh), xs[i]? = some x → ts[i]? = some t → ss[i]? = some o → ∃ H0, H0 a = none ∧ Same H0 H ∧ Thing K C H0 x t o n k) : Thing K C H (.ref a) (tupleText ts) (.tup ss) ((n + 2) * xs.length + 3) (k + 2) := by
  have at_ : ∀ i, i < xs.length → ∃ x t o, xs[i]? = some x ∧ ts[i]? = some t ∧ ss[i]? = some o ∧ ∃ H0, H0 a = none ∧ Same H0 H ∧ Thing K C H0 x t o n k := fun i hi => by
    have e1 := List.getElem?_eq_getElem hi
    have e2 := List.getElem?_eq_getElem (l := ts) (i := i) (by omega)
    have e3 := List.getElem?_eq_getElem (l := ss) (i := i) (by omega)
    exact ⟨_, _, _, e1, e2, e3, h i _ _ _ e1 e2 e3⟩
  obtain ⟨g, hg⟩ := sel_fn (α := List Addr) (n := xs.length) (P := fun i as => ∃ x t o, xs[i]? = some x ∧ ts[i]? = some t ∧ ss[i]? = some o ∧ Shw K (ownR C) 2 H as k x t ∧ a ∉ as ∧ (∀ b ∈ as, H b ≠ none) ∧ t.length ≤ n ∧ Asc t ∧ ShAt K C H x o) fun i hi => by
    obtain ⟨x, t, o, e1, e2, e3, H0, n0, s0, ⟨as, k', h1, h2, h3⟩, h4, h5, h6⟩ := at_ i hi
    refine ⟨as, x, t, o, e1, e2, e3, (shw_same h1 s0).more (fun _ h => h) h2, fun z => h3 _ z n0, fun b hb z => ?_, h4, h5, h6.same s0⟩
    cases q : H0 b with
    | none => exact h3 b hb q
    | some o' => exact nomatch (s0 _ _ q).symm.trans z
  have tsP : ∀ t ∈ ts, t.length ≤ n ∧ Asc t := fun t ht => by
    obtain ⟨i, hi⟩ := List.getElem?_of_mem ht
    obtain ⟨x, t', o, e1, e2, e3, _, _, _, h4, h5, _⟩ := hg i (by rw [← l1]; exact (List.getElem?_eq_some_iff.mp hi).1)
    obtain rfl := Option.some.inj (e2.symm.trans hi)
    exact ⟨h4, h5⟩
  refine ⟨⟨a :: (List.range xs.length).flatMap g, k + 2, .tuple (as := (List.range xs.length).flatMap g) (k := k) (SqT.of e) (fun z => ?_) l1 (fun i y u e1 e2 => ?_) (fun b hb => hb) (Nat.le_refl _), Nat.le_refl _, fun b hb => ?_⟩, ?_, ?_, .tup e hl l2 fun i x o e1 e3 => ?_⟩
  · obtain ⟨i, hi, hz⟩ := List.mem_flatMap.mp z
    obtain ⟨_, _, _, _, _, _, _, n1, _⟩ := hg i (List.mem_range.mp hi)
    exact n1 hz
  · have hi := (List.getElem?_eq_some_iff.mp e1).1
    obtain ⟨x, t, o, f1, f2, f3, hs, _⟩ := hg i hi
    obtain rfl := Option.some.inj (e1.symm.trans f1)
    obtain rfl := Option.some.inj (e2.symm.trans f2)
    exact hs.more (fun c hc => List.mem_flatMap.mpr ⟨i, List.mem_range.mpr hi, hc⟩) (Nat.le_refl _)
  · rcases List.mem_cons.mp hb with rfl | hb
    · rw [e]; exact nofun
    · obtain ⟨i, hi, hz⟩ := List.mem_flatMap.mp hb
      obtain ⟨_, _, _, _, _, _, _, _, n2, _⟩ := hg i (List.mem_range.mp hi)
      exact n2 b hz
  · have h1 := sum_le fun t ht => (tsP t ht).1
    have h2 := tupleText_len_le ts
    rw [l1] at h1 h2
    rw [Nat.add_mul]
    omega
  · unfold tupleText
    refine asc_append (asc_append (asc_of _ (by decide +kernel)) (asc_join (asc_of _ (by decide +kernel)) fun t ht => (tsP t ht).2)) ?_
    split <;> exact asc_of _ (by decide +kernel)
  · have hi := (List.getElem?_eq_some_iff.mp e1).1
    obtain ⟨x', t, o', f1, f2, f3, _, _, _, _, _, hk⟩ := hg i hi
    obtain rfl := Option.some.inj (e1.symm.trans f1)
    obtain rfl := Option.some.inj (e3.symm.trans f3)
    exact hk
theorem thing_tup0 (O : Others K C) {a : Addr} (h : H a = some (.tup [])) : Thing K C H (.ref a) (tupleText []) (.tup []) 400 2 :=
  (thing_tup (K := K) (C := C) (n := 0) (k := 0) (ts := []) (ss := []) h (by decide) rfl rfl fun i x t o e => by simp at e).le (by decide) (by decide)
theorem thing_list0 (O : Others K C) {a : Addr} (h : H a = some (.lst [])) : Thing K C H (.ref a) "[]" .oth 400 2 :=
  ⟨⟨[], 2, .list0 (SqL.of h), Nat.le_refl _, nofun⟩, by decide, asc_of "[]" (by decide +kernel), .oth ⟨_, false, false, .base (.lst h), kit_ty (by decide +kernel), kit_ty (by decide +kernel), rfl, kit_tr O.is O.ty O.lst⟩ ⟨_, .base (.lst h), kit_ty (by decide +kernel)⟩⟩
def but (a : Addr) (H : Hp) : Hp := fun b => if b = a then none else H b
theorem but_same (a : Addr) (H : Hp) : Same (but a H) H := fun b o h => by
  unfold but at h
  split at h
  · cases h
  · exact h
theorem thing_dict0 (O : Others K C) {a : Addr} (h : H a = some (.dK [])) : Thing K C H (.ref a) (dictText (kvTxts [] [])) .oth 400 2 :=
  ⟨⟨[a], 2, .dict (H0 := but a H) (as := []) (k := 0) (vts := []) (if_pos rfl) h (but_same a H) nofun rfl (fun i kv h1 => by simp at h1) (fun i kv v h1 _ => by simp at h1) (fun b hb => hb) (Nat.le_refl _), Nat.le_refl _, fun b hb z => by
    have e : b = a := by simpa using hb
    rw [e, h] at z; cases z⟩, by decide, asc_of "{}" (by decide +kernel), .oth ⟨_, false, false, .base (.dK h), kit_ty (by decide +kernel), kit_ty (by decide +kernel), rfl, kit_tr O.is O.ty O.dict⟩ ⟨_, .base (.dK h), kit_ty (by decide +kernel)⟩⟩
/-- a container of one thing -/
theorem tupleText_one (t : Str) : tupleText [t] = ("(" : Str) ++ t ++ (",)" : Str) := by
  unfold tupleText
  rw [join_one]
  rfl
theorem thing_tup1 (O : Others K C) {a : Addr} {x : V} {t : Str} {o : Sh} {n k : Nat} (h : Thing K C H x t o n k) (hn : H a = none) {H' : Hp} (s : Same H H') (e : H' a = some (.tup [x])) : Thing K C H' (.ref a) (tupleText [t]) (.tup [o]) (2 * n + 10) (k + 2) :=
  (thing_tup (K := K) (C := C) (n := n) (k := k) (ts := [t]) (ss := [o]) e (by simp) rfl rfl fun i y u v e1 e2 e3 => by
    match i, e1, e2, e3 with
    | 0, e1, e2, e3 =>
      obtain rfl : x = y := Option.some.inj e1
      obtain rfl : t = u := Option.some.inj e2
      obtain rfl : o = v := Option.some.inj e3
      exact ⟨H, hn, s, h⟩).le (by simp; omega) (Nat.le_refl _)
theorem listText_one (t : Str) : listText [t] = ("[" : Str) ++ t ++ ("]" : Str) := rfl
theorem thing_list1 (O : Others K C) {a : Addr} {x : V} {t : Str} {o : Sh} {n k : Nat} (h : Thing K C H x t o n k) (hn : H a = none) {H' : Hp} (s : Same H H') (e : H' a = some (.lst [x])) : Thing K C H' (.ref a) (listText [t]) .oth (2 * n + 10) (k + 2) := by
  obtain ⟨⟨as, k1, h1, h2, h3⟩, h4, h5, h6⟩ := h
  refine ⟨⟨a :: as, k1 + 2, .list (as := as) (k := k1) (SqL.of e) (fun z => h3 a z hn) rfl (fun i y u e1 e2 => ?_) (fun b hb => hb) (Nat.le_refl _), by omega, fun b hb z => ?_⟩, ?_, ?_, .oth ⟨_, false, false, .base (.lst e), kit_ty (by decide +kernel), kit_ty (by decide +kernel), rfl, kit_tr O.is O.ty O.lst⟩ ⟨_, .base (.lst e), kit_ty (by decide +kernel)⟩⟩
  · match i, e1, e2 with
    | 0, e1, e2 =>
      obtain rfl : x = y := Option.some.inj e1
      obtain rfl : t = u := Option.some.inj e2
      exact shw_same h1 s
  · rcases List.mem_cons.mp hb with rfl | hb
    · rw [e] at z; cases z
    · cases q : H b with
      | none => exact h3 b hb q
      | some o' => exact nomatch (s _ _ q).symm.trans z
  · rw [listText_one, strLen_append, strLen_append]
    have e1 : (("[" : Str)).length = 1 := rfl
    have e2 : (("]" : Str)).length = 1 := rfl
    omega
  · rw [listText_one]
    exact asc_append (asc_append (asc_of _ (by decide +kernel)) h5) (asc_of _ (by decide +kernel))
theorem tupleText_two (t u : Str) : tupleText [t, u] = ("(" : Str) ++ (t ++ (", " : Str) ++ u) ++ (")" : Str) := by
  unfold tupleText
  rw [join_cons_cons, join_one]
  rfl
theorem thing_tup2 (O : Others K C) {a : Addr} {x y : V} {t u : Str} {o o' : Sh} {n k : Nat} (h : Thing K C H x t o n k) (g : Thing K C H y u o' n k) (hn : H a = none) {H' : Hp} (s : Same H H') (e : H' a = some (.tup [x, y])) : Thing K C H' (.ref a) (tupleText [t, u]) (.tup [o, o']) (2 * n + 10) (k + 2) :=
  (thing_tup (K := K) (C := C) (n := n) (k := k) (ts := [t, u]) (ss := [o, o']) e (by simp) rfl rfl fun i z v w e1 e2 e3 => by
    match i, e1, e2, e3 with
    | 0, e1, e2, e3 =>
      obtain rfl : x = z := Option.some.inj e1
      obtain rfl : t = v := Option.some.inj e2
      obtain rfl : o = w := Option.some.inj e3
      exact ⟨H, hn, s, h⟩
    | 1, e1, e2, e3 =>
      obtain rfl : y = z := Option.some.inj e1
      obtain rfl : u = v := Option.some.inj e2
      obtain rfl : o' = w := Option.some.inj e3
      exact ⟨H, hn, s, g⟩).le (by simp; omega) (Nat.le_refl _)
theorem dictText_one (t : Str) : dictText (kvTxts [(Sum.inr "a", (V.non))] [t]) = ("{" : Str) ++ (reprText "a" ++ (": " : Str) ++ t) ++ ("}" : Str) := by
  unfold dictText kvTxts
  rw [List.zipWith_cons_cons, List.zipWith_nil_left, join_one]
  rfl
theorem thing_dict1 (O : Others K C) {a : Addr} {x : V} {t : Str} {o : Sh} {n k : Nat} (h : Thing K C H x t o n k) (hn : H a = none) {H' : Hp} (s : Same H H') (e : H' a = some (.dK [(Sum.inr "a", x)])) : Thing K C H' (.ref a) (dictText (kvTxts [(Sum.inr "a", V.non)] [t])) .oth (2 * n + 10) (k + 2) := by
  obtain ⟨⟨as, k1, h1, h2, h3⟩, h4, h5, h6⟩ := h
  have la : (reprText "a").length = 3 := by decide +kernel
  have e0 : kvTxts [(Sum.inr "a", V.non)] [t] = kvTxts [(Sum.inr "a", x)] [t] := rfl
  refine ⟨⟨a :: as, k1 + 2, ?_, by omega, fun b hb z => ?_⟩, ?_, ?_, .oth ⟨_, false, false, .base (.dK e), kit_ty (by decide +kernel), kit_ty (by decide +kernel), rfl, kit_tr O.is O.ty O.dict⟩ ⟨_, .base (.dK e), kit_ty (by decide +kernel)⟩⟩
  · rw [e0]
    refine .dict (H0 := H) (as := as) (k := k1) (vts := [t]) hn e s (fun z => h3 a z hn) rfl (fun i kv e1 => ?_) (fun i kv v e1 e2 => ?_) (fun b hb => hb) (Nat.le_refl _)
    · match i, e1 with
      | 0, e1 =>
        obtain rfl := Option.some.inj e1
        show (reprText "a").length ≤ sizeLine
        rw [la]
        decide
    · match i, e1, e2 with
      | 0, e1, e2 =>
        obtain rfl := Option.some.inj e1
        obtain rfl : t = v := Option.some.inj e2
        exact h1
  · rcases List.mem_cons.mp hb with rfl | hb
    · rw [e] at z; cases z
    · cases q : H b with
      | none => exact h3 b hb q
      | some o' => exact nomatch (s _ _ q).symm.trans z
  · rw [dictText_one, strLen_append, strLen_append, strLen_append, strLen_append]
    have e1 : (("{" : Str)).length = 1 := rfl
    have e2 : (("}" : Str)).length = 1 := rfl
    have e3 : ((": " : Str)).length = 2 := rfl
    omega
  · rw [dictText_one]
    exact asc_append (asc_append (asc_of _ (by decide +kernel)) (asc_append (asc_append (asc_repr (asc_of "a" (by decide +kernel))) (asc_of _ (by decide +kernel))) h5)) (asc_of _ (by decide +kernel))
end
theorem sc__law_odd : FnScope ["_law_q", "_law_deep", "_law_way", "_law_one"] ["_law_q", "_law_deep"] (defScope s__law_odd) := ⟨rfl, rfl, rfl, by decide +kernel, rfl, by decide +kernel, by decide +kernel⟩
theorem ok_odd {f : Addr} {fd : FuncData} {l : Nat} (F : Fun K "_law_odd" "_law_odd" s__law_odd f fd) (T : TxR K mg C) (O : Others K C) (c_draw : DrawC P w K mg base) (c_great : GreatC P w K mg base) (c_sign : SignC P w K mg base) (m_rat2 : Rat2C P w K mg base C) (hl : 6 ≤ l) (m : Nat)
    (c_odd : CalG P w K mg base l "_law_odd" (spOdd K C m) []) : FnG P w K mg base CX0 (l + 1) f fd ["_law_q", "_law_deep"] (spOdd K C (m + 1)) := by
  refine fun_okG F sc__law_odd (fun vs H Q E h => ?_) (fun cdv A outer s H vs Q E bare hr h => ?_)
  · obtain ⟨q, n, rfl, _⟩ := h
    rfl
  · obtain ⟨q, n, rfl, hq, hn, k⟩ := h
    have t4 := tn_ge m
    have z4 := sz_ge m
    refine ⟨_, (pss_cons (ps_set (i := 2) sc__law_odd.nd rfl (Or.inl rfl) (pe_cg c_draw bare hr (by omega) rfl (pa_cons (pv 0) (pa_cons pe_int pa_nil))))
  (pss_cons (ps_if (pt_cmpR op_lt (pv 2) pe_int (nomark _)) (pss_one (ps_ret (pe_ix (ix_listK (K := K)) (pe_lst (pa_cons pe_non (pa_cons pe_bl (pa_cons pe_bl (pa_cons pe_str (pa_cons pe_int (pa_cons pe_int pa_nil))))))) (pv 2) (fun _ _ => rfl))))
  pss_nil)
  (pss_cons (ps_if (pt_cmpR op_eq (pv 2) pe_int (nomark _)) (pss_one (ps_ret (pe_cg c_great bare hr (by omega) rfl (pa_cons (pv 0) pa_nil))))
  pss_nil)
  (pss_cons (ps_if (pt_cmpR op_eq (pv 2) pe_int (nomark _)) (pss_one (ps_ret (pe_op op_add_str (pe_cg c_sign bare hr (by omega) rfl (pa_cons (pv 0) pa_nil)) (pe_op op_mulStr (pe_cg c_sign bare hr (by omega) rfl (pa_cons (pv 0) pa_nil)) (pe_cg c_draw bare hr (by omega) rfl (pa_cons (pv 0) (pa_cons pe_int pa_nil)))))))
  pss_nil)
  (pss_cons (ps_if (pt_cmpR op_eq (pv 2) pe_int (nomark _)) (pss_one (ps_ret (pe_mkf m_rat2 hr (by omega) rfl (pa_cons (pe_op op_sub (pe_cg c_draw bare hr (by omega) rfl (pa_cons (pv 0) (pa_cons pe_int pa_nil))) pe_int) (pa_cons (pe_op op_add pe_int (pe_cg c_draw bare hr (by omega) rfl (pa_cons (pv 0) (pa_cons pe_int pa_nil)))) pa_nil)))))
  pss_nil)
  (pss_cons (ps_if (PW.pt (pw_or (pt_cmpR op_eq (pv 2) pe_int (nomark _)) (pw_or1 (pt_cmpR op_lt (pv 1) pe_int (nomark _))))) (pss_one (ps_ret (pe_ix (ix_listK (K := K)) (pe_lst (pa_cons (pe_tup pa_nil) (pa_cons (pe_lst pa_nil) (pa_cons pe_dnewK pa_nil)))) (pe_cg c_draw bare hr (by omega) rfl (pa_cons (pv 0) (pa_cons pe_int pa_nil))) (fun _ _ => rfl))))
  pss_nil)
  (pss_cons (ps_set (i := 3) sc__law_odd.nd rfl (Or.inl rfl) (pe_cg c_odd bare hr (by omega) rfl (pa_cons (pv 0) (pa_cons (pe_op op_sub (pv 1) pe_int) pa_nil))))
  (pss_cons (ps_if (pt_cmpR op_eq (pv 2) pe_int (nomark _)) (pss_one (ps_ret (pe_tup (pa_cons (pv 3) pa_nil))))
  pss_nil)
  (pss_cons (ps_if (pt_cmpR op_eq (pv 2) pe_int (nomark _)) (pss_one (ps_ret (pe_lst (pa_cons (pv 3) pa_nil))))
  pss_nil)
  (pss_cons (ps_if (pt_cmpR op_eq (pv 2) pe_int (nomark _)) (pss_one (ps_ret (pe_tup (pa_cons (pv 3) (pa_cons (pe_cg c_odd bare hr (by omega) rfl (pa_cons (pv 0) (pa_cons (pe_op op_sub (pv 1) pe_int) pa_nil))) pa_nil)))))
  pss_nil)
  (pss_one (ps_ret (pe_disp (pps_cons pe_str (pv 3) pps_nil) (by rfl) (by rfl) (fun z => by cases z) (by decide)))))))))))))), ?_⟩
    -- way = draw(q, 14)
    refine ⟨_, rfl, q, 14, n, rfl, hq, by omega, by decide, by decide, fun r H1 r0 r1 k1 q1 => ?_⟩
    have fin : ∀ {x : V} {t : Str} {o : Sh} {H' : Hp} {n' : Nat}, Keep q H H' → QAt H' q n' → n' ≤ n + tn m → Thing K C (hid q (ntb H')) x t o 400 2 → Q x H' := fun k2 q2 hle h => k _ _ _ _ k2 (QAt.le q2 hle) (h.le z4 (by omega))
    -- if way < 6
    refine ⟨_, rfl, _, _, rfl, rfl, _, rfl, ?_⟩
    refine ite2 (fun h6 => ?_) (fun h6 => ?_)
    · have h6' : r < 6 := of_decide_eq_true h6
      refine ⟨by show 6 ≤ sizeLine; decide, fun p hp => ?_⟩
      have kp : Keep q H (upd H1 p (.lst [V.non, .bl true, .bl false, .str "", .int 1, .int 0])) := k1.new hp
      have fin6 : ∀ (x : V) (t : Str) (o : Sh), (∀ H', Thing K C H' x t o 400 2) → Q x (upd H1 p (.lst [V.non, .bl true, .bl false, .str "", .int 1, .int 0])) := fun x t o h => fin kp (q1.new hp) (by omega) (h _)
      have cs : r = 0 ∨ r = 1 ∨ r = 2 ∨ r = 3 ∨ r = 4 ∨ r = 5 := by omega
      rcases cs with rfl | rfl | rfl | rfl | rfl | rfl
      · exact ⟨_, rfl, p, _, _, _, rfl, rfl, SqL.of upd_same, rfl, fin6 _ _ _ fun H' => thing_non O⟩
      · exact ⟨_, rfl, p, _, _, _, rfl, rfl, SqL.of upd_same, rfl, fin6 _ _ _ fun H' => thing_bl O true⟩
      · exact ⟨_, rfl, p, _, _, _, rfl, rfl, SqL.of upd_same, rfl, fin6 _ _ _ fun H' => thing_bl O false⟩
      · exact ⟨_, rfl, p, _, _, _, rfl, rfl, SqL.of upd_same, rfl, fin6 _ _ _ fun H' => thing_str O (asc_of "" (by decide +kernel)) (by decide)⟩
      · exact ⟨_, rfl, p, _, _, _, rfl, rfl, SqL.of upd_same, rfl, fin6 _ _ _ fun H' => thing_int (by decide)⟩
      · exact ⟨_, rfl, p, _, _, _, rfl, rfl, SqL.of upd_same, rfl, fin6 _ _ _ fun H' => thing_int (by decide)⟩
    -- if way == 6
    refine ⟨_, rfl, rfl, _, rfl, ?_⟩
    refine ite2 (fun _ => ?_) (fun _ => ?_)
    · refine ⟨_, rfl, q, n + 1, rfl, q1, by omega, fun z H2 z0 z1 k2 q2 => ?_⟩
      exact fin (k1.trans k2) q2 (by omega) (thing_int (Nat.lt_of_lt_of_le (m := 10 ^ 42) (by omega) (by decide)))
    -- if way == 7
    refine ⟨_, rfl, rfl, _, rfl, ?_⟩
    refine ite2 (fun _ => ?_) (fun _ => ?_)
    · refine ⟨_, rfl, q, n + 1, rfl, q1, by omega, fun z2 H2 a2 l2 k2 q2 => ?_⟩
      refine ⟨_, rfl, q, n + 2, rfl, q2, by omega, fun z3 H3 a3 l3 k3 q3 => ?_⟩
      refine ⟨_, rfl, q, 3, n + 3, rfl, q3, by omega, by decide, by decide, fun r4 H4 r40 r41 k4 q4 => ?_⟩
      have lm := mulT_len (x := z3) (n := r4)
      rw [l3] at lm
      have lm2 : (mulT z3 r4).length ≤ 2 := by omega
      refine ⟨_, _, rfl, rfl, r40, by omega, by omega, _, _, rfl, rfl, Nat.le_trans (m := 3) (by omega) (by decide), ?_⟩
      exact fin (k1.trans (k2.trans (k3.trans k4))) q4 (by omega) (thing_str O (asc_append a2 (mulT_asc a3)) (by rw [strLen_append]; omega))
    -- if way == 8
    refine ⟨_, rfl, rfl, _, rfl, ?_⟩
    refine ite2 (fun _ => ?_) (fun _ => ?_)
    · refine ⟨_, rfl, q, 9, n + 1, rfl, q1, by omega, by decide, by decide, fun r2 H2 r20 r21 k2 q2 => ?_⟩
      refine ⟨_, _, rfl, rfl, ?_⟩
      refine ⟨_, rfl, q, 3, n + 2, rfl, q2, by omega, by decide, by decide, fun r3 H3 r30 r31 k3 q3 => ?_⟩
      refine ⟨_, _, rfl, rfl, ?_⟩
      have kk := k1.trans (k2.trans k3)
      refine make_rat (by omega) (sm_lt (k := 2) (by decide) (by omega) (by omega)) fun x H4 hx s4 h4 => ?_
      have nx : x ≠ q := q3.ne hx
      have h4' : RatAt C (hid q (ntb H4)) x (Rat.divInt (r2 - 4) (1 + r3)) := h4.elim fun dx e => ⟨dx, by rw [hid_ne nx]; exact nt_some (e)⟩
      exact fin (kk.same s4) (q3.keep s4) (by omega) (thing_rat O T h4' (bd_div (by omega) (by omega) (by omega)))
    -- if way == 9 or deep < 1
    refine ⟨_, rfl, rfl, _, rfl, ?_⟩
    refine ite2 (fun _ => ?_) (fun _ => ⟨_, rfl, _, _, rfl, rfl, _, rfl, ite2 (fun _ => ?_) (fun hd => ?_)⟩)
    · refine ⟨by show 0 ≤ sizeLine; decide, fun t ht => ⟨by show 0 ≤ sizeLine; decide, fun l hl => fun d hd => ⟨by show 3 ≤ sizeLine; decide, fun p hp => ?_⟩⟩⟩
      have s2 := MG.Same.new (o := .tup []) (Same.refl H1) ht
      have s3 := MG.Same.new (o := .lst []) (Same.refl _) hl
      have s4 := MG.Same.new (o := .dK []) (Same.refl _) hd
      have s5 := MG.Same.new (o := .lst [V.ref t, .ref l, .ref d]) (Same.refl _) hp
      have q5 := (((q1.keep s2).keep s3).keep s4).keep s5
      have k5 := (((k1.same s2).same s3).same s4).same s5
      refine ⟨_, rfl, q, 3, n + 1, rfl, q5, by omega, by decide, by decide, fun r6 H6 r60 r61 k6 q6 => ?_⟩
      have nt : t ≠ q := q1.ne ht
      have nl : l ≠ q := (q1.keep s2).ne hl
      have nd : d ≠ q := ((q1.keep s2).keep s3).ne hd
      have np : p ≠ q := (((q1.keep s2).keep s3).keep s4).ne hp
      have et : hid q (ntb H6) t = some (.tup []) := by rw [hid_ne nt]; exact nt_some (k6 _ _ (s5 _ _ (s4 _ _ (s3 _ _ upd_same))) nt)
      have el : hid q (ntb H6) l = some (.lst []) := by rw [hid_ne nl]; exact nt_some (k6 _ _ (s5 _ _ (s4 _ _ upd_same)) nl)
      have ed : hid q (ntb H6) d = some (.dK []) := by rw [hid_ne nd]; exact nt_some (k6 _ _ (s5 _ _ upd_same) nd)
      have ep := k6 _ _ upd_same np
      have kk := k5.trans k6
      have cs : r6 = 0 ∨ r6 = 1 ∨ r6 = 2 := by omega
      rcases cs with rfl | rfl | rfl
      · exact ⟨p, _, _, _, rfl, rfl, SqL.of ep, rfl, fin kk q6 (by omega) (thing_tup0 O et)⟩
      · exact ⟨p, _, _, _, rfl, rfl, SqL.of ep, rfl, fin kk q6 (by omega) (thing_list0 O el)⟩
      · exact ⟨p, _, _, _, rfl, rfl, SqL.of ep, rfl, fin kk q6 (by omega) (thing_dict0 O ed)⟩
    · refine ⟨by show 0 ≤ sizeLine; decide, fun t ht => ⟨by show 0 ≤ sizeLine; decide, fun l hl => fun d hd => ⟨by show 3 ≤ sizeLine; decide, fun p hp => ?_⟩⟩⟩
      have s2 := MG.Same.new (o := .tup []) (Same.refl H1) ht
      have s3 := MG.Same.new (o := .lst []) (Same.refl _) hl
      have s4 := MG.Same.new (o := .dK []) (Same.refl _) hd
      have s5 := MG.Same.new (o := .lst [V.ref t, .ref l, .ref d]) (Same.refl _) hp
      have q5 := (((q1.keep s2).keep s3).keep s4).keep s5
      have k5 := (((k1.same s2).same s3).same s4).same s5
      refine ⟨_, rfl, q, 3, n + 1, rfl, q5, by omega, by decide, by decide, fun r6 H6 r60 r61 k6 q6 => ?_⟩
      have nt : t ≠ q := q1.ne ht
      have nl : l ≠ q := (q1.keep s2).ne hl
      have nd : d ≠ q := ((q1.keep s2).keep s3).ne hd
      have np : p ≠ q := (((q1.keep s2).keep s3).keep s4).ne hp
      have et : hid q (ntb H6) t = some (.tup []) := by rw [hid_ne nt]; exact nt_some (k6 _ _ (s5 _ _ (s4 _ _ (s3 _ _ upd_same))) nt)
      have el : hid q (ntb H6) l = some (.lst []) := by rw [hid_ne nl]; exact nt_some (k6 _ _ (s5 _ _ (s4 _ _ upd_same)) nl)
      have ed : hid q (ntb H6) d = some (.dK []) := by rw [hid_ne nd]; exact nt_some (k6 _ _ (s5 _ _ upd_same) nd)
      have ep := k6 _ _ upd_same np
      have kk := k5.trans k6
      have cs : r6 = 0 ∨ r6 = 1 ∨ r6 = 2 := by omega
      rcases cs with rfl | rfl | rfl
      · exact ⟨p, _, _, _, rfl, rfl, SqL.of ep, rfl, fin kk q6 (by omega) (thing_tup0 O et)⟩
      · exact ⟨p, _, _, _, rfl, rfl, SqL.of ep, rfl, fin kk q6 (by omega) (thing_list0 O el)⟩
      · exact ⟨p, _, _, _, rfl, rfl, SqL.of ep, rfl, fin kk q6 (by omega) (thing_dict0 O ed)⟩
    -- one = odd(q, deep - 1)
    have m1 : ¬ ((m : Int) < 1) := fun z => hd (decide_eq_true z)
    obtain ⟨m, rfl⟩ : ∃ m', m = m' + 1 := ⟨m - 1, by omega⟩
    have em : V.int (((m + 1 : Nat) : Int) - 1) = V.int (m : Int) := by
      have : ((m + 1 : Nat) : Int) - 1 = (m : Int) := by omega
      rw [this]
    have et : tn (m + 1) = 1 + 2 * tn m := rfl
    refine ⟨_, rfl, _, rfl, _, _, rfl, rfl, q, n + 1, by show [V.ref q, V.int (((m + 1 : Nat) : Int) - 1)] = _; rw [em], q1, by omega, fun x t o H2 k2 q2 h2 => ?_⟩
    have kk := k1.trans k2
    have cont : ∀ {y : V} {u : Str} {o : Sh} {H' : Hp} {n' : Nat}, Keep q H H' → QAt H' q n' → n' ≤ n + tn (m + 1) → Thing K C (hid q (ntb H')) y u o (2 * sz m + 10) (2 * m + 2 + 2) → Q y H' := fun k2 q2 hle h => k _ _ _ _ k2 (QAt.le q2 hle) (h.le (Nat.le_refl _) (by omega))
    have hids : ∀ {p : Addr} {u : HO}, (∀ ps, u ≠ .tbl ps) → H2 p = none → hid q (ntb H2) p = none ∧ Same (hid q (ntb H2)) (hid q (ntb (upd H2 p u))) ∧ hid q (ntb (upd H2 p u)) p = some u := fun {p u} hu hp => by
      have np : p ≠ q := q2.ne hp
      refine ⟨by rw [hid_ne np]; exact nt_none hp, hid2_keep (Keep.refl.new hp), by rw [hid_ne np]; exact nt_some upd_same hu⟩
    -- if way == 10: return (one,)
    refine ⟨_, rfl, rfl, _, rfl, ?_⟩
    refine ite2 (fun _ => ?_) (fun _ => ?_)
    · refine ⟨_, rfl, by show 1 ≤ sizeLine; decide, fun p hp => ?_⟩
      obtain ⟨e1, e2, e3⟩ := hids (u := .tup [x]) (by intro _; nofun) hp
      exact cont (kk.new hp) (q2.new hp) (by omega) (thing_tup1 O h2 e1 e2 e3)
    -- if way == 11: return [one]
    refine ⟨_, rfl, rfl, _, rfl, ?_⟩
    refine ite2 (fun _ => ?_) (fun _ => ?_)
    · refine ⟨_, rfl, by show 1 ≤ sizeLine; decide, fun p hp => ?_⟩
      obtain ⟨e1, e2, e3⟩ := hids (u := .lst [x]) (by intro _; nofun) hp
      exact cont (kk.new hp) (q2.new hp) (by omega) (thing_list1 O h2 e1 e2 e3)
    -- if way == 12: return (one, odd(q, deep - 1))
    refine ⟨_, rfl, rfl, _, rfl, ?_⟩
    refine ite2 (fun _ => ?_) (fun _ => ?_)
    · refine ⟨_, rfl, _, rfl, _, rfl, _, _, rfl, rfl, q, n + 1 + tn m, by show [V.ref q, V.int (((m + 1 : Nat) : Int) - 1)] = _; rw [em], q2, by omega, fun y u o' H3 k3 q3 h3 => ?_⟩
      refine ⟨by show 2 ≤ sizeLine; decide, fun p hp => ?_⟩
      have np : p ≠ q := q3.ne hp
      exact cont ((kk.trans k3).new hp) (q3.new hp) (by omega) (thing_tup2 O (h2.same (hid2_keep k3)) h3 (by rw [hid_ne np]; exact nt_none hp) (hid2_keep (Keep.refl.new hp)) (by rw [hid_ne np]; exact nt_some (upd_same)))
    -- return {'a': one}
    refine fun p hp => ⟨_, rfl, upd_same, [(Sum.inr "a", x)], rfl, by show 1 ≤ 15; decide, ?_⟩
    have np : p ≠ q := q2.ne hp
    have s1 := MG.Same.new (o := .dK []) (Same.refl H2) hp
    have e0 : upd (upd H2 p (.dK [])) p (.dK (mergeK [] [(Sum.inr "a", x)])) = upd H2 p (.dK [(Sum.inr "a", x)]) := by
      funext b
      by_cases hb : b = p
      · rw [hb, upd_same, upd_same]
        rfl
      · rw [upd_ne hb, upd_ne hb, upd_ne hb]
    rw [e0]
    obtain ⟨e1, e2, e3⟩ := hids (u := .dK [(Sum.inr "a", x)]) (by intro _; nofun) hp
    exact cont (kk.new hp) (q2.new hp) (by omega) (thing_dict1 O h2 e1 e2 e3)
end
end Lw

namespace Lw
open PySem PySem.Spec PyProof.Rows L2 MG
abbrev s__law_digits : Stmt := top 33
abbrev s__law_is_whole : Stmt := top 44
section
variable {P : Program} {w : World} {K : PySem.W.Frag} {mg : Str → Option Value} {base : Heap} {C CI : Addr}
theorem ifF {b : Bool} {A B : Prop} (e : b = false) (h : B) : if b = true then A else B := by rw [e]; exact iteF h
theorem ifT {b : Bool} {A B : Prop} (e : b = true) (h : A) : if b = true then A else B := by rw [e]; exact iteT h
theorem smI {i : Int} {k : Nat} (h : i.natAbs < 10 ^ k) (hk : k ≤ 390) : Sm i := by
  have := nab h
  rw [Int.natCast_pow] at this
  exact sm_lt (k := k) (by omega) this.1 this.2
theorem made_same {H H' : Hp} {x dx : Addr} (hx : H x = none) (hdx : H dx = none) (kp : ∀ c o, (upd (upd H dx (.own x)) x (.ins C dx [])) c = some o → c ≠ x → H' c = some o) : Same H H' := fun c o hc => by
  have n1 := ne_of_none hc hx
  have n2 := ne_of_none hc hdx
  exact kp c o (by rw [upd_ne n1, upd_ne n2]; exact hc) n1
abbrev LowC (P : Program) (w : World) (K : PySem.W.Frag) (mg : Str → Option Value) (base : Heap) : Prop := CalG P w K mg base 4 "_law_lowest" spLowest []
/-- the pair of a fraction -/
def pr (p : Rat) : List V := [.int p.num, .int p.den]
def spDigits (K : PySem.W.Frag) : Sp := fun vs H Q _ => ∃ (t : Addr) (p : Rat), vs = [.ref t] ∧ SqT K H t (pr p) ∧ Sm p.num ∧ Sm (p.den : Int) ∧ Q (.str (dg p)) H
theorem sc__law_digits : FnScope ["_law_pair"] ["_law_pair"] (defScope s__law_digits) := ⟨rfl, rfl, rfl, by decide +kernel, rfl, by decide +kernel, by decide +kernel⟩
theorem ok_digits {f : Addr} {fd : FuncData} (F : Fun K "_law_digits" "_law_digits" s__law_digits f fd) (T : Blt mg) : FnG P w K mg base CX0 2 f fd ["_law_pair"] (spDigits K) := by
  refine fun_okG F sc__law_digits (fun vs H Q E h => ?_) (fun cdv A outer s H vs Q E bare hr h => ?_)
  · obtain ⟨t, p, rfl, _⟩ := h
    rfl
  · obtain ⟨t, p, rfl, ht, sn, sd, k⟩ := h
    refine ⟨_, (pss_one (ps_ret (pe_ifExp (pt_cmpR op_eq (pe_ix (ix_tupK (K := K)) (pv 0) pe_int (fun _ _ => rfl)) pe_int (nomark _)) (pe_callTy call_str_int (by rfl) T.b_str (by decide +kernel) (pa_cons (pe_ix (ix_tupK (K := K)) (pv 0) pe_int (fun _ _ => rfl)) pa_nil)) (pe_op op_add_str (pe_op op_add_str (pe_callTy call_str_int (by rfl) T.b_str (by decide +kernel) (pa_cons (pe_ix (ix_tupK (K := K)) (pv 0) pe_int (fun _ _ => rfl)) pa_nil)) pe_str) (pe_callTy call_str_int (by rfl) T.b_str (by decide +kernel) (pa_cons (pe_ix (ix_tupK (K := K)) (pv 0) pe_int (fun _ _ => rfl)) pa_nil)))))), ?_⟩
    refine ⟨_, rfl, t, _, _, _, rfl, rfl, ht, rfl, rfl, _, rfl, ?_⟩
    unfold dg at k
    refine ite2 (fun h => ?_) (fun h => ?_)
    · have hd : p.den = 1 := by have := V.int.inj (of_decide_eq_true h); omega
      rw [if_pos hd] at k
      exact ⟨_, rfl, t, _, _, _, rfl, rfl, ht, rfl, _, rfl, log_sm sn, k⟩
    · have hd : ¬ p.den = 1 := fun z => h (decide_eq_true (by rw [z]; rfl))
      rw [if_neg hd] at k
      have l1 := txt_len sn
      have l2 := txt_len sd
      refine ⟨_, rfl, t, _, _, _, rfl, rfl, ht, rfl, _, rfl, log_sm sn, _, _, rfl, rfl, Nat.le_trans (Nat.add_le_add l1 (Nat.le_refl 1)) (by decide), ?_⟩
      refine ⟨_, rfl, t, _, _, _, rfl, rfl, ht, rfl, _, rfl, log_sm sd, _, _, rfl, rfl, ?_, k⟩
      rw [strLen_append]
      exact Nat.le_trans (Nat.add_le_add (Nat.add_le_add l1 (Nat.le_refl 1)) l2) (by decide)
abbrev DigitsC (P : Program) (w : World) (K : PySem.W.Frag) (mg : Str → Option Value) (base : Heap) : Prop := CalG P w K mg base 2 "_law_digits" (spDigits K) []
/-! ### the law's own is_whole, is_digit -/
def spLW (K : PySem.W.Frag) : Sp := fun vs H Q _ => ∃ (x : V) (b : Bool), vs = [x] ∧ WholeAt K H x b ∧ Q (.bl b) H
theorem sc__law_is_whole : FnScope ["_law_thing"] ["_law_thing"] (defScope s__law_is_whole) := ⟨rfl, rfl, rfl, by decide +kernel, rfl, by decide +kernel, by decide +kernel⟩
theorem ok_lwhole {f : Addr} {fd : FuncData} (F : Fun K "_law_is_whole" "_law_is_whole" s__law_is_whole f fd) (T : Blt mg) : FnG P w K mg base CX0 2 f fd ["_law_thing"] (spLW K) := by
  refine fun_okG F sc__law_is_whole (fun vs H Q E h => ?_) (fun cdv A outer s H vs Q E bare hr h => ?_)
  · obtain ⟨x, b, rfl, _⟩ := h
    rfl
  · obtain ⟨x, b, rfl, ⟨t, b1, b2, tx, k1, k2, e⟩, k⟩ := h
    refine ⟨_, (pss_one (ps_ret (pe_and (pe_callB (id := "isinstance") (call_isiK (K := K)) (by rfl) T.b_isinstance (by decide +kernel) (pa_cons (pv 0) (pa_cons (pe_bltn (v := V.ty "int") (u := Value.type "int") (by rfl) T.b_int (by decide +kernel) rfl) pa_nil))) (pe_one (pe_not (pe_callB (id := "isinstance") (call_isiK (K := K)) (by rfl) T.b_isinstance (by decide +kernel) (pa_cons (pv 0) (pa_cons (pe_bltn (v := V.ty "bool") (u := Value.type "bool") (by rfl) T.b_bool (by decide +kernel) rfl) pa_nil)))))))), ?_⟩
    refine ⟨_, rfl, x, _, _, _, _, rfl, .ty "int", tx, k1, _, rfl, ?_⟩
    cases b1 with
    | false =>
      rw [← e] at k
      exact iteF k
    | true =>
      rw [← e] at k
      refine iteT ?_
      exact ⟨_, rfl, x, _, _, _, _, rfl, .ty "bool", tx, k2, _, rfl, k⟩
abbrev LWC (P : Program) (w : World) (K : PySem.W.Frag) (mg : Str → Option Value) (base : Heap) : Prop := CalG P w K mg base 2 "_law_is_whole" (spLW K) []
/-- is x a number -/
def DigAt (K : PySem.W.Frag) (C : Addr) (H : Hp) (x : V) (b : Bool) : Prop := ∃ t b1 b2 b3, TyX K H x t ∧ PySem.W.kitOne K t (.type "int") = some b1 ∧ PySem.W.kitOne K t (.type "bool") = some b2 ∧ PySem.W.kitOne K t (.ref C) = some b3 ∧ ((b1 && !b2) || b3) = b
def spLD (K : PySem.W.Frag) (C : Addr) : Sp := fun vs H Q _ => ∃ (x : V) (b : Bool), vs = [x] ∧ DigAt K C H x b ∧ Q (.bl b) H
abbrev LDC (P : Program) (w : World) (K : PySem.W.Frag) (mg : Str → Option Value) (base : Heap) (C : Addr) : Prop := CalG P w K mg base 4 "_law_is_digit" (spLD K C) []
end
end Lw

namespace Lw
open PySem PySem.Spec PyProof.Rows L2 MG
abbrev s_is_table : Stmt := top 22
abbrev s_Matrix___init__ : Stmt := inClass (top 26) 0
abbrev s_InvalidEntries___init__ : Stmt := inClass (top 5) 0
/-- what the top says of the class Matrix, at CM -/
structure TxM (K : PySem.W.Frag) (mg : Str → Option Value) (C CM : Addr) : Prop extends TxR K mg C where
  clM : Cls K CM
  nE : NoAttr K CM "_entries"
  g_Matrix : mg "Matrix" = some (.ref CM)
  g_lcm : mg "lcm" = some (.builtin "math.lcm")
  caM : PySem.W.findIn K (.ref CM) "__class__" = some (some (.builtin "object.__class__"))
  cmM : PySem.W.mroIn K CM (.type "object") = some true
  kMM : PySem.W.kitOne K (.ref CM) (.ref CM) = some true
  kMR : PySem.W.kitOne K (.ref CM) (.ref C) = some false
  kRM : PySem.W.kitOne K (.ref C) (.ref CM) = some false
  kMI : PySem.W.kitOne K (.ref CM) (.type "int") = some false
  kMB : PySem.W.kitOne K (.ref CM) (.type "bool") = some false
  kIM : PySem.W.kitOne K (.type "int") (.ref CM) = some false
/-! ### tables of numbers in the heap -/
abbrev CellP := Hp → V → Rat → Prop
/-- a Ratio -/
def RC (C : Addr) : CellP := fun H y q => ∃ a, y = .ref a ∧ RatAt C H a q
def Rw (P : CellP) (H : Hp) (x : V) (c : Nat) (g : Nat → Rat) : Prop := ∃ p xs, x = .ref p ∧ H p = some (.tup xs) ∧ xs.length = c ∧ ∀ (j : Nat) (y : V), xs[j]? = some y → P H y (g j)
def Tb (P : CellP) (H : Hp) (t : Addr) (r c : Nat) (f : Nat → Nat → Rat) : Prop := ∃ rs, H t = some (.tup rs) ∧ rs.length = r ∧ ∀ (i : Nat) (x : V), rs[i]? = some x → Rw P H x c (f i)
structure Mono (P : CellP) : Prop where
  same : ∀ {H H' : Hp} {y : V} {q : Rat}, P H y q → Same H H' → P H' y q
  hid : ∀ {H : Hp} {y : V} {q : Rat} {D : Addr} {l : List V}, P H y q → H D = some (.lst l) → P (hid D H) y q
theorem rc_mono (C : Addr) : Mono (RC C) := ⟨fun ⟨a, e, h⟩ s => ⟨a, e, h.same s⟩, fun {H y q D l} ⟨a, e, dx, h⟩ hD => ⟨a, e, dx, by rw [hid_ne (ne_of h hD (by intro z; cases z))]; exact h⟩⟩
theorem num_mono (C : Addr) : Mono (NumAt C) := ⟨fun h s => h.same s, fun {H y q D l} h hD => by
  rcases h with ⟨a, e, h⟩ | h
  · obtain ⟨b, e', h'⟩ := (rc_mono C).hid ⟨a, e, h⟩ hD
    exact .inl ⟨b, e', h'⟩
  · exact .inr h⟩
theorem RC.num {C : Addr} {H : Hp} {y : V} {q : Rat} (h : RC C H y q) : NumAt C H y q := h.elim fun a ⟨e, h⟩ => .inl ⟨a, e, h⟩
section
variable {P : CellP} {H H' : Hp} {x : V} {t D : Addr} {r c : Nat} {g g' : Nat → Rat} {f f' : Nat → Nat → Rat} {l : List V}
theorem Rw.same (m : Mono P) (h : Rw P H x c g) (s : Same H H') : Rw P H' x c g := by
  obtain ⟨p, xs, e, hp, hl, hc⟩ := h
  exact ⟨p, xs, e, s _ _ hp, hl, fun j y hy => m.same (hc j y hy) s⟩
theorem Rw.hid (m : Mono P) (h : Rw P H x c g) (hD : H D = some (.lst l)) : Rw P (hid D H) x c g := by
  obtain ⟨p, xs, e, hp, hl, hc⟩ := h
  exact ⟨p, xs, e, by rw [hid_ne (ne_of hp hD (by intro z; cases z))]; exact hp, hl, fun j y hy => m.hid (hc j y hy) hD⟩
theorem Rw.congr (h : Rw P H x c g) (e : ∀ j, j < c → g j = g' j) : Rw P H x c g' := by
  obtain ⟨p, xs, e', hp, hl, hc⟩ := h
  refine ⟨p, xs, e', hp, hl, fun j y hy => ?_⟩
  rw [← e j (by have := (List.getElem?_eq_some_iff.mp hy).1; omega)]
  exact hc j y hy
theorem Tb.same (m : Mono P) (h : Tb P H t r c f) (s : Same H H') : Tb P H' t r c f := by
  obtain ⟨rs, ht, hl, hc⟩ := h
  exact ⟨rs, s _ _ ht, hl, fun i x hx => (hc i x hx).same m s⟩
theorem Tb.hid (m : Mono P) (h : Tb P H t r c f) (hD : H D = some (.lst l)) : Tb P (hid D H) t r c f := by
  obtain ⟨rs, ht, hl, hc⟩ := h
  exact ⟨rs, by rw [hid_ne (ne_of ht hD (by intro z; cases z))]; exact ht, hl, fun i x hx => (hc i x hx).hid m hD⟩
theorem Tb.congr (h : Tb P H t r c f) (e : ∀ i j, i < r → j < c → f i j = f' i j) : Tb P H t r c f' := by
  obtain ⟨rs, ht, hl, hc⟩ := h
  exact ⟨rs, ht, hl, fun i x hx => (hc i x hx).congr fun j hj => e i j (by have := (List.getElem?_eq_some_iff.mp hx).1; omega) hj⟩
theorem Tb.imp {P' : CellP} (i : ∀ {H y q}, P H y q → P' H y q) (h : Tb P H t r c f) : Tb P' H t r c f := by
  obtain ⟨rs, ht, hl, hc⟩ := h
  refine ⟨rs, ht, hl, fun k x hx => ?_⟩
  obtain ⟨p, xs, e, hp, hl, hc⟩ := hc k x hx
  exact ⟨p, xs, e, hp, hl, fun j y hy => i (hc j y hy)⟩
end
/-- a Matrix stands at a -/
def mfl (t : Addr) : List (Str × V) := [("_entries", .ref t)]
def MtAt (C CM : Addr) (H : Hp) (a : Addr) (r c : Nat) (f : Nat → Nat → Rat) : Prop := ∃ dx t, H a = some (.ins CM dx (mfl t)) ∧ Tb (RC C) H t r c f
theorem MtAt.same {C CM : Addr} {H H' : Hp} {a : Addr} {r c : Nat} {f : Nat → Nat → Rat} (h : MtAt C CM H a r c f) (s : Same H H') : MtAt C CM H' a r c f := by
  obtain ⟨dx, t, e, h⟩ := h
  exact ⟨dx, t, s _ _ e, h.same (rc_mono C) s⟩
theorem MtAt.hid {C CM : Addr} {H : Hp} {a D : Addr} {r c : Nat} {f : Nat → Nat → Rat} {l : List V} (h : MtAt C CM H a r c f) (hD : H D = some (.lst l)) : MtAt C CM (hid D H) a r c f := by
  obtain ⟨dx, t, e, h⟩ := h
  exact ⟨dx, t, by rw [hid_ne (ne_of e hD (by intro z; cases z))]; exact e, h.hid (rc_mono C) hD⟩
theorem MtAt.congr {C CM : Addr} {H : Hp} {a : Addr} {r c : Nat} {f f' : Nat → Nat → Rat} (h : MtAt C CM H a r c f) (e : ∀ i j, i < r → j < c → f i j = f' i j) : MtAt C CM H a r c f' := by
  obtain ⟨dx, t, e', h⟩ := h
  exact ⟨dx, t, e', h.congr e⟩
theorem MtAt.tyx {K : PySem.W.Frag} {mg : Str → Option Value} {C CM : Addr} {H : Hp} {a : Addr} {r c : Nat} {f : Nat → Nat → Rat} (T : TxM K mg C CM) (h : MtAt C CM H a r c f) : TyX K H (.ref a) (.ref CM) :=
  h.elim fun dx ⟨t, e, _⟩ => .base (.ins e T.clM T.caM T.cn T.ct T.cmM)
theorem mfl_at (t : Addr) : (mfl t).lookup ("_entries" : Str) = some (.ref t) := by simp [mfl, List.lookup]
section
variable {P : Program} {w : World} {K : PySem.W.Frag} {mg : Str → Option Value} {base : Heap} {C CM : Addr}
/-! ### is_table, of anything -/
theorem FnOk.imp {CX : CXT} {k : Nat} {f : Addr} {fd : FuncData} {ps : List Str} {sp sp' : Sp} (F : FnOk P w K mg base CX k f fd ps sp) (h : ∀ vs H Q E, sp' vs H Q E → sp vs H Q E) : FnOk P w K mg base CX k f fd ps sp' :=
  ⟨fun vs H Q E q => F.len vs H Q E (h vs H Q E q), fun A outer s H args us vs Q E hr e hb r q => F.run A outer s H args us vs Q E hr e hb r (h vs H Q E q)⟩
def Shape (H : Hp) (t : Addr) (r c : Nat) : Prop := ∃ rs : List V, H t = some (.tup rs) ∧ rs.length = r ∧ ∀ (i : Nat) (x : V), rs[i]? = some x → ∃ p xs, x = .ref p ∧ H p = some (.tup xs) ∧ xs.length = c
theorem Tb.shape {Q : CellP} {H : Hp} {t : Addr} {r c : Nat} {f : Nat → Nat → Rat} (h : Tb Q H t r c f) : Shape H t r c := by
  obtain ⟨rs, ht, hl, hc⟩ := h
  refine ⟨rs, ht, hl, fun i x hx => ?_⟩
  obtain ⟨p, xs, e, hp, hl, _⟩ := hc i x hx
  exact ⟨p, xs, e, hp, hl⟩
/-- the length of a tuple; none: no tuple -/
def RowK (K : PySem.W.Frag) (H : Hp) (x : V) (o : Option Nat) : Prop := (∃ p xs, x = .ref p ∧ H p = some (.tup xs) ∧ o = some xs.length) ∨ (NotT K H x ∧ o = none)
def WholeK (K : PySem.W.Frag) (H : Hp) (x : V) (o : Option (List (Option Nat))) : Prop :=
  (∃ (a : Addr) (xs : List V) (ns : List (Option Nat)), x = .ref a ∧ o = some ns ∧ H a = some (.tup xs) ∧ xs.length ≤ 1000 ∧ ns.length = xs.length ∧ ∀ (i : Nat) (y : V) (z : Option Nat), xs[i]? = some y → ns[i]? = some z → RowK K H y z) ∨ (NotT K H x ∧ o = none)
def B1 (ns : List (Option Nat)) : Bool := ns.all fun o => decide (1 ≤ o.getD 0)
def B2 (ns : List (Option Nat)) : Bool := ns.all fun o => decide (o.getD 0 = (ns.headD none).getD 0)
def tabW : Option (List (Option Nat)) → Bool
  | none => false
  | some ns => decide (1 ≤ ns.length) && (B1 ns && B2 ns)
theorem tabW_some (ns : List (Option Nat)) : tabW (some ns) = (decide (1 ≤ ns.length) && (B1 ns && B2 ns)) := rfl
theorem RowK.same {H H' : Hp} {x : V} {o : Option Nat} (h : RowK K H x o) (s : Same H H') : RowK K H' x o := by
  rcases h with ⟨p, xs, e, hp, ho⟩ | ⟨h, e⟩
  · exact .inl ⟨p, xs, e, s _ _ hp, ho⟩
  · exact .inr ⟨h.same s, e⟩
def spIstabW (K : PySem.W.Frag) : Sp := fun vs H Q _ => ∃ (x : V) (o : Option (List (Option Nat))), vs = [x] ∧ WholeK K H x o ∧ ∀ H', Same H H' → Q (.bl (tabW o)) H'
theorem sc_is_table : FnScope ["given", "row"] ["given"] (defScope s_is_table) := ⟨rfl, rfl, rfl, by decide +kernel, rfl, by decide +kernel, by decide +kernel⟩
theorem ok_istab {f : Addr} {fd : FuncData} (F : Fun K "is_table" "is_table" s_is_table f fd) (T : Blt mg) : FnOk P w K mg base CX0 2 f fd ["given"] (spIstabW K) := by
  refine F.ok sc_is_table (fun vs H Q E h => ?_) (fun cdv A outer s H vs Q E hr h => ?_)
  · obtain ⟨t, ns, rfl, _⟩ := h
    rfl
  · obtain ⟨x, o, rfl, hw, k⟩ := h
    refine ⟨_, (pss_cons (ps_if (pt_not (PW.pt (pw_and (pt_val (pe_callB (id := "isinstance") (call_isiK (K := K)) (by rfl) T.b_isinstance (by decide +kernel) (pa_cons (pv 0) (pa_cons (pe_bltn (v := V.ty "tuple") (u := Value.type "tuple") (by rfl) T.b_tuple (by decide +kernel) rfl) pa_nil)))) (pw_and1 (pt_cmpR op_ge (pe_callB (id := "len") (call_len_seqK (K := K)) (by rfl) T.b_len (by decide +kernel) (pa_cons (pv 0) pa_nil)) pe_int (nomark _)))))) (pss_one (ps_ret pe_bl))
  pss_nil)
  (pss_cons (ps_if (pt_not (pt_val (pe_callB (id := "all") (cr_allK (K := K) rfl) (by rfl) T.b_all (by decide +kernel) (pa_cons (pe_lcI (pe_lc (own := [("row", 1)]) rfl sc_is_table.nd (pi_tupK (K := K) (pv 0)) (blkOk_by (N := ["given", "row"]) (sc := (defScope s_is_table)) (by decide +kernel)) (fun _ _ _ _ _ => (pg_name (i := 1) sc_is_table.nd rfl (Or.inl rfl))) (fun _ _ _ _ _ => pts_nil) (fun _ _ _ _ _ => (pe_cut (pe_and (pe_callB (id := "isinstance") (call_isiK (K := K)) (by rfl) T.b_isinstance (by decide +kernel) (pa_cons (pv 1) (pa_cons (pe_bltn (v := V.ty "tuple") (u := Value.type "tuple") (by rfl) T.b_tuple (by decide +kernel) rfl) pa_nil))) (pe_one (pe_cmpR op_ge (pe_callB (id := "len") (call_len_seqK (K := K)) (by rfl) T.b_len (by decide +kernel) (pa_cons (pv 1) pa_nil)) pe_int (nomark _)))))))) pa_nil)))) (pss_one (ps_ret pe_bl))
  pss_nil)
  (pss_one (ps_ret (pe_callB (id := "all") (cr_allK (K := K) rfl) (by rfl) T.b_all (by decide +kernel) (pa_cons (pe_lcI (pe_lc (own := [("row", 1)]) rfl sc_is_table.nd (pi_tupK (K := K) (pv 0)) (blkOk_by (N := ["given", "row"]) (sc := (defScope s_is_table)) (by decide +kernel)) (fun _ _ _ _ _ => (pg_name (i := 1) sc_is_table.nd rfl (Or.inl rfl))) (fun _ _ _ _ _ => pts_nil) (fun _ _ _ _ _ => (pe_cut (pe_cmpR op_eq (pe_callB (id := "len") (call_len_seqK (K := K)) (by rfl) T.b_len (by decide +kernel) (pa_cons (pv 1) pa_nil)) (pe_callB (id := "len") (call_len_seqK (K := K)) (by rfl) T.b_len (by decide +kernel) (pa_cons (pe_ix (ix_tupK (K := K)) (pv 0) pe_int (fun _ _ => rfl)) pa_nil)) (nomark _)))))) pa_nil)))))), ?_⟩
    rcases hw with ⟨t, rs, ns, rfl, rfl, ht, hr1, hl, hrow⟩ | ⟨⟨ty, h1, h2⟩, rfl⟩
    rotate_left
    · refine ⟨_, rfl, x, _, _, _, _, rfl, .ty "tuple", h1, h2, _, rfl, iteF ?_⟩
      exact k H (Same.refl H)
    have rowAt : ∀ i x, rs[i]? = some x → ∃ z, ns[i]? = some z ∧ RowK K H x z := fun i x hx => by
      have hi := (List.getElem?_eq_some_iff.mp hx).1
      have e := List.getElem?_eq_getElem (l := ns) (i := i) (by omega)
      exact ⟨_, e, hrow i x _ hx e⟩
    have no : ∀ H', Same H H' → tabW (some ns) = false → Q (.bl false) H' := fun H' s e => by rw [← e]; exact k H' s
    -- if not (isinstance(given, tuple) and len(given) >= 1)
    refine ⟨_, rfl, .ref t, _, _, _, _, rfl, .ty "tuple", .base (.tup ht), kit_ty (by decide +kernel), _, rfl, iteT ?_⟩
    refine ⟨_, rfl, t, rs, rfl, .inr (SqT.of ht), _, _, rfl, rfl, _, rfl, ?_⟩
    by_cases h0 : 1 ≤ rs.length
    rotate_left
    · exact ifT (by simp; omega) (no H (Same.refl H) (by rw [tabW_some, decide_eq_false (by omega)]; rfl))
    refine ifF (by simp; omega) ?_
    -- if not all([isinstance(row, tuple) and len(row) >= 1 for row in given])
    refine ⟨_, rfl, t, rfl, ⟨rs, SqT.of ht⟩, fun D hD => ?_⟩
    refine lc_same (walk_tup (K := K) (a := t) (xs := rs)) hD (by omega) (fun i y _ => ∀ z, ns[i]? = some z → y = .bl (decide (1 ≤ z.getD 0))) (fun _ _ _ _ e _ => e) (fun H' s' => SqT.of (s' _ _ ht)) yat_same (fun i x H1 H1' hi s1 _ hy => ?_) fun ys H1 hl1 s1 e1 h1 => ?_
    · obtain ⟨rfl, hx⟩ := hy
      obtain ⟨z, hz, hr'⟩ := rowAt i x hx
      have fin : ∀ b : Bool, b = decide (1 ≤ z.getD 0) → ∀ z', ns[i]? = some z' → V.bl b = .bl (decide (1 ≤ z'.getD 0)) := fun b e z' hz' => by
        obtain rfl := Option.some.inj (hz.symm.trans hz')
        rw [e]
      refine ⟨_, fun _ h => h, wipe_one, ?_⟩
      rcases hr'.same s1 with ⟨p, xs, rfl, hp, rfl⟩ | ⟨⟨ty, h1, h2⟩, rfl⟩
      · refine ⟨_, rfl, .ref p, _, _, _, _, rfl, .ty "tuple", .base (.tup hp), kit_ty (by decide +kernel), _, rfl, iteT ?_⟩
        refine ⟨_, rfl, p, xs, rfl, .inr (SqT.of hp), _, _, rfl, rfl, Same.refl _, fun _ => fin _ ?_⟩
        show decide ((xs.length : Int) ≥ 1) = decide (1 ≤ xs.length)
        exact decide_eq_decide.mpr (by omega)
      · exact ⟨_, rfl, x, _, _, _, _, rfl, .ty "tuple", h1, h2, _, rfl, iteF ⟨Same.refl _, fun _ => fin _ rfl⟩⟩
    have ey := bls_map (g := fun o : Option Nat => decide (1 ≤ o.getD 0)) (hl1.trans hl.symm) fun i y o hy ho => h1 i y hy o ho
    refine ⟨D, _, rfl, SqL.of (by rw [e1, ey]), _, rfl, ?_⟩
    have eb : ((ns.map fun o : Option Nat => decide (1 ≤ o.getD 0)).all id) = B1 ns := by rw [List.all_map]; rfl
    rw [eb]
    cases b1 : B1 ns with
    | false => exact iteT (no _ s1 (by rw [tabW_some, b1]; simp))
    | true =>
    refine iteF ?_
    -- return all([len(row) == len(given[0]) for row in given])
    refine ⟨_, rfl, t, rfl, ⟨rs, SqT.of (s1 _ _ ht)⟩, fun D2 hD2 => ?_⟩
    have tupAt : ∀ (i : Nat) (x : V), rs[i]? = some x → ∃ p xs, x = .ref p ∧ H p = some (.tup xs) ∧ ns[i]? = some (some xs.length) := fun i x hx => by
      obtain ⟨z, hz, hr'⟩ := rowAt i x hx
      rcases hr' with ⟨p, xs, rfl, hp, rfl⟩ | ⟨_, rfl⟩
      · exact ⟨p, xs, rfl, hp, hz⟩
      · have := List.all_eq_true.mp b1 none (List.mem_of_getElem? hz)
        exact absurd this (by decide)
    have h00 : rs[0]? = some rs[0] := List.getElem?_eq_getElem (by omega)
    obtain ⟨p0, xs0, e0, hp0, hn0⟩ := tupAt 0 _ h00
    have hd0 : (ns.headD none).getD 0 = xs0.length := by
      cases ns with
      | nil => cases hn0
      | cons a r => rw [List.headD_cons, Option.some.inj hn0]; rfl
    refine lc_same (walk_tup (K := K) (a := t) (xs := rs)) hD2 (by omega) (fun i y _ => ∀ z, ns[i]? = some z → y = .bl (decide (z.getD 0 = (ns.headD none).getD 0))) (fun _ _ _ _ e _ => e) (fun H' s' => SqT.of (s' _ _ (s1 _ _ ht))) yat_same (fun i x H2 H2' hi s2 _ hy => ?_) fun ys2 H2 hl2 s2 e2 h2 => ?_
    · obtain ⟨rfl, hx⟩ := hy
      obtain ⟨p, xs, rfl, hp, hn⟩ := tupAt i x hx
      have s12 := s1.trans s2
      refine ⟨_, fun _ h => h, wipe_one, ?_⟩
      refine ⟨_, rfl, p, xs, rfl, .inr (SqT.of (s12 _ _ hp)), ?_⟩
      refine ⟨_, rfl, t, _, _, _, rfl, rfl, SqT.of (s12 _ _ ht), atI_nat h00, ?_⟩
      rw [e0]
      refine ⟨p0, xs0, rfl, .inr (SqT.of (s12 _ _ hp0)), rfl, Same.refl _, fun _ z hz => ?_⟩
      obtain rfl := Option.some.inj (hn.symm.trans hz)
      rw [hd0]
      refine congrArg V.bl (decide_eq_decide.mpr ⟨fun e => ?_, fun e => ?_⟩)
      · have := V.int.inj e
        show xs.length = xs0.length
        omega
      · have : xs.length = xs0.length := e
        rw [this]
    have ey2 := bls_map (g := fun o : Option Nat => decide (o.getD 0 = (ns.headD none).getD 0)) (hl2.trans hl.symm) fun i y o hy ho => h2 i y hy o ho
    refine ⟨D2, _, rfl, SqL.of (by rw [e2, ey2]), ?_⟩
    have eb2 : ((ns.map fun o : Option Nat => decide (o.getD 0 = (ns.headD none).getD 0)).all id) = tabW (some ns) := by
      rw [List.all_map]
      rw [tabW_some, b1, decide_eq_true (by omega)]
      rfl
    rw [eb2]
    exact k H2 (s1.trans s2)
abbrev IstabW (P : Program) (w : World) (K : PySem.W.Frag) (mg : Str → Option Value) (base : Heap) : Prop := CalF P w K mg base 2 "is_table" (spIstabW K) []
def spIstab : Sp := fun vs H Q _ => ∃ (t : Addr) (r c : Nat), vs = [.ref t] ∧ Shape H t r c ∧ 0 < r ∧ r ≤ 1000 ∧ 0 < c ∧ ∀ H', Same H H' → Q (.bl true) H'
theorem tabW_rep {r c : Nat} (hr : 0 < r) (hc : 0 < c) : tabW (some (List.replicate r (some c))) = true := by
  rw [tabW_some]
  unfold B1 B2
  cases r with
  | zero => omega
  | succ r => simp [List.replicate_succ]; omega
theorem istab_even (h : IstabW P w K mg base) : CalF P w K mg base 2 "is_table" spIstab [] := by
  obtain ⟨f, fd, ps, ds, F, r⟩ := h.ex
  refine ⟨f, fd, ps, ds, FnOk.imp F ?_, r⟩
  rintro vs H Q E ⟨t, r, c, rfl, ⟨rs, ht, hl, hrow⟩, r0, r1, c0, k⟩
  refine ⟨.ref t, some (List.replicate r (some c)), rfl, .inl ⟨t, rs, _, rfl, rfl, ht, by omega, by simp [hl], fun i x z hx hz => ?_⟩, fun H' s => ?_⟩
  · obtain ⟨p, xs, e, hp, hxl⟩ := hrow i x hx
    rw [List.getElem?_replicate] at hz
    split at hz
    · exact .inl ⟨p, xs, e, hp, by rw [hxl]; exact (Option.some.inj hz).symm⟩
    · cases hz
  · rw [tabW_rep r0 c0]
    exact k H' s
abbrev IstabC (P : Program) (w : World) (K : PySem.W.Frag) (mg : Str → Option Value) (base : Heap) : Prop := CalF P w K mg base 2 "is_table" spIstab []
/-! ### new tuples -/
theorem rw_new {Q : CellP} {G H : Hp} {T : Addr} {ys : List V} {c : Nat} {g : Nat → Rat} (m : Mono Q) (s : Same G H) (hT : H T = none) (hl : ys.length = c) (h : ∀ (j : Nat) (y : V), ys[j]? = some y → Q G y (g j)) : Rw Q (upd H T (.tup ys)) (.ref T) c g :=
  ⟨T, ys, rfl, upd_same, hl, fun j y hy => m.same (h j y hy) (MG.Same.new s hT)⟩
theorem tb_new {Q : CellP} {G H : Hp} {T : Addr} {ys : List V} {r c : Nat} {f : Nat → Nat → Rat} (m : Mono Q) (s : Same G H) (hT : H T = none) (hl : ys.length = r) (h : ∀ (i : Nat) (y : V), ys[i]? = some y → Rw Q G y c (f i)) : Tb Q (upd H T (.tup ys)) T r c f :=
  ⟨ys, upd_same, hl, fun i y hy => (h i y hy).same m (MG.Same.new s hT)⟩
theorem tb_upd {H : Hp} {a dx t : Addr} {r c : Nat} {f : Nat → Nat → Rat} {o : HO} (ha : H a = some (.ins CM dx [])) (h : Tb (RC C) H t r c f) : Tb (RC C) (upd H a o) t r c f := by
  obtain ⟨rs, ht, hl, hrow⟩ := h
  refine ⟨rs, by rw [upd_ne (ne_of ht ha (by intro z; cases z))]; exact ht, hl, fun i x hx => ?_⟩
  obtain ⟨p, xs, e, hp, hxl, hc⟩ := hrow i x hx
  refine ⟨p, xs, e, by rw [upd_ne (ne_of hp ha (by intro z; cases z))]; exact hp, hxl, fun j y hy => ?_⟩
  obtain ⟨b, e', d, hb⟩ := hc j y hy
  exact ⟨b, e', d, by rw [upd_ne (ne_of hb ha (by intro z; unfold flds at z; cases z))]; exact hb⟩
/-! ### Matrix(entries), of a table of numbers -/
def spMInit (C CM : Addr) : Sp := fun vs H Q _ => ∃ (a dx t : Addr) (r c : Nat) (f : Nat → Nat → Rat), vs = [.ref a, .ref t] ∧ H a = some (.ins CM dx []) ∧ Tb (NumAt C) H t r c f ∧ (0 < r ∧ r ≤ 1000 ∧ 0 < c ∧ c ≤ 1000) ∧
  ∀ H' t', H' a = some (.ins CM dx (mfl t')) → Tb (RC C) H' t' r c f → (∀ b o, H b = some o → b ≠ a → H' b = some o) → Q .non H'
theorem sc_Matrix___init__ : FnScope ["self", "entries", "row", "number"] ["self", "entries"] (defScope s_Matrix___init__) := ⟨rfl, rfl, rfl, by decide +kernel, rfl, by decide +kernel, by decide +kernel⟩
theorem ok_minit {f : Addr} {fd : FuncData} (F : Fun K "__init__" "Matrix.__init__" s_Matrix___init__ f fd) (T : TxM K mg C CM) (c_istab : IstabC P w K mg base) (c_number : NumberC P w K mg base C) (c_to : ToC P w K mg base C) : FnOk P w K mg base CX0 8 f fd ["self", "entries"] (spMInit C CM) := by
  refine F.ok sc_Matrix___init__ (fun vs H Q E h => ?_) (fun cdv A outer s H vs Q E hr h => ?_)
  · obtain ⟨a, dx, t, r, c, f, rfl, _⟩ := h
    rfl
  · obtain ⟨a, dx, t, r, c, f, rfl, ha, ht, ⟨hr0, hr1, hc0, hc1⟩, k⟩ := h
    refine ⟨_, (pss_cons (ps_if (pt_not (PW.pt (pw_and (pt_val (pe_cf c_istab hr (by decide) rfl (pa_cons (pv 1) pa_nil))) (pw_and1 (pt_val (pe_callB (id := "all") (cr_allK (K := K) rfl) (by rfl) T.b_all (by decide +kernel) (pa_cons (pe_lc2I (pe_lc2 (own := [("row", 2), ("number", 3)]) (vs1 := [3]) rfl sc_Matrix___init__.nd (pi_tupK (K := K) (pv 1)) (blkOk_by (N := ["self", "entries", "row", "number"]) (sc := (defScope s_Matrix___init__)) (by decide +kernel)) (by decide) (fun _ _ _ _ _ => (pg_name (i := 2) sc_Matrix___init__.nd rfl (Or.inl rfl))) (fun _ _ _ _ _ => pts_nil) (fun _ _ _ _ _ => (pi_tupK (K := K) (pv 2))) (fun _ _ _ _ _ => (pg_name (i := 3) sc_Matrix___init__.nd rfl (Or.inl rfl))) (fun _ _ _ _ _ => pts_nil) (fun _ _ _ _ _ => (pe_cut (pe_cf c_number hr (by decide) rfl (pa_cons (pv 3) pa_nil)))))) pa_nil))))))) (pss_one ps_never)
  pss_nil)
  (pss_one (ps_fld (pv 0) (pe_callTy (call_tuple_ofK (K := K)) (by rfl) T.b_tuple (by decide +kernel) (pa_cons (pe_lcI (pe_lc (own := [("row", 2)]) rfl sc_Matrix___init__.nd (pi_tupK (K := K) (pv 1)) (blkOk_by (N := ["self", "entries", "row", "number"]) (sc := (defScope s_Matrix___init__)) (by decide +kernel)) (fun _ _ _ _ _ => (pg_name (i := 2) sc_Matrix___init__.nd rfl (Or.inl rfl))) (fun _ _ _ _ _ => pts_nil) (fun _ _ _ _ _ => (pe_cut (pe_callTy (call_tuple_ofK (K := K)) (by rfl) T.b_tuple (by decide +kernel) (pa_cons (pe_lcI (pe_lc (own := [("number", 3)]) rfl sc_Matrix___init__.nd (pi_tupK (K := K) (pv 2)) (blkOk_by (N := ["self", "entries", "row", "number"]) (sc := ({ kind := .function, names := [(PySem.Str.ofString ".0", .local), (PySem.Str.ofString "row", .local), (PySem.Str.ofString "tuple", .globalImplicit)], isGenerator := false, isCoroutine := false } : Scope)) (by decide +kernel)) (fun _ _ _ _ _ => (pg_name (i := 3) sc_Matrix___init__.nd rfl (Or.inl rfl))) (fun _ _ _ _ _ => pts_nil) (fun _ _ _ _ _ => (pe_cut (pe_cf c_to hr (by decide) rfl (pa_cons (pv 3) pa_nil)))))) pa_nil)))))) pa_nil)) rfl))), ?_⟩
    -- if not (is_table(entries) and all([is_number(number) for row in entries for number in row]))
    refine ⟨_, rfl, t, r, c, rfl, ht.shape, hr0, hr1, hc0, fun H1 s1 => ⟨_, rfl, iteT ?_⟩⟩
    obtain ⟨rs, et, hl, hrow⟩ := ht.same (num_mono C) s1
    refine ⟨_, rfl, t, rfl, ⟨rs, SqT.of et⟩, fun D hD => ?_⟩
    refine lc2_tup (K := K) (R := fun v => v = .bl true) et hD (by decide) (show 2 < 4 by decide) (show 3 < 4 by decide) (fun x hx => ?_) (by omega) (fun i j p xs y H2 hi hp hj s2 => ?_) fun ys H2 s2 e2 h2 => ?_
    · obtain ⟨i, hi⟩ := List.getElem?_of_mem hx
      obtain ⟨p, xs, e, hp, hxl, _⟩ := hrow i x hi
      exact ⟨p, xs, e, hp, by omega⟩
    · obtain ⟨p', xs', e, hp', hxl, hc⟩ := hrow i _ hi
      cases e
      have exs : xs = xs' := by
        have := hp.symm.trans hp'
        cases this
        rfl
      subst exs
      have hn := (hc j y hj).same s2
      obtain ⟨ty, b1, b2, b3, h1, h2, h3, h4, h5⟩ := hn.is T.toTxR
      refine ⟨_, rfl, y, ty, b1, b2, b3, rfl, h1, h2, h3, h4, Same.refl _, ?_⟩
      rw [h5]
    obtain ⟨bs, hb, ab⟩ := all_bl (K := K) e2 h2
    refine ⟨D, bs, rfl, hb, _, rfl, ifF (by rw [ab]; rfl) ?_⟩
    -- self._entries = tuple([tuple([to_ratio(number) for number in row]) for row in entries])
    have s12 := s1.trans s2
    refine ⟨_, rfl, t, rfl, ⟨rs, SqT.of (s2 _ _ et)⟩, fun D3 hD3 => ?_⟩
    refine lc_same (walk_tup (K := K) (a := t) (xs := rs)) hD3 (by omega) (fun i y G => Rw (RC C) G y c (f i)) (fun i y G G' h s => h.same (rc_mono C) s) (fun G s => SqT.of (s _ _ (s2 _ _ et))) yat_same (fun i x H3 H3' hi s3 _ hy => ?_) fun ys3 H3 hl3 s3 e3 h3 => ?_
    · obtain ⟨rfl, hx⟩ := hy
      obtain ⟨p, xs, rfl, hp, hxl, hc⟩ := (hrow i x hx).same (num_mono C) (s2.trans s3)
      refine ⟨_, fun _ h => h, wipe_one, ?_⟩
      refine ⟨_, rfl, p, rfl, ⟨xs, SqT.of hp⟩, fun D4 hD4 => ?_⟩
      refine lc_same (walk_tup (K := K) (a := p) (xs := xs)) hD4 (by omega) (fun j y G => RC C G y (f i j)) (fun j y G G' h s => (rc_mono C).same h s) (fun G s => SqT.of (s _ _ hp)) yat_same (fun j y H4 H4' hj s4 _ hy => ?_) fun ys4 H4 hl4 s4 e4 h4 => ?_
      · obtain ⟨rfl, hy⟩ := hy
        refine ⟨_, fun _ h => h, wipe_one, ?_⟩
        exact ⟨_, rfl, y, f i j, rfl, (hc j y hy).same s4, fun r' H5 s5 h5 => ⟨s5, fun ⟨l, hl⟩ => (rc_mono C).hid ⟨r', rfl, h5⟩ hl⟩⟩
      · refine ⟨D4, ys4, rfl, .inl ⟨SqL.of e4, fun T2 hT2 => ⟨MG.Same.new s4 hT2, fun ⟨l, hl⟩ => ?_⟩⟩⟩
        exact (rw_new (rc_mono C) (hid_same D4 H4) hT2 (hl4.trans hxl) h4).hid (rc_mono C) hl
    refine ⟨D3, ys3, rfl, .inl ⟨SqL.of e3, fun T3 hT3 => ?_⟩⟩
    have s123 := s12.trans s3
    have s4 : Same H (upd H3 T3 (.tup ys3)) := MG.Same.new s123 hT3
    refine ⟨_, rfl, a, CM, dx, _, rfl, s4 _ _ ha, T.clM, T.nE, (by show 0 < 1000; decide), ?_⟩
    have tb := tb_new (rc_mono C) (hid_same D3 H3) hT3 (hl3.trans hl) h3
    have na : ∀ {b : Addr} {o : HO}, (upd H3 T3 (.tup ys3)) b = some o → (∀ dx fs, o ≠ .ins CM dx fs) → b ≠ a := fun {b o} e z e' => by
      rw [e', s4 _ _ ha] at e
      exact z _ _ (Option.some.inj e).symm
    refine k _ T3 upd_same ?_ fun b o hb hne => ?_
    · exact tb_upd (s4 _ _ ha) tb
    · rw [upd_ne hne]
      exact s4 _ _ hb
abbrev MatC (P : Program) (w : World) (K : PySem.W.Frag) (mg : Str → Option Value) (base : Heap) (C CM : Addr) : Prop := MakF P w K mg base 8 "Matrix" CM (spMInit C CM) []
end
end Lw

namespace Lw
open PySem PySem.Spec PyProof.Rows L2 MG
section
variable {P : Program} {w : World} {K : PySem.W.Frag} {mg : Str → Option Value} {base : Heap} {C CM CE : Addr}
/-! ### InvalidEntries -/
theorem sc_InvalidEntries___init__ : FnScope ["self", "given"] ["self", "given"] (defScope s_InvalidEntries___init__) := ⟨rfl, rfl, rfl, by decide +kernel, rfl, by decide +kernel, by decide +kernel⟩
theorem ok_xe {f : Addr} {fd : FuncData} (F : Fun K "__init__" "InvalidEntries.__init__" s_InvalidEntries___init__ f fd) : FnOk P w K mg base CX0 2 f fd ["self", "given"] (spXi K CE "given") := by
  refine F.ok sc_InvalidEntries___init__ (fun vs H Q E h => ?_) (fun cdv A outer s H vs Q E hr h => ?_)
  · obtain ⟨a, y, rfl, _⟩ := h
    rfl
  · obtain ⟨a, y, rfl, T, no, ha, k⟩ := h
    refine ⟨_, (pss_one (ps_ost (pv 0) (pv 1))), ?_⟩
    exact ⟨_, rfl, _, rfl, a, CE, rfl, T, no, .inl ⟨ha, fun dx n ne => k dx n ne⟩⟩
abbrev XeC (P : Program) (w : World) (K : PySem.W.Frag) (mg : Str → Option Value) (base : Heap) (CE : Addr) : Prop := ExcF P w K mg base 2 "InvalidEntries" CE "given"
/-! ### what a thing is as a table -/
def rowsS : Sh → List Sh
  | .tup l => l
  | _ => []
def rowN : Sh → Option Nat
  | .tup l => some l.length
  | _ => none
def wholeN : Sh → Option (List (Option Nat))
  | .tup l => some (l.map rowN)
  | _ => none
def numB : Sh → Bool
  | .num _ => true
  | _ => false
def cellQ : Sh → Rat
  | .num p => p
  | _ => 0
def rowS (s : Sh) (i : Nat) : Sh := (rowsS s)[i]?.getD .oth
def shR (s : Sh) : Nat := (rowsS s).length
def shC (s : Sh) : Nat := (rowsS (rowS s 0)).length
def shF (s : Sh) (i j : Nat) : Rat := cellQ (rowS (rowS s i) j)
def cellsB (s : Sh) : Bool := (rowsS s).all fun l => (rowsS l).all numB
def tabB (s : Sh) : Bool := tabW (wholeN s)
def goodB (s : Sh) : Bool := tabB s && cellsB s
theorem ShAt.row {H : Hp} {x : V} {s : Sh} (h : ShAt K C H x s) : RowK K H x (rowN s) := by
  cases h with
  | num h b n => exact .inr ⟨n, rfl⟩
  | oth h n => exact .inr ⟨n, rfl⟩
  | tup e l1 l2 p => exact .inl ⟨_, _, rfl, e, congrArg some l2⟩
theorem ShAt.whole {H : Hp} {x : V} {s : Sh} (h : ShAt K C H x s) : WholeK K H x (wholeN s) := by
  cases h with
  | num h b n => exact .inr ⟨n, rfl⟩
  | oth h n => exact .inr ⟨n, rfl⟩
  | @tup a xs ss e l1 l2 p =>
    refine .inl ⟨a, xs, _, rfl, rfl, e, by omega, by simp [l2], fun i y z hy hz => ?_⟩
    rw [List.getElem?_map] at hz
    cases hs : ss[i]? with
    | none => rw [hs] at hz; cases hz
    | some s' =>
      rw [hs] at hz
      obtain rfl := Option.some.inj hz
      exact (p i y s' hy hs).row
theorem NumAt.dig {H : Hp} {x : V} {p : Rat} (T : TxR K mg C) (h : NumAt C H x p) : DigAt K C H x true := by
  obtain ⟨ty, b1, b2, b3, h1, h2, h3, h4, h5⟩ := h.is T
  exact ⟨ty, b1, b2, b3, h1, h2, h3, h4, h5⟩
theorem ShAt.dig {H : Hp} {x : V} {s : Sh} (T : TxR K mg C) (O : Others K C) (h : ShAt K C H x s) : DigAt K C H x (numB s) := by
  cases h with
  | num h b n => exact h.dig T
  | oth h n =>
    obtain ⟨t, b1, b2, h1, h2, h3, h4, h5⟩ := h
    exact ⟨t, b1, b2, false, h1, h2, h3, h5, by rw [h4]; rfl⟩
  | tup e l1 l2 p => exact ⟨_, false, false, false, .base (.tup e), kit_ty (by decide +kernel), kit_ty (by decide +kernel), kit_tr O.is O.ty O.tup, rfl⟩
/-- the rows of a table of anything -/
structure TabAt (K : PySem.W.Frag) (C : Addr) (H : Hp) (x : V) (s : Sh) : Prop where
  ex : ∃ t rs, x = .ref t ∧ H t = some (.tup rs) ∧ rs.length = shR s ∧ ∀ (i : Nat) (y : V), rs[i]? = some y → ∃ p xs, y = .ref p ∧ H p = some (.tup xs) ∧ xs.length = shC s ∧ ∀ (j : Nat) (z : V), xs[j]? = some z → ShAt K C H z (rowS (rowS s i) j)
  r0 : 0 < shR s
  r1 : shR s ≤ 100
  c0 : 0 < shC s
  c1 : shC s ≤ 100
  row : ∀ i, i < shR s → ∃ l, (rowsS s)[i]? = some (.tup l) ∧ l.length = shC s
theorem ShAt.tabAt {H : Hp} {x : V} {s : Sh} (h : ShAt K C H x s) (g : tabB s = true) : TabAt K C H x s := by
  unfold tabB at g
  cases h with
  | num h b n => cases g
  | oth h n => cases g
  | @tup a xs ss e l1 l2 p =>
  rw [show wholeN (.tup ss) = some (ss.map rowN) from rfl, tabW_some, Bool.and_eq_true, Bool.and_eq_true] at g
  obtain ⟨g0, g1, g2⟩ := g
  have g0 : 1 ≤ ss.length := by simpa using g0
  have row : ∀ i, i < ss.length → ∃ l, ss[i]? = some (.tup l) ∧ 1 ≤ l.length ∧ l.length = shC (.tup ss) := fun i hi => by
    have es := List.getElem?_eq_getElem hi
    have m1 := List.all_eq_true.mp g1 (rowN ss[i]) (List.mem_map.mpr ⟨_, List.getElem_mem hi, rfl⟩)
    have m2 := List.all_eq_true.mp g2 (rowN ss[i]) (List.mem_map.mpr ⟨_, List.getElem_mem hi, rfl⟩)
    have m1 := of_decide_eq_true m1
    have m2 := of_decide_eq_true m2
    have e0 : ((ss.map rowN).headD none).getD 0 = shC (.tup ss) := by
      cases ss with
      | nil => simp at g0
      | cons b r =>
        show (rowN b).getD 0 = (rowsS b).length
        cases b <;> rfl
    cases hs : ss[i] with
    | num p => rw [hs] at m1; exact absurd m1 (show ¬ (1 ≤ 0) by decide)
    | oth => rw [hs] at m1; exact absurd m1 (show ¬ (1 ≤ 0) by decide)
    | tup l =>
      rw [hs] at m1 m2
      rw [e0] at m2
      exact ⟨l, by rw [es, hs], m1, m2⟩
  obtain ⟨l0, el0, c0, ec0⟩ := row 0 (by omega)
  have r0 := List.getElem?_eq_getElem (l := xs) (i := 0) (by omega)
  have bnd : shC (.tup ss) ≤ 100 := by
    have h0 := p 0 _ _ r0 el0
    rw [← ec0]
    generalize xs[0] = y at h0
    cases h0 with
    | tup e l1 l2 p => omega
  refine ⟨⟨a, xs, rfl, e, l2.symm, fun i y hy => ?_⟩, g0, ?_, by omega, bnd, fun i hi => ?_⟩
  · have hi : i < ss.length := by rw [l2]; exact (List.getElem?_eq_some_iff.mp hy).1
    obtain ⟨l, el, c1, ec⟩ := row i hi
    have h1 := p i y _ hy el
    have er : rowS (.tup ss) i = .tup l := by
      show ss[i]?.getD .oth = _
      rw [el]
      rfl
    rw [er]
    cases h1 with
    | @tup b zs ls e' l1' l2' p' =>
      refine ⟨b, zs, rfl, e', by omega, fun j z hz => ?_⟩
      have hj : j < l.length := by rw [l2']; exact (List.getElem?_eq_some_iff.mp hz).1
      have ej := List.getElem?_eq_getElem hj
      have eq : rowS (.tup l) j = l[j] := by
        show l[j]?.getD .oth = _
        rw [ej]
        rfl
      rw [eq]
      exact p' j z _ hz ej
  · show ss.length ≤ 100
    omega
  · obtain ⟨l, el, _, ec⟩ := row i hi
    exact ⟨l, el, ec⟩
theorem TabAt.same {H H' : Hp} {x : V} {s : Sh} (h : TabAt K C H x s) (sm : Same H H') : TabAt K C H' x s := by
  obtain ⟨⟨t, rs, e, ht, hl, hr⟩, a, b, c, d, g⟩ := h
  refine ⟨⟨t, rs, e, sm _ _ ht, hl, fun i y hy => ?_⟩, a, b, c, d, g⟩
  obtain ⟨p, xs, e, hp, hl, hc⟩ := hr i y hy
  exact ⟨p, xs, e, sm _ _ hp, hl, fun j z hz => (hc j z hz).same sm⟩
/-- are all its cells numbers -/
theorem TabAt.cells {H : Hp} {x : V} {s : Sh} (h : TabAt K C H x s) : cellsB s = true ↔ ∀ i j, i < shR s → j < shC s → numB (rowS (rowS s i) j) = true := by
  unfold cellsB
  rw [List.all_eq_true]
  have ri : ∀ i l, (rowsS s)[i]? = some l → rowS s i = l := fun i l e => by unfold rowS; rw [e]; rfl
  constructor
  · intro g i j hi hj
    obtain ⟨l, el, hl⟩ := h.row i hi
    have := List.all_eq_true.mp (g _ (List.mem_of_getElem? el)) (rowS (.tup l) j) (by
      have ej := List.getElem?_eq_getElem (l := l) (i := j) (by omega)
      have : rowS (.tup l) j = l[j] := by
        show l[j]?.getD .oth = _
        rw [ej]
        rfl
      rw [this]
      exact List.getElem_mem _)
    rw [ri i _ el]
    exact this
  · intro g l hl
    obtain ⟨i, el⟩ := List.getElem?_of_mem hl
    have hi : i < shR s := (List.getElem?_eq_some_iff.mp el).1
    obtain ⟨l', el', hl'⟩ := h.row i hi
    obtain rfl := Option.some.inj (el.symm.trans el')
    refine List.all_eq_true.mpr fun z hz => ?_
    obtain ⟨j, ej⟩ := List.getElem?_of_mem hz
    have hj : j < l'.length := (List.getElem?_eq_some_iff.mp ej).1
    have := g i j hi (by omega)
    rw [ri i _ el'] at this
    have e2 : rowS (.tup l') j = z := by
      show l'[j]?.getD .oth = _
      rw [show l'[j]? = some z from ej]
      rfl
    rw [e2] at this
    exact this
theorem TabAt.tb {H : Hp} {x : V} {s : Sh} (h : TabAt K C H x s) (g : cellsB s = true) : ∃ t, x = .ref t ∧ Tb (fun H y q => NumAt C H y q ∧ Bd q 43) H t (shR s) (shC s) (shF s) := by
  obtain ⟨t, rs, e, ht, hl, hr⟩ := h.ex
  refine ⟨t, e, rs, ht, hl, fun i y hy => ?_⟩
  obtain ⟨p, xs, e, hp, hxl, hc⟩ := hr i y hy
  refine ⟨p, xs, e, hp, hxl, fun j z hz => ?_⟩
  have hi : i < shR s := by rw [← hl]; exact (List.getElem?_eq_some_iff.mp hy).1
  have hj : j < shC s := by rw [← hxl]; exact (List.getElem?_eq_some_iff.mp hz).1
  have hn := h.cells.mp g i j hi hj
  have hz' := hc j z hz
  unfold shF
  generalize rowS (rowS s i) j = o at hn hz'
  cases hz' with
  | num h b n => exact ⟨h, b⟩
  | oth h n => cases hn
  | tup e l1 l2 p => cases hn
theorem TabAt.bds {H : Hp} {x : V} {s : Sh} (h : TabAt K C H x s) (g : cellsB s = true) : ∀ i j, i < shR s → j < shC s → Bd (shF s i j) 43 := fun i j hi hj => by
  obtain ⟨t, _, rs, _, hl, hr⟩ := h.tb g
  obtain ⟨p, xs, _, _, hxl, hc⟩ := hr i _ (List.getElem?_eq_getElem (by omega))
  exact (hc j _ (List.getElem?_eq_getElem (by omega))).2
/-! ### Matrix(entries), of anything -/
def spMInitX (K : PySem.W.Frag) (C CM CE : Addr) : Sp := fun vs H Q E => ∃ (a dx : Addr) (x : V) (s : Sh), vs = [.ref a, x] ∧ H a = some (.ins CM dx []) ∧ ShAt K C H x s ∧
  (goodB s = false → Rsd CE H x E) ∧
  (goodB s = true → ∀ H' t', H' a = some (.ins CM dx (mfl t')) → Tb (RC C) H' t' (shR s) (shC s) (shF s) → (∀ b o, H b = some o → b ≠ a → H' b = some o) → Q .non H')
theorem all_flat {r c : Nat} {g : Nat → Nat → Bool} : (((List.range r).flatMap fun i => (List.range c).map (g i)).all id = true) ↔ ∀ i j, i < r → j < c → g i j = true := by
  rw [List.all_eq_true]
  constructor
  · intro h i j hi hj
    exact h _ (List.mem_flatMap.mpr ⟨i, List.mem_range.mpr hi, List.mem_map.mpr ⟨j, List.mem_range.mpr hj, rfl⟩⟩)
  · intro h b hb
    obtain ⟨i, hi, hb⟩ := List.mem_flatMap.mp hb
    obtain ⟨j, hj, rfl⟩ := List.mem_map.mp hb
    exact h i j (List.mem_range.mp hi) (List.mem_range.mp hj)
theorem ok_minitX {f : Addr} {fd : FuncData} (F : Fun K "__init__" "Matrix.__init__" s_Matrix___init__ f fd) (T : TxM K mg C CM) (O : Others K C) (x_ent : XeC P w K mg base CE) (c_istab : IstabW P w K mg base) (c_number : NumberC P w K mg base C) (c_to : ToC P w K mg base C) : FnOk P w K mg base (L2N.CX P w) 8 f fd ["self", "entries"] (spMInitX K C CM CE) := by
  refine fun_okN F sc_Matrix___init__ (fun vs H Q E h => ?_) (fun cdv A outer s H vs Q E hr h => ?_)
  · obtain ⟨a, dx, x, s, rfl, _⟩ := h
    rfl
  · obtain ⟨a, dx, x, o, rfl, ha, hx, kF, kT⟩ := h
    refine ⟨_, (pss_cons (ps_if (pt_not (PW.pt (pw_and (pt_val (pe_cf c_istab hr (by decide) rfl (pa_cons (pv 1) pa_nil))) (pw_and1 (pt_val (pe_callB (id := "all") (cr_allK (K := K) rfl) (by rfl) T.b_all (by decide +kernel) (pa_cons (pe_lc2I (pe_lc2 (own := [("row", 2), ("number", 3)]) (vs1 := [3]) rfl sc_Matrix___init__.nd (pi_tupK (K := K) (pv 1)) (blkOk_by (N := ["self", "entries", "row", "number"]) (sc := (defScope s_Matrix___init__)) (by decide +kernel)) (by decide) (fun _ _ _ _ _ => (pg_name (i := 2) sc_Matrix___init__.nd rfl (Or.inl rfl))) (fun _ _ _ _ _ => pts_nil) (fun _ _ _ _ _ => (pi_tupK (K := K) (pv 2))) (fun _ _ _ _ _ => (pg_name (i := 3) sc_Matrix___init__.nd rfl (Or.inl rfl))) (fun _ _ _ _ _ => pts_nil) (fun _ _ _ _ _ => (pe_cut (pe_cf c_number hr (by decide) rfl (pa_cons (pv 3) pa_nil)))))) pa_nil))))))) (pss_one (ps_raiseX x_ent hr (by decide) rfl (L2N.takes_of rfl rfl rfl rfl) rfl (pa_cons (pv 1) pa_nil)))
  pss_nil)
  (pss_one (ps_fld (pv 0) (pe_callTy (call_tuple_ofK (K := K)) (by rfl) T.b_tuple (by decide +kernel) (pa_cons (pe_lcI (pe_lc (own := [("row", 2)]) rfl sc_Matrix___init__.nd (pi_tupK (K := K) (pv 1)) (blkOk_by (N := ["self", "entries", "row", "number"]) (sc := (defScope s_Matrix___init__)) (by decide +kernel)) (fun _ _ _ _ _ => (pg_name (i := 2) sc_Matrix___init__.nd rfl (Or.inl rfl))) (fun _ _ _ _ _ => pts_nil) (fun _ _ _ _ _ => (pe_cut (pe_callTy (call_tuple_ofK (K := K)) (by rfl) T.b_tuple (by decide +kernel) (pa_cons (pe_lcI (pe_lc (own := [("number", 3)]) rfl sc_Matrix___init__.nd (pi_tupK (K := K) (pv 2)) (blkOk_by (N := ["self", "entries", "row", "number"]) (sc := ({ kind := .function, names := [(PySem.Str.ofString ".0", .local), (PySem.Str.ofString "row", .local), (PySem.Str.ofString "tuple", .globalImplicit)], isGenerator := false, isCoroutine := false } : Scope)) (by decide +kernel)) (fun _ _ _ _ _ => (pg_name (i := 3) sc_Matrix___init__.nd rfl (Or.inl rfl))) (fun _ _ _ _ _ => pts_nil) (fun _ _ _ _ _ => (pe_cut (pe_cf c_to hr (by decide) rfl (pa_cons (pv 3) pa_nil)))))) pa_nil)))))) pa_nil)) rfl))), ?_⟩
    have boom : ∀ {H' : Hp}, Same H H' → goodB o = false → Rsd CE H' x E := fun s e => (kF e).same s
    -- if not (is_table(entries) and all([is_number(number) for row in entries for number in row]))
    refine ⟨_, rfl, x, _, rfl, hx.whole, fun H1 s1 => ⟨_, rfl, ?_⟩⟩
    cases hg : tabB o with
    | false =>
      have hg' : tabW (wholeN o) = false := hg
      rw [hg']
      exact iteF ⟨_, rfl, _, rfl, fun d H' s n e' => boom s1 (by unfold goodB; rw [hg]; rfl) d H' s n e'⟩
    | true =>
    have hg' : tabW (wholeN o) = true := hg
    rw [hg']
    refine iteT ?_
    have tA := (hx.same s1).tabAt hg
    obtain ⟨t, rs, rfl, et, hl, hrow⟩ := tA.ex
    have r0 := tA.r0
    have r1 := tA.r1
    have c0 := tA.c0
    have c1 := tA.c1
    refine ⟨_, rfl, t, rfl, ⟨rs, SqT.of et⟩, fun D hD => ?_⟩
    refine lc2_tupF (K := K) (shC o) (fun i j => .bl (numB (rowS (rowS o i) j))) et hD (by decide) (show 2 < 4 by decide) (show 3 < 4 by decide) (fun x hx => ?_) (by omega) (by omega) (fun i j p xs y H2 hi hp hj s2 => ?_) fun H2 s2 e2 => ?_
    · obtain ⟨i, hi⟩ := List.getElem?_of_mem hx
      obtain ⟨p, xs, e, hp, hxl, _⟩ := hrow i x hi
      exact ⟨p, xs, e, hp, hxl⟩
    · obtain ⟨p', xs', e, hp', hxl, hc⟩ := hrow i _ hi
      cases e
      have exs : xs = xs' := by
        have := hp.symm.trans hp'
        cases this
        rfl
      subst exs
      obtain ⟨ty, b1, b2, b3, h1, h2, h3, h4, h5⟩ := ((hc j y hj).same s2).dig T.toTxR O
      refine ⟨_, rfl, y, ty, b1, b2, b3, rfl, h1, h2, h3, h4, Same.refl _, ?_⟩
      rw [h5]
    have ef : ((List.range rs.length).flatMap fun i => (List.range (shC o)).map fun j => V.bl (numB (rowS (rowS o i) j))) = ((List.range rs.length).flatMap fun i => (List.range (shC o)).map fun j => numB (rowS (rowS o i) j)).map V.bl := by
      rw [List.map_flatMap]
      congr 1
      funext i
      rw [List.map_map]
      rfl
    refine ⟨D, _, rfl, SqL.of (by rw [e2, ef]), _, rfl, ?_⟩
    have ec : (((List.range rs.length).flatMap fun i => (List.range (shC o)).map fun j => numB (rowS (rowS o i) j)).all id) = cellsB o := by
      refine Bool.eq_iff_iff.mpr ?_
      rw [all_flat, tA.cells, hl]
    rw [ec]
    cases hcl : cellsB o with
    | false => exact iteT ⟨_, rfl, _, rfl, fun d H' s n e' => boom (s1.trans s2) (by unfold goodB; rw [hg, hcl]; rfl) d H' s n e'⟩
    | true =>
    refine iteF ?_
    have gd : goodB o = true := by unfold goodB; rw [hg, hcl]; rfl
    -- self._entries = tuple([tuple([to_ratio(number) for number in row]) for row in entries])
    obtain ⟨t', e', htb⟩ := tA.tb hcl
    cases e'
    have htb := htb.imp (P' := NumAt C) fun h => h.1
    obtain ⟨rs', et', hl', hrow'⟩ := htb
    obtain rfl : rs = rs' := by
      have := et.symm.trans et'
      cases this
      rfl
    have s12 := s1.trans s2
    have k := kT gd
    refine ⟨_, rfl, t, rfl, ⟨rs, SqT.of (s2 _ _ et)⟩, fun D3 hD3 => ?_⟩
    refine lc_same (walk_tup (K := K) (a := t) (xs := rs)) hD3 (by omega) (fun i y G => Rw (RC C) G y (shC o) (shF o i)) (fun i y G G' h s => h.same (rc_mono C) s) (fun G s => SqT.of (s _ _ (s2 _ _ et))) yat_same (fun i x H3 H3' hi s3 _ hy => ?_) fun ys3 H3 hl3 s3 e3 h3 => ?_
    · obtain ⟨rfl, hx⟩ := hy
      obtain ⟨p, xs, rfl, hp, hxl, hc⟩ := (hrow' i x hx).same (num_mono C) (s2.trans s3)
      refine ⟨_, fun _ h => h, wipe_one, ?_⟩
      refine ⟨_, rfl, p, rfl, ⟨xs, SqT.of hp⟩, fun D4 hD4 => ?_⟩
      refine lc_same (walk_tup (K := K) (a := p) (xs := xs)) hD4 (by omega) (fun j y G => RC C G y (shF o i j)) (fun j y G G' h s => (rc_mono C).same h s) (fun G s => SqT.of (s _ _ hp)) yat_same (fun j y H4 H4' hj s4 _ hy => ?_) fun ys4 H4 hl4 s4 e4 h4 => ?_
      · obtain ⟨rfl, hy⟩ := hy
        refine ⟨_, fun _ h => h, wipe_one, ?_⟩
        exact ⟨_, rfl, y, shF o i j, rfl, (hc j y hy).same s4, fun r' H5 s5 h5 => ⟨s5, fun ⟨l, hl⟩ => (rc_mono C).hid ⟨r', rfl, h5⟩ hl⟩⟩
      · refine ⟨D4, ys4, rfl, .inl ⟨SqL.of e4, fun T2 hT2 => ⟨MG.Same.new s4 hT2, fun ⟨l, hl⟩ => ?_⟩⟩⟩
        exact (rw_new (rc_mono C) (hid_same D4 H4) hT2 (hl4.trans hxl) h4).hid (rc_mono C) hl
    refine ⟨D3, ys3, rfl, .inl ⟨SqL.of e3, fun T3 hT3 => ?_⟩⟩
    have s123 := s12.trans s3
    have s4 : Same H (upd H3 T3 (.tup ys3)) := MG.Same.new s123 hT3
    refine ⟨_, rfl, a, CM, dx, _, rfl, s4 _ _ ha, T.clM, T.nE, (by show 0 < 1000; decide), ?_⟩
    have tb := tb_new (rc_mono C) (hid_same D3 H3) hT3 (hl3.trans hl) h3
    refine k _ T3 upd_same ?_ fun b o hb hne => ?_
    · exact tb_upd (s4 _ _ ha) tb
    · rw [upd_ne hne]
      exact s4 _ _ hb
abbrev MatX (P : Program) (w : World) (K : PySem.W.Frag) (mg : Str → Option Value) (base : Heap) (C CM CE : Addr) : Prop := MakX P w K mg base 8 "Matrix" CM (spMInitX K C CM CE)
end
end Lw

/-! the texts of fractions -/
namespace Lw
open PySem PySem.Spec PyProof.Rows L2 MG TL
def DN (n : Nat) : Str := Str.ofString (toString ((n : Nat) : Int))
theorem tl_DN (n : Nat) : tl (DN n) = numL n := tl_num n
theorem tl_minus : tl (Str.ofString "-") = [45] := by decide +kernel
theorem tl_slash : tl (Str.ofString "/") = [47] := by decide +kernel
theorem tl_zero : tl (Str.ofString "0") = [48] := by decide +kernel
theorem str_one {x : Str} {c : Nat} (h : tl x = [c]) : x = ⟨#[c]⟩ := ext_tl (by rw [h])
theorem z_txt (i : Int) : Str.ofString (toString i) = if i < 0 then Str.ofString "-" ++ DN i.natAbs else DN i.natAbs := by
  by_cases h : i < 0
  · rw [if_pos h]
    refine ext_tl ?_
    rw [tl_append, tl_minus, tl_DN, tl_ofString, Int.toString_eq_repr, Int.repr_eq_if, if_neg (by omega), String.toList_append, List.map_append, Nat.toList_repr]
    have e : (-i).toNat = i.natAbs := by omega
    rw [e]
    rfl
  · rw [if_neg h]
    have e : ((i.natAbs : Nat) : Int) = i := by omega
    unfold DN
    rw [e]
def core (p : Rat) : Str := if p.den = 1 then DN p.num.natAbs else DN p.num.natAbs ++ Str.ofString "/" ++ DN p.den
theorem dg_core (p : Rat) : dg p = if p.num < 0 then Str.ofString "-" ++ core p else core p := by
  unfold dg core
  by_cases h1 : p.den = 1
  · rw [if_pos h1, if_pos h1]
    exact z_txt p.num
  · rw [if_neg h1, if_neg h1, z_txt p.num]
    by_cases h : p.num < 0
    · rw [if_pos h, if_pos h]
      refine ext_tl ?_
      rw [tl_append, tl_append, tl_append, tl_append, tl_append, tl_append, List.append_assoc, List.append_assoc, List.append_assoc]
      rfl
    · rw [if_neg h, if_neg h]
      rfl
/-! ### the first sign -/
theorem sub1 (x y : Str) {c : Nat} (hy : tl y = [c]) : Builtin.Str.subAt x y 0 = decide ((tl x).take 1 = [c]) := by
  have e := str_one hy
  subst e
  unfold Builtin.Str.subAt
  rw [Bool.eq_iff_iff, beq_iff_eq, decide_eq_true_iff, ← Array.toList_inj]
  show (x.cps.extract 0 (0 + 1)).toList = [c] ↔ _
  rw [Array.toList_extract]
  show (x.cps.toList.extract 0 (0 + 1)) = [c] ↔ _
  rw [List.extract_eq_take_drop]
  rfl
theorem starts1 (x y : Str) {c : Nat} (hy : tl y = [c]) : Txt.startswith x y = decide ((tl x).take 1 = [c]) := by
  unfold Txt.startswith
  rw [sub1 x y hy]
  by_cases h : (tl x).take 1 = [c]
  · have hl : 1 ≤ x.length := by
      rw [len_tl]
      cases e : tl x with
      | nil => rw [e] at h; cases h
      | cons a l => simp
    have hy1 : y.length = 1 := by rw [len_tl, hy]; rfl
    rw [hy1, decide_eq_true h, decide_eq_true (by omega : 0 + 1 ≤ x.length)]
    rfl
  · rw [decide_eq_false h, Bool.and_false]
theorem take1_core (p : Rat) : (tl (core p)).take 1 ≠ [45] := by
  have h : ∀ l, (numL p.num.natAbs ++ l).take 1 ≠ [45] := by
    intro l e
    cases en : numL p.num.natAbs with
    | nil => exact numL_ne _ en
    | cons a r =>
      rw [en] at e
      have e2 : a = 45 := by simpa using e
      have := numL_digits p.num.natAbs a (by rw [en]; simp)
      omega
  unfold core
  split
  · rw [tl_DN]
    have := h []
    rw [List.append_nil] at this
    exact this
  · rw [tl_append, tl_append, tl_DN, List.append_assoc]
    exact h _
theorem starts_dg (p : Rat) : Txt.startswith (dg p) (Str.ofString "-") = decide (p.num < 0) := by
  rw [starts1 _ _ tl_minus, dg_core]
  by_cases h : p.num < 0
  · rw [if_pos h, tl_append, tl_minus]
    simp [h]
  · rw [if_neg h, decide_eq_false (take1_core p), decide_eq_false h]
theorem affix_le (x : Str) (i j : Nat) : (Builtin.Str.strSub x i j).length ≤ x.length := by
  rw [len_tl, len_tl, tl_strSub, List.length_take, List.length_drop]
  omega
theorem rp_le (x y : Str) : (Txt.removeprefix x y).length ≤ x.length := by
  unfold Txt.removeprefix
  split
  · unfold Txt.affix
    dsimp only
    split
    · exact Nat.le_refl _
    · exact affix_le _ _ _
  · exact Nat.le_refl _
theorem rp_miss {x : Str} (h : (tl x).take 1 ≠ [45]) : Txt.removeprefix x (Str.ofString "-") = x := by
  unfold Txt.removeprefix
  rw [sub1 _ _ tl_minus, decide_eq_false h]
  rfl
theorem rp_hit (r : Str) : Txt.removeprefix (Str.ofString "-" ++ r) (Str.ofString "-") = r := by
  unfold Txt.removeprefix
  have h : (tl (Str.ofString "-" ++ r)).take 1 = [45] := by rw [tl_append, tl_minus]; rfl
  rw [sub1 _ _ tl_minus, decide_eq_true h]
  have l : (Str.ofString "-" ++ r).length = r.length + 1 := by rw [len_tl, tl_append, tl_minus, len_tl]; simp
  have l1 : (Str.ofString "-").length = 1 := by decide +kernel
  show (if ((Str.ofString "-" ++ r).length - (Str.ofString "-").length == (Str.ofString "-" ++ r).length) = true then _ else _) = r
  rw [l, l1, if_neg (by simp)]
  refine ext_tl ?_
  have e := tl_strSub_end (Str.ofString "-" ++ r) 1
  rw [l] at e
  rw [e, tl_append, tl_minus]
  rfl
theorem rp_dg (p : Rat) : Txt.removeprefix (dg p) (Str.ofString "-") = core p := by
  rw [dg_core]
  split
  · exact rp_hit _
  · exact rp_miss (take1_core p)
theorem part_core (p : Rat) : Txt.partition (core p) (Str.ofString "/") = if p.den = 1 then (DN p.num.natAbs, Str.empty, Str.empty) else (DN p.num.natAbs, Str.ofString "/", DN p.den) := by
  have free : ∀ n, 47 ∉ tl (DN n) := fun n => by rw [tl_DN]; exact numL_free (by omega)
  unfold core
  split
  · exact partition_none tl_slash (free _)
  · exact partition_app tl_slash (free _)
theorem split_core (p : Rat) : Txt.split (core p) (Str.ofString "/") = if p.den = 1 then [DN p.num.natAbs] else [DN p.num.natAbs, DN p.den] := by
  have free : ∀ n, 47 ∉ numL n := fun n => numL_free (by omega)
  refine map_tl_inj ?_
  rw [split_spl _ _ (by rw [tl_slash]; simp) (kind_ok (by decide +kernel)), tl_slash]
  unfold core
  split
  · rw [tl_DN, spl_last1 (free _)]
    simp [tl_DN]
  · rw [tl_append, tl_append, tl_DN, tl_DN, tl_slash, List.append_assoc, spl_part1 (free _), spl_last1 (free _)]
    simp [tl_DN]
theorem DN_inj {m n : Nat} (h : DN m = DN n) : m = n := numL_inj (by rw [← tl_DN, ← tl_DN, h])
theorem dg_inj {p q : Rat} (h : dg p = dg q) : p = q := by
  have h1 := starts_dg p
  rw [h, starts_dg q] at h1
  have hc : core p = core q := by rw [← rp_dg, h, rp_dg]
  have hp := part_core p
  rw [hc, part_core q] at hp
  have nz : Str.empty ≠ Str.ofString "/" := by decide +kernel
  have sgn : (q.num < 0) ↔ (p.num < 0) := by
    have := decide_eq_decide.mp h1
    exact this
  have fin : p.num.natAbs = q.num.natAbs → p.den = q.den → p = q := fun e1 e2 => Rat.ext (by omega) e2
  by_cases d1 : p.den = 1 <;> by_cases d2 : q.den = 1
  · rw [if_pos d1, if_pos d2] at hp
    exact fin (DN_inj (congrArg (·.1) hp)).symm (d1.trans d2.symm)
  · rw [if_pos d1, if_neg d2] at hp
    exact absurd (congrArg (·.2.1) hp).symm nz
  · rw [if_neg d1, if_pos d2] at hp
    exact absurd (congrArg (·.2.1) hp) nz
  · rw [if_neg d1, if_neg d2] at hp
    exact fin (DN_inj (congrArg (·.1) hp)).symm (DN_inj (congrArg (·.2.2) hp)).symm
/-! ### natural texts -/
theorem dig_uni : ∀ c, c < 128 → (Unicode.isDigit c = true ↔ 48 ≤ c ∧ c ≤ 57) := by decide +kernel
theorem dig_all {x : Str} : (Txt.isascii x && Txt.isdigit x) = true ↔ (NumText.AllDigits (tl x) ∧ tl x ≠ []) := by
  unfold Txt.isascii Txt.isdigit
  rw [Bool.and_eq_true, Bool.and_eq_true, ← Array.all_toList, ← Array.all_toList, List.all_eq_true, List.all_eq_true, decide_eq_true_iff]
  constructor
  · rintro ⟨h1, h2, h3⟩
    refine ⟨fun c hc => (dig_uni c (of_decide_eq_true (h1 c hc))).mp (h3 c hc), fun e => ?_⟩
    rw [len_tl, e] at h2
    simp at h2
  · rintro ⟨h1, h2⟩
    refine ⟨fun c hc => decide_eq_true (by have := h1 c hc; omega), ?_, fun c hc => (dig_uni c (by have := h1 c hc; omega)).mpr (h1 c hc)⟩
    rw [len_tl]
    cases e : tl x with
    | nil => exact absurd e h2
    | cons a l => simp
def natB (x : Str) : Bool := (Txt.isascii x && Txt.isdigit x) && (decide (x = Str.ofString "0") || !Txt.startswith x (Str.ofString "0"))
theorem val_lt : ∀ (l : List Nat) (a : Nat), NumText.AllDigits l → l.foldl (fun acc c => acc * 10 + (c - 48)) a < (a + 1) * 10 ^ l.length
  | [], a, _ => by simp
  | c :: r, a, h => by
    rw [List.foldl_cons, List.length_cons]
    have hc := h c (by simp)
    have ih := val_lt r (a * 10 + (c - 48)) fun d hd => h d (by simp [hd])
    refine Nat.lt_of_lt_of_le ih ?_
    rw [Nat.pow_succ, Nat.mul_comm (10 ^ r.length) 10, ← Nat.mul_assoc]
    exact Nat.mul_le_mul_right _ (by omega)
theorem dig_int {x : Str} (h : NumText.AllDigits (tl x)) (h1 : tl x ≠ []) (hl : x.length ≤ 640) : PySem.intText? x = some ((NumText.digitsVal (tl x) : Nat) : Int) ∧ NumText.digitsVal (tl x) < 10 ^ x.length := by
  refine ⟨intText_digits h h1 (by omega), ?_⟩
  have := val_lt (tl x) 0 h
  rw [len_tl]
  rw [Nat.zero_add, Nat.one_mul] at this
  exact this
theorem numL_head {n : Nat} : 0 < n → ∃ c r, numL n = c :: r ∧ 49 ≤ c := by
  induction n using Nat.strongRecOn with
  | _ n ih =>
    intro h
    by_cases h10 : n < 10
    · exact ⟨48 + n, [], numL_lt h10, by omega⟩
    · obtain ⟨c, r, e, hc⟩ := ih (n / 10) (by omega) (by omega)
      exact ⟨c, r ++ [48 + n % 10], by rw [numL_step (by omega), e]; rfl, hc⟩
theorem nat_DN (n : Nat) : natB (DN n) = true := by
  unfold natB
  rw [Bool.and_eq_true]
  refine ⟨dig_all.mpr ⟨by rw [tl_DN]; exact numL_digits n, by rw [tl_DN]; exact numL_ne n⟩, ?_⟩
  rw [starts1 _ _ tl_zero, tl_DN]
  by_cases h : n = 0
  · subst h
    rw [decide_eq_true (by decide +kernel : DN 0 = Str.ofString "0")]
    rfl
  · obtain ⟨c, r, e, hc⟩ := numL_head (Nat.pos_of_ne_zero h)
    rw [e]
    have : ¬ ([c] = [48]) := by simp; omega
    simp
    omega
theorem nat_pos {x : Str} (h : natB x = true) (h0 : x ≠ Str.ofString "0") : NumText.digitsVal (tl x) ≠ 0 := by
  unfold natB at h
  rw [Bool.and_eq_true, decide_eq_false h0, Bool.false_or, starts1 _ _ tl_zero] at h
  obtain ⟨h1, h2⟩ := h
  obtain ⟨d, ne⟩ := dig_all.mp h1
  cases e : tl x with
  | nil => exact absurd e ne
  | cons c r =>
    rw [e] at h2 d
    have hc := d c (by simp)
    have hn : c ≠ 48 := by
      intro z
      rw [z] at h2
      simp at h2
    exact Nat.pos_iff_ne_zero.mp (NumText.digitsVal_pos (by omega))
theorem val_DN (n : Nat) : NumText.digitsVal (tl (DN n)) = n := by rw [tl_DN, numL_val]
theorem DN_zero {n : Nat} (h : n ≠ 0) : DN n ≠ Str.ofString "0" := fun e => h (DN_inj (e.trans (by decide +kernel : Str.ofString "0" = DN 0)))
/-! ### parts of a text -/
theorem par_len (S : List Nat) : ∀ (l acc a b : List Nat), par S acc l = some (a, b) → a.length + b.length ≤ acc.length + l.length
  | [], acc, a, b, h => by cases h
  | c :: r, acc, a, b, h => by
    by_cases hp : pre S (c :: r) = true
    · rw [par_hit hp] at h
      obtain ⟨rfl, rfl⟩ := Prod.mk.inj (Option.some.inj h)
      rw [List.length_drop]
      omega
    · have hp' : pre S (c :: r) = false := by simpa using hp
      rw [par_miss hp'] at h
      have := par_len S r (acc ++ [c]) a b h
      simp only [List.length_append, List.length_cons, List.length_nil] at this ⊢
      omega
theorem part_le (x : Str) : (Txt.partition x (Str.ofString "/")).1.length ≤ x.length ∧ (Txt.partition x (Str.ofString "/")).2.2.length ≤ x.length := by
  rw [partition_par _ _ (by rw [tl_slash]; simp)]
  cases e : par (tl (Str.ofString "/")) [] (tl x) with
  | none => exact ⟨Nat.le_refl _, Nat.zero_le _⟩
  | some ab =>
    obtain ⟨a, b⟩ := ab
    have := par_len _ _ _ _ _ e
    rw [len_tl x]
    simp only [List.length_nil] at this
    constructor
    · show (⟨a.toArray⟩ : Str).length ≤ _
      rw [len_tl, tl_mk]
      omega
    · show (⟨b.toArray⟩ : Str).length ≤ _
      rw [len_tl, tl_mk]
      omega
theorem spl_len (S : List Nat) : ∀ (l acc : List Nat) (k : Nat) (p : List Nat), p ∈ spl S k acc l → p.length ≤ acc.length + l.length
  | [], acc, k, p, h => by
    rw [spl_nil] at h
    have e : p = acc := by simpa using h
    rw [e]
    omega
  | c :: r, acc, k + 1, p, h => by
    have h' : p ∈ spl S k acc r := h
    have := spl_len S r acc k p h'
    simp only [List.length_cons]
    omega
  | c :: r, acc, 0, p, h => by
    by_cases hp : pre S (c :: r) = true
    · rw [spl_hit hp] at h
      rcases List.mem_cons.mp h with rfl | h
      · omega
      · have := spl_len S r [] _ p h
        simp only [List.length_nil, List.length_cons] at this ⊢
        omega
    · have hp' : pre S (c :: r) = false := by simpa using hp
      rw [spl_miss hp'] at h
      have := spl_len S r _ 0 p h
      simp only [List.length_append, List.length_cons, List.length_nil] at this ⊢
      omega
theorem spl_ne (S : List Nat) : ∀ (l acc : List Nat) (k : Nat), spl S k acc l ≠ []
  | [], acc, k => by rw [spl_nil]; simp
  | c :: r, acc, k + 1 => spl_ne S r acc k
  | c :: r, acc, 0 => by
    by_cases hp : pre S (c :: r) = true
    · rw [spl_hit hp]; simp
    · have hp' : pre S (c :: r) = false := by simpa using hp
      rw [spl_miss hp']
      exact spl_ne S r _ 0
theorem split_facts (x : Str) : Txt.split x (Str.ofString "/") ≠ [] ∧ ∀ p ∈ Txt.split x (Str.ofString "/"), p.length ≤ x.length := by
  have e := split_spl x (Str.ofString "/") (by rw [tl_slash]; simp) (kind_ok (by decide +kernel))
  refine ⟨fun z => ?_, fun p hp => ?_⟩
  · rw [z] at e
    exact spl_ne _ _ _ _ e.symm
  · have h : tl p ∈ (Txt.split x (Str.ofString "/")).map tl := List.mem_map.mpr ⟨p, hp, rfl⟩
    rw [e] at h
    have := spl_len _ _ _ _ _ h
    rw [len_tl, len_tl]
    simpa using this
/-! ### slices -/
theorem tl_cut (z : Str) (lo hi : Option Int) : ∃ a b, tl (cutS z lo hi) = ((tl z).drop a).take b := ⟨_, _, rfl⟩
theorem asc_cut {z : Str} (h : Asc z) (lo hi : Option Int) : Asc (cutS z lo hi) := fun c hc => by
  obtain ⟨a, b, e⟩ := tl_cut z lo hi
  have hc' : c ∈ tl (cutS z lo hi) := hc
  rw [e] at hc'
  exact h c (List.mem_of_mem_drop (List.mem_of_mem_take hc'))
theorem cut_first (z : Str) : cutS z none (some 1) = Str.ofString "-" ↔ (tl z).take 1 = [45] := by
  have e : tl (cutS z none (some 1)) = (tl z).take 1 := by
    show ((tl z).drop (HT.sIx z.length 0 none)).take (HT.sIx z.length z.length (some 1) - HT.sIx z.length 0 none) = _
    have h0 : HT.sIx z.length 0 none = 0 := rfl
    rw [h0, List.drop_zero, Nat.sub_zero]
    have h1 : HT.sIx z.length z.length (some 1) = min 1 z.length := by
      unfold HT.sIx
      simp
    rw [h1, len_tl]
    rw [← List.take_take]
    rw [List.take_of_length_le (Nat.le_refl (tl z).length)]
  constructor
  · intro h
    rw [← e, h, tl_minus]
  · intro h
    exact ext_tl (by rw [e, h, tl_minus])
theorem cut_rest (z : Str) : tl (cutS z (some 1) none) = (tl z).drop 1 := by
  show ((tl z).drop (HT.sIx z.length 0 (some 1))).take (HT.sIx z.length z.length none - HT.sIx z.length 0 (some 1)) = _
  have h0 : HT.sIx z.length z.length none = z.length := rfl
  have h1 : HT.sIx z.length 0 (some 1) = min 1 z.length := by
    unfold HT.sIx
    simp
  rw [h0, h1, len_tl]
  by_cases hz : (tl z).length = 0
  · have : tl z = [] := List.length_eq_zero_iff.mp hz
    rw [this]
    rfl
  · have hm : min 1 (tl z).length = 1 := by omega
    rw [hm]
    rw [List.take_of_length_le]
    rw [List.length_drop]
    omega
/-! ### the law's own digits -/
theorem tl_figs : tl (Str.ofString "0123456789") = [48, 49, 50, 51, 52, 53, 54, 55, 56, 57] := by decide +kernel
def figB (c : Nat) : Bool := decide (c ∈ tl (Str.ofString "0123456789"))
theorem fig_iff (c : Nat) : figB c = true ↔ 48 ≤ c ∧ c ≤ 57 := by
  unfold figB
  rw [decide_eq_true_iff, tl_figs]
  simp only [List.mem_cons, List.not_mem_nil, or_false]
  omega
/-- half != '' and all digits -/
def digB (h : Str) : Bool := if h = Str.empty then false else ((tl h).map figB).all id
theorem empty_tl {h : Str} : h = Str.empty ↔ tl h = [] := ⟨fun e => by rw [e]; rfl, fun e => ext_tl (by rw [e]; rfl)⟩
theorem digB_iff {h : Str} : digB h = true ↔ NumText.AllDigits (tl h) ∧ tl h ≠ [] := by
  unfold digB
  by_cases e : h = Str.empty
  · rw [if_pos e]
    simp [empty_tl.mp e]
  · rw [if_neg e]
    have ne : tl h ≠ [] := fun z => e (empty_tl.mpr z)
    rw [List.all_eq_true]
    constructor
    · intro a
      exact ⟨fun c hc => (fig_iff c).mp (a _ (List.mem_map.mpr ⟨c, hc, rfl⟩)), ne⟩
    · rintro ⟨a, _⟩ b hb
      obtain ⟨c, hc, rfl⟩ := List.mem_map.mp hb
      exact (fig_iff c).mpr (a c hc)
theorem digB_DN (n : Nat) : digB (DN n) = true := digB_iff.mpr ⟨by rw [tl_DN]; exact numL_digits n, by rw [tl_DN]; exact numL_ne n⟩
/-- the fraction of the pieces -/
theorem frac_of (p : Rat) : (if p.num < 0 then Rat.divInt (-(p.num.natAbs : Int)) p.den else Rat.divInt (p.num.natAbs : Int) p.den) = p := by
  split
  · have e : -(p.num.natAbs : Int) = p.num := by omega
    rw [e, Rat.num_divInt_den]
  · have e : (p.num.natAbs : Int) = p.num := by omega
    rw [e, Rat.num_divInt_den]
theorem frac_neg (p : Rat) : (if p.num < 0 then -(Rat.divInt (p.num.natAbs : Int) p.den) else Rat.divInt (p.num.natAbs : Int) p.den) = p := by
  rw [Rat.neg_divInt]
  exact frac_of p
end Lw

namespace Lw
open PySem PySem.Spec PyProof.Rows L2 MG TL
abbrev s_Matrix_entries : Stmt := inClass (top 26) 1
abbrev s_Matrix_rows : Stmt := inClass (top 26) 2
abbrev s_Matrix_columns : Stmt := inClass (top 26) 3
abbrev s_Matrix_transposed : Stmt := inClass (top 26) 4
abbrev s_Matrix___getitem__ : Stmt := inClass (top 26) 16
abbrev s_Matrix___eq__ : Stmt := inClass (top 26) 18
abbrev s_Matrix___str__ : Stmt := inClass (top 26) 19
abbrev s_Matrix___repr__ : Stmt := inClass (top 26) 20
abbrev s_Matrix_zero : Stmt := inClass (top 26) 6
abbrev s_is_index : Stmt := top 19
abbrev s_is_size : Stmt := top 21
def Bds (r c : Nat) (f : Nat → Nat → Rat) (k : Nat) : Prop := ∀ i j, i < r → j < c → Bd (f i j) k
theorem DN_len {n k : Nat} (hk : 0 < k) (h : n < 10 ^ k) : (DN n).length ≤ k := by
  rw [len_tl, tl_DN]
  exact numL_len hk h
theorem dg_len {p : Rat} {k : Nat} (hk : 0 < k) (b : Bd p k) : (dg p).length ≤ 2 * k + 2 := by
  have h1 := DN_len hk b.1
  have h2 := DN_len (n := p.den) hk b.2
  have e1 : (Str.ofString "/").length = 1 := rfl
  have e2 : (Str.ofString "-").length = 1 := rfl
  have hc : (core p).length ≤ 2 * k + 1 := by
    unfold core
    split
    · omega
    · rw [strLen_append, strLen_append]; omega
  rw [dg_core]
  split
  · rw [strLen_append]; omega
  · omega
def rowT (c : Nat) (g : Nat → Rat) : Str := Txt.join (Str.ofString " ") ((List.range c).map fun j => dg (g j))
def tabT (r c : Nat) (f : Nat → Nat → Rat) : Str := Txt.join (Str.ofString "; ") ((List.range r).map fun i => rowT c (f i))
theorem join_le {n : Nat} (y : Str) {ts : List Str} (h : ∀ t ∈ ts, t.length ≤ n) : (Txt.join y ts).length ≤ (n + y.length) * ts.length := by
  rw [join_eq]
  have h1 := StrLaws.join_length_le y ts
  have h2 := sum_le h
  rw [Nat.add_mul, Nat.mul_comm y.length]
  omega
theorem mem_tab {α : Type} {n : Nat} {f : Nat → α} {x : α} (h : x ∈ (List.range n).map f) : ∃ i, i < n ∧ x = f i := by
  obtain ⟨i, hi, rfl⟩ := List.mem_map.mp h
  exact ⟨i, List.mem_range.mp hi, rfl⟩
theorem rowT_len {c k : Nat} {g : Nat → Rat} (hk : 0 < k) (b : ∀ j, j < c → Bd (g j) k) : (rowT c g).length ≤ (2 * k + 3) * c := by
  have := join_le (n := 2 * k + 2) (Str.ofString " ") (ts := (List.range c).map fun j => dg (g j)) fun t ht => by
    obtain ⟨j, hj, rfl⟩ := mem_tab ht
    exact dg_len hk (b j hj)
  have e1 : (Str.ofString " ").length = 1 := rfl
  rw [e1, List.length_map, List.length_range] at this
  exact this
theorem strs_of {ys : List V} {n : Nat} {f : Nat → Str} (hl : ys.length = n) (h : ∀ (i : Nat) (y : V), ys[i]? = some y → y = .str (f i)) : ys = ((List.range n).map f).map V.str := by
  refine List.ext_getElem? fun i => ?_
  rw [List.map_map, List.getElem?_map]
  by_cases hi : i < n
  · rw [List.getElem?_range hi, List.getElem?_eq_getElem (by omega)]
    exact congrArg some (h i _ (List.getElem?_eq_getElem (by omega)))
  · rw [List.getElem?_eq_none (by omega), List.getElem?_eq_none (by simpa using hi)]
    rfl
section
variable {P : Program} {w : World} {K : PySem.W.Frag} {mg : Str → Option Value} {base : Heap} {C CM CX : Addr}
/-- sizes that occur -/
def Sz (r c : Nat) : Prop := 0 < r ∧ r ≤ 1000 ∧ 0 < c ∧ c ≤ 1000
/-- the reading of Matrix(t) -/
theorem make_mat {H : Hp} {t : Addr} {r c : Nat} {f : Nat → Nat → Rat} {Q : VK} (ht : Tb (RC C) H t r c f) (z : Sz r c) (k : ∀ m H', H m = none → Same H H' → MtAt C CM H' m r c f → Q (.ref m) H') :
    ∀ x dx, H x = none → H dx = none → dx ≠ x → spMInit C CM [.ref x, .ref t] (upd (upd H dx (.own x)) x (.ins CM dx [])) (fun v H2 => v = .non ∧ Q (.ref x) H2) E0 := by
  intro x dx hx hdx hne
  have s1 : Same H (upd (upd H dx (.own x)) x (.ins CM dx [])) := MG.Same.new (MG.Same.new (Same.refl H) hdx) (by rw [upd_ne (fun e => hne e.symm)]; exact hx)
  refine ⟨x, dx, t, r, c, f, rfl, upd_same, (ht.same (rc_mono C) s1).imp RC.num, z, fun H' t' e tb kp => ⟨rfl, k x H' hx (fun b o hb => ?_) ⟨dx, t', e, tb⟩⟩⟩
  exact kp b o (s1 _ _ hb) (ne_of_none hb hx)
/-! ### properties -/
def spEntries (CM : Addr) : Sp := fun vs H Q _ => ∃ (a dx t : Addr), vs = [.ref a] ∧ H a = some (.ins CM dx (mfl t)) ∧ Q (.ref t) H
theorem sc_Matrix_entries : FnScope ["self"] ["self"] (defScope s_Matrix_entries) := ⟨rfl, rfl, rfl, by decide +kernel, rfl, by decide +kernel, by decide +kernel⟩
theorem ok_entries {f : Addr} {fd : FuncData} (F : Fun K "entries" "Matrix.entries" s_Matrix_entries f fd) (T : TxM K mg C CM) : FnOk P w K mg base CX0 2 f fd ["self"] (spEntries CM) := by
  refine F.ok sc_Matrix_entries (fun vs H Q E h => ?_) (fun cdv A outer s H vs Q E hr h => ?_)
  · obtain ⟨a, dx, t, rfl, _⟩ := h
    rfl
  · obtain ⟨a, dx, t, rfl, ha, k⟩ := h
    exact ⟨_, (pss_one (ps_ret (pe_fldK (K := K) (pv 0) rfl))), _, rfl, a, CM, dx, _, _, rfl, ha, T.clM, T.nE, mfl_at t, k⟩
def spRows (C CM : Addr) : Sp := fun vs H Q _ => ∃ (a : Addr) (r c : Nat) (f : Nat → Nat → Rat), vs = [.ref a] ∧ MtAt C CM H a r c f ∧ Q (.int r) H
theorem sc_Matrix_rows : FnScope ["self"] ["self"] (defScope s_Matrix_rows) := ⟨rfl, rfl, rfl, by decide +kernel, rfl, by decide +kernel, by decide +kernel⟩
theorem ok_rows {f : Addr} {fd : FuncData} (F : Fun K "rows" "Matrix.rows" s_Matrix_rows f fd) (T : TxM K mg C CM) : FnOk P w K mg base CX0 2 f fd ["self"] (spRows C CM) := by
  refine F.ok sc_Matrix_rows (fun vs H Q E h => ?_) (fun cdv A outer s H vs Q E hr h => ?_)
  · obtain ⟨a, r, c, g, rfl, _⟩ := h
    rfl
  · obtain ⟨a, r, c, g, rfl, ⟨dx, t, ha, rs, ht, hl, hrow⟩, k⟩ := h
    refine ⟨_, (pss_one (ps_ret (pe_callB (id := "len") (call_len_seqK (K := K)) (by rfl) T.b_len (by decide +kernel) (pa_cons (pe_fldK (K := K) (pv 0) rfl) pa_nil)))), _, rfl, a, CM, dx, _, _, rfl, ha, T.clM, T.nE, mfl_at t, t, rs, rfl, .inr (SqT.of ht), ?_⟩
    rw [hl]
    exact k
def spColumns (C CM : Addr) : Sp := fun vs H Q _ => ∃ (a : Addr) (r c : Nat) (f : Nat → Nat → Rat), vs = [.ref a] ∧ MtAt C CM H a r c f ∧ 0 < r ∧ Q (.int c) H
theorem sc_Matrix_columns : FnScope ["self"] ["self"] (defScope s_Matrix_columns) := ⟨rfl, rfl, rfl, by decide +kernel, rfl, by decide +kernel, by decide +kernel⟩
theorem ok_columns {f : Addr} {fd : FuncData} (F : Fun K "columns" "Matrix.columns" s_Matrix_columns f fd) (T : TxM K mg C CM) : FnOk P w K mg base CX0 2 f fd ["self"] (spColumns C CM) := by
  refine F.ok sc_Matrix_columns (fun vs H Q E h => ?_) (fun cdv A outer s H vs Q E hr h => ?_)
  · obtain ⟨a, r, c, g, rfl, _⟩ := h
    rfl
  · obtain ⟨a, r, c, g, rfl, ⟨dx, t, ha, rs, ht, hl, hrow⟩, hr0, k⟩ := h
    have h0 : rs[0]? = some rs[0] := List.getElem?_eq_getElem (by omega)
    obtain ⟨p, xs, e, hp, hxl, _⟩ := hrow 0 _ h0
    refine ⟨_, (pss_one (ps_ret (pe_callB (id := "len") (call_len_seqK (K := K)) (by rfl) T.b_len (by decide +kernel) (pa_cons (pe_ix (ix_tupK (K := K)) (pe_fldK (K := K) (pv 0) rfl) pe_int (fun _ _ => rfl)) pa_nil)))), _, rfl, a, CM, dx, _, _, rfl, ha, T.clM, T.nE, mfl_at t, t, _, _, _, rfl, rfl, SqT.of ht, atI_nat h0, ?_⟩
    rw [e]
    refine ⟨p, xs, rfl, .inr (SqT.of hp), ?_⟩
    rw [hxl]
    exact k
abbrev EntriesC (P : Program) (w : World) (K : PySem.W.Frag) (mg : Str → Option Value) (base : Heap) (CM : Addr) : Prop := PropF P w K mg base 2 CM "entries" (spEntries CM)
abbrev RowsC (P : Program) (w : World) (K : PySem.W.Frag) (mg : Str → Option Value) (base : Heap) (C CM : Addr) : Prop := PropF P w K mg base 2 CM "rows" (spRows C CM)
abbrev ColumnsC (P : Program) (w : World) (K : PySem.W.Frag) (mg : Str → Option Value) (base : Heap) (C CM : Addr) : Prop := PropF P w K mg base 2 CM "columns" (spColumns C CM)
def spTrans (C CM : Addr) : Sp := fun vs H Q _ => ∃ (a : Addr) (r c : Nat) (f : Nat → Nat → Rat), vs = [.ref a] ∧ MtAt C CM H a r c f ∧ Sz r c ∧ ∀ m H', Same H H' → MtAt C CM H' m c r (fun i j => f j i) → Q (.ref m) H'
abbrev TransC (P : Program) (w : World) (K : PySem.W.Frag) (mg : Str → Option Value) (base : Heap) (C CM : Addr) : Prop := PropF P w K mg base 10 CM "transposed" (spTrans C CM)
/-! ### Matrix.__str__ -/
def spMStr (C CM : Addr) : Sp := fun vs H Q _ => ∃ (a : Addr) (r c : Nat) (f : Nat → Nat → Rat), vs = [.ref a] ∧ MtAt C CM H a r c f ∧ r ≤ 101 ∧ c ≤ 101 ∧ Bds r c f 300 ∧ ∀ H', Same H H' → Q (.str (tabT r c f)) H'
theorem sc_Matrix___str__ : FnScope ["self", "row", "number"] ["self"] (defScope s_Matrix___str__) := ⟨rfl, rfl, rfl, by decide +kernel, rfl, by decide +kernel, by decide +kernel⟩
theorem ok_mstr {f : Addr} {fd : FuncData} (F : Fun K "__str__" "Matrix.__str__" s_Matrix___str__ f fd) (T : TxM K mg C CM) (d_str : DunF P w K mg base 2 C "__str__" (spStr C)) : FnOk P w K mg base CX0 6 f fd ["self"] (spMStr C CM) := by
  refine F.ok sc_Matrix___str__ (fun vs H Q E h => ?_) (fun cdv A outer s H vs Q E hr h => ?_)
  · obtain ⟨a, r, c, f, rfl, _⟩ := h
    rfl
  · obtain ⟨a, r, c, f, rfl, ⟨dx, t, ea, rs, ht, hl, hrow⟩, hr1, hc1, bd, k⟩ := h
    refine ⟨_, (pss_one (ps_ret (pe_joinK (K := K) pe_str (pe_lcI (pe_lc (own := [("row", 1)]) rfl sc_Matrix___str__.nd (pi_tupK (K := K) (pe_fldK (K := K) (pv 0) rfl)) (blkOk_by (N := ["self", "row", "number"]) (sc := (defScope s_Matrix___str__)) (by decide +kernel)) (fun _ _ _ _ _ => (pg_name (i := 1) sc_Matrix___str__.nd rfl (Or.inl rfl))) (fun _ _ _ _ _ => pts_nil) (fun _ _ _ _ _ => (pe_cut (pe_joinK (K := K) pe_str (pe_lcI (pe_lc (own := [("number", 2)]) rfl sc_Matrix___str__.nd (pi_tupK (K := K) (pv 1)) (blkOk_by (N := ["self", "row", "number"]) (sc := ({ kind := .function, names := [(PySem.Str.ofString ".0", .local), (PySem.Str.ofString "row", .local)], isGenerator := false, isCoroutine := false } : Scope)) (by decide +kernel)) (fun _ _ _ _ _ => (pg_name (i := 2) sc_Matrix___str__.nd rfl (Or.inl rfl))) (fun _ _ _ _ _ => pts_nil) (fun _ _ _ _ _ => (pe_cut (pe_callTy (str_f d_str hr (by decide)) (by rfl) T.b_str (by decide +kernel) (pa_cons (pv 2) pa_nil)))))))))))))), ?_⟩
    refine ⟨⟨_, rfl⟩, _, rfl, a, CM, dx, _, _, rfl, ea, T.clM, T.nE, mfl_at t, t, rfl, ⟨rs, SqT.of ht⟩, fun D hD => ?_⟩
    refine lc_same (walk_tup (K := K) (a := t) (xs := rs)) hD (by omega) (fun i y _ => y = .str (rowT c (f i))) (fun _ _ _ _ e _ => e) (fun H' s' => SqT.of (s' _ _ ht)) yat_same (fun i x H1 H1' hi s1 _ hy => ?_) fun ys H1 hl1 s1 e1 h1 => ?_
    · obtain ⟨rfl, hx⟩ := hy
      obtain ⟨p, xs, rfl, hp, hxl, hc⟩ := (hrow i x hx).same (rc_mono C) s1
      refine ⟨_, fun _ h => h, wipe_one, ?_⟩
      refine ⟨⟨_, rfl⟩, _, rfl, p, rfl, ⟨xs, SqT.of hp⟩, fun D2 hD2 => ?_⟩
      refine lc_same (walk_tup (K := K) (a := p) (xs := xs)) hD2 (by omega) (fun j y _ => y = .str (dg (f i j))) (fun _ _ _ _ e _ => e) (fun H' s' => SqT.of (s' _ _ hp)) yat_same (fun j y H2 H2' hj s2 _ hy => ?_) fun ys2 H2 hl2 s2 e2 h2 => ?_
      · obtain ⟨rfl, hy⟩ := hy
        obtain ⟨b, rfl, hb⟩ := hc j y hy
        have hb2 := hb.same s2
        obtain ⟨db, eb⟩ := id hb2
        have bj := bd i j (by omega) (by omega)
        refine ⟨_, fun _ h => h, wipe_one, ?_⟩
        exact ⟨_, rfl, b, db, _, rfl, eb, b, f i j, rfl, hb2, bj.num (by decide), bj.den (by decide), _, rfl, Same.refl _, fun _ => rfl⟩
      · have ey := strs_of (hl2.trans hxl) h2
        refine ⟨_, D2, (List.range c).map fun j => dg (f i j), rfl, rfl, .inl (SqL.of (by rw [e2, ey])), ?_, s2, fun _ => rfl⟩
        have := sum_le (n := 602) (ts := (List.range c).map fun j => dg (f i j)) fun t ht => by
          obtain ⟨j, hj, rfl⟩ := mem_tab ht
          exact dg_len (by decide) (bd i j (by omega) hj)
        have e1 : (Str.ofString " ").length = 1 := rfl
        simp only [List.length_map, List.length_range] at this ⊢
        rw [e1]
        omega
    · have ey := strs_of (hl1.trans hl) h1
      refine ⟨_, D, (List.range r).map fun i => rowT c (f i), rfl, rfl, .inl (SqL.of (by rw [e1, ey])), ?_, k H1 s1⟩
      have := sum_le (n := 603 * 101) (ts := (List.range r).map fun i => rowT c (f i)) fun t ht => by
        obtain ⟨i, hi, rfl⟩ := mem_tab ht
        exact Nat.le_trans (rowT_len (k := 300) (by decide) fun j hj => bd i j hi hj) (Nat.mul_le_mul_left _ hc1)
      have e1 : (Str.ofString "; ").length = 2 := rfl
      simp only [List.length_map, List.length_range] at this ⊢
      rw [e1]
      omega
/-! ### Matrix.__repr__ -/
def tabR (r c : Nat) (f : Nat → Nat → Rat) : Str := ("Matrix(" : Str) ++ reprText (tabT r c f) ++ (")" : Str)
abbrev MStrD (P : Program) (w : World) (K : PySem.W.Frag) (mg : Str → Option Value) (base : Heap) (C CM : Addr) : Prop := DunF P w K mg base 6 CM "__str__" (spMStr C CM)
theorem asc_dg (p : Rat) : Asc (dg p) := by
  unfold dg
  split
  · exact asc_int _
  · exact asc_append (asc_append (asc_int _) (asc_of _ (by decide +kernel))) (asc_int _)
theorem asc_tab (r c : Nat) (f : Nat → Nat → Rat) : Asc (tabT r c f) := by
  unfold tabT
  rw [join_eq]
  refine asc_join (asc_of _ (by decide +kernel)) fun t ht => ?_
  obtain ⟨i, hi, rfl⟩ := mem_tab ht
  unfold rowT
  rw [join_eq]
  refine asc_join (asc_of _ (by decide +kernel)) fun t ht => ?_
  obtain ⟨j, hj, rfl⟩ := mem_tab ht
  exact asc_dg _
theorem tab_len {r c : Nat} {f : Nat → Nat → Rat} (hr : r ≤ 101) (hc : c ≤ 101) (b : Bds r c f 43) : (tabT r c f).length ≤ 1000000 := by
  have := join_le (n := 89 * 101) (Str.ofString "; ") (ts := (List.range r).map fun i => rowT c (f i)) fun t ht => by
    obtain ⟨i, hi, rfl⟩ := mem_tab ht
    exact Nat.le_trans (rowT_len (k := 43) (by decide) fun j hj => b i j hi hj) (Nat.mul_le_mul_left _ hc)
  have e1 : (Str.ofString "; ").length = 2 := rfl
  rw [e1, List.length_map, List.length_range] at this
  unfold tabT
  exact Nat.le_trans this (Nat.le_trans (Nat.mul_le_mul_left _ hr) (by decide))
theorem Bds.mono {r c : Nat} {f : Nat → Nat → Rat} {k k' : Nat} (h : Bds r c f k) (hk : k ≤ k') : Bds r c f k' := fun i j hi hj => (h i j hi hj).mono hk
def spMRepr (C CM : Addr) : Sp := fun vs H Q _ => ∃ (a : Addr) (r c : Nat) (f : Nat → Nat → Rat), vs = [.ref a] ∧ MtAt C CM H a r c f ∧ r ≤ 101 ∧ c ≤ 101 ∧ Bds r c f 43 ∧ ∀ H', Same H H' → Q (.str (tabR r c f)) H'
theorem sc_Matrix___repr__ : FnScope ["self"] ["self"] (defScope s_Matrix___repr__) := ⟨rfl, rfl, rfl, by decide +kernel, rfl, by decide +kernel, by decide +kernel⟩
theorem ok_mrepr {f : Addr} {fd : FuncData} (F : Fun K "__repr__" "Matrix.__repr__" s_Matrix___repr__ f fd) (T : TxM K mg C CM) (d_mstr : MStrD P w K mg base C CM) : FnOk P w K mg base CX0 10 f fd ["self"] (spMRepr C CM) := by
  refine F.ok sc_Matrix___repr__ (fun vs H Q E h => ?_) (fun cdv A outer s H vs Q E hr h => ?_)
  · obtain ⟨a, r, c, f, rfl, _⟩ := h
    rfl
  · obtain ⟨a, r, c, f, rfl, hM, hr1, hc1, bd, k⟩ := h
    refine ⟨_, (pss_one (ps_ret (pe_joined (PJ.cons pe_str (PJ.cons (pe_fmtR (pe_callTy (str_f d_mstr hr (by decide)) (by rfl) T.b_str (by decide +kernel) (pa_cons (pv 0) pa_nil))) (PJ.cons pe_str PJ.nil)))))), ?_⟩
    obtain ⟨dx, t, ea, _⟩ := id hM
    have l1 := tab_len hr1 hc1 bd
    have l2 := PySem.StrLaws.reprText_len (tabT r c f) fun c hc => by have := (asc_tab _ _ _ c hc).2; omega
    have z1 : (("Matrix(" : Str)).length = 7 := rfl
    have z3 : ((")" : Str)).length = 1 := rfl
    refine ⟨_, rfl, ?_, _, rfl, a, dx, _, rfl, ea, a, r, c, f, rfl, hM, hr1, hc1, bd.mono (by decide), fun H' s => ⟨_, rfl, .inl ⟨_, rfl, Nat.le_trans (Nat.le_trans l2 (Nat.add_le_add_right (Nat.mul_le_mul_left 10 l1) 2)) (by decide), _, rfl, ?_, _, rfl, ?_, ?_⟩⟩⟩
    · rw [empty_add]; decide
    · rw [empty_add, strLen_append]; exact Nat.le_trans (m := 10000010) (by omega) (by decide)
    · rw [empty_add, strLen_append, strLen_append]; exact Nat.le_trans (m := 10000010) (by omega) (by decide)
    · rw [empty_add]; exact k H' s
/-! ### is_index, Matrix.__getitem__ -/
def spIsIx : Sp := fun vs H Q _ => ∃ (i n : Nat), vs = [.int i, .int n] ∧ i < n ∧ Q (.bl true) H
theorem sc_is_index : FnScope ["given", "count"] ["given", "count"] (defScope s_is_index) := ⟨rfl, rfl, rfl, by decide +kernel, rfl, by decide +kernel, by decide +kernel⟩
theorem ok_isix {f : Addr} {fd : FuncData} (F : Fun K "is_index" "is_index" s_is_index f fd) (T : Blt mg) (c_whole : WholeC P w K mg base) : FnOk P w K mg base CX0 4 f fd ["given", "count"] spIsIx := by
  refine F.ok sc_is_index (fun vs H Q E h => ?_) (fun cdv A outer s H vs Q E hr h => ?_)
  · obtain ⟨i, n, rfl, _⟩ := h
    rfl
  · obtain ⟨i, n, rfl, hi, k⟩ := h
    refine ⟨_, (pss_one (ps_ret (pe_and (pe_cf c_whole hr (by decide) rfl (pa_cons (pv 0) pa_nil)) (pe_one (pe_chain op_le op_lt pe_int (pv 0) (pv 1)))))), ?_⟩
    obtain ⟨t, b1, b2, h1, h2, h3, h4⟩ := whole_int (K := K) (H := H) (i : Int)
    refine ⟨_, rfl, _, t, b1, b2, rfl, h1, h2, h3, _, rfl, ?_⟩
    rw [h4]
    refine iteT ?_
    refine ⟨_, rfl, _, _, rfl, rfl, _, rfl, ifT (decide_eq_true (by omega)) ?_⟩
    refine ⟨_, rfl, _, _, rfl, rfl, ?_⟩
    show Q (.bl (decide ((i : Int) < (n : Int)))) H
    rw [decide_eq_true (show (i : Int) < (n : Int) by omega)]
    exact k
abbrev IsIxC (P : Program) (w : World) (K : PySem.W.Frag) (mg : Str → Option Value) (base : Heap) : Prop := CalF P w K mg base 4 "is_index" spIsIx []
def spMGet (C CM : Addr) : Sp := fun vs H Q _ => ∃ (a t : Addr) (r c : Nat) (f : Nat → Nat → Rat) (i j : Nat), vs = [.ref a, .ref t] ∧ H t = some (.tup [.int i, .int j]) ∧ MtAt C CM H a r c f ∧ i < r ∧ j < c ∧ ∀ b, RatAt C H b (f i j) → Q (.ref b) H
theorem sc_Matrix___getitem__ : FnScope ["self", "at"] ["self", "at"] (defScope s_Matrix___getitem__) := ⟨rfl, rfl, rfl, by decide +kernel, rfl, by decide +kernel, by decide +kernel⟩
theorem ok_mget {f : Addr} {fd : FuncData} (F : Fun K "__getitem__" "Matrix.__getitem__" s_Matrix___getitem__ f fd) (T : TxM K mg C CM) (c_isix : IsIxC P w K mg base) (pm_rows : RowsC P w K mg base C CM) (pm_columns : ColumnsC P w K mg base C CM) : FnOk P w K mg base CX0 8 f fd ["self", "at"] (spMGet C CM) := by
  refine F.ok sc_Matrix___getitem__ (fun vs H Q E h => ?_) (fun cdv A outer s H vs Q E hr h => ?_)
  · obtain ⟨a, t, r, c, f, i, j, rfl, _⟩ := h
    rfl
  · obtain ⟨a, t, r, c, f, i, j, rfl, ht, hM, hi, hj, k⟩ := h
    refine ⟨_, (pss_cons (ps_if (pt_not (PW.pt (pw_and (pt_val (pe_callB (id := "isinstance") (call_isiK (K := K)) (by rfl) T.b_isinstance (by decide +kernel) (pa_cons (pv 1) (pa_cons (pe_bltn (v := V.ty "tuple") (u := Value.type "tuple") (by rfl) T.b_tuple (by decide +kernel) rfl) pa_nil)))) (pw_and1 (pt_cmpR op_eq (pe_callB (id := "len") (call_len_seqK (K := K)) (by rfl) T.b_len (by decide +kernel) (pa_cons (pv 1) pa_nil)) pe_int (nomark _)))))) (pss_one ps_never)
  pss_nil)
  (pss_cons (ps_if (pt_not (PW.pt (pw_and (pt_val (pe_cf c_isix hr (by decide) rfl (pa_cons (pe_ix (ix_tupK (K := K)) (pv 1) pe_int (fun _ _ => rfl)) (pa_cons (pe_pf pm_rows T.clM hr (by decide) (pv 0) rfl) pa_nil)))) (pw_and1 (pt_val (pe_cf c_isix hr (by decide) rfl (pa_cons (pe_ix (ix_tupK (K := K)) (pv 1) pe_int (fun _ _ => rfl)) (pa_cons (pe_pf pm_columns T.clM hr (by decide) (pv 0) rfl) pa_nil)))))))) (pss_one ps_never)
  pss_nil)
  (pss_one (ps_ret (pe_ix (ix_tupK (K := K)) (pe_ix (ix_tupK (K := K)) (pe_fldK (K := K) (pv 0) rfl) (pe_ix (ix_tupK (K := K)) (pv 1) pe_int (fun _ _ => rfl)) (fun _ _ => rfl)) (pe_ix (ix_tupK (K := K)) (pv 1) pe_int (fun _ _ => rfl)) (fun _ _ => rfl)))))), ?_⟩
    obtain ⟨dx, tt, ea, rs, et, hl, hrow⟩ := id hM
    have r0 : 0 < r := by omega
    have g0 : ([V.int (i : Int), V.int (j : Int)] : List V)[0]? = some (V.int (i : Int)) := rfl
    have g1 : ([V.int (i : Int), V.int (j : Int)] : List V)[1]? = some (V.int (j : Int)) := rfl
    refine ⟨_, rfl, _, _, _, _, true, rfl, .ty "tuple", .base (.tup ht), kit_ty (by decide +kernel), _, rfl, iteT ?_⟩
    refine ⟨_, rfl, t, _, rfl, .inr (SqT.of ht), rfl, _, rfl, ifF rfl ?_⟩
    refine ⟨_, rfl, t, _, _, _, rfl, rfl, SqT.of ht, rfl, ?_⟩
    refine ⟨_, rfl, a, dx, _, rfl, ea, a, r, c, f, rfl, hM, i, r, rfl, hi, _, rfl, iteT ?_⟩
    refine ⟨_, rfl, t, _, _, _, rfl, rfl, SqT.of ht, rfl, ?_⟩
    refine ⟨_, rfl, a, dx, _, rfl, ea, a, r, c, f, rfl, hM, r0, j, c, rfl, hj, _, rfl, iteF ?_⟩
    have h0 : rs[i]? = some rs[i] := List.getElem?_eq_getElem (by omega)
    obtain ⟨p, xs, e, hp, hxl, hc⟩ := hrow i _ h0
    have h1 : xs[j]? = some xs[j] := List.getElem?_eq_getElem (by omega)
    obtain ⟨b, e2, hb⟩ := hc j _ h1
    refine ⟨_, rfl, a, CM, dx, _, _, rfl, ea, T.clM, T.nE, mfl_at tt, _, rfl, t, _, _, _, rfl, rfl, SqT.of ht, rfl, tt, _, _, _, rfl, rfl, SqT.of et, atI_nat h0, ?_⟩
    rw [e]
    refine ⟨_, rfl, t, _, _, _, rfl, rfl, SqT.of ht, rfl, p, _, _, _, rfl, rfl, SqT.of hp, atI_nat h1, ?_⟩
    rw [e2]
    exact k b hb
/-! ### Matrix.__eq__ -/
def MEq (r c : Nat) (f : Nat → Nat → Rat) (r2 c2 : Nat) (g : Nat → Nat → Rat) : Prop := r = r2 ∧ c = c2 ∧ ∀ i j, i < r → j < c → f i j = g i j
def REqB (C : Addr) : Addr → Addr → Hp → Bool → Prop := fun a b H v => ∃ p q, RatAt C H a p ∧ RatAt C H b q ∧ v = decide (p = q)
theorem spEqB_imp : ∀ vs H Q E, spEqB (REqB C) vs H Q E → spEqR K C vs H Q E := by
  rintro vs H Q E ⟨a, b, v, rfl, ⟨p, q, h1, h2, rfl⟩, k⟩
  exact ⟨a, p, .ref b, rfl, h1, .inl ⟨b, q, rfl, h2, k H Ext.rfl'⟩⟩
theorem RatAt.uniq {H : Hp} {a : Addr} {p q : Rat} (h : RatAt C H a p) (g : RatAt C H a q) : p = q := by
  obtain ⟨d, e⟩ := h
  obtain ⟨d', e'⟩ := g
  have := e.symm.trans e'
  simp only [Option.some.injEq, HO.ins.injEq, flds, List.cons.injEq, Prod.mk.injEq, V.int.injEq, true_and, and_true] at this
  exact Rat.ext this.2.1 (by have := this.2.2; omega)
theorem rcB_mat {X : Cx} (o : EqF X.prog X.w X.K X.mg X.base 2 C (spEqR X.K C)) : RcB X 4 (DTupB (DTupB (DInsB C (REqB C)))) := by
  obtain ⟨f, fd, ps, n, F, b⟩ := o.ex
  have m0 : MonB (DInsB C (REqB C)) := monB_ins fun a b H H' v e ⟨p, q, h1, h2, h⟩ => ⟨p, q, h1.same e, h2.same e, h⟩
  have r0 : ReflB (DInsB C (REqB C)) := fun x H v ⟨a, b, dx, dy, fs, gs, e1, e2, h1, h2, p, q, h3, h4, h5⟩ => by
    cases e1
    cases e2
    rw [h5, h3.uniq h4]
    exact decide_eq_true rfl
  have c0 : RcB X 2 (DInsB C (REqB C)) := rcB_ins (FnOk.imp F spEqB_imp) n.eq n.fn b pass0
  have c1 := rcB_tup m0 (c0.eqB insB_ref r0)
  exact rcB_tup (monB_tup m0) (c1.eqB tupB_ref (reflB_tup r0))
open Classical in
theorem dtupB_of {H : Hp} {t u : Addr} {r c r2 c2 : Nat} {f g : Nat → Nat → Rat} {v : Bool} (h : Tb (RC C) H t r c f) (h' : Tb (RC C) H u r2 c2 g) (r0 : 0 < r) (hv : v = true ↔ MEq r c f r2 c2 g) : DTupB (DTupB (DInsB C (REqB C))) (.ref t) (.ref u) H v := by
  obtain ⟨rs, et, hl, hrow⟩ := h
  obtain ⟨rs2, eu, hl2, hrow2⟩ := h'
  refine ⟨t, u, rs, rs2, fun i => decide (c = c2 ∧ ∀ j, j < c → f i j = g i j), rfl, rfl, et, eu, fun i x y hx hy => ?_, ?_⟩
  · obtain ⟨p, xs, rfl, hp, hxl, hc⟩ := hrow i x hx
    obtain ⟨p2, xs2, rfl, hp2, hxl2, hc2⟩ := hrow2 i y hy
    refine ⟨p, p2, xs, xs2, fun j => decide (f i j = g i j), rfl, rfl, hp, hp2, fun j x y hx hy => ?_, ?_⟩
    · obtain ⟨a, rfl, ha⟩ := hc j x hx
      obtain ⟨b, rfl, hb⟩ := hc2 j y hy
      obtain ⟨d1, e1⟩ := id ha
      obtain ⟨d2, e2⟩ := id hb
      exact ⟨a, b, d1, d2, _, _, rfl, rfl, e1, e2, _, _, ha, hb, by simp⟩
    · rw [decide_eq_true_iff, hxl, hxl2]
      constructor
      · rintro ⟨rfl, h⟩
        exact ⟨rfl, fun j h1 _ => decide_eq_true (h j h1)⟩
      · rintro ⟨rfl, h⟩
        exact ⟨rfl, fun j h1 => of_decide_eq_true (h j h1 h1)⟩
  · rw [hv, hl, hl2]
    constructor
    · rintro ⟨rfl, rfl, h⟩
      exact ⟨rfl, fun i h1 _ => decide_eq_true ⟨rfl, fun j hj => h i j h1 hj⟩⟩
    · rintro ⟨rfl, h⟩
      have h0 := of_decide_eq_true (h 0 r0 r0)
      exact ⟨rfl, h0.1, fun i j hi hj => (of_decide_eq_true (h i hi hi)).2 j hj⟩
def spMEqG (K : PySem.W.Frag) (C CM : Addr) : Sp := fun vs H Q _ => ∃ (a : Addr) (y : V) (r c : Nat) (f : Nat → Nat → Rat), vs = [.ref a, y] ∧ MtAt C CM H a r c f ∧ 0 < r ∧
  ((∃ (b : Addr) (r2 c2 : Nat) (g : Nat → Nat → Rat), y = .ref b ∧ MtAt C CM H b r2 c2 g ∧ ∀ v H', (v = true ↔ MEq r c f r2 c2 g) → Same H H' → Q (.bl v) H') ∨ (∃ t, TyX K H y t ∧ PySem.W.kitOne K t (.ref CM) = some false ∧ Q (.bl false) H))
theorem sc_Matrix___eq__ : FnScope ["self", "other"] ["self", "other"] (defScope s_Matrix___eq__) := ⟨rfl, rfl, rfl, by decide +kernel, rfl, by decide +kernel, by decide +kernel⟩
open Classical in
theorem ok_meq {f : Addr} {fd : FuncData} (F : Fun K "__eq__" "Matrix.__eq__" s_Matrix___eq__ f fd) (T : TxM K mg C CM) (o_eq : EqF P w K mg base 2 C (spEqR K C)) : FnOk P w K mg base CX0 6 f fd ["self", "other"] (spMEqG K C CM) := by
  refine F.ok sc_Matrix___eq__ (fun vs H Q E h => ?_) (fun cdv A outer s H vs Q E hr h => ?_)
  · obtain ⟨a, y, r, c, f, rfl, _⟩ := h
    rfl
  · obtain ⟨a, y, r, c, f, rfl, hA, r0, hy⟩ := h
    refine ⟨_, (pss_one (ps_ret (pe_and (pe_callB (id := "isinstance") (call_isiK (K := K)) (by rfl) T.b_isinstance (by decide +kernel) (pa_cons (pv 1) (pa_cons (pe_glob (v := V.ref CM) rfl T.g_Matrix rfl) pa_nil))) (pe_one (pe_cmpR (op_eqB (rcB_mat (C := C) o_eq) (hr.mono (by decide))) (pe_fldK (K := K) (pv 0) rfl) (pe_fldK (K := K) (pv 1) rfl) (nomark _)))))), ?_⟩
    obtain ⟨dx, t, ea, hT⟩ := id hA
    rcases hy with ⟨b, r2, c2, g, rfl, hB, k⟩ | ⟨ty, h1, h2, k⟩
    · obtain ⟨dy, u, eb, hU⟩ := id hB
      refine ⟨_, rfl, .ref b, _, _, _, _, rfl, .own CM, hB.tyx T, T.kMM, _, rfl, iteT ?_⟩
      have hv : decide (MEq r c f r2 c2 g) = true ↔ MEq r c f r2 c2 g := decide_eq_true_iff
      exact ⟨_, rfl, a, CM, dx, _, _, rfl, ea, T.clM, T.nE, mfl_at t, _, rfl, b, CM, dy, _, _, rfl, eb, T.clM, T.nE, mfl_at u, _, dtupB_of hT hU r0 hv, fun H' s => k _ H' hv s⟩
    · exact ⟨_, rfl, y, _, _, _, _, rfl, .own CM, h1, h2, _, rfl, iteF k⟩
abbrev MEqC (P : Program) (w : World) (K : PySem.W.Frag) (mg : Str → Option Value) (base : Heap) (C CM : Addr) : Prop := EqF P w K mg base 6 CM (spMEqG K C CM)
end
end Lw

namespace Lw
open PySem PySem.Spec PyProof.Rows L2 MG
abbrev s__law_low : Stmt := top 34
abbrev s__law_told : Stmt := top 37
abbrev s__law_pairs : Stmt := top 38
abbrev s__law_is : Stmt := top 39
abbrev s__law_entries : Stmt := top 40
/-! ### the law's tables: lists of lists of ints over one bottom -/
def LL (H : Hp) (L : Addr) (r c : Nat) (A : Nat → Nat → Int) : Prop := ∃ rs, H L = some (.lst rs) ∧ rs.length = r ∧ ∀ (i : Nat) (x : V), rs[i]? = some x → ∃ p, x = .ref p ∧ H p = some (.lst (rowV c (A i)))
def PrAt (H : Hp) (t : Addr) (r c : Nat) (A : Nat → Nat → Int) (u : Int) : Prop := ∃ L, H t = some (.tup [.ref L, .int u]) ∧ LL H L r c A
theorem LL.same {H H' : Hp} {L : Addr} {r c : Nat} {A : Nat → Nat → Int} (h : LL H L r c A) (s : Same H H') : LL H' L r c A := by
  obtain ⟨rs, e, hl, hr⟩ := h
  exact ⟨rs, s _ _ e, hl, fun i x hx => (hr i x hx).elim fun p e => ⟨p, e.1, s _ _ e.2⟩⟩
theorem PrAt.same {H H' : Hp} {t : Addr} {r c : Nat} {A : Nat → Nat → Int} {u : Int} (h : PrAt H t r c A u) (s : Same H H') : PrAt H' t r c A u := h.elim fun L e => ⟨L, s _ _ e.1, e.2.same s⟩
/-- the fractions of a table -/
def qv (A : Nat → Nat → Int) (u : Int) : Nat → Nat → Rat := fun i j => Rat.divInt (A i j) u
/-- its ints are below 10 ^ k -/
structure Bn (r c : Nat) (A : Nat → Nat → Int) (u : Int) (k : Nat) : Prop where
  pos : 0 < u
  ub : u.natAbs < 10 ^ k
  ab : ∀ i j, i < r → j < c → (A i j).natAbs < 10 ^ k
theorem Bn.mono {r c : Nat} {A : Nat → Nat → Int} {u : Int} {k k' : Nat} (h : Bn r c A u k) (hk : k ≤ k') : Bn r c A u k' := by
  have := Nat.pow_le_pow_right (show 0 < 10 by decide) hk
  exact ⟨h.pos, Nat.lt_of_lt_of_le h.ub this, fun i j hi hj => Nat.lt_of_lt_of_le (h.ab i j hi hj) this⟩
theorem Bn.bds {r c : Nat} {A : Nat → Nat → Int} {u : Int} {k : Nat} (h : Bn r c A u k) : Bds r c (qv A u) k := fun i j hi hj => bd_div (by have := h.pos; omega) (h.ab i j hi hj) h.ub
/-- a new list of rows: the row list in the heap without D -/
theorem row_hid {H H2 : Hp} {D D2 : Addr} {ys : List V} {c : Nat} {g : Nat → Int} (nD : H D ≠ none) (hD2 : H D2 = none) (e : H2 D2 = some (.lst ys)) (hl : ys.length = c) (h : ∀ (j : Nat) (y : V), ys[j]? = some y → y = .int (g j)) : (hid D H2) D2 = some (.lst (rowV c g)) := by
  have n : D2 ≠ D := fun q => nD (q ▸ hD2)
  rw [hid_ne n, e]
  exact congrArg _ (congrArg _ (ints_of hl h))
/-- a row of a list of lists that is made -/
abbrev RowR (c : Nat) (A : Nat → Nat → Int) : Nat → V → Hp → Prop := fun i y G => ∃ p, y = .ref p ∧ G p = some (.lst (rowV c (A i)))
theorem rowR_same {c : Nat} {A : Nat → Nat → Int} : ∀ i y H H', RowR c A i y H → Same H H' → RowR c A i y H' := fun i y H H' ⟨p, e, h⟩ s => ⟨p, e, s _ _ h⟩
theorem ll_of {H : Hp} {D : Addr} {ys : List V} {r c : Nat} {A : Nat → Nat → Int} (e : H D = some (.lst ys)) (hl : ys.length = r) (h : ∀ (i : Nat) (y : V), ys[i]? = some y → RowR c A i y (hid D H)) : LL H D r c A :=
  ⟨ys, e, hl, fun i y hy => (h i y hy).elim fun p q => ⟨p, q.1, hid_same D H _ _ q.2⟩⟩
section
variable {P : Program} {w : World} {K : PySem.W.Frag} {mg : Str → Option Value} {base : Heap} {C CM CX : Addr}
/-! ### _law_low -/
def spLow : Sp := fun vs H Q _ => ∃ (t : Addr) (r c : Nat) (A : Nat → Nat → Int) (u : Int) (k : Nat), vs = [.ref t] ∧ PrAt H t r c A u ∧ r ≤ 1000 ∧ c ≤ 1000 ∧ Bn r c A u k ∧ k ≤ 390 ∧
  ∀ t' H' A' u', Same H H' → PrAt H' t' r c A' u' → Bn r c A' u' k → u' ∣ u → (∀ i j, i < r → j < c → qv A' u' i j = qv A u i j) → Q (.ref t') H'
theorem fdiv_dvd {g a : Int} (hg : 0 < g) (h : g ∣ a) : a = g * a.fdiv g := by
  obtain ⟨m, rfl⟩ := h
  rw [Int.mul_fdiv_cancel_left _ (by omega)]
theorem fdiv_abs {g a : Int} (hg : 0 < g) (h : g ∣ a) : (a.fdiv g).natAbs ≤ a.natAbs := by
  have e := fdiv_dvd hg h
  conv => rhs; rw [e]
  rw [Int.natAbs_mul]
  exact Nat.le_mul_of_pos_left _ (by omega)
theorem sc__law_low : FnScope ["_law_pair", "_law_both", "_law_line", "_law_cell"] ["_law_pair"] (defScope s__law_low) := ⟨rfl, rfl, rfl, by decide +kernel, rfl, by decide +kernel, by decide +kernel⟩
theorem ok_low {f : Addr} {fd : FuncData} (F : Fun K "_law_low" "_law_low" s__law_low f fd) (T : Blt mg) (c_common : CommonC P w K mg base) : FnG P w K mg base CX0 4 f fd ["_law_pair"] spLow := by
  refine fun_okG F sc__law_low (fun vs H Q E h => ?_) (fun cdv A' outer s H vs Q E bare hr h => ?_)
  · obtain ⟨t, r, c, A, u, k, rfl, _⟩ := h
    rfl
  · obtain ⟨t, r, c, A, u, k, rfl, ⟨L, ht, rs, hL, hl, hrow⟩, hr1, hc1, bn, hk, kk⟩ := h
    refine ⟨_, (pss_cons (ps_set (i := 1) sc__law_low.nd rfl (Or.inr rfl) (pe_ix (ix_tupK (K := K)) (pv 0) pe_int (fun _ _ => rfl)))
  (pss_cons (ps_for PassesOwn.never rfl (pi_listK (K := K) (pe_ix (ix_tupK (K := K)) (pv 0) pe_int (fun _ _ => rfl))) (pg_name (i := 2) sc__law_low.nd rfl (Or.inl rfl))
  (pss_one (ps_for PassesOwn.never rfl (pi_listK (K := K) (pv 2)) (pg_name (i := 3) sc__law_low.nd rfl (Or.inl rfl))
  (pss_one (ps_set (i := 1) sc__law_low.nd rfl (Or.inr rfl) (pe_cg c_common bare hr (by decide) rfl (pa_cons (pv 1) (pa_cons (pv 3) pa_nil))))))))
  (pss_one (ps_ret (pe_tup (pa_cons (pe_lcI (pe_lc (own := [("_law_line", 2)]) rfl sc__law_low.nd (pi_listK (K := K) (pe_ix (ix_tupK (K := K)) (pv 0) pe_int (fun _ _ => rfl))) (blkOk_by (N := ["_law_pair", "_law_both", "_law_line", "_law_cell"]) (sc := (defScope s__law_low)) (by decide +kernel)) (fun _ _ _ _ _ => (pg_name (i := 2) sc__law_low.nd rfl (Or.inl rfl))) (fun _ _ _ _ _ => pts_nil) (fun _ _ _ _ _ => (pe_cut (pe_lcI (pe_lc (own := [("_law_cell", 3)]) rfl sc__law_low.nd (pi_listK (K := K) (pv 2)) (blkOk_by (N := ["_law_pair", "_law_both", "_law_line", "_law_cell"]) (sc := ({ kind := .function, names := [(PySem.Str.ofString ".0", .local), (PySem.Str.ofString "_law_line", .local), (PySem.Str.ofString "_law_both", .cell)], isGenerator := false, isCoroutine := false } : Scope)) (by decide +kernel)) (fun _ _ _ _ _ => (pg_name (i := 3) sc__law_low.nd rfl (Or.inl rfl))) (fun _ _ _ _ _ => pts_nil) (fun _ _ _ _ _ => (pe_cut (pe_op op_fdivZ (pv 3) (pv 1)))))))))) (pa_cons (pe_op op_fdivZ (pe_ix (ix_tupK (K := K)) (pv 0) pe_int (fun _ _ => rfl)) (pv 1)) pa_nil))))))), ?_⟩
    refine ⟨_, rfl, t, _, _, _, rfl, rfl, SqT.of ht, rfl, ?_⟩
    -- the common divisor
    refine ⟨_, rfl, t, _, _, _, rfl, rfl, SqT.of ht, rfl, L, rfl, ⟨rs, SqL.of hL⟩, ?_⟩
    refine for_list (K := K) (a := L) (xs := rs) (fun i σ H' => H' = H ∧ ∃ (g : Int) (v2 v3 : Option V), σ = [some (.ref t), some (.int g), v2, v3] ∧ 0 < g ∧ g ∣ u ∧ ∀ k j, k < i → j < c → g ∣ A k j) ⟨rfl, u, none, none, rfl, bn.pos, ⟨1, by simp⟩, fun k j hk => absurd hk (Nat.not_lt_zero k)⟩ ?_ ?_ ?_
    · rintro i σ H' _ ⟨rfl, _⟩
      exact SqL.of hL
    · rintro i x σ H' hx ⟨rfl, g, v2, v3, rfl, hg0, hgu, hg⟩
      obtain ⟨p, rfl, hp⟩ := hrow i x hx
      refine ⟨_, rfl, p, rfl, ⟨_, SqL.of hp⟩, ?_⟩
      refine for_list (K := K) (a := p) (xs := rowV c (A i)) (fun j σ H'' => H'' = H' ∧ ∃ (g : Int) (v3 : Option V), σ = [some (.ref t), some (.int g), some (.ref p), v3] ∧ 0 < g ∧ g ∣ u ∧ (∀ k j, k < i → j < c → g ∣ A k j) ∧ ∀ m, m < j → g ∣ A i m) ⟨rfl, g, v3, rfl, hg0, hgu, hg, fun m hm => absurd hm (Nat.not_lt_zero m)⟩ ?_ ?_ ?_
      · rintro j σ H'' _ ⟨rfl, _⟩
        exact SqL.of hp
      · rintro j y σ H'' hy ⟨rfl, g, v3, rfl, hg0, hgu, hg, hgi⟩
        obtain ⟨hj, rfl⟩ := rowV_get hy
        refine ⟨_, rfl, _, rfl, g, A i j, rfl, ?_⟩
        have d1 : ((Int.gcd g (A i j) : Nat) : Int) ∣ g := Int.gcd_dvd_left g (A i j)
        have d2 : ((Int.gcd g (A i j) : Nat) : Int) ∣ A i j := Int.gcd_dvd_right g (A i j)
        refine ⟨rfl, _, _, rfl, ?_, Int.dvd_trans d1 hgu, fun k m h1 h2 => Int.dvd_trans d1 (hg k m h1 h2), fun m hm => ?_⟩
        · have := Int.gcd_pos_of_ne_zero_left (A i j) (show g ≠ 0 by omega)
          omega
        · by_cases e : m = j
          · subst e; exact d2
          · exact Int.dvd_trans d1 (hgi m (by omega))
      · rintro σ H'' ⟨rfl, g, v3, rfl, hg0, hgu, hg, hgi⟩
        refine ⟨rfl, g, _, v3, rfl, hg0, hgu, fun k m h1 h2 => ?_⟩
        by_cases e : k = i
        · subst e; exact hgi m (by rw [rowV_len]; exact h2)
        · exact hg k m (by omega) h2
    rintro σ H' ⟨rfl, g, v2, v3, rfl, hg0, hgu, hg⟩
    rw [hl] at hg
    have smg : Sm g := by
      have h1 : g ≤ u := Int.le_of_dvd bn.pos hgu
      have := bn.ub
      exact smI (k := k) (by omega) hk
    -- return ([[cell // both ..] ..], pair[1] // both)
    refine ⟨_, rfl, t, _, _, _, rfl, rfl, SqT.of ht, rfl, L, rfl, ⟨rs, SqL.of hL⟩, fun D hD => ?_⟩
    refine lc_same (walk_list (K := K) (a := L) (xs := rs)) hD (by omega) (RowR c fun i j => (A i j).fdiv g) rowR_same (fun G s => SqL.of (s _ _ hL)) yat_same (fun i x H1 H1' hi s1 nD hy => ?_) fun ys H1 hl1 s1 e1 h1 => ?_
    · obtain ⟨rfl, hx⟩ := hy
      obtain ⟨p, rfl, hp⟩ := hrow i x hx
      refine ⟨_, fun _ h => h, wipe_one, ?_⟩
      refine ⟨_, rfl, p, rfl, ⟨_, SqL.of (s1 _ _ hp)⟩, fun D2 hD2 => ?_⟩
      refine lc_same (walk_list (K := K) (a := p) (xs := rowV c (A i))) hD2 (by rw [rowV_len]; omega) (fun j y _ => y = .int ((A i j).fdiv g)) (fun _ _ _ _ h _ => h) (fun G s => SqL.of (s _ _ (s1 _ _ hp))) yat_same (fun j y H2 H2' hj s2 _ hy => ?_) fun ys2 H2 hl2 s2 e2 h2 => ?_
      · obtain ⟨rfl, hy⟩ := hy
        obtain ⟨hj, rfl⟩ := rowV_get hy
        exact ⟨_, fun _ h => h, wipe_one, _, rfl, _, rfl, _, _, rfl, rfl, sm_div smg (by omega), Same.refl _, fun _ => rfl⟩
      · exact ⟨s2, fun _ => ⟨D2, rfl, row_hid nD hD2 e2 (hl2.trans rowV_len) h2⟩⟩
    refine ⟨_, rfl, t, _, _, _, rfl, rfl, SqT.of (s1 _ _ ht), rfl, _, rfl, _, _, rfl, rfl, sm_div smg (by omega), by show 2 ≤ sizeLine; decide, fun T2 hT2 => ?_⟩
    have s2 := MG.Same.new (o := .tup [.ref D, .int (u.fdiv g)]) (Same.refl H1) hT2
    have eu := fdiv_dvd hg0 hgu
    have hu0 : 0 < u.fdiv g := by
      have := bn.pos
      rcases Int.lt_trichotomy (u.fdiv g) 0 with h | h | h
      · have := Int.mul_neg_of_pos_of_neg hg0 h
        omega
      · rw [h] at eu; omega
      · exact h
    refine kk T2 _ (fun i j => (A i j).fdiv g) (u.fdiv g) (s1.trans s2) ⟨D, upd_same, (ll_of e1 (hl1.trans hl) h1).same s2⟩ ⟨hu0, Nat.lt_of_le_of_lt (fdiv_abs hg0 hgu) bn.ub, fun i j hi hj => Nat.lt_of_le_of_lt (fdiv_abs hg0 (hg i j hi hj)) (bn.ab i j hi hj)⟩ ⟨g, by rw [Int.mul_comm]; exact eu⟩ fun i j hi hj => ?_
    have ea := fdiv_dvd hg0 (hg i j hi hj)
    show Rat.divInt ((A i j).fdiv g) (u.fdiv g) = Rat.divInt (A i j) u
    conv => rhs; rw [ea, eu]
    rw [Rat.divInt_mul_left (by omega)]
abbrev LowTC (P : Program) (w : World) (K : PySem.W.Frag) (mg : Str → Option Value) (base : Heap) : Prop := CalG P w K mg base 4 "_law_low" spLow []
/-! ### _law_turn -/
def spTurn : Sp := fun vs H Q _ => ∃ (t : Addr) (r c : Nat) (A : Nat → Nat → Int) (u : Int), vs = [.ref t] ∧ PrAt H t r c A u ∧ 0 < r ∧ r ≤ 1000 ∧ c ≤ 1000 ∧ ∀ t' H', Same H H' → PrAt H' t' c r (fun i j => A j i) u → Q (.ref t') H'
abbrev TurnC (P : Program) (w : World) (K : PySem.W.Frag) (mg : Str → Option Value) (base : Heap) : Prop := CalG P w K mg base 2 "_law_turn" spTurn []
/-! ### tables of pairs -/
def PRow (H : Hp) (y : V) (c : Nat) (g : Nat → Rat) : Prop := ∃ p xs, y = .ref p ∧ H p = some (.lst xs) ∧ xs.length = c ∧ ∀ (j : Nat) (v : V), xs[j]? = some v → ∃ T, v = .ref T ∧ H T = some (.tup (pr (g j)))
def PTab (H : Hp) (D : Addr) (r c : Nat) (f : Nat → Nat → Rat) : Prop := ∃ rs, H D = some (.lst rs) ∧ rs.length = r ∧ ∀ (i : Nat) (y : V), rs[i]? = some y → PRow H y c (f i)
theorem PRow.same {H H' : Hp} {y : V} {c : Nat} {g : Nat → Rat} (h : PRow H y c g) (s : Same H H') : PRow H' y c g := by
  obtain ⟨p, xs, e, hp, hl, hc⟩ := h
  exact ⟨p, xs, e, s _ _ hp, hl, fun j v hv => (hc j v hv).elim fun T q => ⟨T, q.1, s _ _ q.2⟩⟩
theorem PTab.same {H H' : Hp} {D : Addr} {r c : Nat} {f : Nat → Nat → Rat} (h : PTab H D r c f) (s : Same H H') : PTab H' D r c f := by
  obtain ⟨rs, e, hl, hc⟩ := h
  exact ⟨rs, s _ _ e, hl, fun i y hy => (hc i y hy).same s⟩
theorem PTab.dp {K : PySem.W.Frag} {H : Hp} {D : Addr} {r c : Nat} {f : Nat → Nat → Rat} (h : PTab H D r c f) : Dp K H (.ref D) (tabD r c f) := by
  obtain ⟨rs, e, hl, hc⟩ := h
  refine dp_row e hl fun i y hy => ?_
  obtain ⟨p, xs, rfl, hp, hxl, hcc⟩ := hc i y hy
  refine dp_row hp hxl fun j v hv => ?_
  obtain ⟨T, rfl, hT⟩ := hcc j v hv
  exact .tup (SqT.of hT) (.cons (.int _) (.cons (.int _) .nil))
/-! ### _law_pairs -/
def spPairs (K : PySem.W.Frag) : Sp := fun vs H Q _ => ∃ (t : Addr) (r c : Nat) (A : Nat → Nat → Int) (u : Int), vs = [.ref t] ∧ PrAt H t r c A u ∧ r ≤ 1000 ∧ c ≤ 1000 ∧ u ≠ 0 ∧ Sm u ∧ ∀ D H', Same H H' → PTab H' D r c (qv A u) → Q (.ref D) H'
theorem pr_dp {H : Hp} {T : Addr} {p : Rat} (e : H T = some (.tup [.int p.num, .int p.den])) : Dp K H (.ref T) (prD p) := .tup (SqT.of e) (.cons (.int _) (.cons (.int _) .nil))
theorem sc__law_pairs : FnScope ["_law_pair", "_law_line", "_law_cell"] ["_law_pair"] (defScope s__law_pairs) := ⟨rfl, rfl, rfl, by decide +kernel, rfl, by decide +kernel, by decide +kernel⟩
theorem ok_pairs {f : Addr} {fd : FuncData} (F : Fun K "_law_pairs" "_law_pairs" s__law_pairs f fd) (T : Blt mg) (c_lowest : CalG P w K mg base 4 "_law_lowest" spLowest []) : FnG P w K mg base CX0 6 f fd ["_law_pair"] (spPairs K) := by
  refine fun_okG F sc__law_pairs (fun vs H Q E h => ?_) (fun cdv A' outer s H vs Q E bare hr h => ?_)
  · obtain ⟨t, r, c, A, u, rfl, _⟩ := h
    rfl
  · obtain ⟨t, r, c, A, u, rfl, ⟨L, ht, rs, hL, hl, hrow⟩, hr1, hc1, hu, su, k⟩ := h
    refine ⟨_, (pss_one (ps_ret (pe_lcI (pe_lc (own := [("_law_line", 1)]) rfl sc__law_pairs.nd (pi_listK (K := K) (pe_ix (ix_tupK (K := K)) (pv 0) pe_int (fun _ _ => rfl))) (blkOk_by (N := ["_law_pair", "_law_line", "_law_cell"]) (sc := (defScope s__law_pairs)) (by decide +kernel)) (fun _ _ _ _ _ => (pg_name (i := 1) sc__law_pairs.nd rfl (Or.inl rfl))) (fun _ _ _ _ _ => pts_nil) (fun _ _ _ _ _ => (pe_cut (pe_lcI (pe_lc (own := [("_law_cell", 2)]) rfl sc__law_pairs.nd (pi_listK (K := K) (pv 1)) (blkOk_by (N := ["_law_pair", "_law_line", "_law_cell"]) (sc := ({ kind := .function, names := [(PySem.Str.ofString ".0", .local), (PySem.Str.ofString "_law_line", .local), (PySem.Str.ofString "_law_pair", .cell)], isGenerator := false, isCoroutine := false } : Scope)) (by decide +kernel)) (fun _ _ _ _ _ => (pg_name (i := 2) sc__law_pairs.nd rfl (Or.inl rfl))) (fun _ _ _ _ _ => pts_nil) (fun _ _ _ _ _ => (pe_cut (pe_cg c_lowest bare hr (by decide) rfl (pa_cons (pv 2) (pa_cons (pe_ix (ix_tupK (K := K)) (pv 0) pe_int (fun _ _ => rfl)) pa_nil))))))))))))), ?_⟩
    refine ⟨_, rfl, t, _, _, _, rfl, rfl, SqT.of ht, rfl, L, rfl, ⟨rs, SqL.of hL⟩, fun D hD => ?_⟩
    refine lc_same (walk_list (K := K) (a := L) (xs := rs)) hD (by omega) (fun i y G => PRow G y c (qv A u i)) (fun i y G G' h s => h.same s) (fun G s => SqL.of (s _ _ hL)) yat_same (fun i x H1 H1' hi s1 nD hy => ?_) fun ys H1 hl1 s1 e1 h1 => ?_
    · obtain ⟨rfl, hx⟩ := hy
      obtain ⟨p, rfl, hp⟩ := hrow i x hx
      refine ⟨_, fun _ h => h, wipe_one, ?_⟩
      refine ⟨_, rfl, p, rfl, ⟨_, SqL.of (s1 _ _ hp)⟩, fun D2 hD2 => ?_⟩
      refine lc_same (walk_list (K := K) (a := p) (xs := rowV c (A i))) hD2 (by rw [rowV_len]; omega) (fun j y G => ∃ T, y = .ref T ∧ G T = some (.tup [.int (qv A u i j).num, .int (qv A u i j).den])) (fun j y G G' ⟨T, e, h⟩ s => ⟨T, e, s _ _ h⟩) (fun G s => SqL.of (s _ _ (s1 _ _ hp))) yat_same (fun j y H2 H2' hj s2 _ hy => ?_) fun ys2 H2 hl2 s2 e2 h2 => ?_
      · obtain ⟨rfl, hy⟩ := hy
        obtain ⟨hj, rfl⟩ := rowV_get hy
        refine ⟨_, fun _ h => h, wipe_one, ?_⟩
        exact ⟨_, rfl, _, rfl, t, _, _, _, rfl, rfl, SqT.of (s2 _ _ (s1 _ _ ht)), rfl, _, _, rfl, hu, su, fun T2 hT2 => ⟨MG.Same.new (Same.refl _) hT2, fun ⟨l, hl⟩ => ⟨T2, rfl, by rw [hid_ne (ne_of upd_same hl (by intro z; cases z))]; exact upd_same⟩⟩⟩
      · refine ⟨s2, fun ⟨l, hl⟩ => ?_⟩
        have n : D2 ≠ D := fun q => nD (q ▸ hD2)
        have e3 : (hid D H2) D2 = some (.lst ys2) := by rw [hid_ne n]; exact e2
        refine ⟨D2, ys2, rfl, e3, hl2.trans rowV_len, fun j y hy => ?_⟩
        obtain ⟨T2, rfl, h⟩ := h2 j y hy
        have h' := hid_same D2 H2 _ _ h
        exact ⟨T2, rfl, by rw [hid_ne (ne_of h' hl (by intro z; cases z))]; exact h'⟩
    exact k D H1 s1 ⟨ys, e1, hl1.trans hl, fun i y hy => (h1 i y hy).same (hid_same D H1)⟩
abbrev PairsC (P : Program) (w : World) (K : PySem.W.Frag) (mg : Str → Option Value) (base : Heap) : Prop := CalG P w K mg base 6 "_law_pairs" (spPairs K) []
/-! ### _law_told -/
def spTold (K : PySem.W.Frag) (C CM : Addr) : Sp := fun vs H Q _ => ∃ (m : Addr) (r c : Nat) (f : Nat → Nat → Rat), vs = [.ref m] ∧ MtAt C CM H m r c f ∧ r ≤ 1000 ∧ c ≤ 1000 ∧ ∀ D H', Same H H' → Dp K H' (.ref D) (tabD r c f) → Q (.ref D) H'
theorem sc__law_told : FnScope ["_law_matrix", "_law_lines", "_law_line", "_law_found", "_law_cell"] ["_law_matrix"] (defScope s__law_told) := ⟨rfl, rfl, rfl, by decide +kernel, rfl, by decide +kernel, by decide +kernel⟩
theorem ok_told {f : Addr} {fd : FuncData} (F : Fun K "_law_told" "_law_told" s__law_told f fd) (T : TxM K mg C CM) (pm_entries : EntriesC P w K mg base CM) (p_top : PropF P w K mg base 2 C "top" (spTop C)) (p_bottom : PropF P w K mg base 2 C "bottom" (spBottom C)) : FnG P w K mg base CX0 6 f fd ["_law_matrix"] (spTold K C CM) := by
  refine fun_okG F sc__law_told (fun vs H Q E h => ?_) (fun cdv A' outer s H vs Q E bare hr h => ?_)
  · obtain ⟨m, r, c, f, rfl, _⟩ := h
    rfl
  · obtain ⟨m, r, c, f, rfl, ⟨dx, t, em, rs, ht, hl, hrow⟩, hr1, hc1, k⟩ := h
    refine ⟨_, (pss_cons (ps_set (i := 1) sc__law_told.nd rfl (Or.inl rfl) (pe_pf pm_entries T.clM hr (by decide) (pv 0) rfl))
  (pss_cons (ps_if (PW.pt (pw_or (pt_not (pt_val (pe_callB (id := "isinstance") (call_isiK (K := K)) (by rfl) T.b_isinstance (by decide +kernel) (pa_cons (pv 1) (pa_cons (pe_bltn (v := V.ty "tuple") (u := Value.type "tuple") (by rfl) T.b_tuple (by decide +kernel) rfl) pa_nil))))) (pw_or1 (pt_not (pt_val (pe_callB (id := "all") (cr_allK (K := K) rfl) (by rfl) T.b_all (by decide +kernel) (pa_cons (pe_lcI (pe_lc (own := [("_law_line", 2)]) rfl sc__law_told.nd (pi_tupK (K := K) (pv 1)) (blkOk_by (N := ["_law_matrix", "_law_lines", "_law_line", "_law_found", "_law_cell"]) (sc := (defScope s__law_told)) (by decide +kernel)) (fun _ _ _ _ _ => (pg_name (i := 2) sc__law_told.nd rfl (Or.inl rfl))) (fun _ _ _ _ _ => pts_nil) (fun _ _ _ _ _ => (pe_cut (pe_callB (id := "isinstance") (call_isiK (K := K)) (by rfl) T.b_isinstance (by decide +kernel) (pa_cons (pv 2) (pa_cons (pe_bltn (v := V.ty "tuple") (u := Value.type "tuple") (by rfl) T.b_tuple (by decide +kernel) rfl) pa_nil))))))) pa_nil))))))) (pss_one (ps_ret pe_non))
  pss_nil)
  (pss_cons (ps_set (i := 3) sc__law_told.nd rfl (Or.inl rfl) (pe_lst pa_nil))
  (pss_cons (ps_for PassesOwn.never rfl (pi_tupK (K := K) (pv 1)) (pg_name (i := 2) sc__law_told.nd rfl (Or.inl rfl))
  (pss_cons (ps_if (pt_not (pt_val (pe_callB (id := "all") (cr_allK (K := K) rfl) (by rfl) T.b_all (by decide +kernel) (pa_cons (pe_lcI (pe_lc (own := [("_law_cell", 4)]) rfl sc__law_told.nd (pi_tupK (K := K) (pv 2)) (blkOk_by (N := ["_law_matrix", "_law_lines", "_law_line", "_law_found", "_law_cell"]) (sc := (defScope s__law_told)) (by decide +kernel)) (fun _ _ _ _ _ => (pg_name (i := 4) sc__law_told.nd rfl (Or.inl rfl))) (fun _ _ _ _ _ => pts_nil) (fun _ _ _ _ _ => (pe_cut (pe_callB (id := "isinstance") (call_isiK (K := K)) (by rfl) T.b_isinstance (by decide +kernel) (pa_cons (pv 4) (pa_cons (pe_glob (v := V.ref C) rfl T.g_Ratio rfl) pa_nil))))))) pa_nil)))) (pss_one (ps_ret pe_non))
  pss_nil)
  (pss_one (ps_expr (pe_bm PySem.F.plainAttrs_list PySem.F.slot_list_append PySem.F.type_list_append mt_append (pv 3) (pa_cons (pe_lcI (pe_lc (own := [("_law_cell", 4)]) rfl sc__law_told.nd (pi_tupK (K := K) (pv 2)) (blkOk_by (N := ["_law_matrix", "_law_lines", "_law_line", "_law_found", "_law_cell"]) (sc := (defScope s__law_told)) (by decide +kernel)) (fun _ _ _ _ _ => (pg_name (i := 4) sc__law_told.nd rfl (Or.inl rfl))) (fun _ _ _ _ _ => pts_nil) (fun _ _ _ _ _ => (pe_cut (pe_tup (pa_cons (pe_pf p_top T.cl hr (by decide) (pv 4) rfl) (pa_cons (pe_pf p_bottom T.cl hr (by decide) (pv 4) rfl) pa_nil))))))) pa_nil))))))
  (pss_one (ps_ret (pv 3))))))), ?_⟩
    refine ⟨_, rfl, m, dx, _, rfl, em, m, dx, t, rfl, em, ?_⟩
    -- if not isinstance(lines, tuple) or not all(..)
    refine ⟨_, rfl, .ref t, _, _, _, true, rfl, .ty "tuple", .base (.tup ht), kit_ty (by decide +kernel), _, rfl, iteF ?_⟩
    refine ⟨_, rfl, t, rfl, ⟨rs, SqT.of ht⟩, fun D hD => ?_⟩
    refine lc_same (walk_tup (K := K) (a := t) (xs := rs)) hD (by omega) (fun _ y _ => y = .bl true) (fun _ _ _ _ e _ => e) (fun H' s' => SqT.of (s' _ _ ht)) yat_same (fun i x H1 H1' hi s1 _ hy => ?_) fun ys H1 hl1 s1 e1 h1 => ?_
    · obtain ⟨rfl, hx⟩ := hy
      obtain ⟨p, xs, rfl, hp, hxl, _⟩ := hrow i x hx
      exact ⟨_, fun _ h => h, wipe_one, _, rfl, .ref p, _, _, _, _, rfl, .ty "tuple", .base (.tup (s1 _ _ hp)), kit_ty (by decide +kernel), Same.refl _, fun _ => rfl⟩
    obtain ⟨bs, hb, ab⟩ := all_bl (K := K) e1 h1
    refine ⟨D, bs, rfl, hb, _, rfl, ifF (by rw [ab]; rfl) ?_⟩
    -- found = []
    refine ⟨by show 0 ≤ sizeLine; decide, fun F0 hF0 => ?_⟩
    have sF : Same H (upd H1 F0 (.lst [])) := MG.Same.new s1 hF0
    have fF : H F0 = none := s1.free hF0
    refine ⟨_, rfl, t, rfl, ⟨rs, SqT.of (sF _ _ ht)⟩, ?_⟩
    refine for_tup (K := K) (a := t) (xs := rs) (fun i σ H' => Same H (hid F0 H') ∧ ∃ (ds : List V) (v2 v4 : Option V), σ = [some (.ref m), some (.ref t), v2, some (.ref F0), v4] ∧ H' F0 = some (.lst ds) ∧ ds.length = i ∧ ∀ (k : Nat) (y : V), ds[k]? = some y → Dp K (hid F0 H') y (rowD c (f k))) ⟨(hid_none fF).trans (hid_mono sF), [], none, none, rfl, upd_same, rfl, fun k y h => by simp at h⟩ ?_ ?_ ?_
    · rintro i σ H' _ ⟨s', _⟩
      exact SqT.of (hid_same F0 H' _ _ (s' _ _ ht))
    · rintro i x σ H' hx ⟨s', ds, v2, v4, rfl, eF, hdl, hds⟩
      have sH := s'.trans (hid_same F0 H')
      obtain ⟨p, xs, rfl, hp, hxl, hc⟩ := (hrow i x hx).same (rc_mono C) sH
      -- if not all([isinstance(cell, Ratio) ..])
      refine ⟨_, rfl, p, rfl, ⟨xs, SqT.of hp⟩, fun D2 hD2 => ?_⟩
      refine lc_same (walk_tup (K := K) (a := p) (xs := xs)) hD2 (by omega) (fun _ y _ => y = .bl true) (fun _ _ _ _ e _ => e) (fun H' s' => SqT.of (s' _ _ hp)) yat_same (fun j y H2 H2' hj s2 _ hy => ?_) fun ys2 H2 hl2 s2 e2 h2 => ?_
      · obtain ⟨rfl, hy⟩ := hy
        obtain ⟨b, rfl, hb⟩ := hc j y hy
        exact ⟨_, fun _ h => h, wipe_one, _, rfl, .ref b, _, _, _, _, rfl, .own C, (hb.same s2).tyx T.toTxR, T.kC, Same.refl _, fun _ => rfl⟩
      obtain ⟨bs2, hb2, ab2⟩ := all_bl (K := K) e2 h2
      refine ⟨D2, bs2, rfl, hb2, _, rfl, ifF (by rw [ab2]; rfl) ?_⟩
      -- found.append([(cell.top, cell.bottom) ..])
      have eF2 := s2 _ _ eF
      refine ⟨_, rfl, .inl ⟨rfl, ds, SqL.of eF2⟩, ?_⟩
      refine ⟨_, rfl, p, rfl, ⟨xs, SqT.of (s2 _ _ hp)⟩, fun D3 hD3 => ?_⟩
      refine lc_same (walk_tup (K := K) (a := p) (xs := xs)) hD3 (by omega) (fun j y G => ∃ T, y = .ref T ∧ G T = some (.tup [.int (f i j).num, .int (f i j).den])) (fun j y G G' ⟨T, e, h⟩ s => ⟨T, e, s _ _ h⟩) (fun H' s' => SqT.of (s' _ _ (s2 _ _ hp))) yat_same (fun j y H3 H3' hj s3 _ hy => ?_) fun ys3 H3 hl3 s3 e3 h3 => ?_
      · obtain ⟨rfl, hy⟩ := hy
        obtain ⟨b, rfl, hb⟩ := hc j y hy
        have hb3 := (hb.same s2).same s3
        obtain ⟨d1, e1⟩ := id hb3
        refine ⟨_, fun _ h => h, wipe_one, ?_⟩
        exact ⟨_, rfl, b, d1, _, rfl, e1, b, f i j, rfl, hb3, _, rfl, b, d1, _, rfl, e1, b, f i j, rfl, hb3, by show 2 ≤ sizeLine; decide, fun T2 hT2 => ⟨MG.Same.new (Same.refl _) hT2, fun ⟨l, hl⟩ => ⟨T2, rfl, by rw [hid_ne (ne_of upd_same hl (by intro z; cases z))]; exact upd_same⟩⟩⟩
      have eF3 := s3 _ _ eF2
      have n3 : D3 ≠ F0 := fun q => by rw [q, eF2] at hD3; cases hD3
      refine ⟨F0, ds, _, rfl, rfl, eF3, Nat.lt_of_le_of_lt (m := 1000) (by have := (List.getElem?_eq_some_iff.mp hx).1; omega) (by decide), ?_⟩
      have sh : Same (hid F0 H') (hid F0 (upd H3 F0 (.lst (ds ++ [.ref D3])))) := by rw [hid_upd]; exact hid_mono (s2.trans s3)
      refine ⟨s'.trans sh, ds ++ [.ref D3], _, _, rfl, upd_same, by simp [hdl], fun n y hy => ?_⟩
      by_cases hn : n < ds.length
      · rw [List.getElem?_append_left hn] at hy
        exact MG.Dp.same sh (hds n y hy)
      · rw [List.getElem?_append_right (by omega)] at hy
        have ey : y = .ref D3 := by simpa using List.mem_of_getElem? hy
        have en : n = i := by
          have := (List.getElem?_eq_some_iff.mp hy).1
          simp at this
          omega
        rw [ey, en]
        have e4 : (hid F0 (upd H3 F0 (.lst (ds ++ [.ref D3])))) D3 = some (.lst ys3) := by rw [hid_upd, hid_ne n3]; exact e3
        refine dp_row e4 (hl3.trans hxl) fun j y hy => ?_
        obtain ⟨T2, rfl, h⟩ := h3 j y hy
        have h' := hid_same D3 H3 _ _ h
        exact pr_dp (by rw [hid_upd, hid_ne (ne_of h' eF3 (by intro z; cases z))]; exact h')
    · rintro σ H' ⟨s', ds, v2, v4, rfl, eF, hdl, hds⟩
      exact ⟨_, rfl, k F0 H' (s'.trans (hid_same F0 H')) (dp_row eF (hdl.trans hl) fun i y hy => MG.Dp.same (hid_same F0 H') (hds i y hy))⟩
abbrev ToldC (P : Program) (w : World) (K : PySem.W.Frag) (mg : Str → Option Value) (base : Heap) (C CM : Addr) : Prop := CalG P w K mg base 6 "_law_told" (spTold K C CM) []
/-! ### _law_is -/
def spIs (C CM : Addr) : Sp := fun vs H Q _ => ∃ (m t : Addr) (r c : Nat) (f : Nat → Nat → Rat) (A : Nat → Nat → Int) (u : Int), vs = [.ref m, .ref t] ∧ MtAt C CM H m r c f ∧ PrAt H t r c A u ∧ r ≤ 60 ∧ c ≤ 60 ∧ u ≠ 0 ∧ Sm u ∧ Bds r c f 390 ∧ (∀ i j, i < r → j < c → f i j = qv A u i j) ∧ ∀ H', Same H H' → Q (.bl true) H'
theorem sc__law_is : FnScope ["_law_matrix", "_law_pair"] ["_law_matrix", "_law_pair"] (defScope s__law_is) := ⟨rfl, rfl, rfl, by decide +kernel, rfl, by decide +kernel, by decide +kernel⟩
theorem ok_is {f : Addr} {fd : FuncData} (F : Fun K "_law_is" "_law_is" s__law_is f fd) (T : TxM K mg C CM) (c_told : ToldC P w K mg base C CM) (c_pairs : PairsC P w K mg base) : FnG P w K mg base CX0 8 f fd ["_law_matrix", "_law_pair"] (spIs C CM) := by
  refine fun_okG F sc__law_is (fun vs H Q E h => ?_) (fun cdv A' outer s H vs Q E bare hr h => ?_)
  · obtain ⟨m, t, r, c, f, A, u, rfl, _⟩ := h
    rfl
  · obtain ⟨m, t, r, c, f, A, u, rfl, hM, hP, hr1, hc1, hu, su, bd, hf, k⟩ := h
    have hu64 := hr.units
    refine ⟨_, (pss_cons (ps_if (pt_not (pt_val (pe_callB (id := "isinstance") (call_isiK (K := K)) (by rfl) T.b_isinstance (by decide +kernel) (pa_cons (pv 0) (pa_cons (pe_glob (v := V.ref CM) rfl T.g_Matrix rfl) pa_nil))))) (pss_one (ps_ret pe_bl))
  pss_nil)
  (pss_one (ps_ret (pe_cmpR op_eq (pe_callB (id := "repr") (call_reprK (K := K) bare hu64) (by rfl) T.b_repr (by decide +kernel) (pa_cons (pe_cg c_told bare hr (by decide) rfl (pa_cons (pv 0) pa_nil)) pa_nil)) (pe_callB (id := "repr") (call_reprK (K := K) bare hu64) (by rfl) T.b_repr (by decide +kernel) (pa_cons (pe_cg c_pairs bare hr (by decide) rfl (pa_cons (pv 1) pa_nil)) pa_nil)) (nomark _))))), ?_⟩
    refine ⟨_, rfl, .ref m, _, _, _, _, rfl, .own CM, hM.tyx T, T.kMM, _, rfl, iteF ?_⟩
    refine ⟨_, rfl, m, r, c, f, rfl, hM, by omega, by omega, fun D H1 s1 h1 => ?_⟩
    have ok1 := okd_tab (m := 60) (n := 60) hr1 hc1 (by decide) bd
    refine ⟨.ref D, _, rfl, h1, ok1.sh, ok1.nd, Nat.le_trans ok1.dp (by decide), Nat.le_trans ok1.ln (by decide), ?_⟩
    refine ⟨_, rfl, t, r, c, A, u, rfl, hP.same s1, by omega, by omega, hu, su, fun D2 H2 s2 h2 => ?_⟩
    have h2 := PTab.dp (K := K) h2
    have e := tabD_congr hf
    rw [← e] at h2
    refine ⟨.ref D2, _, rfl, h2, ok1.sh, ok1.nd, Nat.le_trans ok1.dp (by decide), Nat.le_trans ok1.ln (by decide), rfl, ?_⟩
    rw [decide_eq_true rfl]
    exact k H2 (s1.trans s2)
abbrev IsC (P : Program) (w : World) (K : PySem.W.Frag) (mg : Str → Option Value) (base : Heap) (C CM : Addr) : Prop := CalG P w K mg base 8 "_law_is" (spIs C CM) []
/-! ### _law_entries -/
def spEnt (C : Addr) : Sp := fun vs H Q _ => ∃ (t : Addr) (r c : Nat) (A : Nat → Nat → Int) (u : Int), vs = [.ref t] ∧ PrAt H t r c A u ∧ r ≤ 1000 ∧ c ≤ 1000 ∧ u ≠ 0 ∧ Sm u ∧ ∀ p H', Same H H' → Tb (RC C) H' p r c (qv A u) → Q (.ref p) H'
theorem sc__law_entries : FnScope ["_law_pair", "_law_line", "_law_cell"] ["_law_pair"] (defScope s__law_entries) := ⟨rfl, rfl, rfl, by decide +kernel, rfl, by decide +kernel, by decide +kernel⟩
theorem ok_ent {f : Addr} {fd : FuncData} (F : Fun K "_law_entries" "_law_entries" s__law_entries f fd) (T : TxM K mg C CM) (m_rat2 : Rat2C P w K mg base C) : FnG P w K mg base CX0 6 f fd ["_law_pair"] (spEnt C) := by
  refine fun_okG F sc__law_entries (fun vs H Q E h => ?_) (fun cdv A' outer s H vs Q E bare hr h => ?_)
  · obtain ⟨t, r, c, A, u, rfl, _⟩ := h
    rfl
  · obtain ⟨t, r, c, A, u, rfl, ⟨L, ht, rs, hL, hl, hrow⟩, hr1, hc1, hu, su, k⟩ := h
    refine ⟨_, (pss_one (ps_ret (pe_callTy (call_tuple_ofK (K := K)) (by rfl) T.b_tuple (by decide +kernel) (pa_cons (pe_lcI (pe_lc (own := [("_law_line", 1)]) rfl sc__law_entries.nd (pi_listK (K := K) (pe_ix (ix_tupK (K := K)) (pv 0) pe_int (fun _ _ => rfl))) (blkOk_by (N := ["_law_pair", "_law_line", "_law_cell"]) (sc := (defScope s__law_entries)) (by decide +kernel)) (fun _ _ _ _ _ => (pg_name (i := 1) sc__law_entries.nd rfl (Or.inl rfl))) (fun _ _ _ _ _ => pts_nil) (fun _ _ _ _ _ => (pe_cut (pe_callTy (call_tuple_ofK (K := K)) (by rfl) T.b_tuple (by decide +kernel) (pa_cons (pe_lcI (pe_lc (own := [("_law_cell", 2)]) rfl sc__law_entries.nd (pi_listK (K := K) (pv 1)) (blkOk_by (N := ["_law_pair", "_law_line", "_law_cell"]) (sc := ({ kind := .function, names := [(PySem.Str.ofString ".0", .local), (PySem.Str.ofString "_law_line", .local), (PySem.Str.ofString "tuple", .globalImplicit), (PySem.Str.ofString "_law_pair", .cell)], isGenerator := false, isCoroutine := false } : Scope)) (by decide +kernel)) (fun _ _ _ _ _ => (pg_name (i := 2) sc__law_entries.nd rfl (Or.inl rfl))) (fun _ _ _ _ _ => pts_nil) (fun _ _ _ _ _ => (pe_cut (pe_mkf m_rat2 hr (by decide) rfl (pa_cons (pv 2) (pa_cons (pe_ix (ix_tupK (K := K)) (pv 0) pe_int (fun _ _ => rfl)) pa_nil))))))) pa_nil)))))) pa_nil)))), ?_⟩
    refine ⟨_, rfl, t, _, _, _, rfl, rfl, SqT.of ht, rfl, L, rfl, ⟨rs, SqL.of hL⟩, fun D hD => ?_⟩
    refine lc_same (walk_list (K := K) (a := L) (xs := rs)) hD (by omega) (fun i y G => Rw (RC C) G y c (qv A u i)) (fun i y G G' h s => h.same (rc_mono C) s) (fun G s => SqL.of (s _ _ hL)) yat_same (fun i x H1 H1' hi s1 nD hy => ?_) fun ys H1 hl1 s1 e1 h1 => ?_
    · obtain ⟨rfl, hx⟩ := hy
      obtain ⟨p, rfl, hp⟩ := hrow i x hx
      refine ⟨_, fun _ h => h, wipe_one, ?_⟩
      refine ⟨_, rfl, p, rfl, ⟨_, SqL.of (s1 _ _ hp)⟩, fun D2 hD2 => ?_⟩
      refine lc_same (walk_list (K := K) (a := p) (xs := rowV c (A i))) hD2 (by rw [rowV_len]; omega) (fun j y G => RC C G y (qv A u i j)) (fun j y G G' h s => (rc_mono C).same h s) (fun G s => SqL.of (s _ _ (s1 _ _ hp))) yat_same (fun j y H2 H2' hj s2 _ hy => ?_) fun ys2 H2 hl2 s2 e2 h2 => ?_
      · obtain ⟨rfl, hy⟩ := hy
        obtain ⟨hj, rfl⟩ := rowV_get hy
        refine ⟨_, fun _ h => h, wipe_one, ?_⟩
        refine ⟨_, rfl, _, rfl, t, _, _, _, rfl, rfl, SqT.of (s2 _ _ (s1 _ _ ht)), rfl, ?_⟩
        exact make_rat (Q := fun y H4 => Same H2' H4 ∧ ((∃ l, H4 D2 = some (.lst l)) → RC C (hid D2 H4) y (qv A u i j))) hu su fun r' H6 _ s6 h6 => ⟨s6, fun ⟨l, hl⟩ => (rc_mono C).hid ⟨r', rfl, h6⟩ hl⟩
      · refine ⟨D2, ys2, rfl, .inl ⟨SqL.of e2, fun T2 hT2 => ⟨MG.Same.new s2 hT2, fun ⟨l, hl⟩ => ?_⟩⟩⟩
        exact (rw_new (rc_mono C) (hid_same D2 H2) hT2 (hl2.trans rowV_len) h2).hid (rc_mono C) hl
    refine ⟨D, ys, rfl, .inl ⟨SqL.of e1, fun T7 hT7 => ?_⟩⟩
    exact k T7 _ (MG.Same.new s1 hT7) (tb_new (rc_mono C) (hid_same D H1) hT7 (hl1.trans hl) h1)
abbrev EntC (P : Program) (w : World) (K : PySem.W.Frag) (mg : Str → Option Value) (base : Heap) (C : Addr) : Prop := CalG P w K mg base 6 "_law_entries" (spEnt C) []
end
end Lw

namespace Lw
open PySem PySem.Spec PyProof.Rows L2 MG
abbrev s__law_cells : Stmt := top 45
/-- the purse without an object that is newer -/
theorem QAt.down {H1 H : Hp} {q D : Addr} {n n0 : Nat} (h0 : QAt H1 q n0) (k : Keep q H1 H) (h : QAt H q n) (hD : H1 D = none) : QAt (hid D H) q n := by
  obtain ⟨c0, ns0, i0, r0, t0, hq0, hc0, _⟩ := h0
  obtain ⟨c, ns, i, r, t, hq, hc, h⟩ := h
  obtain ⟨l', hl⟩ := k.hd _ _ hq0
  have e : V.ref c = V.ref c0 := by
    have := hq.symm.trans hl
    cases this
    rfl
  have ec : c = c0 := by
    cases e
    rfl
  refine ⟨c, ns, i, r, t, ?_, ?_, h⟩
  · rw [hid_ne (ne_of_none hq0 hD)]; exact hq
  · rw [hid_ne (ne_of_none (ec ▸ hc0) hD)]; exact hc
/-- the tables are not the purse -/
theorem PrAt.hq {H : Hp} {q t : Addr} {n r c : Nat} {A : Nat → Nat → Int} {u : Int} (h : PrAt H t r c A u) (hq : QAt H q n) : PrAt (hid q H) t r c A u := by
  obtain ⟨L, ht, rs, hL, hl, hrow⟩ := h
  obtain ⟨c0, ns, i, r0, t0, eq, _⟩ := hq
  have nL : L ≠ q := fun e => by
    rw [e, eq] at hL
    have e1 := HO.lst.inj (Option.some.inj hL)
    obtain ⟨p, z, _⟩ := hrow 1 (.int i) (by rw [← e1]; rfl)
    cases z
  refine ⟨L, by rw [hid_ne (ne_of ht eq (by intro z; cases z))]; exact ht, rs, by rw [hid_ne nL]; exact hL, hl, fun k x hx => ?_⟩
  obtain ⟨p, e, hp⟩ := hrow k x hx
  have np : p ≠ q := fun e' => by
    rw [e', eq] at hp
    have e1 := HO.lst.inj (Option.some.inj hp)
    have z : (rowV c (A k))[0]? = some (.ref c0) := by rw [← e1]; rfl
    cases (rowV_get z).2
  exact ⟨p, e, by rw [hid_ne np]; exact hp⟩
section
variable {P : Program} {w : World} {K : PySem.W.Frag} {mg : Str → Option Value} {base : Heap} {C CM CX : Addr}
/-! ### _law_thin -/
def spThin : Sp := fun vs H Q _ => ∃ (q : Addr) (n : Nat) (m : Int), vs = [.ref q, .int m] ∧ QAt H q n ∧ n + 4 ≤ 100000 ∧ 0 < m ∧ m ≤ 40 ∧
  ∀ (p : Addr) (h b : Nat) (H' : Hp), 0 < h → h ≤ 42 → 0 < b → b ≤ 42 → (h : Int) ≤ m + 2 → (b : Int) ≤ m + 2 → (h ≤ 3 ∨ b ≤ 3) → Keep q H H' → QAt H' q (n + 4) → H p = none → p ≠ q → H' p = some (.tup [.int h, .int b]) → Q (.ref p) H'
abbrev ThinC (P : Program) (w : World) (K : PySem.W.Frag) (mg : Str → Option Value) (base : Heap) : Prop := CalG P w K mg base 4 "_law_thin" spThin []
/-! ### _law_cells -/
def spCells : Sp := fun vs H Q _ => ∃ (q : Addr) (n h b : Nat), vs = [.ref q, .int h, .int b] ∧ QAt H q n ∧ n + 3 + h * b ≤ 100000 ∧ 0 < h ∧ h ≤ 100 ∧ 0 < b ∧ b ≤ 100 ∧
  ∀ (t : Addr) (A : Nat → Nat → Int) (u : Int) (H' : Hp), Keep q H H' → QAt H' q (n + 3 + h * b) → PrAt (hid q H') t h b A u → Bn h b A u 13 → u ≤ 30 → Q (.ref t) H'
def far4 : List Int := [2, 3, 9, 10 ^ Int.toNat 12]
theorem far4_ok : ∀ z ∈ far4, 2 ≤ z ∧ z ≤ 10 ^ 12 := by decide +kernel
def bel3 : List Int := [1, 4, 30]
theorem bel3_ok : ∀ z ∈ bel3, 1 ≤ z ∧ z ≤ 30 := by decide
theorem sc__law_cells : FnScope ["_law_q", "_law_high", "_law_broad", "_law_far", "_law_below", "_law_cells_here", "_law_i", "_law_j"] ["_law_q", "_law_high", "_law_broad"] (defScope s__law_cells) := ⟨rfl, rfl, rfl, by decide +kernel, rfl, by decide +kernel, by decide +kernel⟩
theorem ok_cells {f : Addr} {fd : FuncData} (F : Fun K "_law_cells" "_law_cells" s__law_cells f fd) (T : Blt mg) (c_draw : DrawC P w K mg base) (c_low : LowTC P w K mg base) : FnG P w K mg base CX0 6 f fd ["_law_q", "_law_high", "_law_broad"] spCells := by
  refine fun_okG F sc__law_cells (fun vs H Q E h => ?_) (fun cdv A' outer s H vs Q E bare hr h => ?_)
  · obtain ⟨q, n, h, b, rfl, _⟩ := h
    rfl
  · obtain ⟨q, n, h, b, rfl, hq, hn, h0, h1, b0, b1, k⟩ := h
    refine ⟨_, (pss_cons (ps_set (i := 3) sc__law_cells.nd rfl (Or.inr rfl) (pe_ix (ix_listK (K := K)) (pe_lst (pa_cons pe_int (pa_cons pe_int (pa_cons pe_int (pa_cons (pe_op op_pow pe_int pe_int) pa_nil))))) (pe_cg c_draw bare hr (by decide) rfl (pa_cons (pv 0) (pa_cons pe_int pa_nil))) (fun _ _ => rfl)))
  (pss_cons (ps_set (i := 4) sc__law_cells.nd rfl (Or.inl rfl) (pe_op op_add pe_int (pe_cg c_draw bare hr (by decide) rfl (pa_cons (pv 0) (pa_cons (pe_ix (ix_listK (K := K)) (pe_lst (pa_cons pe_int (pa_cons pe_int (pa_cons pe_int pa_nil)))) (pe_cg c_draw bare hr (by decide) rfl (pa_cons (pv 0) (pa_cons pe_int pa_nil))) (fun _ _ => rfl)) pa_nil)))))
  (pss_cons (ps_lcI (ps_setLc (i := 5) (own := [("_law_i", 6)]) rfl sc__law_cells.nd rfl rfl (sw_true rfl rfl rfl (by decide +kernel)) (pi_range1 (by rfl) T.b_range (pa_cons (pv 1) pa_nil)) (blkOk_by (N := ["_law_q", "_law_high", "_law_broad", "_law_far", "_law_below", "_law_cells_here", "_law_i", "_law_j"]) (sc := (defScope s__law_cells)) (by decide +kernel)) (fun _ _ _ _ _ => (pg_name (i := 6) sc__law_cells.nd rfl (Or.inl rfl))) (fun _ _ _ _ _ => pts_nil) (fun _ _ _ _ _ => (pe_cut (pe_lcI (pe_lc (own := [("_law_j", 7)]) rfl sc__law_cells.nd (pi_range1 (by rfl) T.b_range (pa_cons (pv 2) pa_nil)) (blkOk_by (N := ["_law_q", "_law_high", "_law_broad", "_law_far", "_law_below", "_law_cells_here", "_law_i", "_law_j"]) (sc := ({ kind := .function, names := [(PySem.Str.ofString ".0", .local), (PySem.Str.ofString "_law_i", .local), (PySem.Str.ofString "range", .globalImplicit), (PySem.Str.ofString "_law_broad", .cell), (PySem.Str.ofString "_law_far", .cell), (PySem.Str.ofString "_law_q", .cell)], isGenerator := false, isCoroutine := false } : Scope)) (by decide +kernel)) (fun _ _ _ _ _ => (pg_name (i := 7) sc__law_cells.nd rfl (Or.inl rfl))) (fun _ _ _ _ _ => pts_nil) (fun _ _ _ _ _ => (pe_cut (pe_op op_sub (pe_cg c_draw bare hr (by decide) rfl (pa_cons (pv 0) (pa_cons (pe_op op_add (pe_op op_mulW pe_int (pv 3)) pe_int) pa_nil))) (pv 3))))))))))
  (pss_one (ps_ret (pe_cg c_low bare hr (by decide) rfl (pa_cons (pe_tup (pa_cons (pv 5) (pa_cons (pv 4) pa_nil))) pa_nil))))))), ?_⟩
    -- far
    refine ⟨_, _, rfl, rfl, ⟨by decide, by decide, by decide⟩, by show 4 ≤ sizeLine; decide, fun p hp => ?_⟩
    refine ⟨_, rfl, q, 4, n, rfl, hq.new hp, by omega, by decide, by decide, fun r H1 r0 r1 k1 q1 => ?_⟩
    obtain ⟨y, hy, ey⟩ := at_ints (l := far4) r0 (by show r < 4; exact r1)
    obtain ⟨y0, y1⟩ := far4_ok y hy
    refine ⟨p, _, _, _, rfl, rfl, SqL.of (k1 _ _ upd_same (hq.ne hp)), ey, ?_⟩
    -- below
    refine ⟨_, rfl, by show 3 ≤ sizeLine; decide, fun p2 hp2 => ?_⟩
    refine ⟨_, rfl, q, 3, n + 1, rfl, q1.new hp2, by omega, by decide, by decide, fun r2 H2 r20 r21 k2 q2 => ?_⟩
    obtain ⟨x, hx, ex⟩ := at_ints (l := bel3) r20 (by show r2 < 3; exact r21)
    obtain ⟨x0, x1⟩ := bel3_ok x hx
    refine ⟨p2, _, _, _, rfl, rfl, SqL.of (k2 _ _ upd_same (q1.ne hp2)), ex, ?_⟩
    refine ⟨q, x, n + 2, rfl, q2, by omega, by omega, by omega, fun u H3 u0 u1 k3 q3 => ⟨_, _, rfl, rfl, ?_⟩⟩
    have kk : Keep q H H3 := ((Keep.refl.new hp).trans k1).trans ((Keep.refl.new hp2).trans (k2.trans k3))
    clear k1 k2 k3 q1 q2
    -- the cells
    refine ⟨_, rfl, (h : Int), rfl, by omega, by omega, fun D hD => ?_⟩
    have hh : ((h : Int)).toNat = h := by omega
    rw [hh]
    have nqD : q ≠ D := (q3.ne hD).symm
    refine lc_keep (q := q) (walk_range (lo := 0) (n := h)) hD (by obtain ⟨o, e⟩ := q3.at_; rw [e]; exact nofun) (by omega) (fun i G => QAt G q (n + 3 + i * b)) (fun m G G' h s => h.keep s) (fun m G kG h => QAt.down q3 kG h hD) (by rw [Nat.zero_mul]; exact q3)
      (fun i y G => ∃ p g, y = .ref p ∧ G p = some (.lst (rowV b g)) ∧ ∀ j, j < b → (g j).natAbs ≤ 10 ^ 12) (fun i y G G' ⟨p, g, e, h, z⟩ s => ⟨p, g, e, s _ _ h, z⟩) (fun G kG => trivial) yfn_same (fun i v H4 H4' hi k4 q4 nD hy => ?_) fun ys H4 hl4 k4 q4 e4 h4 => ?_
    · obtain ⟨rfl, rfl⟩ := hy
      refine ⟨_, fun _ h => h, wipe_one, ?_⟩
      refine ⟨_, rfl, (b : Int), rfl, by omega, by omega, fun D2 hD2 => ?_⟩
      have hb : ((b : Int)).toNat = b := by omega
      rw [hb]
      have hib : i * b + b ≤ h * b := by
        have : (i + 1) * b ≤ h * b := Nat.mul_le_mul_right _ (by omega)
        rw [Nat.succ_mul] at this
        exact this
      have nqD2 : q ≠ D2 := (q4.ne hD2).symm
      refine lc_keep (q := q) (walk_range (lo := 0) (n := b)) hD2 (by obtain ⟨o, e⟩ := q4.at_; rw [e]; exact nofun) (by omega) (fun j G => QAt G q (n + 3 + i * b + j)) (fun m G G' h s => h.keep s) (fun m G kG h => QAt.down q4 kG h hD2) q4
        (fun j y G => ∃ z : Int, y = .int z ∧ z.natAbs ≤ 10 ^ 12) (fun j y G G' h s => h) (fun G kG => trivial) yfn_same (fun j v H5 H5' hj k5 q5 nD2 hy => ?_) fun ys2 H5 hl5 k5 q5 e5 h5 => ?_
      · obtain ⟨rfl, rfl⟩ := hy
        refine ⟨_, fun _ h => h, wipe_one, ?_⟩
        refine ⟨_, rfl, _, rfl, _, _, rfl, rfl, sm_mul (sm_lt (k := 1) (by decide) (by decide) (by decide)) (sm_lt (k := 20) (by decide) (by omega) (by omega)), _, _, rfl, rfl, q, _, _, rfl, q5, by omega, by omega, by omega, fun z H6 z0 z1 k6 q6 => ?_⟩
        exact ⟨_, rfl, _, _, rfl, rfl, k6, q6, fun _ => ⟨_, rfl, by omega⟩⟩
      · have sel : ∃ g : Nat → Int, (∀ (j : Nat) (y : V), ys2[j]? = some y → y = .int (g j)) ∧ ∀ j, j < b → (g j).natAbs ≤ 10 ^ 12 := by
          refine ⟨fun j => match ys2[j]? with | some (.int z) => z | _ => 0, fun j y hy => ?_, fun j hj => ?_⟩
          · obtain ⟨z, rfl, _⟩ := h5 j y hy
            show V.int z = V.int (match ys2[j]? with | some (.int z) => z | _ => 0)
            rw [hy]
          · have hy : ys2[j]? = some ys2[j] := List.getElem?_eq_getElem (by omega)
            obtain ⟨z, e, hz⟩ := h5 j _ hy
            show (match ys2[j]? with | some (.int z) => z | _ => 0 : Int).natAbs ≤ 10 ^ 12
            rw [hy, e]
            exact hz
        obtain ⟨g, hg, gb⟩ := sel
        refine ⟨k5, ?_, fun _ => ⟨D2, g, rfl, ?_, gb⟩⟩
        · have : n + 3 + i * b + b = n + 3 + (i + 1) * b := by rw [Nat.succ_mul]; omega
          rw [← this]; exact q5
        · have n : D2 ≠ D := fun q => nD (q ▸ hD2)
          rw [hid_ne nqD2.symm, hid_ne n, e5]
          exact congrArg _ (congrArg _ (ints_of hl5 hg))
    -- return low((cells, below))
    have sel : ∃ A : Nat → Nat → Int, (∀ (i : Nat) (y : V), ys[i]? = some y → RowR b A i y (hid q (hid D H4))) ∧ ∀ i j, i < h → j < b → (A i j).natAbs ≤ 10 ^ 12 := by
      have pick : ∀ i : Nat, ∃ g : Nat → Int, ∀ y : V, ys[i]? = some y → (∃ p, y = V.ref p ∧ (hid q (hid D H4)) p = some (.lst (rowV b g))) ∧ ∀ j, j < b → (g j).natAbs ≤ 10 ^ 12 := fun i => by
        cases e : ys[i]? with
        | none => exact ⟨fun _ => 0, fun y hy => by cases hy⟩
        | some y =>
          obtain ⟨p, g, e1, e2, e3⟩ := h4 i y e
          refine ⟨g, fun y' hy' => ?_⟩
          cases hy'
          exact ⟨⟨p, e1, e2⟩, e3⟩
      refine ⟨fun i => (pick i).choose, fun i y hy => ((pick i).choose_spec y hy).1, fun i j hi hj => ?_⟩
      have hy : ys[i]? = some ys[i] := List.getElem?_eq_getElem (by omega)
      exact ((pick i).choose_spec _ hy).2 j hj
    obtain ⟨A, hA, bA⟩ := sel
    have nDq : D ≠ q := nqD.symm
    have eD : (hid q H4) D = some (.lst ys) := by rw [hid_ne nDq]; exact e4
    have hq2 : Same (hid q (hid D H4)) (hid q H4) := hid_mono (hid_same D H4)
    have hLL : LL (hid q H4) D h b A := ⟨ys, eD, hl4, fun i y hy => (hA i y hy).elim fun p e => ⟨p, e.1, hq2 _ _ e.2⟩⟩
    refine ⟨_, rfl, _, rfl, by show 2 ≤ sizeLine; decide, fun T2 hT2 => ?_⟩
    have s3 := MG.Same.new (o := .tup [.ref D, .int (1 + u)]) (Same.refl H4) hT2
    have nT : T2 ≠ q := q4.ne hT2
    have bn : Bn h b A (1 + u) 13 := ⟨by omega, by omega, fun i j hi hj => Nat.lt_of_le_of_lt (bA i j hi hj) (by decide)⟩
    have eT : (hid q (upd H4 T2 (.tup [.ref D, .int (1 + u)]))) T2 = some (.tup [.ref D, .int (1 + u)]) := by rw [hid_ne nT]; exact upd_same
    refine ⟨T2, h, b, A, 1 + u, 13, rfl, ⟨D, upd_same, (hLL.same (hid_same q H4)).same s3⟩, by omega, by omega, bn, by decide, fun t' H' A'' u' s4 hP bn' dv vals => ?_⟩
    have s34 := s3.trans s4
    have qF := q4.keep s34
    have u30 : u' ≤ 30 := Int.le_trans (Int.le_of_dvd (by omega) dv) (by omega)
    exact k t' A'' u' H' ((kk.trans k4).same s34) qF (hP.hq qF) bn' u30
abbrev CellsC (P : Program) (w : World) (K : PySem.W.Frag) (mg : Str → Option Value) (base : Heap) : Prop := CalG P w K mg base 6 "_law_cells" spCells []
end
end Lw

namespace Lw
open PySem PySem.Spec PyProof.Rows L2 MG TL
abbrev s__law_matrix_text : Stmt := top 46
section
variable {P : Program} {w : World} {K : PySem.W.Frag} {mg : Str → Option Value} {base : Heap} {C CM CE : Addr}
def spMText : Sp := fun vs H Q _ => ∃ (t : Addr) (r c : Nat) (A : Nat → Nat → Int) (u : Int), vs = [.ref t] ∧ PrAt H t r c A u ∧ r ≤ 101 ∧ c ≤ 101 ∧ u ≠ 0 ∧ Sm u ∧ Bds r c (qv A u) 300 ∧ ∀ H', Same H H' → Q (.str (tabT r c (qv A u))) H'
theorem sc__law_matrix_text : FnScope ["_law_pair", "_law_line", "_law_cell"] ["_law_pair"] (defScope s__law_matrix_text) := ⟨rfl, rfl, rfl, by decide +kernel, rfl, by decide +kernel, by decide +kernel⟩
theorem ok_mtext {f : Addr} {fd : FuncData} (F : Fun K "_law_matrix_text" "_law_matrix_text" s__law_matrix_text f fd) (T : Blt mg) (c_pairs : PairsC P w K mg base) (c_digits : DigitsC P w K mg base) : FnG P w K mg base CX0 8 f fd ["_law_pair"] spMText := by
  refine fun_okG F sc__law_matrix_text (fun vs H Q E h => ?_) (fun cdv A' outer s H vs Q E bare hr h => ?_)
  · obtain ⟨t, r, c, A, u, rfl, _⟩ := h
    rfl
  · obtain ⟨t, r, c, A, u, rfl, hP, hr1, hc1, hu, su, bd, k⟩ := h
    refine ⟨_, (pss_one (ps_ret (pe_joinK (K := K) pe_str (pe_lcI (pe_lc (own := [("_law_line", 1)]) rfl sc__law_matrix_text.nd (pi_listK (K := K) (pe_cg c_pairs bare hr (by decide) rfl (pa_cons (pv 0) pa_nil))) (blkOk_by (N := ["_law_pair", "_law_line", "_law_cell"]) (sc := (defScope s__law_matrix_text)) (by decide +kernel)) (fun _ _ _ _ _ => (pg_name (i := 1) sc__law_matrix_text.nd rfl (Or.inl rfl))) (fun _ _ _ _ _ => pts_nil) (fun _ _ _ _ _ => (pe_cut (pe_joinK (K := K) pe_str (pe_lcI (pe_lc (own := [("_law_cell", 2)]) rfl sc__law_matrix_text.nd (pi_listK (K := K) (pv 1)) (blkOk_by (N := ["_law_pair", "_law_line", "_law_cell"]) (sc := ({ kind := .function, names := [(PySem.Str.ofString ".0", .local), (PySem.Str.ofString "_law_line", .local)], isGenerator := false, isCoroutine := false } : Scope)) (by decide +kernel)) (fun _ _ _ _ _ => (pg_name (i := 2) sc__law_matrix_text.nd rfl (Or.inl rfl))) (fun _ _ _ _ _ => pts_nil) (fun _ _ _ _ _ => (pe_cut (pe_cg c_digits bare hr (by decide) rfl (pa_cons (pv 2) pa_nil)))))))))))))), ?_⟩
    refine ⟨⟨_, rfl⟩, _, rfl, t, r, c, A, u, rfl, hP, by omega, by omega, hu, su, fun L H0 s0 ⟨rs, hL, hl, hrow⟩ => ?_⟩
    refine ⟨L, rfl, ⟨rs, SqL.of hL⟩, fun D hD => ?_⟩
    refine lc_same (walk_list (K := K) (a := L) (xs := rs)) hD (by omega) (fun i y _ => y = .str (rowT c (qv A u i))) (fun _ _ _ _ e _ => e) (fun H' s' => SqL.of (s' _ _ hL)) yat_same (fun i x H1 H1' hi s1 _ hy => ?_) fun ys H1 hl1 s1 e1 h1 => ?_
    · obtain ⟨rfl, hx⟩ := hy
      obtain ⟨p, xs, rfl, hp, hxl, hc⟩ := (hrow i x hx).same s1
      refine ⟨_, fun _ h => h, wipe_one, ?_⟩
      refine ⟨⟨_, rfl⟩, _, rfl, p, rfl, ⟨xs, SqL.of hp⟩, fun D2 hD2 => ?_⟩
      refine lc_same (walk_list (K := K) (a := p) (xs := xs)) hD2 (by omega) (fun j y _ => y = .str (dg (qv A u i j))) (fun _ _ _ _ e _ => e) (fun H' s' => SqL.of (s' _ _ hp)) yat_same (fun j y H2 H2' hj s2 _ hy => ?_) fun ys2 H2 hl2 s2 e2 h2 => ?_
      · obtain ⟨rfl, hy⟩ := hy
        obtain ⟨b, rfl, hb⟩ := hc j y hy
        have bj := bd i j (by omega) (by omega)
        refine ⟨_, fun _ h => h, wipe_one, ?_⟩
        exact ⟨_, rfl, b, qv A u i j, rfl, SqT.of (s2 _ _ hb), bj.num (by decide), bj.den (by decide), Same.refl _, fun _ => rfl⟩
      · have ey := strs_of (hl2.trans hxl) h2
        refine ⟨_, D2, (List.range c).map fun j => dg (qv A u i j), rfl, rfl, .inl (SqL.of (by rw [e2, ey])), ?_, s2, fun _ => rfl⟩
        have := sum_le (n := 602) (ts := (List.range c).map fun j => dg (qv A u i j)) fun t ht => by
          obtain ⟨j, hj, rfl⟩ := mem_tab ht
          exact dg_len (by decide) (bd i j (by omega) hj)
        have e1 : (Str.ofString " ").length = 1 := rfl
        simp only [List.length_map, List.length_range] at this ⊢
        rw [e1]
        omega
    · have ey := strs_of (hl1.trans hl) h1
      refine ⟨_, D, (List.range r).map fun i => rowT c (qv A u i), rfl, rfl, .inl (SqL.of (by rw [e1, ey])), ?_, k H1 (s0.trans s1)⟩
      have := sum_le (n := 603 * 101) (ts := (List.range r).map fun i => rowT c (qv A u i)) fun t ht => by
        obtain ⟨i, hi, rfl⟩ := mem_tab ht
        exact Nat.le_trans (rowT_len (k := 300) (by decide) fun j hj => bd i j hi hj) (Nat.mul_le_mul_left _ hc1)
      have e1 : (Str.ofString "; ").length = 2 := rfl
      simp only [List.length_map, List.length_range] at this ⊢
      rw [e1]
      omega
abbrev MTextC (P : Program) (w : World) (K : PySem.W.Frag) (mg : Str → Option Value) (base : Heap) : Prop := CalG P w K mg base 8 "_law_matrix_text" spMText []
/-! ### _law_is_table -/
theorem good_of {ss : List Sh} {n : Nat} (h0 : 1 ≤ ss.length) (h : ∀ i, i < ss.length → ∃ l, ss[i]? = some (.tup l) ∧ 1 ≤ l.length ∧ l.length = n ∧ l.all numB = true) : goodB (.tup ss) = true := by
  have mem : ∀ s ∈ ss, ∃ l, s = .tup l ∧ 1 ≤ l.length ∧ l.length = n ∧ l.all numB = true := fun s hs => by
    obtain ⟨i, hi⟩ := List.getElem?_of_mem hs
    obtain ⟨l, e, r⟩ := h i (List.getElem?_eq_some_iff.mp hi).1
    exact ⟨l, Option.some.inj (hi.symm.trans e), r⟩
  have hd : ((ss.map rowN).headD none).getD 0 = n := by
    cases ss with
    | nil => simp at h0
    | cons s r =>
      obtain ⟨l, rfl, _, e, _⟩ := mem s (by simp)
      exact e
  have b1 : B1 (ss.map rowN) = true := List.all_eq_true.mpr fun o ho => by
    obtain ⟨s, hs, rfl⟩ := List.mem_map.mp ho
    obtain ⟨l, rfl, e, _⟩ := mem s hs
    exact decide_eq_true e
  have b2 : B2 (ss.map rowN) = true := List.all_eq_true.mpr fun o ho => by
    obtain ⟨s, hs, rfl⟩ := List.mem_map.mp ho
    obtain ⟨l, rfl, _, e, _⟩ := mem s hs
    rw [hd]
    exact decide_eq_true e
  have b3 : cellsB (.tup ss) = true := List.all_eq_true.mpr fun s hs => by
    obtain ⟨l, rfl, _, _, e⟩ := mem s hs
    exact e
  unfold goodB tabB
  rw [b3, show wholeN (.tup ss) = some (ss.map rowN) from rfl, tabW_some, b1, b2, decide_eq_true (by rw [List.length_map]; exact h0)]
  rfl
theorem good_not {ss : List Sh} {i : Nat} {s : Sh} (hs : ss[i]? = some s) (h : ∀ l, s = .tup l → 1 ≤ l.length → l.length = shC (.tup ss) → l.all numB = true → False) : goodB (.tup ss) = false := by
  cases g : goodB (.tup ss) with
  | false => rfl
  | true =>
    exfalso
    unfold goodB tabB at g
    rw [show wholeN (.tup ss) = some (ss.map rowN) from rfl, tabW_some, Bool.and_eq_true, Bool.and_eq_true, Bool.and_eq_true] at g
    obtain ⟨⟨g0, g1, g2⟩, g3⟩ := g
    have m := List.mem_of_getElem? hs
    have m1 := of_decide_eq_true (List.all_eq_true.mp g1 (rowN s) (List.mem_map.mpr ⟨_, m, rfl⟩))
    have m2 := of_decide_eq_true (List.all_eq_true.mp g2 (rowN s) (List.mem_map.mpr ⟨_, m, rfl⟩))
    have m3 := List.all_eq_true.mp g3 s m
    have e0 : ((ss.map rowN).headD none).getD 0 = shC (.tup ss) := by
      cases ss with
      | nil => simp at g0
      | cons b r =>
        show (rowN b).getD 0 = (rowsS b).length
        cases b <;> rfl
    rw [e0] at m2
    cases s with
    | num p => exact absurd m1 (show ¬ (1 ≤ 0) by decide)
    | oth => exact absurd m1 (show ¬ (1 ≤ 0) by decide)
    | tup l => exact h l rfl m1 m2 m3
theorem ShAt.cases {H : Hp} {x : V} {s : Sh} (h : ShAt K C H x s) : (∃ a xs ss, x = .ref a ∧ s = .tup ss ∧ H a = some (.tup xs) ∧ xs.length ≤ 100 ∧ ss.length = xs.length ∧ ∀ (i : Nat) (x : V) (s : Sh), xs[i]? = some x → ss[i]? = some s → ShAt K C H x s) ∨ (NotT K H x ∧ ∀ ss, s ≠ .tup ss) := by
  cases h with
  | num h b n => exact .inr ⟨n, fun ss e => by cases e⟩
  | oth h n => exact .inr ⟨n, fun ss e => by cases e⟩
  | tup e l1 l2 p => exact .inl ⟨_, _, _, rfl, rfl, e, l1, l2, p⟩
theorem good_tup {s : Sh} (h : ∀ ss, s ≠ .tup ss) : goodB s = false := by
  cases s with
  | num p => rfl
  | oth => rfl
  | tup l => exact absurd rfl (h l)
def spLTab (K : PySem.W.Frag) (C : Addr) : Sp := fun vs H Q _ => ∃ (x : V) (s : Sh), vs = [x] ∧ ShAt K C H x s ∧ ∀ H', Same H H' → Q (.bl (goodB s)) H'
abbrev LTabC (P : Program) (w : World) (K : PySem.W.Frag) (mg : Str → Option Value) (base : Heap) (C : Addr) : Prop := CalG P w K mg base 6 "_law_is_table" (spLTab K C) []
/-! ### _law_number_text -/
def spNT (C : Addr) : Sp := fun vs H Q _ => ∃ (x : V) (p : Rat), vs = [x] ∧ NumAt C H x p ∧ Bd p 43 ∧ ∀ H', Same H H' → Q (.str (dg p)) H'
theorem dg_int (i : Int) : dg (Rat.divInt i 1) = Str.ofString (toString i) := by
  have e1 : (Rat.divInt i 1).num = i := by
    rw [Rat.num_divInt]
    simp
  have e2 : (Rat.divInt i 1).den = 1 := by
    rw [Rat.den_divInt, if_neg (by decide)]
    simp
  unfold dg
  rw [if_pos e2, e1]
abbrev NTC (P : Program) (w : World) (K : PySem.W.Frag) (mg : Str → Option Value) (base : Heap) (C : Addr) : Prop := CalG P w K mg base 6 "_law_number_text" (spNT C) []
/-! ### _law_due, _law_made -/
def tw (r : Str × Str) : List V := [.str r.1, .str r.2]
def dueT (s : Sh) (t : Str) : Str × Str := if goodB s = true then (("told" : Str), tabT (shR s) (shC s) (shF s)) else (("raised" : Str), t)
theorem dueT_good {s : Sh} {t : Str} (h : goodB s = true) : dueT s t = (("told" : Str), tabT (shR s) (shC s) (shF s)) := if_pos h
theorem dueT_not {s : Sh} {t : Str} (h : goodB s = false) : dueT s t = (("raised" : Str), t) := if_neg (by rw [h]; decide)
def spDue (K : PySem.W.Frag) (C : Addr) : Sp := fun vs H Q _ => ∃ (x : V) (t : Str) (s : Sh), vs = [x] ∧ Thing K C H x t s 4000000 12 ∧ ∀ p H', Same H H' → H' p = some (.tup (tw (dueT s t))) → Q (.ref p) H'
theorem Thing.parts {H H' : Hp} {x : V} {t : Str} {o : Sh} {n k j : Nat} (h : Thing K C H x t o n k) (s : Same H H') (hn : n ≤ 5000000) (hj : k + 3 ≤ j) : ∃ as k', Shw K (ownR C) 2 H' as k' x t ∧ t.length ≤ sizeLine ∧ k' + 3 ≤ j := by
  obtain ⟨⟨as, k', h1, h2, h3⟩, h4, _⟩ := h
  exact ⟨as, k', shw_same h1 s, Nat.le_trans (Nat.le_trans h4 hn) (by decide), by omega⟩
theorem good_and {s : Sh} : goodB s = true ↔ tabB s = true ∧ cellsB s = true := by
  unfold goodB
  rw [Bool.and_eq_true]
abbrev DueC (P : Program) (w : World) (K : PySem.W.Frag) (mg : Str → Option Value) (base : Heap) (C : Addr) : Prop := CalG P w K mg base 20 "_law_due" (spDue K C) []
abbrev MadeC (P : Program) (w : World) (K : PySem.W.Frag) (mg : Str → Option Value) (base : Heap) (C : Addr) : Prop := CalG P w K mg base 20 "_law_made" (spDue K C) []
end
end Lw

namespace Lw
open PySem PySem.Spec PyProof.Rows L2 MG TL

section
variable {P : Program} {w : World} {K : PySem.W.Frag} {mg : Str → Option Value} {base : Heap} {C CM CE : Addr}
/-! ### things -/
theorem tup_ne {H : Hp} {q t : Addr} {n : Nat} {xs : List V} (h : QAt H q n) (e : H t = some (.tup xs)) : t ≠ q := fun z => by
  obtain ⟨c0, ns, i, r0, t0, eq, _⟩ := h
  rw [z, eq] at e
  cases e
theorem intT_len {i : Int} {k : Nat} (hk : 0 < k) (h : i.natAbs < 10 ^ k) : (Str.ofString (toString i)).length ≤ k + 1 := by
  rw [z_txt]
  have := DN_len hk h
  have e2 : (Str.ofString "-").length = 1 := rfl
  split
  · rw [strLen_append]; omega
  · omega
theorem thing_num {H : Hp} {x : V} {p : Rat} (T : TxR K mg C) (O : Others K C) (h : NumAt C H x p) (b : Bd p 43) : ∃ t, Thing K C H x t (.num p) 400 2 := by
  rcases h with ⟨r, rfl, hr⟩ | ⟨i, rfl, rfl⟩
  · have l1 := intT_len (by decide) b.1
    have l2 := intT_len (i := (p.den : Int)) (by decide) b.2
    refine ⟨rt p, ⟨[], 2, .own ⟨p, hr, b.num (by decide), b.den (by decide), rfl⟩ (Nat.le_refl _), Nat.le_refl _, nofun⟩, ?_, ?_, .num (.inl ⟨r, rfl, hr⟩) b ⟨_, hr.tyx T, kit_rt (by decide +kernel) O.stu⟩⟩
    · unfold rt
      rw [strLen_append, strLen_append, strLen_append, strLen_append]
      have e1 : (("Ratio(" : Str)).length = 6 := rfl
      have e2 : ((", " : Str)).length = 2 := rfl
      have e3 : ((")" : Str)).length = 1 := rfl
      omega
    · exact asc_append (asc_append (asc_append (asc_append (asc_of _ (by decide +kernel)) (asc_int _)) (asc_of _ (by decide +kernel))) (asc_int _)) (asc_of _ (by decide +kernel))
  · have e1 : (Rat.divInt i 1).num = i := by
      rw [Rat.num_divInt]
      simp
    have b1 := b.1
    rw [e1] at b1
    exact ⟨_, thing_int b1⟩
theorem thing_tupE {H : Hp} {a : Addr} {xs : List V} {n k : Nat} (e : H a = some (.tup xs)) (hl : xs.length ≤ 100) (h : ∀ (i : Nat) (x : V), xs[i]? = some x → ∃ t o H0, H0 a = none ∧ Same H0 H ∧ Thing K C H0 x t o n k) :
    ∃ t o, Thing K C H (.ref a) t o ((n + 2) * xs.length + 3) (k + 2) := by
  obtain ⟨g, hg⟩ := sel_fn (α := Str × Sh) (n := xs.length) (P := fun i z => ∀ x, xs[i]? = some x → ∃ H0, H0 a = none ∧ Same H0 H ∧ Thing K C H0 x z.1 z.2 n k) fun i hi => by
    obtain ⟨t, o, H0, h1, h2, h3⟩ := h i _ (List.getElem?_eq_getElem hi)
    refine ⟨(t, o), fun x hx => ?_⟩
    obtain rfl := Option.some.inj ((List.getElem?_eq_getElem hi).symm.trans hx)
    exact ⟨H0, h1, h2, h3⟩
  refine ⟨_, _, thing_tup (ts := (List.range xs.length).map fun i => (g i).1) (ss := (List.range xs.length).map fun i => (g i).2) e hl (by simp) (by simp) fun i x t o h1 h2 h3 => ?_⟩
  obtain ⟨hi, rfl⟩ := range_get h2
  obtain ⟨_, rfl⟩ := range_get h3
  exact hg i hi x h1
theorem asc_from : ∀ (ts : List Str) (i : Nat) (acc : Str), Asc acc → (∀ t ∈ ts, Asc t) → Asc (textFrom i acc ts)
  | [], _, _, h, _ => h
  | t :: ts, i, acc, h, ht => by
    refine asc_from ts (i + 1) _ (asc_append (asc_append h ?_) (ht t (by simp))) fun u hu => ht u (List.mem_cons_of_mem _ hu)
    split <;> exact asc_of _ (by decide +kernel)
theorem asc_listT {ts : List Str} (h : ∀ t ∈ ts, Asc t) : Asc (listText ts) := asc_append (asc_from ts 0 _ (asc_of _ (by decide +kernel)) h) (asc_of _ (by decide +kernel))
theorem thing_listE (O : Others K C) {H : Hp} {a : Addr} {xs : List V} {n k : Nat} (e : H a = some (.lst xs)) (h0 : 0 < xs.length) (h : ∀ (i : Nat) (x : V), xs[i]? = some x → ∃ t o H0, H0 a = none ∧ Same H0 H ∧ Thing K C H0 x t o n k) :
    ∃ t o, Thing K C H (.ref a) t o ((n + 2) * xs.length + 3) (k + 2) := by
  obtain ⟨g, hg⟩ := sel_fn (α := Str × List Addr) (n := xs.length) (P := fun i z => ∀ x, xs[i]? = some x → Shw K (ownR C) 2 H z.2 k x z.1 ∧ a ∉ z.2 ∧ (∀ b ∈ z.2, H b ≠ none) ∧ z.1.length ≤ n ∧ Asc z.1) fun i hi => by
    obtain ⟨t, o, H0, n0, s0, ⟨as, k', h1, h2, h3⟩, h4, h5, h6⟩ := h i _ (List.getElem?_eq_getElem hi)
    refine ⟨(t, as), fun x hx => ?_⟩
    obtain rfl := Option.some.inj ((List.getElem?_eq_getElem hi).symm.trans hx)
    refine ⟨(shw_same h1 s0).more (fun _ h => h) h2, fun z => h3 _ z n0, fun b hb z => ?_, h4, h5⟩
    cases q : H0 b with
    | none => exact h3 b hb q
    | some o' => exact nomatch (s0 _ _ q).symm.trans z
  have hgi : ∀ i, (hi : i < xs.length) → _ := fun i hi => hg i hi _ (List.getElem?_eq_getElem hi)
  obtain ⟨x0, xs', rfl⟩ : ∃ x0 xs', xs = x0 :: xs' := by
    cases xs with
    | nil => simp at h0
    | cons x r => exact ⟨x, r, rfl⟩
  have tsP : ∀ t ∈ (List.range (x0 :: xs').length).map fun i => (g i).1, t.length ≤ n ∧ Asc t := fun t ht => by
    obtain ⟨i, hi, rfl⟩ := mem_tab ht
    exact ⟨(hgi i hi).2.2.2.1, (hgi i hi).2.2.2.2⟩
  refine ⟨listText ((List.range (x0 :: xs').length).map fun i => (g i).1), .oth, ⟨a :: (List.range (x0 :: xs').length).flatMap fun i => (g i).2, k + 2, .list (as := (List.range (x0 :: xs').length).flatMap fun i => (g i).2) (k := k) (SqL.of e) (fun z => ?_) (by simp) (fun i y u e1 e2 => ?_) (fun b hb => hb) (Nat.le_refl _), Nat.le_refl _, fun b hb => ?_⟩, ?_, ?_,
    .oth ⟨_, false, false, .base (.lst e), kit_ty (by decide +kernel), kit_ty (by decide +kernel), rfl, kit_tr O.is O.ty O.lst⟩ ⟨_, .base (.lst e), kit_ty (by decide +kernel)⟩⟩
  · obtain ⟨i, hi, hz⟩ := List.mem_flatMap.mp z
    exact (hgi i (List.mem_range.mp hi)).2.1 hz
  · obtain ⟨hi, rfl⟩ := range_get e2
    exact (hg i hi y e1).1.more (fun c hc => List.mem_flatMap.mpr ⟨i, List.mem_range.mpr hi, hc⟩) (Nat.le_refl _)
  · rcases List.mem_cons.mp hb with rfl | hb
    · rw [e]; exact nofun
    · obtain ⟨i, hi, hz⟩ := List.mem_flatMap.mp hb
      exact (hgi i (List.mem_range.mp hi)).2.2.1 b hz
  · have := listText_bd (n := n) fun t ht => (tsP t ht).1
    rw [List.length_map, List.length_range] at this
    omega
  · exact asc_listT fun t ht => (tsP t ht).2
/-- a tuple without an address -/
theorem num_but {H : Hp} {x : V} {p : Rat} {a : Addr} {xs : List V} (h : NumAt C H x p) (e : H a = some (.tup xs)) : NumAt C (but a H) x p := by
  rcases h with ⟨r, rfl, dx, hr⟩ | h
  · refine .inl ⟨r, rfl, dx, ?_⟩
    have n : r ≠ a := ne_of hr e (by intro z; cases z)
    unfold but
    rw [if_neg n]
    exact hr
  · exact .inr h
/-- a row of numbers -/
theorem thing_row {H : Hp} {x : V} {c : Nat} {g : Nat → Rat} (T : TxR K mg C) (O : Others K C) (h : Rw (NumAt C) H x c g) (hc : c ≤ 100) (b : ∀ j, j < c → Bd (g j) 43) : ∃ t o, Thing K C H x t o (402 * c + 3) 4 := by
  obtain ⟨p, xs, rfl, hp, hl, hcell⟩ := h
  obtain ⟨t, o, h⟩ := thing_tupE (K := K) (C := C) (n := 400) (k := 2) hp (by omega) fun j y hy => by
    have hj := (List.getElem?_eq_some_iff.mp hy).1
    obtain ⟨t, ht⟩ := thing_num T O (num_but (hcell j y hy) hp) (b j (by omega))
    exact ⟨t, _, but p H, if_pos rfl, but_same p H, ht⟩
  rw [hl] at h
  exact ⟨t, o, h⟩
theorem thing_tb {H : Hp} {t : Addr} {r c : Nat} {f : Nat → Nat → Rat} (T : TxR K mg C) (O : Others K C) (h : Tb (NumAt C) H t r c f) (hr : r ≤ 100) (hc : c ≤ 100) (b : Bds r c f 43) : ∃ tx o, Thing K C H (.ref t) tx o ((402 * c + 5) * r + 3) 6 := by
  obtain ⟨rs, et, hl, hrow⟩ := h
  obtain ⟨tx, o, h⟩ := thing_tupE (K := K) (C := C) (n := 402 * c + 3) (k := 4) et (by omega) fun i y hy => by
    have hi := (List.getElem?_eq_some_iff.mp hy).1
    obtain ⟨p, xs, rfl, hp, hxl, hcell⟩ := hrow i y hy
    have n : p ≠ t := fun e => by
      subst e
      have := et.symm.trans hp
      cases this
      rcases hcell i _ hy with ⟨r, e, dx, hr⟩ | ⟨z, e, _⟩
      · cases e
        exact nomatch hp.symm.trans hr
      · cases e
    obtain ⟨tx, o, h⟩ := thing_row (H := but t H) T O (x := .ref p) ⟨p, xs, rfl, by unfold but; rw [if_neg n]; exact hp, hxl, fun j z hz => num_but (hcell j z hz) et⟩ hc fun j hj => b i j (by omega) hj
    exact ⟨tx, o, but t H, if_pos rfl, but_same t H, h⟩
  rw [hl] at h
  exact ⟨tx, o, h⟩
/-! ### _law_mixed_cell -/
def spMCell (C : Addr) : Sp := fun vs H Q _ => ∃ (q t : Addr) (n : Nat) (p : Rat), vs = [.ref q, .ref t] ∧ QAt H q n ∧ n + 1 ≤ 100000 ∧ H t = some (.tup (pr p)) ∧ Sm p.num ∧ Sm (p.den : Int) ∧
  ∀ y H', Keep q H H' → QAt H' q (n + 1) → NumAt C (hid q H') y p → Q y H'
abbrev MCellC (P : Program) (w : World) (K : PySem.W.Frag) (mg : Str → Option Value) (base : Heap) (C : Addr) : Prop := CalG P w K mg base 6 "_law_mixed_cell" (spMCell C) []
/-! ### _law_mixed_entries -/
theorem hid_comm (a b : Addr) (H : Hp) : hid a (hid b H) = hid b (hid a H) := by
  funext x
  unfold hid
  by_cases h1 : x = a <;> by_cases h2 : x = b <;> simp [h1, h2]
theorem hidK {q F : Addr} {H H' : Hp} (k : Keep q H H') (n : q ≠ F) : Keep q (hid F H) (hid F H') := ⟨fun b o h hb => by
  have nb : b ≠ F := fun e => by rw [e, hid_self] at h; cases h
  rw [hid_ne nb] at h ⊢
  exact k.all b o h hb, fun x l h => by
  rw [hid_ne n] at h ⊢
  exact k.hd x l h⟩
theorem hid_into {F : Addr} {H : Hp} {o : HO} : Same (hid F H) (upd H F o) := fun b u h => by
  have nb : b ≠ F := fun e => by rw [e, hid_self] at h; cases h
  rw [hid_ne nb] at h
  rw [upd_ne nb]
  exact h
theorem PRow.hq {H : Hp} {q : Addr} {n c : Nat} {y : V} {g : Nat → Rat} (h : PRow H y c g) (hq : QAt H q n) : PRow (hid q H) y c g := by
  obtain ⟨p, xs, e, hp, hl, hc⟩ := h
  obtain ⟨c0, ns, i, r0, t0, eq, _⟩ := hq
  have np : p ≠ q := fun e' => by
    rw [e', eq] at hp
    have e1 := HO.lst.inj (Option.some.inj hp)
    obtain ⟨T, z, _⟩ := hc 1 (.int i) (by rw [← e1]; rfl)
    cases z
  refine ⟨p, xs, e, by rw [hid_ne np]; exact hp, hl, fun j v hv => ?_⟩
  obtain ⟨T, e, hT⟩ := hc j v hv
  exact ⟨T, e, by rw [hid_ne (ne_of hT eq (by intro z; cases z))]; exact hT⟩
theorem PTab.hq {H : Hp} {q D : Addr} {n r c : Nat} {f : Nat → Nat → Rat} (h : PTab H D r c f) (hq : QAt H q n) : PTab (hid q H) D r c f := by
  obtain ⟨rs, e, hl, hc⟩ := h
  obtain ⟨c0, ns, i, r0, t0, eq, _⟩ := id hq
  have nD : D ≠ q := fun e' => by
    rw [e', eq] at e
    have e1 := HO.lst.inj (Option.some.inj e)
    obtain ⟨p, xs, z, _⟩ := hc 1 (.int i) (by rw [← e1]; rfl)
    cases z
  exact ⟨rs, by rw [hid_ne nD]; exact e, hl, fun i y hy => (hc i y hy).hq hq⟩
theorem PTab.h0 {H : Hp} {F D : Addr} {r c : Nat} {f : Nat → Nat → Rat} (h : PTab H D r c f) (hF : H F = some (.lst [])) (r0 : 0 < r) (c0 : 0 < c) : PTab (hid F H) D r c f := by
  obtain ⟨rs, e, hl, hc⟩ := h
  have nD : D ≠ F := fun e' => by
    rw [e', hF] at e
    have e1 := HO.lst.inj (Option.some.inj e)
    rw [← e1] at hl
    simp at hl
    omega
  refine ⟨rs, by rw [hid_ne nD]; exact e, hl, fun i y hy => ?_⟩
  obtain ⟨p, xs, e', hp, hxl, hcc⟩ := hc i y hy
  have np : p ≠ F := fun e2 => by
    rw [e2, hF] at hp
    have e1 := HO.lst.inj (Option.some.inj hp)
    rw [← e1] at hxl
    simp at hxl
    omega
  refine ⟨p, xs, e', by rw [hid_ne np]; exact hp, hxl, fun j v hv => ?_⟩
  obtain ⟨T, e, hT⟩ := hcc j v hv
  exact ⟨T, e, by rw [hid_ne (ne_of hT hF (by intro z; cases z))]; exact hT⟩
def spMixed (C : Addr) : Sp := fun vs H Q _ => ∃ (q t : Addr) (n r c : Nat) (A : Nat → Nat → Int) (u : Int), vs = [.ref q, .ref t] ∧ QAt H q n ∧ n + r * c ≤ 100000 ∧ PrAt H t r c A u ∧ 0 < r ∧ r ≤ 100 ∧ 0 < c ∧ c ≤ 100 ∧ u ≠ 0 ∧ Sm u ∧ Bds r c (qv A u) 43 ∧
  ∀ p H', Keep q H H' → QAt H' q (n + r * c) → Tb (NumAt C) (hid q H') p r c (qv A u) → Q (.ref p) H'
abbrev MixedC (P : Program) (w : World) (K : PySem.W.Frag) (mg : Str → Option Value) (base : Heap) (C : Addr) : Prop := CalG P w K mg base 8 "_law_mixed_entries" (spMixed C) []
end
end Lw

namespace Lw
open PySem PySem.Spec PyProof.Rows L2 MG TL
abbrev s_Matrix_eye : Stmt := inClass (top 26) 5
abbrev s_InvalidIndex___init__ : Stmt := inClass (top 7) 0
abbrev s__law_is_size : Stmt := top 48
abbrev s__law_eye : Stmt := top 35
abbrev s__law_zeros : Stmt := top 36
abbrev s__law_eye_due : Stmt := top 50
abbrev s__law_zero_due : Stmt := top 51
abbrev s__law_size_thing : Stmt := top 47
abbrev s__law_spot : Stmt := top 52
section
variable {P : Program} {w : World} {K : PySem.W.Frag} {mg : Str → Option Value} {base : Heap} {C CM CZ CI : Addr}
/-! ### the other error -/
theorem sc_InvalidIndex___init__ : FnScope ["self", "given"] ["self", "given"] (defScope s_InvalidIndex___init__) := ⟨rfl, rfl, rfl, by decide +kernel, rfl, by decide +kernel, by decide +kernel⟩
theorem ok_xi {f : Addr} {fd : FuncData} (F : Fun K "__init__" "InvalidIndex.__init__" s_InvalidIndex___init__ f fd) : FnOk P w K mg base CX0 2 f fd ["self", "given"] (spXi K CI "given") := by
  refine F.ok sc_InvalidIndex___init__ (fun vs H Q E h => ?_) (fun cdv A outer s H vs Q E hr h => ?_)
  · obtain ⟨a, y, rfl, _⟩ := h
    rfl
  · obtain ⟨a, y, rfl, T, no, ha, k⟩ := h
    refine ⟨_, (pss_one (ps_ost (pv 0) (pv 1))), ?_⟩
    exact ⟨_, rfl, _, rfl, a, CI, rfl, T, no, .inl ⟨ha, fun dx n ne => k dx n ne⟩⟩
abbrev XiC (P : Program) (w : World) (K : PySem.W.Frag) (mg : Str → Option Value) (base : Heap) (CI : Addr) : Prop := ExcF P w K mg base 2 "InvalidIndex" CI "given"
/-! ### an int, or nothing whole -/
def IntOr (K : PySem.W.Frag) (H : Hp) (x : V) : Option Int → Prop
  | some i => x = .int i
  | none => WholeAt K H x false
theorem IntOr.same {H H' : Hp} {x : V} {o : Option Int} (h : IntOr K H x o) (s : Same H H') : IntOr K H' x o := by
  cases o with
  | some i => exact h
  | none => exact WholeAt.same h s
theorem IntOr.whole {H : Hp} {x : V} {o : Option Int} (h : IntOr K H x o) : WholeAt K H x o.isSome := by
  cases o with
  | some i =>
    cases (show x = .int i from h)
    exact whole_int i
  | none => exact h
def szB : Option Int → Bool
  | some i => decide (1 ≤ i)
  | none => false
def ixB (n : Nat) : Option Int → Bool
  | some i => decide (0 ≤ i) && decide (i < n)
  | none => false
theorem szB_pos {o : Option Int} (h : szB o = true) : ∃ n : Nat, o = some (n : Int) ∧ 0 < n := by
  cases o with
  | none => cases h
  | some i =>
    have := of_decide_eq_true h
    exact ⟨i.toNat, by congr 1; omega, by omega⟩
theorem ixB_pos {n : Nat} {o : Option Int} (h : ixB n o = true) : ∃ i : Nat, o = some (i : Int) ∧ i < n := by
  cases o with
  | none => cases h
  | some i =>
    have h' := Bool.and_eq_true_iff.mp h
    have h1 := of_decide_eq_true h'.1
    have h2 := of_decide_eq_true h'.2
    exact ⟨i.toNat, by congr 1; omega, by omega⟩
def spIsSzA (K : PySem.W.Frag) : Sp := fun vs H Q _ => ∃ (x : V) (o : Option Int), vs = [x] ∧ IntOr K H x o ∧ Q (.bl (szB o)) H
theorem sc_is_size : FnScope ["given"] ["given"] (defScope s_is_size) := ⟨rfl, rfl, rfl, by decide +kernel, rfl, by decide +kernel, by decide +kernel⟩
theorem ok_issza {f : Addr} {fd : FuncData} (F : Fun K "is_size" "is_size" s_is_size f fd) (c_whole : WholeC P w K mg base) : FnOk P w K mg base CX0 4 f fd ["given"] (spIsSzA K) := by
  refine F.ok sc_is_size (fun vs H Q E h => ?_) (fun cdv A outer s H vs Q E hr h => ?_)
  · obtain ⟨x, o, rfl, _⟩ := h
    rfl
  · obtain ⟨x, o, rfl, hx, k⟩ := h
    refine ⟨_, (pss_one (ps_ret (pe_and (pe_cf c_whole hr (by decide) rfl (pa_cons (pv 0) pa_nil)) (pe_one (pe_cmpR op_ge (pv 0) pe_int (nomark _)))))), ?_⟩
    obtain ⟨t, b1, b2, h1, h2, h3, h4⟩ := hx.whole
    refine ⟨_, rfl, x, t, b1, b2, rfl, h1, h2, h3, _, rfl, ?_⟩
    rw [h4]
    cases o with
    | none => exact iteF k
    | some i =>
      cases (show x = .int i from hx)
      exact iteT ⟨_, rfl, _, _, rfl, rfl, k⟩
abbrev IsSzA (P : Program) (w : World) (K : PySem.W.Frag) (mg : Str → Option Value) (base : Heap) : Prop := CalF P w K mg base 4 "is_size" (spIsSzA K) []
def spIsIxA (K : PySem.W.Frag) : Sp := fun vs H Q _ => ∃ (x : V) (o : Option Int) (n : Nat), vs = [x, .int n] ∧ IntOr K H x o ∧ Q (.bl (ixB n o)) H
theorem ok_isixa {f : Addr} {fd : FuncData} (F : Fun K "is_index" "is_index" s_is_index f fd) (c_whole : WholeC P w K mg base) : FnOk P w K mg base CX0 4 f fd ["given", "count"] (spIsIxA K) := by
  refine F.ok sc_is_index (fun vs H Q E h => ?_) (fun cdv A outer s H vs Q E hr h => ?_)
  · obtain ⟨x, o, n, rfl, _⟩ := h
    rfl
  · obtain ⟨x, o, n, rfl, hx, k⟩ := h
    refine ⟨_, (pss_one (ps_ret (pe_and (pe_cf c_whole hr (by decide) rfl (pa_cons (pv 0) pa_nil)) (pe_one (pe_chain op_le op_lt pe_int (pv 0) (pv 1)))))), ?_⟩
    obtain ⟨t, b1, b2, h1, h2, h3, h4⟩ := hx.whole
    refine ⟨_, rfl, x, t, b1, b2, rfl, h1, h2, h3, _, rfl, ?_⟩
    rw [h4]
    cases o with
    | none => exact iteF k
    | some i =>
      cases (show x = .int i from hx)
      refine iteT ?_
      by_cases c : 0 ≤ i
      · refine ⟨_, rfl, _, _, rfl, rfl, _, rfl, ifT (decide_eq_true (by omega)) ⟨_, rfl, _, _, rfl, rfl, ?_⟩⟩
        have e : ixB n (some i) = decide (i < (n : Int)) := by
          show (decide (0 ≤ i) && decide (i < (n : Int))) = _
          rw [decide_eq_true c, Bool.true_and]
        rw [e] at k
        exact k
      · refine ⟨_, rfl, _, _, rfl, rfl, _, rfl, ifF (decide_eq_false c) ?_⟩
        have e : ixB n (some i) = false := by
          show (decide (0 ≤ i) && decide (i < (n : Int))) = _
          rw [decide_eq_false c, Bool.false_and]
        rw [e] at k
        exact k
abbrev IsIxA (P : Program) (w : World) (K : PySem.W.Frag) (mg : Str → Option Value) (base : Heap) : Prop := CalF P w K mg base 4 "is_index" (spIsIxA K) []
/-! ### Matrix.eye, Matrix.zero -/
theorem make_num {H : Hp} {t : Addr} {r c : Nat} {f : Nat → Nat → Rat} {Q : VK} (ht : Tb (NumAt C) H t r c f) (z : Sz r c) (k : ∀ m H', H m = none → Same H H' → MtAt C CM H' m r c f → Q (.ref m) H') :
    ∀ x dx, H x = none → H dx = none → dx ≠ x → spMInit C CM [.ref x, .ref t] (upd (upd H dx (.own x)) x (.ins CM dx [])) (fun v H2 => v = .non ∧ Q (.ref x) H2) E0 := by
  intro x dx hx hdx hne
  have s1 : Same H (upd (upd H dx (.own x)) x (.ins CM dx [])) := MG.Same.new (MG.Same.new (Same.refl H) hdx) (by rw [upd_ne (fun e => hne e.symm)]; exact hx)
  refine ⟨x, dx, t, r, c, f, rfl, upd_same, ht.same (num_mono C) s1, z, fun H' t' e tb kp => ⟨rfl, k x H' hx (fun b o hb => ?_) ⟨dx, t', e, tb⟩⟩⟩
  exact kp b o (s1 _ _ hb) (ne_of_none hb hx)
def eyeI (i j : Nat) : Int := if i = j then 1 else 0
def zerI (i j : Nat) : Int := 0
def spEyeX (K : PySem.W.Frag) (C CM CZ : Addr) : Sp := fun vs H Q E => ∃ (x : V) (o : Option Int), vs = [.ref CM, x] ∧ IntOr K H x o ∧ (szB o = false → Rsd CZ H x E) ∧
  ∀ n : Nat, o = some (n : Int) → 0 < n → n ≤ 100 ∧ ∀ m H', Same H H' → MtAt C CM H' m n n (qv eyeI 1) → Q (.ref m) H'
abbrev XzC (P : Program) (w : World) (K : PySem.W.Frag) (mg : Str → Option Value) (base : Heap) (CZ : Addr) : Prop := ExcF P w K mg base 2 "InvalidSize" CZ "given"
theorem sc_Matrix_eye : FnScope ["cls", "size", "row", "column"] ["cls", "size"] (defScope s_Matrix_eye) := ⟨rfl, rfl, rfl, by decide +kernel, rfl, by decide +kernel, by decide +kernel⟩
theorem ok_eye {f : Addr} {fd : FuncData} (F : Fun K "eye" "Matrix.eye" s_Matrix_eye f fd) (T : TxM K mg C CM) (c_issz : IsSzA P w K mg base) (x_siz : XzC P w K mg base CZ) (m_mat : MatC P w K mg base C CM) : FnOk P w K mg base (L2N.CX P w) 10 f fd ["cls", "size"] (spEyeX K C CM CZ) := by
  refine fun_okN F sc_Matrix_eye (fun vs H Q E h => ?_) (fun cdv A outer s H vs Q E hr h => ?_)
  · obtain ⟨x, o, rfl, _⟩ := h
    rfl
  · obtain ⟨x, o, rfl, hx, kr, k⟩ := h
    refine ⟨_, (pss_cons (ps_if (pt_not (pt_val (pe_cf c_issz hr (by decide) rfl (pa_cons (pv 1) pa_nil)))) (pss_one (ps_raiseX x_siz hr (by decide) rfl (L2N.takes_of rfl rfl rfl rfl) rfl (pa_cons (pv 1) pa_nil)))
  pss_nil)
  (pss_one (ps_ret (pe_mkL (i := 0) m_mat hr (by decide) rfl (Or.inl rfl) (pa_cons (pe_callTy (call_tuple_ofK (K := K)) (by rfl) T.b_tuple (by decide +kernel) (pa_cons (pe_lcI (pe_lc (own := [("row", 2)]) rfl sc_Matrix_eye.nd (pi_range1 (by rfl) T.b_range (pa_cons (pv 1) pa_nil)) (blkOk_by (N := ["cls", "size", "row", "column"]) (sc := (defScope s_Matrix_eye)) (by decide +kernel)) (fun _ _ _ _ _ => (pg_name (i := 2) sc_Matrix_eye.nd rfl (Or.inr rfl))) (fun _ _ _ _ _ => pts_nil) (fun _ _ _ _ _ => (pe_cut (pe_callTy (call_tuple_ofK (K := K)) (by rfl) T.b_tuple (by decide +kernel) (pa_cons (pe_lcI (pe_lc (own := [("column", 3)]) rfl sc_Matrix_eye.nd (pi_range1 (by rfl) T.b_range (pa_cons (pv 1) pa_nil)) (blkOk_by (N := ["cls", "size", "row", "column"]) (sc := ({ kind := .function, names := [(PySem.Str.ofString ".0", .local), (PySem.Str.ofString "row", .cell), (PySem.Str.ofString "tuple", .globalImplicit), (PySem.Str.ofString "range", .globalImplicit), (PySem.Str.ofString "size", .cell)], isGenerator := false, isCoroutine := false } : Scope)) (by decide +kernel)) (fun _ _ _ _ _ => (pg_name (i := 3) sc_Matrix_eye.nd rfl (Or.inl rfl))) (fun _ _ _ _ _ => pts_nil) (fun _ _ _ _ _ => (pe_cut (pe_ifExp (pt_cmpR op_eq (pv 3) (pv 2) (nomark _)) pe_int pe_int))))) pa_nil)))))) pa_nil)) pa_nil))))), ?_⟩
    refine ⟨_, rfl, x, o, rfl, hx, _, rfl, ?_⟩
    cases z' : szB o with
    | false => exact iteT ⟨_, rfl, _, rfl, fun d H' s n e' => (kr z') d H' s n e'⟩
    | true =>
    refine iteF ?_
    obtain ⟨n, rfl, n0⟩ := szB_pos z'
    obtain ⟨n1, k⟩ := k n rfl n0
    cases (show x = .int (n : Int) from hx)
    refine ⟨rfl, _, rfl, (n : Int), rfl, by omega, by omega, fun D hD => ?_⟩
    have hc0 : ((n : Nat) : Int).toNat = n := by omega
    rw [hc0]
    refine lc_same (walk_range (lo := 0) (n := n)) hD (by omega) (fun i y G => Rw (NumAt C) G y n (qv eyeI 1 i)) (fun i y G G' h s => h.same (num_mono C) s) (fun G s => trivial) yfn_same (fun i y H1 H1' hi s1 nD hy => ?_) fun ys H1 hl1 s1 e1 h1 => ?_
    · obtain ⟨rfl, rfl⟩ := hy
      refine ⟨_, fun _ h => h, wipe_one, ?_⟩
      refine ⟨_, rfl, (n : Int), rfl, by omega, by omega, fun D2 hD2 => ?_⟩
      rw [hc0]
      refine lc_same (walk_range (lo := 0) (n := n)) hD2 (by omega) (fun j y G => NumAt C G y (qv eyeI 1 i j)) (fun j y G G' h s => h.same s) (fun G s => trivial) yfn_same (fun j y H2 H2' hj s2 _ hy => ?_) fun ys2 H2 hl2 s2 e2 h2 => ?_
      · obtain ⟨rfl, rfl⟩ := hy
        refine ⟨_, fun _ h => h, wipe_one, ?_⟩
        refine ⟨_, rfl, _, rfl, rfl, _, rfl, ?_⟩
        refine ite2 (fun z => ?_) (fun z => ?_)
        · have ij : i = j := by have := of_decide_eq_true z; have := V.int.inj this; omega
          exact ⟨Same.refl _, fun _ => .inr ⟨1, rfl, by unfold qv eyeI; rw [if_pos ij]⟩⟩
        · have ij : ¬ i = j := fun e => z (decide_eq_true (by rw [e]))
          exact ⟨Same.refl _, fun _ => .inr ⟨0, rfl, by unfold qv eyeI; rw [if_neg ij]⟩⟩
      · refine ⟨D2, ys2, rfl, .inl ⟨SqL.of e2, fun T2 hT2 => ⟨MG.Same.new s2 hT2, fun ⟨l, hl⟩ => ?_⟩⟩⟩
        exact (rw_new (num_mono C) (hid_same D2 H2) hT2 hl2 h2).hid (num_mono C) hl
    refine ⟨D, ys, rfl, .inl ⟨SqL.of e1, fun T7 hT7 => ?_⟩⟩
    exact make_num (tb_new (num_mono C) (hid_same D H1) hT7 hl1 h1) ⟨n0, by omega, n0, by omega⟩ fun m H' _ s h => k m H' ((MG.Same.new s1 hT7).trans s) h
end
end Lw

namespace Lw
open PySem PySem.Spec PyProof.Rows L2 MG TL
section
variable {P : Program} {w : World} {K : PySem.W.Frag} {mg : Str → Option Value} {base : Heap} {C CM CZ CI : Addr}
def spZeroX (K : PySem.W.Frag) (C CM CZ : Addr) : Sp := fun vs H Q E => ∃ (x y : V) (o p : Option Int), vs = [.ref CM, x, y] ∧ IntOr K H x o ∧ IntOr K H y p ∧ (szB o = false → Rsd CZ H x E) ∧ (szB o = true → szB p = false → Rsd CZ H y E) ∧
  ∀ n m : Nat, o = some (n : Int) → p = some (m : Int) → 0 < n → 0 < m → n ≤ 100 ∧ m ≤ 100 ∧ ∀ a H', Same H H' → MtAt C CM H' a n m (qv zerI 1) → Q (.ref a) H'
theorem sc_Matrix_zero : FnScope ["cls", "rows", "columns", "given"] ["cls", "rows", "columns"] (defScope s_Matrix_zero) := ⟨rfl, rfl, rfl, by decide +kernel, rfl, by decide +kernel, by decide +kernel⟩
theorem ok_zerox {f : Addr} {fd : FuncData} (F : Fun K "zero" "Matrix.zero" s_Matrix_zero f fd) (T : TxM K mg C CM) (c_issz : IsSzA P w K mg base) (x_siz : XzC P w K mg base CZ) (m_mat : MatC P w K mg base C CM) : FnOk P w K mg base (L2N.CX P w) 10 f fd ["cls", "rows", "columns"] (spZeroX K C CM CZ) := by
  refine fun_okN F sc_Matrix_zero (fun vs H Q E h => ?_) (fun cdv A outer s H vs Q E hr h => ?_)
  · obtain ⟨x, y, o, p, rfl, _⟩ := h
    rfl
  · obtain ⟨x, y, o, p, rfl, hx, hy, k1, k2, k⟩ := h
    refine ⟨_, (pss_cons (ps_for (passes_of rfl) rfl (pi_tupK (K := K) (pe_tup (pa_cons (pv 1) (pa_cons (pv 2) pa_nil)))) (pg_name (i := 3) sc_Matrix_zero.nd rfl (Or.inl rfl))
  (pss_one (ps_if (pt_not (pt_val (pe_cf c_issz hr (by decide) rfl (pa_cons (pv 3) pa_nil)))) (pss_one (ps_raiseX x_siz hr (by decide) rfl (L2N.takes_of rfl rfl rfl rfl) rfl (pa_cons (pv 3) pa_nil)))
  pss_nil)))
  (pss_one (ps_ret (pe_mkL (i := 0) m_mat hr (by decide) rfl (Or.inl rfl) (pa_cons (pe_op (op_repTA (K := K)) (pe_tup (pa_cons (pe_op (op_repTA (K := K)) (pe_tup (pa_cons pe_int pa_nil)) (pv 2)) pa_nil)) (pv 1)) pa_nil))))), ?_⟩
    refine ⟨_, rfl, _, rfl, by show 2 ≤ sizeLine; decide, fun t ht => ?_⟩
    have e0 : (upd H t (.tup [x, y])) t = some (.tup [x, y]) := upd_same
    have s0 := MG.Same.new (o := .tup [x, y]) (Same.refl H) ht
    refine ⟨t, rfl, ⟨_, SqT.of e0⟩, ?_⟩
    refine for_tup (K := K) (a := t) (xs := [x, y]) (fun i σ G => G = upd H t (.tup [x, y]) ∧ (0 < i → szB o = true) ∧ (1 < i → szB p = true) ∧ ∃ v, σ = [some (.ref CM), some x, some y, v]) ⟨rfl, nofun, nofun, none, rfl⟩ ?_ ?_ ?_
    · rintro i σ G _ ⟨rfl, _⟩
      exact SqT.of e0
    · rintro i z σ G hz ⟨rfl, g1, g2, v, rfl⟩
      match i, hz with
      | 0, hz =>
        obtain rfl : x = z := Option.some.inj hz
        refine ⟨_, rfl, x, o, rfl, hx.same s0, _, rfl, ?_⟩
        cases e : szB o with
        | false => exact iteT ⟨_, rfl, _, rfl, fun d H' s n e' => (k1 e).same s0 d H' s n e'⟩
        | true => exact iteF ⟨rfl, fun _ => rfl, fun q => by omega, _, rfl⟩
      | 1, hz =>
        obtain rfl : y = z := Option.some.inj hz
        refine ⟨_, rfl, y, p, rfl, hy.same s0, _, rfl, ?_⟩
        have g1' := g1 (by omega)
        cases e : szB p with
        | false => exact iteT ⟨_, rfl, _, rfl, fun d H' s n e' => (k2 g1' e).same s0 d H' s n e'⟩
        | true => exact iteF ⟨rfl, fun _ => g1', fun _ => rfl, _, rfl⟩
    · rintro σ G ⟨rfl, g1, g2, v, rfl⟩
      obtain ⟨n, rfl, n0⟩ := szB_pos (g1 (by show 0 < 2; decide))
      obtain ⟨m, rfl, m0⟩ := szB_pos (g2 (by show 1 < 2; decide))
      obtain ⟨n1, m1, k⟩ := k n m rfl rfl n0 m0
      cases (show x = .int (n : Int) from hx)
      cases (show y = .int (m : Int) from hy)
      refine ⟨rfl, by show 1 ≤ sizeLine; decide, fun p1 hp1 => ?_⟩
      generalize upd H t (.tup [.int (n : Int), .int (m : Int)]) = G at *
      have e1 : (upd G p1 (.tup [.int 0])) p1 = some (.tup [.int 0]) := upd_same
      have s2 := MG.Same.new (o := .tup [.int 0]) s0 hp1
      generalize upd G p1 (.tup [.int 0]) = G1 at *
      refine ⟨_, rfl, rep_all e1 m0 (by omega) fun p2 G2 s3 e2 => ⟨by show 1 ≤ sizeLine; decide, fun p3 hp3 => ?_⟩⟩
      have e3 : (upd G2 p3 (.tup [.ref p2])) p3 = some (.tup [.ref p2]) := upd_same
      have s4 := MG.Same.new (o := .tup [.ref p2]) (Same.refl G2) hp3
      have e2' := s4 _ _ e2
      have s5 := (s2.trans s3).trans s4
      generalize upd G2 p3 (.tup [.ref p2]) = G3 at *
      refine ⟨_, rfl, rep_all e3 n0 (by omega) fun p4 G4 s6 e4 => ?_⟩
      have tb : Tb (NumAt C) G4 p4 n m (qv zerI 1) := by
        refine ⟨_, e4, by simp, fun i x hx => ?_⟩
        have ex := List.mem_replicate.mp (List.mem_of_getElem? hx)
        refine ⟨p2, _, ex.2, s6 _ _ e2', by simp, fun j y hy => ?_⟩
        have ey := List.mem_replicate.mp (List.mem_of_getElem? hy)
        exact .inr ⟨0, ey.2, rfl⟩
      exact make_num tb ⟨n0, by omega, m0, by omega⟩ fun a H' _ s h => k a H' ((s5.trans s6).trans s) h
/-! ### Matrix.__getitem__ -/
def spMGetX (K : PySem.W.Frag) (C CM CI : Addr) : Sp := fun vs H Q E => ∃ (a : Addr) (y : V) (r c : Nat) (f : Nat → Nat → Rat), vs = [.ref a, y] ∧ MtAt C CM H a r c f ∧ 0 < r ∧
  ((NotT K H y ∧ Rsd CI H y E) ∨ ∃ (t : Addr) (xs : List V), y = .ref t ∧ H t = some (.tup xs) ∧ (xs.length ≠ 2 → Rsd CI H y E) ∧ ∀ x1 x2, xs = [x1, x2] → ∃ o p, IntOr K H x1 o ∧ IntOr K H x2 p ∧
    ((ixB r o && ixB c p) = false → Rsd CI H y E) ∧ ∀ i j : Nat, o = some (i : Int) → p = some (j : Int) → i < r → j < c → ∀ b, RatAt C H b (f i j) → Q (.ref b) H)
theorem ok_mgetx {f : Addr} {fd : FuncData} (F : Fun K "__getitem__" "Matrix.__getitem__" s_Matrix___getitem__ f fd) (T : TxM K mg C CM) (x_ixe : XiC P w K mg base CI) (c_isix : IsIxA P w K mg base) (pm_rows : RowsC P w K mg base C CM) (pm_columns : ColumnsC P w K mg base C CM) : FnOk P w K mg base (L2N.CX P w) 8 f fd ["self", "at"] (spMGetX K C CM CI) := by
  refine fun_okN F sc_Matrix___getitem__ (fun vs H Q E h => ?_) (fun cdv A outer s H vs Q E hr h => ?_)
  · obtain ⟨a, y, r, c, f, rfl, _⟩ := h
    rfl
  · obtain ⟨a, y, r, c, f, rfl, hM, r0, hy⟩ := h
    refine ⟨_, (pss_cons (ps_if (pt_not (PW.pt (pw_and (pt_val (pe_callB (id := "isinstance") (call_isiK (K := K)) (by rfl) T.b_isinstance (by decide +kernel) (pa_cons (pv 1) (pa_cons (pe_bltn (v := V.ty "tuple") (u := Value.type "tuple") (by rfl) T.b_tuple (by decide +kernel) rfl) pa_nil)))) (pw_and1 (pt_cmpR op_eq (pe_callB (id := "len") (call_len_seqK (K := K)) (by rfl) T.b_len (by decide +kernel) (pa_cons (pv 1) pa_nil)) pe_int (nomark _)))))) (pss_one (ps_raiseX x_ixe hr (by decide) rfl (L2N.takes_of rfl rfl rfl rfl) rfl (pa_cons (pv 1) pa_nil)))
  pss_nil)
  (pss_cons (ps_if (pt_not (PW.pt (pw_and (pt_val (pe_cf c_isix hr (by decide) rfl (pa_cons (pe_ix (ix_tupK (K := K)) (pv 1) pe_int (fun _ _ => rfl)) (pa_cons (pe_pf pm_rows T.clM hr (by decide) (pv 0) rfl) pa_nil)))) (pw_and1 (pt_val (pe_cf c_isix hr (by decide) rfl (pa_cons (pe_ix (ix_tupK (K := K)) (pv 1) pe_int (fun _ _ => rfl)) (pa_cons (pe_pf pm_columns T.clM hr (by decide) (pv 0) rfl) pa_nil)))))))) (pss_one (ps_raiseX x_ixe hr (by decide) rfl (L2N.takes_of rfl rfl rfl rfl) rfl (pa_cons (pv 1) pa_nil)))
  pss_nil)
  (pss_one (ps_ret (pe_ix (ix_tupK (K := K)) (pe_ix (ix_tupK (K := K)) (pe_fldK (K := K) (pv 0) rfl) (pe_ix (ix_tupK (K := K)) (pv 1) pe_int (fun _ _ => rfl)) (fun _ _ => rfl)) (pe_ix (ix_tupK (K := K)) (pv 1) pe_int (fun _ _ => rfl)) (fun _ _ => rfl)))))), ?_⟩
    obtain ⟨dx, tt, ea, rs, et, hl, hrow⟩ := id hM
    rcases hy with ⟨⟨ty, tx, kt⟩, kr⟩ | ⟨t, xs, rfl, ht, kl, k⟩
    · refine ⟨_, rfl, y, _, ty, _, false, rfl, .ty "tuple", tx, kt, _, rfl, iteF ?_⟩
      exact ifT rfl ⟨_, rfl, _, rfl, fun d H' s n e => kr d H' s n e⟩
    refine ⟨_, rfl, _, _, _, _, true, rfl, .ty "tuple", .base (.tup ht), kit_ty (by decide +kernel), _, rfl, iteT ?_⟩
    refine ⟨_, rfl, t, _, rfl, .inr (SqT.of ht), rfl, _, rfl, ?_⟩
    by_cases l2 : xs.length = 2
    case neg =>
      refine ifT ?_ ⟨_, rfl, _, rfl, fun d H' s n e => kl l2 d H' s n e⟩
      show (!decide (V.int (xs.length : Int) = V.int 2)) = true
      rw [decide_eq_false (fun e => l2 (by have := V.int.inj e; omega))]
      rfl
    case pos =>
    match xs, l2, ht, k with
    | [x1, x2], _, ht, k =>
      obtain ⟨o, p, h1, h2, kr, k3⟩ := k x1 x2 rfl
      refine ifF rfl ?_
      refine ⟨_, rfl, t, _, _, _, rfl, rfl, SqT.of ht, rfl, ?_⟩
      refine ⟨_, rfl, a, dx, _, rfl, ea, a, r, c, f, rfl, hM, x1, o, r, rfl, h1, _, rfl, ?_⟩
      cases e1 : ixB r o with
      | false => exact iteF (ifT rfl ⟨_, rfl, _, rfl, fun d H' s n e => kr (by rw [e1]; rfl) d H' s n e⟩)
      | true =>
      refine iteT ?_
      refine ⟨_, rfl, t, _, _, _, rfl, rfl, SqT.of ht, rfl, ?_⟩
      refine ⟨_, rfl, a, dx, _, rfl, ea, a, r, c, f, rfl, hM, r0, x2, p, c, rfl, h2, _, rfl, ?_⟩
      cases e2 : ixB c p with
      | false => exact ifT rfl ⟨_, rfl, _, rfl, fun d H' s n e => kr (by rw [e1, e2]; rfl) d H' s n e⟩
      | true =>
      refine ifF rfl ?_
      obtain ⟨i, rfl, hi⟩ := ixB_pos e1
      obtain ⟨j, rfl, hj⟩ := ixB_pos e2
      cases (show x1 = .int (i : Int) from h1)
      cases (show x2 = .int (j : Int) from h2)
      have h0 : rs[i]? = some rs[i] := List.getElem?_eq_getElem (by omega)
      obtain ⟨p, xs, e, hp, hxl, hc⟩ := hrow i _ h0
      have h1 : xs[j]? = some xs[j] := List.getElem?_eq_getElem (by omega)
      obtain ⟨b, e2, hb⟩ := hc j _ h1
      refine ⟨_, rfl, a, CM, dx, _, _, rfl, ea, T.clM, T.nE, mfl_at tt, _, rfl, t, _, _, _, rfl, rfl, SqT.of ht, rfl, tt, _, _, _, rfl, rfl, SqT.of et, atI_nat h0, ?_⟩
      rw [e]
      refine ⟨_, rfl, t, _, _, _, rfl, rfl, SqT.of ht, rfl, p, _, _, _, rfl, rfl, SqT.of hp, atI_nat h1, ?_⟩
      rw [e2]
      exact k3 i j rfl rfl hi hj b hb
/-! ### the law's is_size, eye, zeros -/
theorem sc__law_is_size : FnScope ["_law_thing"] ["_law_thing"] (defScope s__law_is_size) := ⟨rfl, rfl, rfl, by decide +kernel, rfl, by decide +kernel, by decide +kernel⟩
theorem ok_lsize {f : Addr} {fd : FuncData} (F : Fun K "_law_is_size" "_law_is_size" s__law_is_size f fd) (c_lwhole : LWC P w K mg base) : FnG P w K mg base CX0 4 f fd ["_law_thing"] (spIsSzA K) := by
  refine fun_okG F sc__law_is_size (fun vs H Q E h => ?_) (fun cdv A outer s H vs Q E bare hr h => ?_)
  · obtain ⟨x, o, rfl, _⟩ := h
    rfl
  · obtain ⟨x, o, rfl, hx, k⟩ := h
    refine ⟨_, (pss_one (ps_ret (pe_and (pe_cg c_lwhole bare hr (by decide) rfl (pa_cons (pv 0) pa_nil)) (pe_one (pe_cmpR op_gt (pv 0) pe_int (nomark _)))))), ?_⟩
    refine ⟨_, rfl, x, _, rfl, hx.whole, _, rfl, ?_⟩
    cases o with
    | none => exact iteF k
    | some i =>
      cases (show x = .int i from hx)
      refine iteT ⟨_, rfl, _, _, rfl, rfl, ?_⟩
      have e : decide (i > 0) = szB (some i) := by
        show _ = decide (1 ≤ i)
        rw [decide_eq_decide]
        omega
      show Q (.bl (decide (i > 0))) H
      rw [e]
      exact k
abbrev LSizeC (P : Program) (w : World) (K : PySem.W.Frag) (mg : Str → Option Value) (base : Heap) : Prop := CalG P w K mg base 4 "_law_is_size" (spIsSzA K) []
def spLEye : Sp := fun vs H Q _ => ∃ n : Nat, vs = [.int n] ∧ n ≤ 1000 ∧ ∀ t H', Same H H' → PrAt H' t n n eyeI 1 → Q (.ref t) H'
theorem sc__law_eye : FnScope ["_law_many", "_law_i", "_law_j"] ["_law_many"] (defScope s__law_eye) := ⟨rfl, rfl, rfl, by decide +kernel, rfl, by decide +kernel, by decide +kernel⟩
theorem ok_leye {f : Addr} {fd : FuncData} (F : Fun K "_law_eye" "_law_eye" s__law_eye f fd) (T : Blt mg) : FnG P w K mg base CX0 2 f fd ["_law_many"] spLEye := by
  refine fun_okG F sc__law_eye (fun vs H Q E h => ?_) (fun cdv A outer s H vs Q E bare hr h => ?_)
  · obtain ⟨n, rfl, _⟩ := h
    rfl
  · obtain ⟨n, rfl, n1, k⟩ := h
    refine ⟨_, (pss_one (ps_ret (pe_tup (pa_cons (pe_lcI (pe_lc (own := [("_law_i", 1)]) rfl sc__law_eye.nd (pi_range1 (by rfl) T.b_range (pa_cons (pv 0) pa_nil)) (blkOk_by (N := ["_law_many", "_law_i", "_law_j"]) (sc := (defScope s__law_eye)) (by decide +kernel)) (fun _ _ _ _ _ => (pg_name (i := 1) sc__law_eye.nd rfl (Or.inr rfl))) (fun _ _ _ _ _ => pts_nil) (fun _ _ _ _ _ => (pe_cut (pe_lcI (pe_lc (own := [("_law_j", 2)]) rfl sc__law_eye.nd (pi_range1 (by rfl) T.b_range (pa_cons (pv 0) pa_nil)) (blkOk_by (N := ["_law_many", "_law_i", "_law_j"]) (sc := ({ kind := .function, names := [(PySem.Str.ofString ".0", .local), (PySem.Str.ofString "_law_i", .cell), (PySem.Str.ofString "range", .globalImplicit), (PySem.Str.ofString "_law_many", .cell)], isGenerator := false, isCoroutine := false } : Scope)) (by decide +kernel)) (fun _ _ _ _ _ => (pg_name (i := 2) sc__law_eye.nd rfl (Or.inl rfl))) (fun _ _ _ _ _ => pts_nil) (fun _ _ _ _ _ => (pe_cut (pe_callTy call_int1 (by rfl) T.b_int (by decide +kernel) (pa_cons (pe_cmpR op_eq (pv 1) (pv 2) (nomark _)) pa_nil)))))))))) (pa_cons pe_int pa_nil))))), ?_⟩
    have hc0 : ((n : Nat) : Int).toNat = n := by omega
    refine ⟨_, rfl, (n : Int), rfl, by omega, by omega, fun D hD => ?_⟩
    rw [hc0]
    refine lc_same (walk_range (lo := 0) (n := n)) hD (by omega) (RowR n eyeI) rowR_same (fun G s => trivial) yfn_same (fun i y H1 H1' hi s1 nD hy => ?_) fun ys H1 hl1 s1 e1 h1 => ?_
    · obtain ⟨rfl, rfl⟩ := hy
      refine ⟨_, fun _ h => h, wipe_one, ?_⟩
      refine ⟨_, rfl, (n : Int), rfl, by omega, by omega, fun D2 hD2 => ?_⟩
      rw [hc0]
      refine lc_same (walk_range (lo := 0) (n := n)) hD2 (by omega) (fun j y _ => y = .int (eyeI i j)) (fun _ _ _ _ h _ => h) (fun G s => trivial) yfn_same (fun j x H2 H2' hj s2 _ hy => ?_) fun ys2 H2 hl2 s2 e2 h2 => ?_
      · obtain ⟨rfl, rfl⟩ := hy
        refine ⟨_, fun _ h => h, wipe_one, ?_⟩
        refine ⟨_, rfl, _, rfl, rfl, .inr ⟨_, rfl, Same.refl _, fun _ => ?_⟩⟩
        unfold eyeI
        by_cases e : i = j
        · rw [if_pos e, if_pos (decide_eq_true (by rw [e]))]
        · rw [if_neg e, if_neg (fun z => e (by have := V.int.inj (of_decide_eq_true z); omega))]
      · exact ⟨s2, fun _ => ⟨D2, rfl, row_hid nD hD2 e2 hl2 h2⟩⟩
    refine ⟨by show 2 ≤ sizeLine; decide, fun T2 hT2 => ?_⟩
    have s2 := MG.Same.new (o := .tup [.ref D, .int 1]) (Same.refl H1) hT2
    exact k T2 _ (s1.trans s2) ⟨D, upd_same, (ll_of e1 hl1 h1).same s2⟩
def spLZer : Sp := fun vs H Q _ => ∃ n m : Nat, vs = [.int n, .int m] ∧ n ≤ 1000 ∧ m ≤ 1000 ∧ ∀ t H', Same H H' → PrAt H' t n m zerI 1 → Q (.ref t) H'
theorem sc__law_zeros : FnScope ["_law_high", "_law_broad", "_law_i", "_law_j"] ["_law_high", "_law_broad"] (defScope s__law_zeros) := ⟨rfl, rfl, rfl, by decide +kernel, rfl, by decide +kernel, by decide +kernel⟩
theorem ok_lzer {f : Addr} {fd : FuncData} (F : Fun K "_law_zeros" "_law_zeros" s__law_zeros f fd) (T : Blt mg) : FnG P w K mg base CX0 2 f fd ["_law_high", "_law_broad"] spLZer := by
  refine fun_okG F sc__law_zeros (fun vs H Q E h => ?_) (fun cdv A outer s H vs Q E bare hr h => ?_)
  · obtain ⟨n, m, rfl, _⟩ := h
    rfl
  · obtain ⟨n, m, rfl, n1, m1, k⟩ := h
    refine ⟨_, (pss_one (ps_ret (pe_tup (pa_cons (pe_lcI (pe_lc (own := [("_law_i", 2)]) rfl sc__law_zeros.nd (pi_range1 (by rfl) T.b_range (pa_cons (pv 0) pa_nil)) (blkOk_by (N := ["_law_high", "_law_broad", "_law_i", "_law_j"]) (sc := (defScope s__law_zeros)) (by decide +kernel)) (fun _ _ _ _ _ => (pg_name (i := 2) sc__law_zeros.nd rfl (Or.inl rfl))) (fun _ _ _ _ _ => pts_nil) (fun _ _ _ _ _ => (pe_cut (pe_lcI (pe_lc (own := [("_law_j", 3)]) rfl sc__law_zeros.nd (pi_range1 (by rfl) T.b_range (pa_cons (pv 1) pa_nil)) (blkOk_by (N := ["_law_high", "_law_broad", "_law_i", "_law_j"]) (sc := ({ kind := .function, names := [(PySem.Str.ofString ".0", .local), (PySem.Str.ofString "_law_i", .local), (PySem.Str.ofString "range", .globalImplicit), (PySem.Str.ofString "_law_broad", .cell)], isGenerator := false, isCoroutine := false } : Scope)) (by decide +kernel)) (fun _ _ _ _ _ => (pg_name (i := 3) sc__law_zeros.nd rfl (Or.inl rfl))) (fun _ _ _ _ _ => pts_nil) (fun _ _ _ _ _ => (pe_cut pe_int)))))))) (pa_cons pe_int pa_nil))))), ?_⟩
    have hc0 : ((n : Nat) : Int).toNat = n := by omega
    have hc1 : ((m : Nat) : Int).toNat = m := by omega
    refine ⟨_, rfl, (n : Int), rfl, by omega, by omega, fun D hD => ?_⟩
    rw [hc0]
    refine lc_same (walk_range (lo := 0) (n := n)) hD (by omega) (RowR m zerI) rowR_same (fun G s => trivial) yfn_same (fun i y H1 H1' hi s1 nD hy => ?_) fun ys H1 hl1 s1 e1 h1 => ?_
    · obtain ⟨rfl, rfl⟩ := hy
      refine ⟨_, fun _ h => h, wipe_one, ?_⟩
      refine ⟨_, rfl, (m : Int), rfl, by omega, by omega, fun D2 hD2 => ?_⟩
      rw [hc1]
      refine lc_same (walk_range (lo := 0) (n := m)) hD2 (by omega) (fun j y _ => y = .int (zerI i j)) (fun _ _ _ _ h _ => h) (fun G s => trivial) yfn_same (fun j x H2 H2' hj s2 _ hy => ?_) fun ys2 H2 hl2 s2 e2 h2 => ?_
      · obtain ⟨rfl, rfl⟩ := hy
        refine ⟨_, fun _ h => h, wipe_one, ?_⟩
        exact ⟨Same.refl _, fun _ => rfl⟩
      · exact ⟨s2, fun _ => ⟨D2, rfl, row_hid nD hD2 e2 hl2 h2⟩⟩
    refine ⟨by show 2 ≤ sizeLine; decide, fun T2 hT2 => ?_⟩
    have s2 := MG.Same.new (o := .tup [.ref D, .int 1]) (Same.refl H1) hT2
    exact k T2 _ (s1.trans s2) ⟨D, upd_same, (ll_of e1 hl1 h1).same s2⟩
end
end Lw

namespace Lw
open PySem PySem.Spec PyProof.Rows L2 MG TL
section
variable {P : Program} {w : World} {K : PySem.W.Frag} {mg : Str → Option Value} {base : Heap} {C CM CZ CI : Addr}
/-! ### what a thing is, among ints -/
theorem sh_int {H : Hp} {x : V} {s : Sh} (T : TxR K mg C) (h : ShAt K C H x s) : ∃ o, IntOr K H x o := by
  cases h with
  | num h b n =>
    rcases h with ⟨r, rfl, hr⟩ | ⟨i, rfl, _⟩
    · exact ⟨none, _, false, false, hr.tyx T, T.kI, T.kB, rfl⟩
    · exact ⟨some i, rfl⟩
  | oth h n =>
    obtain ⟨t, b1, b2, h1, h2, h3, h4, _⟩ := h
    exact ⟨none, t, b1, b2, h1, h2, h3, h4⟩
  | tup e l1 l2 h => exact ⟨none, _, false, false, .base (.tup e), kit_ty (by decide +kernel), kit_ty (by decide +kernel), rfl⟩
/-- a thing shown, and its int if it is one -/
structure Vl (K : PySem.W.Frag) (C : Addr) (H : Hp) (x : V) (t : Str) (o : Option Int) : Prop where
  th : ∃ s, Thing K C H x t s 2000 8
  io : IntOr K H x o
theorem Vl.same {H H' : Hp} {x : V} {t : Str} {o : Option Int} (h : Vl K C H x t o) (s : Same H H') : Vl K C H' x t o := ⟨h.th.elim fun z e => ⟨z, e.same s⟩, h.io.same s⟩
theorem vl_of {H : Hp} {x : V} {t : Str} {s : Sh} (T : TxR K mg C) (h : Thing K C H x t s 2000 8) : ∃ o, Vl K C H x t o := (sh_int T h.kd).elim fun o e => ⟨o, ⟨s, h⟩, e⟩
theorem vl_int {H : Hp} {i : Int} (h : i.natAbs < 10 ^ 43) : Vl K C H (.int i) (toString i) (some i) := ⟨⟨_, (thing_int h).le (by decide) (by decide)⟩, rfl⟩
/-! ### _law_size_thing, _law_spot -/
abbrev OddC (P : Program) (w : World) (K : PySem.W.Frag) (mg : Str → Option Value) (base : Heap) (C : Addr) : Prop := CalG P w K mg base 9 "_law_odd" (spOdd K C 3) []
def spSTh (K : PySem.W.Frag) (C : Addr) : Sp := fun vs H Q _ => ∃ (q : Addr) (n : Nat), vs = [.ref q] ∧ QAt H q n ∧ n + 22 ≤ 100000 ∧ ∀ x t o H', Keep q H H' → QAt H' q (n + 22) → Vl K C (hid q (ntb H')) x t o → Q x H'

theorem sc__law_size_thing : FnScope ["_law_q"] ["_law_q"] (defScope s__law_size_thing) := ⟨rfl, rfl, rfl, by decide +kernel, rfl, by decide +kernel, by decide +kernel⟩
theorem ok_sth {f : Addr} {fd : FuncData} (F : Fun K "_law_size_thing" "_law_size_thing" s__law_size_thing f fd) (T : TxR K mg C) (c_draw : DrawC P w K mg base) (c_odd : OddC P w K mg base C) : FnG P w K mg base CX0 12 f fd ["_law_q"] (spSTh K C) := by
  refine fun_okG F sc__law_size_thing (fun vs H Q E h => ?_) (fun cdv A outer s H vs Q E bare hr h => ?_)
  · obtain ⟨q, n, rfl, _⟩ := h
    rfl
  · obtain ⟨q, n, rfl, hq, hn, k⟩ := h
    refine ⟨_, (pss_one (ps_ret (pe_ix (ix_listK (K := K)) (pe_lst (pa_cons (pe_op op_add pe_int (pe_cg c_draw bare hr (by decide) rfl (pa_cons (pv 0) (pa_cons pe_int pa_nil)))) (pa_cons pe_int (pa_cons pe_int (pa_cons (pe_op op_sub (pe_un un_neg pe_int) (pe_cg c_draw bare hr (by decide) rfl (pa_cons (pv 0) (pa_cons pe_int pa_nil)))) (pa_cons (pe_cg c_odd bare hr (by decide) rfl (pa_cons (pv 0) (pa_cons pe_int pa_nil))) pa_nil)))))) (pe_cg c_draw bare hr (by decide) rfl (pa_cons (pv 0) (pa_cons pe_int pa_nil))) (fun _ _ => rfl)))), ?_⟩
    refine ⟨_, rfl, q, 12, n, rfl, hq, by omega, by decide, by decide, fun r1 H1 a1 b1 k1 q1 => ?_⟩
    refine ⟨_, _, rfl, rfl, ?_⟩
    refine ⟨_, rfl, _, rfl, q, 5, n + 1, rfl, q1, by omega, by decide, by decide, fun r2 H2 a2 b2 k2 q2 => ?_⟩
    refine ⟨_, _, rfl, rfl, ?_⟩
    refine ⟨_, rfl, q, n + 2, rfl, q2, by show n + 2 + 19 ≤ 100000; omega, fun x t s H3 k3 q3 h3 => ?_⟩
    refine ⟨by show 5 ≤ sizeLine; decide, fun p hp => ?_⟩
    refine ⟨_, rfl, q, 5, n + 2 + 19, rfl, q3.new hp, by omega, by decide, by decide, fun r4 H4 a4 b4 k4 q4 => ?_⟩
    have np : p ≠ q := q3.ne hp
    have ep := k4 _ _ upd_same np
    have kk := (k1.trans (k2.trans k3)).trans ((Keep.refl.new hp).trans k4)
    have q4' : QAt H4 q (n + 22) := q4
    have hx : Thing K C (hid q (ntb H4)) x t s 2000 8 := (h3.same (hid2_keep ((Keep.refl.new hp).trans k4))).le (by decide) (by decide)
    obtain ⟨o, hv⟩ := vl_of T hx
    have cs : r4 = 0 ∨ r4 = 1 ∨ r4 = 2 ∨ r4 = 3 ∨ r4 = 4 := by omega
    rcases cs with rfl | rfl | rfl | rfl | rfl
    · exact ⟨p, _, _, _, rfl, rfl, SqL.of ep, rfl, k _ _ _ _ kk q4' (vl_int (by omega))⟩
    · exact ⟨p, _, _, _, rfl, rfl, SqL.of ep, rfl, k _ _ _ _ kk q4' (vl_int (by decide))⟩
    · exact ⟨p, _, _, _, rfl, rfl, SqL.of ep, rfl, k _ _ _ _ kk q4' (vl_int (by decide))⟩
    · exact ⟨p, _, _, _, rfl, rfl, SqL.of ep, rfl, k _ _ _ _ kk q4' (vl_int (by omega))⟩
    · exact ⟨p, _, _, _, rfl, rfl, SqL.of ep, rfl, k _ _ _ _ kk q4' hv⟩
abbrev SThC (P : Program) (w : World) (K : PySem.W.Frag) (mg : Str → Option Value) (base : Heap) (C : Addr) : Prop := CalG P w K mg base 12 "_law_size_thing" (spSTh K C) []
def spSpot (K : PySem.W.Frag) (C : Addr) : Sp := fun vs H Q _ => ∃ (q : Addr) (n m : Nat), vs = [.ref q, .int m] ∧ QAt H q n ∧ n + 21 ≤ 100000 ∧ 0 < m ∧ m ≤ 1000 ∧ ∀ x t o H', Keep q H H' → QAt H' q (n + 21) → Vl K C (hid q (ntb H')) x t o → Q x H'
theorem sc__law_spot : FnScope ["_law_q", "_law_many", "_law_some"] ["_law_q", "_law_many"] (defScope s__law_spot) := ⟨rfl, rfl, rfl, by decide +kernel, rfl, by decide +kernel, by decide +kernel⟩
theorem ok_spot {f : Addr} {fd : FuncData} (F : Fun K "_law_spot" "_law_spot" s__law_spot f fd) (T : TxR K mg C) (O : Others K C) (c_draw : DrawC P w K mg base) (c_odd : OddC P w K mg base C) : FnG P w K mg base CX0 12 f fd ["_law_q", "_law_many"] (spSpot K C) := by
  refine fun_okG F sc__law_spot (fun vs H Q E h => ?_) (fun cdv A outer s H vs Q E bare hr h => ?_)
  · obtain ⟨q, n, m, rfl, _⟩ := h
    rfl
  · obtain ⟨q, n, m, rfl, hq, hn, m0, m1, k⟩ := h
    refine ⟨_, (pss_cons (ps_set (i := 2) sc__law_spot.nd rfl (Or.inl rfl) (pe_lst (pa_cons (pe_cg c_draw bare hr (by decide) rfl (pa_cons (pv 0) (pa_cons (pv 1) pa_nil))) (pa_cons (pv 1) (pa_cons (pe_un un_neg pe_int) (pa_cons (pe_op op_sub (pv 1) pe_int) (pa_cons pe_bl (pa_cons (pe_cg c_odd bare hr (by decide) rfl (pa_cons (pv 0) (pa_cons pe_int pa_nil))) pa_nil))))))))
  (pss_one (ps_ret (pe_ix (ix_listK (K := K)) (pv 2) (pe_cg c_draw bare hr (by decide) rfl (pa_cons (pv 0) (pa_cons pe_int pa_nil))) (fun _ _ => rfl))))), ?_⟩
    refine ⟨_, rfl, _, rfl, q, (m : Int), n, rfl, hq, by omega, by omega, by omega, fun r1 H1 a1 b1 k1 q1 => ?_⟩
    refine ⟨_, rfl, _, rfl, _, rfl, _, _, rfl, rfl, ?_⟩
    refine ⟨_, rfl, q, n + 1, rfl, q1, by show n + 1 + 19 ≤ 100000; omega, fun x t s H3 k3 q3 h3 => ?_⟩
    refine ⟨by show 6 ≤ sizeLine; decide, fun p hp => ?_⟩
    refine ⟨_, rfl, _, rfl, q, 6, n + 1 + 19, rfl, q3.new hp, by omega, by decide, by decide, fun r4 H4 a4 b4 k4 q4 => ?_⟩
    have np : p ≠ q := q3.ne hp
    have ep := k4 _ _ upd_same np
    have kk := (k1.trans k3).trans ((Keep.refl.new hp).trans k4)
    have q4' : QAt H4 q (n + 21) := q4
    have hx : Thing K C (hid q (ntb H4)) x t s 2000 8 := (h3.same (hid2_keep ((Keep.refl.new hp).trans k4))).le (by decide) (by decide)
    obtain ⟨o, hv⟩ := vl_of T hx
    have ht : ∃ o, Vl K C (hid q (ntb H4)) (.bl true) "True" o := vl_of T ((thing_bl O true).le (by decide) (by decide))
    obtain ⟨o2, hb⟩ := ht
    have cs : r4 = 0 ∨ r4 = 1 ∨ r4 = 2 ∨ r4 = 3 ∨ r4 = 4 ∨ r4 = 5 := by omega
    rcases cs with rfl | rfl | rfl | rfl | rfl | rfl
    · exact ⟨p, _, _, _, rfl, rfl, SqL.of ep, rfl, k _ _ _ _ kk q4' (vl_int (by omega))⟩
    · exact ⟨p, _, _, _, rfl, rfl, SqL.of ep, rfl, k _ _ _ _ kk q4' (vl_int (by omega))⟩
    · exact ⟨p, _, _, _, rfl, rfl, SqL.of ep, rfl, k _ _ _ _ kk q4' (vl_int (by decide))⟩
    · exact ⟨p, _, _, _, rfl, rfl, SqL.of ep, rfl, k _ _ _ _ kk q4' (vl_int (by omega))⟩
    · exact ⟨p, _, _, _, rfl, rfl, SqL.of ep, rfl, k _ _ _ _ kk q4' hb⟩
    · exact ⟨p, _, _, _, rfl, rfl, SqL.of ep, rfl, k _ _ _ _ kk q4' hv⟩
abbrev SpotC (P : Program) (w : World) (K : PySem.W.Frag) (mg : Str → Option Value) (base : Heap) (C : Addr) : Prop := CalG P w K mg base 12 "_law_spot" (spSpot K C) []
/-! ### what is due -/
def nz (o : Option Int) : Nat := (o.getD 0).toNat
def eyT (o : Option Int) (t : Str) : Str × Str := if szB o = true then (("told" : Str), tabT (nz o) (nz o) (qv eyeI 1)) else (("size" : Str), t)
def zeT (o : Option Int) (t : Str) (p : Option Int) (u : Str) : Str × Str := if szB o = true then (if szB p = true then (("told" : Str), tabT (nz o) (nz p) (qv zerI 1)) else (("size" : Str), u)) else (("size" : Str), t)
theorem bds_eye (n m : Nat) : Bds n m (qv eyeI 1) 300 := fun i j _ _ => by
  unfold qv eyeI
  split
  · exact ⟨by decide, by decide⟩
  · exact ⟨by decide, by decide⟩
theorem bds_zer (n m : Nat) : Bds n m (qv zerI 1) 300 := fun i j _ _ => ⟨by show (Rat.divInt 0 1).num.natAbs < _; decide, by show (Rat.divInt 0 1).den < _; decide⟩
theorem Vl.parts {H H' : Hp} {x : V} {t : Str} {o : Option Int} {j : Nat} (h : Vl K C H x t o) (s : Same H H') (hj : 11 ≤ j) : ∃ as k', Shw K (ownR C) 2 H' as k' x t ∧ t.length ≤ sizeLine ∧ k' + 3 ≤ j := by
  obtain ⟨⟨z, ⟨as, k', h1, h2, h3⟩, h4, _⟩, _⟩ := h
  exact ⟨as, k', shw_same h1 s, Nat.le_trans h4 (by decide), by omega⟩
def spEyeDue (K : PySem.W.Frag) (C : Addr) : Sp := fun vs H Q _ => ∃ (x : V) (t : Str) (o : Option Int), vs = [x] ∧ Vl K C H x t o ∧ (∀ i, o = some i → i ≤ 100) ∧ ∀ p H', Same H H' → H' p = some (.tup (tw (eyT o t))) → Q (.ref p) H'

abbrev LEyeC (P : Program) (w : World) (K : PySem.W.Frag) (mg : Str → Option Value) (base : Heap) : Prop := CalG P w K mg base 2 "_law_eye" spLEye []
abbrev LZerC (P : Program) (w : World) (K : PySem.W.Frag) (mg : Str → Option Value) (base : Heap) : Prop := CalG P w K mg base 2 "_law_zeros" spLZer []
theorem sc__law_eye_due : FnScope ["_law_one"] ["_law_one"] (defScope s__law_eye_due) := ⟨rfl, rfl, rfl, by decide +kernel, rfl, by decide +kernel, by decide +kernel⟩
theorem ok_eyedue {f : Addr} {fd : FuncData} (F : Fun K "_law_eye_due" "_law_eye_due" s__law_eye_due f fd) (T : Blt mg) (d_repr : DunF P w K mg base 2 C "__repr__" (spRepr C)) (c_lsize : LSizeC P w K mg base) (c_eye : LEyeC P w K mg base) (c_mtext : MTextC P w K mg base) : FnG P w K mg base CX0 20 f fd ["_law_one"] (spEyeDue K C) := by
  refine fun_okG F sc__law_eye_due (fun vs H Q E h => ?_) (fun cdv A outer s H vs Q E bare hr h => ?_)
  · obtain ⟨x, t, o, rfl, _⟩ := h
    rfl
  · obtain ⟨x, t, o, rfl, hx, hb, k⟩ := h
    refine ⟨_, (pss_one (ps_ret (pe_ifExp (pt_val (pe_cg c_lsize bare hr (by decide) rfl (pa_cons (pv 0) pa_nil))) (pe_tup (pa_cons pe_str (pa_cons (pe_cg c_mtext bare hr (by decide) rfl (pa_cons (pe_cg c_eye bare hr (by decide) rfl (pa_cons (pv 0) pa_nil)) pa_nil)) pa_nil))) (pe_tup (pa_cons pe_str (pa_cons (pe_callB (id := "repr") (call_reprS (K := K) (own := ownR C) (ownF d_repr) bare hr) (by rfl) T.b_repr (by decide +kernel) (pa_cons (pv 0) pa_nil)) pa_nil)))))), ?_⟩
    refine ⟨_, rfl, x, o, rfl, hx.io, _, rfl, ?_⟩
    unfold eyT at k
    cases e : szB o with
    | false =>
      rw [if_neg (by rw [e]; decide)] at k
      refine iteF ?_
      obtain ⟨as, k', h1, h2, h3⟩ := hx.parts (Same.refl H) (j := 19) (by decide)
      exact ⟨_, rfl, x, as, k', t, rfl, h1, h2, h3, fun H2 s2 => ⟨by show 2 ≤ sizeLine; decide, fun p hp => k p _ (s2.trans (MG.Same.new (Same.refl _) hp)) upd_same⟩⟩
    | true =>
      rw [if_pos e] at k
      refine iteT ?_
      obtain ⟨n, rfl, n0⟩ := szB_pos e
      have n1 := hb n rfl
      cases (show x = .int (n : Int) from hx.io)
      refine ⟨_, rfl, n, rfl, by omega, fun tt H1 s1 hP => ?_⟩
      refine ⟨tt, n, n, eyeI, 1, rfl, hP, by omega, by omega, by decide, sm_lt (k := 2) (by decide) (by decide) (by decide), bds_eye n n, fun H2 s2 => ⟨by show 2 ≤ sizeLine; decide, fun p hp => k p _ ((s1.trans s2).trans (MG.Same.new (Same.refl _) hp)) ?_⟩⟩
      rw [upd_same]
      rfl
abbrev EyeDueC (P : Program) (w : World) (K : PySem.W.Frag) (mg : Str → Option Value) (base : Heap) (C : Addr) : Prop := CalG P w K mg base 20 "_law_eye_due" (spEyeDue K C) []
def spZeroDue (K : PySem.W.Frag) (C : Addr) : Sp := fun vs H Q _ => ∃ (x y : V) (t u : Str) (o r : Option Int), vs = [x, y] ∧ Vl K C H x t o ∧ Vl K C H y u r ∧ (∀ i, o = some i → i ≤ 100) ∧ (∀ i, r = some i → i ≤ 100) ∧ ∀ p H', Same H H' → H' p = some (.tup (tw (zeT o t r u))) → Q (.ref p) H'
theorem sc__law_zero_due : FnScope ["_law_one", "_law_two"] ["_law_one", "_law_two"] (defScope s__law_zero_due) := ⟨rfl, rfl, rfl, by decide +kernel, rfl, by decide +kernel, by decide +kernel⟩
theorem ok_zerodue {f : Addr} {fd : FuncData} (F : Fun K "_law_zero_due" "_law_zero_due" s__law_zero_due f fd) (T : Blt mg) (d_repr : DunF P w K mg base 2 C "__repr__" (spRepr C)) (c_lsize : LSizeC P w K mg base) (c_zeros : LZerC P w K mg base) (c_mtext : MTextC P w K mg base) : FnG P w K mg base CX0 20 f fd ["_law_one", "_law_two"] (spZeroDue K C) := by
  refine fun_okG F sc__law_zero_due (fun vs H Q E h => ?_) (fun cdv A outer s H vs Q E bare hr h => ?_)
  · obtain ⟨x, y, t, u, o, r, rfl, _⟩ := h
    rfl
  · obtain ⟨x, y, t, u, o, r, rfl, hx, hy, hb, hc, k⟩ := h
    refine ⟨_, (pss_cons (ps_if (PW.pt (pw_or (pt_not (pt_val (pe_cg c_lsize bare hr (by decide) rfl (pa_cons (pv 0) pa_nil)))) (pw_or1 (pt_not (pt_val (pe_cg c_lsize bare hr (by decide) rfl (pa_cons (pv 1) pa_nil))))))) (pss_one (ps_ret (pe_tup (pa_cons pe_str (pa_cons (pe_callB (id := "repr") (call_reprS (K := K) (own := ownR C) (ownF d_repr) bare hr) (by rfl) T.b_repr (by decide +kernel) (pa_cons (pe_ifExp (pt_val (pe_cg c_lsize bare hr (by decide) rfl (pa_cons (pv 0) pa_nil))) (pv 1) (pv 0)) pa_nil)) pa_nil)))))
  pss_nil)
  (pss_one (ps_ret (pe_tup (pa_cons pe_str (pa_cons (pe_cg c_mtext bare hr (by decide) rfl (pa_cons (pe_cg c_zeros bare hr (by decide) rfl (pa_cons (pv 0) (pa_cons (pv 1) pa_nil))) pa_nil)) pa_nil)))))), ?_⟩
    refine ⟨_, rfl, x, o, rfl, hx.io, _, rfl, ?_⟩
    unfold zeT at k
    cases e : szB o with
    | false =>
      rw [if_neg (by rw [e]; decide)] at k
      refine ifT rfl ?_
      refine ⟨_, rfl, x, o, rfl, hx.io, _, rfl, ?_⟩
      rw [e]
      refine iteF ?_
      obtain ⟨as, k', h1, h2, h3⟩ := hx.parts (Same.refl H) (j := 19) (by decide)
      exact ⟨_, rfl, x, as, k', t, rfl, h1, h2, h3, fun H2 s2 => ⟨by show 2 ≤ sizeLine; decide, fun p hp => k p _ (s2.trans (MG.Same.new (Same.refl _) hp)) upd_same⟩⟩
    | true =>
      rw [if_pos e] at k
      refine ifF rfl ?_
      refine ⟨_, rfl, y, r, rfl, hy.io, _, rfl, ?_⟩
      cases e2 : szB r with
      | false =>
        rw [if_neg (by rw [e2]; decide)] at k
        refine ifT rfl ?_
        refine ⟨_, rfl, x, o, rfl, hx.io, _, rfl, ?_⟩
        rw [e]
        refine iteT ?_
        obtain ⟨as, k', h1, h2, h3⟩ := hy.parts (Same.refl H) (j := 19) (by decide)
        exact ⟨_, rfl, y, as, k', u, rfl, h1, h2, h3, fun H2 s2 => ⟨by show 2 ≤ sizeLine; decide, fun p hp => k p _ (s2.trans (MG.Same.new (Same.refl _) hp)) upd_same⟩⟩
      | true =>
        rw [if_pos e2] at k
        refine ifF rfl ?_
        obtain ⟨n, rfl, n0⟩ := szB_pos e
        obtain ⟨m, rfl, m0⟩ := szB_pos e2
        have n1 := hb n rfl
        have m1 := hc m rfl
        cases (show x = .int (n : Int) from hx.io)
        cases (show y = .int (m : Int) from hy.io)
        refine ⟨_, rfl, _, rfl, n, m, rfl, by omega, by omega, fun tt H1 s1 hP => ?_⟩
        refine ⟨tt, n, m, zerI, 1, rfl, hP, by omega, by omega, by decide, sm_lt (k := 2) (by decide) (by decide) (by decide), bds_zer n m, fun H2 s2 => ⟨by show 2 ≤ sizeLine; decide, fun p hp => k p _ ((s1.trans s2).trans (MG.Same.new (Same.refl _) hp)) ?_⟩⟩
        rw [upd_same]
        rfl
abbrev ZeroDueC (P : Program) (w : World) (K : PySem.W.Frag) (mg : Str → Option Value) (base : Heap) (C : Addr) : Prop := CalG P w K mg base 20 "_law_zero_due" (spZeroDue K C) []
end
end Lw

namespace Lw
open PySem PySem.Spec PyProof.Rows L2 MG TL LamX
abbrev s__law_asked : Stmt := top 49
section
variable {P : Program} {w : World} {K : PySem.W.Frag} {mg : Str → Option Value} {base : Heap} {C CM CZ CI : Addr}
/-- v's text is t -/
def Good (C CM : Addr) (G : Hp) (v : V) (t : Str) : Prop := (∃ m r c f, v = .ref m ∧ MtAt C CM G m r c f ∧ r ≤ 101 ∧ c ≤ 101 ∧ Bds r c f 300 ∧ t = tabT r c f) ∨ ∃ b p, v = .ref b ∧ RatAt C G b p ∧ Sm p.num ∧ Sm (p.den : Int) ∧ t = dg p
/-- an error of these two classes that was given what is shown as r.2 -/
def Bad (K : PySem.W.Frag) (C CI CZ : Addr) (G : Hp) (cls : Value) (d : Option Addr) (r : Str × Str) : Prop := ∃ dd x, d = some dd ∧ G dd = some (.xd [("given", x)]) ∧ (∃ as k', Shw K (ownR C) 2 G as k' x r.2 ∧ r.2.length ≤ sizeLine ∧ k' + 3 ≤ 19) ∧ ((cls = .ref CI ∧ r.1 = ("index" : Str)) ∨ (cls = .ref CZ ∧ r.1 = ("size" : Str)))
def TAs (K : PySem.W.Frag) (C CM CI CZ : Addr) : (XK → Hp → VK → Prop) → Hp → VK → Prop := fun tl H Q => ∃ r : Str × Str,
  tl (fun cls d G => Bad K C CI CZ G cls d r ∧ ∀ p G', Same G G' → G' p = some (.tup (tw r)) → Q (.ref p) G') H fun v G => Good C CM G v r.2 ∧ r.1 = ("told" : Str) ∧ ∀ p G', Same G G' → G' p = some (.tup (tw r)) → Q (.ref p) G'
theorem sc__law_asked : FnScope ["_law_act", "e"] ["_law_act"] (defScope s__law_asked) := ⟨rfl, rfl, rfl, by decide +kernel, rfl, by decide +kernel, by decide +kernel⟩
theorem asked_gives {X : Cx} {g : Addr} {cdg : Value} {q : Str} {k : Nat} (hk : 20 ≤ k) (bare : Bare X.A) (T : TxM X.K X.mg C CM) (x_ixe : XiC X.prog X.w X.K X.mg X.base CI) (x_siz : XzC X.prog X.w X.K X.mg X.base CZ) (nIZ : PySem.W.exmOne X.K (.ref CZ) (.ref CI) = some false)
    (d_str : DunF X.prog X.w X.K X.mg X.base 2 C "__str__" (spStr C)) (d_mstr : MStrD X.prog X.w X.K X.mg X.base C CM) (d_reprH : OwnH X.prog X.w X.K X.mg X.base (ownR C) 2) :
    GivesN X ["_law_act", "e"] "_law_asked" (defScope s__law_asked) g cdg (defBody s__law_asked) "_law_act" q k (TAs X.K C CM CI CZ) := by
  intro f c s H Q tl hr1 act hc ⟨r, h⟩
  refine ⟨_, pss_one (ps_manyAs_cut (i := 1) (Wz := fun _ _ _ _ => False) rfl rfl sc__law_asked.nd rfl rfl takesN0
    (fun W pn xe tk _ => pss_one (ps_ret (pe_tup (pa_cons pe_str (pa_cons (pe_callTy (cr_or (str_f d_str hr1 (by omega)) (str_f d_mstr hr1 (by omega))) (by rfl) T.b_str (by decide +kernel) (pa_cons (pe_cut (act W pn xe _ _ tk)) pa_nil)) pa_nil)))))
    (.cons ⟨rfl, by decide, .inl x_ixe.g⟩ (fun a oe cls d pn hz hf => pss_one (ps_ret (pe_tup (pa_cons pe_str (pa_cons (pe_callB (id := "repr") (call_reprX (K := X.K) (own := ownR C) (j := 19) (OwnH.at (X := (Cx.nox (cxOf C8.CX0 X.prog X.w X.K X.mg X.base ["_law_act", "e"] "_law_asked" (defScope s__law_asked) g cdg X.A X.stack s H C8.E0)).suite a ((a, oe) :: pn)) d_reprH (hot_of hz hf)) bare ((L2H.roomH_mark hr1 _).mono (by omega))) (by rfl) T.b_repr (by decide +kernel) (pa_cons (pe_xf (C := CI) x_ixe.xf x_ixe.no hz.zc hf (pv 1)) pa_nil)) pa_nil)))))
    (.cons ⟨rfl, by decide, .inl x_siz.g⟩ (fun a oe cls d pn hz hf => pss_one (ps_ret (pe_tup (pa_cons pe_str (pa_cons (pe_callB (id := "repr") (call_reprX (K := X.K) (own := ownR C) (j := 19) (OwnH.at (X := (Cx.nox (cxOf C8.CX0 X.prog X.w X.K X.mg X.base ["_law_act", "e"] "_law_asked" (defScope s__law_asked) g cdg X.A X.stack s H C8.E0)).suite a ((a, oe) :: pn)) d_reprH (hot_of hz hf)) bare ((L2H.roomH_mark hr1 _).mono (by omega))) (by rfl) T.b_repr (by decide +kernel) (pa_cons (pe_xf (C := CZ) x_siz.xf x_siz.no hz.zc hf (pv 1)) pa_nil)) pa_nil)))))
    .nil))), ?_⟩
  refine ⟨fun cls d _ G => Bad X.K C CI CZ G cls d r ∧ ∀ p G', Same G G' → G' p = some (.tup (tw r)) → Q (.ref p) G', ?_, ?_⟩
  · rintro cls d τ G ⟨⟨dd, x, rfl, ed, ⟨as, k', sh, ln, hk'⟩, ho⟩, kq⟩
    rcases ho with ⟨rfl, e1⟩ | ⟨rfl, e1⟩
    · refine ⟨true, x_ixe.te, fun _ a ha hl => ?_, fun q => Bool.noConfusion q⟩
      refine ⟨_, List.getElem?_set_self (show 1 < τ.length by rw [hl]; exact (show 1 < 2 by decide)), rfl, rfl, dd, _, _, rfl, ed, by simp [List.lookup], x, as, k', r.2, rfl, sh, ln, hk', fun H2 s2 => ⟨by show 2 ≤ sizeLine; decide, fun p hp => ?_⟩⟩
      refine kq p _ (s2.trans (MG.Same.new (Same.refl _) hp)) ?_
      rw [upd_same]
      unfold tw
      rw [e1]
    · refine ⟨false, nIZ, fun q => Bool.noConfusion q, fun _ => ⟨true, x_siz.te, fun _ a ha hl => ?_, fun q => Bool.noConfusion q⟩⟩
      refine ⟨_, List.getElem?_set_self (show 1 < τ.length by rw [hl]; exact (show 1 < 2 by decide)), rfl, rfl, dd, _, _, rfl, ed, by simp [List.lookup], x, as, k', r.2, rfl, sh, ln, hk', fun H2 s2 => ⟨by show 2 ≤ sizeLine; decide, fun p hp => ?_⟩⟩
      refine kq p _ (s2.trans (MG.Same.new (Same.refl _) hp)) ?_
      rw [upd_same]
      unfold tw
      rw [e1]
  · refine ⟨_, ⟨rfl, hc, h⟩, ?_⟩
    rintro v G ⟨gd, e1, kq⟩
    rcases gd with ⟨m, rr, c, f, rfl, hM, r1, c1, bd, e2⟩ | ⟨b, p, rfl, hR, sn, sd, e2⟩
    · obtain ⟨dx, t, ea, _⟩ := id hM
      refine .inr ⟨m, dx, _, rfl, ea, m, rr, c, f, rfl, hM, r1, c1, bd, fun H3 s3 => ⟨_, rfl, by show 2 ≤ sizeLine; decide, fun p hp => ?_⟩⟩
      refine kq p _ (s3.trans (MG.Same.new (Same.refl _) hp)) ?_
      rw [upd_same]
      unfold tw
      rw [e1, e2]
    · obtain ⟨dx, ea⟩ := id hR
      refine .inl ⟨b, dx, _, rfl, ea, b, p, rfl, hR, sn, sd, _, rfl, by show 2 ≤ sizeLine; decide, fun p hp => ?_⟩
      refine kq p _ (MG.Same.new (Same.refl _) hp) ?_
      rw [upd_same]
      unfold tw
      rw [e1, e2]
end
end Lw

namespace Lw
open PySem PySem.Spec PyProof.Rows L2 MG TL LamX
section
variable {P : Program} {w : World} {K : PySem.W.Frag} {mg : Str → Option Value} {base : Heap} {C CM CZ CI : Addr}
theorem szB_some {n : Nat} (h : 0 < n) : szB (some (n : Int)) = true := decide_eq_true (by omega)
/-! ### what the three questions are answered -/
theorem as_eye {H : Hp} {R : Addr → Hp → Prop} {x : V} {t : Str} {o : Option Int} (hv : Vl K C H x t o) (hb : ∀ i, o = some i → i ≤ 100) (k : ∀ p G, Same H G → G p = some (.tup (tw (eyT o t))) → R p G) :
    spEyeX K C CM CZ [.ref CM, x] H (fun v G => Good C CM G v (eyT o t).2 ∧ (eyT o t).1 = ("told" : Str) ∧ ∀ p G', Same G G' → G' p = some (.tup (tw (eyT o t))) → R p G')
      (fun cls d G => Bad K C CI CZ G cls d (eyT o t) ∧ ∀ p G', Same G G' → G' p = some (.tup (tw (eyT o t))) → R p G') := by
  refine ⟨x, o, rfl, hv.io, fun z d H' s n e => ⟨⟨d, x, rfl, e, ?_, .inr ⟨rfl, ?_⟩⟩, fun p G' s' e' => k p G' (s.trans s') e'⟩, fun n e n0 => ⟨?_, fun m H' s hM => ⟨.inl ⟨m, n, n, _, rfl, hM, ?_, ?_, bds_eye n n, ?_⟩, ?_, fun p G' s' e' => k p G' (s.trans s') e'⟩⟩⟩
  · unfold eyT
    rw [if_neg (by rw [z]; decide)]
    exact hv.parts s (by decide)
  · unfold eyT
    rw [if_neg (by rw [z]; decide)]
  · have := hb n e; omega
  · have := hb n e; omega
  · have := hb n e; omega
  · subst e
    unfold eyT
    rw [if_pos (szB_some n0)]
    rfl
  · subst e
    unfold eyT
    rw [if_pos (szB_some n0)]
theorem as_zero {H : Hp} {R : Addr → Hp → Prop} {x y : V} {t u : Str} {o r : Option Int} (hv : Vl K C H x t o) (hw : Vl K C H y u r) (hb : ∀ i, o = some i → i ≤ 100) (hc : ∀ i, r = some i → i ≤ 100) (k : ∀ p G, Same H G → G p = some (.tup (tw (zeT o t r u))) → R p G) :
    spZeroX K C CM CZ [.ref CM, x, y] H (fun v G => Good C CM G v (zeT o t r u).2 ∧ (zeT o t r u).1 = ("told" : Str) ∧ ∀ p G', Same G G' → G' p = some (.tup (tw (zeT o t r u))) → R p G')
      (fun cls d G => Bad K C CI CZ G cls d (zeT o t r u) ∧ ∀ p G', Same G G' → G' p = some (.tup (tw (zeT o t r u))) → R p G') := by
  refine ⟨x, y, o, r, rfl, hv.io, hw.io, fun z d H' s n e => ⟨⟨d, x, rfl, e, ?_, .inr ⟨rfl, ?_⟩⟩, fun p G' s' e' => k p G' (s.trans s') e'⟩, fun z0 z d H' s n e => ⟨⟨d, y, rfl, e, ?_, .inr ⟨rfl, ?_⟩⟩, fun p G' s' e' => k p G' (s.trans s') e'⟩,
    fun n m e e2 n0 m0 => ⟨?_, ?_, fun a H' s hM => ⟨.inl ⟨a, n, m, _, rfl, hM, ?_, ?_, bds_zer n m, ?_⟩, ?_, fun p G' s' e' => k p G' (s.trans s') e'⟩⟩⟩
  · unfold zeT
    rw [if_neg (by rw [z]; decide)]
    exact hv.parts s (by decide)
  · unfold zeT
    rw [if_neg (by rw [z]; decide)]
  · unfold zeT
    rw [if_pos z0, if_neg (by rw [z]; decide)]
    exact hw.parts s (by decide)
  · unfold zeT
    rw [if_pos z0, if_neg (by rw [z]; decide)]
  · have := hb n e; omega
  · have := hc m e2; omega
  · have := hb n e; omega
  · have := hc m e2; omega
  · subst e
    subst e2
    unfold zeT
    rw [if_pos (szB_some n0), if_pos (szB_some m0)]
    rfl
  · subst e
    subst e2
    unfold zeT
    rw [if_pos (szB_some n0), if_pos (szB_some m0)]
def giT (r c : Nat) (f : Nat → Nat → Rat) (o p : Option Int) (t : Str) : Str × Str := if (ixB r o && ixB c p) = true then (("told" : Str), dg (f (nz o) (nz p))) else (("index" : Str), t)
/-- a thing of any size that repr shows -/
def Sho (K : PySem.W.Frag) (C : Addr) (H : Hp) (x : V) (t : Str) : Prop := ∃ as k', Shw K (ownR C) 2 H as k' x t ∧ t.length ≤ sizeLine ∧ k' + 3 ≤ 19
theorem Sho.same {H H' : Hp} {x : V} {t : Str} (h : Sho K C H x t) (s : Same H H') : Sho K C H' x t := by
  obtain ⟨as, k', h1, h2⟩ := h
  exact ⟨as, k', shw_same h1 s, h2⟩
theorem Thing.sho {H : Hp} {x : V} {t : Str} {o : Sh} {n k : Nat} (h : Thing K C H x t o n k) (hn : n ≤ 5000000) (hk : k ≤ 16) : Sho K C H x t := h.parts (Same.refl H) hn (by omega)
/-- mine[i, j] -/
theorem as_get {H : Hp} {R : Addr → Hp → Prop} {m a : Addr} {r c : Nat} {f : Nat → Nat → Rat} {x y : V} {tx : Str} {o p : Option Int} (hM : MtAt C CM H m r c f) (r0 : 0 < r) (bd : Bds r c f 300) (ha : H a = some (.tup [x, y])) (hx : IntOr K H x o) (hy : IntOr K H y p) (hs : Sho K C H (.ref a) tx)
    (k : ∀ p' G, Same H G → G p' = some (.tup (tw (giT r c f o p tx))) → R p' G) :
    spMGetX K C CM CI [.ref m, .ref a] H (fun v G => Good C CM G v (giT r c f o p tx).2 ∧ (giT r c f o p tx).1 = ("told" : Str) ∧ ∀ p' G', Same G G' → G' p' = some (.tup (tw (giT r c f o p tx))) → R p' G')
      (fun cls d G => Bad K C CI CZ G cls d (giT r c f o p tx) ∧ ∀ p' G', Same G G' → G' p' = some (.tup (tw (giT r c f o p tx))) → R p' G') := by
  refine ⟨m, .ref a, r, c, f, rfl, hM, r0, .inr ⟨a, _, rfl, ha, fun z => absurd rfl z, fun x1 x2 e => ?_⟩⟩
  cases e
  refine ⟨o, p, hx, hy, fun z d H' s n e => ⟨⟨d, .ref a, rfl, e, ?_, .inl ⟨rfl, ?_⟩⟩, fun p G' s' e' => k p G' (s.trans s') e'⟩, fun i j e1 e2 hi hj b hb => ?_⟩
  · unfold giT
    rw [if_neg (by rw [z]; decide)]
    exact hs.same s
  · unfold giT
    rw [if_neg (by rw [z]; decide)]
  · subst e1
    subst e2
    have b1 := bd i j hi hj
    have e : giT r c f (some (i : Int)) (some (j : Int)) tx = (("told" : Str), dg (f i j)) := by
      unfold giT
      rw [if_pos]
      · rfl
      · show (decide (0 ≤ (i : Int)) && decide ((i : Int) < (r : Int)) && (decide (0 ≤ (j : Int)) && decide ((j : Int) < (c : Int)))) = true
        rw [decide_eq_true (by omega), decide_eq_true (by omega), decide_eq_true (by omega), decide_eq_true (by omega)]
        rfl
    rw [e] at k ⊢
    exact ⟨.inr ⟨b, f i j, rfl, hb, b1.num (by decide), b1.den (by decide), rfl⟩, rfl, k⟩
/-- mine[thing], which is no pair -/
theorem as_odd {H : Hp} {R : Addr → Hp → Prop} {m : Addr} {r c : Nat} {f : Nat → Nat → Rat} {x : V} {tx : Str} (hM : MtAt C CM H m r c f) (r0 : 0 < r) (h2 : NotT K H x ∨ ∃ a xs, x = .ref a ∧ H a = some (.tup xs) ∧ xs.length ≠ 2) (hs : Sho K C H x tx)
    (k : ∀ p' G, Same H G → G p' = some (.tup (tw (("index" : Str), tx))) → R p' G) :
    spMGetX K C CM CI [.ref m, x] H (fun v G => Good C CM G v tx ∧ ("index" : Str) = ("told" : Str) ∧ ∀ p' G', Same G G' → G' p' = some (.tup (tw (("index" : Str), tx))) → R p' G')
      (fun cls d G => Bad K C CI CZ G cls d (("index" : Str), tx) ∧ ∀ p' G', Same G G' → G' p' = some (.tup (tw (("index" : Str), tx))) → R p' G') := by
  have rs : Rsd CI H x (fun cls d G => Bad K C CI CZ G cls d (("index" : Str), tx) ∧ ∀ p' G', Same G G' → G' p' = some (.tup (tw (("index" : Str), tx))) → R p' G') := fun d H' s n e => ⟨⟨d, x, rfl, e, hs.same s, .inl ⟨rfl, rfl⟩⟩, fun p G' s' e' => k p G' (s.trans s') e'⟩
  refine ⟨m, x, r, c, f, rfl, hM, r0, ?_⟩
  rcases h2 with n | ⟨a, xs, e1, e, l⟩
  · exact .inl ⟨n, rs⟩
  · exact .inr ⟨a, xs, e1, e, fun _ => rs, fun x1 x2 z => absurd (by rw [z]; rfl) l⟩
/-! ### heaps without tables, and without the purse -/
theorem QAt.nt {H : Hp} {q : Addr} {n : Nat} (h : QAt H q n) : QAt (ntb H) q n := by
  obtain ⟨c, ns, i, r, t, hq, hc, h⟩ := h
  exact ⟨c, ns, i, r, t, nt_some hq, nt_some hc, h⟩
theorem QAt.lst {H : Hp} {q : Addr} {n : Nat} (h : QAt H q n) : ∃ l, H q = some (.lst l) := by
  obtain ⟨c, ns, i, r, t, hq, _⟩ := h
  exact ⟨_, hq⟩
def Zq (q : Addr) (H : Hp) : Hp := hid q (ntb H)
theorem zq_to {q : Addr} {H : Hp} : Same (Zq q H) H := (hid_same q _).trans nt_same
theorem zq_keep {q : Addr} {H H' : Hp} (k : Keep q H H') : Same (Zq q H) (Zq q H') := hid2_keep k
theorem zq_nt {q : Addr} {H H' : Hp} (s : Same (ntb H) (ntb H')) : Same (Zq q H) (Zq q H') := hid_mono s
theorem zq_of {q : Addr} {H : Hp} {b : Addr} {o : HO} (h : (hid q H) b = some o) (n : ∀ ps, o ≠ .tbl ps := by intro _; nofun) : Zq q H b = some o := by
  have nq : b ≠ q := fun e => by
    rw [e, hid_self] at h
    cases h
  rw [hid_ne nq] at h
  unfold Zq
  rw [hid_ne nq]
  exact nt_some h n
theorem LL.zq {q : Addr} {H : Hp} {L : Addr} {r c : Nat} {A : Nat → Nat → Int} (h : LL (hid q H) L r c A) : LL (Zq q H) L r c A := by
  obtain ⟨rs, e, hl, hr⟩ := h
  exact ⟨rs, zq_of e, hl, fun i x hx => (hr i x hx).elim fun p e => ⟨p, e.1, zq_of e.2⟩⟩
theorem PrAt.zq {q : Addr} {H : Hp} {t : Addr} {r c : Nat} {A : Nat → Nat → Int} {u : Int} (h : PrAt (hid q H) t r c A u) : PrAt (Zq q H) t r c A u := h.elim fun L e => ⟨L, zq_of e.1, e.2.zq⟩
theorem PTab.zq {q : Addr} {H : Hp} {D : Addr} {r c : Nat} {f : Nat → Nat → Rat} (h : PTab (hid q H) D r c f) : PTab (Zq q H) D r c f := by
  obtain ⟨rs, e, hl, hr⟩ := h
  refine ⟨rs, zq_of e, hl, fun i y hy => ?_⟩
  obtain ⟨p, xs, e1, e2, e3, e4⟩ := hr i y hy
  exact ⟨p, xs, e1, zq_of e2, e3, fun j v hv => (e4 j v hv).elim fun T z => ⟨T, z.1, zq_of z.2⟩⟩
theorem ins_ne {H : Hp} {q a D dx : Addr} {n : Nat} {fs : List (Str × V)} (hq : QAt H q n) (e : H a = some (.ins D dx fs)) : a ≠ q := fun z => by
  obtain ⟨l, h⟩ := hq.lst
  rw [z, h] at e
  cases e
theorem MtAt.zq {q : Addr} {H : Hp} {m : Addr} {r c n : Nat} {f : Nat → Nat → Rat} (h : MtAt C CM H m r c f) (hq : QAt H q n) : MtAt C CM (Zq q H) m r c f := by
  obtain ⟨l, hl⟩ := hq.lst
  have tn : ∀ {a : Addr} {xs : List V}, H a = some (.tup xs) → a ≠ q := fun {a xs} e z => by
    rw [z, hl] at e
    cases e
  obtain ⟨dx, t, e, rs, e1, l1, hr⟩ := h
  refine ⟨dx, t, zq_of (by rw [hid_ne (ins_ne hq e)]; exact e), rs, zq_of (by rw [hid_ne (tn e1)]; exact e1), l1, fun i x hx => ?_⟩
  obtain ⟨p, xs, e2, e3, l2, hc⟩ := hr i x hx
  refine ⟨p, xs, e2, zq_of (by rw [hid_ne (tn e3)]; exact e3), l2, fun j y hy => ?_⟩
  obtain ⟨b, e4, d, e5⟩ := hc j y hy
  exact ⟨b, e4, d, zq_of (by rw [hid_ne (ins_ne hq e5)]; exact e5)⟩
theorem tabs_upd {T : List (Addr × Str)} {H : Hp} {l : Addr} {xs : List V} {o : HO} (t : Tabs T H) (e : H l = some (.lst xs)) : Tabs T (upd H l o) := fun p hp => by
  obtain ⟨ps, h1, h2, h3⟩ := t p hp
  have n1 : p.1 ≠ l := fun z => by
    rw [z, e] at h1
    cases h1
  refine ⟨ps, by rw [upd_ne n1]; exact h1, h2, fun pos cv hc => ?_⟩
  obtain ⟨c, e1, e2⟩ := h3 pos cv hc
  have n2 : c ≠ l := fun z => by
    rw [z, e] at e2
    cases e2
  exact ⟨c, e1, by rw [upd_ne n2]; exact e2⟩
theorem nt_upd {H0 H : Hp} {l : Addr} {o : HO} (s : Same (ntb H0) (ntb H)) (n : ntb H0 l = none) : Same (ntb H0) (ntb (upd H l o)) := fun b u h => by
  have nb : b ≠ l := fun z => by
    rw [z, n] at h
    cases h
  have h1 := nt_of (s _ _ h)
  exact nt_some (by rw [upd_ne nb]; exact h1.1) h1.2
theorem tup_upd {H : Hp} {l p : Addr} {xs ys : List V} {o : HO} (e : H l = some (.lst xs)) (h : H p = some (.tup ys)) : (upd H l o) p = some (.tup ys) := by
  have n : p ≠ l := fun z => by
    rw [z, e] at h
    cases h
  rw [upd_ne n]
  exact h
end
end Lw

namespace Lw
open PySem PySem.Spec PyProof.Rows L2 MG TL LamX
/-! ### texts of tables are plain; lists of pairs of texts compared -/
theorem pl_dg (p : Rat) : Pl (dg p) := by
  unfold dg
  split
  · exact pl_int _
  · exact pl_append (pl_append (pl_int _) (pl_of _ (by decide +kernel))) (pl_int _)
theorem pl_tab (r c : Nat) (f : Nat → Nat → Rat) : Pl (tabT r c f) := by
  unfold tabT
  rw [join_eq]
  refine pl_join (pl_of _ (by decide +kernel)) fun t ht => ?_
  obtain ⟨i, hi, rfl⟩ := mem_tab ht
  unfold rowT
  rw [join_eq]
  refine pl_join (pl_of _ (by decide +kernel)) fun t ht => ?_
  obtain ⟨j, hj, rfl⟩ := mem_tab ht
  exact pl_dg _
theorem canAll_of : ∀ {ds : List PyData}, (∀ d ∈ ds, d.canLay0 = true) → PyData.canLayAll0 ds = true
  | [], _ => rfl
  | d :: ds, h => by
    rw [PyData.canLayAll0, h d (by simp), canAll_of fun e he => h e (by simp [he])]
    rfl
theorem nd_self {α : Type} [DecidableEq α] (x : α) : (!decide (x = x)) = false := by rw [decide_eq_true rfl]; rfl
theorem pl_asc {z : Str} (h : Pl z) : Asc z := fun c hc => (h c hc).1
section
variable {P : Program} {w : World} {K : PySem.W.Frag} {mg : Str → Option Value} {base : Heap} {C CM CZ CI : Addr}
theorem ne_tls {H : Hp} {a b : Addr} {xs ys : List V} {n : Nat} {g : Nat → Str × Str} (ha : H a = some (.lst xs)) (hb : H b = some (.lst ys)) (l1 : xs.length = n) (l2 : ys.length = n) (h1 : ∀ (i : Nat) (x : V), xs[i]? = some x → ∃ p, x = .ref p ∧ H p = some (.tup (tw (g i)))) (h2 : ∀ (i : Nat) (x : V), ys[i]? = some x → ∃ p, x = .ref p ∧ H p = some (.tup (tw (g i))))
    (ok : ∀ i, i < n → PyData.strOk (g i).1 = true ∧ PyData.strOk (g i).2 = true) : ∃ d e, Dp K H (.ref a) d ∧ Dp K H (.ref b) e ∧ SeqAt.shaped d = true ∧ SeqAt.shaped e = true ∧ (!PyData.eqv d e) = false := by
  have dp : ∀ {c : Addr} {zs : List V}, H c = some (.lst zs) → zs.length = n → (∀ (i : Nat) (x : V), zs[i]? = some x → ∃ p, x = .ref p ∧ H p = some (.tup (tw (g i)))) → Dp K H (.ref c) (.list ((List.range n).map fun i => .tuple [.str (g i).1, .str (g i).2])) := fun e l h =>
    dp_row e l fun i y hy => by
      obtain ⟨p, rfl, hp⟩ := h i y hy
      exact .tup (SqT.of hp) (.cons (.str _) (.cons (.str _) .nil))
  have sh : SeqAt.shaped (.list ((List.range n).map fun i => .tuple [.str (g i).1, .str (g i).2])) = true := by
    unfold SeqAt.shaped
    rw [Bool.and_eq_true]
    refine ⟨?_, decide_eq_true ?_⟩
    · rw [PyData.canLay0]
      refine canAll_of fun d hd => ?_
      obtain ⟨i, hi, rfl⟩ := List.mem_map.mp hd
      have o := ok i (List.mem_range.mp hi)
      rw [PyData.canLay0]
      refine canAll_of fun d hd => ?_
      simp only [List.mem_cons, List.not_mem_nil, or_false] at hd
      rcases hd with rfl | rfl
      · exact o.1
      · exact o.2
    · have : PyData.depthAll ((List.range n).map fun i => PyData.tuple [.str (g i).1, .str (g i).2]) ≤ 1 := depthAll_le fun d hd => by
        obtain ⟨i, hi, rfl⟩ := List.mem_map.mp hd
        simp [PyData.depth, PyData.depthAll]
      rw [PyData.depth]
      omega
  refine ⟨_, _, dp ha l1 h1, dp hb l2 h2, sh, sh, ?_⟩
  rw [SeqAt.eqv_refl _ (SeqAt.canLay_of_shaped sh)]
  rfl
theorem PTab.at {H : Hp} {D : Addr} {r c : Nat} {f : Nat → Nat → Rat} (h : PTab H D r c f) {i j : Nat} (hi : i < r) (hj : j < c) : ∃ rs p xs T, H D = some (.lst rs) ∧ rs[i]? = some (.ref p) ∧ H p = some (.lst xs) ∧ xs[j]? = some (.ref T) ∧ H T = some (.tup (pr (f i j))) := by
  obtain ⟨rs, e, hl, hr⟩ := h
  have hx : rs[i]? = some rs[i] := List.getElem?_eq_getElem (by omega)
  obtain ⟨p, xs, ep, hp, hxl, hc⟩ := hr i _ hx
  have hy : xs[j]? = some xs[j] := List.getElem?_eq_getElem (by omega)
  obtain ⟨T, eT, hT⟩ := hc j _ hy
  exact ⟨rs, p, xs, T, e, by rw [hx, ep], hp, by rw [hy, eT], hT⟩
/-- two pairs of texts that are the same are not unlike -/
theorem ne_tw {H : Hp} {a b : Addr} {r : Str × Str} (ha : H a = some (.tup (tw r))) (hb : H b = some (.tup (tw r))) (ok : PyData.strOk r.1 = true ∧ PyData.strOk r.2 = true) : ∃ d e, Dp K H (.ref a) d ∧ Dp K H (.ref b) e ∧ SeqAt.shaped d = true ∧ SeqAt.shaped e = true ∧ (!PyData.eqv d e) = false := by
  have dp : ∀ {c : Addr}, H c = some (.tup (tw r)) → Dp K H (.ref c) (.tuple [.str r.1, .str r.2]) := fun e => .tup (SqT.of e) (.cons (.str _) (.cons (.str _) .nil))
  have sh : SeqAt.shaped (.tuple [.str r.1, .str r.2]) = true := by
    unfold SeqAt.shaped
    rw [Bool.and_eq_true]
    refine ⟨?_, decide_eq_true ?_⟩
    · rw [PyData.canLay0]
      refine canAll_of fun d hd => ?_
      simp only [List.mem_cons, List.not_mem_nil, or_false] at hd
      rcases hd with rfl | rfl
      · exact ok.1
      · exact ok.2
    · simp [PyData.depth, PyData.depthAll]
  refine ⟨_, _, dp ha, dp hb, sh, sh, ?_⟩
  rw [SeqAt.eqv_refl _ (SeqAt.canLay_of_shaped sh)]
  rfl
theorem eyT_ok {o : Option Int} {t : Str} (h : Asc t) : PyData.strOk (eyT o t).1 = true ∧ PyData.strOk (eyT o t).2 = true := by
  unfold eyT
  split
  · exact ⟨asc_ok (asc_of _ (by decide +kernel)), asc_ok (pl_asc (pl_tab _ _ _))⟩
  · exact ⟨asc_ok (asc_of _ (by decide +kernel)), asc_ok h⟩
theorem zeT_ok {o r : Option Int} {t u : Str} (h : Asc t) (h2 : Asc u) : PyData.strOk (zeT o t r u).1 = true ∧ PyData.strOk (zeT o t r u).2 = true := by
  unfold zeT
  split
  · split
    · exact ⟨asc_ok (asc_of _ (by decide +kernel)), asc_ok (pl_asc (pl_tab _ _ _))⟩
    · exact ⟨asc_ok (asc_of _ (by decide +kernel)), asc_ok h2⟩
  · exact ⟨asc_ok (asc_of _ (by decide +kernel)), asc_ok h⟩
theorem giT_ok {r c : Nat} {f : Nat → Nat → Rat} {o p : Option Int} {t : Str} (h : Asc t) : PyData.strOk (giT r c f o p t).1 = true ∧ PyData.strOk (giT r c f o p t).2 = true := by
  unfold giT
  split
  · exact ⟨asc_ok (asc_of _ (by decide +kernel)), asc_ok (pl_asc (pl_dg _))⟩
  · exact ⟨asc_ok (asc_of _ (by decide +kernel)), asc_ok h⟩
theorem Vl.asc {H : Hp} {x : V} {t : Str} {o : Option Int} (h : Vl K C H x t o) : Asc t := h.th.elim fun _ z => z.asc
/-- the list of what was told so far -/
def TLst (G : Hp) (l : Addr) (n : Nat) (g : Nat → Str × Str) : Prop := ∃ ps, G l = some (.lst ps) ∧ ps.length = n ∧ ∀ (i : Nat) (x : V), ps[i]? = some x → ∃ p, x = .ref p ∧ G p = some (.tup (tw (g i)))
theorem TLst.ext {G G' : Hp} {l : Addr} {n : Nat} {g : Nat → Str × Str} (h : TLst G l n g) (e : ExtN G G') : TLst G' l n g := by
  obtain ⟨ps, h1, h2, h3⟩ := h
  exact ⟨ps, e _ _ h1 (by intro _; nofun), h2, fun i x hx => (h3 i x hx).elim fun p z => ⟨p, z.1, e _ _ z.2 (by intro _; nofun)⟩⟩
theorem TLst.same {G G' : Hp} {l : Addr} {n : Nat} {g : Nat → Str × Str} (h : TLst G l n g) (e : Same G G') : TLst G' l n g := h.ext (ExtN.of e)
theorem TLst.one {G : Hp} {l p : Addr} {g : Nat → Str × Str} (hl : G l = some (.lst [.ref p])) (hp : G p = some (.tup (tw (g 0)))) : TLst G l 1 g := ⟨_, hl, rfl, fun i x hx => by
  match i, hx with
  | 0, hx =>
    cases Option.some.inj hx
    exact ⟨p, rfl, hp⟩⟩
theorem TLst.app {G : Hp} {l p : Addr} {n : Nat} {g : Nat → Str × Str} {ps : List V} (hl : G l = some (.lst ps)) (h : TLst G l n g) (hp : G p = some (.tup (tw (g n)))) : TLst (upd G l (.lst (ps ++ [.ref p]))) l (n + 1) g := by
  obtain ⟨ps', h1, h2, h3⟩ := h
  cases hl.symm.trans h1
  refine ⟨_, upd_same, by simp [h2], fun i x hx => ?_⟩
  by_cases c : i < ps.length
  · rw [List.getElem?_append_left c] at hx
    obtain ⟨q, e, hq⟩ := h3 i x hx
    exact ⟨q, e, tup_upd hl hq⟩
  · rw [List.getElem?_append_right (by omega)] at hx
    have ei : i = n := by
      have := (List.getElem?_eq_some_iff.mp hx).1
      simp at this
      omega
    have ex : x = .ref p := by simpa using List.mem_of_getElem? hx
    rw [ex, ei]
    exact ⟨p, rfl, tup_upd hl hp⟩
end
end Lw

namespace Lw
set_option autoImplicit false
open PySem PySem.Spec PyProof.Rows L2 MG TL LamX
section
variable {P : Program} {w : World} {K : PySem.W.Frag} {mg : Str → Option Value} {base : Heap} {C CM CZ CI : Addr}
abbrev s__law_right : Stmt := top 53
abbrev s_law : Stmt := top 54
def TL1 (x : Str) (P : Addr) : List (Addr × Str) := [(P, (x ++ (".<locals>." : Str)) ++ ("<lambda>" : Str))]
def gZ (us ws : List V) : List V := match us, ws with
  | [c], [a, b] => [c, b, a]
  | _, _ => us ++ ws
abbrev EyeM (P : Program) (w : World) (K : PySem.W.Frag) (mg : Str → Option Value) (base : Heap) (C CM CZ : Addr) : Prop := CmtX P w K mg base 10 CM "eye" (spEyeX K C CM CZ)
abbrev ZeroM (P : Program) (w : World) (K : PySem.W.Frag) (mg : Str → Option Value) (base : Heap) (C CM CZ : Addr) : Prop := CmtX P w K mg base 10 CM "zero" (spZeroX K C CM CZ)
abbrev EyeK (P : Program) (w : World) (K : PySem.W.Frag) (mg : Str → Option Value) (base : Heap) (C CM CZ : Addr) : Prop := CmtKX P w K mg base 10 CM "eye" (spEyeX K C CM CZ) ["size"] (fun us ws => us ++ ws)
abbrev ZeroK (P : Program) (w : World) (K : PySem.W.Frag) (mg : Str → Option Value) (base : Heap) (C CM CZ : Addr) : Prop := CmtKX P w K mg base 10 CM "zero" (spZeroX K C CM CZ) ["columns", "rows"] gZ
def spRight (T : List (Addr × Str)) : Sp := fun vs H Q _ => ∃ q : Addr, vs = [.ref q] ∧ QAt H q 0 ∧ Tabs T H ∧ ∀ H', Keep q (ntb H) (ntb H') → Tabs T H' → Q (.bl true) H'
theorem make_matR {H : Hp} {t : Addr} {r c : Nat} {f : Nat → Nat → Rat} {R : Addr → Hp → Prop} (ht : Tb (RC C) H t r c f) (z : Sz r c) (k : ∀ m H', H m = none → Same H H' → MtAt C CM H' m r c f → R m H') :
    ∀ x dx, H x = none → H dx = none → dx ≠ x → spMInit C CM [.ref x, .ref t] (upd (upd H dx (.own x)) x (.ins CM dx [])) (fun v H2 => v = .non ∧ R x H2) E0 := fun x dx h1 h2 h3 => by
  obtain ⟨a, d, t', r', c', f', e, h, ht', z', k'⟩ := make_mat (CM := CM) (Q := fun v H' => ∀ m, v = .ref m → R m H') ht z (fun m H' n s hM m' e => by cases e; exact k m H' n s hM) x dx h1 h2 h3
  exact ⟨a, d, t', r', c', f', e, h, ht', z', fun H' t2 e2 tb kp => ⟨(k' H' t2 e2 tb kp).1, (k' H' t2 e2 tb kp).2 x rfl⟩⟩
theorem zq_none {q : Addr} {G : Hp} {a : Addr} (h : G a = none) : Zq q G a = none := by
  unfold Zq
  by_cases e : a = q
  · rw [e, hid_self]
  · rw [hid_ne e]
    exact nt_none h
theorem zq_new {q t : Addr} {G : Hp} {o : HO} (ht : G t = none) (nq : t ≠ q) (n : ∀ ps, o ≠ .tbl ps := by intro _; nofun) : Zq q (upd G t o) t = some o := by
  unfold Zq
  rw [hid_ne nq]
  exact nt_some upd_same n
theorem thing_mk {q t : Addr} {G : Hp} {xs : List V} {n k : Nat} (ht : G t = none) (nq : t ≠ q) (hl : xs.length ≤ 100) (h : ∀ (i : Nat) (x : V), xs[i]? = some x → ∃ tx o, Thing K C (Zq q G) x tx o n k) : ∃ tx o, Thing K C (Zq q (upd G t (.tup xs))) (.ref t) tx o ((n + 2) * xs.length + 3) (k + 2) :=
  thing_tupE (zq_new ht nq) hl fun i x hx => by
    obtain ⟨tx, o, z⟩ := h i x hx
    exact ⟨tx, o, Zq q G, zq_none ht, zq_nt (nt_mono (MG.Same.new (Same.refl G) ht)), z⟩
theorem thing_mkl {q t : Addr} {G : Hp} {xs : List V} {n k : Nat} (O : Others K C) (ht : G t = none) (nq : t ≠ q) (hl : 0 < xs.length) (h : ∀ (i : Nat) (x : V), xs[i]? = some x → ∃ tx o, Thing K C (Zq q G) x tx o n k) : ∃ tx o, Thing K C (Zq q (upd G t (.lst xs))) (.ref t) tx o ((n + 2) * xs.length + 3) (k + 2) :=
  thing_listE O (zq_new ht nq) hl fun i x hx => by
    obtain ⟨tx, o, z⟩ := h i x hx
    exact ⟨tx, o, Zq q G, zq_none ht, zq_nt (nt_mono (MG.Same.new (Same.refl G) ht)), z⟩
theorem keep_same {q : Addr} {H G G' : Hp} (k : Keep q H G) (s : Same G G') : Keep q H G' := k.same s
theorem sc__law_right : FnScope ["_law_q", "_law_told_here", "_law_high", "_law_broad", "_law_pair", "_law_cells_here", "_law_turn", "_law_due", "_law_has_two", "_law_i", "_law_j", "_law_mine", "_law_one", "_law_thing", "_law_two"] ["_law_q"] (defScope s__law_right) := ⟨rfl, rfl, rfl, by decide +kernel, rfl, by decide +kernel, by decide +kernel⟩
theorem ok_right {f cR PR gA : Addr} {fd fA : FuncData} {cdA : Value} (F : FunC K "_law_right" "_law_right" s__law_right f fd cR) (TB : TabB base mg cR PR) (AK : AskC K mg "_law_asked" "_law_act" s__law_asked gA fA cdA) (T : TxM K mg C CM) (O : Others K C) (x_ixe : XiC P w K mg base CI) (x_siz : XzC P w K mg base CZ) (nIZ : PySem.W.exmOne K (.ref CZ) (.ref CI) = some false)
    (d_str : DunF P w K mg base 2 C "__str__" (spStr C)) (d_mstr : MStrD P w K mg base C CM) (d_repr : DunF P w K mg base 2 C "__repr__" (spRepr C)) (d_reprH : OwnH P w K mg base (ownR C) 2) (c_draw : DrawC P w K mg base) (c_sth : SThC P w K mg base C) (c_lwhole : LWC P w K mg base)
    (m_eye : EyeM P w K mg base C CM CZ) (m_zero : ZeroM P w K mg base C CM CZ) (m_eyeK : EyeK P w K mg base C CM CZ) (m_zeroK : ZeroK P w K mg base C CM CZ) (c_eyedue : EyeDueC P w K mg base C) (c_zerodue : ZeroDueC P w K mg base C) (c_cells : CellsC P w K mg base) (m_mat : MatC P w K mg base C CM)
    (c_entries : EntC P w K mg base C) (c_pairs : PairsC P w K mg base) (c_spot : SpotC P w K mg base C) (c_digits : DigitsC P w K mg base) (c_is : IsC P w K mg base C CM) (i_mgetx : IxX P w K mg base 8 CM (spMGetX K C CM CI)) : FnG P w K mg base CX0 24 f fd ["_law_q"] (spRight (TL1 "_law_right" PR)) := by
  refine fun_okGC F sc__law_right (fun vs H Q E h => ?_) (fun A' outer s H vs Q E bare hr h => ?_)
  · obtain ⟨q, rfl, _⟩ := h
    rfl
  · obtain ⟨q, rfl, hq, hT, k⟩ := h
    have hu64 := hr.units
    refine ⟨_, (pss_cons (ps_cut (ps_asg (pe_tup (pa_cons (pe_cg c_sth bare hr (by decide) rfl (pa_cons (pv 0) pa_nil)) (pa_cons (pe_cg c_sth bare hr (by decide) rfl (pa_cons (pv 0) pa_nil)) pa_nil))) (pg_tupK (K := K) (n := 2) rfl (pgs_cons (pg_name (i := 12) sc__law_right.nd rfl (Or.inr rfl)) (pgs_cons (pg_name (i := 14) sc__law_right.nd rfl (Or.inr rfl)) pgs_nil)))))
  (pss_cons (ps_cut (ps_set (i := 12) sc__law_right.nd rfl (Or.inr rfl) (pe_ifExp (PW.pt (pw_or (pt_not (pt_val (pe_cg c_lwhole bare hr (by decide) rfl (pa_cons (pv 12) pa_nil)))) (pw_or1 (pt_cmpR op_lt (pv 12) pe_int (nomark _))))) (pv 12) pe_int)))
  (pss_cons (ps_cut (ps_set (i := 14) sc__law_right.nd rfl (Or.inr rfl) (pe_ifExp (PW.pt (pw_or (pt_not (pt_val (pe_cg c_lwhole bare hr (by decide) rfl (pa_cons (pv 14) pa_nil)))) (pw_or1 (pt_cmpR op_lt (pv 14) pe_int (nomark _))))) (pv 14) pe_int)))
  (pss_cons (ps_cut (ps_set (i := 1) sc__law_right.nd rfl (Or.inl rfl) (pe_lst (pa_cons (pe_ask (T := (TL1 "_law_right" PR)) (k := 20) AK rfl sc__law_asked rfl (Or.inl rfl) (asked_gives (by decide) bare T x_ixe x_siz nIZ d_str d_mstr d_reprH) TB rfl (List.mem_singleton.mpr rfl) (fun p hp _ => congrArg Prod.snd (List.mem_singleton.mp hp)) hr (by decide) (lamS_by (sc := (defScope s__law_right)) (by decide +kernel)) rfl (fun _ _ _ _ _ => rfl) (fun A outer s H E f c1 hr => (pe_cmtX m_eye hr (by decide) lamN_takes (pe_glob (v := V.ref CM) rfl T.g_Matrix rfl) (pa_cons (pv 12) pa_nil)))) pa_nil))))
  (pss_cons (ps_cut (ps_expr (pe_bm PySem.F.plainAttrs_list PySem.F.slot_list_append PySem.F.type_list_append mt_append (pv 1) (pa_cons (pe_ask (T := (TL1 "_law_right" PR)) (k := 20) AK rfl sc__law_asked rfl (Or.inl rfl) (asked_gives (by decide) bare T x_ixe x_siz nIZ d_str d_mstr d_reprH) TB rfl (List.mem_singleton.mpr rfl) (fun p hp _ => congrArg Prod.snd (List.mem_singleton.mp hp)) hr (by decide) (lamS_by (sc := (defScope s__law_right)) (by decide +kernel)) rfl (fun _ _ _ _ _ => rfl) (fun A outer s H E f c1 hr => (pe_cmtX m_zero hr (by decide) lamN_takes (pe_glob (v := V.ref CM) rfl T.g_Matrix rfl) (pa_cons (pv 12) (pa_cons (pv 14) pa_nil))))) pa_nil))))
  (pss_cons (ps_cut (ps_expr (pe_bm PySem.F.plainAttrs_list PySem.F.slot_list_append PySem.F.type_list_append mt_append (pv 1) (pa_cons (pe_ask (T := (TL1 "_law_right" PR)) (k := 20) AK rfl sc__law_asked rfl (Or.inl rfl) (asked_gives (by decide) bare T x_ixe x_siz nIZ d_str d_mstr d_reprH) TB rfl (List.mem_singleton.mpr rfl) (fun p hp _ => congrArg Prod.snd (List.mem_singleton.mp hp)) hr (by decide) (lamS_by (sc := (defScope s__law_right)) (by decide +kernel)) rfl (fun _ _ _ _ _ => rfl) (fun A outer s H E f c1 hr => (pe_cmtKX m_eyeK hr (by decide) lamN_takes (pe_glob (v := V.ref CM) rfl T.g_Matrix rfl) (pk_cons (pv 14) pk_nil)))) pa_nil))))
  (pss_cons (ps_cut (ps_expr (pe_bm PySem.F.plainAttrs_list PySem.F.slot_list_append PySem.F.type_list_append mt_append (pv 1) (pa_cons (pe_ask (T := (TL1 "_law_right" PR)) (k := 20) AK rfl sc__law_asked rfl (Or.inl rfl) (asked_gives (by decide) bare T x_ixe x_siz nIZ d_str d_mstr d_reprH) TB rfl (List.mem_singleton.mpr rfl) (fun p hp _ => congrArg Prod.snd (List.mem_singleton.mp hp)) hr (by decide) (lamS_by (sc := (defScope s__law_right)) (by decide +kernel)) rfl (fun _ _ _ _ _ => rfl) (fun A outer s H E f c1 hr => (pe_cmtKX m_zeroK hr (by decide) lamN_takes (pe_glob (v := V.ref CM) rfl T.g_Matrix rfl) (pk_cons (pv 12) (pk_cons (pv 14) pk_nil))))) pa_nil))))
  (pss_cons (ps_cut (ps_if (pt_cmpR (op_neD hu64) (pv 1) (pe_lst (pa_cons (pe_cg c_eyedue bare hr (by decide) rfl (pa_cons (pv 12) pa_nil)) (pa_cons (pe_cg c_zerodue bare hr (by decide) rfl (pa_cons (pv 12) (pa_cons (pv 14) pa_nil))) (pa_cons (pe_cg c_eyedue bare hr (by decide) rfl (pa_cons (pv 14) pa_nil)) (pa_cons (pe_cg c_zerodue bare hr (by decide) rfl (pa_cons (pv 14) (pa_cons (pv 12) pa_nil))) pa_nil))))) (nomark _)) (pss_one (ps_ret pe_bl))
  pss_nil))
  (pss_cons (ps_cut (ps_par (i := 2) (j := 3) (by rfl) sc__law_right.nd rfl rfl (by decide) rfl rfl (pa_cons (pe_op op_add pe_int (pe_cg c_draw bare hr (by decide) rfl (pa_cons (pv 0) (pa_cons pe_int pa_nil)))) (pa_cons (pe_op op_add pe_int (pe_cg c_draw bare hr (by decide) rfl (pa_cons (pv 0) (pa_cons pe_int pa_nil)))) pa_nil)) (by rfl)))
  (pss_cons (ps_cut (ps_set (i := 4) sc__law_right.nd rfl (Or.inl rfl) (pe_cg c_cells bare hr (by decide) rfl (pa_cons (pv 0) (pa_cons (pv 2) (pa_cons (pv 3) pa_nil))))))
  (pss_cons (ps_cut (ps_asg (pe_tup (pa_cons (pe_mkf m_mat hr (by decide) rfl (pa_cons (pe_cg c_entries bare hr (by decide) rfl (pa_cons (pv 4) pa_nil)) pa_nil)) (pa_cons (pe_cg c_pairs bare hr (by decide) rfl (pa_cons (pv 4) pa_nil)) pa_nil))) (pg_tupK (K := K) (n := 2) rfl (pgs_cons (pg_name (i := 11) sc__law_right.nd rfl (Or.inr rfl)) (pgs_cons (pg_name (i := 5) sc__law_right.nd rfl (Or.inl rfl)) pgs_nil)))))
  (pss_cons (ps_cut (ps_for PassesOwn.never rfl (pi_range1 (by rfl) T.b_range (pa_cons pe_int pa_nil)) (pg_name (i := 6) sc__law_right.nd rfl (Or.inl rfl))
  (pss_cons (ps_asg (pe_tup (pa_cons (pe_cg c_spot bare hr (by decide) rfl (pa_cons (pv 0) (pa_cons (pv 2) pa_nil))) (pa_cons (pe_cg c_spot bare hr (by decide) rfl (pa_cons (pv 0) (pa_cons (pv 3) pa_nil))) pa_nil))) (pg_tupK (K := K) (n := 2) rfl (pgs_cons (pg_name (i := 9) sc__law_right.nd rfl (Or.inr rfl)) (pgs_cons (pg_name (i := 10) sc__law_right.nd rfl (Or.inr rfl)) pgs_nil))))
  (pss_cons (ps_set (i := 7) sc__law_right.nd rfl (Or.inl rfl) (pe_tup (pa_cons pe_str (pa_cons (pe_callB (id := "repr") (call_reprS (K := K) (own := ownR C) (ownF d_repr) bare hr) (by rfl) T.b_repr (by decide +kernel) (pa_cons (pe_tup (pa_cons (pv 9) (pa_cons (pv 10) pa_nil))) pa_nil)) pa_nil))))
  (pss_cons (ps_cut (ps_if (PW.pt (pw_and (pt_val (pe_cg c_lwhole bare hr (by decide) rfl (pa_cons (pv 9) pa_nil))) (pw_and (pt_val (pe_cg c_lwhole bare hr (by decide) rfl (pa_cons (pv 10) pa_nil))) (pw_and (pt_chain op_le op_lt pe_int (pv 9) (pv 2)) (pw_and1 (pt_chain op_le op_lt pe_int (pv 10) (pv 3))))))) (pss_one (ps_set (i := 7) sc__law_right.nd rfl (Or.inl rfl) (pe_tup (pa_cons pe_str (pa_cons (pe_cg c_digits bare hr (by decide) rfl (pa_cons (pe_ix (ix_listK (K := K)) (pe_ix (ix_listK (K := K)) (pv 5) (pv 9) (fun _ _ => rfl)) (pv 10) (fun _ _ => rfl)) pa_nil)) pa_nil)))))
  pss_nil))
  (pss_cons (ps_cut (ps_if (pt_cmpR (op_neD hu64) (pe_ask (T := (TL1 "_law_right" PR)) (k := 20) AK rfl sc__law_asked rfl (Or.inl rfl) (asked_gives (by decide) bare T x_ixe x_siz nIZ d_str d_mstr d_reprH) TB rfl (List.mem_singleton.mpr rfl) (fun p hp _ => congrArg Prod.snd (List.mem_singleton.mp hp)) hr (by decide) (lamS_by (sc := (defScope s__law_right)) (by decide +kernel)) rfl (fun _ _ _ _ _ => rfl) (fun A outer s H E f c1 hr => (pe_ixX i_mgetx hr (by decide) lamN_takes (pv 11) (pe_tup (pa_cons (pv 9) (pa_cons (pv 10) pa_nil)))))) (pv 7) (nomark _)) (pss_one (ps_ret pe_bl))
  pss_nil))
  (pss_cons (ps_set (i := 13) sc__law_right.nd rfl (Or.inr rfl) (pe_ix (ix_listK (K := K)) (pe_lst (pa_cons (pv 9) (pa_cons (pe_tup (pa_cons (pv 9) pa_nil)) (pa_cons (pe_tup (pa_cons (pv 9) (pa_cons (pv 10) (pa_cons pe_int pa_nil)))) (pa_cons (pe_lst (pa_cons pe_int (pa_cons pe_int pa_nil))) (pa_cons (pe_tup pa_nil) (pa_cons pe_str (pa_cons (pe_tup (pa_cons pe_int (pa_cons pe_non pa_nil))) pa_nil)))))))) (pe_cg c_draw bare hr (by decide) rfl (pa_cons (pv 0) (pa_cons pe_int pa_nil))) (fun _ _ => rfl)))
  (pss_cons (ps_set (i := 8) sc__law_right.nd rfl (Or.inl rfl) (pe_and (pe_callB (id := "isinstance") (call_isiK (K := K)) (by rfl) T.b_isinstance (by decide +kernel) (pa_cons (pv 13) (pa_cons (pe_bltn (v := V.ty "tuple") (u := Value.type "tuple") (by rfl) T.b_tuple (by decide +kernel) rfl) pa_nil))) (pe_one (pe_cmpR op_eq (pe_callB (id := "len") (call_len_seqK (K := K)) (by rfl) T.b_len (by decide +kernel) (pa_cons (pv 13) pa_nil)) pe_int (nomark _)))))
  (pss_one (ps_if (PW.pt (pw_and (pt_not (pt_val (pv 8))) (pw_and1 (pt_cmpR (op_neD hu64) (pe_ask (T := (TL1 "_law_right" PR)) (k := 20) AK rfl sc__law_asked rfl (Or.inl rfl) (asked_gives (by decide) bare T x_ixe x_siz nIZ d_str d_mstr d_reprH) TB rfl (List.mem_singleton.mpr rfl) (fun p hp _ => congrArg Prod.snd (List.mem_singleton.mp hp)) hr (by decide) (lamS_by (sc := (defScope s__law_right)) (by decide +kernel)) rfl (fun _ _ _ _ _ => rfl) (fun A outer s H E f c1 hr => (pe_ixX i_mgetx hr (by decide) lamN_takes (pv 11) (pv 13)))) (pe_tup (pa_cons pe_str (pa_cons (pe_callB (id := "repr") (call_reprS (K := K) (own := ownR C) (ownF d_repr) bare hr) (by rfl) T.b_repr (by decide +kernel) (pa_cons (pv 13) pa_nil)) pa_nil))) (nomark _))))) (pss_one (ps_ret pe_bl))
  pss_nil))))))))))
  (pss_one (ps_cut (ps_ret (pe_cg c_is bare hr (by decide) rfl (pa_cons (pv 11) (pa_cons (pv 4) pa_nil)))))))))))))))))), ?_⟩
    -- one, two = size_thing(q), size_thing(q)
    refine ⟨fun σ G => ∃ x y t u o r, σ = [some (.ref q), none, none, none, none, none, none, none, none, none, none, none, some x, none, some y] ∧ Keep q H G ∧ QAt G q 44 ∧ Vl K C (Zq q G) x t o ∧ Vl K C (Zq q G) y u r, ?_, ?_⟩
    · refine ⟨_, rfl, q, 0, rfl, hq, by decide, fun x t o H1 k1 q1 h1 => ?_⟩
      refine ⟨_, rfl, q, 22, rfl, q1, by decide, fun y u r H2 k2 q2 h2 => ?_⟩
      refine ⟨by show 2 ≤ sizeLine; decide, fun p hp => ⟨p, _, rfl, SqT.of upd_same, rfl, _, _, rfl, _, _, rfl, rfl, ?_⟩⟩
      exact ⟨x, y, t, u, o, r, rfl, (k1.trans k2).new hp, q2.new hp, h1.same (zq_keep (k2.new hp)), h2.same (zq_keep (Keep.refl.new hp))⟩
    rintro _ G0 ⟨x, y, t, u, o, r, rfl, k0, q0, hx, hy⟩
    -- one = one if not is_whole(one) or one < 20 else 3
    refine ⟨fun σ G => ∃ x t o, σ = [some (.ref q), none, none, none, none, none, none, none, none, none, none, none, some x, none, some y] ∧ G0 = G ∧ Vl K C (Zq q G0) x t o ∧ ∀ i, o = some i → i ≤ 100, ?_, ?_⟩
    · refine ⟨_, rfl, x, o.isSome, rfl, (hx.io.same zq_to).whole, _, rfl, ?_⟩
      cases o with
      | none => exact ifT rfl ⟨_, rfl, x, t, none, rfl, rfl, hx, nofun⟩
      | some i =>
        cases (show x = .int i from hx.io)
        refine ifF rfl ⟨_, rfl, _, _, rfl, rfl, _, rfl, ite2 (fun z => ?_) (fun z => ?_)⟩
        · have zi : i < 20 := of_decide_eq_true z
          exact ⟨_, rfl, _, t, some i, rfl, rfl, hx, fun j e => by cases e; omega⟩
        · exact ⟨_, _, some 3, rfl, rfl, vl_int (by decide), fun j e => by cases e; decide⟩
    rintro _ _ ⟨x, t, o, rfl, rfl, hx, hb⟩
    -- two = two if not is_whole(two) or two < 20 else 2
    refine ⟨fun σ G => ∃ y u r, σ = [some (.ref q), none, none, none, none, none, none, none, none, none, none, none, some x, none, some y] ∧ G0 = G ∧ Vl K C (Zq q G0) y u r ∧ ∀ i, r = some i → i ≤ 100, ?_, ?_⟩
    · refine ⟨_, rfl, y, r.isSome, rfl, (hy.io.same zq_to).whole, _, rfl, ?_⟩
      cases r with
      | none => exact ifT rfl ⟨_, rfl, y, u, none, rfl, rfl, hy, nofun⟩
      | some i =>
        cases (show y = .int i from hy.io)
        refine ifF rfl ⟨_, rfl, _, _, rfl, rfl, _, rfl, ite2 (fun z => ?_) (fun z => ?_)⟩
        · have zi : i < 20 := of_decide_eq_true z
          exact ⟨_, rfl, _, u, some i, rfl, rfl, hy, fun j e => by cases e; omega⟩
        · exact ⟨_, _, some 2, rfl, rfl, vl_int (by decide), fun j e => by cases e; decide⟩
    rintro _ _ ⟨y, u, r, rfl, rfl, hy, hc⟩
    have T0 : Tabs (TL1 "_law_right" PR) G0 := tabs_keep hT hq.lst.choose_spec k0
    have inn : ∀ {G : Hp}, Same (ntb G0) (ntb G) → Same (Zq q G0) G := fun s => (zq_nt s).trans zq_to
    generalize hg : (fun n : Nat => match n with | 0 => eyT o t | 1 => zeT o t r u | 2 => eyT r u | _ => zeT r u o t) = g
    have g0 : g 0 = eyT o t := by rw [← hg] <;> rfl
    have g1 : g 1 = zeT o t r u := by rw [← hg] <;> rfl
    have g2 : g 2 = eyT r u := by rw [← hg] <;> rfl
    have g3 : g 3 = zeT r u o t := by rw [← hg] <;> rfl
    have gok : ∀ i, i < 4 → PyData.strOk (g i).1 = true ∧ PyData.strOk (g i).2 = true := fun i hi => by
      match i with
      | 0 => rw [g0]; exact eyT_ok hx.asc
      | 1 => rw [g1]; exact zeT_ok hx.asc hy.asc
      | 2 => rw [g2]; exact eyT_ok hy.asc
      | 3 => rw [g3]; exact zeT_ok hy.asc hx.asc
    clear hg
    -- told = [asked(lambda: Matrix.eye(one))]
    refine ⟨fun σ G => ∃ l, σ = [some (.ref q), some (.ref l), none, none, none, none, none, none, none, none, none, none, some x, none, some y] ∧ Same (ntb G0) (ntb G) ∧ Tabs (TL1 "_law_right" PR) G ∧ ntb G0 l = none ∧ TLst G l 1 g, ?_, ?_⟩
    · refine ⟨T0, fun H1 e1 T1 => ⟨eyT o t, rfl, _, rfl, as_eye (hx.same (inn (nt_ext e1))) hb fun p G s e => ⟨by show 1 ≤ sizeLine; decide, fun l hl => ?_⟩⟩⟩
      have sG : Same (ntb G0) (ntb G) := (nt_ext e1).trans (nt_mono s)
      have nl : ntb G0 l = none := sG.free (nt_none hl)
      have sl := MG.Same.new (o := .lst [.ref p]) (Same.refl G) hl
      exact ⟨l, rfl, sG.trans (nt_mono sl), tabs_same T1 (s.trans sl), nl, TLst.one upd_same (by rw [g0]; exact sl _ _ e)⟩
    have inn2 : ∀ {G : Hp}, Same (ntb G0) (ntb G) → Vl K C G x t o ∧ Vl K C G y u r := fun s => ⟨hx.same (inn s), hy.same (inn s)⟩
    -- told.append(asked(lambda: Matrix.zero(one, two)))
    rintro _ G1 ⟨l, rfl, s1, T1, nl, tl⟩
    refine ⟨fun σ G => σ = [some (.ref q), some (.ref l), none, none, none, none, none, none, none, none, none, none, some x, none, some y] ∧ Same (ntb G0) (ntb G) ∧ Tabs (TL1 "_law_right" PR) G ∧ TLst G l 2 g, ?_, ?_⟩
    · obtain ⟨ps, el, pl, _⟩ := id tl
      refine ⟨_, rfl, .inl ⟨rfl, ps, SqL.of el⟩, ?_⟩
      refine ⟨T1, fun H1 e1 T2 => ⟨zeT o t r u, rfl, _, rfl, _, rfl, as_zero (inn2 (s1.trans (nt_ext e1))).1 (inn2 (s1.trans (nt_ext e1))).2 hb hc fun p G s e => ?_⟩⟩
      have el2 := s _ _ (e1 _ _ el (by intro _; nofun))
      have sG : Same (ntb G0) (ntb G) := (s1.trans (nt_ext e1)).trans (nt_mono s)
      refine ⟨l, ps, _, rfl, rfl, el2, by rw [pl]; decide, rfl, nt_upd sG nl, tabs_upd (tabs_same T2 s) el2, TLst.app el2 ((tl.ext e1).same s) (by rw [g1]; exact e)⟩
    -- told.append(asked(lambda: Matrix.eye(size=two)))
    rintro _ G2 ⟨rfl, s2, T2, tl2⟩
    clear s1 T1 tl
    refine ⟨fun σ G => σ = [some (.ref q), some (.ref l), none, none, none, none, none, none, none, none, none, none, some x, none, some y] ∧ Same (ntb G0) (ntb G) ∧ Tabs (TL1 "_law_right" PR) G ∧ TLst G l 3 g, ?_, ?_⟩
    · obtain ⟨ps, el, pl, _⟩ := id tl2
      refine ⟨_, rfl, .inl ⟨rfl, ps, SqL.of el⟩, ?_⟩
      refine ⟨T2, fun H1 e1 T3 => ⟨eyT r u, rfl, _, rfl, rfl, as_eye (inn2 (s2.trans (nt_ext e1))).2 hc fun p G s e => ?_⟩⟩
      have el2 := s _ _ (e1 _ _ el (by intro _; nofun))
      have sG : Same (ntb G0) (ntb G) := (s2.trans (nt_ext e1)).trans (nt_mono s)
      refine ⟨l, ps, _, rfl, rfl, el2, by rw [pl]; decide, rfl, nt_upd sG nl, tabs_upd (tabs_same T3 s) el2, TLst.app el2 ((tl2.ext e1).same s) (by rw [g2]; exact e)⟩
    -- told.append(asked(lambda: Matrix.zero(columns=one, rows=two)))
    rintro _ G3 ⟨rfl, s3, T3, tl3⟩
    clear s2 T2 tl2
    refine ⟨fun σ G => σ = [some (.ref q), some (.ref l), none, none, none, none, none, none, none, none, none, none, some x, none, some y] ∧ Same (ntb G0) (ntb G) ∧ Tabs (TL1 "_law_right" PR) G ∧ TLst G l 4 g, ?_, ?_⟩
    · obtain ⟨ps, el, pl, _⟩ := id tl3
      refine ⟨_, rfl, .inl ⟨rfl, ps, SqL.of el⟩, ?_⟩
      refine ⟨T3, fun H1 e1 T4 => ⟨zeT r u o t, rfl, _, rfl, _, rfl, rfl, as_zero (inn2 (s3.trans (nt_ext e1))).2 (inn2 (s3.trans (nt_ext e1))).1 hc hb fun p G s e => ?_⟩⟩
      have el2 := s _ _ (e1 _ _ el (by intro _; nofun))
      have sG : Same (ntb G0) (ntb G) := (s3.trans (nt_ext e1)).trans (nt_mono s)
      refine ⟨l, ps, _, rfl, rfl, el2, by rw [pl]; decide, rfl, nt_upd sG nl, tabs_upd (tabs_same T4 s) el2, TLst.app el2 ((tl3.ext e1).same s) (by rw [g3]; exact e)⟩
    -- if told != [eye_due(one), zero_due(one, two), eye_due(two), zero_due(two, one)]
    rintro _ G4 ⟨rfl, s4, T4, tl4⟩
    clear s3 T3 tl3
    refine ⟨fun σ G => σ = [some (.ref q), some (.ref l), none, none, none, none, none, none, none, none, none, none, some x, none, some y] ∧ Same (ntb G0) (ntb G) ∧ Tabs (TL1 "_law_right" PR) G, ?_, ?_⟩
    · refine ⟨_, rfl, _, rfl, x, t, o, rfl, (inn2 s4).1, hb, fun p1 H1 z1 f1 => ?_⟩
      have v1 := inn2 (s4.trans (nt_mono z1))
      refine ⟨_, rfl, _, rfl, x, y, t, u, o, r, rfl, v1.1, v1.2, hb, hc, fun p2 H2 z2 f2 => ?_⟩
      have v2 := inn2 ((s4.trans (nt_mono z1)).trans (nt_mono z2))
      refine ⟨_, rfl, y, u, r, rfl, v2.2, hc, fun p3 H3 z3 f3 => ?_⟩
      have v3 := inn2 (((s4.trans (nt_mono z1)).trans (nt_mono z2)).trans (nt_mono z3))
      refine ⟨_, rfl, _, rfl, y, x, u, t, r, o, rfl, v3.2, v3.1, hc, hb, fun p4 H4 z4 f4 => ⟨by show 4 ≤ sizeLine; decide, fun l2 hl2 => ?_⟩⟩
      have z5 := MG.Same.new (o := .lst [.ref p1, .ref p2, .ref p3, .ref p4]) (Same.refl H4) hl2
      have zz := (((z1.trans z2).trans z3).trans z4).trans z5
      have tl5 := tl4.same zz
      obtain ⟨ps, el, pl, hp⟩ := id tl5
      have yes : ∀ (i : Nat) (v : V), ([V.ref p1, .ref p2, .ref p3, .ref p4] : List V)[i]? = some v → ∃ p, v = .ref p ∧ (upd H4 l2 (.lst [.ref p1, .ref p2, .ref p3, .ref p4])) p = some (.tup (tw (g i))) := fun i v hv => by
        match i, hv with
        | 0, hv => cases Option.some.inj hv; exact ⟨p1, rfl, by rw [g0]; exact z5 _ _ (z4 _ _ (z3 _ _ (z2 _ _ f1)))⟩
        | 1, hv => cases Option.some.inj hv; exact ⟨p2, rfl, by rw [g1]; exact z5 _ _ (z4 _ _ (z3 _ _ f2))⟩
        | 2, hv => cases Option.some.inj hv; exact ⟨p3, rfl, by rw [g2]; exact z5 _ _ (z4 _ _ f3)⟩
        | 3, hv => cases Option.some.inj hv; exact ⟨p4, rfl, by rw [g3]; exact z5 _ _ f4⟩
      obtain ⟨d, e, w1, w2, w3, w4, w5⟩ := ne_tls (K := K) (b := l2) (ys := [.ref p1, .ref p2, .ref p3, .ref p4]) el upd_same pl rfl hp yes gok
      exact ⟨d, e, w1, w2, w3, w4, _, rfl, ifF w5 ⟨rfl, s4.trans (nt_mono zz), tabs_same T4 zz⟩⟩
    rintro _ G5 ⟨rfl, s5, T5⟩
    clear s4 T4 tl4 g0 g1 g2 g3 gok
    have q5 : QAt G5 q 44 := ((QAt.nt q0).keep s5).keep nt_same
    have k5 : Keep q (ntb H) (ntb G5) := (nt_keep k0).same s5
    clear inn inn2 hx hy hb hc nl q0 k0 s5 T0
    -- high, broad = 1 + draw(q, 5), 1 + draw(q, 5)
    refine ⟨fun σ G => ∃ h b : Nat, σ = [some (.ref q), some (.ref l), some (.int h), some (.int b), none, none, none, none, none, none, none, none, some x, none, some y] ∧ (0 < h ∧ h ≤ 5) ∧ (0 < b ∧ b ≤ 5) ∧ Keep q (ntb H) (ntb G) ∧ QAt G q 46 ∧ Tabs (TL1 "_law_right" PR) G, ?_, ?_⟩
    · refine ⟨_, rfl, q, 5, 44, rfl, q5, by decide, by decide, by decide, fun r1 H1 a1 b1 k1 q1 => ?_⟩
      refine ⟨_, _, rfl, rfl, ?_⟩
      refine ⟨_, rfl, q, 5, 45, rfl, q1, by decide, by decide, by decide, fun r2 H2 a2 b2 k2 q2 => ?_⟩
      refine ⟨_, _, rfl, rfl, ?_⟩
      have e1 : (1 + r1 : Int) = ((1 + r1).toNat : Int) := by omega
      have e2 : (1 + r2 : Int) = ((1 + r2).toNat : Int) := by omega
      refine ⟨_, _, rfl, (1 + r1).toNat, (1 + r2).toNat, by rw [← e1, ← e2]; rfl, ⟨by omega, by omega⟩, ⟨by omega, by omega⟩, k5.trans (nt_keep (k1.trans k2)), q2, tabs_keep T5 q5.lst.choose_spec (k1.trans k2)⟩
    rintro _ G6 ⟨h, b, rfl, ⟨h0, h1⟩, ⟨b0, b1⟩, k6, q6, T6⟩
    clear k5 q5 T5
    have hhb : h * b ≤ 5 * 5 := Nat.mul_le_mul h1 b1
    have zz : Sz h b := ⟨h0, by omega, b0, by omega⟩
    -- pair = cells(q, high, broad)
    refine ⟨fun σ G => ∃ (t : Addr) (A : Nat → Nat → Int) (u : Int), σ = [some (.ref q), some (.ref l), some (.int h), some (.int b), some (.ref t), none, none, none, none, none, none, none, some x, none, some y] ∧ Keep q (ntb H) (ntb G) ∧ QAt G q 100 ∧ Tabs (TL1 "_law_right" PR) G ∧ PrAt (hid q G) t h b A u ∧ Bn h b A u 13, ?_, ?_⟩
    · refine ⟨_, rfl, _, rfl, _, rfl, q, 46, h, b, rfl, q6, by omega, h0, by omega, b0, by omega, fun t A u H' k2 q2 hP bn hu => ?_⟩
      exact ⟨t, A, u, rfl, k6.trans (nt_keep k2), QAt.le q2 (by omega), tabs_keep T6 q6.lst.choose_spec k2, hP, bn⟩
    rintro _ G7 ⟨t, A, u, rfl, k7, q7, T7, hP, bn⟩
    clear k6 q6 T6
    have u0 : u ≠ 0 := by have := bn.pos; omega
    have su : Sm u := smI bn.ub (by decide)
    have bd := bn.bds
    -- mine, cells = Matrix(entries(pair)), pairs(pair)
    refine ⟨fun σ G => ∃ m cl : Addr, σ = [some (.ref q), some (.ref l), some (.int h), some (.int b), some (.ref t), some (.ref cl), none, none, none, none, none, some (.ref m), some x, none, some y] ∧ Keep q (ntb H) (ntb G) ∧ QAt G q 100 ∧ Tabs (TL1 "_law_right" PR) G ∧ PrAt (Zq q G) t h b A u ∧ MtAt C CM (Zq q G) m h b (qv A u) ∧ PTab (Zq q G) cl h b (qv A u), ?_, ?_⟩
    · refine ⟨_, rfl, t, h, b, A, u, rfl, hP.same (hid_same q G7), by omega, by omega, u0, su, fun p H1 s1 hE => ?_⟩
      refine make_matR hE zz fun m H2 nm s2 hM => ?_
      refine ⟨_, rfl, t, h, b, A, u, rfl, (hP.same (hid_same q G7)).same (s1.trans s2), by omega, by omega, u0, su, fun D H3 s3 hD => ?_⟩
      refine ⟨by show 2 ≤ sizeLine; decide, fun p2 hp2 => ⟨p2, _, rfl, SqT.of upd_same, rfl, _, _, rfl, _, _, rfl, rfl, ?_⟩⟩
      have sN := MG.Same.new (o := .tup [.ref m, .ref D]) s3 hp2
      have sA := (s1.trans s2).trans sN
      have qE := q7.keep sA
      exact ⟨m, D, rfl, k7.same (nt_mono sA), qE, tabs_same T7 sA, (hP.zq).same (zq_nt (nt_mono sA)), (hM.same sN).zq qE, ((hD.same (MG.Same.new (Same.refl H3) hp2)).hq qE).zq⟩
    rintro _ G8 ⟨m, cl, rfl, k8, q8, T8, hP8, hM8, hD8⟩
    clear k7 q7 T7 hP
    -- for turn in range(5)
    refine ⟨fun σ G => ∃ v6 v7 v8 v9 v10 v13, σ = [some (.ref q), some (.ref l), some (.int h), some (.int b), some (.ref t), some (.ref cl), v6, v7, v8, v9, v10, some (.ref m), some x, v13, some y] ∧ Keep q (ntb H) (ntb G) ∧ Tabs (TL1 "_law_right" PR) G ∧ Same (Zq q G8) (Zq q G), ?_, ?_⟩
    · refine ⟨_, rfl, by decide, by decide, ?_⟩
      refine for_range (lo := 0) (n := 5) (fun i σ G => ∃ v6 v7 v8 v9 v10 v13, σ = [some (.ref q), some (.ref l), some (.int h), some (.int b), some (.ref t), some (.ref cl), v6, v7, v8, v9, v10, some (.ref m), some x, v13, some y] ∧ Keep q (ntb H) (ntb G) ∧ Tabs (TL1 "_law_right" PR) G ∧ QAt G q (100 + 50 * i) ∧ Same (Zq q G8) (Zq q G)) ⟨none, none, none, none, none, none, rfl, k8, T8, q8, Same.refl _⟩ ?_ ?_
      · rintro i σ Ga hi ⟨v6, v7, v8, v9, v10, v13, rfl, ka, Ta, qa, sa⟩
        -- i, j = spot(q, high), spot(q, broad)
        refine ⟨_, rfl, _, rfl, q, 100 + 50 * i, h, rfl, qa, by omega, h0, by omega, fun xi ti oi H1 k1 q1 hi1 => ?_⟩
        refine ⟨_, rfl, _, rfl, q, 100 + 50 * i + 21, b, rfl, q1, by omega, b0, by omega, fun xj tj oj H2 k2 q2 hj2 => ?_⟩
        refine ⟨by show 2 ≤ sizeLine; decide, fun p hp => ⟨p, _, rfl, SqT.of upd_same, rfl, _, _, rfl, _, _, rfl, rfl, ?_⟩⟩
        have hvI := hi1.same (zq_keep (k2.new (o := .tup [xi, xj]) hp))
        have hvJ := hj2.same (zq_keep (Keep.refl.new (o := .tup [xi, xj]) hp))
        have kb : Keep q Ga (upd H2 p (.tup [xi, xj])) := (k1.trans k2).new hp
        have qb := q2.new (o := .tup [xi, xj]) hp
        have Tb1 := tabs_keep Ta qa.lst.choose_spec kb
        have sb := sa.trans (zq_keep kb)
        have kc := ka.trans (nt_keep kb)
        clear ka Ta qa sa kb k1 k2 q1 hi1 hj2
        generalize upd H2 p (.tup [xi, xj]) = G1 at *
        clear hp q2
        obtain ⟨si, hsi⟩ := hvI.th
        obtain ⟨sj, hsj⟩ := hvJ.th
        -- due = ("index", repr((i, j)))
        refine ⟨_, rfl, _, rfl, by show 2 ≤ sizeLine; decide, fun a1 ha1 => ?_⟩
        have two : ∀ {G : Hp} {a : Addr}, Same (Zq q G1) (Zq q G) → QAt G q (100 + 50 * i + 42) → G a = none → Sho K C (upd G a (.tup [xi, xj])) (.ref a) (tupleText [ti, tj]) := fun {G a} s qg ha =>
          (((thing_tup2 O (hsi.same s) (hsj.same s) (zq_none ha) (zq_nt (nt_mono (MG.Same.new (Same.refl G) ha))) (zq_new ha (qg.ne ha))).same zq_to).sho (by decide) (by decide))
        have asc2 : Asc (tupleText [ti, tj]) := by
          rw [tupleText_two]
          exact asc_append (asc_append (asc_of _ (by decide +kernel)) (asc_append (asc_append hsi.asc (asc_of _ (by decide +kernel))) hsj.asc)) (asc_of _ (by decide +kernel))
        obtain ⟨as, k', sh, ln, hk⟩ := two (Same.refl _) qb ha1
        generalize tupleText [ti, tj] = tx at *
        refine ⟨_, as, k', tx, rfl, sh, ln, by omega, fun H3 s3 => ⟨by show 2 ≤ sizeLine; decide, fun pd hpd => ?_⟩⟩
        have s4 : Same G1 (upd H3 pd (.tup [.str "index", .str tx])) := ((MG.Same.new (Same.refl G1) ha1).trans s3).trans (MG.Same.new (Same.refl _) hpd)
        have e4 : (upd H3 pd (.tup [.str "index", .str tx])) pd = some (.tup (tw (("index" : Str), tx))) := upd_same
        generalize upd H3 pd (.tup [.str "index", .str tx]) = G2 at *
        clear sh ln hk s3 ha1 hpd
        -- if whole and in range: due = ("told", digits(cells[i][j]))
        refine ⟨fun σ G => ∃ pd, σ = [some (.ref q), some (.ref l), some (.int h), some (.int b), some (.ref t), some (.ref cl), some (.int (0 + (i : Int))), some (.ref pd), v8, some xi, some xj, some (.ref m), some x, v13, some y] ∧ Same G1 G ∧ G pd = some (.tup (tw (giT h b (qv A u) oi oj tx))), ?_, ?_⟩
        · have no : (ixB h oi && ixB b oj) = false → giT h b (qv A u) oi oj tx = (("index" : Str), tx) := fun z => by
            unfold giT
            rw [if_neg (by rw [z]; decide)]
          have sZ : Same (Zq q G1) G2 := (zq_nt (nt_mono s4)).trans zq_to
          refine ⟨_, rfl, xi, oi.isSome, rfl, (hvI.io.same sZ).whole, _, rfl, ?_⟩
          cases oi with
          | none => exact ifF rfl ⟨pd, rfl, s4, by rw [no rfl]; exact e4⟩
          | some ii =>
          cases (show xi = .int ii from hvI.io)
          refine ifT rfl ⟨_, rfl, xj, oj.isSome, rfl, (hvJ.io.same sZ).whole, _, rfl, ?_⟩
          cases oj with
          | none => exact ifF rfl ⟨pd, rfl, s4, by rw [no (Bool.and_false _)]; exact e4⟩
          | some jj =>
          cases (show xj = .int jj from hvJ.io)
          refine ifT rfl ?_
          have gi : ∀ z1 z2 : Bool, (decide (0 ≤ ii) && decide (ii < (h : Int))) = z1 → (decide (0 ≤ jj) && decide (jj < (b : Int))) = z2 → (ixB h (some ii) && ixB b (some jj)) = (z1 && z2) := fun z1 z2 e1 e2 => by
            show ((decide (0 ≤ ii) && decide (ii < (h : Int))) && (decide (0 ≤ jj) && decide (jj < (b : Int)))) = _
            rw [e1, e2]
          refine ⟨_, rfl, _, _, rfl, rfl, _, rfl, ?_⟩
          by_cases i0 : 0 ≤ ii
          case neg => exact ifF (decide_eq_false i0) ⟨_, rfl, ifF rfl ⟨pd, rfl, s4, by rw [no (by rw [gi false _ (by rw [decide_eq_false i0]; rfl) rfl]; rfl)]; exact e4⟩⟩
          case pos =>
          refine ifT (decide_eq_true i0) ⟨_, rfl, _, _, rfl, rfl, _, rfl, ?_⟩
          by_cases i1 : ii < (h : Int)
          case neg => exact ifF (decide_eq_false i1) ⟨pd, rfl, s4, by rw [no (by rw [gi false _ (by rw [decide_eq_false i1, Bool.and_false]) rfl]; rfl)]; exact e4⟩
          case pos =>
          refine ifT (decide_eq_true i1) ⟨_, rfl, _, _, rfl, rfl, _, rfl, ?_⟩
          by_cases j0 : 0 ≤ jj
          case neg => exact ifF (decide_eq_false j0) ⟨_, rfl, ifF rfl ⟨pd, rfl, s4, by rw [no (by rw [gi _ false rfl (by rw [decide_eq_false j0]; rfl), Bool.and_false])]; exact e4⟩⟩
          case pos =>
          refine ifT (decide_eq_true j0) ⟨_, rfl, _, _, rfl, rfl, _, rfl, ?_⟩
          by_cases j1 : jj < (b : Int)
          case neg => exact ifF (decide_eq_false j1) ⟨pd, rfl, s4, by rw [no (by rw [gi _ false rfl (by rw [decide_eq_false j1, Bool.and_false]), Bool.and_false])]; exact e4⟩
          case pos =>
          refine ifT (decide_eq_true j1) ?_
          have yes : giT h b (qv A u) (some ii) (some jj) tx = (("told" : Str), dg (qv A u ii.toNat jj.toNat)) := by
            unfold giT
            rw [if_pos (by rw [gi true true (by rw [decide_eq_true i0, decide_eq_true i1]; rfl) (by rw [decide_eq_true j0, decide_eq_true j1]; rfl)]; rfl)]
            rfl
          obtain ⟨i2, rfl⟩ := Int.eq_ofNat_of_zero_le i0
          obtain ⟨j2, rfl⟩ := Int.eq_ofNat_of_zero_le j0
          have bq := bd i2 j2 (by omega) (by omega)
          obtain ⟨rs, pp, xs, T2, eD, ei, ep, ej, eT⟩ := (hD8.same (sb.trans sZ)).at (i := i2) (j := j2) (by omega) (by omega)
          refine ⟨_, rfl, _, rfl, cl, _, _, _, rfl, rfl, SqL.of eD, atI_nat ei, _, rfl, pp, _, _, _, rfl, rfl, SqL.of ep, atI_nat ej, T2, qv A u i2 j2, rfl, SqT.of eT, bq.num (by decide), bq.den (by decide), by show 2 ≤ sizeLine; decide, fun p2 hp2 => ?_⟩
          exact ⟨p2, rfl, s4.trans (MG.Same.new (Same.refl _) hp2), by rw [yes]; exact upd_same⟩
        rintro _ G3 ⟨pd, rfl, s3, ed⟩
        clear s4 e4
        have T3 := tabs_same Tb1 s3
        have z3 : Same (Zq q G1) (Zq q G3) := zq_nt (nt_mono s3)
        have k3 := kc.same (nt_mono s3)
        have q3 := qb.keep s3
        -- if asked(lambda: mine[i, j]) != due
        refine ⟨fun σ G => σ = [some (.ref q), some (.ref l), some (.int h), some (.int b), some (.ref t), some (.ref cl), some (.int (0 + (i : Int))), some (.ref pd), v8, some xi, some xj, some (.ref m), some x, v13, some y] ∧ Same (ntb G3) (ntb G) ∧ Tabs (TL1 "_law_right" PR) G, ?_, ?_⟩
        · refine ⟨T3, fun H4 e4 T4 => ⟨giT h b (qv A u) oi oj tx, _, rfl, _, rfl, _, rfl, by show 2 ≤ sizeLine; decide, fun a2 ha2 => ?_⟩⟩
          have n4 := nt_ext e4
          have z4 : Same (Zq q G1) (Zq q H4) := z3.trans (zq_nt n4)
          have q4 : QAt H4 q (100 + 50 * i + 42) := ((QAt.nt q3).keep n4).keep nt_same
          have sn := MG.Same.new (o := .tup [xi, xj]) (Same.refl H4) ha2
          have inn := (z4.trans zq_to).trans sn
          have hM4 := hM8.same (sb.trans inn)
          obtain ⟨dm, tm, em, _⟩ := id hM4
          refine ⟨m, dm, _, rfl, em, as_get hM4 h0 (bd.mono (by decide)) upd_same (hvI.io.same inn) (hvJ.io.same inn) (two z4 q4 ha2) fun p5 G5 s5 e5 => ?_⟩
          have s6 := sn.trans s5
          have ed5 : G5 pd = some (.tup (tw (giT h b (qv A u) oi oj tx))) := s6 _ _ (e4 _ _ ed (by intro _; nofun))
          obtain ⟨d, e, w1, w2, w3, w4, w5⟩ := ne_tw (K := K) e5 ed5 (giT_ok asc2)
          exact ⟨_, rfl, d, e, w1, w2, w3, w4, _, rfl, ifF w5 ⟨rfl, n4.trans (nt_mono s6), tabs_same T4 s6⟩⟩
        rintro _ G4 ⟨rfl, n4, T4⟩
        have z4 : Same (Zq q G1) (Zq q G4) := z3.trans (zq_nt n4)
        have q4 : QAt G4 q (100 + 50 * i + 42) := ((QAt.nt q3).keep n4).keep nt_same
        have k4 := k3.same n4
        clear T3 z3 k3 q3 n4 ed s3 Tb1 kc qb
        have hI := hsi.same z4
        have hJ := hsj.same z4
        -- thing = [i, (i,), (i, j, 0), [0, 0], (), "00", (0, None)][draw(q, 7)]
        refine ⟨_, rfl, _, rfl, by show 1 ≤ sizeLine; decide, fun t1 ht1 => ?_⟩
        have s5 := MG.Same.new (o := .tup [xi]) (Same.refl G4) ht1
        obtain ⟨x1, o1, w1⟩ := thing_mk (K := K) (C := C) (n := 2000) (k := 8) (xs := [xi]) ht1 (q4.ne ht1) (by simp) fun n v hv => by
          obtain rfl : v = xi := by simpa using List.mem_of_getElem? hv
          exact ⟨ti, si, hI⟩
        refine ⟨_, rfl, _, rfl, by show 3 ≤ sizeLine; decide, fun t2 ht2 => ?_⟩
        have s6 := MG.Same.new (o := .tup [xi, xj, .int 0]) (Same.refl _) ht2
        obtain ⟨x2, o2, w2⟩ := thing_mk (K := K) (C := C) (n := 2000) (k := 8) (xs := [xi, xj, .int 0]) ht2 ((q4.keep s5).ne ht2) (by simp) fun n v hv => by
          have hv := List.mem_of_getElem? hv
          simp only [List.mem_cons, List.not_mem_nil, or_false] at hv
          rcases hv with rfl | rfl | rfl
          · exact ⟨ti, si, hI.same (zq_nt (nt_mono s5))⟩
          · exact ⟨tj, sj, hJ.same (zq_nt (nt_mono s5))⟩
          · exact ⟨_, _, (thing_int (by decide)).le (by decide) (by decide)⟩
        refine ⟨by show 2 ≤ sizeLine; decide, fun t3 ht3 => ?_⟩
        have s7 := MG.Same.new (o := .lst [.int 0, .int 0]) (Same.refl _) ht3
        obtain ⟨x3, o3, w3⟩ := thing_mkl (K := K) (C := C) (n := 2000) (k := 8) (xs := [.int 0, .int 0]) O ht3 (((q4.keep s5).keep s6).ne ht3) (by simp) fun n v hv => by
          obtain rfl : v = .int 0 := by simpa using List.mem_of_getElem? hv
          exact ⟨_, _, (thing_int (by decide)).le (by decide) (by decide)⟩
        refine ⟨by show 0 ≤ sizeLine; decide, fun t4 ht4 => ?_⟩
        have s8 := MG.Same.new (o := .tup []) (Same.refl _) ht4
        obtain ⟨x4, o4, w4⟩ := thing_mk (K := K) (C := C) (n := 2000) (k := 8) (xs := []) ht4 ((((q4.keep s5).keep s6).keep s7).ne ht4) (by simp) fun n v hv => by simp at hv
        refine ⟨by show 2 ≤ sizeLine; decide, fun t5 ht5 => ?_⟩
        have s9 := MG.Same.new (o := .tup [.int 0, .non]) (Same.refl _) ht5
        obtain ⟨x5, o5, w5⟩ := thing_mk (K := K) (C := C) (n := 2000) (k := 8) (xs := [.int 0, .non]) ht5 (((((q4.keep s5).keep s6).keep s7).keep s8).ne ht5) (by simp) fun n v hv => by
          have hv := List.mem_of_getElem? hv
          simp only [List.mem_cons, List.not_mem_nil, or_false] at hv
          rcases hv with rfl | rfl
          · exact ⟨_, _, (thing_int (by decide)).le (by decide) (by decide)⟩
          · exact ⟨_, _, (thing_non O).le (by decide) (by decide)⟩
        refine ⟨by show 7 ≤ sizeLine; decide, fun l7 hl7 => ?_⟩
        have s10 := MG.Same.new (o := .lst [xi, .ref t1, .ref t2, .ref t3, .ref t4, .str "00", .ref t5]) (Same.refl _) hl7
        have e7 : (upd (upd (upd (upd (upd (upd G4 t1 (.tup [xi])) t2 (.tup [xi, xj, .int 0])) t3 (.lst [.int 0, .int 0])) t4 (.tup [])) t5 (.tup [.int 0, .non])) l7 (.lst [xi, .ref t1, .ref t2, .ref t3, .ref t4, .str "00", .ref t5])) l7 = some (.lst [xi, .ref t1, .ref t2, .ref t3, .ref t4, .str "00", .ref t5]) := upd_same
        have sA := ((((s5.trans s6).trans s7).trans s8).trans s9).trans s10
        replace w1 := w1.same (zq_nt (nt_mono ((((s6.trans s7).trans s8).trans s9).trans s10)))
        replace w2 := w2.same (zq_nt (nt_mono (((s7.trans s8).trans s9).trans s10)))
        replace w3 := w3.same (zq_nt (nt_mono ((s8.trans s9).trans s10)))
        replace w4 := w4.same (zq_nt (nt_mono (s9.trans s10)))
        replace w5 := w5.same (zq_nt (nt_mono s10))
        have np : l7 ≠ q := (((((q4.keep s5).keep s6).keep s7).keep s8).keep s9).ne hl7
        generalize upd (upd (upd (upd (upd (upd G4 t1 (.tup [xi])) t2 (.tup [xi, xj, .int 0])) t3 (.lst [.int 0, .int 0])) t4 (.tup [])) t5 (.tup [.int 0, .non])) l7 (.lst [xi, .ref t1, .ref t2, .ref t3, .ref t4, .str "00", .ref t5]) = G5 at *
        clear s5 s6 s7 s8 s9 s10 ht1 ht2 ht3 ht4 ht5 hl7
        refine ⟨_, rfl, q, 7, 100 + 50 * i + 42, rfl, q4.keep sA, by omega, by decide, by decide, fun r6 G6 a6 b6 k6 q6 => ?_⟩
        have z6 : Same (Zq q G5) (Zq q G6) := zq_keep k6
        have e7' := k6 _ _ e7 np
        have pick : ∃ v, atI [xi, .ref t1, .ref t2, .ref t3, .ref t4, .str "00", .ref t5] r6 = some v ∧ ∃ tz sz, Thing K C (Zq q G6) v tz sz 10000 12 := by
          have cs : r6 = 0 ∨ r6 = 1 ∨ r6 = 2 ∨ r6 = 3 ∨ r6 = 4 ∨ r6 = 5 ∨ r6 = 6 := by omega
          rcases cs with rfl | rfl | rfl | rfl | rfl | rfl | rfl
          · exact ⟨_, rfl, _, _, ((hI.same (zq_nt (nt_mono sA))).same z6).le (by decide) (by decide)⟩
          · exact ⟨_, rfl, _, _, (w1.same z6).le (by show (2000 + 2) * 1 + 3 ≤ 10000; decide) (by decide)⟩
          · exact ⟨_, rfl, _, _, (w2.same z6).le (by show (2000 + 2) * 3 + 3 ≤ 10000; decide) (by decide)⟩
          · exact ⟨_, rfl, _, _, (w3.same z6).le (by decide) (by decide)⟩
          · exact ⟨_, rfl, _, _, (w4.same z6).le (by decide) (by decide)⟩
          · exact ⟨_, rfl, _, _, (thing_str O (asc_of "00" (by decide +kernel)) (by decide)).le (by decide) (by decide)⟩
          · exact ⟨_, rfl, _, _, (w5.same z6).le (by decide) (by decide)⟩
        obtain ⟨v, hv, tz, sz, hz⟩ := pick
        refine ⟨l7, _, _, v, rfl, rfl, SqL.of e7', hv, ?_⟩
        have T6 := tabs_keep (tabs_same T4 sA) (q4.keep sA).lst.choose_spec k6
        have z7 : Same (Zq q G1) (Zq q G6) := (z4.trans (zq_nt (nt_mono sA))).trans z6
        have k7 := k4.trans (nt_keep ((Same.keep sA).trans k6))
        have q7 : QAt G6 q (100 + 50 * i + 43) := q6
        clear w1 w2 w3 w4 w5 hI hJ e7 e7' hv z6 sA q4 T4 z4 k4 k6 q6
        -- has_two = isinstance(thing, tuple) and len(thing) == 2; if not has_two and asked(lambda: mine[thing]) != ("index", repr(thing))
        have fin : ∀ {v7 v8 : Option V} {G : Hp}, Same (ntb G6) (ntb G) → Tabs (TL1 "_law_right" PR) G → ∃ u6 u7 u8 u9 u10 u13, [some (.ref q), some (.ref l), some (.int h), some (.int b), some (.ref t), some (.ref cl), some (.int (0 + (i : Int))), v7, v8, some xi, some xj, some (.ref m), some x, some v, some y] = [some (.ref q), some (.ref l), some (.int h), some (.int b), some (.ref t), some (.ref cl), u6, u7, u8, u9, u10, some (.ref m), some x, u13, some y] ∧ Keep q (ntb H) (ntb G) ∧ Tabs (TL1 "_law_right" PR) G ∧ QAt G q (100 + 50 * (i + 1)) ∧ Same (Zq q G8) (Zq q G) :=
          fun s tt => ⟨_, _, _, _, _, _, rfl, k7.same s, tt, QAt.le (((QAt.nt q7).keep s).keep nt_same) (by omega), (sb.trans z7).trans (zq_nt s)⟩
        have kd : NotT K (Zq q G6) v ∨ ∃ a xs, v = .ref a ∧ (Zq q G6) a = some (.tup xs) := by
          cases hz.kd with
          | num _ _ n => exact .inl n
          | oth _ n => exact .inl n
          | tup e _ _ _ => exact .inr ⟨_, _, rfl, e⟩
        rcases kd with nT | ⟨a, xs, rfl, et⟩
        · obtain ⟨ty, tx1, kt⟩ := nT.same zq_to
          refine ⟨_, rfl, v, _, ty, _, false, rfl, .ty "tuple", tx1, kt, _, rfl, iteF ?_⟩
          refine ⟨_, rfl, _, rfl, ifT rfl ?_⟩
          refine ⟨T6, fun H7 e7 T7 => ⟨(("index" : Str), tz), _, rfl, _, rfl, ?_⟩⟩
          have n7 := nt_ext e7
          have z8 : Same (Zq q G6) H7 := (zq_nt n7).trans zq_to
          have hM7 := hM8.same ((sb.trans z7).trans z8)
          obtain ⟨dm, tm, em, _⟩ := id hM7
          have hz7 := hz.same z8
          refine ⟨m, dm, _, rfl, em, as_odd hM7 h0 (.inl (nT.same z8)) (hz7.sho (by decide) (by decide)) fun p5 G5 s5 e5 => ?_⟩
          obtain ⟨as, k', sh, ln, hk⟩ := (hz7.same s5).sho (by decide) (by decide)
          refine ⟨_, rfl, _, as, k', tz, rfl, sh, ln, by omega, fun H8 s8 => ⟨by show 2 ≤ sizeLine; decide, fun p6 hp6 => ?_⟩⟩
          have s9 := s8.trans (MG.Same.new (o := .tup [.str "index", .str tz]) (Same.refl H8) hp6)
          obtain ⟨d, e, w1, w2, w3, w4, w5⟩ := ne_tw (K := K) (r := (("index" : Str), tz)) (s9 _ _ e5) upd_same ⟨asc_ok (asc_of _ (by decide +kernel)), asc_ok hz.asc⟩
          exact ⟨d, e, w1, w2, w3, w4, _, rfl, ifF w5 (fin (n7.trans (nt_mono (s5.trans s9))) (tabs_same T7 (s5.trans s9)))⟩
        · have etG := zq_to _ _ et
          refine ⟨_, rfl, .ref a, _, _, _, true, rfl, .ty "tuple", .base (.tup etG), kit_ty (by decide +kernel), _, rfl, iteT ?_⟩
          refine ⟨_, rfl, a, _, rfl, .inr (SqT.of etG), rfl, ?_⟩
          by_cases l2 : xs.length = 2
          case pos =>
            rw [show decide (V.int (xs.length : Int) = V.int 2) = true by rw [l2]; rfl]
            exact ⟨_, rfl, _, rfl, ifF rfl (fin (fun _ _ h => h) T6)⟩
          case neg =>
          rw [show decide (V.int (xs.length : Int) = V.int 2) = false from decide_eq_false fun z => l2 (by have := V.int.inj z; omega)]
          refine ⟨_, rfl, _, rfl, ifT rfl ?_⟩
          refine ⟨T6, fun H7 e7 T7 => ⟨(("index" : Str), tz), _, rfl, _, rfl, ?_⟩⟩
          have n7 := nt_ext e7
          have z8 : Same (Zq q G6) H7 := (zq_nt n7).trans zq_to
          have hM7 := hM8.same ((sb.trans z7).trans z8)
          obtain ⟨dm, tm, em, _⟩ := id hM7
          have hz7 := hz.same z8
          refine ⟨m, dm, _, rfl, em, as_odd hM7 h0 (.inr ⟨a, xs, rfl, z8 _ _ et, l2⟩) (hz7.sho (by decide) (by decide)) fun p5 G5 s5 e5 => ?_⟩
          obtain ⟨as, k', sh, ln, hk⟩ := (hz7.same s5).sho (by decide) (by decide)
          refine ⟨_, rfl, _, as, k', tz, rfl, sh, ln, by omega, fun H8 s8 => ⟨by show 2 ≤ sizeLine; decide, fun p6 hp6 => ?_⟩⟩
          have s9 := s8.trans (MG.Same.new (o := .tup [.str "index", .str tz]) (Same.refl H8) hp6)
          obtain ⟨d, e, w1, w2, w3, w4, w5⟩ := ne_tw (K := K) (r := (("index" : Str), tz)) (s9 _ _ e5) upd_same ⟨asc_ok (asc_of _ (by decide +kernel)), asc_ok hz.asc⟩
          exact ⟨d, e, w1, w2, w3, w4, _, rfl, ifF w5 (fin (n7.trans (nt_mono (s5.trans s9))) (tabs_same T7 (s5.trans s9)))⟩
      · rintro σ G ⟨v6, v7, v8, v9, v10, v13, rfl, ka, Ta, qa, sa⟩
        exact ⟨v6, v7, v8, v9, v10, v13, rfl, ka, Ta, sa⟩
    rintro _ G9 ⟨v6, v7, v8, v9, v10, v13, rfl, k9, T9, s9⟩
    -- return is(mine, pair)
    refine ⟨fun _ _ => False, ⟨_, rfl, _, rfl, m, t, h, b, _, A, u, rfl, hM8.same (s9.trans zq_to), hP8.same (s9.trans zq_to), by omega, by omega, u0, su, bd.mono (by decide), fun _ _ _ _ => rfl, fun H1 s1 => ?_⟩, fun _ _ z => z.elim⟩
    exact k H1 (k9.same (nt_mono s1)) (tabs_same T9 s1)
end
end Lw

namespace Lw
set_option autoImplicit false
open PySem PySem.Spec PyProof.Rows L2 MG TL LamX
section
variable {P : Program} {w : World} {K : PySem.W.Frag} {mg : Str → Option Value} {base : Heap} {C CM CZ CI : Addr}
def TL2 (PL PR : Addr) : List (Addr × Str) := [(PL, (("law" : Str) ++ (".<locals>." : Str)) ++ ("<lambda>" : Str)), (PR, (("_law_right" : Str) ++ (".<locals>." : Str)) ++ ("<lambda>" : Str))]
theorem hu2 {PL PR : Addr} (ne : PL ≠ PR) : ∀ p ∈ TL2 PL PR, p.1 = PL → p.2 = (("law" : Str) ++ (".<locals>." : Str)) ++ ("<lambda>" : Str) := fun p hp e => by
  rcases List.mem_cons.mp hp with rfl | hp
  · rfl
  · cases List.mem_singleton.mp hp
    exact absurd e.symm ne
def spLaw (K : PySem.W.Frag) (PL PR : Addr) : Sp := fun vs H Q _ => ∃ (a : Addr) (ns : List Int), vs = [.ref a] ∧ SqL K H a (ns.map V.int) ∧ ns.length ≤ 63 ∧ Tabs (TL2 PL PR) H ∧ ∀ H', Q (.bl true) H'
theorem vl_but {H : Hp} {x : V} {t : Str} {o : Option Int} (h : Vl K C H x t o) (n : ∀ i, x ≠ .int i) : Vl K C H x t none := by
  cases o with
  | none => exact h
  | some i => exact absurd h.io (n i)
theorem zeT0 : zeT (some 0) (toString (0 : Int)) none "None" = (("size" : Str), ("0" : Str)) := by
  unfold zeT
  rw [if_neg (by decide)]
  rfl
theorem eyTt : eyT none "True" = (("size" : Str), ("True" : Str)) := by
  unfold eyT
  rw [if_neg (by decide)]
theorem sc_law : FnScope ["_law_script", "_law_k"] ["_law_script"] (defScope s_law) := ⟨rfl, rfl, rfl, by decide +kernel, rfl, by decide +kernel, by decide +kernel⟩
theorem ok_law {f cL PL PR gA : Addr} {fd fA : FuncData} {cdA : Value} (F : FunC K "law" "law" s_law f fd cL) (TB : TabB base mg cL PL) (nP : PL ≠ PR) (AK : AskC K mg "_law_asked" "_law_act" s__law_asked gA fA cdA) (T : TxM K mg C CM) (O : Others K C) (x_ixe : XiC P w K mg base CI) (x_siz : XzC P w K mg base CZ) (nIZ : PySem.W.exmOne K (.ref CZ) (.ref CI) = some false)
    (d_str : DunF P w K mg base 2 C "__str__" (spStr C)) (d_mstr : MStrD P w K mg base C CM) (d_reprH : OwnH P w K mg base (ownR C) 2) (m_eye : EyeM P w K mg base C CM CZ) (m_zero : ZeroM P w K mg base C CM CZ) (c_from : CalG P w K mg base 4 "_law_from" (spFrom K) []) (c_right : CalG P w K mg base 24 "_law_right" (spRight (TL1 "_law_right" PR)) []) :
    FnG P w K mg base CX0 26 f fd ["_law_script"] (spLaw K PL PR) := by
  refine fun_okGC F sc_law (fun vs H Q E h => ?_) (fun A' outer s H vs Q E bare hr h => ?_)
  · obtain ⟨a, ns, rfl, _⟩ := h
    rfl
  · obtain ⟨a, ns, rfl, hS, hl, hT, k⟩ := h
    have hu64 := hr.units
    refine ⟨_, (pss_cons (ps_cut (ps_if (pt_cmpR (op_neD hu64) (pe_ask (T := (TL2 PL PR)) (k := 20) AK rfl sc__law_asked rfl (Or.inl rfl) (asked_gives (by decide) bare T x_ixe x_siz nIZ d_str d_mstr d_reprH) TB rfl (List.mem_cons_self) (hu2 nP) hr (by decide) (lamS_by (sc := (defScope s_law)) (by decide +kernel)) rfl (fun _ _ _ _ _ => rfl) (fun A outer s H E f c1 hr => (pe_cmtX m_zero hr (by decide) lamN_takes (pe_glob (v := V.ref CM) rfl T.g_Matrix rfl) (pa_cons pe_int (pa_cons pe_non pa_nil))))) (pe_tup (pa_cons pe_str (pa_cons pe_str pa_nil))) (nomark _)) (pss_one (ps_ret pe_bl))
  pss_nil))
  (pss_cons (ps_cut (ps_if (pt_cmpR (op_neD hu64) (pe_ask (T := (TL2 PL PR)) (k := 20) AK rfl sc__law_asked rfl (Or.inl rfl) (asked_gives (by decide) bare T x_ixe x_siz nIZ d_str d_mstr d_reprH) TB rfl (List.mem_cons_self) (hu2 nP) hr (by decide) (lamS_by (sc := (defScope s_law)) (by decide +kernel)) rfl (fun _ _ _ _ _ => rfl) (fun A outer s H E f c1 hr => (pe_cmtX m_eye hr (by decide) lamN_takes (pe_glob (v := V.ref CM) rfl T.g_Matrix rfl) (pa_cons pe_bl pa_nil)))) (pe_tup (pa_cons pe_str (pa_cons pe_str pa_nil))) (nomark _)) (pss_one (ps_ret pe_bl))
  pss_nil))
  (pss_one (ps_ret (pe_callB (id := "all") (cr_allK (K := K) rfl) (by rfl) T.b_all (by decide +kernel) (pa_cons (pe_lcI (pe_lc (own := [("_law_k", 1)]) rfl sc_law.nd (pi_range1 (by rfl) T.b_range (pa_cons (pe_callB (id := "max") (call_max2 rfl) (by rfl) T.b_max (by decide +kernel) (pa_cons pe_int (pa_cons (pe_callB (id := "min") (call_min2 rfl) (by rfl) T.b_min (by decide +kernel) (pa_cons (pe_callB (id := "len") (call_len_seqK (K := K)) (by rfl) T.b_len (by decide +kernel) (pa_cons (pv 0) pa_nil)) (pa_cons pe_int pa_nil))) pa_nil))) pa_nil)) (blkOk_by (N := ["_law_script", "_law_k"]) (sc := (defScope s_law)) (by decide +kernel)) (fun _ _ _ _ _ => (pg_name (i := 1) sc_law.nd rfl (Or.inl rfl))) (fun _ _ _ _ _ => pts_nil) (fun _ _ _ _ _ => (pe_cut (pe_cg c_right bare hr (by decide) rfl (pa_cons (pe_cg c_from bare hr (by decide) rfl (pa_cons (pv 0) (pa_cons (pv 1) pa_nil))) pa_nil)))))) pa_nil)))))), ?_⟩
    -- if asked(lambda: Matrix.zero(0, None)) != ("size", "0")
    refine ⟨fun σ G => σ = [some (.ref a), none] ∧ Same (ntb H) (ntb G) ∧ Tabs (TL2 PL PR) G, ?_, ?_⟩
    · refine ⟨hT, fun H1 e1 T1 => ?_⟩
      obtain ⟨o2, v2⟩ : ∃ o2, Vl K C H1 .non "None" o2 := vl_of T.toTxR ((thing_non O).le (by decide) (by decide))
      refine ⟨zeT (some 0) (toString (0 : Int)) none "None", rfl, as_zero (vl_int (i := 0) (by decide)) (vl_but v2 nofun) (fun i e => by cases e; decide) nofun fun p G s e => ?_⟩
      refine ⟨by show 2 ≤ sizeLine; decide, fun p2 hp2 => ?_⟩
      have s2 := MG.Same.new (o := .tup [.str "size", .str "0"]) (Same.refl G) hp2
      rw [zeT0] at e
      obtain ⟨d, e', w1, w2, w3, w4, w5⟩ := ne_tw (K := K) (r := (("size" : Str), ("0" : Str))) (s2 _ _ e) upd_same (by decide +kernel)
      exact ⟨d, e', w1, w2, w3, w4, _, rfl, ifF w5 ⟨rfl, (nt_ext e1).trans (nt_mono (s.trans s2)), tabs_same T1 (s.trans s2)⟩⟩
    rintro _ G1 ⟨rfl, s1, T1⟩
    -- if asked(lambda: Matrix.eye(True)) != ("size", "True")
    refine ⟨fun σ G => σ = [some (.ref a), none] ∧ Same (ntb H) (ntb G) ∧ Tabs (TL2 PL PR) G, ?_, ?_⟩
    · refine ⟨T1, fun H1 e1 T2 => ?_⟩
      obtain ⟨o2, v2⟩ : ∃ o2, Vl K C H1 (.bl true) "True" o2 := vl_of T.toTxR ((thing_bl O true).le (by decide) (by decide))
      refine ⟨eyT none "True", rfl, as_eye (vl_but v2 nofun) nofun fun p G s e => ?_⟩
      refine ⟨by show 2 ≤ sizeLine; decide, fun p2 hp2 => ?_⟩
      have s2 := MG.Same.new (o := .tup [.str "size", .str "True"]) (Same.refl G) hp2
      rw [eyTt] at e
      obtain ⟨d, e', w1, w2, w3, w4, w5⟩ := ne_tw (K := K) (r := (("size" : Str), ("True" : Str))) (s2 _ _ e) upd_same (by decide +kernel)
      exact ⟨d, e', w1, w2, w3, w4, _, rfl, ifF w5 ⟨rfl, (s1.trans (nt_ext e1)).trans (nt_mono (s.trans s2)), tabs_same T2 (s.trans s2)⟩⟩
    rintro _ G2 ⟨rfl, s2, T2⟩
    clear s1 T1
    have T3 : Tabs (TL1 "_law_right" PR) G2 := tabs_sub T2 (fun p hp => by cases List.mem_singleton.mp hp; exact List.mem_cons_of_mem _ List.mem_cons_self)
    have hS2 : SqL K (ntb G2) a (ns.map V.int) := s2.seq (SqL.nt hS)
    have hm : ∃ m : Nat, (m : Int) = (if (if (5 : Int) < ((ns.map V.int).length : Int) then 5 else ((ns.map V.int).length : Int)) > 1 then (if (5 : Int) < ((ns.map V.int).length : Int) then 5 else ((ns.map V.int).length : Int)) else 1) ∧ m ≤ 63 := by
      rw [List.length_map]
      refine ⟨(if (if (5 : Int) < (ns.length : Int) then 5 else (ns.length : Int)) > 1 then (if (5 : Int) < (ns.length : Int) then 5 else (ns.length : Int)) else 1).toNat, ?_, ?_⟩
      · split <;> (try split) <;> omega
      · split <;> (try split) <;> omega
    obtain ⟨m, em, hm⟩ := hm
    refine ⟨_, rfl, a, _, rfl, .inl (nt_same.seq hS2), _, _, rfl, _, _, rfl, _, rfl, ?_, ?_, fun D hD => ?_⟩
    · rw [← em]; omega
    · rw [← em]; omega
    have hh : (if (if (5 : Int) < ((ns.map V.int).length : Int) then 5 else ((ns.map V.int).length : Int)) > 1 then (if (5 : Int) < ((ns.map V.int).length : Int) then 5 else ((ns.map V.int).length : Int)) else 1).toNat = m := by rw [← em]; omega
    rw [hh]
    refine lc_inv (walk_range (lo := 0) (n := m)) hD (by omega) (fun i ys G => Same (ntb G2) (ntb G) ∧ Tabs (TL1 "_law_right" PR) G ∧ ∀ y ∈ ys, y = .bl true) ⟨nt_mono (hid_none hD), tabs_same T3 (hid_none hD), fun y hy => nomatch hy⟩ (fun _ _ _ _ _ _ => True.intro) ?_ ?_
    · rintro i _ ys _ G hi hl2 ⟨sg, tg, hy⟩ eD ⟨rfl, rfl⟩
      have sG := sg.trans (nt_mono (hid_same D G))
      have tG := tabs_same tg (hid_same D G)
      refine ⟨_, fun _ h => h, rfl, ?_⟩
      refine ⟨_, ⟨_, rfl, _, rfl, a, ns, _, rfl, nt_same.seq (sG.seq hS2), by omega, fun q H2 hq s q0 => ⟨q, rfl, q0, tabs_same tG s, fun H3 k2 t3 => ?_⟩⟩, fun y G h => h⟩
      have eD2 := s _ _ eD
      have nq : D ≠ q := fun e => by
        rw [e, hq] at eD
        cases eD
      have eD3 : H3 D = some (.lst ys) := (nt_of (k2 _ _ (nt_some eD2) nq)).1
      have sK : ∀ b o, ntb G b = some o → ntb H3 b = some o := fun b o hb => by
        have nb : b ≠ q := fun e => by
          rw [e, nt_none hq] at hb
          cases hb
        exact k2 _ _ (nt_mono s _ _ hb) nb
      refine ⟨eD3, ?_, tabs_hid t3 eD3, fun y hy' => ?_⟩
      · intro b o hb
        have nb : b ≠ D := fun e => by
          rw [e, nt_none hD] at hb
          cases hb
        have := sK b o (sG _ _ hb)
        exact nt_some (by rw [hid_ne nb]; exact (nt_of this).1) (nt_of this).2
      · rcases List.mem_append.mp hy' with h | h
        · exact hy y h
        · exact List.mem_singleton.mp h
    intro ys H2 hl2 e2 ⟨_, _, hy⟩
    obtain ⟨bs2, hb2, ab2⟩ := all_bl (K := K) e2 fun i y h => hy y (List.mem_of_getElem? h)
    refine ⟨D, bs2, rfl, hb2, ?_⟩
    rw [ab2]
    exact k _
end
end Lw

namespace Lw
open PySem PySem.Spec PyProof.Rows L2 MG
section
variable {P : Program} {w : World} {K : PySem.W.Frag} {mg : Str → Option Value} {base : Heap} {CZ : Addr}
theorem sc_InvalidSize___init__ : FnScope ["self", "given"] ["self", "given"] (defScope s_InvalidSize___init__) := ⟨rfl, rfl, rfl, by decide +kernel, rfl, by decide +kernel, by decide +kernel⟩
theorem ok_xz {f : Addr} {fd : FuncData} (F : Fun K "__init__" "InvalidSize.__init__" s_InvalidSize___init__ f fd) : FnOk P w K mg base CX0 2 f fd ["self", "given"] (spXi K CZ "given") := by
  refine F.ok sc_InvalidSize___init__ (fun vs H Q E h => ?_) (fun cdv A outer s H vs Q E hr h => ?_)
  · obtain ⟨a, y, rfl, _⟩ := h
    rfl
  · obtain ⟨a, y, rfl, T, no, ha, k⟩ := h
    refine ⟨_, (pss_one (ps_ost (pv 0) (pv 1))), ?_⟩
    exact ⟨_, rfl, _, rfl, a, CZ, rfl, T, no, .inl ⟨ha, fun dx n ne => k dx n ne⟩⟩
end
end Lw

/-! the law's call where it makes lambdas: tables of code objects -/
namespace MG
open PySem PySem.Spec PyProof.Rows L2 LamX
/-- the code objects' tables -/
abbrev tabsOf (cs : List (Addr × Addr)) : List Addr := cs.map (·.2)
theorem mem_tabs {cs : List (Addr × Addr)} {p : Addr × Addr} (h : p ∈ cs) : p.2 ∈ tabsOf cs := List.mem_map.mpr ⟨p, h, rfl⟩
/-- what the head's heap says of the makers -/
structure Makers (K : PySem.W.Frag) (mg : Str → Option Value) (cs : List (Addr × Addr)) (h : Heap) : Prop where
  emp : ∀ b, b ∈ tabsOf cs → h.get? b = some { cls := .none, data := .fields #[] }
  non : ∀ b, b ∈ tabsOf cs → K.lookup b = none
  code : ∀ p ∈ cs, PySem.W.CodeHd h p.1 p.2
  bm : ∃ (bm : Addr) (ob : Obj), mg "__builtins__" = some (.ref bm) ∧ bm ≠ builtinsNs ∧ h.get? bm = some ob ∧ ob.cls = .type "module" ∧ ob.dict = some builtinsNs ∧ ob.data = .plain
section
variable {P : Program} {w : World} {K : PySem.W.Frag} {mg mb : Str → Option Value} {k : Nat} {fa a : Addr} {fd : FuncData} {x : Str} {sp : Sp} {s1 : Shared} {vs : List Value} {ns : List Int} {cs : List (Addr × Addr)} {H : Hp}
theorem enterT (KX : K.In s1.heap) (hns : s1.heap.Ns mainGlobals mg) (hb : s1.heap.Ns builtinsNs mb) (hbb : ∀ x : Str, x ≠ "__name__" → mb x = bootBuiltins x) (hlim : s1.heap.NoLimit) (hg : s1.gens = #[])
    (ha : s1.heap.get? a = some { cls := .type "list", data := .seq vs.toArray }) (M : Makers K mg cs s1.heap) (hr : Room k callerA)
    (F : ∀ base : Heap, K.In base → base.Ns mainGlobals mg → (∀ p ∈ cs, TabB base mg p.1 p.2) → FnG P w K mg base CX0 k fa fd [x] sp) (hbind : ∀ (s : Shared) (u : Value), BindsTo s fd ⟨[u], []⟩ [(x, u)])
    (hT : ∀ b, b ∈ tabsOf cs → H b = some (.tbl #[])) (hO : ∀ b, b ∉ tabsOf cs → H b = none ∨ ∃ o xs, H b = some (.frz o (.lst xs))) (hok : HOk P w H s1.heap) (hA : ∀ b, b ∉ tabsOf cs → H b ≠ none → b = a) (hK : H a ≠ none → K.lookup a = none)
    (hsp : sp [.ref a] H (fun v _ => v = .bl true) fun _ _ _ => False) :
    codeAny (model P w) callerA (.call (.ref fa) ⟨[.ref a], []⟩) (fun r t => r = .ok (.ret (.bool true)) ∧ OldK s1.heap t.heap ∧ t.os = s1.os ∧ AllBare t.gens) s1 := by
  -- an object that is neither a list of values nor an empty table isn't tracked
  have free : ∀ {b : Addr} {o : Obj}, s1.heap.get? b = some o → (∀ us n, o.data ≠ .seq us n) → o.data ≠ .fields #[] → H b = none := fun {b o} e z1 z2 => by
    by_cases ht : b ∈ tabsOf cs
    · cases (M.emp b ht).symm.trans e
      exact absurd rfl z2
    · cases q : H b with
      | none => rfl
      | some u =>
        cases hA b ht (by rw [q]; nofun)
        cases ha.symm.trans e
        exact absurd rfl (z1 _ _)
  have stay : ∀ {b : Addr} {o : Obj}, s1.heap.get? b = some o → (∀ us n, o.data ≠ .seq us n) → o.data ≠ .fields #[] → (hidT s1.heap H).get? b = some o := fun e z1 z2 => hidT_get e (free e z1 z2)
  have ns1 : ∀ {b : Addr} {m : Str → Option Value}, s1.heap.Ns b m → (hidT s1.heap H).Ns b m := fun {b m} ⟨o, es, ep, e, d, r⟩ => ⟨o, es, ep, stay e (fun us n z => by rw [d] at z; cases z) (fun z => by rw [d] at z; cases z), d, r⟩
  have inB : K.In (hidT s1.heap H) := fun b o e => hidT_get (KX b o e) (by
    by_cases ht : b ∈ tabsOf cs
    · exact nomatch (M.non b ht).symm.trans e
    · cases q : H b with
      | none => rfl
      | some u =>
        cases hA b ht (by rw [q]; nofun)
        exact nomatch (hK (by rw [q]; nofun)).symm.trans e)
  have TBs : ∀ p ∈ cs, TabB (hidT s1.heap H) mg p.1 p.2 := fun p hp => by
    have e0 := M.emp _ (mem_tabs hp)
    refine ⟨?_, ?_, fun z => ?_⟩
    · obtain ⟨o, us, fl, tf, g1, g2, i1, n1, n2, e1, r1, r2, r3, rest⟩ := M.code p hp
      refine ⟨o, us, fl, tf, g1, g2, i1, n1, n2, stay e1 (fun us n z => by rw [r2] at z; cases z) (fun z => ?_), r1, r2, r3, rest⟩
      rw [r2] at z
      cases z
      simp at r3
    · obtain ⟨bm, ob, b1, b2, b3, b4, b5, b6⟩ := M.bm
      refine ⟨bm, ob, b1, b2, fun q => ?_, fun q => ?_, stay b3 (fun us n z => by rw [b6] at z; cases z) (fun z => by rw [b6] at z; cases z), b4, b5, b6⟩
      · obtain ⟨o, es, ep, e, d, _⟩ := hns
        rw [q] at b3
        cases e.symm.trans b3
        rw [d] at b6
        cases b6
      · rw [q] at b3
        cases e0.symm.trans b3
        cases b6
    · obtain ⟨o, es, ep, e, d, _⟩ := hns
      rw [← z] at e0
      cases e.symm.trans e0
      cases d
  have Md : Mod K mg (hidT s1.heap H) := ⟨inB, ns1 hns, ⟨mb, ns1 hb, hbb⟩, hlim.elim fun mc z => ⟨mc, ns1 z.1, z.2⟩⟩
  have env : Env0 P w K mg (hidT s1.heap H) callerA [] s1 H :=
    { frames := rfl, mod := Md, bs := fun b o e => of_hidT e, bsz := Nat.le_of_eq (hidT_size _ _), funs := trivial, frf := (fun b z => nomatch (show b ∈ ([] : List Addr) from z)), hok := hok, bare := .of_eq hg }
  refine codeAny_mono ((F _ inB (ns1 hns) TBs).run callerA [] s1 H ⟨[.ref a], []⟩ [.ref a] [.ref a] _ _ rfl hr env (hbind s1 (.ref a)) (.cons rfl .nil) hsp) fun r t h => ?_
  match r, h with
  | .error e, h => exact h.elim
  | .ok .next, h => exact h.elim
  | .ok .brk, h => exact h.elim
  | .ok .cont, h => exact h.elim
  | .ok (.ret u), ⟨v, H2, os, bare, un, hok2, rv, hv⟩ =>
    cases (show v = .bl true from hv)
    cases (show u = Value.bool true from rv)
    have old : ∀ b o, b ∉ tabsOf cs → s1.heap.get? b = some o → t.heap.get? b = some o := fun b o nb e => by
      cases q : H b with
      | none => exact un.keep b o e q (fun z => nomatch z) (by simp)
      | some u =>
        obtain ⟨ob, xs, z⟩ := (hO b nb).resolve_left (by rw [q]; nofun)
        exact ((hok2 b _ (un.frzs b ob _ z)).left.trans (hok b _ z).left.symm).trans e
    have grow : ∀ b, b ∈ tabsOf cs → ∃ ms : Array Value, t.heap.get? b = some { cls := .none, data := .fields ms } := fun b hb => by
      obtain ⟨ms, z⟩ := un.tbls b #[] (hT b hb)
      exact ⟨_, hok2 b _ z⟩
    refine ⟨rfl, ⟨fun b o e => ?_, fun b o e => ?_⟩, os, bare⟩
    · by_cases ht : b ∈ tabsOf cs
      · obtain ⟨ms, hm⟩ := grow b ht
        obtain ⟨p, hp, rfl⟩ := List.mem_map.mp ht
        cases (M.emp _ ht).symm.trans e
        exact .inr (.inl ⟨((M.code p hp).tab (M.emp _ ht)).isCodeTable, rfl, #[], ms, rfl, by rw [Array.empty_append]; exact hm⟩)
      · exact .inl (old b o ht e)
    · by_cases ht : b ∈ tabsOf cs
      · exact (grow b ht).elim fun ms z => ⟨_, z⟩
      · exact ⟨o, old b o ht e⟩
theorem callT (KX : K.In s1.heap) (hns : s1.heap.Ns mainGlobals mg) (hb : s1.heap.Ns builtinsNs mb) (hbb : ∀ x : Str, x ≠ "__name__" → mb x = bootBuiltins x) (hlim : s1.heap.NoLimit) (hg : s1.gens = #[])
    (ha : s1.heap.get? a = some { cls := .type "list", data := .seq vs.toArray }) (hi : IntsAre vs ns) (hl : ns.length ≤ sizeLine) (M : Makers K mg cs s1.heap) (hr : Room k callerA)
    (F : ∀ base : Heap, K.In base → base.Ns mainGlobals mg → (∀ p ∈ cs, TabB base mg p.1 p.2) → FnG P w K mg base CX0 k fa fd [x] sp) (hbind : ∀ (s : Shared) (u : Value), BindsTo s fd ⟨[u], []⟩ [(x, u)])
    (hsp : ∀ H : Hp, (∀ b, b ∈ tabsOf cs → H b = some (.tbl #[])) → SqL K H a (ns.map V.int) → sp [.ref a] H (fun v _ => v = .bl true) fun _ _ _ => False) :
    codeAny (model P w) callerA (.call (.ref fa) ⟨[.ref a], []⟩) (fun r t => r = .ok (.ret (.bool true)) ∧ OldK s1.heap t.heap ∧ t.os = s1.os ∧ AllBare t.gens) s1 := by
  classical
  have rv := vals_ints hi
  have lv := hi.length
  have na : a ∉ tabsOf cs := fun z => by
    have e := (M.emp a z).symm.trans ha
    cases e
  let E0 : Hp := fun b => if b ∈ tabsOf cs then some (.tbl #[]) else none
  have t0 : ∀ b, b ∈ tabsOf cs → E0 b = some (.tbl #[]) := fun b z => if_pos z
  have n0 : ∀ b, b ∉ tabsOf cs → E0 b = none := fun b z => if_neg z
  by_cases hk : K.lookup a = none
  · let fz : HO := .frz { cls := .type "list", data := .seq vs.toArray } (.lst (ns.map V.int))
    have t1 : ∀ b, b ∈ tabsOf cs → (upd E0 a fz) b = some (.tbl #[]) := fun b z => by
      rw [upd_ne (fun e : b = a => na (by rw [← e]; exact z))]
      exact t0 b z
    refine enterT (H := upd E0 a fz) KX hns hb hbb hlim hg ha M hr F hbind t1 (fun b nb => ?_) (fun b u z => ?_) (fun b nb z => ?_) (fun _ => hk) (hsp _ t1 (.inl (.inr ⟨_, upd_same⟩)))
    · by_cases e : b = a
      · rw [e]
        exact .inr ⟨_, _, upd_same⟩
      · exact .inl (by rw [upd_ne e]; exact n0 b nb)
    · by_cases e : b = a
      · subst e
        cases (upd_same (H := E0) (a := b) (o := fz)).symm.trans z
        exact ⟨ha, by rw [List.length_map]; exact hl, vs, _, rv, ha⟩
      · rw [upd_ne e] at z
        by_cases ht : b ∈ tabsOf cs
        · cases (t0 b ht).symm.trans z
          exact M.emp b ht
        · exact nomatch (n0 b ht).symm.trans z
    · by_cases e : b = a
      · exact e
      · rw [upd_ne e] at z
        exact absurd (n0 b nb) z
  · obtain ⟨o, e⟩ := Option.ne_none_iff_exists'.mp hk
    cases (KX a o e).symm.trans ha
    refine enterT (H := E0) KX hns hb hbb hlim hg ha M hr F hbind t0 (fun b nb => .inl (n0 b nb)) (fun b u z => ?_) (fun b nb z => absurd (n0 b nb) z) (fun z => absurd (n0 a na) z) (hsp _ t0 (.inr ?_))
    · by_cases ht : b ∈ tabsOf cs
      · cases (t0 b ht).symm.trans z
        exact M.emp b ht
      · exact nomatch (n0 b ht).symm.trans z
    · exact ⟨_, vs.toArray, _, e, rfl, rfl, rfl, by rw [List.size_toArray, lv]; exact hl, by simpa using rv⟩
end
theorem walkT {l : PySem.W.OpenLaw} {n k : Nat} {q : Program} {loose : List Str} {XP : (Str → Option Value) → Heap → Prop} {YP : World → Heap → Prop} {d : DefRec} {K : Params → PySem.W.Frag} {cs : List (Addr × Addr)} {sp : World → Sp} {x : Str}
    (hn : l.most = some n) (hn2 : n ≤ sizeLine) (hdf : d.params.defaults = []) (hr : Room k callerA) (hY : ∀ (w : World) (h : Heap), YP w h → (K w.params).In h ∧ (∀ b, b ∈ tabsOf cs → h.get? b = some { cls := .none, data := .fields #[] }))
    (hN : ∀ (w : World), ∀ b, b ∈ tabsOf cs → (K w.params).lookup b = none) (hC : ∀ (w : World) (h : Heap), (K w.params).In h → ∀ p ∈ cs, PySem.W.CodeHd h p.1 p.2)
    (F : ∀ (w : World) (mg : Str → Option Value) (fa : Addr) (h : Heap), (K w.params).In h → h.Ns mainGlobals mg → mg d.name = some (.ref fa) →
      ∃ fd : FuncData, (∀ (s : Shared) (u : Value), BindsTo s fd ⟨[u], []⟩ [(x, u)]) ∧ ∀ base : Heap, (K w.params).In base → base.Ns mainGlobals mg → (∀ p ∈ cs, TabB base mg p.1 p.2) → FnG l.prog w (K w.params) mg base CX0 k fa fd [x] (sp w))
    (hsp : ∀ (w : World) (H : Hp) (a : Addr) (ns : List Int), ns.length ≤ n → (∀ b, b ∈ tabsOf cs → H b = some (.tbl #[])) → SqL (K w.params) H a (ns.map V.int) → sp w [.ref a] H (fun v _ => v = .bl true) fun _ _ _ => False) :
    PySem.W.WalkO q loose XP YP l.row.toRowW d [] (fun f vs => PySem.call f vs) := by
  refine Att.attach_call hn hdf fun w s₀ s1 mg mb fa o pm cd doc a vs ns G Y ho hd hcd hmg hobj hints hlen hg => ?_
  obtain ⟨inK, hE⟩ := hY w _ Y
  obtain ⟨fd, hb, hF⟩ := F w mg fa _ inK G.T.g hmg
  exact callT inK G.T.g G.T.b G.T.builtins G.T.nolimit hg hobj hints (Nat.le_trans hlen hn2) ⟨hE, hN w, hC w _ inK, G.T.bmain⟩ hr hF hb fun H hH hS => hsp w H a ns hlen hH hS
end MG

namespace Lw
open PySem PySem.Spec PyProof.Rows L2 MG LamX
theorem kit_rc {K : PySem.W.Frag} {D C : Addr} {b : Bool} (h1 : PySem.W.isClsIn K C = true) (h2 : PySem.W.typeIn K (.ref C) = some (.type "type")) (n : D ≠ C) (h : PySem.W.subIn K (.ref D) (.ref C) = some b) : PySem.W.kitOne K (.ref D) (.ref C) = some b := by
  have e : (Value.ref D == Value.ref C) = false := beq_eq_false_iff_ne.mpr fun q => n (by cases q; rfl)
  unfold PySem.W.kitOne
  rw [e]
  show (if ((PySem.W.clsIn K C).isSome && PySem.W.typeIn K (.ref C) == some (.type "type")) = true then PySem.W.subIn K (.ref D) (.ref C) else none) = some b
  have h1' : (PySem.W.clsIn K C).isSome = true := h1
  rw [h1', h2, if_pos (by simp), h]
def gZv (us ws : List Value) : List Value := match us, ws with
  | [c], [a, b] => [c, b, a]
  | _, _ => us ++ ws
theorem gZ_rel {us ws : List V} {us' ws' : List Value} (r1 : Vals us us') (r2 : Vals ws ws') : Vals (gZ us ws) (gZv us' ws') := by
  cases r1 with
  | nil => exact Vals.append .nil r2
  | cons h1 t1 =>
    cases t1 with
    | cons h2 t2 => exact Vals.append (.cons h1 (.cons h2 t2)) r2
    | nil =>
      cases r2 with
      | nil => exact .cons h1 .nil
      | cons h3 t3 =>
        cases t3 with
        | nil => exact .cons h1 (.cons h3 .nil)
        | cons h4 t4 =>
          cases t4 with
          | nil => exact .cons h1 (.cons h4 (.cons h3 .nil))
          | cons h5 t5 => exact .cons h1 (.cons h3 (.cons h4 (.cons h5 t5)))
theorem all_mk {l : PySem.W.OpenLaw} {w : World} {K : PySem.W.Frag} {h : Heap} {mg : Str → Option Value} {fa fD0 fD1 fD2 fD3 fD4 fD5 fD6 fD7 fD8 fD9 fD10 fD11 fD12 fD13 fD14 fD15 fD16 fD17 fD18 fD19 fD20 fD21 fD22 fD23 fD24 fD25 fD26 fD27 fD28 fD29 fD30 fD31 fD32 C CM fM0 fM1 fM2 fM3 fM4 fP0 pP0 fP1 pP1 fP2 pP2 fP3 pP3 fP4 pP4 fI tI : Addr} (X : K.In h) (G : h.Ns mainGlobals mg) (hfa : mg "law" = some (.ref fa))
    {odD0 anD0 : Option Addr} {slD0 : Array (Option Value)} {ocD0 kVD0 dcD0 pmD0 cdD0 ctD0 : Value}
    {odD1 anD1 : Option Addr} {slD1 : Array (Option Value)} {ocD1 kVD1 dcD1 pmD1 cdD1 ctD1 : Value}
    {odD2 anD2 : Option Addr} {slD2 : Array (Option Value)} {ocD2 kVD2 dcD2 pmD2 cdD2 ctD2 : Value}
    {odD3 anD3 : Option Addr} {slD3 : Array (Option Value)} {ocD3 kVD3 dcD3 pmD3 cdD3 ctD3 : Value}
    {odD4 anD4 : Option Addr} {slD4 : Array (Option Value)} {ocD4 kVD4 dcD4 pmD4 cdD4 ctD4 : Value}
    {odD5 anD5 : Option Addr} {slD5 : Array (Option Value)} {ocD5 kVD5 dcD5 pmD5 cdD5 ctD5 : Value}
    {odD6 anD6 : Option Addr} {slD6 : Array (Option Value)} {ocD6 kVD6 dcD6 pmD6 cdD6 ctD6 : Value}
    {odD7 anD7 : Option Addr} {slD7 : Array (Option Value)} {ocD7 kVD7 dcD7 pmD7 cdD7 ctD7 : Value}
    {odD8 anD8 : Option Addr} {slD8 : Array (Option Value)} {ocD8 kVD8 dcD8 pmD8 cdD8 ctD8 : Value}
    {odD9 anD9 : Option Addr} {slD9 : Array (Option Value)} {ocD9 kVD9 dcD9 pmD9 cdD9 ctD9 : Value}
    {odD10 anD10 : Option Addr} {slD10 : Array (Option Value)} {ocD10 kVD10 dcD10 pmD10 cdD10 ctD10 : Value}
    {odD11 anD11 : Option Addr} {slD11 : Array (Option Value)} {ocD11 kVD11 dcD11 pmD11 cdD11 ctD11 : Value}
    {odD12 anD12 : Option Addr} {slD12 : Array (Option Value)} {ocD12 kVD12 dcD12 pmD12 cdD12 ctD12 : Value}
    {odD13 anD13 : Option Addr} {slD13 : Array (Option Value)} {ocD13 kVD13 dcD13 pmD13 cdD13 ctD13 : Value}
    {odD14 anD14 : Option Addr} {slD14 : Array (Option Value)} {ocD14 kVD14 dcD14 pmD14 cdD14 ctD14 : Value}
    {odD15 anD15 : Option Addr} {slD15 : Array (Option Value)} {ocD15 kVD15 dcD15 pmD15 cdD15 ctD15 : Value}
    {odD16 anD16 : Option Addr} {slD16 : Array (Option Value)} {ocD16 kVD16 dcD16 pmD16 cdD16 ctD16 : Value}
    {odD17 anD17 : Option Addr} {slD17 : Array (Option Value)} {ocD17 kVD17 dcD17 pmD17 cdD17 ctD17 : Value}
    {odD18 anD18 : Option Addr} {slD18 : Array (Option Value)} {ocD18 kVD18 dcD18 pmD18 cdD18 ctD18 : Value}
    {odD19 anD19 : Option Addr} {slD19 : Array (Option Value)} {ocD19 kVD19 dcD19 pmD19 cdD19 ctD19 : Value}
    {odD20 anD20 : Option Addr} {slD20 : Array (Option Value)} {ocD20 kVD20 dcD20 pmD20 cdD20 ctD20 : Value}
    {odD21 anD21 : Option Addr} {slD21 : Array (Option Value)} {ocD21 kVD21 dcD21 pmD21 cdD21 ctD21 : Value}
    {odD22 anD22 : Option Addr} {slD22 : Array (Option Value)} {ocD22 kVD22 dcD22 pmD22 cdD22 ctD22 : Value}
    {odD23 anD23 : Option Addr} {slD23 : Array (Option Value)} {ocD23 kVD23 dcD23 pmD23 cdD23 ctD23 : Value}
    {odD24 anD24 : Option Addr} {slD24 : Array (Option Value)} {ocD24 kVD24 dcD24 pmD24 cdD24 ctD24 : Value}
    {odD25 anD25 : Option Addr} {slD25 : Array (Option Value)} {ocD25 kVD25 dcD25 pmD25 cdD25 ctD25 : Value}
    {odD26 anD26 : Option Addr} {slD26 : Array (Option Value)} {ocD26 kVD26 dcD26 pmD26 cdD26 ctD26 : Value}
    {odD27 anD27 : Option Addr} {slD27 : Array (Option Value)} {ocD27 kVD27 dcD27 pmD27 cdD27 ctD27 : Value}
    {odD28 anD28 : Option Addr} {slD28 : Array (Option Value)} {ocD28 kVD28 dcD28 pmD28 cdD28 ctD28 : Value}
    {odD29 anD29 : Option Addr} {slD29 : Array (Option Value)} {ocD29 kVD29 dcD29 pmD29 cdD29 ctD29 : Value}
    {odD30 anD30 : Option Addr} {slD30 : Array (Option Value)} {ocD30 kVD30 dcD30 pmD30 cdD30 ctD30 : Value}
    {odD31 anD31 : Option Addr} {slD31 : Array (Option Value)} {ocD31 kVD31 dcD31 pmD31 cdD31 ctD31 : Value}
    {odD32 anD32 : Option Addr} {slD32 : Array (Option Value)} {ocD32 kVD32 dcD32 pmD32 cdD32 ctD32 : Value}
    {odM0 anM0 : Option Addr} {slM0 : Array (Option Value)} {ocM0 kVM0 dcM0 pmM0 cdM0 ctM0 : Value}
    {odM1 anM1 : Option Addr} {slM1 : Array (Option Value)} {ocM1 kVM1 dcM1 pmM1 cdM1 ctM1 : Value}
    {odM2 anM2 : Option Addr} {slM2 : Array (Option Value)} {ocM2 kVM2 dcM2 pmM2 cdM2 ctM2 : Value}
    {odM3 anM3 : Option Addr} {slM3 : Array (Option Value)} {ocM3 kVM3 dcM3 pmM3 cdM3 ctM3 : Value}
    {odM4 anM4 : Option Addr} {slM4 : Array (Option Value)} {ocM4 kVM4 dcM4 pmM4 cdM4 ctM4 : Value}
    {reP0 : List Value}
    {odP0 anP0 : Option Addr} {slP0 : Array (Option Value)} {ocP0 kVP0 dcP0 pmP0 cdP0 ctP0 : Value}
    {reP1 : List Value}
    {odP1 anP1 : Option Addr} {slP1 : Array (Option Value)} {ocP1 kVP1 dcP1 pmP1 cdP1 ctP1 : Value}
    {reP2 : List Value}
    {odP2 anP2 : Option Addr} {slP2 : Array (Option Value)} {ocP2 kVP2 dcP2 pmP2 cdP2 ctP2 : Value}
    {reP3 : List Value}
    {odP3 anP3 : Option Addr} {slP3 : Array (Option Value)} {ocP3 kVP3 dcP3 pmP3 cdP3 ctP3 : Value}
    {reP4 : List Value}
    {odP4 anP4 : Option Addr} {slP4 : Array (Option Value)} {ocP4 kVP4 dcP4 pmP4 cdP4 ctP4 : Value}
    {odI anI : Option Addr} {slI : Array (Option Value)} {ocI kVI dcI pmI cdI ctI : Value}
    {oT : Obj} {nT : Nat} {kT : Tok}
    {CZ fY CE2 : Addr} {nmY qY : Str} {NY : Addr} {bsY : List Value} {snY : List Str} {subY : List Value} {abY : Bool} {colY : Option Bool} {ddY : Option Addr} {m0Y m1Y m2Y m3Y m5Y : Option Value} {odY anY : Option Addr} {slY : Array (Option Value)} {ocY kVY dcY pmY cdY ctY : Value}
    {CI fW CE3 : Addr} {nmW qW : Str} {NW : Addr} {bsW : List Value} {snW : List Str} {subW : List Value} {abW : Bool} {colW : Option Bool} {ddW : Option Addr} {m0W m1W m2W m3W m5W : Option Value} {odW anW : Option Addr} {slW : Array (Option Value)} {ocW kVW dcW pmW cdW ctW : Value}
    {pRZ fRZ : Addr} {reRZ : List Value} {odRZ anRZ : Option Addr} {slRZ : Array (Option Value)} {ocRZ kVRZ dcRZ pmRZ cdRZ ctRZ : Value}
    {pRE fRE : Addr} {reRE : List Value} {odRE anRE : Option Addr} {slRE : Array (Option Value)} {ocRE kVRE dcRE pmRE cdRE ctRE : Value}
    {cR : Addr}
    {cL : Addr}
    {PL PR : Addr}
    (aD0 : PySem.W.nsIn K mainGlobals "is_whole" = some (some (.ref fD0)))
    (lD0 : K.lookup fD0 = some ⟨ocD0, odD0, .func (PySem.W.fnOf "is_whole" "is_whole" (defArgs s_is_whole) (defBody s_is_whole) (defScope s_is_whole) .none kVD0 dcD0 pmD0 anD0 cdD0 ctD0), slD0⟩)
    (cD0 : PySem.W.codeIn K cdD0 "is_whole" = true)
    (kD0 : PySem.W.keepIn K (.ref fD0) = true)
    (aD1 : PySem.W.nsIn K mainGlobals "is_number" = some (some (.ref fD1)))
    (lD1 : K.lookup fD1 = some ⟨ocD1, odD1, .func (PySem.W.fnOf "is_number" "is_number" (defArgs s_is_number) (defBody s_is_number) (defScope s_is_number) .none kVD1 dcD1 pmD1 anD1 cdD1 ctD1), slD1⟩)
    (cD1 : PySem.W.codeIn K cdD1 "is_number" = true)
    (kD1 : PySem.W.keepIn K (.ref fD1) = true)
    (aD2 : PySem.W.nsIn K mainGlobals "to_ratio" = some (some (.ref fD2)))
    (lD2 : K.lookup fD2 = some ⟨ocD2, odD2, .func (PySem.W.fnOf "to_ratio" "to_ratio" (defArgs s_to_ratio) (defBody s_to_ratio) (defScope s_to_ratio) .none kVD2 dcD2 pmD2 anD2 cdD2 ctD2), slD2⟩)
    (cD2 : PySem.W.codeIn K cdD2 "to_ratio" = true)
    (kD2 : PySem.W.keepIn K (.ref fD2) = true)
    (aD3 : PySem.W.nsIn K mainGlobals "is_table" = some (some (.ref fD3)))
    (lD3 : K.lookup fD3 = some ⟨ocD3, odD3, .func (PySem.W.fnOf "is_table" "is_table" (defArgs s_is_table) (defBody s_is_table) (defScope s_is_table) .none kVD3 dcD3 pmD3 anD3 cdD3 ctD3), slD3⟩)
    (cD3 : PySem.W.codeIn K cdD3 "is_table" = true)
    (kD3 : PySem.W.keepIn K (.ref fD3) = true)
    (aD4 : PySem.W.nsIn K mainGlobals "is_index" = some (some (.ref fD4)))
    (lD4 : K.lookup fD4 = some ⟨ocD4, odD4, .func (PySem.W.fnOf "is_index" "is_index" (defArgs s_is_index) (defBody s_is_index) (defScope s_is_index) .none kVD4 dcD4 pmD4 anD4 cdD4 ctD4), slD4⟩)
    (cD4 : PySem.W.codeIn K cdD4 "is_index" = true)
    (kD4 : PySem.W.keepIn K (.ref fD4) = true)
    (aD5 : PySem.W.nsIn K mainGlobals "is_size" = some (some (.ref fD5)))
    (lD5 : K.lookup fD5 = some ⟨ocD5, odD5, .func (PySem.W.fnOf "is_size" "is_size" (defArgs s_is_size) (defBody s_is_size) (defScope s_is_size) .none kVD5 dcD5 pmD5 anD5 cdD5 ctD5), slD5⟩)
    (cD5 : PySem.W.codeIn K cdD5 "is_size" = true)
    (kD5 : PySem.W.keepIn K (.ref fD5) = true)
    (aD6 : PySem.W.nsIn K mainGlobals "_law_purse" = some (some (.ref fD6)))
    (lD6 : K.lookup fD6 = some ⟨ocD6, odD6, .func (PySem.W.fnOf "_law_purse" "_law_purse" (defArgs s__law_purse) (defBody s__law_purse) (defScope s__law_purse) .none kVD6 dcD6 pmD6 anD6 cdD6 ctD6), slD6⟩)
    (cD6 : PySem.W.codeIn K cdD6 "_law_purse" = true)
    (kD6 : PySem.W.keepIn K (.ref fD6) = true)
    (aD7 : PySem.W.nsIn K mainGlobals "_law_draw" = some (some (.ref fD7)))
    (lD7 : K.lookup fD7 = some ⟨ocD7, odD7, .func (PySem.W.fnOf "_law_draw" "_law_draw" (defArgs s__law_draw) (defBody s__law_draw) (defScope s__law_draw) .none kVD7 dcD7 pmD7 anD7 cdD7 ctD7), slD7⟩)
    (cD7 : PySem.W.codeIn K cdD7 "_law_draw" = true)
    (kD7 : PySem.W.keepIn K (.ref fD7) = true)
    (aD8 : PySem.W.nsIn K mainGlobals "_law_great" = some (some (.ref fD8)))
    (lD8 : K.lookup fD8 = some ⟨ocD8, odD8, .func (PySem.W.fnOf "_law_great" "_law_great" (defArgs s__law_great) (defBody s__law_great) (defScope s__law_great) .none kVD8 dcD8 pmD8 anD8 cdD8 ctD8), slD8⟩)
    (cD8 : PySem.W.codeIn K cdD8 "_law_great" = true)
    (kD8 : PySem.W.keepIn K (.ref fD8) = true)
    (aD9 : PySem.W.nsIn K mainGlobals "_law_common" = some (some (.ref fD9)))
    (lD9 : K.lookup fD9 = some ⟨ocD9, odD9, .func (PySem.W.fnOf "_law_common" "_law_common" (defArgs s__law_common) (defBody s__law_common) (defScope s__law_common) .none kVD9 dcD9 pmD9 anD9 cdD9 ctD9), slD9⟩)
    (cD9 : PySem.W.codeIn K cdD9 "_law_common" = true)
    (kD9 : PySem.W.keepIn K (.ref fD9) = true)
    (aD10 : PySem.W.nsIn K mainGlobals "_law_lowest" = some (some (.ref fD10)))
    (lD10 : K.lookup fD10 = some ⟨ocD10, odD10, .func (PySem.W.fnOf "_law_lowest" "_law_lowest" (defArgs s__law_lowest) (defBody s__law_lowest) (defScope s__law_lowest) .none kVD10 dcD10 pmD10 anD10 cdD10 ctD10), slD10⟩)
    (cD10 : PySem.W.codeIn K cdD10 "_law_lowest" = true)
    (kD10 : PySem.W.keepIn K (.ref fD10) = true)
    (aD11 : PySem.W.nsIn K mainGlobals "_law_from" = some (some (.ref fD11)))
    (lD11 : K.lookup fD11 = some ⟨ocD11, odD11, .func (PySem.W.fnOf "_law_from" "_law_from" (defArgs s__law_from) (defBody s__law_from) (defScope s__law_from) .none kVD11 dcD11 pmD11 anD11 cdD11 ctD11), slD11⟩)
    (cD11 : PySem.W.codeIn K cdD11 "_law_from" = true)
    (kD11 : PySem.W.keepIn K (.ref fD11) = true)
    (aD12 : PySem.W.nsIn K mainGlobals "_law_digits" = some (some (.ref fD12)))
    (lD12 : K.lookup fD12 = some ⟨ocD12, odD12, .func (PySem.W.fnOf "_law_digits" "_law_digits" (defArgs s__law_digits) (defBody s__law_digits) (defScope s__law_digits) .none kVD12 dcD12 pmD12 anD12 cdD12 ctD12), slD12⟩)
    (cD12 : PySem.W.codeIn K cdD12 "_law_digits" = true)
    (kD12 : PySem.W.keepIn K (.ref fD12) = true)
    (aD13 : PySem.W.nsIn K mainGlobals "_law_low" = some (some (.ref fD13)))
    (lD13 : K.lookup fD13 = some ⟨ocD13, odD13, .func (PySem.W.fnOf "_law_low" "_law_low" (defArgs s__law_low) (defBody s__law_low) (defScope s__law_low) .none kVD13 dcD13 pmD13 anD13 cdD13 ctD13), slD13⟩)
    (cD13 : PySem.W.codeIn K cdD13 "_law_low" = true)
    (kD13 : PySem.W.keepIn K (.ref fD13) = true)
    (aD14 : PySem.W.nsIn K mainGlobals "_law_eye" = some (some (.ref fD14)))
    (lD14 : K.lookup fD14 = some ⟨ocD14, odD14, .func (PySem.W.fnOf "_law_eye" "_law_eye" (defArgs s__law_eye) (defBody s__law_eye) (defScope s__law_eye) .none kVD14 dcD14 pmD14 anD14 cdD14 ctD14), slD14⟩)
    (cD14 : PySem.W.codeIn K cdD14 "_law_eye" = true)
    (kD14 : PySem.W.keepIn K (.ref fD14) = true)
    (aD15 : PySem.W.nsIn K mainGlobals "_law_zeros" = some (some (.ref fD15)))
    (lD15 : K.lookup fD15 = some ⟨ocD15, odD15, .func (PySem.W.fnOf "_law_zeros" "_law_zeros" (defArgs s__law_zeros) (defBody s__law_zeros) (defScope s__law_zeros) .none kVD15 dcD15 pmD15 anD15 cdD15 ctD15), slD15⟩)
    (cD15 : PySem.W.codeIn K cdD15 "_law_zeros" = true)
    (kD15 : PySem.W.keepIn K (.ref fD15) = true)
    (aD16 : PySem.W.nsIn K mainGlobals "_law_told" = some (some (.ref fD16)))
    (lD16 : K.lookup fD16 = some ⟨ocD16, odD16, .func (PySem.W.fnOf "_law_told" "_law_told" (defArgs s__law_told) (defBody s__law_told) (defScope s__law_told) .none kVD16 dcD16 pmD16 anD16 cdD16 ctD16), slD16⟩)
    (cD16 : PySem.W.codeIn K cdD16 "_law_told" = true)
    (kD16 : PySem.W.keepIn K (.ref fD16) = true)
    (aD17 : PySem.W.nsIn K mainGlobals "_law_pairs" = some (some (.ref fD17)))
    (lD17 : K.lookup fD17 = some ⟨ocD17, odD17, .func (PySem.W.fnOf "_law_pairs" "_law_pairs" (defArgs s__law_pairs) (defBody s__law_pairs) (defScope s__law_pairs) .none kVD17 dcD17 pmD17 anD17 cdD17 ctD17), slD17⟩)
    (cD17 : PySem.W.codeIn K cdD17 "_law_pairs" = true)
    (kD17 : PySem.W.keepIn K (.ref fD17) = true)
    (aD18 : PySem.W.nsIn K mainGlobals "_law_is" = some (some (.ref fD18)))
    (lD18 : K.lookup fD18 = some ⟨ocD18, odD18, .func (PySem.W.fnOf "_law_is" "_law_is" (defArgs s__law_is) (defBody s__law_is) (defScope s__law_is) .none kVD18 dcD18 pmD18 anD18 cdD18 ctD18), slD18⟩)
    (cD18 : PySem.W.codeIn K cdD18 "_law_is" = true)
    (kD18 : PySem.W.keepIn K (.ref fD18) = true)
    (aD19 : PySem.W.nsIn K mainGlobals "_law_entries" = some (some (.ref fD19)))
    (lD19 : K.lookup fD19 = some ⟨ocD19, odD19, .func (PySem.W.fnOf "_law_entries" "_law_entries" (defArgs s__law_entries) (defBody s__law_entries) (defScope s__law_entries) .none kVD19 dcD19 pmD19 anD19 cdD19 ctD19), slD19⟩)
    (cD19 : PySem.W.codeIn K cdD19 "_law_entries" = true)
    (kD19 : PySem.W.keepIn K (.ref fD19) = true)
    (aD20 : PySem.W.nsIn K mainGlobals "_law_sign_text" = some (some (.ref fD20)))
    (lD20 : K.lookup fD20 = some ⟨ocD20, odD20, .func (PySem.W.fnOf "_law_sign_text" "_law_sign_text" (defArgs s__law_sign_text) (defBody s__law_sign_text) (defScope s__law_sign_text) .none kVD20 dcD20 pmD20 anD20 cdD20 ctD20), slD20⟩)
    (cD20 : PySem.W.codeIn K cdD20 "_law_sign_text" = true)
    (kD20 : PySem.W.keepIn K (.ref fD20) = true)
    (aD21 : PySem.W.nsIn K mainGlobals "_law_odd" = some (some (.ref fD21)))
    (lD21 : K.lookup fD21 = some ⟨ocD21, odD21, .func (PySem.W.fnOf "_law_odd" "_law_odd" (defArgs s__law_odd) (defBody s__law_odd) (defScope s__law_odd) .none kVD21 dcD21 pmD21 anD21 cdD21 ctD21), slD21⟩)
    (cD21 : PySem.W.codeIn K cdD21 "_law_odd" = true)
    (kD21 : PySem.W.keepIn K (.ref fD21) = true)
    (aD22 : PySem.W.nsIn K mainGlobals "_law_is_whole" = some (some (.ref fD22)))
    (lD22 : K.lookup fD22 = some ⟨ocD22, odD22, .func (PySem.W.fnOf "_law_is_whole" "_law_is_whole" (defArgs s__law_is_whole) (defBody s__law_is_whole) (defScope s__law_is_whole) .none kVD22 dcD22 pmD22 anD22 cdD22 ctD22), slD22⟩)
    (cD22 : PySem.W.codeIn K cdD22 "_law_is_whole" = true)
    (kD22 : PySem.W.keepIn K (.ref fD22) = true)
    (aD23 : PySem.W.nsIn K mainGlobals "_law_cells" = some (some (.ref fD23)))
    (lD23 : K.lookup fD23 = some ⟨ocD23, odD23, .func (PySem.W.fnOf "_law_cells" "_law_cells" (defArgs s__law_cells) (defBody s__law_cells) (defScope s__law_cells) .none kVD23 dcD23 pmD23 anD23 cdD23 ctD23), slD23⟩)
    (cD23 : PySem.W.codeIn K cdD23 "_law_cells" = true)
    (kD23 : PySem.W.keepIn K (.ref fD23) = true)
    (aD24 : PySem.W.nsIn K mainGlobals "_law_matrix_text" = some (some (.ref fD24)))
    (lD24 : K.lookup fD24 = some ⟨ocD24, odD24, .func (PySem.W.fnOf "_law_matrix_text" "_law_matrix_text" (defArgs s__law_matrix_text) (defBody s__law_matrix_text) (defScope s__law_matrix_text) .none kVD24 dcD24 pmD24 anD24 cdD24 ctD24), slD24⟩)
    (cD24 : PySem.W.codeIn K cdD24 "_law_matrix_text" = true)
    (kD24 : PySem.W.keepIn K (.ref fD24) = true)
    (aD25 : PySem.W.nsIn K mainGlobals "_law_size_thing" = some (some (.ref fD25)))
    (lD25 : K.lookup fD25 = some ⟨ocD25, odD25, .func (PySem.W.fnOf "_law_size_thing" "_law_size_thing" (defArgs s__law_size_thing) (defBody s__law_size_thing) (defScope s__law_size_thing) .none kVD25 dcD25 pmD25 anD25 cdD25 ctD25), slD25⟩)
    (cD25 : PySem.W.codeIn K cdD25 "_law_size_thing" = true)
    (kD25 : PySem.W.keepIn K (.ref fD25) = true)
    (aD26 : PySem.W.nsIn K mainGlobals "_law_is_size" = some (some (.ref fD26)))
    (lD26 : K.lookup fD26 = some ⟨ocD26, odD26, .func (PySem.W.fnOf "_law_is_size" "_law_is_size" (defArgs s__law_is_size) (defBody s__law_is_size) (defScope s__law_is_size) .none kVD26 dcD26 pmD26 anD26 cdD26 ctD26), slD26⟩)
    (cD26 : PySem.W.codeIn K cdD26 "_law_is_size" = true)
    (kD26 : PySem.W.keepIn K (.ref fD26) = true)
    (aD27 : PySem.W.nsIn K mainGlobals "_law_eye_due" = some (some (.ref fD27)))
    (lD27 : K.lookup fD27 = some ⟨ocD27, odD27, .func (PySem.W.fnOf "_law_eye_due" "_law_eye_due" (defArgs s__law_eye_due) (defBody s__law_eye_due) (defScope s__law_eye_due) .none kVD27 dcD27 pmD27 anD27 cdD27 ctD27), slD27⟩)
    (cD27 : PySem.W.codeIn K cdD27 "_law_eye_due" = true)
    (kD27 : PySem.W.keepIn K (.ref fD27) = true)
    (aD28 : PySem.W.nsIn K mainGlobals "_law_zero_due" = some (some (.ref fD28)))
    (lD28 : K.lookup fD28 = some ⟨ocD28, odD28, .func (PySem.W.fnOf "_law_zero_due" "_law_zero_due" (defArgs s__law_zero_due) (defBody s__law_zero_due) (defScope s__law_zero_due) .none kVD28 dcD28 pmD28 anD28 cdD28 ctD28), slD28⟩)
    (cD28 : PySem.W.codeIn K cdD28 "_law_zero_due" = true)
    (kD28 : PySem.W.keepIn K (.ref fD28) = true)
    (aD29 : PySem.W.nsIn K mainGlobals "_law_spot" = some (some (.ref fD29)))
    (lD29 : K.lookup fD29 = some ⟨ocD29, odD29, .func (PySem.W.fnOf "_law_spot" "_law_spot" (defArgs s__law_spot) (defBody s__law_spot) (defScope s__law_spot) .none kVD29 dcD29 pmD29 anD29 cdD29 ctD29), slD29⟩)
    (cD29 : PySem.W.codeIn K cdD29 "_law_spot" = true)
    (kD29 : PySem.W.keepIn K (.ref fD29) = true)
    (aD30 : PySem.W.nsIn K mainGlobals "_law_asked" = some (some (.ref fD30)))
    (lD30 : K.lookup fD30 = some ⟨ocD30, odD30, .func (PySem.W.fnOf "_law_asked" "_law_asked" (defArgs s__law_asked) (defBody s__law_asked) (defScope s__law_asked) .none kVD30 dcD30 pmD30 anD30 cdD30 ctD30), slD30⟩)
    (cD30 : PySem.W.codeIn K cdD30 "_law_asked" = true)
    (kD30 : PySem.W.keepIn K (.ref fD30) = true)
    (aD31 : PySem.W.nsIn K mainGlobals "_law_right" = some (some (.ref fD31)))
    (lD31 : K.lookup fD31 = some ⟨ocD31, odD31, .func (PySem.W.fnOf "_law_right" "_law_right" (defArgs s__law_right) (defBody s__law_right) (defScope s__law_right) .none kVD31 dcD31 pmD31 anD31 cdD31 ctD31), slD31⟩)
    (cD31 : PySem.W.codeIn K cdD31 "_law_right" = true)
    (kD31 : PySem.W.keepIn K (.ref fD31) = true)
    (aD32 : PySem.W.nsIn K mainGlobals "law" = some (some (.ref fD32)))
    (lD32 : K.lookup fD32 = some ⟨ocD32, odD32, .func (PySem.W.fnOf "law" "law" (defArgs s_law) (defBody s_law) (defScope s_law) .none kVD32 dcD32 pmD32 anD32 cdD32 ctD32), slD32⟩)
    (cD32 : PySem.W.codeIn K cdD32 "law" = true)
    (kD32 : PySem.W.keepIn K (.ref fD32) = true)
    (aM0 : PySem.W.findIn K (.ref C) "__str__" = some (some (.ref fM0)))
    (iM0 : PySem.W.isFn K (.ref fM0) = true)
    (lM0 : K.lookup fM0 = some ⟨ocM0, odM0, .func (PySem.W.fnOf "__str__" "Ratio.__str__" (defArgs s_Ratio___str__) (defBody s_Ratio___str__) (defScope s_Ratio___str__) .none kVM0 dcM0 pmM0 anM0 cdM0 ctM0), slM0⟩)
    (cM0 : PySem.W.codeIn K cdM0 "Ratio.__str__" = true)
    (kM0 : PySem.W.keepIn K (.ref fM0) = true)
    (aM1 : PySem.W.findIn K (.ref C) "__repr__" = some (some (.ref fM1)))
    (iM1 : PySem.W.isFn K (.ref fM1) = true)
    (lM1 : K.lookup fM1 = some ⟨ocM1, odM1, .func (PySem.W.fnOf "__repr__" "Ratio.__repr__" (defArgs s_Ratio___repr__) (defBody s_Ratio___repr__) (defScope s_Ratio___repr__) .none kVM1 dcM1 pmM1 anM1 cdM1 ctM1), slM1⟩)
    (cM1 : PySem.W.codeIn K cdM1 "Ratio.__repr__" = true)
    (kM1 : PySem.W.keepIn K (.ref fM1) = true)
    (aM2 : PySem.W.findIn K (.ref CM) "__init__" = some (some (.ref fM2)))
    (iM2 : PySem.W.isFn K (.ref fM2) = true)
    (lM2 : K.lookup fM2 = some ⟨ocM2, odM2, .func (PySem.W.fnOf "__init__" "Matrix.__init__" (defArgs s_Matrix___init__) (defBody s_Matrix___init__) (defScope s_Matrix___init__) .none kVM2 dcM2 pmM2 anM2 cdM2 ctM2), slM2⟩)
    (cM2 : PySem.W.codeIn K cdM2 "Matrix.__init__" = true)
    (kM2 : PySem.W.keepIn K (.ref fM2) = true)
    (aM3 : PySem.W.findIn K (.ref CM) "__str__" = some (some (.ref fM3)))
    (iM3 : PySem.W.isFn K (.ref fM3) = true)
    (lM3 : K.lookup fM3 = some ⟨ocM3, odM3, .func (PySem.W.fnOf "__str__" "Matrix.__str__" (defArgs s_Matrix___str__) (defBody s_Matrix___str__) (defScope s_Matrix___str__) .none kVM3 dcM3 pmM3 anM3 cdM3 ctM3), slM3⟩)
    (cM3 : PySem.W.codeIn K cdM3 "Matrix.__str__" = true)
    (kM3 : PySem.W.keepIn K (.ref fM3) = true)
    (aM4 : PySem.W.findIn K (.ref CM) "__getitem__" = some (some (.ref fM4)))
    (iM4 : PySem.W.isFn K (.ref fM4) = true)
    (lM4 : K.lookup fM4 = some ⟨ocM4, odM4, .func (PySem.W.fnOf "__getitem__" "Matrix.__getitem__" (defArgs s_Matrix___getitem__) (defBody s_Matrix___getitem__) (defScope s_Matrix___getitem__) .none kVM4 dcM4 pmM4 anM4 cdM4 ctM4), slM4⟩)
    (cM4 : PySem.W.codeIn K cdM4 "Matrix.__getitem__" = true)
    (kM4 : PySem.W.keepIn K (.ref fM4) = true)
    (aP0 : PySem.W.findIn K (.ref C) "top" = some (some (.ref pP0)))
    (gP0 : PySem.W.specialIn K (.ref pP0) "__get__" = some (some (.builtin "property.__get__")))
    (tP0 : PySem.W.takesIn K (.ref pP0) = some true)
    (rP0 : PySem.W.recIn K pP0 "property" = some (.ref fP0 :: reP0))
    (lP0 : K.lookup fP0 = some ⟨ocP0, odP0, .func (PySem.W.fnOf "top" "Ratio.top" (defArgs s_Ratio_top) (defBody s_Ratio_top) (defScope s_Ratio_top) .none kVP0 dcP0 pmP0 anP0 cdP0 ctP0), slP0⟩)
    (cP0 : PySem.W.codeIn K cdP0 "Ratio.top" = true)
    (kP0 : PySem.W.keepIn K (.ref fP0) = true)
    (aP1 : PySem.W.findIn K (.ref C) "bottom" = some (some (.ref pP1)))
    (gP1 : PySem.W.specialIn K (.ref pP1) "__get__" = some (some (.builtin "property.__get__")))
    (tP1 : PySem.W.takesIn K (.ref pP1) = some true)
    (rP1 : PySem.W.recIn K pP1 "property" = some (.ref fP1 :: reP1))
    (lP1 : K.lookup fP1 = some ⟨ocP1, odP1, .func (PySem.W.fnOf "bottom" "Ratio.bottom" (defArgs s_Ratio_bottom) (defBody s_Ratio_bottom) (defScope s_Ratio_bottom) .none kVP1 dcP1 pmP1 anP1 cdP1 ctP1), slP1⟩)
    (cP1 : PySem.W.codeIn K cdP1 "Ratio.bottom" = true)
    (kP1 : PySem.W.keepIn K (.ref fP1) = true)
    (aP2 : PySem.W.findIn K (.ref CM) "entries" = some (some (.ref pP2)))
    (gP2 : PySem.W.specialIn K (.ref pP2) "__get__" = some (some (.builtin "property.__get__")))
    (tP2 : PySem.W.takesIn K (.ref pP2) = some true)
    (rP2 : PySem.W.recIn K pP2 "property" = some (.ref fP2 :: reP2))
    (lP2 : K.lookup fP2 = some ⟨ocP2, odP2, .func (PySem.W.fnOf "entries" "Matrix.entries" (defArgs s_Matrix_entries) (defBody s_Matrix_entries) (defScope s_Matrix_entries) .none kVP2 dcP2 pmP2 anP2 cdP2 ctP2), slP2⟩)
    (cP2 : PySem.W.codeIn K cdP2 "Matrix.entries" = true)
    (kP2 : PySem.W.keepIn K (.ref fP2) = true)
    (aP3 : PySem.W.findIn K (.ref CM) "rows" = some (some (.ref pP3)))
    (gP3 : PySem.W.specialIn K (.ref pP3) "__get__" = some (some (.builtin "property.__get__")))
    (tP3 : PySem.W.takesIn K (.ref pP3) = some true)
    (rP3 : PySem.W.recIn K pP3 "property" = some (.ref fP3 :: reP3))
    (lP3 : K.lookup fP3 = some ⟨ocP3, odP3, .func (PySem.W.fnOf "rows" "Matrix.rows" (defArgs s_Matrix_rows) (defBody s_Matrix_rows) (defScope s_Matrix_rows) .none kVP3 dcP3 pmP3 anP3 cdP3 ctP3), slP3⟩)
    (cP3 : PySem.W.codeIn K cdP3 "Matrix.rows" = true)
    (kP3 : PySem.W.keepIn K (.ref fP3) = true)
    (aP4 : PySem.W.findIn K (.ref CM) "columns" = some (some (.ref pP4)))
    (gP4 : PySem.W.specialIn K (.ref pP4) "__get__" = some (some (.builtin "property.__get__")))
    (tP4 : PySem.W.takesIn K (.ref pP4) = some true)
    (rP4 : PySem.W.recIn K pP4 "property" = some (.ref fP4 :: reP4))
    (lP4 : K.lookup fP4 = some ⟨ocP4, odP4, .func (PySem.W.fnOf "columns" "Matrix.columns" (defArgs s_Matrix_columns) (defBody s_Matrix_columns) (defScope s_Matrix_columns) .none kVP4 dcP4 pmP4 anP4 cdP4 ctP4), slP4⟩)
    (cP4 : PySem.W.codeIn K cdP4 "Matrix.columns" = true)
    (kP4 : PySem.W.keepIn K (.ref fP4) = true)
    (aI : PySem.W.findIn K (.ref C) "__init__" = some (some (.ref fI)))
    (iI : PySem.W.isFn K (.ref fI) = true)
    (lI : K.lookup fI = some ⟨ocI, odI, .func (PySem.W.fnOf "__init__" "Ratio.__init__" (defArgs s_Ratio___init__) (defBody s_Ratio___init__) (defScope s_Ratio___init__) (.ref tI) kVI dcI pmI anI cdI ctI), slI⟩)
    (cI : PySem.W.codeIn K cdI "Ratio.__init__" = true)
    (kI : PySem.W.keepIn K (.ref fI) = true)
    (lT : K.lookup tI = some oT)
    (dT : oT.data = .seq #[.int 1 kT] nT)
    (z_int : PySem.W.nsIn K mainGlobals "int" = some none)
    (z_len : PySem.W.nsIn K mainGlobals "len" = some none)
    (z_abs : PySem.W.nsIn K mainGlobals "abs" = some none)
    (z_range : PySem.W.nsIn K mainGlobals "range" = some none)
    (z_max : PySem.W.nsIn K mainGlobals "max" = some none)
    (z_min : PySem.W.nsIn K mainGlobals "min" = some none)
    (z_all : PySem.W.nsIn K mainGlobals "all" = some none)
    (z_repr : PySem.W.nsIn K mainGlobals "repr" = some none)
    (z_isinstance : PySem.W.nsIn K mainGlobals "isinstance" = some none)
    (z_bool : PySem.W.nsIn K mainGlobals "bool" = some none)
    (z_str : PySem.W.nsIn K mainGlobals "str" = some none)
    (z_any : PySem.W.nsIn K mainGlobals "any" = some none)
    (z_tuple : PySem.W.nsIn K mainGlobals "tuple" = some none)
    (z_list : PySem.W.nsIn K mainGlobals "list" = some none)
    (z_sum : PySem.W.nsIn K mainGlobals "sum" = some none)
    (z_zip : PySem.W.nsIn K mainGlobals "zip" = some none)
    (z_enumerate : PySem.W.nsIn K mainGlobals "enumerate" = some none)
    (aR : PySem.W.nsIn K mainGlobals "Ratio" = some (some (.ref C)))
    (aCM : PySem.W.nsIn K mainGlobals "Matrix" = some (some (.ref CM)))
    (aG : PySem.W.nsIn K mainGlobals "gcd" = some (some (.builtin "math.gcd")))
    (aL : PySem.W.nsIn K mainGlobals "lcm" = some (some (.builtin "math.lcm")))
    (pgC : PySem.W.plainGet K C Str.empty = true)
    (hdC : PySem.W.hasDictIn K C = true)
    (poC : PySem.W.plainOver K C = true)
    (saC : PySem.W.findIn K (.ref C) "__setattr__" = some (some (.builtin "object.__setattr__")))
    (mkC : PySem.W.makesIn K C = true)
    (kcC : PySem.W.keepIn K (.ref C) = true)
    (caC : PySem.W.findIn K (.ref C) "__class__" = some (some (.builtin "object.__class__")))
    (cmC : PySem.W.mroIn K C (.type "object") = some true)
    (sIC : PySem.W.subIn K (.ref C) (.type "int") = some false)
    (sBC : PySem.W.subIn K (.ref C) (.type "bool") = some false)
    (tyC : PySem.W.typeIn K (.ref C) = some (.type "type"))
    (isC : PySem.W.isClsIn K C = true)
    (sbC : PySem.W.subIn K (.type "int") (.ref C) = some false)
    (soC : PySem.W.subIn K (.ref C) (.type "object") = some true)
    (neC : PySem.W.findIn K (.ref C) "__ne__" = some (some (.builtin "object.__ne__")))
    (pgM : PySem.W.plainGet K CM Str.empty = true)
    (hdM : PySem.W.hasDictIn K CM = true)
    (poM : PySem.W.plainOver K CM = true)
    (saM : PySem.W.findIn K (.ref CM) "__setattr__" = some (some (.builtin "object.__setattr__")))
    (mkM : PySem.W.makesIn K CM = true)
    (kcM : PySem.W.keepIn K (.ref CM) = true)
    (caM : PySem.W.findIn K (.ref CM) "__class__" = some (some (.builtin "object.__class__")))
    (cmM : PySem.W.mroIn K CM (.type "object") = some true)
    (sIM : PySem.W.subIn K (.ref CM) (.type "int") = some false)
    (sBM : PySem.W.subIn K (.ref CM) (.type "bool") = some false)
    (tyM : PySem.W.typeIn K (.ref CM) = some (.type "type"))
    (isM : PySem.W.isClsIn K CM = true)
    (sbM : PySem.W.subIn K (.type "int") (.ref CM) = some false)
    (soM : PySem.W.subIn K (.ref CM) (.type "object") = some true)
    (neM : PySem.W.findIn K (.ref CM) "__ne__" = some (some (.builtin "object.__ne__")))
    (nT' : PySem.W.findIn K (.ref C) "_top" = some none)
    (nB' : PySem.W.findIn K (.ref C) "_bottom" = some none)
    (nE' : PySem.W.findIn K (.ref CM) "_entries" = some none)
    (nTop : PySem.W.findIn K (.ref CM) "top" = some none)
    (cn : PySem.W.specialIn K (.builtin "object.__class__") "__get__" = some (some (.builtin "getset_descriptor.__get__")))
    (ct' : PySem.W.takesIn K (.builtin "object.__class__") = some true)
    (sRM : PySem.W.subIn K (.ref C) (.ref CM) = some false)
    (sMR : PySem.W.subIn K (.ref CM) (.ref C) = some false)
    (sTU : PySem.W.subIn K (.ref C) (.type "tuple") = some false)
    (fiGI : PySem.W.fnIn K fM4 = true)
    (sST : PySem.W.subIn K (.ref C) (.type "str") = some false)
    (x_n : PySem.W.subIn K (.type "NoneType") (.ref C) = some false)
    (x_s : PySem.W.subIn K (.type "str") (.ref C) = some false)
    (x_t : PySem.W.subIn K (.type "tuple") (.ref C) = some false)
    (x_l : PySem.W.subIn K (.type "list") (.ref C) = some false)
    (x_b : PySem.W.subIn K (.type "bool") (.ref C) = some false)
    (x_d : PySem.W.subIn K (.type "dict") (.ref C) = some false)
    (aY : PySem.W.nsIn K mainGlobals "InvalidSize" = some (some (.ref CZ)))
    (yL : K.lookup CZ = some (excClassObj nmY qY CZ NY bsY [.ref CE2, .type "ValueError", .type "Exception", .type "BaseException", .type "object"] true snY subY abY colY ddY m0Y m1Y m2Y m3Y m5Y "ValueError.__new__"))
    (ysa : PySem.W.findIn K (.ref CZ) "__setattr__" = some (some (.builtin "object.__setattr__")))
    (yga : PySem.W.findIn K (.ref CZ) "__getattribute__" = some (some (.builtin "BaseException.__getattribute__")))
    (ygg : PySem.W.findIn K (.ref CZ) "__getattr__" = some none)
    (yno : PySem.W.findIn K (.ref CZ) "given" = some none)
    (yin : PySem.W.findIn K (.ref CZ) "__init__" = some (some (.ref fY)))
    (yt : PySem.W.typeIn K (.ref fY) = some (.type "function"))
    (yk : PySem.W.keepIn K (.ref CZ) = true)
    (yeC : PySem.W.subIn K (.ref CZ) (.type "BaseException") = some true)
    (ytC : PySem.W.typeIn K (.ref CZ) = some (.type "type"))
    (yhC : PySem.W.hasDictIn K CZ = true)
    (ysC : PySem.W.subIn K (.ref CZ) (.ref CZ) = some true)
    (lY : K.lookup fY = some ⟨ocY, odY, .func (PySem.W.fnOf "__init__" "InvalidSize.__init__" (defArgs s_InvalidSize___init__) (defBody s_InvalidSize___init__) (defScope s_InvalidSize___init__) .none kVY dcY pmY anY cdY ctY), slY⟩)
    (cY : PySem.W.codeIn K cdY "InvalidSize.__init__" = true)
    (kY : PySem.W.keepIn K (.ref fY) = true)
    (aW : PySem.W.nsIn K mainGlobals "InvalidIndex" = some (some (.ref CI)))
    (wL : K.lookup CI = some (excClassObj nmW qW CI NW bsW [.ref CE3, .type "ValueError", .type "Exception", .type "BaseException", .type "object"] true snW subW abW colW ddW m0W m1W m2W m3W m5W "ValueError.__new__"))
    (wsa : PySem.W.findIn K (.ref CI) "__setattr__" = some (some (.builtin "object.__setattr__")))
    (wga : PySem.W.findIn K (.ref CI) "__getattribute__" = some (some (.builtin "BaseException.__getattribute__")))
    (wgg : PySem.W.findIn K (.ref CI) "__getattr__" = some none)
    (wno : PySem.W.findIn K (.ref CI) "given" = some none)
    (win : PySem.W.findIn K (.ref CI) "__init__" = some (some (.ref fW)))
    (wt : PySem.W.typeIn K (.ref fW) = some (.type "function"))
    (wk : PySem.W.keepIn K (.ref CI) = true)
    (weC : PySem.W.subIn K (.ref CI) (.type "BaseException") = some true)
    (wtC : PySem.W.typeIn K (.ref CI) = some (.type "type"))
    (whC : PySem.W.hasDictIn K CI = true)
    (wsC : PySem.W.subIn K (.ref CI) (.ref CI) = some true)
    (lW : K.lookup fW = some ⟨ocW, odW, .func (PySem.W.fnOf "__init__" "InvalidIndex.__init__" (defArgs s_InvalidIndex___init__) (defBody s_InvalidIndex___init__) (defScope s_InvalidIndex___init__) .none kVW dcW pmW anW cdW ctW), slW⟩)
    (cW : PySem.W.codeIn K cdW "InvalidIndex.__init__" = true)
    (kW : PySem.W.keepIn K (.ref fW) = true)
    (sZI : PySem.W.subIn K (.ref CZ) (.ref CI) = some false)
    (rzrd : PySem.W.readsIn K CM (.type "type") = true)
    (rzga : PySem.W.specialIn K (.ref CM) "__getattribute__" = some (some (.builtin "type.__getattribute__")))
    (rzat : PySem.W.findCls K (.ref CM) (.type "type") "zero" = some (.get (.builtin "classmethod.__get__") (.ref pRZ) .none (.ref CM)))
    (rzrc : PySem.W.recIn K pRZ "classmethod" = some (.ref fRZ :: reRZ))
    (rzfi : PySem.W.fnIn K fRZ = true)
    (lRZ : K.lookup fRZ = some ⟨ocRZ, odRZ, .func (PySem.W.fnOf "zero" "Matrix.zero" (defArgs s_Matrix_zero) (defBody s_Matrix_zero) (defScope s_Matrix_zero) .none kVRZ dcRZ pmRZ anRZ cdRZ ctRZ), slRZ⟩)
    (cRZ : PySem.W.codeIn K cdRZ "Matrix.zero" = true)
    (kRZ : PySem.W.keepIn K (.ref fRZ) = true)
    (rerd : PySem.W.readsIn K CM (.type "type") = true)
    (rega : PySem.W.specialIn K (.ref CM) "__getattribute__" = some (some (.builtin "type.__getattribute__")))
    (reat : PySem.W.findCls K (.ref CM) (.type "type") "eye" = some (.get (.builtin "classmethod.__get__") (.ref pRE) .none (.ref CM)))
    (rerc : PySem.W.recIn K pRE "classmethod" = some (.ref fRE :: reRE))
    (refi : PySem.W.fnIn K fRE = true)
    (lRE : K.lookup fRE = some ⟨ocRE, odRE, .func (PySem.W.fnOf "eye" "Matrix.eye" (defArgs s_Matrix_eye) (defBody s_Matrix_eye) (defScope s_Matrix_eye) .none kVRE dcRE pmRE anRE cdRE ctRE), slRE⟩)
    (cRE : PySem.W.codeIn K cdRE "Matrix.eye" = true)
    (kRE : PySem.W.keepIn K (.ref fRE) = true)
    (eR : cdD31 = .ref cR)
    (eL : cdD32 = .ref cL)
    (nP : PL ≠ PR)
    : ∃ fd : FuncData, (∀ (s : Shared) (v : Value), BindsTo s fd ⟨[v], []⟩ [("_law_script", v)]) ∧ ∀ base : Heap, K.In base → base.Ns mainGlobals mg → (∀ p ∈ [(cL, PL), (cR, PR)], TabB base mg p.1 p.2) → FnG l.prog w K mg base CX0 26 fa fd ["_law_script"] (spLaw K PL PR) := by
  subst eR
  subst eL
  have e := hfa.symm.trans (PySem.W.mg_of X G aD32)
  cases e
  have FD0 := fun_mk (st := s_is_whole) lD0 cD0 kD0
  have bD0 := FD0.binds (ps := ["value"]) fun _ _ _ _ _ _ us hl => match us, hl with | [_], _ => rfl
  have gD0 := PySem.W.mg_of X G aD0
  have FD1 := fun_mk (st := s_is_number) lD1 cD1 kD1
  have bD1 := FD1.binds (ps := ["value"]) fun _ _ _ _ _ _ us hl => match us, hl with | [_], _ => rfl
  have gD1 := PySem.W.mg_of X G aD1
  have FD2 := fun_mk (st := s_to_ratio) lD2 cD2 kD2
  have bD2 := FD2.binds (ps := ["number"]) fun _ _ _ _ _ _ us hl => match us, hl with | [_], _ => rfl
  have gD2 := PySem.W.mg_of X G aD2
  have FD3 := fun_mk (st := s_is_table) lD3 cD3 kD3
  have bD3 := FD3.binds (ps := ["given"]) fun _ _ _ _ _ _ us hl => match us, hl with | [_], _ => rfl
  have gD3 := PySem.W.mg_of X G aD3
  have FD4 := fun_mk (st := s_is_index) lD4 cD4 kD4
  have bD4 := FD4.binds (ps := ["given", "count"]) fun _ _ _ _ _ _ us hl => match us, hl with | [_, _], _ => rfl
  have gD4 := PySem.W.mg_of X G aD4
  have FD5 := fun_mk (st := s_is_size) lD5 cD5 kD5
  have bD5 := FD5.binds (ps := ["given"]) fun _ _ _ _ _ _ us hl => match us, hl with | [_], _ => rfl
  have gD5 := PySem.W.mg_of X G aD5
  have FD6 := fun_mk (st := s__law_purse) lD6 cD6 kD6
  have bD6 := FD6.binds (ps := ["_law_script"]) fun _ _ _ _ _ _ us hl => match us, hl with | [_], _ => rfl
  have gD6 := PySem.W.mg_of X G aD6
  have FD7 := fun_mk (st := s__law_draw) lD7 cD7 kD7
  have bD7 := FD7.binds (ps := ["_law_q", "_law_many"]) fun _ _ _ _ _ _ us hl => match us, hl with | [_, _], _ => rfl
  have gD7 := PySem.W.mg_of X G aD7
  have FD8 := fun_mk (st := s__law_great) lD8 cD8 kD8
  have bD8 := FD8.binds (ps := ["_law_q"]) fun _ _ _ _ _ _ us hl => match us, hl with | [_], _ => rfl
  have gD8 := PySem.W.mg_of X G aD8
  have FD9 := fun_mk (st := s__law_common) lD9 cD9 kD9
  have bD9 := FD9.binds (ps := ["_law_one", "_law_two"]) fun _ _ _ _ _ _ us hl => match us, hl with | [_, _], _ => rfl
  have gD9 := PySem.W.mg_of X G aD9
  have FD10 := fun_mk (st := s__law_lowest) lD10 cD10 kD10
  have bD10 := FD10.binds (ps := ["_law_high", "_law_under"]) fun _ _ _ _ _ _ us hl => match us, hl with | [_, _], _ => rfl
  have gD10 := PySem.W.mg_of X G aD10
  have FD11 := fun_mk (st := s__law_from) lD11 cD11 kD11
  have bD11 := FD11.binds (ps := ["_law_script", "_law_k"]) fun _ _ _ _ _ _ us hl => match us, hl with | [_, _], _ => rfl
  have gD11 := PySem.W.mg_of X G aD11
  have FD12 := fun_mk (st := s__law_digits) lD12 cD12 kD12
  have bD12 := FD12.binds (ps := ["_law_pair"]) fun _ _ _ _ _ _ us hl => match us, hl with | [_], _ => rfl
  have gD12 := PySem.W.mg_of X G aD12
  have FD13 := fun_mk (st := s__law_low) lD13 cD13 kD13
  have bD13 := FD13.binds (ps := ["_law_pair"]) fun _ _ _ _ _ _ us hl => match us, hl with | [_], _ => rfl
  have gD13 := PySem.W.mg_of X G aD13
  have FD14 := fun_mk (st := s__law_eye) lD14 cD14 kD14
  have bD14 := FD14.binds (ps := ["_law_many"]) fun _ _ _ _ _ _ us hl => match us, hl with | [_], _ => rfl
  have gD14 := PySem.W.mg_of X G aD14
  have FD15 := fun_mk (st := s__law_zeros) lD15 cD15 kD15
  have bD15 := FD15.binds (ps := ["_law_high", "_law_broad"]) fun _ _ _ _ _ _ us hl => match us, hl with | [_, _], _ => rfl
  have gD15 := PySem.W.mg_of X G aD15
  have FD16 := fun_mk (st := s__law_told) lD16 cD16 kD16
  have bD16 := FD16.binds (ps := ["_law_matrix"]) fun _ _ _ _ _ _ us hl => match us, hl with | [_], _ => rfl
  have gD16 := PySem.W.mg_of X G aD16
  have FD17 := fun_mk (st := s__law_pairs) lD17 cD17 kD17
  have bD17 := FD17.binds (ps := ["_law_pair"]) fun _ _ _ _ _ _ us hl => match us, hl with | [_], _ => rfl
  have gD17 := PySem.W.mg_of X G aD17
  have FD18 := fun_mk (st := s__law_is) lD18 cD18 kD18
  have bD18 := FD18.binds (ps := ["_law_matrix", "_law_pair"]) fun _ _ _ _ _ _ us hl => match us, hl with | [_, _], _ => rfl
  have gD18 := PySem.W.mg_of X G aD18
  have FD19 := fun_mk (st := s__law_entries) lD19 cD19 kD19
  have bD19 := FD19.binds (ps := ["_law_pair"]) fun _ _ _ _ _ _ us hl => match us, hl with | [_], _ => rfl
  have gD19 := PySem.W.mg_of X G aD19
  have FD20 := fun_mk (st := s__law_sign_text) lD20 cD20 kD20
  have bD20 := FD20.binds (ps := ["_law_q"]) fun _ _ _ _ _ _ us hl => match us, hl with | [_], _ => rfl
  have gD20 := PySem.W.mg_of X G aD20
  have FD21 := fun_mk (st := s__law_odd) lD21 cD21 kD21
  have bD21 := FD21.binds (ps := ["_law_q", "_law_deep"]) fun _ _ _ _ _ _ us hl => match us, hl with | [_, _], _ => rfl
  have gD21 := PySem.W.mg_of X G aD21
  have FD22 := fun_mk (st := s__law_is_whole) lD22 cD22 kD22
  have bD22 := FD22.binds (ps := ["_law_thing"]) fun _ _ _ _ _ _ us hl => match us, hl with | [_], _ => rfl
  have gD22 := PySem.W.mg_of X G aD22
  have FD23 := fun_mk (st := s__law_cells) lD23 cD23 kD23
  have bD23 := FD23.binds (ps := ["_law_q", "_law_high", "_law_broad"]) fun _ _ _ _ _ _ us hl => match us, hl with | [_, _, _], _ => rfl
  have gD23 := PySem.W.mg_of X G aD23
  have FD24 := fun_mk (st := s__law_matrix_text) lD24 cD24 kD24
  have bD24 := FD24.binds (ps := ["_law_pair"]) fun _ _ _ _ _ _ us hl => match us, hl with | [_], _ => rfl
  have gD24 := PySem.W.mg_of X G aD24
  have FD25 := fun_mk (st := s__law_size_thing) lD25 cD25 kD25
  have bD25 := FD25.binds (ps := ["_law_q"]) fun _ _ _ _ _ _ us hl => match us, hl with | [_], _ => rfl
  have gD25 := PySem.W.mg_of X G aD25
  have FD26 := fun_mk (st := s__law_is_size) lD26 cD26 kD26
  have bD26 := FD26.binds (ps := ["_law_thing"]) fun _ _ _ _ _ _ us hl => match us, hl with | [_], _ => rfl
  have gD26 := PySem.W.mg_of X G aD26
  have FD27 := fun_mk (st := s__law_eye_due) lD27 cD27 kD27
  have bD27 := FD27.binds (ps := ["_law_one"]) fun _ _ _ _ _ _ us hl => match us, hl with | [_], _ => rfl
  have gD27 := PySem.W.mg_of X G aD27
  have FD28 := fun_mk (st := s__law_zero_due) lD28 cD28 kD28
  have bD28 := FD28.binds (ps := ["_law_one", "_law_two"]) fun _ _ _ _ _ _ us hl => match us, hl with | [_, _], _ => rfl
  have gD28 := PySem.W.mg_of X G aD28
  have FD29 := fun_mk (st := s__law_spot) lD29 cD29 kD29
  have bD29 := FD29.binds (ps := ["_law_q", "_law_many"]) fun _ _ _ _ _ _ us hl => match us, hl with | [_, _], _ => rfl
  have gD29 := PySem.W.mg_of X G aD29
  have FD30 := fun_mk (st := s__law_asked) lD30 cD30 kD30
  have bD30 := FD30.binds (ps := ["_law_act"]) fun _ _ _ _ _ _ us hl => match us, hl with | [_], _ => rfl
  have gD30 := PySem.W.mg_of X G aD30
  have FD31 := fun_mk (st := s__law_right) lD31 cD31 kD31
  have bD31 := FD31.binds (ps := ["_law_q"]) fun _ _ _ _ _ _ us hl => match us, hl with | [_], _ => rfl
  have gD31 := PySem.W.mg_of X G aD31
  have FD32 := fun_mk (st := s_law) lD32 cD32 kD32
  have gD32 := PySem.W.mg_of X G aD32
  have FM0 := fun_mk (st := s_Ratio___str__) lM0 cM0 kM0
  have bM0 := FM0.binds (ps := ["self"]) fun _ _ _ _ _ _ us hl => match us, hl with | [_], _ => rfl
  have FM1 := fun_mk (st := s_Ratio___repr__) lM1 cM1 kM1
  have bM1 := FM1.binds (ps := ["self"]) fun _ _ _ _ _ _ us hl => match us, hl with | [_], _ => rfl
  have FM2 := fun_mk (st := s_Matrix___init__) lM2 cM2 kM2
  have bM2 := FM2.binds (ps := ["self", "entries"]) fun _ _ _ _ _ _ us hl => match us, hl with | [_, _], _ => rfl
  have FM3 := fun_mk (st := s_Matrix___str__) lM3 cM3 kM3
  have bM3 := FM3.binds (ps := ["self"]) fun _ _ _ _ _ _ us hl => match us, hl with | [_], _ => rfl
  have FM4 := fun_mk (st := s_Matrix___getitem__) lM4 cM4 kM4
  have bM4 := FM4.binds (ps := ["self", "at"]) fun _ _ _ _ _ _ us hl => match us, hl with | [_, _], _ => rfl
  have FP0 := fun_mk (st := s_Ratio_top) lP0 cP0 kP0
  have bP0 := FP0.binds (ps := ["self"]) fun _ _ _ _ _ _ us hl => match us, hl with | [_], _ => rfl
  have pP0' : PropOf K C "top" pP0 fP0 := ⟨aP0, gP0, tP0, _, rP0⟩
  have FP1 := fun_mk (st := s_Ratio_bottom) lP1 cP1 kP1
  have bP1 := FP1.binds (ps := ["self"]) fun _ _ _ _ _ _ us hl => match us, hl with | [_], _ => rfl
  have pP1' : PropOf K C "bottom" pP1 fP1 := ⟨aP1, gP1, tP1, _, rP1⟩
  have FP2 := fun_mk (st := s_Matrix_entries) lP2 cP2 kP2
  have bP2 := FP2.binds (ps := ["self"]) fun _ _ _ _ _ _ us hl => match us, hl with | [_], _ => rfl
  have pP2' : PropOf K CM "entries" pP2 fP2 := ⟨aP2, gP2, tP2, _, rP2⟩
  have FP3 := fun_mk (st := s_Matrix_rows) lP3 cP3 kP3
  have bP3 := FP3.binds (ps := ["self"]) fun _ _ _ _ _ _ us hl => match us, hl with | [_], _ => rfl
  have pP3' : PropOf K CM "rows" pP3 fP3 := ⟨aP3, gP3, tP3, _, rP3⟩
  have FP4 := fun_mk (st := s_Matrix_columns) lP4 cP4 kP4
  have bP4 := FP4.binds (ps := ["self"]) fun _ _ _ _ _ _ us hl => match us, hl with | [_], _ => rfl
  have pP4' : PropOf K CM "columns" pP4 fP4 := ⟨aP4, gP4, tP4, _, rP4⟩
  have FI : FunD K "__init__" "Ratio.__init__" (defArgs s_Ratio___init__) (defBody s_Ratio___init__) (defScope s_Ratio___init__) [.int 1] [] fI _ := ⟨⟨_, _, _, _, _, _, _, _, _, _, rfl, lI, cI, .inr ⟨nofun, tI, oT, [.int 1 kT], nT, rfl, lT, dT, .cons ⟨_, rfl⟩ .nil⟩, .inl rfl⟩, kI⟩
  obtain ⟨ds2, v2, bI2⟩ := FI.binds1 (ps := ["self", "top", "bottom"]) 3 1 nofun rfl fun T kV doc pm an cdv ct us its h1 h2 => match us, its, h1, h2 with | [_, _, _], [_], _, _ => ⟨_, rfl, rfl⟩
  obtain ⟨ds1, v1, bI1⟩ := FI.binds1 (ps := ["self", "top", "bottom"]) 2 0 nofun rfl fun T kV doc pm an cdv ct us its h1 h2 => match us, its, h1, h2 with | [_, _], [_], _, _ => ⟨_, rfl, rfl⟩
  refine ⟨PySem.W.fnOf "law" "law" (defArgs s_law) (defBody s_law) (defScope s_law) .none kVD32 dcD32 pmD32 anD32 (.ref cL) ctD32, fun s v => .of_eq rfl, fun base _ _ hTB => ?_⟩
  have TBL : TabB base mg cL PL := hTB _ (List.mem_cons_self)
  have TBR : TabB base mg cR PR := hTB _ (List.mem_cons_of_mem _ List.mem_cons_self)
  have B : Blt mg := ⟨PySem.W.mg_none_of X G z_int, PySem.W.mg_none_of X G z_len, PySem.W.mg_none_of X G z_abs, PySem.W.mg_none_of X G z_range, PySem.W.mg_none_of X G z_max, PySem.W.mg_none_of X G z_min, PySem.W.mg_none_of X G z_all, PySem.W.mg_none_of X G z_repr, PySem.W.mg_none_of X G z_isinstance, PySem.W.mg_none_of X G z_bool, PySem.W.mg_none_of X G z_str, PySem.W.mg_none_of X G z_any, PySem.W.mg_none_of X G z_tuple, PySem.W.mg_none_of X G z_list, PySem.W.mg_none_of X G z_sum, PySem.W.mg_none_of X G z_zip, PySem.W.mg_none_of X G z_enumerate⟩
  have R : TxR K mg C := { toBlt := B, cl := ⟨pgC, hdC, poC, saC⟩, nT := nT', nB := nB', g_Ratio := PySem.W.mg_of X G aR, g_gcd := PySem.W.mg_of X G aG, ca := caC, cn := cn, ct := ct', cm := cmC, kI := kit_rt (by decide +kernel) sIC, kB := kit_rt (by decide +kernel) sBC, kC := kit_rr, iC := kit_tr isC tyC sbC }
  have nMR : CM ≠ C := fun e => by rw [e, aP0] at nTop; cases nTop
  have TM : TxM K mg C CM := { toTxR := R, clM := ⟨pgM, hdM, poM, saM⟩, nE := nE', g_Matrix := PySem.W.mg_of X G aCM, g_lcm := PySem.W.mg_of X G aL, caM := caM, cmM := cmM, kMM := kit_rr, kMR := kit_rc isC tyC nMR sMR, kRM := kit_rc isM tyM (Ne.symm nMR) sRM, kMI := kit_rt (by decide +kernel) sIM, kMB := kit_rt (by decide +kernel) sBM, kIM := kit_tr isM tyM sbM }
  have O : Others K C := ⟨isC, tyC, x_n, x_s, x_t, x_l, x_b, x_d, sST, sTU⟩
  have FY := fun_mk (st := s_InvalidSize___init__) lY cY kY
  have bY := FY.binds (ps := ["self", "given"]) fun _ _ _ _ _ _ us hl => match us, hl with | [_, _], _ => rfl
  have oY : OexC K CZ := ⟨⟨nmY, qY, NY, bsY, _, snY, subY, abY, colY, ddY, m0Y, m1Y, m2Y, m3Y, m5Y, yL, rfl⟩, ysa, yeC, ytC, yk⟩
  have x_siz : XzC l.prog w K mg base CZ := ⟨oY, ⟨yga, ygg, yeC, yhC⟩, yno, PySem.W.mg_of X G aY, PySem.W.exm_ref yeC yhC ytC ysC, fY, _, _, yin, yt, ok_xz FY, bY⟩
  have FW := fun_mk (st := s_InvalidIndex___init__) lW cW kW
  have bW := FW.binds (ps := ["self", "given"]) fun _ _ _ _ _ _ us hl => match us, hl with | [_, _], _ => rfl
  have oW : OexC K CI := ⟨⟨nmW, qW, NW, bsW, _, snW, subW, abW, colW, ddW, m0W, m1W, m2W, m3W, m5W, wL, rfl⟩, wsa, weC, wtC, wk⟩
  have x_ixe : XiC l.prog w K mg base CI := ⟨oW, ⟨wga, wgg, weC, whC⟩, wno, PySem.W.mg_of X G aW, PySem.W.exm_ref weC whC wtC wsC, fW, _, _, win, wt, ok_xi FW, bW⟩
  have nIZ : PySem.W.exmOne K (.ref CZ) (.ref CI) = some false := PySem.W.exm_ref weC whC wtC sZI
  have c_whole : CalF l.prog w K mg base _ "is_whole" _ [] := ⟨fD0, _, _, [], ok_whole FD0 B, gD0, kD0, bD0, .nil⟩
  have c_number : CalF l.prog w K mg base _ "is_number" _ [] := ⟨fD1, _, _, [], ok_number FD1 R c_whole, gD1, kD1, bD1, .nil⟩
  have MC : Mk K C fI := ⟨mkC, aI, iI, kcC⟩
  have m_rat2 : Rat2C l.prog w K mg base C := ⟨fI, _, _, ds2, MC, ok_init FI R c_whole, PySem.W.mg_of X G aR, bI2, v2⟩
  have m_rat1 : Rat1C l.prog w K mg base C := ⟨fI, _, _, ds1, MC, ok_init FI R c_whole, PySem.W.mg_of X G aR, bI1, v1⟩
  have c_to : CalF l.prog w K mg base _ "to_ratio" _ [] := ⟨fD2, _, _, [], ok_to FD2 R m_rat1, gD2, kD2, bD2, .nil⟩
  have d_str : DunF l.prog w K mg base 2 C "__str__" (spStr C) := ⟨fM0, _, _, aM0, iM0, ok_str FM0 R, bM0⟩
  have d_repr : DunF l.prog w K mg base 2 C "__repr__" (spRepr C) := ⟨fM1, _, _, aM1, iM1, ok_repr FM1 R, bM1⟩
  have d_reprH : OwnH l.prog w K mg base (ownR C) 2 := ownH aM1 iM1 (ok_reprH FM1 R) bM1
  have p_top : PropF l.prog w K mg base 2 C "top" _ := ⟨pP0, fP0, _, _, pP0', ok_top FP0 R, bP0⟩
  have p_bottom : PropF l.prog w K mg base 2 C "bottom" _ := ⟨pP1, fP1, _, _, pP1', ok_bottom FP1 R, bP1⟩
  have c_istabR : IstabW l.prog w K mg base := ⟨fD3, _, _, [], ok_istab FD3 B, gD3, kD3, bD3, .nil⟩
  have c_istab := istab_even c_istabR
  have c_isix : CalF l.prog w K mg base _ "is_index" _ [] := ⟨fD4, _, _, [], ok_isixa FD4 c_whole, gD4, kD4, bD4, .nil⟩
  have c_issz : CalF l.prog w K mg base _ "is_size" _ [] := ⟨fD5, _, _, [], ok_issza FD5 c_whole, gD5, kD5, bD5, .nil⟩
  have MM : Mk K CM fM2 := ⟨mkM, aM2, iM2, kcM⟩
  have m_mat : MatC l.prog w K mg base C CM := ⟨fM2, _, _, [], MM, ok_minit FM2 TM c_istab c_number c_to, PySem.W.mg_of X G aCM, bM2, .nil⟩
  have pm_entries : PropF l.prog w K mg base 2 CM "entries" _ := ⟨pP2, fP2, _, _, pP2', ok_entries FP2 TM, bP2⟩
  have pm_rows : PropF l.prog w K mg base 2 CM "rows" _ := ⟨pP3, fP3, _, _, pP3', ok_rows FP3 TM, bP3⟩
  have pm_columns : PropF l.prog w K mg base 2 CM "columns" _ := ⟨pP4, fP4, _, _, pP4', ok_columns FP4 TM, bP4⟩
  have d_mstr : DunF l.prog w K mg base 6 CM "__str__" (spMStr C CM) := ⟨fM3, _, _, aM3, iM3, ok_mstr FM3 TM d_str, bM3⟩
  have i_mgetx : IxX l.prog w K mg base 8 CM (spMGetX K C CM CI) := ⟨fM4, _, _, aM4, fiGI, iM4, ok_mgetx FM4 TM x_ixe c_isix pm_rows pm_columns, bM4⟩
  have FRZ := fun_mk (st := s_Matrix_zero) lRZ cRZ kRZ
  have bRZ := FRZ.binds (ps := ["cls", "rows", "columns"]) fun _ _ _ _ _ _ us hl => match us, hl with | [_, _, _], _ => rfl
  have crRZ : ClX.CRead K CM (.type "type") := ⟨rzrd, rzga⟩
  have cmRZ : ClX.CMet K CM (.type "type") "zero" pRZ fRZ := ⟨rzat, ⟨_, rzrc⟩, rzfi⟩
  have okRZ := ok_zerox FRZ TM c_issz x_siz m_mat
  have m_zero : CmtX l.prog w K mg base 10 CM "zero" (spZeroX K C CM CZ) := ⟨pRZ, fRZ, _, _, _, crRZ, cmRZ, okRZ, bRZ⟩
  have FRE := fun_mk (st := s_Matrix_eye) lRE cRE kRE
  have bRE := FRE.binds (ps := ["cls", "size"]) fun _ _ _ _ _ _ us hl => match us, hl with | [_, _], _ => rfl
  have crRE : ClX.CRead K CM (.type "type") := ⟨rerd, rega⟩
  have cmRE : ClX.CMet K CM (.type "type") "eye" pRE fRE := ⟨reat, ⟨_, rerc⟩, refi⟩
  have okRE := ok_eye FRE TM c_issz x_siz m_mat
  have m_eye : CmtX l.prog w K mg base 10 CM "eye" (spEyeX K C CM CZ) := ⟨pRE, fRE, _, _, _, crRE, cmRE, okRE, bRE⟩
  have m_eyeK : EyeK l.prog w K mg base C CM CZ := ⟨pRE, fRE, _, _, _, (fun us ws => us ++ ws), crRE, cmRE, okRE, ⟨fun s us ws _ h1 h2 => match us, ws, h1, h2 with | [_], [_], _, _ => .of_eq rfl, fun r1 r2 => r1.append r2⟩⟩
  have m_zeroK : ZeroK l.prog w K mg base C CM CZ := ⟨pRZ, fRZ, _, _, _, gZv, crRZ, cmRZ, okRZ, ⟨fun s us ws _ h1 h2 => match us, ws, h1, h2 with | [_], [_, _], _, _ => .of_eq rfl, fun r1 r2 => gZ_rel r1 r2⟩⟩
  have c_draw : CalG l.prog w K mg base _ "_law_draw" _ [] := ⟨fD7, _, _, [], ok_draw FD7 B, gD7, kD7, bD7, .nil⟩
  have c_great : CalG l.prog w K mg base _ "_law_great" _ [] := ⟨fD8, _, _, [], ok_great FD8 B c_draw, gD8, kD8, bD8, .nil⟩
  have c_common : CalG l.prog w K mg base _ "_law_common" _ [] := ⟨fD9, _, _, [], ok_common FD9 B, gD9, kD9, bD9, .nil⟩
  have c_lowest : CalG l.prog w K mg base _ "_law_lowest" _ [] := ⟨fD10, _, _, [], ok_lowest FD10 c_common, gD10, kD10, bD10, .nil⟩
  have c_purse : CalG l.prog w K mg base _ "_law_purse" _ [] := ⟨fD6, _, _, [], ok_purse FD6 B, gD6, kD6, bD6, .nil⟩
  have c_from : CalG l.prog w K mg base _ "_law_from" _ [] := ⟨fD11, _, _, [], ok_from FD11 c_purse, gD11, kD11, bD11, .nil⟩
  have c_digits : CalG l.prog w K mg base _ "_law_digits" _ [] := ⟨fD12, _, _, [], ok_digits FD12 B, gD12, kD12, bD12, .nil⟩
  have c_low : CalG l.prog w K mg base _ "_law_low" _ [] := ⟨fD13, _, _, [], ok_low FD13 B c_common, gD13, kD13, bD13, .nil⟩
  have c_eye : CalG l.prog w K mg base _ "_law_eye" _ [] := ⟨fD14, _, _, [], ok_leye FD14 B, gD14, kD14, bD14, .nil⟩
  have c_zeros : CalG l.prog w K mg base _ "_law_zeros" _ [] := ⟨fD15, _, _, [], ok_lzer FD15 B, gD15, kD15, bD15, .nil⟩
  have c_pairs : CalG l.prog w K mg base _ "_law_pairs" _ [] := ⟨fD17, _, _, [], ok_pairs FD17 B c_lowest, gD17, kD17, bD17, .nil⟩
  have c_told : CalG l.prog w K mg base _ "_law_told" _ [] := ⟨fD16, _, _, [], ok_told FD16 TM pm_entries p_top p_bottom, gD16, kD16, bD16, .nil⟩
  have c_is : CalG l.prog w K mg base _ "_law_is" _ [] := ⟨fD18, _, _, [], ok_is FD18 TM c_told c_pairs, gD18, kD18, bD18, .nil⟩
  have c_entries : CalG l.prog w K mg base _ "_law_entries" _ [] := ⟨fD19, _, _, [], ok_ent FD19 TM m_rat2, gD19, kD19, bD19, .nil⟩
  have c_sign : CalG l.prog w K mg base _ "_law_sign_text" _ [] := ⟨fD20, _, _, [], ok_sign FD20 B c_draw, gD20, kD20, bD20, .nil⟩
  have c_odd0 : CalG l.prog w K mg base 6 "_law_odd" (spOdd K C 0) [] := ⟨fD21, _, _, [], ⟨fun _ _ _ _ h => h.elim, fun _ _ _ _ _ _ _ _ _ _ _ _ _ _ h => h.elim⟩, gD21, kD21, bD21, .nil⟩
  have c_odd1 : CalG l.prog w K mg base 7 "_law_odd" (spOdd K C 1) [] := ⟨fD21, _, _, [], ok_odd (l := 6) FD21 R O c_draw c_great c_sign m_rat2 (by decide) 0 c_odd0, gD21, kD21, bD21, .nil⟩
  have c_odd2 : CalG l.prog w K mg base 8 "_law_odd" (spOdd K C 2) [] := ⟨fD21, _, _, [], ok_odd (l := 7) FD21 R O c_draw c_great c_sign m_rat2 (by decide) 1 c_odd1, gD21, kD21, bD21, .nil⟩
  have c_odd3 : CalG l.prog w K mg base 9 "_law_odd" (spOdd K C 3) [] := ⟨fD21, _, _, [], ok_odd (l := 8) FD21 R O c_draw c_great c_sign m_rat2 (by decide) 2 c_odd2, gD21, kD21, bD21, .nil⟩
  have c_lwhole : CalG l.prog w K mg base _ "_law_is_whole" _ [] := ⟨fD22, _, _, [], ok_lwhole FD22 B, gD22, kD22, bD22, .nil⟩
  have c_cells : CalG l.prog w K mg base _ "_law_cells" _ [] := ⟨fD23, _, _, [], ok_cells FD23 B c_draw c_low, gD23, kD23, bD23, .nil⟩
  have c_mtext : CalG l.prog w K mg base _ "_law_matrix_text" _ [] := ⟨fD24, _, _, [], ok_mtext FD24 B c_pairs c_digits, gD24, kD24, bD24, .nil⟩
  have c_sth : CalG l.prog w K mg base _ "_law_size_thing" _ [] := ⟨fD25, _, _, [], ok_sth FD25 R c_draw c_odd3, gD25, kD25, bD25, .nil⟩
  have c_lsize : CalG l.prog w K mg base _ "_law_is_size" _ [] := ⟨fD26, _, _, [], ok_lsize FD26 c_lwhole, gD26, kD26, bD26, .nil⟩
  have c_eyedue : CalG l.prog w K mg base _ "_law_eye_due" _ [] := ⟨fD27, _, _, [], ok_eyedue FD27 B d_repr c_lsize c_eye c_mtext, gD27, kD27, bD27, .nil⟩
  have c_zerodue : CalG l.prog w K mg base _ "_law_zero_due" _ [] := ⟨fD28, _, _, [], ok_zerodue FD28 B d_repr c_lsize c_zeros c_mtext, gD28, kD28, bD28, .nil⟩
  have c_spot : CalG l.prog w K mg base _ "_law_spot" _ [] := ⟨fD29, _, _, [], ok_spot FD29 R O c_draw c_odd3, gD29, kD29, bD29, .nil⟩
  have AK : AskC K mg "_law_asked" "_law_act" s__law_asked fD30 _ cdD30 := ⟨gD30, kD30, ⟨_, _, _, _, _, _, _, _, rfl, lD30, cD30⟩, bD30⟩
  have CR : FunC K "_law_right" "_law_right" s__law_right fD31 _ cR := ⟨⟨_, _, _, _, _, _, _, _, rfl, lD31, cD31⟩⟩
  have CL : FunC K "law" "law" s_law fa _ cL := ⟨⟨_, _, _, _, _, _, _, _, rfl, lD32, cD32⟩⟩
  have c_right : CalG l.prog w K mg base 24 "_law_right" (spRight (TL1 "_law_right" PR)) [] := ⟨fD31, _, _, [], ok_right CR TBR AK TM O x_ixe x_siz nIZ d_str d_mstr d_repr d_reprH c_draw c_sth c_lwhole m_eye m_zero m_eyeK m_zeroK c_eyedue c_zerodue c_cells m_mat c_entries c_pairs c_spot c_digits c_is i_mgetx, gD31, kD31, bD31, .nil⟩
  exact ok_law CL TBL nP AK TM O x_ixe x_siz nIZ d_str d_mstr d_reprH m_eye m_zero c_from c_right
theorem walk {cL PL cR PR : Addr} {l : PySem.W.OpenLaw} {q : Program} {loose : List Str} {XP : (Str → Option Value) → Heap → Prop} {YP : World → Heap → Prop} {d : DefRec} {K : Params → PySem.W.Frag} (hn : l.most = some 63) (hdf : d.params.defaults = [])
    (hY : ∀ (w : World) (h : Heap), YP w h → (K w.params).In h ∧ ∀ b, b ∈ tabsOf [(cL, PL), (cR, PR)] → h.get? b = some { cls := .none, data := .fields #[] }) (hN : ∀ (w : World), ∀ b, b ∈ tabsOf [(cL, PL), (cR, PR)] → (K w.params).lookup b = none)
    (hC : ∀ (w : World) (h : Heap), (K w.params).In h → ∀ p ∈ [(cL, PL), (cR, PR)], PySem.W.CodeHd h p.1 p.2)
    (F : ∀ (w : World) (mg : Str → Option Value) (fa : Addr) (h : Heap), (K w.params).In h → h.Ns mainGlobals mg → mg d.name = some (.ref fa) →
      ∃ fd : FuncData, (∀ (s : Shared) (u : Value), BindsTo s fd ⟨[u], []⟩ [("_law_script", u)]) ∧ ∀ base : Heap, (K w.params).In base → base.Ns mainGlobals mg → (∀ p ∈ [(cL, PL), (cR, PR)], TabB base mg p.1 p.2) → FnG l.prog w (K w.params) mg base CX0 26 fa fd ["_law_script"] (spLaw (K w.params) PL PR)) :
    PySem.W.WalkO q loose XP YP l.row.toRowW d [] (fun f vs => PySem.call f vs) :=
  walkT (n := 63) (k := 26) (x := "_law_script") (cs := [(cL, PL), (cR, PR)]) (sp := fun w => spLaw (K w.params) PL PR) hn (by decide) hdf ⟨rfl, by decide, by decide⟩ hY hN hC F (fun _ H a ns hl hT hS => ⟨a, ns, rfl, hS, hl, fun p hp => by
    rcases List.mem_cons.mp hp with rfl | hp
    · exact TabS.nil (hT _ (List.mem_cons_self))
    · cases List.mem_singleton.mp hp
      exact TabS.nil (hT _ (List.mem_cons_of_mem _ List.mem_cons_self)), fun _ => rfl⟩)
end Lw

open PySem PySem.W PyProof.Rows
set_option maxRecDepth 100000 in
set_option maxHeartbeats 0 in
theorem PySem.Challenge.cw_matrixforms_k10_matrices_refused_holds : PySem.Challenge.rw_matrixforms_k10_matrices_refused.Holds := by
  refine Lw.hd ?_
  k_fill
  refine Lw.walk (l := PySem.Challenge.rw_matrixforms_k10_matrices_refused) rfl rfl (cL := 709) (PL := 707) (cR := 704) (PR := 700) (fun w h Y => ⟨PySem.W.km_in_of Y, fun b hb => ?hT⟩) (fun w b hb => ?hN) (fun w h KX p hp => ?hC) ?F
  case hT => exact PySem.W.km_tabs_of Y b (by have hb' : b ∈ [707, 700] := hb; simp only [List.mem_cons, List.not_mem_nil, or_false] at hb' ⊢; exact hb'.symm)
  case hN =>
    rcases List.mem_cons.mp hb with rfl | hb
    · kernel_rfl
    · cases List.mem_singleton.mp hb
      kernel_rfl
  case hC =>
    rcases List.mem_cons.mp hp with rfl | hp
    · exact PySem.W.codeHd_of_K KX (by kernel_rfl)
    · cases List.mem_singleton.mp hp
      exact PySem.W.codeHd_of_K KX (by kernel_rfl)
  case F =>
    intro w mg fa h KX G hmg
    refine' Lw.all_mk KX G hmg ?aD0 ?lD0 ?cD0 ?kD0 ?aD1 ?lD1 ?cD1 ?kD1 ?aD2 ?lD2 ?cD2 ?kD2 ?aD3 ?lD3 ?cD3 ?kD3 ?aD4 ?lD4 ?cD4 ?kD4 ?aD5 ?lD5 ?cD5 ?kD5 ?aD6 ?lD6 ?cD6 ?kD6 ?aD7 ?lD7 ?cD7 ?kD7 ?aD8 ?lD8 ?cD8 ?kD8 ?aD9 ?lD9 ?cD9 ?kD9 ?aD10 ?lD10 ?cD10 ?kD10 ?aD11 ?lD11 ?cD11 ?kD11 ?aD12 ?lD12 ?cD12 ?kD12 ?aD13 ?lD13 ?cD13 ?kD13 ?aD14 ?lD14 ?cD14 ?kD14 ?aD15 ?lD15 ?cD15 ?kD15 ?aD16 ?lD16 ?cD16 ?kD16 ?aD17 ?lD17 ?cD17 ?kD17 ?aD18 ?lD18 ?cD18 ?kD18 ?aD19 ?lD19 ?cD19 ?kD19 ?aD20 ?lD20 ?cD20 ?kD20 ?aD21 ?lD21 ?cD21 ?kD21 ?aD22 ?lD22 ?cD22 ?kD22 ?aD23 ?lD23 ?cD23 ?kD23 ?aD24 ?lD24 ?cD24 ?kD24 ?aD25 ?lD25 ?cD25 ?kD25 ?aD26 ?lD26 ?cD26 ?kD26 ?aD27 ?lD27 ?cD27 ?kD27 ?aD28 ?lD28 ?cD28 ?kD28 ?aD29 ?lD29 ?cD29 ?kD29 ?aD30 ?lD30 ?cD30 ?kD30 ?aD31 ?lD31 ?cD31 ?kD31 ?aD32 ?lD32 ?cD32 ?kD32 ?aM0 ?iM0 ?lM0 ?cM0 ?kM0 ?aM1 ?iM1 ?lM1 ?cM1 ?kM1 ?aM2 ?iM2 ?lM2 ?cM2 ?kM2 ?aM3 ?iM3 ?lM3 ?cM3 ?kM3 ?aM4 ?iM4 ?lM4 ?cM4 ?kM4 ?aP0 ?gP0 ?tP0 ?rP0 ?lP0 ?cP0 ?kP0 ?aP1 ?gP1 ?tP1 ?rP1 ?lP1 ?cP1 ?kP1 ?aP2 ?gP2 ?tP2 ?rP2 ?lP2 ?cP2 ?kP2 ?aP3 ?gP3 ?tP3 ?rP3 ?lP3 ?cP3 ?kP3 ?aP4 ?gP4 ?tP4 ?rP4 ?lP4 ?cP4 ?kP4 ?aI ?iI ?lI ?cI ?kI ?lT ?dT ?z_int ?z_len ?z_abs ?z_range ?z_max ?z_min ?z_all ?z_repr ?z_isinstance ?z_bool ?z_str ?z_any ?z_tuple ?z_list ?z_sum ?z_zip ?z_enumerate ?aR ?aCM ?aG ?aL ?pgC ?hdC ?poC ?saC ?mkC ?kcC ?caC ?cmC ?sIC ?sBC ?tyC ?isC ?sbC ?soC ?neC ?pgM ?hdM ?poM ?saM ?mkM ?kcM ?caM ?cmM ?sIM ?sBM ?tyM ?isM ?sbM ?soM ?neM ?nT' ?nB' ?nE' ?nTop ?cn ?ct' ?sRM ?sMR ?sTU ?fiGI ?sST ?x_n ?x_s ?x_t ?x_l ?x_b ?x_d ?aY ?yL ?ysa ?yga ?ygg ?yno ?yin ?yt ?yk ?yeC ?ytC ?yhC ?ysC ?lY ?cY ?kY ?aW ?wL ?wsa ?wga ?wgg ?wno ?win ?wt ?wk ?weC ?wtC ?whC ?wsC ?lW ?cW ?kW ?sZI ?rzrd ?rzga ?rzat ?rzrc ?rzfi ?lRZ ?cRZ ?kRZ ?rerd ?rega ?reat ?rerc ?refi ?lRE ?cRE ?kRE ?eR ?eL ?nP
    (case aW => k_is)
    (case aY => k_is)
    (case aR => k_is)
    (case aCM => k_is)
    (case aD0 => k_is)
    (case lD0 => k_is)
    (case cD0 => k_is)
    (case kD0 => k_is)
    (case aD1 => k_is)
    (case lD1 => k_is)
    (case cD1 => k_is)
    (case kD1 => k_is)
    (case aD2 => k_is)
    (case lD2 => k_is)
    (case cD2 => k_is)
    (case kD2 => k_is)
    (case aD3 => k_is)
    (case lD3 => k_is)
    (case cD3 => k_is)
    (case kD3 => k_is)
    (case aD4 => k_is)
    (case lD4 => k_is)
    (case cD4 => k_is)
    (case kD4 => k_is)
    (case aD5 => k_is)
    (case lD5 => k_is)
    (case cD5 => k_is)
    (case kD5 => k_is)
    (case aD6 => k_is)
    (case lD6 => k_is)
    (case cD6 => k_is)
    (case kD6 => k_is)
    (case aD7 => k_is)
    (case lD7 => k_is)
    (case cD7 => k_is)
    (case kD7 => k_is)
    (case aD8 => k_is)
    (case lD8 => k_is)
    (case cD8 => k_is)
    (case kD8 => k_is)
    (case aD9 => k_is)
    (case lD9 => k_is)
    (case cD9 => k_is)
    (case kD9 => k_is)
    (case aD10 => k_is)
    (case lD10 => k_is)
    (case cD10 => k_is)
    (case kD10 => k_is)
    (case aD11 => k_is)
    (case lD11 => k_is)
    (case cD11 => k_is)
    (case kD11 => k_is)
    (case aD12 => k_is)
    (case lD12 => k_is)
    (case cD12 => k_is)
    (case kD12 => k_is)
    (case aD13 => k_is)
    (case lD13 => k_is)
    (case cD13 => k_is)
    (case kD13 => k_is)
    (case aD14 => k_is)
    (case lD14 => k_is)
    (case cD14 => k_is)
    (case kD14 => k_is)
    (case aD15 => k_is)
    (case lD15 => k_is)
    (case cD15 => k_is)
    (case kD15 => k_is)
    (case aD16 => k_is)
    (case lD16 => k_is)
    (case cD16 => k_is)
    (case kD16 => k_is)
    (case aD17 => k_is)
    (case lD17 => k_is)
    (case cD17 => k_is)
    (case kD17 => k_is)
    (case aD18 => k_is)
    (case lD18 => k_is)
    (case cD18 => k_is)
    (case kD18 => k_is)
    (case aD19 => k_is)
    (case lD19 => k_is)
    (case cD19 => k_is)
    (case kD19 => k_is)
    (case aD20 => k_is)
    (case lD20 => k_is)
    (case cD20 => k_is)
    (case kD20 => k_is)
    (case aD21 => k_is)
    (case lD21 => k_is)
    (case cD21 => k_is)
    (case kD21 => k_is)
    (case aD22 => k_is)
    (case lD22 => k_is)
    (case cD22 => k_is)
    (case kD22 => k_is)
    (case aD23 => k_is)
    (case lD23 => k_is)
    (case cD23 => k_is)
    (case kD23 => k_is)
    (case aD24 => k_is)
    (case lD24 => k_is)
    (case cD24 => k_is)
    (case kD24 => k_is)
    (case aD25 => k_is)
    (case lD25 => k_is)
    (case cD25 => k_is)
    (case kD25 => k_is)
    (case aD26 => k_is)
    (case lD26 => k_is)
    (case cD26 => k_is)
    (case kD26 => k_is)
    (case aD27 => k_is)
    (case lD27 => k_is)
    (case cD27 => k_is)
    (case kD27 => k_is)
    (case aD28 => k_is)
    (case lD28 => k_is)
    (case cD28 => k_is)
    (case kD28 => k_is)
    (case aD29 => k_is)
    (case lD29 => k_is)
    (case cD29 => k_is)
    (case kD29 => k_is)
    (case aD30 => k_is)
    (case lD30 => k_is)
    (case cD30 => k_is)
    (case kD30 => k_is)
    (case aD31 => k_is)
    (case lD31 => k_is)
    (case cD31 => k_is)
    (case kD31 => k_is)
    (case aD32 => k_is)
    (case lD32 => k_is)
    (case cD32 => k_is)
    (case kD32 => k_is)
    (case aM0 => k_is)
    (case iM0 => k_is)
    (case lM0 => k_is)
    (case cM0 => k_is)
    (case kM0 => k_is)
    (case aM1 => k_is)
    (case iM1 => k_is)
    (case lM1 => k_is)
    (case cM1 => k_is)
    (case kM1 => k_is)
    (case aM2 => k_is)
    (case iM2 => k_is)
    (case lM2 => k_is)
    (case cM2 => k_is)
    (case kM2 => k_is)
    (case aM3 => k_is)
    (case iM3 => k_is)
    (case lM3 => k_is)
    (case cM3 => k_is)
    (case kM3 => k_is)
    (case aM4 => k_is)
    (case iM4 => k_is)
    (case lM4 => k_is)
    (case cM4 => k_is)
    (case kM4 => k_is)
    (case aP0 => k_is)
    (case gP0 => k_is)
    (case tP0 => k_is)
    (case rP0 => k_is)
    (case lP0 => k_is)
    (case cP0 => k_is)
    (case kP0 => k_is)
    (case aP1 => k_is)
    (case gP1 => k_is)
    (case tP1 => k_is)
    (case rP1 => k_is)
    (case lP1 => k_is)
    (case cP1 => k_is)
    (case kP1 => k_is)
    (case aP2 => k_is)
    (case gP2 => k_is)
    (case tP2 => k_is)
    (case rP2 => k_is)
    (case lP2 => k_is)
    (case cP2 => k_is)
    (case kP2 => k_is)
    (case aP3 => k_is)
    (case gP3 => k_is)
    (case tP3 => k_is)
    (case rP3 => k_is)
    (case lP3 => k_is)
    (case cP3 => k_is)
    (case kP3 => k_is)
    (case aP4 => k_is)
    (case gP4 => k_is)
    (case tP4 => k_is)
    (case rP4 => k_is)
    (case lP4 => k_is)
    (case cP4 => k_is)
    (case kP4 => k_is)
    (case aI => k_is)
    (case iI => k_is)
    (case lI => k_is)
    (case cI => k_is)
    (case kI => k_is)
    (case lT => k_is)
    (case dT => rfl)
    (case z_int => k_is)
    (case z_len => k_is)
    (case z_abs => k_is)
    (case z_range => k_is)
    (case z_max => k_is)
    (case z_min => k_is)
    (case z_all => k_is)
    (case z_repr => k_is)
    (case z_isinstance => k_is)
    (case z_bool => k_is)
    (case z_str => k_is)
    (case z_any => k_is)
    (case z_tuple => k_is)
    (case z_list => k_is)
    (case z_sum => k_is)
    (case z_zip => k_is)
    (case z_enumerate => k_is)
    (case aG => k_is)
    (case aL => k_is)
    (case pgC => k_is)
    (case hdC => k_is)
    (case poC => k_is)
    (case saC => k_is)
    (case mkC => k_is)
    (case kcC => k_is)
    (case caC => k_is)
    (case cmC => k_is)
    (case sIC => k_is)
    (case sBC => k_is)
    (case tyC => k_is)
    (case isC => k_is)
    (case sbC => k_is)
    (case soC => k_is)
    (case neC => k_is)
    (case pgM => k_is)
    (case hdM => k_is)
    (case poM => k_is)
    (case saM => k_is)
    (case mkM => k_is)
    (case kcM => k_is)
    (case caM => k_is)
    (case cmM => k_is)
    (case sIM => k_is)
    (case sBM => k_is)
    (case tyM => k_is)
    (case isM => k_is)
    (case sbM => k_is)
    (case soM => k_is)
    (case neM => k_is)
    (case nT' => k_is)
    (case nB' => k_is)
    (case nE' => k_is)
    (case nTop => k_is)
    (case cn => k_is)
    (case ct' => k_is)
    (case sRM => k_is)
    (case sMR => k_is)
    (case sTU => k_is)
    (case fiGI => k_is)
    (case sST => k_is)
    (case x_n => k_is)
    (case x_s => k_is)
    (case x_t => k_is)
    (case x_l => k_is)
    (case x_b => k_is)
    (case x_d => k_is)
    (case yL => k_is)
    (case ysa => k_is)
    (case yga => k_is)
    (case ygg => k_is)
    (case yno => k_is)
    (case yin => k_is)
    (case yt => k_is)
    (case yk => k_is)
    (case yeC => k_is)
    (case ytC => k_is)
    (case yhC => k_is)
    (case ysC => first | rfl | k_is)
    (case lY => k_is)
    (case cY => k_is)
    (case kY => k_is)
    (case wL => k_is)
    (case wsa => k_is)
    (case wga => k_is)
    (case wgg => k_is)
    (case wno => k_is)
    (case win => k_is)
    (case wt => k_is)
    (case wk => k_is)
    (case weC => k_is)
    (case wtC => k_is)
    (case whC => k_is)
    (case wsC => first | rfl | k_is)
    (case lW => k_is)
    (case cW => k_is)
    (case kW => k_is)
    (case sZI => k_is)
    (case rzrd => k_is)
    (case rzga => k_is)
    (case rzat => k_is)
    (case rzrc => k_is)
    (case rzfi => k_is)
    (case lRZ => k_is)
    (case cRZ => k_is)
    (case kRZ => k_is)
    (case rerd => k_is)
    (case rega => k_is)
    (case reat => k_is)
    (case rerc => k_is)
    (case refi => k_is)
    (case lRE => k_is)
    (case cRE => k_is)
    (case kRE => k_is)
    (case eR => rfl)
    (case eL => rfl)
    (case nP => decide)


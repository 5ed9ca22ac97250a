import PyProof.Rows.All
import Wide.All
import OpenK.AllK
import Wide.FinOn
import HandS.ForMost
import HandS.Wide
import HandS.Gcd
import HandS.IsInst
import HandS.Property
import HandS.OwnEq
import KE.KOpsOwn
import PyProof.ReprRoads
import HandS.Codes
import HandS.Defaults
import HandS.MakeKwOnly
import OpenK.KOps
import KE.KCallOwn
import PyProof.ReprDict
import PyProof.StrHeap
import HandS.MakeKw
import HandS.HotCalls
import HandS.Style
import PyProof.Rows.SortStrRead
import PyProof.Rows.ReprOcc
import PyProof.ReprLen
import PyProof.P3Eq
import HandS.FStr
import HandS.ExcInitHot
import HandS.ExcField
import HandS.WordsExc
import HandS.ExcIs
import HandS.ClsMeth
import HandS.StrMore
import KE.KExcIs
import KE.KExcMake
import HandS.Zip
import HandS.Walk
import KE.KMathGC
import PySem.Challenge.RW_matrixforms_k07_matrix_operators
set_option Elab.async false
set_option linter.all false
set_option maxRecDepth 100000
set_option maxHeartbeats 8000000
namespace PySem.W.Fast
def tw7203288090836937120 : Nat := 0
def tw178867267501907105 : Nat := 0
def tw717659098053416225 : Nat := 0
def tw4481948602695905921 : Nat := 0
def tw13038423980101241282 : Nat := 0
def tw14599332172640487106 : Nat := 0
def tw10111995794039760739 : Nat := 0
def tw13745525954573722341 : Nat := 0
def tw6594536842897919367 : Nat := 0
def tw12218876675362268583 : Nat := 0
def tw1766363849676040 : Nat := 0
def tw10702267428988894793 : Nat := 0
def tw12481800489612180170 : Nat := 0
def tw17156414751145441162 : Nat := 0
def tw12390798536196764139 : Nat := 0
def tw10379364681579495500 : Nat := 0
def tw15108031784282268780 : Nat := 0
def tw12986296579006380524 : Nat := 0
def tw8076744910833803212 : Nat := 0
def tw13086138719991198381 : Nat := 0
def tw12813955049294325677 : Nat := 0
def tw18051643089633507535 : Nat := 0
def tw8790988366715638319 : Nat := 0
def tw3364875717347401008 : Nat := 0
def tw6279193099490907472 : Nat := 0
def tw5087856003943862832 : Nat := 0
def tw10593118941019815633 : Nat := 0
def tw3584025653781061842 : Nat := 0
def tw14934957043791325394 : Nat := 0
def tw7472558607848939923 : Nat := 0
def tw6321930363019051891 : Nat := 0
def tw2856092521848000371 : Nat := 0
def tw13499960397644939284 : Nat := 0
def tw1737057240331206740 : Nat := 0
def tw3080929937059602580 : Nat := 0
def tw3024241032773627508 : Nat := 0
def tw9820083571795071509 : Nat := 0
def tw756233759059836661 : Nat := 0
def tw4540219048259557558 : Nat := 0
def tw2595842728486843543 : Nat := 0
def tw5766912683543112184 : Nat := 0
def tw6479511730021731481 : Nat := 0
def tw17572061826616167705 : Nat := 0
def tw13615248726454498841 : Nat := 0
def tw15797672616676872731 : Nat := 0
def tw14867651474815253115 : Nat := 0
def tw2518412735853312188 : Nat := 0
def tw12333186931278915933 : Nat := 0
def tw9206648777740167773 : Nat := 0
def tw3032421467732934557 : Nat := 0
def tw11056047413890088414 : Nat := 0
end PySem.W.Fast
namespace Lw
open PySem PySem.W PyProof.Rows
set_option maxHeartbeats 0
open_top hd for PySem.Challenge.rw_matrixforms_k07_matrix_operators
end Lw

/-! A layer over L2 in which it is known that no guarded builtin (repr of a container) is running around. -/
namespace MG
open PySem PySem.Spec PyProof.Rows L2

/-- nothing guarded runs around -/
def Bare (A : Around) : Prop := A.guards = some []

/-- as FnOk, called only where nothing guarded runs around -/
structure FnG (P : Program) (w : World) (K : PySem.W.Frag) (mg : Str → Option Value) (base : Heap) (CX : CXT) (k : Nat)
    (f : Addr) (fd : FuncData) (ps : List Str) (sp : Sp) : Prop where
  len : ∀ vs H Q E, sp vs H Q E → vs.length = ps.length
  run : ∀ (A : Around) (outer : List Env) (s : Shared) (H : Hp) (args : Args) (us : List Value) (vs : List V) (Q : VK) (E : XK),
    Bare A → Room k A → Env0 P w K mg base A outer s H → BindsTo s fd args (ps.zip us) → Vals vs us → sp vs H Q E →
      codeAny (model P w) A (.call (.ref f) args) (CR CX outer P w H s Q E) s

section
variable {P : Program} {w : World} {K : PySem.W.Frag} {mg : Str → Option Value} {base : Heap} {CX : CXT} {k : Nat} {f : Addr}
theorem FnG.of {fd : FuncData} {ps : List Str} {sp : Sp} (F : FnOk P w K mg base CX k f fd ps sp) : FnG P w K mg base CX k f fd ps sp :=
  ⟨F.len, fun A outer s H args us vs Q E _ => F.run A outer s H args us vs Q E⟩

theorem fnG_of {name qual : Str} {params : Arguments} {body : List Stmt} {scope : Scope} {dV kV doc pm cdv ct oc : Value} {an od : Option Addr}
    {osl : Array (Option Value)} {N ps : List Str} {sp : Sp}
    (lk : K.lookup f = some ⟨oc, od, .func (PySem.W.fnOf name qual params body scope dV kV doc pm an cdv ct), osl⟩)
    (hcd : PySem.W.codeIn K cdv qual = true) (S : FnScope N ps scope) (len : ∀ vs H Q E, sp vs H Q E → vs.length = ps.length)
    (hbody : ∀ (A : Around) (outer : List Env) (s : Shared) (H : Hp) (vs : List V) (Q : VK) (E : XK), Bare A →
      Room k (A.deeper (envOfC qual scope s.heap.objs.size f cdv)) → sp vs H Q E →
      ∃ t, PSs (cxOf CX P w K mg base N qual scope f cdv A outer s H E) body t ∧ t { nx := fun _ H' => Q .non H', rt := Q } (start N vs) H) :
    FnG P w K mg base CX (k + 1) f (PySem.W.fnOf name qual params body scope dV kV doc pm an cdv ct) ps sp := by
  refine ⟨len, ?_⟩
  intro A outer s H args us vs Q E bare hr e0 hb r hsp
  have hl := len _ _ _ _ hsp
  have inK : K.In s.heap := e0.mod.kin.keeps (fun b o e => (e0.bs b o e).left)
  have free : s.heap.NoLimit := e0.mod.nolimit.keeps (fun b o e => (e0.bs b o e).left)
  refine codeAny_call_function hr.depth (inK _ _ lk) rfl S.co S.gen rfl (PySem.W.codeRec_of inK hcd) (hb _ _ _ _ ?_)
  have kinds : ∀ y ∈ ps.zip us, scope.names.lookup y.1 = some .local ∨
      (scope.names.lookup y.1 = some .cell ∧ ((cellsFrom (s.heap.objs.size + 1) scope.names []).lookup y.1).isSome = true) := by
    rintro ⟨n, v⟩ hy
    exact (S.par n (List.of_mem_zip hy).left).imp id fun q => ⟨q, PySem.W.cellsFrom_some _ _ _ (.inl q)⟩
  refine wpAny_newFunctionEnv_cells S.kind kinds ?_
  intro env he s1 x
  subst he
  refine ⟨free.keeps x.toInCall.keep, codeAny_func ?_⟩
  obtain ⟨t, ht, hq⟩ := hbody A outer s H vs Q E bare (hr.deeper _) hsp
  have I := inv_start (CX := CX) (E := E) S hr.hd e0 hl r x
  refine wpAny_mono (ht.run [] s1 (start N vs) H _ I hq) ?_ (fun e s' hs => hs)
  intro fl s' hs
  match fl, hs with
  | .ret u, ⟨v, σ', H', J, rv, q⟩ => exact ⟨v, H', J.os, J.bare, J.base, J.hok, rv, q⟩
  | .next, ⟨σ', H', J, q⟩ => exact ⟨V.non, H', J.os, J.bare, J.base, J.hok, rfl, q⟩
  | .brk, ⟨_, _, _, q⟩ => exact False.elim q
  | .cont, ⟨_, _, _, q⟩ => exact False.elim q
end

section
variable {X : Cx} {CX : CXT} {k : Nat} {f C : Addr} {fd : FuncData} {ps : List Str} {sp : Sp} {dvs : List V} {ds : List Value} {E : XK} {x m : Str} {p pos apos : Pos} {e o : Expr} {es : List Expr} {ta : TE} {t : TA}
variable {pins : List (Addr × Obj)} {σ : L2.St} {H : Hp} {s : Shared}
theorem run_fnG {Q : VK} {us : List Value} {vs : List V} (F : FnG X.prog X.w X.K X.mg X.base CX k f fd ps sp) (bare : Bare X.A) (hr : Room k X.A)
    (hb : Binds X.K fd ps ds) (hd : Vals dvs ds) (hx : Passes CX X E) (I : Inv X pins σ H s) (r : Vals vs us) (h : sp (vs ++ dvs) H Q E) :
    wpAny (model X.prog X.w) X.A (call (.ref f) us) (EP X pins σ Q) X.xe s := by
  have r2 := r.append hd
  have hl : (us ++ ds).length = ps.length := r2.length.symm.trans (F.len _ _ _ _ h)
  refine wpAny_call (codeAny_mono (F.run X.A X.stack s H ⟨us, []⟩ _ _ Q E bare hr I.env0 (hb s us I.kIn hl) r2 h) ?_)
  intro r s' hq
  match r, hq with
  | .error e, hq => exact hx pins σ H s e s' I hq
  | .ok (.ret u), hq => exact I.after hq
  | .ok .next, hq => exact False.elim hq
  | .ok .brk, hq => exact False.elim hq
  | .ok .cont, hq => exact False.elim hq

theorem pe_callG (F : FnG X.prog X.w X.K X.mg X.base CX k f fd ps sp) (bare : Bare X.A) (hr : Room k X.A) (hg : Gl X x) (hm : X.mg x = some (.ref f))
    (hk : PySem.W.keepIn X.K (.ref f) = true) (hb : Binds X.K fd ps ds) (hd : Vals dvs ds) (hx : Passes CX X E) (ha : PA X (e :: es) t)
    (hdb : (x == ("__debug__" : Str)) = false := by decide)
    (he : starEach (e :: es) X.env = (false, eval e X.env) :: starEach es X.env := by rfl)
    (hpl : (backTo pos (starEach es X.env)).any (·.1) = false := by rfl) : PE X (.Call (.Name x p) (e :: es) [] pos) (tCall sp dvs E t) := by
  constructor
  intro pins s σ H Q I h
  refine wpAny_Call_Name_kw (ld_glob I hg hm ?_ hdb)
  refine PySem.W.callWith_K (h₀ := X.base) I.ok.mod.kin hk (thn (ha.run pos pins s σ H _ I h) ?_) he hpl
  rintro us s1 ⟨vs, H1, I1, r, q⟩
  exact ⟨I1.kIn, run_fnG F bare hr hb hd hx I1 r q⟩
end

/-- the law's call at the heap behind the top, H being what is tracked there: at most the script -/
theorem enterG {P : Program} {w : World} {K : PySem.W.Frag} {mg mb : Str → Option Value} {k : Nat} {fa a : Addr} {fd : FuncData} {x : Str} {sp : Sp}
    {s₁ : Shared} {vs : List Value} {ns : List Int} {H : Hp}
    (KX : K.In s₁.heap) (hns : s₁.heap.Ns mainGlobals mg) (hb : s₁.heap.Ns builtinsNs mb) (hbb : ∀ x : Str, x ≠ "__name__" → mb x = bootBuiltins x)
    (hlim : s₁.heap.NoLimit) (hg : s₁.gens = #[]) (ha : s₁.heap.get? a = some { cls := .type "list", data := .seq vs.toArray })
    (hr : Room k callerA) (F : ∀ base : Heap, K.In base → base.Ns mainGlobals mg → FnG P w K mg base CX0 k fa fd [x] sp)
    (hbind : ∀ (s : Shared) (u : Value), BindsTo s fd ⟨[u], []⟩ [(x, u)])
    (hO : Only H) (hok : HOk P w H s₁.heap) (hA : ∀ b, H b ≠ none → b = a) (hK : H a ≠ none → K.lookup a = none)
    (hsp : sp [.ref a] H (fun v _ => v = .bl true) fun _ _ _ => False) :
    codeAny (model P w) callerA (.call (.ref fa) ⟨[.ref a], []⟩)
      (fun r s' => r = .ok (.ret (.bool true)) ∧ OldK s₁.heap s'.heap ∧ s'.os = s₁.os ∧ AllBare s'.gens) s₁ := by
  have untr : ∀ {b : Addr}, (b = a → False) → H b = none := fun {b} hne => by
    cases q : H b with
    | none => rfl
    | some u => exact (hne (hA b (by rw [q]; exact Option.some_ne_none u))).elim
  have ns' : ∀ {b : Addr} {m : Str → Option Value}, s₁.heap.Ns b m → (hidT s₁.heap H).Ns b m := by
    rintro b m ⟨o, es, ep, e, d, r⟩
    refine ⟨o, es, ep, hidT_get e (untr fun z => ?_), d, r⟩
    subst z
    have e' := e.symm.trans ha
    cases e'
    cases d
  have inB : K.In (hidT s₁.heap H) := fun b o e => hidT_get (KX b o e) (by
    by_cases z : b = a
    · subst z
      cases q : H b with
      | none => rfl
      | some u =>
        have e2 := hK (by rw [q]; exact Option.some_ne_none u)
        exact nomatch e.symm.trans e2
    · exact untr z)
  have M : Mod K mg (hidT s₁.heap H) := by
    refine ⟨inB, ns' hns, ⟨mb, ns' hb, hbb⟩, ?_⟩
    obtain ⟨mc, h1, h2⟩ := hlim
    exact ⟨mc, ns' h1, h2⟩
  have env : Env0 P w K mg (hidT s₁.heap H) callerA [] s₁ H :=
    { frames := rfl, mod := M, bs := fun b o e => of_hidT e, bsz := Nat.le_of_eq (hidT_size _ _), funs := trivial,
      frf := (fun b z => nomatch (show b ∈ ([] : List Addr) from z)), hok := hok, bare := .of_eq hg }
  refine codeAny_mono ((F _ inB (ns' hns)).run callerA [] s₁ H ⟨[.ref a], []⟩ [.ref a] [.ref a] _ _ rfl hr env (hbind s₁ (.ref a)) (.cons rfl .nil) hsp) ?_
  intro r s' h
  match r, h with
  | .error e, h => exact False.elim h
  | .ok .next, h => exact False.elim h
  | .ok .brk, h => exact False.elim h
  | .ok .cont, h => exact False.elim h
  | .ok (.ret u), ⟨v, H', os, bare, un, hok', rv, hv⟩ =>
    have hv' : v = .bl true := hv
    subst hv'
    have hu : u = Value.bool true := rv
    subst hu
    refine ⟨rfl, OldK.of_keep ?_, os, bare⟩
    intro b o e
    cases q : H b with
    | none => exact un.keep b o e q (fun z => by cases z) (by simp)
    | some t =>
      obtain ⟨ob, xs, z⟩ := (hO b).resolve_left (by rw [q]; exact Option.some_ne_none t)
      have o1 : s₁.heap.get? b = some ob := (hok b _ z).left
      have o2 : s'.heap.get? b = some ob := (hok' b _ (un.frzs b ob _ z)).left
      rw [o2]
      exact o1.symm.trans e

theorem callG {P : Program} {w : World} {K : PySem.W.Frag} {mg mb : Str → Option Value} {k : Nat} {fa a : Addr} {fd : FuncData} {x : Str} {sp : Sp}
    {s₁ : Shared} {vs : List Value} {ns : List Int}
    (KX : K.In s₁.heap) (hns : s₁.heap.Ns mainGlobals mg) (hb : s₁.heap.Ns builtinsNs mb) (hbb : ∀ x : Str, x ≠ "__name__" → mb x = bootBuiltins x)
    (hlim : s₁.heap.NoLimit) (hg : s₁.gens = #[]) (ha : s₁.heap.get? a = some { cls := .type "list", data := .seq vs.toArray }) (hi : IntsAre vs ns)
    (hl : ns.length ≤ sizeLine) (hr : Room k callerA) (F : ∀ base : Heap, K.In base → base.Ns mainGlobals mg → FnG P w K mg base CX0 k fa fd [x] sp)
    (hbind : ∀ (s : Shared) (u : Value), BindsTo s fd ⟨[u], []⟩ [(x, u)])
    (hsp : ∀ H : Hp, Only H → SqL K H a (ns.map V.int) → sp [.ref a] H (fun v _ => v = .bl true) fun _ _ _ => False) :
    codeAny (model P w) callerA (.call (.ref fa) ⟨[.ref a], []⟩)
      (fun r s' => r = .ok (.ret (.bool true)) ∧ OldK s₁.heap s'.heap ∧ s'.os = s₁.os ∧ AllBare s'.gens) s₁ := by
  have rv := vals_ints hi
  have lv := hi.length
  by_cases hk : K.lookup a = none
  · let H0 : Hp := upd (fun _ => none) a (.frz { cls := .type "list", data := .seq vs.toArray } (.lst (ns.map V.int)))
    have h0 : ∀ b, b ≠ a → H0 b = none := fun b z => upd_ne z
    have h1 : H0 a = some (.frz { cls := .type "list", data := .seq vs.toArray } (.lst (ns.map V.int))) := upd_same
    have O : Only H0 := fun b => by
      by_cases z : b = a
      · rw [z]
        exact .inr ⟨_, _, h1⟩
      · exact .inl (h0 b z)
    refine enterG (ns := ns) KX hns hb hbb hlim hg ha hr F hbind O (fun b u z => ?_) (fun b z => ?_) (fun _ => hk) (hsp _ O (.inl (.inr ⟨_, h1⟩)))
    · by_cases hba : b = a
      · subst hba
        cases h1.symm.trans z
        exact ⟨ha, by rw [List.length_map]; exact hl, vs, _, rv, ha⟩
      · exact nomatch (h0 b hba).symm.trans z
    · by_cases hba : b = a
      · exact hba
      · exact (z (h0 b hba)).elim
  · obtain ⟨o, e⟩ := Option.ne_none_iff_exists'.mp hk
    have e2 := (KX a o e).symm.trans ha
    cases e2
    have O : Only (fun _ => none) := fun _ => .inl rfl
    refine enterG (ns := ns) KX hns hb hbb hlim hg ha hr F hbind O (fun b u z => nomatch z) (fun b z => (z rfl).elim) (fun z => (z rfl).elim) (hsp _ O (.inr ?_))
    exact ⟨_, vs.toArray, _, e, rfl, rfl, rfl, by rw [List.size_toArray, lv]; exact hl, by simpa using rv⟩

theorem walkG {l : PySem.W.OpenLaw} {n k : Nat} {q : Program} {loose : List Str} {XP : (Str → Option Value) → Heap → Prop} {YP : World → Heap → Prop} {d : DefRec}
    {K : Params → PySem.W.Frag} {sp : World → Sp} {x : Str} (hn : l.most = some n) (hn2 : n ≤ sizeLine) (hdf : d.params.defaults = []) (hr : Room k callerA)
    (hY : ∀ (w : World) (h : Heap), YP w h → (K w.params).In h)
    (F : ∀ (w : World) (mg : Str → Option Value) (fa : Addr) (h : Heap), (K w.params).In h → h.Ns mainGlobals mg → mg d.name = some (.ref fa) →
      ∃ fd : FuncData, (∀ (s : Shared) (u : Value), BindsTo s fd ⟨[u], []⟩ [(x, u)]) ∧
        ∀ base : Heap, (K w.params).In base → base.Ns mainGlobals mg → FnG l.prog w (K w.params) mg base CX0 k fa fd [x] (sp w))
    (hsp : ∀ (w : World) (H : Hp) (a : Addr) (ns : List Int), ns.length ≤ n → Only H → SqL (K w.params) H a (ns.map V.int) →
      sp w [.ref a] H (fun v _ => v = .bl true) fun _ _ _ => False) :
    PySem.W.WalkO q loose XP YP l.row.toRowW d [] (fun f vs => PySem.call f vs) := by
  refine Att.attach_call hn hdf ?_
  intro w s₀ s₁ mg mb fa o pm cd doc a vs ns G Y ho hd hcd hmg hobj hints hlen hg
  have inK := hY w _ Y
  obtain ⟨fd, hb, hF⟩ := F w mg fa _ inK G.T.g hmg
  exact callG inK G.T.g G.T.b G.T.builtins G.T.nolimit hg hobj hints (Nat.le_trans hlen hn2) hr hF hb fun H hO hS => hsp w H a ns hlen hO hS
end MG

/-! Further rules: operators of own classes, repr of data, // of any sign -/
namespace MG
open PySem PySem.Spec PyProof.Rows L2

section
variable {X : Cx}
/-- // by any divisor but 0 -/
theorem op_fdivZ : OpR X (binaryOp .FloorDiv) (rI (fun _ j => j ≠ 0 ∧ j.natAbs.log2 < 9000) fun i j => .int (i.fdiv j)) :=
  opI fun _ _ _ _ _ _ _ hc q => floordiv_int hc.1 q (.inl (PyProof.noPylong_of_log2 hc.2))

theorem rel_ni {v : V} (r : RelV v Value.notImplemented) : False := by
  cases v with
  | non => cases (show Value.notImplemented = Value.none from r)
  | bl b => cases (show Value.notImplemented = Value.bool b from r)
  | int i => obtain ⟨_, q⟩ := (show ∃ t, Value.notImplemented = Value.int i t from r); cases q
  | str i => obtain ⟨_, q⟩ := (show ∃ t, Value.notImplemented = Value.str i t from r); cases q
  | byt i => obtain ⟨_, q⟩ := (show ∃ t, Value.notImplemented = Value.bytes i t from r); cases q
  | flt i => obtain ⟨_, q⟩ := (show ∃ t, Value.notImplemented = Value.float i t from r); cases q
  | ref i => cases (show Value.notImplemented = Value.ref i from r)
  | ty i => cases (show Value.notImplemented = Value.type i from r)
theorem back_of {Q : Value → Shared → Prop} {v : V} {u : Value} {s : Shared} (r : RelV v u) (q : Q u s) : PySem.W.CmpBack Q u s := by
  cases u <;> first | exact q | exact (rel_ni r).elim

/-- what the top says of an operator's method of an own class -/
structure OpAt (K : PySem.W.Frag) (C : Addr) (op : Operator) (f : Addr) : Prop where
  first : PySem.W.selfFirst K C = true
  at_ : PySem.W.findIn K (.ref C) (PySem.dunder op.info.2) = some (some (.ref f))
  fn : PySem.W.isFn K (.ref f) = true
  ref : PySem.W.findIn K (.ref C) (dunderR op.info.2) = some none
structure OpInt (K : PySem.W.Frag) (C : Addr) (op : Operator) : Prop where
  to : ∃ fo, PySem.W.findIn K (.type "int") (PySem.dunder op.info.2) = some fo
  ro : ∃ ro, PySem.W.findIn K (.type "int") (dunderR op.info.2) = some ro
  sub : PySem.W.subIn K (.type "int") (.ref C) = some false

/-- x op y, x of the class at C, y of it too or an int -/
def rOwn (C : Addr) (sp : Sp) (E : XK) : R2 := fun x y H Q => ∃ a dx fs, x = .ref a ∧ H a = some (.ins C dx fs) ∧
  ((∃ b dy gs, y = .ref b ∧ H b = some (.ins C dy gs)) ∨ ∃ i, y = .int i) ∧ sp [x, y] H Q E
theorem op_own {CX : CXT} {k : Nat} {C f : Addr} {op : Operator} {fd : FuncData} {ps : List Str} {sp : Sp} {E : XK}
    (o : OpAt X.K C op f) (oi : OpInt X.K C op) (F : FnOk X.prog X.w X.K X.mg X.base CX k f fd ps sp) (hr : Room k X.A)
    (hb : Binds X.K fd ps []) (hx : Passes CX X E) : OpR X (binaryOp op) (rOwn C sp E) := by
  intro pins s σ H x y v u Q I rx ry h
  obtain ⟨a, dx, fs, rfl, ha, hy, hsp⟩ := h
  cases rx
  obtain ⟨mA, J, _⟩ := ins_get I.hok ha
  obtain ⟨od, J, _⟩ := J.look
  obtain ⟨m, hF⟩ := I.fr
  have call1 : wpAny (model X.prog X.w) X.A (call (.ref f) [.ref a, u]) (PySem.W.CmpBack (EP X pins σ Q)) X.xe s :=
    wpAny_mono (run_fn (vs := [.ref a, y]) F hr hb .nil hx I (.cons rfl (.cons ry .nil)) (by rw [List.append_nil]; exact hsp))
      (fun _ _ hq => match hq with | ⟨_, _, _, r, _⟩ => back_of r hq) fun _ _ e => e
  rcases hy with ⟨b, dy, gs, rfl, hb'⟩ | ⟨i, rfl⟩
  · cases ry
    obtain ⟨mB, J', _⟩ := ins_get I.hok hb'
    obtain ⟨od', J', _⟩ := J'.look
    exact PySem.W.binop_K hF I.ok.mod.kin J J'.type o.first o.at_ o.fn call1
  · obtain ⟨t, rfl⟩ := ry
    obtain ⟨fo, h1⟩ := oi.to
    obtain ⟨ro, h2⟩ := oi.ro
    exact PySem.W.ksp_binT hF I.ok.mod.kin J (T := "int") rfl o.first o.at_ o.fn o.ref (.inl rfl) h1 h2 oi.sub call1

/-- -x of an own class -/
def rNegO (C : Addr) (sp : Sp) (E : XK) : V → Hp → VK → Prop := fun x H Q => ∃ a dx fs, x = .ref a ∧ H a = some (.ins C dx fs) ∧ sp [x] H Q E
theorem un_negO {CX : CXT} {k : Nat} {C f : Addr} {fd : FuncData} {ps : List Str} {sp : Sp} {E : XK}
    (at_ : PySem.W.findIn X.K (.ref C) "__neg__" = some (some (.ref f))) (fn : PySem.W.isFn X.K (.ref f) = true)
    (F : FnOk X.prog X.w X.K X.mg X.base CX k f fd ps sp) (hr : Room k X.A) (hb : Binds X.K fd ps []) (hx : Passes CX X E) :
    UnR X (unaryOp .USub) (rNegO C sp E) := by
  intro pins s σ H x v Q I rx h
  obtain ⟨a, dx, fs, rfl, ha, hsp⟩ := h
  cases rx
  obtain ⟨mA, J, _⟩ := ins_get I.hok ha
  obtain ⟨od, J, _⟩ := J.look
  obtain ⟨m, hF⟩ := I.fr
  exact PySem.W.ksp_neg hF I.ok.mod.kin J at_ fn (run_fn (vs := [.ref a]) F hr hb .nil hx I (.cons rfl .nil) (by rw [List.append_nil]; exact hsp))

/-- x == y, x of the class at C with its own ==, y of it too -/
def rEqO (C : Addr) (sp : Sp) (E : XK) : R2 := fun x y H Q => ∃ a dx fs b dy gs, x = .ref a ∧ H a = some (.ins C dx fs) ∧ y = .ref b ∧ H b = some (.ins C dy gs) ∧ sp [x, y] H Q E
theorem op_eqO {CX : CXT} {k : Nat} {C f : Addr} {fd : FuncData} {ps : List Str} {sp : Sp} {E : XK}
    (at_ : PySem.W.findIn X.K (.ref C) "__eq__" = some (some (.ref f))) (fn : PySem.W.isFn X.K (.ref f) = true)
    (F : FnOk X.prog X.w X.K X.mg X.base CX k f fd ps sp) (hr : Room k X.A) (hb : Binds X.K fd ps []) (hx : Passes CX X E) :
    OpR X (compareOp .Eq) (rEqO C sp E) := by
  intro pins s σ H x y v u Q I rx ry h
  obtain ⟨a, dx, fs, b, dy, gs, rfl, ha, rfl, hb', hsp⟩ := h
  cases rx
  cases ry
  obtain ⟨mA, J, _⟩ := ins_get I.hok ha
  obtain ⟨od, J, _⟩ := J.look
  obtain ⟨mB, J', _⟩ := ins_get I.hok hb'
  obtain ⟨od', J', _⟩ := J'.look
  obtain ⟨m, hF⟩ := I.fr
  refine PySem.W.cmp_K (op := .Eq) (tb := .ref C) hr.units0 hF I.ok.mod.kin J J'.type (by simp [PySem.W.notFirst]) at_ fn ?_
  exact wpAny_mono (run_fn (vs := [.ref a, .ref b]) F hr hb .nil hx I (.cons rfl (.cons rfl .nil)) (by rw [List.append_nil]; exact hsp))
    (fun _ _ hq => match hq with | ⟨_, _, _, r, _⟩ => back_of r hq) fun _ _ e => e
end
end MG

namespace MG
open PySem PySem.Spec PyProof.Rows L2 PySem.Calls

section
variable {prog : Program} {w : World} {A : Around} {E : Value → Shared → Prop} {s : Shared} {K : PySem.W.Frag} {x y C L f : Addr} {h₀ : Heap} {m : Str → Option Value} {ox oy : Obj} {od oe : Option Obj}

theorem objNe_run (X : K.In s.heap) (I : PySem.W.InstAt s.heap x ox C od) (hs : PySem.W.findIn K (.ref C) "__eq__" = some (some (.ref f))) (hf : PySem.W.isFn K (.ref f) = true)
    (hu : A.units < cLine) {Q : Fin → Shared → Prop}
    (hcall : wpAny (model prog w) A (call (.ref f) [.ref x, .ref y]) (fun v s' => ∃ b, v = .bool b ∧ Q (.done (.ret (.bool (!b)))) s') E s) :
    wpAny (model prog w) A (Builtin.«object.__ne__» ⟨[.ref x, .ref y], []⟩) Q E s := by
  unfold Builtin.«object.__ne__»
  repeat (first
    | with_reducible refine wpAny_cRoomFor hu ?_
    | (refine wpAny_bind (m := callSpecialIfBound? (.ref x) (Str.ofString "__eq__") [.ref y])
        (PySem.W.ifBound_K X I hs hf (wpAny_mono hcall (fun r s' hr => ?_) fun _ _ e => e)))
    | wp_step)
  obtain ⟨b, rfl, hq⟩ := hr
  repeat (first | exact hq | exact wpAny_pure hq | exact wpAny_truthy_bool hq | (refine wpAny_bind (m := truthy (.bool _)) (wpAny_truthy_bool ?_)) | wp_step)

theorem ifBound_ne (X : K.In s.heap) (I : PySem.W.InstAt s.heap x ox C od) (hn : PySem.W.findIn K (.ref C) "__ne__" = some (some (.builtin "object.__ne__")))
    {args : List Value} {Q : Option Value → Shared → Prop}
    (h : wpAny (model prog w) A (call (.builtin "object.__ne__") (.ref x :: args)) (fun v => Q (some v)) E s) :
    wpAny (model prog w) A (callSpecialIfBound? (.ref x) "__ne__" args) Q E s := by
  have S : Slot "object" "__ne__" "object.__ne__" := PySem.F.cmp_object.ne
  have hb := S.bind
  simp only [callSpecialIfBound?, bindSpecialIfBound?]
  refine wpAny_holding (wpAny_bind (wpAny_bind (wpAny_bind (I.type.here ((PySem.W.looks_findIn X hn).here ?_)))))
  simp only [hb]
  refine wpAny_bind (wpAny_askSetting (wpAny_ite ?_))
  have fin : wpAny (model prog w) A (call (.builtin "object.__ne__") ([.ref x] ++ args) >>= fun v => pure (some v)) Q E s :=
    wpAny_bind (wpAny_mono h (fun v s' h' => wpAny_pure h') fun _ _ h' => h')
  split
  · exact wpAny_bind (wpAny_pure (wpAny_pure fin))
  · exact wpAny_tryCatch (wpAny_bind (wpAny_pure (wpAny_pure fin)))

theorem ne_K (X : K.In s.heap) (I : PySem.W.InstAt s.heap x ox C od) (I' : PySem.W.InstAt s.heap y oy C oe)
    (hn : PySem.W.findIn K (.ref C) "__ne__" = some (some (.builtin "object.__ne__"))) (hs : PySem.W.findIn K (.ref C) "__eq__" = some (some (.ref f)))
    (hf : PySem.W.isFn K (.ref f) = true) (ho : PySem.W.subIn K (.ref C) (.type "object") = some true) (hu : A.units + 1 < cLine) {Q : Value → Shared → Prop}
    (hcall : wpAny (model prog w) A.in1 (call (.ref f) [.ref x, .ref y]) (fun v s' => ∃ b, v = .bool b ∧ Q (.bool (!b)) s') E s) :
    wpAny (model prog w) A (richCompare .NotEq (.ref x) (.ref y)) Q E s := by
  have sub : PySem.W.Looks (model prog w) s.heap (isInstance (.ref x) (.type "object")) true := I.type.andThen (PySem.W.looks_subIn X ho)
  have one : wpAny (model prog w) A (tryCompare (.ref x) "__ne__" (.ref y)) (fun r s' => ∃ v, r = some v ∧ Q v s') E s := by
    simp only [tryCompare]
    refine wpAny_bind (ifBound_ne X I hn (wpAny_call (codeAny_call_builtin PySem.F.cmp_object.ne.plain PySem.F.cmpEntry_ne
      (PySem.W.check_slot PySem.F.cmpKind_ne PySem.F.cmpSplit_ne sub (PySem.F.cmpArgs_ne _ _) ?_))))
    refine objNe_run (A := A.in1) X I hs hf hu (wpAny_mono hcall (fun v s' hv => ?_) fun _ _ e => e)
    obtain ⟨b, rfl, hq⟩ := hv
    first | exact ⟨b, rfl, wpAny_pure ⟨_, rfl, hq⟩⟩ | exact ⟨b, rfl, wpAny_pure (wpAny_pure ⟨_, rfl, hq⟩)⟩ | exact ⟨b, rfl, _, rfl, hq⟩
  unfold richCompare
  simp only [oneThing_ref]
  refine wpAny_holding (wpAny_bind (wpAny_cRoomFor (Nat.lt_of_succ_lt hu) ?_))
  refine wpAny_bind (I.type.here (wpAny_bind (I'.type.here ?_)))
  rw [show (Value.ref C != Value.ref C) = false from by simp]
  simp only [Bool.false_eq_true, if_false]
  refine wpAny_bind (wpAny_pure ?_)
  simp only [Bool.false_eq_true, if_false]
  refine wpAny_bind (wpAny_mono one (fun v s' hv => ?_) fun _ _ e => e)
  obtain ⟨b, rfl, hq⟩ := hv
  exact wpAny_pure hq
end

section
variable {X : Cx}
structure NeAt (K : PySem.W.Frag) (C f : Addr) : Prop where
  ne : PySem.W.findIn K (.ref C) "__ne__" = some (some (.builtin "object.__ne__"))
  eq : PySem.W.findIn K (.ref C) "__eq__" = some (some (.ref f))
  fn : PySem.W.isFn K (.ref f) = true
  sub : PySem.W.subIn K (.ref C) (.type "object") = some true
def rNeO (C : Addr) (sp : Sp) (E : XK) : R2 := fun x y H Q => ∃ a dx fs b dy gs, x = .ref a ∧ H a = some (.ins C dx fs) ∧ y = .ref b ∧ H b = some (.ins C dy gs) ∧
  sp [x, y] H (fun v H' => ∃ c, v = .bl c ∧ Q (.bl (!c)) H') E
theorem op_neO {CX : CXT} {k : Nat} {C f : Addr} {fd : FuncData} {ps : List Str} {sp : Sp} {E : XK} (n : NeAt X.K C f)
    (F : FnOk X.prog X.w X.K X.mg X.base CX k f fd ps sp) (hr : Room (k + 1) X.A) (hb : Binds X.K fd ps []) (hx : Passes CX X E) :
    OpR X (compareOp .NotEq) (rNeO C sp E) := by
  intro pins s σ H x y v u Q I rx ry h
  obtain ⟨a, dx, fs, b, dy, gs, rfl, ha, rfl, hb', hsp⟩ := h
  cases rx
  cases ry
  obtain ⟨mA, J, _⟩ := ins_get I.hok ha
  obtain ⟨od, J, _⟩ := J.look
  obtain ⟨mB, J', _⟩ := ins_get I.hok hb'
  obtain ⟨od', J', _⟩ := J'.look
  refine ne_K I.kIn J J' n.ne n.eq n.fn n.sub (Nat.lt_trans (by omega) hr.un) ?_
  have hl := F.len _ _ _ _ hsp
  refine wpAny_call (codeAny_mono (F.run X.A.in1 X.stack s H ⟨[.ref a, .ref b], []⟩ [.ref a, .ref b] [.ref a, .ref b] _ E hr.in1 I.env0.in1 (by
    have := hb s [.ref a, .ref b] I.kIn (by simpa using hl)
    simpa using this) (.cons rfl (.cons rfl .nil)) hsp) fun r s' hq => ?_)
  match r, hq with
  | .error e, hq => exact hx pins σ H s e s' I hq
  | .ok (.ret z), hq =>
    obtain ⟨v, H', I', rv, c, rfl, q⟩ := I.after hq
    cases rv
    exact ⟨c, rfl, .bl (!c), H', I', rfl, q⟩
  | .ok .next, hq => exact False.elim hq
  | .ok .brk, hq => exact False.elim hq
  | .ok .cont, hq => exact False.elim hq

/-- repr(x) of data: None, bools, ints, texts, lists, tuples -/
def rRepr (K : PySem.W.Frag) : List V → Hp → VK → Prop := fun xs H Q => ∃ x d, xs = [x] ∧ Dp K H x d ∧ d.showable = true ∧ d.hasDict = false ∧ d.depth ≤ 60 ∧ d.shown.length ≤ sizeLine ∧ Q (.str d.shown) H
theorem call_reprD (bare : Bare X.A) (hu : X.A.units + 64 < cLine) : CallR X (.builtin "repr") (rRepr X.K) := by
  intro pins s σ H xs us Q I r h
  obtain ⟨x, d, rfl, hd, hs, hdict, hdep, hz, q⟩ := h
  cases r with
  | cons rx rn =>
    cases rn
    rename_i u
    obtain ⟨as, R⟩ := Dp.reads I d x u hd rx
    have leaf : ∀ (k : Nat), EP X pins σ Q (.str d.shown k) { s with toks := s.toks + 1 } := fun k => ⟨.str _, H, I.tok _, ⟨_, rfl⟩, q⟩
    cases R with
    | none => exact PySem.P.repr_of_none (leaf _)
    | bool b => exact PySem.P.repr_of_bool (leaf _)
    | int i t => exact PySem.P.repr_of_int (by simpa [PyData.showable] using hs) (leaf _)
    | str z t => exact PySem.P.repr_of_str (leaf _) hz
    | list h1 h2 h3 h4 => exact repr_of_reads' (.list h1 h2 h3 h4) hs (fun z => by rw [hdict] at z; cases z) bare (by omega) (fun _ _ e => e) (fun h' u tk k => ⟨.str _, H, I.kept k, ⟨_, rfl⟩, q⟩) hz
    | tuple h1 h2 h3 h4 => exact repr_of_reads' (.tuple h1 h2 h3 h4) hs (fun z => by rw [hdict] at z; cases z) bare (by omega) (fun _ _ e => e) (fun h' u tk k => ⟨.str _, H, I.kept k, ⟨_, rfl⟩, q⟩) hz
    | dict h1 h2 h3 h4 h5 => exact absurd hd nofun
end
end MG

/-! Defs as callers know them -/
namespace MG
open PySem PySem.Spec PyProof.Rows L2

/-- a def of the module that lets nothing out, as callers know it -/
structure CalG (P : Program) (w : World) (K : PySem.W.Frag) (mg : Str → Option Value) (base : Heap) (k : Nat) (x : Str) (sp : Sp) (dvs : List V) : Prop where
  ex : ∃ (f : Addr) (fd : FuncData) (ps : List Str) (ds : List Value), FnG P w K mg base CX0 k f fd ps sp ∧ mg x = some (.ref f) ∧ PySem.W.keepIn K (.ref f) = true ∧ Binds K fd ps ds ∧ Vals dvs ds
theorem pe_cg {X : Cx} {k j : Nat} {x : Str} {sp : Sp} {dvs : List V} {p pos : Pos} {e : Expr} {es : List Expr} {t : TA}
    (c : CalG X.prog X.w X.K X.mg X.base k x sp dvs) (bare : Bare X.A) (hr : Room j X.A) (hk : k ≤ j) (hg : Gl X x) (ha : PA X (e :: es) t)
    (hdb : (x == ("__debug__" : Str)) = false := by decide)
    (he : starEach (e :: es) X.env = (false, eval e X.env) :: starEach es X.env := by rfl)
    (hpl : (backTo pos (starEach es X.env)).any (·.1) = false := by rfl) : PE X (.Call (.Name x p) (e :: es) [] pos) (tCall sp dvs E0 t) := by
  obtain ⟨f, fd, ps, ds, F, hm, kp, b, d⟩ := c.ex
  exact pe_callG F bare (hr.mono hk) hg hm kp b d pass0 ha hdb he hpl

section
variable {P : Program} {w : World} {K : PySem.W.Frag} {mg : Str → Option Value} {base : Heap}
/-- its body, as a term of rules, and the reading of that term -/
theorem fun_okG {x qual : Str} {st : Stmt} {f : Addr} {fd : FuncData} {N ps : List Str} {k : Nat} {sp : Sp} (F : Fun K x qual st f fd) (S : FnScope N ps (defScope st)) (len : ∀ vs H Q E, sp vs H Q E → vs.length = ps.length)
    (hbody : ∀ (cdv : Value) (A : Around) (outer : List Env) (s : Shared) (H : Hp) (vs : List V) (Q : VK) (E : XK), Bare (A.deeper (envOfC qual (defScope st) s.heap.objs.size f cdv)) →
      Room k (A.deeper (envOfC qual (defScope st) s.heap.objs.size f cdv)) → sp vs H Q E →
      ∃ t, PSs (cxOf CX0 P w K mg base N qual (defScope st) f cdv A outer s H E).nox (defBody st) t ∧ t { nx := fun _ H' => Q .non H', rt := Q } (start N vs) H) : FnG P w K mg base CX0 (k + 1) f fd ps sp := by
  obtain ⟨oc, od, kV, doc, pm, an, cdv, ct, osl, rfl, lk, hcd⟩ := F.ex
  refine fnG_of lk hcd S len ?_
  intro A outer s H vs Q E bare hr hsp
  obtain ⟨t, h, q⟩ := hbody cdv A outer s H vs Q E bare hr hsp
  exact ⟨t, h.nox, q⟩
theorem calG_of {x qual : Str} {st : Stmt} {f : Addr} {fd : FuncData} {N ps : List Str} {k : Nat} {sp : Sp} (F : Fun K x qual st f fd) (hm : mg x = some (.ref f)) (b : Binds K fd ps []) (S : FnScope N ps (defScope st)) (len : ∀ vs H Q E, sp vs H Q E → vs.length = ps.length)
    (hbody : ∀ (cdv : Value) (A : Around) (outer : List Env) (s : Shared) (H : Hp) (vs : List V) (Q : VK) (E : XK), Bare (A.deeper (envOfC qual (defScope st) s.heap.objs.size f cdv)) →
      Room k (A.deeper (envOfC qual (defScope st) s.heap.objs.size f cdv)) → sp vs H Q E →
      ∃ t, PSs (cxOf CX0 P w K mg base N qual (defScope st) f cdv A outer s H E).nox (defBody st) t ∧ t { nx := fun _ H' => Q .non H', rt := Q } (start N vs) H) : CalG P w K mg base (k + 1) x sp [] :=
  ⟨f, fd, ps, [], fun_okG F S len hbody, hm, F.kp, b, .nil⟩
end

/-- the same where nothing need be known of what runs around -/
structure CalF (P : Program) (w : World) (K : PySem.W.Frag) (mg : Str → Option Value) (base : Heap) (k : Nat) (x : Str) (sp : Sp) (dvs : List V) : Prop where
  ex : ∃ (f : Addr) (fd : FuncData) (ps : List Str) (ds : List Value), FnOk P w K mg base CX0 k f fd ps sp ∧ mg x = some (.ref f) ∧ PySem.W.keepIn K (.ref f) = true ∧ Binds K fd ps ds ∧ Vals dvs ds
theorem pe_cf {X : Cx} {k j : Nat} {x : Str} {sp : Sp} {dvs : List V} {p pos : Pos} {e : Expr} {es : List Expr} {t : TA}
    (c : CalF X.prog X.w X.K X.mg X.base k x sp dvs) (hr : Room j X.A) (hk : k ≤ j) (hg : Gl X x) (ha : PA X (e :: es) t)
    (hdb : (x == ("__debug__" : Str)) = false := by decide)
    (he : starEach (e :: es) X.env = (false, eval e X.env) :: starEach es X.env := by rfl)
    (hpl : (backTo pos (starEach es X.env)).any (·.1) = false := by rfl) : PE X (.Call (.Name x p) (e :: es) [] pos) (tCall sp dvs E0 t) := by
  obtain ⟨f, fd, ps, ds, F, hm, kp, b, d⟩ := c.ex
  exact pe_call F (hr.mono hk) hg hm kp b d pass0 ha hdb he hpl
/-- a class that may be made by its name; sp: its __init__ -/
structure MakF (P : Program) (w : World) (K : PySem.W.Frag) (mg : Str → Option Value) (base : Heap) (k : Nat) (x : Str) (C : Addr) (sp : Sp) (dvs : List V) : Prop where
  ex : ∃ (f : Addr) (fd : FuncData) (ps : List Str) (ds : List Value), Mk K C f ∧ FnOk P w K mg base CX0 k f fd ps sp ∧ mg x = some (.ref C) ∧ Binds K fd ps ds ∧ Vals dvs ds
theorem pe_mkf {X : Cx} {k j : Nat} {x : Str} {C : Addr} {sp : Sp} {dvs : List V} {p pos : Pos} {e : Expr} {es : List Expr} {t : TA}
    (c : MakF X.prog X.w X.K X.mg X.base k x C sp dvs) (hr : Room j X.A) (hk : k + 1 ≤ j) (hg : Gl X x) (ha : PA X (e :: es) t)
    (hdb : (x == ("__debug__" : Str)) = false := by decide)
    (he : starEach (e :: es) X.env = (false, eval e X.env) :: starEach es X.env := by rfl)
    (hpl : (backTo pos (starEach es X.env)).any (·.1) = false := by rfl) : PE X (.Call (.Name x p) (e :: es) [] pos) (tMake C sp dvs E0 t) := by
  obtain ⟨f, fd, ps, ds, M, F, hm, b, d⟩ := c.ex
  exact pe_make M F (hr.mono hk) hg hm b d pass0 ha hdb he hpl
/-- one value by place, one by name -/
def one1 {α : Type} : List α → List α → List α
  | [a], [b] => [a, b]
  | _, _ => []
/-- o.m(k = v, ..) -/
def tMethK (C : Addr) (m : Str) (sp : Sp) (gV : List V → List V → List V) (E : XK) (ta : TE) (tk : TA) : TE := fun σ H Q => ta σ H fun x H1 =>
  ∃ a dx fs, x = .ref a ∧ H1 a = some (.ins C dx fs) ∧ fs.lookup m = none ∧ tk σ H1 fun zs H2 => sp (gV [x] zs) H2 Q E
theorem pe_methK0 {X : Cx} {CX : CXT} {k : Nat} {f C : Addr} {fd : FuncData} {ps ks : List Str} {sp : Sp} {E : XK} {m : Str} {pos apos : Pos} {o : Expr} {kws : List Keyword} {ta : TE} {tk : TA}
    {g : List Value → List Value → List Value} {gV : List V → List V → List V} {pl : Sem Bool}
    (he : PE X o ta) (c : Cls X.K C) (hm : Meth X.K C m f) (F : FnOk X.prog X.w X.K X.mg X.base CX k f fd ps sp) (hr : Room k X.A) (hb : KBinds X.K fd ps ks g gV) (hx : Passes CX X E) (hkw : PK X kws tk)
    (hall : (backToKw pos (keywordEach kws X.env)).all (·.1.isSome) = true := by rfl) (hks : (backToKw pos (keywordEach kws X.env)).filterMap (·.1) = ks := by rfl)
    (hpl : ((backTo pos (starEach [] X.env)).any (·.1) || (backToKw pos (keywordEach kws X.env)).any (·.1.isNone)) = false := by rfl)
    (ht : eval (.Call (.Attribute o m apos) [] kws pos) X.env = (do
      let ov ← eval o X.env
      standAt apos.atName
      let (f, first) ← holding [ov] (getMethod ov m pl)
      callWith pos f first (backTo pos (starEach [] X.env)) (backToKw pos (keywordEach kws X.env))) := by rfl) :
    PE X (.Call (.Attribute o m apos) [] kws pos) (tMethK C m sp gV E ta tk) := by
  constructor
  intro pins s σ H Q I h
  refine PySem.W.methodCall_KW (pl := pl) (thn (he.run pins s σ H _ I h) ?_) ht
  rintro u s1 ⟨x, H1, I1, rx, a, dx, fs, ex, ea, l, q⟩
  subst ex
  have eu : u = Value.ref a := rx
  subst eu
  refine getmeth_ok I1 ea c hm l ?_
  refine PySem.W.callWith_KW0 (h₀ := X.base) I.ok.mod.kin hm.kp hall (thn (hkw.run pos pins s1 σ H1 _ I1 q) ?_) hpl
  rintro ws s2 ⟨zs, H2, I2, rz, q2⟩
  refine ⟨I2.kIn, ?_⟩
  rw [hks]
  exact run_fnk (us := [.ref a]) (vs := [.ref a]) F hr hb hx I2 (.cons rfl .nil) rz q2

/-! ### operators, properties and methods of a class, as callers know them -/
section
variable (P : Program) (w : World) (K : PySem.W.Frag) (mg : Str → Option Value) (base : Heap) (k : Nat) (C : Addr)
structure OpF (op : Operator) (sp : Sp) : Prop where
  ex : ∃ (f : Addr) (fd : FuncData) (ps : List Str), OpAt K C op f ∧ OpInt K C op ∧ FnOk P w K mg base CX0 k f fd ps sp ∧ Binds K fd ps []
structure NegF (sp : Sp) : Prop where
  ex : ∃ (f : Addr) (fd : FuncData) (ps : List Str), PySem.W.findIn K (.ref C) "__neg__" = some (some (.ref f)) ∧ PySem.W.isFn K (.ref f) = true ∧ FnOk P w K mg base CX0 k f fd ps sp ∧ Binds K fd ps []
structure EqF (sp : Sp) : Prop where
  ex : ∃ (f : Addr) (fd : FuncData) (ps : List Str), NeAt K C f ∧ FnOk P w K mg base CX0 k f fd ps sp ∧ Binds K fd ps []
structure PropF (x : Str) (sp : Sp) : Prop where
  ex : ∃ (p g : Addr) (fd : FuncData) (ps : List Str), PropOf K C x p g ∧ FnOk P w K mg base CX0 k g fd ps sp ∧ Binds K fd ps []
structure MetF (m : Str) (sp : Sp) (dvs : List V) : Prop where
  ex : ∃ (f : Addr) (fd : FuncData) (ps : List Str) (ds : List Value), Meth K C m f ∧ FnOk P w K mg base CX0 k f fd ps sp ∧ Binds K fd ps ds ∧ Vals dvs ds
structure MetK (m : Str) (sp : Sp) (ks : List Str) (gV : List V → List V → List V) : Prop where
  ex : ∃ (f : Addr) (fd : FuncData) (ps : List Str) (g : List Value → List Value → List Value), Meth K C m f ∧ FnOk P w K mg base CX0 k f fd ps sp ∧ KBinds K fd ps ks g gV
end
section
variable {X : Cx} {k j : Nat} {C : Addr} {sp : Sp} {op : Operator}
theorem op_f (o : OpF X.prog X.w X.K X.mg X.base k C op sp) (hr : Room j X.A) (hk : k ≤ j) : OpR X (binaryOp op) (rOwn C sp E0) := by
  obtain ⟨f, fd, ps, a, i, F, b⟩ := o.ex
  exact op_own a i F (hr.mono hk) b pass0
theorem un_f (o : NegF X.prog X.w X.K X.mg X.base k C sp) (hr : Room j X.A) (hk : k ≤ j) : UnR X (unaryOp .USub) (rNegO C sp E0) := by
  obtain ⟨f, fd, ps, a, i, F, b⟩ := o.ex
  exact un_negO a i F (hr.mono hk) b pass0
theorem eq_f (o : EqF X.prog X.w X.K X.mg X.base k C sp) (hr : Room j X.A) (hk : k ≤ j) : OpR X (compareOp .Eq) (rEqO C sp E0) := by
  obtain ⟨f, fd, ps, n, F, b⟩ := o.ex
  exact op_eqO n.eq n.fn F (hr.mono hk) b pass0
theorem ne_f (o : EqF X.prog X.w X.K X.mg X.base k C sp) (hr : Room j X.A) (hk : k + 1 ≤ j) : OpR X (compareOp .NotEq) (rNeO C sp E0) := by
  obtain ⟨f, fd, ps, n, F, b⟩ := o.ex
  exact op_neO n F (hr.mono hk) b pass0
theorem pe_pf {x : Str} {e : Expr} {pos : Pos} {ta : TE} (o : PropF X.prog X.w X.K X.mg X.base k C x sp) (c : Cls X.K C) (hr : Room j X.A) (hk : k + 1 ≤ j) (he : PE X e ta)
    (hab : attributeBase e x X.env (eval e X.env) = eval e X.env) : PE X (.Attribute e x pos) (tProp C sp [] E0 ta) := by
  obtain ⟨p, g, fd, ps, hp, F, b⟩ := o.ex
  exact pe_prop he c hp F (hr.mono hk) b .nil pass0 hab
theorem pe_mf {m : Str} {pos apos : Pos} {o : Expr} {e : Expr} {es : List Expr} {dvs : List V} {ta : TE} {t : TA} {pl : Sem Bool} (c : MetF X.prog X.w X.K X.mg X.base k C m sp dvs) (cl : Cls X.K C) (hr : Room j X.A) (hk : k ≤ j) (he : PE X o ta) (ha : PA X (e :: es) t)
    (hst : starEach (e :: es) X.env = (false, eval e X.env) :: starEach es X.env := by rfl) (hpl : (backTo pos (starEach es X.env)).any (·.1) = false := by rfl)
    (ht : eval (.Call (.Attribute o m apos) (e :: es) [] pos) X.env = (do
      let ov ← eval o X.env
      standAt apos.atName
      let (f, first) ← holding [ov] (getMethod ov m pl)
      callWith pos f first (backTo pos (starEach (e :: es) X.env)) (backToKw pos (keywordEach [] X.env))) := by rfl) :
    PE X (.Call (.Attribute o m apos) (e :: es) [] pos) (tMeth C m sp dvs E0 ta t) := by
  obtain ⟨f, fd, ps, ds, M, F, b, d⟩ := c.ex
  exact pe_meth (pl := pl) he cl M F (hr.mono hk) b d pass0 ha hst hpl ht
end
/-! ### joining the ways -/
/-- what holds of the value is said once for all ways -/
def tCut (te : TE) : TE := fun σ H Q => ∃ C : VK, te σ H C ∧ ∀ v H', C v H' → Q v H'
theorem pe_cut {X : Cx} {e : Expr} {te : TE} (h : PE X e te) : PE X e (tCut te) := by
  constructor
  rintro pins s σ H Q I ⟨C, h1, h2⟩
  refine wpAny_mono (h.run pins s σ H C I h1) ?_ fun _ _ z => z
  rintro u s' ⟨v, H', J, r, q⟩
  exact ⟨v, H', J, r, h2 v H' q⟩
/-- what holds behind a statement is said once for all ways -/
def tCutS (ts : TS) : TS := fun D σ H => ∃ C : L2.St → Hp → Prop, ts { D with nx := C } σ H ∧ ∀ σ' H', C σ' H' → D.nx σ' H'
theorem ps_cut {X : Cx} {st : Stmt} {ts : TS} (h : PS X st ts) : PS X st (tCutS ts) := by
  constructor
  rintro pins s σ H D I ⟨C, h1, h2⟩
  refine wpAny_mono (h.run pins s σ H { D with nx := C } I h1) ?_ fun _ _ z => z
  intro f s' q
  cases f with
  | next =>
    obtain ⟨σ', H', J, q⟩ := q
    exact ⟨σ', H', J, h2 σ' H' q⟩
  | ret u => exact q
  | brk => exact q
  | cont => exact q

/-! ### isinstance, from what the top says -/
theorem kit_rt {K : PySem.W.Frag} {C : Addr} {T : String} {b : Bool} (hm : PySem.W.kitMeta T = true) (h : PySem.W.subIn K (.ref C) (.type T) = some b) : PySem.W.kitOne K (.ref C) (.type T) = some b := by
  have e : (Value.ref C == Value.type T) = false := beq_eq_false_iff_ne.mpr nofun
  unfold PySem.W.kitOne
  rw [e]
  show (if PySem.W.kitMeta T = true then PySem.W.subIn K (.ref C) (.type T) else none) = some b
  rw [if_pos hm, h]
theorem kit_tr {K : PySem.W.Frag} {C : Addr} {T : String} {b : Bool} (h1 : PySem.W.isClsIn K C = true) (h2 : PySem.W.typeIn K (.ref C) = some (.type "type")) (h : PySem.W.subIn K (.type T) (.ref C) = some b) : PySem.W.kitOne K (.type T) (.ref C) = some b := by
  have e : (Value.type T == Value.ref C) = false := beq_eq_false_iff_ne.mpr nofun
  unfold PySem.W.kitOne
  rw [e]
  show (if ((PySem.W.clsIn K C).isSome && PySem.W.typeIn K (.ref C) == some (.type "type")) = true then PySem.W.subIn K (.type T) (.ref C) else none) = some b
  have h1' : (PySem.W.clsIn K C).isSome = true := h1
  rw [h1', h2, if_pos (by simp), h]
theorem kit_rr {K : PySem.W.Frag} {C : Addr} : PySem.W.kitOne K (.ref C) (.ref C) = some true := by
  unfold PySem.W.kitOne
  rw [if_pos (by simp)]

/-! ### comprehensions, item by item -/
theorem pe_imp {X : Cx} {e : Expr} {t t' : TE} (h : PE X e t) (hi : ∀ σ H Q, t' σ H Q → t σ H Q) : PE X e t' :=
  ⟨fun pins s σ H Q I q => h.run pins s σ H Q I (hi σ H Q q)⟩
theorem ps_imp {X : Cx} {st : Stmt} {t t' : TS} (h : PS X st t) (hi : ∀ D σ H, t' D σ H → t D σ H) : PS X st t' :=
  ⟨fun pins s σ H D I q => h.run pins s σ H D I (hi D σ H q)⟩
/-- [e for x in l], x in slot j: ys are the items of the new list -/
def tMapL (K : PySem.W.Frag) (j : Nat) (tl te : TE) : TE := fun σ H Q => tl σ H fun x H1 => ∃ a xs ys, x = .ref a ∧ SqL K H1 a xs ∧ ys.length = xs.length ∧ xs.length ≤ 100000 ∧
  (∀ (i : Nat) (x y : V) (H' : Hp), xs[i]? = some x → ys[i]? = some y → Same H1 H' → te ((σ.set j none).set j (some x)) H' fun v H'' => v = y ∧ Same H' H'') ∧
  ∀ D H', Same H1 H' → H1 D = none → H' D = some (.lst ys) → Q (.ref D) H'
/-- the same over range(..) -/
def tMapR (j : Nat) (ta : TA) (te : TE) : TE := fun σ H Q => ta σ H fun vs H1 => ∃ (m : Int) (ys : List V), vs = [.int m] ∧ 0 ≤ m ∧ m ≤ 100000 ∧ (ys.length : Int) = m ∧
  (∀ (i : Nat) (y : V) (H' : Hp), ys[i]? = some y → Same H1 H' → te ((σ.set j none).set j (some (.int i))) H' fun v H'' => v = y ∧ Same H' H'') ∧
  ∀ D H', Same H1 H' → H1 D = none → H' D = some (.lst ys) → Q (.ref D) H'
theorem take_one {α : Type} {l : List α} {i : Nat} {x : α} (h : l[i]? = some x) : l.take (i + 1) = l.take i ++ [x] := by
  rw [List.take_succ, h]
  rfl
theorem wipe_one {σ : L2.St} {j : Nat} {x : V} : wipe ((wipe σ [j]).set j (some x)) [j] = wipe σ [j] := by
  show (((σ.set j none).set j (some x)).set j none) = σ.set j none
  rw [List.set_set, List.set_set]
theorem map_core {K : PySem.W.Frag} {te : TE} (mono : ∀ σ H Q Q', (∀ v H', Q v H' → Q' v H') → te σ H Q → te σ H Q') {j : Nat} {σ : L2.St} {H1 : Hp} {Q : VK} {a : Addr} {xs ys : List V} (hl : SqL K H1 a xs) (hn : ys.length = xs.length) (hs : xs.length ≤ 100000)
    (he : ∀ (i : Nat) (x y : V) (H' : Hp), xs[i]? = some x → ys[i]? = some y → Same H1 H' → te ((σ.set j none).set j (some x)) H' fun v H'' => v = y ∧ Same H' H'')
    (k : ∀ D H', Same H1 H' → H1 D = none → H' D = some (.lst ys) → Q (.ref D) H') :
    tLc (fun _ H R => R (Itl K a) H) (gName j) tYes te [j] σ H1 Q := by
  intro D hD
  refine lc_list (K := K) (a := a) (xs := xs) (fun i H' => Same H1 H' ∧ H' D = some (.lst (ys.take i))) ⟨fun c u h => by rw [upd_ne (ne_of_none h hD)]; exact h, upd_same⟩ (fun i H' _ h => h.1.seq hl) ?_ ?_
  · rintro i x H' hi ⟨s, e⟩
    have hi2 : i < xs.length := (List.getElem?_eq_some_iff.mp hi).1
    have hy : ys[i]? = some ys[i] := List.getElem?_eq_getElem (by omega)
    refine ⟨wipe_one, mono _ _ _ _ ?_ (he i x _ H' hi hy s)⟩
    rintro v H2 ⟨rfl, s2⟩
    refine ⟨_, s2 _ _ e, ?_, ?_, ?_⟩
    · rw [List.length_take]
      exact Nat.lt_of_le_of_lt (m := 100000) (by omega) (by decide)
    · intro c o hc
      rw [upd_ne (ne_of_none hc hD)]
      exact s2 _ _ (s _ _ hc)
    · rw [upd_same, take_one hy]
  · rintro H' ⟨s, e⟩
    rw [← hn, List.take_length] at e
    exact k D H' s hD e
theorem tCut_mono {te : TE} : ∀ σ H (Q Q' : VK), (∀ v H', Q v H' → Q' v H') → tCut te σ H Q → tCut te σ H Q' :=
  fun _ _ _ _ hq ⟨C, h1, h2⟩ => ⟨C, h1, fun v H' c => hq v H' (h2 v H' c)⟩
theorem tl_core {K : PySem.W.Frag} {tl te : TE} {j : Nat} {σ : L2.St} {H : Hp} {Q : VK} (q : tMapL K j tl te σ H Q) : tLc (iList K (tCut tl)) (gName j) tYes (tCut te) [j] σ H Q := by
  refine ⟨_, q, ?_⟩
  rintro v H1 ⟨a, xs, ys, rfl, hl, hn, hs, he, k⟩
  exact ⟨a, rfl, ⟨_, hl⟩, map_core tCut_mono hl hn hs (fun i x y H' h1 h2 h3 => ⟨_, he i x y H' h1 h2 h3, fun _ _ c => c⟩) k⟩
theorem pe_map {X : Cx} {K : PySem.W.Frag} {e : Expr} {tl te : TE} {j : Nat} (h : PE X e (tLc (iList K (tCut tl)) (gName j) tYes (tCut te) [j])) : PE X e (tMapL K j tl te) :=
  pe_imp h fun _ _ _ => tl_core
theorem ps_map {X : Cx} {K : PySem.W.Frag} {st : Stmt} {tl te : TE} {j i : Nat} (h : PS X st (tAsg (tLc (iList K (tCut tl)) (gName j) tYes (tCut te) [j]) (gName i))) : PS X st (tAsg (tMapL K j tl te) (gName i)) :=
  ps_imp h fun _ _ _ => tl_core
/-- arguments, cut -/
def tCutA (ta : TA) : TA := fun σ H Q => ∃ C : List V → Hp → Prop, ta σ H C ∧ ∀ vs H', C vs H' → Q vs H'
theorem map_coreR {te : TE} {j : Nat} {σ : L2.St} {H1 : Hp} {Q : VK} {m : Nat} {ys : List V} (hn : ys.length = m) (hs : m ≤ 100000)
    (he : ∀ (i : Nat) (y : V) (H' : Hp), ys[i]? = some y → Same H1 H' → te ((σ.set j none).set j (some (.int i))) H' fun v H'' => v = y ∧ Same H' H'')
    (k : ∀ D H', Same H1 H' → H1 D = none → H' D = some (.lst ys) → Q (.ref D) H') :
    tLc (fun _ H R => R (Itr 0 m) H) (gName j) tYes (tCut te) [j] σ H1 Q := by
  intro D hD
  refine lc_range (lo := 0) (n := m) (fun i H' => Same H1 H' ∧ H' D = some (.lst (ys.take i))) ⟨fun c u h => by rw [upd_ne (ne_of_none h hD)]; exact h, upd_same⟩ ?_ ?_
  · rintro i H' hi ⟨s, e⟩
    have hy : ys[i]? = some ys[i] := List.getElem?_eq_getElem (by omega)
    have e0 : (0 : Int) + (i : Int) = i := Int.zero_add _
    rw [e0]
    refine ⟨wipe_one, _, he i _ H' hy s, ?_⟩
    rintro v H2 ⟨rfl, s2⟩
    refine ⟨_, s2 _ _ e, ?_, ?_, ?_⟩
    · rw [List.length_take]
      exact Nat.lt_of_le_of_lt (m := 100000) (by omega) (by decide)
    · intro c o hc
      rw [upd_ne (ne_of_none hc hD)]
      exact s2 _ _ (s _ _ hc)
    · rw [upd_same, take_one hy]
  · rintro H' ⟨s, e⟩
    rw [← hn, List.take_length] at e
    exact k D H' s hD e
theorem pe_mapR {X : Cx} {e : Expr} {ta : TA} {te : TE} {j : Nat} (mono : ∀ σ H (Q Q' : List V → Hp → Prop), (∀ v H', Q v H' → Q' v H') → ta σ H Q → ta σ H Q')
    (h : PE X e (tLc (iRng1 ta) (gName j) tYes (tCut te) [j])) : PE X e (tMapR j ta te) := by
  refine pe_imp h fun σ H Q q => ?_
  refine mono σ H _ _ ?_ q
  rintro vs H1 ⟨m, ys, rfl, h0, hm, hn, he, k⟩
  exact ⟨m, rfl, by omega, by omega, map_coreR (by omega) (by omega) he k⟩

/-! ### within a comprehension: the written part by its name -/
theorem call_reprK {X : Cx} {K : PySem.W.Frag} (bare : Bare X.A) (hu : X.A.units + 64 < cLine) (hK : X.K = K := by rfl) : CallR X (.builtin "repr") (rRepr K) := hK ▸ call_reprD bare hu
theorem ix_listK {X : Cx} {K : PySem.W.Frag} (hK : X.K = K := by rfl) : IxR X (rIxL K) := hK ▸ ix_list
theorem ix_tupK {X : Cx} {K : PySem.W.Frag} (hK : X.K = K := by rfl) : IxR X (rIxT K) := hK ▸ ix_tup
theorem call_isiK {X : Cx} {K : PySem.W.Frag} (hK : X.K = K := by rfl) : CallR X (.builtin "isinstance") (rIsi K) := hK ▸ call_isi

/-! ### heaps: all that was tracked stays, but for the list at q -/
structure Keep (q : Addr) (H H' : Hp) : Prop where
  all : ∀ b o, H b = some o → b ≠ q → H' b = some o
  hd : ∀ x l, H q = some (.lst (x :: l)) → ∃ l', H' q = some (.lst (x :: l'))
instance {q : Addr} {H H' : Hp} : CoeFun (Keep q H H') (fun _ => ∀ b o, H b = some o → b ≠ q → H' b = some o) := ⟨Keep.all⟩
theorem Keep.refl {q : Addr} {H : Hp} : Keep q H H := ⟨fun _ _ h _ => h, fun x l h => ⟨l, h⟩⟩
theorem Keep.trans {q : Addr} {H H1 H2 : Hp} (a : Keep q H H1) (b : Keep q H1 H2) : Keep q H H2 := ⟨fun c o h n => b.all c o (a.all c o h n) n, fun x l h => by
  obtain ⟨l1, h1⟩ := a.hd x l h
  exact b.hd x l1 h1⟩
theorem Keep.upd {q : Addr} {H H' : Hp} {x : V} {l l' : List V} (a : Keep q H H') (hq : H q = some (.lst (x :: l))) : Keep q H (L2.upd H' q (.lst (x :: l'))) := ⟨fun c u h n => by rw [upd_ne n]; exact a.all c u h n, fun y m h => by
  obtain ⟨rfl, _⟩ := List.cons.inj (HO.lst.inj (Option.some.inj (hq.symm.trans h)))
  exact ⟨l', upd_same⟩⟩
theorem Keep.new {q p : Addr} {H H' : Hp} {o : HO} (a : Keep q H H') (hp : H' p = none) : Keep q H (L2.upd H' p o) := ⟨fun c u h n => by
  have e := a.all c u h n
  rw [upd_ne (ne_of_none e hp)]
  exact e, fun x l h => by
  obtain ⟨l1, h1⟩ := a.hd x l h
  exact ⟨l1, by rw [upd_ne (ne_of_none h1 hp)]; exact h1⟩⟩
theorem Keep.same {q : Addr} {H H1 H2 : Hp} (a : Keep q H H1) (b : Same H1 H2) : Keep q H H2 := ⟨fun c o h n => b c o (a.all c o h n), fun x l h => by
  obtain ⟨l1, h1⟩ := a.hd x l h
  exact ⟨l1, b _ _ h1⟩⟩
theorem Same.keep {q : Addr} {H H' : Hp} (a : Same H H') : Keep q H H' := ⟨fun c o h _ => a c o h, fun x l h => ⟨l, a _ _ h⟩⟩
theorem Same.new {p : Addr} {H H' : Hp} {o : HO} (a : Same H H') (hp : H' p = none) : Same H (L2.upd H' p o) := fun c u h => by
  have e := a c u h
  rw [upd_ne (ne_of_none e hp)]
  exact e
theorem Keep.toSame {q : Addr} {H H' : Hp} (a : Keep q H H') (hq : H q = none) : Same H H' := fun c o h => a.all c o h (ne_of_none h hq)
theorem Keep.free {q p : Addr} {H H' : Hp} (a : Keep q H H') (hne : p ≠ q) (h : H' p = none) : H p = none := by
  cases e : H p with
  | none => rfl
  | some o => exact nomatch h.symm.trans (a.all p o e hne)
theorem pe_mk_ {X : Cx} {k j : Nat} {C : Addr} {sp : Sp} {m : Str} {pos apos : Pos} {o : Expr} {kws : List Keyword} {ks : List Str} {gV : List V → List V → List V} {ta : TE} {tk : TA} {pl : Sem Bool}
    (c : MetK X.prog X.w X.K X.mg X.base k C m sp ks gV) (cl : Cls X.K C) (hr : Room j X.A) (hk : k ≤ j) (he : PE X o ta) (hkw : PK X kws tk)
    (hall : (backToKw pos (keywordEach kws X.env)).all (·.1.isSome) = true := by rfl) (hks : (backToKw pos (keywordEach kws X.env)).filterMap (·.1) = ks := by rfl)
    (hpl : ((backTo pos (starEach [] X.env)).any (·.1) || (backToKw pos (keywordEach kws X.env)).any (·.1.isNone)) = false := by rfl)
    (ht : eval (.Call (.Attribute o m apos) [] kws pos) X.env = (do
      let ov ← eval o X.env
      standAt apos.atName
      let (f, first) ← holding [ov] (getMethod ov m pl)
      callWith pos f first (backTo pos (starEach [] X.env)) (backToKw pos (keywordEach kws X.env))) := by rfl) :
    PE X (.Call (.Attribute o m apos) [] kws pos) (tMethK C m sp gV E0 ta tk) := by
  obtain ⟨f, fd, ps, g, M, F, b⟩ := c.ex
  exact pe_methK0 (pl := pl) he cl M F (hr.mono hk) b pass0 hkw hall hks hpl ht
end MG

/-! str, repr and bool of an own instance -/
namespace MG
open PySem PySem.Spec PyProof.Rows L2

section
variable {prog : Program} {w : World} {A : Around} {E : Value → Shared → Prop} {s : Shared} {K : PySem.W.Frag} {x C f : Addr} {ox : Obj} {od : Option Obj} {m : Str → Option Value} {L : Addr} {h₀ : Heap}
open Builtin in
theorem bool_own {Q : Value → Shared → Prop} (F : Fr h₀ L s.heap m) (X₀ : K.In h₀) (I : PySem.W.InstAt s.heap x ox C od)
    (hs : PySem.W.findIn K (.ref C) "__bool__" = some (some (.ref f))) (hf : PySem.W.isFn K (.ref f) = true)
    (h : wpAny (model prog w) A.in1.in1 (call (.ref f) [.ref x]) (fun v s' => ∃ b, v = .bool b ∧ Q (.bool b) s') E s) :
    wpAny (model prog w) A (call (.type "bool") [.ref x]) Q E s := by
  refine callType_codes (T := "bool") (Bi := Builtin.«object.__init__») (Q₁ := fun r s₁ => ∃ b, r = .bool b ∧ Q r s₁) PySem.F.called_bool (PySem.F.typeCall_bool_1 _) PySem.F.entry_object_init ?_ ?_
  · refine codeAny_of_tree ?_
    show wpAny _ A.in1.in1 (do checkBuiltinCall "bool.__new__" ⟨[.type "bool", .ref x], []⟩; again (.builtin "bool.__new__" ⟨[.type "bool", .ref x], []⟩)) _ _ s
    refine wpAny_bind (wpAny_of_eq (PySem.F.newCall_bool_1 _) (wpAny_pure ⟨plainId_quiet (by decide +kernel) _, codeAny_builtin PySem.F.entry_bool_new ?_⟩))
    rw [Around.under_plainId (by decide +kernel) _]
    have f1 := PySem.F.conv_sub_bool
    have tr : ∀ {R : Bool → Shared → Prop}, (∀ b s', Q (.bool b) s' → R b s') → wpAny (model prog w) A.in1.in1 (truthy (.ref x)) R E s := fun {R} hr =>
      PySem.W.truthy_K F X₀ I hs hf (wpAny_mono h (fun v s' z => match v, z with | _, ⟨b, rfl, q⟩ => hr b s' q) fun _ _ z => z)
    unfold Builtin.«bool.__new__»
    repeat (any_goals (first | assumption | (refine wpAny_bind (m := truthy (.ref x)) (tr fun b s' q => ?_)) | wp_step))
    all_goals first | exact wpAny_pure ⟨_, rfl, q⟩ | exact ⟨_, rfl, q⟩ | skip
  · rintro obj s₁ ⟨b, rfl, hq⟩
    exact ⟨PySem.typeIs_bool _ _, PySem.F.args_object_init_2 _ _, object_init_meets PySem.F.called_bool.init.lookup PySem.F.called_bool.made (by decide) prog w A.in1 _ s₁ ⟨PySem.typeIs_bool _ _, rfl, hq⟩⟩
end

section
variable {X : Cx} {CX : CXT} {k : Nat} {C f a : Addr} {fd : FuncData} {ps : List Str} {sp : Sp} {E : XK} {pins : List (Addr × Obj)} {σ : L2.St} {H : Hp} {s : Shared} {Q : VK}
/-- the callee, below a builtin -/
theorem run_in1 (F : FnOk X.prog X.w X.K X.mg X.base CX k f fd ps sp) (hr : Room (k + 1) X.A) (hb : Binds X.K fd ps []) (hx : Passes CX X E) (I : Inv X pins σ H s) (hsp : sp [.ref a] H Q E) :
    wpAny (model X.prog X.w) X.A.in1 (call (.ref f) [.ref a]) (EP X pins σ Q) X.xe s := by
  have hl := F.len _ _ _ _ hsp
  refine wpAny_call (codeAny_mono (F.run X.A.in1 X.stack s H ⟨[.ref a], []⟩ [.ref a] [.ref a] Q E hr.in1 I.env0.in1 (by
    have := hb s [.ref a] I.kIn (by simpa using hl)
    simpa using this) (.cons rfl .nil) hsp) fun r s' hq => ?_)
  match r, hq with
  | .error e, hq => exact hx pins σ H s e s' I hq
  | .ok (.ret z), hq => exact I.after hq
  | .ok .next, hq => exact False.elim hq
  | .ok .brk, hq => exact False.elim hq
  | .ok .cont, hq => exact False.elim hq
theorem run_in2 (F : FnOk X.prog X.w X.K X.mg X.base CX k f fd ps sp) (hr : Room (k + 2) X.A) (hb : Binds X.K fd ps []) (hx : Passes CX X E) (I : Inv X pins σ H s) (hsp : sp [.ref a] H Q E) :
    wpAny (model X.prog X.w) X.A.in1.in1 (call (.ref f) [.ref a]) (EP X pins σ Q) X.xe s := by
  have hl := F.len _ _ _ _ hsp
  refine wpAny_call (codeAny_mono (F.run X.A.in1.in1 X.stack s H ⟨[.ref a], []⟩ [.ref a] [.ref a] Q E hr.in1.in1 I.env0.in1.in1 (by
    have := hb s [.ref a] I.kIn (by simpa using hl)
    simpa using this) (.cons rfl .nil) hsp) fun r s' hq => ?_)
  match r, hq with
  | .error e, hq => exact hx pins σ H s e s' I hq
  | .ok (.ret z), hq => exact I.after hq
  | .ok .next, hq => exact False.elim hq
  | .ok .brk, hq => exact False.elim hq
  | .ok .cont, hq => exact False.elim hq
/-- str(x), repr(x): the own def's text -/
def rTxtO (C : Addr) (sp : Sp) (E : XK) : List V → Hp → VK → Prop := fun xs H Q => ∃ a dx fs, xs = [.ref a] ∧ H a = some (.ins C dx fs) ∧ sp [.ref a] H (fun v H' => ∃ z, v = .str z ∧ Q v H') E
/-- bool(x) -/
def rBoolO (C : Addr) (sp : Sp) (E : XK) : List V → Hp → VK → Prop := fun xs H Q => ∃ a dx fs, xs = [.ref a] ∧ H a = some (.ins C dx fs) ∧ sp [.ref a] H (fun v H' => ∃ z, v = .bl z ∧ Q v H') E
theorem strBack {u : Value} {s' : Shared} (h : EP X pins σ (fun v H' => ∃ z, v = .str z ∧ Q v H') u s') : PySem.W.StrBack (EP X pins σ Q) u s' := by
  obtain ⟨v, H', I, r, z, rfl, q⟩ := h
  obtain ⟨t, rfl⟩ := r
  exact ⟨.str z, H', I, ⟨t, rfl⟩, q⟩
theorem call_strO (at_ : PySem.W.findIn X.K (.ref C) "__str__" = some (some (.ref f))) (fn : PySem.W.isFn X.K (.ref f) = true)
    (F : FnOk X.prog X.w X.K X.mg X.base CX k f fd ps sp) (hr : Room (k + 2) X.A) (hb : Binds X.K fd ps []) (hx : Passes CX X E) : CallR X (.type "str") (rTxtO C sp E) := by
  intro pins s σ H xs us Q I r h
  obtain ⟨a, dx, fs, rfl, ha, hsp⟩ := h
  obtain ⟨u, rfl, ru⟩ := vals1 r
  cases ru
  obtain ⟨mA, J, _⟩ := ins_get I.hok ha
  obtain ⟨od, J, _⟩ := J.look
  exact PySem.W.kso_call (Nat.lt_trans (by show X.A.units + 1 + 1 < X.A.units + 16 * (k + 2) + 200; omega) hr.un) I.kIn J at_ fn (wpAny_mono (run_in2 F hr hb hx I hsp) (fun _ _ q => strBack q) fun _ _ e => e)
theorem call_reprO (at_ : PySem.W.findIn X.K (.ref C) "__repr__" = some (some (.ref f))) (fn : PySem.W.isFn X.K (.ref f) = true)
    (F : FnOk X.prog X.w X.K X.mg X.base CX k f fd ps sp) (hr : Room (k + 1) X.A) (hb : Binds X.K fd ps []) (hx : Passes CX X E) : CallR X (.builtin "repr") (rTxtO C sp E) := by
  intro pins s σ H xs us Q I r h
  obtain ⟨a, dx, fs, rfl, ha, hsp⟩ := h
  obtain ⟨u, rfl, ru⟩ := vals1 r
  cases ru
  obtain ⟨mA, J, _⟩ := ins_get I.hok ha
  obtain ⟨od, J, _⟩ := J.look
  obtain ⟨m, hF⟩ := I.fr
  exact PySem.W.repr_K (Nat.lt_trans (by show X.A.units + 1 < X.A.units + 16 * (k + 1) + 200; omega) hr.un) hF I.ok.mod.kin J at_ fn (wpAny_mono (run_in1 F hr hb hx I hsp) (fun _ _ q => strBack q) fun _ _ e => e)
theorem call_boolO (at_ : PySem.W.findIn X.K (.ref C) "__bool__" = some (some (.ref f))) (fn : PySem.W.isFn X.K (.ref f) = true)
    (F : FnOk X.prog X.w X.K X.mg X.base CX k f fd ps sp) (hr : Room (k + 2) X.A) (hb : Binds X.K fd ps []) (hx : Passes CX X E) : CallR X (.type "bool") (rBoolO C sp E) := by
  intro pins s σ H xs us Q I r h
  obtain ⟨a, dx, fs, rfl, ha, hsp⟩ := h
  obtain ⟨u, rfl, ru⟩ := vals1 r
  cases ru
  obtain ⟨mA, J, _⟩ := ins_get I.hok ha
  obtain ⟨od, J, _⟩ := J.look
  obtain ⟨m, hF⟩ := I.fr
  refine bool_own hF I.ok.mod.kin J at_ fn (wpAny_mono (run_in2 F hr hb hx I hsp) ?_ fun _ _ e => e)
  rintro u s' ⟨v, H', I', r, z, rfl, q⟩
  cases r
  exact ⟨z, rfl, .bl z, H', I', rfl, q⟩
end
section
variable (P : Program) (w : World) (K : PySem.W.Frag) (mg : Str → Option Value) (base : Heap) (k : Nat) (C : Addr)
/-- a double-underscore method of one parameter -/
structure DunF (nm : Str) (sp : Sp) : Prop where
  ex : ∃ (f : Addr) (fd : FuncData) (ps : List Str), PySem.W.findIn K (.ref C) nm = some (some (.ref f)) ∧ PySem.W.isFn K (.ref f) = true ∧ FnOk P w K mg base CX0 k f fd ps sp ∧ Binds K fd ps []
end
section
variable {X : Cx} {k j : Nat} {C : Addr} {sp : Sp}
theorem str_f (o : DunF X.prog X.w X.K X.mg X.base k C "__str__" sp) (hr : Room j X.A) (hk : k + 2 ≤ j) : CallR X (.type "str") (rTxtO C sp E0) := by
  obtain ⟨f, fd, ps, a, i, F, b⟩ := o.ex
  exact call_strO a i F (hr.mono hk) b pass0
theorem repr_f (o : DunF X.prog X.w X.K X.mg X.base k C "__repr__" sp) (hr : Room j X.A) (hk : k + 1 ≤ j) : CallR X (.builtin "repr") (rTxtO C sp E0) := by
  obtain ⟨f, fd, ps, a, i, F, b⟩ := o.ex
  exact call_reprO a i F (hr.mono hk) b pass0
theorem bool_f (o : DunF X.prog X.w X.K X.mg X.base k C "__bool__" sp) (hr : Room j X.A) (hk : k + 2 ≤ j) : CallR X (.type "bool") (rBoolO C sp E0) := by
  obtain ⟨f, fd, ps, a, i, F, b⟩ := o.ex
  exact call_boolO a i F (hr.mono hk) b pass0
end

section
variable {prog : Program} {w : World} {A : Around} {E : Value → Shared → Prop} {s : Shared} {K : PySem.W.Frag} {x C L f : Addr} {h₀ : Heap} {m : Str → Option Value} {ox : Obj} {od : Option Obj} {b tb : Value}
theorem objNe_any (X : K.In s.heap) (I : PySem.W.InstAt s.heap x ox C od) (hs : PySem.W.findIn K (.ref C) "__eq__" = some (some (.ref f))) (hf : PySem.W.isFn K (.ref f) = true)
    (hu : A.units < cLine) {Q : Fin → Shared → Prop}
    (hcall : wpAny (model prog w) A (call (.ref f) [.ref x, b]) (fun v s' => ∃ c, v = .bool c ∧ Q (.done (.ret (.bool (!c)))) s') E s) :
    wpAny (model prog w) A (Builtin.«object.__ne__» ⟨[.ref x, b], []⟩) Q E s := by
  unfold Builtin.«object.__ne__»
  repeat (first
    | with_reducible refine wpAny_cRoomFor hu ?_
    | (refine wpAny_bind (m := callSpecialIfBound? (.ref x) (Str.ofString "__eq__") [b])
        (PySem.W.ifBound_K X I hs hf (wpAny_mono hcall (fun r s' hr => ?_) fun _ _ e => e)))
    | wp_step)
  obtain ⟨c, rfl, hq⟩ := hr
  repeat (first | exact hq | exact wpAny_pure hq | exact wpAny_truthy_bool hq | (refine wpAny_bind (m := truthy (.bool _)) (wpAny_truthy_bool ?_)) | wp_step)
theorem ne_any (X : K.In s.heap) (I : PySem.W.InstAt s.heap x ox C od) (hb : PySem.W.Looks (model prog w) s.heap (typeOf b) tb) (hn : PySem.W.notFirst K C tb = true)
    (n : NeAt K C f) (ha : ∀ y, argsOk "object.__ne__" ⟨[y, b], []⟩) (hu : A.units + 1 < cLine) {Q : Value → Shared → Prop}
    (hcall : wpAny (model prog w) A.in1 (call (.ref f) [.ref x, b]) (fun v s' => ∃ c, v = .bool c ∧ Q (.bool (!c)) s') E s) :
    wpAny (model prog w) A (richCompare .NotEq (.ref x) b) Q E s := by
  have sub : PySem.W.Looks (model prog w) s.heap (isInstance (.ref x) (.type "object")) true := I.type.andThen (PySem.W.looks_subIn X n.sub)
  have one : wpAny (model prog w) A (tryCompare (.ref x) "__ne__" b) (fun r s' => ∃ v, r = some v ∧ Q v s') E s := by
    simp only [tryCompare]
    refine wpAny_bind (ifBound_ne X I n.ne (wpAny_call (codeAny_call_builtin PySem.F.cmp_object.ne.plain PySem.F.cmpEntry_ne
      (PySem.W.check_slot PySem.F.cmpKind_ne PySem.F.cmpSplit_ne sub (ha _) ?_))))
    refine objNe_any (A := A.in1) X I n.eq n.fn hu (wpAny_mono hcall (fun v s' hv => ?_) fun _ _ e => e)
    obtain ⟨c, rfl, hq⟩ := hv
    first | exact ⟨c, rfl, wpAny_pure ⟨_, rfl, hq⟩⟩ | exact ⟨c, rfl, wpAny_pure (wpAny_pure ⟨_, rfl, hq⟩)⟩ | exact ⟨c, rfl, _, rfl, hq⟩
  unfold richCompare
  simp only [oneThing_ref]
  refine wpAny_holding (wpAny_bind (wpAny_cRoomFor (Nat.lt_of_succ_lt hu) ?_))
  refine wpAny_bind (I.type.here (wpAny_bind (hb.here ?_)))
  split
  · rename_i q
    have e : PySem.W.subIn K tb (.ref C) = some false := by
      rcases Bool.or_eq_true_iff.mp hn with z | z
      · rw [beq_iff_eq.mp z] at q
        simp at q
      · exact beq_iff_eq.mp z
    refine wpAny_bind ((PySem.W.looks_subIn X e).here ?_)
    simp only [Bool.false_eq_true, if_false]
    refine wpAny_bind (wpAny_mono one (fun v s' hv => ?_) fun _ _ e => e)
    obtain ⟨c, rfl, hq⟩ := hv
    exact wpAny_pure hq
  · refine wpAny_bind (wpAny_pure ?_)
    simp only [Bool.false_eq_true, if_false]
    refine wpAny_bind (wpAny_mono one (fun v s' hv => ?_) fun _ _ e => e)
    obtain ⟨c, rfl, hq⟩ := hv
    exact wpAny_pure hq
end
section
variable {X : Cx}
/-- x == y, x of the class at C with its own ==, y anything -/
def rEqA (K : PySem.W.Frag) (C : Addr) (sp : Sp) (E : XK) : R2 := fun x y H Q => ∃ a dx fs t, x = .ref a ∧ H a = some (.ins C dx fs) ∧ TyX K H y t ∧ PySem.W.notFirst K C t = true ∧ sp [x, y] H Q E
def rNeA (K : PySem.W.Frag) (C : Addr) (sp : Sp) (E : XK) : R2 := fun x y H Q => ∃ a dx fs t, x = .ref a ∧ H a = some (.ins C dx fs) ∧ TyX K H y t ∧ PySem.W.notFirst K C t = true ∧ sp [x, y] H (fun v H' => ∃ c, v = .bl c ∧ Q (.bl (!c)) H') E
theorem op_eqA {CX : CXT} {k : Nat} {C f : Addr} {fd : FuncData} {ps : List Str} {sp : Sp} {E : XK} (n : NeAt X.K C f)
    (F : FnOk X.prog X.w X.K X.mg X.base CX k f fd ps sp) (hr : Room k X.A) (hb : Binds X.K fd ps []) (hx : Passes CX X E) : OpR X (compareOp .Eq) (rEqA X.K C sp E) := by
  intro pins s σ H x y v u Q I rx ry h
  obtain ⟨a, dx, fs, t, rfl, ha, ty, hn, hsp⟩ := h
  cases rx
  obtain ⟨mA, J, _⟩ := ins_get I.hok ha
  obtain ⟨od, J, _⟩ := J.look
  obtain ⟨Z, kz, hz, _⟩ := kit_of I ry ty
  obtain ⟨m, hF⟩ := I.fr
  refine PySem.W.cmp_K (op := .Eq) hr.units0 hF I.ok.mod.kin J (kz.ty _ _ I.kIn hz) hn n.eq n.fn ?_
  exact wpAny_mono (run_fn (vs := [.ref a, y]) F hr hb .nil hx I (.cons rfl (.cons ry .nil)) (by rw [List.append_nil]; exact hsp))
    (fun _ _ hq => match hq with | ⟨_, _, _, r, _⟩ => back_of r hq) fun _ _ e => e
theorem op_neA {CX : CXT} {k : Nat} {C f : Addr} {fd : FuncData} {ps : List Str} {sp : Sp} {E : XK} (n : NeAt X.K C f)
    (F : FnOk X.prog X.w X.K X.mg X.base CX k f fd ps sp) (hr : Room (k + 1) X.A) (hb : Binds X.K fd ps []) (hx : Passes CX X E) : OpR X (compareOp .NotEq) (rNeA X.K C sp E) := by
  intro pins s σ H x y v u Q I rx ry h
  obtain ⟨a, dx, fs, t, rfl, ha, ty, hn, hsp⟩ := h
  cases rx
  obtain ⟨mA, J, _⟩ := ins_get I.hok ha
  obtain ⟨od, J, _⟩ := J.look
  obtain ⟨Z, kz, hz, _⟩ := kit_of I ry ty
  refine ne_any I.kIn J (kz.ty _ _ I.kIn hz) hn n (fun z => PySem.F.cmpArgs_ne z u) (Nat.lt_trans (by omega) hr.un) ?_
  have hl := F.len _ _ _ _ hsp
  refine wpAny_call (codeAny_mono (F.run X.A.in1 X.stack s H ⟨[.ref a, u], []⟩ [.ref a, u] [.ref a, y] _ E hr.in1 I.env0.in1 (by
    have := hb s [.ref a, u] I.kIn (by simpa using hl)
    simpa using this) (.cons rfl (.cons ry .nil)) hsp) fun r s' hq => ?_)
  match r, hq with
  | .error e, hq => exact hx pins σ H s e s' I hq
  | .ok (.ret z), hq =>
    obtain ⟨v, H', I', rv, c, rfl, q⟩ := I.after hq
    cases rv
    exact ⟨c, rfl, .bl (!c), H', I', rfl, q⟩
  | .ok .next, hq => exact False.elim hq
  | .ok .brk, hq => exact False.elim hq
  | .ok .cont, hq => exact False.elim hq
variable {k j : Nat} {C : Addr} {sp : Sp} {K : PySem.W.Frag}
theorem eq_a (o : EqF X.prog X.w X.K X.mg X.base k C sp) (hr : Room j X.A) (hk : k ≤ j) (hK : X.K = K := by rfl) : OpR X (compareOp .Eq) (rEqA K C sp E0) := by
  obtain ⟨f, fd, ps, n, F, b⟩ := o.ex
  exact hK ▸ op_eqA n F (hr.mono hk) b pass0
theorem ne_a (o : EqF X.prog X.w X.K X.mg X.base k C sp) (hr : Room j X.A) (hk : k + 1 ≤ j) (hK : X.K = K := by rfl) : OpR X (compareOp .NotEq) (rNeA K C sp E0) := by
  obtain ⟨f, fd, ps, n, F, b⟩ := o.ex
  exact hK ▸ op_neA n F (hr.mono hk) b pass0
end
end MG

/-! repr of lists and tuples that hold own instances -/
namespace MG
open PySem PySem.Spec PyProof.Rows L2
open Builtin.List Builtin.Tuple

/-- a builtin that shows a container: little room -/
structure Lit (A : Around) (c : Code) : Prop where
  frames : (A.under c).frames = A.frames
  handled : (A.under c).handled = A.handled
  depth : (A.under c).depth ≤ A.depth + 1
  units : (A.under c).units = A.units + 1
  guard : c.isGuard = true
/-- near the frame of X: its frames, its handled exception, room -/
structure Near (X : Cx) (k : Nat) (A : Around) : Prop where
  fr : A.frames = X.A.frames
  hn : A.handled = X.A.handled
  room : L2H.RoomH k A
theorem Near.mono {X : Cx} {j k : Nat} {A : Around} (n : Near X k A) (h : j ≤ k) : Near X j A := ⟨n.fr, n.hn, n.room.mono h⟩
theorem Near.line {X : Cx} {k : Nat} {A : Around} (n : Near X k A) : A.units < cLine := by have := n.room.un; omega
theorem Near.in1 {X : Cx} {k : Nat} {A : Around} (n : Near X (k + 1) A) : Near X k A.in1 :=
  ⟨n.fr, n.hn, by have := n.room.dp; show A.depth + 3 * k + 5 < _; omega, by have := n.room.un; show A.units + 1 + 16 * k + 200 < _; omega⟩
theorem Near.self {X : Cx} {k : Nat} (r : L2H.RoomH k X.A) : Near X k X.A := ⟨rfl, rfl, r⟩
theorem Lit.near {X : Cx} {k : Nat} {A : Around} {c : Code} (l : Lit A c) (n : Near X (k + 1) A) : Near X k (A.under c) :=
  ⟨l.frames.trans n.fr, l.handled.trans n.hn, by have := n.room.dp; have := l.depth; omega, by have := n.room.un; rw [l.units]; omega⟩
theorem lit_list (A : Around) (args : Args) : Lit A (.builtin "list.__repr__.loop" args) where
  frames := by first | rfl | simp [Around.under, Code.envs, Code.isFrame, pushEnvs]
  handled := by first | rfl | simp [Around.under]
  depth := by first | exact Nat.le_refl _ | simp [Around.under, Code.weight, Code.isCreation, Code.isGuard, Code.isCaller, Code.frames, Code.isFrame, guardIds]
  units := by first | rfl | simp [Around.under, Code.cUnits, Code.frames, Code.isFrame]
  guard := by
    show guardIds.contains "list.__repr__.loop" = true
    decide +kernel
theorem lit_tuple (A : Around) (args : Args) : Lit A (.builtin "tuple.__repr__" args) where
  frames := by first | rfl | simp [Around.under, Code.envs, Code.isFrame, pushEnvs]
  handled := by first | rfl | simp [Around.under]
  depth := by first | exact Nat.le_refl _ | simp [Around.under, Code.weight, Code.isCreation, Code.isGuard, Code.isCaller, Code.frames, Code.isFrame, guardIds]
  units := by first | rfl | simp [Around.under, Code.cUnits, Code.frames, Code.isFrame]
  guard := by
    show guardIds.contains "tuple.__repr__" = true
    decide +kernel
theorem lit_tupleU (A : Around) (args : Args) : Lit A (.builtin "tuple.__repr__.under" args) where
  frames := by first | rfl | simp [Around.under, Code.envs, Code.isFrame, pushEnvs]
  handled := by first | rfl | simp [Around.under]
  depth := by first | exact Nat.le_refl _ | simp [Around.under, Code.weight, Code.isCreation, Code.isGuard, Code.isCaller, Code.frames, Code.isFrame, guardIds]
  units := by first | rfl | simp [Around.under, Code.cUnits, Code.frames, Code.isFrame]
  guard := by
    show guardIds.contains "tuple.__repr__.under" = true
    decide +kernel
theorem lit_dict (A : Around) (args : Args) : Lit A (.builtin "dict.__repr__" args) where
  frames := by first | rfl | simp [Around.under, Code.envs, Code.isFrame, pushEnvs]
  handled := by first | rfl | simp [Around.under]
  depth := by first | exact Nat.le_refl _ | simp [Around.under, Code.weight, Code.isCreation, Code.isGuard, Code.isCaller, Code.frames, Code.isFrame, guardIds]
  units := by first | rfl | simp [Around.under, Code.cUnits, Code.frames, Code.isFrame]
  guard := by
    show guardIds.contains "dict.__repr__" = true
    decide +kernel
theorem lit_dictU (A : Around) (args : Args) : Lit A (.builtin "dict.__repr__.under" args) where
  frames := by first | rfl | simp [Around.under, Code.envs, Code.isFrame, pushEnvs]
  handled := by first | rfl | simp [Around.under]
  depth := by first | exact Nat.le_refl _ | simp [Around.under, Code.weight, Code.isCreation, Code.isGuard, Code.isCaller, Code.frames, Code.isFrame, guardIds]
  units := by first | rfl | simp [Around.under, Code.cUnits, Code.frames, Code.isFrame]
  guard := by
    show guardIds.contains "dict.__repr__.under" = true
    decide +kernel
theorem same_tup {K : PySem.W.Frag} {H H' : Hp} {a : Addr} {xs : List V} (e : Same H H') (h : SqT K H a xs) : SqT K H' a xs := by
  rcases h with (h | ⟨o, h⟩) | h
  · exact .inl (.inl (e _ _ h))
  · exact .inl (.inr ⟨o, e _ _ h⟩)
  · exact .inr h
section
variable {X : Cx}
/-- what is shown of x is t, wherever the things of H stand; as: the containers within -/
def Rp (X : Cx) (σ : L2.St) (H : Hp) (as : List Addr) (k : Nat) (x : V) (t : Str) : Prop :=
  ∀ (u : Value), RelV x u → ∀ (b : Nat), b + t.length ≤ sizeLine → ∀ (A : Around) (g : List Code), Near X k A → A.guards = some g → (∀ a ∈ as, Clear g a) →
    ∀ (pins : List (Addr × Obj)) (s : Shared) (H1 : Hp), Inv X pins σ H1 s → Same H H1 → ∀ (Q : Str → Shared → Prop) (E : Value → Shared → Prop),
      (∀ s' H2, Inv X pins σ H2 s' → Same H1 H2 → Q t s') → wpAny (model X.prog X.w) A (pyReprUnder b u) Q E s
variable {σ : L2.St} {H H' : Hp} {as as' : List Addr} {k k' : Nat} {x : V} {t : Str}
theorem Rp.same (h : Rp X σ H as k x t) (s : Same H H') : Rp X σ H' as k x t := fun u ru b hb A g n hg hc pins s1 H1 I s2 Q E q => h u ru b hb A g n hg hc pins s1 H1 I (s.trans s2) Q E q
theorem Rp.more (h : Rp X σ H as k x t) (m : ∀ a ∈ as, a ∈ as') : Rp X σ H as' k x t := fun u ru b hb A g n hg hc => h u ru b hb A g n hg fun a ha => hc a (m a ha)
theorem Rp.mono (h : Rp X σ H as k x t) (hk : k ≤ k') : Rp X σ H as k' x t := fun u ru b hb A g n hg hc => h u ru b hb A g (n.mono hk) hg hc
theorem Rp.is (h : ∀ u, RelV x u → ReprIs X.prog X.w u t) : Rp X σ H as k x t := fun u ru b hb A g n hg hc pins s H1 I s2 Q E q => h u ru b hb A E s Q fun tk => q _ _ (I.tok tk) (Same.refl H1)
theorem Rp.int {i : Int} (hi : i.natAbs.log2 < 1920) : Rp X σ H as k (.int i) (toString i) := Rp.is fun u ru => by
  obtain ⟨tk, rfl⟩ := ru
  exact .int tk hi
theorem Rp.bl {b : Bool} : Rp X σ H as k (.bl b) (if b then "True" else "False") := Rp.is fun u ru => by
  cases ru
  exact .bool b
theorem Rp.non : Rp X σ H as k .non "None" := Rp.is fun u ru => by
  cases ru
  exact .none
theorem Rp.str {z : Str} (hz : (reprText z).length ≤ sizeLine) : Rp X σ H as k (.str z) (reprText z) := Rp.is fun u ru => by
  obtain ⟨tk, rfl⟩ := ru
  exact .str z tk hz

/-! an own instance -/
section
variable {M : Model} {A : Around} {E : Value → Shared → Prop} {s : Shared} {K : PySem.W.Frag} {y C f : Addr} {ox : Obj} {od : Option Obj}
theorem underBy_own {nm : Str} {fin : Value → List Value → Sem Value} {Q : Option Value → Shared → Prop} (X0 : K.In s.heap) (I : PySem.W.InstAt s.heap y ox C od) (hs : PySem.W.findIn K (.ref C) nm = some (some (.ref f))) (hf : PySem.W.isFn K (.ref f) = true)
    (h : wpAny M A (fin (.ref f) [.ref y]) (fun v => Q (some v)) E s) : wpAny M A (callSpecialIfBoundBy? fin (.ref y) nm) Q E s := by
  have last : wpAny M A (fin (.ref f) [.ref y] >>= fun v => pure (some v)) Q E s := wpAny_bind (wpAny_mono h (fun _ _ q => wpAny_pure q) fun _ _ q => q)
  have bound := (PySem.W.bind_fn (M := M) X0 (.ref y) (beq_iff_eq.mp hf))
  unfold callSpecialIfBoundBy? bindSpecialIfBound?
  refine wpAny_holding (wpAny_bind (wpAny_bind (wpAny_bind (I.type.here ((PySem.W.looks_findIn X0 hs).here (wpAny_bind (wpAny_askSetting (wpAny_ite ?_))))))))
  split
  · exact wpAny_bind (bound.here (wpAny_pure last))
  · exact wpAny_tryCatch (wpAny_bind (bound.here (wpAny_pure last)))
theorem under_own {b : Nat} {Q : Value → Shared → Prop} (hu : A.units < cLine) (X0 : K.In s.heap) (I : PySem.W.InstAt s.heap y ox C od) (hs : PySem.W.findIn K (.ref C) "__repr__" = some (some (.ref f))) (hf : PySem.W.isFn K (.ref f) = true)
    (h : wpAny M A (call (.ref f) [.ref y]) (fun v s' => (∃ z u, v = .str z u) ∧ Q v s') E s) : wpAny M A (pyReprObjUnder b (.ref y)) Q E s := by
  show wpAny M A (pyReprObjBy _ (.ref y)) Q E s
  unfold pyReprObjBy
  refine wpAny_bind (wpAny_cRoomFor hu (wpAny_bind (wpAny_bind (I.type.here ((PySem.W.looks_findIn X0 hs).here ?_)))))
  rw [show (some (Value.ref f)).isNone = false from rfl]
  simp only [Bool.false_eq_true, if_neg, not_false_eq_true]
  refine wpAny_bind (underBy_own X0 I hs hf (wpAny_mono (show wpAny M A (call (.ref f) ([.ref y] ++ [])) _ E s from h) (fun v s' hv => ?_) fun _ _ z => z))
  obtain ⟨⟨z, u, rfl⟩, hq⟩ := hv
  exact wpAny_bind (wpAny_isInstance (b := true) (typeIs_str _ _ _) isSubtype_str_str (wpAny_pure hq))
end
/-- how the own instances of X are shown: the def's text, wherever it is called near X -/
structure OwnX (X : Cx) (own : Hp → Addr → Str → Prop) (kO : Nat) : Prop where
  run : ∀ (H : Hp) (a : Addr) (t : Str), own H a t → ∃ (C f dx : Addr) (fs : List (Str × V)), H a = some (.ins C dx fs) ∧ PySem.W.findIn X.K (.ref C) "__repr__" = some (some (.ref f)) ∧ PySem.W.isFn X.K (.ref f) = true ∧
    ∀ (A : Around) (pins : List (Addr × Obj)) (σ : L2.St) (s : Shared) (H1 : Hp), Near X kO A → Inv X pins σ H1 s → Same H H1 → ∀ (Q : Value → Shared → Prop) (E : Value → Shared → Prop),
      (∀ s' H2 tk, Inv X pins σ H2 s' → Same H1 H2 → Q (.str t tk) s') → wpAny (model X.prog X.w) A (call (.ref f) [.ref a]) Q E s
theorem Rp.own {own : Hp → Addr → Str → Prop} {a : Addr} (o : OwnX X own k) (ho : own H a t) : Rp X σ H as k (.ref a) t := by
  intro u ru b hb A g n hg hc pins s H1 I s1 Q E q
  obtain rfl : u = Value.ref a := ru
  obtain ⟨C, f, dx, fs, hi, at_, fn, run⟩ := o.run H a t ho
  obtain ⟨mA, J, _⟩ := ins_get I.hok (s1 _ _ hi)
  obtain ⟨od, J, _⟩ := J.look
  exact wpAny_pyReprUnder_ref (by omega) (under_own n.line I.kIn J at_ fn (run A pins σ s H1 n I s1 _ E fun s' H2 tk I2 s2 => ⟨⟨_, _, rfl⟩, _, _, rfl, q s' H2 I2 s2⟩))

/-! lists -/
theorem vals_get {xs : List V} {its : List Value} (r : Vals xs its) : ∀ (i : Nat) (x : V), xs[i]? = some x → ∃ u, its[i]? = some u ∧ RelV x u := by
  induction r with
  | nil => intro i x h; simp at h
  | cons h t ih =>
    intro i x hx
    cases i with
    | zero => simp at hx; subst hx; exact ⟨_, by simp, h⟩
    | succ i => exact ih i x (by simpa using hx)
/-- each item is shown -/
def RpAll (X : Cx) (σ : L2.St) (H : Hp) (as : List Addr) (k : Nat) (xs : List V) (ts : List Str) : Prop :=
  ts.length = xs.length ∧ ∀ (i : Nat) (x : V), xs[i]? = some x → ∃ t, ts[i]? = some t ∧ Rp X σ H as k x t
theorem pinOf {pins : List (Addr × Obj)} {s : Shared} {H1 : Hp} {P : Addr} {o : Obj} (I : Inv X pins σ H1 s) (f : FpOk X pins H1 P) (e : s.heap.get? P = some o) (d : ∀ v, o.data ≠ .cell v) : Inv X (pins ++ [(P, o)]) σ H1 s := by
  have := I.pinned (fp := [P]) (fun b hb => by rw [List.mem_singleton.mp hb]; exact f) (fun b hb => by rw [List.mem_singleton.mp hb]; exact ⟨o, e, d⟩)
  have e2 : pinsAt [P] s.heap = [(P, o)] := by simp [pinsAt, e]
  rw [e2] at this
  exact this
theorem pinBack {pins : List (Addr × Obj)} {s : Shared} {H1 H2 : Hp} {P : Addr} {o : Obj} (I : Inv X (pins ++ [(P, o)]) σ H2 s) (f : FpOk X pins H1 P) : Inv X pins σ H2 s ∧ FpOk X pins H2 P ∧ s.heap.get? P = some o := by
  obtain ⟨e, n, _⟩ := I.pin (P, o) (by simp)
  exact ⟨I.unpinned, ⟨n, f.2.1, f.2.2.1, f.2.2.2.1, f.2.2.2.2.1, f.2.2.2.2.2⟩, e⟩
theorem fpTurn {pins : List (Addr × Obj)} {s : Shared} {H1 : Hp} {P : Addr} {h' : Heap} {t' : Nat} (I : Inv X pins σ H1 s) (f : FpOk X pins H1 P) (k : ∀ b o, b ≠ P → s.heap.get? b = some o → h'.get? b = some o) : Inv X pins σ H1 { s with heap := h', toks := t' } :=
  I.turned k f.1 f.2.1 f.2.2.2.1 f.2.2.2.2.1 f.2.2.2.2.2
/-- what a list's text says of its parts -/
structure Fit (b : Nat) (ts : List Str) : Prop where
  all : (listText ts).length ≤ sizeLine
  each : ∀ t ∈ ts, t.length ≤ sizeLine
  many : ts.length ≤ sizeLine
  far : b + piled ts ≤ sizeLine
theorem Fit.of {b : Nat} {ts : List Str} (h : b + (listText ts).length ≤ sizeLine) : Fit b ts := by
  have far := piled_le_listText ts
  obtain ⟨w1, w2, _⟩ := textFrom_len ts 0 (Str.ofString "[")
  rw [if_neg (by omega)] at w1
  have grow : (listText ts).length = (textFrom 0 (Str.ofString "[") ts).length + 1 := (strLen_append _ _).trans rfl
  exact ⟨by omega, fun t m => by have := w2 t m; omega, by omega, by omega⟩
theorem piled_snoc (dn : List Str) (t : Str) : piled (dn ++ [t]) = piled dn + (t.length + 2) := by rw [piled_append, piled_cons, piled_nil]
theorem rp_list_loop {a P : Addr} {xs : List V} {ts : List Str} {A : Around} {g : List Code} {b : Nat} {pins : List (Addr × Obj)} {R : Result → Shared → Prop}
    (hl : SqL X.K H a xs) (n : Near X (k + 1) A) (hg : A.guards = some g) (free : ∀ c ∈ as, Clear g c) (out : a ∉ as) (T : RpAll X σ H as k xs ts) (fit : Fit b ts) :
    ∀ (rest dn : List Str) (l : List (Str × Tok)) (s : Shared) (H1 : Hp) (parts : Array Value) (c : Nat), ts = dn ++ rest → l.map (·.1) = dn → parts.toList = strValues l → Inv X pins σ H1 s → Same H H1 → FpOk X pins H1 P →
    s.heap.get? P = some { cls := .type "list", dict := none, data := .seq parts c, slots := #[] } →
    (∀ s' H2 u, Inv X pins σ H2 s' → Same H1 H2 → R (.ok (.ret (.str (listText ts) u))) s') →
    codeAny (model X.prog X.w) A (.builtin "list.__repr__.loop" ⟨[.ref a, rawInt dn.length, .ref P, rawInt ((b + piled dn : Nat) : Int)], []⟩) R s := by
  intro rest
  induction rest with
  | nil =>
    intro dn l s H1 parts c split told lay I same hP0 hP done
    rw [List.append_nil] at split
    obtain ⟨its, rv, ⟨o, m, get, _, _, dat⟩, _⟩ := I.list (same.seq hl)
    have off : its.toArray[((dn.length : Nat) : Int).toNat]? = none := by
      have h1 := rv.length
      have h2 := T.1
      rw [split] at h2
      simp only [Int.toNat_natCast, List.getElem?_toArray]
      exact List.getElem?_eq_none (by omega)
    refine codeAny_builtin F.entry_list_repr_loop (show wpAny _ _ (Builtin.«list.__repr__.loop» ⟨[.ref a, .int dn.length 0, .ref P, .int ((b + piled dn : Nat) : Int) 0], []⟩) _ _ s from ?_)
    rw [repr_loop_tree]
    refine wpAny_bind (wpAny_listItems get dat ?_)
    rw [off]
    show wpAny _ _ (reprEnd (.ref P)) _ _ s
    refine wpAny_bind (wpAny_listItems hP rfl ?_)
    rw [lay, repr_fold, told, ← split]
    exact wpAny_bind (wpAny_pure (wpAny_bind (wpAny_mkStr (wpAny_pure (done _ H1 _ (I.tok _) (Same.refl H1))) fit.all)))
  | cons t rest ih =>
    intro dn l s H1 parts c split told lay I same hP0 hP done
    obtain ⟨its, rv, ⟨o, m, get, _, _, dat⟩, _⟩ := I.list (same.seq hl)
    have inn : dn.length < xs.length := by
      have h2 := T.1
      rw [split, List.length_append, List.length_cons] at h2
      omega
    have item : xs[dn.length]? = some xs[dn.length] := List.getElem?_eq_getElem inn
    obtain ⟨t', ht, shows⟩ := T.2 _ _ item
    obtain rfl : t = t' := by
      rw [split, List.getElem?_append_right (Nat.le_refl _), Nat.sub_self] at ht
      exact Option.some.inj ht
    obtain ⟨u, hu, ru⟩ := vals_get rv _ _ item
    have fast : its.toArray[((dn.length : Nat) : Int).toNat]? = some u := by simpa using hu
    have far := fit.far
    have near : piled ts = piled dn + (t.length + 2) + piled rest := by rw [split, piled_append, piled_cons]; omega
    have lit := lit_list A ⟨[.ref a, .int dn.length 0, .ref P, .int ((b + piled dn : Nat) : Int) 0], []⟩
    refine codeAny_builtin F.entry_list_repr_loop (show wpAny _ _ (Builtin.«list.__repr__.loop» ⟨[.ref a, .int dn.length 0, .ref P, .int ((b + piled dn : Nat) : Int) 0], []⟩) _ _ s from ?_)
    rw [repr_loop_tree]
    refine wpAny_bind (wpAny_listItems get dat ?_)
    rw [fast]
    dsimp only
    rw [Int.toNat_natCast]
    refine wpAny_bind (wpAny_holding (shows u ru (b + piled dn + 1) (by omega) _ _ (lit.near n) (guards_under_guard lit.guard hg) (fun c hc => (free c hc).cons fun e => out (e ▸ hc)) _ s H1 (pinOf I hP0 hP (fun _ z => nomatch z)) same _ _ fun s2 H2 I2 same2 => ?_))
    obtain ⟨I2, hP2, there⟩ := pinBack I2 hP0
    have lp : parts.size ≤ sizeLine := by
      have z : parts.toList.length = l.length := by rw [lay]; exact List.length_map ..
      have z2 : l.length = dn.length := by rw [← told, List.length_map]
      have z3 := fit.many
      rw [split, List.length_append] at z3
      rw [Array.length_toList] at z
      omega
    refine wpAny_bind (wpAny_mkStr (wpAny_bind ?_) (fit.each t (by rw [split]; simp)))
    refine wpAny_updateSeq (show s2.heap.get? P = _ from there) rfl (wpAny_pure ⟨F.quiet_list_repr_loop _, ?_⟩) lp
    have w1 : ((dn.length : Nat) : Int) + 1 = (((dn ++ [t]).length : Nat) : Int) := by rw [List.length_append]; rfl
    have w2 : b + piled dn + (t.length + 2) = b + piled (dn ++ [t]) := by rw [piled_snoc]; omega
    rw [w1, w2]
    refine ih (dn ++ [t]) (l ++ [(t, s2.toks)]) _ H2 (parts.push (.str t s2.toks)) _ (by rw [split, List.append_assoc]; rfl) (by rw [List.map_append, told]; rfl) (by simp [lay, strValues]) (fpTurn (I2.tok _) hP2 fun c o ne e => (Heap.get?_update_other _ _ (Ne.symm ne)).trans e) (same.trans same2) hP2
      (Heap.get?_update_self _ there rfl) fun s3 H3 u I3 same3 => done s3 H3 u I3 (same2.trans same3)
theorem rp_list_at {a : Addr} {x : V} {l : List V} {ts : List Str} {A : Around} {g : List Code} {b : Nat} {pins : List (Addr × Obj)} {s : Shared} {H1 : Hp} {R : Result → Shared → Prop}
    (hl : SqL X.K H a (x :: l)) (n : Near X (k + 1) A) (hg : A.guards = some g) (free : ∀ c ∈ a :: as, Clear g c) (out : a ∉ as) (T : RpAll X σ H as k (x :: l) ts) (hsz : b + (listText ts).length ≤ sizeLine) (I : Inv X pins σ H1 s) (same : Same H H1)
    (done : ∀ s' H2 u, Inv X pins σ H2 s' → Same H1 H2 → R (.ok (.ret (.str (listText ts) u))) s') :
    wpAny (model X.prog X.w) A.in1 (Builtin.listReprAt b ⟨[.ref a], []⟩) (fun fin s' => match fin with | .done f => R (.ok f) s' | .again c' => c'.quiet = true ∧ codeAny (model X.prog X.w) A c' R s') (fun e s' => R (.error e) s') s := by
  obtain ⟨its, rv, ⟨o, m, get, _, _, dat⟩, _⟩ := I.list (same.seq hl)
  cases rv with
  | cons ru rus =>
    refine wpAny_list_repr_head (A := A.in1) hg (fun v rest kw mem => listSameRef_of_ne (free a (.head _) _ _ _ _ mem)) get dat (wpAny_bind (wpAny_newObj_type (wpAny_pure ⟨F.quiet_list_repr_loop _, ?_⟩)))
    have I' : Inv X pins σ H1 { s with heap := _, toks := s.toks } := I.kept (h' := s.heap.push { cls := .type "list", dict := none, data := .seq #[] 0, slots := #[] }) (t' := s.toks) fun c u e => Heap.get?_push_of_some _ e
    exact rp_list_loop (P := s.heap.objs.size) hl n hg (fun c hc => free c (.tail _ hc)) out T (Fit.of hsz) ts [] [] _ H1 #[] _ rfl rfl rfl I' same (I.fpOk (Nat.le_refl _) (I.hok.fresh (Nat.le_refl _))) (Heap.get?_push_size _ rfl) done
theorem sq_type {pins : List (Addr × Obj)} {s : Shared} {H1 : Hp} {a : Addr} {xs : List V} (I : Inv X pins σ H1 s) (h : SqL X.K H1 a xs) : s.TypeIs (.ref a) "list" := by
  obtain ⟨its, rv, ⟨oa, na, ha, hc, _⟩, _⟩ := I.list h
  exact ⟨oa, ha, hc⟩
theorem Rp.list {a : Addr} {x : V} {l : List V} {ts : List Str} (hl : SqL X.K H a (x :: l)) (hna : a ∉ as) (hT : RpAll X σ H as k (x :: l) ts) : Rp X σ H (a :: as) (k + 2) (.ref a) (listText ts) := by
  intro u ru b hb A g n hg hc pins s H1 I s1 Q E q
  obtain rfl : u = Value.ref a := ru
  have hty := sq_type I (s1.seq hl)
  refine wpAny_pyReprUnder_ref (by omega) (wpAny_pyReprObjUnder_twin (twin := "list.__repr__.under") hty F.slot_list_repr.toG rfl n.line ?_)
  refine call_twin_plain F.plain_list_repr_under F.entry_list_repr_under F.check_list_repr_under hty F.slot_list_repr.toG (F.args_list_repr_1 _) ?_
  exact rp_list_at (R := callEnd _ E) hl (n.mono (by omega)) hg hc hna hT hb I s1 fun s' H2 u I2 s2 => ⟨⟨_, _, rfl⟩, _, _, rfl, q s' H2 I2 s2⟩
theorem Rp.list0 {a : Addr} (hl : SqL X.K H a []) : Rp X σ H as k (.ref a) "[]" := by
  intro u ru b hb A g n hg hc pins s H1 I s1 Q E q
  obtain rfl : u = Value.ref a := ru
  obtain ⟨its, rv, ⟨oa, na, ha, hc, _, hda⟩, _⟩ := I.list (s1.seq hl)
  cases rv
  exact wpAny_pyReprUnder_ref (by omega) (wpAny_pyReprObjUnder_list_empty ⟨oa, ha, hc⟩ n.line ha hda ⟨_, _, rfl, q _ H1 (I.tok _) (Same.refl H1)⟩)

/-! tuples -/
theorem RpAll.head {x : V} {xs : List V} {ts : List Str} (h : RpAll X σ H as k (x :: xs) ts) : ∃ t r, ts = t :: r ∧ Rp X σ H as k x t ∧ RpAll X σ H as k xs r := by
  cases ts with
  | nil => exact nomatch h.1
  | cons t r =>
    obtain ⟨t', e, q⟩ := h.2 0 x rfl
    cases (Option.some.inj e)
    exact ⟨t, r, rfl, q, by have := h.1; simpa using this, fun i y hy => by simpa using h.2 (i + 1) y (by simpa using hy)⟩
/-- the texts of a tuple's items, one behind the other -/
theorem rp_fold {A : Around} {g : List Code} {pins : List (Addr × Obj)} {E : Value → Shared → Prop} (n : Near X k A) (hg : A.guards = some g) (free : ∀ c ∈ as, Clear g c) {xs : List V} {us : List Value} (rv : Vals xs us) :
    ∀ (ts : List Str) (got : Array Str) (m : Nat) (s : Shared) (H1 : Hp) (Q : (Array Str × Nat) → Shared → Prop), RpAll X σ H as k xs ts → m + piled ts ≤ sizeLine → Inv X pins σ H1 s → Same H H1 →
    (∀ s' H2, Inv X pins σ H2 s' → Same H1 H2 → Q (got ++ ts.toArray, m + piled ts) s') → wpAny (model X.prog X.w) A (forIn us ((got, m) : (Array Str × Nat)) tupBody) Q E s := by
  induction rv with
  | nil =>
    intro ts got m s H1 Q T _ I _ done
    cases ts with
    | cons => exact nomatch T.1
    | nil =>
      have fin := done s H1 I (Same.refl H1)
      rw [List.forIn_nil]
      simp only [Array.append_empty, piled_nil, Nat.add_zero, List.toArray] at fin
      exact wpAny_pure fin
  | cons ru rus ih =>
    intro ts got m s H1 Q T fit I same done
    obtain ⟨t, rest, rfl, first, more⟩ := T.head
    have grow : m + piled (t :: rest) = m + (t.length + 2) + piled rest := by rw [piled_cons]; omega
    rw [grow] at fit done
    rw [List.forIn_cons]
    refine wpAny_bind (wpAny_bind (first _ ru (m + 1) (by omega) A g n hg free pins s H1 I same _ _ fun s2 H2 I2 same2 => wpAny_pure (ih rest _ _ s2 H2 Q more (by omega) I2 (same.trans same2) fun s3 H3 I3 same3 => ?_)))
    have fin := done s3 H3 I3 (same2.trans same3)
    have e : got.push t ++ rest.toArray = got ++ (t :: rest).toArray := by simp
    rw [e]
    exact fin
/-- no guard around speaks of a thing that is clear of them -/
theorem clear_any {g : List Code} {f : Code × Pos → Bool} (h : ∀ c ∈ g, f (c, default) = false) : (g.any fun c => f (c, default)) = false := List.any_eq_false.mpr fun c m => by rw [h c m]; exact Bool.false_ne_true
theorem rp_tuple_at {a : Addr} {xs : List V} {ts : List Str} {A : Around} {g : List Code} {b : Nat} {pins : List (Addr × Obj)} {s : Shared} {H1 : Hp} {R : Result → Shared → Prop} {id : String} {rest : List Value}
    (lit : Lit A (.builtin id ⟨.ref a :: rest, []⟩)) (hl : SqT X.K H a xs) (n : Near X (k + 1) A) (hg : A.guards = some g) (free : ∀ c ∈ a :: as, Clear g c) (out : a ∉ as) (T : RpAll X σ H as k xs ts)
    (hsz : b + (tupleText ts).length ≤ sizeLine) (I : Inv X pins σ H1 s) (same : Same H H1) (done : ∀ s' H2 u, Inv X pins σ H2 s' → Same H1 H2 → R (.ok (.ret (.str (tupleText ts) u))) s') :
    wpOwn (model X.prog X.w) A (.builtin id ⟨.ref a :: rest, []⟩) (Builtin.tupleReprAt b ⟨[.ref a], []⟩) (fun fin s' => match fin with | .done f => R (.ok f) s' | .again c' => c'.quiet = true ∧ codeAny (model X.prog X.w) A c' R s') (fun e s' => R (.error e) s') s := by
  obtain ⟨its, rv, ⟨o, get, cls, m, dat⟩, _⟩ := I.tuple (same_tup same hl)
  have much := piled_le_tupleText ts
  have eq : its.length = ts.length := by rw [T.1]; exact rv.length.symm
  rw [tuple_repr_tree, tupleReprUnderWay_eq]
  refine wpOwn_bind (wpOwn_stackTailAny hg (tupGuardF_off (.ref a)) (tupGuardF_pos (.ref a)) ?_)
  rw [clear_any (tupGuardF_of_clear (free a (.head _)))]
  refine wpOwn_of_wpAny (show wpAny _ _ (tupleReprRest b (.ref a)) _ _ s from ?_)
  refine wpAny_bind (wpAny_bind (wpAny_seqItems get dat (wpAny_pure ?_)))
  rw [← Array.forIn_toList]
  refine wpAny_bind (rp_fold (lit.near n) (guards_under_guard lit.guard hg) (fun c m => (free c (.tail _ m)).cons fun e => out (e ▸ m)) rv ts #[] b s H1 _ T (by omega) I same fun s2 H2 I2 same2 => ?_)
  have fin := done _ H2 s2.toks (I2.tok (s2.toks + 1)) same2
  have txt : (("(" : Str) ++ Str.join ", " ((#[] : Array Str) ++ ts.toArray).toList ++ (if its.toArray.size == 1 then ",)" else ")" : String)) = tupleText ts := by simp [tupleText, eq]
  refine wpAny_bind (wpAny_mkStr (wpAny_pure ?_) ?_)
  · rw [txt]
    exact fin
  · rw [txt]
    omega
theorem Rp.tuple {a : Addr} {xs : List V} {ts : List Str} (hl : SqT X.K H a xs) (hna : a ∉ as) (hT : RpAll X σ H as k xs ts) : Rp X σ H (a :: as) (k + 2) (.ref a) (tupleText ts) := by
  intro u ru b hb A g n hg hc pins s H1 I s1 Q E q
  obtain rfl : u = Value.ref a := ru
  obtain ⟨its, rv, ⟨o, ha, hct, _, hd⟩, _⟩ := I.tuple (same_tup s1 hl)
  refine wpAny_pyReprUnder_ref (by omega) (wpAny_pyReprObjUnder_twin (twin := "tuple.__repr__.under") ⟨o, ha, hct⟩ F.slot_tuple_repr rfl n.line ?_)
  exact call_twin_own (F.quiet_tuple_repr_under _) F.entry_tuple_repr_under F.check_tuple_repr_under ⟨o, ha, hct⟩ F.slot_tuple_repr (F.args_tuple_repr_1 _)
    (rp_tuple_at (R := callEnd _ E) (lit_tupleU A _) hl (n.mono (by omega)) hg hc hna hT hb I s1 fun s' H2 u I2 s2 => ⟨⟨_, _, rfl⟩, _, _, rfl, q s' H2 I2 s2⟩)

/-! dicts whose keys are ints and texts -/
def kTxt : Key → Str
  | .inl i => (toString i : String)
  | .inr z => reprText z
def RpKV (X : Cx) (σ : L2.St) (H : Hp) (as : List Addr) (k : Nat) (kvs : List (Key × V)) (ps : List Str) : Prop :=
  ps.length = kvs.length ∧ ∀ (i : Nat) (kv : Key × V), kvs[i]? = some kv → ∃ v, ps[i]? = some (kTxt kv.1 ++ ": " ++ v) ∧ Rp X σ H as k (kV kv.1) (kTxt kv.1) ∧ Rp X σ H as k kv.2 v
theorem kv_entry {κs : List (Key × V)} {vs : List (Key × Value)} (r : KV κs vs) : ∀ {es : List DictEntry} {P : Program} {w : World}, Pairs (mixKind P w) es vs →
    es.length = κs.length ∧ ∀ (i : Nat) (kv : Key × V), κs[i]? = some kv → ∃ e, es[i]? = some e ∧ RelV (kV kv.1) e.key ∧ RelV kv.2 e.val := by
  unfold KV at r
  induction r with
  | nil =>
    intro es P w p
    cases p
    exact ⟨rfl, fun i kv h => by simp at h⟩
  | cons h t ih =>
    intro es P w p
    cases p with
    | cons h1 h2 h3 =>
      obtain ⟨l, q⟩ := ih h3
      refine ⟨by simp [l], fun i kv hi => ?_⟩
      cases i with
      | zero =>
        simp at hi
        subst hi
        refine ⟨_, rfl, ?_, ?_⟩
        · rw [h.1]
          exact relV_key h1
        · rw [h2]
          exact h.2
      | succ i => exact q i kv (by simpa using hi)
/-- one entry more -/
theorem range_step {m i : Nat} {x : Nat} {rest : List Nat} (h : x :: rest = List.range' i (m - i)) : x = i ∧ i < m ∧ rest = List.range' (i + 1) (m - (i + 1)) := by
  cases d : m - i with
  | zero =>
    rw [d] at h
    cases h
  | succ j =>
    rw [d, List.range'_succ] at h
    injection h with h1 h2
    have : m - (i + 1) = j := by omega
    exact ⟨h1, by omega, by rw [h2, this]⟩
theorem range_end {m i : Nat} (hi : i ≤ m) (h : [] = List.range' i (m - i)) : i = m := by
  cases d : m - i with
  | zero => omega
  | succ j =>
    rw [d, List.range'_succ] at h
    cases h
theorem rp_dict_at {a : Addr} {kvs : List (Key × V)} {ps : List Str} {A : Around} {g : List Code} {b : Nat} {pins : List (Addr × Obj)} {s : Shared} {H0 H1 : Hp} {R : Result → Shared → Prop} {id : String} {rest : List Value}
    (lit : Lit A (.builtin id ⟨.ref a :: rest, []⟩)) (h0 : H0 a = none) (hl : H1 a = some (.dK kvs)) (n : Near X (k + 1) A) (hg : A.guards = some g) (free : ∀ c ∈ a :: as, Clear g c) (out : a ∉ as) (T : RpKV X σ H0 as k kvs ps)
    (hsz : b + (dictText ps).length ≤ sizeLine) (I0 : Inv X pins σ H1 s) (hs : Same H0 H1) (done : ∀ s' H2 u, Inv X pins σ H2 s' → Same H1 H2 → R (.ok (.ret (.str (dictText ps) u))) s') :
    wpOwn (model X.prog X.w) A (.builtin id ⟨.ref a :: rest, []⟩) (Builtin.dictReprAt b ⟨[.ref a], []⟩) (fun fin s' => match fin with | .done f => R (.ok f) s' | .again c' => c'.quiet = true ∧ codeAny (model X.prog X.w) A c' R s') (fun e s' => R (.error e) s') s := by
  -- the dict stays as it is while it is shown
  have hn0 := I0.nofrz hl trivial
  obtain ⟨o, I⟩ := I0.lock hl trivial
  have hfr : Same H0 (upd H1 a (.frz o (.dK kvs))) := fun c u e => by
    rw [upd_ne (ne_of_none e h0)]
    exact hs c u e
  obtain ⟨hsys, get, exact_, es, ep, vs, dat, size, rv, o', es', e1, _, e3, _, e4, _⟩ := I.frzK upd_same
  obtain rfl := Option.some.inj (get.symm.trans e1)
  obtain ⟨rfl, _⟩ := Data.dict.inj (dat.symm.trans e3)
  obtain ⟨_, entry⟩ := kv_entry rv e4
  have stays : ∀ (s' : Shared) (H2 : Hp), Inv X pins σ H2 s' → Same (upd H1 a (.frz o (.dK kvs))) H2 → s'.heap.get? a = some o := fun s' H2 I2 s2 => (I2.frzK (s2 _ _ upd_same)).2.1
  have much := piled_le_dictText ps
  have many := T.1
  unfold Builtin.dictReprAt
  refine wpOwn_bind (wpOwn_of_wpAny (wpAny_bind (wpAny_notOrdered_dict (show s.TypeIs (.ref a) "dict" from ⟨o, get, exact_.1⟩) (wpAny_pure (a := Value.ref a) ?_))))
  rw [dictReprRunning_eq]
  refine wpOwn_bind (wpOwn_stackTailAny hg (dictGuardF_off (.ref a)) (dictGuardF_pos (.ref a)) ?_)
  rw [clear_any (dictGuardF_of_clear (free a (.head _)))]
  have n' := lit.near n
  have hg' := guards_under_guard lit.guard hg
  have free' : ∀ c ∈ as, Clear (.builtin id ⟨.ref a :: rest, []⟩ :: g) c := fun c m => (free c (.tail _ m)).cons fun e => out (e ▸ m)
  refine wpOwn_of_wpAny (show wpAny _ _ (Builtin.Dict.addrOf (.ref a) >>= fun _ => _) _ _ s from wpAny_bind (wpAny_pure ?_))
  have whole : Builtin.Dict.showsAll a = pure () := by
    unfold Builtin.Dict.showsAll
    rw [hsys]
    rfl
  rw [whole]
  refine wpAny_bind (wpAny_pure (wpAny_bind (wpAny_dictEpoch get dat (wpAny_bind (wpAny_dictEntries get dat (wpAny_bind ?_))))))
  rw [Std.Legacy.Range.forIn_eq_forIn_range', show (Std.Legacy.Range.mk 0 es.size 1 _).size = es.size - 0 from by simp [Std.Legacy.Range.size]]
  refine wpAny_forIn_list _ (fun todo r s' => ∃ i H2, todo = List.range' i (es.size - i) ∧ i ≤ es.size ∧ r = ((ps.take i).toArray, b + piled (ps.take i)) ∧ Inv X pins σ H2 s' ∧ Same (upd H1 a (.frz o (.dK kvs))) H2) _ ?_ ?_ _ _ ⟨0, _, rfl, Nat.zero_le _, rfl, I, Same.refl _⟩
  · rintro x todo _ s2 ⟨i, H2, hr0, hi, rfl, I2, same2⟩
    obtain ⟨rfl, lt, hrest⟩ := range_step hr0
    have ltk : x < kvs.length := by omega
    have there : kvs[x]? = some kvs[x] := List.getElem?_eq_getElem ltk
    obtain ⟨v, txt, showK, showV⟩ := T.2 x _ there
    obtain ⟨en, he, rek, rev⟩ := entry x _ there
    have he' : es[x] = en := by
      rw [Array.getElem?_toList, Array.getElem?_eq_getElem lt] at he
      exact Option.some.inj he
    have len : (kTxt kvs[x].1 ++ ": " ++ v).length = (kTxt kvs[x].1).length + 2 + v.length := (strLen_append _ _).trans (congrArg (· + v.length) (strLen_append _ _))
    have pile := piled_take_succ txt
    have upto := piled_take_le ps (x + 1)
    rw [len] at pile
    refine wpAny_bind (wpAny_dictEntries (stays s2 H2 I2 same2) dat ?_)
    rw [Array.getElem?_eq_getElem lt, he']
    refine wpAny_bind (wpAny_holding (wpAny_bind (showK en.key rek (b + piled (ps.take x) + 1) (by omega) _ _ n' hg' free' pins s2 H2 I2 (hfr.trans same2) _ _ fun s3 H3 I3 same3 =>
      wpAny_bind (showV en.val rev (b + piled (ps.take x) + ((kTxt kvs[x].1).length + 3)) (by omega) _ _ n' hg' free' pins s3 H3 I3 ((hfr.trans same2).trans same3) _ _ fun s4 H4 I4 same4 => wpAny_pure ?_))))
    have same24 := (same2.trans same3).trans same4
    refine wpAny_bind (wpAny_dictEpoch (stays s4 H4 I4 same24) dat ?_)
    rw [if_neg (by simp)]
    have w1 : (ps.take x).toArray.push (kTxt kvs[x].1 ++ ": " ++ v) = (ps.take (x + 1)).toArray := by rw [take_one txt]; simp
    have w2 : b + piled (ps.take x) + ((kTxt kvs[x].1).length + v.length + 4) = b + piled (ps.take (x + 1)) := by omega
    exact wpAny_pure ⟨x + 1, H4, hrest, lt, by rw [w1, w2], I4, same24⟩
  · rintro _ s2 ⟨i, H2, hr0, hi, rfl, I2, same2⟩
    have last : i = ps.length := by rw [range_end hi hr0]; omega
    rw [last, List.take_length]
    have fin := done _ _ s2.toks ((I2.unlock (same2 _ _ upd_same) hn0).tok (s2.toks + 1)) fun c u e => by
      by_cases z : c = a
      · subst z
        rw [hl] at e
        obtain rfl := Option.some.inj e
        exact upd_same
      · rw [upd_ne z]
        exact same2 c u (by rw [upd_ne z]; exact e)
    have tx : (("{" : Str) ++ Str.join ", " ps.toArray.toList ++ "}") = dictText ps := by simp [dictText]
    refine wpAny_bind (wpAny_mkStr (wpAny_pure ?_) ?_)
    · rw [tx]
      exact fin
    · rw [tx]
      omega
theorem Rp.dict {a : Addr} {kvs : List (Key × V)} {ps : List Str} {H0 : Hp} (h0 : H0 a = none) (hl : H a = some (.dK kvs)) (hs : Same H0 H) (hna : a ∉ as) (hT : RpKV X σ H0 as k kvs ps) : Rp X σ H (a :: as) (k + 2) (.ref a) (dictText ps) := by
  intro u ru b hb A g n hg hc pins s H1 I s1 Q E q
  obtain rfl : u = Value.ref a := ru
  obtain ⟨_, _, vs, rv, o, es, _, ha, hx, _⟩ := dk_of I.hok (s1 _ _ hl)
  refine wpAny_pyReprUnder_ref (by omega) (wpAny_pyReprObjUnder_twin (twin := "dict.__repr__.under") ⟨o, ha, hx.1⟩ F.slot_dict_repr rfl n.line ?_)
  exact call_twin_own (F.quiet_dict_repr_under _) F.entry_dict_repr_under F.check_dict_repr_under ⟨o, ha, hx.1⟩ F.slot_dict_repr (F.args_dict_repr_1 _)
    (rp_dict_at (R := callEnd _ E) (lit_dictU A _) h0 (s1 _ _ hl) (n.mono (by omega)) hg hc hna hT hb I (hs.trans s1) fun s' H2 u I2 s2 => ⟨⟨_, _, rfl⟩, _, _, rfl, q s' H2 I2 s2⟩)
end
/-! ### values of any kind and what is shown of them -/
section
def keyFits : Key → Prop
  | .inl i => i.natAbs.log2 < 1920
  | .inr z => (reprText z).length ≤ sizeLine
def kvTxts (kvs : List (Key × V)) (vts : List Str) : List Str := List.zipWith (fun kv v => kTxt kv.1 ++ ": " ++ v) kvs vts
variable (K : PySem.W.Frag) (own : Hp → Addr → Str → Prop) (kO : Nat)
inductive Shw : Hp → List Addr → Nat → V → Str → Prop
  | non {H as k} : Shw H as k .non "None"
  | bl {H as k} (b : Bool) : Shw H as k (.bl b) (if b then "True" else "False")
  | int {H as k} {i : Int} : i.natAbs.log2 < 1920 → Shw H as k (.int i) (toString i)
  | str {H as k} {z : Str} : (reprText z).length ≤ sizeLine → Shw H as k (.str z) (reprText z)
  | own {H as k a t} : own H a t → kO ≤ k → Shw H as k (.ref a) t
  | list0 {H as k a} : SqL K H a [] → Shw H as k (.ref a) "[]"
  | list {H as as' k k' a x l ts} : SqL K H a (x :: l) → a ∉ as → ts.length = l.length + 1 → (∀ (i : Nat) (y : V) (t : Str), (x :: l)[i]? = some y → ts[i]? = some t → Shw H as k y t) → (∀ b ∈ a :: as, b ∈ as') → k + 2 ≤ k' → Shw H as' k' (.ref a) (listText ts)
  | tuple {H as as' k k' a xs ts} : SqT K H a xs → a ∉ as → ts.length = xs.length → (∀ (i : Nat) (y : V) (t : Str), xs[i]? = some y → ts[i]? = some t → Shw H as k y t) → (∀ b ∈ a :: as, b ∈ as') → k + 2 ≤ k' → Shw H as' k' (.ref a) (tupleText ts)
  | dict {H H0 as as' k k' a kvs vts} : H0 a = none → H a = some (.dK kvs) → Same H0 H → a ∉ as → vts.length = kvs.length → (∀ (i : Nat) (kv : Key × V), kvs[i]? = some kv → keyFits kv.1) →
      (∀ (i : Nat) (kv : Key × V) (v : Str), kvs[i]? = some kv → vts[i]? = some v → Shw H0 as k kv.2 v) → (∀ b ∈ a :: as, b ∈ as') → k + 2 ≤ k' → Shw H as' k' (.ref a) (dictText (kvTxts kvs vts))
end
section
variable {X : Cx} {own : Hp → Addr → Str → Prop} {kO j : Nat} {C : Addr} {sp : Sp} {H H' : Hp} {as : List Addr} {k : Nat} {x : V} {t : Str} {K : PySem.W.Frag}
theorem get_two {α β : Type} {xs : List α} {ts : List β} (h : ts.length = xs.length) {i : Nat} {x : α} (e : xs[i]? = some x) : ∃ t, ts[i]? = some t := by
  have hi : i < xs.length := (List.getElem?_eq_some_iff.mp e).1
  exact ⟨ts[i], List.getElem?_eq_getElem (by omega)⟩
theorem kvTxts_get {kvs : List (Key × V)} {vts : List Str} {i : Nat} {kv : Key × V} {v : Str} (h1 : kvs[i]? = some kv) (h2 : vts[i]? = some v) : (kvTxts kvs vts)[i]? = some (kTxt kv.1 ++ ": " ++ v) := by
  unfold kvTxts
  rw [List.getElem?_zipWith, h1, h2]
theorem Shw.same (hs : ∀ {H H' a t}, own H a t → Same H H' → own H' a t) (h : Shw K own kO H as k x t) (s : Same H H') : Shw K own kO H' as k x t := by
  induction h generalizing H' with
  | non => exact .non
  | bl b => exact .bl b
  | int h => exact .int h
  | str h => exact .str h
  | own h hk => exact .own (hs h s) hk
  | list0 h => exact .list0 (s.seq h)
  | list h n l _ m hk ih => exact .list (s.seq h) n l (fun i y t h1 h2 => ih i y t h1 h2 s) m hk
  | tuple h n l _ m hk ih => exact .tuple (same_tup s h) n l (fun i y t h1 h2 => ih i y t h1 h2 s) m hk
  | dict h0 h s0 n l kf hv m hk _ => exact .dict h0 (s _ _ h) (s0.trans s) n l kf hv m hk
theorem Shw.more {as' : List Addr} {k' : Nat} (h : Shw K own kO H as k x t) (m' : ∀ a ∈ as, a ∈ as') (hk' : k ≤ k') : Shw K own kO H as' k' x t := by
  cases h with
  | non => exact .non
  | bl b => exact .bl b
  | int h => exact .int h
  | str h => exact .str h
  | own h hk => exact .own h (Nat.le_trans hk hk')
  | list0 h => exact .list0 h
  | list h n l ih m hk => exact .list h n l ih (fun b hb => m' b (m b hb)) (Nat.le_trans hk hk')
  | tuple h n l ih m hk => exact .tuple h n l ih (fun b hb => m' b (m b hb)) (Nat.le_trans hk hk')
  | dict h0 h s0 n l kf hv m hk => exact .dict h0 h s0 n l kf hv (fun b hb => m' b (m b hb)) (Nat.le_trans hk hk')
theorem Rp.key {σ : L2.St} {κ : Key} (h : keyFits κ) : Rp X σ H as k (kV κ) (kTxt κ) := by
  cases κ with
  | inl i => exact Rp.int h
  | inr z => exact Rp.str h
theorem Shw.rp (o : OwnX X own kO) (h : Shw X.K own kO H as k x t) (σ : L2.St) : Rp X σ H as k x t := by
  induction h with
  | non => exact Rp.non
  | bl b => exact Rp.bl
  | int h => exact Rp.int h
  | str h => exact Rp.str h
  | own h hk => exact (Rp.own o h).mono hk
  | list0 h => exact Rp.list0 h
  | list h n l _ m hk ih => exact ((Rp.list h n ⟨l, fun i y hy => (get_two l hy).elim fun t ht => ⟨t, ht, ih i y t hy ht⟩⟩).more m).mono hk
  | tuple h n l _ m hk ih => exact ((Rp.tuple h n ⟨l, fun i y hy => (get_two l hy).elim fun t ht => ⟨t, ht, ih i y t hy ht⟩⟩).more m).mono hk
  | dict h0 h s0 n l kf _ m hk ih =>
    refine ((Rp.dict h0 h s0 n ⟨?_, fun i kv hkv => ?_⟩).more m).mono hk
    · unfold kvTxts
      rw [List.length_zipWith]
      omega
    · obtain ⟨v, hv⟩ := get_two l hkv
      exact ⟨v, kvTxts_get hkv hv, Rp.key (kf i kv hkv), ih i kv v hkv hv⟩
/-- repr(x), x a value of any kind, where nothing guarded runs around -/
def rShw (K : PySem.W.Frag) (own : Hp → Addr → Str → Prop) (kO j : Nat) : List V → Hp → VK → Prop := fun xs H Q => ∃ x as k t, xs = [x] ∧ Shw K own kO H as k x t ∧ t.length ≤ sizeLine ∧ k + 3 ≤ j ∧ ∀ H2, Same H H2 → Q (.str t) H2
theorem repr_top (o : OwnX X own kO) (bare : Bare X.A) (h : Shw X.K own kO H as k x t) (hz : t.length ≤ sizeLine) {pins : List (Addr × Obj)} {σ : L2.St} {s : Shared} {Q : VK} {u : Value} (hr : L2H.RoomH (k + 3) X.A) (I : Inv X pins σ H s) (ru : RelV x u)
    (hq : ∀ H2, Same H H2 → Q (.str t) H2) : wpAny (model X.prog X.w) X.A (call (.builtin "repr") [u]) (EP X pins σ Q) X.xe s := by
  have fin : ∀ (s' : Shared) (H2 : Hp) (z : Tok), Inv X pins σ H2 s' → Same H H2 → EP X pins σ Q (.str t z) s' := fun s' H2 z I2 s2 => ⟨.str t, H2, I2, ⟨z, rfl⟩, hq H2 s2⟩
  have hu : X.A.units + 1 < cLine := by have := hr.un; omega
  have nr : Near X (k + 2) X.A.in1 := (Near.self hr).in1
  cases h with
  | non =>
    obtain rfl : u = Value.none := ru
    exact PySem.P.repr_of_none (fin _ _ _ (I.tok _) (Same.refl H))
  | bl b =>
    obtain rfl : u = Value.bool b := ru
    exact PySem.P.repr_of_bool (fin _ _ _ (I.tok _) (Same.refl H))
  | int hi =>
    obtain ⟨tk, rfl⟩ := ru
    exact PySem.P.repr_of_int hi (fin _ _ _ (I.tok _) (Same.refl H))
  | str _ =>
    obtain ⟨tk, rfl⟩ := ru
    exact PySem.P.repr_of_str (fin _ _ _ (I.tok _) (Same.refl H)) hz
  | own ho hk =>
    obtain ⟨C, f, dx, fs, e, at_, fn, run⟩ := o.run _ _ _ ho
    cases ru
    obtain ⟨mA, J, _⟩ := ins_get I.hok e
    obtain ⟨od, J, _⟩ := J.look
    obtain ⟨m, hF⟩ := I.fr
    exact PySem.W.repr_K hu hF I.ok.mod.kin J at_ fn (run X.A.in1 pins σ s H (nr.mono (by omega)) I (Same.refl H) _ _ fun s' H2 tk I2 s2 => fin s' H2 tk I2 s2)
  | list0 hl =>
    cases ru
    obtain ⟨its, rv, ⟨oa, na, ha, hc, _, hda⟩, _⟩ := I.list hl
    cases rv
    exact call_repr_slot hu ⟨oa, ha, hc⟩ F.slot_list_repr.toG (call_list_repr_empty ⟨oa, ha, hc⟩ ha hda ⟨_, _, rfl, fin _ H _ (I.tok _) (Same.refl H)⟩)
  | list hl n l ih m hk =>
    cases ru
    have hty := sq_type I hl
    refine call_repr_slot hu hty F.slot_list_repr.toG (wpAny_call (codeAny_call_builtin F.slot_list_repr.plain F.entry_list_repr (F.slot_list_repr.check _ _ _ _ _ _ _ _ hty (F.args_list_repr_1 _) ?_)))
    exact rp_list_at (σ := σ) (H := H) (b := 0) (R := callEnd _ _) hl (nr.mono (by omega)) bare (fun c _ => Clear.nil c) n ⟨l, fun i y hy => (get_two l hy).elim fun t ht => ⟨t, ht, (ih i y t hy ht).rp o σ⟩⟩ (by omega) I (Same.refl H)
      fun s' H2 z I2 s2 => ⟨_, _, rfl, fin s' H2 z I2 s2⟩
  | tuple hl n l ih m hk =>
    cases ru
    obtain ⟨its, rv, ⟨o', ha, hct, n', hd⟩, _⟩ := I.tuple hl
    refine call_repr_slot hu ⟨o', ha, hct⟩ F.slot_tuple_repr (wpAny_call (codeAny_call_builtin_own (Code.quiet_builtin _ (by decide +kernel)) F.entry_tuple_repr (F.slot_tuple_repr.check _ _ _ _ _ _ _ _ ⟨o', ha, hct⟩ (F.args_tuple_repr_1 _) ?_)))
    exact rp_tuple_at (σ := σ) (H := H) (b := 0) (R := callEnd _ _) (lit_tuple _ _) hl (nr.mono (by omega)) bare (fun c _ => Clear.nil c) n ⟨l, fun i y hy => (get_two l hy).elim fun t ht => ⟨t, ht, (ih i y t hy ht).rp o σ⟩⟩ (by omega) I (Same.refl H)
      fun s' H2 z I2 s2 => ⟨_, _, rfl, fin s' H2 z I2 s2⟩
  | dict h0 hl s0 n l kf ih m hk =>
    rename_i as1 k1 a1 kvs vts
    cases ru
    obtain ⟨_, _, vs, rv, o', es, n', ha, hx, _⟩ := dk_of I.hok hl
    refine call_repr_slot hu ⟨o', ha, hx.1⟩ F.slot_dict_repr (wpAny_call (codeAny_call_builtin_own (Code.quiet_builtin _ (by decide +kernel)) F.entry_dict_repr (F.slot_dict_repr.check _ _ _ _ _ _ _ _ ⟨o', ha, hx.1⟩ (F.args_dict_repr_1 _) ?_)))
    refine rp_dict_at (σ := σ) (b := 0) (R := callEnd _ _) (lit_dict _ _) h0 hl (nr.mono (j := k1 + 1) (by omega)) bare (fun c _ => Clear.nil c) n ⟨?_, fun i kv hkv => ?_⟩ (by omega) I s0
      fun s' H2 z I2 s2 => ⟨_, _, rfl, fin s' H2 z I2 s2⟩
    · unfold kvTxts
      rw [List.length_zipWith]
      omega
    · obtain ⟨v, hv⟩ := get_two l hkv
      exact ⟨v, kvTxts_get hkv hv, Rp.key (kf i kv hkv), (ih i kv v hkv hv).rp o σ⟩
/-- the def that shows own instances, where nothing is handled -/
structure OwnF (P : Program) (w : World) (K : PySem.W.Frag) (mg : Str → Option Value) (base : Heap) (own : Hp → Addr → Str → Prop) (kO : Nat) : Prop where
  ex : ∃ (C : Addr) (sp : Sp), DunF P w K mg base kO C "__repr__" sp ∧ ∀ H a t, own H a t → (∃ dx fs, H a = some (.ins C dx fs)) ∧ ∀ H1, Same H H1 → sp [.ref a] H1 (fun v H2 => v = .str t ∧ Same H1 H2) E0
theorem OwnF.at (o : OwnF X.prog X.w X.K X.mg X.base own kO) (cold : X.A.handled = none) : OwnX X own kO := by
  obtain ⟨C, sp, ⟨f, fd, ps, at_, fn, F, hb⟩, ho⟩ := o.ex
  refine ⟨fun H a t h => ?_⟩
  obtain ⟨⟨dx, fs, e⟩, q⟩ := ho H a t h
  refine ⟨C, f, dx, fs, e, at_, fn, fun A pins σ s H1 n I s1 Q E fin => ?_⟩
  have h1 := q H1 s1
  have hl := F.len _ _ _ _ h1
  have bind := hb s [.ref a] I.kIn (by simpa using hl)
  rw [List.append_nil] at bind
  have env : Env0 X.prog X.w X.K X.mg X.base A X.stack s H1 := { I.env0 with frames := n.fr.trans I.env0.frames }
  refine wpAny_call (codeAny_mono (F.run A X.stack s H1 ⟨[.ref a], []⟩ [.ref a] [.ref a] _ E0 ⟨n.hn.trans cold, n.room.dp, n.room.un⟩ env bind (.cons rfl .nil) h1) fun r s' hq => ?_)
  match r, hq with
  | .error e, hq => exact False.elim hq
  | .ok (.ret z), hq =>
    obtain ⟨v, H', I', rv, rfl, s2⟩ := I.after hq
    obtain ⟨tk, rfl⟩ := rv
    exact fin s' H' tk I' s2
  | .ok .next, hq => exact False.elim hq
  | .ok .brk, hq => exact False.elim hq
  | .ok .cont, hq => exact False.elim hq
/-- the same within an except suite -/
structure OwnH (P : Program) (w : World) (K : PySem.W.Frag) (mg : Str → Option Value) (base : Heap) (own : Hp → Addr → Str → Prop) (kO : Nat) : Prop where
  ex : ∃ (C f : Addr) (fd : FuncData) (ps : List Str) (sp : Sp), PySem.W.findIn K (.ref C) "__repr__" = some (some (.ref f)) ∧ PySem.W.isFn K (.ref f) = true ∧ L2H.FnH P w K mg base CX0 kO f fd ps sp ∧ Binds K fd ps [] ∧
    ∀ H a t, own H a t → (∃ dx fs, H a = some (.ins C dx fs)) ∧ ∀ H1, Same H H1 → sp [.ref a] H1 (fun v H2 => v = .str t ∧ Same H1 H2) E0
theorem OwnH.at (o : OwnH X.prog X.w X.K X.mg X.base own kO) (hot : L2H.HotC X) : OwnX X own kO := by
  obtain ⟨C, f, fd, ps, sp, at_, fn, F, hb, ho⟩ := o.ex
  obtain ⟨p, hp1, hp2⟩ := hot
  refine ⟨fun H a t h => ?_⟩
  obtain ⟨⟨dx, fs, e⟩, q⟩ := ho H a t h
  refine ⟨C, f, dx, fs, e, at_, fn, fun A pins σ s H1 n I s1 Q E fin => ?_⟩
  have h1 := q H1 s1
  have hl := F.len _ _ _ _ h1
  have bind := hb s [.ref a] I.kIn (by simpa using hl)
  rw [List.append_nil] at bind
  have env : Env0 X.prog X.w X.K X.mg X.base A X.stack s H1 := { I.env0 with frames := n.fr.trans I.env0.frames }
  obtain ⟨p1, p2, p3, p4, p5⟩ := I.pin p (List.mem_append_left _ hp2)
  have pin : L2H.PinOk X.stack H1 s p := ⟨p1, p2, fun m => (List.mem_cons.mp (I.stkSub p.1 m)).elim p3 p4, p5⟩
  refine wpAny_call (codeAny_mono (F.run A X.stack s H1 ⟨[.ref a], []⟩ [.ref a] [.ref a] _ E0 p n.room ⟨n.hn.trans hp1.1, hp1.2⟩ pin env bind (.cons rfl .nil) h1) fun r s' hq => ?_)
  match r, hq with
  | .error e, hq => exact False.elim hq
  | .ok (.ret z), hq =>
    obtain ⟨v, H', I', rv, rfl, s2⟩ := I.after hq
    obtain ⟨tk, rfl⟩ := rv
    exact fin s' H' tk I' s2
  | .ok .next, hq => exact False.elim hq
  | .ok .brk, hq => exact False.elim hq
  | .ok .cont, hq => exact False.elim hq
theorem call_reprX (o : OwnX X own kO) (bare : Bare X.A) (hr : L2H.RoomH j X.A) (hK : X.K = K := by rfl) : CallR X (.builtin "repr") (rShw K own kO j) := by
  subst hK
  intro pins s σ H xs us Q I r h
  obtain ⟨x, as, k, t, rfl, hs, hz, hk, q⟩ := h
  obtain ⟨u, rfl, ru⟩ := vals1 r
  exact repr_top o bare hs hz (hr.mono hk) I ru q
theorem call_reprS (o : OwnF X.prog X.w X.K X.mg X.base own kO) (bare : Bare X.A) (hr : Room j X.A) (hK : X.K = K := by rfl) : CallR X (.builtin "repr") (rShw K own kO j) := call_reprX (o.at hr.hd) bare (L2H.roomH_of hr) hK
end
/-- a class made with values by name; sp: its __init__ -/
structure MakK (P : Program) (w : World) (K : PySem.W.Frag) (mg : Str → Option Value) (base : Heap) (k : Nat) (x : Str) (C : Addr) (sp : Sp) (ks : List Str) (gV : List V → List V → List V) : Prop where
  ex : ∃ (f : Addr) (fd : FuncData) (ps : List Str) (g : List Value → List Value → List Value), Mk K C f ∧ FnOk P w K mg base CX0 k f fd ps sp ∧ mg x = some (.ref C) ∧ KBn K fd ps 1 ks g gV
theorem pe_mkk {X : Cx} {k j : Nat} {x : Str} {C : Addr} {sp : Sp} {ks : List Str} {gV : List V → List V → List V} {p pos : Pos} {kws : List Keyword} {tk : TA}
    (c : MakK X.prog X.w X.K X.mg X.base k x C sp ks gV) (hr : Room j X.A) (hk : k + 1 ≤ j) (hg : Gl X x) (hkw : PK X kws tk)
    (hall : (backToKw pos (keywordEach kws X.env)).all (·.1.isSome) = true := by rfl) (hks : (backToKw pos (keywordEach kws X.env)).filterMap (·.1) = ks := by rfl) (hdb : (x == ("__debug__" : Str)) = false := by decide)
    (hpl : ((backTo pos (starEach [] X.env)).any (·.1) || (backToKw pos (keywordEach kws X.env)).any (·.1.isNone)) = false := by rfl) :
    PE X (.Call (.Name x p) [] kws pos) (tMakeK C 0 ks.length sp gV E0 tNil tk) := by
  obtain ⟨f, fd, ps, g, M, F, hm, b⟩ := c.ex
  exact pe_makeK0 M F (hr.mono hk) hg hm b pass0 hkw hall hks hdb hpl
end MG

/-! Plain facts about numbers, and short words for readings -/
namespace MG
open PySem PySem.Spec PyProof.Rows L2

/-- within 10 ^ 400 -/
def Sm (i : Int) : Prop := -(10 ^ 400) < i ∧ i < 10 ^ 400
theorem big400 : (10 : Nat) ^ 400 < 2 ^ 1400 := by decide +kernel
theorem Sm.abs {i : Int} (h : Sm i) : i.natAbs < 2 ^ 1400 := by
  have h1 := h.1
  have h2 := h.2
  have h3 := big400
  have e : ((10 : Int) ^ 400) = ((10 ^ 400 : Nat) : Int) := by rw [Int.natCast_pow]; rfl
  rw [e] at h1 h2
  generalize (10 : Nat) ^ 400 = a at *
  generalize (2 : Nat) ^ 1400 = b at *
  omega
theorem sm_mul {i j : Int} (hi : Sm i) (hj : Sm j) : CMulW i j := wide_mul hi.abs hj.abs (by decide) (by decide) (by decide)
theorem sm_div {j : Int} (h : Sm j) (h0 : j ≠ 0) : j ≠ 0 ∧ j.natAbs.log2 < 9000 :=
  ⟨h0, Nat.lt_of_lt_of_le (PySem.Flt.log2_lt_of (by decide) h.abs) (by decide)⟩
theorem sm_lt {i : Int} {k : Nat} (hk : k ≤ 400) (h1 : -(10 ^ k) < i) (h2 : i < 10 ^ k) : Sm i := by
  have e : (10 : Int) ^ k ≤ 10 ^ 400 := by
    have q : (10 : Nat) ^ k ≤ 10 ^ 400 := Nat.pow_le_pow_right (by decide) hk
    have z := Int.ofNat_le.mpr q
    rw [Int.natCast_pow, Int.natCast_pow] at z
    exact z
  constructor <;> generalize (10 : Int) ^ 400 = b at * <;> omega
theorem fmod_ge {x m : Int} (h : 0 < m) : 0 ≤ x.fmod m := Int.fmod_nonneg_of_pos x h
theorem fmod_lt {x m : Int} (h : 0 < m) : x.fmod m < m := Int.fmod_lt_of_pos x h
theorem fdiv_ge {x m : Int} (hx : 0 ≤ x) (h : 0 < m) : 0 ≤ x.fdiv m := by
  rw [Int.fdiv_eq_ediv_of_nonneg x (by omega)]
  exact Int.ediv_nonneg hx (by omega)
theorem fdiv_le {x m : Int} (hx : 0 ≤ x) (h : 0 < m) : x.fdiv m ≤ x := by
  rw [Int.fdiv_eq_ediv_of_nonneg x (by omega)]
  exact Int.ediv_le_self m hx
/-- an item of a written list of ints at a reckoned index -/
theorem at_ints {l : List Int} {i : Int} (h0 : 0 ≤ i) (h : i < l.length) : ∃ z ∈ l, atI (l.map V.int) i = some (V.int z) := by
  obtain ⟨j, rfl⟩ := Int.eq_ofNat_of_zero_le h0
  have hj : j < l.length := by omega
  exact ⟨l[j], List.getElem_mem hj, atI_nat (by rw [List.getElem?_map, List.getElem?_eq_getElem hj]; rfl)⟩
end MG

/-! Fractions: what crossing out gives is the numerator and the denominator -/
namespace MG
open PySem PySem.Spec PyProof.Rows L2

/-- the divisor, of the sign of the lower one -/
def gd (a u : Int) : Int := if 0 < u then (Int.gcd a u : Int) else -(Int.gcd a u : Int)
theorem gd_ne {a u : Int} (h : u ≠ 0) : gd a u ≠ 0 := by
  have := Int.gcd_pos_of_ne_zero_right a h
  unfold gd
  split <;> omega
theorem gd_sm {a u : Int} (h : u ≠ 0) (hu : Sm u) : Sm (gd a u) := by
  have h1 : (Int.gcd a u : Nat) ≤ u.natAbs := Nat.le_of_dvd (by omega) (Int.gcd_dvd_natAbs_right a u)
  obtain ⟨h2, h3⟩ := hu
  unfold gd Sm
  generalize (10 : Int) ^ 400 = t at *
  split <;> omega
theorem lo_num {a u : Int} (h : u ≠ 0) : a.fdiv (gd a u) = (Rat.divInt a u).num := by
  have hg : (Int.gcd a u : Int) ≠ 0 := by have := Int.gcd_pos_of_ne_zero_right a h; omega
  obtain ⟨x, hx⟩ := Int.gcd_dvd_left a u
  have e1 : (a.gcd u : Int) * x / (a.gcd u : Int) = x := Int.mul_ediv_cancel_left x hg
  rw [Rat.num_divInt, Int.gcd_comm u a]
  unfold gd
  generalize (a.gcd u : Int) = g at *
  rcases Int.lt_trichotomy u 0 with hu | hu | hu
  · rw [if_neg (by omega), Int.sign_eq_neg_one_of_neg hu, hx]
    have e : g * x = -g * -x := (Int.neg_mul_neg g x).symm
    rw [e, Int.mul_fdiv_cancel_left (-x) (by omega), ← e, Int.neg_one_mul, ← Int.mul_neg, Int.mul_ediv_cancel_left _ hg]
  · exact absurd hu h
  · rw [if_pos hu, Int.sign_eq_one_of_pos hu, Int.one_mul, hx, Int.mul_fdiv_cancel_left x hg, e1]
theorem lo_den {a u : Int} (h : u ≠ 0) : u.fdiv (gd a u) = ((Rat.divInt a u).den : Int) := by
  have hg : (Int.gcd a u : Int) ≠ 0 := by have := Int.gcd_pos_of_ne_zero_right a h; omega
  obtain ⟨x, hx⟩ := Int.gcd_dvd_right a u
  rw [Rat.den_divInt, if_neg h, Int.gcd_comm u a, Int.natCast_ediv]
  have e0 : (u.natAbs : Int) = if 0 < u then u else -u := by split <;> omega
  rw [e0]
  unfold gd
  generalize (a.gcd u : Int) = g at *
  rcases Int.lt_trichotomy u 0 with hu | hu | hu
  · rw [if_neg (by omega), if_neg (by omega)]
    have e : u = -g * -x := by rw [Int.neg_mul_neg]; exact hx
    have e2 : -u = g * -x := by rw [Int.mul_neg, ← hx]
    rw [e2, Int.mul_ediv_cancel_left _ hg]
    conv => lhs; rw [e]
    exact Int.mul_fdiv_cancel_left (-x) (by omega)
  · exact absurd hu h
  · rw [if_pos hu, if_pos hu]
    conv => lhs; rw [hx]
    conv => rhs; rw [hx]
    rw [Int.mul_fdiv_cancel_left x hg, Int.mul_ediv_cancel_left _ hg]

/-- numerator and denominator below 10 ^ k -/
def Bd (p : Rat) (k : Nat) : Prop := p.num.natAbs < 10 ^ k ∧ p.den < 10 ^ k
theorem Bd.mono {p : Rat} {i j : Nat} (h : Bd p i) (hij : i ≤ j) : Bd p j := by
  have := Nat.pow_le_pow_right (show 0 < 10 by decide) hij
  exact ⟨Nat.lt_of_lt_of_le h.1 this, Nat.lt_of_lt_of_le h.2 this⟩
theorem nab {x : Nat} {i : Int} (h : i.natAbs < x) : -(x : Int) < i ∧ i < x := by omega
theorem Bd.num {p : Rat} {k : Nat} (h : Bd p k) (hk : k ≤ 400) : Sm p.num := by
  have := nab h.1
  rw [Int.natCast_pow] at this
  exact sm_lt hk this.1 this.2
theorem Bd.den {p : Rat} {k : Nat} (h : Bd p k) (hk : k ≤ 400) : Sm (p.den : Int) := by
  have := nab (i := (p.den : Int)) (x := 10 ^ k) (by have := h.2; omega)
  rw [Int.natCast_pow] at this
  exact sm_lt hk this.1 this.2
theorem divInt_num_le (a u : Int) : (Rat.divInt a u).num.natAbs ≤ a.natAbs := by
  rw [Rat.num_divInt]
  have h : (u.sign * a).natAbs ≤ a.natAbs := by
    rw [Int.natAbs_mul]
    have : u.sign.natAbs ≤ 1 := by
      rcases Int.lt_trichotomy u 0 with hu | hu | hu
      · rw [Int.sign_eq_neg_one_of_neg hu]; decide
      · rw [hu]; decide
      · rw [Int.sign_eq_one_of_pos hu]; decide
    calc u.sign.natAbs * a.natAbs ≤ 1 * a.natAbs := Nat.mul_le_mul_right _ this
      _ = a.natAbs := Nat.one_mul _
  refine Nat.le_trans ?_ h
  obtain ⟨x, hx⟩ : ((u.gcd a : Nat) : Int) ∣ u.sign * a := Int.dvd_mul_of_dvd_right (Int.gcd_dvd_right u a)
  by_cases hg : ((u.gcd a : Nat) : Int) = 0
  · rw [hg, Int.ediv_zero]
    exact Nat.zero_le _
  · rw [hx, Int.mul_ediv_cancel_left _ hg, Int.natAbs_mul]
    exact Nat.le_mul_of_pos_left _ (by omega)
theorem divInt_den_le {a u : Int} (h : u ≠ 0) : (Rat.divInt a u).den ≤ u.natAbs := by
  rw [Rat.den_divInt, if_neg h]
  exact Nat.div_le_self _ _
theorem bd_div {a u : Int} {k : Nat} (h : u ≠ 0) (ha : a.natAbs < 10 ^ k) (hu : u.natAbs < 10 ^ k) : Bd (Rat.divInt a u) k :=
  ⟨Nat.lt_of_le_of_lt (divInt_num_le a u) ha, Nat.lt_of_le_of_lt (divInt_den_le h) hu⟩
theorem add_eq (p q : Rat) : p + q = Rat.divInt (p.num * q.den + q.num * p.den) (p.den * q.den) := by
  have h1 : (p.den : Int) ≠ 0 := by have := p.den_nz; omega
  have h2 : (q.den : Int) ≠ 0 := by have := q.den_nz; omega
  rw [← Rat.divInt_add_divInt _ _ h1 h2, Rat.num_divInt_den, Rat.num_divInt_den]
theorem sub_eq (p q : Rat) : p - q = Rat.divInt (p.num * q.den - q.num * p.den) (p.den * q.den) := by
  have h1 : (p.den : Int) ≠ 0 := by have := p.den_nz; omega
  have h2 : (q.den : Int) ≠ 0 := by have := q.den_nz; omega
  rw [← Rat.divInt_sub_divInt _ _ h1 h2, Rat.num_divInt_den, Rat.num_divInt_den]
theorem mul_eq (p q : Rat) : p * q = Rat.divInt (p.num * q.num) (p.den * q.den) := by
  rw [← Rat.divInt_mul_divInt, Rat.num_divInt_den, Rat.num_divInt_den]
theorem neg_eq (p : Rat) : -p = Rat.divInt (-p.num) p.den := by
  rw [← Rat.neg_divInt, Rat.num_divInt_den]
theorem over_eq (p q : Rat) : p / q = Rat.divInt (p.num * q.den) (p.den * q.num) := by
  rw [Rat.div_def]
  conv => lhs; rw [← Rat.num_divInt_den p, ← Rat.num_divInt_den q]
  rw [Rat.inv_divInt, Rat.divInt_mul_divInt]
theorem den_ne (p q : Rat) : (p.den : Int) * q.den ≠ 0 := by
  have h1 := p.den_nz
  have h2 := q.den_nz
  exact Int.mul_ne_zero (by omega) (by omega)
theorem lt_mul {a b : Nat} {i j : Nat} (ha : a < 10 ^ i) (hb : b < 10 ^ j) : a * b < 10 ^ (i + j) := by
  rw [Nat.pow_add]
  exact Nat.mul_lt_mul'' ha hb
theorem bd_mul {p q : Rat} {i j : Nat} (hp : Bd p i) (hq : Bd q j) : Bd (p * q) (i + j) := by
  rw [mul_eq]
  refine bd_div (den_ne p q) ?_ ?_
  · rw [Int.natAbs_mul]; exact lt_mul hp.1 hq.1
  · rw [Int.natAbs_mul]; exact lt_mul hp.2 hq.2
theorem ten (k : Nat) : 10 ^ (k + 1) = 10 * 10 ^ k := by rw [Nat.pow_succ, Nat.mul_comm]
theorem bd_add {p q : Rat} {i j : Nat} (hp : Bd p i) (hq : Bd q j) : Bd (p + q) (i + j + 1) := by
  rw [add_eq]
  have h1 := lt_mul hp.1 hq.2
  have h2 := lt_mul hp.2 hq.1
  have h3 := lt_mul hp.2 hq.2
  have t := ten (i + j)
  refine bd_div (den_ne p q) ?_ ?_
  · have e1 : (p.num * q.den).natAbs = p.num.natAbs * q.den := by rw [Int.natAbs_mul]; rfl
    have e2 : (q.num * p.den).natAbs = p.den * q.num.natAbs := by rw [Int.natAbs_mul, Nat.mul_comm]; rfl
    have := Int.natAbs_add_le (p.num * q.den) (q.num * p.den)
    omega
  · have e : ((p.den : Int) * q.den).natAbs = p.den * q.den := by rw [Int.natAbs_mul]; rfl
    omega
theorem bd_neg {p : Rat} {i : Nat} (hp : Bd p i) : Bd (-p) i := by
  have e1 : (-p).num = -p.num := rfl
  have e2 : (-p).den = p.den := rfl
  unfold Bd
  rw [e1, e2, Int.natAbs_neg]
  exact hp
theorem bd_sub {p q : Rat} {i j : Nat} (hp : Bd p i) (hq : Bd q j) : Bd (p - q) (i + j + 1) := by
  rw [Rat.sub_eq_add_neg]
  exact bd_add hp (bd_neg hq)
theorem sm_of {i : Int} (h : i.natAbs < 10 ^ 390) : Sm i := by
  have := nab h
  rw [Int.natCast_pow] at this
  exact sm_lt (by decide) this.1 this.2
theorem sm_den2 {p q : Rat} {i j : Nat} (hp : Bd p i) (hq : Bd q j) (h : i + j ≤ 390) : Sm ((p.den : Int) * q.den) := by
  refine sm_of ?_
  have e : ((p.den : Int) * q.den).natAbs = p.den * q.den := by rw [Int.natAbs_mul]; rfl
  rw [e]
  exact Nat.lt_of_lt_of_le (lt_mul hp.2 hq.2) (Nat.pow_le_pow_right (by decide) h)
theorem sm_dn {p q : Rat} {i j : Nat} (hp : Bd p i) (hq : Bd q j) (h : i + j ≤ 390) : Sm ((p.den : Int) * q.num) := by
  refine sm_of ?_
  have e : ((p.den : Int) * q.num).natAbs = p.den * q.num.natAbs := by rw [Int.natAbs_mul]; rfl
  rw [e]
  exact Nat.lt_of_lt_of_le (lt_mul hp.2 hq.1) (Nat.pow_le_pow_right (by decide) h)
theorem rat_dec (p q : Rat) : decide (p = q) = (decide (p.num = q.num) && decide ((p.den : Int) = q.den)) := by
  rw [← Bool.decide_and]
  refine decide_eq_decide.mpr ⟨fun e => by rw [e]; exact ⟨rfl, rfl⟩, fun ⟨h1, h2⟩ => Rat.ext h1 (by omega)⟩
end MG

/-! Texts of pairs, lists of texts compared -/
namespace MG
open PySem PySem.Spec PyProof.Rows L2

theorem all_append {x y : Str} (f : Nat → Bool) : (x ++ y).cps.all f = (x.cps.all f && y.cps.all f) := by
  show (x.cps ++ y.cps).all f = _
  exact Array.all_append
theorem ok_append {x y : Str} (hx : PyData.strOk x = true) (hy : PyData.strOk y = true) : PyData.strOk (x ++ y) = true := by
  unfold PyData.strOk at *
  rw [all_append, hx, hy]
  rfl
theorem ok_of (s : String) : PyData.strOk (Str.ofString s) = true := by
  unfold PyData.strOk
  rw [← Array.all_toList, signs_ofString, List.all_map, List.all_eq_true]
  intro c _
  have h := c.valid
  refine decide_eq_true ?_
  rcases h with h | ⟨_, h⟩
  · exact Nat.lt_trans h (by decide)
  · exact h
/-- repr((a, b)) -/
def shw (a b : Int) : Str := (PyData.tuple [.int a, .int b]).shown
theorem shw_eq (a b : Int) : shw a b = tupleText [toString a, toString b] := rfl
theorem ok_shw (a b : Int) : PyData.strOk (shw a b) = true := by
  show PyData.strOk (("(" : Str) ++ (Str.ofString (toString a) ++ (", " : Str) ++ Str.ofString (toString b)) ++ (")" : Str)) = true
  exact ok_append (ok_append (ok_of _) (ok_append (ok_append (ok_of _) (ok_of _)) (ok_of _))) (ok_of _)
theorem log_sm {i : Int} (h : Sm i) : i.natAbs.log2 < 1920 := Nat.lt_of_lt_of_le (PySem.Flt.log2_lt_of (by decide) h.abs) (by decide)
theorem txt_len {i : Int} (h : Sm i) : (Str.ofString (toString i)).length ≤ 1921 := by
  rw [PySem.ofString_length]
  exact int_text_length_le (k := 1920) (by decide) (log_sm h)
theorem shw_len {a b : Int} (ha : Sm a) (hb : Sm b) : (shw a b).length ≤ 4000 := by
  have h := tupleText_len_le [Str.ofString (toString a), Str.ofString (toString b)]
  have h1 := txt_len ha
  have h2 := txt_len hb
  simp only [List.map_cons, List.map_nil, List.sum_cons, List.sum_nil, List.length_cons, List.length_nil] at h
  have e : shw a b = tupleText [Str.ofString (toString a), Str.ofString (toString b)] := rfl
  rw [e]
  omega
theorem pair_ok {K : PySem.W.Frag} {H : Hp} {t : Addr} {a b : Int} (h : SqT K H t [.int a, .int b]) (ha : Sm a) (hb : Sm b) : Dp K H (.ref t) (.tuple [.int a, .int b]) ∧ (PyData.tuple [.int a, .int b]).showable = true ∧
    (PyData.tuple [.int a, .int b]).hasDict = false ∧ (PyData.tuple [.int a, .int b]).depth ≤ 60 ∧ (PyData.tuple [.int a, .int b]).shown.length ≤ sizeLine := by
  refine ⟨.tup h (.cons (.int a) (.cons (.int b) .nil)), ?_, rfl, ?_, ?_⟩
  · simp [PyData.showable, PyData.showableAll, log_sm ha, log_sm hb]
  · simp [PyData.depth, PyData.depthAll]
  · exact Nat.le_trans (shw_len ha hb) (by decide)
/-- the same, the data unnamed -/
theorem pair_ex {K : PySem.W.Frag} {H : Hp} {t : Addr} {a b : Int} (h : SqT K H t [.int a, .int b]) (ha : Sm a) (hb : Sm b) : ∃ d, Dp K H (.ref t) d ∧ d.showable = true ∧ d.hasDict = false ∧ d.depth ≤ 60 ∧ d.shown.length ≤ sizeLine ∧ d.shown = shw a b := by
  obtain ⟨r1, r2, r3, r4, r5⟩ := pair_ok h ha hb
  exact ⟨_, r1, r2, r3, r4, r5, rfl⟩
/-- what repr of a pair of ints asks -/
theorem repr_pair {K : PySem.W.Frag} {H : Hp} {t : Addr} {a b : Int} {Q : VK} (h : SqT K H t [.int a, .int b]) (ha : Sm a) (hb : Sm b) (k : Q (.str (shw a b)) H) : rRepr K [.ref t] H Q := by
  refine ⟨.ref t, .tuple [.int a, .int b], rfl, .tup h (.cons (.int a) (.cons (.int b) .nil)), ?_, rfl, ?_, ?_, k⟩
  · simp [PyData.showable, PyData.showableAll, log_sm ha, log_sm hb]
  · simp [PyData.depth, PyData.depthAll]
  · exact Nat.le_trans (shw_len ha hb) (by decide)
theorem dp_strs {K : PySem.W.Frag} {H : Hp} {a : Addr} {ss : List Str} (h : SqL K H a (ss.map V.str)) : Dp K H (.ref a) (.list (ss.map .str)) := by
  refine .lst h ?_
  induction ss with
  | nil => exact .nil
  | cons s ss ih => exact .cons (.str s) (all_dp ss)
where all_dp : ∀ ss : List Str, DpAll K H (ss.map V.str) (ss.map PyData.str)
  | [] => .nil
  | s :: ss => .cons (.str s) (all_dp ss)
theorem sh_strs {ss : List Str} (h : ∀ s ∈ ss, PyData.strOk s = true) : SeqAt.shaped (.list (ss.map .str)) = true := by
  unfold SeqAt.shaped
  rw [Bool.and_eq_true]
  refine ⟨?_, ?_⟩
  · show PyData.canLayAll0 (ss.map .str) = true
    rw [canLayAll_strs', List.all_eq_true]
    exact h
  · refine decide_eq_true ?_
    show PyData.depthAll (ss.map .str) + 1 ≤ 64
    rw [depthAll_strs']
    decide
/-- two lists of the same texts -/
theorem ne_strs {K : PySem.W.Frag} {H : Hp} {a b : Addr} {ss : List Str} {Q : VK} (ha : SqL K H a (ss.map V.str)) (hb : SqL K H b (ss.map V.str)) (h : ∀ s ∈ ss, PyData.strOk s = true) (k : Q (.bl false) H) : rNeD K (.ref a) (.ref b) H Q := by
  have sh := sh_strs h
  refine ⟨_, _, dp_strs ha, dp_strs hb, sh, sh, ?_⟩
  have e := SeqAt.eqv_refl (.list (ss.map .str)) (SeqAt.canLay_of_shaped sh)
  rw [e]
  exact k
theorem eq_strs {K : PySem.W.Frag} {H : Hp} {a b : Addr} {ss : List Str} {Q : VK} (ha : SqL K H a (ss.map V.str)) (hb : SqL K H b (ss.map V.str)) (h : ∀ s ∈ ss, PyData.strOk s = true) (k : Q (.bl true) H) : rEqD K (.ref a) (.ref b) H Q := by
  have sh := sh_strs h
  refine ⟨_, _, dp_strs ha, dp_strs hb, sh, sh, ?_⟩
  have e := SeqAt.eqv_refl (.list (ss.map .str)) (SeqAt.canLay_of_shaped sh)
  rw [e]
  exact k
end MG

namespace Lw
open PySem PySem.Spec PyProof.Rows L2 MG
def top (i : Nat) : Stmt := PySem.Challenge.pw_matrixforms_k07_matrix_operators.main.body.getD i (.Pass ⟨0, 0, 0, 0⟩)
abbrev s__law_purse : Stmt := top 26
abbrev s__law_draw : Stmt := top 27
abbrev s__law_great : Stmt := top 29
abbrev s__law_common : Stmt := top 30
abbrev s__law_lowest : Stmt := top 31
abbrev s__law_from : Stmt := top 42
structure Blt (mg : Str → Option Value) : Prop where
  b_int : mg "int" = none
  b_len : mg "len" = none
  b_abs : mg "abs" = none
  b_range : mg "range" = none
  b_max : mg "max" = none
  b_min : mg "min" = none
  b_all : mg "all" = none
  b_repr : mg "repr" = none
  b_isinstance : mg "isinstance" = none
  b_bool : mg "bool" = none
  b_str : mg "str" = none
  b_any : mg "any" = none
  b_tuple : mg "tuple" = none
  b_list : mg "list" = none
  b_sum : mg "sum" = none
  b_zip : mg "zip" = none
  b_enumerate : mg "enumerate" = none

/-- the cells, the next one, what is left of the last one, the turns -/
structure QAt (H : Hp) (q : Addr) (n : Nat) : Prop where
  ex : ∃ (c : Addr) (ns : List Int) (i r t : Int), H q = some (.lst [.ref c, .int i, .int r, .int t]) ∧ H c = some (.lst (ns.map V.int)) ∧
    (∀ z ∈ ns, 0 ≤ z ∧ z < 10 ^ 120) ∧ ns.length ≤ 100000 ∧ (0 ≤ i ∧ i ≤ n) ∧ (0 ≤ r ∧ r < 10 ^ 120) ∧ (0 ≤ t ∧ t ≤ n)
def spDraw : Sp := fun vs H Q _ => ∃ (q : Addr) (m : Int) (n : Nat), vs = [.ref q, .int m] ∧ QAt H q n ∧ n ≤ 100000 ∧ 0 < m ∧ m < 10 ^ 30 ∧
  ∀ (r : Int) (H' : Hp), 0 ≤ r → r < m → Keep q H H' → QAt H' q (n + 1) → Q (.int r) H'
theorem cells_ne {H : Hp} {q c : Addr} {ns : List Int} {i r t : Int} (hq : H q = some (.lst [.ref c, .int i, .int r, .int t])) (hc : H c = some (.lst (ns.map V.int))) : c ≠ q :=
  ne_of hc hq (by
    intro e
    have e2 := HO.lst.inj e
    cases ns with
    | nil => cases e2
    | cons a b => cases e2)
def primes : List Int := [1000003, 1299709, 2750159, 3497861, 4256233, 5800079, 6700417, 7368787, 8460041, 9576901, 15485863]
theorem primes_ok {z : Int} (h : z ∈ primes) : 0 < z ∧ z ≤ 15485863 := by
  simp only [primes, List.mem_cons, List.not_mem_nil, or_false] at h
  omega
theorem prime_at {i : Int} (h0 : 0 ≤ i) (h : i < 11) : ∃ z, atI ([.int 1000003, .int 1299709, .int 2750159, .int 3497861, .int 4256233, .int 5800079, .int 6700417, .int 7368787, .int 8460041, .int 9576901, .int 15485863] : List V) i = some (.int z) ∧ 0 < z ∧ z ≤ 15485863 := by
  obtain ⟨z, hz, e⟩ := at_ints (l := primes) h0 (by show i < 11; exact h)
  exact ⟨z, e, primes_ok hz⟩
section
variable {P : Program} {w : World} {K : PySem.W.Frag} {mg : Str → Option Value} {base : Heap}
theorem sc__law_draw : FnScope ["_law_q", "_law_many", "_law_digit", "_law_cells_here", "_law_cell", "_law_turn_here", "_law_primes", "_law_blend"] ["_law_q", "_law_many"] (defScope s__law_draw) := ⟨rfl, rfl, rfl, by decide +kernel, rfl, by decide +kernel, by decide +kernel⟩
theorem ok_draw {f : Addr} {fd : FuncData} (F : Fun K "_law_draw" "_law_draw" s__law_draw f fd) (T : Blt mg) : FnG P w K mg base CX0 2 f fd ["_law_q", "_law_many"] spDraw := by
  refine fun_okG F sc__law_draw (fun vs H Q E h => ?_) (fun cdv A outer s H vs Q E bare hr h => ?_)
  · obtain ⟨q, m, n, rfl, _⟩ := h
    rfl
  · obtain ⟨q, m, n, rfl, ⟨c, ns, i, r, t, hq, hc, hz, hl, ⟨hi0, hi⟩, ⟨hr0, hr1⟩, ⟨ht0, ht⟩⟩, hn, hm0, hm, k⟩ := h
    have ncq := cells_ne hq hc
    have smm : Sm m := sm_lt (k := 30) (by decide) (by omega) hm
    refine ⟨_, (pss_cons (ps_if (pt_cmpR op_gt (pe_ix (ix_listK (K := K)) (pv 0) pe_int (fun _ _ => rfl)) pe_int (nomark _)) (pss_cons (ps_set (i := 2) sc__law_draw.nd rfl (Or.inl rfl) (pe_op op_modN (pe_callTy call_int1 (by rfl) T.b_int (by decide +kernel) (pa_cons (pe_ix (ix_listK (K := K)) (pv 0) pe_int (fun _ _ => rfl)) pa_nil)) (pv 1)))
  (pss_cons (ps_asg (pe_op op_fdivZ (pe_ix (ix_listK (K := K)) (pv 0) pe_int (fun _ _ => rfl)) (pv 1)) (pg_sub (pv 0) pe_int set_list))
  (pss_one (ps_ret (pv 2)))))
  pss_nil)
  (pss_cons (ps_set (i := 3) sc__law_draw.nd rfl (Or.inl rfl) (pe_cut (pe_ifExp (pt_truth (pe_ix (ix_listK (K := K)) (pv 0) pe_int (fun _ _ => rfl)) (by intro _; rfl)) (pe_ix (ix_listK (K := K)) (pv 0) pe_int (fun _ _ => rfl)) (pe_lst (pa_cons pe_int pa_nil)))))
  (pss_cons (ps_set (i := 4) sc__law_draw.nd rfl (Or.inl rfl) (pe_ix (ix_listK (K := K)) (pv 3) (pe_op op_modN (pe_callTy call_int1 (by rfl) T.b_int (by decide +kernel) (pa_cons (pe_ix (ix_listK (K := K)) (pv 0) pe_int (fun _ _ => rfl)) pa_nil)) (pe_callB (id := "len") call_len_seq (by rfl) T.b_len (by decide +kernel) (pa_cons (pv 3) pa_nil))) (fun _ _ => rfl)))
  (pss_cons (ps_asg (pe_op op_add (pe_ix (ix_listK (K := K)) (pv 0) pe_int (fun _ _ => rfl)) pe_int) (pg_sub (pv 0) pe_int set_list))
  (pss_cons (ps_if (pt_cmpR op_ge (pv 4) (pe_op op_pow pe_int pe_int) (nomark _)) (pss_cons (ps_asg (pe_op op_fdivZ (pv 4) (pv 1)) (pg_sub (pv 0) pe_int set_list))
  (pss_one (ps_ret (pe_op op_modN (pe_callTy call_int1 (by rfl) T.b_int (by decide +kernel) (pa_cons (pv 4) pa_nil)) (pv 1)))))
  pss_nil)
  (pss_cons (ps_set (i := 5) sc__law_draw.nd rfl (Or.inl rfl) (pe_ix (ix_listK (K := K)) (pv 0) pe_int (fun _ _ => rfl)))
  (pss_cons (ps_asg (pe_op op_add (pv 5) pe_int) (pg_sub (pv 0) pe_int set_list))
  (pss_cons (ps_set (i := 6) sc__law_draw.nd rfl (Or.inl rfl) (pe_lst (pa_cons pe_int (pa_cons pe_int (pa_cons pe_int (pa_cons pe_int (pa_cons pe_int (pa_cons pe_int (pa_cons pe_int (pa_cons pe_int (pa_cons pe_int (pa_cons pe_int (pa_cons pe_int pa_nil)))))))))))))
  (pss_cons (ps_set (i := 7) sc__law_draw.nd rfl (Or.inl rfl) (pe_op op_modN (pe_callTy call_int1 (by rfl) T.b_int (by decide +kernel) (pa_cons (pe_op op_add (pe_op op_mulW (pe_op op_add (pv 4) pe_int) pe_int) (pe_op op_mulW (pe_op op_mulW (pe_op op_add (pv 5) pe_int) (pe_op op_add (pv 5) pe_int)) pe_int)) pa_nil)) (pe_ix (ix_listK (K := K)) (pv 6) (pe_op op_modN (pe_callTy call_int1 (by rfl) T.b_int (by decide +kernel) (pa_cons (pv 5) pa_nil)) pe_int) (fun _ _ => rfl))))
  (pss_cons (ps_set (i := 7) sc__law_draw.nd rfl (Or.inl rfl) (pe_op op_modN (pe_callTy call_int1 (by rfl) T.b_int (by decide +kernel) (pa_cons (pe_op op_add (pe_op op_pow (pv 7) pe_int) (pe_op op_mulW (pv 5) pe_int)) pa_nil)) pe_int))
  (pss_one (ps_ret (pe_op op_modN (pe_callTy call_int1 (by rfl) T.b_int (by decide +kernel) (pa_cons (pe_op op_fdivZ (pv 7) pe_int) pa_nil)) (pv 1)))))))))))))), ?_⟩
    -- if q[2] > 0
    refine ⟨_, rfl, q, _, _, _, rfl, rfl, SqL.of hq, rfl, _, _, rfl, rfl, _, rfl, ?_⟩
    refine ite2 (fun hpos => ?_) (fun hpos => ?_)
    · -- digit = int(q[2]) % many; q[2] = q[2] // many; return digit
      refine ⟨_, rfl, q, _, _, _, rfl, rfl, SqL.of hq, rfl, Or.inl ⟨_, rfl, _, rfl, _, _, rfl, rfl, by omega, ?_⟩⟩
      refine ⟨_, rfl, q, _, _, _, rfl, rfl, SqL.of hq, rfl, _, rfl, _, _, rfl, rfl, sm_div smm (by omega), ?_⟩
      refine ⟨_, rfl, q, _, _, _, rfl, rfl, hq, rfl, ?_⟩
      refine ⟨_, rfl, ?_⟩
      refine k _ _ (fmod_ge hm0) (fmod_lt hm0) (Keep.refl.upd hq) ⟨c, ns, i, _, t, upd_same, ?_, hz, hl, ⟨hi0, by omega⟩, ⟨fdiv_ge hr0 hm0, Int.lt_of_le_of_lt (fdiv_le hr0 hm0) hr1⟩, ⟨ht0, by omega⟩⟩
      rw [upd_ne ncq]
      exact hc
    · -- cells = q[0] if q[0] else [0]
      refine ⟨fun v H' => ∃ (c' : Addr) (ns' : List Int), v = .ref c' ∧ H' c' = some (.lst (ns'.map V.int)) ∧ ns' ≠ [] ∧ ns'.length ≤ 100000 ∧ (∀ z ∈ ns', 0 ≤ z ∧ z < 10 ^ 120) ∧ c' ≠ q ∧ Same H H', ?_, ?_⟩
      · refine ⟨_, rfl, q, _, _, _, rfl, rfl, SqL.of hq, rfl, _, Or.inl ⟨_, SqL.of hc, rfl⟩, ?_⟩
        cases ns with
        | nil =>
          refine iteF ?_
          refine ⟨by show 1 ≤ sizeLine; decide, fun p hp => ?_⟩
          refine ⟨p, [0], rfl, upd_same, by simp, by decide, by decide, ?_, MG.Same.new (Same.refl H) hp⟩
          exact (ne_of_none hq hp).symm
        | cons z ns =>
          refine iteT ?_
          exact ⟨_, rfl, q, _, _, _, rfl, rfl, SqL.of hq, rfl, c, z :: ns, rfl, hc, by simp, hl, hz, ncq, Same.refl H⟩
      rintro v H1 ⟨c', ns', rfl, hc', hne, hl', hz', ncq', s1⟩
      have hq1 := s1 _ _ hq
      have hlen : 0 < (ns'.length : Int) := by
        have : 0 < ns'.length := List.length_pos_iff.mpr hne
        omega
      -- cell = cells[int(q[1]) % len(cells)]
      have hlm : ((ns'.map V.int).length : Int) = ns'.length := by rw [List.length_map]
      obtain ⟨z, hzm, ez⟩ := at_ints (l := ns') (i := i.fmod ((ns'.map V.int).length : Int)) (fmod_ge (by omega)) (by rw [hlm]; exact fmod_lt hlen)
      obtain ⟨z0, z1⟩ := hz' z hzm
      refine ⟨_, rfl, _, rfl, q, _, _, _, rfl, rfl, SqL.of hq1, rfl, Or.inl ⟨_, rfl, _, rfl, c', _, rfl, Or.inl (SqL.of hc'), _, _, rfl, rfl, by omega, ?_⟩⟩
      refine ⟨c', _, _, _, rfl, rfl, SqL.of hc', ez, ?_⟩
      -- q[1] = q[1] + 1
      refine ⟨_, rfl, q, _, _, _, rfl, rfl, SqL.of hq1, rfl, _, _, rfl, rfl, ?_⟩
      refine ⟨_, rfl, q, _, _, _, rfl, rfl, hq1, rfl, ?_⟩
      -- if cell >= 10 ** 18
      refine ⟨_, rfl, _, _, rfl, rfl, ⟨by decide, by decide, by decide⟩, _, _, rfl, rfl, _, rfl, ?_⟩
      have smz : Sm z := sm_lt (k := 120) (by decide) (by omega) z1
      have nc1 : ∀ {o : HO}, upd H1 q o c = some (.lst (ns.map V.int)) := fun {o} => by rw [upd_ne ncq]; exact s1 _ _ hc
      refine ite2 (fun hbig => ?_) (fun hbig => ?_)
      · refine ⟨_, rfl, _, rfl, _, _, rfl, rfl, sm_div smm (by omega), ?_⟩
        refine ⟨_, rfl, q, _, _, _, rfl, rfl, upd_same, rfl, ?_⟩
        refine ⟨_, rfl, Or.inl ⟨_, rfl, _, rfl, _, _, rfl, rfl, by omega, ?_⟩⟩
        refine k _ _ (fmod_ge hm0) (fmod_lt hm0) (((Same.keep s1).upd hq).upd hq) ⟨c, ns, _, _, t, upd_same, ?_, hz, hl, ⟨by omega, by omega⟩, ⟨fdiv_ge z0 hm0, Int.lt_of_le_of_lt (fdiv_le z0 hm0) z1⟩, ⟨ht0, by omega⟩⟩
        rw [upd_ne ncq]
        exact nc1
      · -- turn = q[3]; q[3] = turn + 1
        refine ⟨_, rfl, q, _, _, _, rfl, rfl, SqL.of upd_same, rfl, ?_⟩
        refine ⟨_, rfl, _, _, rfl, rfl, ?_⟩
        refine ⟨_, rfl, q, _, _, _, rfl, rfl, upd_same, rfl, ?_⟩
        -- primes
        refine ⟨by show 11 ≤ sizeLine; decide, fun p hp => ?_⟩
        have hp' : H1 p = none := by
          have npq : p ≠ q := fun e => by rw [e, upd_same] at hp; cases hp
          rw [upd_ne npq, upd_ne npq] at hp
          exact hp
        -- blend = int((cell + 1) * 48271 + (turn + 1) * (turn + 7) * 69621) % primes[int(turn) % 11]
        obtain ⟨y, ey, y0, y1⟩ := prime_at (i := t.fmod 11) (fmod_ge (by decide)) (fmod_lt (by decide))
        have st : ∀ a : Int, 0 ≤ a → a ≤ 1000000 → Sm a := fun a h0 h1 => sm_lt (k := 7) (by decide) (by omega) (by omega)
        have hm1 : Sm ((t + 1) * (t + 7)) := by
          have h1 : (t + 1) * (t + 7) ≤ 200000 * 200000 := Int.mul_le_mul (by omega) (by omega) (by omega) (by omega)
          have h2 : 0 ≤ (t + 1) * (t + 7) := Int.mul_nonneg (by omega) (by omega)
          exact sm_lt (k := 20) (by decide) (by omega) (by omega)
        refine ⟨_, rfl, _, _, rfl, rfl, _, _, rfl, rfl, sm_mul (sm_lt (k := 121) (by decide) (by omega) (by omega)) (st _ (by decide) (by decide)), ?_⟩
        refine ⟨_, rfl, _, _, rfl, rfl, _, rfl, _, _, rfl, rfl, _, _, rfl, rfl, sm_mul (st _ (by omega) (by omega)) (st _ (by omega) (by omega)), _, _, rfl, rfl, sm_mul hm1 (st _ (by decide) (by decide)), ?_⟩
        refine ⟨_, _, rfl, rfl, Or.inl ⟨_, rfl, ?_⟩⟩
        refine ⟨_, rfl, _, rfl, Or.inl ⟨_, rfl, _, _, rfl, rfl, (show (11 : Int) ≠ 0 by decide), p, _, _, _, rfl, rfl, SqL.of upd_same, ey, _, _, rfl, rfl, by omega, ?_⟩⟩
        -- blend = int(blend ** 3 + turn * 40503) % 2147483647
        have b0 := fmod_ge (x := (z + 1) * 48271 + (t + 1) * (t + 7) * 69621) y0
        have b1 := fmod_lt (x := (z + 1) * 48271 + (t + 1) * (t + 7) * 69621) y0
        refine ⟨_, rfl, _, _, rfl, rfl, ⟨by decide, by decide, ?_⟩, _, rfl, _, _, rfl, rfl, sm_mul (st _ (by omega) (by omega)) (st _ (by decide) (by decide)), _, _, rfl, rfl, Or.inl ⟨_, rfl, _, _, rfl, rfl, (show (2147483647 : Int) ≠ 0 by decide), ?_⟩⟩
        · show ((((z + 1) * 48271 + (t + 1) * (t + 7) * 69621).fmod y).natAbs < 2 ^ 64)
          generalize ((z + 1) * 48271 + (t + 1) * (t + 7) * 69621).fmod y = b at *
          omega
        -- return int(blend // 32) % many
        refine ⟨_, rfl, _, _, rfl, rfl, ⟨by decide, by decide⟩, Or.inl ⟨_, rfl, _, rfl, _, _, rfl, rfl, by omega, ?_⟩⟩
        refine k _ _ (fmod_ge hm0) (fmod_lt hm0) ((((Same.keep s1).upd hq).upd hq).new hp) ⟨c, ns, i + 1, r, t + 1, ?_, ?_, hz, hl, ⟨by omega, by omega⟩, ⟨hr0, hr1⟩, ⟨by omega, by omega⟩⟩
        · rw [upd_ne (fun e => by rw [← e, upd_same] at hp; cases hp)]
          exact upd_same
        · rw [upd_ne (ne_of_none (s1 _ _ hc) hp'), upd_ne ncq]
          exact nc1

theorem QAt.keep {H H' : Hp} {q : Addr} {n : Nat} (h : QAt H q n) (s : Same H H') : QAt H' q n := by
  obtain ⟨c, ns, i, r, t, hq, hc, h⟩ := h
  exact ⟨c, ns, i, r, t, s _ _ hq, s _ _ hc, h⟩
theorem QAt.at_ {H : Hp} {q : Addr} {n : Nat} (h : QAt H q n) : ∃ o, H q = some o := by
  obtain ⟨c, ns, i, r, t, hq, hc, h⟩ := h
  exact ⟨_, hq⟩
theorem QAt.ne {H : Hp} {q p : Addr} {n : Nat} (h : QAt H q n) (hp : H p = none) : p ≠ q := by
  obtain ⟨o, e⟩ := h.at_
  exact (ne_of_none e hp).symm
theorem QAt.new {H : Hp} {q p : Addr} {n : Nat} {o : HO} (h : QAt H q n) (hp : H p = none) : QAt (upd H p o) q n := h.keep (MG.Same.new (Same.refl H) hp)

abbrev DrawC (P : Program) (w : World) (K : PySem.W.Frag) (mg : Str → Option Value) (base : Heap) : Prop := CalG P w K mg base 2 "_law_draw" spDraw []
theorem signs_ok : ∀ z ∈ ([1, -1] : List Int), z = 1 ∨ z = -1 := by decide
/-! ### _law_great -/
def spGreat : Sp := fun vs H Q _ => ∃ (q : Addr) (n : Nat), vs = [.ref q] ∧ QAt H q n ∧ n + 3 ≤ 100000 ∧
  ∀ (z : Int) (H' : Hp), -(10 ^ 42) < z → z < 10 ^ 42 → Keep q H H' → QAt H' q (n + 3) → Q (.int z) H'
def fars : List Int := [1, 1, 10, 10 ^ Int.toNat 3, 10 ^ Int.toNat 9, 10 ^ Int.toNat 20, 10 ^ Int.toNat 39]
theorem fars_ok : ∀ z ∈ fars, 1 ≤ z ∧ z ≤ 10 ^ 39 := by decide +kernel
theorem sc__law_great : FnScope ["_law_q", "_law_far"] ["_law_q"] (defScope s__law_great) := ⟨rfl, rfl, rfl, by decide +kernel, rfl, by decide +kernel, by decide +kernel⟩
theorem ok_great {f : Addr} {fd : FuncData} (F : Fun K "_law_great" "_law_great" s__law_great f fd) (T : Blt mg) (c_draw : DrawC P w K mg base) : FnG P w K mg base CX0 4 f fd ["_law_q"] spGreat := by
  refine fun_okG F sc__law_great (fun vs H Q E h => ?_) (fun cdv A outer s H vs Q E bare hr h => ?_)
  · obtain ⟨q, n, rfl, _⟩ := h
    rfl
  · obtain ⟨q, n, rfl, hq, hn, k⟩ := h
    refine ⟨_, (pss_cons (ps_set (i := 1) sc__law_great.nd rfl (Or.inl rfl) (pe_ix (ix_listK (K := K)) (pe_lst (pa_cons pe_int (pa_cons pe_int (pa_cons pe_int (pa_cons (pe_op op_pow pe_int pe_int) (pa_cons (pe_op op_pow pe_int pe_int) (pa_cons (pe_op op_pow pe_int pe_int) (pa_cons (pe_op op_pow pe_int pe_int) pa_nil)))))))) (pe_cg c_draw bare hr (by decide) rfl (pa_cons (pv 0) (pa_cons pe_int pa_nil))) (fun _ _ => rfl)))
  (pss_one (ps_ret (pe_op op_mulW (pe_ix (ix_listK (K := K)) (pe_lst (pa_cons pe_int (pa_cons (pe_un un_neg pe_int) pa_nil))) (pe_cg c_draw bare hr (by decide) rfl (pa_cons (pv 0) (pa_cons pe_int pa_nil))) (fun _ _ => rfl)) (pe_op op_add (pe_op op_sub (pv 1) pe_int) (pe_op op_mulW (pe_cg c_draw bare hr (by decide) rfl (pa_cons (pv 0) (pa_cons pe_int pa_nil))) (pe_op op_add (pe_op op_fdivZ (pv 1) pe_int) pe_int))))))), ?_⟩
    refine ⟨_, _, rfl, rfl, ⟨by decide, by decide, by decide⟩, _, _, rfl, rfl, ⟨by decide, by decide, by decide⟩, _, _, rfl, rfl, ⟨by decide, by decide, by decide⟩, _, _, rfl, rfl, ⟨by decide, by decide, by decide⟩, by show 7 ≤ sizeLine; decide, fun p hp => ?_⟩
    refine ⟨_, rfl, q, 7, n, rfl, hq.new hp, by omega, by decide, by decide, fun r H1 r0 r1 k1 q1 => ?_⟩
    obtain ⟨y, hy, ey⟩ := at_ints (l := fars) r0 (by show r < 7; exact r1)
    obtain ⟨y0, y1⟩ := fars_ok y hy
    refine ⟨p, _, _, _, rfl, rfl, SqL.of (k1 _ _ upd_same (hq.ne hp)), ey, ?_⟩
    refine ⟨_, rfl, by show 2 ≤ sizeLine; decide, fun p2 hp2 => ?_⟩
    refine ⟨_, rfl, q, 2, n + 1, rfl, q1.new hp2, by omega, by decide, by decide, fun r2 H2 r20 r21 k2 q2 => ?_⟩
    obtain ⟨e, he, ee⟩ := at_ints (l := [1, -1]) r20 (by show r2 < 2; exact r21)
    have he' := signs_ok e he
    refine ⟨p2, _, _, _, rfl, rfl, SqL.of (k2 _ _ upd_same (q1.ne hp2)), ee, ?_⟩
    refine ⟨_, rfl, _, _, rfl, rfl, _, rfl, q, 60, n + 2, rfl, q2, by omega, by decide, by decide, fun r3 H3 r30 r31 k3 q3 => ?_⟩
    have d0 := fdiv_ge (x := y) (m := 7) (by omega) (by decide)
    have d1 := fdiv_le (x := y) (m := 7) (by omega) (by decide)
    have p0 : 0 ≤ r3 * (y.fdiv 7 + 1) := Int.mul_nonneg r30 (by omega)
    have p1 : r3 * (y.fdiv 7 + 1) ≤ 60 * (10 ^ 39 + 1) := Int.mul_le_mul (by omega) (by omega) (by omega) (by omega)
    refine ⟨_, rfl, _, _, rfl, rfl, ⟨by decide, by decide⟩, _, _, rfl, rfl, _, _, rfl, rfl, sm_mul (sm_lt (k := 3) (by decide) (by omega) (by omega)) (sm_lt (k := 42) (by decide) (by omega) (by omega)), ?_⟩
    refine ⟨_, _, rfl, rfl, _, _, rfl, rfl, sm_mul (sm_lt (k := 3) (by decide) (by omega) (by omega)) (sm_lt (k := 42) (by decide) (by omega) (by omega)), ?_⟩
    have kk : Keep q H H3 := ((Keep.refl.new hp).trans k1).trans ((Keep.refl.new hp2).trans (k2.trans k3))
    generalize r3 * (y.fdiv 7 + 1) = g at *
    refine k _ H3 ?_ ?_ kk q3
    · rcases he' with rfl | rfl <;> omega
    · rcases he' with rfl | rfl <;> omega

/-! ### _law_common, _law_lowest -/
def spCommon : Sp := fun vs H Q _ => ∃ a b : Int, vs = [.int a, .int b] ∧ Q (.int (Int.gcd a b : Nat)) H
theorem gcd_step {x y : Nat} : Nat.gcd y (x % y) = Nat.gcd x y := by
  rw [Nat.gcd_comm x y, Nat.gcd_rec y x, Nat.gcd_comm]
theorem sc__law_common : FnScope ["_law_one", "_law_two", "_law_high", "_law_low_here"] ["_law_one", "_law_two"] (defScope s__law_common) := ⟨rfl, rfl, rfl, by decide +kernel, rfl, by decide +kernel, by decide +kernel⟩
theorem ok_common {f : Addr} {fd : FuncData} (F : Fun K "_law_common" "_law_common" s__law_common f fd) (T : Blt mg) : FnG P w K mg base CX0 2 f fd ["_law_one", "_law_two"] spCommon := by
  refine fun_okG F sc__law_common (fun vs H Q E h => ?_) (fun cdv A outer s H vs Q E bare hr h => ?_)
  · obtain ⟨a, b, rfl, _⟩ := h
    rfl
  · obtain ⟨a, b, rfl, k⟩ := h
    refine ⟨_, (pss_cons (ps_par (i := 2) (j := 3) (by rfl) sc__law_common.nd rfl rfl (by decide) rfl rfl (pa_cons (pe_callB (id := "abs") call_abs (by rfl) T.b_abs (by decide +kernel) (pa_cons (pv 0) pa_nil)) (pa_cons (pe_callB (id := "abs") call_abs (by rfl) T.b_abs (by decide +kernel) (pa_cons (pv 1) pa_nil)) pa_nil)) (by rfl))
  (pss_cons (ps_while PassesOwn.never (pt_cmpR op_gt (pv 3) pe_int (nomark _)) (pss_one (ps_par (i := 2) (j := 3) (by rfl) sc__law_common.nd rfl rfl (by decide) rfl rfl (pa_cons (pv 3) (pa_cons (pe_op op_modN (pe_callTy call_int1 (by rfl) T.b_int (by decide +kernel) (pa_cons (pv 2) pa_nil)) (pv 3)) pa_nil)) (by rfl))))
  (pss_one (ps_ret (pv 2))))), ?_⟩
    refine ⟨_, rfl, _, rfl, _, rfl, _, rfl, _, _, rfl, ?_⟩
    refine while_by (fun σ H' => H' = H ∧ ∃ x y : Nat, σ = [some (.int a), some (.int b), some (.int x), some (.int y)] ∧ Nat.gcd x y = Int.gcd a b) (fun (σ : L2.St) (_ : Hp) => match σ[3]? with | some (some (V.int y)) => y.toNat | _ => 0) ?_ ?_ ?_
    · refine ⟨rfl, a.natAbs, b.natAbs, ?_, rfl⟩
      have e : ∀ z : Int, (if z < 0 then -z else z) = (z.natAbs : Int) := fun z => by split <;> omega
      show [some (V.int a), some (V.int b), some (V.int (if a < 0 then -a else a)), some (V.int (if b < 0 then -b else b))] = _
      rw [e, e]
    · rintro σ H' ⟨rfl, x, y, rfl, hg⟩
      refine ⟨_, rfl, _, _, rfl, rfl, _, rfl, ?_⟩
      refine ite2 (fun hy => ?_) (fun hy => ?_)
      · have hy' : 0 < (y : Int) := of_decide_eq_true hy
        refine ⟨_, rfl, _, rfl, Or.inl ⟨_, rfl, _, rfl, _, _, rfl, rfl, by omega, _, _, rfl, ?_⟩⟩
        have e : (x : Int).fmod (y : Int) = ((x % y : Nat) : Int) := by
          rw [Int.fmod_eq_emod_of_nonneg (x : Int) (by omega)]
          exact (Int.natCast_emod x y).symm
        refine ⟨⟨rfl, y, x % y, ?_, gcd_step.trans hg⟩, ?_⟩
        · show [some (V.int a), some (V.int b), some (V.int (y : Int)), some (V.int ((x : Int).fmod (y : Int)))] = _
          rw [e]
        · show ((x : Int).fmod (y : Int)).toNat < (y : Int).toNat
          have h1 := fmod_lt (x := (x : Int)) hy'
          omega
      · have hy' : ¬ 0 < (y : Int) := fun z => hy (decide_eq_true z)
        have y0 : y = 0 := by omega
        subst y0
        refine ⟨_, rfl, ?_⟩
        rw [Nat.gcd_zero_right] at hg
        rw [hg]
        exact k
    · rintro σ H' Q1 Q2 hq ⟨v, e, i, j, e1, e2, b', e3, q⟩
      exact ⟨v, e, i, j, e1, e2, b', e3, hq _ _ q⟩
abbrev CommonC (P : Program) (w : World) (K : PySem.W.Frag) (mg : Str → Option Value) (base : Heap) : Prop := CalG P w K mg base 2 "_law_common" spCommon []
def spLowest : Sp := fun vs H Q _ => ∃ a u : Int, vs = [.int a, .int u] ∧ u ≠ 0 ∧ Sm u ∧
  ∀ p, H p = none → Q (.ref p) (upd H p (.tup [.int (Rat.divInt a u).num, .int (Rat.divInt a u).den]))
theorem sc__law_lowest : FnScope ["_law_high", "_law_under", "_law_both"] ["_law_high", "_law_under"] (defScope s__law_lowest) := ⟨rfl, rfl, rfl, by decide +kernel, rfl, by decide +kernel, by decide +kernel⟩
theorem ok_lowest {f : Addr} {fd : FuncData} (F : Fun K "_law_lowest" "_law_lowest" s__law_lowest f fd) (c_common : CommonC P w K mg base) : FnG P w K mg base CX0 4 f fd ["_law_high", "_law_under"] spLowest := by
  refine fun_okG F sc__law_lowest (fun vs H Q E h => ?_) (fun cdv A outer s H vs Q E bare hr h => ?_)
  · obtain ⟨a, b, rfl, _⟩ := h
    rfl
  · obtain ⟨a, u, rfl, hu, su, k⟩ := h
    refine ⟨_, (pss_cons (ps_set (i := 2) sc__law_lowest.nd rfl (Or.inl rfl) (pe_cut (pe_ifExp (pt_cmpR op_gt (pv 1) pe_int (nomark _)) (pe_cg c_common bare hr (by decide) rfl (pa_cons (pv 0) (pa_cons (pv 1) pa_nil))) (pe_un un_neg (pe_cg c_common bare hr (by decide) rfl (pa_cons (pv 0) (pa_cons (pv 1) pa_nil)))))))
  (pss_one (ps_ret (pe_tup (pa_cons (pe_op op_fdivZ (pv 0) (pv 2)) (pa_cons (pe_op op_fdivZ (pv 1) (pv 2)) pa_nil)))))), ?_⟩
    refine ⟨fun v H' => v = .int (gd a u) ∧ H' = H, ?_, ?_⟩
    · refine ⟨_, rfl, _, _, rfl, rfl, _, rfl, ?_⟩
      refine ite2 (fun h => ?_) (fun h => ?_)
      · refine ⟨_, rfl, _, rfl, a, u, rfl, ?_, rfl⟩
        unfold gd
        rw [if_pos (of_decide_eq_true h)]
      · refine ⟨_, rfl, _, rfl, a, u, rfl, _, rfl, ?_, rfl⟩
        unfold gd
        rw [if_neg (fun z => h (decide_eq_true z))]
    · rintro v H' ⟨rfl, rfl⟩
      have s := sm_div (gd_sm (a := a) hu su) (gd_ne hu)
      refine ⟨_, rfl, _, rfl, _, _, rfl, rfl, s, _, rfl, _, rfl, _, _, rfl, rfl, s, by show 2 ≤ sizeLine; decide, fun p hp => ?_⟩
      have kk := k p hp
      rw [← lo_num hu, ← lo_den hu] at kk
      exact kk

/-! ### _law_purse, _law_from -/
def spPurse (K : PySem.W.Frag) : Sp := fun vs H Q _ => ∃ (a : Addr) (ns : List Int), vs = [.ref a] ∧ SqL K H a (ns.map V.int) ∧ ns.length ≤ 100000 ∧
  ∀ q H', H q = none → Same H H' → QAt H' q 0 → Q (.ref q) H'
theorem sc__law_purse : FnScope ["_law_script", "_law_cell"] ["_law_script"] (defScope s__law_purse) := ⟨rfl, rfl, rfl, by decide +kernel, rfl, by decide +kernel, by decide +kernel⟩
theorem ok_purse {f : Addr} {fd : FuncData} (F : Fun K "_law_purse" "_law_purse" s__law_purse f fd) (T : Blt mg) : FnG P w K mg base CX0 2 f fd ["_law_script"] (spPurse K) := by
  refine fun_okG F sc__law_purse (fun vs H Q E h => ?_) (fun cdv A outer s H vs Q E bare hr h => ?_)
  · obtain ⟨a, ns, rfl, _⟩ := h
    rfl
  · obtain ⟨a, ns, rfl, hS, hl, k⟩ := h
    refine ⟨_, (pss_one (ps_ret (pe_lst (pa_cons (pe_map (K := K) (j := 1) (pe_lc (own := [("_law_cell", 1)]) (g := gName 1) (tt := tYes) rfl sc__law_purse.nd (pi_list (pe_cut (pv 0))) (blkOk_by (N := ["_law_script", "_law_cell"]) (sc := defScope s__law_purse) (by decide +kernel)) (fun _ _ _ _ _ => (pg_name (i := 1) sc__law_purse.nd rfl (Or.inl rfl))) (fun _ _ _ _ _ => pts_nil) (fun _ _ _ _ _ => (pe_cut (pe_op op_modN (pe_callTy call_int1 (by rfl) T.b_int (by decide +kernel) (pa_cons (pv 1) pa_nil)) (pe_op op_mulW (pe_op op_pow pe_int pe_int) (pe_op op_pow pe_int pe_int))))))) (pa_cons pe_int (pa_cons pe_int (pa_cons pe_int pa_nil))))))), ?_⟩
    refine ⟨_, rfl, a, ns.map V.int, (ns.map fun z => z.fmod (10 ^ Int.toNat 60 * 10 ^ Int.toNat 60)).map V.int, rfl, hS, by simp, by simpa using hl, ?_, fun D H1 s1 hD e1 => ?_⟩
    · intro i x y H' hx hy s'
      rw [List.getElem?_map] at hx
      rw [List.getElem?_map, List.getElem?_map] at hy
      cases e : ns[i]? with
      | none => rw [e] at hx; cases hx
      | some z =>
        rw [e] at hx hy
        obtain rfl := (Option.some.inj hx).symm
        obtain rfl := (Option.some.inj hy).symm
        refine ⟨_, rfl, Or.inl ⟨_, rfl, _, _, rfl, rfl, ⟨by decide, by decide, by decide⟩, _, _, rfl, rfl, ⟨by decide, by decide, by decide⟩, _, _, rfl, rfl, sm_mul (sm_lt (k := 61) (by decide) (by decide) (by decide)) (sm_lt (k := 61) (by decide) (by decide) (by decide)), _, _, rfl, rfl, (show (10 : Int) ^ Int.toNat 60 * 10 ^ Int.toNat 60 ≠ 0 by decide), ?_⟩⟩
        exact ⟨rfl, Same.refl _⟩
    · refine ⟨by show 4 ≤ sizeLine; decide, fun q hq => ?_⟩
      have nq : D ≠ q := ne_of_none e1 hq
      have hq' : H q = none := s1.free hq
      refine k q _ hq' (MG.Same.new s1 hq) ⟨D, _, 0, 0, 0, upd_same, (by rw [upd_ne nq]; exact e1), ?_, (by simpa using hl), by decide, by decide, by decide⟩
      intro y hy
      obtain ⟨z, _, rfl⟩ := List.mem_map.mp hy
      have e : (10 : Int) ^ Int.toNat 60 * 10 ^ Int.toNat 60 = 10 ^ 120 := by decide
      rw [e]
      exact ⟨fmod_ge (by decide), fmod_lt (by decide)⟩
abbrev PurseC (P : Program) (w : World) (K : PySem.W.Frag) (mg : Str → Option Value) (base : Heap) : Prop := CalG P w K mg base 2 "_law_purse" (spPurse K) []
theorem cut_map (ns : List Int) (lo hi : Option Int) : ∃ zs : List Int, cutV (ns.map V.int) lo hi = zs.map V.int ∧ zs.length ≤ ns.length := by
  refine ⟨(ns.drop (HT.sIx ns.length 0 lo)).take (HT.sIx ns.length ns.length hi - HT.sIx ns.length 0 lo), ?_, ?_⟩
  · unfold cutV
    rw [List.length_map, List.map_take, List.map_drop]
  · rw [List.length_take, List.length_drop]
    omega
def spFrom (K : PySem.W.Frag) : Sp := fun vs H Q _ => ∃ (a : Addr) (ns : List Int) (j : Int), vs = [.ref a, .int j] ∧ SqL K H a (ns.map V.int) ∧ ns.length ≤ 1000 ∧
  ∀ q H', H q = none → Same H H' → QAt H' q 0 → Q (.ref q) H'
theorem sc__law_from : FnScope ["_law_script", "_law_k"] ["_law_script", "_law_k"] (defScope s__law_from) := ⟨rfl, rfl, rfl, by decide +kernel, rfl, by decide +kernel, by decide +kernel⟩
theorem ok_from {f : Addr} {fd : FuncData} (F : Fun K "_law_from" "_law_from" s__law_from f fd) (c_purse : PurseC P w K mg base) : FnG P w K mg base CX0 4 f fd ["_law_script", "_law_k"] (spFrom K) := by
  refine fun_okG F sc__law_from (fun vs H Q E h => ?_) (fun cdv A outer s H vs Q E bare hr h => ?_)
  · obtain ⟨a, ns, j, rfl, _⟩ := h
    rfl
  · obtain ⟨a, ns, j, rfl, hS, hl, k⟩ := h
    obtain ⟨z1, e1, l1⟩ := cut_map ns (some j) none
    obtain ⟨z2, e2, l2⟩ := cut_map ns none (some j)
    refine ⟨_, (pss_one (ps_ret (pe_cg c_purse bare hr (by decide) rfl (pa_cons (pe_op op_cat (pe_slice sl_list (pv 0) (po_some (pv 1)) po_none) (pe_slice sl_list (pv 0) po_none (po_some (pv 1)))) pa_nil)))), ?_⟩
    refine ⟨_, rfl, _, rfl, j, rfl, a, _, rfl, hS, fun p hp => ?_⟩
    have s1 : Same H (upd H p (.lst (cutV (ns.map V.int) (some j) none))) := MG.Same.new (Same.refl H) hp
    refine ⟨_, rfl, _, rfl, j, rfl, a, _, rfl, s1.seq hS, fun p2 hp2 => ?_⟩
    have n12 : p ≠ p2 := ne_of_none upd_same hp2
    have s2 := MG.Same.new (o := .lst (cutV (ns.map V.int) none (some j))) s1 hp2
    refine ⟨p, p2, _, _, rfl, rfl, by rw [upd_ne n12]; exact upd_same, upd_same, ?_, fun p3 hp3 => ?_⟩
    · rw [e1, e2, List.length_map, List.length_map]
      exact Nat.le_trans (m := 2000) (by omega) (by decide)
    · refine ⟨p3, z1 ++ z2, rfl, ?_, by rw [List.length_append]; omega, fun q H' hq s q0 => ?_⟩
      · refine SqL.of ?_
        rw [upd_same, e1, e2, List.map_append]
      · have s3 := MG.Same.new (o := .lst (cutV (ns.map V.int) (some j) none ++ cutV (ns.map V.int) none (some j))) s2 hp3
        exact k q H' (s3.free hq) (s3.trans s) q0
end
end Lw

namespace Lw
open PySem PySem.Spec PyProof.Rows L2 MG
abbrev s_is_whole : Stmt := top 12
abbrev s_is_number : Stmt := top 13
abbrev s_to_ratio : Stmt := top 14
abbrev s_Ratio___init__ : Stmt := inClass (top 16) 0
abbrev s_Ratio_top : Stmt := inClass (top 16) 1
abbrev s_Ratio_bottom : Stmt := inClass (top 16) 2
abbrev s_Ratio_over : Stmt := inClass (top 16) 4
abbrev s_Ratio___add__ : Stmt := inClass (top 16) 5
abbrev s_Ratio___sub__ : Stmt := inClass (top 16) 6
abbrev s_Ratio___mul__ : Stmt := inClass (top 16) 7
abbrev s_Ratio___neg__ : Stmt := inClass (top 16) 8
abbrev s_Ratio___eq__ : Stmt := inClass (top 16) 9
abbrev s_Ratio___bool__ : Stmt := inClass (top 16) 10
abbrev s_Ratio___str__ : Stmt := inClass (top 16) 11
abbrev s_Ratio___repr__ : Stmt := inClass (top 16) 12
/-- what the top says of the class Ratio, at C -/
structure TxR (K : PySem.W.Frag) (mg : Str → Option Value) (C : Addr) : Prop extends Blt mg where
  cl : Cls K C
  nT : NoAttr K C "_top"
  nB : NoAttr K C "_bottom"
  g_Ratio : mg "Ratio" = some (.ref C)
  g_gcd : mg "gcd" = some (.builtin "math.gcd")
  ca : PySem.W.findIn K (.ref C) "__class__" = some (some (.builtin "object.__class__"))
  cn : PySem.W.specialIn K (.builtin "object.__class__") "__get__" = some (some (.builtin "getset_descriptor.__get__"))
  ct : PySem.W.takesIn K (.builtin "object.__class__") = some true
  cm : PySem.W.mroIn K C (.type "object") = some true
  kI : PySem.W.kitOne K (.ref C) (.type "int") = some false
  kB : PySem.W.kitOne K (.ref C) (.type "bool") = some false
  kC : PySem.W.kitOne K (.ref C) (.ref C) = some true
  iC : PySem.W.kitOne K (.type "int") (.ref C) = some false
def flds (p : Rat) : List (Str × V) := [("_top", .int p.num), ("_bottom", .int p.den)]
theorem kn : ¬ (("_top" : Str) = "_bottom") := by decide +kernel
theorem flds_put (a b : Int) : putF "_bottom" (.int b) (putF "_top" (.int a) []) = ([("_top", .int a), ("_bottom", .int b)] : List (Str × V)) := by
  show (if ("_top" : Str) = "_bottom" then _ else (("_top" : Str), V.int a) :: putF "_bottom" (V.int b) []) = _
  rw [if_neg kn]
  rfl
theorem flds_top (p : Rat) : (flds p).lookup ("_top" : Str) = some (.int p.num) := by simp [flds, List.lookup]
theorem flds_bottom (p : Rat) : (flds p).lookup ("_bottom" : Str) = some (.int p.den) := by
  have h : (("_bottom" : Str) == "_top") = false := by decide +kernel
  simp [flds, List.lookup, h]
theorem flds_no (p : Rat) {m : Str} (h1 : (m == ("_top" : Str)) = false) (h2 : (m == ("_bottom" : Str)) = false) : (flds p).lookup m = none := by
  simp [flds, List.lookup, h1, h2]
/-- a Ratio of the value p stands at r -/
def RatAt (C : Addr) (H : Hp) (r : Addr) (p : Rat) : Prop := ∃ dx, H r = some (.ins C dx (flds p))
theorem RatAt.same {C : Addr} {H H' : Hp} {r : Addr} {p : Rat} (h : RatAt C H r p) (s : Same H H') : RatAt C H' r p := h.elim fun dx e => ⟨dx, s _ _ e⟩
theorem RatAt.tyx {K : PySem.W.Frag} {mg : Str → Option Value} {C : Addr} {H : Hp} {r : Addr} {p : Rat} (T : TxR K mg C) (h : RatAt C H r p) : TyX K H (.ref r) (.ref C) :=
  h.elim fun dx e => .base (.ins e T.cl T.ca T.cn T.ct T.cm)
theorem tyx_int {K : PySem.W.Frag} {H : Hp} (i : Int) : TyX K H (.int i) (.type "int") := .base (.int i)
section
variable {P : Program} {w : World} {K : PySem.W.Frag} {mg : Str → Option Value} {base : Heap} {C : Addr}
/-! ### is_whole, is_number -/
def spWhole (K : PySem.W.Frag) : Sp := fun vs H Q _ => ∃ (x : V) (t : Value) (b1 b2 : Bool), vs = [x] ∧ TyX K H x t ∧
  PySem.W.kitOne K t (.type "int") = some b1 ∧ PySem.W.kitOne K t (.type "bool") = some b2 ∧ Q (.bl (b1 && !b2)) H
theorem sc_is_whole : FnScope ["value"] ["value"] (defScope s_is_whole) := ⟨rfl, rfl, rfl, by decide +kernel, rfl, by decide +kernel, by decide +kernel⟩
theorem ok_whole {f : Addr} {fd : FuncData} (F : Fun K "is_whole" "is_whole" s_is_whole f fd) (T : Blt mg) : FnOk P w K mg base CX0 2 f fd ["value"] (spWhole K) := by
  refine F.ok sc_is_whole (fun vs H Q E h => ?_) (fun cdv A outer s H vs Q E hr h => ?_)
  · obtain ⟨x, t, b1, b2, rfl, _⟩ := h
    rfl
  · obtain ⟨x, t, b1, b2, rfl, tx, k1, k2, k⟩ := h
    refine ⟨_, (pss_one (ps_ret (pe_and (pe_callB (id := "isinstance") (call_isiK (K := K)) (by rfl) T.b_isinstance (by decide +kernel) (pa_cons (pv 0) (pa_cons (pe_bltn (v := V.ty "int") (u := Value.type "int") (by rfl) T.b_int (by decide +kernel) rfl) pa_nil))) (pe_one (pe_not (pe_callB (id := "isinstance") (call_isiK (K := K)) (by rfl) T.b_isinstance (by decide +kernel) (pa_cons (pv 0) (pa_cons (pe_bltn (v := V.ty "bool") (u := Value.type "bool") (by rfl) T.b_bool (by decide +kernel) rfl) pa_nil)))))))), ?_⟩
    refine ⟨_, rfl, x, _, _, _, _, rfl, .ty "int", tx, k1, _, rfl, ?_⟩
    cases b1 with
    | false => exact iteF k
    | true =>
      refine iteT ?_
      refine ⟨_, rfl, x, _, _, _, _, rfl, .ty "bool", tx, k2, _, rfl, ?_⟩
      exact k
abbrev WholeC (P : Program) (w : World) (K : PySem.W.Frag) (mg : Str → Option Value) (base : Heap) : Prop := CalF P w K mg base 2 "is_whole" (spWhole K) []
def spNumber (K : PySem.W.Frag) (C : Addr) : Sp := fun vs H Q _ => ∃ (x : V) (t : Value) (b1 b2 b3 : Bool), vs = [x] ∧ TyX K H x t ∧
  PySem.W.kitOne K t (.type "int") = some b1 ∧ PySem.W.kitOne K t (.type "bool") = some b2 ∧ PySem.W.kitOne K t (.ref C) = some b3 ∧ Q (.bl ((b1 && !b2) || b3)) H
theorem sc_is_number : FnScope ["value"] ["value"] (defScope s_is_number) := ⟨rfl, rfl, rfl, by decide +kernel, rfl, by decide +kernel, by decide +kernel⟩
theorem ok_number {f : Addr} {fd : FuncData} (F : Fun K "is_number" "is_number" s_is_number f fd) (T : TxR K mg C) (c_whole : WholeC P w K mg base) : FnOk P w K mg base CX0 4 f fd ["value"] (spNumber K C) := by
  refine F.ok sc_is_number (fun vs H Q E h => ?_) (fun cdv A outer s H vs Q E hr h => ?_)
  · obtain ⟨x, t, b1, b2, b3, rfl, _⟩ := h
    rfl
  · obtain ⟨x, t, b1, b2, b3, rfl, tx, k1, k2, k3, k⟩ := h
    refine ⟨_, (pss_one (ps_ret (pe_or (pe_cf c_whole hr (by decide) rfl (pa_cons (pv 0) pa_nil)) (pe_one (pe_callB (id := "isinstance") (call_isiK (K := K)) (by rfl) T.b_isinstance (by decide +kernel) (pa_cons (pv 0) (pa_cons (pe_glob (v := V.ref C) rfl T.g_Ratio rfl) pa_nil))))))), ?_⟩
    refine ⟨_, rfl, x, t, b1, b2, rfl, tx, k1, k2, _, rfl, ?_⟩
    cases e : (b1 && !b2) with
    | true =>
      refine iteT ?_
      rw [e] at k
      exact k
    | false =>
      refine iteF ?_
      rw [e] at k
      exact ⟨_, rfl, x, _, _, _, _, rfl, .own C, tx, k3, k⟩
abbrev NumberC (P : Program) (w : World) (K : PySem.W.Frag) (mg : Str → Option Value) (base : Heap) (C : Addr) : Prop := CalF P w K mg base 4 "is_number" (spNumber K C) []
/-! ### Ratio(top, bottom), where both are integers and the bottom is not 0 -/
def spInit (C : Addr) : Sp := fun vs H Q _ => ∃ (r dx : Addr) (a b : Int), vs = [.ref r, .int a, .int b] ∧ H r = some (.ins C dx []) ∧ b ≠ 0 ∧ Sm b ∧
  ∀ H', H' r = some (.ins C dx (flds (Rat.divInt a b))) → (∀ c o, H c = some o → c ≠ r → H' c = some o) → Q .non H'
theorem sc_Ratio___init__ : FnScope ["self", "top", "bottom", "given", "shared"] ["self", "top", "bottom"] (defScope s_Ratio___init__) := ⟨rfl, rfl, rfl, by decide +kernel, rfl, by decide +kernel, by decide +kernel⟩
theorem ok_init {f : Addr} {fd : FuncData} {dvs : List V} (F : FunD K "__init__" "Ratio.__init__" (defArgs s_Ratio___init__) (defBody s_Ratio___init__) (defScope s_Ratio___init__) dvs [] f fd) (T : TxR K mg C) (c_whole : WholeC P w K mg base) : FnOk P w K mg base CX0 4 f fd ["self", "top", "bottom"] (spInit C) := by
  refine F.ok sc_Ratio___init__ (fun vs H Q E h => ?_) (fun cdv A outer s H vs Q E hr h => ?_)
  · obtain ⟨r, dx, a, b, rfl, _⟩ := h
    rfl
  · obtain ⟨r, dx, a, b, rfl, hr0, hb, sb, k⟩ := h
    suffices hh : ∃ t, PSs (cxOf CX0 P w K mg base ["self", "top", "bottom", "given", "shared"] "Ratio.__init__" (defScope s_Ratio___init__) f cdv A outer s H E).nox (defBody s_Ratio___init__) t ∧ t { nx := fun _ H' => Q .non H', rt := Q } (start ["self", "top", "bottom", "given", "shared"] [.ref r, .int a, .int b]) H by
      obtain ⟨t, h1, h2⟩ := hh
      exact ⟨t, h1.nox, h2⟩
    refine ⟨_, (pss_cons (ps_for PassesOwn.never rfl (pi_tup (pe_tup (pa_cons (pv 1) (pa_cons (pv 2) pa_nil)))) (pg_name (i := 3) sc_Ratio___init__.nd rfl (Or.inl rfl))
  (pss_one (ps_if (pt_not (pt_val (pe_cf c_whole hr (by decide) rfl (pa_cons (pv 3) pa_nil)))) (pss_one ps_never)
  pss_nil)))
  (pss_cons (ps_if (pt_cmpR op_eq (pv 2) pe_int (nomark _)) (pss_one ps_never)
  pss_nil)
  (pss_cons (ps_set (i := 4) sc_Ratio___init__.nd rfl (Or.inl rfl) (pe_callBfun cr_gcd rfl T.g_gcd (pa_cons (pv 1) (pa_cons (pv 2) pa_nil))))
  (pss_cons (ps_cut (ps_if (pt_cmpR op_lt (pv 2) pe_int (nomark _)) (pss_one (ps_set (i := 4) sc_Ratio___init__.nd rfl (Or.inl rfl) (pe_un un_neg (pv 4))))
  pss_nil))
  (pss_cons (ps_fld (pv 0) (pe_op op_fdivZ (pv 1) (pv 4)) rfl)
  (pss_one (ps_fld (pv 0) (pe_op op_fdivZ (pv 2) (pv 4)) rfl))))))), ?_⟩
    -- for given in (top, bottom)
    refine ⟨_, rfl, _, rfl, by show 2 ≤ sizeLine; decide, fun t ht => ⟨t, rfl, ⟨_, SqT.of upd_same⟩, ?_⟩⟩
    have s1 : Same H (upd H t (.tup [.int a, .int b])) := MG.Same.new (Same.refl H) ht
    refine for_tup (K := K) (a := t) (xs := [.int a, .int b]) (fun i σ H' => H' = upd H t (.tup [.int a, .int b]) ∧ ∃ v : Option V, σ = [some (.ref r), some (.int a), some (.int b), v, none]) ⟨rfl, none, rfl⟩ ?_ ?_ ?_
    · rintro i σ H' _ ⟨rfl, _⟩
      exact SqT.of upd_same
    · rintro i x σ H' hx ⟨rfl, v, rfl⟩
      obtain ⟨z, rfl⟩ : ∃ z, x = V.int z := by
        match i, hx with
        | 0, hx => exact ⟨a, (Option.some.inj hx).symm⟩
        | 1, hx => exact ⟨b, (Option.some.inj hx).symm⟩
      refine ⟨_, rfl, _, _, true, false, rfl, tyx_int z, kit_ty (by decide +kernel), kit_ty (by decide +kernel), _, rfl, ?_⟩
      exact ⟨rfl, _, rfl⟩
    · rintro σ H' ⟨rfl, v, rfl⟩
      -- if bottom == 0
      refine ⟨_, rfl, rfl, _, rfl, ?_⟩
      refine ite2 (fun z => ?_) (fun _ => ?_)
      · exact absurd (V.int.inj (of_decide_eq_true z)) hb
      -- shared = gcd(top, bottom); if bottom < 0: shared = -shared
      refine ⟨_, rfl, _, rfl, a, b, rfl, ?_⟩
      refine ⟨fun σ H' => H' = upd H t (.tup [.int a, .int b]) ∧ σ = [some (.ref r), some (.int a), some (.int b), v, some (.int (gd a b))], ?_, ?_⟩
      · refine ⟨_, rfl, _, _, rfl, rfl, _, rfl, ?_⟩
        refine ite2 (fun z => ?_) (fun z => ?_)
        · refine ⟨_, rfl, _, rfl, rfl, ?_⟩
          have hz : b < 0 := of_decide_eq_true z
          unfold gd
          rw [if_neg (by omega)]
          rfl
        · refine ⟨rfl, ?_⟩
          have hz : ¬ b < 0 := fun q => z (decide_eq_true q)
          unfold gd
          rw [if_pos (by omega)]
          rfl
      rintro σ H' ⟨rfl, rfl⟩
      have ds := sm_div (gd_sm (a := a) hb sb) (gd_ne hb)
      have hr1 := s1 _ _ hr0
      -- self._top = top // shared; self._bottom = bottom // shared
      refine ⟨_, rfl, _, rfl, _, _, rfl, rfl, ds, _, rfl, r, C, dx, _, rfl, hr1, T.cl, T.nT, (by show 0 < 1000; decide), ?_⟩
      refine ⟨_, rfl, _, rfl, _, _, rfl, rfl, ds, _, rfl, r, C, dx, _, rfl, upd_same, T.cl, T.nB, (by show 1 < 1000; decide), ?_⟩
      refine k _ ?_ fun c o hc hne => ?_
      · rw [upd_same, flds_put, lo_num hb, lo_den hb]
        rfl
      · rw [upd_ne hne, upd_ne hne]
        exact s1 _ _ hc
abbrev Rat2C (P : Program) (w : World) (K : PySem.W.Frag) (mg : Str → Option Value) (base : Heap) (C : Addr) : Prop := MakF P w K mg base 4 "Ratio" C (spInit C) []
abbrev Rat1C (P : Program) (w : World) (K : PySem.W.Frag) (mg : Str → Option Value) (base : Heap) (C : Addr) : Prop := MakF P w K mg base 4 "Ratio" C (spInit C) [.int 1]
/-- the reading of Ratio(a, b) -/
theorem make_rat {H : Hp} {a b : Int} {Q : VK} (hb : b ≠ 0) (sb : Sm b) (k : ∀ r H', H r = none → Same H H' → RatAt C H' r (Rat.divInt a b) → Q (.ref r) H') :
    ∀ x dx, H x = none → H dx = none → dx ≠ x → spInit C [.ref x, .int a, .int b] (upd (upd H dx (.own x)) x (.ins C dx [])) (fun v H2 => v = .non ∧ Q (.ref x) H2) E0 := by
  intro x dx hx hdx hne
  refine ⟨x, dx, a, b, rfl, upd_same, hb, sb, fun H' e kp => ⟨rfl, k x H' hx (fun c o hc => ?_) ⟨dx, e⟩⟩⟩
  have n1 := ne_of_none hc hx
  have n2 := ne_of_none hc hdx
  exact kp c o (by rw [upd_ne n1, upd_ne n2]; exact hc) n1
/-! ### to_ratio -/
/-- a number: a Ratio, or an int -/
def NumAt (C : Addr) (H : Hp) (y : V) (q : Rat) : Prop := (∃ r, y = .ref r ∧ RatAt C H r q) ∨ ∃ z : Int, y = .int z ∧ q = Rat.divInt z 1
theorem NumAt.same {H H' : Hp} {y : V} {q : Rat} (h : NumAt C H y q) (s : Same H H') : NumAt C H' y q := by
  rcases h with ⟨r, e, h⟩ | h
  · exact .inl ⟨r, e, h.same s⟩
  · exact .inr h
theorem NumAt.is {H : Hp} {y : V} {q : Rat} (T : TxR K mg C) (h : NumAt C H y q) : ∃ t b1 b2 b3, TyX K H y t ∧ PySem.W.kitOne K t (.type "int") = some b1 ∧ PySem.W.kitOne K t (.type "bool") = some b2 ∧
    PySem.W.kitOne K t (.ref C) = some b3 ∧ ((b1 && !b2) || b3) = true := by
  rcases h with ⟨r, rfl, h⟩ | ⟨z, rfl, _⟩
  · exact ⟨_, _, _, _, h.tyx T, T.kI, T.kB, T.kC, rfl⟩
  · exact ⟨_, true, false, _, tyx_int z, kit_ty (by decide +kernel), kit_ty (by decide +kernel), T.iC, rfl⟩
def spTo (C : Addr) : Sp := fun vs H Q _ => ∃ (y : V) (q : Rat), vs = [y] ∧ NumAt C H y q ∧ ∀ r H', Same H H' → RatAt C H' r q → Q (.ref r) H'
theorem sc_to_ratio : FnScope ["number"] ["number"] (defScope s_to_ratio) := ⟨rfl, rfl, rfl, by decide +kernel, rfl, by decide +kernel, by decide +kernel⟩
theorem ok_to {f : Addr} {fd : FuncData} (F : Fun K "to_ratio" "to_ratio" s_to_ratio f fd) (T : TxR K mg C) (m_rat1 : Rat1C P w K mg base C) : FnOk P w K mg base CX0 6 f fd ["number"] (spTo C) := by
  refine F.ok sc_to_ratio (fun vs H Q E h => ?_) (fun cdv A outer s H vs Q E hr h => ?_)
  · obtain ⟨y, q, rfl, _⟩ := h
    rfl
  · obtain ⟨y, q, rfl, hy, k⟩ := h
    refine ⟨_, (pss_cons (ps_if (pt_val (pe_callB (id := "isinstance") (call_isiK (K := K)) (by rfl) T.b_isinstance (by decide +kernel) (pa_cons (pv 0) (pa_cons (pe_glob (v := V.ref C) rfl T.g_Ratio rfl) pa_nil)))) (pss_one (ps_ret (pv 0)))
  pss_nil)
  (pss_one (ps_ret (pe_mkf m_rat1 hr (by decide) rfl (pa_cons (pv 0) pa_nil))))), ?_⟩
    rcases hy with ⟨r, rfl, h⟩ | ⟨z, rfl, rfl⟩
    · refine ⟨_, rfl, _, _, _, _, _, rfl, .own C, h.tyx T, T.kC, _, rfl, ?_⟩
      refine iteT ?_
      exact ⟨_, rfl, k r H (Same.refl H) h⟩
    · refine ⟨_, rfl, _, _, _, _, _, rfl, .own C, tyx_int z, T.iC, _, rfl, ?_⟩
      refine iteF ?_
      refine ⟨_, rfl, ?_⟩
      exact make_rat (by decide) (sm_lt (k := 1) (by decide) (by decide) (by decide)) fun r H' _ s h => k r H' s h
abbrev ToC (P : Program) (w : World) (K : PySem.W.Frag) (mg : Str → Option Value) (base : Heap) (C : Addr) : Prop := CalF P w K mg base 6 "to_ratio" (spTo C) []

/-! ### the operators -/
def spBin (C : Addr) (g : Rat → Rat → Rat) : Sp := fun vs H Q _ => ∃ (r : Addr) (y : V) (p q : Rat), vs = [.ref r, y] ∧ RatAt C H r p ∧ NumAt C H y q ∧ Bd p 150 ∧ Bd q 150 ∧
  ∀ r' H', Same H H' → RatAt C H' r' (g p q) → Q (.ref r') H'
theorem sc_Ratio___add__ : FnScope ["self", "other", "more", "top"] ["self", "other"] (defScope s_Ratio___add__) := ⟨rfl, rfl, rfl, by decide +kernel, rfl, by decide +kernel, by decide +kernel⟩
theorem ok_add {f : Addr} {fd : FuncData} (F : Fun K "__add__" "Ratio.__add__" s_Ratio___add__ f fd) (T : TxR K mg C) (c_number : NumberC P w K mg base C) (c_to : ToC P w K mg base C) (m_rat2 : Rat2C P w K mg base C) : FnOk P w K mg base CX0 8 f fd ["self", "other"] (spBin C fun p q => p + q) := by
  refine F.ok sc_Ratio___add__ (fun vs H Q E h => ?_) (fun cdv A outer s H vs Q E hr h => ?_)
  · obtain ⟨r, y, p, q, rfl, _⟩ := h
    rfl
  · obtain ⟨r, y, p, q, rfl, hp, hy, bp, bq, k⟩ := h
    refine ⟨_, (pss_cons (ps_if (pt_not (pt_val (pe_cf c_number hr (by decide) rfl (pa_cons (pv 1) pa_nil)))) (pss_one ps_never)
  pss_nil)
  (pss_cons (ps_set (i := 2) sc_Ratio___add__.nd rfl (Or.inl rfl) (pe_cf c_to hr (by decide) rfl (pa_cons (pv 1) pa_nil)))
  (pss_cons (ps_set (i := 3) sc_Ratio___add__.nd rfl (Or.inl rfl) (pe_op op_add (pe_op op_mulW (pe_fld (pv 0) rfl) (pe_fld (pv 2) rfl)) (pe_op op_mulW (pe_fld (pv 2) rfl) (pe_fld (pv 0) rfl))))
  (pss_one (ps_ret (pe_mkf m_rat2 hr (by decide) rfl (pa_cons (pv 3) (pa_cons (pe_op op_mulW (pe_fld (pv 0) rfl) (pe_fld (pv 2) rfl)) pa_nil)))))))), ?_⟩
    obtain ⟨ty, b1, b2, b3, h1, h2, h3, h4, h5⟩ := hy.is T
    refine ⟨_, rfl, y, ty, b1, b2, b3, rfl, h1, h2, h3, h4, _, rfl, ?_⟩
    rw [h5]
    refine iteF ?_
    refine ⟨_, rfl, y, q, rfl, hy, fun r2 H1 s1 h2 => ?_⟩
    obtain ⟨d1, e1⟩ := hp.same s1
    obtain ⟨d2, e2⟩ := id h2
    refine ⟨_, rfl, r, C, d1, _, _, rfl, e1, T.cl, T.nT, flds_top p, _, rfl, r2, C, d2, _, _, rfl, e2, T.cl, T.nB, flds_bottom q, _, _, rfl, rfl, sm_mul (bp.num (by decide)) (bq.den (by decide)), ?_⟩
    refine ⟨_, rfl, r2, C, d2, _, _, rfl, e2, T.cl, T.nT, flds_top q, _, rfl, r, C, d1, _, _, rfl, e1, T.cl, T.nB, flds_bottom p, _, _, rfl, rfl, sm_mul (bq.num (by decide)) (bp.den (by decide)), _, _, rfl, rfl, ?_⟩
    refine ⟨_, rfl, _, rfl, r, C, d1, _, _, rfl, e1, T.cl, T.nB, flds_bottom p, _, rfl, r2, C, d2, _, _, rfl, e2, T.cl, T.nB, flds_bottom q, _, _, rfl, rfl, sm_mul (bp.den (by decide)) (bq.den (by decide)), ?_⟩
    refine make_rat (den_ne p q) (sm_den2 bp bq (by decide)) fun r' H' _ s h => k r' H' (s1.trans s) ?_
    show RatAt C H' r' (p + q)
    rw [add_eq]
    exact h
theorem sc_Ratio___sub__ : FnScope ["self", "other", "less", "top"] ["self", "other"] (defScope s_Ratio___sub__) := ⟨rfl, rfl, rfl, by decide +kernel, rfl, by decide +kernel, by decide +kernel⟩
theorem ok_sub {f : Addr} {fd : FuncData} (F : Fun K "__sub__" "Ratio.__sub__" s_Ratio___sub__ f fd) (T : TxR K mg C) (c_number : NumberC P w K mg base C) (c_to : ToC P w K mg base C) (m_rat2 : Rat2C P w K mg base C) : FnOk P w K mg base CX0 8 f fd ["self", "other"] (spBin C fun p q => p - q) := by
  refine F.ok sc_Ratio___sub__ (fun vs H Q E h => ?_) (fun cdv A outer s H vs Q E hr h => ?_)
  · obtain ⟨r, y, p, q, rfl, _⟩ := h
    rfl
  · obtain ⟨r, y, p, q, rfl, hp, hy, bp, bq, k⟩ := h
    refine ⟨_, (pss_cons (ps_if (pt_not (pt_val (pe_cf c_number hr (by decide) rfl (pa_cons (pv 1) pa_nil)))) (pss_one ps_never)
  pss_nil)
  (pss_cons (ps_set (i := 2) sc_Ratio___sub__.nd rfl (Or.inl rfl) (pe_cf c_to hr (by decide) rfl (pa_cons (pv 1) pa_nil)))
  (pss_cons (ps_set (i := 3) sc_Ratio___sub__.nd rfl (Or.inl rfl) (pe_op op_sub (pe_op op_mulW (pe_fld (pv 0) rfl) (pe_fld (pv 2) rfl)) (pe_op op_mulW (pe_fld (pv 2) rfl) (pe_fld (pv 0) rfl))))
  (pss_one (ps_ret (pe_mkf m_rat2 hr (by decide) rfl (pa_cons (pv 3) (pa_cons (pe_op op_mulW (pe_fld (pv 0) rfl) (pe_fld (pv 2) rfl)) pa_nil)))))))), ?_⟩
    obtain ⟨ty, b1, b2, b3, h1, h2, h3, h4, h5⟩ := hy.is T
    refine ⟨_, rfl, y, ty, b1, b2, b3, rfl, h1, h2, h3, h4, _, rfl, ?_⟩
    rw [h5]
    refine iteF ?_
    refine ⟨_, rfl, y, q, rfl, hy, fun r2 H1 s1 h2 => ?_⟩
    obtain ⟨d1, e1⟩ := hp.same s1
    obtain ⟨d2, e2⟩ := id h2
    refine ⟨_, rfl, r, C, d1, _, _, rfl, e1, T.cl, T.nT, flds_top p, _, rfl, r2, C, d2, _, _, rfl, e2, T.cl, T.nB, flds_bottom q, _, _, rfl, rfl, sm_mul (bp.num (by decide)) (bq.den (by decide)), ?_⟩
    refine ⟨_, rfl, r2, C, d2, _, _, rfl, e2, T.cl, T.nT, flds_top q, _, rfl, r, C, d1, _, _, rfl, e1, T.cl, T.nB, flds_bottom p, _, _, rfl, rfl, sm_mul (bq.num (by decide)) (bp.den (by decide)), _, _, rfl, rfl, ?_⟩
    refine ⟨_, rfl, _, rfl, r, C, d1, _, _, rfl, e1, T.cl, T.nB, flds_bottom p, _, rfl, r2, C, d2, _, _, rfl, e2, T.cl, T.nB, flds_bottom q, _, _, rfl, rfl, sm_mul (bp.den (by decide)) (bq.den (by decide)), ?_⟩
    refine make_rat (den_ne p q) (sm_den2 bp bq (by decide)) fun r' H' _ s h => k r' H' (s1.trans s) ?_
    show RatAt C H' r' (p - q)
    rw [sub_eq]
    exact h
theorem sc_Ratio___mul__ : FnScope ["self", "other", "factor"] ["self", "other"] (defScope s_Ratio___mul__) := ⟨rfl, rfl, rfl, by decide +kernel, rfl, by decide +kernel, by decide +kernel⟩
theorem ok_mul {f : Addr} {fd : FuncData} (F : Fun K "__mul__" "Ratio.__mul__" s_Ratio___mul__ f fd) (T : TxR K mg C) (c_number : NumberC P w K mg base C) (c_to : ToC P w K mg base C) (m_rat2 : Rat2C P w K mg base C) : FnOk P w K mg base CX0 8 f fd ["self", "other"] (spBin C fun p q => p * q) := by
  refine F.ok sc_Ratio___mul__ (fun vs H Q E h => ?_) (fun cdv A outer s H vs Q E hr h => ?_)
  · obtain ⟨r, y, p, q, rfl, _⟩ := h
    rfl
  · obtain ⟨r, y, p, q, rfl, hp, hy, bp, bq, k⟩ := h
    refine ⟨_, (pss_cons (ps_if (pt_not (pt_val (pe_cf c_number hr (by decide) rfl (pa_cons (pv 1) pa_nil)))) (pss_one ps_never)
  pss_nil)
  (pss_cons (ps_set (i := 2) sc_Ratio___mul__.nd rfl (Or.inl rfl) (pe_cf c_to hr (by decide) rfl (pa_cons (pv 1) pa_nil)))
  (pss_one (ps_ret (pe_mkf m_rat2 hr (by decide) rfl (pa_cons (pe_op op_mulW (pe_fld (pv 0) rfl) (pe_fld (pv 2) rfl)) (pa_cons (pe_op op_mulW (pe_fld (pv 0) rfl) (pe_fld (pv 2) rfl)) pa_nil))))))), ?_⟩
    obtain ⟨ty, b1, b2, b3, h1, h2, h3, h4, h5⟩ := hy.is T
    refine ⟨_, rfl, y, ty, b1, b2, b3, rfl, h1, h2, h3, h4, _, rfl, ?_⟩
    rw [h5]
    refine iteF ?_
    refine ⟨_, rfl, y, q, rfl, hy, fun r2 H1 s1 h2 => ?_⟩
    obtain ⟨d1, e1⟩ := hp.same s1
    obtain ⟨d2, e2⟩ := id h2
    refine ⟨_, rfl, r, C, d1, _, _, rfl, e1, T.cl, T.nT, flds_top p, _, rfl, r2, C, d2, _, _, rfl, e2, T.cl, T.nT, flds_top q, _, _, rfl, rfl, sm_mul (bp.num (by decide)) (bq.num (by decide)), ?_⟩
    refine ⟨_, rfl, r, C, d1, _, _, rfl, e1, T.cl, T.nB, flds_bottom p, _, rfl, r2, C, d2, _, _, rfl, e2, T.cl, T.nB, flds_bottom q, _, _, rfl, rfl, sm_mul (bp.den (by decide)) (bq.den (by decide)), ?_⟩
    refine make_rat (den_ne p q) (sm_den2 bp bq (by decide)) fun r' H' _ s h => k r' H' (s1.trans s) ?_
    show RatAt C H' r' (p * q)
    rw [mul_eq]
    exact h
def spNeg (C : Addr) : Sp := fun vs H Q _ => ∃ (r : Addr) (p : Rat), vs = [.ref r] ∧ RatAt C H r p ∧ Bd p 390 ∧ ∀ r' H', Same H H' → RatAt C H' r' (-p) → Q (.ref r') H'
theorem sc_Ratio___neg__ : FnScope ["self"] ["self"] (defScope s_Ratio___neg__) := ⟨rfl, rfl, rfl, by decide +kernel, rfl, by decide +kernel, by decide +kernel⟩
theorem ok_neg {f : Addr} {fd : FuncData} (F : Fun K "__neg__" "Ratio.__neg__" s_Ratio___neg__ f fd) (T : TxR K mg C) (m_rat2 : Rat2C P w K mg base C) : FnOk P w K mg base CX0 8 f fd ["self"] (spNeg C) := by
  refine F.ok sc_Ratio___neg__ (fun vs H Q E h => ?_) (fun cdv A outer s H vs Q E hr h => ?_)
  · obtain ⟨r, p, rfl, _⟩ := h
    rfl
  · obtain ⟨r, p, rfl, hp, bp, k⟩ := h
    refine ⟨_, (pss_one (ps_ret (pe_mkf m_rat2 hr (by decide) rfl (pa_cons (pe_un un_neg (pe_fld (pv 0) rfl)) (pa_cons (pe_fld (pv 0) rfl) pa_nil))))), ?_⟩
    obtain ⟨d1, e1⟩ := id hp
    refine ⟨_, rfl, r, C, d1, _, _, rfl, e1, T.cl, T.nT, flds_top p, _, rfl, _, rfl, r, C, d1, _, _, rfl, e1, T.cl, T.nB, flds_bottom p, ?_⟩
    refine make_rat (by have := p.den_nz; omega) (bp.den (by decide)) fun r' H' _ s h => k r' H' s ?_
    rw [neg_eq]
    exact h
def spEqR (K : PySem.W.Frag) (C : Addr) : Sp := fun vs H Q _ => ∃ (r : Addr) (p : Rat) (y : V), vs = [.ref r, y] ∧ RatAt C H r p ∧
  ((∃ r2 q, y = .ref r2 ∧ RatAt C H r2 q ∧ Q (.bl (decide (p = q))) H) ∨ ∃ t, TyX K H y t ∧ PySem.W.kitOne K t (.ref C) = some false ∧ Q (.bl false) H)
theorem sc_Ratio___eq__ : FnScope ["self", "other"] ["self", "other"] (defScope s_Ratio___eq__) := ⟨rfl, rfl, rfl, by decide +kernel, rfl, by decide +kernel, by decide +kernel⟩
theorem ok_eq {f : Addr} {fd : FuncData} (F : Fun K "__eq__" "Ratio.__eq__" s_Ratio___eq__ f fd) (T : TxR K mg C) : FnOk P w K mg base CX0 2 f fd ["self", "other"] (spEqR K C) := by
  refine F.ok sc_Ratio___eq__ (fun vs H Q E h => ?_) (fun cdv A outer s H vs Q E hr h => ?_)
  · obtain ⟨r, p, y, rfl, _⟩ := h
    rfl
  · obtain ⟨r, p, y, rfl, hp, h⟩ := h
    refine ⟨_, (pss_one (ps_ret (pe_and (pe_callB (id := "isinstance") (call_isiK (K := K)) (by rfl) T.b_isinstance (by decide +kernel) (pa_cons (pv 1) (pa_cons (pe_glob (v := V.ref C) rfl T.g_Ratio rfl) pa_nil))) (pe_and (pe_cmpR op_eq (pe_fld (pv 0) rfl) (pe_fld (pv 1) rfl) (nomark _)) (pe_one (pe_cmpR op_eq (pe_fld (pv 0) rfl) (pe_fld (pv 1) rfl) (nomark _))))))), ?_⟩
    obtain ⟨d1, e1⟩ := id hp
    rcases h with ⟨r2, q, rfl, hq, k⟩ | ⟨t, ty, ki, k⟩
    · obtain ⟨d2, e2⟩ := id hq
      refine ⟨_, rfl, _, _, _, _, _, rfl, .own C, hq.tyx T, T.kC, _, rfl, ?_⟩
      refine iteT ?_
      refine ⟨_, rfl, r, C, d1, _, _, rfl, e1, T.cl, T.nT, flds_top p, _, rfl, r2, C, d2, _, _, rfl, e2, T.cl, T.nT, flds_top q, rfl, _, rfl, ?_⟩
      rw [rat_dec] at k
      have en : decide (V.int p.num = V.int q.num) = decide (p.num = q.num) := by simp
      have ed : decide (V.int p.den = V.int q.den) = decide ((p.den : Int) = q.den) := by simp
      rw [en]
      cases e : decide (p.num = q.num) with
      | false =>
        rw [e] at k
        exact iteF k
      | true =>
        rw [e, Bool.true_and] at k
        refine iteT ?_
        refine ⟨_, rfl, r, C, d1, _, _, rfl, e1, T.cl, T.nB, flds_bottom p, _, rfl, r2, C, d2, _, _, rfl, e2, T.cl, T.nB, flds_bottom q, rfl, ?_⟩
        rw [ed]
        exact k
    · refine ⟨_, rfl, _, _, _, _, _, rfl, .own C, ty, ki, _, rfl, ?_⟩
      exact iteF k
def spTop (C : Addr) : Sp := fun vs H Q _ => ∃ (r : Addr) (p : Rat), vs = [.ref r] ∧ RatAt C H r p ∧ Q (.int p.num) H
def spBottom (C : Addr) : Sp := fun vs H Q _ => ∃ (r : Addr) (p : Rat), vs = [.ref r] ∧ RatAt C H r p ∧ Q (.int p.den) H
theorem sc_Ratio_top : FnScope ["self"] ["self"] (defScope s_Ratio_top) := ⟨rfl, rfl, rfl, by decide +kernel, rfl, by decide +kernel, by decide +kernel⟩
theorem ok_top {f : Addr} {fd : FuncData} (F : Fun K "top" "Ratio.top" s_Ratio_top f fd) (T : TxR K mg C) : FnOk P w K mg base CX0 2 f fd ["self"] (spTop C) := by
  refine F.ok sc_Ratio_top (fun vs H Q E h => ?_) (fun cdv A outer s H vs Q E hr h => ?_)
  · obtain ⟨r, p, rfl, _⟩ := h
    rfl
  · obtain ⟨r, p, rfl, ⟨d1, e1⟩, k⟩ := h
    exact ⟨_, (pss_one (ps_ret (pe_fld (pv 0) rfl))), _, rfl, r, C, d1, _, _, rfl, e1, T.cl, T.nT, flds_top p, k⟩
theorem sc_Ratio_bottom : FnScope ["self"] ["self"] (defScope s_Ratio_bottom) := ⟨rfl, rfl, rfl, by decide +kernel, rfl, by decide +kernel, by decide +kernel⟩
theorem ok_bottom {f : Addr} {fd : FuncData} (F : Fun K "bottom" "Ratio.bottom" s_Ratio_bottom f fd) (T : TxR K mg C) : FnOk P w K mg base CX0 2 f fd ["self"] (spBottom C) := by
  refine F.ok sc_Ratio_bottom (fun vs H Q E h => ?_) (fun cdv A outer s H vs Q E hr h => ?_)
  · obtain ⟨r, p, rfl, _⟩ := h
    rfl
  · obtain ⟨r, p, rfl, ⟨d1, e1⟩, k⟩ := h
    exact ⟨_, (pss_one (ps_ret (pe_fld (pv 0) rfl))), _, rfl, r, C, d1, _, _, rfl, e1, T.cl, T.nB, flds_bottom p, k⟩
end
end Lw

/-! own errors with their own __init__, raised, caught, read; calls in a try; things of any kind -/
namespace MG
open PySem PySem.Spec PyProof.Rows L2

theorem TyX.same {K : PySem.W.Frag} {H H' : Hp} {x : V} {t : Value} (h : TyX K H x t) (s : Same H H') : TyX K H' x t := by
  cases h with
  | base h =>
    cases h with
    | non => exact .base .non
    | bl x => exact .base (.bl x)
    | int i => exact .base (.int i)
    | str x => exact .base (.str x)
    | flt x => exact .base (.flt x)
    | lst e => exact .base (.lst (s _ _ e))
    | frz e => exact .base (.frz (s _ _ e))
    | tup e => exact .base (.tup (s _ _ e))
    | dK e => exact .base (.dK (s _ _ e))
    | dT e => exact .base (.dT (s _ _ e))
    | ins e cl ha hn htk hm => exact .base (.ins (s _ _ e) cl ha hn htk hm)
  | byt b => exact .byt b
  | set e => exact .set (s _ _ e)
  | kList e c => exact .kList e c
  | kTuple e c => exact .kTuple e c
  | kDict e c => exact .kDict e c
  | fTuple e => exact .fTuple (s _ _ e)
  | fDict e => exact .fDict (s _ _ e)

section
variable {X : Cx} {CX : CXT} {k : Nat} {f C : Addr} {fd : FuncData} {ps : List Str} {sp : Sp} {dvs : List V} {ds : List Value} {E : L2.St → XK} {x m : Str} {p pos apos : Pos} {e o : Expr} {es : List Expr} {ta : TE} {t : TA}
/-- C(..) in a try: what is raised is wished for at the slots -/
def tMakeS (C : Addr) (sp : Sp) (dvs : List V) (E : L2.St → XK) (t : TA) : TE := fun σ H Q => t σ H fun vs H1 => ∀ x dx, H1 x = none → H1 dx = none → dx ≠ x →
  sp (.ref x :: (vs ++ dvs)) (upd (upd H1 dx (.own x)) x (.ins C dx [])) (fun v H2 => v = .non ∧ Q (.ref x) H2) (E σ)
/-- o.m(..) in a try -/
def tMethS (C : Addr) (m : Str) (sp : Sp) (dvs : List V) (E : L2.St → XK) (ta : TE) (t : TA) : TE := fun σ H Q => ta σ H fun x H1 => ∃ a dx fs, x = .ref a ∧ H1 a = some (.ins C dx fs) ∧ fs.lookup m = none ∧
  t σ H1 fun vs H2 => sp (x :: (vs ++ dvs)) H2 Q (E σ)
theorem run_fnS' {pins : List (Addr × Obj)} {σ : L2.St} {H : Hp} {s : Shared} {Q : VK} {us : List Value} {vs : List V} (F : FnOk X.prog X.w X.K X.mg X.base CX k f fd ps sp) (hr : Room k X.A) (hb : Binds X.K fd ps ds) (hd : Vals dvs ds) (hx : PassesAt CX X σ (E σ))
    (I : Inv X pins σ H s) (r : Vals vs us) (h : sp (vs ++ dvs) H Q (E σ)) : wpAny (model X.prog X.w) X.A (call (.ref f) us) (EP X pins σ Q) X.xe s := by
  have r2 : Vals (vs ++ dvs) (us ++ ds) := r.append hd
  have hl : (us ++ ds).length = ps.length := by rw [← r2.length]; exact F.len _ _ _ _ h
  refine wpAny_call (codeAny_mono (F.run X.A X.stack s H ⟨us, []⟩ (us ++ ds) (vs ++ dvs) Q (E σ) hr I.env0 (hb s us I.kIn hl) r2 h) fun r s' hq => ?_)
  cases r with
  | error e => exact hx pins H s e s' I hq
  | ok fl =>
    cases fl with
    | ret u => exact I.after hq
    | next => exact False.elim hq
    | brk => exact False.elim hq
    | cont => exact False.elim hq
theorem pe_makeS (M : Mk X.K C f) (F : FnOk X.prog X.w X.K X.mg X.base CX k f fd ps sp) (hr : Room (k + 1) X.A) (hg : Gl X x) (hm : X.mg x = some (.ref C)) (hb : Binds X.K fd ps ds) (hd : Vals dvs ds) (hx : ∀ σ, PassesAt CX X σ (E σ))
    (ha : PA X (e :: es) t) (hdb : (x == ("__debug__" : Str)) = false := by decide) (he : starEach (e :: es) X.env = (false, eval e X.env) :: starEach es X.env := by rfl) (hpl : (backTo pos (starEach es X.env)).any (·.1) = false := by rfl) :
    PE X (.Call (.Name x p) (e :: es) [] pos) (tMakeS C sp dvs E t) := by
  refine ⟨fun pins s σ H Q I h => ?_⟩
  refine wpAny_Call_Name_kw (ld_glob I hg hm ?_ hdb)
  refine PySem.W.callWith_K (h₀ := X.base) I.ok.mod.kin M.kp (thn (ha.run pos pins s σ H _ I h) fun us s1 ⟨vs, H1, I1, r, q⟩ => ⟨I1.kIn, ?_⟩) he hpl
  have hq := q (s1.heap.objs.size + 1) s1.heap.objs.size (I1.hok.fresh (Nat.le_succ _)) (I1.hok.fresh (Nat.le_refl _)) (Nat.ne_of_lt (Nat.lt_succ_self _))
  have I2 := Inv.made (C := C) I1
  have r2 : Vals (V.ref (s1.heap.objs.size + 1) :: (vs ++ dvs)) (Value.ref (s1.heap.objs.size + 1) :: (us ++ ds)) := .cons rfl (r.append hd)
  have hl : (Value.ref (s1.heap.objs.size + 1) :: us ++ ds).length = ps.length := by
    have e := r2.length
    rw [F.len _ _ _ _ hq] at e
    exact e.symm
  refine wpAny_call (make_map (f := f) I1.kIn M.makes M.init (beq_iff_eq.mp M.fn) (codeAny_mono (F.run _ X.stack _ _ ⟨Value.ref (s1.heap.objs.size + 1) :: us, []⟩ (Value.ref (s1.heap.objs.size + 1) :: (us ++ ds)) _ _ (E σ) (hr.make C us [])
    (I2.env0.make C us []) (hb _ (Value.ref (s1.heap.objs.size + 1) :: us) I2.kIn hl) r2 hq) fun r s' hq' => ?_))
  cases r with
  | error e => exact hx σ pins _ _ e s' I2 hq'
  | ok fl =>
    cases fl with
    | ret u =>
      obtain ⟨v, H', I3, rv, ev, q3⟩ := I2.after hq'
      subst ev
      exact ⟨rv, ⟨V.ref (s1.heap.objs.size + 1), H', I3, rfl, q3⟩⟩
    | next => exact False.elim hq'
    | brk => exact False.elim hq'
    | cont => exact False.elim hq'
theorem pe_methS {pl : Sem Bool} (he : PE X o ta) (c : Cls X.K C) (hm : Meth X.K C m f) (F : FnOk X.prog X.w X.K X.mg X.base CX k f fd ps sp) (hr : Room k X.A) (hb : Binds X.K fd ps ds) (hd : Vals dvs ds) (hx : ∀ σ, PassesAt CX X σ (E σ)) (ha : PA X (e :: es) t)
    (hst : starEach (e :: es) X.env = (false, eval e X.env) :: starEach es X.env := by rfl) (hpl : (backTo pos (starEach es X.env)).any (·.1) = false := by rfl)
    (ht : eval (.Call (.Attribute o m apos) (e :: es) [] pos) X.env = (do
      let ov ← eval o X.env
      standAt apos.atName
      let (f, first) ← holding [ov] (getMethod ov m pl)
      callWith pos f first (backTo pos (starEach (e :: es) X.env)) (backToKw pos (keywordEach [] X.env))) := by rfl) :
    PE X (.Call (.Attribute o m apos) (e :: es) [] pos) (tMethS C m sp dvs E ta t) := by
  refine ⟨fun pins s σ H Q I h => ?_⟩
  refine PySem.W.methodCall_KW (pl := pl) (thn (he.run pins s σ H _ I h) fun u s1 ⟨x, H1, I1, rx, a, dx, fs, ex, ea, l, q⟩ => ?_) ht
  subst ex
  obtain rfl : u = Value.ref a := rx
  refine getmeth_ok I1 ea c hm l ?_
  refine PySem.W.callWith_K (first := [.ref a]) (h₀ := X.base) I.ok.mod.kin hm.kp (thn (ha.run pos pins s1 σ H1 _ I1 q) fun us s2 ⟨vs, H2, I2, r, q2⟩ => ⟨I2.kIn, ?_⟩) hst hpl
  exact run_fnS' (us := .ref a :: us) (vs := .ref a :: vs) F hr hb hd (hx σ) I2 (.cons rfl r) q2
end

/-! ### an error class with its own __init__: one field -/
def spXi (K : PySem.W.Frag) (C : Addr) (fl : Str) : Sp := fun vs H Q _ => ∃ (a : Addr) (y : V), vs = [.ref a, y] ∧ OexC K C ∧ PySem.W.findIn K (.ref C) fl = some none ∧ H a = some (exo a C none) ∧
  ∀ dx, H dx = none → dx ≠ a → Q .non (upd (upd H dx (exd dx [(fl, y)])) a (exo a C (some dx)))
/-- such a class, as those know it who raise it -/
structure ExcF (P : Program) (w : World) (K : PySem.W.Frag) (mg : Str → Option Value) (base : Heap) (k : Nat) (x : Str) (C : Addr) (fl : Str) : Prop where
  oex : OexC K C
  xf : XfC K C
  no : PySem.W.findIn K (.ref C) fl = some none
  g : mg x = some (.ref C)
  te : PySem.W.exmOne K (.ref C) (.ref C) = some true
  ex : ∃ (fI : Addr) (fd : FuncData) (ps : List Str), PySem.W.findIn K (.ref C) "__init__" = some (some (.ref fI)) ∧ PySem.W.typeIn K (.ref fI) = some (.type "function") ∧ FnOk P w K mg base CX0 k fI fd ps (spXi K C fl) ∧ Binds K fd ps []
section
variable {X : Cx} {k j : Nat} {C : Addr} {fl x : Str} {p pos : Pos} {e : Expr} {es : List Expr} {ta : TA}
/-- the error: its own dict d, new, holds the field -/
def tRx (C : Addr) (fl : Str) (ta : TA) : L2.St → Hp → XK → Prop := fun σ H Q => ta σ H fun vs H1 => ∃ y, vs = [y] ∧ ∀ d H', Same H1 H' → H1 d = none → H' d = some (.xd [(fl, y)]) → Q (.ref C) (some d) H'
theorem pmk_x (T : ExcF X.prog X.w X.K X.mg X.base k x C fl) (hr : Room j X.A) (hk : k + 1 ≤ j) (hg : Gl X x) (ha : PA X (e :: es) ta)
    (hdb : (x == ("__debug__" : Str)) = false := by decide) (he : starEach (e :: es) X.env = (false, eval e X.env) :: starEach es X.env := by rfl) (hpl : (backTo pos (starEach es X.env)).any (·.1) = false := by rfl) :
    L2N.PMk X (.Call (.Name x p) (e :: es) [] pos) (tRx C fl ta) := by
  intro pins s σ H Q I h
  obtain ⟨oex, xf, hno, hm, te, fI, fd, ps, iC, tI, F1, hb⟩ := T
  obtain ⟨nm, q, N, bs, bm, sn, sub, ab, col, dd, k0, k1, k2, k3, k5, hC, hbm⟩ := oex.cls
  refine wpAny_Call_Name_kw (ld_glob I hg hm ?_ hdb)
  refine PySem.W.callWith_K (h₀ := X.base) I.ok.mod.kin oex.kC (thn (ha.run pos pins s σ H _ I h) fun us s1 ⟨vs, H1, I1, r1, y, ev, q1⟩ => ⟨I1.kIn, ?_⟩) he hpl
  subst ev
  show wpAny _ _ (call (.ref C) us) _ _ _
  obtain ⟨hp, g, dr, tk, os⟩ := s1
  have hsz : hp.objs.size ≤ hp.objs.size + 1 := Nat.le_succ _
  have hn : H1 (hp.objs.size + 1) = none := I1.hok.fresh hsz
  have hq : spXi X.K C fl [.ref (hp.objs.size + 1), y] (upd H1 (hp.objs.size + 1) (exo (hp.objs.size + 1) C none))
      (fun v H2 => v = .non ∧ ∃ d, H2 (hp.objs.size + 1) = some (exo (hp.objs.size + 1) C (some d)) ∧ H2 d = some (exd d [(fl, y)]) ∧ H1 d = none ∧ Q (.ref C) (some d) (upd (del H2 (hp.objs.size + 1)) d (.xd [(fl, y)]))) (fun _ _ _ => False) := by
    refine ⟨_, y, rfl, oex, hno, upd_same, fun dx hdx ne => ⟨rfl, dx, upd_same, ?_, ?_, q1 dx _ ?_ ?_ ?_⟩⟩
    · rw [upd_ne ne, upd_same]
    · rw [upd_ne ne] at hdx
      exact hdx
    · intro b o hbo
      rw [upd_ne ne] at hdx
      rw [upd_ne (ne_of_none hbo hdx), del_ne (ne_of_none hbo hn), upd_ne (ne_of_none hbo hn), upd_ne (ne_of_none hbo hdx), upd_ne (ne_of_none hbo hn)]
      exact hbo
    · rw [upd_ne ne] at hdx
      exact hdx
    · exact upd_same
  have kk : ∀ b o, hp.get? b = some o → ((hp.push (PySem.W.kdv_tup us)).push (PySem.HandSPX.excO C hp.objs.size)).get? b = some o := fun b o e => Heap.get?_push_of_some _ (Heap.get?_push_of_some _ e)
  have hget : ((hp.push (PySem.W.kdv_tup us)).push (PySem.HandSPX.excO C hp.objs.size)).get? (hp.objs.size + 1) = some (PySem.HandSPX.excO C hp.objs.size) := by heap_get
  have I2 : Inv X pins σ (upd H1 (hp.objs.size + 1) (exo (hp.objs.size + 1) C none)) ⟨(hp.push (PySem.W.kdv_tup us)).push (PySem.HandSPX.excO C hp.objs.size), g, dr, tk, os⟩ :=
    I1.laid (t' := tk) (a := hp.objs.size + 1) (o := exo (hp.objs.size + 1) C none) (h' := (hp.push (PySem.W.kdv_tup us)).push (PySem.HandSPX.excO C hp.objs.size)) kk hsz (exo_ok hget)
  have r2 : Vals (V.ref (hp.objs.size + 1) :: [y]) (Value.ref (hp.objs.size + 1) :: us) := .cons rfl r1
  have hl : (Value.ref (hp.objs.size + 1) :: us ++ []).length = ps.length := by
    have e := r2.length
    have e2 := F1.len _ _ _ _ hq
    rw [List.append_nil, ← e]
    exact e2
  have hus : us.length ≤ sizeLine := by
    rw [← Paired.length r1, sizeLine_eq]
    show 1 ≤ _
    omega
  have b2 := hb _ (Value.ref (hp.objs.size + 1) :: us) I2.kIn hl
  rw [List.append_nil] at b2
  refine wpAny_call (PySem.HandSPX.call_own F.excBase_ValueError (fun Y => PySem.HandSPX.refsVE_contains Y bm hbm) (I1.kIn _ _ hC) (PySem.W.looks_findIn I1.kIn iC) (fun self => PySem.W.bind_fn I1.kIn self tI) hus
    (codeAny_mono (F1.run _ X.stack _ _ ⟨Value.ref (hp.objs.size + 1) :: us, []⟩ (Value.ref (hp.objs.size + 1) :: us) _ _ (fun _ _ _ => False) ((hr.mono hk).make C us []) (I2.env0.make C us []) b2 r2 hq) fun r s' hq' => ?_))
  cases r with
  | error er => exact False.elim hq'
  | ok fl' =>
    cases fl' with
    | ret u =>
      obtain ⟨v, H2, os2, bare2, un2, hok2, rv, ev, d, ea, ed, hd1, q2⟩ := hq'
      subst ev
      obtain ⟨h2, g2, d2, t2, os'⟩ := s'
      obtain ⟨t0, G, J, kG, ge, hoe, na⟩ := mk_end0 (d2 := d2) (t2 := t2) I1 hsz kk un2 hok2 os2 bare2 ea ed hd1
      exact ⟨rv, ⟨hp.objs.size + 1, _, _, ⟨G, g2, d2, t2, os'⟩, _, .ref C, some d, rfl, J, kG, ge, hoe, ⟨rfl, rfl, fun vs hv => by cases hv; rfl⟩, rfl, rfl, na, rfl, bare2, raises_own oex.exC oex.tyC, q2⟩⟩
    | next => exact False.elim hq'
    | brk => exact False.elim hq'
    | cont => exact False.elim hq'
theorem ps_raiseX {W : WX} {pos2 : Pos} (T : ExcF X.prog X.w X.K X.mg X.base k x C fl) (hr : Room j X.A) (hk : k + 1 ≤ j) (hc : X.calm = true) (tk : L2N.Takes X W) (hg : Gl X x) (ha : PA X (e :: es) ta)
    (hdb : (x == ("__debug__" : Str)) = false := by decide) (he : starEach (e :: es) X.env = (false, eval e X.env) :: starEach es X.env := by rfl) (hpl : (backTo pos (starEach es X.env)).any (·.1) = false := by rfl) :
    PS X (.Raise (some (.Call (.Name x p) (e :: es) [] pos)) none pos2) (fun _ σ H => tRx C fl ta σ H fun cls d H' => W cls d σ H') := L2N.ps_raise hc tk (pmk_x T hr hk hg ha hdb he hpl)
theorem takesN0 : L2N.Takes X (fun _ _ _ _ => False) := fun u s' ⟨_, _, _, _, _, _, _, _, _, _, _, _, _, _, _, _, w⟩ => w.elim
theorem hot_of {a : Addr} {oe : Obj} {cls : Value} {d : Option Addr} {pn : List (Addr × Obj)} (hz : L2N.Zn cls d oe) (hf : ∃ vs, oe.data = .fields vs) : L2H.HotC (X.suite a ((a, oe) :: pn)) := by
  obtain ⟨vs, e⟩ := hf
  exact ⟨(a, oe), ⟨rfl, vs, e, hz.2.2 vs e⟩, List.mem_cons_self⟩
end

/-- a class made by its name in a try; sp: its __init__, which may raise -/
structure MakX (P : Program) (w : World) (K : PySem.W.Frag) (mg : Str → Option Value) (base : Heap) (k : Nat) (x : Str) (C : Addr) (sp : Sp) : Prop where
  ex : ∃ (f : Addr) (fd : FuncData) (ps : List Str), Mk K C f ∧ FnOk P w K mg base (L2N.CX P w) k f fd ps sp ∧ mg x = some (.ref C) ∧ Binds K fd ps []
theorem pe_mkX {X : Cx} {W : WX} {k j : Nat} {x : Str} {C : Addr} {sp : Sp} {p pos : Pos} {e : Expr} {es : List Expr} {t : TA} (c : MakX X.prog X.w X.K X.mg X.base k x C sp) (hr : Room j X.A) (hk : k + 1 ≤ j) (tk : L2N.Takes X W) (hg : Gl X x) (ha : PA X (e :: es) t)
    (hdb : (x == ("__debug__" : Str)) = false := by decide) (he : starEach (e :: es) X.env = (false, eval e X.env) :: starEach es X.env := by rfl) (hpl : (backTo pos (starEach es X.env)).any (·.1) = false := by rfl) :
    PE X (.Call (.Name x p) (e :: es) [] pos) (tMakeS C sp [] (WE W) t) := by
  obtain ⟨f, fd, ps, M, F, hm, b⟩ := c.ex
  exact pe_makeS M F (hr.mono hk) hg hm b .nil (fun σ => L2N.passAt tk σ) ha hdb he hpl
/-- a method called in a try, which may raise -/
structure MetX (P : Program) (w : World) (K : PySem.W.Frag) (mg : Str → Option Value) (base : Heap) (k : Nat) (C : Addr) (m : Str) (sp : Sp) : Prop where
  ex : ∃ (f : Addr) (fd : FuncData) (ps : List Str), Meth K C m f ∧ FnOk P w K mg base (L2N.CX P w) k f fd ps sp ∧ Binds K fd ps []
theorem pe_metX {X : Cx} {W : WX} {k j : Nat} {C : Addr} {m : Str} {sp : Sp} {pos apos : Pos} {o : Expr} {e : Expr} {es : List Expr} {ta : TE} {t : TA} {pl : Sem Bool} (c : MetX X.prog X.w X.K X.mg X.base k C m sp) (cl : Cls X.K C) (hr : Room j X.A) (hk : k ≤ j) (tk : L2N.Takes X W) (he : PE X o ta) (ha : PA X (e :: es) t)
    (hst : starEach (e :: es) X.env = (false, eval e X.env) :: starEach es X.env := by rfl) (hpl : (backTo pos (starEach es X.env)).any (·.1) = false := by rfl)
    (ht : eval (.Call (.Attribute o m apos) (e :: es) [] pos) X.env = (do
      let ov ← eval o X.env
      standAt apos.atName
      let (f, first) ← holding [ov] (getMethod ov m pl)
      callWith pos f first (backTo pos (starEach (e :: es) X.env)) (backToKw pos (keywordEach [] X.env))) := by rfl) :
    PE X (.Call (.Attribute o m apos) (e :: es) [] pos) (tMethS C m sp [] (WE W) ta t) := by
  obtain ⟨f, fd, ps, M, F, b⟩ := c.ex
  exact pe_methS (pl := pl) he cl M F (hr.mono hk) b .nil (fun σ => L2N.passAt tk σ) ha hst hpl ht

/-- a def of the module as it is called within an except suite -/
theorem fun_okH {P : Program} {w : World} {K : PySem.W.Frag} {mg : Str → Option Value} {base : Heap} {x qual : Str} {st : Stmt} {f : Addr} {fd : FuncData} {N ps : List Str} {k : Nat} {sp : Sp} (F : Fun K x qual st f fd) (S : FnScope N ps (defScope st)) (len : ∀ vs H Q E, sp vs H Q E → vs.length = ps.length)
    (hbody : ∀ (cdv : Value) (A : Around) (outer : List Env) (s : Shared) (H : Hp) (vs : List V) (Q : VK) (E : XK) (p : Addr × Obj), L2H.RoomH k (A.deeper (envOfC qual (defScope st) s.heap.objs.size f cdv)) → sp vs H Q E →
      ∃ t, PSs (L2H.cxH CX0 P w K mg base N qual (defScope st) f cdv A outer s H E p).nox (defBody st) t ∧ t { nx := fun _ H' => Q .non H', rt := Q } (start N vs) H) : L2H.FnH P w K mg base CX0 (k + 1) f fd ps sp := by
  obtain ⟨oc, od, kV, doc, pm, an, cdv, ct, osl, rfl, lk, hcd⟩ := F.ex
  refine L2H.fn_ofH lk hcd S len ?_
  intro A outer s H vs Q E p hot hr hsp
  obtain ⟨t, h, q⟩ := hbody cdv A outer s H vs Q E p hr hsp
  exact ⟨t, h.nox, q⟩

/-! ### the heap without q -/
def hid (q : Addr) (H : Hp) : Hp := fun b => if b = q then none else H b
theorem hid_same (q : Addr) (H : Hp) : Same (hid q H) H := fun b o h => by
  unfold hid at h
  split at h
  · cases h
  · exact h
theorem hid_keep {q : Addr} {H H' : Hp} (k : Keep q H H') : Same (hid q H) (hid q H') := fun b o h => by
  unfold hid at *
  by_cases e : b = q
  · rw [if_pos e] at h; cases h
  · rw [if_neg e] at h ⊢
    exact k.all b o h e
theorem hid_ne {q b : Addr} {H : Hp} (h : b ≠ q) : hid q H b = H b := if_neg h

/-! ### the sizes of texts -/
/-- printable signs -/
def Asc (z : Str) : Prop := ∀ c ∈ z.cps.toList, 32 ≤ c ∧ c ≤ 126
theorem asc_lt : ∀ c, c < 127 → 32 ≤ c → ((PySem.Builtin.Str.reprChar 34 c).all (fun d => decide (32 ≤ d ∧ d ≤ 126)) && (PySem.Builtin.Str.reprChar 39 c).all (fun d => decide (32 ≤ d ∧ d ≤ 126))) = true := by decide +kernel
theorem asc_repr {z : Str} (h : Asc z) : Asc (reprText z) := by
  have hq : reprQuote z = 34 ∨ reprQuote z = 39 := by
    unfold reprQuote
    split
    · exact .inl rfl
    · exact .inr rfl
  have ch : ∀ c ∈ z.cps.toList, ∀ d ∈ PySem.Builtin.Str.reprChar (reprQuote z) c, 32 ≤ d ∧ d ≤ 126 := fun c hc d hd => by
    have h1 := asc_lt c (by have := (h c hc).2; omega) (h c hc).1
    rw [Bool.and_eq_true] at h1
    rcases hq with e | e
    · rw [e] at hd
      exact of_decide_eq_true (List.all_eq_true.mp h1.1 d hd)
    · rw [e] at hd
      exact of_decide_eq_true (List.all_eq_true.mp h1.2 d hd)
  have qq : 32 ≤ reprQuote z ∧ reprQuote z ≤ 126 := by rcases hq with e | e <;> rw [e] <;> decide
  have key : ∀ (l : List Nat) (acc : Array Nat), (∀ c ∈ l, ∀ d ∈ PySem.Builtin.Str.reprChar (reprQuote z) c, 32 ≤ d ∧ d ≤ 126) → (∀ d ∈ acc.toList, 32 ≤ d ∧ d ≤ 126) → ∀ d ∈ (l.foldl (fun out c => out ++ (PySem.Builtin.Str.reprChar (reprQuote z) c).toArray) acc).toList, 32 ≤ d ∧ d ≤ 126 := by
    intro l
    induction l with
    | nil => intro acc _ ha; exact ha
    | cons c l ih =>
      intro acc hl ha
      refine ih _ (fun c' hc' => hl c' (List.mem_cons_of_mem _ hc')) fun d hd => ?_
      rw [Array.toList_append] at hd
      rcases List.mem_append.mp hd with hd | hd
      · exact ha d hd
      · exact hl c List.mem_cons_self d (by simpa using hd)
  intro d hd
  unfold reprText at hd
  have hd' : d ∈ ((z.cps.foldl (fun out c => out ++ (PySem.Builtin.Str.reprChar (reprQuote z) c).toArray) #[reprQuote z]).push (reprQuote z)).toList := hd
  rw [Array.toList_push, ← Array.foldl_toList] at hd'
  rcases List.mem_append.mp hd' with hd | hd
  · exact key _ _ ch (fun d hd => by
      have e : d = reprQuote z := by simpa using hd
      rw [e]; exact qq) d hd
  · have e : d = reprQuote z := by simpa using hd
    rw [e]; exact qq
theorem asc_ok {z : Str} (h : Asc z) : PyData.strOk z = true := by
  unfold PyData.strOk
  rw [← Array.all_toList, List.all_eq_true]
  intro c hc
  have := (h c hc).2
  exact decide_eq_true (by omega)
theorem asc_append {x y : Str} (hx : Asc x) (hy : Asc y) : Asc (x ++ y) := fun c hc => by
  have e : (x ++ y).cps = x.cps ++ y.cps := rfl
  rw [e, Array.toList_append] at hc
  rcases List.mem_append.mp hc with h | h
  · exact hx c h
  · exact hy c h

/-! ### a short text times a small number -/
def mulT (x : Str) (n : Int) : Str := if n < 1 then Str.empty else if (n == 1 || x.length == 0) = true then x else ⟨(List.replicate n.toNat x.cps).foldl (· ++ ·) #[]⟩
theorem rep_fold (x : Array Nat) : ∀ (n : Nat) (acc : Array Nat), ((List.replicate n x).foldl (· ++ ·) acc).size = acc.size + n * x.size ∧ ∀ c ∈ ((List.replicate n x).foldl (· ++ ·) acc).toList, c ∈ acc.toList ∨ c ∈ x.toList
  | 0, acc => ⟨by simp, fun c hc => .inl hc⟩
  | n + 1, acc => by
    obtain ⟨h1, h2⟩ := rep_fold x n (acc ++ x)
    rw [List.replicate_succ, List.foldl_cons]
    refine ⟨?_, fun c hc => ?_⟩
    · rw [h1, Array.size_append, Nat.add_mul]
      omega
    · rcases h2 c hc with h | h
      · rw [Array.toList_append] at h
        rcases List.mem_append.mp h with h | h
        · exact .inl h
        · exact .inr h
      · exact .inr h
theorem mulT_asc {x : Str} {n : Int} (h : Asc x) : Asc (mulT x n) := by
  unfold mulT
  split
  · intro c hc
    cases hc
  · split
    · exact h
    · intro c hc
      rcases (rep_fold x.cps n.toNat #[]).2 c hc with z | z
      · cases z
      · exact h c z
theorem mulT_len {x : Str} {n : Int} : (mulT x n).length ≤ n.toNat * x.length := by
  unfold mulT
  split
  · exact Nat.zero_le _
  · split
    · rename_i h1 h2
      exact Nat.le_mul_of_pos_left _ (by omega)
    · have h := (rep_fold x.cps n.toNat #[]).1
      show ((List.replicate n.toNat x.cps).foldl (· ++ ·) #[]).size ≤ n.toNat * x.cps.size
      rw [h]
      simp
theorem op_mulStr {X : Cx} : OpR X (binaryOp .Mult) (fun x y H Q => ∃ i n, x = .str i ∧ y = .int n ∧ 0 ≤ n ∧ n ≤ 1000 ∧ i.length ≤ 1000 ∧ Q (.str (mulT i n)) H) := by
  intro pins s σ H x y v u Q I rx ry h
  obtain ⟨i, n, rfl, rfl, h0, h1, hz, q⟩ := h
  obtain ⟨t, rfl⟩ := rx
  obtain ⟨t', rfl⟩ := ry
  have hb : n.toNat ≤ 1000 := by omega
  have hp : i.length * n.toNat ≤ 1000 * 1000 := Nat.mul_le_mul hz hb
  have hle := mulT_len (x := i) (n := n)
  rw [Nat.mul_comm] at hle
  have hline : 1000000 ≤ sizeLine := by decide
  refine PySem.P.mul_str ?_ ?_ ?_ ?_
  · rw [decide_eq_false (by omega : ¬ n < -(2 ^ 63 : Int)), decide_eq_false (by omega : ¬ n ≥ 2 ^ 63)]
    rfl
  · intro hn _ hc
    have h3 : (1000 : Int) ≤ (2 ^ 63 - 1) / n := by
      refine (Int.le_ediv_iff_mul_le (by omega)).mpr ?_
      omega
    omega
  · intro _ _
    unfold PySem.Builtin.Str.tooLong
    exact decide_eq_false (by omega)
  · unfold mulT at q hle
    by_cases c1 : n < 1
    · rw [if_pos c1] at q hle ⊢
      exact ⟨by decide, .str _, H, I.tok _, ⟨_, rfl⟩, q⟩
    · rw [if_neg c1] at q hle ⊢
      by_cases c2 : (n == 1 || i.length == 0) = true
      · rw [if_pos c2] at q ⊢
        exact ⟨.str i, H, I, ⟨_, rfl⟩, q⟩
      · rw [if_neg c2] at q hle ⊢
        exact ⟨by omega, .str _, H, I.tok _, ⟨_, rfl⟩, q⟩

section
variable {X : Cx} {x n : Str} {c : Value} {i : Nat} {body suite : List Stmt} {b₀ : Stmt} {np pos pos' : Pos} {tb : WX → TS} {ts : Addr → Value → Option Addr → TS} {Wout : WX}
/-- try .. except, what is raised said once for all ways -/
theorem ps_try_cut (hs : X.stack = X.env :: X.outer) (hf : X.env.frame = some X.env.locals) (hN : X.N.Nodup) (hi : X.N[i]? = some n) (hln : X.env.kindOf n = some .local) (hc : Names X x c) (tk : L2N.Takes X Wout)
    (hb : ∀ (W : WX) (pn : List (Addr × Obj)) (xe : Value → Shared → Prop), L2N.Takes (X.tr pn xe) W → PassesOwn (model X.prog X.w) X.A X.env xe → PSs (X.tr pn xe) body (tb W))
    (hsu : ∀ (a : Addr) (oe : Obj) (cls : Value) (d : Option Addr) (pn : List (Addr × Obj)), L2N.Zn cls d oe → (∃ vs, oe.data = .fields vs) → PSs (X.suite a ((a, oe) :: pn)) (b₀ :: suite) (ts a cls d)) :
    PS X (.Try body [.ExceptHandler (some (.Name x np)) (some n) (b₀ :: suite) pos'] [] [] pos) (fun D σ H => ∃ Ce : WX, (∀ cls d σ' H', Ce cls d σ' H' → wAs X.K c i ts Wout D cls d σ' H') ∧ tb Ce D σ H) :=
  L2N.ps_try_as (tb := fun W D σ H => ∃ Ce : WX, (∀ cls d σ' H', Ce cls d σ' H' → W cls d σ' H') ∧ tb Ce D σ H) hs hf hN hi hln hc tk
    (fun W pn xe tk po => ⟨fun pins s σ H D I ⟨Ce, imp, h⟩ => (hb Ce pn xe (tk.imp imp) po).run pins s σ H D I h⟩) hsu
end

/-- a def that may raise -/
theorem fun_okN {P : Program} {w : World} {K : PySem.W.Frag} {mg : Str → Option Value} {base : Heap} {x qual : Str} {st : Stmt} {f : Addr} {fd : FuncData} {N ps : List Str} {k : Nat} {sp : Sp} (F : Fun K x qual st f fd) (S : FnScope N ps (defScope st)) (len : ∀ vs H Q E, sp vs H Q E → vs.length = ps.length)
    (hbody : ∀ (cdv : Value) (A : Around) (outer : List Env) (s : Shared) (H : Hp) (vs : List V) (Q : VK) (E : XK), Room k (A.deeper (envOfC qual (defScope st) s.heap.objs.size f cdv)) → sp vs H Q E →
      ∃ t, PSs (cxOf (L2N.CX P w) P w K mg base N qual (defScope st) f cdv A outer s H E) (defBody st) t ∧ t { nx := fun _ H' => Q .non H', rt := Q } (start N vs) H) : FnOk P w K mg base (L2N.CX P w) (k + 1) f fd ps sp := by
  obtain ⟨oc, od, kV, doc, pm, an, cdv, ct, osl, rfl, lk, hcd⟩ := F.ex
  exact fn_of lk hcd S len fun A outer s H vs Q E hr hsp => hbody cdv A outer s H vs Q E hr hsp
end MG

/-! classmethods called in a try, by a keyword; a class called by a local name -/
namespace MG
open PySem PySem.Spec PyProof.Rows L2 ClX
section
variable {X : Cx} {CX : CXT} {k j : Nat} {C p g : Addr} {m : Str} {mc : Value} {sp : Sp} {o e : Expr} {es : List Expr} {pos apos : Pos} {ta : TE} {t : TA} {pl : Sem Bool}
theorem after_cm {pins : List (Addr × Obj)} {σ : L2.St} {H : Hp} {s : Shared} {q : Addr} {Q : VK} {E : XK} {us : List Value} {kw : List (Str × Value)} (I : Inv X ((q, PySem.W.methodObj (.ref g) (.ref C)) :: pins) σ H s) (hx : PassesAt CX X σ E)
    (run : codeAny (model X.prog X.w) X.A (.call (.ref g) ⟨.ref C :: us, kw⟩) (CR CX X.stack X.prog X.w H s Q E) s) : wpAny (model X.prog X.w) X.A (call (.ref q) us kw) (EP X pins σ Q) X.xe s := by
  have z : wpAny (model X.prog X.w) X.A (call (.ref q) us kw) (EP X ((q, PySem.W.methodObj (.ref g) (.ref C)) :: pins) σ Q) X.xe s := by
    refine wpAny_call (PySem.W.method_call (pin_at I) (codeAny_mono run fun r s' hq => ?_))
    match r, hq with
    | .error er, hq => exact hx _ H s er s' I hq
    | .ok (.ret u), hq => exact I.after hq
    | .ok .next, hq => exact False.elim hq
    | .ok .brk, hq => exact False.elim hq
    | .ok .cont, hq => exact False.elim hq
  exact thn z fun _ _ y => unpinE y
/-- C.m(..), m a classmethod that may raise, in a try -/
def tCMetS (C : Addr) (sp : Sp) (E : L2.St → XK) (ta : TE) (t : TA) : TE := fun σ H Q => ta σ H fun x H1 => x = .ref C ∧ t σ H1 fun vs H2 => sp (.ref C :: vs) H2 Q (E σ)
structure CmtX (P : Program) (w : World) (K : PySem.W.Frag) (mg : Str → Option Value) (base : Heap) (k : Nat) (C : Addr) (m : Str) (sp : Sp) : Prop where
  ex : ∃ (p g : Addr) (mc : Value) (fd : FuncData) (ps : List Str), CRead K C mc ∧ CMet K C mc m p g ∧ FnOk P w K mg base (L2N.CX P w) k g fd ps sp ∧ Binds K fd ps []
theorem pe_cmtX {W : WX} (c : CmtX X.prog X.w X.K X.mg X.base k C m sp) (hr : Room j X.A) (hk : k ≤ j) (tk : L2N.Takes X W) (he : PE X o ta) (ha : PA X (e :: es) t)
    (hst : starEach (e :: es) X.env = (false, eval e X.env) :: starEach es X.env := by rfl) (hpl : (backTo pos (starEach es X.env)).any (·.1) = false := by rfl)
    (ht : eval (.Call (.Attribute o m apos) (e :: es) [] pos) X.env = (do
      let ov ← eval o X.env
      standAt apos.atName
      let (f, first) ← holding [ov] (getMethod ov m pl)
      callWith pos f first (backTo pos (starEach (e :: es) X.env)) (backToKw pos (keywordEach [] X.env))) := by rfl) :
    PE X (.Call (.Attribute o m apos) (e :: es) [] pos) (tCMetS C sp (WE W) ta t) := by
  obtain ⟨p, g, mc, fd, ps, r, cm, F, b⟩ := c.ex
  refine ⟨fun pins s σ H Q I h => ?_⟩
  refine PySem.W.methodCall_KW (pl := pl) (thn (he.run pins s σ H _ I h) fun u s1 ⟨x, H1, I1, rx, ex, q⟩ => ?_) ht
  subst ex
  obtain rfl : u = Value.ref C := rx
  refine getmethcm_ok I1 r cm fun s2 I2 => ?_
  refine callwith_cm I2 (base_none I1 (Nat.le_refl _)) cm.fi (thn (ha.run pos _ s2 σ H1 _ I2 q) fun us s3 ⟨vs, H2, I3, rv, q2⟩ => ⟨⟨pin_at I3, I3.kIn⟩, ?_⟩) hst hpl
  have q3 : sp (.ref C :: vs ++ []) H2 Q (WE W σ) := by rw [List.append_nil]; exact q2
  exact after_cm I3 (L2N.passAt tk σ) ((F.raw b .nil) X.A X.stack s3 H2 (.ref C :: us) (.ref C :: vs) Q (WE W σ) (hr.mono hk) I3.env0 (.cons rfl rv) q3)
/-- C.m(k = v), where nothing is raised -/
def tCMetK (C : Addr) (sp : Sp) (n : Nat) (gV : List V → List V → List V) (ta : TE) (tk : TA) : TE := fun σ H Q => ta σ H fun x H1 => x = .ref C ∧ tk σ H1 fun zs H2 => zs.length = n ∧ sp (gV [.ref C] zs) H2 Q (fun _ _ _ => False)
structure CmtK (P : Program) (w : World) (K : PySem.W.Frag) (mg : Str → Option Value) (base : Heap) (k : Nat) (C : Addr) (m : Str) (sp : Sp) (ks : List Str) (gV : List V → List V → List V) : Prop where
  ex : ∃ (p g : Addr) (mc : Value) (fd : FuncData) (ps : List Str) (gf : List Value → List Value → List Value), CRead K C mc ∧ CMet K C mc m p g ∧ FnOk P w K mg base (L2N.CX P w) k g fd ps sp ∧ KBn K fd ps 1 ks gf gV
theorem passF {σ : L2.St} : PassesAt (L2N.CX X.prog X.w) X σ (fun _ _ _ => False) := fun _ _ _ _ _ _ ⟨_, _, _, _, _, _, _, _, _, _, _, _, z⟩ => z.elim
theorem pe_cmtK {kws : List Keyword} {ks : List Str} {gV : List V → List V → List V} {tk : TA} (c : CmtK X.prog X.w X.K X.mg X.base k C m sp ks gV) (hr : Room j X.A) (hk : k ≤ j) (he : PE X o ta) (hkw : PK X kws tk)
    (hall : (backToKw pos (keywordEach kws X.env)).all (·.1.isSome) = true := by rfl) (hks : (backToKw pos (keywordEach kws X.env)).filterMap (·.1) = ks := by rfl)
    (hpl : ((backTo pos (starEach [] X.env)).any (·.1) || (backToKw pos (keywordEach kws X.env)).any (·.1.isNone)) = false := by rfl)
    (ht : eval (.Call (.Attribute o m apos) [] kws pos) X.env = (do
      let ov ← eval o X.env
      standAt apos.atName
      let (f, first) ← holding [ov] (getMethod ov m pl)
      callWith pos f first (backTo pos (starEach [] X.env)) (backToKw pos (keywordEach kws X.env))) := by rfl) :
    PE X (.Call (.Attribute o m apos) [] kws pos) (tCMetK C sp ks.length gV ta tk) := by
  obtain ⟨p, g, mc, fd, ps, gf, r, cm, F, b⟩ := c.ex
  refine ⟨fun pins s σ H Q I h => ?_⟩
  refine PySem.W.methodCall_KW (pl := pl) (thn (he.run pins s σ H _ I h) fun u s1 ⟨x, H1, I1, rx, ex, q⟩ => ?_) ht
  subst ex
  obtain rfl : u = Value.ref C := rx
  refine getmethcm_ok I1 r cm fun s2 I2 => ?_
  refine PySem.W.callWith_of (P := PySem.W.MethP X.K s1.heap.objs.size g (.ref C)) hpl (PySem.W.keeps_M cm.fi) (PyProof.Rows.evalArgs_kw2_nil hall (thn (hkw.run pos _ s2 σ H1 _ I2 q) fun ws s3 ⟨zs, H2, I3, rz, hl, q2⟩ => ⟨⟨pin_at I3, I3.kIn⟩, ?_⟩))
  rw [hks]
  have hlw : ws.length = ks.length := rz.length.symm.trans hl
  exact after_cm I3 passF (F.run X.A X.stack s3 H2 ⟨.ref C :: [], ks.zip ws⟩ (gf [.ref C] ws) (gV [.ref C] zs) Q _ (hr.mono hk) I3.env0 (b.to s3 [.ref C] ws I3.kIn rfl hlw) (b.rel (.cons rfl .nil) rz) q2)
/-- cls(..), the class in slot i -/
def tMakeL (i : Nat) (C : Addr) (sp : Sp) (dvs : List V) (t : TA) : TE := fun σ H Q => σ[i]? = some (some (.ref C)) ∧ tMake C sp dvs E0 t σ H Q
theorem pe_mkL {y x : Str} {i : Nat} {q : Pos} {dvs : List V} (c : MakF X.prog X.w X.K X.mg X.base k y C sp dvs) (hr : Room j X.A) (hk : k + 1 ≤ j) (hN : X.N[i]? = some x) (hv : Vis X.env.scope x) (ha : PA X (e :: es) t)
    (hdb : (x == ("__debug__" : Str)) = false := by decide) (hcd : (x == ("__classdict__" : Str)) = false := by decide)
    (he : starEach (e :: es) X.env = (false, eval e X.env) :: starEach es X.env := by rfl) (hpl : (backTo pos (starEach es X.env)).any (·.1) = false := by rfl) : PE X (.Call (.Name x q) (e :: es) [] pos) (tMakeL i C sp dvs t) := by
  obtain ⟨f, fd, ps, ds, M, F, hm, b, d⟩ := c.ex
  refine ⟨fun pins s σ H Q I h => ?_⟩
  obtain ⟨hs, ht⟩ := h
  refine wpAny_Call_Name_kw (thn ((pe_var (pos := q) hN hv hdb hcd).run pins s σ H (fun v H1 => v = .ref C ∧ H1 = H) I ⟨.ref C, hs, rfl, rfl⟩) fun u s1 ⟨v, H1, I1, r1, q1⟩ => ?_)
  obtain ⟨rfl, rfl⟩ := q1
  cases r1
  refine PySem.W.callWith_K (h₀ := X.base) I.ok.mod.kin M.kp (thn (ha.run pos pins s1 σ _ _ I1 ht) fun us s2 ⟨vs, H2, I2, r, q⟩ => ⟨I2.kIn, ?_⟩) he hpl
  exact run_make M F (hr.mono hk) b d pass0 I2 r q
end

/-! ### comprehensions over a text -/
theorem lc_str {x : Str} {g : TG} {tt : TT} {te : TE} {vs : List Nat} {σ : L2.St} {H1 : Hp} {D : Addr} {Qd : Hp → Prop} (Pv : Nat → Hp → Prop) (h0 : Pv 0 (upd H1 D (.lst [])))
    (hs : ∀ i c H, x.cps[i]? = some c → Pv i H → g (.str ⟨#[c]⟩) (wipe σ vs) H fun σ2 H2 => wipe σ2 vs = wipe σ vs ∧ tt σ2 H2 fun b H3 =>
      if b = true then te σ2 H3 fun y H4 => ∃ acc, H4 D = some (.lst acc) ∧ acc.length < sizeLine ∧ Pv (i + 1) (upd H4 D (.lst (acc ++ [y]))) else Pv (i + 1) H3) (hd : ∀ H, Pv x.cps.size H → Qd H) :
    ∃ W : Nat → Nat → Hp → Prop, (∃ m, W 0 m (upd H1 D (.lst []))) ∧ ∀ i m H, W i m H →
      ((Its x).stop i H ∧ Qd H) ∨ ((Its x).go i H ∧ ∃ Nx : Hp → Prop, (∀ H', Nx H' → ∃ m', m' < m ∧ W (i + 1) m' H') ∧ ∀ v H', (Its x).yld i H v H' → g v (wipe σ vs) H' fun σ2 H2 => wipe σ2 vs = wipe σ vs ∧ tt σ2 H2 fun b H3 =>
        if b = true then te σ2 H3 fun y H4 => ∃ acc, H4 D = some (.lst acc) ∧ acc.length < sizeLine ∧ Nx (upd H4 D (.lst (acc ++ [y]))) else Nx H3) := by
  refine ⟨fun i m H => m = x.cps.size - i ∧ i ≤ x.cps.size ∧ Pv i H, ⟨x.cps.size, by simp, Nat.zero_le _, h0⟩, ?_⟩
  rintro i m H ⟨rfl, hi, p⟩
  by_cases hlt : i < x.cps.size
  · refine .inr ⟨hlt, Pv (i + 1), fun H' p' => ⟨x.cps.size - (i + 1), by omega, rfl, hlt, p'⟩, fun v H' y => ?_⟩
    obtain ⟨rfl, c, e, rfl⟩ := y
    exact hs i c _ e p
  · have e : i = x.cps.size := by omega
    subst e
    exact .inl ⟨Nat.le_refl _, hd H p⟩
/-- [e for c in z], c in slot j: ys are the items of the new list -/
def tMapS (j : Nat) (tl te : TE) : TE := fun σ H Q => tl σ H fun x H1 => ∃ (z : Str) (ys : List V), x = .str z ∧ ys.length = z.length ∧ z.length ≤ 100000 ∧
  (∀ (i : Nat) (c : Nat) (y : V) (H' : Hp), z.cps[i]? = some c → ys[i]? = some y → Same H1 H' → te ((σ.set j none).set j (some (.str ⟨#[c]⟩))) H' fun v H'' => v = y ∧ Same H' H'') ∧
  ∀ D H', Same H1 H' → H1 D = none → H' D = some (.lst ys) → Q (.ref D) H'
theorem map_coreS {te : TE} {j : Nat} {σ : L2.St} {H1 : Hp} {Q : VK} {z : Str} {ys : List V} (hn : ys.length = z.length) (hs : z.length ≤ 100000)
    (he : ∀ (i : Nat) (c : Nat) (y : V) (H' : Hp), z.cps[i]? = some c → ys[i]? = some y → Same H1 H' → te ((σ.set j none).set j (some (.str ⟨#[c]⟩))) H' fun v H'' => v = y ∧ Same H' H'')
    (k : ∀ D H', Same H1 H' → H1 D = none → H' D = some (.lst ys) → Q (.ref D) H') :
    tLc (fun _ H R => R (Its z) H) (gName j) tYes (tCut te) [j] σ H1 Q := by
  intro D hD
  refine lc_str (x := z) (fun i H' => Same H1 H' ∧ H' D = some (.lst (ys.take i))) ⟨fun c u h => by rw [upd_ne (ne_of_none h hD)]; exact h, upd_same⟩ ?_ ?_
  · rintro i c H' hi ⟨s, e⟩
    have hi2 : i < z.cps.size := (Array.getElem?_eq_some_iff.mp hi).1
    have hn' : ys.length = z.cps.size := hn
    have hy : ys[i]? = some ys[i] := List.getElem?_eq_getElem (by omega)
    refine ⟨wipe_one, _, he i c _ H' hi hy s, ?_⟩
    rintro v H2 ⟨rfl, s2⟩
    refine ⟨_, s2 _ _ e, ?_, ?_, ?_⟩
    · rw [List.length_take]
      exact Nat.lt_of_le_of_lt (m := 100000) (by omega) (by decide)
    · intro c o hc
      rw [upd_ne (ne_of_none hc hD)]
      exact s2 _ _ (s _ _ hc)
    · rw [upd_same, take_one hy]
  · rintro H' ⟨s, e⟩
    have hn' : ys.length = z.cps.size := hn
    rw [← hn', List.take_length] at e
    exact k D H' s hD e
theorem pe_mapS {X : Cx} {e : Expr} {tl te : TE} {j : Nat} (h : PE X e (tLc (iStr (tCut tl)) (gName j) tYes (tCut te) [j])) : PE X e (tMapS j tl te) := by
  refine pe_imp h fun σ H Q q => ?_
  refine ⟨_, q, ?_⟩
  rintro v H1 ⟨z, ys, rfl, hn, hs, he, k⟩
  exact ⟨z, rfl, map_coreS hn hs he k⟩
theorem cr_allK {X : Cx} {K : PySem.W.Frag} (hc : X.calm = true) (hK : X.K = K := by rfl) : CallR X (.builtin "all") (rAll K) := hK ▸ cr_all hc
end MG

namespace MG
open PySem PySem.Spec PyProof.Rows L2
/-- [e for x in range(..)], what an item changes told by P (of the new list's place and the turn) -/
def tMapRP (j : Nat) (ta : TA) (te : TE) : TE := fun σ H Q => ta σ H fun vs H1 => ∃ (m : Int) (ys : List V) (Pv : Addr → Nat → Hp → Prop), vs = [.int m] ∧ 0 ≤ m ∧ m ≤ 100000 ∧ (ys.length : Int) = m ∧
  (∀ D, H1 D = none → Pv D 0 (upd H1 D (.lst []))) ∧
  (∀ (D : Addr) (i : Nat) (y : V) (H' : Hp), ys[i]? = some y → Pv D i H' → H' D = some (.lst (ys.take i)) → te ((σ.set j none).set j (some (.int i))) H' fun v H'' => v = y ∧ H'' D = some (.lst (ys.take i)) ∧ Pv D (i + 1) (upd H'' D (.lst (ys.take (i + 1))))) ∧
  ∀ D H', H' D = some (.lst ys) → Pv D ys.length H' → Q (.ref D) H'
theorem map_coreRP {te : TE} {j : Nat} {σ : L2.St} {H1 : Hp} {Q : VK} {m : Nat} {ys : List V} {Pv : Addr → Nat → Hp → Prop} (hn : ys.length = m) (hs : m ≤ 100000) (h0 : ∀ D, H1 D = none → Pv D 0 (upd H1 D (.lst [])))
    (he : ∀ (D : Addr) (i : Nat) (y : V) (H' : Hp), ys[i]? = some y → Pv D i H' → H' D = some (.lst (ys.take i)) → te ((σ.set j none).set j (some (.int i))) H' fun v H'' => v = y ∧ H'' D = some (.lst (ys.take i)) ∧ Pv D (i + 1) (upd H'' D (.lst (ys.take (i + 1)))))
    (k : ∀ D H', H' D = some (.lst ys) → Pv D ys.length H' → Q (.ref D) H') :
    tLc (fun _ H R => R (Itr 0 m) H) (gName j) tYes (tCut te) [j] σ H1 Q := by
  intro D hD
  refine lc_range (lo := 0) (n := m) (fun i H' => H' D = some (.lst (ys.take i)) ∧ Pv D i H') ⟨upd_same, h0 D hD⟩ ?_ ?_
  · rintro i H' hi ⟨e, p⟩
    have hy : ys[i]? = some ys[i] := List.getElem?_eq_getElem (by omega)
    have e0 : (0 : Int) + (i : Int) = i := Int.zero_add _
    rw [e0]
    refine ⟨wipe_one, _, he D i _ H' hy p e, ?_⟩
    rintro v H2 ⟨rfl, e2, p2⟩
    refine ⟨_, e2, ?_, ?_, ?_⟩
    · rw [List.length_take]
      exact Nat.lt_of_le_of_lt (m := 100000) (by omega) (by decide)
    · rw [upd_same, take_one hy]
    · rw [take_one hy] at p2
      exact p2
  · rintro H' ⟨e, p⟩
    rw [← hn, List.take_length] at e
    rw [← hn] at p
    exact k D H' e p
theorem pe_mapRP {X : Cx} {e : Expr} {ta : TA} {te : TE} {j : Nat} (mono : ∀ σ H (Q Q' : List V → Hp → Prop), (∀ v H', Q v H' → Q' v H') → ta σ H Q → ta σ H Q')
    (h : PE X e (tLc (iRng1 ta) (gName j) tYes (tCut te) [j])) : PE X e (tMapRP j ta te) := by
  refine pe_imp h fun σ H Q q => ?_
  refine mono σ H _ _ ?_ q
  rintro vs H1 ⟨m, ys, Pv, rfl, h0, hm, hn, hp, he, k⟩
  exact ⟨m, rfl, by omega, by omega, map_coreRP (by omega) (by omega) hp he k⟩
end MG

/-! own errors held as values: made by position and by keyword, their fields read, asked by isinstance -/
namespace MG
open PySem PySem.Spec PyProof.Rows L2
/-! ### a class of errors called with keywords -/
section
open PySem.HandSPX
variable {prog : Program} {w : World} {A : Around} {E : Value → Shared → Prop} {R : Result → Shared → Prop} {h : Heap} {g : Array GenState} {d : Drawn} {t : Nat} {os : OsState}
variable {nm q : Str} {C N : Addr} {bs bm tl : List Value} {hdct : Bool} {sn : List Str} {sub : List Value} {ab : Bool} {col : Option Bool} {dd : Option Addr} {k0 k1 k2 k3 k5 : Option Value} {B newId initId : String} {rest : List Value} {kw : List (Str × Value)}
theorem xk_check {M : Model} (F : ExcBaseFacts B newId initId tl) (hT : ∀ X : String, bm.contains (.type X) = tl.contains (.type X)) {Q : Unit → Shared → Prop}
    (hC : h.get? C = some (excClassObj nm q C N bs bm hdct sn sub ab col dd k0 k1 k2 k3 k5 newId)) (hq : Q () ⟨h, g, d, t, os⟩) : wpAny M A (checkBuiltinCall newId ⟨.ref C :: rest, kw⟩) Q E ⟨h, g, d, t, os⟩ := by
  have hcont : (Value.ref C :: bm).contains (.type B) = true := by rw [List.contains_cons, hT, F.hasB, Bool.or_true]
  have hstar := F.noStar
  simp only [checkBuiltinCall, F.newKind, F.newSplit, F.newRow]
  repeat (first | refine wpAny_loadPart_at hC ?_ | (refine wpAny_isSubtype_exc hC ?_; rw [hcont]) | refine wpAny_staticBase_exc hC ?_ | refine wpAny_madeBy_exc hC ?_ | simp only [bne_self_eq_false, Bool.false_eq_true, if_false] | wp_step)
  exact hq
theorem xk_new (F : ExcBaseFacts B newId initId tl) (hT : ∀ X : String, bm.contains (.type X) = tl.contains (.type X))
    (hC : h.get? C = some (excClassObj nm q C N bs bm hdct sn sub ab col dd k0 k1 k2 k3 k5 newId))
    (hq : R (.ok (.ret (.ref (h.objs.size + 1)))) ⟨(h.push (PySem.W.kdv_tup rest)).push (excO C h.objs.size), g, d, t, os⟩) (hrest : rest.length ≤ sizeLine) :
    codeAny (model prog w) A (.builtin newId ⟨.ref C :: rest, kw⟩) R ⟨h, g, d, t, os⟩ := by
  have hends := F.ends
  have hcB : (Value.ref C :: bm).contains (.type B) = true := by rw [List.contains_cons, hT, F.hasB, Bool.or_true]
  have hcA : (Value.ref C :: bm).contains (.type "AttributeError") = false := by rw [List.contains_cons, hT, F.noAttr]; rfl
  have hcN : (Value.ref C :: bm).contains (.type "NameError") = false := by rw [List.contains_cons, hT, F.noName]; rfl
  refine codeAny_builtinAt F.entry ?_
  unfold Builtin.«BaseException.__new__»
  refine PySem.wpAt_bind ?_
  show PySem.wpAt _ _ _ (stack >>= _) _ _ _
  refine PySem.wpAt_bind (PySem.wpAt_stack fun p below => PySem.wpAt_of_wpAny ?_)
  wp_walk
  refine PySem.wpAt_of_wpAny ?_
  rw [F.owner]
  repeat (first | with_reducible refine wpAny_madeHere_exc F.canon hC ?_ | with_reducible refine wpAny_loadPart_at hC ?_ | (with_reducible refine wpAny_isSubtype_exc hC ?_; first | rw [hcB] | rw [hcA] | rw [hcN]) | wp_step)
  show R _ _
  rw [Heap.size_push]
  exact hq
theorem xk_type (F : ExcBaseFacts B newId initId tl) (hT : ∀ X : String, bm.contains (.type X) = tl.contains (.type X)) {fI : Addr} {Q : Fin → Shared → Prop}
    (hC : h.get? C = some (excClassObj nm q C N bs bm hdct sn sub ab col dd k0 k1 k2 k3 k5 newId))
    (hi : PySem.W.Looks (model prog w) h (typeLookup (.ref C) "__init__") (some (.ref fI))) (hb : ∀ self, PySem.W.Looks (model prog w) h (bindSpecial (.ref fI) self) (.ref fI, [self])) (hrest : rest.length ≤ sizeLine)
    (hq : codeAny (model prog w) A (.call (.ref fI) ⟨.ref (h.objs.size + 1) :: rest, kw⟩)
      (fun r s' => match r with | .ok (.ret v) => v = .none ∧ Q (.done (.ret (.ref (h.objs.size + 1)))) s' | .ok _ => False | .error e => E e s')
      ⟨(h.push (PySem.W.kdv_tup rest)).push (excO C h.objs.size), g, d, t, os⟩) :
    wpAny (model prog w) A (Builtin.«type.__call__» ⟨.ref C :: rest, kw⟩) Q E ⟨h, g, d, t, os⟩ := by
  repeat (first | with_reducible refine wpAny_loadPart_at hC ?_ | with_reducible refine wpAny_madeBy_exc hC ?_ | wp_step)
  refine codeAny_call_builtin_code (Code.quiet_builtin _ F.quiet) (xk_check F hT hC ?_)
  refine xk_new F hT hC ?_ hrest
  show wpAny _ _ _ _ _ _
  have k : ∀ b o, h.get? b = some o → ((h.push (PySem.W.kdv_tup rest)).push (excO C h.objs.size)).get? b = some o := fun b o e => Heap.get?_push_of_some _ (Heap.get?_push_of_some _ e)
  have hC₁ := k _ _ hC
  have hget : ((h.push (PySem.W.kdv_tup rest)).push (excO C h.objs.size)).get? (h.objs.size + 1) = some (excO C h.objs.size) := by heap_get
  have hcC : (Value.ref C :: bm).contains (.ref C) = true := by simp
  have i1 := hi.keeps k
  have b1 := (hb (.ref (h.objs.size + 1))).keeps k
  unfold isInstance
  repeat (first | with_reducible refine wpAny_loadPart_at hget ?_ | (with_reducible refine wpAny_isSubtype_exc hC₁ ?_; rw [hcC]) | wp_step)
  show wpAny _ _ (typeLookup (.ref C) _) _ _ _
  refine i1.at ?_
  refine wpAny_holding (wpAny_bind (b1.at ?_))
  refine wpAny_bind (wpAny_call (codeAny_mono hq fun r s' z => ?_))
  rcases r with e | (v | _ | _ | _) <;> first | exact z | exact z.elim | skip
  obtain ⟨rfl, z⟩ := z
  first
    | exact wpAny_pure (wpAny_pure z)
    | (wp_walk; exact z)
theorem xk_call (F : ExcBaseFacts B newId initId tl) (hT : ∀ X : String, bm.contains (.type X) = tl.contains (.type X)) {fI : Addr}
    (hC : h.get? C = some (excClassObj nm q C N bs bm hdct sn sub ab col dd k0 k1 k2 k3 k5 newId))
    (hi : PySem.W.Looks (model prog w) h (typeLookup (.ref C) "__init__") (some (.ref fI))) (hb : ∀ self, PySem.W.Looks (model prog w) h (bindSpecial (.ref fI) self) (.ref fI, [self])) (hrest : rest.length ≤ sizeLine)
    (hq : codeAny (model prog w) (A.under (.builtin "type.__call__" ⟨.ref C :: rest, kw⟩)) (.call (.ref fI) ⟨.ref (h.objs.size + 1) :: rest, kw⟩) (PySem.W.InitBack (h.objs.size + 1) R)
      ⟨(h.push (PySem.W.kdv_tup rest)).push (excO C h.objs.size), g, d, t, os⟩) :
    codeAny (model prog w) A (.call (.ref C) ⟨rest, kw⟩) R ⟨h, g, d, t, os⟩ := by
  have f1 := tc_lookup
  have f2 := tc_bind (.ref C)
  have hTy : (⟨h, g, d, t, os⟩ : Shared).TypeIs (.ref C) "type" := ⟨_, hC, rfl⟩
  refine codeAny_of_tree ?_
  show wpAny _ _ (callAny (.ref C) _) _ _ _
  repeat (any_goals (first | assumption | with_reducible refine wpAny_loadPart_at hC ?_ | wp_step))
  refine ⟨rfl, ?_⟩
  refine codeAny_call_builtin_at (Code.quiet_builtin _ (by decide +kernel)) entry_typeCall (wpAny_check_type_call_sub hC (xk_type F hT hC hi hb hrest ?_))
  refine codeAny_mono hq fun r s' z => ?_
  rcases r with e | (v | _ | _ | _) <;> exact z
end
end MG

namespace MG
open PySem PySem.Spec PyProof.Rows L2
/-- a built-in class of errors over which own ones stand -/
structure ExB (B newId initId : String) (tl : List Value) : Prop where
  fb : ExcBaseFacts B newId initId tl
  sf : StoreFacts B tl "object.__setattr__" "object"
/-- what an own class of errors says -/
structure ErC (K : PySem.W.Frag) (C : Addr) : Prop where
  cls : ∃ B newId initId tl, ExB B newId initId tl ∧ PySem.W.excInitIn K C tl newId = true ∧ PySem.W.excOver K C tl = true
  sa : PySem.W.findIn K (.ref C) "__setattr__" = some (some (.builtin "object.__setattr__"))
  exC : PySem.W.subIn K (.ref C) (.type "BaseException") = some true
  tyC : PySem.W.typeIn K (.ref C) = some (.type "type")
  kC : PySem.W.keepIn K (.ref C) = true
  ga : PySem.W.findIn K (.ref C) "__getattribute__" = some (some (.builtin "BaseException.__getattribute__"))
  gg : PySem.W.findIn K (.ref C) "__getattr__" = some none
  hd : PySem.W.hasDictIn K C = true
  ca : PySem.W.findIn K (.ref C) "__class__" = some (some (.builtin "object.__class__"))
  cn : PySem.W.specialIn K (.builtin "object.__class__") "__get__" = some (some (.builtin "getset_descriptor.__get__"))
  ct : PySem.W.takesIn K (.builtin "object.__class__") = some true
  mo : PySem.W.mroIn K C (.type "object") = some true
theorem ErC.look {K : PySem.W.Frag} {C : Addr} (T : ErC K C) : ∃ cd, PySem.W.clsIn K C = some cd ∧ cd.hasDict = true ∧ ∀ self, refuseLoop self "__setattr__" cd.mro = pure () := by
  obtain ⟨B, newId, initId, tl, eb, _, ho⟩ := T.cls
  obtain ⟨cd, hcd, h⟩ := PySem.W.any_some ho
  obtain ⟨cd', hcd', hd⟩ := PySem.W.any_some T.hd
  rw [hcd] at hcd'
  obtain rfl := Option.some.inj hcd'
  refine ⟨cd, hcd, hd, fun self => ?_⟩
  obtain ⟨nm, bs, mro, ns, qn, hdd, sn, sb, ab, col, del⟩ := cd
  dsimp only at h ⊢
  split at h
  · rename_i C' bm
    have h2 := (Bool.and_eq_true_iff.mp h).2
    exact PySem.W.excTail_pass self (eb.sf.passes self) _ (show PySem.W.excTail tl (.ref C' :: bm) = true from h2)
  · cases h
section
open Builtin Builtin.ObjectAttr PySem.HandSPX
variable {prog : Program} {w : World} {A : Around} {E : Value → Shared → Prop} {R : Result → Shared → Prop} {hp : Heap} {g : Array GenState} {d : Drawn} {t : Nat} {os : OsState}
theorem er_osa0 {K : PySem.W.Frag} {name : Str} {tk : Tok} {v : Value} {x C : Addr} {fv : Array Value} (T : ErC K C)
    (X : K.In hp) (hx : hp.get? x = some { cls := .ref C, data := .fields fv }) (ha : PySem.W.findIn K (.ref C) name = some none)
    (hq : ∀ h' tk' dx, (∀ b o, b ≠ x → hp.get? b = some o → h'.get? b = some o) → hp.objs.size ≤ dx → dx ≠ x → h'.get? x = some { cls := .ref C, dict := some dx, data := .fields fv } →
      h'.Ns1 dx (fun y => if y = name then some v else none) → R (.ok (.ret .none)) ⟨h', g, d, tk', os⟩) :
    codeAny (model prog w) A (.call (.builtin "object.__setattr__") ⟨[.ref x, .str name tk, v], []⟩) R ⟨hp, g, d, t, os⟩ := by
  obtain ⟨cd, hcd, hh, hm⟩ := T.look
  have I : PySem.W.InstAt hp x { cls := .ref C, data := .fields fv } C none := ⟨hx, rfl, rfl, trivial⟩
  have SF := PySem.F.store_object
  have hxs : x ≠ hp.objs.size := Nat.ne_of_lt (Heap.lt_size hx)
  have sub : PySem.W.Looks (model prog w) hp (isInstance (.ref x) (.type "object")) true := I.type.andThen (PySem.W.looks_mroIn X T.mo)
  refine codeAny_call_builtin SF.slot.plain SF.entry (@PySem.W.check_slot (model prog w) _ _ ⟨hp, g, d, t, os⟩ "object.__setattr__" "object" "__setattr__" (.ref x) [.str name tk, v] [] _ SF.kind SF.split sub (SF.args (.ref x) (.str name tk) v) ?_)
  have hmr : PySem.W.Looks (model prog w) hp (mroOf (.ref C)) cd.mro := (PySem.W.looks_clsIn X hcd).andThen .now
  have L3 : PySem.W.Looks (model prog w) hp (storeTaker? none) none := .now
  have hcls : PySem.W.Looks (model prog w) hp (classData C) cd := PySem.W.looks_clsIn X hcd
  rw [PySem.W.osa_eq, refuse_eq]
  refine wpAny_bind (wpAny_bind (I.type.at (wpAny_bind (hmr.at ?_))))
  rw [hm]
  refine wpAny_pure (wpAny_bind (I.type.at (wpAny_bind ((PySem.W.looks_findIn X ha).at (wpAny_bind (L3.at ?_))))))
  show wpAny _ _ (storeInOwnDict (.ref x) (.ref C) (.str name tk) name v false) _ _ _
  obtain ⟨nm, bs, mro, ns, qn, hd, sn, sb, ab, col, del⟩ := cd
  dsimp only at hh
  subst hh
  unfold storeInOwnDict ownDictForStores
  repeat (first | with_reducible refine PySem.HandSPX.store_in_new ?_ ?_ | with_reducible refine wpAny_loadPart_at hx ?_ | with_reducible refine hcls.at ?_ | wp_step)
  · exact ⟨_, #[], _, (Heap.get?_update_ne _ _ _ _ hxs.symm).trans (Heap.get?_push_at rfl rfl), rfl, fun e he => absurd he (by simp), fun _ => rfl⟩
  · intro h' tk' hn' hs
    have hx₁ : (hp.push { cls := .type "dict", data := .dict #[] }).get? x = some { cls := .ref C, data := .fields fv } := Heap.get?_push_of_some _ hx
    refine hq h' tk' hp.objs.size (fun b o hb ho => ?_) (Nat.le_refl _) hxs.symm ?_ hn'
    · exact (hs.2 b (Nat.ne_of_lt (Heap.lt_size ho))).trans ((Heap.get?_update_ne _ _ _ _ hb).trans (Heap.get?_push_of_some _ ho))
    · exact (hs.2 x hxs).trans (Heap.get?_update_self _ hx₁ rfl)
theorem er_osa1 {K : PySem.W.Frag} {name : Str} {tk : Tok} {v : Value} {x C dx : Addr} {fv : Array Value} {m0 : Str → Option Value} {nl : List Str} (T : ErC K C)
    (X : K.In hp) (hx : hp.get? x = some { cls := .ref C, dict := some dx, data := .fields fv }) (hns : hp.Ns1 dx m0) (hw : Within m0 nl) (hz : nl.length ≤ 1000)
    (ha : PySem.W.findIn K (.ref C) name = some none)
    (hq : ∀ h' tk', (∀ b o, b ≠ dx → hp.get? b = some o → h'.get? b = some o) → h'.Ns1 dx (fun y => if y = name then some v else m0 y) → R (.ok (.ret .none)) ⟨h', g, d, tk', os⟩) :
    codeAny (model prog w) A (.call (.builtin "object.__setattr__") ⟨[.ref x, .str name tk, v], []⟩) R ⟨hp, g, d, t, os⟩ := by
  obtain ⟨cd, hcd, hh, hm⟩ := T.look
  obtain ⟨oD, esD, epD, hoD, hdD, _⟩ := hns.count hw
  have I : PySem.W.InstAt hp x { cls := .ref C, dict := some dx, data := .fields fv } C (some oD) := ⟨hx, rfl, rfl, hoD⟩
  have SF := PySem.F.store_object
  have sub : PySem.W.Looks (model prog w) hp (isInstance (.ref x) (.type "object")) true := I.type.andThen (PySem.W.looks_mroIn X T.mo)
  refine codeAny_call_builtin SF.slot.plain SF.entry (@PySem.W.check_slot (model prog w) _ _ ⟨hp, g, d, t, os⟩ "object.__setattr__" "object" "__setattr__" (.ref x) [.str name tk, v] [] _ SF.kind SF.split sub (SF.args (.ref x) (.str name tk) v) ?_)
  have hmr : PySem.W.Looks (model prog w) hp (mroOf (.ref C)) cd.mro := (PySem.W.looks_clsIn X hcd).andThen .now
  have L3 : PySem.W.Looks (model prog w) hp (storeTaker? none) none := .now
  have hcls : PySem.W.Looks (model prog w) hp (classData C) cd := PySem.W.looks_clsIn X hcd
  rw [PySem.W.osa_eq, refuse_eq]
  refine wpAny_bind (wpAny_bind (I.type.at (wpAny_bind (hmr.at ?_))))
  rw [hm]
  refine wpAny_pure (wpAny_bind (I.type.at (wpAny_bind ((PySem.W.looks_findIn X ha).at (wpAny_bind (L3.at ?_))))))
  show wpAny _ _ (storeInOwnDict (.ref x) (.ref C) (.str name tk) name v false) _ _ _
  obtain ⟨nm, bs, mro, ns, qn, hd, sn, sb, ab, col, del⟩ := cd
  dsimp only at hh
  subst hh
  unfold storeInOwnDict ownDictForStores
  repeat (first | with_reducible refine PySem.OEX.store_in_old hns hw hz ?_ | with_reducible refine wpAny_loadPart_at hx ?_ | with_reducible refine hcls.at ?_ | wp_step)
  intro h' tk' hn' hs
  exact hq h' tk' (fun b o hb ho => (hs.2 b hb).trans ho) hn'
end
section
variable {X : Cx} {pins : List (Addr × Obj)} {σ : L2.St} {H : Hp} {s : Shared} {a C dx : Addr} {f : Str} {y : V} {u : Value} {fs : List (Str × V)} {Q : Unit → Shared → Prop} {E : Value → Shared → Prop} {A : Around}
/-- self.f = y, the first one -/
theorem er_new (T : ErC X.K C) (I : Inv X pins σ H s) (e : H a = some (exo a C none)) (hno : PySem.W.findIn X.K (.ref C) f = some none) (ry : RelV y u)
    (h : ∀ dx s', H dx = none → dx ≠ a → Inv X pins σ (upd (upd H dx (exd dx [(f, y)])) a (exo a C (some dx))) s' → Q () s') : wpAny (model X.prog X.w) A (setAttr (.ref a) f u) Q E s := by
  obtain ⟨t1, ho⟩ := exo_at I.hok e
  obtain ⟨hp, g, d, t, os⟩ := s
  refine PySem.W.set_plain I.kIn (ox := { cls := .ref C, dict := none, data := .fields #[.ref t1, .none, .none, .none, .bool false, .none] }) (od := none) ⟨ho, rfl, rfl, trivial⟩ T.sa ?_
  refine er_osa0 T I.kIn ho hno (fun h' tk' dx k dn dne hx hn => ?_)
  have hnd : H dx = none := I.hok.fresh dn
  have nd : ∀ {b : Addr} {o : Obj}, hp.get? b = some o → b ≠ dx := fun {b o} q => Nat.ne_of_lt (Nat.lt_of_lt_of_le (Heap.lt_size q) dn)
  have na : ∀ {b : Addr}, H b = none → b ≠ a := fun {b} n z => by
    rw [z, e] at n
    cases n
  have Un1 : Un X.fs [] H (upd (upd H dx (exd dx [(f, y)])) a (exo a C (some dx))) hp h' := {
    keep := fun b o q n _ _ => k b o (na n) q
    slot := fun b o q n _ _ => ⟨o.slots, k b o (na n) q⟩
    free := fun b o q n _ => by rw [upd_ne (na n), upd_ne (nd q)]; exact n
    there := fun b o q _ => by
      by_cases hb : b = a
      · exact ⟨_, by rw [hb]; exact hx⟩
      · exact ⟨o, k b o hb q⟩
    tups := fun b xs q => by rw [upd_ne (at_ne e q exo_tup), upd_ne (ne_of_none q hnd)]; exact q
    frzs := fun b o v q => by rw [upd_ne (at_ne e q exo_frz), upd_ne (ne_of_none q hnd)]; exact q
    tbls := fun b ps q => ⟨#[], by rw [upd_ne (at_ne e q exo_tbl), upd_ne (ne_of_none q hnd), q]; simp⟩ }
  refine h dx _ hnd dne (I.un (t' := tk') Un1 fun b o q => ?_)
  by_cases hb : b = a
  · subst hb
    rw [upd_same] at q
    cases q
    exact exo_ok hx
  · rw [upd_ne hb] at q
    by_cases hd : b = dx
    · subst hd
      rw [upd_same] at q
      cases q
      exact exd_ok hn (relO_put (fs := []) ry fun g => True.intro)
    · rw [upd_ne hd] at q
      exact (I.hok b o q).stay (fun c v hc z => k c v (by
          rcases hc with hc | hc
          · rw [hc]
            exact hb
          · exact at_ne e hc exo_own) z)
        (fun c hc => by rw [upd_ne (at_ne e hc exo_own), upd_ne (ne_of_none hc hnd)]; exact hc) (fun c xs hc => by rw [upd_ne (at_ne e hc exo_tup), upd_ne (ne_of_none hc hnd)]; exact hc)
/-- self.f = y, a further one -/
theorem er_old (T : ErC X.K C) (I : Inv X pins σ H s) (e : H a = some (exo a C (some dx))) (ed : H dx = some (exd dx fs)) (hl : fs.length ≤ 900) (hno : PySem.W.findIn X.K (.ref C) f = some none) (ry : RelV y u)
    (h : ∀ s', Inv X pins σ (upd H dx (exd dx ((f, y) :: fs))) s' → Q () s') : wpAny (model X.prog X.w) A (setAttr (.ref a) f u) Q E s := by
  obtain ⟨t1, ho⟩ := exo_at I.hok e
  obtain ⟨mA, hns, rel⟩ := exd_at I.hok ed
  have hw := within_of rel
  obtain ⟨hp, g, d, t, os⟩ := s
  obtain ⟨oD, _, _, hoD, _, _⟩ := hns.count hw
  refine PySem.W.set_plain I.kIn (ox := { cls := .ref C, dict := some dx, data := .fields #[.ref t1, .none, .none, .none, .bool false, .none] }) (od := some oD) ⟨ho, rfl, rfl, hoD⟩ T.sa ?_
  refine er_osa1 T I.kIn ho hns hw (by rw [List.length_map]; omega) hno (fun h' tk' k hn => ?_)
  have hd : ∃ o, h'.get? dx = some o := by
    obtain ⟨o, _, _, e', _⟩ := hn
    exact ⟨o, e'⟩
  exact h _ (I.write (t' := tk') (x := dx) (e := dx) (o := exd dx ((f, y) :: fs)) (by rw [ed]; exact True.intro) (.inl rfl) k hd (exd_ok hn (relO_put ry rel)))
end
/-- self.f = e, self an own error -/
def tOsE (K : PySem.W.Frag) (f : Str) (to te : TE) : TS := fun D σ H => te σ H fun y H1 => to σ H1 fun x H2 => ∃ a C : Addr, x = .ref a ∧ ErC K C ∧ PySem.W.findIn K (.ref C) f = some none ∧
  ((H2 a = some (exo a C none) ∧ ∀ dx, H2 dx = none → dx ≠ a → D.nx σ (upd (upd H2 dx (exd dx [(f, y)])) a (exo a C (some dx)))) ∨
    ∃ (dx : Addr) (fs : List (Str × V)), H2 a = some (exo a C (some dx)) ∧ H2 dx = some (exd dx fs) ∧ fs.length ≤ 900 ∧ D.nx σ (upd H2 dx (exd dx ((f, y) :: fs))))
theorem ps_osE {X : Cx} {o e : Expr} {to te : TE} {f : Str} {p' pos : Pos} (ho : PE X o to) (he : PE X e te) (hs : swapsWith e (some (.Attribute o f p')) pos.line X.env = pure false := by rfl) : PS X (.Assign [.Attribute o f p'] e pos) (tOsE X.K f to te) := by
  refine ⟨fun pins s σ H D I h => ?_⟩
  refine plainObj_wpAny_Assign_Attribute (thn (he.run pins s σ H _ I h) fun v s1 ⟨y, H1, I1, r1, q1⟩ => thn (ho.run pins s1 σ H1 _ I1 q1) fun u s2 ⟨x, H2, I2, r2, a, C, ex, T, hno, q⟩ => ?_) hs
  subst ex
  obtain rfl : u = Value.ref a := r2
  rcases q with ⟨ea, q⟩ | ⟨dx, fs, ea, ed, hl, q⟩
  · exact er_new T I2 ea hno r1 fun dx s' n ne J => ⟨σ, _, J, q dx n ne⟩
  · exact er_old T I2 ea ed hl hno r1 fun s' J => ⟨σ, _, J, q⟩
/-! ### made, held as values -/
/-- what stands at a: an error of the class C with these fields -/
def ErAt (C : Addr) (fs : List (Str × V)) (H : Hp) (a : Addr) : Prop := (fs = [] ∧ H a = some (exo a C none)) ∨ ∃ d, H a = some (exo a C (some d)) ∧ H d = some (exd d fs)
theorem ErAt.same {C a : Addr} {fs : List (Str × V)} {H H' : Hp} (h : ErAt C fs H a) (s : Same H H') : ErAt C fs H' a := by
  rcases h with ⟨e, h⟩ | ⟨d, h1, h2⟩
  · exact .inl ⟨e, s _ _ h⟩
  · exact .inr ⟨d, s _ _ h1, s _ _ h2⟩
/-- the __init__ of such a class -/
def spEr (K : PySem.W.Frag) (C : Addr) (fls : List Str) : Sp := fun vs H Q _ => ∃ (a : Addr) (ys : List V), vs = .ref a :: ys ∧ ys.length = fls.length ∧ ErC K C ∧ (∀ f ∈ fls, PySem.W.findIn K (.ref C) f = some none) ∧ H a = some (exo a C none) ∧
  ∀ dx H', H dx = none → dx ≠ a → (∀ b o, H b = some o → b ≠ a → H' b = some o) → H' a = some (exo a C (some dx)) → H' dx = some (exd dx (fls.zip ys).reverse) → Q .non H'
theorem er_vrev {xs : List V} {us : List Value} (r : Vals xs us) : Vals xs.reverse us.reverse := by
  induction r with
  | nil => exact .nil
  | cons h t ih =>
    rw [List.reverse_cons, List.reverse_cons]
    exact ih.append (.cons h .nil)
structure MkE (P : Program) (w : World) (K : PySem.W.Frag) (mg : Str → Option Value) (base : Heap) (k : Nat) (x : Str) (C : Addr) (fls : List Str) : Prop where
  er : ErC K C
  no : ∀ f ∈ fls, PySem.W.findIn K (.ref C) f = some none
  g : mg x = some (.ref C)
  few : fls.length ≤ 2
  ex : ∃ (fI : Addr) (fd : FuncData) (ps : List Str), PySem.W.findIn K (.ref C) "__init__" = some (some (.ref fI)) ∧ PySem.W.typeIn K (.ref fI) = some (.type "function") ∧ FnOk P w K mg base CX0 k fI fd ps (spEr K C fls) ∧ Binds K fd ps [] ∧
    KBn K fd ps 1 fls.reverse (fun us ws => us ++ ws.reverse) (fun vs zs => vs ++ zs.reverse)
def tMkE (C : Addr) (fls : List Str) (ta : TA) : TE := fun σ H Q => ta σ H fun vs H1 => vs.length = fls.length ∧ ∀ a H', Same H1 H' → H1 a = none → ErAt C (fls.zip vs).reverse H' a → Q (.ref a) H'
def tMkEK (C : Addr) (fls : List Str) (tk : TA) : TE := fun σ H Q => tk σ H fun zs H1 => zs.length = fls.length ∧ ∀ a H', Same H1 H' → H1 a = none → ErAt C (fls.zip zs.reverse).reverse H' a → Q (.ref a) H'
section
variable {X : Cx} {k j : Nat} {C : Addr} {fls : List Str} {x : Str} {p pos : Pos} {e : Expr} {es : List Expr} {kws : List Keyword} {ta tk : TA}
/-- the call of the class: rest by position, kw by name; all of them ys in the order of the fields -/
theorem er_run {pins : List (Addr × Obj)} {σ : L2.St} {H1 : Hp} {Q : VK} {s1 : Shared} {us : List Value} {kw : List (Str × Value)} {ys : List V} {ws : List Value} (c : MkE X.prog X.w X.K X.mg X.base k x C fls) (hr : Room j X.A) (hk : k + 1 ≤ j) (I1 : Inv X pins σ H1 s1)
    (hl : ys.length = fls.length) (hu : us.length ≤ 10) (rv : Vals ys ws) (hb : ∀ (fI : Addr) (fd : FuncData) (ps : List Str), FnOk X.prog X.w X.K X.mg X.base CX0 k fI fd ps (spEr X.K C fls) → Binds X.K fd ps [] → KBn X.K fd ps 1 fls.reverse (fun us ws => us ++ ws.reverse) (fun vs zs => vs ++ zs.reverse) →
      ∀ (a : Addr) (s : Shared), X.K.In s.heap → (a :: ys.map fun _ => a).length = ps.length → BindsTo s fd ⟨.ref a :: us, kw⟩ (ps.zip (.ref a :: ws)))
    (q1 : ∀ a H', Same H1 H' → H1 a = none → ErAt C (fls.zip ys).reverse H' a → Q (.ref a) H') : wpAny (model X.prog X.w) X.A (call (.ref C) us kw) (EP X pins σ Q) X.xe s1 := by
  obtain ⟨er, hno, hm, few, fI, fd, ps, iC, tI, F1, b1, b2⟩ := c
  obtain ⟨B, newId, initId, tl, eb, hin, _⟩ := er.cls
  obtain ⟨hp, g, dr, tk, os⟩ := s1
  obtain ⟨nm, N, q, bs, bm, hdct, sn, sub, ab, col, dd, k0, k1, k2, k3, k5, hC, hT⟩ := PySem.W.excInit_of (h := hp) I1.kIn hin
  have hsz : hp.objs.size ≤ hp.objs.size + 1 := Nat.le_succ _
  have hn : H1 (hp.objs.size + 1) = none := I1.hok.fresh hsz
  have hq : spEr X.K C fls (.ref (hp.objs.size + 1) :: ys) (upd H1 (hp.objs.size + 1) (exo (hp.objs.size + 1) C none)) (fun v H2 => v = .non ∧ Q (.ref (hp.objs.size + 1)) H2) (fun _ _ _ => False) := by
    refine ⟨_, ys, rfl, hl, er, hno, upd_same, fun dx H' hdx ne hkeep ha hd => ⟨rfl, q1 _ H' (fun b o hbo => ?_) hn (.inr ⟨dx, ha, hd⟩)⟩⟩
    have nb := ne_of_none hbo hn
    exact hkeep b o (by rw [upd_ne nb]; exact hbo) nb
  have kk : ∀ b o, hp.get? b = some o → ((hp.push (PySem.W.kdv_tup us)).push (PySem.HandSPX.excO C hp.objs.size)).get? b = some o := fun b o e => Heap.get?_push_of_some _ (Heap.get?_push_of_some _ e)
  have hget : ((hp.push (PySem.W.kdv_tup us)).push (PySem.HandSPX.excO C hp.objs.size)).get? (hp.objs.size + 1) = some (PySem.HandSPX.excO C hp.objs.size) := by heap_get
  have I2 : Inv X pins σ (upd H1 (hp.objs.size + 1) (exo (hp.objs.size + 1) C none)) ⟨(hp.push (PySem.W.kdv_tup us)).push (PySem.HandSPX.excO C hp.objs.size), g, dr, tk, os⟩ :=
    I1.laid (t' := tk) (a := hp.objs.size + 1) (o := exo (hp.objs.size + 1) C none) (h' := (hp.push (PySem.W.kdv_tup us)).push (PySem.HandSPX.excO C hp.objs.size)) kk hsz (exo_ok hget)
  have r2 : Vals (V.ref (hp.objs.size + 1) :: ys) (Value.ref (hp.objs.size + 1) :: ws) := .cons rfl rv
  have hlen := F1.len _ _ _ _ hq
  have hus : us.length ≤ sizeLine := Nat.le_trans hu (by decide)
  refine wpAny_call (xk_call eb.fb hT hC (PySem.W.looks_findIn I1.kIn iC) (fun self => PySem.W.bind_fn I1.kIn self tI) hus
    (codeAny_mono (F1.run _ X.stack _ _ ⟨Value.ref (hp.objs.size + 1) :: us, kw⟩ (Value.ref (hp.objs.size + 1) :: ws) _ _ (fun _ _ _ => False) ((hr.mono hk).make C us kw) (I2.env0.make C us kw)
      (hb fI fd ps F1 b1 b2 _ _ I2.kIn (by rw [← hlen]; simp)) r2 hq) fun r s' hq' => ?_))
  cases r with
  | error er => exact False.elim hq'
  | ok fl' =>
    cases fl' with
    | ret u =>
      obtain ⟨v, H', I3, rv', ev, q3⟩ := I2.after hq'
      subst ev
      exact ⟨rv', ⟨V.ref (hp.objs.size + 1), H', I3, rfl, q3⟩⟩
    | next => exact False.elim hq'
    | brk => exact False.elim hq'
    | cont => exact False.elim hq'
theorem pe_mkE (c : MkE X.prog X.w X.K X.mg X.base k x C fls) (hr : Room j X.A) (hk : k + 1 ≤ j) (hg : Gl X x) (ha : PA X (e :: es) ta)
    (hdb : (x == ("__debug__" : Str)) = false := by decide) (he : starEach (e :: es) X.env = (false, eval e X.env) :: starEach es X.env := by rfl) (hpl : (backTo pos (starEach es X.env)).any (·.1) = false := by rfl) :
    PE X (.Call (.Name x p) (e :: es) [] pos) (tMkE C fls ta) := by
  refine ⟨fun pins s σ H Q I h => ?_⟩
  refine wpAny_Call_Name_kw (ld_glob I hg c.g ?_ hdb)
  refine PySem.W.callWith_K (h₀ := X.base) I.ok.mod.kin c.er.kC (thn (ha.run pos pins s σ H _ I h) fun us s1 ⟨vs, H1, I1, r1, hl, q1⟩ => ⟨I1.kIn, ?_⟩) he hpl
  refine er_run c hr hk I1 hl ?_ r1 (fun fI fd ps F1 b1 b2 a s hi hln => ?_) q1
  · show us.length ≤ 10
    rw [← Paired.length r1, hl]
    exact Nat.le_trans c.few (by decide)
  · have hl2 : (Value.ref a :: us ++ []).length = ps.length := by
      rw [← hln, List.append_nil, List.length_cons, List.length_cons, List.length_map, Paired.length r1]
    have z := b1 s (Value.ref a :: us) hi hl2
    rw [List.append_nil] at z
    exact z
theorem pe_mkEK (c : MkE X.prog X.w X.K X.mg X.base k x C fls) (hr : Room j X.A) (hk : k + 1 ≤ j) (hg : Gl X x) (hkw : PK X kws tk)
    (hall : (backToKw pos (keywordEach kws X.env)).all (·.1.isSome) = true := by rfl) (hks : (backToKw pos (keywordEach kws X.env)).filterMap (·.1) = fls.reverse := by rfl) (hdb : (x == ("__debug__" : Str)) = false := by decide)
    (hpl : ((backTo pos (starEach [] X.env)).any (·.1) || (backToKw pos (keywordEach kws X.env)).any (·.1.isNone)) = false := by rfl) :
    PE X (.Call (.Name x p) [] kws pos) (tMkEK C fls tk) := by
  refine ⟨fun pins s σ H Q I h => ?_⟩
  refine wpAny_Call_Name_kw (ld_glob I hg c.g ?_ hdb)
  refine PySem.W.callWith_KW0 (h₀ := X.base) I.ok.mod.kin c.er.kC hall ?_ hpl
  refine thn (hkw.run pos pins s σ H _ I h) fun ws s2 ⟨zs, H2, I2, rz, hl, q2⟩ => ⟨I2.kIn, ?_⟩
  rw [hks]
  refine er_run (us := []) (ys := zs.reverse) (ws := ws.reverse) c hr hk I2 (by rw [List.length_reverse]; exact hl) (Nat.zero_le _) (er_vrev rz) (fun fI fd ps F1 b1 b2 a s hi hln => ?_) q2
  exact b2.to s [Value.ref a] ws hi rfl (by rw [← Paired.length rz, List.length_reverse]; exact hl)
end

/-! ### made without anything -/
structure MkN (K : PySem.W.Frag) (mg : Str → Option Value) (x : Str) (C : Addr) : Prop where
  er : ErC K C
  g : mg x = some (.ref C)
  ini : ∃ B newId initId tl, ExB B newId initId tl ∧ PySem.W.excInitIn K C tl newId = true ∧ PySem.W.findIn K (.ref C) "__init__" = some (some (.builtin initId))
def tMk0 (C : Addr) : TE := fun _ H Q => ∀ a H', Same H H' → H a = none → ErAt C [] H' a → Q (.ref a) H'
theorem pe_mk0 {X : Cx} {x : Str} {C : Addr} {p pos : Pos} (c : MkN X.K X.mg x C) (hg : Gl X x) (hdb : (x == ("__debug__" : Str)) = false := by decide) : PE X (.Call (.Name x p) [] [] pos) (tMk0 C) := by
  refine ⟨fun pins s σ H Q I h => ?_⟩
  obtain ⟨B, newId, initId, tl, eb, hin, hi⟩ := c.ini
  refine wpAny_Call_Name_kw (ld_glob I hg c.g ?_ hdb)
  refine PySem.W.callWith_K0 I.kIn c.er.kC ?_
  obtain ⟨hp, g, dr, tk, os⟩ := s
  obtain ⟨nm, N, q, bs, bm, hdct, sn, sub, ab, col, dd, k0, k1, k2, k3, k5, hC, hT⟩ := PySem.W.excInit_of (h := hp) I.kIn hin
  refine PySem.W.call_B eb.fb hT hC (PySem.W.looks_findIn I.kIn hi) (Nat.zero_le _) fun h' k e' t' => ?_
  have I2 : Inv X pins σ (upd H (hp.objs.size + 1) (exo (hp.objs.size + 1) C none)) ⟨h', g, dr, tk, os⟩ :=
    I.laid (t' := tk) (a := hp.objs.size + 1) (o := exo (hp.objs.size + 1) C none) (h' := h') k (Nat.le_succ _) (exo_ok e')
  have hn : H (hp.objs.size + 1) = none := I.hok.fresh (Nat.le_succ _)
  exact ⟨.ref (hp.objs.size + 1), _, I2, rfl, h _ _ (MG.Same.new (Same.refl H) hn) hn (.inl ⟨rfl, upd_same⟩)⟩
/-! ### read, asked -/
def tErG (K : PySem.W.Frag) (f : Str) (te : TE) : TE := fun σ H Q => te σ H fun x H1 => ∃ (a C d : Addr) (fs : List (Str × V)) (v : V), x = .ref a ∧ ErC K C ∧ PySem.W.findIn K (.ref C) f = some none ∧ H1 a = some (exo a C (some d)) ∧ H1 d = some (exd d fs) ∧ fs.lookup f = some v ∧ Q v H1
theorem pe_erG {X : Cx} {e : Expr} {te : TE} {pos : Pos} {n : Str} (he : PE X e te) (hb : attributeBase e n X.env (eval e X.env) = eval e X.env := by rfl) : PE X (.Attribute e n pos) (tErG X.K n te) := by
  refine ⟨fun pins s σ H Q I h => ?_⟩
  refine attr_of hb (thn (he.run pins s σ H _ I h) fun u s1 hh => ?_)
  obtain ⟨x, H1, I1, rx, a, C, d, fs, v, ex, T, hno, ea, ed, l, q⟩ := hh
  subst ex
  obtain rfl : u = Value.ref a := rx
  obtain ⟨t1, ho⟩ := exo_at I1.hok ea
  obtain ⟨mA, hns, hr⟩ := exd_at I1.hok ed
  obtain ⟨od, hod, hl⟩ := lookIn_ns hns
  obtain ⟨u, hu, ru⟩ := RelO.some_of (v := v) (o := mA n) (by rw [← l]; exact hr n)
  have J : PySem.W.InstAt s1.heap a { cls := .ref C, dict := some d, data := .fields #[.ref t1, .none, .none, .none, .bool false, .none] } C (some od) := ⟨ho, rfl, rfl, hod⟩
  exact HandSPX.exc_get I1.kIn J T.ga T.gg T.exC (PySem.W.findObj_own T.hd hno rfl (by rw [hl, hu])) (handed_of ru) ⟨v, H1, I1.tok _, ru, q⟩
theorem pe_erGK {X : Cx} {K : PySem.W.Frag} {e : Expr} {te : TE} {pos : Pos} {n : Str} (he : PE X e te) (hK : X.K = K := by rfl) (hb : attributeBase e n X.env (eval e X.env) = eval e X.env := by rfl) : PE X (.Attribute e n pos) (tErG K n te) := by
  subst hK
  exact pe_erG he hb
def rIsEr (K : PySem.W.Frag) : List V → Hp → VK → Prop := fun xs H Q => ∃ (a C : Addr) (fs : List (Str × V)) (c : V) (cv : Value) (b : Bool), xs = [.ref a, c] ∧ ErC K C ∧ ErAt C fs H a ∧ (∀ u, RelV c u → u = cv) ∧ PySem.W.kitOne K (.ref C) cv = some b ∧ Q (.bl b) H
theorem ErC.kit {K : PySem.W.Frag} {C x : Addr} (T : ErC K C) (ox : Obj) (od : Option Obj) : PySem.W.KitX K (.ref x) (.ref C) (fun h => PySem.W.InstAt h x ox C od) := by
  obtain ⟨cd, hcd, _⟩ := T.look
  exact PySem.W.kitx_exc (by rw [hcd]; rfl) T.ga T.gg T.exC T.ca T.cn T.ct T.mo
theorem call_isEr {X : Cx} : CallR X (.builtin "isinstance") (rIsEr X.K) := by
  intro pins s σ H xs us Q I r h
  obtain ⟨a, C, fs, c, cv, b, rfl, T, ea, hcv, e, q⟩ := h
  cases r with
  | cons rx rr =>
    cases rr with
    | cons rt rr =>
      cases rr
      cases rx
      have ec := hcv _ rt
      subst ec
      rcases ea with ⟨_, ea⟩ | ⟨d, ea, ed⟩
      · obtain ⟨t1, ho⟩ := exo_at I.hok ea
        have J : PySem.W.InstAt s.heap a { cls := .ref C, dict := none, data := .fields #[.ref t1, .none, .none, .none, .bool false, .none] } C none := ⟨ho, rfl, rfl, trivial⟩
        exact PySem.W.kia_one (T.kit _ _) I.kIn J e (fun z => nomatch z) fun tk => ⟨.bl b, H, I.kept (t' := tk) fun _ _ z => z, rfl, q⟩
      · obtain ⟨t1, ho⟩ := exo_at I.hok ea
        obtain ⟨mA, hns, hr⟩ := exd_at I.hok ed
        obtain ⟨od, hod, hl⟩ := lookIn_ns hns
        have J : PySem.W.InstAt s.heap a { cls := .ref C, dict := some d, data := .fields #[.ref t1, .none, .none, .none, .bool false, .none] } C (some od) := ⟨ho, rfl, rfl, hod⟩
        exact PySem.W.kia_one (T.kit _ _) I.kIn J e (fun z => nomatch z) fun tk => ⟨.bl b, H, I.kept (t' := tk) fun _ _ z => z, rfl, q⟩
end MG

/-! comprehensions whose items make objects; operators that may raise, in a try; lcm -/
namespace MG
open PySem PySem.Spec PyProof.Rows L2
/-! ### the heap without one object -/
section
variable {D q : Addr} {H H' : Hp} {o : HO}
theorem hid_upd : hid D (upd H D o) = hid D H := funext fun b => by
  unfold hid
  by_cases e : b = D
  · rw [if_pos e, if_pos e]
  · rw [if_neg e, if_neg e, upd_ne e]
theorem hid_none (h : H D = none) : Same H (hid D H) := fun b u e => by
  rw [hid_ne (ne_of_none e h)]
  exact e
theorem hid_mono (s : Same H H') : Same (hid D H) (hid D H') := fun b u e => by
  unfold hid at *
  by_cases n : b = D
  · rw [if_pos n] at e; cases e
  · rw [if_neg n] at e ⊢
    exact s _ _ e
theorem hid_self : hid D H D = none := if_pos rfl
theorem keep_hid (k : Keep q H H') (n : q ≠ D) : Keep q (hid D H) (hid D H') := ⟨fun b u e m => by
  unfold hid at *
  by_cases z : b = D
  · rw [if_pos z] at e; cases e
  · rw [if_neg z] at e ⊢
    exact k.all _ _ e m, fun x l e => by
  rw [hid_ne n] at e ⊢
  exact k.hd x l e⟩
theorem keep_in (k : Keep q H H') (hD : H D = none) : Keep q H (hid D H') := ⟨fun b u e m => by
  rw [hid_ne (ne_of_none e hD)]
  exact k.all _ _ e m, fun x l e => by
  obtain ⟨l', e'⟩ := k.hd x l e
  exact ⟨l', by rw [hid_ne (ne_of_none e hD)]; exact e'⟩⟩
theorem keep_out (k : Keep q H (hid D H')) : Keep q H H' := k.same (hid_same D H')
end
/-! ### a comprehension by what holds of the items made so far -/
section
variable {J : It} {n : Nat} {G : Hp → Prop} {Y : Nat → Hp → V → Hp → Prop} {g : TG} {te : TE} {vs : List Nat} {σ : L2.St} {H1 : Hp} {D : Addr} {Q : VK}
/-- what a comprehension's list at D asks -/
def Lc (J : It) (g : TG) (tt : TT) (te : TE) (vs : List Nat) (σ : L2.St) (H1 : Hp) (Q : VK) (D : Addr) : Prop :=
  ∃ W : Nat → Nat → Hp → Prop, (∃ m, W 0 m (upd H1 D (.lst []))) ∧ ∀ i m H, W i m H →
    (J.stop i H ∧ Q (.ref D) H) ∨ (J.go i H ∧ ∃ Nx : Hp → Prop, (∀ H', Nx H' → ∃ m', m' < m ∧ W (i + 1) m' H') ∧ ∀ x H', J.yld i H x H' → g x (wipe σ vs) H' fun σ2 H2 => wipe σ2 vs = wipe σ vs ∧ tt σ2 H2 fun b H3 =>
      if b = true then te σ2 H3 fun y H4 => ∃ acc, H4 D = some (.lst acc) ∧ acc.length < sizeLine ∧ Nx (upd H4 D (.lst (acc ++ [y]))) else Nx H3)
def tLcI (wi : TI) (g : TG) (tt : TT) (te : TE) (vs : List Nat) : TE := fun σ H Q => wi σ H fun J H1 => ∀ D, H1 D = none → Lc J g tt te vs σ H1 Q D
theorem pe_lcI {X : Cx} {e : Expr} {wi : TI} {g : TG} {tt : TT} {te : TE} {vs : List Nat} (h : PE X e (tLc wi g tt te vs)) : PE X e (tLcI wi g tt te vs) := h
theorem ps_lcI {X : Cx} {st : Stmt} {wi : TI} {g g2 : TG} {tt : TT} {te : TE} {vs : List Nat} (h : PS X st (tAsg (tLc wi g tt te vs) g2)) : PS X st (tAsg (tLcI wi g tt te vs) g2) := h
/-- two generators -/
def Lc2 (J : It) (g : TG) (tt : TT) (wi1 : TI) (g1 : TG) (tt1 : TT) (te : TE) (vs vs1 : List Nat) (σ : L2.St) (H1 : Hp) (Q : VK) (D : Addr) : Prop :=
  ∃ W : Nat → Nat → Hp → Prop, (∃ m, W 0 m (upd H1 D (.lst []))) ∧ ∀ i m H, W i m H →
  (J.stop i H ∧ Q (.ref D) H) ∨ (J.go i H ∧ ∃ Nx : Hp → Prop, (∀ H', Nx H' → ∃ m', m' < m ∧ W (i + 1) m' H') ∧ ∀ x H', J.yld i H x H' → g x (wipe σ vs) H' fun σ2 H2 => wipe σ2 vs = wipe σ vs ∧ tt σ2 H2 fun b H3 =>
    if b = true then wi1 σ2 H3 fun J1 H4 => ∃ W1 : Nat → Nat → Hp → Prop, (∃ m, W1 0 m H4) ∧ ∀ j k H, W1 j k H →
      (J1.stop j H ∧ Nx H) ∨ (J1.go j H ∧ ∃ Nx1 : Hp → Prop, (∀ H', Nx1 H' → ∃ k', k' < k ∧ W1 (j + 1) k' H') ∧ ∀ x H', J1.yld j H x H' → g1 x (wipe σ2 vs1) H' fun σ3 H5 => wipe σ3 vs1 = wipe σ2 vs1 ∧ tt1 σ3 H5 fun b H6 =>
        if b = true then te σ3 H6 fun y H7 => ∃ acc, H7 D = some (.lst acc) ∧ acc.length < sizeLine ∧ Nx1 (upd H7 D (.lst (acc ++ [y]))) else Nx1 H6)
    else Nx H3)
def tLc2I (wi : TI) (g : TG) (tt : TT) (wi1 : TI) (g1 : TG) (tt1 : TT) (te : TE) (vs vs1 : List Nat) : TE := fun σ H Q => wi σ H fun J H1 => ∀ D, H1 D = none → Lc2 J g tt wi1 g1 tt1 te vs vs1 σ H1 Q D
theorem pe_lc2I {X : Cx} {e : Expr} {wi wi1 : TI} {g g1 : TG} {tt tt1 : TT} {te : TE} {vs vs1 : List Nat} (h : PE X e (tLc2 wi g tt wi1 g1 tt1 te vs vs1)) : PE X e (tLc2I wi g tt wi1 g1 tt1 te vs vs1) := h
theorem lc_inv (w : Walk J n G Y) (hD : H1 D = none) (hn : n ≤ 100000) (Pv : Nat → List V → Hp → Prop) (h0 : Pv 0 [] (hid D H1)) (hG : ∀ i ys H, i ≤ n → Pv i ys (hid D H) → H D = some (.lst ys) → G H)
    (hs : ∀ i x ys H H', i < n → ys.length = i → Pv i ys (hid D H) → H D = some (.lst ys) → Y i H x H' → ∃ σ2, (∀ R : L2.St → Hp → Prop, R σ2 H' → g x (wipe σ vs) H' R) ∧ wipe σ2 vs = wipe σ vs ∧
      tCut te σ2 H' fun y H4 => H4 D = some (.lst ys) ∧ Pv (i + 1) (ys ++ [y]) (hid D H4))
    (k : ∀ ys H, ys.length = n → H D = some (.lst ys) → Pv n ys (hid D H) → Q (.ref D) H) : Lc J g tYes (tCut te) vs σ H1 Q D := by
  refine lc_it (Qd := Q (.ref D)) w (fun i H => ∃ ys : List V, ys.length = i ∧ H D = some (.lst ys) ∧ Pv i ys (hid D H)) ⟨[], rfl, upd_same, by rw [hid_upd]; exact h0⟩ ?_ ?_ ?_
  · rintro i H hi ⟨ys, _, e, p⟩
    exact hG i ys H hi p e
  · rintro i x H H' hi ⟨ys, hl, e, p⟩ y
    obtain ⟨σ2, h1, h2, h3⟩ := hs i x ys H H' hi hl p e y
    refine h1 _ ⟨h2, ?_⟩
    show if (true : Bool) = true then tCut te σ2 H' (fun y H4 => ∃ acc, H4 D = some (.lst acc) ∧ acc.length < sizeLine ∧ ∃ ys : List V, ys.length = i + 1 ∧ (upd H4 D (.lst (acc ++ [y]))) D = some (.lst ys) ∧ Pv (i + 1) ys (hid D (upd H4 D (.lst (acc ++ [y]))))) else ∃ ys : List V, ys.length = i + 1 ∧ H' D = some (.lst ys) ∧ Pv (i + 1) ys (hid D H')
    refine iteT ?_
    refine tCut_mono _ _ _ _ ?_ h3
    rintro v H4 ⟨e4, p4⟩
    refine ⟨ys, e4, Nat.lt_of_le_of_lt (m := 100000) (by omega) (by decide), ys ++ [v], by simp [hl], upd_same, ?_⟩
    rw [hid_upd]
    exact p4
  · rintro H ⟨ys, hl, e, p⟩
    exact k ys H hl e p
/-- with a test -/
theorem lc_filt {tt : TT} (w : Walk J n G Y) (hD : H1 D = none) (hn : n ≤ 100000) (Pv : Nat → List V → Hp → Prop) (h0 : Pv 0 [] (hid D H1)) (hG : ∀ i ys H, i ≤ n → Pv i ys (hid D H) → H D = some (.lst ys) → G H)
    (hs : ∀ i x ys H H', i < n → Pv i ys (hid D H) → H D = some (.lst ys) → Y i H x H' → ∃ σ2 b, (∀ R : L2.St → Hp → Prop, R σ2 H' → g x (wipe σ vs) H' R) ∧ wipe σ2 vs = wipe σ vs ∧ (∀ R : Bool → Hp → Prop, R b H' → tt σ2 H' R) ∧
      (b = false → H' D = some (.lst ys) ∧ Pv (i + 1) ys (hid D H')) ∧ (b = true → tCut te σ2 H' fun y H4 => H4 D = some (.lst ys) ∧ Pv (i + 1) (ys ++ [y]) (hid D H4)))
    (k : ∀ ys H, H D = some (.lst ys) → Pv n ys (hid D H) → Q (.ref D) H) : Lc J g tt (tCut te) vs σ H1 Q D := by
  refine lc_it (Qd := Q (.ref D)) w (fun i H => ∃ ys : List V, ys.length ≤ i ∧ H D = some (.lst ys) ∧ Pv i ys (hid D H)) ⟨[], Nat.le_refl _, upd_same, by rw [hid_upd]; exact h0⟩ ?_ ?_ ?_
  · rintro i H hi ⟨ys, _, e, p⟩
    exact hG i ys H hi p e
  · rintro i x H H' hi ⟨ys, hl, e, p⟩ y
    obtain ⟨σ2, b, h1, h2, h3, h4, h5⟩ := hs i x ys H H' hi p e y
    refine h1 _ ⟨h2, h3 _ ?_⟩
    cases b with
    | false => exact iteF ⟨ys, by omega, (h4 rfl).1, (h4 rfl).2⟩
    | true =>
      refine iteT (tCut_mono _ _ _ _ ?_ (h5 rfl))
      rintro v H4 ⟨e4, p4⟩
      refine ⟨ys, e4, Nat.lt_of_le_of_lt (m := 100000) (by omega) (by decide), ys ++ [v], by simp; omega, upd_same, ?_⟩
      rw [hid_upd]
      exact p4
  · rintro H ⟨ys, hl, e, p⟩
    exact k ys H e p
/-- the items make objects only: R i y tells of the i-th item y -/
theorem lc_same (w : Walk J n G Y) (hD : H1 D = none) (hn : n ≤ 100000) (R : Nat → V → Hp → Prop) (hR : ∀ i y H H', R i y H → Same H H' → R i y H') (hG : ∀ H, Same H1 H → G H) (hY : ∀ i H x H', Y i H x H' → Same H H')
    (hs : ∀ i x H H', i < n → Same H1 H → H' D ≠ none → Y i H x H' → ∃ σ2, (∀ R : L2.St → Hp → Prop, R σ2 H' → g x (wipe σ vs) H' R) ∧ wipe σ2 vs = wipe σ vs ∧
      te σ2 H' fun y H4 => Same H' H4 ∧ ((∃ l, H4 D = some (.lst l)) → R i y (hid D H4)))
    (k : ∀ ys H, ys.length = n → Same H1 H → H D = some (.lst ys) → (∀ i y, ys[i]? = some y → R i y (hid D H)) → Q (.ref D) H) : Lc J g tYes (tCut te) vs σ H1 Q D := by
  refine lc_inv w hD hn (fun i ys H => Same H1 H ∧ ∀ j y, ys[j]? = some y → R j y H) ⟨hid_none hD, fun j y z => by simp at z⟩ (fun i ys H _ p _ => hG H (p.1.trans (hid_same D H))) ?_ fun ys H hl e p => k ys H hl (p.1.trans (hid_same D H)) e p.2
  rintro i x ys H H' hi hl ⟨s1, p⟩ e y
  have sY := hY i H x H' y
  obtain ⟨σ2, h1, h2, h3⟩ := hs i x H H' hi (s1.trans (hid_same D H)) (by rw [sY _ _ e]; exact nofun) y
  refine ⟨σ2, h1, h2, _, h3, ?_⟩
  rintro v H4 ⟨s4, r4⟩
  have e4 := s4 _ _ (sY _ _ e)
  refine ⟨e4, s1.trans (hid_mono (sY.trans s4)), fun j z hz => ?_⟩
  by_cases hj : j < ys.length
  · rw [List.getElem?_append_left hj] at hz
    exact hR _ _ _ _ (p j z hz) (hid_mono (sY.trans s4))
  · rw [List.getElem?_append_right (by omega)] at hz
    have hj0 : j - ys.length = 0 := by
      by_cases c : j - ys.length = 0
      · exact c
      · rw [List.getElem?_eq_none (by simp; omega)] at hz; cases hz
    rw [hj0] at hz
    have ej : j = i := by omega
    obtain rfl : v = z := Option.some.inj hz
    rw [ej]
    exact r4 ⟨_, e4⟩
/-- the items draw from the purse at q: Pq m tells of it behind m items -/
theorem lc_keep {q : Addr} (w : Walk J n G Y) (hD : H1 D = none) (hq : H1 q ≠ none) (hn : n ≤ 100000) (Pq : Nat → Hp → Prop) (up : ∀ m H H', Pq m H → Same H H' → Pq m H') (down : ∀ m H, Keep q H1 H → Pq m H → Pq m (hid D H)) (hq0 : Pq 0 H1)
    (R : Nat → V → Hp → Prop) (hR : ∀ i y H H', R i y H → Same H H' → R i y H') (hG : ∀ H, Keep q H1 H → G H) (hY : ∀ i H x H', Y i H x H' → Same H H')
    (hs : ∀ i x H H', i < n → Keep q H1 H' → Pq i H' → H' D ≠ none → Y i H x H' → ∃ σ2, (∀ R : L2.St → Hp → Prop, R σ2 H' → g x (wipe σ vs) H' R) ∧ wipe σ2 vs = wipe σ vs ∧
      te σ2 H' fun y H4 => Keep q H' H4 ∧ Pq (i + 1) H4 ∧ ((∃ l, H4 D = some (.lst l)) → R i y (hid q (hid D H4))))
    (k : ∀ ys H, ys.length = n → Keep q H1 H → Pq n H → H D = some (.lst ys) → (∀ i y, ys[i]? = some y → R i y (hid q (hid D H))) → Q (.ref D) H) : Lc J g tYes (tCut te) vs σ H1 Q D := by
  have nq : q ≠ D := fun e => hq (e ▸ hD)
  refine lc_inv w hD hn (fun i ys H => Keep q H1 H ∧ Pq i H ∧ ∀ j y, ys[j]? = some y → R j y (hid q H)) ⟨Same.keep (hid_none hD), up _ _ _ hq0 (hid_none hD), fun j y z => by simp at z⟩ (fun i ys H _ p _ => hG H (keep_out p.1)) ?_ fun ys H hl e p => k ys H hl (keep_out p.1) (up _ _ _ p.2.1 (hid_same D H)) e p.2.2
  rintro i x ys H H' hi hl ⟨s1, pq, p⟩ e y
  have sY := hY i H x H' y
  have kY := (keep_out s1).same sY
  obtain ⟨σ2, h1, h2, h3⟩ := hs i x H H' hi kY (up _ _ _ (up _ _ _ pq (hid_same D H)) sY) (by rw [sY _ _ e]; exact nofun) y
  refine ⟨σ2, h1, h2, _, h3, ?_⟩
  rintro v H4 ⟨s4, q4, r4⟩
  have e4 := s4.all _ _ (sY _ _ e) (fun z => nq z.symm)
  have k14 := kY.trans s4
  refine ⟨e4, keep_in k14 hD, down _ _ k14 q4, fun j z hz => ?_⟩
  have ks : Same (hid q (hid D H)) (hid q (hid D H4)) := hid_keep (keep_hid ((Same.keep sY).trans s4) nq)
  by_cases hj : j < ys.length
  · rw [List.getElem?_append_left hj] at hz
    exact hR _ _ _ _ (p j z hz) ks
  · rw [List.getElem?_append_right (by omega)] at hz
    have hj0 : j - ys.length = 0 := by
      by_cases c : j - ys.length = 0
      · exact c
      · rw [List.getElem?_eq_none (by simp; omega)] at hz; cases hz
    rw [hj0] at hz
    have ej : j = i := by omega
    obtain rfl : v = z := Option.some.inj hz
    rw [ej]
    exact r4 ⟨_, e4⟩
end
/-- two generators, tuples within a tuple: all items are as R says -/
theorem lc2_tup {K : PySem.W.Frag} {te : TE} {i1 j1 : Nat} {σ : L2.St} {H1 : Hp} {D a : Addr} {Q : VK} {rs : List V} (R : V → Prop) (ht : H1 a = some (.tup rs)) (hD : H1 D = none) (nij : j1 ≠ i1) (hi1 : i1 < σ.length) (hj1 : j1 < σ.length) (hn : ∀ x ∈ rs, ∃ p xs, x = .ref p ∧ H1 p = some (.tup xs) ∧ xs.length ≤ 1000) (hr : rs.length ≤ 1000)
    (hs : ∀ (i j : Nat) (p : Addr) (xs : List V) (y : V) (H : Hp), rs[i]? = some (.ref p) → H1 p = some (.tup xs) → xs[j]? = some y → Same H1 H → te ((((wipe σ [i1, j1]).set i1 (some (.ref p))).set j1 none).set j1 (some y)) H fun v H4 => Same H H4 ∧ R v)
    (k : ∀ ys H, Same H1 H → H D = some (.lst ys) → (∀ (i : Nat) y, ys[i]? = some y → R y) → Q (.ref D) H) :
    Lc2 (Itt K a) (gName i1) tYes (iTup K (fun σ H Q => ∃ v, σ[i1]? = some (some v) ∧ Q v H)) (gName j1) tYes (tCut te) [i1, j1] [j1] σ H1 Q D := by
  have nD : ∀ {H : Hp} {ys : List V}, Same H1 H → Same H1 (upd H D (.lst ys)) := fun {H ys} s b o e => by
    rw [upd_ne (ne_of_none e hD)]
    exact s _ _ e
  refine ⟨fun i m H => m = rs.length - i ∧ i ≤ rs.length ∧ Same H1 H ∧ ∃ ys : List V, H D = some (.lst ys) ∧ ys.length ≤ i * 1000 ∧ ∀ (j : Nat) y, ys[j]? = some y → R y, ⟨rs.length, by simp, Nat.zero_le _, nD (Same.refl H1), [], upd_same, by simp, fun j y h => by simp at h⟩, ?_⟩
  rintro i m H ⟨rfl, hi, s1, ys, e1, l1, r1⟩
  by_cases hlt : i < rs.length
  · refine .inr ⟨(walk_tup (K := K) (a := a) (xs := rs)).goes i H hlt (SqT.of (s1 _ _ ht)), fun H' => Same H1 H' ∧ ∃ ys : List V, H' D = some (.lst ys) ∧ ys.length ≤ (i + 1) * 1000 ∧ ∀ (j : Nat) y, ys[j]? = some y → R y, fun H' q => ⟨rs.length - (i + 1), by omega, rfl, hlt, q.1, q.2⟩, fun x H' y => ?_⟩
    obtain ⟨rfl, hx⟩ := (walk_tup (K := K) (a := a) (xs := rs)).yields i H x H' hlt (SqT.of (s1 _ _ ht)) y
    obtain ⟨p, xs, rfl, hp, hxl⟩ := hn x (List.mem_of_getElem? hx)
    refine ⟨?_, ?_⟩
    · show ((((σ.set j1 none).set i1 none).set i1 (some (V.ref p))).set j1 none).set i1 none = (σ.set j1 none).set i1 none
      rw [List.set_set, List.set_comm none none nij, List.set_set, List.set_comm none none nij, List.set_set]
    · unfold tYes
      dsimp only
      rw [if_pos rfl]
      have len1 : i1 < (wipe σ [i1, j1]).length := by rw [wipe_length]; exact hi1
      refine ⟨.ref p, by rw [List.getElem?_set_self len1], p, rfl, ⟨xs, SqT.of (s1 _ _ hp)⟩, ?_⟩
      refine ⟨fun j k H => k = xs.length - j ∧ j ≤ xs.length ∧ Same H1 H ∧ ∃ ys : List V, H D = some (.lst ys) ∧ ys.length ≤ i * 1000 + j ∧ ∀ (j : Nat) y, ys[j]? = some y → R y, ⟨xs.length, by simp, Nat.zero_le _, s1, ys, e1, by omega, r1⟩, ?_⟩
      rintro j k H ⟨rfl, hj, s2, zs, e2, l2, r2⟩
      by_cases hlj : j < xs.length
      · refine .inr ⟨(walk_tup (K := K) (a := p) (xs := xs)).goes j H hlj (SqT.of (s2 _ _ hp)), fun H' => Same H1 H' ∧ ∃ ys : List V, H' D = some (.lst ys) ∧ ys.length ≤ i * 1000 + (j + 1) ∧ ∀ (j : Nat) y, ys[j]? = some y → R y, fun H' q => ⟨xs.length - (j + 1), by omega, rfl, hlj, q.1, q.2⟩, fun x H' y => ?_⟩
        obtain ⟨rfl, hy⟩ := (walk_tup (K := K) (a := p) (xs := xs)).yields j H x H' hlj (SqT.of (s2 _ _ hp)) y
        refine ⟨wipe_one, ?_⟩
        rw [if_pos rfl]
        refine ⟨_, hs i j p xs x H' hx hp hy s2, ?_⟩
        rintro v H4 ⟨s4, rv⟩
        refine ⟨zs, s4 _ _ e2, Nat.lt_of_le_of_lt (m := 1000 * 1000 + 1000) ?_ (by decide), nD (s2.trans s4), zs ++ [v], upd_same, by simp; omega, fun m y hm => ?_⟩
        · have : i * 1000 ≤ 1000 * 1000 := Nat.mul_le_mul_right _ (by omega)
          omega
        · by_cases hm1 : m < zs.length
          · rw [List.getElem?_append_left hm1] at hm
            exact r2 m y hm
          · rw [List.getElem?_append_right (by omega)] at hm
            have : y ∈ [v] := List.mem_of_getElem? hm
            have e : y = v := by simpa using this
            rw [e]
            exact rv
      · have e : j = xs.length := by omega
        subst e
        exact .inl ⟨(walk_tup (K := K) (a := p) (xs := xs)).stops H (SqT.of (s2 _ _ hp)), s2, zs, e2, by omega, r2⟩
  · have e : i = rs.length := by omega
    subst e
    exact .inl ⟨(walk_tup (K := K) (a := a) (xs := rs)).stops H (SqT.of (s1 _ _ ht)), k ys H s1 e1 r1⟩
section
variable {j : Nat} {σ : L2.St} {x : V} {H : Hp}
/-- the target is one name -/
theorem tg1 : (∀ R : L2.St → Hp → Prop, R ((σ.set j none).set j (some x)) H → gName j x (wipe σ [j]) H R) ∧ wipe ((σ.set j none).set j (some x)) [j] = wipe σ [j] := ⟨fun _ h => h, wipe_one⟩
end
theorem yat_same {xs : List V} : ∀ i H x H', YAt xs i H x H' → Same H H' := fun i H x H' y => by rw [y.1]; exact Same.refl H
theorem yfn_same {f : Nat → V} : ∀ i H x H', YFn f i H x H' → Same H H' := fun i H x H' y => by rw [y.1]; exact Same.refl H
theorem ypair_same {a b : Nat → Option V} : ∀ i H x H', YPair a b i H x H' → Same H H' := fun i H x H' ⟨T, _, _, _, h, e, _⟩ => by
  rw [e]
  exact MG.Same.new (Same.refl H) h

theorem walk_zipT {K : PySem.W.Frag} {a b : Addr} {xs ys : List V} {n : Nat} (hn : n = min xs.length ys.length) : Walk (RZ.ItzT K a b) n (fun H => SqT K H a xs ∧ SqT K H b ys) (YPair (fun i => xs[i]?) (fun i => ys[i]?)) := by
  subst hn
  refine ⟨fun i _ hi q => ?_, fun _ q => ⟨xs, ys, q.1, q.2, by omega⟩, fun i H v H' _ q y => ?_⟩
  · have h1 : i < xs.length := by omega
    have h2 : i < ys.length := by omega
    exact ⟨xs, ys, xs[i], ys[i], q.1, q.2, by simp [h1], by simp [h2]⟩
  · obtain ⟨T, x, z, h1, h2, h3, h4, h5⟩ := y
    exact ⟨T, x, z, h1, h2, h3, h4 xs q.1, h5 ys q.2⟩
/-- a pair put into two names -/
theorem tg2 {K : PySem.W.Frag} {H : Hp} {T : Addr} {x y : V} {i j : Nat} {σ : L2.St} (e : H T = some (.tup [x, y])) : ∀ R : L2.St → Hp → Prop, R ((σ.set i (some x)).set j (some y)) H → gTup K 2 (gCons (gName i) (gCons (gName j) gNil)) (.ref T) σ H R :=
  fun R h => ⟨T, [x, y], rfl, SqT.of e, rfl, x, [y], rfl, y, [], rfl, rfl, h⟩
/-! ### within a comprehension: the written part by its name -/
theorem pi_listK {X : Cx} {K : PySem.W.Frag} {tg l : Expr} {tl : TE} (h : PE X l tl) (hK : X.K = K := by rfl) : PI X tg l (iList K tl) := hK ▸ pi_list h
theorem pi_tupK {X : Cx} {K : PySem.W.Frag} {tg l : Expr} {tl : TE} (h : PE X l tl) (hK : X.K = K := by rfl) : PI X tg l (iTup K tl) := hK ▸ pi_tup h

/-! ### operators of an own class that may raise, in a try -/
structure OpX (P : Program) (w : World) (K : PySem.W.Frag) (mg : Str → Option Value) (base : Heap) (k : Nat) (C : Addr) (op : Operator) (sp : Sp) : Prop where
  ex : ∃ (f : Addr) (fd : FuncData) (ps : List Str), OpAt K C op f ∧ FnOk P w K mg base (L2N.CX P w) k f fd ps sp ∧ Binds K fd ps []
def tOpX (C : Addr) (sp : Sp) (E : L2.St → XK) (ta tb : TE) : TE := fun σ H Q => ta σ H fun x H1 => tb σ H1 fun y H2 => ∃ a dx fs b dy gs, x = .ref a ∧ H2 a = some (.ins C dx fs) ∧ y = .ref b ∧ H2 b = some (.ins C dy gs) ∧ sp [x, y] H2 Q (E σ)
theorem pe_opX {X : Cx} {W : WX} {k j : Nat} {C : Addr} {op : Operator} {sp : Sp} {a b : Expr} {ta tb : TE} {pos : Pos} (c : OpX X.prog X.w X.K X.mg X.base k C op sp) (hr : Room j X.A) (hk : k ≤ j) (tk : L2N.Takes X W) (ha : PE X a ta) (hb : PE X b tb) :
    PE X (.BinOp a op b pos) (tOpX C sp (WE W) ta tb) := by
  refine ⟨fun pins s σ H Q I h => ?_⟩
  obtain ⟨f, fd, ps, o, F, bd⟩ := c.ex
  refine wpAny_BinOp (binT ha hb I h fun v u s2 x y H2 I2 rx ry q => ?_)
  obtain ⟨a, dx, fs, b, dy, gs, rfl, ea, rfl, eb, hsp⟩ := q
  cases rx
  cases ry
  obtain ⟨mA, J, _⟩ := ins_get I2.hok ea
  obtain ⟨od, J, _⟩ := J.look
  obtain ⟨mB, J', _⟩ := ins_get I2.hok eb
  obtain ⟨od', J', _⟩ := J'.look
  obtain ⟨m, hF⟩ := I2.fr
  refine PySem.W.binop_K hF I2.ok.mod.kin J J'.type o.first o.at_ o.fn ?_
  exact wpAny_mono (run_fnS' (vs := [.ref a, .ref b]) F (hr.mono hk) bd .nil (L2N.passAt tk σ) I2 (.cons rfl (.cons rfl .nil)) (by rw [List.append_nil]; exact hsp))
    (fun _ _ hq => match hq with | ⟨_, _, _, r, _⟩ => back_of r hq) fun _ _ e => e

/-! ### math.lcm -/
def rLcm : List V → Hp → VK → Prop := fun vs H Q => ∃ a b : Int, vs = [.int a, .int b] ∧ a.natAbs < 2 ^ 64 ∧ b.natAbs < 2 ^ 64 ∧ Q (.int ((a.natAbs.lcm b.natAbs : Nat) : Int)) H
theorem cr_lcm {X : Cx} : CallR X (.builtin "math.lcm") rLcm := by
  intro pins s σ H vs us Q I r h
  obtain ⟨a, b, rfl, h1, h2, q⟩ := h
  obtain ⟨t, u, rfl⟩ := Vals.int2 r
  exact PySem.W.mc_lcm h1 h2 fun _ => ⟨.int _, H, I.tok _, ⟨_, rfl⟩, q⟩

theorem pi_zipK {X : Cx} {K : PySem.W.Frag} {e e2 : Expr} {ta : TA} {p pos tpos : Pos} {elts : List Expr} {kk : Nat} (hg : Gl X "zip") (hm : X.mg "zip" = none) (ha : PA X [e, e2] ta)
    (hs : starEach [e, e2] X.env = (false, eval e X.env) :: starEach [e2] X.env := by rfl) (hpl : (backTo pos (starEach [e2] X.env)).any (·.1) = false := by rfl) (hK : X.K = K := by rfl) :
    PI X (.Tuple elts kk tpos) (.Call (.Name "zip" p) [e, e2] [] pos) (RZ.iZipA K ta) := hK ▸ RZ.pi_zipA hg hm ha hs hpl
theorem pi_enumK {X : Cx} {K : PySem.W.Frag} {e : Expr} {ta : TA} {p pos tpos : Pos} {elts : List Expr} {kk : Nat} (hg : Gl X "enumerate") (hm : X.mg "enumerate" = none) (ha : PA X [e] ta) (hs : starEach [e] X.env = [(false, eval e X.env)] := by rfl) (hK : X.K = K := by rfl) :
    PI X (.Tuple elts kk tpos) (.Call (.Name "enumerate" p) [e] [] pos) (iEnum K ta) := hK ▸ pi_enum hg hm ha hs
theorem pg_tupK {X : Cx} {K : PySem.W.Frag} {es : List Expr} {k : Nat} {t : TGs} {n : Nat} {pos : Pos} (hc : X.calm = true) (h : PGs X es t)
    (hn : (assignEach es X.env).length = n := by rfl) (hst : (assignEach es X.env).findIdx? (·.1) = none := by rfl) (hK : X.K = K := by rfl) : PG X (.Tuple es k pos) (gTup K n t) := hK ▸ pg_tup hc h hn hst
theorem pe_fldK {X : Cx} {K : PySem.W.Frag} {e : Expr} {f : Str} {ta : TE} {pos : Pos} (he : PE X e ta) (hb : attributeBase e f X.env (eval e X.env) = eval e X.env) (hK : X.K = K := by rfl) : PE X (.Attribute e f pos) (tFld K ta f) := hK ▸ pe_fld he hb
theorem pt_truthK {X : Cx} {K : PySem.W.Frag} {a : Expr} {ta : TE} (ha : PE X a ta) (he : ∀ whole, isTrue a X.env whole = (do let v ← whole; standAt a.pos; holding [v] (truthy v))) (hK : X.K = K := by rfl) :
    PT X a (fun σ H Q => ta σ H fun x H' => ∃ k, TruV K x H' k ∧ Q k H') := hK ▸ pt_truth ha he
theorem call_len_seqK {X : Cx} {K : PySem.W.Frag} (hK : X.K = K := by rfl) : CallR X (.builtin "len") (fun xs H Q => ∃ p ys, xs = [.ref p] ∧ (SqL K H p ys ∨ SqT K H p ys) ∧ Q (.int ys.length) H) := hK ▸ call_len_seq
theorem call_tuple_ofK {X : Cx} {K : PySem.W.Frag} (hK : X.K = K := by rfl) : CallR X (.type "tuple") (fun xs H Q => ∃ p ys, xs = [.ref p] ∧ ((SqL K H p ys ∧ ∀ l, H l = none → Q (.ref l) (upd H l (.tup ys))) ∨ (SqT K H p ys ∧ Q (.ref p) H))) := hK ▸ call_tuple_of
theorem cr_sumK {X : Cx} {K : PySem.W.Frag} (hc : X.calm = true) (hK : X.K = K := by rfl) : CallR X (.builtin "sum") (rSum K) := hK ▸ cr_sum hc
/-! ### an error class with its own __init__: two fields -/
def spXi2 (K : PySem.W.Frag) (C : Addr) (fl gl : Str) : Sp := fun vs H Q _ => ∃ (a : Addr) (y z : V), vs = [.ref a, y, z] ∧ ErC K C ∧ PySem.W.findIn K (.ref C) fl = some none ∧ PySem.W.findIn K (.ref C) gl = some none ∧ H a = some (exo a C none) ∧
  ∀ dx, H dx = none → dx ≠ a → Q .non (upd (upd H dx (exd dx [(gl, z), (fl, y)])) a (exo a C (some dx)))
/-- such a class, as those know it who raise it -/
structure ExcF2 (P : Program) (w : World) (K : PySem.W.Frag) (mg : Str → Option Value) (base : Heap) (k : Nat) (x : Str) (C : Addr) (fl gl : Str) : Prop where
  oex : ErC K C
  xf : XfC K C
  no1 : PySem.W.findIn K (.ref C) fl = some none
  no2 : PySem.W.findIn K (.ref C) gl = some none
  g : mg x = some (.ref C)
  te : PySem.W.exmOne K (.ref C) (.ref C) = some true
  ex : ∃ (fI : Addr) (fd : FuncData) (ps : List Str), PySem.W.findIn K (.ref C) "__init__" = some (some (.ref fI)) ∧ PySem.W.typeIn K (.ref fI) = some (.type "function") ∧ FnOk P w K mg base CX0 k fI fd ps (spXi2 K C fl gl) ∧ Binds K fd ps []
section
variable {X : Cx} {k j : Nat} {C : Addr} {fl gl x : Str} {p pos : Pos} {e : Expr} {es : List Expr} {ta : TA}
/-- the error: its own dict d, new, holds the field -/
def tRx2 (C : Addr) (fl gl : Str) (ta : TA) : L2.St → Hp → XK → Prop := fun σ H Q => ta σ H fun vs H1 => ∃ y z, vs = [y, z] ∧ ∀ d H', Same H1 H' → H1 d = none → H' d = some (.xd [(gl, z), (fl, y)]) → Q (.ref C) (some d) H'
theorem pmk_x2 (T : ExcF2 X.prog X.w X.K X.mg X.base k x C fl gl) (hr : Room j X.A) (hk : k + 1 ≤ j) (hg : Gl X x) (ha : PA X (e :: es) ta)
    (hdb : (x == ("__debug__" : Str)) = false := by decide) (he : starEach (e :: es) X.env = (false, eval e X.env) :: starEach es X.env := by rfl) (hpl : (backTo pos (starEach es X.env)).any (·.1) = false := by rfl) :
    L2N.PMk X (.Call (.Name x p) (e :: es) [] pos) (tRx2 C fl gl ta) := by
  intro pins s σ H Q I h
  obtain ⟨oex, xf, hno, hno2, hm, te, fI, fd, ps, iC, tI, F1, hb⟩ := T
  obtain ⟨B, newId, initId, tl, eb, hin, _⟩ := oex.cls
  refine wpAny_Call_Name_kw (ld_glob I hg hm ?_ hdb)
  refine PySem.W.callWith_K (h₀ := X.base) I.ok.mod.kin oex.kC (thn (ha.run pos pins s σ H _ I h) fun us s1 ⟨vs, H1, I1, r1, y, z, ev, q1⟩ => ⟨I1.kIn, ?_⟩) he hpl
  subst ev
  show wpAny _ _ (call (.ref C) us) _ _ _
  obtain ⟨hp, g, dr, tk, os⟩ := s1
  obtain ⟨nm, N, q, bs, bm, hdct, sn, sub, ab, col, dd, k0, k1, k2, k3, k5, hC, hT⟩ := PySem.W.excInit_of (h := hp) I1.kIn hin
  have hsz : hp.objs.size ≤ hp.objs.size + 1 := Nat.le_succ _
  have hn : H1 (hp.objs.size + 1) = none := I1.hok.fresh hsz
  have hq : spXi2 X.K C fl gl [.ref (hp.objs.size + 1), y, z] (upd H1 (hp.objs.size + 1) (exo (hp.objs.size + 1) C none))
      (fun v H2 => v = .non ∧ ∃ d, H2 (hp.objs.size + 1) = some (exo (hp.objs.size + 1) C (some d)) ∧ H2 d = some (exd d [(gl, z), (fl, y)]) ∧ H1 d = none ∧ Q (.ref C) (some d) (upd (del H2 (hp.objs.size + 1)) d (.xd [(gl, z), (fl, y)]))) (fun _ _ _ => False) := by
    refine ⟨_, y, z, rfl, oex, hno, hno2, upd_same, fun dx hdx ne => ⟨rfl, dx, upd_same, ?_, ?_, q1 dx _ ?_ ?_ ?_⟩⟩
    · rw [upd_ne ne, upd_same]
    · rw [upd_ne ne] at hdx
      exact hdx
    · intro b o hbo
      rw [upd_ne ne] at hdx
      rw [upd_ne (ne_of_none hbo hdx), del_ne (ne_of_none hbo hn), upd_ne (ne_of_none hbo hn), upd_ne (ne_of_none hbo hdx), upd_ne (ne_of_none hbo hn)]
      exact hbo
    · rw [upd_ne ne] at hdx
      exact hdx
    · exact upd_same
  have kk : ∀ b o, hp.get? b = some o → ((hp.push (PySem.W.kdv_tup us)).push (PySem.HandSPX.excO C hp.objs.size)).get? b = some o := fun b o e => Heap.get?_push_of_some _ (Heap.get?_push_of_some _ e)
  have hget : ((hp.push (PySem.W.kdv_tup us)).push (PySem.HandSPX.excO C hp.objs.size)).get? (hp.objs.size + 1) = some (PySem.HandSPX.excO C hp.objs.size) := by heap_get
  have I2 : Inv X pins σ (upd H1 (hp.objs.size + 1) (exo (hp.objs.size + 1) C none)) ⟨(hp.push (PySem.W.kdv_tup us)).push (PySem.HandSPX.excO C hp.objs.size), g, dr, tk, os⟩ :=
    I1.laid (t' := tk) (a := hp.objs.size + 1) (o := exo (hp.objs.size + 1) C none) (h' := (hp.push (PySem.W.kdv_tup us)).push (PySem.HandSPX.excO C hp.objs.size)) kk hsz (exo_ok hget)
  have r2 : Vals (V.ref (hp.objs.size + 1) :: [y, z]) (Value.ref (hp.objs.size + 1) :: us) := .cons rfl r1
  have hl : (Value.ref (hp.objs.size + 1) :: us ++ []).length = ps.length := by
    have e := r2.length
    have e2 := F1.len _ _ _ _ hq
    rw [List.append_nil, ← e]
    exact e2
  have hus : us.length ≤ sizeLine := by
    rw [← Paired.length r1, sizeLine_eq]
    show 2 ≤ _
    omega
  have b2 := hb _ (Value.ref (hp.objs.size + 1) :: us) I2.kIn hl
  rw [List.append_nil] at b2
  refine wpAny_call (xk_call eb.fb hT hC (PySem.W.looks_findIn I1.kIn iC) (fun self => PySem.W.bind_fn I1.kIn self tI) hus
    (codeAny_mono (F1.run _ X.stack _ _ ⟨Value.ref (hp.objs.size + 1) :: us, []⟩ (Value.ref (hp.objs.size + 1) :: us) _ _ (fun _ _ _ => False) ((hr.mono hk).make C us []) (I2.env0.make C us []) b2 r2 hq) fun r s' hq' => ?_))
  cases r with
  | error er => exact False.elim hq'
  | ok fl' =>
    cases fl' with
    | ret u =>
      obtain ⟨v, H2, os2, bare2, un2, hok2, rv, ev, d, ea, ed, hd1, q2⟩ := hq'
      subst ev
      obtain ⟨h2, g2, d2, t2, os'⟩ := s'
      obtain ⟨t0, G, J, kG, ge, hoe, na⟩ := mk_end0 (d2 := d2) (t2 := t2) I1 hsz kk un2 hok2 os2 bare2 ea ed hd1
      exact ⟨rv, ⟨hp.objs.size + 1, _, _, ⟨G, g2, d2, t2, os'⟩, _, .ref C, some d, rfl, J, kG, ge, hoe, ⟨rfl, rfl, fun vs hv => by cases hv; rfl⟩, rfl, rfl, na, rfl, bare2, raises_own oex.exC oex.tyC, q2⟩⟩
    | next => exact False.elim hq'
    | brk => exact False.elim hq'
    | cont => exact False.elim hq'
theorem ps_raise2 {W : WX} {pos2 : Pos} (T : ExcF2 X.prog X.w X.K X.mg X.base k x C fl gl) (hr : Room j X.A) (hk : k + 1 ≤ j) (hc : X.calm = true) (tk : L2N.Takes X W) (hg : Gl X x) (ha : PA X (e :: es) ta)
    (hdb : (x == ("__debug__" : Str)) = false := by decide) (he : starEach (e :: es) X.env = (false, eval e X.env) :: starEach es X.env := by rfl) (hpl : (backTo pos (starEach es X.env)).any (·.1) = false := by rfl) :
    PS X (.Raise (some (.Call (.Name x p) (e :: es) [] pos)) none pos2) (fun _ σ H => tRx2 C fl gl ta σ H fun cls d H' => W cls d σ H') := L2N.ps_raise hc tk (pmk_x2 T hr hk hg ha hdb he hpl)
end
end MG

/-! an operator with an instance of another class behind; without a try -/
namespace PySem.W
open PyProof.Rows
section
variable {prog : Program} {w : World} {A : Around} {E : Value → Shared → Prop} {s : Shared} {K : Frag} {x C C2 L f f2 : Addr} {h₀ : Heap} {m : Str → Option Value} {ox : Obj} {od : Option Obj}
theorem mg_binC {op : Operator} {b : Value} {Q : Value → Shared → Prop} (F : Fr h₀ L s.heap m) (X₀ : K.In h₀) (I : InstAt s.heap x ox C od) (hb : Looks (model prog w) s.heap (typeOf b) (.ref C2)) (hc : selfFirst K C = true) (hc2 : selfFirst K C2 = true)
    (hs : findIn K (.ref C) (PySem.dunder op.info.2) = some (some (.ref f))) (hf : isFn K (.ref f) = true) (hr : findIn K (.ref C) (dunderR op.info.2) = some none)
    (hs2 : findIn K (.ref C2) (PySem.dunder op.info.2) = some (some (.ref f2))) (hr2 : findIn K (.ref C2) (dunderR op.info.2) = some none) (hsub : subIn K (.ref C2) (.ref C) = some false) (hne : C ≠ C2)
    (h : wpAny (model prog w) A (call (.ref f) [.ref x, b]) (CmpBack Q) E s) : wpAny (model prog w) A (binaryOp op (.ref x) b) Q E s := by
  have X := X₀.keeps F.keep
  obtain ⟨cd, rest, hcd, hm⟩ := ksp_first hc
  obtain ⟨cd2, rest2, hcd2, hm2⟩ := ksp_first hc2
  rcases hi : op.info with ⟨sym, nm'⟩
  rw [hi] at hs hr hs2 hr2
  dsimp only at hs hr hs2 hr2
  have one := ksp_try X I hs hf h
  obtain ⟨hh, g, d, tt, os⟩ := s
  have L1 : Looks (model prog w) hh (typeOf (.ref x)) (.ref C) := I.type
  have L2 : Looks (model prog w) hh (typeOf b) (.ref C2) := hb
  have L3 : Looks (model prog w) hh (fillsNumberSlot (.ref C) nm') true := fills_K X hcd hm hs
  have L4 : Looks (model prog w) hh (fillsNumberSlot (.ref C2) nm') true := fills_K X hcd2 hm2 hs2
  have L5 : Looks (model prog w) hh (isSubtype (.ref C2) (.ref C)) false := looks_subIn X hsub
  have L6 : Looks (model prog w) hh (numberSlotInPython (.ref C) nm') true := ksp_inPy X hs hr (.inl rfl)
  have L7 : Looks (model prog w) hh (numberSlotInPython (.ref C2) nm') true := ksp_inPy X hs2 hr2 (.inl rfl)
  have hne' : (Value.ref C == Value.ref C2) = false := Bool.eq_false_iff.mpr fun q => hne (by cases beq_iff_eq.mp q; rfl)
  simp only [binaryOp, hi]
  refine wpAny_holding (wpAny_bind ?_)
  unfold binaryOp1
  refine wpAny_bind (L1.at (wpAny_bind (L2.at (wpAny_bind (L3.at ?_)))))
  simp only [hne', Bool.false_eq_true, if_false]
  ksp_lk
  refine wpAny_mono one (fun r s' hr' => ?_) fun _ _ e => e
  obtain ⟨v, rfl, hq⟩ := hr'
  ksp_lk
  exact hq
end
end PySem.W
namespace MG
open PySem PySem.Spec PyProof.Rows L2
/-- what the top says of an operator of C with an instance of C2 behind -/
structure OpTwo (K : PySem.W.Frag) (C C2 : Addr) (op : Operator) : Prop where
  first : PySem.W.selfFirst K C2 = true
  at2 : ∃ f2, PySem.W.findIn K (.ref C2) (PySem.dunder op.info.2) = some (some (.ref f2))
  ref2 : PySem.W.findIn K (.ref C2) (dunderR op.info.2) = some none
  sub : PySem.W.subIn K (.ref C2) (.ref C) = some false
  ne : C ≠ C2
/-- x op y, x of the class at C, y of it, of that at C2, or an int -/
def rOwn2 (C C2 : Addr) (sp : Sp) (E : XK) : R2 := fun x y H Q => ∃ a dx fs, x = .ref a ∧ H a = some (.ins C dx fs) ∧
  ((∃ b dy gs, y = .ref b ∧ H b = some (.ins C dy gs)) ∨ (∃ b dy gs, y = .ref b ∧ H b = some (.ins C2 dy gs)) ∨ ∃ i, y = .int i) ∧ sp [x, y] H Q E
theorem op_two {X : Cx} {CX : CXT} {k : Nat} {C C2 f : Addr} {op : Operator} {fd : FuncData} {ps : List Str} {sp : Sp} {E : XK}
    (o : OpAt X.K C op f) (oi : OpInt X.K C op) (o2 : OpTwo X.K C C2 op) (F : FnOk X.prog X.w X.K X.mg X.base CX k f fd ps sp) (hr : Room k X.A)
    (hb : Binds X.K fd ps []) (hx : Passes CX X E) : OpR X (binaryOp op) (rOwn2 C C2 sp E) := by
  intro pins s σ H x y v u Q I rx ry h
  obtain ⟨a, dx, fs, rfl, ha, hy, hsp⟩ := h
  rcases hy with hy | ⟨b, dy, gs, rfl, hb'⟩ | hy
  · exact op_own o oi F hr hb hx pins s σ H _ y v u Q I rx ry ⟨a, dx, fs, rfl, ha, .inl hy, hsp⟩
  · cases rx
    cases ry
    obtain ⟨mA, J, _⟩ := ins_get I.hok ha
    obtain ⟨od, J, _⟩ := J.look
    obtain ⟨m, hF⟩ := I.fr
    obtain ⟨mB, J', _⟩ := ins_get I.hok hb'
    obtain ⟨od', J', _⟩ := J'.look
    obtain ⟨f2, h2⟩ := o2.at2
    refine PySem.W.mg_binC hF I.ok.mod.kin J J'.type o.first o2.first o.at_ o.fn o.ref h2 o2.ref2 o2.sub o2.ne ?_
    exact wpAny_mono (run_fn (vs := [.ref a, .ref b]) F hr hb .nil hx I (.cons rfl (.cons rfl .nil)) (by rw [List.append_nil]; exact hsp))
      (fun _ _ hq => match hq with | ⟨_, _, _, r, _⟩ => back_of r hq) fun _ _ e => e
  · exact op_own o oi F hr hb hx pins s σ H _ y v u Q I rx ry ⟨a, dx, fs, rfl, ha, .inr hy, hsp⟩
theorem passX {X : Cx} : Passes (L2N.CX X.prog X.w) X (fun _ _ _ => False) := fun _ σ _ _ _ _ I h => passF (σ := σ) _ _ _ _ _ I h
/-- an operator that may raise, where it doesn't -/
structure OpXF (P : Program) (w : World) (K : PySem.W.Frag) (mg : Str → Option Value) (base : Heap) (k : Nat) (C C2 : Addr) (op : Operator) (sp : Sp) : Prop where
  ex : ∃ (f : Addr) (fd : FuncData) (ps : List Str), OpAt K C op f ∧ OpInt K C op ∧ OpTwo K C C2 op ∧ FnOk P w K mg base (L2N.CX P w) k f fd ps sp ∧ Binds K fd ps []
theorem op_xf {X : Cx} {k j : Nat} {C C2 : Addr} {op : Operator} {sp : Sp} (o : OpXF X.prog X.w X.K X.mg X.base k C C2 op sp) (hr : Room j X.A) (hk : k ≤ j) : OpR X (binaryOp op) (rOwn2 C C2 sp E0) := by
  obtain ⟨f, fd, ps, a, i, t, F, b⟩ := o.ex
  exact op_two a i t F (hr.mono hk) b passX
theorem OpXF.x {P : Program} {w : World} {K : PySem.W.Frag} {mg : Str → Option Value} {base : Heap} {k : Nat} {C C2 : Addr} {op : Operator} {sp : Sp} (o : OpXF P w K mg base k C C2 op sp) : OpX P w K mg base k C op sp := by
  obtain ⟨f, fd, ps, a, i, t, F, b⟩ := o.ex
  exact ⟨f, fd, ps, a, F, b⟩
end MG

/-! data of lists of lists; sums -/
namespace MG
open PySem PySem.Spec PyProof.Rows L2
section
variable {K : PySem.W.Frag} {H H' : Hp}
theorem seqL_same {a : Addr} {xs : List V} (s : Same H H') (h : SqL K H a xs) : SqL K H' a xs := s.seq h
mutual
theorem Dp.same (s : Same H H') : ∀ {v : V} {d : PyData}, Dp K H v d → Dp K H' v d
  | _, _, .non => .non
  | _, _, .bl b => .bl b
  | _, _, .int i => .int i
  | _, _, .str x => .str x
  | _, _, .lst h a => .lst (s.seq h) (DpAll.same s a)
  | _, _, .tup h a => .tup (same_tup s h) (DpAll.same s a)
theorem DpAll.same (s : Same H H') : ∀ {vs : List V} {ds : List PyData}, DpAll K H vs ds → DpAll K H' vs ds
  | _, _, .nil => .nil
  | _, _, .cons h t => .cons (Dp.same s h) (DpAll.same s t)
end
theorem dpAll_of : ∀ {xs : List V} {ds : List PyData}, ds.length = xs.length → (∀ (i : Nat) (x : V) (d : PyData), xs[i]? = some x → ds[i]? = some d → Dp K H x d) → DpAll K H xs ds
  | [], [], _, _ => .nil
  | [], _ :: _, h, _ => by simp at h
  | _ :: _, [], h, _ => by simp at h
  | x :: xs, d :: ds, h, p => .cons (p 0 x d rfl rfl) (dpAll_of (by simpa using h) fun i y e h1 h2 => p (i + 1) y e (by simpa using h1) (by simpa using h2))
end
theorem showAll_of : ∀ {ds : List PyData}, (∀ d ∈ ds, d.showable = true) → PyData.showableAll ds = true
  | [], _ => by simp [PyData.showableAll]
  | d :: ds, h => by
    rw [PyData.showableAll, h d (by simp), showAll_of fun e he => h e (by simp [he])]
    rfl
theorem dictAll_of : ∀ {ds : List PyData}, (∀ d ∈ ds, d.hasDict = false) → PyData.hasDictAll ds = false
  | [], _ => by simp [PyData.hasDictAll]
  | d :: ds, h => by
    rw [PyData.hasDictAll, h d (by simp), dictAll_of fun e he => h e (by simp [he])]
    rfl
theorem shownAll_map : ∀ (ds : List PyData), PyData.shownAll ds = ds.map PyData.shown
  | [] => by simp [PyData.shownAll]
  | d :: ds => by rw [PyData.shownAll, shownAll_map ds]; rfl
theorem piled_le {n : Nat} : ∀ {ts : List Str}, (∀ t ∈ ts, t.length ≤ n) → piled ts ≤ (n + 2) * ts.length
  | [], _ => by simp [piled]
  | t :: ts, h => by
    have h1 := h t (by simp)
    have h2 : piled ts ≤ (n + 2) * ts.length := piled_le fun e he => h e (List.mem_cons_of_mem _ he)
    rw [piled_cons, List.length_cons, Nat.mul_succ]
    omega
theorem listText_le {ts : List Str} : (listText ts).length ≤ piled ts + 2 := by
  cases ts with
  | nil => decide
  | cons t ts =>
    unfold listText
    have h := textFrom_length_pos ts 1 (("[" : Str) ++ (if 0 > 0 then ", " else "" : String) ++ t) (by decide)
    have e : textFrom 0 "[" (t :: ts) = textFrom 1 (("[" : Str) ++ (if 0 > 0 then ", " else "" : String) ++ t) ts := rfl
    rw [e, strLen_append, h, strLen_append, strLen_append, piled_cons]
    have h1 : (("[" : Str)).length = 1 := rfl
    have h2 : (("]" : Str)).length = 1 := rfl
    have h3 : (Str.ofString (if 0 > 0 then ", " else "" : String)).length = 0 := rfl
    omega
theorem listText_bd {ts : List Str} {n : Nat} (h : ∀ t ∈ ts, t.length ≤ n) : (listText ts).length ≤ (n + 2) * ts.length + 2 := Nat.le_trans listText_le (Nat.add_le_add_right (piled_le h) 2)
/-- what repr asks of data -/
structure Okd (d : PyData) (n k : Nat) : Prop where
  sh : d.showable = true
  nd : d.hasDict = false
  dp : d.depth ≤ k
  ln : d.shown.length ≤ n
theorem depthAll_le {k : Nat} : ∀ {ds : List PyData}, (∀ d ∈ ds, d.depth ≤ k) → PyData.depthAll ds ≤ k
  | [], _ => by simp [PyData.depthAll]
  | d :: ds, h => by
    have h1 := h d (by simp)
    have h2 : PyData.depthAll ds ≤ k := depthAll_le fun e he => h e (List.mem_cons_of_mem _ he)
    rw [PyData.depthAll]
    omega
theorem okd_list {ds : List PyData} {n k m : Nat} (h : ∀ d ∈ ds, Okd d n k) (hm : ds.length ≤ m) : Okd (.list ds) ((n + 2) * m + 2) (k + 1) := by
  refine ⟨?_, ?_, ?_, ?_⟩
  · rw [PyData.showable]; exact showAll_of fun d hd => (h d hd).sh
  · rw [PyData.hasDict]; exact dictAll_of fun d hd => (h d hd).nd
  · have := depthAll_le (k := k) fun d hd => (h d hd).dp
    rw [PyData.depth]
    omega
  · rw [PyData.shown, shownAll_map]
    refine Nat.le_trans (listText_bd (n := n) fun t ht => ?_) ?_
    · obtain ⟨d, hd, rfl⟩ := List.mem_map.mp ht
      exact (h d hd).ln
    · rw [List.length_map]
      exact Nat.add_le_add_right (Nat.mul_le_mul_left _ hm) 2
theorem okd_pair {a b : Int} (ha : Sm a) (hb : Sm b) : Okd (.tuple [.int a, .int b]) 4000 1 := by
  refine ⟨?_, rfl, ?_, shw_len ha hb⟩
  · simp [PyData.showable, PyData.showableAll, log_sm ha, log_sm hb]
  · simp [PyData.depth, PyData.depthAll]
theorem Okd.rep {K : PySem.W.Frag} {H : Hp} {x : V} {d : PyData} {n k : Nat} {Q : VK} (o : Okd d n k) (h : Dp K H x d) (hk : k ≤ 60) (hn : n ≤ sizeLine) (q : Q (.str d.shown) H) : rRepr K [x] H Q :=
  ⟨x, d, rfl, h, o.sh, o.nd, Nat.le_trans o.dp hk, Nat.le_trans o.ln hn, q⟩
/-- numerators and denominators of a row, of a table -/
def prD (p : Rat) : PyData := .tuple [.int p.num, .int p.den]
def rowD (c : Nat) (g : Nat → Rat) : PyData := .list ((List.range c).map fun j => prD (g j))
def tabD (r c : Nat) (f : Nat → Nat → Rat) : PyData := .list ((List.range r).map fun i => rowD c (f i))
theorem tabD_congr {r c : Nat} {f g : Nat → Nat → Rat} (h : ∀ i j, i < r → j < c → f i j = g i j) : tabD r c f = tabD r c g := by
  unfold tabD
  congr 1
  refine List.map_congr_left fun i hi => ?_
  unfold rowD
  congr 1
  refine List.map_congr_left fun j hj => ?_
  rw [h i j (List.mem_range.mp hi) (List.mem_range.mp hj)]
theorem okd_tab {r c m n k : Nat} {f : Nat → Nat → Rat} (hr : r ≤ m) (hc : c ≤ n) (hk : k ≤ 400) (h : ∀ i j, i < r → j < c → Bd (f i j) k) : Okd (tabD r c f) (((4000 + 2) * n + 2 + 2) * m + 2) 3 := by
  refine okd_list (fun d hd => ?_) (by simpa using hr)
  obtain ⟨i, hi, rfl⟩ := List.mem_map.mp hd
  refine okd_list (fun e he => ?_) (by simpa using hc)
  obtain ⟨j, hj, rfl⟩ := List.mem_map.mp he
  have b := h i j (List.mem_range.mp hi) (List.mem_range.mp hj)
  exact okd_pair (b.num hk) (b.den hk)
theorem range_get {α : Type} {n : Nat} {f : Nat → α} {i : Nat} {x : α} (h : ((List.range n).map f)[i]? = some x) : i < n ∧ x = f i := by
  rw [List.getElem?_map] at h
  by_cases hi : i < n
  · rw [List.getElem?_range hi] at h
    exact ⟨hi, (Option.some.inj h).symm⟩
  · rw [List.getElem?_eq_none (by simpa using hi)] at h; cases h
theorem dp_row {K : PySem.W.Frag} {H : Hp} {p : Addr} {xs : List V} {c : Nat} {d : Nat → PyData} (e : H p = some (.lst xs)) (hl : xs.length = c) (h : ∀ j y, xs[j]? = some y → Dp K H y (d j)) : Dp K H (.ref p) (.list ((List.range c).map d)) :=
  .lst (SqL.of e) (dpAll_of (by simp [hl]) fun i x z h1 h2 => by
    obtain ⟨_, rfl⟩ := range_get h2
    exact h i x h1)
/-! ### sums -/
def sumQ : Nat → (Nat → Rat) → Rat
  | 0, _ => 0
  | n + 1, f => sumQ n f + f n
def smZ : Nat → (Nat → Int) → Int
  | 0, _ => 0
  | n + 1, f => smZ n f + f n
theorem smZ_list (n : Nat) (f : Nat → Int) : ((List.range n).map f).sum = smZ n f := by
  induction n with
  | zero => rfl
  | succ n ih =>
    rw [List.range_succ, List.map_append, List.sum_append, ih]
    simp [smZ]
theorem sumQ_congr {n : Nat} {f g : Nat → Rat} (h : ∀ i, i < n → f i = g i) : sumQ n f = sumQ n g := by
  induction n with
  | zero => rfl
  | succ n ih => rw [sumQ, sumQ, ih fun i hi => h i (by omega), h n (by omega)]
theorem smZ_congr {n : Nat} {f g : Nat → Int} (h : ∀ i, i < n → f i = g i) : smZ n f = smZ n g := by
  induction n with
  | zero => rfl
  | succ n ih => rw [smZ, smZ, ih fun i hi => h i (by omega), h n (by omega)]
theorem sumQ_add (n : Nat) (f g : Nat → Rat) : sumQ n (fun i => f i + g i) = sumQ n f + sumQ n g := by
  induction n with
  | zero => exact (Rat.add_zero 0).symm
  | succ n ih => rw [sumQ, sumQ, sumQ, ih]; grind
theorem sumQ_mul (n : Nat) (a : Rat) (f : Nat → Rat) : sumQ n (fun i => a * f i) = a * sumQ n f := by
  induction n with
  | zero => simp [sumQ]
  | succ n ih => rw [sumQ, sumQ, ih]; grind
theorem sumQ_mulr (n : Nat) (a : Rat) (f : Nat → Rat) : sumQ n (fun i => f i * a) = sumQ n f * a := by
  induction n with
  | zero => simp [sumQ]
  | succ n ih => rw [sumQ, sumQ, ih]; grind
theorem sumQ_zero (n : Nat) : sumQ n (fun _ => 0) = 0 := by
  induction n with
  | zero => rfl
  | succ n ih => rw [sumQ, ih]; grind
theorem sumQ_swap (m n : Nat) (f : Nat → Nat → Rat) : sumQ m (fun i => sumQ n (f i)) = sumQ n (fun j => sumQ m fun i => f i j) := by
  induction m with
  | zero => simp only [sumQ]; rw [sumQ_zero]
  | succ m ih => rw [sumQ, ih, ← sumQ_add]; exact sumQ_congr fun i _ => rfl
/-- the product of tables; n: what both have in common -/
def mulQ (n : Nat) (f g : Nat → Nat → Rat) : Nat → Nat → Rat := fun i k => sumQ n fun j => f i j * g j k
theorem mulQ_assoc (m n : Nat) (f g h : Nat → Nat → Rat) (i l : Nat) : mulQ n (mulQ m f g) h i l = mulQ m f (mulQ n g h) i l := by
  unfold mulQ
  have e1 : (fun k => sumQ m (fun j => f i j * g j k) * h k l) = fun k => sumQ m fun j => f i j * g j k * h k l := by
    funext k; rw [sumQ_mulr]
  have e2 : (fun j => f i j * sumQ n fun k => g j k * h k l) = fun j => sumQ n fun k => f i j * (g j k * h k l) := by
    funext j; rw [sumQ_mul]
  rw [e1, e2, sumQ_swap]
  exact sumQ_congr fun j _ => sumQ_congr fun k _ => Rat.mul_assoc _ _ _
/-- one fraction of a sum of products of ints over one bottom each -/
theorem sum_div {n : Nat} {a b : Nat → Int} {u v : Int} (hu : u ≠ 0) (hv : v ≠ 0) : Rat.divInt (smZ n fun i => a i * b i) (u * v) = sumQ n fun i => Rat.divInt (a i) u * Rat.divInt (b i) v := by
  induction n with
  | zero => simp [smZ, sumQ]
  | succ n ih =>
    rw [smZ, sumQ, ← ih, Rat.divInt_mul_divInt]
    have h := Int.mul_ne_zero hu hv
    rw [Rat.divInt_add_divInt _ _ h h, ← Int.add_mul, Rat.divInt_mul_right h]
theorem all_bl {K : PySem.W.Frag} {H : Hp} {D : Addr} {ys : List V} (e : H D = some (.lst ys)) (h : ∀ (i : Nat) (y : V), ys[i]? = some y → y = .bl true) : ∃ bs : List Bool, SqL K H D (bs.map V.bl) ∧ bs.all id = true := by
  have e1 : ys = (List.replicate ys.length true).map V.bl := by
    refine List.ext_getElem? fun i => ?_
    rw [List.getElem?_map]
    by_cases hi : i < ys.length
    · rw [List.getElem?_replicate, if_pos hi, List.getElem?_eq_getElem hi]
      exact congrArg some (h i _ (List.getElem?_eq_getElem hi))
    · rw [List.getElem?_eq_none (by omega), List.getElem?_eq_none (by simpa using hi)]
      rfl
  exact ⟨_, SqL.of (e1 ▸ e), by simp⟩
theorem ints_of {ys : List V} {n : Nat} {f : Nat → Int} (hl : ys.length = n) (h : ∀ (i : Nat) (y : V), ys[i]? = some y → y = .int (f i)) : ys = ((List.range n).map f).map V.int := by
  refine List.ext_getElem? fun i => ?_
  rw [List.map_map, List.getElem?_map]
  by_cases hi : i < n
  · rw [List.getElem?_range hi, List.getElem?_eq_getElem (by omega)]
    exact congrArg some (h i _ (List.getElem?_eq_getElem (by omega)))
  · rw [List.getElem?_eq_none (by omega), List.getElem?_eq_none (by simpa using hi)]
    rfl
/-- a row of ints -/
def rowV (c : Nat) (g : Nat → Int) : List V := ((List.range c).map g).map V.int
theorem rowV_len {c : Nat} {g : Nat → Int} : (rowV c g).length = c := by simp [rowV]
theorem rowV_get {c : Nat} {g : Nat → Int} {i : Nat} {y : V} (h : (rowV c g)[i]? = some y) : i < c ∧ y = .int (g i) := by
  unfold rowV at h
  rw [List.map_map] at h
  exact range_get h
theorem rowV_at {c : Nat} {g : Nat → Int} {i : Nat} (h : i < c) : (rowV c g)[i]? = some (.int (g i)) := by
  unfold rowV
  rw [List.map_map, List.getElem?_map, List.getElem?_range h]
  rfl
end MG

namespace Lw
open PySem PySem.Spec PyProof.Rows L2 MG
abbrev s_is_table : Stmt := top 20
abbrev s_over_one_bottom : Stmt := top 21
abbrev s_row_times : Stmt := top 22
abbrev s_multiplied : Stmt := top 23
abbrev s_Matrix___init__ : Stmt := inClass (top 24) 0
abbrev s_Matrix_entries : Stmt := inClass (top 24) 1
abbrev s_Matrix_rows : Stmt := inClass (top 24) 2
abbrev s_Matrix_columns : Stmt := inClass (top 24) 3
abbrev s_Matrix_transposed : Stmt := inClass (top 24) 4
abbrev s_Matrix__check_equal_sizes : Stmt := inClass (top 24) 11
abbrev s_Matrix___add__ : Stmt := inClass (top 24) 12
abbrev s_Matrix___sub__ : Stmt := inClass (top 24) 13
abbrev s_Matrix___mul__ : Stmt := inClass (top 24) 14
abbrev s_Matrix___neg__ : Stmt := inClass (top 24) 15
abbrev s_Matrix___eq__ : Stmt := inClass (top 24) 18
abbrev s_Mismatch___init__ : Stmt := inClass (top 10) 0
/-- what the top says of the class Matrix, at CM -/
structure TxM (K : PySem.W.Frag) (mg : Str → Option Value) (C CM : Addr) : Prop extends TxR K mg C where
  clM : Cls K CM
  nE : NoAttr K CM "_entries"
  g_Matrix : mg "Matrix" = some (.ref CM)
  g_lcm : mg "lcm" = some (.builtin "math.lcm")
  caM : PySem.W.findIn K (.ref CM) "__class__" = some (some (.builtin "object.__class__"))
  cmM : PySem.W.mroIn K CM (.type "object") = some true
  kMM : PySem.W.kitOne K (.ref CM) (.ref CM) = some true
  kMR : PySem.W.kitOne K (.ref CM) (.ref C) = some false
  kRM : PySem.W.kitOne K (.ref C) (.ref CM) = some false
  kMI : PySem.W.kitOne K (.ref CM) (.type "int") = some false
  kMB : PySem.W.kitOne K (.ref CM) (.type "bool") = some false
  kIM : PySem.W.kitOne K (.type "int") (.ref CM) = some false
/-! ### tables of numbers in the heap -/
abbrev CellP := Hp → V → Rat → Prop
/-- a Ratio -/
def RC (C : Addr) : CellP := fun H y q => ∃ a, y = .ref a ∧ RatAt C H a q
def Rw (P : CellP) (H : Hp) (x : V) (c : Nat) (g : Nat → Rat) : Prop := ∃ p xs, x = .ref p ∧ H p = some (.tup xs) ∧ xs.length = c ∧ ∀ (j : Nat) (y : V), xs[j]? = some y → P H y (g j)
def Tb (P : CellP) (H : Hp) (t : Addr) (r c : Nat) (f : Nat → Nat → Rat) : Prop := ∃ rs, H t = some (.tup rs) ∧ rs.length = r ∧ ∀ (i : Nat) (x : V), rs[i]? = some x → Rw P H x c (f i)
structure Mono (P : CellP) : Prop where
  same : ∀ {H H' : Hp} {y : V} {q : Rat}, P H y q → Same H H' → P H' y q
  hid : ∀ {H : Hp} {y : V} {q : Rat} {D : Addr} {l : List V}, P H y q → H D = some (.lst l) → P (hid D H) y q
theorem rc_mono (C : Addr) : Mono (RC C) := ⟨fun ⟨a, e, h⟩ s => ⟨a, e, h.same s⟩, fun {H y q D l} ⟨a, e, dx, h⟩ hD => ⟨a, e, dx, by rw [hid_ne (ne_of h hD (by intro z; cases z))]; exact h⟩⟩
theorem num_mono (C : Addr) : Mono (NumAt C) := ⟨fun h s => h.same s, fun {H y q D l} h hD => by
  rcases h with ⟨a, e, h⟩ | h
  · obtain ⟨b, e', h'⟩ := (rc_mono C).hid ⟨a, e, h⟩ hD
    exact .inl ⟨b, e', h'⟩
  · exact .inr h⟩
theorem RC.num {C : Addr} {H : Hp} {y : V} {q : Rat} (h : RC C H y q) : NumAt C H y q := h.elim fun a ⟨e, h⟩ => .inl ⟨a, e, h⟩
section
variable {P : CellP} {H H' : Hp} {x : V} {t D : Addr} {r c : Nat} {g g' : Nat → Rat} {f f' : Nat → Nat → Rat} {l : List V}
theorem Rw.same (m : Mono P) (h : Rw P H x c g) (s : Same H H') : Rw P H' x c g := by
  obtain ⟨p, xs, e, hp, hl, hc⟩ := h
  exact ⟨p, xs, e, s _ _ hp, hl, fun j y hy => m.same (hc j y hy) s⟩
theorem Rw.hid (m : Mono P) (h : Rw P H x c g) (hD : H D = some (.lst l)) : Rw P (hid D H) x c g := by
  obtain ⟨p, xs, e, hp, hl, hc⟩ := h
  exact ⟨p, xs, e, by rw [hid_ne (ne_of hp hD (by intro z; cases z))]; exact hp, hl, fun j y hy => m.hid (hc j y hy) hD⟩
theorem Rw.congr (h : Rw P H x c g) (e : ∀ j, j < c → g j = g' j) : Rw P H x c g' := by
  obtain ⟨p, xs, e', hp, hl, hc⟩ := h
  refine ⟨p, xs, e', hp, hl, fun j y hy => ?_⟩
  rw [← e j (by have := (List.getElem?_eq_some_iff.mp hy).1; omega)]
  exact hc j y hy
theorem Tb.same (m : Mono P) (h : Tb P H t r c f) (s : Same H H') : Tb P H' t r c f := by
  obtain ⟨rs, ht, hl, hc⟩ := h
  exact ⟨rs, s _ _ ht, hl, fun i x hx => (hc i x hx).same m s⟩
theorem Tb.hid (m : Mono P) (h : Tb P H t r c f) (hD : H D = some (.lst l)) : Tb P (hid D H) t r c f := by
  obtain ⟨rs, ht, hl, hc⟩ := h
  exact ⟨rs, by rw [hid_ne (ne_of ht hD (by intro z; cases z))]; exact ht, hl, fun i x hx => (hc i x hx).hid m hD⟩
theorem Tb.congr (h : Tb P H t r c f) (e : ∀ i j, i < r → j < c → f i j = f' i j) : Tb P H t r c f' := by
  obtain ⟨rs, ht, hl, hc⟩ := h
  exact ⟨rs, ht, hl, fun i x hx => (hc i x hx).congr fun j hj => e i j (by have := (List.getElem?_eq_some_iff.mp hx).1; omega) hj⟩
theorem Tb.imp {P' : CellP} (i : ∀ {H y q}, P H y q → P' H y q) (h : Tb P H t r c f) : Tb P' H t r c f := by
  obtain ⟨rs, ht, hl, hc⟩ := h
  refine ⟨rs, ht, hl, fun k x hx => ?_⟩
  obtain ⟨p, xs, e, hp, hl, hc⟩ := hc k x hx
  exact ⟨p, xs, e, hp, hl, fun j y hy => i (hc j y hy)⟩
end
/-- a Matrix stands at a -/
def mfl (t : Addr) : List (Str × V) := [("_entries", .ref t)]
def MtAt (C CM : Addr) (H : Hp) (a : Addr) (r c : Nat) (f : Nat → Nat → Rat) : Prop := ∃ dx t, H a = some (.ins CM dx (mfl t)) ∧ Tb (RC C) H t r c f
theorem MtAt.same {C CM : Addr} {H H' : Hp} {a : Addr} {r c : Nat} {f : Nat → Nat → Rat} (h : MtAt C CM H a r c f) (s : Same H H') : MtAt C CM H' a r c f := by
  obtain ⟨dx, t, e, h⟩ := h
  exact ⟨dx, t, s _ _ e, h.same (rc_mono C) s⟩
theorem MtAt.hid {C CM : Addr} {H : Hp} {a D : Addr} {r c : Nat} {f : Nat → Nat → Rat} {l : List V} (h : MtAt C CM H a r c f) (hD : H D = some (.lst l)) : MtAt C CM (hid D H) a r c f := by
  obtain ⟨dx, t, e, h⟩ := h
  exact ⟨dx, t, by rw [hid_ne (ne_of e hD (by intro z; cases z))]; exact e, h.hid (rc_mono C) hD⟩
theorem MtAt.congr {C CM : Addr} {H : Hp} {a : Addr} {r c : Nat} {f f' : Nat → Nat → Rat} (h : MtAt C CM H a r c f) (e : ∀ i j, i < r → j < c → f i j = f' i j) : MtAt C CM H a r c f' := by
  obtain ⟨dx, t, e', h⟩ := h
  exact ⟨dx, t, e', h.congr e⟩
theorem MtAt.tyx {K : PySem.W.Frag} {mg : Str → Option Value} {C CM : Addr} {H : Hp} {a : Addr} {r c : Nat} {f : Nat → Nat → Rat} (T : TxM K mg C CM) (h : MtAt C CM H a r c f) : TyX K H (.ref a) (.ref CM) :=
  h.elim fun dx ⟨t, e, _⟩ => .base (.ins e T.clM T.caM T.cn T.ct T.cmM)
theorem mfl_at (t : Addr) : (mfl t).lookup ("_entries" : Str) = some (.ref t) := by simp [mfl, List.lookup]
theorem ifF {b : Bool} {A B : Prop} (e : b = false) (h : B) : if b = true then A else B := by rw [e]; exact iteF h
theorem ifT {b : Bool} {A B : Prop} (e : b = true) (h : A) : if b = true then A else B := by rw [e]; exact iteT h
section
variable {P : Program} {w : World} {K : PySem.W.Frag} {mg : Str → Option Value} {base : Heap} {C CM : Addr}
/-! ### is_table, of a table -/
def Shape (H : Hp) (t : Addr) (r c : Nat) : Prop := ∃ rs : List V, H t = some (.tup rs) ∧ rs.length = r ∧ ∀ (i : Nat) (x : V), rs[i]? = some x → ∃ p xs, x = .ref p ∧ H p = some (.tup xs) ∧ xs.length = c
theorem Tb.shape {Q : CellP} {H : Hp} {t : Addr} {r c : Nat} {f : Nat → Nat → Rat} (h : Tb Q H t r c f) : Shape H t r c := by
  obtain ⟨rs, ht, hl, hc⟩ := h
  refine ⟨rs, ht, hl, fun i x hx => ?_⟩
  obtain ⟨p, xs, e, hp, hl, _⟩ := hc i x hx
  exact ⟨p, xs, e, hp, hl⟩
def spIstab : Sp := fun vs H Q _ => ∃ (t : Addr) (r c : Nat), vs = [.ref t] ∧ Shape H t r c ∧ 0 < r ∧ r ≤ 1000 ∧ 0 < c ∧ ∀ H', Same H H' → Q (.bl true) H'
theorem sc_is_table : FnScope ["given", "row"] ["given"] (defScope s_is_table) := ⟨rfl, rfl, rfl, by decide +kernel, rfl, by decide +kernel, by decide +kernel⟩
theorem ok_istab {f : Addr} {fd : FuncData} (F : Fun K "is_table" "is_table" s_is_table f fd) (T : Blt mg) : FnOk P w K mg base CX0 2 f fd ["given"] spIstab := by
  refine F.ok sc_is_table (fun vs H Q E h => ?_) (fun cdv A outer s H vs Q E hr h => ?_)
  · obtain ⟨t, r, c, rfl, _⟩ := h
    rfl
  · obtain ⟨t, r, c, rfl, ⟨rs, ht, hl, hrow⟩, hr0, hr1, hc0, k⟩ := h
    refine ⟨_, (pss_cons (ps_if (pt_not (PW.pt (pw_and (pt_val (pe_callB (id := "isinstance") (call_isiK (K := K)) (by rfl) T.b_isinstance (by decide +kernel) (pa_cons (pv 0) (pa_cons (pe_bltn (v := V.ty "tuple") (u := Value.type "tuple") (by rfl) T.b_tuple (by decide +kernel) rfl) pa_nil)))) (pw_and1 (pt_cmpR op_ge (pe_callB (id := "len") (call_len_seqK (K := K)) (by rfl) T.b_len (by decide +kernel) (pa_cons (pv 0) pa_nil)) pe_int (nomark _)))))) (pss_one (ps_ret pe_bl))
  pss_nil)
  (pss_cons (ps_if (pt_not (pt_val (pe_callB (id := "all") (cr_allK (K := K) rfl) (by rfl) T.b_all (by decide +kernel) (pa_cons (pe_lcI (pe_lc (own := [("row", 1)]) rfl sc_is_table.nd (pi_tupK (K := K) (pv 0)) (blkOk_by (N := ["given", "row"]) (sc := (defScope s_is_table)) (by decide +kernel)) (fun _ _ _ _ _ => (pg_name (i := 1) sc_is_table.nd rfl (Or.inl rfl))) (fun _ _ _ _ _ => pts_nil) (fun _ _ _ _ _ => (pe_cut (pe_and (pe_callB (id := "isinstance") (call_isiK (K := K)) (by rfl) T.b_isinstance (by decide +kernel) (pa_cons (pv 1) (pa_cons (pe_bltn (v := V.ty "tuple") (u := Value.type "tuple") (by rfl) T.b_tuple (by decide +kernel) rfl) pa_nil))) (pe_one (pe_cmpR op_ge (pe_callB (id := "len") (call_len_seqK (K := K)) (by rfl) T.b_len (by decide +kernel) (pa_cons (pv 1) pa_nil)) pe_int (nomark _)))))))) pa_nil)))) (pss_one (ps_ret pe_bl))
  pss_nil)
  (pss_one (ps_ret (pe_callB (id := "all") (cr_allK (K := K) rfl) (by rfl) T.b_all (by decide +kernel) (pa_cons (pe_lcI (pe_lc (own := [("row", 1)]) rfl sc_is_table.nd (pi_tupK (K := K) (pv 0)) (blkOk_by (N := ["given", "row"]) (sc := (defScope s_is_table)) (by decide +kernel)) (fun _ _ _ _ _ => (pg_name (i := 1) sc_is_table.nd rfl (Or.inl rfl))) (fun _ _ _ _ _ => pts_nil) (fun _ _ _ _ _ => (pe_cut (pe_cmpR op_eq (pe_callB (id := "len") (call_len_seqK (K := K)) (by rfl) T.b_len (by decide +kernel) (pa_cons (pv 1) pa_nil)) (pe_callB (id := "len") (call_len_seqK (K := K)) (by rfl) T.b_len (by decide +kernel) (pa_cons (pe_ix (ix_tupK (K := K)) (pv 0) pe_int (fun _ _ => rfl)) pa_nil)) (nomark _)))))) pa_nil)))))), ?_⟩
    -- if not (isinstance(given, tuple) and len(given) >= 1)
    refine ⟨_, rfl, .ref t, _, _, _, _, rfl, .ty "tuple", .base (.tup ht), kit_ty (by decide +kernel), _, rfl, iteT ?_⟩
    refine ⟨_, rfl, t, rs, rfl, .inr (SqT.of ht), _, _, rfl, rfl, _, rfl, ?_⟩
    refine ifF (by simp; omega) ?_
    -- if not all([isinstance(row, tuple) and len(row) >= 1 for row in given])
    refine ⟨_, rfl, t, rfl, ⟨rs, SqT.of ht⟩, fun D hD => ?_⟩
    refine lc_same (walk_tup (K := K) (a := t) (xs := rs)) hD (by omega) (fun _ y _ => y = .bl true) (fun _ _ _ _ e _ => e) (fun H' s' => SqT.of (s' _ _ ht)) yat_same (fun i x H1 H1' hi s1 _ hy => ?_) fun ys H1 hl1 s1 e1 h1 => ?_
    · obtain ⟨rfl, hx⟩ := hy
      obtain ⟨p, xs, rfl, hp, hxl⟩ := hrow i x hx
      refine ⟨_, fun _ h => h, wipe_one, ?_⟩
      refine ⟨_, rfl, .ref p, _, _, _, _, rfl, .ty "tuple", .base (.tup (s1 _ _ hp)), kit_ty (by decide +kernel), _, rfl, iteT ?_⟩
      refine ⟨_, rfl, p, xs, rfl, .inr (SqT.of (s1 _ _ hp)), _, _, rfl, rfl, Same.refl _, fun _ => ?_⟩
      congr 1
      simp
      omega
    obtain ⟨bs, hb, ab⟩ := all_bl (K := K) e1 h1
    refine ⟨D, bs, rfl, hb, _, rfl, ifF (by rw [ab]; rfl) ?_⟩
    -- return all([len(row) == len(given[0]) for row in given])
    refine ⟨_, rfl, t, rfl, ⟨rs, SqT.of (s1 _ _ ht)⟩, fun D2 hD2 => ?_⟩
    refine lc_same (walk_tup (K := K) (a := t) (xs := rs)) hD2 (by omega) (fun _ y _ => y = .bl true) (fun _ _ _ _ e _ => e) (fun H' s' => SqT.of (s' _ _ (s1 _ _ ht))) yat_same (fun i x H2 H2' hi s2 _ hy => ?_) fun ys2 H2 hl2 s2 e2 h2 => ?_
    · obtain ⟨rfl, hx⟩ := hy
      obtain ⟨p, xs, rfl, hp, hxl⟩ := hrow i x hx
      have h0 : rs[0]? = some rs[0] := List.getElem?_eq_getElem (by omega)
      obtain ⟨p0, xs0, e0, hp0, hxl0⟩ := hrow 0 _ h0
      have s12 := s1.trans s2
      refine ⟨_, fun _ h => h, wipe_one, ?_⟩
      refine ⟨_, rfl, p, xs, rfl, .inr (SqT.of (s12 _ _ hp)), ?_⟩
      refine ⟨_, rfl, t, _, _, _, rfl, rfl, SqT.of (s12 _ _ ht), atI_nat h0, ?_⟩
      rw [e0]
      refine ⟨p0, xs0, rfl, .inr (SqT.of (s12 _ _ hp0)), rfl, Same.refl _, fun _ => ?_⟩
      rw [hxl, hxl0]
      simp
    obtain ⟨bs2, hb2, ab2⟩ := all_bl (K := K) e2 h2
    refine ⟨D2, bs2, rfl, hb2, ?_⟩
    rw [ab2]
    exact k H2 (s1.trans s2)
abbrev IstabC (P : Program) (w : World) (K : PySem.W.Frag) (mg : Str → Option Value) (base : Heap) : Prop := CalF P w K mg base 2 "is_table" spIstab []
/-! ### new tuples -/
theorem rw_new {Q : CellP} {G H : Hp} {T : Addr} {ys : List V} {c : Nat} {g : Nat → Rat} (m : Mono Q) (s : Same G H) (hT : H T = none) (hl : ys.length = c) (h : ∀ (j : Nat) (y : V), ys[j]? = some y → Q G y (g j)) : Rw Q (upd H T (.tup ys)) (.ref T) c g :=
  ⟨T, ys, rfl, upd_same, hl, fun j y hy => m.same (h j y hy) (MG.Same.new s hT)⟩
theorem tb_new {Q : CellP} {G H : Hp} {T : Addr} {ys : List V} {r c : Nat} {f : Nat → Nat → Rat} (m : Mono Q) (s : Same G H) (hT : H T = none) (hl : ys.length = r) (h : ∀ (i : Nat) (y : V), ys[i]? = some y → Rw Q G y c (f i)) : Tb Q (upd H T (.tup ys)) T r c f :=
  ⟨ys, upd_same, hl, fun i y hy => (h i y hy).same m (MG.Same.new s hT)⟩
theorem tb_upd {H : Hp} {a dx t : Addr} {r c : Nat} {f : Nat → Nat → Rat} {o : HO} (ha : H a = some (.ins CM dx [])) (h : Tb (RC C) H t r c f) : Tb (RC C) (upd H a o) t r c f := by
  obtain ⟨rs, ht, hl, hrow⟩ := h
  refine ⟨rs, by rw [upd_ne (ne_of ht ha (by intro z; cases z))]; exact ht, hl, fun i x hx => ?_⟩
  obtain ⟨p, xs, e, hp, hxl, hc⟩ := hrow i x hx
  refine ⟨p, xs, e, by rw [upd_ne (ne_of hp ha (by intro z; cases z))]; exact hp, hxl, fun j y hy => ?_⟩
  obtain ⟨b, e', d, hb⟩ := hc j y hy
  exact ⟨b, e', d, by rw [upd_ne (ne_of hb ha (by intro z; unfold flds at z; cases z))]; exact hb⟩
/-! ### Matrix(entries), of a table of numbers -/
def spMInit (C CM : Addr) : Sp := fun vs H Q _ => ∃ (a dx t : Addr) (r c : Nat) (f : Nat → Nat → Rat), vs = [.ref a, .ref t] ∧ H a = some (.ins CM dx []) ∧ Tb (NumAt C) H t r c f ∧ (0 < r ∧ r ≤ 1000 ∧ 0 < c ∧ c ≤ 1000) ∧
  ∀ H' t', H' a = some (.ins CM dx (mfl t')) → Tb (RC C) H' t' r c f → (∀ b o, H b = some o → b ≠ a → H' b = some o) → Q .non H'
theorem sc_Matrix___init__ : FnScope ["self", "entries", "row", "number"] ["self", "entries"] (defScope s_Matrix___init__) := ⟨rfl, rfl, rfl, by decide +kernel, rfl, by decide +kernel, by decide +kernel⟩
theorem ok_minit {f : Addr} {fd : FuncData} (F : Fun K "__init__" "Matrix.__init__" s_Matrix___init__ f fd) (T : TxM K mg C CM) (c_istab : IstabC P w K mg base) (c_number : NumberC P w K mg base C) (c_to : ToC P w K mg base C) : FnOk P w K mg base CX0 8 f fd ["self", "entries"] (spMInit C CM) := by
  refine F.ok sc_Matrix___init__ (fun vs H Q E h => ?_) (fun cdv A outer s H vs Q E hr h => ?_)
  · obtain ⟨a, dx, t, r, c, f, rfl, _⟩ := h
    rfl
  · obtain ⟨a, dx, t, r, c, f, rfl, ha, ht, ⟨hr0, hr1, hc0, hc1⟩, k⟩ := h
    refine ⟨_, (pss_cons (ps_if (pt_not (PW.pt (pw_and (pt_val (pe_cf c_istab hr (by decide) rfl (pa_cons (pv 1) pa_nil))) (pw_and1 (pt_val (pe_callB (id := "all") (cr_allK (K := K) rfl) (by rfl) T.b_all (by decide +kernel) (pa_cons (pe_lc2I (pe_lc2 (own := [("row", 2), ("number", 3)]) (vs1 := [3]) rfl sc_Matrix___init__.nd (pi_tupK (K := K) (pv 1)) (blkOk_by (N := ["self", "entries", "row", "number"]) (sc := (defScope s_Matrix___init__)) (by decide +kernel)) (by decide) (fun _ _ _ _ _ => (pg_name (i := 2) sc_Matrix___init__.nd rfl (Or.inl rfl))) (fun _ _ _ _ _ => pts_nil) (fun _ _ _ _ _ => (pi_tupK (K := K) (pv 2))) (fun _ _ _ _ _ => (pg_name (i := 3) sc_Matrix___init__.nd rfl (Or.inl rfl))) (fun _ _ _ _ _ => pts_nil) (fun _ _ _ _ _ => (pe_cut (pe_cf c_number hr (by decide) rfl (pa_cons (pv 3) pa_nil)))))) pa_nil))))))) (pss_one ps_never)
  pss_nil)
  (pss_one (ps_fld (pv 0) (pe_callTy (call_tuple_ofK (K := K)) (by rfl) T.b_tuple (by decide +kernel) (pa_cons (pe_lcI (pe_lc (own := [("row", 2)]) rfl sc_Matrix___init__.nd (pi_tupK (K := K) (pv 1)) (blkOk_by (N := ["self", "entries", "row", "number"]) (sc := (defScope s_Matrix___init__)) (by decide +kernel)) (fun _ _ _ _ _ => (pg_name (i := 2) sc_Matrix___init__.nd rfl (Or.inl rfl))) (fun _ _ _ _ _ => pts_nil) (fun _ _ _ _ _ => (pe_cut (pe_callTy (call_tuple_ofK (K := K)) (by rfl) T.b_tuple (by decide +kernel) (pa_cons (pe_lcI (pe_lc (own := [("number", 3)]) rfl sc_Matrix___init__.nd (pi_tupK (K := K) (pv 2)) (blkOk_by (N := ["self", "entries", "row", "number"]) (sc := ({ kind := .function, names := [(PySem.Str.ofString ".0", .local), (PySem.Str.ofString "row", .local), (PySem.Str.ofString "tuple", .globalImplicit)], isGenerator := false, isCoroutine := false } : Scope)) (by decide +kernel)) (fun _ _ _ _ _ => (pg_name (i := 3) sc_Matrix___init__.nd rfl (Or.inl rfl))) (fun _ _ _ _ _ => pts_nil) (fun _ _ _ _ _ => (pe_cut (pe_cf c_to hr (by decide) rfl (pa_cons (pv 3) pa_nil)))))) pa_nil)))))) pa_nil)) rfl))), ?_⟩
    -- if not (is_table(entries) and all([is_number(number) for row in entries for number in row]))
    refine ⟨_, rfl, t, r, c, rfl, ht.shape, hr0, hr1, hc0, fun H1 s1 => ⟨_, rfl, iteT ?_⟩⟩
    obtain ⟨rs, et, hl, hrow⟩ := ht.same (num_mono C) s1
    refine ⟨_, rfl, t, rfl, ⟨rs, SqT.of et⟩, fun D hD => ?_⟩
    refine lc2_tup (K := K) (R := fun v => v = .bl true) et hD (by decide) (show 2 < 4 by decide) (show 3 < 4 by decide) (fun x hx => ?_) (by omega) (fun i j p xs y H2 hi hp hj s2 => ?_) fun ys H2 s2 e2 h2 => ?_
    · obtain ⟨i, hi⟩ := List.getElem?_of_mem hx
      obtain ⟨p, xs, e, hp, hxl, _⟩ := hrow i x hi
      exact ⟨p, xs, e, hp, by omega⟩
    · obtain ⟨p', xs', e, hp', hxl, hc⟩ := hrow i _ hi
      cases e
      have exs : xs = xs' := by
        have := hp.symm.trans hp'
        cases this
        rfl
      subst exs
      have hn := (hc j y hj).same s2
      obtain ⟨ty, b1, b2, b3, h1, h2, h3, h4, h5⟩ := hn.is T.toTxR
      refine ⟨_, rfl, y, ty, b1, b2, b3, rfl, h1, h2, h3, h4, Same.refl _, ?_⟩
      rw [h5]
    obtain ⟨bs, hb, ab⟩ := all_bl (K := K) e2 h2
    refine ⟨D, bs, rfl, hb, _, rfl, ifF (by rw [ab]; rfl) ?_⟩
    -- self._entries = tuple([tuple([to_ratio(number) for number in row]) for row in entries])
    have s12 := s1.trans s2
    refine ⟨_, rfl, t, rfl, ⟨rs, SqT.of (s2 _ _ et)⟩, fun D3 hD3 => ?_⟩
    refine lc_same (walk_tup (K := K) (a := t) (xs := rs)) hD3 (by omega) (fun i y G => Rw (RC C) G y c (f i)) (fun i y G G' h s => h.same (rc_mono C) s) (fun G s => SqT.of (s _ _ (s2 _ _ et))) yat_same (fun i x H3 H3' hi s3 _ hy => ?_) fun ys3 H3 hl3 s3 e3 h3 => ?_
    · obtain ⟨rfl, hx⟩ := hy
      obtain ⟨p, xs, rfl, hp, hxl, hc⟩ := (hrow i x hx).same (num_mono C) (s2.trans s3)
      refine ⟨_, fun _ h => h, wipe_one, ?_⟩
      refine ⟨_, rfl, p, rfl, ⟨xs, SqT.of hp⟩, fun D4 hD4 => ?_⟩
      refine lc_same (walk_tup (K := K) (a := p) (xs := xs)) hD4 (by omega) (fun j y G => RC C G y (f i j)) (fun j y G G' h s => (rc_mono C).same h s) (fun G s => SqT.of (s _ _ hp)) yat_same (fun j y H4 H4' hj s4 _ hy => ?_) fun ys4 H4 hl4 s4 e4 h4 => ?_
      · obtain ⟨rfl, hy⟩ := hy
        refine ⟨_, fun _ h => h, wipe_one, ?_⟩
        exact ⟨_, rfl, y, f i j, rfl, (hc j y hy).same s4, fun r' H5 s5 h5 => ⟨s5, fun ⟨l, hl⟩ => (rc_mono C).hid ⟨r', rfl, h5⟩ hl⟩⟩
      · refine ⟨D4, ys4, rfl, .inl ⟨SqL.of e4, fun T2 hT2 => ⟨MG.Same.new s4 hT2, fun ⟨l, hl⟩ => ?_⟩⟩⟩
        exact (rw_new (rc_mono C) (hid_same D4 H4) hT2 (hl4.trans hxl) h4).hid (rc_mono C) hl
    refine ⟨D3, ys3, rfl, .inl ⟨SqL.of e3, fun T3 hT3 => ?_⟩⟩
    have s123 := s12.trans s3
    have s4 : Same H (upd H3 T3 (.tup ys3)) := MG.Same.new s123 hT3
    refine ⟨_, rfl, a, CM, dx, _, rfl, s4 _ _ ha, T.clM, T.nE, (by show 0 < 1000; decide), ?_⟩
    have tb := tb_new (rc_mono C) (hid_same D3 H3) hT3 (hl3.trans hl) h3
    have na : ∀ {b : Addr} {o : HO}, (upd H3 T3 (.tup ys3)) b = some o → (∀ dx fs, o ≠ .ins CM dx fs) → b ≠ a := fun {b o} e z e' => by
      rw [e', s4 _ _ ha] at e
      exact z _ _ (Option.some.inj e).symm
    refine k _ T3 upd_same ?_ fun b o hb hne => ?_
    · exact tb_upd (s4 _ _ ha) tb
    · rw [upd_ne hne]
      exact s4 _ _ hb
abbrev MatC (P : Program) (w : World) (K : PySem.W.Frag) (mg : Str → Option Value) (base : Heap) (C CM : Addr) : Prop := MakF P w K mg base 8 "Matrix" CM (spMInit C CM) []
end
end Lw

namespace Lw
open PySem PySem.Spec PyProof.Rows L2 MG
section
variable {P : Program} {w : World} {K : PySem.W.Frag} {mg : Str → Option Value} {base : Heap} {C CM CX : Addr}
/-- sizes that occur -/
def Sz (r c : Nat) : Prop := 0 < r ∧ r ≤ 1000 ∧ 0 < c ∧ c ≤ 1000
/-- the reading of Matrix(t) -/
theorem make_mat {H : Hp} {t : Addr} {r c : Nat} {f : Nat → Nat → Rat} {Q : VK} (ht : Tb (RC C) H t r c f) (z : Sz r c) (k : ∀ m H', H m = none → Same H H' → MtAt C CM H' m r c f → Q (.ref m) H') :
    ∀ x dx, H x = none → H dx = none → dx ≠ x → spMInit C CM [.ref x, .ref t] (upd (upd H dx (.own x)) x (.ins CM dx [])) (fun v H2 => v = .non ∧ Q (.ref x) H2) E0 := by
  intro x dx hx hdx hne
  have s1 : Same H (upd (upd H dx (.own x)) x (.ins CM dx [])) := MG.Same.new (MG.Same.new (Same.refl H) hdx) (by rw [upd_ne (fun e => hne e.symm)]; exact hx)
  refine ⟨x, dx, t, r, c, f, rfl, upd_same, (ht.same (rc_mono C) s1).imp RC.num, z, fun H' t' e tb kp => ⟨rfl, k x H' hx (fun b o hb => ?_) ⟨dx, t', e, tb⟩⟩⟩
  exact kp b o (s1 _ _ hb) (ne_of_none hb hx)
/-! ### properties -/
def spEntries (CM : Addr) : Sp := fun vs H Q _ => ∃ (a dx t : Addr), vs = [.ref a] ∧ H a = some (.ins CM dx (mfl t)) ∧ Q (.ref t) H
theorem sc_Matrix_entries : FnScope ["self"] ["self"] (defScope s_Matrix_entries) := ⟨rfl, rfl, rfl, by decide +kernel, rfl, by decide +kernel, by decide +kernel⟩
theorem ok_entries {f : Addr} {fd : FuncData} (F : Fun K "entries" "Matrix.entries" s_Matrix_entries f fd) (T : TxM K mg C CM) : FnOk P w K mg base CX0 2 f fd ["self"] (spEntries CM) := by
  refine F.ok sc_Matrix_entries (fun vs H Q E h => ?_) (fun cdv A outer s H vs Q E hr h => ?_)
  · obtain ⟨a, dx, t, rfl, _⟩ := h
    rfl
  · obtain ⟨a, dx, t, rfl, ha, k⟩ := h
    exact ⟨_, (pss_one (ps_ret (pe_fldK (K := K) (pv 0) rfl))), _, rfl, a, CM, dx, _, _, rfl, ha, T.clM, T.nE, mfl_at t, k⟩
def spRows (C CM : Addr) : Sp := fun vs H Q _ => ∃ (a : Addr) (r c : Nat) (f : Nat → Nat → Rat), vs = [.ref a] ∧ MtAt C CM H a r c f ∧ Q (.int r) H
theorem sc_Matrix_rows : FnScope ["self"] ["self"] (defScope s_Matrix_rows) := ⟨rfl, rfl, rfl, by decide +kernel, rfl, by decide +kernel, by decide +kernel⟩
theorem ok_rows {f : Addr} {fd : FuncData} (F : Fun K "rows" "Matrix.rows" s_Matrix_rows f fd) (T : TxM K mg C CM) : FnOk P w K mg base CX0 2 f fd ["self"] (spRows C CM) := by
  refine F.ok sc_Matrix_rows (fun vs H Q E h => ?_) (fun cdv A outer s H vs Q E hr h => ?_)
  · obtain ⟨a, r, c, g, rfl, _⟩ := h
    rfl
  · obtain ⟨a, r, c, g, rfl, ⟨dx, t, ha, rs, ht, hl, hrow⟩, k⟩ := h
    refine ⟨_, (pss_one (ps_ret (pe_callB (id := "len") (call_len_seqK (K := K)) (by rfl) T.b_len (by decide +kernel) (pa_cons (pe_fldK (K := K) (pv 0) rfl) pa_nil)))), _, rfl, a, CM, dx, _, _, rfl, ha, T.clM, T.nE, mfl_at t, t, rs, rfl, .inr (SqT.of ht), ?_⟩
    rw [hl]
    exact k
def spColumns (C CM : Addr) : Sp := fun vs H Q _ => ∃ (a : Addr) (r c : Nat) (f : Nat → Nat → Rat), vs = [.ref a] ∧ MtAt C CM H a r c f ∧ 0 < r ∧ Q (.int c) H
theorem sc_Matrix_columns : FnScope ["self"] ["self"] (defScope s_Matrix_columns) := ⟨rfl, rfl, rfl, by decide +kernel, rfl, by decide +kernel, by decide +kernel⟩
theorem ok_columns {f : Addr} {fd : FuncData} (F : Fun K "columns" "Matrix.columns" s_Matrix_columns f fd) (T : TxM K mg C CM) : FnOk P w K mg base CX0 2 f fd ["self"] (spColumns C CM) := by
  refine F.ok sc_Matrix_columns (fun vs H Q E h => ?_) (fun cdv A outer s H vs Q E hr h => ?_)
  · obtain ⟨a, r, c, g, rfl, _⟩ := h
    rfl
  · obtain ⟨a, r, c, g, rfl, ⟨dx, t, ha, rs, ht, hl, hrow⟩, hr0, k⟩ := h
    have h0 : rs[0]? = some rs[0] := List.getElem?_eq_getElem (by omega)
    obtain ⟨p, xs, e, hp, hxl, _⟩ := hrow 0 _ h0
    refine ⟨_, (pss_one (ps_ret (pe_callB (id := "len") (call_len_seqK (K := K)) (by rfl) T.b_len (by decide +kernel) (pa_cons (pe_ix (ix_tupK (K := K)) (pe_fldK (K := K) (pv 0) rfl) pe_int (fun _ _ => rfl)) pa_nil)))), _, rfl, a, CM, dx, _, _, rfl, ha, T.clM, T.nE, mfl_at t, t, _, _, _, rfl, rfl, SqT.of ht, atI_nat h0, ?_⟩
    rw [e]
    refine ⟨p, xs, rfl, .inr (SqT.of hp), ?_⟩
    rw [hxl]
    exact k
abbrev EntriesC (P : Program) (w : World) (K : PySem.W.Frag) (mg : Str → Option Value) (base : Heap) (CM : Addr) : Prop := PropF P w K mg base 2 CM "entries" (spEntries CM)
abbrev RowsC (P : Program) (w : World) (K : PySem.W.Frag) (mg : Str → Option Value) (base : Heap) (C CM : Addr) : Prop := PropF P w K mg base 2 CM "rows" (spRows C CM)
abbrev ColumnsC (P : Program) (w : World) (K : PySem.W.Frag) (mg : Str → Option Value) (base : Heap) (C CM : Addr) : Prop := PropF P w K mg base 2 CM "columns" (spColumns C CM)
def spTrans (C CM : Addr) : Sp := fun vs H Q _ => ∃ (a : Addr) (r c : Nat) (f : Nat → Nat → Rat), vs = [.ref a] ∧ MtAt C CM H a r c f ∧ Sz r c ∧ ∀ m H', Same H H' → MtAt C CM H' m c r (fun i j => f j i) → Q (.ref m) H'
theorem sc_Matrix_transposed : FnScope ["self", "index", "row"] ["self"] (defScope s_Matrix_transposed) := ⟨rfl, rfl, rfl, by decide +kernel, rfl, by decide +kernel, by decide +kernel⟩
theorem ok_trans {f : Addr} {fd : FuncData} (F : Fun K "transposed" "Matrix.transposed" s_Matrix_transposed f fd) (T : TxM K mg C CM) (m_mat : MatC P w K mg base C CM) (pm_columns : ColumnsC P w K mg base C CM) : FnOk P w K mg base CX0 10 f fd ["self"] (spTrans C CM) := by
  refine F.ok sc_Matrix_transposed (fun vs H Q E h => ?_) (fun cdv A outer s H vs Q E hr h => ?_)
  · obtain ⟨a, r, c, g, rfl, _⟩ := h
    rfl
  · obtain ⟨a, r, c, g, rfl, hM, z, k⟩ := h
    obtain ⟨dx, t, ha, hT⟩ := id hM
    obtain ⟨rs, ht, hl, hrow⟩ := id hT
    obtain ⟨z1, z2, z3, z4⟩ := id z
    refine ⟨_, (pss_one (ps_ret (pe_mkf m_mat hr (by decide) rfl (pa_cons (pe_callTy (call_tuple_ofK (K := K)) (by rfl) T.b_tuple (by decide +kernel) (pa_cons (pe_lcI (pe_lc (own := [("index", 1)]) rfl sc_Matrix_transposed.nd (pi_range1 (by rfl) T.b_range (pa_cons (pe_pf pm_columns T.clM hr (by decide) (pv 0) rfl) pa_nil)) (blkOk_by (N := ["self", "index", "row"]) (sc := (defScope s_Matrix_transposed)) (by decide +kernel)) (fun _ _ _ _ _ => (pg_name (i := 1) sc_Matrix_transposed.nd rfl (Or.inr rfl))) (fun _ _ _ _ _ => pts_nil) (fun _ _ _ _ _ => (pe_cut (pe_callTy (call_tuple_ofK (K := K)) (by rfl) T.b_tuple (by decide +kernel) (pa_cons (pe_lcI (pe_lc (own := [("row", 2)]) rfl sc_Matrix_transposed.nd (pi_tupK (K := K) (pe_fldK (K := K) (pv 0) rfl)) (blkOk_by (N := ["self", "index", "row"]) (sc := ({ kind := .function, names := [(PySem.Str.ofString ".0", .local), (PySem.Str.ofString "index", .cell), (PySem.Str.ofString "tuple", .globalImplicit), (PySem.Str.ofString "self", .cell)], isGenerator := false, isCoroutine := false } : Scope)) (by decide +kernel)) (fun _ _ _ _ _ => (pg_name (i := 2) sc_Matrix_transposed.nd rfl (Or.inl rfl))) (fun _ _ _ _ _ => pts_nil) (fun _ _ _ _ _ => (pe_cut (pe_ix (ix_tupK (K := K)) (pv 2) (pv 1) (fun _ _ => rfl)))))) pa_nil)))))) pa_nil)) pa_nil)))), ?_⟩
    refine ⟨_, rfl, a, dx, _, rfl, ha, a, r, c, g, rfl, hM, z1, c, rfl, by omega, by omega, fun D hD => ?_⟩
    refine lc_same (walk_range (lo := 0) (n := c)) hD (by omega) (fun i y G => Rw (RC C) G y r (fun j => g j i)) (fun i y G G' h s => h.same (rc_mono C) s) (fun G s => trivial) yfn_same (fun i x H1 H1' hi s1 _ hy => ?_) fun ys H1 hl1 s1 e1 h1 => ?_
    · obtain ⟨rfl, rfl⟩ := hy
      refine ⟨_, fun _ h => h, wipe_one, ?_⟩
      obtain ⟨rs2, ht2, hl2, hrow2⟩ := hT.same (rc_mono C) s1
      refine ⟨_, rfl, a, CM, dx, _, _, rfl, s1 _ _ ha, T.clM, T.nE, mfl_at t, t, rfl, ⟨rs2, SqT.of ht2⟩, fun D2 hD2 => ?_⟩
      refine lc_same (walk_tup (K := K) (a := t) (xs := rs2)) hD2 (by omega) (fun j y G => RC C G y (g j i)) (fun j y G G' h s => (rc_mono C).same h s) (fun G s => SqT.of (s _ _ ht2)) yat_same (fun j x H2 H2' hj s2 _ hy => ?_) fun ys2 H2 hl3 s2 e2 h2 => ?_
      · obtain ⟨rfl, hx⟩ := hy
        refine ⟨_, fun _ h => h, wipe_one, ?_⟩
        obtain ⟨p, xs, rfl, hp, hxl, hc⟩ := (hrow2 j x hx).same (rc_mono C) s2
        have hx2 : xs[i]? = some xs[i] := List.getElem?_eq_getElem (by omega)
        obtain ⟨b, e', hb⟩ := hc i _ hx2
        have ei : V.int (0 + (i : Int)) = V.int (i : Int) := by rw [Int.zero_add]
        refine ⟨_, rfl, _, rfl, p, _, _, _, rfl, ei, SqT.of hp, atI_nat hx2, Same.refl _, fun ⟨l, hl⟩ => ?_⟩
        rw [e']
        exact (rc_mono C).hid ⟨b, rfl, hb⟩ hl
      · refine ⟨D2, ys2, rfl, .inl ⟨SqL.of e2, fun T2 hT2 => ⟨MG.Same.new s2 hT2, fun ⟨l, hl⟩ => ?_⟩⟩⟩
        exact (rw_new (rc_mono C) (hid_same D2 H2) hT2 (hl3.trans hl2) h2).hid (rc_mono C) hl
    refine ⟨D, ys, rfl, .inl ⟨SqL.of e1, fun T3 hT3 => ?_⟩⟩
    have s4 : Same H (upd H1 T3 (.tup ys)) := MG.Same.new s1 hT3
    exact make_mat (tb_new (rc_mono C) (hid_same D H1) hT3 hl1 h1) ⟨z3, z4, z1, z2⟩ fun m H' _ s h => k m H' (s4.trans s) h
abbrev TransC (P : Program) (w : World) (K : PySem.W.Frag) (mg : Str → Option Value) (base : Heap) (C CM : Addr) : Prop := PropF P w K mg base 10 CM "transposed" (spTrans C CM)
/-! ### Mismatch -/
theorem sc_Mismatch___init__ : FnScope ["self", "first", "second"] ["self", "first", "second"] (defScope s_Mismatch___init__) := ⟨rfl, rfl, rfl, by decide +kernel, rfl, by decide +kernel, by decide +kernel⟩
theorem ok_xm {f : Addr} {fd : FuncData} (F : Fun K "__init__" "Mismatch.__init__" s_Mismatch___init__ f fd) : FnOk P w K mg base CX0 2 f fd ["self", "first", "second"] (spXi2 K CX "first" "second") := by
  refine F.ok sc_Mismatch___init__ (fun vs H Q E h => ?_) (fun cdv A outer s H vs Q E hr h => ?_)
  · obtain ⟨a, y, z, rfl, _⟩ := h
    rfl
  · obtain ⟨a, y, z, rfl, T, no1, no2, ha, k⟩ := h
    refine ⟨_, (pss_cons (ps_osE (pv 0) (pv 1))
  (pss_one (ps_osE (pv 0) (pv 2)))), ?_⟩
    refine ⟨_, rfl, _, rfl, a, CX, rfl, T, no1, .inl ⟨ha, fun dx n ne => ?_⟩⟩
    refine ⟨_, rfl, _, rfl, a, CX, rfl, T, no2, .inr ⟨dx, _, upd_same, by rw [upd_ne ne, upd_same], by show 1 ≤ 900; decide, ?_⟩⟩
    have e0 : upd (upd (upd H dx (exd dx [("first", y)])) a (exo a CX (some dx))) dx (exd dx [("second", z), ("first", y)]) = upd (upd H dx (exd dx [("second", z), ("first", y)])) a (exo a CX (some dx)) := by
      funext b
      by_cases hb : b = dx
      · subst hb
        rw [upd_same, upd_ne ne, upd_same]
      · rw [upd_ne hb]
        by_cases hb2 : b = a
        · subst hb2
          rw [upd_same, upd_same]
        · rw [upd_ne hb2, upd_ne hb2, upd_ne hb, upd_ne hb]
    show Q .non _
    rw [e0]
    exact k dx n ne
abbrev XmC (P : Program) (w : World) (K : PySem.W.Frag) (mg : Str → Option Value) (base : Heap) (CX : Addr) : Prop := ExcF2 P w K mg base 2 "Mismatch" CX "first" "second"
/-- Mismatch(x, y) is raised -/
def Rsd2 (CX : Addr) (H : Hp) (x y : V) (E : XK) : Prop := ∀ d H', Same H H' → H d = none → H' d = some (.xd [("second", y), ("first", x)]) → E (.ref CX) (some d) H'
/-- Mismatch of two pairs -/
def RsdP (CX : Addr) (H : Hp) (r c r2 c2 : Nat) (E : XK) : Prop := ∀ H' t1 t2, Same H H' → H' t1 = some (.tup [.int r, .int c]) → H' t2 = some (.tup [.int r2, .int c2]) → Rsd2 CX H' (.ref t1) (.ref t2) E
theorem RsdP.same {H H' : Hp} {r c r2 c2 : Nat} {E : XK} (h : RsdP CX H r c r2 c2 E) (s : Same H H') : RsdP CX H' r c r2 c2 E := fun H2 t1 t2 s2 => h H2 t1 t2 (s.trans s2)
def spChk (C CM CX : Addr) : Sp := fun vs H Q E => ∃ (a b : Addr) (r c r2 c2 : Nat) (f g : Nat → Nat → Rat), vs = [.ref a, .ref b] ∧ MtAt C CM H a r c f ∧ MtAt C CM H b r2 c2 g ∧ 0 < r ∧ 0 < r2 ∧
  (r = r2 ∧ c = c2 → ∀ H', Same H H' → Q .non H') ∧ (¬ (r = r2 ∧ c = c2) → RsdP CX H r c r2 c2 E)
theorem eqv_ints (a b c d : Nat) : PyData.eqv (.tuple [.int a, .int b]) (.tuple [.int c, .int d]) = decide (a = c ∧ b = d) := by
  simp only [PyData.eqv, PyData.eqvAll, Bool.and_true]
  by_cases h1 : a = c <;> by_cases h2 : b = d <;> simp [h1, h2] <;> omega
theorem sc_Matrix__check_equal_sizes : FnScope ["self", "other"] ["self", "other"] (defScope s_Matrix__check_equal_sizes) := ⟨rfl, rfl, rfl, by decide +kernel, rfl, by decide +kernel, by decide +kernel⟩
theorem ok_chk {f : Addr} {fd : FuncData} (F : Fun K "_check_equal_sizes" "Matrix._check_equal_sizes" s_Matrix__check_equal_sizes f fd) (T : TxM K mg C CM) (x_mis : XmC P w K mg base CX) (pm_rows : RowsC P w K mg base C CM) (pm_columns : ColumnsC P w K mg base C CM) : FnOk P w K mg base (L2N.CX P w) 6 f fd ["self", "other"] (spChk C CM CX) := by
  refine fun_okN F sc_Matrix__check_equal_sizes (fun vs H Q E h => ?_) (fun cdv A outer s H vs Q E hr h => ?_)
  · obtain ⟨a, b, r, c, r2, c2, f, g, rfl, _⟩ := h
    rfl
  · obtain ⟨a, b, r, c, r2, c2, f, g, rfl, hA, hB, hr0, hr20, k1, k2⟩ := h
    have hu64 := hr.units
    refine ⟨_, (pss_one (ps_if (pt_cmpR (op_neD hu64) (pe_tup (pa_cons (pe_pf pm_rows T.clM hr (by decide) (pv 0) rfl) (pa_cons (pe_pf pm_columns T.clM hr (by decide) (pv 0) rfl) pa_nil))) (pe_tup (pa_cons (pe_pf pm_rows T.clM hr (by decide) (pv 1) rfl) (pa_cons (pe_pf pm_columns T.clM hr (by decide) (pv 1) rfl) pa_nil))) (nomark _)) (pss_one (ps_raise2 x_mis hr (by decide) rfl (L2N.takes_of rfl rfl rfl rfl) rfl (pa_cons (pe_tup (pa_cons (pe_pf pm_rows T.clM hr (by decide) (pv 0) rfl) (pa_cons (pe_pf pm_columns T.clM hr (by decide) (pv 0) rfl) pa_nil))) (pa_cons (pe_tup (pa_cons (pe_pf pm_rows T.clM hr (by decide) (pv 1) rfl) (pa_cons (pe_pf pm_columns T.clM hr (by decide) (pv 1) rfl) pa_nil))) pa_nil))))
  pss_nil)), ?_⟩
    obtain ⟨dx, t, ea, _⟩ := id hA
    obtain ⟨dy, u, eb, _⟩ := id hB
    have la : ∀ {H' : Hp} {Q : VK}, Same H H' → ((∃ p, Q (.ref p) (upd H' p (.tup [.int r, .int c]))) → True) := fun _ _ => trivial
    -- if (self.rows, self.columns) != (other.rows, other.columns)
    refine ⟨_, rfl, a, dx, _, rfl, ea, a, r, c, f, rfl, hA, _, rfl, a, dx, _, rfl, ea, a, r, c, f, rfl, hA, hr0, by show 2 ≤ sizeLine; decide, fun p hp => ?_⟩
    have s1 : Same H (upd H p (.tup [.int r, .int c])) := MG.Same.new (Same.refl H) hp
    refine ⟨_, rfl, b, dy, _, rfl, s1 _ _ eb, b, r2, c2, g, rfl, hB.same s1, _, rfl, b, dy, _, rfl, s1 _ _ eb, b, r2, c2, g, rfl, hB.same s1, hr20, by show 2 ≤ sizeLine; decide, fun p2 hp2 => ?_⟩
    have s2 := MG.Same.new (o := .tup [.int r2, .int c2]) s1 hp2
    have e1 := (MG.Same.new (o := .tup [.int r2, .int c2]) (Same.refl _) hp2) _ _ (upd_same (H := H) (a := p) (o := .tup [.int r, .int c]))
    refine ⟨.tuple [.int r, .int c], .tuple [.int r2, .int c2], .tup (SqT.of e1) (.cons (.int _) (.cons (.int _) .nil)), .tup (SqT.of upd_same) (.cons (.int _) (.cons (.int _) .nil)), rfl, rfl, _, rfl, ?_⟩
    rw [eqv_ints]
    by_cases heq : r = r2 ∧ c = c2
    · rw [decide_eq_true heq]
      exact iteF (k1 heq _ s2)
    · rw [decide_eq_false heq]
      refine iteT ?_
      -- raise
      refine ⟨_, rfl, a, dx, _, rfl, s2 _ _ ea, a, r, c, f, rfl, hA.same s2, _, rfl, a, dx, _, rfl, s2 _ _ ea, a, r, c, f, rfl, hA.same s2, hr0, by show 2 ≤ sizeLine; decide, fun p3 hp3 => ?_⟩
      have s3 := MG.Same.new (o := .tup [.int r, .int c]) s2 hp3
      refine ⟨_, rfl, b, dy, _, rfl, s3 _ _ eb, b, r2, c2, g, rfl, hB.same s3, _, rfl, b, dy, _, rfl, s3 _ _ eb, b, r2, c2, g, rfl, hB.same s3, hr20, by show 2 ≤ sizeLine; decide, fun p4 hp4 => ?_⟩
      have s4 := MG.Same.new (o := .tup [.int r2, .int c2]) s3 hp4
      have e3 := (MG.Same.new (o := .tup [.int r2, .int c2]) (Same.refl _) hp4) _ _ (upd_same (H := upd (upd H p (.tup [.int r, .int c])) p2 (.tup [.int r2, .int c2])) (a := p3) (o := .tup [.int r, .int c]))
      exact ⟨_, _, rfl, fun d H' s5 n e => k2 heq _ p3 p4 s4 e3 upd_same d H' s5 n e⟩
abbrev ChkC (P : Program) (w : World) (K : PySem.W.Frag) (mg : Str → Option Value) (base : Heap) (C CM CX : Addr) : Prop := MetX P w K mg base 6 CM "_check_equal_sizes" (spChk C CM CX)
end
end Lw

namespace Lw
open PySem PySem.Spec PyProof.Rows L2 MG
section
variable {P : Program} {w : World} {K : PySem.W.Frag} {mg : Str → Option Value} {base : Heap} {C CM CX : Addr}
abbrev Bds (r c : Nat) (f : Nat → Nat → Rat) (k : Nat) : Prop := ∀ i j, i < r → j < c → Bd (f i j) k
def spMBin (C CM CX : Addr) (op : Rat → Rat → Rat) : Sp := fun vs H Q E => ∃ (a b : Addr) (r c r2 c2 : Nat) (f g : Nat → Nat → Rat), vs = [.ref a, .ref b] ∧ MtAt C CM H a r c f ∧ MtAt C CM H b r2 c2 g ∧ Sz r c ∧ Sz r2 c2 ∧ Bds r c f 150 ∧ Bds r2 c2 g 150 ∧
  (r = r2 ∧ c = c2 → ∀ m H', Same H H' → MtAt C CM H' m r c (fun i j => op (f i j) (g i j)) → Q (.ref m) H') ∧ (¬ (r = r2 ∧ c = c2) → RsdP CX H r c r2 c2 E)
theorem sc_Matrix___add__ : FnScope ["self", "other", "row", "added", "one", "more"] ["self", "other"] (defScope s_Matrix___add__) := ⟨rfl, rfl, rfl, by decide +kernel, rfl, by decide +kernel, by decide +kernel⟩
theorem ok_madd {f : Addr} {fd : FuncData} (F : Fun K "__add__" "Matrix.__add__" s_Matrix___add__ f fd) (T : TxM K mg C CM) (m_mat : MatC P w K mg base C CM) (m_chk : ChkC P w K mg base C CM CX) (pm_entries : EntriesC P w K mg base CM) (o_add : OpF P w K mg base 8 C .Add (spBin C fun p q => p + q)) :
    FnOk P w K mg base (L2N.CX P w) 12 f fd ["self", "other"] (spMBin C CM CX fun p q => p + q) := by
  refine fun_okN F sc_Matrix___add__ (fun vs H Q E h => ?_) (fun cdv A outer s H vs Q E hr h => ?_)
  · obtain ⟨a, b, r, c, r2, c2, f, g, rfl, _⟩ := h
    rfl
  · obtain ⟨a, b, r, c, r2, c2, f, g, rfl, hA, hB, zA, zB, bA, bB, k1, k2⟩ := h
    refine ⟨_, (pss_cons (ps_if (pt_not (pt_val (pe_callB (id := "isinstance") (call_isiK (K := K)) (by rfl) T.b_isinstance (by decide +kernel) (pa_cons (pv 1) (pa_cons (pe_glob (v := V.ref CM) rfl T.g_Matrix rfl) pa_nil))))) (pss_one ps_never)
  pss_nil)
  (pss_cons (ps_expr (pe_metX m_chk T.clM hr (by decide) (L2N.takes_of rfl rfl rfl rfl) (pv 0) (pa_cons (pv 1) pa_nil)))
  (pss_one (ps_ret (pe_mkf m_mat hr (by decide) rfl (pa_cons (pe_callTy (call_tuple_ofK (K := K)) (by rfl) T.b_tuple (by decide +kernel) (pa_cons (pe_lcI (pe_lc (own := [("row", 2), ("added", 3)]) rfl sc_Matrix___add__.nd (pi_zipK (K := K) (by rfl) T.b_zip (pa_cons (pe_fldK (K := K) (pv 0) rfl) (pa_cons (pe_pf pm_entries T.clM hr (by decide) (pv 1) rfl) pa_nil))) (blkOk_by (N := ["self", "other", "row", "added", "one", "more"]) (sc := (defScope s_Matrix___add__)) (by decide +kernel)) (fun _ _ _ _ _ => (pg_tupK (K := K) (n := 2) rfl (pgs_cons (pg_name (i := 2) sc_Matrix___add__.nd rfl (Or.inl rfl)) (pgs_cons (pg_name (i := 3) sc_Matrix___add__.nd rfl (Or.inl rfl)) pgs_nil)))) (fun _ _ _ _ _ => pts_nil) (fun _ _ _ _ _ => (pe_cut (pe_callTy (call_tuple_ofK (K := K)) (by rfl) T.b_tuple (by decide +kernel) (pa_cons (pe_lcI (pe_lc (own := [("one", 4), ("more", 5)]) rfl sc_Matrix___add__.nd (pi_zipK (K := K) (by rfl) T.b_zip (pa_cons (pv 2) (pa_cons (pv 3) pa_nil))) (blkOk_by (N := ["self", "other", "row", "added", "one", "more"]) (sc := ({ kind := .function, names := [(PySem.Str.ofString ".0", .local), (PySem.Str.ofString "row", .local), (PySem.Str.ofString "added", .local), (PySem.Str.ofString "tuple", .globalImplicit), (PySem.Str.ofString "zip", .globalImplicit)], isGenerator := false, isCoroutine := false } : Scope)) (by decide +kernel)) (fun _ _ _ _ _ => (pg_tupK (K := K) (n := 2) rfl (pgs_cons (pg_name (i := 4) sc_Matrix___add__.nd rfl (Or.inl rfl)) (pgs_cons (pg_name (i := 5) sc_Matrix___add__.nd rfl (Or.inl rfl)) pgs_nil)))) (fun _ _ _ _ _ => pts_nil) (fun _ _ _ _ _ => (pe_cut (pe_op (op_f o_add hr (by decide)) (pv 4) (pv 5)))))) pa_nil)))))) pa_nil)) pa_nil)))))), ?_⟩
    obtain ⟨dx, t, ea, hT⟩ := id hA
    obtain ⟨dy, u, eb, hU⟩ := id hB
    -- if not isinstance(other, Matrix)
    refine ⟨_, rfl, .ref b, _, _, _, _, rfl, .own CM, hB.tyx T, T.kMM, _, rfl, iteF ?_⟩
    -- self._check_equal_sizes(other)
    refine ⟨_, rfl, a, dx, _, rfl, ea, rfl, _, rfl, a, b, r, c, r2, c2, f, g, rfl, hA, hB, zA.1, zB.1, fun heq H1 s1 => ?_, k2⟩
    obtain ⟨rfl, rfl⟩ := heq
    obtain ⟨rs, et, hl, hrow⟩ := hT.same (rc_mono C) s1
    obtain ⟨rs2, eu, hl2, hrow2⟩ := hU.same (rc_mono C) s1
    obtain ⟨z1, z2, z3, z4⟩ := id zA
    -- return Matrix(tuple([tuple([one + more ..]) ..]))
    refine ⟨_, rfl, a, CM, dx, _, _, rfl, s1 _ _ ea, T.clM, T.nE, mfl_at t, _, rfl, b, dy, _, rfl, s1 _ _ eb, b, dy, u, rfl, s1 _ _ eb, t, u, rs, rs2, rfl, .inr ⟨SqT.of et, SqT.of eu, fun D hD => ?_⟩⟩
    refine lc_same (walk_zipT (K := K) (a := t) (b := u) (n := r) (by omega)) hD (by omega) (fun i y G => Rw (RC C) G y c (fun j => f i j + g i j)) (fun i y G G' h s => h.same (rc_mono C) s) (fun G s => ⟨SqT.of (s _ _ et), SqT.of (s _ _ eu)⟩) ypair_same (fun i x H2 H2' hi s2 _ hy => ?_) fun ys H2 hl3 s2 e2 h2 => ?_
    · obtain ⟨T2, x1, x2, rfl, hT2, rfl, hx1, hx2⟩ := hy
      have s2' := MG.Same.new (o := .tup [x1, x2]) s2 hT2
      obtain ⟨p, xs, rfl, hp, hxl, hc⟩ := (hrow i x1 hx1).same (rc_mono C) s2'
      obtain ⟨p2, xs2, rfl, hp2, hxl2, hc2⟩ := (hrow2 i x2 hx2).same (rc_mono C) s2'
      refine ⟨_, tg2 upd_same, rfl, ?_⟩
      refine ⟨_, rfl, _, rfl, p, p2, xs, xs2, rfl, .inr ⟨SqT.of hp, SqT.of hp2, fun D2 hD2 => ?_⟩⟩
      refine lc_same (walk_zipT (K := K) (a := p) (b := p2) (n := c) (by omega)) hD2 (by omega) (fun j y G => RC C G y (f i j + g i j)) (fun j y G G' h s => (rc_mono C).same h s) (fun G s => ⟨SqT.of (s _ _ hp), SqT.of (s _ _ hp2)⟩) ypair_same (fun j x H3 H3' hj s3 _ hy => ?_) fun ys3 H3 hl4 s3 e3 h3 => ?_
      · obtain ⟨T3, y1, y2, rfl, hT3, rfl, hy1, hy2⟩ := hy
        have s3' := MG.Same.new (o := .tup [y1, y2]) s3 hT3
        obtain ⟨b1, rfl, h1⟩ := (rc_mono C).same (hc j y1 hy1) s3'
        obtain ⟨b2, rfl, h2⟩ := (rc_mono C).same (hc2 j y2 hy2) s3'
        refine ⟨_, tg2 upd_same, rfl, ?_⟩
        obtain ⟨d1, e1⟩ := id h1
        obtain ⟨d2, e2⟩ := id h2
        exact ⟨_, rfl, _, rfl, b1, d1, _, rfl, e1, .inl ⟨b2, d2, _, rfl, e2⟩, b1, .ref b2, _, _, rfl, h1, .inl ⟨b2, rfl, h2⟩, bA i j hi hj, bB i j hi hj, fun r' H5 s5 h5 => ⟨s5, fun ⟨l, hl⟩ => (rc_mono C).hid ⟨r', rfl, h5⟩ hl⟩⟩
      · refine ⟨D2, ys3, rfl, .inl ⟨SqL.of e3, fun T4 hT4 => ⟨MG.Same.new s3 hT4, fun ⟨l, hl⟩ => ?_⟩⟩⟩
        exact (rw_new (rc_mono C) (hid_same D2 H3) hT4 hl4 h3).hid (rc_mono C) hl
    refine ⟨D, ys, rfl, .inl ⟨SqL.of e2, fun T5 hT5 => ?_⟩⟩
    have s4 : Same H (upd H2 T5 (.tup ys)) := MG.Same.new (s1.trans s2) hT5
    exact make_mat (tb_new (rc_mono C) (hid_same D H2) hT5 hl3 h2) zA fun m H' _ s h => k1 ⟨rfl, rfl⟩ m H' (s4.trans s) h
theorem sc_Matrix___sub__ : FnScope ["self", "other", "row", "taken", "one", "less"] ["self", "other"] (defScope s_Matrix___sub__) := ⟨rfl, rfl, rfl, by decide +kernel, rfl, by decide +kernel, by decide +kernel⟩
theorem ok_msub {f : Addr} {fd : FuncData} (F : Fun K "__sub__" "Matrix.__sub__" s_Matrix___sub__ f fd) (T : TxM K mg C CM) (m_mat : MatC P w K mg base C CM) (m_chk : ChkC P w K mg base C CM CX) (pm_entries : EntriesC P w K mg base CM) (o_sub : OpF P w K mg base 8 C .Sub (spBin C fun p q => p - q)) :
    FnOk P w K mg base (L2N.CX P w) 12 f fd ["self", "other"] (spMBin C CM CX fun p q => p - q) := by
  refine fun_okN F sc_Matrix___sub__ (fun vs H Q E h => ?_) (fun cdv A outer s H vs Q E hr h => ?_)
  · obtain ⟨a, b, r, c, r2, c2, f, g, rfl, _⟩ := h
    rfl
  · obtain ⟨a, b, r, c, r2, c2, f, g, rfl, hA, hB, zA, zB, bA, bB, k1, k2⟩ := h
    refine ⟨_, (pss_cons (ps_if (pt_not (pt_val (pe_callB (id := "isinstance") (call_isiK (K := K)) (by rfl) T.b_isinstance (by decide +kernel) (pa_cons (pv 1) (pa_cons (pe_glob (v := V.ref CM) rfl T.g_Matrix rfl) pa_nil))))) (pss_one ps_never)
  pss_nil)
  (pss_cons (ps_expr (pe_metX m_chk T.clM hr (by decide) (L2N.takes_of rfl rfl rfl rfl) (pv 0) (pa_cons (pv 1) pa_nil)))
  (pss_one (ps_ret (pe_mkf m_mat hr (by decide) rfl (pa_cons (pe_callTy (call_tuple_ofK (K := K)) (by rfl) T.b_tuple (by decide +kernel) (pa_cons (pe_lcI (pe_lc (own := [("row", 2), ("taken", 3)]) rfl sc_Matrix___sub__.nd (pi_zipK (K := K) (by rfl) T.b_zip (pa_cons (pe_fldK (K := K) (pv 0) rfl) (pa_cons (pe_pf pm_entries T.clM hr (by decide) (pv 1) rfl) pa_nil))) (blkOk_by (N := ["self", "other", "row", "taken", "one", "less"]) (sc := (defScope s_Matrix___sub__)) (by decide +kernel)) (fun _ _ _ _ _ => (pg_tupK (K := K) (n := 2) rfl (pgs_cons (pg_name (i := 2) sc_Matrix___sub__.nd rfl (Or.inl rfl)) (pgs_cons (pg_name (i := 3) sc_Matrix___sub__.nd rfl (Or.inl rfl)) pgs_nil)))) (fun _ _ _ _ _ => pts_nil) (fun _ _ _ _ _ => (pe_cut (pe_callTy (call_tuple_ofK (K := K)) (by rfl) T.b_tuple (by decide +kernel) (pa_cons (pe_lcI (pe_lc (own := [("one", 4), ("less", 5)]) rfl sc_Matrix___sub__.nd (pi_zipK (K := K) (by rfl) T.b_zip (pa_cons (pv 2) (pa_cons (pv 3) pa_nil))) (blkOk_by (N := ["self", "other", "row", "taken", "one", "less"]) (sc := ({ kind := .function, names := [(PySem.Str.ofString ".0", .local), (PySem.Str.ofString "row", .local), (PySem.Str.ofString "taken", .local), (PySem.Str.ofString "tuple", .globalImplicit), (PySem.Str.ofString "zip", .globalImplicit)], isGenerator := false, isCoroutine := false } : Scope)) (by decide +kernel)) (fun _ _ _ _ _ => (pg_tupK (K := K) (n := 2) rfl (pgs_cons (pg_name (i := 4) sc_Matrix___sub__.nd rfl (Or.inl rfl)) (pgs_cons (pg_name (i := 5) sc_Matrix___sub__.nd rfl (Or.inl rfl)) pgs_nil)))) (fun _ _ _ _ _ => pts_nil) (fun _ _ _ _ _ => (pe_cut (pe_op (op_f o_sub hr (by decide)) (pv 4) (pv 5)))))) pa_nil)))))) pa_nil)) pa_nil)))))), ?_⟩
    obtain ⟨dx, t, ea, hT⟩ := id hA
    obtain ⟨dy, u, eb, hU⟩ := id hB
    -- if not isinstance(other, Matrix)
    refine ⟨_, rfl, .ref b, _, _, _, _, rfl, .own CM, hB.tyx T, T.kMM, _, rfl, iteF ?_⟩
    -- self._check_equal_sizes(other)
    refine ⟨_, rfl, a, dx, _, rfl, ea, rfl, _, rfl, a, b, r, c, r2, c2, f, g, rfl, hA, hB, zA.1, zB.1, fun heq H1 s1 => ?_, k2⟩
    obtain ⟨rfl, rfl⟩ := heq
    obtain ⟨rs, et, hl, hrow⟩ := hT.same (rc_mono C) s1
    obtain ⟨rs2, eu, hl2, hrow2⟩ := hU.same (rc_mono C) s1
    obtain ⟨z1, z2, z3, z4⟩ := id zA
    -- return Matrix(tuple([tuple([one - less ..]) ..]))
    refine ⟨_, rfl, a, CM, dx, _, _, rfl, s1 _ _ ea, T.clM, T.nE, mfl_at t, _, rfl, b, dy, _, rfl, s1 _ _ eb, b, dy, u, rfl, s1 _ _ eb, t, u, rs, rs2, rfl, .inr ⟨SqT.of et, SqT.of eu, fun D hD => ?_⟩⟩
    refine lc_same (walk_zipT (K := K) (a := t) (b := u) (n := r) (by omega)) hD (by omega) (fun i y G => Rw (RC C) G y c (fun j => f i j - g i j)) (fun i y G G' h s => h.same (rc_mono C) s) (fun G s => ⟨SqT.of (s _ _ et), SqT.of (s _ _ eu)⟩) ypair_same (fun i x H2 H2' hi s2 _ hy => ?_) fun ys H2 hl3 s2 e2 h2 => ?_
    · obtain ⟨T2, x1, x2, rfl, hT2, rfl, hx1, hx2⟩ := hy
      have s2' := MG.Same.new (o := .tup [x1, x2]) s2 hT2
      obtain ⟨p, xs, rfl, hp, hxl, hc⟩ := (hrow i x1 hx1).same (rc_mono C) s2'
      obtain ⟨p2, xs2, rfl, hp2, hxl2, hc2⟩ := (hrow2 i x2 hx2).same (rc_mono C) s2'
      refine ⟨_, tg2 upd_same, rfl, ?_⟩
      refine ⟨_, rfl, _, rfl, p, p2, xs, xs2, rfl, .inr ⟨SqT.of hp, SqT.of hp2, fun D2 hD2 => ?_⟩⟩
      refine lc_same (walk_zipT (K := K) (a := p) (b := p2) (n := c) (by omega)) hD2 (by omega) (fun j y G => RC C G y (f i j - g i j)) (fun j y G G' h s => (rc_mono C).same h s) (fun G s => ⟨SqT.of (s _ _ hp), SqT.of (s _ _ hp2)⟩) ypair_same (fun j x H3 H3' hj s3 _ hy => ?_) fun ys3 H3 hl4 s3 e3 h3 => ?_
      · obtain ⟨T3, y1, y2, rfl, hT3, rfl, hy1, hy2⟩ := hy
        have s3' := MG.Same.new (o := .tup [y1, y2]) s3 hT3
        obtain ⟨b1, rfl, h1⟩ := (rc_mono C).same (hc j y1 hy1) s3'
        obtain ⟨b2, rfl, h2⟩ := (rc_mono C).same (hc2 j y2 hy2) s3'
        refine ⟨_, tg2 upd_same, rfl, ?_⟩
        obtain ⟨d1, e1⟩ := id h1
        obtain ⟨d2, e2⟩ := id h2
        exact ⟨_, rfl, _, rfl, b1, d1, _, rfl, e1, .inl ⟨b2, d2, _, rfl, e2⟩, b1, .ref b2, _, _, rfl, h1, .inl ⟨b2, rfl, h2⟩, bA i j hi hj, bB i j hi hj, fun r' H5 s5 h5 => ⟨s5, fun ⟨l, hl⟩ => (rc_mono C).hid ⟨r', rfl, h5⟩ hl⟩⟩
      · refine ⟨D2, ys3, rfl, .inl ⟨SqL.of e3, fun T4 hT4 => ⟨MG.Same.new s3 hT4, fun ⟨l, hl⟩ => ?_⟩⟩⟩
        exact (rw_new (rc_mono C) (hid_same D2 H3) hT4 hl4 h3).hid (rc_mono C) hl
    refine ⟨D, ys, rfl, .inl ⟨SqL.of e2, fun T5 hT5 => ?_⟩⟩
    have s4 : Same H (upd H2 T5 (.tup ys)) := MG.Same.new (s1.trans s2) hT5
    exact make_mat (tb_new (rc_mono C) (hid_same D H2) hT5 hl3 h2) zA fun m H' _ s h => k1 ⟨rfl, rfl⟩ m H' (s4.trans s) h

/-! ### over one bottom -/
theorem over_div {p : Rat} {b : Nat} (hd : p.den ∣ b) (hb : 0 < b) : Rat.divInt (p.num * ((b : Int).fdiv (p.den : Int))) b = p := by
  obtain ⟨m, rfl⟩ := hd
  have hden : (p.den : Int) ≠ 0 := by have := p.den_nz; omega
  have e : ((p.den * m : Nat) : Int).fdiv (p.den : Int) = (m : Int) := by
    rw [Int.natCast_mul]
    exact Int.mul_fdiv_cancel_left _ hden
  have hm : (m : Int) ≠ 0 := by
    intro z
    have : m = 0 := by omega
    subst this
    simp at hb
  rw [e, Int.natCast_mul, Rat.divInt_mul_right hm, Rat.num_divInt_den]
/-- ints over one bottom b in a new tuple -/
structure Ovr (H : Hp) (T L : Addr) (n : Nat) (g : Nat → Rat) (z : Nat → Int) (b U : Nat) : Prop where
  at_ : H T = some (.tup [.ref L, .int b])
  li : H L = some (.lst (rowV n z))
  pos : 0 < b
  dvd : b ∣ U
  val : ∀ j, j < n → Rat.divInt (z j) b = g j
  bd : ∀ j, j < n → (z j).natAbs < 10 ^ 175
theorem Ovr.same {H H' : Hp} {T L : Addr} {n : Nat} {g : Nat → Rat} {z : Nat → Int} {b U : Nat} (h : Ovr H T L n g z b U) (s : Same H H') : Ovr H' T L n g z b U :=
  ⟨s _ _ h.at_, s _ _ h.li, h.pos, h.dvd, h.val, h.bd⟩
def spOob (C : Addr) (sq : List V → HO) : Sp := fun vs H Q _ => ∃ (a : Addr) (xs : List V) (n : Nat) (g : Nat → Rat) (U : Nat), vs = [.ref a] ∧ H a = some (sq xs) ∧ xs.length = n ∧ n ≤ 1000 ∧ (∀ (j : Nat) (y : V), xs[j]? = some y → RC C H y (g j)) ∧ 0 < U ∧ U < 10 ^ 18 ∧
  (∀ j, j < n → (g j).den ∣ U ∧ Bd (g j) 150) ∧ ∀ T L H' z b, Same H H' → H T = none → H L = none → Ovr H' T L n g z b U → Q (.ref T) H'
theorem sc_over_one_bottom : FnScope ["numbers", "bottom", "number"] ["numbers"] (defScope s_over_one_bottom) := ⟨rfl, rfl, rfl, by decide +kernel, rfl, by decide +kernel, by decide +kernel⟩
theorem ok_oobT {f : Addr} {fd : FuncData} (F : Fun K "over_one_bottom" "over_one_bottom" s_over_one_bottom f fd) (T : TxM K mg C CM) (p_top : PropF P w K mg base 2 C "top" (spTop C)) (p_bottom : PropF P w K mg base 2 C "bottom" (spBottom C)) : FnOk P w K mg base CX0 6 f fd ["numbers"] (spOob C .tup) := by
  refine F.ok sc_over_one_bottom (fun vs H Q E h => ?_) (fun cdv A outer s H vs Q E hr h => ?_)
  · obtain ⟨a, xs, n, g, U, rfl, _⟩ := h
    rfl
  · obtain ⟨a, xs, n, g, U, rfl, ha, hl, hn, hc, hU, hU2, hg, k⟩ := h
    refine ⟨_, (pss_cons (ps_set (i := 1) sc_over_one_bottom.nd rfl (Or.inr rfl) pe_int)
  (pss_cons (ps_for PassesOwn.never rfl (pi_tupK (K := K) (pv 0)) (pg_name (i := 2) sc_over_one_bottom.nd rfl (Or.inl rfl))
  (pss_one (ps_set (i := 1) sc_over_one_bottom.nd rfl (Or.inr rfl) (pe_callBfun cr_lcm rfl T.g_lcm (pa_cons (pv 1) (pa_cons (pe_pf p_bottom T.cl hr (by decide) (pv 2) rfl) pa_nil))))))
  (pss_one (ps_ret (pe_tup (pa_cons (pe_lcI (pe_lc (own := [("number", 2)]) rfl sc_over_one_bottom.nd (pi_tupK (K := K) (pv 0)) (blkOk_by (N := ["numbers", "bottom", "number"]) (sc := (defScope s_over_one_bottom)) (by decide +kernel)) (fun _ _ _ _ _ => (pg_name (i := 2) sc_over_one_bottom.nd rfl (Or.inl rfl))) (fun _ _ _ _ _ => pts_nil) (fun _ _ _ _ _ => (pe_cut (pe_op op_mulW (pe_pf p_top T.cl hr (by decide) (pv 2) rfl) (pe_op op_fdivZ (pv 1) (pe_pf p_bottom T.cl hr (by decide) (pv 2) rfl))))))) (pa_cons (pv 1) pa_nil))))))), ?_⟩
    -- for number in numbers: bottom = lcm(bottom, number.bottom)
    refine ⟨_, rfl, a, rfl, ⟨xs, SqT.of ha⟩, ?_⟩
    refine for_tup (K := K) (a := a) (xs := xs) (fun i σ H' => H' = H ∧ ∃ (b : Nat) (v : Option V), σ = [some (.ref a), some (.int b), v] ∧ 0 < b ∧ b ∣ U ∧ ∀ j, j < i → (g j).den ∣ b) ⟨rfl, 1, none, rfl, by decide, Nat.one_dvd _, fun j hj => absurd hj (Nat.not_lt_zero j)⟩ ?_ ?_ ?_
    · rintro i σ H' _ ⟨rfl, _⟩
      exact SqT.of ha
    · rintro i x σ H' hx ⟨rfl, b, v, rfl, hb0, hbU, hb⟩
      have hi : i < n := by have := (List.getElem?_eq_some_iff.mp hx).1; omega
      obtain ⟨r, rfl, hR⟩ := hc i x hx
      obtain ⟨d1, e1⟩ := id hR
      obtain ⟨hdU, _⟩ := hg i hi
      have bU : b ≤ U := Nat.le_of_dvd hU hbU
      have dU : (g i).den ≤ U := Nat.le_of_dvd hU hdU
      have big : (10 : Nat) ^ 18 < 2 ^ 64 := by decide
      refine ⟨_, rfl, _, rfl, r, d1, _, rfl, e1, r, g i, rfl, hR, (b : Int), ((g i).den : Int), rfl, by omega, by omega, ?_⟩
      refine ⟨rfl, Nat.lcm b (g i).den, some (.ref r), rfl, Nat.lcm_pos hb0 (g i).den_pos, Nat.lcm_dvd hbU hdU, fun j hj => ?_⟩
      by_cases e : j = i
      · subst e
        exact Nat.dvd_lcm_right _ _
      · exact Nat.dvd_trans (hb j (by omega)) (Nat.dvd_lcm_left _ _)
    rintro σ H' ⟨rfl, b, v, rfl, hb0, hbU, hb⟩
    have bU : b ≤ U := Nat.le_of_dvd hU hbU
    -- return [number.top * (bottom // number.bottom) for number in numbers], bottom
    refine ⟨_, rfl, a, rfl, ⟨xs, SqT.of ha⟩, fun D hD => ?_⟩
    refine lc_same (walk_tup (K := K) (a := a) (xs := xs)) hD (by omega) (fun j y _ => y = .int ((g j).num * ((b : Int).fdiv ((g j).den : Int)))) (fun _ _ _ _ h _ => h) (fun G s => SqT.of (s _ _ ha)) yat_same (fun i x H1 H1' hi s1 _ hy => ?_) fun ys H1 hl1 s1 e1 h1 => ?_
    · obtain ⟨rfl, hx⟩ := hy
      obtain ⟨r, rfl, hR⟩ := hc i x hx
      have hR1 := hR.same s1
      obtain ⟨d1, e1⟩ := id hR1
      have hi' : i < n := by omega
      obtain ⟨hdU, hbd⟩ := hg i hi'
      have hdb := hb i (by omega)
      have dpos := (g i).den_pos
      have db : (g i).den ≤ b := Nat.le_of_dvd hb0 hdb
      refine ⟨_, fun _ h => h, wipe_one, ?_⟩
      refine ⟨_, rfl, r, d1, _, rfl, e1, r, g i, rfl, hR1, _, rfl, _, rfl, r, d1, _, rfl, e1, r, g i, rfl, hR1, _, _, rfl, rfl, sm_div (hbd.den (by decide)) (by omega), _, _, rfl, rfl, sm_mul (hbd.num (by decide)) (sm_lt (k := 20) (by decide) ?_ ?_), Same.refl _, fun _ => rfl⟩
      · have := fdiv_ge (x := (b : Int)) (m := ((g i).den : Int)) (by omega) (by omega)
        omega
      · have := fdiv_le (x := (b : Int)) (m := ((g i).den : Int)) (by omega) (by omega)
        omega
    refine ⟨_, rfl, by show 2 ≤ sizeLine; decide, fun T2 hT2 => ?_⟩
    have e2 : ys = rowV n fun j => (g j).num * ((b : Int).fdiv ((g j).den : Int)) := ints_of (by omega) h1
    subst e2
    have s2 := MG.Same.new (o := .tup [.ref D, .int b]) s1 hT2
    refine k T2 D _ _ b s2 (s1.free hT2) hD ⟨upd_same, (MG.Same.new (Same.refl _) hT2) _ _ e1, hb0, hbU, fun j hj => over_div (hb j (by omega)) hb0, fun j hj => ?_⟩
    have hdb := hb j (by omega)
    have dpos := (g j).den_pos
    have f0 := fdiv_ge (x := (b : Int)) (m := ((g j).den : Int)) (by omega) (by omega)
    have f1 := fdiv_le (x := (b : Int)) (m := ((g j).den : Int)) (by omega) (by omega)
    rw [Int.natAbs_mul]
    exact Nat.lt_of_lt_of_le (lt_mul (j := 20) (hg j hj).2.1 (by omega)) (by exact Nat.pow_le_pow_right (by decide) (by decide))
theorem ok_oobL {f : Addr} {fd : FuncData} (F : Fun K "over_one_bottom" "over_one_bottom" s_over_one_bottom f fd) (T : TxM K mg C CM) (p_top : PropF P w K mg base 2 C "top" (spTop C)) (p_bottom : PropF P w K mg base 2 C "bottom" (spBottom C)) : FnOk P w K mg base CX0 6 f fd ["numbers"] (spOob C .lst) := by
  refine F.ok sc_over_one_bottom (fun vs H Q E h => ?_) (fun cdv A outer s H vs Q E hr h => ?_)
  · obtain ⟨a, xs, n, g, U, rfl, _⟩ := h
    rfl
  · obtain ⟨a, xs, n, g, U, rfl, ha, hl, hn, hc, hU, hU2, hg, k⟩ := h
    refine ⟨_, (pss_cons (ps_set (i := 1) sc_over_one_bottom.nd rfl (Or.inr rfl) pe_int)
  (pss_cons (ps_for PassesOwn.never rfl (pi_listK (K := K) (pv 0)) (pg_name (i := 2) sc_over_one_bottom.nd rfl (Or.inl rfl))
  (pss_one (ps_set (i := 1) sc_over_one_bottom.nd rfl (Or.inr rfl) (pe_callBfun cr_lcm rfl T.g_lcm (pa_cons (pv 1) (pa_cons (pe_pf p_bottom T.cl hr (by decide) (pv 2) rfl) pa_nil))))))
  (pss_one (ps_ret (pe_tup (pa_cons (pe_lcI (pe_lc (own := [("number", 2)]) rfl sc_over_one_bottom.nd (pi_listK (K := K) (pv 0)) (blkOk_by (N := ["numbers", "bottom", "number"]) (sc := (defScope s_over_one_bottom)) (by decide +kernel)) (fun _ _ _ _ _ => (pg_name (i := 2) sc_over_one_bottom.nd rfl (Or.inl rfl))) (fun _ _ _ _ _ => pts_nil) (fun _ _ _ _ _ => (pe_cut (pe_op op_mulW (pe_pf p_top T.cl hr (by decide) (pv 2) rfl) (pe_op op_fdivZ (pv 1) (pe_pf p_bottom T.cl hr (by decide) (pv 2) rfl))))))) (pa_cons (pv 1) pa_nil))))))), ?_⟩
    -- for number in numbers: bottom = lcm(bottom, number.bottom)
    refine ⟨_, rfl, a, rfl, ⟨xs, SqL.of ha⟩, ?_⟩
    refine for_list (K := K) (a := a) (xs := xs) (fun i σ H' => H' = H ∧ ∃ (b : Nat) (v : Option V), σ = [some (.ref a), some (.int b), v] ∧ 0 < b ∧ b ∣ U ∧ ∀ j, j < i → (g j).den ∣ b) ⟨rfl, 1, none, rfl, by decide, Nat.one_dvd _, fun j hj => absurd hj (Nat.not_lt_zero j)⟩ ?_ ?_ ?_
    · rintro i σ H' _ ⟨rfl, _⟩
      exact SqL.of ha
    · rintro i x σ H' hx ⟨rfl, b, v, rfl, hb0, hbU, hb⟩
      have hi : i < n := by have := (List.getElem?_eq_some_iff.mp hx).1; omega
      obtain ⟨r, rfl, hR⟩ := hc i x hx
      obtain ⟨d1, e1⟩ := id hR
      obtain ⟨hdU, _⟩ := hg i hi
      have bU : b ≤ U := Nat.le_of_dvd hU hbU
      have dU : (g i).den ≤ U := Nat.le_of_dvd hU hdU
      have big : (10 : Nat) ^ 18 < 2 ^ 64 := by decide
      refine ⟨_, rfl, _, rfl, r, d1, _, rfl, e1, r, g i, rfl, hR, (b : Int), ((g i).den : Int), rfl, by omega, by omega, ?_⟩
      refine ⟨rfl, Nat.lcm b (g i).den, some (.ref r), rfl, Nat.lcm_pos hb0 (g i).den_pos, Nat.lcm_dvd hbU hdU, fun j hj => ?_⟩
      by_cases e : j = i
      · subst e
        exact Nat.dvd_lcm_right _ _
      · exact Nat.dvd_trans (hb j (by omega)) (Nat.dvd_lcm_left _ _)
    rintro σ H' ⟨rfl, b, v, rfl, hb0, hbU, hb⟩
    have bU : b ≤ U := Nat.le_of_dvd hU hbU
    -- return [number.top * (bottom // number.bottom) for number in numbers], bottom
    refine ⟨_, rfl, a, rfl, ⟨xs, SqL.of ha⟩, fun D hD => ?_⟩
    refine lc_same (walk_list (K := K) (a := a) (xs := xs)) hD (by omega) (fun j y _ => y = .int ((g j).num * ((b : Int).fdiv ((g j).den : Int)))) (fun _ _ _ _ h _ => h) (fun G s => SqL.of (s _ _ ha)) yat_same (fun i x H1 H1' hi s1 _ hy => ?_) fun ys H1 hl1 s1 e1 h1 => ?_
    · obtain ⟨rfl, hx⟩ := hy
      obtain ⟨r, rfl, hR⟩ := hc i x hx
      have hR1 := hR.same s1
      obtain ⟨d1, e1⟩ := id hR1
      have hi' : i < n := by omega
      obtain ⟨hdU, hbd⟩ := hg i hi'
      have hdb := hb i (by omega)
      have dpos := (g i).den_pos
      have db : (g i).den ≤ b := Nat.le_of_dvd hb0 hdb
      refine ⟨_, fun _ h => h, wipe_one, ?_⟩
      refine ⟨_, rfl, r, d1, _, rfl, e1, r, g i, rfl, hR1, _, rfl, _, rfl, r, d1, _, rfl, e1, r, g i, rfl, hR1, _, _, rfl, rfl, sm_div (hbd.den (by decide)) (by omega), _, _, rfl, rfl, sm_mul (hbd.num (by decide)) (sm_lt (k := 20) (by decide) ?_ ?_), Same.refl _, fun _ => rfl⟩
      · have := fdiv_ge (x := (b : Int)) (m := ((g i).den : Int)) (by omega) (by omega)
        omega
      · have := fdiv_le (x := (b : Int)) (m := ((g i).den : Int)) (by omega) (by omega)
        omega
    refine ⟨_, rfl, by show 2 ≤ sizeLine; decide, fun T2 hT2 => ?_⟩
    have e2 : ys = rowV n fun j => (g j).num * ((b : Int).fdiv ((g j).den : Int)) := ints_of (by omega) h1
    subst e2
    have s2 := MG.Same.new (o := .tup [.ref D, .int b]) s1 hT2
    refine k T2 D _ _ b s2 (s1.free hT2) hD ⟨upd_same, (MG.Same.new (Same.refl _) hT2) _ _ e1, hb0, hbU, fun j hj => over_div (hb j (by omega)) hb0, fun j hj => ?_⟩
    have hdb := hb j (by omega)
    have dpos := (g j).den_pos
    have f0 := fdiv_ge (x := (b : Int)) (m := ((g j).den : Int)) (by omega) (by omega)
    have f1 := fdiv_le (x := (b : Int)) (m := ((g j).den : Int)) (by omega) (by omega)
    rw [Int.natAbs_mul]
    exact Nat.lt_of_lt_of_le (lt_mul (j := 20) (hg j hj).2.1 (by omega)) (by exact Nat.pow_le_pow_right (by decide) (by decide))
abbrev OobT (P : Program) (w : World) (K : PySem.W.Frag) (mg : Str → Option Value) (base : Heap) (C : Addr) : Prop := CalF P w K mg base 6 "over_one_bottom" (spOob C .tup) []
abbrev OobL (P : Program) (w : World) (K : PySem.W.Frag) (mg : Str → Option Value) (base : Heap) (C : Addr) : Prop := CalF P w K mg base 6 "over_one_bottom" (spOob C .lst) []
end
end Lw

namespace Lw
open PySem PySem.Spec PyProof.Rows L2 MG
section
variable {P : Program} {w : World} {K : PySem.W.Frag} {mg : Str → Option Value} {base : Heap} {C CM CX : Addr}
theorem smI {i : Int} {k : Nat} (h : i.natAbs < 10 ^ k) (hk : k ≤ 390) : Sm i := by
  have := nab h
  rw [Int.natCast_pow] at this
  exact sm_lt (k := k) (by omega) this.1 this.2
/-! ### the ints that are not 0 -/
def nz (n : Nat) (z : Nat → Int) : List Nat := (List.range n).filter fun j => decide (z j ≠ 0)
theorem nz_sum (n : Nat) (z w : Nat → Int) : ((nz n z).map fun j => z j * w j).sum = smZ n fun j => z j * w j := by
  unfold nz
  induction n with
  | zero => rfl
  | succ n ih =>
    rw [List.range_succ, List.filter_append, List.map_append, List.sum_append, ih, smZ]
    by_cases h : z n = 0
    · simp [h]
    · simp [h]
theorem nz_succ (n : Nat) (z : Nat → Int) : nz (n + 1) z = nz n z ++ if z n ≠ 0 then [n] else [] := by
  unfold nz
  rw [List.range_succ, List.filter_append]
  by_cases h : z n = 0 <;> simp [h]
theorem nz_lt {n : Nat} {z : Nat → Int} {j : Nat} (h : j ∈ nz n z) : j < n := by
  unfold nz at h
  exact List.mem_range.mp (List.mem_filter.mp h).1
/-- pairs of an index and its int -/
def Prs2 (H : Hp) (ys : List V) (js : List Nat) (z : Nat → Int) : Prop := ys.length = js.length ∧ ∀ (m : Nat) (y : V) (j : Nat), ys[m]? = some y → js[m]? = some j → ∃ T, y = .ref T ∧ H T = some (.tup [.int j, .int (z j)])
theorem Prs2.same {H H' : Hp} {ys : List V} {js : List Nat} {z : Nat → Int} (h : Prs2 H ys js z) (s : Same H H') : Prs2 H' ys js z :=
  ⟨h.1, fun m y j a b => (h.2 m y j a b).elim fun T e => ⟨T, e.1, s _ _ e.2⟩⟩
theorem Prs2.snoc {H : Hp} {ys : List V} {js : List Nat} {z : Nat → Int} {T : Addr} {j : Nat} (h : Prs2 H ys js z) (e : H T = some (.tup [.int j, .int (z j)])) : Prs2 H (ys ++ [.ref T]) (js ++ [j]) z := by
  refine ⟨by simp [h.1], fun m y i hy hi => ?_⟩
  by_cases hm : m < ys.length
  · rw [List.getElem?_append_left hm] at hy
    rw [List.getElem?_append_left (by rw [← h.1]; exact hm)] at hi
    exact h.2 m y i hy hi
  · rw [List.getElem?_append_right (by omega)] at hy
    rw [List.getElem?_append_right (by rw [← h.1]; omega)] at hi
    have e1 : y = .ref T := by simpa using List.mem_of_getElem? hy
    have e2 : i = j := by simpa using List.mem_of_getElem? hi
    exact ⟨T, e1, by rw [e2]; exact e⟩
def spRowt (C : Addr) : Sp := fun vs H Q _ => ∃ (a Cl : Addr) (xs cs : List V) (n c : Nat) (g : Nat → Rat) (gg : Nat → Nat → Rat) (U U2 : Nat), vs = [.ref a, .ref Cl] ∧ H a = some (.tup xs) ∧ xs.length = n ∧ n ≤ 1000 ∧ (∀ (j : Nat) (y : V), xs[j]? = some y → RC C H y (g j)) ∧
  0 < U ∧ U < 10 ^ 18 ∧ (∀ j, j < n → (g j).den ∣ U ∧ Bd (g j) 150) ∧ H Cl = some (.lst cs) ∧ cs.length = c ∧ c ≤ 1000 ∧ 0 < U2 ∧ U2 < 10 ^ 18 ∧ (∀ (k : Nat) (x : V), cs[k]? = some x → ∃ T L z b, x = .ref T ∧ Ovr H T L n (fun j => gg j k) z b U2) ∧
  ∀ p H', Same H H' → Rw (RC C) H' (.ref p) c (fun k => sumQ n fun j => g j * gg j k) → Q (.ref p) H'
theorem sc_row_times : FnScope ["row", "columns", "tops", "bottom", "used", "index", "top", "cells", "below"] ["row", "columns"] (defScope s_row_times) := ⟨rfl, rfl, rfl, by decide +kernel, rfl, by decide +kernel, by decide +kernel⟩
theorem ok_rowt {f : Addr} {fd : FuncData} (F : Fun K "row_times" "row_times" s_row_times f fd) (T : TxM K mg C CM) (c_oob : OobT P w K mg base C) (m_rat2 : Rat2C P w K mg base C) : FnOk P w K mg base CX0 8 f fd ["row", "columns"] (spRowt C) := by
  refine F.ok sc_row_times (fun vs H Q E h => ?_) (fun cdv A outer s H vs Q E hr h => ?_)
  · obtain ⟨a, Cl, xs, cs, n, c, g, gg, U, U2, rfl, _⟩ := h
    rfl
  · obtain ⟨a, Cl, xs, cs, n, c, g, gg, U, U2, rfl, ha, hl, hn, hc, hU, hU2, hg, hCl, hcl, hc1, hV, hV2, hcs, k⟩ := h
    refine ⟨_, (pss_cons (ps_asg (pe_cf c_oob hr (by decide) rfl (pa_cons (pv 0) pa_nil)) (pg_tupK (K := K) (n := 2) rfl (pgs_cons (pg_name (i := 2) sc_row_times.nd rfl (Or.inl rfl)) (pgs_cons (pg_name (i := 3) sc_row_times.nd rfl (Or.inr rfl)) pgs_nil))))
  (pss_cons (ps_set (i := 4) sc_row_times.nd rfl (Or.inr rfl) (pe_lcI (pe_lc (own := [("index", 5), ("top", 6)]) rfl sc_row_times.nd (pi_enumK (K := K) (by rfl) T.b_enumerate (pa_cons (pv 2) pa_nil)) (blkOk_by (N := ["row", "columns", "tops", "bottom", "used", "index", "top", "cells", "below"]) (sc := (defScope s_row_times)) (by decide +kernel)) (fun _ _ _ _ _ => (pg_tupK (K := K) (n := 2) rfl (pgs_cons (pg_name (i := 5) sc_row_times.nd rfl (Or.inl rfl)) (pgs_cons (pg_name (i := 6) sc_row_times.nd rfl (Or.inl rfl)) pgs_nil)))) (fun _ _ _ _ _ => (pts_one (pt_truthK (K := K) (pv 6) (by intro _; rfl)))) (fun _ _ _ _ _ => (pe_cut (pe_tup (pa_cons (pv 5) (pa_cons (pv 6) pa_nil))))))))
  (pss_one (ps_ret (pe_callTy (call_tuple_ofK (K := K)) (by rfl) T.b_tuple (by decide +kernel) (pa_cons (pe_lcI (pe_lc (own := [("cells", 7), ("below", 8)]) rfl sc_row_times.nd (pi_listK (K := K) (pv 1)) (blkOk_by (N := ["row", "columns", "tops", "bottom", "used", "index", "top", "cells", "below"]) (sc := (defScope s_row_times)) (by decide +kernel)) (fun _ _ _ _ _ => (pg_tupK (K := K) (n := 2) rfl (pgs_cons (pg_name (i := 7) sc_row_times.nd rfl (Or.inr rfl)) (pgs_cons (pg_name (i := 8) sc_row_times.nd rfl (Or.inl rfl)) pgs_nil)))) (fun _ _ _ _ _ => pts_nil) (fun _ _ _ _ _ => (pe_cut (pe_mkf m_rat2 hr (by decide) rfl (pa_cons (pe_callB (id := "sum") (cr_sumK (K := K) rfl) (by rfl) T.b_sum (by decide +kernel) (pa_cons (pe_lcI (pe_lc (own := [("index", 5), ("top", 6)]) rfl sc_row_times.nd (pi_listK (K := K) (pv 4)) (blkOk_by (N := ["row", "columns", "tops", "bottom", "used", "index", "top", "cells", "below"]) (sc := ({ kind := .function, names := [(PySem.Str.ofString ".0", .local), (PySem.Str.ofString "cells", .cell), (PySem.Str.ofString "below", .local), (PySem.Str.ofString "Ratio", .globalImplicit), (PySem.Str.ofString "sum", .globalImplicit), (PySem.Str.ofString "bottom", .cell), (PySem.Str.ofString "used", .cell)], isGenerator := false, isCoroutine := false } : Scope)) (by decide +kernel)) (fun _ _ _ _ _ => (pg_tupK (K := K) (n := 2) rfl (pgs_cons (pg_name (i := 5) sc_row_times.nd rfl (Or.inl rfl)) (pgs_cons (pg_name (i := 6) sc_row_times.nd rfl (Or.inl rfl)) pgs_nil)))) (fun _ _ _ _ _ => pts_nil) (fun _ _ _ _ _ => (pe_cut (pe_op op_mulW (pv 6) (pe_ix (ix_listK (K := K)) (pv 7) (pv 5) (fun _ _ => rfl))))))) pa_nil)) (pa_cons (pe_op op_mulW (pv 3) (pv 8)) pa_nil))))))) pa_nil)))))), ?_⟩
    -- tops, bottom = over_one_bottom(row)
    refine ⟨_, rfl, a, xs, n, g, U, rfl, ha, hl, hn, hc, hU, hU2, hg, fun T1 L H1 z b s1 _ _ ov => ?_⟩
    refine ⟨T1, _, rfl, SqT.of ov.at_, rfl, _, _, rfl, _, _, rfl, rfl, ?_⟩
    -- used = [(index, top) for index, top in enumerate(tops) if top]
    refine ⟨_, rfl, L, _, rfl, SqL.of ov.li, fun D hD => ?_⟩
    have posb := ov.pos
    have hzb : ∀ j, j < n → (z j).natAbs < 10 ^ 175 := ov.bd
    have hlr : (rowV n z).length = n := rowV_len
    refine lc_filt walk_enum hD (by rw [hlr]; omega) (fun i ys G => Same H1 G ∧ Prs2 G ys (nz i z) z) ⟨hid_none hD, by simp [nz], fun m y j e => by simp at e⟩ (fun i ys G hi p _ => SqL.of ((p.1.trans (hid_same D G)) _ _ ov.li)) (fun i x ys G G' hi p e hy => ?_) fun ys H2 e2 p2 => ?_
    · obtain ⟨T2, x1, x2, rfl, hT2, rfl, hx1, hx2⟩ := hy
      obtain rfl : V.int (i : Nat) = x1 := Option.some.inj hx1
      obtain ⟨hi2, rfl⟩ := rowV_get hx2
      have nD : T2 ≠ D := fun q => by rw [q, e] at hT2; cases hT2
      have eD : (upd G T2 (.tup [.int (i : Nat), .int (z i)])) D = some (.lst ys) := by rw [upd_ne (fun q => nD q.symm)]; exact e
      have sG : Same (hid D G) (hid D (upd G T2 (.tup [.int (i : Nat), .int (z i)]))) := hid_mono (MG.Same.new (Same.refl G) hT2)
      refine ⟨_, (z i != 0), tg2 upd_same, rfl, fun R h => ⟨_, rfl, z i != 0, rfl, h⟩, fun hb => ⟨eD, p.1.trans sG, ?_⟩, fun hb => ?_⟩
      · have hz : z i = 0 := by simpa using hb
        rw [nz_succ, if_neg (by simp [hz]), List.append_nil]
        exact p.2.same sG
      · have hz : z i ≠ 0 := by simpa using hb
        refine ⟨fun y H4 => ∃ T3, y = .ref T3 ∧ (upd G T2 (.tup [.int (i : Nat), .int (z i)])) T3 = none ∧ H4 = upd (upd G T2 (.tup [.int (i : Nat), .int (z i)])) T3 (.tup [.int (i : Nat), .int (z i)]), ⟨_, rfl, _, rfl, by show 2 ≤ sizeLine; decide, fun T3 hT3 => ⟨T3, rfl, hT3, rfl⟩⟩, ?_⟩
        rintro y H4 ⟨T3, rfl, hT3, rfl⟩
        have nD3 : T3 ≠ D := fun q => by rw [q, eD] at hT3; cases hT3
        refine ⟨by rw [upd_ne (fun q => nD3 q.symm)]; exact eD, (p.1.trans sG).trans (hid_mono (MG.Same.new (Same.refl _) hT3)), ?_⟩
        rw [nz_succ, if_pos hz]
        exact ((p.2.same sG).same (hid_mono (MG.Same.new (Same.refl _) hT3))).snoc (by rw [hid_ne nD3]; exact upd_same)
    rw [hlr] at p2
    have s2 : Same H1 H2 := p2.1.trans (hid_same D H2)
    have pr : Prs2 H2 ys (nz n z) z := p2.2.same (hid_same D H2)
    have ln : (nz n z).length ≤ n := by unfold nz; exact Nat.le_trans (List.length_filter_le _ _) (by simp)
    clear p2
    -- return tuple([Ratio(sum([top * cells[index] ..]), bottom * below) for cells, below in columns])
    have s12 := s1.trans s2
    refine ⟨_, rfl, Cl, rfl, ⟨cs, SqL.of (s12 _ _ hCl)⟩, fun D2 hD2 => ?_⟩
    refine lc_same (walk_list (K := K) (a := Cl) (xs := cs)) hD2 (by omega) (fun m y G => RC C G y (sumQ n fun j => g j * gg j m)) (fun m y G G' h s => (rc_mono C).same h s) (fun G s => SqL.of (s _ _ (s12 _ _ hCl))) yat_same (fun m x H3 H3' hm s3 _ hy => ?_) fun ys3 H3 hl3 s3 e3 h3 => ?_
    · obtain ⟨rfl, hx⟩ := hy
      obtain ⟨T4, L4, z4, b4, rfl, ov4⟩ := hcs m x hx
      have ov3 := ov4.same (s12.trans s3)
      have b4U : b4 ≤ U2 := Nat.le_of_dvd hV ov4.dvd
      have bU : b ≤ U := Nat.le_of_dvd hU ov.dvd
      have pos4 := ov4.pos
      refine ⟨_, tg2 ov3.at_, rfl, ?_⟩
      have prs := pr.same s3
      refine ⟨_, rfl, D, rfl, ⟨ys, SqL.of (s3 _ _ e2)⟩, fun D5 hD5 => ?_⟩
      refine lc_same (walk_list (K := K) (a := D) (xs := ys)) hD5 (by have := pr.1; omega) (fun p y _ => ∃ j, (nz n z)[p]? = some j ∧ y = .int (z j * z4 j)) (fun _ _ _ _ h _ => h) (fun G s => SqL.of (s _ _ (s3 _ _ e2))) yat_same (fun p x H5 H5' hp s5 _ hy => ?_) fun ys5 H5 hl5 s5 e5 h5 => ?_
      · obtain ⟨rfl, hx5⟩ := hy
        have hjl : p < (nz n z).length := by rw [← pr.1]; exact hp
        obtain ⟨j, hj⟩ : ∃ j, (nz n z)[p]? = some j := ⟨_, List.getElem?_eq_getElem hjl⟩
        obtain ⟨T6, rfl, eT6⟩ := prs.2 p x j hx5 hj
        have hjn := nz_lt (List.mem_of_getElem? hj)
        refine ⟨_, tg2 (s5 _ _ eT6), rfl, ?_⟩
        exact ⟨_, rfl, _, rfl, _, rfl, L4, _, _, _, rfl, rfl, SqL.of (s5 _ _ ov3.li), atI_nat (rowV_at hjn), _, _, rfl, rfl, sm_mul (smI (hzb j hjn) (by decide)) (smI (ov4.bd j hjn) (by decide)), Same.refl _, fun _ => ⟨j, hj, rfl⟩⟩
      have e6 : ys5 = ((nz n z).map fun j => z j * z4 j).map V.int := by
        refine List.ext_getElem? fun p => ?_
        rw [List.map_map, List.getElem?_map]
        by_cases hp : p < ys5.length
        · obtain ⟨j, hj, e⟩ := h5 p _ (List.getElem?_eq_getElem hp)
          rw [hj, List.getElem?_eq_getElem hp, e]
          rfl
        · have : (nz n z).length ≤ p := by rw [← pr.1]; omega
          rw [List.getElem?_eq_none (by omega), List.getElem?_eq_none this]
          rfl
      subst e6
      refine ⟨D5, _, rfl, SqL.of e5, _, rfl, _, rfl, _, _, rfl, rfl, sm_mul (sm_lt (k := 20) (by decide) (by omega) (by omega)) (sm_lt (k := 20) (by decide) (by omega) (by omega)), ?_⟩
      have hbb : (b : Int) * (b4 : Int) ≠ 0 := Int.mul_ne_zero (by omega) (by omega)
      have smb : Sm ((b : Int) * (b4 : Int)) := by
        refine sm_of ?_
        rw [Int.natAbs_mul]
        exact Nat.lt_of_lt_of_le (lt_mul (i := 20) (j := 20) (by omega) (by omega)) (by exact Nat.pow_le_pow_right (by decide) (by decide))
      refine make_rat (Q := fun y H4 => Same H3' H4 ∧ ((∃ l, H4 D2 = some (.lst l)) → RC C (hid D2 H4) y (sumQ n fun j => g j * gg j m))) hbb smb fun r' H6 _ s6 h6 => ⟨s5.trans s6, fun ⟨l, hl⟩ => ?_⟩
      refine (rc_mono C).hid ⟨r', rfl, ?_⟩ hl
      have ev : Rat.divInt (((nz n z).map fun j => z j * z4 j).sum) ((b : Int) * (b4 : Int)) = sumQ n fun j => g j * gg j m := by
        rw [nz_sum, sum_div (by omega) (by omega)]
        exact sumQ_congr fun j hj => by rw [ov.val j hj, ov4.val j hj]
      rw [ev] at h6
      exact h6
    refine ⟨D2, ys3, rfl, .inl ⟨SqL.of e3, fun T7 hT7 => ?_⟩⟩
    exact k T7 _ (MG.Same.new (s12.trans s3) hT7) (rw_new (rc_mono C) (hid_same D2 H3) hT7 (hl3.trans hcl) h3)
abbrev RowtC (P : Program) (w : World) (K : PySem.W.Frag) (mg : Str → Option Value) (base : Heap) (C : Addr) : Prop := CalF P w K mg base 8 "row_times" (spRowt C) []
end
end Lw

namespace Lw
open PySem PySem.Spec PyProof.Rows L2 MG
section
variable {P : Program} {w : World} {K : PySem.W.Frag} {mg : Str → Option Value} {base : Heap} {C CM CX : Addr}
/-- a common bottom -/
def Den (r c : Nat) (f : Nat → Nat → Rat) (U : Nat) : Prop := 0 < U ∧ U < 10 ^ 18 ∧ ∀ i j, i < r → j < c → (f i j).den ∣ U
def spMult (C : Addr) : Sp := fun vs H Q _ => ∃ (t u : Addr) (r n c : Nat) (f g : Nat → Nat → Rat) (U V' : Nat), vs = [.ref t, .ref u] ∧ Tb (RC C) H t r n f ∧ Tb (RC C) H u n c g ∧ Sz r n ∧ Sz n c ∧ Den r n f U ∧ Den n c g V' ∧ Bds r n f 150 ∧ Bds n c g 150 ∧
  ∀ p H', Same H H' → Tb (RC C) H' p r c (mulQ n f g) → Q (.ref p) H'
theorem sc_multiplied : FnScope ["entries", "others", "columns", "index", "row"] ["entries", "others"] (defScope s_multiplied) := ⟨rfl, rfl, rfl, by decide +kernel, rfl, by decide +kernel, by decide +kernel⟩
theorem ok_mult {f : Addr} {fd : FuncData} (F : Fun K "multiplied" "multiplied" s_multiplied f fd) (T : TxM K mg C CM) (c_oob : OobL P w K mg base C) (c_rowt : RowtC P w K mg base C) : FnOk P w K mg base CX0 10 f fd ["entries", "others"] (spMult C) := by
  refine F.ok sc_multiplied (fun vs H Q E h => ?_) (fun cdv A outer s H vs Q E hr h => ?_)
  · obtain ⟨t, u, r, n, c, f, g, U, V', rfl, _⟩ := h
    rfl
  · obtain ⟨t, u, r, n, c, f, g, U, V', rfl, hT, hU, zT, zU, dT, dU, bT, bU, k⟩ := h
    obtain ⟨rs, et, hl, hrow⟩ := id hT
    obtain ⟨rs2, eu, hl2, hrow2⟩ := id hU
    obtain ⟨z1, z2, z3, z4⟩ := id zT
    obtain ⟨y1, y2, y3, y4⟩ := id zU
    refine ⟨_, (pss_cons (ps_set (i := 2) sc_multiplied.nd rfl (Or.inr rfl) (pe_lcI (pe_lc (own := [("index", 3)]) rfl sc_multiplied.nd (pi_range1 (by rfl) T.b_range (pa_cons (pe_callB (id := "len") (call_len_seqK (K := K)) (by rfl) T.b_len (by decide +kernel) (pa_cons (pe_ix (ix_tupK (K := K)) (pv 1) pe_int (fun _ _ => rfl)) pa_nil)) pa_nil)) (blkOk_by (N := ["entries", "others", "columns", "index", "row"]) (sc := (defScope s_multiplied)) (by decide +kernel)) (fun _ _ _ _ _ => (pg_name (i := 3) sc_multiplied.nd rfl (Or.inr rfl))) (fun _ _ _ _ _ => pts_nil) (fun _ _ _ _ _ => (pe_cut (pe_cf c_oob hr (by decide) rfl (pa_cons (pe_lcI (pe_lc (own := [("row", 4)]) rfl sc_multiplied.nd (pi_tupK (K := K) (pv 1)) (blkOk_by (N := ["entries", "others", "columns", "index", "row"]) (sc := ({ kind := .function, names := [(PySem.Str.ofString ".0", .local), (PySem.Str.ofString "index", .cell), (PySem.Str.ofString "over_one_bottom", .globalImplicit), (PySem.Str.ofString "others", .cell)], isGenerator := false, isCoroutine := false } : Scope)) (by decide +kernel)) (fun _ _ _ _ _ => (pg_name (i := 4) sc_multiplied.nd rfl (Or.inl rfl))) (fun _ _ _ _ _ => pts_nil) (fun _ _ _ _ _ => (pe_cut (pe_ix (ix_tupK (K := K)) (pv 4) (pv 3) (fun _ _ => rfl)))))) pa_nil)))))))
  (pss_one (ps_ret (pe_callTy (call_tuple_ofK (K := K)) (by rfl) T.b_tuple (by decide +kernel) (pa_cons (pe_lcI (pe_lc (own := [("row", 4)]) rfl sc_multiplied.nd (pi_tupK (K := K) (pv 0)) (blkOk_by (N := ["entries", "others", "columns", "index", "row"]) (sc := (defScope s_multiplied)) (by decide +kernel)) (fun _ _ _ _ _ => (pg_name (i := 4) sc_multiplied.nd rfl (Or.inl rfl))) (fun _ _ _ _ _ => pts_nil) (fun _ _ _ _ _ => (pe_cut (pe_cf c_rowt hr (by decide) rfl (pa_cons (pv 4) (pa_cons (pv 2) pa_nil))))))) pa_nil))))), ?_⟩
    have h0 : rs2[0]? = some rs2[0] := List.getElem?_eq_getElem (by omega)
    obtain ⟨p0, xs0, e0, hp0, hxl0, _⟩ := hrow2 0 _ h0
    -- columns = [over_one_bottom([row[index] for row in others]) for index in range(len(others[0]))]
    refine ⟨_, rfl, u, _, _, _, rfl, rfl, SqT.of eu, atI_nat h0, p0, xs0, e0 ▸ rfl, .inr (SqT.of hp0), (xs0.length : Int), rfl, by omega, by omega, fun D hD => ?_⟩
    have hc0 : ((xs0.length : Int)).toNat = c := by omega
    rw [hc0]
    refine lc_same (walk_range (lo := 0) (n := c)) hD (by omega) (fun m y G => ∃ T L z b, y = .ref T ∧ Ovr G T L n (fun j => g j m) z b V') (fun m y G G' h s => by
      obtain ⟨T, L, z, b, e, o⟩ := h
      exact ⟨T, L, z, b, e, o.same s⟩) (fun G s => trivial) yfn_same (fun m x H1 H1' hm s1 nD hy => ?_) fun ys H1 hl1 s1 e1 h1 => ?_
    · obtain ⟨rfl, rfl⟩ := hy
      obtain ⟨rs3, eu3, hl3, hrow3⟩ := hU.same (rc_mono C) s1
      refine ⟨_, fun _ h => h, wipe_one, ?_⟩
      refine ⟨_, rfl, u, rfl, ⟨rs3, SqT.of eu3⟩, fun D2 hD2 => ?_⟩
      refine lc_same (walk_tup (K := K) (a := u) (xs := rs3)) hD2 (by omega) (fun j y G => RC C G y (g j m)) (fun j y G G' h s => (rc_mono C).same h s) (fun G s => SqT.of (s _ _ eu3)) yat_same (fun j x H2 H2' hj s2 _ hy => ?_) fun ys2 H2 hl4 s2 e2 h2 => ?_
      · obtain ⟨rfl, hx⟩ := hy
        obtain ⟨p, xs, rfl, hp, hxl, hc⟩ := (hrow3 j x hx).same (rc_mono C) s2
        have hx2 : xs[m]? = some xs[m] := List.getElem?_eq_getElem (by omega)
        obtain ⟨b, e', hb⟩ := hc m _ hx2
        have ei : V.int (0 + (m : Int)) = V.int (m : Int) := by rw [Int.zero_add]
        refine ⟨_, fun _ h => h, wipe_one, ?_⟩
        refine ⟨_, rfl, _, rfl, p, _, _, _, rfl, ei, SqT.of hp, atI_nat hx2, Same.refl _, fun ⟨l, hl⟩ => ?_⟩
        rw [e']
        exact (rc_mono C).hid ⟨b, rfl, hb⟩ hl
      · refine ⟨D2, ys2, n, fun j => g j m, V', rfl, e2, by omega, by omega, fun j y hy => (rc_mono C).same (h2 j y hy) (hid_same D2 H2), dU.1, dU.2.1, fun j hj => ⟨dU.2.2 j m hj hm, bU j m hj hm⟩, fun T L H3 z b s3 fT fL ov => ⟨s2.trans s3, fun ⟨l, hl⟩ => ?_⟩⟩
        have nT : T ≠ D := ne_of ov.at_ hl (by intro z; cases z)
        have nL : L ≠ D := fun q => by
          cases e : H1' D with
          | none => exact nD e
          | some o => rw [q, (s2 _ _ e)] at fL; cases fL
        exact ⟨T, L, z, b, rfl, by rw [hid_ne nT]; exact ov.at_, by rw [hid_ne nL]; exact ov.li, ov.pos, ov.dvd, ov.val, ov.bd⟩
    -- return tuple([row_times(row, columns) for row in entries])
    refine ⟨_, rfl, t, rfl, ⟨rs, SqT.of (s1 _ _ et)⟩, fun D3 hD3 => ?_⟩
    refine lc_same (walk_tup (K := K) (a := t) (xs := rs)) hD3 (by omega) (fun i y G => Rw (RC C) G y c (mulQ n f g i)) (fun i y G G' h s => h.same (rc_mono C) s) (fun G s => SqT.of (s _ _ (s1 _ _ et))) yat_same (fun i x H3 H3' hi s3 _ hy => ?_) fun ys3 H3 hl3 s3 e3 h3 => ?_
    · obtain ⟨rfl, hx⟩ := hy
      obtain ⟨p, xs, rfl, hp, hxl, hc⟩ := (hrow i x hx).same (rc_mono C) (s1.trans s3)
      have hi' : i < r := by omega
      refine ⟨_, fun _ h => h, wipe_one, ?_⟩
      refine ⟨_, rfl, _, rfl, p, D, xs, ys, n, c, f i, g, U, V', rfl, hp, hxl, by omega, hc, dT.1, dT.2.1, fun j hj => ⟨dT.2.2 i j hi' hj, bT i j hi' hj⟩, s3 _ _ e1, hl1, by omega, dU.1, dU.2.1, fun m x hx => ?_, fun p2 H4 s4 h4 => ⟨s4, fun ⟨l, hl⟩ => h4.hid (rc_mono C) hl⟩⟩
      obtain ⟨T, L, z, b, e, o⟩ := h1 m x hx
      exact ⟨T, L, z, b, e, (o.same (hid_same D H1)).same s3⟩
    refine ⟨D3, ys3, rfl, .inl ⟨SqL.of e3, fun T7 hT7 => ?_⟩⟩
    exact k T7 _ (MG.Same.new (s1.trans s3) hT7) (tb_new (rc_mono C) (hid_same D3 H3) hT7 (hl3.trans hl) h3)
abbrev MultC (P : Program) (w : World) (K : PySem.W.Frag) (mg : Str → Option Value) (base : Heap) (C : Addr) : Prop := CalF P w K mg base 10 "multiplied" (spMult C) []
/-! ### * -/
def spMMul (C CM CX : Addr) : Sp := fun vs H Q E => ∃ (a : Addr) (y : V) (r c : Nat) (f : Nat → Nat → Rat), vs = [.ref a, y] ∧ MtAt C CM H a r c f ∧ Sz r c ∧ Bds r c f 150 ∧
  ((∃ q, NumAt C H y q ∧ Bd q 150 ∧ ∀ m H', Same H H' → MtAt C CM H' m r c (fun i j => f i j * q) → Q (.ref m) H') ∨
   ∃ (b : Addr) (r2 c2 : Nat) (g : Nat → Nat → Rat), y = .ref b ∧ MtAt C CM H b r2 c2 g ∧ Sz r2 c2 ∧ Bds r2 c2 g 150 ∧
     (c = r2 → ∃ U V', Den r c f U ∧ Den r2 c2 g V' ∧ ∀ m H', Same H H' → MtAt C CM H' m r c2 (mulQ c f g) → Q (.ref m) H') ∧ (c ≠ r2 → ∀ H', Same H H' → Rsd2 CX H' (.int c) (.int r2) E))
theorem sc_Matrix___mul__ : FnScope ["self", "other", "row", "number"] ["self", "other"] (defScope s_Matrix___mul__) := ⟨rfl, rfl, rfl, by decide +kernel, rfl, by decide +kernel, by decide +kernel⟩
theorem ok_mmul {f : Addr} {fd : FuncData} (F : Fun K "__mul__" "Matrix.__mul__" s_Matrix___mul__ f fd) (T : TxM K mg C CM) (x_mis : XmC P w K mg base CX) (m_mat : MatC P w K mg base C CM) (c_number : NumberC P w K mg base C) (c_mult : MultC P w K mg base C) (pm_entries : EntriesC P w K mg base CM) (pm_rows : RowsC P w K mg base C CM) (pm_columns : ColumnsC P w K mg base C CM) (o_mul : OpF P w K mg base 8 C .Mult (spBin C fun p q => p * q)) :
    FnOk P w K mg base (L2N.CX P w) 12 f fd ["self", "other"] (spMMul C CM CX) := by
  refine fun_okN F sc_Matrix___mul__ (fun vs H Q E h => ?_) (fun cdv A outer s H vs Q E hr h => ?_)
  · obtain ⟨a, y, r, c, f, rfl, _⟩ := h
    rfl
  · obtain ⟨a, y, r, c, f, rfl, hA, zA, bA, h⟩ := h
    refine ⟨_, (pss_cons (ps_if (pt_val (pe_cf c_number hr (by decide) rfl (pa_cons (pv 1) pa_nil))) (pss_one (ps_ret (pe_mkf m_mat hr (by decide) rfl (pa_cons (pe_callTy (call_tuple_ofK (K := K)) (by rfl) T.b_tuple (by decide +kernel) (pa_cons (pe_lcI (pe_lc (own := [("row", 2)]) rfl sc_Matrix___mul__.nd (pi_tupK (K := K) (pe_fldK (K := K) (pv 0) rfl)) (blkOk_by (N := ["self", "other", "row", "number"]) (sc := (defScope s_Matrix___mul__)) (by decide +kernel)) (fun _ _ _ _ _ => (pg_name (i := 2) sc_Matrix___mul__.nd rfl (Or.inl rfl))) (fun _ _ _ _ _ => pts_nil) (fun _ _ _ _ _ => (pe_cut (pe_callTy (call_tuple_ofK (K := K)) (by rfl) T.b_tuple (by decide +kernel) (pa_cons (pe_lcI (pe_lc (own := [("number", 3)]) rfl sc_Matrix___mul__.nd (pi_tupK (K := K) (pv 2)) (blkOk_by (N := ["self", "other", "row", "number"]) (sc := ({ kind := .function, names := [(PySem.Str.ofString ".0", .local), (PySem.Str.ofString "row", .local), (PySem.Str.ofString "tuple", .globalImplicit), (PySem.Str.ofString "other", .cell)], isGenerator := false, isCoroutine := false } : Scope)) (by decide +kernel)) (fun _ _ _ _ _ => (pg_name (i := 3) sc_Matrix___mul__.nd rfl (Or.inl rfl))) (fun _ _ _ _ _ => pts_nil) (fun _ _ _ _ _ => (pe_cut (pe_op (op_f o_mul hr (by decide)) (pv 3) (pv 1)))))) pa_nil)))))) pa_nil)) pa_nil))))
  pss_nil)
  (pss_cons (ps_if (pt_not (pt_val (pe_callB (id := "isinstance") (call_isiK (K := K)) (by rfl) T.b_isinstance (by decide +kernel) (pa_cons (pv 1) (pa_cons (pe_glob (v := V.ref CM) rfl T.g_Matrix rfl) pa_nil))))) (pss_one ps_never)
  pss_nil)
  (pss_cons (ps_if (pt_cmpR op_ne (pe_pf pm_columns T.clM hr (by decide) (pv 0) rfl) (pe_pf pm_rows T.clM hr (by decide) (pv 1) rfl) (nomark _)) (pss_one (ps_raise2 x_mis hr (by decide) rfl (L2N.takes_of rfl rfl rfl rfl) rfl (pa_cons (pe_pf pm_columns T.clM hr (by decide) (pv 0) rfl) (pa_cons (pe_pf pm_rows T.clM hr (by decide) (pv 1) rfl) pa_nil))))
  pss_nil)
  (pss_one (ps_ret (pe_mkf m_mat hr (by decide) rfl (pa_cons (pe_cf c_mult hr (by decide) rfl (pa_cons (pe_fldK (K := K) (pv 0) rfl) (pa_cons (pe_pf pm_entries T.clM hr (by decide) (pv 1) rfl) pa_nil))) pa_nil))))))), ?_⟩
    obtain ⟨dx, t, ea, hT⟩ := id hA
    obtain ⟨z1, z2, z3, z4⟩ := id zA
    rcases h with ⟨q, hy, bq, k⟩ | ⟨b, r2, c2, g, rfl, hB, zB, bB, k1, k2⟩
    · -- a number
      obtain ⟨ty, b1, b2, b3, h1, h2, h3, h4, h5⟩ := hy.is T.toTxR
      refine ⟨_, rfl, y, ty, b1, b2, b3, rfl, h1, h2, h3, h4, _, rfl, ?_⟩
      rw [h5]
      refine iteT ?_
      obtain ⟨rs, et, hl, hrow⟩ := id hT
      refine ⟨_, rfl, a, CM, dx, _, _, rfl, ea, T.clM, T.nE, mfl_at t, t, rfl, ⟨rs, SqT.of et⟩, fun D hD => ?_⟩
      refine lc_same (walk_tup (K := K) (a := t) (xs := rs)) hD (by omega) (fun i y G => Rw (RC C) G y c (fun j => f i j * q)) (fun i y G G' h s => h.same (rc_mono C) s) (fun G s => SqT.of (s _ _ et)) yat_same (fun i x H2 H2' hi s2 _ hy2 => ?_) fun ys H2 hl3 s2 e2 h2 => ?_
      · obtain ⟨rfl, hx⟩ := hy2
        obtain ⟨p, xs, rfl, hp, hxl, hc⟩ := (hrow i x hx).same (rc_mono C) s2
        refine ⟨_, fun _ h => h, wipe_one, ?_⟩
        refine ⟨_, rfl, p, rfl, ⟨xs, SqT.of hp⟩, fun D2 hD2 => ?_⟩
        refine lc_same (walk_tup (K := K) (a := p) (xs := xs)) hD2 (by omega) (fun j y G => RC C G y (f i j * q)) (fun j y G G' h s => (rc_mono C).same h s) (fun G s => SqT.of (s _ _ hp)) yat_same (fun j x H3 H3' hj s3 _ hy3 => ?_) fun ys3 H3 hl4 s3 e3 h3 => ?_
        · obtain ⟨rfl, hx3⟩ := hy3
          obtain ⟨b1, rfl, h1⟩ := (rc_mono C).same (hc j x hx3) s3
          obtain ⟨d1, e1⟩ := id h1
          have hy' := hy.same (s2.trans s3)
          refine ⟨_, fun _ h => h, wipe_one, ?_⟩
          refine ⟨_, rfl, _, rfl, b1, d1, _, rfl, e1, ?_, b1, y, _, q, rfl, h1, hy', bA i j (by omega) (by omega), bq, fun r' H5 s5 h5 => ⟨s5, fun ⟨l, hl⟩ => (rc_mono C).hid ⟨r', rfl, h5⟩ hl⟩⟩
          rcases hy' with ⟨b2, rfl, d2, e2⟩ | ⟨z, rfl, _⟩
          · exact .inl ⟨b2, d2, _, rfl, e2⟩
          · exact .inr ⟨z, rfl⟩
        · refine ⟨D2, ys3, rfl, .inl ⟨SqL.of e3, fun T4 hT4 => ⟨MG.Same.new s3 hT4, fun ⟨l, hl⟩ => ?_⟩⟩⟩
          exact (rw_new (rc_mono C) (hid_same D2 H3) hT4 (hl4.trans hxl) h3).hid (rc_mono C) hl
      refine ⟨D, ys, rfl, .inl ⟨SqL.of e2, fun T5 hT5 => ?_⟩⟩
      have s4 : Same H (upd H2 T5 (.tup ys)) := MG.Same.new s2 hT5
      exact make_mat (tb_new (rc_mono C) (hid_same D H2) hT5 (hl3.trans hl) h2) zA fun m H' _ s h => k m H' (s4.trans s) h
    · -- a Matrix
      obtain ⟨dy, u, eb, hU⟩ := id hB
      refine ⟨_, rfl, .ref b, _, false, false, false, rfl, hB.tyx T, T.kMI, T.kMB, T.kMR, _, rfl, iteF ?_⟩
      refine ⟨_, rfl, .ref b, _, _, _, _, rfl, .own CM, hB.tyx T, T.kMM, _, rfl, iteF ?_⟩
      -- if self.columns != other.rows
      refine ⟨_, rfl, a, dx, _, rfl, ea, a, r, c, f, rfl, hA, z1, _, rfl, b, dy, _, rfl, eb, b, r2, c2, g, rfl, hB, rfl, _, rfl, ?_⟩
      by_cases hcr : c = r2
      · subst hcr
        obtain ⟨U, V', dU, dV, k⟩ := k1 rfl
        refine ifF (by simp) ?_
        refine ⟨_, rfl, a, CM, dx, _, _, rfl, ea, T.clM, T.nE, mfl_at t, _, rfl, b, dy, _, rfl, eb, b, dy, u, rfl, eb, t, u, r, c, c2, f, g, U, V', rfl, hT, hU, zA, zB, dU, dV, bA, bB, fun p H1 s1 h1 => ?_⟩
        exact make_mat h1 ⟨z1, z2, zB.2.2⟩ fun m H' _ s h => k m H' (s1.trans s) h
      · refine ifT (by simp; omega) ?_
        exact ⟨_, rfl, a, dx, _, rfl, ea, a, r, c, f, rfl, hA, z1, _, rfl, b, dy, _, rfl, eb, b, r2, c2, g, rfl, hB, _, _, rfl, fun d H' s5 n e => k2 hcr H (Same.refl H) d H' s5 n e⟩
abbrev MMulC (P : Program) (w : World) (K : PySem.W.Frag) (mg : Str → Option Value) (base : Heap) (C CM CX : Addr) : Prop := OpXF P w K mg base 12 CM C .Mult (spMMul C CM CX)
/-! ### - -/
def spMNeg (C CM : Addr) : Sp := fun vs H Q _ => ∃ (a : Addr) (r c : Nat) (f : Nat → Nat → Rat), vs = [.ref a] ∧ MtAt C CM H a r c f ∧ Sz r c ∧ Bds r c f 150 ∧ ∀ m H', Same H H' → MtAt C CM H' m r c (fun i j => f i j * Rat.divInt (-1) 1) → Q (.ref m) H'
theorem sc_Matrix___neg__ : FnScope ["self"] ["self"] (defScope s_Matrix___neg__) := ⟨rfl, rfl, rfl, by decide +kernel, rfl, by decide +kernel, by decide +kernel⟩
theorem ok_mneg {f : Addr} {fd : FuncData} (F : Fun K "__neg__" "Matrix.__neg__" s_Matrix___neg__ f fd) (T : TxM K mg C CM) (o_mmul : MMulC P w K mg base C CM CX) : FnOk P w K mg base CX0 14 f fd ["self"] (spMNeg C CM) := by
  refine F.ok sc_Matrix___neg__ (fun vs H Q E h => ?_) (fun cdv A outer s H vs Q E hr h => ?_)
  · obtain ⟨a, r, c, f, rfl, _⟩ := h
    rfl
  · obtain ⟨a, r, c, f, rfl, hA, zA, bA, k⟩ := h
    refine ⟨_, (pss_one (ps_ret (pe_op (op_xf o_mmul hr (by decide)) (pv 0) (pe_un un_neg pe_int)))), ?_⟩
    obtain ⟨dx, t, ea, hT⟩ := id hA
    exact ⟨_, rfl, _, rfl, a, dx, _, rfl, ea, .inr (.inr ⟨_, rfl⟩), a, _, r, c, f, rfl, hA, zA, bA, .inl ⟨Rat.divInt (-1) 1, .inr ⟨-1, rfl, rfl⟩, bd_div (by decide) (by decide) (by decide), fun m H' s h => k m H' s h⟩⟩
/-! ### ==, of equal tables -/
theorem FnOk.imp {CX : CXT} {k : Nat} {f : Addr} {fd : FuncData} {ps : List Str} {sp sp' : Sp} (F : FnOk P w K mg base CX k f fd ps sp) (h : ∀ vs H Q E, sp' vs H Q E → sp vs H Q E) : FnOk P w K mg base CX k f fd ps sp' :=
  ⟨fun vs H Q E q => F.len vs H Q E (h vs H Q E q), fun A outer s H args us vs Q E hr e hb r q => F.run A outer s H args us vs Q E hr e hb r (h vs H Q E q)⟩
def REq (C : Addr) : Addr → Addr → Hp → Prop := fun a b H => ∃ p, RatAt C H a p ∧ RatAt C H b p
theorem spEqR_imp : ∀ vs H Q E, L2.spEq (REq C) vs H Q E → spEqR K C vs H Q E := by
  rintro vs H Q E ⟨a, b, rfl, ⟨p, h1, h2⟩, k⟩
  refine ⟨a, p, .ref b, rfl, h1, .inl ⟨b, p, rfl, h2, ?_⟩⟩
  rw [decide_eq_true rfl]
  exact k H Ext.rfl'
theorem rcG_mat {X : Cx} (o : EqF X.prog X.w X.K X.mg X.base 2 C (spEqR K C)) : RcG X 4 (DTup X.K (DTup X.K (DIns C (REq C)))) := by
  obtain ⟨f, fd, ps, n, F, b⟩ := o.ex
  have m0 : Mon (DIns C (REq C)) := mon_ins fun a b H H' e ⟨p, h1, h2⟩ => ⟨p, h1.same e, h2.same e⟩
  exact rcG_tup (mon_tup m0) (eqG_tup m0 (eqG_ins (FnOk.imp F spEqR_imp) n.eq n.fn b pass0))
theorem dtup_of {H : Hp} {t u : Addr} {r c : Nat} {f : Nat → Nat → Rat} (h : Tb (RC C) H t r c f) (h' : Tb (RC C) H u r c f) : DTup K (DTup K (DIns C (REq C))) (.ref t) (.ref u) H := by
  obtain ⟨rs, et, hl, hrow⟩ := h
  obtain ⟨rs2, eu, hl2, hrow2⟩ := h'
  refine ⟨t, u, rs, rs2, rfl, rfl, SqT.of et, SqT.of eu, by omega, fun i x y hx hy => ?_⟩
  obtain ⟨p, xs, rfl, hp, hxl, hc⟩ := hrow i x hx
  obtain ⟨p2, xs2, rfl, hp2, hxl2, hc2⟩ := hrow2 i y hy
  refine ⟨p, p2, xs, xs2, rfl, rfl, SqT.of hp, SqT.of hp2, by omega, fun j x y hx hy => ?_⟩
  obtain ⟨a, rfl, ha⟩ := hc j x hx
  obtain ⟨b, rfl, hb⟩ := hc2 j y hy
  obtain ⟨d1, e1⟩ := id ha
  obtain ⟨d2, e2⟩ := id hb
  exact ⟨a, b, d1, d2, _, _, rfl, rfl, e1, e2, f i j, ha, hb⟩
def spMEq (C CM : Addr) : Sp := fun vs H Q _ => ∃ (a b : Addr) (r c : Nat) (f : Nat → Nat → Rat), vs = [.ref a, .ref b] ∧ MtAt C CM H a r c f ∧ MtAt C CM H b r c f ∧ ∀ H', Same H H' → Q (.bl true) H'
theorem sc_Matrix___eq__ : FnScope ["self", "other"] ["self", "other"] (defScope s_Matrix___eq__) := ⟨rfl, rfl, rfl, by decide +kernel, rfl, by decide +kernel, by decide +kernel⟩
theorem ok_meq {f : Addr} {fd : FuncData} (F : Fun K "__eq__" "Matrix.__eq__" s_Matrix___eq__ f fd) (T : TxM K mg C CM) (o_eq : EqF P w K mg base 2 C (spEqR K C)) : FnOk P w K mg base CX0 6 f fd ["self", "other"] (spMEq C CM) := by
  refine F.ok sc_Matrix___eq__ (fun vs H Q E h => ?_) (fun cdv A outer s H vs Q E hr h => ?_)
  · obtain ⟨a, b, r, c, f, rfl, _⟩ := h
    rfl
  · obtain ⟨a, b, r, c, f, rfl, hA, hB, k⟩ := h
    refine ⟨_, (pss_one (ps_ret (pe_and (pe_callB (id := "isinstance") (call_isiK (K := K)) (by rfl) T.b_isinstance (by decide +kernel) (pa_cons (pv 1) (pa_cons (pe_glob (v := V.ref CM) rfl T.g_Matrix rfl) pa_nil))) (pe_one (pe_cmpR (op_eqG (rcG_mat (C := C) (K := K) o_eq) (hr.mono (by decide))) (pe_fldK (K := K) (pv 0) rfl) (pe_fldK (K := K) (pv 1) rfl) (nomark _)))))), ?_⟩
    obtain ⟨dx, t, ea, hT⟩ := id hA
    obtain ⟨dy, u, eb, hU⟩ := id hB
    refine ⟨_, rfl, .ref b, _, _, _, _, rfl, .own CM, hB.tyx T, T.kMM, _, rfl, iteT ?_⟩
    exact ⟨_, rfl, a, CM, dx, _, _, rfl, ea, T.clM, T.nE, mfl_at t, _, rfl, b, CM, dy, _, _, rfl, eb, T.clM, T.nE, mfl_at u, dtup_of hT hU, fun H' s => k H' s⟩
end
end Lw

namespace Lw
open PySem PySem.Spec PyProof.Rows L2 MG
abbrev s__law_low : Stmt := top 32
abbrev s__law_turn : Stmt := top 34
abbrev s__law_told : Stmt := top 38
abbrev s__law_pairs : Stmt := top 39
abbrev s__law_is : Stmt := top 40
abbrev s__law_entries : Stmt := top 41
abbrev s__law_shape : Stmt := top 45
abbrev s__law_dot : Stmt := top 33
abbrev s__law_times : Stmt := top 35
abbrev s__law_plus : Stmt := top 36
abbrev s__law_scale : Stmt := top 37
/-! ### the law's tables: lists of lists of ints over one bottom -/
def LL (H : Hp) (L : Addr) (r c : Nat) (A : Nat → Nat → Int) : Prop := ∃ rs, H L = some (.lst rs) ∧ rs.length = r ∧ ∀ (i : Nat) (x : V), rs[i]? = some x → ∃ p, x = .ref p ∧ H p = some (.lst (rowV c (A i)))
def PrAt (H : Hp) (t : Addr) (r c : Nat) (A : Nat → Nat → Int) (u : Int) : Prop := ∃ L, H t = some (.tup [.ref L, .int u]) ∧ LL H L r c A
theorem LL.same {H H' : Hp} {L : Addr} {r c : Nat} {A : Nat → Nat → Int} (h : LL H L r c A) (s : Same H H') : LL H' L r c A := by
  obtain ⟨rs, e, hl, hr⟩ := h
  exact ⟨rs, s _ _ e, hl, fun i x hx => (hr i x hx).elim fun p e => ⟨p, e.1, s _ _ e.2⟩⟩
theorem PrAt.same {H H' : Hp} {t : Addr} {r c : Nat} {A : Nat → Nat → Int} {u : Int} (h : PrAt H t r c A u) (s : Same H H') : PrAt H' t r c A u := h.elim fun L e => ⟨L, s _ _ e.1, e.2.same s⟩
/-- the fractions of a table -/
def qv (A : Nat → Nat → Int) (u : Int) : Nat → Nat → Rat := fun i j => Rat.divInt (A i j) u
/-- its ints are below 10 ^ k -/
structure Bn (r c : Nat) (A : Nat → Nat → Int) (u : Int) (k : Nat) : Prop where
  pos : 0 < u
  ub : u.natAbs < 10 ^ k
  ab : ∀ i j, i < r → j < c → (A i j).natAbs < 10 ^ k
theorem Bn.mono {r c : Nat} {A : Nat → Nat → Int} {u : Int} {k k' : Nat} (h : Bn r c A u k) (hk : k ≤ k') : Bn r c A u k' := by
  have := Nat.pow_le_pow_right (show 0 < 10 by decide) hk
  exact ⟨h.pos, Nat.lt_of_lt_of_le h.ub this, fun i j hi hj => Nat.lt_of_lt_of_le (h.ab i j hi hj) this⟩
theorem Bn.bds {r c : Nat} {A : Nat → Nat → Int} {u : Int} {k : Nat} (h : Bn r c A u k) : Bds r c (qv A u) k := fun i j hi hj => bd_div (by have := h.pos; omega) (h.ab i j hi hj) h.ub
/-- a new list of rows: the row list in the heap without D -/
theorem row_hid {H H2 : Hp} {D D2 : Addr} {ys : List V} {c : Nat} {g : Nat → Int} (nD : H D ≠ none) (hD2 : H D2 = none) (e : H2 D2 = some (.lst ys)) (hl : ys.length = c) (h : ∀ (j : Nat) (y : V), ys[j]? = some y → y = .int (g j)) : (hid D H2) D2 = some (.lst (rowV c g)) := by
  have n : D2 ≠ D := fun q => nD (q ▸ hD2)
  rw [hid_ne n, e]
  exact congrArg _ (congrArg _ (ints_of hl h))
/-- a row of a list of lists that is made -/
abbrev RowR (c : Nat) (A : Nat → Nat → Int) : Nat → V → Hp → Prop := fun i y G => ∃ p, y = .ref p ∧ G p = some (.lst (rowV c (A i)))
theorem rowR_same {c : Nat} {A : Nat → Nat → Int} : ∀ i y H H', RowR c A i y H → Same H H' → RowR c A i y H' := fun i y H H' ⟨p, e, h⟩ s => ⟨p, e, s _ _ h⟩
theorem ll_of {H : Hp} {D : Addr} {ys : List V} {r c : Nat} {A : Nat → Nat → Int} (e : H D = some (.lst ys)) (hl : ys.length = r) (h : ∀ (i : Nat) (y : V), ys[i]? = some y → RowR c A i y (hid D H)) : LL H D r c A :=
  ⟨ys, e, hl, fun i y hy => (h i y hy).elim fun p q => ⟨p, q.1, hid_same D H _ _ q.2⟩⟩
section
variable {P : Program} {w : World} {K : PySem.W.Frag} {mg : Str → Option Value} {base : Heap} {C CM CX : Addr}
/-! ### _law_low -/
def spLow : Sp := fun vs H Q _ => ∃ (t : Addr) (r c : Nat) (A : Nat → Nat → Int) (u : Int) (k : Nat), vs = [.ref t] ∧ PrAt H t r c A u ∧ r ≤ 1000 ∧ c ≤ 1000 ∧ Bn r c A u k ∧ k ≤ 390 ∧
  ∀ t' H' A' u', Same H H' → PrAt H' t' r c A' u' → Bn r c A' u' k → u' ∣ u → (∀ i j, i < r → j < c → qv A' u' i j = qv A u i j) → Q (.ref t') H'
theorem fdiv_dvd {g a : Int} (hg : 0 < g) (h : g ∣ a) : a = g * a.fdiv g := by
  obtain ⟨m, rfl⟩ := h
  rw [Int.mul_fdiv_cancel_left _ (by omega)]
theorem fdiv_abs {g a : Int} (hg : 0 < g) (h : g ∣ a) : (a.fdiv g).natAbs ≤ a.natAbs := by
  have e := fdiv_dvd hg h
  conv => rhs; rw [e]
  rw [Int.natAbs_mul]
  exact Nat.le_mul_of_pos_left _ (by omega)
theorem sc__law_low : FnScope ["_law_pair", "_law_both", "_law_line", "_law_cell"] ["_law_pair"] (defScope s__law_low) := ⟨rfl, rfl, rfl, by decide +kernel, rfl, by decide +kernel, by decide +kernel⟩
theorem ok_low {f : Addr} {fd : FuncData} (F : Fun K "_law_low" "_law_low" s__law_low f fd) (T : Blt mg) (c_common : CommonC P w K mg base) : FnG P w K mg base CX0 4 f fd ["_law_pair"] spLow := by
  refine fun_okG F sc__law_low (fun vs H Q E h => ?_) (fun cdv A' outer s H vs Q E bare hr h => ?_)
  · obtain ⟨t, r, c, A, u, k, rfl, _⟩ := h
    rfl
  · obtain ⟨t, r, c, A, u, k, rfl, ⟨L, ht, rs, hL, hl, hrow⟩, hr1, hc1, bn, hk, kk⟩ := h
    refine ⟨_, (pss_cons (ps_set (i := 1) sc__law_low.nd rfl (Or.inr rfl) (pe_ix (ix_tupK (K := K)) (pv 0) pe_int (fun _ _ => rfl)))
  (pss_cons (ps_for PassesOwn.never rfl (pi_listK (K := K) (pe_ix (ix_tupK (K := K)) (pv 0) pe_int (fun _ _ => rfl))) (pg_name (i := 2) sc__law_low.nd rfl (Or.inl rfl))
  (pss_one (ps_for PassesOwn.never rfl (pi_listK (K := K) (pv 2)) (pg_name (i := 3) sc__law_low.nd rfl (Or.inl rfl))
  (pss_one (ps_set (i := 1) sc__law_low.nd rfl (Or.inr rfl) (pe_cg c_common bare hr (by decide) rfl (pa_cons (pv 1) (pa_cons (pv 3) pa_nil))))))))
  (pss_one (ps_ret (pe_tup (pa_cons (pe_lcI (pe_lc (own := [("_law_line", 2)]) rfl sc__law_low.nd (pi_listK (K := K) (pe_ix (ix_tupK (K := K)) (pv 0) pe_int (fun _ _ => rfl))) (blkOk_by (N := ["_law_pair", "_law_both", "_law_line", "_law_cell"]) (sc := (defScope s__law_low)) (by decide +kernel)) (fun _ _ _ _ _ => (pg_name (i := 2) sc__law_low.nd rfl (Or.inl rfl))) (fun _ _ _ _ _ => pts_nil) (fun _ _ _ _ _ => (pe_cut (pe_lcI (pe_lc (own := [("_law_cell", 3)]) rfl sc__law_low.nd (pi_listK (K := K) (pv 2)) (blkOk_by (N := ["_law_pair", "_law_both", "_law_line", "_law_cell"]) (sc := ({ kind := .function, names := [(PySem.Str.ofString ".0", .local), (PySem.Str.ofString "_law_line", .local), (PySem.Str.ofString "_law_both", .cell)], isGenerator := false, isCoroutine := false } : Scope)) (by decide +kernel)) (fun _ _ _ _ _ => (pg_name (i := 3) sc__law_low.nd rfl (Or.inl rfl))) (fun _ _ _ _ _ => pts_nil) (fun _ _ _ _ _ => (pe_cut (pe_op op_fdivZ (pv 3) (pv 1)))))))))) (pa_cons (pe_op op_fdivZ (pe_ix (ix_tupK (K := K)) (pv 0) pe_int (fun _ _ => rfl)) (pv 1)) pa_nil))))))), ?_⟩
    refine ⟨_, rfl, t, _, _, _, rfl, rfl, SqT.of ht, rfl, ?_⟩
    -- the common divisor
    refine ⟨_, rfl, t, _, _, _, rfl, rfl, SqT.of ht, rfl, L, rfl, ⟨rs, SqL.of hL⟩, ?_⟩
    refine for_list (K := K) (a := L) (xs := rs) (fun i σ H' => H' = H ∧ ∃ (g : Int) (v2 v3 : Option V), σ = [some (.ref t), some (.int g), v2, v3] ∧ 0 < g ∧ g ∣ u ∧ ∀ k j, k < i → j < c → g ∣ A k j) ⟨rfl, u, none, none, rfl, bn.pos, ⟨1, by simp⟩, fun k j hk => absurd hk (Nat.not_lt_zero k)⟩ ?_ ?_ ?_
    · rintro i σ H' _ ⟨rfl, _⟩
      exact SqL.of hL
    · rintro i x σ H' hx ⟨rfl, g, v2, v3, rfl, hg0, hgu, hg⟩
      obtain ⟨p, rfl, hp⟩ := hrow i x hx
      refine ⟨_, rfl, p, rfl, ⟨_, SqL.of hp⟩, ?_⟩
      refine for_list (K := K) (a := p) (xs := rowV c (A i)) (fun j σ H'' => H'' = H' ∧ ∃ (g : Int) (v3 : Option V), σ = [some (.ref t), some (.int g), some (.ref p), v3] ∧ 0 < g ∧ g ∣ u ∧ (∀ k j, k < i → j < c → g ∣ A k j) ∧ ∀ m, m < j → g ∣ A i m) ⟨rfl, g, v3, rfl, hg0, hgu, hg, fun m hm => absurd hm (Nat.not_lt_zero m)⟩ ?_ ?_ ?_
      · rintro j σ H'' _ ⟨rfl, _⟩
        exact SqL.of hp
      · rintro j y σ H'' hy ⟨rfl, g, v3, rfl, hg0, hgu, hg, hgi⟩
        obtain ⟨hj, rfl⟩ := rowV_get hy
        refine ⟨_, rfl, _, rfl, g, A i j, rfl, ?_⟩
        have d1 : ((Int.gcd g (A i j) : Nat) : Int) ∣ g := Int.gcd_dvd_left g (A i j)
        have d2 : ((Int.gcd g (A i j) : Nat) : Int) ∣ A i j := Int.gcd_dvd_right g (A i j)
        refine ⟨rfl, _, _, rfl, ?_, Int.dvd_trans d1 hgu, fun k m h1 h2 => Int.dvd_trans d1 (hg k m h1 h2), fun m hm => ?_⟩
        · have := Int.gcd_pos_of_ne_zero_left (A i j) (show g ≠ 0 by omega)
          omega
        · by_cases e : m = j
          · subst e; exact d2
          · exact Int.dvd_trans d1 (hgi m (by omega))
      · rintro σ H'' ⟨rfl, g, v3, rfl, hg0, hgu, hg, hgi⟩
        refine ⟨rfl, g, _, v3, rfl, hg0, hgu, fun k m h1 h2 => ?_⟩
        by_cases e : k = i
        · subst e; exact hgi m (by rw [rowV_len]; exact h2)
        · exact hg k m (by omega) h2
    rintro σ H' ⟨rfl, g, v2, v3, rfl, hg0, hgu, hg⟩
    rw [hl] at hg
    have smg : Sm g := by
      have h1 : g ≤ u := Int.le_of_dvd bn.pos hgu
      have := bn.ub
      exact smI (k := k) (by omega) hk
    -- return ([[cell // both ..] ..], pair[1] // both)
    refine ⟨_, rfl, t, _, _, _, rfl, rfl, SqT.of ht, rfl, L, rfl, ⟨rs, SqL.of hL⟩, fun D hD => ?_⟩
    refine lc_same (walk_list (K := K) (a := L) (xs := rs)) hD (by omega) (RowR c fun i j => (A i j).fdiv g) rowR_same (fun G s => SqL.of (s _ _ hL)) yat_same (fun i x H1 H1' hi s1 nD hy => ?_) fun ys H1 hl1 s1 e1 h1 => ?_
    · obtain ⟨rfl, hx⟩ := hy
      obtain ⟨p, rfl, hp⟩ := hrow i x hx
      refine ⟨_, fun _ h => h, wipe_one, ?_⟩
      refine ⟨_, rfl, p, rfl, ⟨_, SqL.of (s1 _ _ hp)⟩, fun D2 hD2 => ?_⟩
      refine lc_same (walk_list (K := K) (a := p) (xs := rowV c (A i))) hD2 (by rw [rowV_len]; omega) (fun j y _ => y = .int ((A i j).fdiv g)) (fun _ _ _ _ h _ => h) (fun G s => SqL.of (s _ _ (s1 _ _ hp))) yat_same (fun j y H2 H2' hj s2 _ hy => ?_) fun ys2 H2 hl2 s2 e2 h2 => ?_
      · obtain ⟨rfl, hy⟩ := hy
        obtain ⟨hj, rfl⟩ := rowV_get hy
        exact ⟨_, fun _ h => h, wipe_one, _, rfl, _, rfl, _, _, rfl, rfl, sm_div smg (by omega), Same.refl _, fun _ => rfl⟩
      · exact ⟨s2, fun _ => ⟨D2, rfl, row_hid nD hD2 e2 (hl2.trans rowV_len) h2⟩⟩
    refine ⟨_, rfl, t, _, _, _, rfl, rfl, SqT.of (s1 _ _ ht), rfl, _, rfl, _, _, rfl, rfl, sm_div smg (by omega), by show 2 ≤ sizeLine; decide, fun T2 hT2 => ?_⟩
    have s2 := MG.Same.new (o := .tup [.ref D, .int (u.fdiv g)]) (Same.refl H1) hT2
    have eu := fdiv_dvd hg0 hgu
    have hu0 : 0 < u.fdiv g := by
      have := bn.pos
      rcases Int.lt_trichotomy (u.fdiv g) 0 with h | h | h
      · have := Int.mul_neg_of_pos_of_neg hg0 h
        omega
      · rw [h] at eu; omega
      · exact h
    refine kk T2 _ (fun i j => (A i j).fdiv g) (u.fdiv g) (s1.trans s2) ⟨D, upd_same, (ll_of e1 (hl1.trans hl) h1).same s2⟩ ⟨hu0, Nat.lt_of_le_of_lt (fdiv_abs hg0 hgu) bn.ub, fun i j hi hj => Nat.lt_of_le_of_lt (fdiv_abs hg0 (hg i j hi hj)) (bn.ab i j hi hj)⟩ ⟨g, by rw [Int.mul_comm]; exact eu⟩ fun i j hi hj => ?_
    have ea := fdiv_dvd hg0 (hg i j hi hj)
    show Rat.divInt ((A i j).fdiv g) (u.fdiv g) = Rat.divInt (A i j) u
    conv => rhs; rw [ea, eu]
    rw [Rat.divInt_mul_left (by omega)]
abbrev LowTC (P : Program) (w : World) (K : PySem.W.Frag) (mg : Str → Option Value) (base : Heap) : Prop := CalG P w K mg base 4 "_law_low" spLow []
/-! ### _law_turn -/
def spTurn : Sp := fun vs H Q _ => ∃ (t : Addr) (r c : Nat) (A : Nat → Nat → Int) (u : Int), vs = [.ref t] ∧ PrAt H t r c A u ∧ 0 < r ∧ r ≤ 1000 ∧ c ≤ 1000 ∧ ∀ t' H', Same H H' → PrAt H' t' c r (fun i j => A j i) u → Q (.ref t') H'
theorem sc__law_turn : FnScope ["_law_one", "_law_j", "_law_line"] ["_law_one"] (defScope s__law_turn) := ⟨rfl, rfl, rfl, by decide +kernel, rfl, by decide +kernel, by decide +kernel⟩
theorem ok_turn {f : Addr} {fd : FuncData} (F : Fun K "_law_turn" "_law_turn" s__law_turn f fd) (T : Blt mg) : FnG P w K mg base CX0 2 f fd ["_law_one"] spTurn := by
  refine fun_okG F sc__law_turn (fun vs H Q E h => ?_) (fun cdv A' outer s H vs Q E bare hr h => ?_)
  · obtain ⟨t, r, c, A, u, rfl, _⟩ := h
    rfl
  · obtain ⟨t, r, c, A, u, rfl, ⟨L, ht, rs, hL, hl, hrow⟩, hr0, hr1, hc1, k⟩ := h
    refine ⟨_, (pss_one (ps_ret (pe_tup (pa_cons (pe_lcI (pe_lc (own := [("_law_j", 1)]) rfl sc__law_turn.nd (pi_range1 (by rfl) T.b_range (pa_cons (pe_callB (id := "len") (call_len_seqK (K := K)) (by rfl) T.b_len (by decide +kernel) (pa_cons (pe_ix (ix_listK (K := K)) (pe_ix (ix_tupK (K := K)) (pv 0) pe_int (fun _ _ => rfl)) pe_int (fun _ _ => rfl)) pa_nil)) pa_nil)) (blkOk_by (N := ["_law_one", "_law_j", "_law_line"]) (sc := (defScope s__law_turn)) (by decide +kernel)) (fun _ _ _ _ _ => (pg_name (i := 1) sc__law_turn.nd rfl (Or.inr rfl))) (fun _ _ _ _ _ => pts_nil) (fun _ _ _ _ _ => (pe_cut (pe_lcI (pe_lc (own := [("_law_line", 2)]) rfl sc__law_turn.nd (pi_listK (K := K) (pe_ix (ix_tupK (K := K)) (pv 0) pe_int (fun _ _ => rfl))) (blkOk_by (N := ["_law_one", "_law_j", "_law_line"]) (sc := ({ kind := .function, names := [(PySem.Str.ofString ".0", .local), (PySem.Str.ofString "_law_j", .cell), (PySem.Str.ofString "_law_one", .cell)], isGenerator := false, isCoroutine := false } : Scope)) (by decide +kernel)) (fun _ _ _ _ _ => (pg_name (i := 2) sc__law_turn.nd rfl (Or.inl rfl))) (fun _ _ _ _ _ => pts_nil) (fun _ _ _ _ _ => (pe_cut (pe_ix (ix_listK (K := K)) (pv 2) (pv 1) (fun _ _ => rfl)))))))))) (pa_cons (pe_ix (ix_tupK (K := K)) (pv 0) pe_int (fun _ _ => rfl)) pa_nil))))), ?_⟩
    have h0 : rs[0]? = some rs[0] := List.getElem?_eq_getElem (by omega)
    obtain ⟨p0, e0, hp0⟩ := hrow 0 _ h0
    refine ⟨_, rfl, t, _, _, _, rfl, rfl, SqT.of ht, rfl, L, _, _, _, rfl, rfl, SqL.of hL, atI_nat h0, p0, _, e0 ▸ rfl, .inl (SqL.of hp0), ((rowV c (A 0)).length : Int), rfl, ?_, ?_, fun D hD => ?_⟩
    · rw [rowV_len]; omega
    · rw [rowV_len]; omega
    have hc0 : (((rowV c (A 0)).length : Nat) : Int).toNat = c := by rw [rowV_len]; omega
    rw [hc0]
    refine lc_same (walk_range (lo := 0) (n := c)) hD (by omega) (RowR r fun i j => A j i) rowR_same (fun G s => trivial) yfn_same (fun m y H1 H1' hm s1 nD hy => ?_) fun ys H1 hl1 s1 e1 h1 => ?_
    · obtain ⟨rfl, rfl⟩ := hy
      refine ⟨_, fun _ h => h, wipe_one, ?_⟩
      refine ⟨_, rfl, t, _, _, _, rfl, rfl, SqT.of (s1 _ _ ht), rfl, L, rfl, ⟨rs, SqL.of (s1 _ _ hL)⟩, fun D2 hD2 => ?_⟩
      refine lc_same (walk_list (K := K) (a := L) (xs := rs)) hD2 (by omega) (fun j y _ => y = .int (A j m)) (fun _ _ _ _ h _ => h) (fun G s => SqL.of (s _ _ (s1 _ _ hL))) yat_same (fun j x H2 H2' hj s2 _ hy => ?_) fun ys2 H2 hl2 s2 e2 h2 => ?_
      · obtain ⟨rfl, hx⟩ := hy
        obtain ⟨p, rfl, hp⟩ := hrow j x hx
        have ei : V.int (0 + (m : Int)) = V.int (m : Int) := by rw [Int.zero_add]
        exact ⟨_, fun _ h => h, wipe_one, _, rfl, _, rfl, p, _, _, _, rfl, ei, SqL.of (s2 _ _ (s1 _ _ hp)), atI_nat (rowV_at hm), Same.refl _, fun _ => rfl⟩
      · exact ⟨s2, fun _ => ⟨D2, rfl, row_hid nD hD2 e2 (hl2.trans hl) h2⟩⟩
    refine ⟨_, rfl, t, _, _, _, rfl, rfl, SqT.of (s1 _ _ ht), rfl, by show 2 ≤ sizeLine; decide, fun T2 hT2 => ?_⟩
    have s2 := MG.Same.new (o := .tup [.ref D, .int u]) (Same.refl H1) hT2
    exact k T2 _ (s1.trans s2) ⟨D, upd_same, (ll_of e1 hl1 h1).same s2⟩
abbrev TurnC (P : Program) (w : World) (K : PySem.W.Frag) (mg : Str → Option Value) (base : Heap) : Prop := CalG P w K mg base 2 "_law_turn" spTurn []
/-! ### _law_pairs -/
def spPairs (K : PySem.W.Frag) : Sp := fun vs H Q _ => ∃ (t : Addr) (r c : Nat) (A : Nat → Nat → Int) (u : Int), vs = [.ref t] ∧ PrAt H t r c A u ∧ r ≤ 1000 ∧ c ≤ 1000 ∧ u ≠ 0 ∧ Sm u ∧ ∀ D H', Same H H' → Dp K H' (.ref D) (tabD r c (qv A u)) → Q (.ref D) H'
theorem pr_dp {H : Hp} {T : Addr} {p : Rat} (e : H T = some (.tup [.int p.num, .int p.den])) : Dp K H (.ref T) (prD p) := .tup (SqT.of e) (.cons (.int _) (.cons (.int _) .nil))
theorem sc__law_pairs : FnScope ["_law_pair", "_law_line", "_law_cell"] ["_law_pair"] (defScope s__law_pairs) := ⟨rfl, rfl, rfl, by decide +kernel, rfl, by decide +kernel, by decide +kernel⟩
theorem ok_pairs {f : Addr} {fd : FuncData} (F : Fun K "_law_pairs" "_law_pairs" s__law_pairs f fd) (T : Blt mg) (c_lowest : CalG P w K mg base 4 "_law_lowest" spLowest []) : FnG P w K mg base CX0 6 f fd ["_law_pair"] (spPairs K) := by
  refine fun_okG F sc__law_pairs (fun vs H Q E h => ?_) (fun cdv A' outer s H vs Q E bare hr h => ?_)
  · obtain ⟨t, r, c, A, u, rfl, _⟩ := h
    rfl
  · obtain ⟨t, r, c, A, u, rfl, ⟨L, ht, rs, hL, hl, hrow⟩, hr1, hc1, hu, su, k⟩ := h
    refine ⟨_, (pss_one (ps_ret (pe_lcI (pe_lc (own := [("_law_line", 1)]) rfl sc__law_pairs.nd (pi_listK (K := K) (pe_ix (ix_tupK (K := K)) (pv 0) pe_int (fun _ _ => rfl))) (blkOk_by (N := ["_law_pair", "_law_line", "_law_cell"]) (sc := (defScope s__law_pairs)) (by decide +kernel)) (fun _ _ _ _ _ => (pg_name (i := 1) sc__law_pairs.nd rfl (Or.inl rfl))) (fun _ _ _ _ _ => pts_nil) (fun _ _ _ _ _ => (pe_cut (pe_lcI (pe_lc (own := [("_law_cell", 2)]) rfl sc__law_pairs.nd (pi_listK (K := K) (pv 1)) (blkOk_by (N := ["_law_pair", "_law_line", "_law_cell"]) (sc := ({ kind := .function, names := [(PySem.Str.ofString ".0", .local), (PySem.Str.ofString "_law_line", .local), (PySem.Str.ofString "_law_pair", .cell)], isGenerator := false, isCoroutine := false } : Scope)) (by decide +kernel)) (fun _ _ _ _ _ => (pg_name (i := 2) sc__law_pairs.nd rfl (Or.inl rfl))) (fun _ _ _ _ _ => pts_nil) (fun _ _ _ _ _ => (pe_cut (pe_cg c_lowest bare hr (by decide) rfl (pa_cons (pv 2) (pa_cons (pe_ix (ix_tupK (K := K)) (pv 0) pe_int (fun _ _ => rfl)) pa_nil))))))))))))), ?_⟩
    refine ⟨_, rfl, t, _, _, _, rfl, rfl, SqT.of ht, rfl, L, rfl, ⟨rs, SqL.of hL⟩, fun D hD => ?_⟩
    refine lc_same (walk_list (K := K) (a := L) (xs := rs)) hD (by omega) (fun i y G => Dp K G y (rowD c (qv A u i))) (fun i y G G' h s => MG.Dp.same s h) (fun G s => SqL.of (s _ _ hL)) yat_same (fun i x H1 H1' hi s1 nD hy => ?_) fun ys H1 hl1 s1 e1 h1 => ?_
    · obtain ⟨rfl, hx⟩ := hy
      obtain ⟨p, rfl, hp⟩ := hrow i x hx
      refine ⟨_, fun _ h => h, wipe_one, ?_⟩
      refine ⟨_, rfl, p, rfl, ⟨_, SqL.of (s1 _ _ hp)⟩, fun D2 hD2 => ?_⟩
      refine lc_same (walk_list (K := K) (a := p) (xs := rowV c (A i))) hD2 (by rw [rowV_len]; omega) (fun j y G => ∃ T, y = .ref T ∧ G T = some (.tup [.int (qv A u i j).num, .int (qv A u i j).den])) (fun j y G G' ⟨T, e, h⟩ s => ⟨T, e, s _ _ h⟩) (fun G s => SqL.of (s _ _ (s1 _ _ hp))) yat_same (fun j y H2 H2' hj s2 _ hy => ?_) fun ys2 H2 hl2 s2 e2 h2 => ?_
      · obtain ⟨rfl, hy⟩ := hy
        obtain ⟨hj, rfl⟩ := rowV_get hy
        refine ⟨_, fun _ h => h, wipe_one, ?_⟩
        exact ⟨_, rfl, _, rfl, t, _, _, _, rfl, rfl, SqT.of (s2 _ _ (s1 _ _ ht)), rfl, _, _, rfl, hu, su, fun T2 hT2 => ⟨MG.Same.new (Same.refl _) hT2, fun ⟨l, hl⟩ => ⟨T2, rfl, by rw [hid_ne (ne_of upd_same hl (by intro z; cases z))]; exact upd_same⟩⟩⟩
      · refine ⟨s2, fun ⟨l, hl⟩ => ?_⟩
        have n : D2 ≠ D := fun q => nD (q ▸ hD2)
        have e3 : (hid D H2) D2 = some (.lst ys2) := by rw [hid_ne n]; exact e2
        refine dp_row e3 (hl2.trans rowV_len) fun j y hy => ?_
        obtain ⟨T2, rfl, h⟩ := h2 j y hy
        have h' := hid_same D2 H2 _ _ h
        exact pr_dp (by rw [hid_ne (ne_of h' hl (by intro z; cases z))]; exact h')
    exact k D H1 s1 (dp_row e1 (hl1.trans hl) fun i y hy => MG.Dp.same (hid_same D H1) (h1 i y hy))
abbrev PairsC (P : Program) (w : World) (K : PySem.W.Frag) (mg : Str → Option Value) (base : Heap) : Prop := CalG P w K mg base 6 "_law_pairs" (spPairs K) []
/-! ### _law_told -/
def spTold (K : PySem.W.Frag) (C CM : Addr) : Sp := fun vs H Q _ => ∃ (m : Addr) (r c : Nat) (f : Nat → Nat → Rat), vs = [.ref m] ∧ MtAt C CM H m r c f ∧ r ≤ 1000 ∧ c ≤ 1000 ∧ ∀ D H', Same H H' → Dp K H' (.ref D) (tabD r c f) → Q (.ref D) H'
theorem sc__law_told : FnScope ["_law_matrix", "_law_lines", "_law_line", "_law_found", "_law_cell"] ["_law_matrix"] (defScope s__law_told) := ⟨rfl, rfl, rfl, by decide +kernel, rfl, by decide +kernel, by decide +kernel⟩
theorem ok_told {f : Addr} {fd : FuncData} (F : Fun K "_law_told" "_law_told" s__law_told f fd) (T : TxM K mg C CM) (pm_entries : EntriesC P w K mg base CM) (p_top : PropF P w K mg base 2 C "top" (spTop C)) (p_bottom : PropF P w K mg base 2 C "bottom" (spBottom C)) : FnG P w K mg base CX0 6 f fd ["_law_matrix"] (spTold K C CM) := by
  refine fun_okG F sc__law_told (fun vs H Q E h => ?_) (fun cdv A' outer s H vs Q E bare hr h => ?_)
  · obtain ⟨m, r, c, f, rfl, _⟩ := h
    rfl
  · obtain ⟨m, r, c, f, rfl, ⟨dx, t, em, rs, ht, hl, hrow⟩, hr1, hc1, k⟩ := h
    refine ⟨_, (pss_cons (ps_set (i := 1) sc__law_told.nd rfl (Or.inl rfl) (pe_pf pm_entries T.clM hr (by decide) (pv 0) rfl))
  (pss_cons (ps_if (PW.pt (pw_or (pt_not (pt_val (pe_callB (id := "isinstance") (call_isiK (K := K)) (by rfl) T.b_isinstance (by decide +kernel) (pa_cons (pv 1) (pa_cons (pe_bltn (v := V.ty "tuple") (u := Value.type "tuple") (by rfl) T.b_tuple (by decide +kernel) rfl) pa_nil))))) (pw_or1 (pt_not (pt_val (pe_callB (id := "all") (cr_allK (K := K) rfl) (by rfl) T.b_all (by decide +kernel) (pa_cons (pe_lcI (pe_lc (own := [("_law_line", 2)]) rfl sc__law_told.nd (pi_tupK (K := K) (pv 1)) (blkOk_by (N := ["_law_matrix", "_law_lines", "_law_line", "_law_found", "_law_cell"]) (sc := (defScope s__law_told)) (by decide +kernel)) (fun _ _ _ _ _ => (pg_name (i := 2) sc__law_told.nd rfl (Or.inl rfl))) (fun _ _ _ _ _ => pts_nil) (fun _ _ _ _ _ => (pe_cut (pe_callB (id := "isinstance") (call_isiK (K := K)) (by rfl) T.b_isinstance (by decide +kernel) (pa_cons (pv 2) (pa_cons (pe_bltn (v := V.ty "tuple") (u := Value.type "tuple") (by rfl) T.b_tuple (by decide +kernel) rfl) pa_nil))))))) pa_nil))))))) (pss_one (ps_ret pe_non))
  pss_nil)
  (pss_cons (ps_set (i := 3) sc__law_told.nd rfl (Or.inl rfl) (pe_lst pa_nil))
  (pss_cons (ps_for PassesOwn.never rfl (pi_tupK (K := K) (pv 1)) (pg_name (i := 2) sc__law_told.nd rfl (Or.inl rfl))
  (pss_cons (ps_if (pt_not (pt_val (pe_callB (id := "all") (cr_allK (K := K) rfl) (by rfl) T.b_all (by decide +kernel) (pa_cons (pe_lcI (pe_lc (own := [("_law_cell", 4)]) rfl sc__law_told.nd (pi_tupK (K := K) (pv 2)) (blkOk_by (N := ["_law_matrix", "_law_lines", "_law_line", "_law_found", "_law_cell"]) (sc := (defScope s__law_told)) (by decide +kernel)) (fun _ _ _ _ _ => (pg_name (i := 4) sc__law_told.nd rfl (Or.inl rfl))) (fun _ _ _ _ _ => pts_nil) (fun _ _ _ _ _ => (pe_cut (pe_callB (id := "isinstance") (call_isiK (K := K)) (by rfl) T.b_isinstance (by decide +kernel) (pa_cons (pv 4) (pa_cons (pe_glob (v := V.ref C) rfl T.g_Ratio rfl) pa_nil))))))) pa_nil)))) (pss_one (ps_ret pe_non))
  pss_nil)
  (pss_one (ps_expr (pe_bm PySem.F.plainAttrs_list PySem.F.slot_list_append PySem.F.type_list_append mt_append (pv 3) (pa_cons (pe_lcI (pe_lc (own := [("_law_cell", 4)]) rfl sc__law_told.nd (pi_tupK (K := K) (pv 2)) (blkOk_by (N := ["_law_matrix", "_law_lines", "_law_line", "_law_found", "_law_cell"]) (sc := (defScope s__law_told)) (by decide +kernel)) (fun _ _ _ _ _ => (pg_name (i := 4) sc__law_told.nd rfl (Or.inl rfl))) (fun _ _ _ _ _ => pts_nil) (fun _ _ _ _ _ => (pe_cut (pe_tup (pa_cons (pe_pf p_top T.cl hr (by decide) (pv 4) rfl) (pa_cons (pe_pf p_bottom T.cl hr (by decide) (pv 4) rfl) pa_nil))))))) pa_nil))))))
  (pss_one (ps_ret (pv 3))))))), ?_⟩
    refine ⟨_, rfl, m, dx, _, rfl, em, m, dx, t, rfl, em, ?_⟩
    -- if not isinstance(lines, tuple) or not all(..)
    refine ⟨_, rfl, .ref t, _, _, _, true, rfl, .ty "tuple", .base (.tup ht), kit_ty (by decide +kernel), _, rfl, iteF ?_⟩
    refine ⟨_, rfl, t, rfl, ⟨rs, SqT.of ht⟩, fun D hD => ?_⟩
    refine lc_same (walk_tup (K := K) (a := t) (xs := rs)) hD (by omega) (fun _ y _ => y = .bl true) (fun _ _ _ _ e _ => e) (fun H' s' => SqT.of (s' _ _ ht)) yat_same (fun i x H1 H1' hi s1 _ hy => ?_) fun ys H1 hl1 s1 e1 h1 => ?_
    · obtain ⟨rfl, hx⟩ := hy
      obtain ⟨p, xs, rfl, hp, hxl, _⟩ := hrow i x hx
      exact ⟨_, fun _ h => h, wipe_one, _, rfl, .ref p, _, _, _, _, rfl, .ty "tuple", .base (.tup (s1 _ _ hp)), kit_ty (by decide +kernel), Same.refl _, fun _ => rfl⟩
    obtain ⟨bs, hb, ab⟩ := all_bl (K := K) e1 h1
    refine ⟨D, bs, rfl, hb, _, rfl, ifF (by rw [ab]; rfl) ?_⟩
    -- found = []
    refine ⟨by show 0 ≤ sizeLine; decide, fun F0 hF0 => ?_⟩
    have sF : Same H (upd H1 F0 (.lst [])) := MG.Same.new s1 hF0
    have fF : H F0 = none := s1.free hF0
    refine ⟨_, rfl, t, rfl, ⟨rs, SqT.of (sF _ _ ht)⟩, ?_⟩
    refine for_tup (K := K) (a := t) (xs := rs) (fun i σ H' => Same H (hid F0 H') ∧ ∃ (ds : List V) (v2 v4 : Option V), σ = [some (.ref m), some (.ref t), v2, some (.ref F0), v4] ∧ H' F0 = some (.lst ds) ∧ ds.length = i ∧ ∀ (k : Nat) (y : V), ds[k]? = some y → Dp K (hid F0 H') y (rowD c (f k))) ⟨(hid_none fF).trans (hid_mono sF), [], none, none, rfl, upd_same, rfl, fun k y h => by simp at h⟩ ?_ ?_ ?_
    · rintro i σ H' _ ⟨s', _⟩
      exact SqT.of (hid_same F0 H' _ _ (s' _ _ ht))
    · rintro i x σ H' hx ⟨s', ds, v2, v4, rfl, eF, hdl, hds⟩
      have sH := s'.trans (hid_same F0 H')
      obtain ⟨p, xs, rfl, hp, hxl, hc⟩ := (hrow i x hx).same (rc_mono C) sH
      -- if not all([isinstance(cell, Ratio) ..])
      refine ⟨_, rfl, p, rfl, ⟨xs, SqT.of hp⟩, fun D2 hD2 => ?_⟩
      refine lc_same (walk_tup (K := K) (a := p) (xs := xs)) hD2 (by omega) (fun _ y _ => y = .bl true) (fun _ _ _ _ e _ => e) (fun H' s' => SqT.of (s' _ _ hp)) yat_same (fun j y H2 H2' hj s2 _ hy => ?_) fun ys2 H2 hl2 s2 e2 h2 => ?_
      · obtain ⟨rfl, hy⟩ := hy
        obtain ⟨b, rfl, hb⟩ := hc j y hy
        exact ⟨_, fun _ h => h, wipe_one, _, rfl, .ref b, _, _, _, _, rfl, .own C, (hb.same s2).tyx T.toTxR, T.kC, Same.refl _, fun _ => rfl⟩
      obtain ⟨bs2, hb2, ab2⟩ := all_bl (K := K) e2 h2
      refine ⟨D2, bs2, rfl, hb2, _, rfl, ifF (by rw [ab2]; rfl) ?_⟩
      -- found.append([(cell.top, cell.bottom) ..])
      have eF2 := s2 _ _ eF
      refine ⟨_, rfl, .inl ⟨rfl, ds, SqL.of eF2⟩, ?_⟩
      refine ⟨_, rfl, p, rfl, ⟨xs, SqT.of (s2 _ _ hp)⟩, fun D3 hD3 => ?_⟩
      refine lc_same (walk_tup (K := K) (a := p) (xs := xs)) hD3 (by omega) (fun j y G => ∃ T, y = .ref T ∧ G T = some (.tup [.int (f i j).num, .int (f i j).den])) (fun j y G G' ⟨T, e, h⟩ s => ⟨T, e, s _ _ h⟩) (fun H' s' => SqT.of (s' _ _ (s2 _ _ hp))) yat_same (fun j y H3 H3' hj s3 _ hy => ?_) fun ys3 H3 hl3 s3 e3 h3 => ?_
      · obtain ⟨rfl, hy⟩ := hy
        obtain ⟨b, rfl, hb⟩ := hc j y hy
        have hb3 := (hb.same s2).same s3
        obtain ⟨d1, e1⟩ := id hb3
        refine ⟨_, fun _ h => h, wipe_one, ?_⟩
        exact ⟨_, rfl, b, d1, _, rfl, e1, b, f i j, rfl, hb3, _, rfl, b, d1, _, rfl, e1, b, f i j, rfl, hb3, by show 2 ≤ sizeLine; decide, fun T2 hT2 => ⟨MG.Same.new (Same.refl _) hT2, fun ⟨l, hl⟩ => ⟨T2, rfl, by rw [hid_ne (ne_of upd_same hl (by intro z; cases z))]; exact upd_same⟩⟩⟩
      have eF3 := s3 _ _ eF2
      have n3 : D3 ≠ F0 := fun q => by rw [q, eF2] at hD3; cases hD3
      refine ⟨F0, ds, _, rfl, rfl, eF3, Nat.lt_of_le_of_lt (m := 1000) (by have := (List.getElem?_eq_some_iff.mp hx).1; omega) (by decide), ?_⟩
      have sh : Same (hid F0 H') (hid F0 (upd H3 F0 (.lst (ds ++ [.ref D3])))) := by rw [hid_upd]; exact hid_mono (s2.trans s3)
      refine ⟨s'.trans sh, ds ++ [.ref D3], _, _, rfl, upd_same, by simp [hdl], fun n y hy => ?_⟩
      by_cases hn : n < ds.length
      · rw [List.getElem?_append_left hn] at hy
        exact MG.Dp.same sh (hds n y hy)
      · rw [List.getElem?_append_right (by omega)] at hy
        have ey : y = .ref D3 := by simpa using List.mem_of_getElem? hy
        have en : n = i := by
          have := (List.getElem?_eq_some_iff.mp hy).1
          simp at this
          omega
        rw [ey, en]
        have e4 : (hid F0 (upd H3 F0 (.lst (ds ++ [.ref D3])))) D3 = some (.lst ys3) := by rw [hid_upd, hid_ne n3]; exact e3
        refine dp_row e4 (hl3.trans hxl) fun j y hy => ?_
        obtain ⟨T2, rfl, h⟩ := h3 j y hy
        have h' := hid_same D3 H3 _ _ h
        exact pr_dp (by rw [hid_upd, hid_ne (ne_of h' eF3 (by intro z; cases z))]; exact h')
    · rintro σ H' ⟨s', ds, v2, v4, rfl, eF, hdl, hds⟩
      exact ⟨_, rfl, k F0 H' (s'.trans (hid_same F0 H')) (dp_row eF (hdl.trans hl) fun i y hy => MG.Dp.same (hid_same F0 H') (hds i y hy))⟩
abbrev ToldC (P : Program) (w : World) (K : PySem.W.Frag) (mg : Str → Option Value) (base : Heap) (C CM : Addr) : Prop := CalG P w K mg base 6 "_law_told" (spTold K C CM) []
end
end Lw

namespace Lw
open PySem PySem.Spec PyProof.Rows L2 MG
section
variable {P : Program} {w : World} {K : PySem.W.Frag} {mg : Str → Option Value} {base : Heap} {C CM CX : Addr}
/-! ### _law_is -/
def spIs (C CM : Addr) : Sp := fun vs H Q _ => ∃ (m t : Addr) (r c : Nat) (f : Nat → Nat → Rat) (A : Nat → Nat → Int) (u : Int), vs = [.ref m, .ref t] ∧ MtAt C CM H m r c f ∧ PrAt H t r c A u ∧ r ≤ 60 ∧ c ≤ 60 ∧ u ≠ 0 ∧ Sm u ∧ Bds r c f 390 ∧ (∀ i j, i < r → j < c → f i j = qv A u i j) ∧ ∀ H', Same H H' → Q (.bl true) H'
theorem sc__law_is : FnScope ["_law_matrix", "_law_pair"] ["_law_matrix", "_law_pair"] (defScope s__law_is) := ⟨rfl, rfl, rfl, by decide +kernel, rfl, by decide +kernel, by decide +kernel⟩
theorem ok_is {f : Addr} {fd : FuncData} (F : Fun K "_law_is" "_law_is" s__law_is f fd) (T : TxM K mg C CM) (c_told : ToldC P w K mg base C CM) (c_pairs : PairsC P w K mg base) : FnG P w K mg base CX0 8 f fd ["_law_matrix", "_law_pair"] (spIs C CM) := by
  refine fun_okG F sc__law_is (fun vs H Q E h => ?_) (fun cdv A' outer s H vs Q E bare hr h => ?_)
  · obtain ⟨m, t, r, c, f, A, u, rfl, _⟩ := h
    rfl
  · obtain ⟨m, t, r, c, f, A, u, rfl, hM, hP, hr1, hc1, hu, su, bd, hf, k⟩ := h
    have hu64 := hr.units
    refine ⟨_, (pss_cons (ps_if (pt_not (pt_val (pe_callB (id := "isinstance") (call_isiK (K := K)) (by rfl) T.b_isinstance (by decide +kernel) (pa_cons (pv 0) (pa_cons (pe_glob (v := V.ref CM) rfl T.g_Matrix rfl) pa_nil))))) (pss_one (ps_ret pe_bl))
  pss_nil)
  (pss_one (ps_ret (pe_cmpR op_eq (pe_callB (id := "repr") (call_reprK (K := K) bare hu64) (by rfl) T.b_repr (by decide +kernel) (pa_cons (pe_cg c_told bare hr (by decide) rfl (pa_cons (pv 0) pa_nil)) pa_nil)) (pe_callB (id := "repr") (call_reprK (K := K) bare hu64) (by rfl) T.b_repr (by decide +kernel) (pa_cons (pe_cg c_pairs bare hr (by decide) rfl (pa_cons (pv 1) pa_nil)) pa_nil)) (nomark _))))), ?_⟩
    refine ⟨_, rfl, .ref m, _, _, _, _, rfl, .own CM, hM.tyx T, T.kMM, _, rfl, iteF ?_⟩
    refine ⟨_, rfl, m, r, c, f, rfl, hM, by omega, by omega, fun D H1 s1 h1 => ?_⟩
    have ok1 := okd_tab (m := 60) (n := 60) hr1 hc1 (by decide) bd
    refine ⟨.ref D, _, rfl, h1, ok1.sh, ok1.nd, Nat.le_trans ok1.dp (by decide), Nat.le_trans ok1.ln (by decide), ?_⟩
    refine ⟨_, rfl, t, r, c, A, u, rfl, hP.same s1, by omega, by omega, hu, su, fun D2 H2 s2 h2 => ?_⟩
    have e := tabD_congr hf
    rw [← e] at h2
    refine ⟨.ref D2, _, rfl, h2, ok1.sh, ok1.nd, Nat.le_trans ok1.dp (by decide), Nat.le_trans ok1.ln (by decide), rfl, ?_⟩
    rw [decide_eq_true rfl]
    exact k H2 (s1.trans s2)
abbrev IsC (P : Program) (w : World) (K : PySem.W.Frag) (mg : Str → Option Value) (base : Heap) (C CM : Addr) : Prop := CalG P w K mg base 8 "_law_is" (spIs C CM) []
/-! ### _law_entries -/
def spEnt (C : Addr) : Sp := fun vs H Q _ => ∃ (t : Addr) (r c : Nat) (A : Nat → Nat → Int) (u : Int), vs = [.ref t] ∧ PrAt H t r c A u ∧ r ≤ 1000 ∧ c ≤ 1000 ∧ u ≠ 0 ∧ Sm u ∧ ∀ p H', Same H H' → Tb (RC C) H' p r c (qv A u) → Q (.ref p) H'
theorem sc__law_entries : FnScope ["_law_pair", "_law_line", "_law_cell"] ["_law_pair"] (defScope s__law_entries) := ⟨rfl, rfl, rfl, by decide +kernel, rfl, by decide +kernel, by decide +kernel⟩
theorem ok_ent {f : Addr} {fd : FuncData} (F : Fun K "_law_entries" "_law_entries" s__law_entries f fd) (T : TxM K mg C CM) (m_rat2 : Rat2C P w K mg base C) : FnG P w K mg base CX0 6 f fd ["_law_pair"] (spEnt C) := by
  refine fun_okG F sc__law_entries (fun vs H Q E h => ?_) (fun cdv A' outer s H vs Q E bare hr h => ?_)
  · obtain ⟨t, r, c, A, u, rfl, _⟩ := h
    rfl
  · obtain ⟨t, r, c, A, u, rfl, ⟨L, ht, rs, hL, hl, hrow⟩, hr1, hc1, hu, su, k⟩ := h
    refine ⟨_, (pss_one (ps_ret (pe_callTy (call_tuple_ofK (K := K)) (by rfl) T.b_tuple (by decide +kernel) (pa_cons (pe_lcI (pe_lc (own := [("_law_line", 1)]) rfl sc__law_entries.nd (pi_listK (K := K) (pe_ix (ix_tupK (K := K)) (pv 0) pe_int (fun _ _ => rfl))) (blkOk_by (N := ["_law_pair", "_law_line", "_law_cell"]) (sc := (defScope s__law_entries)) (by decide +kernel)) (fun _ _ _ _ _ => (pg_name (i := 1) sc__law_entries.nd rfl (Or.inl rfl))) (fun _ _ _ _ _ => pts_nil) (fun _ _ _ _ _ => (pe_cut (pe_callTy (call_tuple_ofK (K := K)) (by rfl) T.b_tuple (by decide +kernel) (pa_cons (pe_lcI (pe_lc (own := [("_law_cell", 2)]) rfl sc__law_entries.nd (pi_listK (K := K) (pv 1)) (blkOk_by (N := ["_law_pair", "_law_line", "_law_cell"]) (sc := ({ kind := .function, names := [(PySem.Str.ofString ".0", .local), (PySem.Str.ofString "_law_line", .local), (PySem.Str.ofString "tuple", .globalImplicit), (PySem.Str.ofString "_law_pair", .cell)], isGenerator := false, isCoroutine := false } : Scope)) (by decide +kernel)) (fun _ _ _ _ _ => (pg_name (i := 2) sc__law_entries.nd rfl (Or.inl rfl))) (fun _ _ _ _ _ => pts_nil) (fun _ _ _ _ _ => (pe_cut (pe_mkf m_rat2 hr (by decide) rfl (pa_cons (pv 2) (pa_cons (pe_ix (ix_tupK (K := K)) (pv 0) pe_int (fun _ _ => rfl)) pa_nil))))))) pa_nil)))))) pa_nil)))), ?_⟩
    refine ⟨_, rfl, t, _, _, _, rfl, rfl, SqT.of ht, rfl, L, rfl, ⟨rs, SqL.of hL⟩, fun D hD => ?_⟩
    refine lc_same (walk_list (K := K) (a := L) (xs := rs)) hD (by omega) (fun i y G => Rw (RC C) G y c (qv A u i)) (fun i y G G' h s => h.same (rc_mono C) s) (fun G s => SqL.of (s _ _ hL)) yat_same (fun i x H1 H1' hi s1 nD hy => ?_) fun ys H1 hl1 s1 e1 h1 => ?_
    · obtain ⟨rfl, hx⟩ := hy
      obtain ⟨p, rfl, hp⟩ := hrow i x hx
      refine ⟨_, fun _ h => h, wipe_one, ?_⟩
      refine ⟨_, rfl, p, rfl, ⟨_, SqL.of (s1 _ _ hp)⟩, fun D2 hD2 => ?_⟩
      refine lc_same (walk_list (K := K) (a := p) (xs := rowV c (A i))) hD2 (by rw [rowV_len]; omega) (fun j y G => RC C G y (qv A u i j)) (fun j y G G' h s => (rc_mono C).same h s) (fun G s => SqL.of (s _ _ (s1 _ _ hp))) yat_same (fun j y H2 H2' hj s2 _ hy => ?_) fun ys2 H2 hl2 s2 e2 h2 => ?_
      · obtain ⟨rfl, hy⟩ := hy
        obtain ⟨hj, rfl⟩ := rowV_get hy
        refine ⟨_, fun _ h => h, wipe_one, ?_⟩
        refine ⟨_, rfl, _, rfl, t, _, _, _, rfl, rfl, SqT.of (s2 _ _ (s1 _ _ ht)), rfl, ?_⟩
        exact make_rat (Q := fun y H4 => Same H2' H4 ∧ ((∃ l, H4 D2 = some (.lst l)) → RC C (hid D2 H4) y (qv A u i j))) hu su fun r' H6 _ s6 h6 => ⟨s6, fun ⟨l, hl⟩ => (rc_mono C).hid ⟨r', rfl, h6⟩ hl⟩
      · refine ⟨D2, ys2, rfl, .inl ⟨SqL.of e2, fun T2 hT2 => ⟨MG.Same.new s2 hT2, fun ⟨l, hl⟩ => ?_⟩⟩⟩
        exact (rw_new (rc_mono C) (hid_same D2 H2) hT2 (hl2.trans rowV_len) h2).hid (rc_mono C) hl
    refine ⟨D, ys, rfl, .inl ⟨SqL.of e1, fun T7 hT7 => ?_⟩⟩
    exact k T7 _ (MG.Same.new s1 hT7) (tb_new (rc_mono C) (hid_same D H1) hT7 (hl1.trans hl) h1)
abbrev EntC (P : Program) (w : World) (K : PySem.W.Frag) (mg : Str → Option Value) (base : Heap) (C : Addr) : Prop := CalG P w K mg base 6 "_law_entries" (spEnt C) []
/-! ### _law_shape -/
def spShape : Sp := fun vs H Q _ => ∃ (t : Addr) (r c : Nat) (A : Nat → Nat → Int) (u : Int), vs = [.ref t] ∧ PrAt H t r c A u ∧ 0 < r ∧ ∀ p, H p = none → Q (.ref p) (upd H p (.tup [.int r, .int c]))
theorem sc__law_shape : FnScope ["_law_pair"] ["_law_pair"] (defScope s__law_shape) := ⟨rfl, rfl, rfl, by decide +kernel, rfl, by decide +kernel, by decide +kernel⟩
theorem ok_shape {f : Addr} {fd : FuncData} (F : Fun K "_law_shape" "_law_shape" s__law_shape f fd) (T : Blt mg) : FnG P w K mg base CX0 2 f fd ["_law_pair"] spShape := by
  refine fun_okG F sc__law_shape (fun vs H Q E h => ?_) (fun cdv A' outer s H vs Q E bare hr h => ?_)
  · obtain ⟨t, r, c, A, u, rfl, _⟩ := h
    rfl
  · obtain ⟨t, r, c, A, u, rfl, ⟨L, ht, rs, hL, hl, hrow⟩, hr0, k⟩ := h
    refine ⟨_, (pss_one (ps_ret (pe_tup (pa_cons (pe_callB (id := "len") (call_len_seqK (K := K)) (by rfl) T.b_len (by decide +kernel) (pa_cons (pe_ix (ix_tupK (K := K)) (pv 0) pe_int (fun _ _ => rfl)) pa_nil)) (pa_cons (pe_callB (id := "len") (call_len_seqK (K := K)) (by rfl) T.b_len (by decide +kernel) (pa_cons (pe_ix (ix_listK (K := K)) (pe_ix (ix_tupK (K := K)) (pv 0) pe_int (fun _ _ => rfl)) pe_int (fun _ _ => rfl)) pa_nil)) pa_nil))))), ?_⟩
    have h0 : rs[0]? = some rs[0] := List.getElem?_eq_getElem (by omega)
    obtain ⟨p0, e0, hp0⟩ := hrow 0 _ h0
    refine ⟨_, rfl, t, _, _, _, rfl, rfl, SqT.of ht, rfl, L, rs, rfl, .inl (SqL.of hL), ?_⟩
    refine ⟨_, rfl, t, _, _, _, rfl, rfl, SqT.of ht, rfl, L, _, _, _, rfl, rfl, SqL.of hL, atI_nat h0, p0, _, e0 ▸ rfl, .inl (SqL.of hp0), by show 2 ≤ sizeLine; decide, fun p hp => ?_⟩
    have := k p hp
    rw [rowV_len, hl]
    exact this
abbrev ShapeC (P : Program) (w : World) (K : PySem.W.Frag) (mg : Str → Option Value) (base : Heap) : Prop := CalG P w K mg base 2 "_law_shape" spShape []
/-! ### _law_dot -/
def spDot (K : PySem.W.Frag) : Sp := fun vs H Q _ => ∃ (a b : Addr) (n : Nat) (z y : Nat → Int) (k : Nat), vs = [.ref a, .ref b] ∧ H a = some (.lst (rowV n z)) ∧ H b = some (.lst (rowV n y)) ∧ n ≤ 1000 ∧ k ≤ 390 ∧ (∀ j, j < n → (z j).natAbs < 10 ^ k ∧ (y j).natAbs < 10 ^ k) ∧ ∀ H', Same H H' → Q (.int (smZ n fun j => z j * y j)) H'
theorem sc__law_dot : FnScope ["_law_one", "_law_two", "_law_a", "_law_b"] ["_law_one", "_law_two"] (defScope s__law_dot) := ⟨rfl, rfl, rfl, by decide +kernel, rfl, by decide +kernel, by decide +kernel⟩
theorem ok_dot {f : Addr} {fd : FuncData} (F : Fun K "_law_dot" "_law_dot" s__law_dot f fd) (T : Blt mg) : FnG P w K mg base CX0 2 f fd ["_law_one", "_law_two"] (spDot K) := by
  refine fun_okG F sc__law_dot (fun vs H Q E h => ?_) (fun cdv A' outer s H vs Q E bare hr h => ?_)
  · obtain ⟨a, b, n, z, y, k, rfl, _⟩ := h
    rfl
  · obtain ⟨a, b, n, z, y, k, rfl, ha, hb, hn, hk, hz, kk⟩ := h
    refine ⟨_, (pss_one (ps_ret (pe_callB (id := "sum") (cr_sumK (K := K) rfl) (by rfl) T.b_sum (by decide +kernel) (pa_cons (pe_lcI (pe_lc (own := [("_law_a", 2), ("_law_b", 3)]) rfl sc__law_dot.nd (pi_zipK (K := K) (by rfl) T.b_zip (pa_cons (pv 0) (pa_cons (pv 1) pa_nil))) (blkOk_by (N := ["_law_one", "_law_two", "_law_a", "_law_b"]) (sc := (defScope s__law_dot)) (by decide +kernel)) (fun _ _ _ _ _ => (pg_tupK (K := K) (n := 2) rfl (pgs_cons (pg_name (i := 2) sc__law_dot.nd rfl (Or.inl rfl)) (pgs_cons (pg_name (i := 3) sc__law_dot.nd rfl (Or.inl rfl)) pgs_nil)))) (fun _ _ _ _ _ => pts_nil) (fun _ _ _ _ _ => (pe_cut (pe_op op_mulW (pv 2) (pv 3)))))) pa_nil)))), ?_⟩
    refine ⟨_, rfl, _, rfl, a, b, _, _, rfl, .inl ⟨SqL.of ha, SqL.of hb, fun D hD => ?_⟩⟩
    refine lc_same (walk_zip (K := K) (a := a) (b := b) (xs := rowV n z) (ys := rowV n y) (n := n) (by rw [rowV_len, rowV_len]; omega)) hD (by omega) (fun j v _ => v = .int (z j * y j)) (fun _ _ _ _ h _ => h) (fun G s => ⟨SqL.of (s _ _ ha), SqL.of (s _ _ hb)⟩) ypair_same (fun j x H1 H1' hj s1 _ hy => ?_) fun ys H1 hl1 s1 e1 h1 => ?_
    · obtain ⟨T2, x1, x2, rfl, hT2, rfl, hx1, hx2⟩ := hy
      obtain ⟨_, rfl⟩ := rowV_get hx1
      obtain ⟨_, rfl⟩ := rowV_get hx2
      obtain ⟨b1, b2⟩ := hz j hj
      refine ⟨_, tg2 upd_same, rfl, ?_⟩
      exact ⟨_, rfl, _, rfl, _, _, rfl, rfl, sm_mul (smI b1 hk) (smI b2 hk), Same.refl _, fun _ => rfl⟩
    have e2 := ints_of hl1 h1
    refine ⟨D, _, rfl, SqL.of (e2 ▸ e1), ?_⟩
    rw [smZ_list]
    exact kk H1 s1
abbrev DotC (P : Program) (w : World) (K : PySem.W.Frag) (mg : Str → Option Value) (base : Heap) : Prop := CalG P w K mg base 2 "_law_dot" (spDot K) []
/-! ### _law_times -/
def spTimes : Sp := fun vs H Q _ => ∃ (t u : Addr) (r n c : Nat) (A B : Nat → Nat → Int) (v x : Int) (k : Nat), vs = [.ref t, .ref u] ∧ PrAt H t r n A v ∧ PrAt H u n c B x ∧ r ≤ 60 ∧ 0 < n ∧ n ≤ 60 ∧ c ≤ 60 ∧ k ≤ 150 ∧ Bn r n A v k ∧ Bn n c B x k ∧
  ∀ t' H' A' u', Same H H' → PrAt H' t' r c A' u' → Bn r c A' u' (2 * k + 2) → u' ∣ v * x → (∀ i j, i < r → j < c → qv A' u' i j = mulQ n (qv A v) (qv B x) i j) → Q (.ref t') H'
theorem smZ_abs {n : Nat} {f : Nat → Int} {m : Nat} (h : ∀ j, j < n → (f j).natAbs ≤ m) : (smZ n f).natAbs ≤ n * m := by
  induction n with
  | zero => simp [smZ]
  | succ n ih =>
    have h1 := ih fun j hj => h j (by omega)
    have h2 := h n (by omega)
    have h3 := Int.natAbs_add_le (smZ n f) (f n)
    rw [smZ, Nat.succ_mul]
    omega
theorem dot_abs {n k : Nat} {f g : Nat → Int} (hn : n ≤ 99) (h : ∀ j, j < n → (f j).natAbs < 10 ^ k ∧ (g j).natAbs < 10 ^ k) : (smZ n fun j => f j * g j).natAbs < 10 ^ (2 * k + 2) := by
  have h1 : (smZ n fun j => f j * g j).natAbs ≤ n * (10 ^ k * 10 ^ k) := smZ_abs fun j hj => by
    obtain ⟨a, b⟩ := h j hj
    rw [Int.natAbs_mul]
    exact Nat.mul_le_mul (by omega) (by omega)
  have h2 : n * (10 ^ k * 10 ^ k) ≤ 99 * (10 ^ k * 10 ^ k) := Nat.mul_le_mul_right _ hn
  have e : (10 : Nat) ^ (2 * k + 2) = 100 * (10 ^ k * 10 ^ k) := by
    rw [Nat.pow_add, Nat.two_mul, Nat.pow_add, Nat.mul_comm]
  have pos : 0 < 10 ^ k * 10 ^ k := Nat.mul_pos (Nat.pow_pos (by decide)) (Nat.pow_pos (by decide))
  rw [e]
  omega
theorem two_abs {a b : Int} {k : Nat} (ha : a.natAbs < 10 ^ k) (hb : b.natAbs < 10 ^ k) : (a * b).natAbs < 10 ^ (2 * k + 2) := by
  rw [Int.natAbs_mul]
  have := lt_mul ha hb
  exact Nat.lt_of_lt_of_le this (Nat.pow_le_pow_right (by decide) (by omega))
theorem sc__law_times : FnScope ["_law_one", "_law_two", "_law_files", "_law_line", "_law_file_here"] ["_law_one", "_law_two"] (defScope s__law_times) := ⟨rfl, rfl, rfl, by decide +kernel, rfl, by decide +kernel, by decide +kernel⟩
theorem ok_times {f : Addr} {fd : FuncData} (F : Fun K "_law_times" "_law_times" s__law_times f fd) (T : Blt mg) (c_turn : TurnC P w K mg base) (c_dot : DotC P w K mg base) (c_low : LowTC P w K mg base) : FnG P w K mg base CX0 6 f fd ["_law_one", "_law_two"] spTimes := by
  refine fun_okG F sc__law_times (fun vs H Q E h => ?_) (fun cdv A' outer s H vs Q E bare hr h => ?_)
  · obtain ⟨t, u, r, n, c, A, B, v, x, k, rfl, _⟩ := h
    rfl
  · obtain ⟨t, u, r, n, c, A, B, v, x, k, rfl, ⟨L, ht, rs, hL, hl, hrow⟩, hB, hr1, hn0, hn1, hc1, hk, bA, bB, kk⟩ := h
    obtain ⟨L2, hu, _⟩ := id hB
    refine ⟨_, (pss_cons (ps_set (i := 2) sc__law_times.nd rfl (Or.inr rfl) (pe_ix (ix_tupK (K := K)) (pe_cg c_turn bare hr (by decide) rfl (pa_cons (pv 1) pa_nil)) pe_int (fun _ _ => rfl)))
  (pss_one (ps_ret (pe_cg c_low bare hr (by decide) rfl (pa_cons (pe_tup (pa_cons (pe_lcI (pe_lc (own := [("_law_line", 3)]) rfl sc__law_times.nd (pi_listK (K := K) (pe_ix (ix_tupK (K := K)) (pv 0) pe_int (fun _ _ => rfl))) (blkOk_by (N := ["_law_one", "_law_two", "_law_files", "_law_line", "_law_file_here"]) (sc := (defScope s__law_times)) (by decide +kernel)) (fun _ _ _ _ _ => (pg_name (i := 3) sc__law_times.nd rfl (Or.inr rfl))) (fun _ _ _ _ _ => pts_nil) (fun _ _ _ _ _ => (pe_cut (pe_lcI (pe_lc (own := [("_law_file_here", 4)]) rfl sc__law_times.nd (pi_listK (K := K) (pv 2)) (blkOk_by (N := ["_law_one", "_law_two", "_law_files", "_law_line", "_law_file_here"]) (sc := ({ kind := .function, names := [(PySem.Str.ofString ".0", .local), (PySem.Str.ofString "_law_line", .cell), (PySem.Str.ofString "_law_files", .cell)], isGenerator := false, isCoroutine := false } : Scope)) (by decide +kernel)) (fun _ _ _ _ _ => (pg_name (i := 4) sc__law_times.nd rfl (Or.inl rfl))) (fun _ _ _ _ _ => pts_nil) (fun _ _ _ _ _ => (pe_cut (pe_cg c_dot bare hr (by decide) rfl (pa_cons (pv 3) (pa_cons (pv 4) pa_nil))))))))))) (pa_cons (pe_op op_mulW (pe_ix (ix_tupK (K := K)) (pv 0) pe_int (fun _ _ => rfl)) (pe_ix (ix_tupK (K := K)) (pv 1) pe_int (fun _ _ => rfl))) pa_nil))) pa_nil))))), ?_⟩
    -- files = turn(two)[0]
    refine ⟨_, rfl, u, n, c, B, x, rfl, hB, hn0, by omega, by omega, fun t2 H1 s1 hT2 => ?_⟩
    obtain ⟨L3, ht2, rs2, hL3, hl2, hrow2⟩ := hT2
    refine ⟨t2, _, _, _, rfl, rfl, SqT.of ht2, rfl, ?_⟩
    -- return low(([[dot(line, file) ..] ..], one[1] * two[1]))
    refine ⟨_, rfl, t, _, _, _, rfl, rfl, SqT.of (s1 _ _ ht), rfl, L, rfl, ⟨rs, SqL.of (s1 _ _ hL)⟩, fun D hD => ?_⟩
    refine lc_same (walk_list (K := K) (a := L) (xs := rs)) hD (by omega) (RowR c fun i j => smZ n fun m => A i m * B m j) rowR_same (fun G s => SqL.of (s _ _ (s1 _ _ hL))) yat_same (fun i y H2 H2' hi s2 nD hy => ?_) fun ys H2 hl3 s2 e2 h2 => ?_
    · obtain ⟨rfl, hx⟩ := hy
      obtain ⟨p, rfl, hp⟩ := hrow i y hx
      have hi' : i < r := by omega
      refine ⟨_, fun _ h => h, wipe_one, ?_⟩
      refine ⟨_, rfl, L3, rfl, ⟨rs2, SqL.of (s2 _ _ hL3)⟩, fun D2 hD2 => ?_⟩
      refine lc_same (walk_list (K := K) (a := L3) (xs := rs2)) hD2 (by omega) (fun j y _ => y = .int (smZ n fun m => A i m * B m j)) (fun _ _ _ _ h _ => h) (fun G s => SqL.of (s _ _ (s2 _ _ hL3))) yat_same (fun j y H3 H3' hj s3 _ hy => ?_) fun ys2 H3 hl4 s3 e3 h3 => ?_
      · obtain ⟨rfl, hx3⟩ := hy
        obtain ⟨p2, rfl, hp2⟩ := hrow2 j y hx3
        refine ⟨_, fun _ h => h, wipe_one, ?_⟩
        exact ⟨_, rfl, _, rfl, p, p2, n, A i, fun m => B m j, k, rfl, s3 _ _ (s2 _ _ (s1 _ _ hp)), s3 _ _ (s2 _ _ hp2), by omega, by omega, fun m hm => ⟨bA.ab i m hi' hm, bB.ab m j hm (by omega)⟩, fun H4 s4 => ⟨s4, fun _ => rfl⟩⟩
      · exact ⟨s3, fun _ => ⟨D2, rfl, row_hid nD hD2 e3 (hl4.trans hl2) h3⟩⟩
    have s12 := s1.trans s2
    have smv := smI bA.ub (show k ≤ 390 by omega)
    have smx := smI bB.ub (show k ≤ 390 by omega)
    refine ⟨_, rfl, t, _, _, _, rfl, rfl, SqT.of (s12 _ _ ht), rfl, _, rfl, u, _, _, _, rfl, rfl, SqT.of (s12 _ _ hu), rfl, _, _, rfl, rfl, sm_mul smv smx, by show 2 ≤ sizeLine; decide, fun T2 hT2 => ?_⟩
    have s3 := MG.Same.new (o := .tup [.ref D, .int (v * x)]) (Same.refl H2) hT2
    have hpos := Int.mul_pos bA.pos bB.pos
    refine ⟨T2, r, c, _, v * x, 2 * k + 2, rfl, ⟨D, upd_same, (ll_of e2 (hl3.trans hl) h2).same s3⟩, by omega, by omega, ⟨hpos, two_abs bA.ub bB.ub, fun i j hi hj => dot_abs (by omega) fun m hm => ⟨bA.ab i m hi hm, bB.ab m j hm hj⟩⟩, by omega, fun t' H' A' u' s4 hP bn dv vals => ?_⟩
    refine kk t' H' A' u' ((s12.trans s3).trans s4) hP bn dv fun i j hi hj => ?_
    rw [vals i j hi hj]
    exact sum_div (by have := bA.pos; omega) (by have := bB.pos; omega)
abbrev TimesC (P : Program) (w : World) (K : PySem.W.Frag) (mg : Str → Option Value) (base : Heap) : Prop := CalG P w K mg base 6 "_law_times" spTimes []
/-! ### _law_scale -/
def spScale : Sp := fun vs H Q _ => ∃ (t p : Addr) (r c : Nat) (A : Nat → Nat → Int) (u a b : Int) (k : Nat), vs = [.ref t, .ref p] ∧ PrAt H t r c A u ∧ H p = some (.tup [.int a, .int b]) ∧ r ≤ 1000 ∧ c ≤ 1000 ∧ k ≤ 150 ∧ Bn r c A u k ∧ a.natAbs < 10 ^ k ∧ 0 < b ∧ b.natAbs < 10 ^ k ∧
  ∀ t' H' A' u', Same H H' → PrAt H' t' r c A' u' → Bn r c A' u' (2 * k + 2) → (∀ i j, i < r → j < c → qv A' u' i j = qv A u i j * Rat.divInt a b) → Q (.ref t') H'
theorem sc__law_scale : FnScope ["_law_one", "_law_pair", "_law_line", "_law_cell"] ["_law_one", "_law_pair"] (defScope s__law_scale) := ⟨rfl, rfl, rfl, by decide +kernel, rfl, by decide +kernel, by decide +kernel⟩
theorem ok_scale {f : Addr} {fd : FuncData} (F : Fun K "_law_scale" "_law_scale" s__law_scale f fd) (T : Blt mg) (c_low : LowTC P w K mg base) : FnG P w K mg base CX0 6 f fd ["_law_one", "_law_pair"] spScale := by
  refine fun_okG F sc__law_scale (fun vs H Q E h => ?_) (fun cdv A' outer s H vs Q E bare hr h => ?_)
  · obtain ⟨t, p, r, c, A, u, a, b, k, rfl, _⟩ := h
    rfl
  · obtain ⟨t, p, r, c, A, u, a, b, k, rfl, ⟨L, ht, rs, hL, hl, hrow⟩, hp, hr1, hc1, hk, bA, ha, hb0, hb, kk⟩ := h
    refine ⟨_, (pss_one (ps_ret (pe_cg c_low bare hr (by decide) rfl (pa_cons (pe_tup (pa_cons (pe_lcI (pe_lc (own := [("_law_line", 2)]) rfl sc__law_scale.nd (pi_listK (K := K) (pe_ix (ix_tupK (K := K)) (pv 0) pe_int (fun _ _ => rfl))) (blkOk_by (N := ["_law_one", "_law_pair", "_law_line", "_law_cell"]) (sc := (defScope s__law_scale)) (by decide +kernel)) (fun _ _ _ _ _ => (pg_name (i := 2) sc__law_scale.nd rfl (Or.inl rfl))) (fun _ _ _ _ _ => pts_nil) (fun _ _ _ _ _ => (pe_cut (pe_lcI (pe_lc (own := [("_law_cell", 3)]) rfl sc__law_scale.nd (pi_listK (K := K) (pv 2)) (blkOk_by (N := ["_law_one", "_law_pair", "_law_line", "_law_cell"]) (sc := ({ kind := .function, names := [(PySem.Str.ofString ".0", .local), (PySem.Str.ofString "_law_line", .local), (PySem.Str.ofString "_law_pair", .cell)], isGenerator := false, isCoroutine := false } : Scope)) (by decide +kernel)) (fun _ _ _ _ _ => (pg_name (i := 3) sc__law_scale.nd rfl (Or.inl rfl))) (fun _ _ _ _ _ => pts_nil) (fun _ _ _ _ _ => (pe_cut (pe_op op_mulW (pe_ix (ix_tupK (K := K)) (pv 1) pe_int (fun _ _ => rfl)) (pv 3)))))))))) (pa_cons (pe_op op_mulW (pe_ix (ix_tupK (K := K)) (pv 0) pe_int (fun _ _ => rfl)) (pe_ix (ix_tupK (K := K)) (pv 1) pe_int (fun _ _ => rfl))) pa_nil))) pa_nil)))), ?_⟩
    refine ⟨_, rfl, t, _, _, _, rfl, rfl, SqT.of ht, rfl, L, rfl, ⟨rs, SqL.of hL⟩, fun D hD => ?_⟩
    have sma := smI ha (show k ≤ 390 by omega)
    have smb := smI hb (show k ≤ 390 by omega)
    have smu := smI bA.ub (show k ≤ 390 by omega)
    refine lc_same (walk_list (K := K) (a := L) (xs := rs)) hD (by omega) (RowR c fun i j => a * A i j) rowR_same (fun G s => SqL.of (s _ _ hL)) yat_same (fun i y H2 H2' hi s2 nD hy => ?_) fun ys H2 hl3 s2 e2 h2 => ?_
    · obtain ⟨rfl, hx⟩ := hy
      obtain ⟨p1, rfl, hp1⟩ := hrow i y hx
      refine ⟨_, fun _ h => h, wipe_one, ?_⟩
      refine ⟨_, rfl, p1, rfl, ⟨_, SqL.of (s2 _ _ hp1)⟩, fun D2 hD2 => ?_⟩
      refine lc_same (walk_list (K := K) (a := p1) (xs := rowV c (A i))) hD2 (by rw [rowV_len]; omega) (fun j y _ => y = .int (a * A i j)) (fun _ _ _ _ h _ => h) (fun G s => SqL.of (s _ _ (s2 _ _ hp1))) yat_same (fun j y H3 H3' hj s3 _ hy => ?_) fun ys2 H3 hl4 s3 e3 h3 => ?_
      · obtain ⟨rfl, hx3⟩ := hy
        obtain ⟨hj', rfl⟩ := rowV_get hx3
        refine ⟨_, fun _ h => h, wipe_one, ?_⟩
        exact ⟨_, rfl, p, _, _, _, rfl, rfl, SqT.of (s3 _ _ (s2 _ _ hp)), rfl, _, rfl, _, _, rfl, rfl, sm_mul sma (smI (bA.ab i j (by omega) hj') (by omega)), Same.refl _, fun _ => rfl⟩
      · exact ⟨s3, fun _ => ⟨D2, rfl, row_hid nD hD2 e3 (hl4.trans rowV_len) h3⟩⟩
    refine ⟨_, rfl, t, _, _, _, rfl, rfl, SqT.of (s2 _ _ ht), rfl, _, rfl, p, _, _, _, rfl, rfl, SqT.of (s2 _ _ hp), rfl, _, _, rfl, rfl, sm_mul smu smb, by show 2 ≤ sizeLine; decide, fun T2 hT2 => ?_⟩
    have s3 := MG.Same.new (o := .tup [.ref D, .int (u * b)]) (Same.refl H2) hT2
    refine ⟨T2, r, c, _, u * b, 2 * k + 2, rfl, ⟨D, upd_same, (ll_of e2 (hl3.trans hl) h2).same s3⟩, by omega, by omega, ⟨Int.mul_pos bA.pos hb0, two_abs bA.ub hb, fun i j hi hj => two_abs ha (bA.ab i j hi hj)⟩, by omega, fun t' H' A' u' s4 hP bn dv vals => ?_⟩
    refine kk t' H' A' u' ((s2.trans s3).trans s4) hP bn fun i j hi hj => ?_
    rw [vals i j hi hj]
    show Rat.divInt (a * A i j) (u * b) = Rat.divInt (A i j) u * Rat.divInt a b
    rw [Rat.divInt_mul_divInt, Int.mul_comm a]
abbrev ScaleC (P : Program) (w : World) (K : PySem.W.Frag) (mg : Str → Option Value) (base : Heap) : Prop := CalG P w K mg base 6 "_law_scale" spScale []
/-! ### _law_plus -/
def spPlus : Sp := fun vs H Q _ => ∃ (t u : Addr) (r c : Nat) (A B : Nat → Nat → Int) (v x sg : Int) (k : Nat), vs = [.ref t, .ref u, .int sg] ∧ PrAt H t r c A v ∧ PrAt H u r c B x ∧ r ≤ 1000 ∧ c ≤ 1000 ∧ k ≤ 150 ∧ Bn r c A v k ∧ Bn r c B x k ∧ (sg = 1 ∨ sg = -1) ∧
  ∀ t' H' A' u', Same H H' → PrAt H' t' r c A' u' → Bn r c A' u' (2 * k + 2) → (∀ i j, i < r → j < c → qv A' u' i j = qv A v i j + Rat.divInt sg 1 * qv B x i j) → Q (.ref t') H'
theorem plus_div {a b v x sg : Int} (hv : v ≠ 0) (hx : x ≠ 0) : Rat.divInt (a * x + sg * b * v) (v * x) = Rat.divInt a v + Rat.divInt sg 1 * Rat.divInt b x := by
  rw [Rat.divInt_mul_divInt, Rat.divInt_add_divInt _ _ hv (by omega)]
  congr 1
  · rw [Int.one_mul]
  · rw [Int.one_mul]
theorem plus_abs {a b v x sg : Int} {k : Nat} (ha : a.natAbs < 10 ^ k) (hb : b.natAbs < 10 ^ k) (hv : v.natAbs < 10 ^ k) (hx : x.natAbs < 10 ^ k) (hs : sg = 1 ∨ sg = -1) : (a * x + sg * b * v).natAbs < 10 ^ (2 * k + 2) := by
  have h1 := lt_mul ha hx
  have h2 := lt_mul hb hv
  have h3 := Int.natAbs_add_le (a * x) (sg * b * v)
  have e1 : (a * x).natAbs = a.natAbs * x.natAbs := Int.natAbs_mul _ _
  have e2 : (sg * b * v).natAbs = b.natAbs * v.natAbs := by
    rw [Int.natAbs_mul, Int.natAbs_mul]
    rcases hs with rfl | rfl <;> simp
  have e : (10 : Nat) ^ (2 * k + 2) = 100 * 10 ^ (k + k) := by
    rw [Nat.pow_add, Nat.two_mul, Nat.mul_comm]
  rw [e]
  omega
theorem sc__law_plus : FnScope ["_law_one", "_law_two", "_law_sign", "_law_lines", "_law_left", "_law_right_here", "_law_a", "_law_b"] ["_law_one", "_law_two", "_law_sign"] (defScope s__law_plus) := ⟨rfl, rfl, rfl, by decide +kernel, rfl, by decide +kernel, by decide +kernel⟩
theorem ok_plus {f : Addr} {fd : FuncData} (F : Fun K "_law_plus" "_law_plus" s__law_plus f fd) (T : Blt mg) (c_low : LowTC P w K mg base) : FnG P w K mg base CX0 6 f fd ["_law_one", "_law_two", "_law_sign"] spPlus := by
  refine fun_okG F sc__law_plus (fun vs H Q E h => ?_) (fun cdv A' outer s H vs Q E bare hr h => ?_)
  · obtain ⟨t, u, r, c, A, B, v, x, sg, k, rfl, _⟩ := h
    rfl
  · obtain ⟨t, u, r, c, A, B, v, x, sg, k, rfl, ⟨L, ht, rs, hL, hl, hrow⟩, ⟨L2, hu, rs2, hL2, hl2, hrow2⟩, hr1, hc1, hk, bA, bB, hs, kk⟩ := h
    refine ⟨_, (pss_cons (ps_set (i := 3) sc__law_plus.nd rfl (Or.inl rfl) (pe_lst pa_nil))
  (pss_cons (ps_for PassesOwn.never rfl (pi_zipK (K := K) (by rfl) T.b_zip (pa_cons (pe_ix (ix_tupK (K := K)) (pv 0) pe_int (fun _ _ => rfl)) (pa_cons (pe_ix (ix_tupK (K := K)) (pv 1) pe_int (fun _ _ => rfl)) pa_nil))) (pg_tupK (K := K) (n := 2) rfl (pgs_cons (pg_name (i := 4) sc__law_plus.nd rfl (Or.inl rfl)) (pgs_cons (pg_name (i := 5) sc__law_plus.nd rfl (Or.inl rfl)) pgs_nil)))
  (pss_one (ps_expr (pe_bm PySem.F.plainAttrs_list PySem.F.slot_list_append PySem.F.type_list_append mt_append (pv 3) (pa_cons (pe_lcI (pe_lc (own := [("_law_a", 6), ("_law_b", 7)]) rfl sc__law_plus.nd (pi_zipK (K := K) (by rfl) T.b_zip (pa_cons (pv 4) (pa_cons (pv 5) pa_nil))) (blkOk_by (N := ["_law_one", "_law_two", "_law_sign", "_law_lines", "_law_left", "_law_right_here", "_law_a", "_law_b"]) (sc := (defScope s__law_plus)) (by decide +kernel)) (fun _ _ _ _ _ => (pg_tupK (K := K) (n := 2) rfl (pgs_cons (pg_name (i := 6) sc__law_plus.nd rfl (Or.inl rfl)) (pgs_cons (pg_name (i := 7) sc__law_plus.nd rfl (Or.inl rfl)) pgs_nil)))) (fun _ _ _ _ _ => pts_nil) (fun _ _ _ _ _ => (pe_cut (pe_op op_add (pe_op op_mulW (pv 6) (pe_ix (ix_tupK (K := K)) (pv 1) pe_int (fun _ _ => rfl))) (pe_op op_mulW (pe_op op_mulW (pv 2) (pv 7)) (pe_ix (ix_tupK (K := K)) (pv 0) pe_int (fun _ _ => rfl)))))))) pa_nil)))))
  (pss_one (ps_ret (pe_cg c_low bare hr (by decide) rfl (pa_cons (pe_tup (pa_cons (pv 3) (pa_cons (pe_op op_mulW (pe_ix (ix_tupK (K := K)) (pv 0) pe_int (fun _ _ => rfl)) (pe_ix (ix_tupK (K := K)) (pv 1) pe_int (fun _ _ => rfl))) pa_nil))) pa_nil)))))), ?_⟩
    have smv := smI bA.ub (show k ≤ 390 by omega)
    have smx := smI bB.ub (show k ≤ 390 by omega)
    have sms : Sm sg := by rcases hs with rfl | rfl <;> exact sm_lt (k := 1) (by decide) (by decide) (by decide)
    -- lines = []
    refine ⟨by show 0 ≤ sizeLine; decide, fun F0 hF0 => ?_⟩
    have sF : Same H (upd H F0 (.lst [])) := MG.Same.new (Same.refl H) hF0
    refine ⟨_, rfl, t, _, _, _, rfl, rfl, SqT.of (sF _ _ ht), rfl, _, rfl, u, _, _, _, rfl, rfl, SqT.of (sF _ _ hu), rfl, L, L2, rs, rs2, rfl, .inl ⟨SqL.of (sF _ _ hL), SqL.of (sF _ _ hL2), ?_⟩⟩
    refine for_it (walk_zip (K := K) (a := L) (b := L2) (xs := rs) (ys := rs2) (n := r) (by omega)) (fun i σ H' => Same H (hid F0 H') ∧ ∃ (ds : List V) (v4 v5 v6 v7 : Option V), σ = [some (.ref t), some (.ref u), some (.int sg), some (.ref F0), v4, v5, v6, v7] ∧ H' F0 = some (.lst ds) ∧ ds.length = i ∧ ∀ (k : Nat) (y : V), ds[k]? = some y → RowR c (fun i j => A i j * x + sg * B i j * v) k y (hid F0 H')) ⟨(hid_none hF0).trans (hid_mono sF), [], none, none, none, none, rfl, upd_same, rfl, fun k y h => by simp at h⟩ ?_ ?_ ?_
    · rintro i σ H' _ ⟨s', _⟩
      have sH := s'.trans (hid_same F0 H')
      exact ⟨SqL.of (sH _ _ hL), SqL.of (sH _ _ hL2)⟩
    · rintro i y σ H' H'' hi ⟨s', ds, v4, v5, v6, v7, rfl, eF, hdl, hds⟩ hy
      obtain ⟨T2, x1, x2, rfl, hT2, rfl, hx1, hx2⟩ := hy
      have sH := s'.trans (hid_same F0 H')
      have sT := MG.Same.new (o := .tup [x1, x2]) (Same.refl H') hT2
      have sHT := sH.trans sT
      obtain ⟨p1, rfl, hp1⟩ := hrow i x1 hx1
      obtain ⟨p2, rfl, hp2⟩ := hrow2 i x2 hx2
      refine tg2 upd_same _ ?_
      have eF2 := sT _ _ eF
      -- lines.append([..])
      refine ⟨_, rfl, .inl ⟨rfl, ds, SqL.of eF2⟩, ?_⟩
      refine ⟨_, rfl, _, rfl, p1, p2, _, _, rfl, .inl ⟨SqL.of (sHT _ _ hp1), SqL.of (sHT _ _ hp2), fun D hD => ?_⟩⟩
      refine lc_same (walk_zip (K := K) (a := p1) (b := p2) (xs := rowV c (A i)) (ys := rowV c (B i)) (n := c) (by rw [rowV_len, rowV_len]; omega)) hD (by omega) (fun j y _ => y = .int (A i j * x + sg * B i j * v)) (fun _ _ _ _ h _ => h) (fun G s => ⟨SqL.of (s _ _ (sHT _ _ hp1)), SqL.of (s _ _ (sHT _ _ hp2))⟩) ypair_same (fun j y H3 H3' hj s3 _ hy => ?_) fun ys3 H3 hl3 s3 e3 h3 => ?_
      · obtain ⟨T3, y1, y2, rfl, hT3, rfl, hy1, hy2⟩ := hy
        obtain ⟨_, rfl⟩ := rowV_get hy1
        obtain ⟨_, rfl⟩ := rowV_get hy2
        have s33 := MG.Same.new (o := .tup [.int (A i j), .int (B i j)]) s3 hT3
        have smA := smI (bA.ab i j hi hj) (show k ≤ 390 by omega)
        have smB := smI (bB.ab i j hi hj) (show k ≤ 390 by omega)
        have smsB : Sm (sg * B i j) := by
          refine smI (k := k) ?_ (by omega)
          rw [Int.natAbs_mul]
          have := bB.ab i j hi hj
          rcases hs with rfl | rfl <;> simpa using this
        refine ⟨_, tg2 upd_same, rfl, ?_⟩
        exact ⟨_, rfl, _, rfl, u, _, _, _, rfl, rfl, SqT.of (s33 _ _ (sHT _ _ hu)), rfl, _, _, rfl, rfl, sm_mul smA smx, _, rfl, _, rfl, _, _, rfl, rfl, sm_mul sms smB, _, rfl, t, _, _, _, rfl, rfl, SqT.of (s33 _ _ (sHT _ _ ht)), rfl, _, _, rfl, rfl, sm_mul smsB smv, _, _, rfl, rfl, Same.refl _, fun _ => rfl⟩
      have eF3 := s3 _ _ eF2
      have n3 : D ≠ F0 := fun q => by rw [q, eF2] at hD; cases hD
      refine ⟨F0, ds, _, rfl, rfl, eF3, Nat.lt_of_le_of_lt (m := 1000) (by omega) (by decide), ?_⟩
      have sh : Same (hid F0 H') (hid F0 (upd H3 F0 (.lst (ds ++ [.ref D])))) := by rw [hid_upd]; exact hid_mono (sT.trans s3)
      refine ⟨s'.trans sh, ds ++ [.ref D], _, _, _, _, rfl, upd_same, by simp [hdl], fun n y hy => ?_⟩
      by_cases hn : n < ds.length
      · rw [List.getElem?_append_left hn] at hy
        exact rowR_same _ _ _ _ (hds n y hy) sh
      · rw [List.getElem?_append_right (by omega)] at hy
        have ey : y = .ref D := by simpa using List.mem_of_getElem? hy
        have en : n = i := by
          have := (List.getElem?_eq_some_iff.mp hy).1
          simp at this
          omega
        rw [ey, en]
        refine ⟨D, rfl, ?_⟩
        rw [hid_upd, hid_ne n3, e3]
        exact congrArg _ (congrArg _ (ints_of hl3 h3))
    · rintro σ H' ⟨s', ds, v4, v5, v6, v7, rfl, eF, hdl, hds⟩
      have sH := s'.trans (hid_same F0 H')
      refine ⟨_, rfl, _, rfl, t, _, _, _, rfl, rfl, SqT.of (sH _ _ ht), rfl, _, rfl, u, _, _, _, rfl, rfl, SqT.of (sH _ _ hu), rfl, _, _, rfl, rfl, sm_mul smv smx, by show 2 ≤ sizeLine; decide, fun T2 hT2 => ?_⟩
      have s3 := MG.Same.new (o := .tup [.ref F0, .int (v * x)]) (Same.refl H') hT2
      refine ⟨T2, r, c, _, v * x, 2 * k + 2, rfl, ⟨F0, upd_same, (ll_of eF hdl hds).same s3⟩, by omega, by omega, ⟨Int.mul_pos bA.pos bB.pos, two_abs bA.ub bB.ub, fun i j hi hj => plus_abs (bA.ab i j hi hj) (bB.ab i j hi hj) bA.ub bB.ub hs⟩, by omega, fun t' H4 A' u' s4 hP bn dv vals => ?_⟩
      refine kk t' H4 A' u' ((sH.trans s3).trans s4) hP bn fun i j hi hj => ?_
      rw [vals i j hi hj]
      exact plus_div (by have := bA.pos; omega) (by have := bB.pos; omega)
abbrev PlusC (P : Program) (w : World) (K : PySem.W.Frag) (mg : Str → Option Value) (base : Heap) : Prop := CalG P w K mg base 6 "_law_plus" spPlus []
end
end Lw

namespace Lw
open PySem PySem.Spec PyProof.Rows L2 MG
abbrev s__law_pick : Stmt := top 28
abbrev s__law_thin : Stmt := top 43
abbrev s__law_cells : Stmt := top 44
theorem QAt.le {H : Hp} {q : Addr} {n n' : Nat} (h : QAt H q n) (hn : n ≤ n') : QAt H q n' := by
  obtain ⟨c, ns, i, r, t, hq, hc, hz, hl, h1, h2, h3⟩ := h
  exact ⟨c, ns, i, r, t, hq, hc, hz, hl, ⟨h1.1, by omega⟩, h2, ⟨h3.1, by omega⟩⟩
/-- the purse without an object that is newer -/
theorem QAt.down {H1 H : Hp} {q D : Addr} {n n0 : Nat} (h0 : QAt H1 q n0) (k : Keep q H1 H) (h : QAt H q n) (hD : H1 D = none) : QAt (hid D H) q n := by
  obtain ⟨c0, ns0, i0, r0, t0, hq0, hc0, _⟩ := h0
  obtain ⟨c, ns, i, r, t, hq, hc, h⟩ := h
  obtain ⟨l', hl⟩ := k.hd _ _ hq0
  have e : V.ref c = V.ref c0 := by
    have := hq.symm.trans hl
    cases this
    rfl
  have ec : c = c0 := by
    cases e
    rfl
  refine ⟨c, ns, i, r, t, ?_, ?_, h⟩
  · rw [hid_ne (ne_of_none hq0 hD)]; exact hq
  · rw [hid_ne (ne_of_none (ec ▸ hc0) hD)]; exact hc
/-- the tables are not the purse -/
theorem PrAt.hq {H : Hp} {q t : Addr} {n r c : Nat} {A : Nat → Nat → Int} {u : Int} (h : PrAt H t r c A u) (hq : QAt H q n) : PrAt (hid q H) t r c A u := by
  obtain ⟨L, ht, rs, hL, hl, hrow⟩ := h
  obtain ⟨c0, ns, i, r0, t0, eq, _⟩ := hq
  have nL : L ≠ q := fun e => by
    rw [e, eq] at hL
    have e1 := HO.lst.inj (Option.some.inj hL)
    obtain ⟨p, z, _⟩ := hrow 1 (.int i) (by rw [← e1]; rfl)
    cases z
  refine ⟨L, by rw [hid_ne (ne_of ht eq (by intro z; cases z))]; exact ht, rs, by rw [hid_ne nL]; exact hL, hl, fun k x hx => ?_⟩
  obtain ⟨p, e, hp⟩ := hrow k x hx
  have np : p ≠ q := fun e' => by
    rw [e', eq] at hp
    have e1 := HO.lst.inj (Option.some.inj hp)
    have z : (rowV c (A k))[0]? = some (.ref c0) := by rw [← e1]; rfl
    cases (rowV_get z).2
  exact ⟨p, e, by rw [hid_ne np]; exact hp⟩
section
variable {P : Program} {w : World} {K : PySem.W.Frag} {mg : Str → Option Value} {base : Heap} {C CM CX : Addr}
/-! ### _law_pick -/
def spPick : Sp := fun vs H Q _ => ∃ (q l : Addr) (n : Nat) (xs : List V), vs = [.ref q, .ref l] ∧ QAt H q n ∧ n + 1 ≤ 100000 ∧ l ≠ q ∧ H l = some (.lst xs) ∧ 0 < xs.length ∧ xs.length ≤ 100 ∧ ∀ (i : Nat) (x : V) (H' : Hp), xs[i]? = some x → Keep q H H' → QAt H' q (n + 1) → Q x H'
theorem sc__law_pick : FnScope ["_law_q", "_law_six"] ["_law_q", "_law_six"] (defScope s__law_pick) := ⟨rfl, rfl, rfl, by decide +kernel, rfl, by decide +kernel, by decide +kernel⟩
theorem ok_pick {f : Addr} {fd : FuncData} (F : Fun K "_law_pick" "_law_pick" s__law_pick f fd) (T : Blt mg) (c_draw : DrawC P w K mg base) : FnG P w K mg base CX0 4 f fd ["_law_q", "_law_six"] spPick := by
  refine fun_okG F sc__law_pick (fun vs H Q E h => ?_) (fun cdv A' outer s H vs Q E bare hr h => ?_)
  · obtain ⟨q, l, n, xs, rfl, _⟩ := h
    rfl
  · obtain ⟨q, l, n, xs, rfl, hq, hn, nl, hl, h0, h1, k⟩ := h
    refine ⟨_, (pss_one (ps_ret (pe_ix (ix_listK (K := K)) (pv 1) (pe_cg c_draw bare hr (by decide) rfl (pa_cons (pv 0) (pa_cons (pe_callB (id := "len") (call_len_seqK (K := K)) (by rfl) T.b_len (by decide +kernel) (pa_cons (pv 1) pa_nil)) pa_nil))) (fun _ _ => rfl)))), ?_⟩
    refine ⟨_, rfl, _, rfl, _, rfl, l, xs, rfl, .inl (SqL.of hl), q, _, n, rfl, hq, by omega, by omega, by omega, fun r H1 r0 r1 k1 q1 => ?_⟩
    obtain ⟨j, rfl⟩ := Int.eq_ofNat_of_zero_le r0
    have hj : xs[j]? = some xs[j] := List.getElem?_eq_getElem (by omega)
    exact ⟨l, _, _, _, rfl, rfl, SqL.of (k1 _ _ hl nl), atI_nat hj, k j _ H1 hj k1 q1⟩
abbrev PickC (P : Program) (w : World) (K : PySem.W.Frag) (mg : Str → Option Value) (base : Heap) : Prop := CalG P w K mg base 4 "_law_pick" spPick []
/-! ### _law_thin -/
def spThin : Sp := fun vs H Q _ => ∃ (q : Addr) (n : Nat) (m : Int), vs = [.ref q, .int m] ∧ QAt H q n ∧ n + 4 ≤ 100000 ∧ 0 < m ∧ m ≤ 40 ∧
  ∀ (p : Addr) (h b : Nat) (H' : Hp), 0 < h → h ≤ 42 → 0 < b → b ≤ 42 → (h : Int) ≤ m + 2 → (b : Int) ≤ m + 2 → Keep q H H' → QAt H' q (n + 4) → H p = none → p ≠ q → H' p = some (.tup [.int h, .int b]) → Q (.ref p) H'
theorem sc__law_thin : FnScope ["_law_q", "_law_most", "_law_high", "_law_broad", "_law_way", "_law_more"] ["_law_q", "_law_most"] (defScope s__law_thin) := ⟨rfl, rfl, rfl, by decide +kernel, rfl, by decide +kernel, by decide +kernel⟩
theorem ok_thin {f : Addr} {fd : FuncData} (F : Fun K "_law_thin" "_law_thin" s__law_thin f fd) (T : Blt mg) (c_draw : DrawC P w K mg base) : FnG P w K mg base CX0 4 f fd ["_law_q", "_law_most"] spThin := by
  refine fun_okG F sc__law_thin (fun vs H Q E h => ?_) (fun cdv A' outer s H vs Q E bare hr h => ?_)
  · obtain ⟨q, n, m, rfl, _⟩ := h
    rfl
  · obtain ⟨q, n, m, rfl, hq, hn, hm0, hm1, k⟩ := h
    refine ⟨_, (pss_cons (ps_par (i := 2) (j := 3) (by rfl) sc__law_thin.nd rfl rfl (by decide) rfl rfl (pa_cons (pe_op op_add pe_int (pe_cg c_draw bare hr (by decide) rfl (pa_cons (pv 0) (pa_cons pe_int pa_nil)))) (pa_cons (pe_op op_add pe_int (pe_cg c_draw bare hr (by decide) rfl (pa_cons (pv 0) (pa_cons pe_int pa_nil)))) pa_nil)) (by rfl))
  (pss_cons (ps_par (i := 4) (j := 5) (by rfl) sc__law_thin.nd rfl rfl (by decide) rfl rfl (pa_cons (pe_cg c_draw bare hr (by decide) rfl (pa_cons (pv 0) (pa_cons pe_int pa_nil))) (pa_cons (pe_cg c_draw bare hr (by decide) rfl (pa_cons (pv 0) (pa_cons (pv 1) pa_nil))) pa_nil)) (by rfl))
  (pss_one (ps_ret (pe_ix (ix_listK (K := K)) (pe_lst (pa_cons (pe_tup (pa_cons (pv 2) (pa_cons (pv 3) pa_nil))) (pa_cons (pe_tup (pa_cons (pe_op op_add (pv 2) (pv 5)) (pa_cons (pv 3) pa_nil))) (pa_cons (pe_tup (pa_cons (pv 2) (pa_cons (pe_op op_add (pv 3) (pv 5)) pa_nil))) pa_nil)))) (pv 4) (fun _ _ => rfl)))))), ?_⟩
    refine ⟨_, rfl, q, 3, n, rfl, hq, by omega, by decide, by decide, fun a H1 a0 a1 k1 q1 => ⟨_, _, rfl, rfl, ?_⟩⟩
    refine ⟨_, rfl, q, 3, n + 1, rfl, q1, by omega, by decide, by decide, fun b H2 b0 b1 k2 q2 => ⟨_, _, rfl, rfl, ?_⟩⟩
    refine ⟨_, _, rfl, ?_⟩
    refine ⟨_, rfl, q, 3, n + 2, rfl, q2, by omega, by decide, by decide, fun x H3 x0 x1 k3 q3 => ?_⟩
    refine ⟨_, rfl, _, rfl, q, m, n + 3, rfl, q3, by omega, hm0, by omega, fun y H4 y0 y1 k4 q4 => ?_⟩
    refine ⟨_, _, rfl, ?_⟩
    have kk := k1.trans (k2.trans (k3.trans k4))
    refine ⟨_, rfl, _, rfl, by show 2 ≤ sizeLine; decide, fun t1 ht1 => ?_⟩
    refine ⟨_, rfl, _, rfl, _, _, rfl, rfl, _, rfl, by show 2 ≤ sizeLine; decide, fun t2 ht2 => ?_⟩
    refine ⟨_, rfl, _, rfl, _, rfl, _, _, rfl, rfl, by show 2 ≤ sizeLine; decide, fun t3 ht3 => ?_⟩
    refine ⟨by show 3 ≤ sizeLine; decide, fun l hl => ?_⟩
    have s1 := MG.Same.new (o := .tup [.int (1 + a), .int (1 + b)]) (Same.refl H4) ht1
    have s2 := MG.Same.new (o := .tup [.int (1 + a + y), .int (1 + b)]) (Same.refl _) ht2
    have s3 := MG.Same.new (o := .tup [.int (1 + a), .int (1 + b + y)]) (Same.refl _) ht3
    have s4 := MG.Same.new (o := .lst [.ref t1, .ref t2, .ref t3]) (Same.refl _) hl
    have sA := ((s1.trans s2).trans s3).trans s4
    have kA := kk.same sA
    have qA := q4.keep sA
    have fr : ∀ {t : Addr}, H4 t = none → H t = none ∧ t ≠ q := fun {t} ht => ⟨kk.free (q4.ne ht) ht, q4.ne ht⟩
    have f1 := fr ht1
    have f2 := fr (s1.free ht2)
    have f3 := fr ((s1.trans s2).free ht3)
    obtain ⟨a', rfl⟩ := Int.eq_ofNat_of_zero_le a0
    obtain ⟨b', rfl⟩ := Int.eq_ofNat_of_zero_le b0
    obtain ⟨y', rfl⟩ := Int.eq_ofNat_of_zero_le y0
    have cs : x = 0 ∨ x = 1 ∨ x = 2 := by omega
    have e1 : (1 : Int) + (a' : Int) = ((1 + a' : Nat) : Int) := by omega
    have e2 : (1 : Int) + (b' : Int) = ((1 + b' : Nat) : Int) := by omega
    have e3 : (1 : Int) + (a' : Int) + (y' : Int) = ((1 + a' + y' : Nat) : Int) := by omega
    have e4 : (1 : Int) + (b' : Int) + (y' : Int) = ((1 + b' + y' : Nat) : Int) := by omega
    rcases cs with rfl | rfl | rfl
    · refine ⟨_, rfl, l, _, _, _, rfl, rfl, SqL.of upd_same, rfl, ?_⟩
      refine k t1 (1 + a') (1 + b') _ (by omega) (by omega) (by omega) (by omega) (by omega) (by omega) kA qA f1.1 f1.2 ?_
      rw [← e1, ← e2]
      exact s4 _ _ (s3 _ _ (s2 _ _ upd_same))
    · refine ⟨_, rfl, l, _, _, _, rfl, rfl, SqL.of upd_same, rfl, ?_⟩
      refine k t2 (1 + a' + y') (1 + b') _ (by omega) (by omega) (by omega) (by omega) (by omega) (by omega) kA qA f2.1 f2.2 ?_
      rw [← e3, ← e2]
      exact s4 _ _ (s3 _ _ upd_same)
    · refine ⟨_, rfl, l, _, _, _, rfl, rfl, SqL.of upd_same, rfl, ?_⟩
      refine k t3 (1 + a') (1 + b' + y') _ (by omega) (by omega) (by omega) (by omega) (by omega) (by omega) kA qA f3.1 f3.2 ?_
      rw [← e1, ← e4]
      exact s4 _ _ upd_same
abbrev ThinC (P : Program) (w : World) (K : PySem.W.Frag) (mg : Str → Option Value) (base : Heap) : Prop := CalG P w K mg base 4 "_law_thin" spThin []
/-! ### _law_cells -/
def spCells : Sp := fun vs H Q _ => ∃ (q : Addr) (n h b : Nat), vs = [.ref q, .int h, .int b] ∧ QAt H q n ∧ n + 3 + h * b ≤ 100000 ∧ 0 < h ∧ h ≤ 100 ∧ 0 < b ∧ b ≤ 100 ∧
  ∀ (t : Addr) (A : Nat → Nat → Int) (u : Int) (H' : Hp), Keep q H H' → QAt H' q (n + 3 + h * b) → PrAt (hid q H') t h b A u → Bn h b A u 13 → u ≤ 30 → Q (.ref t) H'
def far4 : List Int := [2, 3, 9, 10 ^ Int.toNat 12]
theorem far4_ok : ∀ z ∈ far4, 2 ≤ z ∧ z ≤ 10 ^ 12 := by decide +kernel
def bel3 : List Int := [1, 4, 30]
theorem bel3_ok : ∀ z ∈ bel3, 1 ≤ z ∧ z ≤ 30 := by decide
theorem sc__law_cells : FnScope ["_law_q", "_law_high", "_law_broad", "_law_far", "_law_below", "_law_cells_here", "_law_i", "_law_j"] ["_law_q", "_law_high", "_law_broad"] (defScope s__law_cells) := ⟨rfl, rfl, rfl, by decide +kernel, rfl, by decide +kernel, by decide +kernel⟩
theorem ok_cells {f : Addr} {fd : FuncData} (F : Fun K "_law_cells" "_law_cells" s__law_cells f fd) (T : Blt mg) (c_draw : DrawC P w K mg base) (c_low : LowTC P w K mg base) : FnG P w K mg base CX0 6 f fd ["_law_q", "_law_high", "_law_broad"] spCells := by
  refine fun_okG F sc__law_cells (fun vs H Q E h => ?_) (fun cdv A' outer s H vs Q E bare hr h => ?_)
  · obtain ⟨q, n, h, b, rfl, _⟩ := h
    rfl
  · obtain ⟨q, n, h, b, rfl, hq, hn, h0, h1, b0, b1, k⟩ := h
    refine ⟨_, (pss_cons (ps_set (i := 3) sc__law_cells.nd rfl (Or.inr rfl) (pe_ix (ix_listK (K := K)) (pe_lst (pa_cons pe_int (pa_cons pe_int (pa_cons pe_int (pa_cons (pe_op op_pow pe_int pe_int) pa_nil))))) (pe_cg c_draw bare hr (by decide) rfl (pa_cons (pv 0) (pa_cons pe_int pa_nil))) (fun _ _ => rfl)))
  (pss_cons (ps_set (i := 4) sc__law_cells.nd rfl (Or.inl rfl) (pe_op op_add pe_int (pe_cg c_draw bare hr (by decide) rfl (pa_cons (pv 0) (pa_cons (pe_ix (ix_listK (K := K)) (pe_lst (pa_cons pe_int (pa_cons pe_int (pa_cons pe_int pa_nil)))) (pe_cg c_draw bare hr (by decide) rfl (pa_cons (pv 0) (pa_cons pe_int pa_nil))) (fun _ _ => rfl)) pa_nil)))))
  (pss_cons (ps_lcI (ps_setLc (i := 5) (own := [("_law_i", 6)]) rfl sc__law_cells.nd rfl rfl (sw_true rfl rfl rfl (by decide +kernel)) (pi_range1 (by rfl) T.b_range (pa_cons (pv 1) pa_nil)) (blkOk_by (N := ["_law_q", "_law_high", "_law_broad", "_law_far", "_law_below", "_law_cells_here", "_law_i", "_law_j"]) (sc := (defScope s__law_cells)) (by decide +kernel)) (fun _ _ _ _ _ => (pg_name (i := 6) sc__law_cells.nd rfl (Or.inl rfl))) (fun _ _ _ _ _ => pts_nil) (fun _ _ _ _ _ => (pe_cut (pe_lcI (pe_lc (own := [("_law_j", 7)]) rfl sc__law_cells.nd (pi_range1 (by rfl) T.b_range (pa_cons (pv 2) pa_nil)) (blkOk_by (N := ["_law_q", "_law_high", "_law_broad", "_law_far", "_law_below", "_law_cells_here", "_law_i", "_law_j"]) (sc := ({ kind := .function, names := [(PySem.Str.ofString ".0", .local), (PySem.Str.ofString "_law_i", .local), (PySem.Str.ofString "range", .globalImplicit), (PySem.Str.ofString "_law_broad", .cell), (PySem.Str.ofString "_law_far", .cell), (PySem.Str.ofString "_law_q", .cell)], isGenerator := false, isCoroutine := false } : Scope)) (by decide +kernel)) (fun _ _ _ _ _ => (pg_name (i := 7) sc__law_cells.nd rfl (Or.inl rfl))) (fun _ _ _ _ _ => pts_nil) (fun _ _ _ _ _ => (pe_cut (pe_op op_sub (pe_cg c_draw bare hr (by decide) rfl (pa_cons (pv 0) (pa_cons (pe_op op_add (pe_op op_mulW pe_int (pv 3)) pe_int) pa_nil))) (pv 3))))))))))
  (pss_one (ps_ret (pe_cg c_low bare hr (by decide) rfl (pa_cons (pe_tup (pa_cons (pv 5) (pa_cons (pv 4) pa_nil))) pa_nil))))))), ?_⟩
    -- far
    refine ⟨_, _, rfl, rfl, ⟨by decide, by decide, by decide⟩, by show 4 ≤ sizeLine; decide, fun p hp => ?_⟩
    refine ⟨_, rfl, q, 4, n, rfl, hq.new hp, by omega, by decide, by decide, fun r H1 r0 r1 k1 q1 => ?_⟩
    obtain ⟨y, hy, ey⟩ := at_ints (l := far4) r0 (by show r < 4; exact r1)
    obtain ⟨y0, y1⟩ := far4_ok y hy
    refine ⟨p, _, _, _, rfl, rfl, SqL.of (k1 _ _ upd_same (hq.ne hp)), ey, ?_⟩
    -- below
    refine ⟨_, rfl, by show 3 ≤ sizeLine; decide, fun p2 hp2 => ?_⟩
    refine ⟨_, rfl, q, 3, n + 1, rfl, q1.new hp2, by omega, by decide, by decide, fun r2 H2 r20 r21 k2 q2 => ?_⟩
    obtain ⟨x, hx, ex⟩ := at_ints (l := bel3) r20 (by show r2 < 3; exact r21)
    obtain ⟨x0, x1⟩ := bel3_ok x hx
    refine ⟨p2, _, _, _, rfl, rfl, SqL.of (k2 _ _ upd_same (q1.ne hp2)), ex, ?_⟩
    refine ⟨q, x, n + 2, rfl, q2, by omega, by omega, by omega, fun u H3 u0 u1 k3 q3 => ⟨_, _, rfl, rfl, ?_⟩⟩
    have kk : Keep q H H3 := ((Keep.refl.new hp).trans k1).trans ((Keep.refl.new hp2).trans (k2.trans k3))
    clear k1 k2 k3 q1 q2
    -- the cells
    refine ⟨_, rfl, (h : Int), rfl, by omega, by omega, fun D hD => ?_⟩
    have hh : ((h : Int)).toNat = h := by omega
    rw [hh]
    have nqD : q ≠ D := (q3.ne hD).symm
    refine lc_keep (q := q) (walk_range (lo := 0) (n := h)) hD (by obtain ⟨o, e⟩ := q3.at_; rw [e]; exact nofun) (by omega) (fun i G => QAt G q (n + 3 + i * b)) (fun m G G' h s => h.keep s) (fun m G kG h => QAt.down q3 kG h hD) (by rw [Nat.zero_mul]; exact q3)
      (fun i y G => ∃ p g, y = .ref p ∧ G p = some (.lst (rowV b g)) ∧ ∀ j, j < b → (g j).natAbs ≤ 10 ^ 12) (fun i y G G' ⟨p, g, e, h, z⟩ s => ⟨p, g, e, s _ _ h, z⟩) (fun G kG => trivial) yfn_same (fun i v H4 H4' hi k4 q4 nD hy => ?_) fun ys H4 hl4 k4 q4 e4 h4 => ?_
    · obtain ⟨rfl, rfl⟩ := hy
      refine ⟨_, fun _ h => h, wipe_one, ?_⟩
      refine ⟨_, rfl, (b : Int), rfl, by omega, by omega, fun D2 hD2 => ?_⟩
      have hb : ((b : Int)).toNat = b := by omega
      rw [hb]
      have hib : i * b + b ≤ h * b := by
        have : (i + 1) * b ≤ h * b := Nat.mul_le_mul_right _ (by omega)
        rw [Nat.succ_mul] at this
        exact this
      have nqD2 : q ≠ D2 := (q4.ne hD2).symm
      refine lc_keep (q := q) (walk_range (lo := 0) (n := b)) hD2 (by obtain ⟨o, e⟩ := q4.at_; rw [e]; exact nofun) (by omega) (fun j G => QAt G q (n + 3 + i * b + j)) (fun m G G' h s => h.keep s) (fun m G kG h => QAt.down q4 kG h hD2) q4
        (fun j y G => ∃ z : Int, y = .int z ∧ z.natAbs ≤ 10 ^ 12) (fun j y G G' h s => h) (fun G kG => trivial) yfn_same (fun j v H5 H5' hj k5 q5 nD2 hy => ?_) fun ys2 H5 hl5 k5 q5 e5 h5 => ?_
      · obtain ⟨rfl, rfl⟩ := hy
        refine ⟨_, fun _ h => h, wipe_one, ?_⟩
        refine ⟨_, rfl, _, rfl, _, _, rfl, rfl, sm_mul (sm_lt (k := 1) (by decide) (by decide) (by decide)) (sm_lt (k := 20) (by decide) (by omega) (by omega)), _, _, rfl, rfl, q, _, _, rfl, q5, by omega, by omega, by omega, fun z H6 z0 z1 k6 q6 => ?_⟩
        exact ⟨_, rfl, _, _, rfl, rfl, k6, q6, fun _ => ⟨_, rfl, by omega⟩⟩
      · have sel : ∃ g : Nat → Int, (∀ (j : Nat) (y : V), ys2[j]? = some y → y = .int (g j)) ∧ ∀ j, j < b → (g j).natAbs ≤ 10 ^ 12 := by
          refine ⟨fun j => match ys2[j]? with | some (.int z) => z | _ => 0, fun j y hy => ?_, fun j hj => ?_⟩
          · obtain ⟨z, rfl, _⟩ := h5 j y hy
            show V.int z = V.int (match ys2[j]? with | some (.int z) => z | _ => 0)
            rw [hy]
          · have hy : ys2[j]? = some ys2[j] := List.getElem?_eq_getElem (by omega)
            obtain ⟨z, e, hz⟩ := h5 j _ hy
            show (match ys2[j]? with | some (.int z) => z | _ => 0 : Int).natAbs ≤ 10 ^ 12
            rw [hy, e]
            exact hz
        obtain ⟨g, hg, gb⟩ := sel
        refine ⟨k5, ?_, fun _ => ⟨D2, g, rfl, ?_, gb⟩⟩
        · have : n + 3 + i * b + b = n + 3 + (i + 1) * b := by rw [Nat.succ_mul]; omega
          rw [← this]; exact q5
        · have n : D2 ≠ D := fun q => nD (q ▸ hD2)
          rw [hid_ne nqD2.symm, hid_ne n, e5]
          exact congrArg _ (congrArg _ (ints_of hl5 hg))
    -- return low((cells, below))
    have sel : ∃ A : Nat → Nat → Int, (∀ (i : Nat) (y : V), ys[i]? = some y → RowR b A i y (hid q (hid D H4))) ∧ ∀ i j, i < h → j < b → (A i j).natAbs ≤ 10 ^ 12 := by
      have pick : ∀ i : Nat, ∃ g : Nat → Int, ∀ y : V, ys[i]? = some y → (∃ p, y = V.ref p ∧ (hid q (hid D H4)) p = some (.lst (rowV b g))) ∧ ∀ j, j < b → (g j).natAbs ≤ 10 ^ 12 := fun i => by
        cases e : ys[i]? with
        | none => exact ⟨fun _ => 0, fun y hy => by cases hy⟩
        | some y =>
          obtain ⟨p, g, e1, e2, e3⟩ := h4 i y e
          refine ⟨g, fun y' hy' => ?_⟩
          cases hy'
          exact ⟨⟨p, e1, e2⟩, e3⟩
      refine ⟨fun i => (pick i).choose, fun i y hy => ((pick i).choose_spec y hy).1, fun i j hi hj => ?_⟩
      have hy : ys[i]? = some ys[i] := List.getElem?_eq_getElem (by omega)
      exact ((pick i).choose_spec _ hy).2 j hj
    obtain ⟨A, hA, bA⟩ := sel
    have nDq : D ≠ q := nqD.symm
    have eD : (hid q H4) D = some (.lst ys) := by rw [hid_ne nDq]; exact e4
    have hq2 : Same (hid q (hid D H4)) (hid q H4) := hid_mono (hid_same D H4)
    have hLL : LL (hid q H4) D h b A := ⟨ys, eD, hl4, fun i y hy => (hA i y hy).elim fun p e => ⟨p, e.1, hq2 _ _ e.2⟩⟩
    refine ⟨_, rfl, _, rfl, by show 2 ≤ sizeLine; decide, fun T2 hT2 => ?_⟩
    have s3 := MG.Same.new (o := .tup [.ref D, .int (1 + u)]) (Same.refl H4) hT2
    have nT : T2 ≠ q := q4.ne hT2
    have bn : Bn h b A (1 + u) 13 := ⟨by omega, by omega, fun i j hi hj => Nat.lt_of_le_of_lt (bA i j hi hj) (by decide)⟩
    have eT : (hid q (upd H4 T2 (.tup [.ref D, .int (1 + u)]))) T2 = some (.tup [.ref D, .int (1 + u)]) := by rw [hid_ne nT]; exact upd_same
    refine ⟨T2, h, b, A, 1 + u, 13, rfl, ⟨D, upd_same, (hLL.same (hid_same q H4)).same s3⟩, by omega, by omega, bn, by decide, fun t' H' A'' u' s4 hP bn' dv vals => ?_⟩
    have s34 := s3.trans s4
    have qF := q4.keep s34
    have u30 : u' ≤ 30 := Int.le_trans (Int.le_of_dvd (by omega) dv) (by omega)
    exact k t' A'' u' H' ((kk.trans k4).same s34) qF (hP.hq qF) bn' u30
abbrev CellsC (P : Program) (w : World) (K : PySem.W.Frag) (mg : Str → Option Value) (base : Heap) : Prop := CalG P w K mg base 6 "_law_cells" spCells []
end
end Lw

namespace Lw
open PySem PySem.Spec PyProof.Rows L2 MG
abbrev s__law_tried : Stmt := top 46
abbrev s__law_agrees : Stmt := top 47
abbrev s__law_sum_due : Stmt := top 48
abbrev s__law_product_due : Stmt := top 49
section
variable {P : Program} {w : World} {K : PySem.W.Frag} {mg : Str → Option Value} {base : Heap} {C CM CX : Addr}
/-! ### what is told, what is due -/
structure MisAt (K : PySem.W.Frag) (H : Hp) (p : Addr) (d : PyData) : Prop where
  at_ : ∃ y z t, H p = some (.tup [y, z]) ∧ TyX K H y t ∧ PySem.W.kitOne K t (.type "list") = some false
  dp : Dp K H (.ref p) d
  ok : Okd d 20000 2
theorem MisAt.same {H H' : Hp} {p : Addr} {d : PyData} (h : MisAt K H p d) (s : Same H H') : MisAt K H' p d := by
  obtain ⟨⟨y, z, t, e, ty, kt⟩, dp, ok⟩ := h
  exact ⟨⟨y, z, t, s _ _ e, MG.TyX.same ty s, kt⟩, MG.Dp.same s dp, ok⟩
def dP (r c r2 c2 : Nat) : PyData := .tuple [.tuple [.int r, .int c], .tuple [.int r2, .int c2]]
def dQ (c r2 : Nat) : PyData := .tuple [.int c, .int r2]
theorem smN {n : Nat} (h : n ≤ 1000) : Sm (n : Int) := sm_lt (k := 4) (by decide) (by omega) (by omega)
theorem tupleText_bd {ts : List Str} {n : Nat} (h : ∀ t ∈ ts, t.length ≤ n) (hl : 2 ≤ ts.length) : (tupleText ts).length ≤ (n + 2) * ts.length + 2 := by
  have h1 := piled_le h
  have h2 := join_length_add ts (by intro z; rw [z] at hl; simp at hl)
  unfold tupleText
  rw [strLen_append, strLen_append]
  have e1 : (("(" : Str)).length = 1 := rfl
  have e2 : (Str.ofString (if (ts.length == 1) = true then ",)" else ")" : String)).length ≤ 2 := by split <;> decide
  omega
theorem okd_dP {r c r2 c2 : Nat} (h1 : r ≤ 1000) (h2 : c ≤ 1000) (h3 : r2 ≤ 1000) (h4 : c2 ≤ 1000) : Okd (dP r c r2 c2) 20000 2 := by
  have o1 := okd_pair (smN h1) (smN h2)
  have o2 := okd_pair (smN h3) (smN h4)
  refine ⟨?_, rfl, ?_, ?_⟩
  · unfold dP
    simp only [PyData.showable, PyData.showableAll, Bool.and_true, Bool.and_eq_true]
    have a := o1.sh
    have b := o2.sh
    simp only [PyData.showable, PyData.showableAll, Bool.and_true, Bool.and_eq_true] at a b
    exact ⟨a, b⟩
  · simp [dP, PyData.depth, PyData.depthAll]
  · have e : (dP r c r2 c2).shown = tupleText [(PyData.tuple [.int r, .int c]).shown, (PyData.tuple [.int r2, .int c2]).shown] := by
      unfold dP
      rw [PyData.shown, shownAll_map]
      rfl
    rw [e]
    refine Nat.le_trans (tupleText_bd (n := 4000) (fun t ht => ?_) (by simp)) (by simp)
    rcases List.mem_cons.mp ht with rfl | ht
    · exact o1.ln
    · have e := List.mem_singleton.mp ht
      rw [e]
      exact o2.ln
theorem okd_dQ {c r2 : Nat} (h1 : c ≤ 1000) (h2 : r2 ≤ 1000) : Okd (dQ c r2) 20000 2 := by
  have o := okd_pair (smN h1) (smN h2)
  exact ⟨o.sh, o.nd, Nat.le_trans o.dp (by decide), Nat.le_trans o.ln (by decide)⟩
theorem misP {H : Hp} {p t1 t2 : Addr} {r c r2 c2 : Nat} (e : H p = some (.tup [.ref t1, .ref t2])) (e1 : H t1 = some (.tup [.int r, .int c])) (e2 : H t2 = some (.tup [.int r2, .int c2])) (h1 : r ≤ 1000) (h2 : c ≤ 1000) (h3 : r2 ≤ 1000) (h4 : c2 ≤ 1000) : MisAt K H p (dP r c r2 c2) :=
  ⟨⟨_, _, _, e, .base (.tup e1), kit_ty (by decide +kernel)⟩, .tup (SqT.of e) (.cons (.tup (SqT.of e1) (.cons (.int _) (.cons (.int _) .nil))) (.cons (.tup (SqT.of e2) (.cons (.int _) (.cons (.int _) .nil))) .nil)), okd_dP h1 h2 h3 h4⟩
theorem misQ {H : Hp} {p : Addr} {c r2 : Nat} (e : H p = some (.tup [.int c, .int r2])) (h1 : c ≤ 1000) (h2 : r2 ≤ 1000) : MisAt K H p (dQ c r2) :=
  ⟨⟨_, _, _, e, tyx_int _, kit_ty (by decide +kernel)⟩, .tup (SqT.of e) (.cons (.int _) (.cons (.int _) .nil)), okd_dQ h1 h2⟩
/-- what is told -/
def ResT (K : PySem.W.Frag) (C CM : Addr) (H : Hp) (v : V) (cond : Prop) (r c : Nat) (f : Nat → Nat → Rat) (d : PyData) : Prop := (cond ∧ ∃ m, v = .ref m ∧ MtAt C CM H m r c f) ∨ (¬ cond ∧ ∃ p, v = .ref p ∧ MisAt K H p d)
theorem ResT.same {H H' : Hp} {v : V} {cond : Prop} {r c : Nat} {f : Nat → Nat → Rat} {d : PyData} (h : ResT K C CM H v cond r c f d) (s : Same H H') : ResT K C CM H' v cond r c f d := by
  rcases h with ⟨a, m, e, h⟩ | ⟨a, p, e, h⟩
  · exact .inl ⟨a, m, e, h.same s⟩
  · exact .inr ⟨a, p, e, h.same s⟩
/-- what is due -/
def DueT (K : PySem.W.Frag) (H : Hp) (t : Addr) (cond : Prop) (r c : Nat) (f : Nat → Nat → Rat) (d : PyData) : Prop := (cond ∧ ∃ A u, PrAt H t r c A u ∧ Bn r c A u 390 ∧ ∀ i j, i < r → j < c → qv A u i j = f i j) ∨ (¬ cond ∧ MisAt K H t d)
theorem DueT.same {H H' : Hp} {t : Addr} {cond : Prop} {r c : Nat} {f : Nat → Nat → Rat} {d : PyData} (h : DueT K H t cond r c f d) (s : Same H H') : DueT K H' t cond r c f d := by
  rcases h with ⟨a, A, u, h, z⟩ | ⟨a, h⟩
  · exact .inl ⟨a, A, u, h.same s, z⟩
  · exact .inr ⟨a, h.same s⟩
def Agr (K : PySem.W.Frag) (C CM : Addr) (H : Hp) (v : V) (t : Addr) : Prop := ∃ (cond : Prop) (r c : Nat) (f g : Nat → Nat → Rat) (d : PyData), ResT K C CM H v cond r c f d ∧ DueT K H t cond r c g d ∧ r ≤ 60 ∧ c ≤ 60 ∧ ∀ i j, i < r → j < c → f i j = g i j
theorem Agr.same {H H' : Hp} {v : V} {t : Addr} (h : Agr K C CM H v t) (s : Same H H') : Agr K C CM H' v t := by
  obtain ⟨cond, r, c, f, g, d, h1, h2, h3⟩ := h
  exact ⟨cond, r, c, f, g, d, h1.same s, h2.same s, h3⟩
/-! ### _law_tried -/
theorem lk1 {x y : V} : ([("second", y), ("first", x)] : List (Str × V)).lookup ("first" : Str) = some x := by
  have h : (("first" : Str) == "second") = false := by decide +kernel
  simp [List.lookup, h]
theorem lk2 {x y : V} : ([("second", y), ("first", x)] : List (Str × V)).lookup ("second" : Str) = some y := by simp [List.lookup]
def spTried (K : PySem.W.Frag) (C CM : Addr) : Sp := fun vs H Q _ => ∃ (a b : Addr) (ws : Str) (r c r2 c2 : Nat) (f g : Nat → Nat → Rat), vs = [.ref a, .ref b, .str ws] ∧ MtAt C CM H a r c f ∧ MtAt C CM H b r2 c2 g ∧ Sz r c ∧ Sz r2 c2 ∧ Bds r c f 150 ∧ Bds r2 c2 g 150 ∧
  ((ws = "plus" ∧ ∀ v H', Same H H' → ResT K C CM H' v (r = r2 ∧ c = c2) r c (fun i j => f i j + g i j) (dP r c r2 c2) → Q v H') ∨
   (ws = "less" ∧ ∀ v H', Same H H' → ResT K C CM H' v (r = r2 ∧ c = c2) r c (fun i j => f i j - g i j) (dP r c r2 c2) → Q v H') ∨
   (ws = "times" ∧ (c = r2 → ∃ U V', Den r c f U ∧ Den r2 c2 g V') ∧ ∀ v H', Same H H' → ResT K C CM H' v (c = r2) r c2 (mulQ c f g) (dQ c r2) → Q v H'))
abbrev MAddC (P : Program) (w : World) (K : PySem.W.Frag) (mg : Str → Option Value) (base : Heap) (C CM CX : Addr) : Prop := OpXF P w K mg base 12 CM C .Add (spMBin C CM CX fun p q => p + q)
abbrev MSubC (P : Program) (w : World) (K : PySem.W.Frag) (mg : Str → Option Value) (base : Heap) (C CM CX : Addr) : Prop := OpXF P w K mg base 12 CM C .Sub (spMBin C CM CX fun p q => p - q)
theorem ne_str {a b : Str} (h : (a == b) = false) : decide (V.str a = V.str b) = false := decide_eq_false fun e => by
  cases e
  simp at h
theorem sc__law_tried : FnScope ["_law_one", "_law_two", "_law_word", "e"] ["_law_one", "_law_two", "_law_word"] (defScope s__law_tried) := ⟨rfl, rfl, rfl, by decide +kernel, rfl, by decide +kernel, by decide +kernel⟩
theorem ok_tried {f : Addr} {fd : FuncData} (F : Fun K "_law_tried" "_law_tried" s__law_tried f fd) (T : TxM K mg C CM) (x_mis : XmC P w K mg base CX) (o_madd : MAddC P w K mg base C CM CX) (o_msub : MSubC P w K mg base C CM CX) (o_mmul : MMulC P w K mg base C CM CX) : FnG P w K mg base CX0 14 f fd ["_law_one", "_law_two", "_law_word"] (spTried K C CM) := by
  refine fun_okG F sc__law_tried (fun vs H Q E h => ?_) (fun cdv A' outer s H vs Q E bare hr h => ?_)
  · obtain ⟨a, b, ws, r, c, r2, c2, f, g, rfl, _⟩ := h
    rfl
  · obtain ⟨a, b, ws, r, c, r2, c2, f, g, rfl, hA, hB, zA, zB, bA, bB, h⟩ := h
    obtain ⟨dx, t, ea, _⟩ := id hA
    obtain ⟨dy, u, eb, _⟩ := id hB
    refine ⟨_, (pss_one (ps_try_cut (i := 3) (Wout := fun _ _ _ _ => False) rfl rfl sc__law_tried.nd rfl rfl ⟨rfl, by decide, Or.inl x_mis.g⟩ takesN0
  (fun W pn xe tk _ => (pss_cons (ps_if (pt_cmpR op_eq (pv 2) pe_str (nomark _)) (pss_one (ps_ret (pe_opX o_madd.x hr (by decide) tk (pv 0) (pv 1))))
  pss_nil)
  (pss_cons (ps_if (pt_cmpR op_eq (pv 2) pe_str (nomark _)) (pss_one (ps_ret (pe_opX o_msub.x hr (by decide) tk (pv 0) (pv 1))))
  pss_nil)
  (pss_one (ps_ret (pe_opX o_mmul.x hr (by decide) tk (pv 0) (pv 1)))))))
  (fun a oe cls d pn hz hf => (pss_one (ps_ret (pe_tup (pa_cons (pe_xf (C := CX) x_mis.xf x_mis.no1 hz.zc hf (pv 3)) (pa_cons (pe_xf (C := CX) x_mis.xf x_mis.no2 hz.zc hf (pv 3)) pa_nil)))))))), ?_⟩
    refine ⟨fun cls d σ' H' => cls = .ref CX ∧ σ' = [some (.ref a), some (.ref b), some (.str ws), none] ∧ ∃ dd x y, d = some dd ∧ H' dd = some (.xd [("second", y), ("first", x)]) ∧ ∀ p, H' p = none → Q (.ref p) (upd H' p (.tup [x, y])), ?_, ?_⟩
    · rintro cls d σ' H' ⟨rfl, rfl, dd, x, y, rfl, ed, k⟩
      refine ⟨true, x_mis.te, fun _ a ha => ?_, fun q => Bool.noConfusion q⟩
      exact ⟨_, rfl, rfl, rfl, dd, _, _, rfl, ed, lk1, _, rfl, rfl, rfl, dd, _, _, rfl, ed, lk2, by show 2 ≤ sizeLine; decide, fun p hp => k p hp⟩
    rcases h with ⟨rfl, k⟩ | ⟨rfl, k⟩ | ⟨rfl, hden, k⟩
    · refine ⟨_, rfl, rfl, _, rfl, ifT (decide_eq_true rfl) ?_⟩
      refine ⟨_, rfl, _, rfl, a, dx, _, b, dy, _, rfl, ea, rfl, eb, a, b, r, c, r2, c2, f, g, rfl, hA, hB, zA, zB, bA, bB, fun heq m H' s h => k _ H' s (.inl ⟨heq, m, rfl, h⟩), fun hne H' t1 t2 s e1 e2 d H2 s2 n e => ?_⟩
      refine ⟨rfl, rfl, d, _, _, rfl, e, fun p hp => ?_⟩
      have s3 := MG.Same.new (o := .tup [.ref t1, .ref t2]) s2 hp
      exact k _ _ (s.trans s3) (.inr ⟨hne, p, rfl, misP upd_same (s3 _ _ e1) (s3 _ _ e2) zA.2.1 zA.2.2.2 zB.2.1 zB.2.2.2⟩)
    · refine ⟨_, rfl, rfl, _, rfl, ifF (ne_str (by decide +kernel)) ?_⟩
      refine ⟨_, rfl, rfl, _, rfl, ifT (decide_eq_true rfl) ?_⟩
      refine ⟨_, rfl, _, rfl, a, dx, _, b, dy, _, rfl, ea, rfl, eb, a, b, r, c, r2, c2, f, g, rfl, hA, hB, zA, zB, bA, bB, fun heq m H' s h => k _ H' s (.inl ⟨heq, m, rfl, h⟩), fun hne H' t1 t2 s e1 e2 d H2 s2 n e => ?_⟩
      refine ⟨rfl, rfl, d, _, _, rfl, e, fun p hp => ?_⟩
      have s3 := MG.Same.new (o := .tup [.ref t1, .ref t2]) s2 hp
      exact k _ _ (s.trans s3) (.inr ⟨hne, p, rfl, misP upd_same (s3 _ _ e1) (s3 _ _ e2) zA.2.1 zA.2.2.2 zB.2.1 zB.2.2.2⟩)
    · refine ⟨_, rfl, rfl, _, rfl, ifF (ne_str (by decide +kernel)) ?_⟩
      refine ⟨_, rfl, rfl, _, rfl, ifF (ne_str (by decide +kernel)) ?_⟩
      refine ⟨_, rfl, _, rfl, a, dx, _, b, dy, _, rfl, ea, rfl, eb, a, .ref b, r, c, f, rfl, hA, zA, bA, .inr ⟨b, r2, c2, g, rfl, hB, zB, bB, fun heq => ?_, fun hne H' s d H2 s2 n e => ?_⟩⟩
      · obtain ⟨U, V', d1, d2⟩ := hden heq
        exact ⟨U, V', d1, d2, fun m H' s h => k _ H' s (.inl ⟨heq, m, rfl, h⟩)⟩
      · refine ⟨rfl, rfl, d, _, _, rfl, e, fun p hp => ?_⟩
        have s3 := MG.Same.new (o := .tup [.int c, .int r2]) s2 hp
        exact k _ _ (s.trans s3) (.inr ⟨hne, p, rfl, misQ upd_same zA.2.2.2 zB.2.1⟩)
abbrev TriedC (P : Program) (w : World) (K : PySem.W.Frag) (mg : Str → Option Value) (base : Heap) (C CM : Addr) : Prop := CalG P w K mg base 14 "_law_tried" (spTried K C CM) []
/-! ### _law_agrees -/
def spAgrees (K : PySem.W.Frag) (C CM : Addr) : Sp := fun vs H Q _ => ∃ (v : V) (t : Addr), vs = [v, .ref t] ∧ Agr K C CM H v t ∧ ∀ H', Same H H' → Q (.bl true) H'
theorem sc__law_agrees : FnScope ["_law_told_here", "_law_due"] ["_law_told_here", "_law_due"] (defScope s__law_agrees) := ⟨rfl, rfl, rfl, by decide +kernel, rfl, by decide +kernel, by decide +kernel⟩
theorem ok_agrees {f : Addr} {fd : FuncData} (F : Fun K "_law_agrees" "_law_agrees" s__law_agrees f fd) (T : TxM K mg C CM) (c_is : IsC P w K mg base C CM) : FnG P w K mg base CX0 10 f fd ["_law_told_here", "_law_due"] (spAgrees K C CM) := by
  refine fun_okG F sc__law_agrees (fun vs H Q E h => ?_) (fun cdv A' outer s H vs Q E bare hr h => ?_)
  · obtain ⟨v, t, rfl, _⟩ := h
    rfl
  · obtain ⟨v, t, rfl, ⟨cond, r, c, f, g, d, h1, h2, hr1, hc1, hfg⟩, k⟩ := h
    have hu64 := hr.units
    refine ⟨_, (pss_cons (ps_if (pt_val (pe_callB (id := "isinstance") (call_isiK (K := K)) (by rfl) T.b_isinstance (by decide +kernel) (pa_cons (pe_ix (ix_tupK (K := K)) (pv 1) pe_int (fun _ _ => rfl)) (pa_cons (pe_bltn (v := V.ty "list") (u := Value.type "list") (by rfl) T.b_list (by decide +kernel) rfl) pa_nil)))) (pss_one (ps_ret (pe_cg c_is bare hr (by decide) rfl (pa_cons (pv 0) (pa_cons (pv 1) pa_nil)))))
  pss_nil)
  (pss_one (ps_ret (pe_cmpR op_eq (pe_callB (id := "repr") (call_reprK (K := K) bare hu64) (by rfl) T.b_repr (by decide +kernel) (pa_cons (pv 0) pa_nil)) (pe_callB (id := "repr") (call_reprK (K := K) bare hu64) (by rfl) T.b_repr (by decide +kernel) (pa_cons (pv 1) pa_nil)) (nomark _))))), ?_⟩
    by_cases hc : cond
    · obtain ⟨_, m, rfl, hM⟩ := h1.resolve_right fun z => z.1 hc
      obtain ⟨_, A, u, hP, bn, hv⟩ := h2.resolve_right fun z => z.1 hc
      obtain ⟨L, ht, rs, hL, _⟩ := id hP
      refine ⟨_, rfl, t, _, _, _, rfl, rfl, SqT.of ht, rfl, .ref L, _, _, _, _, rfl, .ty "list", .base (.lst hL), kit_ty (by decide +kernel), _, rfl, iteT ?_⟩
      have e : ∀ i j, i < r → j < c → f i j = qv A u i j := fun i j hi hj => (hfg i j hi hj).trans (hv i j hi hj).symm
      refine ⟨_, rfl, _, rfl, m, t, r, c, f, A, u, rfl, hM, hP, hr1, hc1, by have := bn.pos; omega, smI bn.ub (by decide), fun i j hi hj => ?_, e, k⟩
      rw [e i j hi hj]
      exact bn.bds i j hi hj
    · obtain ⟨_, p, rfl, hM⟩ := h1.resolve_left fun z => hc z.1
      obtain ⟨_, hD⟩ := h2.resolve_left fun z => hc z.1
      obtain ⟨y, z, ty, et, tx, kt⟩ := hD.at_
      refine ⟨_, rfl, t, _, _, _, rfl, rfl, SqT.of et, rfl, y, _, _, _, _, rfl, .ty "list", tx, kt, _, rfl, iteF ?_⟩
      refine ⟨_, rfl, .ref p, _, rfl, hM.dp, hM.ok.sh, hM.ok.nd, Nat.le_trans hM.ok.dp (by decide), Nat.le_trans hM.ok.ln (by decide), ?_⟩
      refine ⟨_, rfl, .ref t, _, rfl, hD.dp, hD.ok.sh, hD.ok.nd, Nat.le_trans hD.ok.dp (by decide), Nat.le_trans hD.ok.ln (by decide), rfl, ?_⟩
      rw [decide_eq_true rfl]
      exact k H (Same.refl H)
abbrev AgreesC (P : Program) (w : World) (K : PySem.W.Frag) (mg : Str → Option Value) (base : Heap) (C CM : Addr) : Prop := CalG P w K mg base 10 "_law_agrees" (spAgrees K C CM) []
/-! ### what is due -/
def spSumDue (K : PySem.W.Frag) : Sp := fun vs H Q _ => ∃ (t u : Addr) (r c r2 c2 : Nat) (A B : Nat → Nat → Int) (v x sg : Int), vs = [.ref t, .ref u, .int sg] ∧ PrAt H t r c A v ∧ PrAt H u r2 c2 B x ∧ Sz r c ∧ Sz r2 c2 ∧ Bn r c A v 150 ∧ Bn r2 c2 B x 150 ∧ (sg = 1 ∨ sg = -1) ∧
  ∀ t' H', Same H H' → DueT K H' t' (r = r2 ∧ c = c2) r c (fun i j => qv A v i j + Rat.divInt sg 1 * qv B x i j) (dP r c r2 c2) → Q (.ref t') H'
theorem sc__law_sum_due : FnScope ["_law_one", "_law_two", "_law_sign"] ["_law_one", "_law_two", "_law_sign"] (defScope s__law_sum_due) := ⟨rfl, rfl, rfl, by decide +kernel, rfl, by decide +kernel, by decide +kernel⟩
theorem ok_sumdue {f : Addr} {fd : FuncData} (F : Fun K "_law_sum_due" "_law_sum_due" s__law_sum_due f fd) (T : Blt mg) (c_shape : ShapeC P w K mg base) (c_plus : PlusC P w K mg base) : FnG P w K mg base CX0 8 f fd ["_law_one", "_law_two", "_law_sign"] (spSumDue K) := by
  refine fun_okG F sc__law_sum_due (fun vs H Q E h => ?_) (fun cdv A' outer s H vs Q E bare hr h => ?_)
  · obtain ⟨t, u, r, c, r2, c2, A, B, v, x, sg, rfl, _⟩ := h
    rfl
  · obtain ⟨t, u, r, c, r2, c2, A, B, v, x, sg, rfl, hA, hB, zA, zB, bA, bB, hs, k⟩ := h
    have hu64 := hr.units
    refine ⟨_, (pss_cons (ps_if (pt_cmpR (op_neD hu64) (pe_cg c_shape bare hr (by decide) rfl (pa_cons (pv 0) pa_nil)) (pe_cg c_shape bare hr (by decide) rfl (pa_cons (pv 1) pa_nil)) (nomark _)) (pss_one (ps_ret (pe_tup (pa_cons (pe_cg c_shape bare hr (by decide) rfl (pa_cons (pv 0) pa_nil)) (pa_cons (pe_cg c_shape bare hr (by decide) rfl (pa_cons (pv 1) pa_nil)) pa_nil)))))
  pss_nil)
  (pss_one (ps_ret (pe_cg c_plus bare hr (by decide) rfl (pa_cons (pv 0) (pa_cons (pv 1) (pa_cons (pv 2) pa_nil))))))), ?_⟩
    refine ⟨_, rfl, t, r, c, A, v, rfl, hA, zA.1, fun p hp => ?_⟩
    have s1 := MG.Same.new (o := .tup [.int r, .int c]) (Same.refl H) hp
    refine ⟨_, rfl, u, r2, c2, B, x, rfl, hB.same s1, zB.1, fun p2 hp2 => ?_⟩
    have s2 := MG.Same.new (o := .tup [.int r2, .int c2]) (Same.refl _) hp2
    refine ⟨.tuple [.int r, .int c], .tuple [.int r2, .int c2], .tup (SqT.of (s2 _ _ upd_same)) (.cons (.int _) (.cons (.int _) .nil)), .tup (SqT.of upd_same) (.cons (.int _) (.cons (.int _) .nil)), rfl, rfl, _, rfl, ?_⟩
    rw [eqv_ints]
    have s12 := s1.trans s2
    by_cases heq : r = r2 ∧ c = c2
    · rw [decide_eq_true heq]
      refine iteF ?_
      obtain ⟨rfl, rfl⟩ := heq
      exact ⟨_, rfl, _, rfl, _, rfl, t, u, r, c, A, B, v, x, sg, 150, rfl, hA.same s12, hB.same s12, zA.2.1, zA.2.2.2, by decide, bA, bB, hs, fun t' H' A' u' s3 hP bn hv => k t' H' (s12.trans s3) (.inl ⟨⟨rfl, rfl⟩, A', u', hP, bn.mono (by decide), hv⟩)⟩
    · rw [decide_eq_false heq]
      refine iteT ?_
      refine ⟨_, rfl, t, r, c, A, v, rfl, hA.same s12, zA.1, fun p3 hp3 => ?_⟩
      have s3 := MG.Same.new (o := .tup [.int r, .int c]) s12 hp3
      refine ⟨_, rfl, u, r2, c2, B, x, rfl, hB.same s3, zB.1, fun p4 hp4 => ⟨by show 2 ≤ sizeLine; decide, fun p5 hp5 => ?_⟩⟩
      have s4 := MG.Same.new (o := .tup [.int r2, .int c2]) (Same.refl _) hp4
      have s5 := MG.Same.new (o := .tup [.ref p3, .ref p4]) (Same.refl _) hp5
      exact k p5 _ ((s3.trans s4).trans s5) (.inr ⟨heq, misP upd_same (s5 _ _ (s4 _ _ upd_same)) (s5 _ _ upd_same) zA.2.1 zA.2.2.2 zB.2.1 zB.2.2.2⟩)
abbrev SumDueC (P : Program) (w : World) (K : PySem.W.Frag) (mg : Str → Option Value) (base : Heap) : Prop := CalG P w K mg base 8 "_law_sum_due" (spSumDue K) []
def spProdDue (K : PySem.W.Frag) : Sp := fun vs H Q _ => ∃ (t u : Addr) (r c r2 c2 : Nat) (A B : Nat → Nat → Int) (v x : Int), vs = [.ref t, .ref u] ∧ PrAt H t r c A v ∧ PrAt H u r2 c2 B x ∧ (0 < r ∧ r ≤ 60 ∧ 0 < c ∧ c ≤ 60) ∧ (0 < r2 ∧ r2 ≤ 60 ∧ 0 < c2 ∧ c2 ≤ 60) ∧ Bn r c A v 150 ∧ Bn r2 c2 B x 150 ∧
  ∀ t' H', Same H H' → DueT K H' t' (c = r2) r c2 (mulQ c (qv A v) (qv B x)) (dQ c r2) → Q (.ref t') H'
theorem sc__law_product_due : FnScope ["_law_one", "_law_two"] ["_law_one", "_law_two"] (defScope s__law_product_due) := ⟨rfl, rfl, rfl, by decide +kernel, rfl, by decide +kernel, by decide +kernel⟩
theorem ok_proddue {f : Addr} {fd : FuncData} (F : Fun K "_law_product_due" "_law_product_due" s__law_product_due f fd) (T : Blt mg) (c_shape : ShapeC P w K mg base) (c_times : TimesC P w K mg base) : FnG P w K mg base CX0 8 f fd ["_law_one", "_law_two"] (spProdDue K) := by
  refine fun_okG F sc__law_product_due (fun vs H Q E h => ?_) (fun cdv A' outer s H vs Q E bare hr h => ?_)
  · obtain ⟨t, u, r, c, r2, c2, A, B, v, x, rfl, _⟩ := h
    rfl
  · obtain ⟨t, u, r, c, r2, c2, A, B, v, x, rfl, hA, hB, zA, zB, bA, bB, k⟩ := h
    refine ⟨_, (pss_cons (ps_if (pt_cmpR op_ne (pe_ix (ix_tupK (K := K)) (pe_cg c_shape bare hr (by decide) rfl (pa_cons (pv 0) pa_nil)) pe_int (fun _ _ => rfl)) (pe_ix (ix_tupK (K := K)) (pe_cg c_shape bare hr (by decide) rfl (pa_cons (pv 1) pa_nil)) pe_int (fun _ _ => rfl)) (nomark _)) (pss_one (ps_ret (pe_tup (pa_cons (pe_ix (ix_tupK (K := K)) (pe_cg c_shape bare hr (by decide) rfl (pa_cons (pv 0) pa_nil)) pe_int (fun _ _ => rfl)) (pa_cons (pe_ix (ix_tupK (K := K)) (pe_cg c_shape bare hr (by decide) rfl (pa_cons (pv 1) pa_nil)) pe_int (fun _ _ => rfl)) pa_nil)))))
  pss_nil)
  (pss_one (ps_ret (pe_cg c_times bare hr (by decide) rfl (pa_cons (pv 0) (pa_cons (pv 1) pa_nil)))))), ?_⟩
    refine ⟨_, rfl, t, r, c, A, v, rfl, hA, zA.1, fun p hp => ⟨p, _, _, _, rfl, rfl, SqT.of upd_same, rfl, ?_⟩⟩
    have s1 := MG.Same.new (o := .tup [.int r, .int c]) (Same.refl H) hp
    refine ⟨_, rfl, u, r2, c2, B, x, rfl, hB.same s1, zB.1, fun p2 hp2 => ⟨p2, _, _, _, rfl, rfl, SqT.of upd_same, rfl, rfl, _, rfl, ?_⟩⟩
    have s12 := s1.trans (MG.Same.new (o := .tup [.int r2, .int c2]) (Same.refl _) hp2)
    by_cases hcr : c = r2
    · subst hcr
      refine ifF (by simp) ?_
      exact ⟨_, rfl, _, rfl, t, u, r, c, c2, A, B, v, x, 150, rfl, hA.same s12, hB.same s12, by omega, by omega, by omega, by omega, by decide, bA, bB, fun t' H' A' u' s3 hP bn dv hv => k t' H' (s12.trans s3) (.inl ⟨rfl, A', u', hP, bn.mono (by decide), hv⟩)⟩
    · refine ifT (by simp; omega) ?_
      refine ⟨_, rfl, t, r, c, A, v, rfl, hA.same s12, zA.1, fun p3 hp3 => ⟨p3, _, _, _, rfl, rfl, SqT.of upd_same, rfl, ?_⟩⟩
      have s3 := MG.Same.new (o := .tup [.int r, .int c]) s12 hp3
      refine ⟨_, rfl, u, r2, c2, B, x, rfl, hB.same s3, zB.1, fun p4 hp4 => ⟨p4, _, _, _, rfl, rfl, SqT.of upd_same, rfl, by show 2 ≤ sizeLine; decide, fun p5 hp5 => ?_⟩⟩
      have s4 := MG.Same.new (o := .tup [.int r2, .int c2]) s3 hp4
      have s5 := MG.Same.new (o := .tup [.int c, .int r2]) s4 hp5
      exact k p5 _ s5 (.inr ⟨hcr, misQ upd_same (by omega) (by omega)⟩)
abbrev ProdDueC (P : Program) (w : World) (K : PySem.W.Frag) (mg : Str → Option Value) (base : Heap) : Prop := CalG P w K mg base 8 "_law_product_due" (spProdDue K) []
end
end Lw

namespace Lw
open PySem PySem.Spec PyProof.Rows L2 MG
abbrev s__law_right : Stmt := top 50
abbrev s_law : Stmt := top 51
section
variable {P : Program} {w : World} {K : PySem.W.Frag} {mg : Str → Option Value} {base : Heap} {C CM CX : Addr}
/-! ### the operators of matrices, as used -/
section
variable {H : Hp} {a b : Addr} {r n c : Nat} {f g : Nat → Nat → Rat} {Q : VK}
theorem mm_mul {U V' : Nat} (hA : MtAt C CM H a r n f) (hB : MtAt C CM H b n c g) (zA : Sz r n) (zB : Sz n c) (bA : Bds r n f 150) (bB : Bds n c g 150) (dA : Den r n f U) (dB : Den n c g V') (k : ∀ m H', Same H H' → MtAt C CM H' m r c (mulQ n f g) → Q (.ref m) H') : rOwn2 CM C (spMMul C CM CX) E0 (.ref a) (.ref b) H Q := by
  obtain ⟨dx, t, ea, _⟩ := id hA
  obtain ⟨dy, u, eb, _⟩ := id hB
  exact ⟨a, dx, _, rfl, ea, .inl ⟨b, dy, _, rfl, eb⟩, a, .ref b, r, n, f, rfl, hA, zA, bA, .inr ⟨b, n, c, g, rfl, hB, zB, bB, fun _ => ⟨U, V', dA, dB, k⟩, fun z => absurd rfl z⟩⟩
theorem mm_num {y : V} {q : Rat} (hA : MtAt C CM H a r c f) (hy : NumAt C H y q) (zA : Sz r c) (bA : Bds r c f 150) (bq : Bd q 150) (k : ∀ m H', Same H H' → MtAt C CM H' m r c (fun i j => f i j * q) → Q (.ref m) H') : rOwn2 CM C (spMMul C CM CX) E0 (.ref a) y H Q := by
  obtain ⟨dx, t, ea, _⟩ := id hA
  refine ⟨a, dx, _, rfl, ea, .inr ?_, a, y, r, c, f, rfl, hA, zA, bA, .inl ⟨q, hy, bq, k⟩⟩
  rcases hy with ⟨b, rfl, dy, e⟩ | ⟨z, rfl, _⟩
  · exact .inl ⟨b, dy, _, rfl, e⟩
  · exact .inr ⟨z, rfl⟩
theorem mm_bin {op : Rat → Rat → Rat} (hA : MtAt C CM H a r c f) (hB : MtAt C CM H b r c g) (zA : Sz r c) (bA : Bds r c f 150) (bB : Bds r c g 150) (k : ∀ m H', Same H H' → MtAt C CM H' m r c (fun i j => op (f i j) (g i j)) → Q (.ref m) H') : rOwn2 CM C (spMBin C CM CX op) E0 (.ref a) (.ref b) H Q := by
  obtain ⟨dx, t, ea, _⟩ := id hA
  obtain ⟨dy, u, eb, _⟩ := id hB
  exact ⟨a, dx, _, rfl, ea, .inl ⟨b, dy, _, rfl, eb⟩, a, b, r, c, r, c, f, g, rfl, hA, hB, zA, zA, bA, bB, fun _ => k, fun z => absurd ⟨rfl, rfl⟩ z⟩
theorem mm_neg (hA : MtAt C CM H a r c f) (zA : Sz r c) (bA : Bds r c f 150) (k : ∀ m H', Same H H' → MtAt C CM H' m r c (fun i j => f i j * Rat.divInt (-1) 1) → Q (.ref m) H') : rNegO CM (spMNeg C CM) E0 (.ref a) H Q := by
  obtain ⟨dx, t, ea, _⟩ := id hA
  exact ⟨a, dx, _, rfl, ea, a, r, c, f, rfl, hA, zA, bA, k⟩
end
theorem made_same {H H' : Hp} {x dx : Addr} (hx : H x = none) (hdx : H dx = none) (kp : ∀ c o, (upd (upd H dx (.own x)) x (.ins C dx [])) c = some o → c ≠ x → H' c = some o) : Same H H' := fun c o hc => by
  have n1 := ne_of_none hc hx
  have n2 := ne_of_none hc hdx
  exact kp c o (by rw [upd_ne n1, upd_ne n2]; exact hc) n1
theorem mat_arg {H : Hp} {t x dx : Addr} {r c : Nat} {f : Nat → Nat → Rat} (ht : Tb (RC C) H t r c f) (hx : H x = none) (hdx : H dx = none) (hne : dx ≠ x) : Tb (NumAt C) (upd (upd H dx (.own x)) x (.ins CM dx [])) t r c f :=
  (ht.same (rc_mono C) (MG.Same.new (MG.Same.new (Same.refl H) hdx) (by rw [upd_ne (fun e => hne e.symm)]; exact hx))).imp RC.num
theorem mat_same {H J : Hp} {x dx : Addr} (hx : H x = none) (hdx : H dx = none) (hne : dx ≠ x) (kp : ∀ b o, (upd (upd H dx (.own x)) x (.ins CM dx [])) b = some o → b ≠ x → J b = some o) : Same H J := fun b o hb => by
  have s1 : Same H (upd (upd H dx (.own x)) x (.ins CM dx [])) := MG.Same.new (MG.Same.new (Same.refl H) hdx) (by rw [upd_ne (fun e => hne e.symm)]; exact hx)
  exact kp b o (s1 _ _ hb) (ne_of_none hb hx)
theorem den_qv {A : Nat → Nat → Int} {u : Int} (hu : u ≠ 0) (i j : Nat) : (qv A u i j).den ∣ u.natAbs := by
  show (Rat.divInt (A i j) u).den ∣ _
  rw [Rat.den_divInt, if_neg hu]
  exact Nat.div_dvd_of_dvd (Int.gcd_dvd_natAbs_left u (A i j))
theorem den_of {r c : Nat} {A : Nat → Nat → Int} {u : Int} (hu : 0 < u) (h : u ≤ 900) : Den r c (qv A u) u.natAbs := ⟨by omega, by omega, fun i j _ _ => den_qv (by omega) i j⟩
/-- the product of two tables of ints -/
def mulZ (n : Nat) (A B : Nat → Nat → Int) : Nat → Nat → Int := fun i k => smZ n fun j => A i j * B j k
theorem mul_qv {n : Nat} {A B : Nat → Nat → Int} {u v : Int} (hu : u ≠ 0) (hv : v ≠ 0) (i k : Nat) : mulQ n (qv A u) (qv B v) i k = qv (mulZ n A B) (u * v) i k := (sum_div hu hv).symm
theorem mul_bn {r n c k : Nat} {A B : Nat → Nat → Int} {u v : Int} (hn : n ≤ 99) (bA : Bn r n A u k) (bB : Bn n c B v k) : Bn r c (mulZ n A B) (u * v) (2 * k + 2) :=
  ⟨Int.mul_pos bA.pos bB.pos, two_abs bA.ub bB.ub, fun i j hi hj => dot_abs hn fun m hm => ⟨bA.ab i m hi hm, bB.ab m j hm hj⟩⟩
/-- sizes and bounds of the three tables -/
structure N7 (h b s0 s1 s2 : Nat) (A B D : Nat → Nat → Int) (ua ub uc : Int) : Prop where
  sh : 0 < h ∧ h ≤ 42
  sb : 0 < b ∧ b ≤ 42
  k0 : 0 < s0 ∧ s0 ≤ 42
  k1 : 0 < s1 ∧ s1 ≤ 42
  k2 : 0 < s2 ∧ s2 ≤ 42
  bA : Bn h b A ua 13
  bB : Bn s0 s1 B ub 13
  bD : Bn s1 s2 D uc 13
  uA : ua ≤ 30
  uB : ub ≤ 30
  uD : uc ≤ 30
/-- the tables and matrices -/
structure W7 (C CM : Addr) (G : Hp) (ta tb tc m1 m2 m3 : Addr) (h b s0 s1 s2 : Nat) (A B D : Nat → Nat → Int) (ua ub uc : Int) : Prop where
  pa : PrAt G ta h b A ua
  pb : PrAt G tb s0 s1 B ub
  pc : PrAt G tc s1 s2 D uc
  m1 : MtAt C CM G m1 h b (qv A ua)
  m2 : MtAt C CM G m2 s0 s1 (qv B ub)
  m3 : MtAt C CM G m3 s1 s2 (qv D uc)
theorem W7.same {G G' : Hp} {ta tb tc m1 m2 m3 : Addr} {h b s0 s1 s2 : Nat} {A B D : Nat → Nat → Int} {ua ub uc : Int} (w : W7 C CM G ta tb tc m1 m2 m3 h b s0 s1 s2 A B D ua ub uc) (s : Same G G') : W7 C CM G' ta tb tc m1 m2 m3 h b s0 s1 s2 A B D ua ub uc :=
  ⟨w.pa.same s, w.pb.same s, w.pc.same s, w.m1.same s, w.m2.same s, w.m3.same s⟩
section
variable {h b s0 s1 s2 : Nat} {A B D : Nat → Nat → Int} {ua ub uc : Int}
theorem N7.z1 (n : N7 h b s0 s1 s2 A B D ua ub uc) : Sz h b := by have := n.sh; have := n.sb; exact ⟨by omega, by omega, by omega, by omega⟩
theorem N7.z2 (n : N7 h b s0 s1 s2 A B D ua ub uc) : Sz s0 s1 := by have := n.k0; have := n.k1; exact ⟨by omega, by omega, by omega, by omega⟩
theorem N7.z3 (n : N7 h b s0 s1 s2 A B D ua ub uc) : Sz s1 s2 := by have := n.k1; have := n.k2; exact ⟨by omega, by omega, by omega, by omega⟩
theorem N7.b1 (n : N7 h b s0 s1 s2 A B D ua ub uc) : Bds h b (qv A ua) 150 := (n.bA.mono (k' := 150) (by decide)).bds
theorem N7.b2 (n : N7 h b s0 s1 s2 A B D ua ub uc) : Bds s0 s1 (qv B ub) 150 := (n.bB.mono (k' := 150) (by decide)).bds
theorem N7.b3 (n : N7 h b s0 s1 s2 A B D ua ub uc) : Bds s1 s2 (qv D uc) 150 := (n.bD.mono (k' := 150) (by decide)).bds
theorem N7.d1 (n : N7 h b s0 s1 s2 A B D ua ub uc) : Den h b (qv A ua) ua.natAbs := den_of n.bA.pos (by have := n.uA; omega)
theorem N7.d2 (n : N7 h b s0 s1 s2 A B D ua ub uc) : Den s0 s1 (qv B ub) ub.natAbs := den_of n.bB.pos (by have := n.uB; omega)
theorem N7.d3 (n : N7 h b s0 s1 s2 A B D ua ub uc) : Den s1 s2 (qv D uc) uc.natAbs := den_of n.bD.pos (by have := n.uD; omega)
end
theorem mul_le900 {u v : Int} (hu : 0 < u) (hv : 0 < v) (h1 : u ≤ 30) (h2 : v ≤ 30) : u * v ≤ 900 := by
  have : u * v ≤ 30 * 30 := Int.mul_le_mul h1 h2 (by omega) (by omega)
  omega
/-- a product's bounds -/
theorem prod_ok {r n c : Nat} {A B : Nat → Nat → Int} {u v : Int} (hn : n ≤ 99) (bA : Bn r n A u 13) (bB : Bn n c B v 13) (h1 : u ≤ 30) (h2 : v ≤ 30) : Bds r c (mulQ n (qv A u) (qv B v)) 28 ∧ Den r c (mulQ n (qv A u) (qv B v)) (u * v).natAbs := by
  have hu := bA.pos
  have hv := bB.pos
  have bn := mul_bn hn bA bB
  have h9 := mul_le900 hu hv h1 h2
  have hp := bn.pos
  refine ⟨fun i j hi hj => ?_, by omega, by omega, fun i j hi hj => ?_⟩
  · rw [mul_qv (by omega) (by omega)]
    exact bn.bds i j hi hj
  · rw [mul_qv (by omega) (by omega)]
    exact den_qv (by omega) i j
theorem one1 : Rat.divInt 1 1 = 1 := by decide
theorem neg1 : Rat.divInt (-1) 1 = -1 := by decide
theorem two1 : Rat.divInt 2 1 = 2 := by decide
theorem zero1 : Rat.divInt 0 1 = 0 := by decide
section
variable (K C CM)
/-- the eight that are told -/
structure R8 (G : Hp) (h b s0 s1 s2 : Nat) (f g e : Nat → Nat → Rat) (v0 v1 v2 v3 v4 v5 v6 v7 : V) : Prop where
  r0 : ResT K C CM G v0 (h = s0 ∧ b = s1) h b (fun i j => f i j + g i j) (dP h b s0 s1)
  r1 : ResT K C CM G v1 (h = s0 ∧ b = s1) h b (fun i j => f i j - g i j) (dP h b s0 s1)
  r2 : ResT K C CM G v2 (b = s0) h s1 (mulQ b f g) (dQ b s0)
  r3 : ResT K C CM G v3 (s1 = h) s0 b (mulQ s1 g f) (dQ s1 h)
  r4 : ResT K C CM G v4 True s0 s2 (mulQ s1 g e) (dQ 0 0)
  r5 : ResT K C CM G v5 True h b (fun i j => f i j + f i j) (dQ 0 0)
  r6 : ResT K C CM G v6 True h b (fun i j => f i j - f i j) (dQ 0 0)
  r7 : ResT K C CM G v7 True h b (fun i j => f i j * Rat.divInt (-1) 1) (dQ 0 0)
/-- the eight that are due -/
structure D8 (G : Hp) (h b s0 s1 s2 : Nat) (f g e : Nat → Nat → Rat) (t0 t1 t2 t3 t4 t5 t6 t7 : Addr) : Prop where
  r0 : DueT K G t0 (h = s0 ∧ b = s1) h b (fun i j => f i j + Rat.divInt 1 1 * g i j) (dP h b s0 s1)
  r1 : DueT K G t1 (h = s0 ∧ b = s1) h b (fun i j => f i j + Rat.divInt (-1) 1 * g i j) (dP h b s0 s1)
  r2 : DueT K G t2 (b = s0) h s1 (mulQ b f g) (dQ b s0)
  r3 : DueT K G t3 (s1 = h) s0 b (mulQ s1 g f) (dQ s1 h)
  r4 : DueT K G t4 True s0 s2 (mulQ s1 g e) (dQ 0 0)
  r5 : DueT K G t5 True h b (fun i j => f i j * Rat.divInt 2 1) (dQ 0 0)
  r6 : DueT K G t6 True h b (fun i j => f i j * Rat.divInt 0 1) (dQ 0 0)
  r7 : DueT K G t7 True h b (fun i j => f i j * Rat.divInt (-1) 1) (dQ 0 0)
end
theorem R8.same {G G' : Hp} {h b s0 s1 s2 : Nat} {f g e : Nat → Nat → Rat} {v0 v1 v2 v3 v4 v5 v6 v7 : V} (r : R8 K C CM G h b s0 s1 s2 f g e v0 v1 v2 v3 v4 v5 v6 v7) (s : Same G G') : R8 K C CM G' h b s0 s1 s2 f g e v0 v1 v2 v3 v4 v5 v6 v7 :=
  ⟨r.r0.same s, r.r1.same s, r.r2.same s, r.r3.same s, r.r4.same s, r.r5.same s, r.r6.same s, r.r7.same s⟩
theorem agr8 {G : Hp} {h b s0 s1 s2 : Nat} {f g e : Nat → Nat → Rat} {v0 v1 v2 v3 v4 v5 v6 v7 : V} {t0 t1 t2 t3 t4 t5 t6 t7 : Addr} (r : R8 K C CM G h b s0 s1 s2 f g e v0 v1 v2 v3 v4 v5 v6 v7) (d : D8 K G h b s0 s1 s2 f g e t0 t1 t2 t3 t4 t5 t6 t7)
    (hh : h ≤ 60) (hb : b ≤ 60) (h0 : s0 ≤ 60) (h1 : s1 ≤ 60) (h2 : s2 ≤ 60) (k : Nat) (hk : k < 8) : ∃ v t, [v0, v1, v2, v3, v4, v5, v6, v7][k]? = some v ∧ [V.ref t0, .ref t1, .ref t2, .ref t3, .ref t4, .ref t5, .ref t6, .ref t7][k]? = some (.ref t) ∧ Agr K C CM G v t := by
  match k, hk with
  | 0, _ => exact ⟨v0, t0, rfl, rfl, _, _, _, _, _, _, r.r0, d.r0, hh, hb, fun i j _ _ => by simp only [one1]; grind⟩
  | 1, _ => exact ⟨v1, t1, rfl, rfl, _, _, _, _, _, _, r.r1, d.r1, hh, hb, fun i j _ _ => by simp only [neg1]; grind⟩
  | 2, _ => exact ⟨v2, t2, rfl, rfl, _, _, _, _, _, _, r.r2, d.r2, hh, h1, fun i j _ _ => rfl⟩
  | 3, _ => exact ⟨v3, t3, rfl, rfl, _, _, _, _, _, _, r.r3, d.r3, h0, hb, fun i j _ _ => rfl⟩
  | 4, _ => exact ⟨v4, t4, rfl, rfl, _, _, _, _, _, _, r.r4, d.r4, h0, h2, fun i j _ _ => rfl⟩
  | 5, _ => exact ⟨v5, t5, rfl, rfl, _, _, _, _, _, _, r.r5, d.r5, hh, hb, fun i j _ _ => by simp only [two1]; grind⟩
  | 6, _ => exact ⟨v6, t6, rfl, rfl, _, _, _, _, _, _, r.r6, d.r6, hh, hb, fun i j _ _ => by simp only [zero1]; grind⟩
  | 7, _ => exact ⟨v7, t7, rfl, rfl, _, _, _, _, _, _, r.r7, d.r7, hh, hb, fun i j _ _ => rfl⟩
/-- what _law_is asks of the numbers -/
theorem is_args {r c k : Nat} {f : Nat → Nat → Rat} {A : Nat → Nat → Int} {u : Int} (bn : Bn r c A u k) (hk : k ≤ 390) (hv : ∀ i j, i < r → j < c → qv A u i j = f i j) : u ≠ 0 ∧ Sm u ∧ Bds r c f 390 ∧ ∀ i j, i < r → j < c → f i j = qv A u i j :=
  ⟨by have := bn.pos; omega, smI bn.ub hk, fun i j hi hj => by rw [← hv i j hi hj]; exact (bn.bds i j hi hj).mono hk, fun i j hi hj => (hv i j hi hj).symm⟩
def spRight : Sp := fun vs H Q _ => ∃ (q : Addr), vs = [.ref q] ∧ QAt H q 0 ∧ ∀ H', Keep q H H' → Q (.bl true) H'
theorem sc__law_right : FnScope ["_law_q", "_law_high", "_law_broad", "_law_others", "_law_shape_here", "_law_a", "_law_b", "_law_c", "_law_one", "_law_two", "_law_three", "_law_told_here", "_law_due", "_law_whole", "_law_half", "_law_left", "_law_right_here", "_law_square", "_law_k"] ["_law_q"] (defScope s__law_right) := ⟨rfl, rfl, rfl, by decide +kernel, rfl, by decide +kernel, by decide +kernel⟩
theorem ok_right {f : Addr} {fd : FuncData} (F : Fun K "_law_right" "_law_right" s__law_right f fd) (T : TxM K mg C CM) (c_draw : DrawC P w K mg base) (c_great : CalG P w K mg base 4 "_law_great" spGreat []) (c_lowest : CalG P w K mg base 4 "_law_lowest" spLowest []) (m_rat2 : Rat2C P w K mg base C) (m_mat : MatC P w K mg base C CM)
    (c_thin : ThinC P w K mg base) (c_pick : PickC P w K mg base) (c_cells : CellsC P w K mg base) (c_entries : EntC P w K mg base C) (c_tried : TriedC P w K mg base C CM) (c_sumdue : SumDueC P w K mg base) (c_proddue : ProdDueC P w K mg base) (c_times : TimesC P w K mg base) (c_scale : ScaleC P w K mg base) (c_turn : TurnC P w K mg base) (c_is : IsC P w K mg base C CM) (c_agrees : AgreesC P w K mg base C CM)
    (o_madd : MAddC P w K mg base C CM CX) (o_msub : MSubC P w K mg base C CM CX) (o_mmul : MMulC P w K mg base C CM CX) (o_mneg : NegF P w K mg base 14 CM (spMNeg C CM)) (o_meq : EqF P w K mg base 6 CM (spMEq C CM)) (pm_transposed : TransC P w K mg base C CM) : FnG P w K mg base CX0 20 f fd ["_law_q"] spRight := by
  refine fun_okG F sc__law_right (fun vs H Q E h => ?_) (fun cdv A' outer s H vs Q E bare hr h => ?_)
  · obtain ⟨q, rfl, _⟩ := h
    rfl
  · obtain ⟨q, rfl, hq, k⟩ := h
    refine ⟨_, (pss_cons (ps_cut (ps_asg (pe_cg c_thin bare hr (by decide) rfl (pa_cons (pv 0) (pa_cons pe_int pa_nil))) (pg_tupK (K := K) (n := 2) rfl (pgs_cons (pg_name (i := 1) sc__law_right.nd rfl (Or.inl rfl)) (pgs_cons (pg_name (i := 2) sc__law_right.nd rfl (Or.inl rfl)) pgs_nil)))))
  (pss_cons (ps_cut (ps_set (i := 3) sc__law_right.nd rfl (Or.inl rfl) (pe_lst (pa_cons (pe_tup (pa_cons (pv 1) (pa_cons (pv 2) pa_nil))) (pa_cons (pe_tup (pa_cons (pv 2) (pa_cons (pv 1) pa_nil))) (pa_cons (pe_tup (pa_cons (pv 2) (pa_cons (pe_op op_add pe_int (pe_cg c_draw bare hr (by decide) rfl (pa_cons (pv 0) (pa_cons pe_int pa_nil)))) pa_nil))) (pa_cons (pe_tup (pa_cons (pv 1) (pa_cons (pe_op op_add pe_int (pe_cg c_draw bare hr (by decide) rfl (pa_cons (pv 0) (pa_cons pe_int pa_nil)))) pa_nil))) pa_nil)))))))
  (pss_cons (ps_cut (ps_set (i := 4) sc__law_right.nd rfl (Or.inl rfl) (pe_cg c_pick bare hr (by decide) rfl (pa_cons (pv 0) (pa_cons (pv 3) pa_nil)))))
  (pss_cons (ps_cut (ps_par (i := 5) (j := 6) (by rfl) sc__law_right.nd rfl rfl (by decide) rfl rfl (pa_cons (pe_cg c_cells bare hr (by decide) rfl (pa_cons (pv 0) (pa_cons (pv 1) (pa_cons (pv 2) pa_nil)))) (pa_cons (pe_cg c_cells bare hr (by decide) rfl (pa_cons (pv 0) (pa_cons (pe_ix (ix_tupK (K := K)) (pv 4) pe_int (fun _ _ => rfl)) (pa_cons (pe_ix (ix_tupK (K := K)) (pv 4) pe_int (fun _ _ => rfl)) pa_nil)))) pa_nil)) (by rfl)))
  (pss_cons (ps_cut (ps_set (i := 7) sc__law_right.nd rfl (Or.inl rfl) (pe_cg c_cells bare hr (by decide) rfl (pa_cons (pv 0) (pa_cons (pe_ix (ix_tupK (K := K)) (pv 4) pe_int (fun _ _ => rfl)) (pa_cons (pe_op op_add pe_int (pe_cg c_draw bare hr (by decide) rfl (pa_cons (pv 0) (pa_cons pe_int pa_nil)))) pa_nil))))))
  (pss_cons (ps_cut (ps_par (i := 8) (j := 9) (by rfl) sc__law_right.nd rfl rfl (by decide) rfl rfl (pa_cons (pe_mkf m_mat hr (by decide) rfl (pa_cons (pe_cg c_entries bare hr (by decide) rfl (pa_cons (pv 5) pa_nil)) pa_nil)) (pa_cons (pe_mkf m_mat hr (by decide) rfl (pa_cons (pe_cg c_entries bare hr (by decide) rfl (pa_cons (pv 6) pa_nil)) pa_nil)) pa_nil)) (by rfl)))
  (pss_cons (ps_cut (ps_set (i := 10) sc__law_right.nd rfl (Or.inl rfl) (pe_mkf m_mat hr (by decide) rfl (pa_cons (pe_cg c_entries bare hr (by decide) rfl (pa_cons (pv 7) pa_nil)) pa_nil))))
  (pss_cons (ps_cut (ps_set (i := 11) sc__law_right.nd rfl (Or.inr rfl) (pe_lst (pa_cons (pe_cg c_tried bare hr (by decide) rfl (pa_cons (pv 8) (pa_cons (pv 9) (pa_cons pe_str pa_nil)))) (pa_cons (pe_cg c_tried bare hr (by decide) rfl (pa_cons (pv 8) (pa_cons (pv 9) (pa_cons pe_str pa_nil)))) (pa_cons (pe_cg c_tried bare hr (by decide) rfl (pa_cons (pv 8) (pa_cons (pv 9) (pa_cons pe_str pa_nil)))) pa_nil))))))
  (pss_cons (ps_cut (ps_set (i := 11) sc__law_right.nd rfl (Or.inr rfl) (pe_op op_cat (pv 11) (pe_lst (pa_cons (pe_cg c_tried bare hr (by decide) rfl (pa_cons (pv 9) (pa_cons (pv 8) (pa_cons pe_str pa_nil)))) (pa_cons (pe_op (op_xf o_mmul hr (by decide)) (pv 9) (pv 10)) (pa_cons (pe_op (op_xf o_madd hr (by decide)) (pv 8) (pv 8)) (pa_cons (pe_op (op_xf o_msub hr (by decide)) (pv 8) (pv 8)) (pa_cons (pe_un (un_f o_mneg hr (by decide)) (pv 8)) pa_nil)))))))))
  (pss_cons (ps_cut (ps_set (i := 12) sc__law_right.nd rfl (Or.inr rfl) (pe_lst (pa_cons (pe_cg c_sumdue bare hr (by decide) rfl (pa_cons (pv 5) (pa_cons (pv 6) (pa_cons pe_int pa_nil)))) (pa_cons (pe_cg c_sumdue bare hr (by decide) rfl (pa_cons (pv 5) (pa_cons (pv 6) (pa_cons (pe_un un_neg pe_int) pa_nil)))) (pa_cons (pe_cg c_proddue bare hr (by decide) rfl (pa_cons (pv 5) (pa_cons (pv 6) pa_nil))) (pa_cons (pe_cg c_proddue bare hr (by decide) rfl (pa_cons (pv 6) (pa_cons (pv 5) pa_nil))) pa_nil)))))))
  (pss_cons (ps_cut (ps_set (i := 12) sc__law_right.nd rfl (Or.inr rfl) (pe_op op_cat (pv 12) (pe_lst (pa_cons (pe_cg c_times bare hr (by decide) rfl (pa_cons (pv 6) (pa_cons (pv 7) pa_nil))) (pa_cons (pe_cg c_scale bare hr (by decide) rfl (pa_cons (pv 5) (pa_cons (pe_tup (pa_cons pe_int (pa_cons pe_int pa_nil))) pa_nil))) pa_nil))))))
  (pss_cons (ps_cut (ps_set (i := 12) sc__law_right.nd rfl (Or.inr rfl) (pe_op op_cat (pv 12) (pe_lst (pa_cons (pe_cg c_scale bare hr (by decide) rfl (pa_cons (pv 5) (pa_cons (pe_tup (pa_cons pe_int (pa_cons pe_int pa_nil))) pa_nil))) (pa_cons (pe_cg c_scale bare hr (by decide) rfl (pa_cons (pv 5) (pa_cons (pe_tup (pa_cons (pe_un un_neg pe_int) (pa_cons pe_int pa_nil))) pa_nil))) pa_nil))))))
  (pss_cons (ps_cut (ps_if (pt_not (pt_val (pe_callB (id := "all") (cr_allK (K := K) rfl) (by rfl) T.b_all (by decide +kernel) (pa_cons (pe_lcI (pe_lc (own := [("_law_k", 18)]) rfl sc__law_right.nd (pi_range1 (by rfl) T.b_range (pa_cons pe_int pa_nil)) (blkOk_by (N := ["_law_q", "_law_high", "_law_broad", "_law_others", "_law_shape_here", "_law_a", "_law_b", "_law_c", "_law_one", "_law_two", "_law_three", "_law_told_here", "_law_due", "_law_whole", "_law_half", "_law_left", "_law_right_here", "_law_square", "_law_k"]) (sc := (defScope s__law_right)) (by decide +kernel)) (fun _ _ _ _ _ => (pg_name (i := 18) sc__law_right.nd rfl (Or.inl rfl))) (fun _ _ _ _ _ => pts_nil) (fun _ _ _ _ _ => (pe_cut (pe_cg c_agrees bare hr (by decide) rfl (pa_cons (pe_ix (ix_listK (K := K)) (pv 11) (pv 18) (fun _ _ => rfl)) (pa_cons (pe_ix (ix_listK (K := K)) (pv 12) (pv 18) (fun _ _ => rfl)) pa_nil))))))) pa_nil)))) (pss_one (ps_ret pe_bl))
  pss_nil))
  (pss_cons (ps_cut (ps_par (i := 13) (j := 14) (by rfl) sc__law_right.nd rfl rfl (by decide) rfl rfl (pa_cons (pe_cg c_great bare hr (by decide) rfl (pa_cons (pv 0) pa_nil)) (pa_cons (pe_cg c_lowest bare hr (by decide) rfl (pa_cons (pe_cg c_great bare hr (by decide) rfl (pa_cons (pv 0) pa_nil)) (pa_cons (pe_op op_add pe_int (pe_cg c_draw bare hr (by decide) rfl (pa_cons (pv 0) (pa_cons pe_int pa_nil)))) pa_nil))) pa_nil)) (by rfl)))
  (pss_cons (ps_cut (ps_if (pt_not (pt_val (pe_cg c_is bare hr (by decide) rfl (pa_cons (pe_op (op_xf o_mmul hr (by decide)) (pv 8) (pv 13)) (pa_cons (pe_cg c_scale bare hr (by decide) rfl (pa_cons (pv 5) (pa_cons (pe_tup (pa_cons (pv 13) (pa_cons pe_int pa_nil))) pa_nil))) pa_nil))))) (pss_one (ps_ret pe_bl))
  pss_nil))
  (pss_cons (ps_cut (ps_if (pt_not (pt_val (pe_cg c_is bare hr (by decide) rfl (pa_cons (pe_op (op_xf o_mmul hr (by decide)) (pv 8) pe_int) (pa_cons (pe_cg c_scale bare hr (by decide) rfl (pa_cons (pv 5) (pa_cons (pe_tup (pa_cons pe_int (pa_cons pe_int pa_nil))) pa_nil))) pa_nil))))) (pss_one (ps_ret pe_bl))
  pss_nil))
  (pss_cons (ps_cut (ps_if (pt_not (pt_val (pe_cg c_is bare hr (by decide) rfl (pa_cons (pe_op (op_xf o_mmul hr (by decide)) (pv 8) (pe_mkf m_rat2 hr (by decide) rfl (pa_cons (pe_ix (ix_tupK (K := K)) (pv 14) pe_int (fun _ _ => rfl)) (pa_cons (pe_ix (ix_tupK (K := K)) (pv 14) pe_int (fun _ _ => rfl)) pa_nil)))) (pa_cons (pe_cg c_scale bare hr (by decide) rfl (pa_cons (pv 5) (pa_cons (pv 14) pa_nil))) pa_nil))))) (pss_one (ps_ret pe_bl))
  pss_nil))
  (pss_cons (ps_cut (ps_if (pt_cmpR op_eq (pe_ix (ix_tupK (K := K)) (pv 4) pe_int (fun _ _ => rfl)) (pv 2) (nomark _)) (pss_cons (ps_par (i := 15) (j := 16) (by rfl) sc__law_right.nd rfl rfl (by decide) rfl rfl (pa_cons (pe_op (op_xf o_mmul hr (by decide)) (pe_op (op_xf o_mmul hr (by decide)) (pv 8) (pv 9)) (pv 10)) (pa_cons (pe_op (op_xf o_mmul hr (by decide)) (pv 8) (pe_op (op_xf o_mmul hr (by decide)) (pv 9) (pv 10))) pa_nil)) (by rfl))
  (pss_one (ps_if (pt_cmpR (ne_f o_meq hr (by decide)) (pv 15) (pv 16) (nomark _)) (pss_one (ps_ret pe_bl))
  pss_nil)))
  pss_nil))
  (pss_cons (ps_cut (ps_set (i := 17) sc__law_right.nd rfl (Or.inl rfl) (pe_op (op_xf o_mmul hr (by decide)) (pe_pf pm_transposed T.clM hr (by decide) (pv 8) rfl) (pv 8))))
  (pss_cons (ps_cut (ps_if (pt_not (pt_val (pe_cg c_is bare hr (by decide) rfl (pa_cons (pe_pf pm_transposed T.clM hr (by decide) (pv 17) rfl) (pa_cons (pe_cg c_times bare hr (by decide) rfl (pa_cons (pe_cg c_turn bare hr (by decide) rfl (pa_cons (pv 5) pa_nil)) (pa_cons (pv 5) pa_nil))) pa_nil))))) (pss_one (ps_ret pe_bl))
  pss_nil))
  (pss_one (ps_cut (ps_ret (pe_and (pe_cg c_is bare hr (by decide) rfl (pa_cons (pv 8) (pa_cons (pv 5) pa_nil))) (pe_and (pe_cg c_is bare hr (by decide) rfl (pa_cons (pv 9) (pa_cons (pv 6) pa_nil))) (pe_one (pe_cg c_is bare hr (by decide) rfl (pa_cons (pv 10) (pa_cons (pv 7) pa_nil))))))))))))))))))))))))))))), ?_⟩
    -- high, broad = thin(q, 9)
    refine ⟨fun σ G => ∃ h b : Nat, σ = [some (.ref q), some (.int h), some (.int b), none, none, none, none, none, none, none, none, none, none, none, none, none, none, none, none] ∧ (0 < h ∧ h ≤ 11) ∧ (0 < b ∧ b ≤ 11) ∧ Keep q H G ∧ QAt G q 4, ?_, ?_⟩
    · refine ⟨_, rfl, q, 0, 9, rfl, hq, by decide, by decide, by decide, fun p h b H1 h0 h1 b0 b1 h2 b2 k1 q1 _ _ e => ?_⟩
      exact ⟨p, _, rfl, SqT.of e, rfl, _, _, rfl, _, _, rfl, rfl, h, b, rfl, ⟨h0, by omega⟩, ⟨b0, by omega⟩, k1, q1⟩
    rintro _ G1 ⟨h, b, rfl, hh, hb, k1, q1⟩
    -- others = [..]; shape = pick(q, others)
    refine ⟨fun σ G => ∃ (lo : Addr) (ts : List V) (ss : List (Nat × Nat)), σ = [some (.ref q), some (.int h), some (.int b), some (.ref lo), none, none, none, none, none, none, none, none, none, none, none, none, none, none, none] ∧ Keep q H G ∧ QAt G q 6 ∧ lo ≠ q ∧ G lo = some (.lst ts) ∧ ts.length = 4 ∧ ss.length = 4 ∧
      ∀ (i : Nat) (x : V) (s : Nat × Nat), ts[i]? = some x → ss[i]? = some s → (0 < s.1 ∧ s.1 ≤ 42) ∧ (0 < s.2 ∧ s.2 ≤ 42) ∧ ∃ t, x = .ref t ∧ t ≠ q ∧ G t = some (.tup [.int s.1, .int s.2]), ?_, ?_⟩
    · refine ⟨_, rfl, _, rfl, by show 2 ≤ sizeLine; decide, fun t1 ht1 => ?_⟩
      refine ⟨_, rfl, _, rfl, by show 2 ≤ sizeLine; decide, fun t2 ht2 => ?_⟩
      have a2 := MG.Same.new (o := .tup [.int b, .int h]) (MG.Same.new (o := .tup [.int h, .int b]) (Same.refl G1) ht1) ht2
      have n1 := q1.ne ht1
      have n2 := (q1.new ht1).ne ht2
      have e1 : (upd (upd G1 t1 (.tup [.int h, .int b])) t2 (.tup [.int b, .int h])) t1 = some (.tup [.int h, .int b]) := (MG.Same.new (Same.refl _) ht2) _ _ upd_same
      have e2 : (upd (upd G1 t1 (.tup [.int h, .int b])) t2 (.tup [.int b, .int h])) t2 = some (.tup [.int b, .int h]) := upd_same
      refine ⟨_, rfl, _, rfl, q, 4, 4, rfl, (q1.keep a2), by decide, by decide, by decide, fun x H2 x0 x1 k2 q2 => ⟨_, _, rfl, rfl, by show 2 ≤ sizeLine; decide, fun t3 ht3 => ?_⟩⟩
      have n3 := q2.ne ht3
      refine ⟨_, rfl, _, rfl, q, 4, 5, rfl, q2.new ht3, by decide, by decide, by decide, fun y H3 y0 y1 k3 q3 => ⟨_, _, rfl, rfl, by show 2 ≤ sizeLine; decide, fun t4 ht4 => ⟨by show 4 ≤ sizeLine; decide, fun lo hlo => ?_⟩⟩⟩
      have n4 := q3.ne ht4
      have nlo := (q3.new ht4).ne hlo
      have s4 := MG.Same.new (o := .tup [.int h, .int (1 + y)]) (Same.refl H3) ht4
      have s5 := MG.Same.new (o := .lst [.ref t1, .ref t2, .ref t3, .ref t4]) (Same.refl _) hlo
      have s45 := s4.trans s5
      obtain ⟨x', rfl⟩ := Int.eq_ofNat_of_zero_le x0
      obtain ⟨y', rfl⟩ := Int.eq_ofNat_of_zero_le y0
      have ex : (1 : Int) + (x' : Int) = ((1 + x' : Nat) : Int) := by omega
      have ey : (1 : Int) + (y' : Int) = ((1 + y' : Nat) : Int) := by omega
      have k3' := Keep.trans (Keep.new (Keep.refl (q := q) (H := H2)) ht3) k3
      have f1 := s45 _ _ (k3' _ _ (k2 _ _ e1 n1) n1)
      have f2 := s45 _ _ (k3' _ _ (k2 _ _ e2 n2) n2)
      have f3 := s45 _ _ (k3 _ _ upd_same n3)
      have f4 := s5 _ _ (upd_same (H := H3) (a := t4) (o := .tup [.int h, .int (1 + (y' : Int))]))
      refine ⟨lo, _, [(h, b), (b, h), (b, 1 + x'), (h, 1 + y')], rfl, ((k1.same a2).trans (k2.trans k3')).same s45, q3.keep s45, nlo, upd_same, rfl, rfl, fun i v s hv hs => ?_⟩
      match i, hv, hs with
      | 0, hv, hs => cases hv; cases hs; exact ⟨by omega, by omega, t1, rfl, n1, f1⟩
      | 1, hv, hs => cases hv; cases hs; exact ⟨by omega, by omega, t2, rfl, n2, f2⟩
      | 2, hv, hs => cases hv; cases hs; exact ⟨by omega, ⟨by simp only []; omega, by simp only []; omega⟩, t3, rfl, n3, by show _ = some (HO.tup [V.int (b : Int), V.int ((1 + x' : Nat) : Int)]); rw [← ex]; exact f3⟩
      | 3, hv, hs => cases hv; cases hs; exact ⟨by omega, ⟨by simp only []; omega, by simp only []; omega⟩, t4, rfl, n4, by show _ = some (HO.tup [V.int (h : Int), V.int ((1 + y' : Nat) : Int)]); rw [← ey]; exact f4⟩
    rintro _ G2 ⟨lo, ts, ss, rfl, k2, q2, nlo, elo, hts, hss, hall⟩
    clear k1 q1
    refine ⟨fun σ G => ∃ (sp : Addr) (s0 s1 : Nat), σ = [some (.ref q), some (.int h), some (.int b), some (.ref lo), some (.ref sp), none, none, none, none, none, none, none, none, none, none, none, none, none, none] ∧ Keep q H G ∧ QAt G q 7 ∧ sp ≠ q ∧ G sp = some (.tup [.int s0, .int s1]) ∧ (0 < s0 ∧ s0 ≤ 42) ∧ (0 < s1 ∧ s1 ≤ 42), ?_, ?_⟩
    · refine ⟨_, rfl, _, rfl, q, lo, 6, ts, rfl, q2, by decide, nlo, elo, by omega, by omega, fun i x H3 hx k3 q3 => ?_⟩
      have hi : i < ss.length := by have := (List.getElem?_eq_some_iff.mp hx).1; omega
      obtain ⟨h0, h1, t, rfl, nt, et⟩ := hall i x _ hx (List.getElem?_eq_getElem hi)
      exact ⟨t, _, _, rfl, k2.trans k3, q3, nt, k3 _ _ et nt, h0, h1⟩
    rintro _ G3 ⟨sp, s0, s1, rfl, k3, q3, nsp, esp, hs0, hs1⟩
    clear k2 q2 hall elo
    -- a, b = (cells(q, high, broad), cells(q, shape[0], shape[1]))
    have hhb : h * b ≤ 11 * 11 := Nat.mul_le_mul hh.2 hb.2
    have hss2 : s0 * s1 ≤ 42 * 42 := Nat.mul_le_mul hs0.2 hs1.2
    refine ⟨fun σ G => ∃ (ta tb : Addr) (A B : Nat → Nat → Int) (ua ub : Int), σ = [some (.ref q), some (.int h), some (.int b), some (.ref lo), some (.ref sp), some (.ref ta), some (.ref tb), none, none, none, none, none, none, none, none, none, none, none, none] ∧ Keep q H G ∧ QAt G q 2000 ∧ G sp = some (.tup [.int s0, .int s1]) ∧
      PrAt (hid q G) ta h b A ua ∧ PrAt (hid q G) tb s0 s1 B ub ∧ Bn h b A ua 13 ∧ Bn s0 s1 B ub 13 ∧ ua ≤ 30 ∧ ub ≤ 30, ?_, ?_⟩
    · refine ⟨_, rfl, _, rfl, _, rfl, q, 7, h, b, rfl, q3, by omega, by omega, by omega, by omega, by omega, fun ta A ua G4 k4 q4 pa bA uA => ?_⟩
      have esp4 := k4 _ _ esp nsp
      refine ⟨_, rfl, _, rfl, sp, _, _, _, rfl, rfl, SqT.of esp4, rfl, _, rfl, sp, _, _, _, rfl, rfl, SqT.of esp4, rfl, q, _, s0, s1, rfl, q4, by omega, by omega, by omega, by omega, by omega, fun tb B ub G5 k5 q5 pb bB uB => ?_⟩
      exact ⟨_, _, rfl, ta, tb, A, B, ua, ub, rfl, k3.trans (k4.trans k5), q5.le (by omega), k5 _ _ esp4 nsp, pa.same (hid_keep k5), pb, bA, bB, uA, uB⟩
    rintro _ G4 ⟨ta, tb, A, B, ua, ub, rfl, k4, q4, esp4, pa, pb, bA, bB, uA, uB⟩
    clear k3 q3 esp
    -- c = cells(q, shape[1], 1 + draw(q, 3))
    refine ⟨fun σ G => ∃ (tc : Addr) (D : Nat → Nat → Int) (uc : Int) (s2 : Nat), σ = [some (.ref q), some (.int h), some (.int b), some (.ref lo), some (.ref sp), some (.ref ta), some (.ref tb), some (.ref tc), none, none, none, none, none, none, none, none, none, none, none] ∧ Keep q H G ∧ QAt G q 3000 ∧ G sp = some (.tup [.int s0, .int s1]) ∧
      PrAt (hid q G) ta h b A ua ∧ PrAt (hid q G) tb s0 s1 B ub ∧ PrAt (hid q G) tc s1 s2 D uc ∧ N7 h b s0 s1 s2 A B D ua ub uc, ?_, ?_⟩
    · refine ⟨_, rfl, _, rfl, sp, _, _, _, rfl, rfl, SqT.of esp4, rfl, _, rfl, q, 3, 2000, rfl, q4, by decide, by decide, by decide, fun x G5 x0 x1 k5 q5 => ⟨_, _, rfl, rfl, ?_⟩⟩
      obtain ⟨x', rfl⟩ := Int.eq_ofNat_of_zero_le x0
      have ex : V.int ((1 : Int) + (x' : Int)) = V.int ((1 + x' : Nat) : Int) := by congr 1
      have hs12 : s1 * (1 + x') ≤ 42 * 3 := Nat.mul_le_mul hs1.2 (by omega)
      refine ⟨q, 2001, s1, 1 + x', congrArg (fun z => [V.ref q, V.int s1, z]) ex, q5, by omega, by omega, by omega, by omega, by omega, fun tc D uc G6 k6 q6 pc bD uD => ?_⟩
      have k56 := k5.trans k6
      exact ⟨tc, D, uc, 1 + x', rfl, k4.trans k56, q6.le (by omega), k56 _ _ esp4 nsp, pa.same (hid_keep k56), pb.same (hid_keep k56), pc, ⟨by omega, by omega, hs0, hs1, by omega, bA, bB, bD, uA, uB, uD⟩⟩
    rintro _ G5 ⟨tc, D, uc, s2, rfl, k5, q5, esp5, pa, pb, pc, n7⟩
    clear k4 q4 esp4 bA bB uA uB hhb hss2 hh hb hs0 hs1
    obtain ⟨zz1, zz2, zz3, zz4⟩ := n7.z1
    obtain ⟨_, _, zz5, zz6⟩ := n7.z2
    obtain ⟨zz7, _, zz8, zz9⟩ := n7.z3
    -- one, two = (Matrix(entries(a)), Matrix(entries(b)))
    have smU : ∀ {r c : Nat} {A : Nat → Nat → Int} {u : Int}, Bn r c A u 13 → u ≠ 0 ∧ Sm u := fun bn => ⟨by have := bn.pos; omega, smI bn.ub (by decide)⟩
    refine ⟨fun σ G => ∃ m1 m2 : Addr, σ = [some (.ref q), some (.int h), some (.int b), some (.ref lo), some (.ref sp), some (.ref ta), some (.ref tb), some (.ref tc), some (.ref m1), some (.ref m2), none, none, none, none, none, none, none, none, none] ∧ Same G5 G ∧ MtAt C CM G m1 h b (qv A ua) ∧ MtAt C CM G m2 s0 s1 (qv B ub), ?_, ?_⟩
    · refine ⟨_, rfl, ta, h, b, A, ua, rfl, pa.same (hid_same q G5), by omega, by omega, (smU n7.bA).1, (smU n7.bA).2, fun p H1 s1' h1 => ?_⟩
      refine fun m1 dx hx hdx hne => ⟨m1, dx, p, h, b, qv A ua, rfl, upd_same, mat_arg h1 hx hdx hne, n7.z1, fun H2 t2 e2 tb2 kp => ⟨rfl, ?_⟩⟩
      have s2 := mat_same (CM := CM) hx hdx hne kp
      have hm1 : MtAt C CM H2 m1 h b (qv A ua) := ⟨dx, t2, e2, tb2⟩
      have s12 := s1'.trans s2
      refine ⟨_, rfl, tb, s0, _, B, ub, rfl, (pb.same (hid_same q G5)).same s12, by omega, by omega, (smU n7.bB).1, (smU n7.bB).2, fun p2 H3 s3 h3 => ?_⟩
      refine fun m2 dx hx hdx hne => ⟨m2, dx, p2, s0, s1, qv B ub, rfl, upd_same, mat_arg h3 hx hdx hne, n7.z2, fun H4 t4 e4 tb4 kp4 => ⟨rfl, ?_⟩⟩
      have s4 := mat_same (CM := CM) hx hdx hne kp4
      have hm2 : MtAt C CM H4 m2 s0 s1 (qv B ub) := ⟨dx, t4, e4, tb4⟩
      exact ⟨_, _, rfl, m1, m2, rfl, s12.trans (s3.trans s4), hm1.same (s3.trans s4), hm2⟩
    rintro _ G6 ⟨m1, m2, rfl, s6, hm1, hm2⟩
    -- three
    refine ⟨fun σ G => ∃ m3 : Addr, σ = [some (.ref q), some (.int h), some (.int b), some (.ref lo), some (.ref sp), some (.ref ta), some (.ref tb), some (.ref tc), some (.ref m1), some (.ref m2), some (.ref m3), none, none, none, none, none, none, none, none] ∧ Keep q H G ∧ QAt G q 3000 ∧ (hid q G) sp = some (.tup [.int s0, .int s1]) ∧ W7 C CM (hid q G) ta tb tc m1 m2 m3 h b s0 s1 s2 A B D ua ub uc, ?_, ?_⟩
    · refine ⟨_, rfl, tc, s1, s2, D, uc, rfl, (pc.same (hid_same q G5)).same s6, by omega, by omega, (smU n7.bD).1, (smU n7.bD).2, fun p H1 s1' h1 => ?_⟩
      refine fun m3 dx hx hdx hne => ⟨m3, dx, p, s1, s2, qv D uc, rfl, upd_same, mat_arg h1 hx hdx hne, n7.z3, fun H2 t2 e2 tb2 kp => ⟨rfl, ?_⟩⟩
      have s2' := mat_same (CM := CM) hx hdx hne kp
      have hm3 : MtAt C CM H2 m3 s1 s2 (qv D uc) := ⟨dx, t2, e2, tb2⟩
      have s3 := s1'.trans s2'
      have s4 := s6.trans s3
      have qF := q5.keep s4
      obtain ⟨c0, ns, i0, r0, t0, eq, _⟩ := id qF
      exact ⟨m3, rfl, k5.same s4, qF, by rw [hid_ne nsp]; exact s4 _ _ esp5, ⟨pa.same (hid_mono s4), pb.same (hid_mono s4), pc.same (hid_mono s4), (hm1.same s3).hid eq, (hm2.same s3).hid eq, hm3.hid eq⟩⟩
    rintro _ G7 ⟨m3, rfl, k7, q7, esp7, w7⟩
    clear k5 q5 esp5 pa pb pc s6 hm1 hm2
    have kh := n7.sh
    have kb := n7.sb
    have k0' := n7.k0
    have k1' := n7.k1
    have k2' := n7.k2
    have w := w7.same (hid_same q G7)
    -- told = [tried(one, two, 'plus'), tried(one, two, 'less'), tried(one, two, 'times')]
    refine ⟨fun σ G => ∃ (l : Addr) (v0 v1 v2 : V), σ = [some (.ref q), some (.int h), some (.int b), some (.ref lo), some (.ref sp), some (.ref ta), some (.ref tb), some (.ref tc), some (.ref m1), some (.ref m2), some (.ref m3), some (.ref l), none, none, none, none, none, none, none] ∧ Same G7 G ∧ G l = some (.lst [v0, v1, v2]) ∧
      ResT K C CM G v0 (h = s0 ∧ b = s1) h b (fun i j => qv A ua i j + qv B ub i j) (dP h b s0 s1) ∧ ResT K C CM G v1 (h = s0 ∧ b = s1) h b (fun i j => qv A ua i j - qv B ub i j) (dP h b s0 s1) ∧ ResT K C CM G v2 (b = s0) h s1 (mulQ b (qv A ua) (qv B ub)) (dQ b s0), ?_, ?_⟩
    · refine ⟨_, rfl, _, rfl, m1, m2, _, h, b, s0, s1, _, _, rfl, w.m1, w.m2, n7.z1, n7.z2, n7.b1, n7.b2, .inl ⟨rfl, fun v0 H1 a1 r0 => ?_⟩⟩
      refine ⟨_, rfl, _, rfl, m1, m2, _, h, b, s0, s1, _, _, rfl, w.m1.same a1, w.m2.same a1, n7.z1, n7.z2, n7.b1, n7.b2, .inr (.inl ⟨rfl, fun v1 H2 a2 r1 => ?_⟩)⟩
      have a12 := a1.trans a2
      refine ⟨_, rfl, _, rfl, m1, m2, _, h, b, s0, s1, _, _, rfl, w.m1.same a12, w.m2.same a12, n7.z1, n7.z2, n7.b1, n7.b2, .inr (.inr ⟨rfl, fun _ => ⟨_, _, n7.d1, n7.d2⟩, fun v2 H3 a3 r2 => ?_⟩)⟩
      refine ⟨by show 3 ≤ sizeLine; decide, fun l hl => ?_⟩
      have a4 := MG.Same.new (o := .lst [v0, v1, v2]) a3 hl
      exact ⟨l, v0, v1, v2, rfl, a12.trans a4, upd_same, (r0.same a2).same a4, r1.same a4, r2.same (MG.Same.new (Same.refl _) hl)⟩
    rintro _ G8 ⟨l3, v0, v1, v2, rfl, a8, el3, r0, r1, r2⟩
    -- told = told + [..]
    refine ⟨fun σ G => ∃ (l : Addr) (v0 v1 v2 v3 v4 v5 v6 v7 : V), σ = [some (.ref q), some (.int h), some (.int b), some (.ref lo), some (.ref sp), some (.ref ta), some (.ref tb), some (.ref tc), some (.ref m1), some (.ref m2), some (.ref m3), some (.ref l), none, none, none, none, none, none, none] ∧ Same G7 G ∧ G l = some (.lst [v0, v1, v2, v3, v4, v5, v6, v7]) ∧
      R8 K C CM G h b s0 s1 s2 (qv A ua) (qv B ub) (qv D uc) v0 v1 v2 v3 v4 v5 v6 v7, ?_, ?_⟩
    · refine ⟨_, rfl, ?_⟩
      have w8 := w.same a8
      refine ⟨_, rfl, _, rfl, m2, m1, _, s0, s1, h, b, _, _, rfl, w8.m2, w8.m1, n7.z2, n7.z1, n7.b2, n7.b1, .inr (.inr ⟨rfl, fun _ => ⟨_, _, n7.d2, n7.d1⟩, fun v3 H1 a1 r3 => ?_⟩)⟩
      refine ⟨_, rfl, _, rfl, mm_mul (w8.m2.same a1) (w8.m3.same a1) n7.z2 n7.z3 n7.b2 n7.b3 n7.d2 n7.d3 fun v4 H2 a2 r4 => ?_⟩
      have a12 := a1.trans a2
      refine ⟨_, rfl, _, rfl, mm_bin (w8.m1.same a12) (w8.m1.same a12) n7.z1 n7.b1 n7.b1 fun v5 H3 a3 r5 => ?_⟩
      have a13 := a12.trans a3
      refine ⟨_, rfl, _, rfl, mm_bin (w8.m1.same a13) (w8.m1.same a13) n7.z1 n7.b1 n7.b1 fun v6 H4 a4 r6 => ?_⟩
      have a14 := a13.trans a4
      refine ⟨_, rfl, mm_neg (w8.m1.same a14) n7.z1 n7.b1 fun v7 H5 a5 r7 => ?_⟩
      have a15 := a14.trans a5
      refine ⟨by show 5 ≤ sizeLine; decide, fun l hl => ?_⟩
      have aL := MG.Same.new (o := .lst [v3, .ref v4, .ref v5, .ref v6, .ref v7]) (Same.refl H5) hl
      have el := aL _ _ (a15 _ _ el3)
      refine ⟨l3, l, _, _, rfl, rfl, el, upd_same, by show 8 ≤ sizeLine; decide, fun l' hl' => ?_⟩
      have aF := aL.trans (MG.Same.new (o := .lst ([v0, v1, v2] ++ [v3, .ref v4, .ref v5, .ref v6, .ref v7])) (Same.refl _) hl')
      have a25 := (a2.trans (a3.trans (a4.trans a5))).trans aF
      exact ⟨l', v0, v1, v2, v3, .ref v4, .ref v5, .ref v6, .ref v7, rfl, a8.trans (a15.trans aF), upd_same, ⟨r0.same (a15.trans aF), r1.same (a15.trans aF), r2.same (a15.trans aF), r3.same a25, .inl ⟨trivial, v4, rfl, r4.same ((a3.trans (a4.trans a5)).trans aF)⟩, .inl ⟨trivial, v5, rfl, r5.same ((a4.trans a5).trans aF)⟩, .inl ⟨trivial, v6, rfl, r6.same (a5.trans aF)⟩, .inl ⟨trivial, v7, rfl, r7.same aF⟩⟩⟩
    clear r0 r1 r2 el3 a8
    rintro _ G9 ⟨l8, v0, v1, v2, v3, v4, v5, v6, v7, rfl, a9, el8, r8⟩
    -- due = [..]
    refine ⟨fun σ G => ∃ (l t0 t1 t2 t3 : Addr), σ = [some (.ref q), some (.int h), some (.int b), some (.ref lo), some (.ref sp), some (.ref ta), some (.ref tb), some (.ref tc), some (.ref m1), some (.ref m2), some (.ref m3), some (.ref l8), some (.ref l), none, none, none, none, none, none] ∧ Same G9 G ∧ G l = some (.lst [.ref t0, .ref t1, .ref t2, .ref t3]) ∧
      DueT K G t0 (h = s0 ∧ b = s1) h b (fun i j => qv A ua i j + Rat.divInt 1 1 * qv B ub i j) (dP h b s0 s1) ∧ DueT K G t1 (h = s0 ∧ b = s1) h b (fun i j => qv A ua i j + Rat.divInt (-1) 1 * qv B ub i j) (dP h b s0 s1) ∧ DueT K G t2 (b = s0) h s1 (mulQ b (qv A ua) (qv B ub)) (dQ b s0) ∧ DueT K G t3 (s1 = h) s0 b (mulQ s1 (qv B ub) (qv A ua)) (dQ s1 h), ?_, ?_⟩
    · have w9 := w.same a9
      refine ⟨_, rfl, _, rfl, ta, tb, h, b, s0, s1, A, B, ua, ub, 1, rfl, w9.pa, w9.pb, n7.z1, n7.z2, n7.bA.mono (by decide), n7.bB.mono (by decide), .inl rfl, fun t0 H1 a1 d0 => ?_⟩
      refine ⟨_, rfl, _, rfl, _, rfl, ta, tb, h, b, s0, s1, A, B, ua, ub, -1, rfl, w9.pa.same a1, w9.pb.same a1, n7.z1, n7.z2, n7.bA.mono (by decide), n7.bB.mono (by decide), .inr rfl, fun t1 H2 a2 d1 => ?_⟩
      have a12 := a1.trans a2
      refine ⟨_, rfl, _, rfl, ta, tb, h, b, s0, s1, A, B, ua, ub, rfl, w9.pa.same a12, w9.pb.same a12, by omega, by omega, n7.bA.mono (by decide), n7.bB.mono (by decide), fun t2 H3 a3 d2 => ?_⟩
      have a13 := a12.trans a3
      refine ⟨_, rfl, _, rfl, tb, ta, s0, s1, h, b, B, A, ub, ua, rfl, w9.pb.same a13, w9.pa.same a13, by omega, by omega, n7.bB.mono (by decide), n7.bA.mono (by decide), fun t3 H4 a4 d3 => ?_⟩
      refine ⟨by show 4 ≤ sizeLine; decide, fun l hl => ?_⟩
      have aL := MG.Same.new (o := .lst [V.ref t0, .ref t1, .ref t2, .ref t3]) (Same.refl H4) hl
      exact ⟨l, t0, t1, t2, t3, rfl, (a13.trans a4).trans aL, upd_same, d0.same (a2.trans (a3.trans (a4.trans aL))), d1.same (a3.trans (a4.trans aL)), d2.same (a4.trans aL), d3.same aL⟩
    rintro _ G10 ⟨l4, t0, t1, t2, t3, rfl, a10, el4, d0, d1, d2, d3⟩
    -- due = due + [times(b, c), scale(a, (2, 1))]
    refine ⟨fun σ G => ∃ (l t4 t5 : Addr), σ = [some (.ref q), some (.int h), some (.int b), some (.ref lo), some (.ref sp), some (.ref ta), some (.ref tb), some (.ref tc), some (.ref m1), some (.ref m2), some (.ref m3), some (.ref l8), some (.ref l), none, none, none, none, none, none] ∧ Same G10 G ∧ G l = some (.lst [.ref t0, .ref t1, .ref t2, .ref t3, .ref t4, .ref t5]) ∧
      DueT K G t4 True s0 s2 (mulQ s1 (qv B ub) (qv D uc)) (dQ 0 0) ∧ DueT K G t5 True h b (fun i j => qv A ua i j * Rat.divInt 2 1) (dQ 0 0), ?_, ?_⟩
    · have w10 := w.same (a9.trans a10)
      refine ⟨_, rfl, ?_⟩
      refine ⟨_, rfl, _, rfl, tb, tc, s0, s1, s2, B, D, ub, uc, 13, rfl, w10.pb, w10.pc, by omega, by omega, by omega, by omega, by decide, n7.bB, n7.bD, fun t4 H1 A1 u1 a1 h1 bn1 _ v1 => ?_⟩
      refine ⟨_, rfl, by show 2 ≤ sizeLine; decide, fun p hp => ?_⟩
      have a2 := MG.Same.new (o := .tup [.int 2, .int 1]) a1 hp
      refine ⟨ta, p, h, b, A, ua, 2, 1, 13, rfl, w10.pa.same a2, upd_same, by omega, by omega, by decide, n7.bA, by decide, by decide, by decide, fun t5 H2 A2 u2 a3 h2 bn2 v2 => ?_⟩
      refine ⟨by show 2 ≤ sizeLine; decide, fun l hl => ?_⟩
      have a23 := a2.trans a3
      have aL := MG.Same.new (o := .lst [V.ref t4, .ref t5]) (Same.refl H2) hl
      refine ⟨l4, l, _, _, rfl, rfl, aL _ _ (a23 _ _ el4), upd_same, by show 6 ≤ sizeLine; decide, fun l' hl' => ?_⟩
      have aF := aL.trans (MG.Same.new (o := .lst ([V.ref t0, .ref t1, .ref t2, .ref t3] ++ [.ref t4, .ref t5])) (Same.refl _) hl')
      have a13 := ((MG.Same.new (o := .tup [.int 2, .int 1]) (Same.refl H1) hp).trans a3).trans aF
      exact ⟨l', t4, t5, rfl, a23.trans aF, upd_same, .inl ⟨trivial, A1, u1, h1.same a13, bn1.mono (by decide), v1⟩, .inl ⟨trivial, A2, u2, h2.same aF, bn2.mono (by decide), v2⟩⟩
    rintro _ G11 ⟨l6, t4, t5, rfl, a11, el6, d4, d5⟩
    -- due = due + [scale(a, (0, 1)), scale(a, (-1, 1))]
    refine ⟨fun σ G => ∃ (l t6 t7 : Addr), σ = [some (.ref q), some (.int h), some (.int b), some (.ref lo), some (.ref sp), some (.ref ta), some (.ref tb), some (.ref tc), some (.ref m1), some (.ref m2), some (.ref m3), some (.ref l8), some (.ref l), none, none, none, none, none, none] ∧ Same G11 G ∧ G l = some (.lst [.ref t0, .ref t1, .ref t2, .ref t3, .ref t4, .ref t5, .ref t6, .ref t7]) ∧
      DueT K G t6 True h b (fun i j => qv A ua i j * Rat.divInt 0 1) (dQ 0 0) ∧ DueT K G t7 True h b (fun i j => qv A ua i j * Rat.divInt (-1) 1) (dQ 0 0), ?_, ?_⟩
    · have w11 := w.same (a9.trans (a10.trans a11))
      refine ⟨_, rfl, ?_⟩
      refine ⟨_, rfl, by show 2 ≤ sizeLine; decide, fun p hp => ?_⟩
      have a1 := MG.Same.new (o := .tup [.int 0, .int 1]) (Same.refl G11) hp
      refine ⟨ta, p, h, b, A, ua, 0, 1, 13, rfl, w11.pa.same a1, upd_same, by omega, by omega, by decide, n7.bA, by decide, by decide, by decide, fun t6 H1 A1 u1 a2 h1 bn1 v1 => ?_⟩
      refine ⟨_, rfl, _, rfl, by show 2 ≤ sizeLine; decide, fun p2 hp2 => ?_⟩
      have a12 := a1.trans a2
      have a3 := MG.Same.new (o := .tup [.int (-1), .int 1]) a12 hp2
      refine ⟨ta, p2, h, b, A, ua, -1, 1, 13, rfl, w11.pa.same a3, upd_same, by omega, by omega, by decide, n7.bA, by decide, by decide, by decide, fun t7 H2 A2 u2 a4 h2 bn2 v2 => ?_⟩
      refine ⟨by show 2 ≤ sizeLine; decide, fun l hl => ?_⟩
      have a34 := a3.trans a4
      have aL := MG.Same.new (o := .lst [V.ref t6, .ref t7]) (Same.refl H2) hl
      refine ⟨l6, l, _, _, rfl, rfl, aL _ _ (a34 _ _ el6), upd_same, by show 8 ≤ sizeLine; decide, fun l' hl' => ?_⟩
      have aF := aL.trans (MG.Same.new (o := .lst ([V.ref t0, .ref t1, .ref t2, .ref t3, .ref t4, .ref t5] ++ [.ref t6, .ref t7])) (Same.refl _) hl')
      have a13 := ((MG.Same.new (o := .tup [.int (-1), .int 1]) (Same.refl H1) hp2).trans a4).trans aF
      exact ⟨l', t6, t7, rfl, a34.trans aF, upd_same, .inl ⟨trivial, A1, u1, h1.same a13, bn1.mono (by decide), v1⟩, .inl ⟨trivial, A2, u2, h2.same aF, bn2.mono (by decide), v2⟩⟩
    rintro _ G12 ⟨ld, t6, t7, rfl, a12, eld, d6, d7⟩
    have a912 := a10.trans (a11.trans a12)
    have d8 : D8 K G12 h b s0 s1 s2 (qv A ua) (qv B ub) (qv D uc) t0 t1 t2 t3 t4 t5 t6 t7 := ⟨d0.same (a11.trans a12), d1.same (a11.trans a12), d2.same (a11.trans a12), d3.same (a11.trans a12), d4.same a12, d5.same a12, d6, d7⟩
    have agr := agr8 (r8.same a912) d8 (by omega) (by omega) (by omega) (by omega) (by omega)
    replace el8 := a912 _ _ el8
    clear d0 d1 d2 d3 d4 d5 d6 d7 d8 r8 el4 el6
    -- if not all([agrees(told[k], due[k]) for k in range(8)])
    refine ⟨fun σ G => σ = [some (.ref q), some (.int h), some (.int b), some (.ref lo), some (.ref sp), some (.ref ta), some (.ref tb), some (.ref tc), some (.ref m1), some (.ref m2), some (.ref m3), some (.ref l8), some (.ref ld), none, none, none, none, none, none] ∧ Same G7 G, ?_, ?_⟩
    · refine ⟨8, rfl, by decide, by decide, fun D0 hD0 => ?_⟩
      refine lc_same (walk_range (lo := 0) (n := 8)) hD0 (by decide) (fun _ y _ => y = .bl true) (fun _ _ _ _ h _ => h) (fun G s => trivial) yfn_same (fun i y H1 H1' hi s1 _ hy => ?_) fun ys H1 hl1 s1 e1 h1 => ?_
      · obtain ⟨rfl, rfl⟩ := hy
        obtain ⟨v, t, hv, ht, ag⟩ := agr i hi
        have ei : V.int (0 + (i : Int)) = V.int (i : Int) := by rw [Int.zero_add]
        refine ⟨_, fun _ h => h, wipe_one, ?_⟩
        exact ⟨_, rfl, _, rfl, l8, _, _, _, rfl, ei, SqL.of (s1 _ _ el8), atI_nat hv, _, rfl, _, rfl, ld, _, _, _, rfl, ei, SqL.of (s1 _ _ eld), atI_nat ht, v, t, rfl, ag.same s1, fun H' s => ⟨s, fun _ => rfl⟩⟩
      obtain ⟨bs, hbs, ab⟩ := all_bl (K := K) e1 h1
      refine ⟨D0, bs, rfl, hbs, _, rfl, ifF (by rw [ab]; rfl) ?_⟩
      exact ⟨rfl, a9.trans (a912.trans s1)⟩
    clear agr el8 eld a9 a10 a11 a12 a912
    rintro _ G13 ⟨rfl, a13⟩
    -- whole, half = (great(q), lowest(great(q), 1 + draw(q, 60)))
    refine ⟨fun σ G => ∃ (z : Int) (p : Rat) (t : Addr), σ = [some (.ref q), some (.int h), some (.int b), some (.ref lo), some (.ref sp), some (.ref ta), some (.ref tb), some (.ref tc), some (.ref m1), some (.ref m2), some (.ref m3), some (.ref l8), some (.ref ld), some (.int z), some (.ref t), none, none, none, none] ∧ Keep q H G ∧ QAt G q 4000 ∧ Same (hid q G7) (hid q G) ∧ z.natAbs < 10 ^ 42 ∧ Bd p 42 ∧ (hid q G) t = some (.tup [.int p.num, .int p.den]), ?_, ?_⟩
    · have q13 := q7.keep a13
      refine ⟨_, rfl, q, 3000, rfl, q13, by decide, fun z H1 z0 z1 k1 q1 => ?_⟩
      refine ⟨_, rfl, q, 3003, rfl, q1, by decide, fun y H2 y0 y1 k2 q2 => ?_⟩
      refine ⟨_, rfl, q, 60, 3006, rfl, q2, by decide, by decide, by decide, fun d H3 dd0 dd1 k3 q3 => ⟨_, _, rfl, rfl, ?_⟩⟩
      refine ⟨y, _, rfl, by omega, sm_lt (k := 3) (by decide) (by omega) (by omega), fun p hp => ?_⟩
      have kk := k1.trans (k2.trans k3)
      have sP := MG.Same.new (o := .tup [.int (Rat.divInt y (1 + d)).num, .int (Rat.divInt y (1 + d)).den]) (Same.refl H3) hp
      have np := q3.ne hp
      exact ⟨_, _, rfl, z, Rat.divInt y (1 + d), p, rfl, ((k7.same a13).trans kk).same sP, (q3.keep sP).le (by decide), (hid_mono a13).trans ((hid_keep kk).trans (hid_mono sP)), by omega, bd_div (by omega) (by omega) (by omega), by rw [hid_ne np]; exact upd_same⟩
    rintro _ G14 ⟨z, p, t, rfl, k14, q14, a14, hz, bp, ept⟩
    have wF := (w7.same a14).same (hid_same q G14)
    have esp := hid_same q G14 _ _ (a14 _ _ esp7)
    have eptF := hid_same q G14 _ _ ept
    clear w w7 q7 k7 a13 a14 esp7 ept
    -- if not is(one * whole, scale(a, (whole, 1)))
    refine ⟨fun σ G => σ = [some (.ref q), some (.int h), some (.int b), some (.ref lo), some (.ref sp), some (.ref ta), some (.ref tb), some (.ref tc), some (.ref m1), some (.ref m2), some (.ref m3), some (.ref l8), some (.ref ld), some (.int z), some (.ref t), none, none, none, none] ∧ Same G14 G, ?_, ?_⟩
    · have b42 : Bn h b A ua 42 := n7.bA.mono (by decide)
      refine ⟨_, rfl, _, rfl, mm_num wF.m1 (.inr ⟨z, rfl, rfl⟩) n7.z1 n7.b1 (bd_div (by decide) (Nat.lt_of_lt_of_le hz (by decide)) (by decide)) fun m H1 a1 hm => ?_⟩
      refine ⟨_, rfl, _, rfl, by show 2 ≤ sizeLine; decide, fun p2 hp2 => ?_⟩
      have a2 := MG.Same.new (o := .tup [.int z, .int 1]) a1 hp2
      refine ⟨ta, p2, h, b, A, ua, z, 1, 42, rfl, wF.pa.same a2, upd_same, by omega, by omega, by decide, b42, hz, by decide, by decide, fun t' H2 A' u' a3 h3 bn hv => ?_⟩
      obtain ⟨i1, i2, i3, i4⟩ := is_args bn (by decide) hv
      refine ⟨m, t', h, b, _, A', u', rfl, hm.same ((MG.Same.new (Same.refl _) hp2).trans a3), h3, by omega, by omega, i1, i2, i3, i4, fun H3 a4 => ⟨_, rfl, iteF ?_⟩⟩
      exact ⟨rfl, a2.trans (a3.trans a4)⟩
    rintro _ G15 ⟨rfl, a15⟩
    -- if not is(one * 0, scale(a, (0, 1)))
    refine ⟨fun σ G => σ = [some (.ref q), some (.int h), some (.int b), some (.ref lo), some (.ref sp), some (.ref ta), some (.ref tb), some (.ref tc), some (.ref m1), some (.ref m2), some (.ref m3), some (.ref l8), some (.ref ld), some (.int z), some (.ref t), none, none, none, none] ∧ Same G14 G, ?_, ?_⟩
    · have wX := wF.same a15
      refine ⟨_, rfl, mm_num wX.m1 (.inr ⟨0, rfl, rfl⟩) n7.z1 n7.b1 (bd_div (by decide) (by decide) (by decide)) fun m H1 a1 hm => ?_⟩
      refine ⟨_, rfl, by show 2 ≤ sizeLine; decide, fun p2 hp2 => ?_⟩
      have a2 := MG.Same.new (o := .tup [.int 0, .int 1]) a1 hp2
      refine ⟨ta, p2, h, b, A, ua, 0, 1, 13, rfl, wX.pa.same a2, upd_same, by omega, by omega, by decide, n7.bA, by decide, by decide, by decide, fun t' H2 A' u' a3 h3 bn hv => ?_⟩
      obtain ⟨i1, i2, i3, i4⟩ := is_args bn (by decide) hv
      refine ⟨m, t', h, b, _, A', u', rfl, hm.same ((MG.Same.new (Same.refl _) hp2).trans a3), h3, by omega, by omega, i1, i2, i3, i4, fun H3 a4 => ⟨_, rfl, iteF ?_⟩⟩
      exact ⟨rfl, a15.trans (a2.trans (a3.trans a4))⟩
    rintro _ G16 ⟨rfl, a16⟩
    clear a15
    -- if not is(one * Ratio(half[0], half[1]), scale(a, half))
    refine ⟨fun σ G => σ = [some (.ref q), some (.int h), some (.int b), some (.ref lo), some (.ref sp), some (.ref ta), some (.ref tb), some (.ref tc), some (.ref m1), some (.ref m2), some (.ref m3), some (.ref l8), some (.ref ld), some (.int z), some (.ref t), none, none, none, none] ∧ Same G14 G, ?_, ?_⟩
    · have wX := wF.same a16
      have et := a16 _ _ eptF
      have pd : (p.den : Int) ≠ 0 := by have := p.den_nz; omega
      have b42 : Bn h b A ua 42 := n7.bA.mono (by decide)
      refine ⟨_, rfl, _, rfl, t, _, _, _, rfl, rfl, SqT.of et, rfl, _, rfl, t, _, _, _, rfl, rfl, SqT.of et, rfl, fun r1 dd x1 y1 _ => ⟨r1, dd, p.num, p.den, rfl, upd_same, pd, bp.den (by decide), fun J1 e1 kp1 => ⟨rfl, ?_⟩⟩⟩
      have sJ := made_same x1 y1 kp1
      rw [Rat.num_divInt_den] at e1
      refine mm_num (wX.m1.same sJ) (.inl ⟨r1, rfl, ⟨dd, e1⟩⟩) n7.z1 n7.b1 (bp.mono (by decide)) fun m H1 a1 hm => ?_
      have aJ := sJ.trans a1
      refine ⟨_, rfl, _, rfl, ta, t, h, b, A, ua, p.num, p.den, 42, rfl, wX.pa.same aJ, aJ _ _ et, by omega, by omega, by decide, b42, bp.1, by have := p.den_pos; omega, bp.2, fun t' H2 A' u' a3 h3 bn hv => ?_⟩
      rw [Rat.num_divInt_den] at hv
      obtain ⟨i1, i2, i3, i4⟩ := is_args bn (by decide) hv
      refine ⟨m, t', h, b, _, A', u', rfl, hm.same a3, h3, by omega, by omega, i1, i2, i3, i4, fun H3 a4 => ⟨_, rfl, iteF ?_⟩⟩
      exact ⟨rfl, a16.trans (aJ.trans (a3.trans a4))⟩
    rintro _ G17 ⟨rfl, a17⟩
    clear a16
    -- if shape[0] == broad: left, right = ..; if left != right: return False
    refine ⟨fun σ G => ∃ x15 x16, σ = [some (.ref q), some (.int h), some (.int b), some (.ref lo), some (.ref sp), some (.ref ta), some (.ref tb), some (.ref tc), some (.ref m1), some (.ref m2), some (.ref m3), some (.ref l8), some (.ref ld), some (.int z), some (.ref t), x15, x16, none, none] ∧ Same G14 G, ?_, ?_⟩
    · have wX := wF.same a17
      refine ⟨_, rfl, sp, _, _, _, rfl, rfl, SqT.of (a17 _ _ esp), rfl, _, rfl, rfl, _, rfl, ?_⟩
      by_cases hsb : s0 = b
      · subst hsb
        refine ifT (by simp) ?_
        have p12 := prod_ok (by omega) n7.bA n7.bB n7.uA n7.uB
        have p23 := prod_ok (by omega) n7.bB n7.bD n7.uB n7.uD
        have z12 : Sz h s1 := ⟨by omega, by omega, by omega, by omega⟩
        have z23 : Sz s0 s2 := ⟨by omega, by omega, by omega, by omega⟩
        have b12 : Bds h s1 (mulQ s0 (qv A ua) (qv B ub)) 150 := fun i j hi hj => (p12.1 i j hi hj).mono (by decide)
        have b23 : Bds s0 s2 (mulQ s1 (qv B ub) (qv D uc)) 150 := fun i j hi hj => (p23.1 i j hi hj).mono (by decide)
        refine ⟨_, rfl, _, rfl, mm_mul wX.m1 wX.m2 n7.z1 n7.z2 n7.b1 n7.b2 n7.d1 n7.d2 fun m4 H1 a1 h4 => ⟨_, rfl, mm_mul h4 (wX.m3.same a1) z12 n7.z3 b12 n7.b3 p12.2 n7.d3 fun m5 H2 a2 h5 => ?_⟩⟩
        have a12 := a1.trans a2
        refine ⟨_, rfl, _, rfl, _, rfl, mm_mul (wX.m2.same a12) (wX.m3.same a12) n7.z2 n7.z3 n7.b2 n7.b3 n7.d2 n7.d3 fun m6 H3 a3 h6 => ?_⟩
        refine mm_mul (wX.m1.same (a12.trans a3)) h6 n7.z1 z23 n7.b1 b23 n7.d1 p23.2 fun m7 H4 a4 h7 => ?_
        have h5' := h5.same (a3.trans a4)
        have h7' : MtAt C CM H4 m7 h s2 (mulQ s1 (mulQ s0 (qv A ua) (qv B ub)) (qv D uc)) := h7.congr fun i j _ _ => (mulQ_assoc s0 s1 _ _ _ i j).symm
        obtain ⟨d5, t5', e5, _⟩ := id h5'
        obtain ⟨d7, t7', e7, _⟩ := id h7'
        refine ⟨_, _, rfl, ?_⟩
        refine ⟨_, rfl, _, rfl, m5, d5, _, m7, d7, _, rfl, e5, rfl, e7, m5, m7, h, s2, _, rfl, h5', h7', fun H5 a5 => ⟨true, rfl, _, rfl, iteF ?_⟩⟩
        exact ⟨_, _, rfl, a17.trans (a12.trans (a3.trans (a4.trans a5)))⟩
      · refine ifF (by simp; omega) ?_
        exact ⟨_, _, rfl, a17⟩
    rintro _ G18 ⟨x15, x16, rfl, a18⟩
    clear a17
    have wX := wF.same a18
    -- square = one.transposed * one
    have bT : Bn b h (fun i j => A j i) ua 13 := ⟨n7.bA.pos, n7.bA.ub, fun i j hi hj => n7.bA.ab j i hj hi⟩
    have zT : Sz b h := ⟨by omega, by omega, by omega, by omega⟩
    have zb : Sz b b := ⟨by omega, by omega, by omega, by omega⟩
    have pS := prod_ok (A := fun i j => A j i) (B := A) (n := h) (by omega) bT n7.bA n7.uA n7.uA
    refine ⟨fun σ G => ∃ ms, σ = [some (.ref q), some (.int h), some (.int b), some (.ref lo), some (.ref sp), some (.ref ta), some (.ref tb), some (.ref tc), some (.ref m1), some (.ref m2), some (.ref m3), some (.ref l8), some (.ref ld), some (.int z), some (.ref t), x15, x16, some (.ref ms), none] ∧ Same G18 G ∧ MtAt C CM G ms b b (mulQ h (qv (fun i j => A j i) ua) (qv A ua)), ?_, ?_⟩
    · obtain ⟨dx, t', em1, _⟩ := id wX.m1
      refine ⟨_, rfl, m1, dx, _, rfl, em1, m1, h, b, _, rfl, wX.m1, n7.z1, fun mt H1 a1 ht => ?_⟩
      have ht' : MtAt C CM H1 mt b h (qv (fun i j => A j i) ua) := ht
      refine ⟨_, rfl, mm_mul ht' (wX.m1.same a1) zT n7.z1 ((bT.mono (k' := 150) (by decide)).bds) n7.b1 (den_of bT.pos (by have := n7.uA; omega)) n7.d1 fun ms H2 a2 hs => ?_⟩
      exact ⟨ms, rfl, a1.trans a2, hs⟩
    rintro _ G19 ⟨ms, rfl, a19, hms⟩
    have wY := wX.same a19
    -- if not is(square.transposed, times(turn(a), a))
    refine ⟨fun σ G => σ = [some (.ref q), some (.int h), some (.int b), some (.ref lo), some (.ref sp), some (.ref ta), some (.ref tb), some (.ref tc), some (.ref m1), some (.ref m2), some (.ref m3), some (.ref l8), some (.ref ld), some (.int z), some (.ref t), x15, x16, some (.ref ms), none] ∧ Same G19 G, ?_, ?_⟩
    · obtain ⟨dx, t', ems, _⟩ := id hms
      refine ⟨_, rfl, ms, dx, _, rfl, ems, ms, b, b, _, rfl, hms, zb, fun mt H1 a1 ht => ?_⟩
      refine ⟨_, rfl, ta, h, b, A, ua, rfl, wY.pa.same a1, by omega, by omega, by omega, fun t2 H2 a2 hT => ?_⟩
      have a12 := a1.trans a2
      refine ⟨_, rfl, t2, ta, b, h, b, _, A, ua, ua, 13, rfl, hT, wY.pa.same a12, by omega, by omega, by omega, by omega, by decide, bT, n7.bA, fun t3 H3 A' u' a3 h3 bn _ hv => ?_⟩
      obtain ⟨i1, i2, i3, i4⟩ := is_args bn (by decide) hv
      have sym : ∀ i j, i < b → j < b → mulQ h (qv (fun i j => A j i) ua) (qv A ua) j i = mulQ h (qv (fun i j => A j i) ua) (qv A ua) i j := fun i j _ _ => sumQ_congr fun k _ => Rat.mul_comm _ _
      refine ⟨mt, t3, b, b, _, A', u', rfl, (ht.congr sym).same (a2.trans a3), h3, by omega, by omega, i1, i2, i3, i4, fun H4 a4 => ⟨_, rfl, iteF ?_⟩⟩
      exact ⟨rfl, a12.trans (a3.trans a4)⟩
    rintro _ G20 ⟨rfl, a20⟩
    have wZ := wY.same a20
    -- return is(one, a) and is(two, b) and is(three, c)
    obtain ⟨i1, i2, i3, i4⟩ := is_args (n7.bA.mono (k' := 13) (by decide)) (by decide) (fun i j _ _ => rfl)
    obtain ⟨j1, j2, j3, j4⟩ := is_args (n7.bB.mono (k' := 13) (by decide)) (by decide) (fun i j _ _ => rfl)
    obtain ⟨g1, g2, g3, g4⟩ := is_args (n7.bD.mono (k' := 13) (by decide)) (by decide) (fun i j _ _ => rfl)
    refine ⟨fun σ G => False, ?_, fun _ _ z => z.elim⟩
    refine ⟨_, rfl, _, rfl, m1, ta, h, b, _, A, ua, rfl, wZ.m1, wZ.pa, by omega, by omega, i1, i2, i3, i4, fun H1 a1 => ⟨_, rfl, iteT ?_⟩⟩
    refine ⟨_, rfl, _, rfl, m2, tb, s0, s1, _, B, ub, rfl, wZ.m2.same a1, wZ.pb.same a1, by omega, by omega, j1, j2, j3, j4, fun H2 a2 => ⟨_, rfl, iteT ?_⟩⟩
    refine ⟨_, rfl, _, rfl, m3, tc, s1, s2, _, D, uc, rfl, wZ.m3.same (a1.trans a2), wZ.pc.same (a1.trans a2), by omega, by omega, g1, g2, g3, g4, fun H3 a3 => ?_⟩
    exact k H3 (k14.same ((a18.trans (a19.trans a20)).trans (a1.trans (a2.trans a3))))
abbrev RightC (P : Program) (w : World) (K : PySem.W.Frag) (mg : Str → Option Value) (base : Heap) : Prop := CalG P w K mg base 20 "_law_right" spRight []
/-! ### law -/
def spLaw (K : PySem.W.Frag) : Sp := fun vs H Q _ => ∃ (a : Addr) (ns : List Int), vs = [.ref a] ∧ SqL K H a (ns.map V.int) ∧ ns.length ≤ 63 ∧ ∀ H', Q (.bl true) H'
theorem sc_law : FnScope ["_law_script", "_law_k"] ["_law_script"] (defScope s_law) := ⟨rfl, rfl, rfl, by decide +kernel, rfl, by decide +kernel, by decide +kernel⟩
theorem ok_law {f : Addr} {fd : FuncData} (F : Fun K "law" "law" s_law f fd) (T : Blt mg) (c_from : CalG P w K mg base 4 "_law_from" (spFrom K) []) (c_right : RightC P w K mg base) : FnG P w K mg base CX0 22 f fd ["_law_script"] (spLaw K) := by
  refine fun_okG F sc_law (fun vs H Q E h => ?_) (fun cdv A' outer s H vs Q E bare hr h => ?_)
  · obtain ⟨a, ns, rfl, _⟩ := h
    rfl
  · obtain ⟨a, ns, rfl, hS, hl, k⟩ := h
    refine ⟨_, (pss_one (ps_ret (pe_callB (id := "all") (cr_allK (K := K) rfl) (by rfl) T.b_all (by decide +kernel) (pa_cons (pe_lcI (pe_lc (own := [("_law_k", 1)]) rfl sc_law.nd (pi_range1 (by rfl) T.b_range (pa_cons (pe_callB (id := "max") (call_max2 rfl) (by rfl) T.b_max (by decide +kernel) (pa_cons pe_int (pa_cons (pe_callB (id := "min") (call_min2 rfl) (by rfl) T.b_min (by decide +kernel) (pa_cons (pe_callB (id := "len") (call_len_seqK (K := K)) (by rfl) T.b_len (by decide +kernel) (pa_cons (pv 0) pa_nil)) (pa_cons pe_int pa_nil))) pa_nil))) pa_nil)) (blkOk_by (N := ["_law_script", "_law_k"]) (sc := (defScope s_law)) (by decide +kernel)) (fun _ _ _ _ _ => (pg_name (i := 1) sc_law.nd rfl (Or.inl rfl))) (fun _ _ _ _ _ => pts_nil) (fun _ _ _ _ _ => (pe_cut (pe_cg c_right bare hr (by decide) rfl (pa_cons (pe_cg c_from bare hr (by decide) rfl (pa_cons (pv 0) (pa_cons (pv 1) pa_nil))) pa_nil)))))) pa_nil)))), ?_⟩
    have hm : ∃ m : Nat, (m : Int) = (if (if (4 : Int) < ((ns.map V.int).length : Int) then 4 else ((ns.map V.int).length : Int)) > 1 then (if (4 : Int) < ((ns.map V.int).length : Int) then 4 else ((ns.map V.int).length : Int)) else 1) ∧ m ≤ 63 := by
      rw [List.length_map]
      refine ⟨(if (if (4 : Int) < (ns.length : Int) then 4 else (ns.length : Int)) > 1 then (if (4 : Int) < (ns.length : Int) then 4 else (ns.length : Int)) else 1).toNat, ?_, ?_⟩
      · split <;> (try split) <;> omega
      · split <;> (try split) <;> omega
    obtain ⟨m, em, hm⟩ := hm
    refine ⟨_, rfl, a, _, rfl, .inl hS, _, _, rfl, _, _, rfl, _, rfl, ?_, ?_, fun D hD => ?_⟩
    · rw [← em]; omega
    · rw [← em]; omega
    · have hh : (if (if (4 : Int) < ((ns.map V.int).length : Int) then 4 else ((ns.map V.int).length : Int)) > 1 then (if (4 : Int) < ((ns.map V.int).length : Int) then 4 else ((ns.map V.int).length : Int)) else 1).toNat = m := by rw [← em]; omega
      rw [hh]
      refine lc_same (walk_range (lo := 0) (n := m)) hD (by omega) (fun _ y _ => y = .bl true) (fun _ _ _ _ r _ => r) (fun _ _ => True.intro) (fun i H x H' y => y.1 ▸ Same.refl _) ?_ ?_
      · rintro i _ H _ hi s1 _ ⟨rfl, rfl⟩
        refine ⟨_, fun _ h => h, wipe_one, _, rfl, _, rfl, a, ns, _, rfl, ?_, by omega, fun q H2 hq s q0 => ⟨q, rfl, q0, fun H3 k2 => ⟨fun b o hb => k2 _ _ (s _ _ hb) (ne_of_none hb hq), fun _ => rfl⟩⟩⟩
        exact s1.seq hS
      · intro ys H hl s1 e h
        obtain ⟨bs, hb, ab⟩ := all_bl (K := K) e h
        refine ⟨D, bs, rfl, hb, ?_⟩
        rw [ab]
        exact k _
end
end Lw

namespace Lw
open PySem PySem.Spec PyProof.Rows L2 MG
theorem kit_rc {K : PySem.W.Frag} {D C : Addr} {b : Bool} (h1 : PySem.W.isClsIn K C = true) (h2 : PySem.W.typeIn K (.ref C) = some (.type "type")) (n : D ≠ C) (h : PySem.W.subIn K (.ref D) (.ref C) = some b) : PySem.W.kitOne K (.ref D) (.ref C) = some b := by
  have e : (Value.ref D == Value.ref C) = false := beq_eq_false_iff_ne.mpr fun q => n (by cases q; rfl)
  unfold PySem.W.kitOne
  rw [e]
  show (if ((PySem.W.clsIn K C).isSome && PySem.W.typeIn K (.ref C) == some (.type "type")) = true then PySem.W.subIn K (.ref D) (.ref C) else none) = some b
  have h1' : (PySem.W.clsIn K C).isSome = true := h1
  rw [h1', h2, if_pos (by simp), h]
theorem all_mk {l : PySem.W.OpenLaw} {w : World} {K : PySem.W.Frag} {h : Heap} {mg : Str → Option Value} {fa fD0 fD1 fD2 fD3 fD4 fD5 fD6 fD7 fD8 fD9 fD10 fD11 fD12 fD13 fD14 fD15 fD16 fD17 fD18 fD19 fD20 fD21 fD22 fD23 fD24 fD25 fD26 fD27 fD28 fD29 fD30 fD31 fD32 C CM fM0 fM1 fM2 fM3 fM4 fM5 fM6 fM7 fM8 fM9 fM10 fP0 pP0 fP1 pP1 fP2 pP2 fP3 pP3 fP4 pP4 fP5 pP5 fI tI : Addr} (X : K.In h) (G : h.Ns mainGlobals mg) (hfa : mg "law" = some (.ref fa))
    {odD0 anD0 : Option Addr} {slD0 : Array (Option Value)} {ocD0 kVD0 dcD0 pmD0 cdD0 ctD0 : Value}
    {odD1 anD1 : Option Addr} {slD1 : Array (Option Value)} {ocD1 kVD1 dcD1 pmD1 cdD1 ctD1 : Value}
    {odD2 anD2 : Option Addr} {slD2 : Array (Option Value)} {ocD2 kVD2 dcD2 pmD2 cdD2 ctD2 : Value}
    {odD3 anD3 : Option Addr} {slD3 : Array (Option Value)} {ocD3 kVD3 dcD3 pmD3 cdD3 ctD3 : Value}
    {odD4 anD4 : Option Addr} {slD4 : Array (Option Value)} {ocD4 kVD4 dcD4 pmD4 cdD4 ctD4 : Value}
    {odD5 anD5 : Option Addr} {slD5 : Array (Option Value)} {ocD5 kVD5 dcD5 pmD5 cdD5 ctD5 : Value}
    {odD6 anD6 : Option Addr} {slD6 : Array (Option Value)} {ocD6 kVD6 dcD6 pmD6 cdD6 ctD6 : Value}
    {odD7 anD7 : Option Addr} {slD7 : Array (Option Value)} {ocD7 kVD7 dcD7 pmD7 cdD7 ctD7 : Value}
    {odD8 anD8 : Option Addr} {slD8 : Array (Option Value)} {ocD8 kVD8 dcD8 pmD8 cdD8 ctD8 : Value}
    {odD9 anD9 : Option Addr} {slD9 : Array (Option Value)} {ocD9 kVD9 dcD9 pmD9 cdD9 ctD9 : Value}
    {odD10 anD10 : Option Addr} {slD10 : Array (Option Value)} {ocD10 kVD10 dcD10 pmD10 cdD10 ctD10 : Value}
    {odD11 anD11 : Option Addr} {slD11 : Array (Option Value)} {ocD11 kVD11 dcD11 pmD11 cdD11 ctD11 : Value}
    {odD12 anD12 : Option Addr} {slD12 : Array (Option Value)} {ocD12 kVD12 dcD12 pmD12 cdD12 ctD12 : Value}
    {odD13 anD13 : Option Addr} {slD13 : Array (Option Value)} {ocD13 kVD13 dcD13 pmD13 cdD13 ctD13 : Value}
    {odD14 anD14 : Option Addr} {slD14 : Array (Option Value)} {ocD14 kVD14 dcD14 pmD14 cdD14 ctD14 : Value}
    {odD15 anD15 : Option Addr} {slD15 : Array (Option Value)} {ocD15 kVD15 dcD15 pmD15 cdD15 ctD15 : Value}
    {odD16 anD16 : Option Addr} {slD16 : Array (Option Value)} {ocD16 kVD16 dcD16 pmD16 cdD16 ctD16 : Value}
    {odD17 anD17 : Option Addr} {slD17 : Array (Option Value)} {ocD17 kVD17 dcD17 pmD17 cdD17 ctD17 : Value}
    {odD18 anD18 : Option Addr} {slD18 : Array (Option Value)} {ocD18 kVD18 dcD18 pmD18 cdD18 ctD18 : Value}
    {odD19 anD19 : Option Addr} {slD19 : Array (Option Value)} {ocD19 kVD19 dcD19 pmD19 cdD19 ctD19 : Value}
    {odD20 anD20 : Option Addr} {slD20 : Array (Option Value)} {ocD20 kVD20 dcD20 pmD20 cdD20 ctD20 : Value}
    {odD21 anD21 : Option Addr} {slD21 : Array (Option Value)} {ocD21 kVD21 dcD21 pmD21 cdD21 ctD21 : Value}
    {odD22 anD22 : Option Addr} {slD22 : Array (Option Value)} {ocD22 kVD22 dcD22 pmD22 cdD22 ctD22 : Value}
    {odD23 anD23 : Option Addr} {slD23 : Array (Option Value)} {ocD23 kVD23 dcD23 pmD23 cdD23 ctD23 : Value}
    {odD24 anD24 : Option Addr} {slD24 : Array (Option Value)} {ocD24 kVD24 dcD24 pmD24 cdD24 ctD24 : Value}
    {odD25 anD25 : Option Addr} {slD25 : Array (Option Value)} {ocD25 kVD25 dcD25 pmD25 cdD25 ctD25 : Value}
    {odD26 anD26 : Option Addr} {slD26 : Array (Option Value)} {ocD26 kVD26 dcD26 pmD26 cdD26 ctD26 : Value}
    {odD27 anD27 : Option Addr} {slD27 : Array (Option Value)} {ocD27 kVD27 dcD27 pmD27 cdD27 ctD27 : Value}
    {odD28 anD28 : Option Addr} {slD28 : Array (Option Value)} {ocD28 kVD28 dcD28 pmD28 cdD28 ctD28 : Value}
    {odD29 anD29 : Option Addr} {slD29 : Array (Option Value)} {ocD29 kVD29 dcD29 pmD29 cdD29 ctD29 : Value}
    {odD30 anD30 : Option Addr} {slD30 : Array (Option Value)} {ocD30 kVD30 dcD30 pmD30 cdD30 ctD30 : Value}
    {odD31 anD31 : Option Addr} {slD31 : Array (Option Value)} {ocD31 kVD31 dcD31 pmD31 cdD31 ctD31 : Value}
    {odD32 anD32 : Option Addr} {slD32 : Array (Option Value)} {ocD32 kVD32 dcD32 pmD32 cdD32 ctD32 : Value}
    {odM0 anM0 : Option Addr} {slM0 : Array (Option Value)} {ocM0 kVM0 dcM0 pmM0 cdM0 ctM0 : Value}
    {odM1 anM1 : Option Addr} {slM1 : Array (Option Value)} {ocM1 kVM1 dcM1 pmM1 cdM1 ctM1 : Value}
    {odM2 anM2 : Option Addr} {slM2 : Array (Option Value)} {ocM2 kVM2 dcM2 pmM2 cdM2 ctM2 : Value}
    {odM3 anM3 : Option Addr} {slM3 : Array (Option Value)} {ocM3 kVM3 dcM3 pmM3 cdM3 ctM3 : Value}
    {odM4 anM4 : Option Addr} {slM4 : Array (Option Value)} {ocM4 kVM4 dcM4 pmM4 cdM4 ctM4 : Value}
    {odM5 anM5 : Option Addr} {slM5 : Array (Option Value)} {ocM5 kVM5 dcM5 pmM5 cdM5 ctM5 : Value}
    {odM6 anM6 : Option Addr} {slM6 : Array (Option Value)} {ocM6 kVM6 dcM6 pmM6 cdM6 ctM6 : Value}
    {odM7 anM7 : Option Addr} {slM7 : Array (Option Value)} {ocM7 kVM7 dcM7 pmM7 cdM7 ctM7 : Value}
    {odM8 anM8 : Option Addr} {slM8 : Array (Option Value)} {ocM8 kVM8 dcM8 pmM8 cdM8 ctM8 : Value}
    {odM9 anM9 : Option Addr} {slM9 : Array (Option Value)} {ocM9 kVM9 dcM9 pmM9 cdM9 ctM9 : Value}
    {odM10 anM10 : Option Addr} {slM10 : Array (Option Value)} {ocM10 kVM10 dcM10 pmM10 cdM10 ctM10 : Value}
    {reP0 : List Value}
    {odP0 anP0 : Option Addr} {slP0 : Array (Option Value)} {ocP0 kVP0 dcP0 pmP0 cdP0 ctP0 : Value}
    {reP1 : List Value}
    {odP1 anP1 : Option Addr} {slP1 : Array (Option Value)} {ocP1 kVP1 dcP1 pmP1 cdP1 ctP1 : Value}
    {reP2 : List Value}
    {odP2 anP2 : Option Addr} {slP2 : Array (Option Value)} {ocP2 kVP2 dcP2 pmP2 cdP2 ctP2 : Value}
    {reP3 : List Value}
    {odP3 anP3 : Option Addr} {slP3 : Array (Option Value)} {ocP3 kVP3 dcP3 pmP3 cdP3 ctP3 : Value}
    {reP4 : List Value}
    {odP4 anP4 : Option Addr} {slP4 : Array (Option Value)} {ocP4 kVP4 dcP4 pmP4 cdP4 ctP4 : Value}
    {reP5 : List Value}
    {odP5 anP5 : Option Addr} {slP5 : Array (Option Value)} {ocP5 kVP5 dcP5 pmP5 cdP5 ctP5 : Value}
    {odI anI : Option Addr} {slI : Array (Option Value)} {ocI kVI dcI pmI cdI ctI : Value}
    {oT : Obj} {nT : Nat} {kT : Tok}
    {v_add u_add : Option Value}
    {v_sub u_sub : Option Value}
    {v_mul u_mul : Option Value}
    {CX fX : Addr} {odX anX : Option Addr} {slX : Array (Option Value)} {ocX kVX dcX pmX cdX ctX : Value}
    (aD0 : PySem.W.nsIn K mainGlobals "is_whole" = some (some (.ref fD0)))
    (lD0 : K.lookup fD0 = some ⟨ocD0, odD0, .func (PySem.W.fnOf "is_whole" "is_whole" (defArgs s_is_whole) (defBody s_is_whole) (defScope s_is_whole) .none kVD0 dcD0 pmD0 anD0 cdD0 ctD0), slD0⟩)
    (cD0 : PySem.W.codeIn K cdD0 "is_whole" = true)
    (kD0 : PySem.W.keepIn K (.ref fD0) = true)
    (aD1 : PySem.W.nsIn K mainGlobals "is_number" = some (some (.ref fD1)))
    (lD1 : K.lookup fD1 = some ⟨ocD1, odD1, .func (PySem.W.fnOf "is_number" "is_number" (defArgs s_is_number) (defBody s_is_number) (defScope s_is_number) .none kVD1 dcD1 pmD1 anD1 cdD1 ctD1), slD1⟩)
    (cD1 : PySem.W.codeIn K cdD1 "is_number" = true)
    (kD1 : PySem.W.keepIn K (.ref fD1) = true)
    (aD2 : PySem.W.nsIn K mainGlobals "to_ratio" = some (some (.ref fD2)))
    (lD2 : K.lookup fD2 = some ⟨ocD2, odD2, .func (PySem.W.fnOf "to_ratio" "to_ratio" (defArgs s_to_ratio) (defBody s_to_ratio) (defScope s_to_ratio) .none kVD2 dcD2 pmD2 anD2 cdD2 ctD2), slD2⟩)
    (cD2 : PySem.W.codeIn K cdD2 "to_ratio" = true)
    (kD2 : PySem.W.keepIn K (.ref fD2) = true)
    (aD3 : PySem.W.nsIn K mainGlobals "is_table" = some (some (.ref fD3)))
    (lD3 : K.lookup fD3 = some ⟨ocD3, odD3, .func (PySem.W.fnOf "is_table" "is_table" (defArgs s_is_table) (defBody s_is_table) (defScope s_is_table) .none kVD3 dcD3 pmD3 anD3 cdD3 ctD3), slD3⟩)
    (cD3 : PySem.W.codeIn K cdD3 "is_table" = true)
    (kD3 : PySem.W.keepIn K (.ref fD3) = true)
    (aD4 : PySem.W.nsIn K mainGlobals "over_one_bottom" = some (some (.ref fD4)))
    (lD4 : K.lookup fD4 = some ⟨ocD4, odD4, .func (PySem.W.fnOf "over_one_bottom" "over_one_bottom" (defArgs s_over_one_bottom) (defBody s_over_one_bottom) (defScope s_over_one_bottom) .none kVD4 dcD4 pmD4 anD4 cdD4 ctD4), slD4⟩)
    (cD4 : PySem.W.codeIn K cdD4 "over_one_bottom" = true)
    (kD4 : PySem.W.keepIn K (.ref fD4) = true)
    (aD5 : PySem.W.nsIn K mainGlobals "row_times" = some (some (.ref fD5)))
    (lD5 : K.lookup fD5 = some ⟨ocD5, odD5, .func (PySem.W.fnOf "row_times" "row_times" (defArgs s_row_times) (defBody s_row_times) (defScope s_row_times) .none kVD5 dcD5 pmD5 anD5 cdD5 ctD5), slD5⟩)
    (cD5 : PySem.W.codeIn K cdD5 "row_times" = true)
    (kD5 : PySem.W.keepIn K (.ref fD5) = true)
    (aD6 : PySem.W.nsIn K mainGlobals "multiplied" = some (some (.ref fD6)))
    (lD6 : K.lookup fD6 = some ⟨ocD6, odD6, .func (PySem.W.fnOf "multiplied" "multiplied" (defArgs s_multiplied) (defBody s_multiplied) (defScope s_multiplied) .none kVD6 dcD6 pmD6 anD6 cdD6 ctD6), slD6⟩)
    (cD6 : PySem.W.codeIn K cdD6 "multiplied" = true)
    (kD6 : PySem.W.keepIn K (.ref fD6) = true)
    (aD7 : PySem.W.nsIn K mainGlobals "_law_purse" = some (some (.ref fD7)))
    (lD7 : K.lookup fD7 = some ⟨ocD7, odD7, .func (PySem.W.fnOf "_law_purse" "_law_purse" (defArgs s__law_purse) (defBody s__law_purse) (defScope s__law_purse) .none kVD7 dcD7 pmD7 anD7 cdD7 ctD7), slD7⟩)
    (cD7 : PySem.W.codeIn K cdD7 "_law_purse" = true)
    (kD7 : PySem.W.keepIn K (.ref fD7) = true)
    (aD8 : PySem.W.nsIn K mainGlobals "_law_draw" = some (some (.ref fD8)))
    (lD8 : K.lookup fD8 = some ⟨ocD8, odD8, .func (PySem.W.fnOf "_law_draw" "_law_draw" (defArgs s__law_draw) (defBody s__law_draw) (defScope s__law_draw) .none kVD8 dcD8 pmD8 anD8 cdD8 ctD8), slD8⟩)
    (cD8 : PySem.W.codeIn K cdD8 "_law_draw" = true)
    (kD8 : PySem.W.keepIn K (.ref fD8) = true)
    (aD9 : PySem.W.nsIn K mainGlobals "_law_great" = some (some (.ref fD9)))
    (lD9 : K.lookup fD9 = some ⟨ocD9, odD9, .func (PySem.W.fnOf "_law_great" "_law_great" (defArgs s__law_great) (defBody s__law_great) (defScope s__law_great) .none kVD9 dcD9 pmD9 anD9 cdD9 ctD9), slD9⟩)
    (cD9 : PySem.W.codeIn K cdD9 "_law_great" = true)
    (kD9 : PySem.W.keepIn K (.ref fD9) = true)
    (aD10 : PySem.W.nsIn K mainGlobals "_law_common" = some (some (.ref fD10)))
    (lD10 : K.lookup fD10 = some ⟨ocD10, odD10, .func (PySem.W.fnOf "_law_common" "_law_common" (defArgs s__law_common) (defBody s__law_common) (defScope s__law_common) .none kVD10 dcD10 pmD10 anD10 cdD10 ctD10), slD10⟩)
    (cD10 : PySem.W.codeIn K cdD10 "_law_common" = true)
    (kD10 : PySem.W.keepIn K (.ref fD10) = true)
    (aD11 : PySem.W.nsIn K mainGlobals "_law_lowest" = some (some (.ref fD11)))
    (lD11 : K.lookup fD11 = some ⟨ocD11, odD11, .func (PySem.W.fnOf "_law_lowest" "_law_lowest" (defArgs s__law_lowest) (defBody s__law_lowest) (defScope s__law_lowest) .none kVD11 dcD11 pmD11 anD11 cdD11 ctD11), slD11⟩)
    (cD11 : PySem.W.codeIn K cdD11 "_law_lowest" = true)
    (kD11 : PySem.W.keepIn K (.ref fD11) = true)
    (aD12 : PySem.W.nsIn K mainGlobals "_law_from" = some (some (.ref fD12)))
    (lD12 : K.lookup fD12 = some ⟨ocD12, odD12, .func (PySem.W.fnOf "_law_from" "_law_from" (defArgs s__law_from) (defBody s__law_from) (defScope s__law_from) .none kVD12 dcD12 pmD12 anD12 cdD12 ctD12), slD12⟩)
    (cD12 : PySem.W.codeIn K cdD12 "_law_from" = true)
    (kD12 : PySem.W.keepIn K (.ref fD12) = true)
    (aD13 : PySem.W.nsIn K mainGlobals "_law_pick" = some (some (.ref fD13)))
    (lD13 : K.lookup fD13 = some ⟨ocD13, odD13, .func (PySem.W.fnOf "_law_pick" "_law_pick" (defArgs s__law_pick) (defBody s__law_pick) (defScope s__law_pick) .none kVD13 dcD13 pmD13 anD13 cdD13 ctD13), slD13⟩)
    (cD13 : PySem.W.codeIn K cdD13 "_law_pick" = true)
    (kD13 : PySem.W.keepIn K (.ref fD13) = true)
    (aD14 : PySem.W.nsIn K mainGlobals "_law_thin" = some (some (.ref fD14)))
    (lD14 : K.lookup fD14 = some ⟨ocD14, odD14, .func (PySem.W.fnOf "_law_thin" "_law_thin" (defArgs s__law_thin) (defBody s__law_thin) (defScope s__law_thin) .none kVD14 dcD14 pmD14 anD14 cdD14 ctD14), slD14⟩)
    (cD14 : PySem.W.codeIn K cdD14 "_law_thin" = true)
    (kD14 : PySem.W.keepIn K (.ref fD14) = true)
    (aD15 : PySem.W.nsIn K mainGlobals "_law_cells" = some (some (.ref fD15)))
    (lD15 : K.lookup fD15 = some ⟨ocD15, odD15, .func (PySem.W.fnOf "_law_cells" "_law_cells" (defArgs s__law_cells) (defBody s__law_cells) (defScope s__law_cells) .none kVD15 dcD15 pmD15 anD15 cdD15 ctD15), slD15⟩)
    (cD15 : PySem.W.codeIn K cdD15 "_law_cells" = true)
    (kD15 : PySem.W.keepIn K (.ref fD15) = true)
    (aD16 : PySem.W.nsIn K mainGlobals "_law_low" = some (some (.ref fD16)))
    (lD16 : K.lookup fD16 = some ⟨ocD16, odD16, .func (PySem.W.fnOf "_law_low" "_law_low" (defArgs s__law_low) (defBody s__law_low) (defScope s__law_low) .none kVD16 dcD16 pmD16 anD16 cdD16 ctD16), slD16⟩)
    (cD16 : PySem.W.codeIn K cdD16 "_law_low" = true)
    (kD16 : PySem.W.keepIn K (.ref fD16) = true)
    (aD17 : PySem.W.nsIn K mainGlobals "_law_turn" = some (some (.ref fD17)))
    (lD17 : K.lookup fD17 = some ⟨ocD17, odD17, .func (PySem.W.fnOf "_law_turn" "_law_turn" (defArgs s__law_turn) (defBody s__law_turn) (defScope s__law_turn) .none kVD17 dcD17 pmD17 anD17 cdD17 ctD17), slD17⟩)
    (cD17 : PySem.W.codeIn K cdD17 "_law_turn" = true)
    (kD17 : PySem.W.keepIn K (.ref fD17) = true)
    (aD18 : PySem.W.nsIn K mainGlobals "_law_pairs" = some (some (.ref fD18)))
    (lD18 : K.lookup fD18 = some ⟨ocD18, odD18, .func (PySem.W.fnOf "_law_pairs" "_law_pairs" (defArgs s__law_pairs) (defBody s__law_pairs) (defScope s__law_pairs) .none kVD18 dcD18 pmD18 anD18 cdD18 ctD18), slD18⟩)
    (cD18 : PySem.W.codeIn K cdD18 "_law_pairs" = true)
    (kD18 : PySem.W.keepIn K (.ref fD18) = true)
    (aD19 : PySem.W.nsIn K mainGlobals "_law_told" = some (some (.ref fD19)))
    (lD19 : K.lookup fD19 = some ⟨ocD19, odD19, .func (PySem.W.fnOf "_law_told" "_law_told" (defArgs s__law_told) (defBody s__law_told) (defScope s__law_told) .none kVD19 dcD19 pmD19 anD19 cdD19 ctD19), slD19⟩)
    (cD19 : PySem.W.codeIn K cdD19 "_law_told" = true)
    (kD19 : PySem.W.keepIn K (.ref fD19) = true)
    (aD20 : PySem.W.nsIn K mainGlobals "_law_is" = some (some (.ref fD20)))
    (lD20 : K.lookup fD20 = some ⟨ocD20, odD20, .func (PySem.W.fnOf "_law_is" "_law_is" (defArgs s__law_is) (defBody s__law_is) (defScope s__law_is) .none kVD20 dcD20 pmD20 anD20 cdD20 ctD20), slD20⟩)
    (cD20 : PySem.W.codeIn K cdD20 "_law_is" = true)
    (kD20 : PySem.W.keepIn K (.ref fD20) = true)
    (aD21 : PySem.W.nsIn K mainGlobals "_law_entries" = some (some (.ref fD21)))
    (lD21 : K.lookup fD21 = some ⟨ocD21, odD21, .func (PySem.W.fnOf "_law_entries" "_law_entries" (defArgs s__law_entries) (defBody s__law_entries) (defScope s__law_entries) .none kVD21 dcD21 pmD21 anD21 cdD21 ctD21), slD21⟩)
    (cD21 : PySem.W.codeIn K cdD21 "_law_entries" = true)
    (kD21 : PySem.W.keepIn K (.ref fD21) = true)
    (aD22 : PySem.W.nsIn K mainGlobals "_law_shape" = some (some (.ref fD22)))
    (lD22 : K.lookup fD22 = some ⟨ocD22, odD22, .func (PySem.W.fnOf "_law_shape" "_law_shape" (defArgs s__law_shape) (defBody s__law_shape) (defScope s__law_shape) .none kVD22 dcD22 pmD22 anD22 cdD22 ctD22), slD22⟩)
    (cD22 : PySem.W.codeIn K cdD22 "_law_shape" = true)
    (kD22 : PySem.W.keepIn K (.ref fD22) = true)
    (aD23 : PySem.W.nsIn K mainGlobals "_law_dot" = some (some (.ref fD23)))
    (lD23 : K.lookup fD23 = some ⟨ocD23, odD23, .func (PySem.W.fnOf "_law_dot" "_law_dot" (defArgs s__law_dot) (defBody s__law_dot) (defScope s__law_dot) .none kVD23 dcD23 pmD23 anD23 cdD23 ctD23), slD23⟩)
    (cD23 : PySem.W.codeIn K cdD23 "_law_dot" = true)
    (kD23 : PySem.W.keepIn K (.ref fD23) = true)
    (aD24 : PySem.W.nsIn K mainGlobals "_law_times" = some (some (.ref fD24)))
    (lD24 : K.lookup fD24 = some ⟨ocD24, odD24, .func (PySem.W.fnOf "_law_times" "_law_times" (defArgs s__law_times) (defBody s__law_times) (defScope s__law_times) .none kVD24 dcD24 pmD24 anD24 cdD24 ctD24), slD24⟩)
    (cD24 : PySem.W.codeIn K cdD24 "_law_times" = true)
    (kD24 : PySem.W.keepIn K (.ref fD24) = true)
    (aD25 : PySem.W.nsIn K mainGlobals "_law_scale" = some (some (.ref fD25)))
    (lD25 : K.lookup fD25 = some ⟨ocD25, odD25, .func (PySem.W.fnOf "_law_scale" "_law_scale" (defArgs s__law_scale) (defBody s__law_scale) (defScope s__law_scale) .none kVD25 dcD25 pmD25 anD25 cdD25 ctD25), slD25⟩)
    (cD25 : PySem.W.codeIn K cdD25 "_law_scale" = true)
    (kD25 : PySem.W.keepIn K (.ref fD25) = true)
    (aD26 : PySem.W.nsIn K mainGlobals "_law_plus" = some (some (.ref fD26)))
    (lD26 : K.lookup fD26 = some ⟨ocD26, odD26, .func (PySem.W.fnOf "_law_plus" "_law_plus" (defArgs s__law_plus) (defBody s__law_plus) (defScope s__law_plus) .none kVD26 dcD26 pmD26 anD26 cdD26 ctD26), slD26⟩)
    (cD26 : PySem.W.codeIn K cdD26 "_law_plus" = true)
    (kD26 : PySem.W.keepIn K (.ref fD26) = true)
    (aD27 : PySem.W.nsIn K mainGlobals "_law_tried" = some (some (.ref fD27)))
    (lD27 : K.lookup fD27 = some ⟨ocD27, odD27, .func (PySem.W.fnOf "_law_tried" "_law_tried" (defArgs s__law_tried) (defBody s__law_tried) (defScope s__law_tried) .none kVD27 dcD27 pmD27 anD27 cdD27 ctD27), slD27⟩)
    (cD27 : PySem.W.codeIn K cdD27 "_law_tried" = true)
    (kD27 : PySem.W.keepIn K (.ref fD27) = true)
    (aD28 : PySem.W.nsIn K mainGlobals "_law_agrees" = some (some (.ref fD28)))
    (lD28 : K.lookup fD28 = some ⟨ocD28, odD28, .func (PySem.W.fnOf "_law_agrees" "_law_agrees" (defArgs s__law_agrees) (defBody s__law_agrees) (defScope s__law_agrees) .none kVD28 dcD28 pmD28 anD28 cdD28 ctD28), slD28⟩)
    (cD28 : PySem.W.codeIn K cdD28 "_law_agrees" = true)
    (kD28 : PySem.W.keepIn K (.ref fD28) = true)
    (aD29 : PySem.W.nsIn K mainGlobals "_law_sum_due" = some (some (.ref fD29)))
    (lD29 : K.lookup fD29 = some ⟨ocD29, odD29, .func (PySem.W.fnOf "_law_sum_due" "_law_sum_due" (defArgs s__law_sum_due) (defBody s__law_sum_due) (defScope s__law_sum_due) .none kVD29 dcD29 pmD29 anD29 cdD29 ctD29), slD29⟩)
    (cD29 : PySem.W.codeIn K cdD29 "_law_sum_due" = true)
    (kD29 : PySem.W.keepIn K (.ref fD29) = true)
    (aD30 : PySem.W.nsIn K mainGlobals "_law_product_due" = some (some (.ref fD30)))
    (lD30 : K.lookup fD30 = some ⟨ocD30, odD30, .func (PySem.W.fnOf "_law_product_due" "_law_product_due" (defArgs s__law_product_due) (defBody s__law_product_due) (defScope s__law_product_due) .none kVD30 dcD30 pmD30 anD30 cdD30 ctD30), slD30⟩)
    (cD30 : PySem.W.codeIn K cdD30 "_law_product_due" = true)
    (kD30 : PySem.W.keepIn K (.ref fD30) = true)
    (aD31 : PySem.W.nsIn K mainGlobals "_law_right" = some (some (.ref fD31)))
    (lD31 : K.lookup fD31 = some ⟨ocD31, odD31, .func (PySem.W.fnOf "_law_right" "_law_right" (defArgs s__law_right) (defBody s__law_right) (defScope s__law_right) .none kVD31 dcD31 pmD31 anD31 cdD31 ctD31), slD31⟩)
    (cD31 : PySem.W.codeIn K cdD31 "_law_right" = true)
    (kD31 : PySem.W.keepIn K (.ref fD31) = true)
    (aD32 : PySem.W.nsIn K mainGlobals "law" = some (some (.ref fD32)))
    (lD32 : K.lookup fD32 = some ⟨ocD32, odD32, .func (PySem.W.fnOf "law" "law" (defArgs s_law) (defBody s_law) (defScope s_law) .none kVD32 dcD32 pmD32 anD32 cdD32 ctD32), slD32⟩)
    (cD32 : PySem.W.codeIn K cdD32 "law" = true)
    (kD32 : PySem.W.keepIn K (.ref fD32) = true)
    (aM0 : PySem.W.findIn K (.ref C) "__add__" = some (some (.ref fM0)))
    (iM0 : PySem.W.isFn K (.ref fM0) = true)
    (lM0 : K.lookup fM0 = some ⟨ocM0, odM0, .func (PySem.W.fnOf "__add__" "Ratio.__add__" (defArgs s_Ratio___add__) (defBody s_Ratio___add__) (defScope s_Ratio___add__) .none kVM0 dcM0 pmM0 anM0 cdM0 ctM0), slM0⟩)
    (cM0 : PySem.W.codeIn K cdM0 "Ratio.__add__" = true)
    (kM0 : PySem.W.keepIn K (.ref fM0) = true)
    (aM1 : PySem.W.findIn K (.ref C) "__sub__" = some (some (.ref fM1)))
    (iM1 : PySem.W.isFn K (.ref fM1) = true)
    (lM1 : K.lookup fM1 = some ⟨ocM1, odM1, .func (PySem.W.fnOf "__sub__" "Ratio.__sub__" (defArgs s_Ratio___sub__) (defBody s_Ratio___sub__) (defScope s_Ratio___sub__) .none kVM1 dcM1 pmM1 anM1 cdM1 ctM1), slM1⟩)
    (cM1 : PySem.W.codeIn K cdM1 "Ratio.__sub__" = true)
    (kM1 : PySem.W.keepIn K (.ref fM1) = true)
    (aM2 : PySem.W.findIn K (.ref C) "__mul__" = some (some (.ref fM2)))
    (iM2 : PySem.W.isFn K (.ref fM2) = true)
    (lM2 : K.lookup fM2 = some ⟨ocM2, odM2, .func (PySem.W.fnOf "__mul__" "Ratio.__mul__" (defArgs s_Ratio___mul__) (defBody s_Ratio___mul__) (defScope s_Ratio___mul__) .none kVM2 dcM2 pmM2 anM2 cdM2 ctM2), slM2⟩)
    (cM2 : PySem.W.codeIn K cdM2 "Ratio.__mul__" = true)
    (kM2 : PySem.W.keepIn K (.ref fM2) = true)
    (aM3 : PySem.W.findIn K (.ref C) "__eq__" = some (some (.ref fM3)))
    (iM3 : PySem.W.isFn K (.ref fM3) = true)
    (lM3 : K.lookup fM3 = some ⟨ocM3, odM3, .func (PySem.W.fnOf "__eq__" "Ratio.__eq__" (defArgs s_Ratio___eq__) (defBody s_Ratio___eq__) (defScope s_Ratio___eq__) .none kVM3 dcM3 pmM3 anM3 cdM3 ctM3), slM3⟩)
    (cM3 : PySem.W.codeIn K cdM3 "Ratio.__eq__" = true)
    (kM3 : PySem.W.keepIn K (.ref fM3) = true)
    (aM4 : PySem.W.findIn K (.ref CM) "__init__" = some (some (.ref fM4)))
    (iM4 : PySem.W.isFn K (.ref fM4) = true)
    (lM4 : K.lookup fM4 = some ⟨ocM4, odM4, .func (PySem.W.fnOf "__init__" "Matrix.__init__" (defArgs s_Matrix___init__) (defBody s_Matrix___init__) (defScope s_Matrix___init__) .none kVM4 dcM4 pmM4 anM4 cdM4 ctM4), slM4⟩)
    (cM4 : PySem.W.codeIn K cdM4 "Matrix.__init__" = true)
    (kM4 : PySem.W.keepIn K (.ref fM4) = true)
    (aM5 : PySem.W.findIn K (.ref CM) "_check_equal_sizes" = some (some (.ref fM5)))
    (iM5 : PySem.W.isFn K (.ref fM5) = true)
    (lM5 : K.lookup fM5 = some ⟨ocM5, odM5, .func (PySem.W.fnOf "_check_equal_sizes" "Matrix._check_equal_sizes" (defArgs s_Matrix__check_equal_sizes) (defBody s_Matrix__check_equal_sizes) (defScope s_Matrix__check_equal_sizes) .none kVM5 dcM5 pmM5 anM5 cdM5 ctM5), slM5⟩)
    (cM5 : PySem.W.codeIn K cdM5 "Matrix._check_equal_sizes" = true)
    (kM5 : PySem.W.keepIn K (.ref fM5) = true)
    (aM6 : PySem.W.findIn K (.ref CM) "__add__" = some (some (.ref fM6)))
    (iM6 : PySem.W.isFn K (.ref fM6) = true)
    (lM6 : K.lookup fM6 = some ⟨ocM6, odM6, .func (PySem.W.fnOf "__add__" "Matrix.__add__" (defArgs s_Matrix___add__) (defBody s_Matrix___add__) (defScope s_Matrix___add__) .none kVM6 dcM6 pmM6 anM6 cdM6 ctM6), slM6⟩)
    (cM6 : PySem.W.codeIn K cdM6 "Matrix.__add__" = true)
    (kM6 : PySem.W.keepIn K (.ref fM6) = true)
    (aM7 : PySem.W.findIn K (.ref CM) "__sub__" = some (some (.ref fM7)))
    (iM7 : PySem.W.isFn K (.ref fM7) = true)
    (lM7 : K.lookup fM7 = some ⟨ocM7, odM7, .func (PySem.W.fnOf "__sub__" "Matrix.__sub__" (defArgs s_Matrix___sub__) (defBody s_Matrix___sub__) (defScope s_Matrix___sub__) .none kVM7 dcM7 pmM7 anM7 cdM7 ctM7), slM7⟩)
    (cM7 : PySem.W.codeIn K cdM7 "Matrix.__sub__" = true)
    (kM7 : PySem.W.keepIn K (.ref fM7) = true)
    (aM8 : PySem.W.findIn K (.ref CM) "__mul__" = some (some (.ref fM8)))
    (iM8 : PySem.W.isFn K (.ref fM8) = true)
    (lM8 : K.lookup fM8 = some ⟨ocM8, odM8, .func (PySem.W.fnOf "__mul__" "Matrix.__mul__" (defArgs s_Matrix___mul__) (defBody s_Matrix___mul__) (defScope s_Matrix___mul__) .none kVM8 dcM8 pmM8 anM8 cdM8 ctM8), slM8⟩)
    (cM8 : PySem.W.codeIn K cdM8 "Matrix.__mul__" = true)
    (kM8 : PySem.W.keepIn K (.ref fM8) = true)
    (aM9 : PySem.W.findIn K (.ref CM) "__neg__" = some (some (.ref fM9)))
    (iM9 : PySem.W.isFn K (.ref fM9) = true)
    (lM9 : K.lookup fM9 = some ⟨ocM9, odM9, .func (PySem.W.fnOf "__neg__" "Matrix.__neg__" (defArgs s_Matrix___neg__) (defBody s_Matrix___neg__) (defScope s_Matrix___neg__) .none kVM9 dcM9 pmM9 anM9 cdM9 ctM9), slM9⟩)
    (cM9 : PySem.W.codeIn K cdM9 "Matrix.__neg__" = true)
    (kM9 : PySem.W.keepIn K (.ref fM9) = true)
    (aM10 : PySem.W.findIn K (.ref CM) "__eq__" = some (some (.ref fM10)))
    (iM10 : PySem.W.isFn K (.ref fM10) = true)
    (lM10 : K.lookup fM10 = some ⟨ocM10, odM10, .func (PySem.W.fnOf "__eq__" "Matrix.__eq__" (defArgs s_Matrix___eq__) (defBody s_Matrix___eq__) (defScope s_Matrix___eq__) .none kVM10 dcM10 pmM10 anM10 cdM10 ctM10), slM10⟩)
    (cM10 : PySem.W.codeIn K cdM10 "Matrix.__eq__" = true)
    (kM10 : PySem.W.keepIn K (.ref fM10) = true)
    (aP0 : PySem.W.findIn K (.ref C) "top" = some (some (.ref pP0)))
    (gP0 : PySem.W.specialIn K (.ref pP0) "__get__" = some (some (.builtin "property.__get__")))
    (tP0 : PySem.W.takesIn K (.ref pP0) = some true)
    (rP0 : PySem.W.recIn K pP0 "property" = some (.ref fP0 :: reP0))
    (lP0 : K.lookup fP0 = some ⟨ocP0, odP0, .func (PySem.W.fnOf "top" "Ratio.top" (defArgs s_Ratio_top) (defBody s_Ratio_top) (defScope s_Ratio_top) .none kVP0 dcP0 pmP0 anP0 cdP0 ctP0), slP0⟩)
    (cP0 : PySem.W.codeIn K cdP0 "Ratio.top" = true)
    (kP0 : PySem.W.keepIn K (.ref fP0) = true)
    (aP1 : PySem.W.findIn K (.ref C) "bottom" = some (some (.ref pP1)))
    (gP1 : PySem.W.specialIn K (.ref pP1) "__get__" = some (some (.builtin "property.__get__")))
    (tP1 : PySem.W.takesIn K (.ref pP1) = some true)
    (rP1 : PySem.W.recIn K pP1 "property" = some (.ref fP1 :: reP1))
    (lP1 : K.lookup fP1 = some ⟨ocP1, odP1, .func (PySem.W.fnOf "bottom" "Ratio.bottom" (defArgs s_Ratio_bottom) (defBody s_Ratio_bottom) (defScope s_Ratio_bottom) .none kVP1 dcP1 pmP1 anP1 cdP1 ctP1), slP1⟩)
    (cP1 : PySem.W.codeIn K cdP1 "Ratio.bottom" = true)
    (kP1 : PySem.W.keepIn K (.ref fP1) = true)
    (aP2 : PySem.W.findIn K (.ref CM) "entries" = some (some (.ref pP2)))
    (gP2 : PySem.W.specialIn K (.ref pP2) "__get__" = some (some (.builtin "property.__get__")))
    (tP2 : PySem.W.takesIn K (.ref pP2) = some true)
    (rP2 : PySem.W.recIn K pP2 "property" = some (.ref fP2 :: reP2))
    (lP2 : K.lookup fP2 = some ⟨ocP2, odP2, .func (PySem.W.fnOf "entries" "Matrix.entries" (defArgs s_Matrix_entries) (defBody s_Matrix_entries) (defScope s_Matrix_entries) .none kVP2 dcP2 pmP2 anP2 cdP2 ctP2), slP2⟩)
    (cP2 : PySem.W.codeIn K cdP2 "Matrix.entries" = true)
    (kP2 : PySem.W.keepIn K (.ref fP2) = true)
    (aP3 : PySem.W.findIn K (.ref CM) "rows" = some (some (.ref pP3)))
    (gP3 : PySem.W.specialIn K (.ref pP3) "__get__" = some (some (.builtin "property.__get__")))
    (tP3 : PySem.W.takesIn K (.ref pP3) = some true)
    (rP3 : PySem.W.recIn K pP3 "property" = some (.ref fP3 :: reP3))
    (lP3 : K.lookup fP3 = some ⟨ocP3, odP3, .func (PySem.W.fnOf "rows" "Matrix.rows" (defArgs s_Matrix_rows) (defBody s_Matrix_rows) (defScope s_Matrix_rows) .none kVP3 dcP3 pmP3 anP3 cdP3 ctP3), slP3⟩)
    (cP3 : PySem.W.codeIn K cdP3 "Matrix.rows" = true)
    (kP3 : PySem.W.keepIn K (.ref fP3) = true)
    (aP4 : PySem.W.findIn K (.ref CM) "columns" = some (some (.ref pP4)))
    (gP4 : PySem.W.specialIn K (.ref pP4) "__get__" = some (some (.builtin "property.__get__")))
    (tP4 : PySem.W.takesIn K (.ref pP4) = some true)
    (rP4 : PySem.W.recIn K pP4 "property" = some (.ref fP4 :: reP4))
    (lP4 : K.lookup fP4 = some ⟨ocP4, odP4, .func (PySem.W.fnOf "columns" "Matrix.columns" (defArgs s_Matrix_columns) (defBody s_Matrix_columns) (defScope s_Matrix_columns) .none kVP4 dcP4 pmP4 anP4 cdP4 ctP4), slP4⟩)
    (cP4 : PySem.W.codeIn K cdP4 "Matrix.columns" = true)
    (kP4 : PySem.W.keepIn K (.ref fP4) = true)
    (aP5 : PySem.W.findIn K (.ref CM) "transposed" = some (some (.ref pP5)))
    (gP5 : PySem.W.specialIn K (.ref pP5) "__get__" = some (some (.builtin "property.__get__")))
    (tP5 : PySem.W.takesIn K (.ref pP5) = some true)
    (rP5 : PySem.W.recIn K pP5 "property" = some (.ref fP5 :: reP5))
    (lP5 : K.lookup fP5 = some ⟨ocP5, odP5, .func (PySem.W.fnOf "transposed" "Matrix.transposed" (defArgs s_Matrix_transposed) (defBody s_Matrix_transposed) (defScope s_Matrix_transposed) .none kVP5 dcP5 pmP5 anP5 cdP5 ctP5), slP5⟩)
    (cP5 : PySem.W.codeIn K cdP5 "Matrix.transposed" = true)
    (kP5 : PySem.W.keepIn K (.ref fP5) = true)
    (aI : PySem.W.findIn K (.ref C) "__init__" = some (some (.ref fI)))
    (iI : PySem.W.isFn K (.ref fI) = true)
    (lI : K.lookup fI = some ⟨ocI, odI, .func (PySem.W.fnOf "__init__" "Ratio.__init__" (defArgs s_Ratio___init__) (defBody s_Ratio___init__) (defScope s_Ratio___init__) (.ref tI) kVI dcI pmI anI cdI ctI), slI⟩)
    (cI : PySem.W.codeIn K cdI "Ratio.__init__" = true)
    (kI : PySem.W.keepIn K (.ref fI) = true)
    (lT : K.lookup tI = some oT)
    (dT : oT.data = .seq #[.int 1 kT] nT)
    (z_int : PySem.W.nsIn K mainGlobals "int" = some none)
    (z_len : PySem.W.nsIn K mainGlobals "len" = some none)
    (z_abs : PySem.W.nsIn K mainGlobals "abs" = some none)
    (z_range : PySem.W.nsIn K mainGlobals "range" = some none)
    (z_max : PySem.W.nsIn K mainGlobals "max" = some none)
    (z_min : PySem.W.nsIn K mainGlobals "min" = some none)
    (z_all : PySem.W.nsIn K mainGlobals "all" = some none)
    (z_repr : PySem.W.nsIn K mainGlobals "repr" = some none)
    (z_isinstance : PySem.W.nsIn K mainGlobals "isinstance" = some none)
    (z_bool : PySem.W.nsIn K mainGlobals "bool" = some none)
    (z_str : PySem.W.nsIn K mainGlobals "str" = some none)
    (z_any : PySem.W.nsIn K mainGlobals "any" = some none)
    (z_tuple : PySem.W.nsIn K mainGlobals "tuple" = some none)
    (z_list : PySem.W.nsIn K mainGlobals "list" = some none)
    (z_sum : PySem.W.nsIn K mainGlobals "sum" = some none)
    (z_zip : PySem.W.nsIn K mainGlobals "zip" = some none)
    (z_enumerate : PySem.W.nsIn K mainGlobals "enumerate" = some none)
    (aR : PySem.W.nsIn K mainGlobals "Ratio" = some (some (.ref C)))
    (aCM : PySem.W.nsIn K mainGlobals "Matrix" = some (some (.ref CM)))
    (aG : PySem.W.nsIn K mainGlobals "gcd" = some (some (.builtin "math.gcd")))
    (aL : PySem.W.nsIn K mainGlobals "lcm" = some (some (.builtin "math.lcm")))
    (pgC : PySem.W.plainGet K C Str.empty = true)
    (hdC : PySem.W.hasDictIn K C = true)
    (poC : PySem.W.plainOver K C = true)
    (saC : PySem.W.findIn K (.ref C) "__setattr__" = some (some (.builtin "object.__setattr__")))
    (mkC : PySem.W.makesIn K C = true)
    (kcC : PySem.W.keepIn K (.ref C) = true)
    (caC : PySem.W.findIn K (.ref C) "__class__" = some (some (.builtin "object.__class__")))
    (cmC : PySem.W.mroIn K C (.type "object") = some true)
    (sIC : PySem.W.subIn K (.ref C) (.type "int") = some false)
    (sBC : PySem.W.subIn K (.ref C) (.type "bool") = some false)
    (tyC : PySem.W.typeIn K (.ref C) = some (.type "type"))
    (isC : PySem.W.isClsIn K C = true)
    (sfC : PySem.W.selfFirst K C = true)
    (sbC : PySem.W.subIn K (.type "int") (.ref C) = some false)
    (soC : PySem.W.subIn K (.ref C) (.type "object") = some true)
    (neC : PySem.W.findIn K (.ref C) "__ne__" = some (some (.builtin "object.__ne__")))
    (pgM : PySem.W.plainGet K CM Str.empty = true)
    (hdM : PySem.W.hasDictIn K CM = true)
    (poM : PySem.W.plainOver K CM = true)
    (saM : PySem.W.findIn K (.ref CM) "__setattr__" = some (some (.builtin "object.__setattr__")))
    (mkM : PySem.W.makesIn K CM = true)
    (kcM : PySem.W.keepIn K (.ref CM) = true)
    (caM : PySem.W.findIn K (.ref CM) "__class__" = some (some (.builtin "object.__class__")))
    (cmM : PySem.W.mroIn K CM (.type "object") = some true)
    (sIM : PySem.W.subIn K (.ref CM) (.type "int") = some false)
    (sBM : PySem.W.subIn K (.ref CM) (.type "bool") = some false)
    (tyM : PySem.W.typeIn K (.ref CM) = some (.type "type"))
    (isM : PySem.W.isClsIn K CM = true)
    (sfM : PySem.W.selfFirst K CM = true)
    (sbM : PySem.W.subIn K (.type "int") (.ref CM) = some false)
    (soM : PySem.W.subIn K (.ref CM) (.type "object") = some true)
    (neM : PySem.W.findIn K (.ref CM) "__ne__" = some (some (.builtin "object.__ne__")))
    (nT' : PySem.W.findIn K (.ref C) "_top" = some none)
    (nB' : PySem.W.findIn K (.ref C) "_bottom" = some none)
    (nE' : PySem.W.findIn K (.ref CM) "_entries" = some none)
    (nTop : PySem.W.findIn K (.ref CM) "top" = some none)
    (cn : PySem.W.specialIn K (.builtin "object.__class__") "__get__" = some (some (.builtin "getset_descriptor.__get__")))
    (ct' : PySem.W.takesIn K (.builtin "object.__class__") = some true)
    (sRM : PySem.W.subIn K (.ref C) (.ref CM) = some false)
    (sMR : PySem.W.subIn K (.ref CM) (.ref C) = some false)
    (r_add : PySem.W.findIn K (.ref C) "__radd__" = some none)
    (rM_add : PySem.W.findIn K (.ref CM) "__radd__" = some none)
    (x_add : PySem.W.findIn K (.type "int") "__add__" = some v_add)
    (y_add : PySem.W.findIn K (.type "int") "__radd__" = some u_add)
    (r_sub : PySem.W.findIn K (.ref C) "__rsub__" = some none)
    (rM_sub : PySem.W.findIn K (.ref CM) "__rsub__" = some none)
    (x_sub : PySem.W.findIn K (.type "int") "__sub__" = some v_sub)
    (y_sub : PySem.W.findIn K (.type "int") "__rsub__" = some u_sub)
    (r_mul : PySem.W.findIn K (.ref C) "__rmul__" = some none)
    (rM_mul : PySem.W.findIn K (.ref CM) "__rmul__" = some none)
    (x_mul : PySem.W.findIn K (.type "int") "__mul__" = some v_mul)
    (y_mul : PySem.W.findIn K (.type "int") "__rmul__" = some u_mul)
    (aX : PySem.W.nsIn K mainGlobals "Mismatch" = some (some (.ref CX)))
    (xei : PySem.W.excInitIn K CX [.type "LookupError", .type "Exception", .type "BaseException", .type "object"] "LookupError.__new__" = true)
    (xeo : PySem.W.excOver K CX [.type "LookupError", .type "Exception", .type "BaseException", .type "object"] = true)
    (xsa : PySem.W.findIn K (.ref CX) "__setattr__" = some (some (.builtin "object.__setattr__")))
    (xga : PySem.W.findIn K (.ref CX) "__getattribute__" = some (some (.builtin "BaseException.__getattribute__")))
    (xgg : PySem.W.findIn K (.ref CX) "__getattr__" = some none)
    (xca : PySem.W.findIn K (.ref CX) "__class__" = some (some (.builtin "object.__class__")))
    (xmo : PySem.W.mroIn K CX (.type "object") = some true)
    (xn1 : PySem.W.findIn K (.ref CX) "first" = some none)
    (xn2 : PySem.W.findIn K (.ref CX) "second" = some none)
    (xin : PySem.W.findIn K (.ref CX) "__init__" = some (some (.ref fX)))
    (xt : PySem.W.typeIn K (.ref fX) = some (.type "function"))
    (xk : PySem.W.keepIn K (.ref CX) = true)
    (xeC : PySem.W.subIn K (.ref CX) (.type "BaseException") = some true)
    (xtC : PySem.W.typeIn K (.ref CX) = some (.type "type"))
    (xhC : PySem.W.hasDictIn K CX = true)
    (xsC : PySem.W.subIn K (.ref CX) (.ref CX) = some true)
    (lX : K.lookup fX = some ⟨ocX, odX, .func (PySem.W.fnOf "__init__" "Mismatch.__init__" (defArgs s_Mismatch___init__) (defBody s_Mismatch___init__) (defScope s_Mismatch___init__) .none kVX dcX pmX anX cdX ctX), slX⟩)
    (cX : PySem.W.codeIn K cdX "Mismatch.__init__" = true)
    (kX : PySem.W.keepIn K (.ref fX) = true)
    : ∃ fd : FuncData, (∀ (s : Shared) (v : Value), BindsTo s fd ⟨[v], []⟩ [("_law_script", v)]) ∧ ∀ base : Heap, K.In base → base.Ns mainGlobals mg → FnG l.prog w K mg base CX0 22 fa fd ["_law_script"] (spLaw K) := by
  have e := hfa.symm.trans (PySem.W.mg_of X G aD32)
  cases e
  have FD0 := fun_mk (st := s_is_whole) lD0 cD0 kD0
  have bD0 := FD0.binds (ps := ["value"]) fun _ _ _ _ _ _ us hl => match us, hl with | [_], _ => rfl
  have gD0 := PySem.W.mg_of X G aD0
  have FD1 := fun_mk (st := s_is_number) lD1 cD1 kD1
  have bD1 := FD1.binds (ps := ["value"]) fun _ _ _ _ _ _ us hl => match us, hl with | [_], _ => rfl
  have gD1 := PySem.W.mg_of X G aD1
  have FD2 := fun_mk (st := s_to_ratio) lD2 cD2 kD2
  have bD2 := FD2.binds (ps := ["number"]) fun _ _ _ _ _ _ us hl => match us, hl with | [_], _ => rfl
  have gD2 := PySem.W.mg_of X G aD2
  have FD3 := fun_mk (st := s_is_table) lD3 cD3 kD3
  have bD3 := FD3.binds (ps := ["given"]) fun _ _ _ _ _ _ us hl => match us, hl with | [_], _ => rfl
  have gD3 := PySem.W.mg_of X G aD3
  have FD4 := fun_mk (st := s_over_one_bottom) lD4 cD4 kD4
  have bD4 := FD4.binds (ps := ["numbers"]) fun _ _ _ _ _ _ us hl => match us, hl with | [_], _ => rfl
  have gD4 := PySem.W.mg_of X G aD4
  have FD5 := fun_mk (st := s_row_times) lD5 cD5 kD5
  have bD5 := FD5.binds (ps := ["row", "columns"]) fun _ _ _ _ _ _ us hl => match us, hl with | [_, _], _ => rfl
  have gD5 := PySem.W.mg_of X G aD5
  have FD6 := fun_mk (st := s_multiplied) lD6 cD6 kD6
  have bD6 := FD6.binds (ps := ["entries", "others"]) fun _ _ _ _ _ _ us hl => match us, hl with | [_, _], _ => rfl
  have gD6 := PySem.W.mg_of X G aD6
  have FD7 := fun_mk (st := s__law_purse) lD7 cD7 kD7
  have bD7 := FD7.binds (ps := ["_law_script"]) fun _ _ _ _ _ _ us hl => match us, hl with | [_], _ => rfl
  have gD7 := PySem.W.mg_of X G aD7
  have FD8 := fun_mk (st := s__law_draw) lD8 cD8 kD8
  have bD8 := FD8.binds (ps := ["_law_q", "_law_many"]) fun _ _ _ _ _ _ us hl => match us, hl with | [_, _], _ => rfl
  have gD8 := PySem.W.mg_of X G aD8
  have FD9 := fun_mk (st := s__law_great) lD9 cD9 kD9
  have bD9 := FD9.binds (ps := ["_law_q"]) fun _ _ _ _ _ _ us hl => match us, hl with | [_], _ => rfl
  have gD9 := PySem.W.mg_of X G aD9
  have FD10 := fun_mk (st := s__law_common) lD10 cD10 kD10
  have bD10 := FD10.binds (ps := ["_law_one", "_law_two"]) fun _ _ _ _ _ _ us hl => match us, hl with | [_, _], _ => rfl
  have gD10 := PySem.W.mg_of X G aD10
  have FD11 := fun_mk (st := s__law_lowest) lD11 cD11 kD11
  have bD11 := FD11.binds (ps := ["_law_high", "_law_under"]) fun _ _ _ _ _ _ us hl => match us, hl with | [_, _], _ => rfl
  have gD11 := PySem.W.mg_of X G aD11
  have FD12 := fun_mk (st := s__law_from) lD12 cD12 kD12
  have bD12 := FD12.binds (ps := ["_law_script", "_law_k"]) fun _ _ _ _ _ _ us hl => match us, hl with | [_, _], _ => rfl
  have gD12 := PySem.W.mg_of X G aD12
  have FD13 := fun_mk (st := s__law_pick) lD13 cD13 kD13
  have bD13 := FD13.binds (ps := ["_law_q", "_law_six"]) fun _ _ _ _ _ _ us hl => match us, hl with | [_, _], _ => rfl
  have gD13 := PySem.W.mg_of X G aD13
  have FD14 := fun_mk (st := s__law_thin) lD14 cD14 kD14
  have bD14 := FD14.binds (ps := ["_law_q", "_law_most"]) fun _ _ _ _ _ _ us hl => match us, hl with | [_, _], _ => rfl
  have gD14 := PySem.W.mg_of X G aD14
  have FD15 := fun_mk (st := s__law_cells) lD15 cD15 kD15
  have bD15 := FD15.binds (ps := ["_law_q", "_law_high", "_law_broad"]) fun _ _ _ _ _ _ us hl => match us, hl with | [_, _, _], _ => rfl
  have gD15 := PySem.W.mg_of X G aD15
  have FD16 := fun_mk (st := s__law_low) lD16 cD16 kD16
  have bD16 := FD16.binds (ps := ["_law_pair"]) fun _ _ _ _ _ _ us hl => match us, hl with | [_], _ => rfl
  have gD16 := PySem.W.mg_of X G aD16
  have FD17 := fun_mk (st := s__law_turn) lD17 cD17 kD17
  have bD17 := FD17.binds (ps := ["_law_one"]) fun _ _ _ _ _ _ us hl => match us, hl with | [_], _ => rfl
  have gD17 := PySem.W.mg_of X G aD17
  have FD18 := fun_mk (st := s__law_pairs) lD18 cD18 kD18
  have bD18 := FD18.binds (ps := ["_law_pair"]) fun _ _ _ _ _ _ us hl => match us, hl with | [_], _ => rfl
  have gD18 := PySem.W.mg_of X G aD18
  have FD19 := fun_mk (st := s__law_told) lD19 cD19 kD19
  have bD19 := FD19.binds (ps := ["_law_matrix"]) fun _ _ _ _ _ _ us hl => match us, hl with | [_], _ => rfl
  have gD19 := PySem.W.mg_of X G aD19
  have FD20 := fun_mk (st := s__law_is) lD20 cD20 kD20
  have bD20 := FD20.binds (ps := ["_law_matrix", "_law_pair"]) fun _ _ _ _ _ _ us hl => match us, hl with | [_, _], _ => rfl
  have gD20 := PySem.W.mg_of X G aD20
  have FD21 := fun_mk (st := s__law_entries) lD21 cD21 kD21
  have bD21 := FD21.binds (ps := ["_law_pair"]) fun _ _ _ _ _ _ us hl => match us, hl with | [_], _ => rfl
  have gD21 := PySem.W.mg_of X G aD21
  have FD22 := fun_mk (st := s__law_shape) lD22 cD22 kD22
  have bD22 := FD22.binds (ps := ["_law_pair"]) fun _ _ _ _ _ _ us hl => match us, hl with | [_], _ => rfl
  have gD22 := PySem.W.mg_of X G aD22
  have FD23 := fun_mk (st := s__law_dot) lD23 cD23 kD23
  have bD23 := FD23.binds (ps := ["_law_one", "_law_two"]) fun _ _ _ _ _ _ us hl => match us, hl with | [_, _], _ => rfl
  have gD23 := PySem.W.mg_of X G aD23
  have FD24 := fun_mk (st := s__law_times) lD24 cD24 kD24
  have bD24 := FD24.binds (ps := ["_law_one", "_law_two"]) fun _ _ _ _ _ _ us hl => match us, hl with | [_, _], _ => rfl
  have gD24 := PySem.W.mg_of X G aD24
  have FD25 := fun_mk (st := s__law_scale) lD25 cD25 kD25
  have bD25 := FD25.binds (ps := ["_law_one", "_law_pair"]) fun _ _ _ _ _ _ us hl => match us, hl with | [_, _], _ => rfl
  have gD25 := PySem.W.mg_of X G aD25
  have FD26 := fun_mk (st := s__law_plus) lD26 cD26 kD26
  have bD26 := FD26.binds (ps := ["_law_one", "_law_two", "_law_sign"]) fun _ _ _ _ _ _ us hl => match us, hl with | [_, _, _], _ => rfl
  have gD26 := PySem.W.mg_of X G aD26
  have FD27 := fun_mk (st := s__law_tried) lD27 cD27 kD27
  have bD27 := FD27.binds (ps := ["_law_one", "_law_two", "_law_word"]) fun _ _ _ _ _ _ us hl => match us, hl with | [_, _, _], _ => rfl
  have gD27 := PySem.W.mg_of X G aD27
  have FD28 := fun_mk (st := s__law_agrees) lD28 cD28 kD28
  have bD28 := FD28.binds (ps := ["_law_told_here", "_law_due"]) fun _ _ _ _ _ _ us hl => match us, hl with | [_, _], _ => rfl
  have gD28 := PySem.W.mg_of X G aD28
  have FD29 := fun_mk (st := s__law_sum_due) lD29 cD29 kD29
  have bD29 := FD29.binds (ps := ["_law_one", "_law_two", "_law_sign"]) fun _ _ _ _ _ _ us hl => match us, hl with | [_, _, _], _ => rfl
  have gD29 := PySem.W.mg_of X G aD29
  have FD30 := fun_mk (st := s__law_product_due) lD30 cD30 kD30
  have bD30 := FD30.binds (ps := ["_law_one", "_law_two"]) fun _ _ _ _ _ _ us hl => match us, hl with | [_, _], _ => rfl
  have gD30 := PySem.W.mg_of X G aD30
  have FD31 := fun_mk (st := s__law_right) lD31 cD31 kD31
  have bD31 := FD31.binds (ps := ["_law_q"]) fun _ _ _ _ _ _ us hl => match us, hl with | [_], _ => rfl
  have gD31 := PySem.W.mg_of X G aD31
  have FD32 := fun_mk (st := s_law) lD32 cD32 kD32
  have gD32 := PySem.W.mg_of X G aD32
  have FM0 := fun_mk (st := s_Ratio___add__) lM0 cM0 kM0
  have bM0 := FM0.binds (ps := ["self", "other"]) fun _ _ _ _ _ _ us hl => match us, hl with | [_, _], _ => rfl
  have FM1 := fun_mk (st := s_Ratio___sub__) lM1 cM1 kM1
  have bM1 := FM1.binds (ps := ["self", "other"]) fun _ _ _ _ _ _ us hl => match us, hl with | [_, _], _ => rfl
  have FM2 := fun_mk (st := s_Ratio___mul__) lM2 cM2 kM2
  have bM2 := FM2.binds (ps := ["self", "other"]) fun _ _ _ _ _ _ us hl => match us, hl with | [_, _], _ => rfl
  have FM3 := fun_mk (st := s_Ratio___eq__) lM3 cM3 kM3
  have bM3 := FM3.binds (ps := ["self", "other"]) fun _ _ _ _ _ _ us hl => match us, hl with | [_, _], _ => rfl
  have FM4 := fun_mk (st := s_Matrix___init__) lM4 cM4 kM4
  have bM4 := FM4.binds (ps := ["self", "entries"]) fun _ _ _ _ _ _ us hl => match us, hl with | [_, _], _ => rfl
  have FM5 := fun_mk (st := s_Matrix__check_equal_sizes) lM5 cM5 kM5
  have bM5 := FM5.binds (ps := ["self", "other"]) fun _ _ _ _ _ _ us hl => match us, hl with | [_, _], _ => rfl
  have FM6 := fun_mk (st := s_Matrix___add__) lM6 cM6 kM6
  have bM6 := FM6.binds (ps := ["self", "other"]) fun _ _ _ _ _ _ us hl => match us, hl with | [_, _], _ => rfl
  have FM7 := fun_mk (st := s_Matrix___sub__) lM7 cM7 kM7
  have bM7 := FM7.binds (ps := ["self", "other"]) fun _ _ _ _ _ _ us hl => match us, hl with | [_, _], _ => rfl
  have FM8 := fun_mk (st := s_Matrix___mul__) lM8 cM8 kM8
  have bM8 := FM8.binds (ps := ["self", "other"]) fun _ _ _ _ _ _ us hl => match us, hl with | [_, _], _ => rfl
  have FM9 := fun_mk (st := s_Matrix___neg__) lM9 cM9 kM9
  have bM9 := FM9.binds (ps := ["self"]) fun _ _ _ _ _ _ us hl => match us, hl with | [_], _ => rfl
  have FM10 := fun_mk (st := s_Matrix___eq__) lM10 cM10 kM10
  have bM10 := FM10.binds (ps := ["self", "other"]) fun _ _ _ _ _ _ us hl => match us, hl with | [_, _], _ => rfl
  have FP0 := fun_mk (st := s_Ratio_top) lP0 cP0 kP0
  have bP0 := FP0.binds (ps := ["self"]) fun _ _ _ _ _ _ us hl => match us, hl with | [_], _ => rfl
  have pP0' : PropOf K C "top" pP0 fP0 := ⟨aP0, gP0, tP0, _, rP0⟩
  have FP1 := fun_mk (st := s_Ratio_bottom) lP1 cP1 kP1
  have bP1 := FP1.binds (ps := ["self"]) fun _ _ _ _ _ _ us hl => match us, hl with | [_], _ => rfl
  have pP1' : PropOf K C "bottom" pP1 fP1 := ⟨aP1, gP1, tP1, _, rP1⟩
  have FP2 := fun_mk (st := s_Matrix_entries) lP2 cP2 kP2
  have bP2 := FP2.binds (ps := ["self"]) fun _ _ _ _ _ _ us hl => match us, hl with | [_], _ => rfl
  have pP2' : PropOf K CM "entries" pP2 fP2 := ⟨aP2, gP2, tP2, _, rP2⟩
  have FP3 := fun_mk (st := s_Matrix_rows) lP3 cP3 kP3
  have bP3 := FP3.binds (ps := ["self"]) fun _ _ _ _ _ _ us hl => match us, hl with | [_], _ => rfl
  have pP3' : PropOf K CM "rows" pP3 fP3 := ⟨aP3, gP3, tP3, _, rP3⟩
  have FP4 := fun_mk (st := s_Matrix_columns) lP4 cP4 kP4
  have bP4 := FP4.binds (ps := ["self"]) fun _ _ _ _ _ _ us hl => match us, hl with | [_], _ => rfl
  have pP4' : PropOf K CM "columns" pP4 fP4 := ⟨aP4, gP4, tP4, _, rP4⟩
  have FP5 := fun_mk (st := s_Matrix_transposed) lP5 cP5 kP5
  have bP5 := FP5.binds (ps := ["self"]) fun _ _ _ _ _ _ us hl => match us, hl with | [_], _ => rfl
  have pP5' : PropOf K CM "transposed" pP5 fP5 := ⟨aP5, gP5, tP5, _, rP5⟩
  have FI : FunD K "__init__" "Ratio.__init__" (defArgs s_Ratio___init__) (defBody s_Ratio___init__) (defScope s_Ratio___init__) [.int 1] [] fI _ := ⟨⟨_, _, _, _, _, _, _, _, _, _, rfl, lI, cI, .inr ⟨nofun, tI, oT, [.int 1 kT], nT, rfl, lT, dT, .cons ⟨_, rfl⟩ .nil⟩, .inl rfl⟩, kI⟩
  obtain ⟨ds2, v2, bI2⟩ := FI.binds1 (ps := ["self", "top", "bottom"]) 3 1 nofun rfl fun T kV doc pm an cdv ct us its h1 h2 => match us, its, h1, h2 with | [_, _, _], [_], _, _ => ⟨_, rfl, rfl⟩
  obtain ⟨ds1, v1, bI1⟩ := FI.binds1 (ps := ["self", "top", "bottom"]) 2 0 nofun rfl fun T kV doc pm an cdv ct us its h1 h2 => match us, its, h1, h2 with | [_, _], [_], _, _ => ⟨_, rfl, rfl⟩
  refine ⟨PySem.W.fnOf "law" "law" (defArgs s_law) (defBody s_law) (defScope s_law) .none kVD32 dcD32 pmD32 anD32 cdD32 ctD32, fun s v => .of_eq rfl, fun base _ _ => ?_⟩
  have B : Blt mg := ⟨PySem.W.mg_none_of X G z_int, PySem.W.mg_none_of X G z_len, PySem.W.mg_none_of X G z_abs, PySem.W.mg_none_of X G z_range, PySem.W.mg_none_of X G z_max, PySem.W.mg_none_of X G z_min, PySem.W.mg_none_of X G z_all, PySem.W.mg_none_of X G z_repr, PySem.W.mg_none_of X G z_isinstance, PySem.W.mg_none_of X G z_bool, PySem.W.mg_none_of X G z_str, PySem.W.mg_none_of X G z_any, PySem.W.mg_none_of X G z_tuple, PySem.W.mg_none_of X G z_list, PySem.W.mg_none_of X G z_sum, PySem.W.mg_none_of X G z_zip, PySem.W.mg_none_of X G z_enumerate⟩
  have R : TxR K mg C := { toBlt := B, cl := ⟨pgC, hdC, poC, saC⟩, nT := nT', nB := nB', g_Ratio := PySem.W.mg_of X G aR, g_gcd := PySem.W.mg_of X G aG, ca := caC, cn := cn, ct := ct', cm := cmC, kI := kit_rt (by decide +kernel) sIC, kB := kit_rt (by decide +kernel) sBC, kC := kit_rr, iC := kit_tr isC tyC sbC }
  have nMR : CM ≠ C := fun e => by rw [e, aP0] at nTop; cases nTop
  have TM : TxM K mg C CM := { toTxR := R, clM := ⟨pgM, hdM, poM, saM⟩, nE := nE', g_Matrix := PySem.W.mg_of X G aCM, g_lcm := PySem.W.mg_of X G aL, caM := caM, cmM := cmM, kMM := kit_rr, kMR := kit_rc isC tyC nMR sMR, kRM := kit_rc isM tyM (Ne.symm nMR) sRM, kMI := kit_rt (by decide +kernel) sIM, kMB := kit_rt (by decide +kernel) sBM, kIM := kit_tr isM tyM sbM }
  have c_whole : CalF l.prog w K mg base _ "is_whole" _ [] := ⟨fD0, _, _, [], ok_whole FD0 B, gD0, kD0, bD0, .nil⟩
  have c_number : CalF l.prog w K mg base _ "is_number" _ [] := ⟨fD1, _, _, [], ok_number FD1 R c_whole, gD1, kD1, bD1, .nil⟩
  have M : Mk K C fI := ⟨mkC, aI, iI, kcC⟩
  have m_rat2 : Rat2C l.prog w K mg base C := ⟨fI, _, _, ds2, M, ok_init FI R c_whole, PySem.W.mg_of X G aR, bI2, v2⟩
  have m_rat1 : Rat1C l.prog w K mg base C := ⟨fI, _, _, ds1, M, ok_init FI R c_whole, PySem.W.mg_of X G aR, bI1, v1⟩
  have c_to : CalF l.prog w K mg base _ "to_ratio" _ [] := ⟨fD2, _, _, [], ok_to FD2 R m_rat1, gD2, kD2, bD2, .nil⟩
  have o_add : OpF l.prog w K mg base 8 C .Add _ := ⟨fM0, _, _, ⟨sfC, aM0, iM0, r_add⟩, ⟨⟨_, x_add⟩, ⟨_, y_add⟩, sbC⟩, ok_add FM0 R c_number c_to m_rat2, bM0⟩
  have o_sub : OpF l.prog w K mg base 8 C .Sub _ := ⟨fM1, _, _, ⟨sfC, aM1, iM1, r_sub⟩, ⟨⟨_, x_sub⟩, ⟨_, y_sub⟩, sbC⟩, ok_sub FM1 R c_number c_to m_rat2, bM1⟩
  have o_mul : OpF l.prog w K mg base 8 C .Mult _ := ⟨fM2, _, _, ⟨sfC, aM2, iM2, r_mul⟩, ⟨⟨_, x_mul⟩, ⟨_, y_mul⟩, sbC⟩, ok_mul FM2 R c_number c_to m_rat2, bM2⟩
  have o_eq : EqF l.prog w K mg base 2 C _ := ⟨fM3, _, _, ⟨neC, aM3, iM3, soC⟩, ok_eq FM3 R, bM3⟩
  have p_top : PropF l.prog w K mg base 2 C "top" _ := ⟨pP0, fP0, _, _, pP0', ok_top FP0 R, bP0⟩
  have p_bottom : PropF l.prog w K mg base 2 C "bottom" _ := ⟨pP1, fP1, _, _, pP1', ok_bottom FP1 R, bP1⟩
  have c_istab : CalF l.prog w K mg base _ "is_table" _ [] := ⟨fD3, _, _, [], ok_istab FD3 B, gD3, kD3, bD3, .nil⟩
  have m_mat : MatC l.prog w K mg base C CM := ⟨fM4, _, _, [], ⟨mkM, aM4, iM4, kcM⟩, ok_minit FM4 TM c_istab c_number c_to, PySem.W.mg_of X G aCM, bM4, .nil⟩
  have pm_entries : PropF l.prog w K mg base 2 CM "entries" _ := ⟨pP2, fP2, _, _, pP2', ok_entries FP2 TM, bP2⟩
  have pm_rows : PropF l.prog w K mg base 2 CM "rows" _ := ⟨pP3, fP3, _, _, pP3', ok_rows FP3 TM, bP3⟩
  have pm_columns : PropF l.prog w K mg base 2 CM "columns" _ := ⟨pP4, fP4, _, _, pP4', ok_columns FP4 TM, bP4⟩
  have pm_transposed : PropF l.prog w K mg base 10 CM "transposed" _ := ⟨pP5, fP5, _, _, pP5', ok_trans FP5 TM m_mat pm_columns, bP5⟩
  have FX := fun_mk (st := s_Mismatch___init__) lX cX kX
  have bX := FX.binds (ps := ["self", "first", "second"]) fun _ _ _ _ _ _ us hl => match us, hl with | [_, _, _], _ => rfl
  have erX : ErC K CX := ⟨⟨"LookupError", "LookupError.__new__", "LookupError.__init__", _, ⟨PySem.F.excBase_LookupError, PySem.F.store_LookupError⟩, xei, xeo⟩, xsa, xeC, xtC, xk, xga, xgg, xhC, xca, cn, ct', xmo⟩
  have x_mis : XmC l.prog w K mg base CX := ⟨erX, ⟨xga, xgg, xeC, xhC⟩, xn1, xn2, PySem.W.mg_of X G aX, PySem.W.exm_ref xeC xhC xtC xsC, fX, _, _, xin, xt, ok_xm FX, bX⟩
  have m_chk : ChkC l.prog w K mg base C CM CX := ⟨fM5, _, _, ⟨aM5, iM5, kM5⟩, ok_chk FM5 TM x_mis pm_rows pm_columns, bM5⟩
  have o_madd : MAddC l.prog w K mg base C CM CX := ⟨fM6, _, _, ⟨sfM, aM6, iM6, rM_add⟩, ⟨⟨_, x_add⟩, ⟨_, y_add⟩, sbM⟩, ⟨sfC, ⟨_, aM0⟩, r_add, sRM, nMR⟩, ok_madd FM6 TM m_mat m_chk pm_entries o_add, bM6⟩
  have o_msub : MSubC l.prog w K mg base C CM CX := ⟨fM7, _, _, ⟨sfM, aM7, iM7, rM_sub⟩, ⟨⟨_, x_sub⟩, ⟨_, y_sub⟩, sbM⟩, ⟨sfC, ⟨_, aM1⟩, r_sub, sRM, nMR⟩, ok_msub FM7 TM m_mat m_chk pm_entries o_sub, bM7⟩
  have c_oobT : OobT l.prog w K mg base C := ⟨fD4, _, _, [], ok_oobT FD4 TM p_top p_bottom, gD4, kD4, bD4, .nil⟩
  have c_oobL : OobL l.prog w K mg base C := ⟨fD4, _, _, [], ok_oobL FD4 TM p_top p_bottom, gD4, kD4, bD4, .nil⟩
  have c_rowt : CalF l.prog w K mg base _ "row_times" _ [] := ⟨fD5, _, _, [], ok_rowt FD5 TM c_oobT m_rat2, gD5, kD5, bD5, .nil⟩
  have c_mult : CalF l.prog w K mg base _ "multiplied" _ [] := ⟨fD6, _, _, [], ok_mult FD6 TM c_oobL c_rowt, gD6, kD6, bD6, .nil⟩
  have o_mmul : MMulC l.prog w K mg base C CM CX := ⟨fM8, _, _, ⟨sfM, aM8, iM8, rM_mul⟩, ⟨⟨_, x_mul⟩, ⟨_, y_mul⟩, sbM⟩, ⟨sfC, ⟨_, aM2⟩, r_mul, sRM, nMR⟩, ok_mmul FM8 TM x_mis m_mat c_number c_mult pm_entries pm_rows pm_columns o_mul, bM8⟩
  have o_mneg : NegF l.prog w K mg base 14 CM (spMNeg C CM) := ⟨fM9, _, _, aM9, iM9, ok_mneg FM9 TM o_mmul, bM9⟩
  have o_meq : EqF l.prog w K mg base 6 CM (spMEq C CM) := ⟨fM10, _, _, ⟨neM, aM10, iM10, soM⟩, ok_meq FM10 TM o_eq, bM10⟩
  have c_draw : CalG l.prog w K mg base _ "_law_draw" _ [] := ⟨fD8, _, _, [], ok_draw FD8 B, gD8, kD8, bD8, .nil⟩
  have c_great : CalG l.prog w K mg base _ "_law_great" _ [] := ⟨fD9, _, _, [], ok_great FD9 B c_draw, gD9, kD9, bD9, .nil⟩
  have c_common : CalG l.prog w K mg base _ "_law_common" _ [] := ⟨fD10, _, _, [], ok_common FD10 B, gD10, kD10, bD10, .nil⟩
  have c_lowest : CalG l.prog w K mg base _ "_law_lowest" _ [] := ⟨fD11, _, _, [], ok_lowest FD11 c_common, gD11, kD11, bD11, .nil⟩
  have c_purse : CalG l.prog w K mg base _ "_law_purse" _ [] := ⟨fD7, _, _, [], ok_purse FD7 B, gD7, kD7, bD7, .nil⟩
  have c_from : CalG l.prog w K mg base _ "_law_from" _ [] := ⟨fD12, _, _, [], ok_from FD12 c_purse, gD12, kD12, bD12, .nil⟩
  have c_low : CalG l.prog w K mg base _ "_law_low" _ [] := ⟨fD16, _, _, [], ok_low FD16 B c_common, gD16, kD16, bD16, .nil⟩
  have c_turn : CalG l.prog w K mg base _ "_law_turn" _ [] := ⟨fD17, _, _, [], ok_turn FD17 B, gD17, kD17, bD17, .nil⟩
  have c_pairs : CalG l.prog w K mg base _ "_law_pairs" _ [] := ⟨fD18, _, _, [], ok_pairs FD18 B c_lowest, gD18, kD18, bD18, .nil⟩
  have c_told : CalG l.prog w K mg base _ "_law_told" _ [] := ⟨fD19, _, _, [], ok_told FD19 TM pm_entries p_top p_bottom, gD19, kD19, bD19, .nil⟩
  have c_is : CalG l.prog w K mg base _ "_law_is" _ [] := ⟨fD20, _, _, [], ok_is FD20 TM c_told c_pairs, gD20, kD20, bD20, .nil⟩
  have c_entries : CalG l.prog w K mg base _ "_law_entries" _ [] := ⟨fD21, _, _, [], ok_ent FD21 TM m_rat2, gD21, kD21, bD21, .nil⟩
  have c_shape : CalG l.prog w K mg base _ "_law_shape" _ [] := ⟨fD22, _, _, [], ok_shape FD22 B, gD22, kD22, bD22, .nil⟩
  have c_dot : CalG l.prog w K mg base _ "_law_dot" _ [] := ⟨fD23, _, _, [], ok_dot FD23 B, gD23, kD23, bD23, .nil⟩
  have c_times : CalG l.prog w K mg base _ "_law_times" _ [] := ⟨fD24, _, _, [], ok_times FD24 B c_turn c_dot c_low, gD24, kD24, bD24, .nil⟩
  have c_scale : CalG l.prog w K mg base _ "_law_scale" _ [] := ⟨fD25, _, _, [], ok_scale FD25 B c_low, gD25, kD25, bD25, .nil⟩
  have c_plus : CalG l.prog w K mg base _ "_law_plus" _ [] := ⟨fD26, _, _, [], ok_plus FD26 B c_low, gD26, kD26, bD26, .nil⟩
  have c_pick : CalG l.prog w K mg base _ "_law_pick" _ [] := ⟨fD13, _, _, [], ok_pick FD13 B c_draw, gD13, kD13, bD13, .nil⟩
  have c_thin : CalG l.prog w K mg base _ "_law_thin" _ [] := ⟨fD14, _, _, [], ok_thin FD14 B c_draw, gD14, kD14, bD14, .nil⟩
  have c_cells : CalG l.prog w K mg base _ "_law_cells" _ [] := ⟨fD15, _, _, [], ok_cells FD15 B c_draw c_low, gD15, kD15, bD15, .nil⟩
  have c_tried : CalG l.prog w K mg base _ "_law_tried" _ [] := ⟨fD27, _, _, [], ok_tried FD27 TM x_mis o_madd o_msub o_mmul, gD27, kD27, bD27, .nil⟩
  have c_agrees : CalG l.prog w K mg base _ "_law_agrees" _ [] := ⟨fD28, _, _, [], ok_agrees FD28 TM c_is, gD28, kD28, bD28, .nil⟩
  have c_sumdue : CalG l.prog w K mg base _ "_law_sum_due" _ [] := ⟨fD29, _, _, [], ok_sumdue FD29 B c_shape c_plus, gD29, kD29, bD29, .nil⟩
  have c_proddue : CalG l.prog w K mg base _ "_law_product_due" _ [] := ⟨fD30, _, _, [], ok_proddue FD30 B c_shape c_times, gD30, kD30, bD30, .nil⟩
  have c_right : CalG l.prog w K mg base _ "_law_right" _ [] := ⟨fD31, _, _, [], ok_right FD31 TM c_draw c_great c_lowest m_rat2 m_mat c_thin c_pick c_cells c_entries c_tried c_sumdue c_proddue c_times c_scale c_turn c_is c_agrees o_madd o_msub o_mmul o_mneg o_meq pm_transposed, gD31, kD31, bD31, .nil⟩
  exact ok_law FD32 B c_from c_right
theorem walk {l : PySem.W.OpenLaw} {q : Program} {loose : List Str} {XP : (Str → Option Value) → Heap → Prop} {YP : World → Heap → Prop} {d : DefRec} {K : Params → PySem.W.Frag} (hn : l.most = some 63) (hdf : d.params.defaults = [])
    (hY : ∀ (w : World) (h : Heap), YP w h → (K w.params).In h)
    (F : ∀ (w : World) (mg : Str → Option Value) (fa : Addr) (h : Heap), (K w.params).In h → h.Ns mainGlobals mg → mg d.name = some (.ref fa) →
      ∃ fd : FuncData, (∀ (s : Shared) (u : Value), BindsTo s fd ⟨[u], []⟩ [("_law_script", u)]) ∧ ∀ base : Heap, (K w.params).In base → base.Ns mainGlobals mg → FnG l.prog w (K w.params) mg base CX0 22 fa fd ["_law_script"] (spLaw (K w.params))) :
    PySem.W.WalkO q loose XP YP l.row.toRowW d [] (fun f vs => PySem.call f vs) :=
  walkG (n := 63) (k := 22) (x := "_law_script") (sp := fun w => spLaw (K w.params)) hn (by decide) hdf ⟨rfl, by decide, by decide⟩ hY F (fun _ _ a ns hl _ hS => ⟨a, ns, rfl, hS, hl, fun _ => rfl⟩)
end Lw

open PySem PySem.W PyProof.Rows
set_option maxRecDepth 100000 in
set_option maxHeartbeats 0 in
theorem PySem.Challenge.cw_matrixforms_k07_matrix_operators_holds : PySem.Challenge.rw_matrixforms_k07_matrix_operators.Holds := by
  refine Lw.hd ?_
  k_fill
  refine Lw.walk (l := PySem.Challenge.rw_matrixforms_k07_matrix_operators) rfl rfl (fun w h Y => PySem.W.kIn_of Y) ?F
  case F =>
    intro w mg fa h KX G hmg
    refine' Lw.all_mk KX G hmg ?aD0 ?lD0 ?cD0 ?kD0 ?aD1 ?lD1 ?cD1 ?kD1 ?aD2 ?lD2 ?cD2 ?kD2 ?aD3 ?lD3 ?cD3 ?kD3 ?aD4 ?lD4 ?cD4 ?kD4 ?aD5 ?lD5 ?cD5 ?kD5 ?aD6 ?lD6 ?cD6 ?kD6 ?aD7 ?lD7 ?cD7 ?kD7 ?aD8 ?lD8 ?cD8 ?kD8 ?aD9 ?lD9 ?cD9 ?kD9 ?aD10 ?lD10 ?cD10 ?kD10 ?aD11 ?lD11 ?cD11 ?kD11 ?aD12 ?lD12 ?cD12 ?kD12 ?aD13 ?lD13 ?cD13 ?kD13 ?aD14 ?lD14 ?cD14 ?kD14 ?aD15 ?lD15 ?cD15 ?kD15 ?aD16 ?lD16 ?cD16 ?kD16 ?aD17 ?lD17 ?cD17 ?kD17 ?aD18 ?lD18 ?cD18 ?kD18 ?aD19 ?lD19 ?cD19 ?kD19 ?aD20 ?lD20 ?cD20 ?kD20 ?aD21 ?lD21 ?cD21 ?kD21 ?aD22 ?lD22 ?cD22 ?kD22 ?aD23 ?lD23 ?cD23 ?kD23 ?aD24 ?lD24 ?cD24 ?kD24 ?aD25 ?lD25 ?cD25 ?kD25 ?aD26 ?lD26 ?cD26 ?kD26 ?aD27 ?lD27 ?cD27 ?kD27 ?aD28 ?lD28 ?cD28 ?kD28 ?aD29 ?lD29 ?cD29 ?kD29 ?aD30 ?lD30 ?cD30 ?kD30 ?aD31 ?lD31 ?cD31 ?kD31 ?aD32 ?lD32 ?cD32 ?kD32 ?aM0 ?iM0 ?lM0 ?cM0 ?kM0 ?aM1 ?iM1 ?lM1 ?cM1 ?kM1 ?aM2 ?iM2 ?lM2 ?cM2 ?kM2 ?aM3 ?iM3 ?lM3 ?cM3 ?kM3 ?aM4 ?iM4 ?lM4 ?cM4 ?kM4 ?aM5 ?iM5 ?lM5 ?cM5 ?kM5 ?aM6 ?iM6 ?lM6 ?cM6 ?kM6 ?aM7 ?iM7 ?lM7 ?cM7 ?kM7 ?aM8 ?iM8 ?lM8 ?cM8 ?kM8 ?aM9 ?iM9 ?lM9 ?cM9 ?kM9 ?aM10 ?iM10 ?lM10 ?cM10 ?kM10 ?aP0 ?gP0 ?tP0 ?rP0 ?lP0 ?cP0 ?kP0 ?aP1 ?gP1 ?tP1 ?rP1 ?lP1 ?cP1 ?kP1 ?aP2 ?gP2 ?tP2 ?rP2 ?lP2 ?cP2 ?kP2 ?aP3 ?gP3 ?tP3 ?rP3 ?lP3 ?cP3 ?kP3 ?aP4 ?gP4 ?tP4 ?rP4 ?lP4 ?cP4 ?kP4 ?aP5 ?gP5 ?tP5 ?rP5 ?lP5 ?cP5 ?kP5 ?aI ?iI ?lI ?cI ?kI ?lT ?dT ?z_int ?z_len ?z_abs ?z_range ?z_max ?z_min ?z_all ?z_repr ?z_isinstance ?z_bool ?z_str ?z_any ?z_tuple ?z_list ?z_sum ?z_zip ?z_enumerate ?aR ?aCM ?aG ?aL ?pgC ?hdC ?poC ?saC ?mkC ?kcC ?caC ?cmC ?sIC ?sBC ?tyC ?isC ?sfC ?sbC ?soC ?neC ?pgM ?hdM ?poM ?saM ?mkM ?kcM ?caM ?cmM ?sIM ?sBM ?tyM ?isM ?sfM ?sbM ?soM ?neM ?nT' ?nB' ?nE' ?nTop ?cn ?ct' ?sRM ?sMR ?r_add ?rM_add ?x_add ?y_add ?r_sub ?rM_sub ?x_sub ?y_sub ?r_mul ?rM_mul ?x_mul ?y_mul ?aX ?xei ?xeo ?xsa ?xga ?xgg ?xca ?xmo ?xn1 ?xn2 ?xin ?xt ?xk ?xeC ?xtC ?xhC ?xsC ?lX ?cX ?kX
    (case aR => k_is)
    (case aCM => k_is)
    (case aX => k_is)
    (case aD0 => k_is)
    (case lD0 => k_is)
    (case cD0 => k_is)
    (case kD0 => k_is)
    (case aD1 => k_is)
    (case lD1 => k_is)
    (case cD1 => k_is)
    (case kD1 => k_is)
    (case aD2 => k_is)
    (case lD2 => k_is)
    (case cD2 => k_is)
    (case kD2 => k_is)
    (case aD3 => k_is)
    (case lD3 => k_is)
    (case cD3 => k_is)
    (case kD3 => k_is)
    (case aD4 => k_is)
    (case lD4 => k_is)
    (case cD4 => k_is)
    (case kD4 => k_is)
    (case aD5 => k_is)
    (case lD5 => k_is)
    (case cD5 => k_is)
    (case kD5 => k_is)
    (case aD6 => k_is)
    (case lD6 => k_is)
    (case cD6 => k_is)
    (case kD6 => k_is)
    (case aD7 => k_is)
    (case lD7 => k_is)
    (case cD7 => k_is)
    (case kD7 => k_is)
    (case aD8 => k_is)
    (case lD8 => k_is)
    (case cD8 => k_is)
    (case kD8 => k_is)
    (case aD9 => k_is)
    (case lD9 => k_is)
    (case cD9 => k_is)
    (case kD9 => k_is)
    (case aD10 => k_is)
    (case lD10 => k_is)
    (case cD10 => k_is)
    (case kD10 => k_is)
    (case aD11 => k_is)
    (case lD11 => k_is)
    (case cD11 => k_is)
    (case kD11 => k_is)
    (case aD12 => k_is)
    (case lD12 => k_is)
    (case cD12 => k_is)
    (case kD12 => k_is)
    (case aD13 => k_is)
    (case lD13 => k_is)
    (case cD13 => k_is)
    (case kD13 => k_is)
    (case aD14 => k_is)
    (case lD14 => k_is)
    (case cD14 => k_is)
    (case kD14 => k_is)
    (case aD15 => k_is)
    (case lD15 => k_is)
    (case cD15 => k_is)
    (case kD15 => k_is)
    (case aD16 => k_is)
    (case lD16 => k_is)
    (case cD16 => k_is)
    (case kD16 => k_is)
    (case aD17 => k_is)
    (case lD17 => k_is)
    (case cD17 => k_is)
    (case kD17 => k_is)
    (case aD18 => k_is)
    (case lD18 => k_is)
    (case cD18 => k_is)
    (case kD18 => k_is)
    (case aD19 => k_is)
    (case lD19 => k_is)
    (case cD19 => k_is)
    (case kD19 => k_is)
    (case aD20 => k_is)
    (case lD20 => k_is)
    (case cD20 => k_is)
    (case kD20 => k_is)
    (case aD21 => k_is)
    (case lD21 => k_is)
    (case cD21 => k_is)
    (case kD21 => k_is)
    (case aD22 => k_is)
    (case lD22 => k_is)
    (case cD22 => k_is)
    (case kD22 => k_is)
    (case aD23 => k_is)
    (case lD23 => k_is)
    (case cD23 => k_is)
    (case kD23 => k_is)
    (case aD24 => k_is)
    (case lD24 => k_is)
    (case cD24 => k_is)
    (case kD24 => k_is)
    (case aD25 => k_is)
    (case lD25 => k_is)
    (case cD25 => k_is)
    (case kD25 => k_is)
    (case aD26 => k_is)
    (case lD26 => k_is)
    (case cD26 => k_is)
    (case kD26 => k_is)
    (case aD27 => k_is)
    (case lD27 => k_is)
    (case cD27 => k_is)
    (case kD27 => k_is)
    (case aD28 => k_is)
    (case lD28 => k_is)
    (case cD28 => k_is)
    (case kD28 => k_is)
    (case aD29 => k_is)
    (case lD29 => k_is)
    (case cD29 => k_is)
    (case kD29 => k_is)
    (case aD30 => k_is)
    (case lD30 => k_is)
    (case cD30 => k_is)
    (case kD30 => k_is)
    (case aD31 => k_is)
    (case lD31 => k_is)
    (case cD31 => k_is)
    (case kD31 => k_is)
    (case aD32 => k_is)
    (case lD32 => k_is)
    (case cD32 => k_is)
    (case kD32 => k_is)
    (case aM0 => k_is)
    (case iM0 => k_is)
    (case lM0 => k_is)
    (case cM0 => k_is)
    (case kM0 => k_is)
    (case aM1 => k_is)
    (case iM1 => k_is)
    (case lM1 => k_is)
    (case cM1 => k_is)
    (case kM1 => k_is)
    (case aM2 => k_is)
    (case iM2 => k_is)
    (case lM2 => k_is)
    (case cM2 => k_is)
    (case kM2 => k_is)
    (case aM3 => k_is)
    (case iM3 => k_is)
    (case lM3 => k_is)
    (case cM3 => k_is)
    (case kM3 => k_is)
    (case aM4 => k_is)
    (case iM4 => k_is)
    (case lM4 => k_is)
    (case cM4 => k_is)
    (case kM4 => k_is)
    (case aM5 => k_is)
    (case iM5 => k_is)
    (case lM5 => k_is)
    (case cM5 => k_is)
    (case kM5 => k_is)
    (case aM6 => k_is)
    (case iM6 => k_is)
    (case lM6 => k_is)
    (case cM6 => k_is)
    (case kM6 => k_is)
    (case aM7 => k_is)
    (case iM7 => k_is)
    (case lM7 => k_is)
    (case cM7 => k_is)
    (case kM7 => k_is)
    (case aM8 => k_is)
    (case iM8 => k_is)
    (case lM8 => k_is)
    (case cM8 => k_is)
    (case kM8 => k_is)
    (case aM9 => k_is)
    (case iM9 => k_is)
    (case lM9 => k_is)
    (case cM9 => k_is)
    (case kM9 => k_is)
    (case aM10 => k_is)
    (case iM10 => k_is)
    (case lM10 => k_is)
    (case cM10 => k_is)
    (case kM10 => k_is)
    (case aP0 => k_is)
    (case gP0 => k_is)
    (case tP0 => k_is)
    (case rP0 => k_is)
    (case lP0 => k_is)
    (case cP0 => k_is)
    (case kP0 => k_is)
    (case aP1 => k_is)
    (case gP1 => k_is)
    (case tP1 => k_is)
    (case rP1 => k_is)
    (case lP1 => k_is)
    (case cP1 => k_is)
    (case kP1 => k_is)
    (case aP2 => k_is)
    (case gP2 => k_is)
    (case tP2 => k_is)
    (case rP2 => k_is)
    (case lP2 => k_is)
    (case cP2 => k_is)
    (case kP2 => k_is)
    (case aP3 => k_is)
    (case gP3 => k_is)
    (case tP3 => k_is)
    (case rP3 => k_is)
    (case lP3 => k_is)
    (case cP3 => k_is)
    (case kP3 => k_is)
    (case aP4 => k_is)
    (case gP4 => k_is)
    (case tP4 => k_is)
    (case rP4 => k_is)
    (case lP4 => k_is)
    (case cP4 => k_is)
    (case kP4 => k_is)
    (case aP5 => k_is)
    (case gP5 => k_is)
    (case tP5 => k_is)
    (case rP5 => k_is)
    (case lP5 => k_is)
    (case cP5 => k_is)
    (case kP5 => k_is)
    (case aI => k_is)
    (case iI => k_is)
    (case lI => k_is)
    (case cI => k_is)
    (case kI => k_is)
    (case lT => k_is)
    (case dT => rfl)
    (case z_int => k_is)
    (case z_len => k_is)
    (case z_abs => k_is)
    (case z_range => k_is)
    (case z_max => k_is)
    (case z_min => k_is)
    (case z_all => k_is)
    (case z_repr => k_is)
    (case z_isinstance => k_is)
    (case z_bool => k_is)
    (case z_str => k_is)
    (case z_any => k_is)
    (case z_tuple => k_is)
    (case z_list => k_is)
    (case z_sum => k_is)
    (case z_zip => k_is)
    (case z_enumerate => k_is)
    (case aG => k_is)
    (case aL => k_is)
    (case pgC => k_is)
    (case hdC => k_is)
    (case poC => k_is)
    (case saC => k_is)
    (case mkC => k_is)
    (case kcC => k_is)
    (case caC => k_is)
    (case cmC => k_is)
    (case sIC => k_is)
    (case sBC => k_is)
    (case tyC => k_is)
    (case isC => k_is)
    (case sfC => k_is)
    (case sbC => k_is)
    (case soC => k_is)
    (case neC => k_is)
    (case pgM => k_is)
    (case hdM => k_is)
    (case poM => k_is)
    (case saM => k_is)
    (case mkM => k_is)
    (case kcM => k_is)
    (case caM => k_is)
    (case cmM => k_is)
    (case sIM => k_is)
    (case sBM => k_is)
    (case tyM => k_is)
    (case isM => k_is)
    (case sfM => k_is)
    (case sbM => k_is)
    (case soM => k_is)
    (case neM => k_is)
    (case nT' => k_is)
    (case nB' => k_is)
    (case nE' => k_is)
    (case nTop => k_is)
    (case cn => k_is)
    (case ct' => k_is)
    (case sRM => k_is)
    (case sMR => k_is)
    (case r_add => k_is)
    (case rM_add => k_is)
    (case x_add => k_is)
    (case y_add => k_is)
    (case r_sub => k_is)
    (case rM_sub => k_is)
    (case x_sub => k_is)
    (case y_sub => k_is)
    (case r_mul => k_is)
    (case rM_mul => k_is)
    (case x_mul => k_is)
    (case y_mul => k_is)
    (case xei => kernel_rfl!)
    (case xeo => kernel_rfl!)
    (case xsa => k_is)
    (case xga => k_is)
    (case xgg => k_is)
    (case xca => k_is)
    (case xmo => k_is)
    (case xn1 => k_is)
    (case xn2 => k_is)
    (case xin => k_is)
    (case xt => k_is)
    (case xk => k_is)
    (case xeC => k_is)
    (case xtC => k_is)
    (case xhC => k_is)
    (case xsC => first | rfl | k_is)
    (case lX => k_is)
    (case cX => k_is)
    (case kX => k_is)


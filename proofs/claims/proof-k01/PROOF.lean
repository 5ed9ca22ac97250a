import PyProof.Rows.All
import Wide.All
import OpenK.AllK
import Wide.FinOn
import HandS.ForMost
import HandS.Wide
import HandS.Gcd
import HandS.IsInst
import HandS.Property
import HandS.OwnEq
import KE.KOpsOwn
import PyProof.ReprRoads
import HandS.Codes
import HandS.Defaults
import HandS.MakeKwOnly
import HandS.Style
import PyProof.Rows.SortStrRead
import PyProof.Rows.ReprOcc
import PyProof.ReprLen
import PyProof.P3Eq
import OpenK.KOps
import KE.KCallOwn
import PyProof.ReprDict
import PyProof.StrHeap
import HandS.MakeKw
import HandS.HotCalls
import HandS.ExcInitHot
import HandS.ExcField
import HandS.WordsExc
import HandS.ExcIs
import HandS.ClsMeth
import HandS.StrMore
import KE.KExcIs
import KE.KExcMake
import HandS.FStr
import HandS.Conv
import PySem.Challenge.RW_matrixforms_k01_constants_and_errors
set_option Elab.async false
set_option linter.all false
set_option maxRecDepth 100000
set_option maxHeartbeats 8000000
namespace PySem.W.Fast
def tw11807398835817804097 : Nat := 0
def tw1288099228469307458 : Nat := 0
def tw14599332172640487106 : Nat := 0
def tw12127988259966019426 : Nat := 0
def tw4282102999915189251 : Nat := 0
def tw2746417000109676995 : Nat := 0
def tw17654961136353862275 : Nat := 0
def tw6901481214749110756 : Nat := 0
def tw13745525954573722341 : Nat := 0
def tw12431185660649640070 : Nat := 0
def tw12417617644763636902 : Nat := 0
def tw638634729458462855 : Nat := 0
def tw17777496456727530695 : Nat := 0
def tw9379956901747016231 : Nat := 0
def tw14642077971152762631 : Nat := 0
def tw2588868538076377192 : Nat := 0
def tw14226348906240226472 : Nat := 0
def tw1885816856840427368 : Nat := 0
def tw17679158174304933001 : Nat := 0
def tw10702267428988894793 : Nat := 0
def tw1053397150079679273 : Nat := 0
def tw18229073725375691786 : Nat := 0
def tw13693608185114611850 : Nat := 0
def tw7720337428314584586 : Nat := 0
def tw4863611149460929034 : Nat := 0
def tw653506091643973067 : Nat := 0
def tw12390798536196764139 : Nat := 0
def tw8391329383265412396 : Nat := 0
def tw12986296579006380524 : Nat := 0
def tw16136904145731595884 : Nat := 0
def tw13086138719991198381 : Nat := 0
def tw8535665929121929005 : Nat := 0
def tw12877923093854059341 : Nat := 0
def tw6383880394265850894 : Nat := 0
def tw15023713804189175886 : Nat := 0
def tw12431553541734235470 : Nat := 0
def tw13425314653348942222 : Nat := 0
def tw16080958668208266575 : Nat := 0
def tw7979426415337236463 : Nat := 0
def tw2992392870596024528 : Nat := 0
def tw1032365197883696912 : Nat := 0
def tw3014320893331500880 : Nat := 0
def tw15417684085340152209 : Nat := 0
def tw3933922582930156434 : Nat := 0
def tw10612064851654232179 : Nat := 0
def tw11406145531548421459 : Nat := 0
def tw13110568355098898387 : Nat := 0
def tw13499960397644939284 : Nat := 0
def tw1737057240331206740 : Nat := 0
def tw3080929937059602580 : Nat := 0
def tw12490232114664892788 : Nat := 0
def tw8314530314606187252 : Nat := 0
def tw17261660988125620791 : Nat := 0
def tw7430665459787381303 : Nat := 0
def tw910951208614965304 : Nat := 0
def tw5766912683543112184 : Nat := 0
def tw9173443816259348408 : Nat := 0
def tw18176932783167965401 : Nat := 0
def tw9562766676497802330 : Nat := 0
def tw12863678444883155354 : Nat := 0
def tw17971455030446533178 : Nat := 0
def tw16409940998840071291 : Nat := 0
def tw7556661351606815963 : Nat := 0
def tw14391255128567919579 : Nat := 0
def tw2518412735853312188 : Nat := 0
def tw14093989797045506268 : Nat := 0
def tw9705639802315597149 : Nat := 0
def tw7651645428535029341 : Nat := 0
def tw6097910438895747805 : Nat := 0
def tw13401341784309739966 : Nat := 0
def tw13559574794535985662 : Nat := 0
def tw14413941784664370782 : Nat := 0
def tw13833968188554412702 : Nat := 0
def tw8459144057765107743 : Nat := 0
def tw5486665549383134495 : Nat := 0
def tw10357790480765496895 : Nat := 0
def tw10206973615511953087 : Nat := 0
end PySem.W.Fast
namespace Lw
open PySem PySem.W PyProof.Rows
set_option maxHeartbeats 0
open_top hd for PySem.Challenge.rw_matrixforms_k01_constants_and_errors
end Lw

/-! A layer over L2 in which it is known that no guarded builtin (repr of a container) is running around. -/
namespace MG
open PySem PySem.Spec PyProof.Rows L2

/-- nothing guarded runs around -/
def Bare (A : Around) : Prop := A.guards = some []

/-- as FnOk, called only where nothing guarded runs around -/
structure FnG (P : Program) (w : World) (K : PySem.W.Frag) (mg : Str → Option Value) (base : Heap) (CX : CXT) (k : Nat)
    (f : Addr) (fd : FuncData) (ps : List Str) (sp : Sp) : Prop where
  len : ∀ vs H Q E, sp vs H Q E → vs.length = ps.length
  run : ∀ (A : Around) (outer : List Env) (s : Shared) (H : Hp) (args : Args) (us : List Value) (vs : List V) (Q : VK) (E : XK),
    Bare A → Room k A → Env0 P w K mg base A outer s H → BindsTo s fd args (ps.zip us) → Vals vs us → sp vs H Q E →
      codeAny (model P w) A (.call (.ref f) args) (CR CX outer P w H s Q E) s

section
variable {P : Program} {w : World} {K : PySem.W.Frag} {mg : Str → Option Value} {base : Heap} {CX : CXT} {k : Nat} {f : Addr}
theorem FnG.of {fd : FuncData} {ps : List Str} {sp : Sp} (F : FnOk P w K mg base CX k f fd ps sp) : FnG P w K mg base CX k f fd ps sp :=
  ⟨F.len, fun A outer s H args us vs Q E _ => F.run A outer s H args us vs Q E⟩

theorem fnG_of {name qual : Str} {params : Arguments} {body : List Stmt} {scope : Scope} {dV kV doc pm cdv ct oc : Value} {an od : Option Addr}
    {osl : Array (Option Value)} {N ps : List Str} {sp : Sp}
    (lk : K.lookup f = some ⟨oc, od, .func (PySem.W.fnOf name qual params body scope dV kV doc pm an cdv ct), osl⟩)
    (hcd : PySem.W.codeIn K cdv qual = true) (S : FnScope N ps scope) (len : ∀ vs H Q E, sp vs H Q E → vs.length = ps.length)
    (hbody : ∀ (A : Around) (outer : List Env) (s : Shared) (H : Hp) (vs : List V) (Q : VK) (E : XK), Bare A →
      Room k (A.deeper (envOfC qual scope s.heap.objs.size f cdv)) → sp vs H Q E →
      ∃ t, PSs (cxOf CX P w K mg base N qual scope f cdv A outer s H E) body t ∧ t { nx := fun _ H' => Q .non H', rt := Q } (start N vs) H) :
    FnG P w K mg base CX (k + 1) f (PySem.W.fnOf name qual params body scope dV kV doc pm an cdv ct) ps sp := by
  refine ⟨len, ?_⟩
  intro A outer s H args us vs Q E bare hr e0 hb r hsp
  have hl := len _ _ _ _ hsp
  have inK : K.In s.heap := e0.mod.kin.keeps (fun b o e => (e0.bs b o e).left)
  have free : s.heap.NoLimit := e0.mod.nolimit.keeps (fun b o e => (e0.bs b o e).left)
  refine codeAny_call_function hr.depth (inK _ _ lk) rfl S.co S.gen rfl (PySem.W.codeRec_of inK hcd) (hb _ _ _ _ ?_)
  have kinds : ∀ y ∈ ps.zip us, scope.names.lookup y.1 = some .local ∨
      (scope.names.lookup y.1 = some .cell ∧ ((cellsFrom (s.heap.objs.size + 1) scope.names []).lookup y.1).isSome = true) := by
    rintro ⟨n, v⟩ hy
    exact (S.par n (List.of_mem_zip hy).left).imp id fun q => ⟨q, PySem.W.cellsFrom_some _ _ _ (.inl q)⟩
  refine wpAny_newFunctionEnv_cells S.kind kinds ?_
  intro env he s1 x
  subst he
  refine ⟨free.keeps x.toInCall.keep, codeAny_func ?_⟩
  obtain ⟨t, ht, hq⟩ := hbody A outer s H vs Q E bare (hr.deeper _) hsp
  have I := inv_start (CX := CX) (E := E) S hr.hd e0 hl r x
  refine wpAny_mono (ht.run [] s1 (start N vs) H _ I hq) ?_ (fun e s' hs => hs)
  intro fl s' hs
  match fl, hs with
  | .ret u, ⟨v, σ', H', J, rv, q⟩ => exact ⟨v, H', J.os, J.bare, J.base, J.hok, rv, q⟩
  | .next, ⟨σ', H', J, q⟩ => exact ⟨V.non, H', J.os, J.bare, J.base, J.hok, rfl, q⟩
  | .brk, ⟨_, _, _, q⟩ => exact False.elim q
  | .cont, ⟨_, _, _, q⟩ => exact False.elim q
end

section
variable {X : Cx} {CX : CXT} {k : Nat} {f C : Addr} {fd : FuncData} {ps : List Str} {sp : Sp} {dvs : List V} {ds : List Value} {E : XK} {x m : Str} {p pos apos : Pos} {e o : Expr} {es : List Expr} {ta : TE} {t : TA}
variable {pins : List (Addr × Obj)} {σ : L2.St} {H : Hp} {s : Shared}
theorem run_fnG {Q : VK} {us : List Value} {vs : List V} (F : FnG X.prog X.w X.K X.mg X.base CX k f fd ps sp) (bare : Bare X.A) (hr : Room k X.A)
    (hb : Binds X.K fd ps ds) (hd : Vals dvs ds) (hx : Passes CX X E) (I : Inv X pins σ H s) (r : Vals vs us) (h : sp (vs ++ dvs) H Q E) :
    wpAny (model X.prog X.w) X.A (call (.ref f) us) (EP X pins σ Q) X.xe s := by
  have r2 := r.append hd
  have hl : (us ++ ds).length = ps.length := r2.length.symm.trans (F.len _ _ _ _ h)
  refine wpAny_call (codeAny_mono (F.run X.A X.stack s H ⟨us, []⟩ _ _ Q E bare hr I.env0 (hb s us I.kIn hl) r2 h) ?_)
  intro r s' hq
  match r, hq with
  | .error e, hq => exact hx pins σ H s e s' I hq
  | .ok (.ret u), hq => exact I.after hq
  | .ok .next, hq => exact False.elim hq
  | .ok .brk, hq => exact False.elim hq
  | .ok .cont, hq => exact False.elim hq

theorem pe_callG (F : FnG X.prog X.w X.K X.mg X.base CX k f fd ps sp) (bare : Bare X.A) (hr : Room k X.A) (hg : Gl X x) (hm : X.mg x = some (.ref f))
    (hk : PySem.W.keepIn X.K (.ref f) = true) (hb : Binds X.K fd ps ds) (hd : Vals dvs ds) (hx : Passes CX X E) (ha : PA X (e :: es) t)
    (hdb : (x == ("__debug__" : Str)) = false := by decide)
    (he : starEach (e :: es) X.env = (false, eval e X.env) :: starEach es X.env := by rfl)
    (hpl : (backTo pos (starEach es X.env)).any (·.1) = false := by rfl) : PE X (.Call (.Name x p) (e :: es) [] pos) (tCall sp dvs E t) := by
  constructor
  intro pins s σ H Q I h
  refine wpAny_Call_Name_kw (ld_glob I hg hm ?_ hdb)
  refine PySem.W.callWith_K (h₀ := X.base) I.ok.mod.kin hk (thn (ha.run pos pins s σ H _ I h) ?_) he hpl
  rintro us s1 ⟨vs, H1, I1, r, q⟩
  exact ⟨I1.kIn, run_fnG F bare hr hb hd hx I1 r q⟩
end

/-- the law's call at the heap behind the top, H being what is tracked there: at most the script -/
theorem enterG {P : Program} {w : World} {K : PySem.W.Frag} {mg mb : Str → Option Value} {k : Nat} {fa a : Addr} {fd : FuncData} {x : Str} {sp : Sp}
    {s₁ : Shared} {vs : List Value} {ns : List Int} {H : Hp}
    (KX : K.In s₁.heap) (hns : s₁.heap.Ns mainGlobals mg) (hb : s₁.heap.Ns builtinsNs mb) (hbb : ∀ x : Str, x ≠ "__name__" → mb x = bootBuiltins x)
    (hlim : s₁.heap.NoLimit) (hg : s₁.gens = #[]) (ha : s₁.heap.get? a = some { cls := .type "list", data := .seq vs.toArray })
    (hr : Room k callerA) (F : ∀ base : Heap, K.In base → base.Ns mainGlobals mg → FnG P w K mg base CX0 k fa fd [x] sp)
    (hbind : ∀ (s : Shared) (u : Value), BindsTo s fd ⟨[u], []⟩ [(x, u)])
    (hO : Only H) (hok : HOk P w H s₁.heap) (hA : ∀ b, H b ≠ none → b = a) (hK : H a ≠ none → K.lookup a = none)
    (hsp : sp [.ref a] H (fun v _ => v = .bl true) fun _ _ _ => False) :
    codeAny (model P w) callerA (.call (.ref fa) ⟨[.ref a], []⟩)
      (fun r s' => r = .ok (.ret (.bool true)) ∧ OldK s₁.heap s'.heap ∧ s'.os = s₁.os ∧ AllBare s'.gens) s₁ := by
  have untr : ∀ {b : Addr}, (b = a → False) → H b = none := fun {b} hne => by
    cases q : H b with
    | none => rfl
    | some u => exact (hne (hA b (by rw [q]; exact Option.some_ne_none u))).elim
  have ns' : ∀ {b : Addr} {m : Str → Option Value}, s₁.heap.Ns b m → (hidT s₁.heap H).Ns b m := by
    rintro b m ⟨o, es, ep, e, d, r⟩
    refine ⟨o, es, ep, hidT_get e (untr fun z => ?_), d, r⟩
    subst z
    have e' := e.symm.trans ha
    cases e'
    cases d
  have inB : K.In (hidT s₁.heap H) := fun b o e => hidT_get (KX b o e) (by
    by_cases z : b = a
    · subst z
      cases q : H b with
      | none => rfl
      | some u =>
        have e2 := hK (by rw [q]; exact Option.some_ne_none u)
        exact nomatch e.symm.trans e2
    · exact untr z)
  have M : Mod K mg (hidT s₁.heap H) := by
    refine ⟨inB, ns' hns, ⟨mb, ns' hb, hbb⟩, ?_⟩
    obtain ⟨mc, h1, h2⟩ := hlim
    exact ⟨mc, ns' h1, h2⟩
  have env : Env0 P w K mg (hidT s₁.heap H) callerA [] s₁ H :=
    { frames := rfl, mod := M, bs := fun b o e => of_hidT e, bsz := Nat.le_of_eq (hidT_size _ _), funs := trivial,
      frf := (fun b z => nomatch (show b ∈ ([] : List Addr) from z)), hok := hok, bare := .of_eq hg }
  refine codeAny_mono ((F _ inB (ns' hns)).run callerA [] s₁ H ⟨[.ref a], []⟩ [.ref a] [.ref a] _ _ rfl hr env (hbind s₁ (.ref a)) (.cons rfl .nil) hsp) ?_
  intro r s' h
  match r, h with
  | .error e, h => exact False.elim h
  | .ok .next, h => exact False.elim h
  | .ok .brk, h => exact False.elim h
  | .ok .cont, h => exact False.elim h
  | .ok (.ret u), ⟨v, H', os, bare, un, hok', rv, hv⟩ =>
    have hv' : v = .bl true := hv
    subst hv'
    have hu : u = Value.bool true := rv
    subst hu
    refine ⟨rfl, OldK.of_keep ?_, os, bare⟩
    intro b o e
    cases q : H b with
    | none => exact un.keep b o e q (fun z => by cases z) (by simp)
    | some t =>
      obtain ⟨ob, xs, z⟩ := (hO b).resolve_left (by rw [q]; exact Option.some_ne_none t)
      have o1 : s₁.heap.get? b = some ob := (hok b _ z).left
      have o2 : s'.heap.get? b = some ob := (hok' b _ (un.frzs b ob _ z)).left
      rw [o2]
      exact o1.symm.trans e

theorem callG {P : Program} {w : World} {K : PySem.W.Frag} {mg mb : Str → Option Value} {k : Nat} {fa a : Addr} {fd : FuncData} {x : Str} {sp : Sp}
    {s₁ : Shared} {vs : List Value} {ns : List Int}
    (KX : K.In s₁.heap) (hns : s₁.heap.Ns mainGlobals mg) (hb : s₁.heap.Ns builtinsNs mb) (hbb : ∀ x : Str, x ≠ "__name__" → mb x = bootBuiltins x)
    (hlim : s₁.heap.NoLimit) (hg : s₁.gens = #[]) (ha : s₁.heap.get? a = some { cls := .type "list", data := .seq vs.toArray }) (hi : IntsAre vs ns)
    (hl : ns.length ≤ sizeLine) (hr : Room k callerA) (F : ∀ base : Heap, K.In base → base.Ns mainGlobals mg → FnG P w K mg base CX0 k fa fd [x] sp)
    (hbind : ∀ (s : Shared) (u : Value), BindsTo s fd ⟨[u], []⟩ [(x, u)])
    (hsp : ∀ H : Hp, Only H → SqL K H a (ns.map V.int) → sp [.ref a] H (fun v _ => v = .bl true) fun _ _ _ => False) :
    codeAny (model P w) callerA (.call (.ref fa) ⟨[.ref a], []⟩)
      (fun r s' => r = .ok (.ret (.bool true)) ∧ OldK s₁.heap s'.heap ∧ s'.os = s₁.os ∧ AllBare s'.gens) s₁ := by
  have rv := vals_ints hi
  have lv := hi.length
  by_cases hk : K.lookup a = none
  · let H0 : Hp := upd (fun _ => none) a (.frz { cls := .type "list", data := .seq vs.toArray } (.lst (ns.map V.int)))
    have h0 : ∀ b, b ≠ a → H0 b = none := fun b z => upd_ne z
    have h1 : H0 a = some (.frz { cls := .type "list", data := .seq vs.toArray } (.lst (ns.map V.int))) := upd_same
    have O : Only H0 := fun b => by
      by_cases z : b = a
      · rw [z]
        exact .inr ⟨_, _, h1⟩
      · exact .inl (h0 b z)
    refine enterG (ns := ns) KX hns hb hbb hlim hg ha hr F hbind O (fun b u z => ?_) (fun b z => ?_) (fun _ => hk) (hsp _ O (.inl (.inr ⟨_, h1⟩)))
    · by_cases hba : b = a
      · subst hba
        cases h1.symm.trans z
        exact ⟨ha, by rw [List.length_map]; exact hl, vs, _, rv, ha⟩
      · exact nomatch (h0 b hba).symm.trans z
    · by_cases hba : b = a
      · exact hba
      · exact (z (h0 b hba)).elim
  · obtain ⟨o, e⟩ := Option.ne_none_iff_exists'.mp hk
    have e2 := (KX a o e).symm.trans ha
    cases e2
    have O : Only (fun _ => none) := fun _ => .inl rfl
    refine enterG (ns := ns) KX hns hb hbb hlim hg ha hr F hbind O (fun b u z => nomatch z) (fun b z => (z rfl).elim) (fun z => (z rfl).elim) (hsp _ O (.inr ?_))
    exact ⟨_, vs.toArray, _, e, rfl, rfl, rfl, by rw [List.size_toArray, lv]; exact hl, by simpa using rv⟩

theorem walkG {l : PySem.W.OpenLaw} {n k : Nat} {q : Program} {loose : List Str} {XP : (Str → Option Value) → Heap → Prop} {YP : World → Heap → Prop} {d : DefRec}
    {K : Params → PySem.W.Frag} {sp : World → Sp} {x : Str} (hn : l.most = some n) (hn2 : n ≤ sizeLine) (hdf : d.params.defaults = []) (hr : Room k callerA)
    (hY : ∀ (w : World) (h : Heap), YP w h → (K w.params).In h)
    (F : ∀ (w : World) (mg : Str → Option Value) (fa : Addr) (h : Heap), (K w.params).In h → h.Ns mainGlobals mg → mg d.name = some (.ref fa) →
      ∃ fd : FuncData, (∀ (s : Shared) (u : Value), BindsTo s fd ⟨[u], []⟩ [(x, u)]) ∧
        ∀ base : Heap, (K w.params).In base → base.Ns mainGlobals mg → FnG l.prog w (K w.params) mg base CX0 k fa fd [x] (sp w))
    (hsp : ∀ (w : World) (H : Hp) (a : Addr) (ns : List Int), ns.length ≤ n → Only H → SqL (K w.params) H a (ns.map V.int) →
      sp w [.ref a] H (fun v _ => v = .bl true) fun _ _ _ => False) :
    PySem.W.WalkO q loose XP YP l.row.toRowW d [] (fun f vs => PySem.call f vs) := by
  refine Att.attach_call hn hdf ?_
  intro w s₀ s₁ mg mb fa o pm cd doc a vs ns G Y ho hd hcd hmg hobj hints hlen hg
  have inK := hY w _ Y
  obtain ⟨fd, hb, hF⟩ := F w mg fa _ inK G.T.g hmg
  exact callG inK G.T.g G.T.b G.T.builtins G.T.nolimit hg hobj hints (Nat.le_trans hlen hn2) hr hF hb fun H hO hS => hsp w H a ns hlen hO hS
end MG

/-! Further rules: operators of own classes, repr of data, // of any sign -/
namespace MG
open PySem PySem.Spec PyProof.Rows L2

section
variable {X : Cx}
/-- // by any divisor but 0 -/
theorem op_fdivZ : OpR X (binaryOp .FloorDiv) (rI (fun _ j => j ≠ 0 ∧ j.natAbs.log2 < 9000) fun i j => .int (i.fdiv j)) :=
  opI fun _ _ _ _ _ _ _ hc q => floordiv_int hc.1 q (.inl (PyProof.noPylong_of_log2 hc.2))

theorem rel_ni {v : V} (r : RelV v Value.notImplemented) : False := by
  cases v with
  | non => cases (show Value.notImplemented = Value.none from r)
  | bl b => cases (show Value.notImplemented = Value.bool b from r)
  | int i => obtain ⟨_, q⟩ := (show ∃ t, Value.notImplemented = Value.int i t from r); cases q
  | str i => obtain ⟨_, q⟩ := (show ∃ t, Value.notImplemented = Value.str i t from r); cases q
  | byt i => obtain ⟨_, q⟩ := (show ∃ t, Value.notImplemented = Value.bytes i t from r); cases q
  | flt i => obtain ⟨_, q⟩ := (show ∃ t, Value.notImplemented = Value.float i t from r); cases q
  | ref i => cases (show Value.notImplemented = Value.ref i from r)
  | ty i => cases (show Value.notImplemented = Value.type i from r)
theorem back_of {Q : Value → Shared → Prop} {v : V} {u : Value} {s : Shared} (r : RelV v u) (q : Q u s) : PySem.W.CmpBack Q u s := by
  cases u <;> first | exact q | exact (rel_ni r).elim

/-- what the top says of an operator's method of an own class -/
structure OpAt (K : PySem.W.Frag) (C : Addr) (op : Operator) (f : Addr) : Prop where
  first : PySem.W.selfFirst K C = true
  at_ : PySem.W.findIn K (.ref C) (PySem.dunder op.info.2) = some (some (.ref f))
  fn : PySem.W.isFn K (.ref f) = true
  ref : PySem.W.findIn K (.ref C) (dunderR op.info.2) = some none
structure OpInt (K : PySem.W.Frag) (C : Addr) (op : Operator) : Prop where
  to : ∃ fo, PySem.W.findIn K (.type "int") (PySem.dunder op.info.2) = some fo
  ro : ∃ ro, PySem.W.findIn K (.type "int") (dunderR op.info.2) = some ro
  sub : PySem.W.subIn K (.type "int") (.ref C) = some false

/-- x op y, x of the class at C, y of it too or an int -/
def rOwn (C : Addr) (sp : Sp) (E : XK) : R2 := fun x y H Q => ∃ a dx fs, x = .ref a ∧ H a = some (.ins C dx fs) ∧
  ((∃ b dy gs, y = .ref b ∧ H b = some (.ins C dy gs)) ∨ ∃ i, y = .int i) ∧ sp [x, y] H Q E
theorem op_own {CX : CXT} {k : Nat} {C f : Addr} {op : Operator} {fd : FuncData} {ps : List Str} {sp : Sp} {E : XK}
    (o : OpAt X.K C op f) (oi : OpInt X.K C op) (F : FnOk X.prog X.w X.K X.mg X.base CX k f fd ps sp) (hr : Room k X.A)
    (hb : Binds X.K fd ps []) (hx : Passes CX X E) : OpR X (binaryOp op) (rOwn C sp E) := by
  intro pins s σ H x y v u Q I rx ry h
  obtain ⟨a, dx, fs, rfl, ha, hy, hsp⟩ := h
  cases rx
  obtain ⟨mA, J, _⟩ := ins_get I.hok ha
  obtain ⟨od, J, _⟩ := J.look
  obtain ⟨m, hF⟩ := I.fr
  have call1 : wpAny (model X.prog X.w) X.A (call (.ref f) [.ref a, u]) (PySem.W.CmpBack (EP X pins σ Q)) X.xe s :=
    wpAny_mono (run_fn (vs := [.ref a, y]) F hr hb .nil hx I (.cons rfl (.cons ry .nil)) (by rw [List.append_nil]; exact hsp))
      (fun _ _ hq => match hq with | ⟨_, _, _, r, _⟩ => back_of r hq) fun _ _ e => e
  rcases hy with ⟨b, dy, gs, rfl, hb'⟩ | ⟨i, rfl⟩
  · cases ry
    obtain ⟨mB, J', _⟩ := ins_get I.hok hb'
    obtain ⟨od', J', _⟩ := J'.look
    exact PySem.W.binop_K hF I.ok.mod.kin J J'.type o.first o.at_ o.fn call1
  · obtain ⟨t, rfl⟩ := ry
    obtain ⟨fo, h1⟩ := oi.to
    obtain ⟨ro, h2⟩ := oi.ro
    exact PySem.W.ksp_binT hF I.ok.mod.kin J (T := "int") rfl o.first o.at_ o.fn o.ref (.inl rfl) h1 h2 oi.sub call1

/-- -x of an own class -/
def rNegO (C : Addr) (sp : Sp) (E : XK) : V → Hp → VK → Prop := fun x H Q => ∃ a dx fs, x = .ref a ∧ H a = some (.ins C dx fs) ∧ sp [x] H Q E
theorem un_negO {CX : CXT} {k : Nat} {C f : Addr} {fd : FuncData} {ps : List Str} {sp : Sp} {E : XK}
    (at_ : PySem.W.findIn X.K (.ref C) "__neg__" = some (some (.ref f))) (fn : PySem.W.isFn X.K (.ref f) = true)
    (F : FnOk X.prog X.w X.K X.mg X.base CX k f fd ps sp) (hr : Room k X.A) (hb : Binds X.K fd ps []) (hx : Passes CX X E) :
    UnR X (unaryOp .USub) (rNegO C sp E) := by
  intro pins s σ H x v Q I rx h
  obtain ⟨a, dx, fs, rfl, ha, hsp⟩ := h
  cases rx
  obtain ⟨mA, J, _⟩ := ins_get I.hok ha
  obtain ⟨od, J, _⟩ := J.look
  obtain ⟨m, hF⟩ := I.fr
  exact PySem.W.ksp_neg hF I.ok.mod.kin J at_ fn (run_fn (vs := [.ref a]) F hr hb .nil hx I (.cons rfl .nil) (by rw [List.append_nil]; exact hsp))

/-- x == y, x of the class at C with its own ==, y of it too -/
def rEqO (C : Addr) (sp : Sp) (E : XK) : R2 := fun x y H Q => ∃ a dx fs b dy gs, x = .ref a ∧ H a = some (.ins C dx fs) ∧ y = .ref b ∧ H b = some (.ins C dy gs) ∧ sp [x, y] H Q E
theorem op_eqO {CX : CXT} {k : Nat} {C f : Addr} {fd : FuncData} {ps : List Str} {sp : Sp} {E : XK}
    (at_ : PySem.W.findIn X.K (.ref C) "__eq__" = some (some (.ref f))) (fn : PySem.W.isFn X.K (.ref f) = true)
    (F : FnOk X.prog X.w X.K X.mg X.base CX k f fd ps sp) (hr : Room k X.A) (hb : Binds X.K fd ps []) (hx : Passes CX X E) :
    OpR X (compareOp .Eq) (rEqO C sp E) := by
  intro pins s σ H x y v u Q I rx ry h
  obtain ⟨a, dx, fs, b, dy, gs, rfl, ha, rfl, hb', hsp⟩ := h
  cases rx
  cases ry
  obtain ⟨mA, J, _⟩ := ins_get I.hok ha
  obtain ⟨od, J, _⟩ := J.look
  obtain ⟨mB, J', _⟩ := ins_get I.hok hb'
  obtain ⟨od', J', _⟩ := J'.look
  obtain ⟨m, hF⟩ := I.fr
  refine PySem.W.cmp_K (op := .Eq) (tb := .ref C) hr.units0 hF I.ok.mod.kin J J'.type (by simp [PySem.W.notFirst]) at_ fn ?_
  exact wpAny_mono (run_fn (vs := [.ref a, .ref b]) F hr hb .nil hx I (.cons rfl (.cons rfl .nil)) (by rw [List.append_nil]; exact hsp))
    (fun _ _ hq => match hq with | ⟨_, _, _, r, _⟩ => back_of r hq) fun _ _ e => e
end
end MG

namespace MG
open PySem PySem.Spec PyProof.Rows L2 PySem.Calls

section
variable {prog : Program} {w : World} {A : Around} {E : Value → Shared → Prop} {s : Shared} {K : PySem.W.Frag} {x y C L f : Addr} {h₀ : Heap} {m : Str → Option Value} {ox oy : Obj} {od oe : Option Obj}

theorem objNe_run (X : K.In s.heap) (I : PySem.W.InstAt s.heap x ox C od) (hs : PySem.W.findIn K (.ref C) "__eq__" = some (some (.ref f))) (hf : PySem.W.isFn K (.ref f) = true)
    (hu : A.units < cLine) {Q : Fin → Shared → Prop}
    (hcall : wpAny (model prog w) A (call (.ref f) [.ref x, .ref y]) (fun v s' => ∃ b, v = .bool b ∧ Q (.done (.ret (.bool (!b)))) s') E s) :
    wpAny (model prog w) A (Builtin.«object.__ne__» ⟨[.ref x, .ref y], []⟩) Q E s := by
  unfold Builtin.«object.__ne__»
  repeat (first
    | with_reducible refine wpAny_cRoomFor hu ?_
    | (refine wpAny_bind (m := callSpecialIfBound? (.ref x) (Str.ofString "__eq__") [.ref y])
        (PySem.W.ifBound_K X I hs hf (wpAny_mono hcall (fun r s' hr => ?_) fun _ _ e => e)))
    | wp_step)
  obtain ⟨b, rfl, hq⟩ := hr
  repeat (first | exact hq | exact wpAny_pure hq | exact wpAny_truthy_bool hq | (refine wpAny_bind (m := truthy (.bool _)) (wpAny_truthy_bool ?_)) | wp_step)

theorem ifBound_ne (X : K.In s.heap) (I : PySem.W.InstAt s.heap x ox C od) (hn : PySem.W.findIn K (.ref C) "__ne__" = some (some (.builtin "object.__ne__")))
    {args : List Value} {Q : Option Value → Shared → Prop}
    (h : wpAny (model prog w) A (call (.builtin "object.__ne__") (.ref x :: args)) (fun v => Q (some v)) E s) :
    wpAny (model prog w) A (callSpecialIfBound? (.ref x) "__ne__" args) Q E s := by
  have S : Slot "object" "__ne__" "object.__ne__" := PySem.F.cmp_object.ne
  have hb := S.bind
  simp only [callSpecialIfBound?, bindSpecialIfBound?]
  refine wpAny_holding (wpAny_bind (wpAny_bind (wpAny_bind (I.type.here ((PySem.W.looks_findIn X hn).here ?_)))))
  simp only [hb]
  refine wpAny_bind (wpAny_askSetting (wpAny_ite ?_))
  have fin : wpAny (model prog w) A (call (.builtin "object.__ne__") ([.ref x] ++ args) >>= fun v => pure (some v)) Q E s :=
    wpAny_bind (wpAny_mono h (fun v s' h' => wpAny_pure h') fun _ _ h' => h')
  split
  · exact wpAny_bind (wpAny_pure (wpAny_pure fin))
  · exact wpAny_tryCatch (wpAny_bind (wpAny_pure (wpAny_pure fin)))

theorem ne_K (X : K.In s.heap) (I : PySem.W.InstAt s.heap x ox C od) (I' : PySem.W.InstAt s.heap y oy C oe)
    (hn : PySem.W.findIn K (.ref C) "__ne__" = some (some (.builtin "object.__ne__"))) (hs : PySem.W.findIn K (.ref C) "__eq__" = some (some (.ref f)))
    (hf : PySem.W.isFn K (.ref f) = true) (ho : PySem.W.subIn K (.ref C) (.type "object") = some true) (hu : A.units + 1 < cLine) {Q : Value → Shared → Prop}
    (hcall : wpAny (model prog w) A.in1 (call (.ref f) [.ref x, .ref y]) (fun v s' => ∃ b, v = .bool b ∧ Q (.bool (!b)) s') E s) :
    wpAny (model prog w) A (richCompare .NotEq (.ref x) (.ref y)) Q E s := by
  have sub : PySem.W.Looks (model prog w) s.heap (isInstance (.ref x) (.type "object")) true := I.type.andThen (PySem.W.looks_subIn X ho)
  have one : wpAny (model prog w) A (tryCompare (.ref x) "__ne__" (.ref y)) (fun r s' => ∃ v, r = some v ∧ Q v s') E s := by
    simp only [tryCompare]
    refine wpAny_bind (ifBound_ne X I hn (wpAny_call (codeAny_call_builtin PySem.F.cmp_object.ne.plain PySem.F.cmpEntry_ne
      (PySem.W.check_slot PySem.F.cmpKind_ne PySem.F.cmpSplit_ne sub (PySem.F.cmpArgs_ne _ _) ?_))))
    refine objNe_run (A := A.in1) X I hs hf hu (wpAny_mono hcall (fun v s' hv => ?_) fun _ _ e => e)
    obtain ⟨b, rfl, hq⟩ := hv
    first | exact ⟨b, rfl, wpAny_pure ⟨_, rfl, hq⟩⟩ | exact ⟨b, rfl, wpAny_pure (wpAny_pure ⟨_, rfl, hq⟩)⟩ | exact ⟨b, rfl, _, rfl, hq⟩
  unfold richCompare
  simp only [oneThing_ref]
  refine wpAny_holding (wpAny_bind (wpAny_cRoomFor (Nat.lt_of_succ_lt hu) ?_))
  refine wpAny_bind (I.type.here (wpAny_bind (I'.type.here ?_)))
  rw [show (Value.ref C != Value.ref C) = false from by simp]
  simp only [Bool.false_eq_true, if_false]
  refine wpAny_bind (wpAny_pure ?_)
  simp only [Bool.false_eq_true, if_false]
  refine wpAny_bind (wpAny_mono one (fun v s' hv => ?_) fun _ _ e => e)
  obtain ⟨b, rfl, hq⟩ := hv
  exact wpAny_pure hq
end

section
variable {X : Cx}
structure NeAt (K : PySem.W.Frag) (C f : Addr) : Prop where
  ne : PySem.W.findIn K (.ref C) "__ne__" = some (some (.builtin "object.__ne__"))
  eq : PySem.W.findIn K (.ref C) "__eq__" = some (some (.ref f))
  fn : PySem.W.isFn K (.ref f) = true
  sub : PySem.W.subIn K (.ref C) (.type "object") = some true
def rNeO (C : Addr) (sp : Sp) (E : XK) : R2 := fun x y H Q => ∃ a dx fs b dy gs, x = .ref a ∧ H a = some (.ins C dx fs) ∧ y = .ref b ∧ H b = some (.ins C dy gs) ∧
  sp [x, y] H (fun v H' => ∃ c, v = .bl c ∧ Q (.bl (!c)) H') E
theorem op_neO {CX : CXT} {k : Nat} {C f : Addr} {fd : FuncData} {ps : List Str} {sp : Sp} {E : XK} (n : NeAt X.K C f)
    (F : FnOk X.prog X.w X.K X.mg X.base CX k f fd ps sp) (hr : Room (k + 1) X.A) (hb : Binds X.K fd ps []) (hx : Passes CX X E) :
    OpR X (compareOp .NotEq) (rNeO C sp E) := by
  intro pins s σ H x y v u Q I rx ry h
  obtain ⟨a, dx, fs, b, dy, gs, rfl, ha, rfl, hb', hsp⟩ := h
  cases rx
  cases ry
  obtain ⟨mA, J, _⟩ := ins_get I.hok ha
  obtain ⟨od, J, _⟩ := J.look
  obtain ⟨mB, J', _⟩ := ins_get I.hok hb'
  obtain ⟨od', J', _⟩ := J'.look
  refine ne_K I.kIn J J' n.ne n.eq n.fn n.sub (Nat.lt_trans (by omega) hr.un) ?_
  have hl := F.len _ _ _ _ hsp
  refine wpAny_call (codeAny_mono (F.run X.A.in1 X.stack s H ⟨[.ref a, .ref b], []⟩ [.ref a, .ref b] [.ref a, .ref b] _ E hr.in1 I.env0.in1 (by
    have := hb s [.ref a, .ref b] I.kIn (by simpa using hl)
    simpa using this) (.cons rfl (.cons rfl .nil)) hsp) fun r s' hq => ?_)
  match r, hq with
  | .error e, hq => exact hx pins σ H s e s' I hq
  | .ok (.ret z), hq =>
    obtain ⟨v, H', I', rv, c, rfl, q⟩ := I.after hq
    cases rv
    exact ⟨c, rfl, .bl (!c), H', I', rfl, q⟩
  | .ok .next, hq => exact False.elim hq
  | .ok .brk, hq => exact False.elim hq
  | .ok .cont, hq => exact False.elim hq

/-- repr(x) of data: None, bools, ints, texts, lists, tuples -/
def rRepr (K : PySem.W.Frag) : List V → Hp → VK → Prop := fun xs H Q => ∃ x d, xs = [x] ∧ Dp K H x d ∧ d.showable = true ∧ d.hasDict = false ∧ d.depth ≤ 60 ∧ d.shown.length ≤ sizeLine ∧ Q (.str d.shown) H
theorem call_reprD (bare : Bare X.A) (hu : X.A.units + 64 < cLine) : CallR X (.builtin "repr") (rRepr X.K) := by
  intro pins s σ H xs us Q I r h
  obtain ⟨x, d, rfl, hd, hs, hdict, hdep, hz, q⟩ := h
  cases r with
  | cons rx rn =>
    cases rn
    rename_i u
    obtain ⟨as, R⟩ := Dp.reads I d x u hd rx
    have leaf : ∀ (k : Nat), EP X pins σ Q (.str d.shown k) { s with toks := s.toks + 1 } := fun k => ⟨.str _, H, I.tok _, ⟨_, rfl⟩, q⟩
    cases R with
    | none => exact PySem.P.repr_of_none (leaf _)
    | bool b => exact PySem.P.repr_of_bool (leaf _)
    | int i t => exact PySem.P.repr_of_int (by simpa [PyData.showable] using hs) (leaf _)
    | str z t => exact PySem.P.repr_of_str (leaf _) hz
    | list h1 h2 h3 h4 => exact repr_of_reads' (.list h1 h2 h3 h4) hs (fun z => by rw [hdict] at z; cases z) bare (by omega) (fun _ _ e => e) (fun h' u tk k => ⟨.str _, H, I.kept k, ⟨_, rfl⟩, q⟩) hz
    | tuple h1 h2 h3 h4 => exact repr_of_reads' (.tuple h1 h2 h3 h4) hs (fun z => by rw [hdict] at z; cases z) bare (by omega) (fun _ _ e => e) (fun h' u tk k => ⟨.str _, H, I.kept k, ⟨_, rfl⟩, q⟩) hz
    | dict h1 h2 h3 h4 h5 => exact absurd hd nofun
end
end MG

/-! Defs as callers know them -/
namespace MG
open PySem PySem.Spec PyProof.Rows L2

/-- a def of the module that lets nothing out, as callers know it -/
structure CalG (P : Program) (w : World) (K : PySem.W.Frag) (mg : Str → Option Value) (base : Heap) (k : Nat) (x : Str) (sp : Sp) (dvs : List V) : Prop where
  ex : ∃ (f : Addr) (fd : FuncData) (ps : List Str) (ds : List Value), FnG P w K mg base CX0 k f fd ps sp ∧ mg x = some (.ref f) ∧ PySem.W.keepIn K (.ref f) = true ∧ Binds K fd ps ds ∧ Vals dvs ds
theorem pe_cg {X : Cx} {k j : Nat} {x : Str} {sp : Sp} {dvs : List V} {p pos : Pos} {e : Expr} {es : List Expr} {t : TA}
    (c : CalG X.prog X.w X.K X.mg X.base k x sp dvs) (bare : Bare X.A) (hr : Room j X.A) (hk : k ≤ j) (hg : Gl X x) (ha : PA X (e :: es) t)
    (hdb : (x == ("__debug__" : Str)) = false := by decide)
    (he : starEach (e :: es) X.env = (false, eval e X.env) :: starEach es X.env := by rfl)
    (hpl : (backTo pos (starEach es X.env)).any (·.1) = false := by rfl) : PE X (.Call (.Name x p) (e :: es) [] pos) (tCall sp dvs E0 t) := by
  obtain ⟨f, fd, ps, ds, F, hm, kp, b, d⟩ := c.ex
  exact pe_callG F bare (hr.mono hk) hg hm kp b d pass0 ha hdb he hpl

section
variable {P : Program} {w : World} {K : PySem.W.Frag} {mg : Str → Option Value} {base : Heap}
/-- its body, as a term of rules, and the reading of that term -/
theorem fun_okG {x qual : Str} {st : Stmt} {f : Addr} {fd : FuncData} {N ps : List Str} {k : Nat} {sp : Sp} (F : Fun K x qual st f fd) (S : FnScope N ps (defScope st)) (len : ∀ vs H Q E, sp vs H Q E → vs.length = ps.length)
    (hbody : ∀ (cdv : Value) (A : Around) (outer : List Env) (s : Shared) (H : Hp) (vs : List V) (Q : VK) (E : XK), Bare (A.deeper (envOfC qual (defScope st) s.heap.objs.size f cdv)) →
      Room k (A.deeper (envOfC qual (defScope st) s.heap.objs.size f cdv)) → sp vs H Q E →
      ∃ t, PSs (cxOf CX0 P w K mg base N qual (defScope st) f cdv A outer s H E).nox (defBody st) t ∧ t { nx := fun _ H' => Q .non H', rt := Q } (start N vs) H) : FnG P w K mg base CX0 (k + 1) f fd ps sp := by
  obtain ⟨oc, od, kV, doc, pm, an, cdv, ct, osl, rfl, lk, hcd⟩ := F.ex
  refine fnG_of lk hcd S len ?_
  intro A outer s H vs Q E bare hr hsp
  obtain ⟨t, h, q⟩ := hbody cdv A outer s H vs Q E bare hr hsp
  exact ⟨t, h.nox, q⟩
theorem calG_of {x qual : Str} {st : Stmt} {f : Addr} {fd : FuncData} {N ps : List Str} {k : Nat} {sp : Sp} (F : Fun K x qual st f fd) (hm : mg x = some (.ref f)) (b : Binds K fd ps []) (S : FnScope N ps (defScope st)) (len : ∀ vs H Q E, sp vs H Q E → vs.length = ps.length)
    (hbody : ∀ (cdv : Value) (A : Around) (outer : List Env) (s : Shared) (H : Hp) (vs : List V) (Q : VK) (E : XK), Bare (A.deeper (envOfC qual (defScope st) s.heap.objs.size f cdv)) →
      Room k (A.deeper (envOfC qual (defScope st) s.heap.objs.size f cdv)) → sp vs H Q E →
      ∃ t, PSs (cxOf CX0 P w K mg base N qual (defScope st) f cdv A outer s H E).nox (defBody st) t ∧ t { nx := fun _ H' => Q .non H', rt := Q } (start N vs) H) : CalG P w K mg base (k + 1) x sp [] :=
  ⟨f, fd, ps, [], fun_okG F S len hbody, hm, F.kp, b, .nil⟩
end

/-- the same where nothing need be known of what runs around -/
structure CalF (P : Program) (w : World) (K : PySem.W.Frag) (mg : Str → Option Value) (base : Heap) (k : Nat) (x : Str) (sp : Sp) (dvs : List V) : Prop where
  ex : ∃ (f : Addr) (fd : FuncData) (ps : List Str) (ds : List Value), FnOk P w K mg base CX0 k f fd ps sp ∧ mg x = some (.ref f) ∧ PySem.W.keepIn K (.ref f) = true ∧ Binds K fd ps ds ∧ Vals dvs ds
theorem pe_cf {X : Cx} {k j : Nat} {x : Str} {sp : Sp} {dvs : List V} {p pos : Pos} {e : Expr} {es : List Expr} {t : TA}
    (c : CalF X.prog X.w X.K X.mg X.base k x sp dvs) (hr : Room j X.A) (hk : k ≤ j) (hg : Gl X x) (ha : PA X (e :: es) t)
    (hdb : (x == ("__debug__" : Str)) = false := by decide)
    (he : starEach (e :: es) X.env = (false, eval e X.env) :: starEach es X.env := by rfl)
    (hpl : (backTo pos (starEach es X.env)).any (·.1) = false := by rfl) : PE X (.Call (.Name x p) (e :: es) [] pos) (tCall sp dvs E0 t) := by
  obtain ⟨f, fd, ps, ds, F, hm, kp, b, d⟩ := c.ex
  exact pe_call F (hr.mono hk) hg hm kp b d pass0 ha hdb he hpl
/-- a class that may be made by its name; sp: its __init__ -/
structure MakF (P : Program) (w : World) (K : PySem.W.Frag) (mg : Str → Option Value) (base : Heap) (k : Nat) (x : Str) (C : Addr) (sp : Sp) (dvs : List V) : Prop where
  ex : ∃ (f : Addr) (fd : FuncData) (ps : List Str) (ds : List Value), Mk K C f ∧ FnOk P w K mg base CX0 k f fd ps sp ∧ mg x = some (.ref C) ∧ Binds K fd ps ds ∧ Vals dvs ds
theorem pe_mkf {X : Cx} {k j : Nat} {x : Str} {C : Addr} {sp : Sp} {dvs : List V} {p pos : Pos} {e : Expr} {es : List Expr} {t : TA}
    (c : MakF X.prog X.w X.K X.mg X.base k x C sp dvs) (hr : Room j X.A) (hk : k + 1 ≤ j) (hg : Gl X x) (ha : PA X (e :: es) t)
    (hdb : (x == ("__debug__" : Str)) = false := by decide)
    (he : starEach (e :: es) X.env = (false, eval e X.env) :: starEach es X.env := by rfl)
    (hpl : (backTo pos (starEach es X.env)).any (·.1) = false := by rfl) : PE X (.Call (.Name x p) (e :: es) [] pos) (tMake C sp dvs E0 t) := by
  obtain ⟨f, fd, ps, ds, M, F, hm, b, d⟩ := c.ex
  exact pe_make M F (hr.mono hk) hg hm b d pass0 ha hdb he hpl
/-- one value by place, one by name -/
def one1 {α : Type} : List α → List α → List α
  | [a], [b] => [a, b]
  | _, _ => []
/-- o.m(k = v, ..) -/
def tMethK (C : Addr) (m : Str) (sp : Sp) (gV : List V → List V → List V) (E : XK) (ta : TE) (tk : TA) : TE := fun σ H Q => ta σ H fun x H1 =>
  ∃ a dx fs, x = .ref a ∧ H1 a = some (.ins C dx fs) ∧ fs.lookup m = none ∧ tk σ H1 fun zs H2 => sp (gV [x] zs) H2 Q E
theorem pe_methK0 {X : Cx} {CX : CXT} {k : Nat} {f C : Addr} {fd : FuncData} {ps ks : List Str} {sp : Sp} {E : XK} {m : Str} {pos apos : Pos} {o : Expr} {kws : List Keyword} {ta : TE} {tk : TA}
    {g : List Value → List Value → List Value} {gV : List V → List V → List V} {pl : Sem Bool}
    (he : PE X o ta) (c : Cls X.K C) (hm : Meth X.K C m f) (F : FnOk X.prog X.w X.K X.mg X.base CX k f fd ps sp) (hr : Room k X.A) (hb : KBinds X.K fd ps ks g gV) (hx : Passes CX X E) (hkw : PK X kws tk)
    (hall : (backToKw pos (keywordEach kws X.env)).all (·.1.isSome) = true := by rfl) (hks : (backToKw pos (keywordEach kws X.env)).filterMap (·.1) = ks := by rfl)
    (hpl : ((backTo pos (starEach [] X.env)).any (·.1) || (backToKw pos (keywordEach kws X.env)).any (·.1.isNone)) = false := by rfl)
    (ht : eval (.Call (.Attribute o m apos) [] kws pos) X.env = (do
      let ov ← eval o X.env
      standAt apos.atName
      let (f, first) ← holding [ov] (getMethod ov m pl)
      callWith pos f first (backTo pos (starEach [] X.env)) (backToKw pos (keywordEach kws X.env))) := by rfl) :
    PE X (.Call (.Attribute o m apos) [] kws pos) (tMethK C m sp gV E ta tk) := by
  constructor
  intro pins s σ H Q I h
  refine PySem.W.methodCall_KW (pl := pl) (thn (he.run pins s σ H _ I h) ?_) ht
  rintro u s1 ⟨x, H1, I1, rx, a, dx, fs, ex, ea, l, q⟩
  subst ex
  have eu : u = Value.ref a := rx
  subst eu
  refine getmeth_ok I1 ea c hm l ?_
  refine PySem.W.callWith_KW0 (h₀ := X.base) I.ok.mod.kin hm.kp hall (thn (hkw.run pos pins s1 σ H1 _ I1 q) ?_) hpl
  rintro ws s2 ⟨zs, H2, I2, rz, q2⟩
  refine ⟨I2.kIn, ?_⟩
  rw [hks]
  exact run_fnk (us := [.ref a]) (vs := [.ref a]) F hr hb hx I2 (.cons rfl .nil) rz q2

/-! ### operators, properties and methods of a class, as callers know them -/
section
variable (P : Program) (w : World) (K : PySem.W.Frag) (mg : Str → Option Value) (base : Heap) (k : Nat) (C : Addr)
structure OpF (op : Operator) (sp : Sp) : Prop where
  ex : ∃ (f : Addr) (fd : FuncData) (ps : List Str), OpAt K C op f ∧ OpInt K C op ∧ FnOk P w K mg base CX0 k f fd ps sp ∧ Binds K fd ps []
structure NegF (sp : Sp) : Prop where
  ex : ∃ (f : Addr) (fd : FuncData) (ps : List Str), PySem.W.findIn K (.ref C) "__neg__" = some (some (.ref f)) ∧ PySem.W.isFn K (.ref f) = true ∧ FnOk P w K mg base CX0 k f fd ps sp ∧ Binds K fd ps []
structure EqF (sp : Sp) : Prop where
  ex : ∃ (f : Addr) (fd : FuncData) (ps : List Str), NeAt K C f ∧ FnOk P w K mg base CX0 k f fd ps sp ∧ Binds K fd ps []
structure PropF (x : Str) (sp : Sp) : Prop where
  ex : ∃ (p g : Addr) (fd : FuncData) (ps : List Str), PropOf K C x p g ∧ FnOk P w K mg base CX0 k g fd ps sp ∧ Binds K fd ps []
structure MetF (m : Str) (sp : Sp) (dvs : List V) : Prop where
  ex : ∃ (f : Addr) (fd : FuncData) (ps : List Str) (ds : List Value), Meth K C m f ∧ FnOk P w K mg base CX0 k f fd ps sp ∧ Binds K fd ps ds ∧ Vals dvs ds
structure MetK (m : Str) (sp : Sp) (ks : List Str) (gV : List V → List V → List V) : Prop where
  ex : ∃ (f : Addr) (fd : FuncData) (ps : List Str) (g : List Value → List Value → List Value), Meth K C m f ∧ FnOk P w K mg base CX0 k f fd ps sp ∧ KBinds K fd ps ks g gV
end
section
variable {X : Cx} {k j : Nat} {C : Addr} {sp : Sp} {op : Operator}
theorem op_f (o : OpF X.prog X.w X.K X.mg X.base k C op sp) (hr : Room j X.A) (hk : k ≤ j) : OpR X (binaryOp op) (rOwn C sp E0) := by
  obtain ⟨f, fd, ps, a, i, F, b⟩ := o.ex
  exact op_own a i F (hr.mono hk) b pass0
theorem un_f (o : NegF X.prog X.w X.K X.mg X.base k C sp) (hr : Room j X.A) (hk : k ≤ j) : UnR X (unaryOp .USub) (rNegO C sp E0) := by
  obtain ⟨f, fd, ps, a, i, F, b⟩ := o.ex
  exact un_negO a i F (hr.mono hk) b pass0
theorem eq_f (o : EqF X.prog X.w X.K X.mg X.base k C sp) (hr : Room j X.A) (hk : k ≤ j) : OpR X (compareOp .Eq) (rEqO C sp E0) := by
  obtain ⟨f, fd, ps, n, F, b⟩ := o.ex
  exact op_eqO n.eq n.fn F (hr.mono hk) b pass0
theorem ne_f (o : EqF X.prog X.w X.K X.mg X.base k C sp) (hr : Room j X.A) (hk : k + 1 ≤ j) : OpR X (compareOp .NotEq) (rNeO C sp E0) := by
  obtain ⟨f, fd, ps, n, F, b⟩ := o.ex
  exact op_neO n F (hr.mono hk) b pass0
theorem pe_pf {x : Str} {e : Expr} {pos : Pos} {ta : TE} (o : PropF X.prog X.w X.K X.mg X.base k C x sp) (c : Cls X.K C) (hr : Room j X.A) (hk : k + 1 ≤ j) (he : PE X e ta)
    (hab : attributeBase e x X.env (eval e X.env) = eval e X.env) : PE X (.Attribute e x pos) (tProp C sp [] E0 ta) := by
  obtain ⟨p, g, fd, ps, hp, F, b⟩ := o.ex
  exact pe_prop he c hp F (hr.mono hk) b .nil pass0 hab
theorem pe_mf {m : Str} {pos apos : Pos} {o : Expr} {e : Expr} {es : List Expr} {dvs : List V} {ta : TE} {t : TA} {pl : Sem Bool} (c : MetF X.prog X.w X.K X.mg X.base k C m sp dvs) (cl : Cls X.K C) (hr : Room j X.A) (hk : k ≤ j) (he : PE X o ta) (ha : PA X (e :: es) t)
    (hst : starEach (e :: es) X.env = (false, eval e X.env) :: starEach es X.env := by rfl) (hpl : (backTo pos (starEach es X.env)).any (·.1) = false := by rfl)
    (ht : eval (.Call (.Attribute o m apos) (e :: es) [] pos) X.env = (do
      let ov ← eval o X.env
      standAt apos.atName
      let (f, first) ← holding [ov] (getMethod ov m pl)
      callWith pos f first (backTo pos (starEach (e :: es) X.env)) (backToKw pos (keywordEach [] X.env))) := by rfl) :
    PE X (.Call (.Attribute o m apos) (e :: es) [] pos) (tMeth C m sp dvs E0 ta t) := by
  obtain ⟨f, fd, ps, ds, M, F, b, d⟩ := c.ex
  exact pe_meth (pl := pl) he cl M F (hr.mono hk) b d pass0 ha hst hpl ht
end
/-! ### joining the ways -/
/-- what holds of the value is said once for all ways -/
def tCut (te : TE) : TE := fun σ H Q => ∃ C : VK, te σ H C ∧ ∀ v H', C v H' → Q v H'
theorem pe_cut {X : Cx} {e : Expr} {te : TE} (h : PE X e te) : PE X e (tCut te) := by
  constructor
  rintro pins s σ H Q I ⟨C, h1, h2⟩
  refine wpAny_mono (h.run pins s σ H C I h1) ?_ fun _ _ z => z
  rintro u s' ⟨v, H', J, r, q⟩
  exact ⟨v, H', J, r, h2 v H' q⟩
/-- what holds behind a statement is said once for all ways -/
def tCutS (ts : TS) : TS := fun D σ H => ∃ C : L2.St → Hp → Prop, ts { D with nx := C } σ H ∧ ∀ σ' H', C σ' H' → D.nx σ' H'
theorem ps_cut {X : Cx} {st : Stmt} {ts : TS} (h : PS X st ts) : PS X st (tCutS ts) := by
  constructor
  rintro pins s σ H D I ⟨C, h1, h2⟩
  refine wpAny_mono (h.run pins s σ H { D with nx := C } I h1) ?_ fun _ _ z => z
  intro f s' q
  cases f with
  | next =>
    obtain ⟨σ', H', J, q⟩ := q
    exact ⟨σ', H', J, h2 σ' H' q⟩
  | ret u => exact q
  | brk => exact q
  | cont => exact q

/-! ### isinstance, from what the top says -/
theorem kit_rt {K : PySem.W.Frag} {C : Addr} {T : String} {b : Bool} (hm : PySem.W.kitMeta T = true) (h : PySem.W.subIn K (.ref C) (.type T) = some b) : PySem.W.kitOne K (.ref C) (.type T) = some b := by
  have e : (Value.ref C == Value.type T) = false := beq_eq_false_iff_ne.mpr nofun
  unfold PySem.W.kitOne
  rw [e]
  show (if PySem.W.kitMeta T = true then PySem.W.subIn K (.ref C) (.type T) else none) = some b
  rw [if_pos hm, h]
theorem kit_tr {K : PySem.W.Frag} {C : Addr} {T : String} {b : Bool} (h1 : PySem.W.isClsIn K C = true) (h2 : PySem.W.typeIn K (.ref C) = some (.type "type")) (h : PySem.W.subIn K (.type T) (.ref C) = some b) : PySem.W.kitOne K (.type T) (.ref C) = some b := by
  have e : (Value.type T == Value.ref C) = false := beq_eq_false_iff_ne.mpr nofun
  unfold PySem.W.kitOne
  rw [e]
  show (if ((PySem.W.clsIn K C).isSome && PySem.W.typeIn K (.ref C) == some (.type "type")) = true then PySem.W.subIn K (.type T) (.ref C) else none) = some b
  have h1' : (PySem.W.clsIn K C).isSome = true := h1
  rw [h1', h2, if_pos (by simp), h]
theorem kit_rr {K : PySem.W.Frag} {C : Addr} : PySem.W.kitOne K (.ref C) (.ref C) = some true := by
  unfold PySem.W.kitOne
  rw [if_pos (by simp)]

/-! ### comprehensions, item by item -/
theorem pe_imp {X : Cx} {e : Expr} {t t' : TE} (h : PE X e t) (hi : ∀ σ H Q, t' σ H Q → t σ H Q) : PE X e t' :=
  ⟨fun pins s σ H Q I q => h.run pins s σ H Q I (hi σ H Q q)⟩
theorem ps_imp {X : Cx} {st : Stmt} {t t' : TS} (h : PS X st t) (hi : ∀ D σ H, t' D σ H → t D σ H) : PS X st t' :=
  ⟨fun pins s σ H D I q => h.run pins s σ H D I (hi D σ H q)⟩
/-- [e for x in l], x in slot j: ys are the items of the new list -/
def tMapL (K : PySem.W.Frag) (j : Nat) (tl te : TE) : TE := fun σ H Q => tl σ H fun x H1 => ∃ a xs ys, x = .ref a ∧ SqL K H1 a xs ∧ ys.length = xs.length ∧ xs.length ≤ 100000 ∧
  (∀ (i : Nat) (x y : V) (H' : Hp), xs[i]? = some x → ys[i]? = some y → Same H1 H' → te ((σ.set j none).set j (some x)) H' fun v H'' => v = y ∧ Same H' H'') ∧
  ∀ D H', Same H1 H' → H1 D = none → H' D = some (.lst ys) → Q (.ref D) H'
/-- the same over range(..) -/
def tMapR (j : Nat) (ta : TA) (te : TE) : TE := fun σ H Q => ta σ H fun vs H1 => ∃ (m : Int) (ys : List V), vs = [.int m] ∧ 0 ≤ m ∧ m ≤ 100000 ∧ (ys.length : Int) = m ∧
  (∀ (i : Nat) (y : V) (H' : Hp), ys[i]? = some y → Same H1 H' → te ((σ.set j none).set j (some (.int i))) H' fun v H'' => v = y ∧ Same H' H'') ∧
  ∀ D H', Same H1 H' → H1 D = none → H' D = some (.lst ys) → Q (.ref D) H'
theorem take_one {α : Type} {l : List α} {i : Nat} {x : α} (h : l[i]? = some x) : l.take (i + 1) = l.take i ++ [x] := by
  rw [List.take_succ, h]
  rfl
theorem wipe_one {σ : L2.St} {j : Nat} {x : V} : wipe ((wipe σ [j]).set j (some x)) [j] = wipe σ [j] := by
  show (((σ.set j none).set j (some x)).set j none) = σ.set j none
  rw [List.set_set, List.set_set]
theorem map_core {K : PySem.W.Frag} {te : TE} (mono : ∀ σ H Q Q', (∀ v H', Q v H' → Q' v H') → te σ H Q → te σ H Q') {j : Nat} {σ : L2.St} {H1 : Hp} {Q : VK} {a : Addr} {xs ys : List V} (hl : SqL K H1 a xs) (hn : ys.length = xs.length) (hs : xs.length ≤ 100000)
    (he : ∀ (i : Nat) (x y : V) (H' : Hp), xs[i]? = some x → ys[i]? = some y → Same H1 H' → te ((σ.set j none).set j (some x)) H' fun v H'' => v = y ∧ Same H' H'')
    (k : ∀ D H', Same H1 H' → H1 D = none → H' D = some (.lst ys) → Q (.ref D) H') :
    tLc (fun _ H R => R (Itl K a) H) (gName j) tYes te [j] σ H1 Q := by
  intro D hD
  refine lc_list (K := K) (a := a) (xs := xs) (fun i H' => Same H1 H' ∧ H' D = some (.lst (ys.take i))) ⟨fun c u h => by rw [upd_ne (ne_of_none h hD)]; exact h, upd_same⟩ (fun i H' _ h => h.1.seq hl) ?_ ?_
  · rintro i x H' hi ⟨s, e⟩
    have hi2 : i < xs.length := (List.getElem?_eq_some_iff.mp hi).1
    have hy : ys[i]? = some ys[i] := List.getElem?_eq_getElem (by omega)
    refine ⟨wipe_one, mono _ _ _ _ ?_ (he i x _ H' hi hy s)⟩
    rintro v H2 ⟨rfl, s2⟩
    refine ⟨_, s2 _ _ e, ?_, ?_, ?_⟩
    · rw [List.length_take]
      exact Nat.lt_of_le_of_lt (m := 100000) (by omega) (by decide)
    · intro c o hc
      rw [upd_ne (ne_of_none hc hD)]
      exact s2 _ _ (s _ _ hc)
    · rw [upd_same, take_one hy]
  · rintro H' ⟨s, e⟩
    rw [← hn, List.take_length] at e
    exact k D H' s hD e
theorem tCut_mono {te : TE} : ∀ σ H (Q Q' : VK), (∀ v H', Q v H' → Q' v H') → tCut te σ H Q → tCut te σ H Q' :=
  fun _ _ _ _ hq ⟨C, h1, h2⟩ => ⟨C, h1, fun v H' c => hq v H' (h2 v H' c)⟩
theorem tl_core {K : PySem.W.Frag} {tl te : TE} {j : Nat} {σ : L2.St} {H : Hp} {Q : VK} (q : tMapL K j tl te σ H Q) : tLc (iList K (tCut tl)) (gName j) tYes (tCut te) [j] σ H Q := by
  refine ⟨_, q, ?_⟩
  rintro v H1 ⟨a, xs, ys, rfl, hl, hn, hs, he, k⟩
  exact ⟨a, rfl, ⟨_, hl⟩, map_core tCut_mono hl hn hs (fun i x y H' h1 h2 h3 => ⟨_, he i x y H' h1 h2 h3, fun _ _ c => c⟩) k⟩
theorem pe_map {X : Cx} {K : PySem.W.Frag} {e : Expr} {tl te : TE} {j : Nat} (h : PE X e (tLc (iList K (tCut tl)) (gName j) tYes (tCut te) [j])) : PE X e (tMapL K j tl te) :=
  pe_imp h fun _ _ _ => tl_core
theorem ps_map {X : Cx} {K : PySem.W.Frag} {st : Stmt} {tl te : TE} {j i : Nat} (h : PS X st (tAsg (tLc (iList K (tCut tl)) (gName j) tYes (tCut te) [j]) (gName i))) : PS X st (tAsg (tMapL K j tl te) (gName i)) :=
  ps_imp h fun _ _ _ => tl_core
/-- arguments, cut -/
def tCutA (ta : TA) : TA := fun σ H Q => ∃ C : List V → Hp → Prop, ta σ H C ∧ ∀ vs H', C vs H' → Q vs H'
theorem map_coreR {te : TE} {j : Nat} {σ : L2.St} {H1 : Hp} {Q : VK} {m : Nat} {ys : List V} (hn : ys.length = m) (hs : m ≤ 100000)
    (he : ∀ (i : Nat) (y : V) (H' : Hp), ys[i]? = some y → Same H1 H' → te ((σ.set j none).set j (some (.int i))) H' fun v H'' => v = y ∧ Same H' H'')
    (k : ∀ D H', Same H1 H' → H1 D = none → H' D = some (.lst ys) → Q (.ref D) H') :
    tLc (fun _ H R => R (Itr 0 m) H) (gName j) tYes (tCut te) [j] σ H1 Q := by
  intro D hD
  refine lc_range (lo := 0) (n := m) (fun i H' => Same H1 H' ∧ H' D = some (.lst (ys.take i))) ⟨fun c u h => by rw [upd_ne (ne_of_none h hD)]; exact h, upd_same⟩ ?_ ?_
  · rintro i H' hi ⟨s, e⟩
    have hy : ys[i]? = some ys[i] := List.getElem?_eq_getElem (by omega)
    have e0 : (0 : Int) + (i : Int) = i := Int.zero_add _
    rw [e0]
    refine ⟨wipe_one, _, he i _ H' hy s, ?_⟩
    rintro v H2 ⟨rfl, s2⟩
    refine ⟨_, s2 _ _ e, ?_, ?_, ?_⟩
    · rw [List.length_take]
      exact Nat.lt_of_le_of_lt (m := 100000) (by omega) (by decide)
    · intro c o hc
      rw [upd_ne (ne_of_none hc hD)]
      exact s2 _ _ (s _ _ hc)
    · rw [upd_same, take_one hy]
  · rintro H' ⟨s, e⟩
    rw [← hn, List.take_length] at e
    exact k D H' s hD e
theorem pe_mapR {X : Cx} {e : Expr} {ta : TA} {te : TE} {j : Nat} (mono : ∀ σ H (Q Q' : List V → Hp → Prop), (∀ v H', Q v H' → Q' v H') → ta σ H Q → ta σ H Q')
    (h : PE X e (tLc (iRng1 ta) (gName j) tYes (tCut te) [j])) : PE X e (tMapR j ta te) := by
  refine pe_imp h fun σ H Q q => ?_
  refine mono σ H _ _ ?_ q
  rintro vs H1 ⟨m, ys, rfl, h0, hm, hn, he, k⟩
  exact ⟨m, rfl, by omega, by omega, map_coreR (by omega) (by omega) he k⟩

/-! ### within a comprehension: the written part by its name -/
theorem call_reprK {X : Cx} {K : PySem.W.Frag} (bare : Bare X.A) (hu : X.A.units + 64 < cLine) (hK : X.K = K := by rfl) : CallR X (.builtin "repr") (rRepr K) := hK ▸ call_reprD bare hu
theorem ix_listK {X : Cx} {K : PySem.W.Frag} (hK : X.K = K := by rfl) : IxR X (rIxL K) := hK ▸ ix_list
theorem ix_tupK {X : Cx} {K : PySem.W.Frag} (hK : X.K = K := by rfl) : IxR X (rIxT K) := hK ▸ ix_tup
theorem call_isiK {X : Cx} {K : PySem.W.Frag} (hK : X.K = K := by rfl) : CallR X (.builtin "isinstance") (rIsi K) := hK ▸ call_isi

/-! ### heaps: all that was tracked stays, but for the list at q -/
def Keep (q : Addr) (H H' : Hp) : Prop := ∀ b o, H b = some o → b ≠ q → H' b = some o
theorem Keep.refl {q : Addr} {H : Hp} : Keep q H H := fun _ _ h _ => h
theorem Keep.trans {q : Addr} {H H1 H2 : Hp} (a : Keep q H H1) (b : Keep q H1 H2) : Keep q H H2 := fun c o h n => b c o (a c o h n) n
theorem Keep.upd {q : Addr} {H H' : Hp} {o : HO} (a : Keep q H H') : Keep q H (L2.upd H' q o) := fun c u h n => by rw [upd_ne n]; exact a c u h n
theorem Keep.new {q p : Addr} {H H' : Hp} {o : HO} (a : Keep q H H') (hp : H' p = none) : Keep q H (L2.upd H' p o) := fun c u h n => by
  have e := a c u h n
  rw [upd_ne (ne_of_none e hp)]
  exact e
theorem Keep.same {q : Addr} {H H1 H2 : Hp} (a : Keep q H H1) (b : Same H1 H2) : Keep q H H2 := fun c o h n => b c o (a c o h n)
theorem Same.keep {q : Addr} {H H' : Hp} (a : Same H H') : Keep q H H' := fun c o h _ => a c o h
theorem Same.new {p : Addr} {H H' : Hp} {o : HO} (a : Same H H') (hp : H' p = none) : Same H (L2.upd H' p o) := fun c u h => by
  have e := a c u h
  rw [upd_ne (ne_of_none e hp)]
  exact e
theorem Keep.toSame {q : Addr} {H H' : Hp} (a : Keep q H H') (hq : H q = none) : Same H H' := fun c o h => a c o h (ne_of_none h hq)
theorem Keep.free {q p : Addr} {H H' : Hp} (a : Keep q H H') (hne : p ≠ q) (h : H' p = none) : H p = none := by
  cases e : H p with
  | none => rfl
  | some o => exact nomatch h.symm.trans (a p o e hne)
theorem pe_mk_ {X : Cx} {k j : Nat} {C : Addr} {sp : Sp} {m : Str} {pos apos : Pos} {o : Expr} {kws : List Keyword} {ks : List Str} {gV : List V → List V → List V} {ta : TE} {tk : TA} {pl : Sem Bool}
    (c : MetK X.prog X.w X.K X.mg X.base k C m sp ks gV) (cl : Cls X.K C) (hr : Room j X.A) (hk : k ≤ j) (he : PE X o ta) (hkw : PK X kws tk)
    (hall : (backToKw pos (keywordEach kws X.env)).all (·.1.isSome) = true := by rfl) (hks : (backToKw pos (keywordEach kws X.env)).filterMap (·.1) = ks := by rfl)
    (hpl : ((backTo pos (starEach [] X.env)).any (·.1) || (backToKw pos (keywordEach kws X.env)).any (·.1.isNone)) = false := by rfl)
    (ht : eval (.Call (.Attribute o m apos) [] kws pos) X.env = (do
      let ov ← eval o X.env
      standAt apos.atName
      let (f, first) ← holding [ov] (getMethod ov m pl)
      callWith pos f first (backTo pos (starEach [] X.env)) (backToKw pos (keywordEach kws X.env))) := by rfl) :
    PE X (.Call (.Attribute o m apos) [] kws pos) (tMethK C m sp gV E0 ta tk) := by
  obtain ⟨f, fd, ps, g, M, F, b⟩ := c.ex
  exact pe_methK0 (pl := pl) he cl M F (hr.mono hk) b pass0 hkw hall hks hpl ht
end MG

/-! Plain facts about numbers, and short words for readings -/
namespace MG
open PySem PySem.Spec PyProof.Rows L2

/-- within 10 ^ 400 -/
def Sm (i : Int) : Prop := -(10 ^ 400) < i ∧ i < 10 ^ 400
theorem big400 : (10 : Nat) ^ 400 < 2 ^ 1400 := by decide +kernel
theorem Sm.abs {i : Int} (h : Sm i) : i.natAbs < 2 ^ 1400 := by
  have h1 := h.1
  have h2 := h.2
  have h3 := big400
  have e : ((10 : Int) ^ 400) = ((10 ^ 400 : Nat) : Int) := by rw [Int.natCast_pow]; rfl
  rw [e] at h1 h2
  generalize (10 : Nat) ^ 400 = a at *
  generalize (2 : Nat) ^ 1400 = b at *
  omega
theorem sm_mul {i j : Int} (hi : Sm i) (hj : Sm j) : CMulW i j := wide_mul hi.abs hj.abs (by decide) (by decide) (by decide)
theorem sm_div {j : Int} (h : Sm j) (h0 : j ≠ 0) : j ≠ 0 ∧ j.natAbs.log2 < 9000 :=
  ⟨h0, Nat.lt_of_lt_of_le (PySem.Flt.log2_lt_of (by decide) h.abs) (by decide)⟩
theorem sm_lt {i : Int} {k : Nat} (hk : k ≤ 400) (h1 : -(10 ^ k) < i) (h2 : i < 10 ^ k) : Sm i := by
  have e : (10 : Int) ^ k ≤ 10 ^ 400 := by
    have q : (10 : Nat) ^ k ≤ 10 ^ 400 := Nat.pow_le_pow_right (by decide) hk
    have z := Int.ofNat_le.mpr q
    rw [Int.natCast_pow, Int.natCast_pow] at z
    exact z
  constructor <;> generalize (10 : Int) ^ 400 = b at * <;> omega
theorem fmod_ge {x m : Int} (h : 0 < m) : 0 ≤ x.fmod m := Int.fmod_nonneg_of_pos x h
theorem fmod_lt {x m : Int} (h : 0 < m) : x.fmod m < m := Int.fmod_lt_of_pos x h
theorem fdiv_ge {x m : Int} (hx : 0 ≤ x) (h : 0 < m) : 0 ≤ x.fdiv m := by
  rw [Int.fdiv_eq_ediv_of_nonneg x (by omega)]
  exact Int.ediv_nonneg hx (by omega)
theorem fdiv_le {x m : Int} (hx : 0 ≤ x) (h : 0 < m) : x.fdiv m ≤ x := by
  rw [Int.fdiv_eq_ediv_of_nonneg x (by omega)]
  exact Int.ediv_le_self m hx
/-- an item of a written list of ints at a reckoned index -/
theorem at_ints {l : List Int} {i : Int} (h0 : 0 ≤ i) (h : i < l.length) : ∃ z ∈ l, atI (l.map V.int) i = some (V.int z) := by
  obtain ⟨j, rfl⟩ := Int.eq_ofNat_of_zero_le h0
  have hj : j < l.length := by omega
  exact ⟨l[j], List.getElem_mem hj, atI_nat (by rw [List.getElem?_map, List.getElem?_eq_getElem hj]; rfl)⟩
end MG

/-! Fractions: what crossing out gives is the numerator and the denominator -/
namespace MG
open PySem PySem.Spec PyProof.Rows L2

/-- the divisor, of the sign of the lower one -/
def gd (a u : Int) : Int := if 0 < u then (Int.gcd a u : Int) else -(Int.gcd a u : Int)
theorem gd_ne {a u : Int} (h : u ≠ 0) : gd a u ≠ 0 := by
  have := Int.gcd_pos_of_ne_zero_right a h
  unfold gd
  split <;> omega
theorem gd_sm {a u : Int} (h : u ≠ 0) (hu : Sm u) : Sm (gd a u) := by
  have h1 : (Int.gcd a u : Nat) ≤ u.natAbs := Nat.le_of_dvd (by omega) (Int.gcd_dvd_natAbs_right a u)
  obtain ⟨h2, h3⟩ := hu
  unfold gd Sm
  generalize (10 : Int) ^ 400 = t at *
  split <;> omega
theorem lo_num {a u : Int} (h : u ≠ 0) : a.fdiv (gd a u) = (Rat.divInt a u).num := by
  have hg : (Int.gcd a u : Int) ≠ 0 := by have := Int.gcd_pos_of_ne_zero_right a h; omega
  obtain ⟨x, hx⟩ := Int.gcd_dvd_left a u
  have e1 : (a.gcd u : Int) * x / (a.gcd u : Int) = x := Int.mul_ediv_cancel_left x hg
  rw [Rat.num_divInt, Int.gcd_comm u a]
  unfold gd
  generalize (a.gcd u : Int) = g at *
  rcases Int.lt_trichotomy u 0 with hu | hu | hu
  · rw [if_neg (by omega), Int.sign_eq_neg_one_of_neg hu, hx]
    have e : g * x = -g * -x := (Int.neg_mul_neg g x).symm
    rw [e, Int.mul_fdiv_cancel_left (-x) (by omega), ← e, Int.neg_one_mul, ← Int.mul_neg, Int.mul_ediv_cancel_left _ hg]
  · exact absurd hu h
  · rw [if_pos hu, Int.sign_eq_one_of_pos hu, Int.one_mul, hx, Int.mul_fdiv_cancel_left x hg, e1]
theorem lo_den {a u : Int} (h : u ≠ 0) : u.fdiv (gd a u) = ((Rat.divInt a u).den : Int) := by
  have hg : (Int.gcd a u : Int) ≠ 0 := by have := Int.gcd_pos_of_ne_zero_right a h; omega
  obtain ⟨x, hx⟩ := Int.gcd_dvd_right a u
  rw [Rat.den_divInt, if_neg h, Int.gcd_comm u a, Int.natCast_ediv]
  have e0 : (u.natAbs : Int) = if 0 < u then u else -u := by split <;> omega
  rw [e0]
  unfold gd
  generalize (a.gcd u : Int) = g at *
  rcases Int.lt_trichotomy u 0 with hu | hu | hu
  · rw [if_neg (by omega), if_neg (by omega)]
    have e : u = -g * -x := by rw [Int.neg_mul_neg]; exact hx
    have e2 : -u = g * -x := by rw [Int.mul_neg, ← hx]
    rw [e2, Int.mul_ediv_cancel_left _ hg]
    conv => lhs; rw [e]
    exact Int.mul_fdiv_cancel_left (-x) (by omega)
  · exact absurd hu h
  · rw [if_pos hu, if_pos hu]
    conv => lhs; rw [hx]
    conv => rhs; rw [hx]
    rw [Int.mul_fdiv_cancel_left x hg, Int.mul_ediv_cancel_left _ hg]

/-- numerator and denominator below 10 ^ k -/
def Bd (p : Rat) (k : Nat) : Prop := p.num.natAbs < 10 ^ k ∧ p.den < 10 ^ k
theorem Bd.mono {p : Rat} {i j : Nat} (h : Bd p i) (hij : i ≤ j) : Bd p j := by
  have := Nat.pow_le_pow_right (show 0 < 10 by decide) hij
  exact ⟨Nat.lt_of_lt_of_le h.1 this, Nat.lt_of_lt_of_le h.2 this⟩
theorem nab {x : Nat} {i : Int} (h : i.natAbs < x) : -(x : Int) < i ∧ i < x := by omega
theorem Bd.num {p : Rat} {k : Nat} (h : Bd p k) (hk : k ≤ 400) : Sm p.num := by
  have := nab h.1
  rw [Int.natCast_pow] at this
  exact sm_lt hk this.1 this.2
theorem Bd.den {p : Rat} {k : Nat} (h : Bd p k) (hk : k ≤ 400) : Sm (p.den : Int) := by
  have := nab (i := (p.den : Int)) (x := 10 ^ k) (by have := h.2; omega)
  rw [Int.natCast_pow] at this
  exact sm_lt hk this.1 this.2
theorem divInt_num_le (a u : Int) : (Rat.divInt a u).num.natAbs ≤ a.natAbs := by
  rw [Rat.num_divInt]
  have h : (u.sign * a).natAbs ≤ a.natAbs := by
    rw [Int.natAbs_mul]
    have : u.sign.natAbs ≤ 1 := by
      rcases Int.lt_trichotomy u 0 with hu | hu | hu
      · rw [Int.sign_eq_neg_one_of_neg hu]; decide
      · rw [hu]; decide
      · rw [Int.sign_eq_one_of_pos hu]; decide
    calc u.sign.natAbs * a.natAbs ≤ 1 * a.natAbs := Nat.mul_le_mul_right _ this
      _ = a.natAbs := Nat.one_mul _
  refine Nat.le_trans ?_ h
  obtain ⟨x, hx⟩ : ((u.gcd a : Nat) : Int) ∣ u.sign * a := Int.dvd_mul_of_dvd_right (Int.gcd_dvd_right u a)
  by_cases hg : ((u.gcd a : Nat) : Int) = 0
  · rw [hg, Int.ediv_zero]
    exact Nat.zero_le _
  · rw [hx, Int.mul_ediv_cancel_left _ hg, Int.natAbs_mul]
    exact Nat.le_mul_of_pos_left _ (by omega)
theorem divInt_den_le {a u : Int} (h : u ≠ 0) : (Rat.divInt a u).den ≤ u.natAbs := by
  rw [Rat.den_divInt, if_neg h]
  exact Nat.div_le_self _ _
theorem bd_div {a u : Int} {k : Nat} (h : u ≠ 0) (ha : a.natAbs < 10 ^ k) (hu : u.natAbs < 10 ^ k) : Bd (Rat.divInt a u) k :=
  ⟨Nat.lt_of_le_of_lt (divInt_num_le a u) ha, Nat.lt_of_le_of_lt (divInt_den_le h) hu⟩
theorem add_eq (p q : Rat) : p + q = Rat.divInt (p.num * q.den + q.num * p.den) (p.den * q.den) := by
  have h1 : (p.den : Int) ≠ 0 := by have := p.den_nz; omega
  have h2 : (q.den : Int) ≠ 0 := by have := q.den_nz; omega
  rw [← Rat.divInt_add_divInt _ _ h1 h2, Rat.num_divInt_den, Rat.num_divInt_den]
theorem sub_eq (p q : Rat) : p - q = Rat.divInt (p.num * q.den - q.num * p.den) (p.den * q.den) := by
  have h1 : (p.den : Int) ≠ 0 := by have := p.den_nz; omega
  have h2 : (q.den : Int) ≠ 0 := by have := q.den_nz; omega
  rw [← Rat.divInt_sub_divInt _ _ h1 h2, Rat.num_divInt_den, Rat.num_divInt_den]
theorem mul_eq (p q : Rat) : p * q = Rat.divInt (p.num * q.num) (p.den * q.den) := by
  rw [← Rat.divInt_mul_divInt, Rat.num_divInt_den, Rat.num_divInt_den]
theorem neg_eq (p : Rat) : -p = Rat.divInt (-p.num) p.den := by
  rw [← Rat.neg_divInt, Rat.num_divInt_den]
theorem over_eq (p q : Rat) : p / q = Rat.divInt (p.num * q.den) (p.den * q.num) := by
  rw [Rat.div_def]
  conv => lhs; rw [← Rat.num_divInt_den p, ← Rat.num_divInt_den q]
  rw [Rat.inv_divInt, Rat.divInt_mul_divInt]
theorem den_ne (p q : Rat) : (p.den : Int) * q.den ≠ 0 := by
  have h1 := p.den_nz
  have h2 := q.den_nz
  exact Int.mul_ne_zero (by omega) (by omega)
theorem lt_mul {a b : Nat} {i j : Nat} (ha : a < 10 ^ i) (hb : b < 10 ^ j) : a * b < 10 ^ (i + j) := by
  rw [Nat.pow_add]
  exact Nat.mul_lt_mul'' ha hb
theorem bd_mul {p q : Rat} {i j : Nat} (hp : Bd p i) (hq : Bd q j) : Bd (p * q) (i + j) := by
  rw [mul_eq]
  refine bd_div (den_ne p q) ?_ ?_
  · rw [Int.natAbs_mul]; exact lt_mul hp.1 hq.1
  · rw [Int.natAbs_mul]; exact lt_mul hp.2 hq.2
theorem ten (k : Nat) : 10 ^ (k + 1) = 10 * 10 ^ k := by rw [Nat.pow_succ, Nat.mul_comm]
theorem bd_add {p q : Rat} {i j : Nat} (hp : Bd p i) (hq : Bd q j) : Bd (p + q) (i + j + 1) := by
  rw [add_eq]
  have h1 := lt_mul hp.1 hq.2
  have h2 := lt_mul hp.2 hq.1
  have h3 := lt_mul hp.2 hq.2
  have t := ten (i + j)
  refine bd_div (den_ne p q) ?_ ?_
  · have e1 : (p.num * q.den).natAbs = p.num.natAbs * q.den := by rw [Int.natAbs_mul]; rfl
    have e2 : (q.num * p.den).natAbs = p.den * q.num.natAbs := by rw [Int.natAbs_mul, Nat.mul_comm]; rfl
    have := Int.natAbs_add_le (p.num * q.den) (q.num * p.den)
    omega
  · have e : ((p.den : Int) * q.den).natAbs = p.den * q.den := by rw [Int.natAbs_mul]; rfl
    omega
theorem bd_neg {p : Rat} {i : Nat} (hp : Bd p i) : Bd (-p) i := by
  have e1 : (-p).num = -p.num := rfl
  have e2 : (-p).den = p.den := rfl
  unfold Bd
  rw [e1, e2, Int.natAbs_neg]
  exact hp
theorem bd_sub {p q : Rat} {i j : Nat} (hp : Bd p i) (hq : Bd q j) : Bd (p - q) (i + j + 1) := by
  rw [Rat.sub_eq_add_neg]
  exact bd_add hp (bd_neg hq)
theorem sm_of {i : Int} (h : i.natAbs < 10 ^ 390) : Sm i := by
  have := nab h
  rw [Int.natCast_pow] at this
  exact sm_lt (by decide) this.1 this.2
theorem sm_den2 {p q : Rat} {i j : Nat} (hp : Bd p i) (hq : Bd q j) (h : i + j ≤ 390) : Sm ((p.den : Int) * q.den) := by
  refine sm_of ?_
  have e : ((p.den : Int) * q.den).natAbs = p.den * q.den := by rw [Int.natAbs_mul]; rfl
  rw [e]
  exact Nat.lt_of_lt_of_le (lt_mul hp.2 hq.2) (Nat.pow_le_pow_right (by decide) h)
theorem sm_dn {p q : Rat} {i j : Nat} (hp : Bd p i) (hq : Bd q j) (h : i + j ≤ 390) : Sm ((p.den : Int) * q.num) := by
  refine sm_of ?_
  have e : ((p.den : Int) * q.num).natAbs = p.den * q.num.natAbs := by rw [Int.natAbs_mul]; rfl
  rw [e]
  exact Nat.lt_of_lt_of_le (lt_mul hp.2 hq.1) (Nat.pow_le_pow_right (by decide) h)
theorem rat_dec (p q : Rat) : decide (p = q) = (decide (p.num = q.num) && decide ((p.den : Int) = q.den)) := by
  rw [← Bool.decide_and]
  refine decide_eq_decide.mpr ⟨fun e => by rw [e]; exact ⟨rfl, rfl⟩, fun ⟨h1, h2⟩ => Rat.ext h1 (by omega)⟩
end MG

/-! Texts of pairs, lists of texts compared -/
namespace MG
open PySem PySem.Spec PyProof.Rows L2

theorem all_append {x y : Str} (f : Nat → Bool) : (x ++ y).cps.all f = (x.cps.all f && y.cps.all f) := by
  show (x.cps ++ y.cps).all f = _
  exact Array.all_append
theorem ok_append {x y : Str} (hx : PyData.strOk x = true) (hy : PyData.strOk y = true) : PyData.strOk (x ++ y) = true := by
  unfold PyData.strOk at *
  rw [all_append, hx, hy]
  rfl
theorem ok_of (s : String) : PyData.strOk (Str.ofString s) = true := by
  unfold PyData.strOk
  rw [← Array.all_toList, signs_ofString, List.all_map, List.all_eq_true]
  intro c _
  have h := c.valid
  refine decide_eq_true ?_
  rcases h with h | ⟨_, h⟩
  · exact Nat.lt_trans h (by decide)
  · exact h
/-- repr((a, b)) -/
def shw (a b : Int) : Str := (PyData.tuple [.int a, .int b]).shown
theorem shw_eq (a b : Int) : shw a b = tupleText [toString a, toString b] := rfl
theorem ok_shw (a b : Int) : PyData.strOk (shw a b) = true := by
  show PyData.strOk (("(" : Str) ++ (Str.ofString (toString a) ++ (", " : Str) ++ Str.ofString (toString b)) ++ (")" : Str)) = true
  exact ok_append (ok_append (ok_of _) (ok_append (ok_append (ok_of _) (ok_of _)) (ok_of _))) (ok_of _)
theorem log_sm {i : Int} (h : Sm i) : i.natAbs.log2 < 1920 := Nat.lt_of_lt_of_le (PySem.Flt.log2_lt_of (by decide) h.abs) (by decide)
theorem txt_len {i : Int} (h : Sm i) : (Str.ofString (toString i)).length ≤ 1921 := by
  rw [PySem.ofString_length]
  exact int_text_length_le (k := 1920) (by decide) (log_sm h)
theorem shw_len {a b : Int} (ha : Sm a) (hb : Sm b) : (shw a b).length ≤ 4000 := by
  have h := tupleText_len_le [Str.ofString (toString a), Str.ofString (toString b)]
  have h1 := txt_len ha
  have h2 := txt_len hb
  simp only [List.map_cons, List.map_nil, List.sum_cons, List.sum_nil, List.length_cons, List.length_nil] at h
  have e : shw a b = tupleText [Str.ofString (toString a), Str.ofString (toString b)] := rfl
  rw [e]
  omega
theorem pair_ok {K : PySem.W.Frag} {H : Hp} {t : Addr} {a b : Int} (h : SqT K H t [.int a, .int b]) (ha : Sm a) (hb : Sm b) : Dp K H (.ref t) (.tuple [.int a, .int b]) ∧ (PyData.tuple [.int a, .int b]).showable = true ∧
    (PyData.tuple [.int a, .int b]).hasDict = false ∧ (PyData.tuple [.int a, .int b]).depth ≤ 60 ∧ (PyData.tuple [.int a, .int b]).shown.length ≤ sizeLine := by
  refine ⟨.tup h (.cons (.int a) (.cons (.int b) .nil)), ?_, rfl, ?_, ?_⟩
  · simp [PyData.showable, PyData.showableAll, log_sm ha, log_sm hb]
  · simp [PyData.depth, PyData.depthAll]
  · exact Nat.le_trans (shw_len ha hb) (by decide)
/-- the same, the data unnamed -/
theorem pair_ex {K : PySem.W.Frag} {H : Hp} {t : Addr} {a b : Int} (h : SqT K H t [.int a, .int b]) (ha : Sm a) (hb : Sm b) : ∃ d, Dp K H (.ref t) d ∧ d.showable = true ∧ d.hasDict = false ∧ d.depth ≤ 60 ∧ d.shown.length ≤ sizeLine ∧ d.shown = shw a b := by
  obtain ⟨r1, r2, r3, r4, r5⟩ := pair_ok h ha hb
  exact ⟨_, r1, r2, r3, r4, r5, rfl⟩
/-- what repr of a pair of ints asks -/
theorem repr_pair {K : PySem.W.Frag} {H : Hp} {t : Addr} {a b : Int} {Q : VK} (h : SqT K H t [.int a, .int b]) (ha : Sm a) (hb : Sm b) (k : Q (.str (shw a b)) H) : rRepr K [.ref t] H Q := by
  refine ⟨.ref t, .tuple [.int a, .int b], rfl, .tup h (.cons (.int a) (.cons (.int b) .nil)), ?_, rfl, ?_, ?_, k⟩
  · simp [PyData.showable, PyData.showableAll, log_sm ha, log_sm hb]
  · simp [PyData.depth, PyData.depthAll]
  · exact Nat.le_trans (shw_len ha hb) (by decide)
theorem dp_strs {K : PySem.W.Frag} {H : Hp} {a : Addr} {ss : List Str} (h : SqL K H a (ss.map V.str)) : Dp K H (.ref a) (.list (ss.map .str)) := by
  refine .lst h ?_
  induction ss with
  | nil => exact .nil
  | cons s ss ih => exact .cons (.str s) (all_dp ss)
where all_dp : ∀ ss : List Str, DpAll K H (ss.map V.str) (ss.map PyData.str)
  | [] => .nil
  | s :: ss => .cons (.str s) (all_dp ss)
theorem sh_strs {ss : List Str} (h : ∀ s ∈ ss, PyData.strOk s = true) : SeqAt.shaped (.list (ss.map .str)) = true := by
  unfold SeqAt.shaped
  rw [Bool.and_eq_true]
  refine ⟨?_, ?_⟩
  · show PyData.canLayAll0 (ss.map .str) = true
    rw [canLayAll_strs', List.all_eq_true]
    exact h
  · refine decide_eq_true ?_
    show PyData.depthAll (ss.map .str) + 1 ≤ 64
    rw [depthAll_strs']
    decide
/-- two lists of the same texts -/
theorem ne_strs {K : PySem.W.Frag} {H : Hp} {a b : Addr} {ss : List Str} {Q : VK} (ha : SqL K H a (ss.map V.str)) (hb : SqL K H b (ss.map V.str)) (h : ∀ s ∈ ss, PyData.strOk s = true) (k : Q (.bl false) H) : rNeD K (.ref a) (.ref b) H Q := by
  have sh := sh_strs h
  refine ⟨_, _, dp_strs ha, dp_strs hb, sh, sh, ?_⟩
  have e := SeqAt.eqv_refl (.list (ss.map .str)) (SeqAt.canLay_of_shaped sh)
  rw [e]
  exact k
theorem eq_strs {K : PySem.W.Frag} {H : Hp} {a b : Addr} {ss : List Str} {Q : VK} (ha : SqL K H a (ss.map V.str)) (hb : SqL K H b (ss.map V.str)) (h : ∀ s ∈ ss, PyData.strOk s = true) (k : Q (.bl true) H) : rEqD K (.ref a) (.ref b) H Q := by
  have sh := sh_strs h
  refine ⟨_, _, dp_strs ha, dp_strs hb, sh, sh, ?_⟩
  have e := SeqAt.eqv_refl (.list (ss.map .str)) (SeqAt.canLay_of_shaped sh)
  rw [e]
  exact k
end MG

/-! str, repr and bool of an own instance -/
namespace MG
open PySem PySem.Spec PyProof.Rows L2

section
variable {prog : Program} {w : World} {A : Around} {E : Value → Shared → Prop} {s : Shared} {K : PySem.W.Frag} {x C f : Addr} {ox : Obj} {od : Option Obj} {m : Str → Option Value} {L : Addr} {h₀ : Heap}
open Builtin in
theorem bool_own {Q : Value → Shared → Prop} (F : Fr h₀ L s.heap m) (X₀ : K.In h₀) (I : PySem.W.InstAt s.heap x ox C od)
    (hs : PySem.W.findIn K (.ref C) "__bool__" = some (some (.ref f))) (hf : PySem.W.isFn K (.ref f) = true)
    (h : wpAny (model prog w) A.in1.in1 (call (.ref f) [.ref x]) (fun v s' => ∃ b, v = .bool b ∧ Q (.bool b) s') E s) :
    wpAny (model prog w) A (call (.type "bool") [.ref x]) Q E s := by
  refine callType_codes (T := "bool") (Bi := Builtin.«object.__init__») (Q₁ := fun r s₁ => ∃ b, r = .bool b ∧ Q r s₁) PySem.F.called_bool (PySem.F.typeCall_bool_1 _) PySem.F.entry_object_init ?_ ?_
  · refine codeAny_of_tree ?_
    show wpAny _ A.in1.in1 (do checkBuiltinCall "bool.__new__" ⟨[.type "bool", .ref x], []⟩; again (.builtin "bool.__new__" ⟨[.type "bool", .ref x], []⟩)) _ _ s
    refine wpAny_bind (wpAny_of_eq (PySem.F.newCall_bool_1 _) (wpAny_pure ⟨plainId_quiet (by decide +kernel) _, codeAny_builtin PySem.F.entry_bool_new ?_⟩))
    rw [Around.under_plainId (by decide +kernel) _]
    have f1 := PySem.F.conv_sub_bool
    have tr : ∀ {R : Bool → Shared → Prop}, (∀ b s', Q (.bool b) s' → R b s') → wpAny (model prog w) A.in1.in1 (truthy (.ref x)) R E s := fun {R} hr =>
      PySem.W.truthy_K F X₀ I hs hf (wpAny_mono h (fun v s' z => match v, z with | _, ⟨b, rfl, q⟩ => hr b s' q) fun _ _ z => z)
    unfold Builtin.«bool.__new__»
    repeat (any_goals (first | assumption | (refine wpAny_bind (m := truthy (.ref x)) (tr fun b s' q => ?_)) | wp_step))
    all_goals first | exact wpAny_pure ⟨_, rfl, q⟩ | exact ⟨_, rfl, q⟩ | skip
  · rintro obj s₁ ⟨b, rfl, hq⟩
    exact ⟨PySem.typeIs_bool _ _, PySem.F.args_object_init_2 _ _, object_init_meets PySem.F.called_bool.init.lookup PySem.F.called_bool.made (by decide) prog w A.in1 _ s₁ ⟨PySem.typeIs_bool _ _, rfl, hq⟩⟩
end

section
variable {X : Cx} {CX : CXT} {k : Nat} {C f a : Addr} {fd : FuncData} {ps : List Str} {sp : Sp} {E : XK} {pins : List (Addr × Obj)} {σ : L2.St} {H : Hp} {s : Shared} {Q : VK}
/-- the callee, below a builtin -/
theorem run_in1 (F : FnOk X.prog X.w X.K X.mg X.base CX k f fd ps sp) (hr : Room (k + 1) X.A) (hb : Binds X.K fd ps []) (hx : Passes CX X E) (I : Inv X pins σ H s) (hsp : sp [.ref a] H Q E) :
    wpAny (model X.prog X.w) X.A.in1 (call (.ref f) [.ref a]) (EP X pins σ Q) X.xe s := by
  have hl := F.len _ _ _ _ hsp
  refine wpAny_call (codeAny_mono (F.run X.A.in1 X.stack s H ⟨[.ref a], []⟩ [.ref a] [.ref a] Q E hr.in1 I.env0.in1 (by
    have := hb s [.ref a] I.kIn (by simpa using hl)
    simpa using this) (.cons rfl .nil) hsp) fun r s' hq => ?_)
  match r, hq with
  | .error e, hq => exact hx pins σ H s e s' I hq
  | .ok (.ret z), hq => exact I.after hq
  | .ok .next, hq => exact False.elim hq
  | .ok .brk, hq => exact False.elim hq
  | .ok .cont, hq => exact False.elim hq
theorem run_in2 (F : FnOk X.prog X.w X.K X.mg X.base CX k f fd ps sp) (hr : Room (k + 2) X.A) (hb : Binds X.K fd ps []) (hx : Passes CX X E) (I : Inv X pins σ H s) (hsp : sp [.ref a] H Q E) :
    wpAny (model X.prog X.w) X.A.in1.in1 (call (.ref f) [.ref a]) (EP X pins σ Q) X.xe s := by
  have hl := F.len _ _ _ _ hsp
  refine wpAny_call (codeAny_mono (F.run X.A.in1.in1 X.stack s H ⟨[.ref a], []⟩ [.ref a] [.ref a] Q E hr.in1.in1 I.env0.in1.in1 (by
    have := hb s [.ref a] I.kIn (by simpa using hl)
    simpa using this) (.cons rfl .nil) hsp) fun r s' hq => ?_)
  match r, hq with
  | .error e, hq => exact hx pins σ H s e s' I hq
  | .ok (.ret z), hq => exact I.after hq
  | .ok .next, hq => exact False.elim hq
  | .ok .brk, hq => exact False.elim hq
  | .ok .cont, hq => exact False.elim hq
/-- str(x), repr(x): the own def's text -/
def rTxtO (C : Addr) (sp : Sp) (E : XK) : List V → Hp → VK → Prop := fun xs H Q => ∃ a dx fs, xs = [.ref a] ∧ H a = some (.ins C dx fs) ∧ sp [.ref a] H (fun v H' => ∃ z, v = .str z ∧ Q v H') E
/-- bool(x) -/
def rBoolO (C : Addr) (sp : Sp) (E : XK) : List V → Hp → VK → Prop := fun xs H Q => ∃ a dx fs, xs = [.ref a] ∧ H a = some (.ins C dx fs) ∧ sp [.ref a] H (fun v H' => ∃ z, v = .bl z ∧ Q v H') E
theorem strBack {u : Value} {s' : Shared} (h : EP X pins σ (fun v H' => ∃ z, v = .str z ∧ Q v H') u s') : PySem.W.StrBack (EP X pins σ Q) u s' := by
  obtain ⟨v, H', I, r, z, rfl, q⟩ := h
  obtain ⟨t, rfl⟩ := r
  exact ⟨.str z, H', I, ⟨t, rfl⟩, q⟩
theorem call_strO (at_ : PySem.W.findIn X.K (.ref C) "__str__" = some (some (.ref f))) (fn : PySem.W.isFn X.K (.ref f) = true)
    (F : FnOk X.prog X.w X.K X.mg X.base CX k f fd ps sp) (hr : Room (k + 2) X.A) (hb : Binds X.K fd ps []) (hx : Passes CX X E) : CallR X (.type "str") (rTxtO C sp E) := by
  intro pins s σ H xs us Q I r h
  obtain ⟨a, dx, fs, rfl, ha, hsp⟩ := h
  obtain ⟨u, rfl, ru⟩ := vals1 r
  cases ru
  obtain ⟨mA, J, _⟩ := ins_get I.hok ha
  obtain ⟨od, J, _⟩ := J.look
  exact PySem.W.kso_call (Nat.lt_trans (by show X.A.units + 1 + 1 < X.A.units + 16 * (k + 2) + 200; omega) hr.un) I.kIn J at_ fn (wpAny_mono (run_in2 F hr hb hx I hsp) (fun _ _ q => strBack q) fun _ _ e => e)
theorem call_reprO (at_ : PySem.W.findIn X.K (.ref C) "__repr__" = some (some (.ref f))) (fn : PySem.W.isFn X.K (.ref f) = true)
    (F : FnOk X.prog X.w X.K X.mg X.base CX k f fd ps sp) (hr : Room (k + 1) X.A) (hb : Binds X.K fd ps []) (hx : Passes CX X E) : CallR X (.builtin "repr") (rTxtO C sp E) := by
  intro pins s σ H xs us Q I r h
  obtain ⟨a, dx, fs, rfl, ha, hsp⟩ := h
  obtain ⟨u, rfl, ru⟩ := vals1 r
  cases ru
  obtain ⟨mA, J, _⟩ := ins_get I.hok ha
  obtain ⟨od, J, _⟩ := J.look
  obtain ⟨m, hF⟩ := I.fr
  exact PySem.W.repr_K (Nat.lt_trans (by show X.A.units + 1 < X.A.units + 16 * (k + 1) + 200; omega) hr.un) hF I.ok.mod.kin J at_ fn (wpAny_mono (run_in1 F hr hb hx I hsp) (fun _ _ q => strBack q) fun _ _ e => e)
theorem call_boolO (at_ : PySem.W.findIn X.K (.ref C) "__bool__" = some (some (.ref f))) (fn : PySem.W.isFn X.K (.ref f) = true)
    (F : FnOk X.prog X.w X.K X.mg X.base CX k f fd ps sp) (hr : Room (k + 2) X.A) (hb : Binds X.K fd ps []) (hx : Passes CX X E) : CallR X (.type "bool") (rBoolO C sp E) := by
  intro pins s σ H xs us Q I r h
  obtain ⟨a, dx, fs, rfl, ha, hsp⟩ := h
  obtain ⟨u, rfl, ru⟩ := vals1 r
  cases ru
  obtain ⟨mA, J, _⟩ := ins_get I.hok ha
  obtain ⟨od, J, _⟩ := J.look
  obtain ⟨m, hF⟩ := I.fr
  refine bool_own hF I.ok.mod.kin J at_ fn (wpAny_mono (run_in2 F hr hb hx I hsp) ?_ fun _ _ e => e)
  rintro u s' ⟨v, H', I', r, z, rfl, q⟩
  cases r
  exact ⟨z, rfl, .bl z, H', I', rfl, q⟩
end
section
variable (P : Program) (w : World) (K : PySem.W.Frag) (mg : Str → Option Value) (base : Heap) (k : Nat) (C : Addr)
/-- a double-underscore method of one parameter -/
structure DunF (nm : Str) (sp : Sp) : Prop where
  ex : ∃ (f : Addr) (fd : FuncData) (ps : List Str), PySem.W.findIn K (.ref C) nm = some (some (.ref f)) ∧ PySem.W.isFn K (.ref f) = true ∧ FnOk P w K mg base CX0 k f fd ps sp ∧ Binds K fd ps []
end
section
variable {X : Cx} {k j : Nat} {C : Addr} {sp : Sp}
theorem str_f (o : DunF X.prog X.w X.K X.mg X.base k C "__str__" sp) (hr : Room j X.A) (hk : k + 2 ≤ j) : CallR X (.type "str") (rTxtO C sp E0) := by
  obtain ⟨f, fd, ps, a, i, F, b⟩ := o.ex
  exact call_strO a i F (hr.mono hk) b pass0
theorem repr_f (o : DunF X.prog X.w X.K X.mg X.base k C "__repr__" sp) (hr : Room j X.A) (hk : k + 1 ≤ j) : CallR X (.builtin "repr") (rTxtO C sp E0) := by
  obtain ⟨f, fd, ps, a, i, F, b⟩ := o.ex
  exact call_reprO a i F (hr.mono hk) b pass0
theorem bool_f (o : DunF X.prog X.w X.K X.mg X.base k C "__bool__" sp) (hr : Room j X.A) (hk : k + 2 ≤ j) : CallR X (.type "bool") (rBoolO C sp E0) := by
  obtain ⟨f, fd, ps, a, i, F, b⟩ := o.ex
  exact call_boolO a i F (hr.mono hk) b pass0
end

section
variable {prog : Program} {w : World} {A : Around} {E : Value → Shared → Prop} {s : Shared} {K : PySem.W.Frag} {x C L f : Addr} {h₀ : Heap} {m : Str → Option Value} {ox : Obj} {od : Option Obj} {b tb : Value}
theorem objNe_any (X : K.In s.heap) (I : PySem.W.InstAt s.heap x ox C od) (hs : PySem.W.findIn K (.ref C) "__eq__" = some (some (.ref f))) (hf : PySem.W.isFn K (.ref f) = true)
    (hu : A.units < cLine) {Q : Fin → Shared → Prop}
    (hcall : wpAny (model prog w) A (call (.ref f) [.ref x, b]) (fun v s' => ∃ c, v = .bool c ∧ Q (.done (.ret (.bool (!c)))) s') E s) :
    wpAny (model prog w) A (Builtin.«object.__ne__» ⟨[.ref x, b], []⟩) Q E s := by
  unfold Builtin.«object.__ne__»
  repeat (first
    | with_reducible refine wpAny_cRoomFor hu ?_
    | (refine wpAny_bind (m := callSpecialIfBound? (.ref x) (Str.ofString "__eq__") [b])
        (PySem.W.ifBound_K X I hs hf (wpAny_mono hcall (fun r s' hr => ?_) fun _ _ e => e)))
    | wp_step)
  obtain ⟨c, rfl, hq⟩ := hr
  repeat (first | exact hq | exact wpAny_pure hq | exact wpAny_truthy_bool hq | (refine wpAny_bind (m := truthy (.bool _)) (wpAny_truthy_bool ?_)) | wp_step)
theorem ne_any (X : K.In s.heap) (I : PySem.W.InstAt s.heap x ox C od) (hb : PySem.W.Looks (model prog w) s.heap (typeOf b) tb) (hn : PySem.W.notFirst K C tb = true)
    (n : NeAt K C f) (ha : ∀ y, argsOk "object.__ne__" ⟨[y, b], []⟩) (hu : A.units + 1 < cLine) {Q : Value → Shared → Prop}
    (hcall : wpAny (model prog w) A.in1 (call (.ref f) [.ref x, b]) (fun v s' => ∃ c, v = .bool c ∧ Q (.bool (!c)) s') E s) :
    wpAny (model prog w) A (richCompare .NotEq (.ref x) b) Q E s := by
  have sub : PySem.W.Looks (model prog w) s.heap (isInstance (.ref x) (.type "object")) true := I.type.andThen (PySem.W.looks_subIn X n.sub)
  have one : wpAny (model prog w) A (tryCompare (.ref x) "__ne__" b) (fun r s' => ∃ v, r = some v ∧ Q v s') E s := by
    simp only [tryCompare]
    refine wpAny_bind (ifBound_ne X I n.ne (wpAny_call (codeAny_call_builtin PySem.F.cmp_object.ne.plain PySem.F.cmpEntry_ne
      (PySem.W.check_slot PySem.F.cmpKind_ne PySem.F.cmpSplit_ne sub (ha _) ?_))))
    refine objNe_any (A := A.in1) X I n.eq n.fn hu (wpAny_mono hcall (fun v s' hv => ?_) fun _ _ e => e)
    obtain ⟨c, rfl, hq⟩ := hv
    first | exact ⟨c, rfl, wpAny_pure ⟨_, rfl, hq⟩⟩ | exact ⟨c, rfl, wpAny_pure (wpAny_pure ⟨_, rfl, hq⟩)⟩ | exact ⟨c, rfl, _, rfl, hq⟩
  unfold richCompare
  simp only [oneThing_ref]
  refine wpAny_holding (wpAny_bind (wpAny_cRoomFor (Nat.lt_of_succ_lt hu) ?_))
  refine wpAny_bind (I.type.here (wpAny_bind (hb.here ?_)))
  split
  · rename_i q
    have e : PySem.W.subIn K tb (.ref C) = some false := by
      rcases Bool.or_eq_true_iff.mp hn with z | z
      · rw [beq_iff_eq.mp z] at q
        simp at q
      · exact beq_iff_eq.mp z
    refine wpAny_bind ((PySem.W.looks_subIn X e).here ?_)
    simp only [Bool.false_eq_true, if_false]
    refine wpAny_bind (wpAny_mono one (fun v s' hv => ?_) fun _ _ e => e)
    obtain ⟨c, rfl, hq⟩ := hv
    exact wpAny_pure hq
  · refine wpAny_bind (wpAny_pure ?_)
    simp only [Bool.false_eq_true, if_false]
    refine wpAny_bind (wpAny_mono one (fun v s' hv => ?_) fun _ _ e => e)
    obtain ⟨c, rfl, hq⟩ := hv
    exact wpAny_pure hq
end
section
variable {X : Cx}
/-- x == y, x of the class at C with its own ==, y anything -/
def rEqA (K : PySem.W.Frag) (C : Addr) (sp : Sp) (E : XK) : R2 := fun x y H Q => ∃ a dx fs t, x = .ref a ∧ H a = some (.ins C dx fs) ∧ TyX K H y t ∧ PySem.W.notFirst K C t = true ∧ sp [x, y] H Q E
def rNeA (K : PySem.W.Frag) (C : Addr) (sp : Sp) (E : XK) : R2 := fun x y H Q => ∃ a dx fs t, x = .ref a ∧ H a = some (.ins C dx fs) ∧ TyX K H y t ∧ PySem.W.notFirst K C t = true ∧ sp [x, y] H (fun v H' => ∃ c, v = .bl c ∧ Q (.bl (!c)) H') E
theorem op_eqA {CX : CXT} {k : Nat} {C f : Addr} {fd : FuncData} {ps : List Str} {sp : Sp} {E : XK} (n : NeAt X.K C f)
    (F : FnOk X.prog X.w X.K X.mg X.base CX k f fd ps sp) (hr : Room k X.A) (hb : Binds X.K fd ps []) (hx : Passes CX X E) : OpR X (compareOp .Eq) (rEqA X.K C sp E) := by
  intro pins s σ H x y v u Q I rx ry h
  obtain ⟨a, dx, fs, t, rfl, ha, ty, hn, hsp⟩ := h
  cases rx
  obtain ⟨mA, J, _⟩ := ins_get I.hok ha
  obtain ⟨od, J, _⟩ := J.look
  obtain ⟨Z, kz, hz, _⟩ := kit_of I ry ty
  obtain ⟨m, hF⟩ := I.fr
  refine PySem.W.cmp_K (op := .Eq) hr.units0 hF I.ok.mod.kin J (kz.ty _ _ I.kIn hz) hn n.eq n.fn ?_
  exact wpAny_mono (run_fn (vs := [.ref a, y]) F hr hb .nil hx I (.cons rfl (.cons ry .nil)) (by rw [List.append_nil]; exact hsp))
    (fun _ _ hq => match hq with | ⟨_, _, _, r, _⟩ => back_of r hq) fun _ _ e => e
theorem op_neA {CX : CXT} {k : Nat} {C f : Addr} {fd : FuncData} {ps : List Str} {sp : Sp} {E : XK} (n : NeAt X.K C f)
    (F : FnOk X.prog X.w X.K X.mg X.base CX k f fd ps sp) (hr : Room (k + 1) X.A) (hb : Binds X.K fd ps []) (hx : Passes CX X E) : OpR X (compareOp .NotEq) (rNeA X.K C sp E) := by
  intro pins s σ H x y v u Q I rx ry h
  obtain ⟨a, dx, fs, t, rfl, ha, ty, hn, hsp⟩ := h
  cases rx
  obtain ⟨mA, J, _⟩ := ins_get I.hok ha
  obtain ⟨od, J, _⟩ := J.look
  obtain ⟨Z, kz, hz, _⟩ := kit_of I ry ty
  refine ne_any I.kIn J (kz.ty _ _ I.kIn hz) hn n (fun z => PySem.F.cmpArgs_ne z u) (Nat.lt_trans (by omega) hr.un) ?_
  have hl := F.len _ _ _ _ hsp
  refine wpAny_call (codeAny_mono (F.run X.A.in1 X.stack s H ⟨[.ref a, u], []⟩ [.ref a, u] [.ref a, y] _ E hr.in1 I.env0.in1 (by
    have := hb s [.ref a, u] I.kIn (by simpa using hl)
    simpa using this) (.cons rfl (.cons ry .nil)) hsp) fun r s' hq => ?_)
  match r, hq with
  | .error e, hq => exact hx pins σ H s e s' I hq
  | .ok (.ret z), hq =>
    obtain ⟨v, H', I', rv, c, rfl, q⟩ := I.after hq
    cases rv
    exact ⟨c, rfl, .bl (!c), H', I', rfl, q⟩
  | .ok .next, hq => exact False.elim hq
  | .ok .brk, hq => exact False.elim hq
  | .ok .cont, hq => exact False.elim hq
variable {k j : Nat} {C : Addr} {sp : Sp} {K : PySem.W.Frag}
theorem eq_a (o : EqF X.prog X.w X.K X.mg X.base k C sp) (hr : Room j X.A) (hk : k ≤ j) (hK : X.K = K := by rfl) : OpR X (compareOp .Eq) (rEqA K C sp E0) := by
  obtain ⟨f, fd, ps, n, F, b⟩ := o.ex
  exact hK ▸ op_eqA n F (hr.mono hk) b pass0
theorem ne_a (o : EqF X.prog X.w X.K X.mg X.base k C sp) (hr : Room j X.A) (hk : k + 1 ≤ j) (hK : X.K = K := by rfl) : OpR X (compareOp .NotEq) (rNeA K C sp E0) := by
  obtain ⟨f, fd, ps, n, F, b⟩ := o.ex
  exact hK ▸ op_neA n F (hr.mono hk) b pass0
end
end MG

/-! repr of lists and tuples that hold own instances -/
namespace MG
open PySem PySem.Spec PyProof.Rows L2
open Builtin.List Builtin.Tuple

/-- a builtin that shows a container: little room -/
structure Lit (A : Around) (c : Code) : Prop where
  frames : (A.under c).frames = A.frames
  handled : (A.under c).handled = A.handled
  depth : (A.under c).depth ≤ A.depth + 1
  units : (A.under c).units = A.units + 1
  guard : c.isGuard = true
/-- near the frame of X: its frames, its handled exception, room -/
structure Near (X : Cx) (k : Nat) (A : Around) : Prop where
  fr : A.frames = X.A.frames
  hn : A.handled = X.A.handled
  room : L2H.RoomH k A
theorem Near.mono {X : Cx} {j k : Nat} {A : Around} (n : Near X k A) (h : j ≤ k) : Near X j A := ⟨n.fr, n.hn, n.room.mono h⟩
theorem Near.line {X : Cx} {k : Nat} {A : Around} (n : Near X k A) : A.units < cLine := by have := n.room.un; omega
theorem Near.in1 {X : Cx} {k : Nat} {A : Around} (n : Near X (k + 1) A) : Near X k A.in1 :=
  ⟨n.fr, n.hn, by have := n.room.dp; show A.depth + 3 * k + 5 < _; omega, by have := n.room.un; show A.units + 1 + 16 * k + 200 < _; omega⟩
theorem Near.self {X : Cx} {k : Nat} (r : L2H.RoomH k X.A) : Near X k X.A := ⟨rfl, rfl, r⟩
theorem Lit.near {X : Cx} {k : Nat} {A : Around} {c : Code} (l : Lit A c) (n : Near X (k + 1) A) : Near X k (A.under c) :=
  ⟨l.frames.trans n.fr, l.handled.trans n.hn, by have := n.room.dp; have := l.depth; omega, by have := n.room.un; rw [l.units]; omega⟩
theorem lit_list (A : Around) (args : Args) : Lit A (.builtin "list.__repr__.loop" args) where
  frames := by first | rfl | simp [Around.under, Code.envs, Code.isFrame, pushEnvs]
  handled := by first | rfl | simp [Around.under]
  depth := by first | exact Nat.le_refl _ | simp [Around.under, Code.weight, Code.isCreation, Code.isGuard, Code.isCaller, Code.frames, Code.isFrame, guardIds]
  units := by first | rfl | simp [Around.under, Code.cUnits, Code.frames, Code.isFrame]
  guard := by
    show guardIds.contains "list.__repr__.loop" = true
    decide +kernel
theorem lit_tuple (A : Around) (args : Args) : Lit A (.builtin "tuple.__repr__" args) where
  frames := by first | rfl | simp [Around.under, Code.envs, Code.isFrame, pushEnvs]
  handled := by first | rfl | simp [Around.under]
  depth := by first | exact Nat.le_refl _ | simp [Around.under, Code.weight, Code.isCreation, Code.isGuard, Code.isCaller, Code.frames, Code.isFrame, guardIds]
  units := by first | rfl | simp [Around.under, Code.cUnits, Code.frames, Code.isFrame]
  guard := by
    show guardIds.contains "tuple.__repr__" = true
    decide +kernel
theorem lit_tupleU (A : Around) (args : Args) : Lit A (.builtin "tuple.__repr__.under" args) where
  frames := by first | rfl | simp [Around.under, Code.envs, Code.isFrame, pushEnvs]
  handled := by first | rfl | simp [Around.under]
  depth := by first | exact Nat.le_refl _ | simp [Around.under, Code.weight, Code.isCreation, Code.isGuard, Code.isCaller, Code.frames, Code.isFrame, guardIds]
  units := by first | rfl | simp [Around.under, Code.cUnits, Code.frames, Code.isFrame]
  guard := by
    show guardIds.contains "tuple.__repr__.under" = true
    decide +kernel
theorem lit_dict (A : Around) (args : Args) : Lit A (.builtin "dict.__repr__" args) where
  frames := by first | rfl | simp [Around.under, Code.envs, Code.isFrame, pushEnvs]
  handled := by first | rfl | simp [Around.under]
  depth := by first | exact Nat.le_refl _ | simp [Around.under, Code.weight, Code.isCreation, Code.isGuard, Code.isCaller, Code.frames, Code.isFrame, guardIds]
  units := by first | rfl | simp [Around.under, Code.cUnits, Code.frames, Code.isFrame]
  guard := by
    show guardIds.contains "dict.__repr__" = true
    decide +kernel
theorem lit_dictU (A : Around) (args : Args) : Lit A (.builtin "dict.__repr__.under" args) where
  frames := by first | rfl | simp [Around.under, Code.envs, Code.isFrame, pushEnvs]
  handled := by first | rfl | simp [Around.under]
  depth := by first | exact Nat.le_refl _ | simp [Around.under, Code.weight, Code.isCreation, Code.isGuard, Code.isCaller, Code.frames, Code.isFrame, guardIds]
  units := by first | rfl | simp [Around.under, Code.cUnits, Code.frames, Code.isFrame]
  guard := by
    show guardIds.contains "dict.__repr__.under" = true
    decide +kernel
theorem same_tup {K : PySem.W.Frag} {H H' : Hp} {a : Addr} {xs : List V} (e : Same H H') (h : SqT K H a xs) : SqT K H' a xs := by
  rcases h with (h | ⟨o, h⟩) | h
  · exact .inl (.inl (e _ _ h))
  · exact .inl (.inr ⟨o, e _ _ h⟩)
  · exact .inr h
section
variable {X : Cx}
/-- what is shown of x is t, wherever the things of H stand; as: the containers within -/
def Rp (X : Cx) (σ : L2.St) (H : Hp) (as : List Addr) (k : Nat) (x : V) (t : Str) : Prop :=
  ∀ (u : Value), RelV x u → ∀ (b : Nat), b + t.length ≤ sizeLine → ∀ (A : Around) (g : List Code), Near X k A → A.guards = some g → (∀ a ∈ as, Clear g a) →
    ∀ (pins : List (Addr × Obj)) (s : Shared) (H1 : Hp), Inv X pins σ H1 s → Same H H1 → ∀ (Q : Str → Shared → Prop) (E : Value → Shared → Prop),
      (∀ s' H2, Inv X pins σ H2 s' → Same H1 H2 → Q t s') → wpAny (model X.prog X.w) A (pyReprUnder b u) Q E s
variable {σ : L2.St} {H H' : Hp} {as as' : List Addr} {k k' : Nat} {x : V} {t : Str}
theorem Rp.same (h : Rp X σ H as k x t) (s : Same H H') : Rp X σ H' as k x t := fun u ru b hb A g n hg hc pins s1 H1 I s2 Q E q => h u ru b hb A g n hg hc pins s1 H1 I (s.trans s2) Q E q
theorem Rp.more (h : Rp X σ H as k x t) (m : ∀ a ∈ as, a ∈ as') : Rp X σ H as' k x t := fun u ru b hb A g n hg hc => h u ru b hb A g n hg fun a ha => hc a (m a ha)
theorem Rp.mono (h : Rp X σ H as k x t) (hk : k ≤ k') : Rp X σ H as k' x t := fun u ru b hb A g n hg hc => h u ru b hb A g (n.mono hk) hg hc
theorem Rp.is (h : ∀ u, RelV x u → ReprIs X.prog X.w u t) : Rp X σ H as k x t := fun u ru b hb A g n hg hc pins s H1 I s2 Q E q => h u ru b hb A E s Q fun tk => q _ _ (I.tok tk) (Same.refl H1)
theorem Rp.int {i : Int} (hi : i.natAbs.log2 < 1920) : Rp X σ H as k (.int i) (toString i) := Rp.is fun u ru => by
  obtain ⟨tk, rfl⟩ := ru
  exact .int tk hi
theorem Rp.bl {b : Bool} : Rp X σ H as k (.bl b) (if b then "True" else "False") := Rp.is fun u ru => by
  cases ru
  exact .bool b
theorem Rp.non : Rp X σ H as k .non "None" := Rp.is fun u ru => by
  cases ru
  exact .none
theorem Rp.str {z : Str} (hz : (reprText z).length ≤ sizeLine) : Rp X σ H as k (.str z) (reprText z) := Rp.is fun u ru => by
  obtain ⟨tk, rfl⟩ := ru
  exact .str z tk hz

/-! an own instance -/
section
variable {M : Model} {A : Around} {E : Value → Shared → Prop} {s : Shared} {K : PySem.W.Frag} {y C f : Addr} {ox : Obj} {od : Option Obj}
theorem underBy_own {nm : Str} {fin : Value → List Value → Sem Value} {Q : Option Value → Shared → Prop} (X0 : K.In s.heap) (I : PySem.W.InstAt s.heap y ox C od) (hs : PySem.W.findIn K (.ref C) nm = some (some (.ref f))) (hf : PySem.W.isFn K (.ref f) = true)
    (h : wpAny M A (fin (.ref f) [.ref y]) (fun v => Q (some v)) E s) : wpAny M A (callSpecialIfBoundBy? fin (.ref y) nm) Q E s := by
  have last : wpAny M A (fin (.ref f) [.ref y] >>= fun v => pure (some v)) Q E s := wpAny_bind (wpAny_mono h (fun _ _ q => wpAny_pure q) fun _ _ q => q)
  have bound := (PySem.W.bind_fn (M := M) X0 (.ref y) (beq_iff_eq.mp hf))
  unfold callSpecialIfBoundBy? bindSpecialIfBound?
  refine wpAny_holding (wpAny_bind (wpAny_bind (wpAny_bind (I.type.here ((PySem.W.looks_findIn X0 hs).here (wpAny_bind (wpAny_askSetting (wpAny_ite ?_))))))))
  split
  · exact wpAny_bind (bound.here (wpAny_pure last))
  · exact wpAny_tryCatch (wpAny_bind (bound.here (wpAny_pure last)))
theorem under_own {b : Nat} {Q : Value → Shared → Prop} (hu : A.units < cLine) (X0 : K.In s.heap) (I : PySem.W.InstAt s.heap y ox C od) (hs : PySem.W.findIn K (.ref C) "__repr__" = some (some (.ref f))) (hf : PySem.W.isFn K (.ref f) = true)
    (h : wpAny M A (call (.ref f) [.ref y]) (fun v s' => (∃ z u, v = .str z u) ∧ Q v s') E s) : wpAny M A (pyReprObjUnder b (.ref y)) Q E s := by
  show wpAny M A (pyReprObjBy _ (.ref y)) Q E s
  unfold pyReprObjBy
  refine wpAny_bind (wpAny_cRoomFor hu (wpAny_bind (wpAny_bind (I.type.here ((PySem.W.looks_findIn X0 hs).here ?_)))))
  rw [show (some (Value.ref f)).isNone = false from rfl]
  simp only [Bool.false_eq_true, if_neg, not_false_eq_true]
  refine wpAny_bind (underBy_own X0 I hs hf (wpAny_mono (show wpAny M A (call (.ref f) ([.ref y] ++ [])) _ E s from h) (fun v s' hv => ?_) fun _ _ z => z))
  obtain ⟨⟨z, u, rfl⟩, hq⟩ := hv
  exact wpAny_bind (wpAny_isInstance (b := true) (typeIs_str _ _ _) isSubtype_str_str (wpAny_pure hq))
end
/-- how the own instances of X are shown: the def's text, wherever it is called near X -/
structure OwnX (X : Cx) (own : Hp → Addr → Str → Prop) (kO : Nat) : Prop where
  run : ∀ (H : Hp) (a : Addr) (t : Str), own H a t → ∃ (C f dx : Addr) (fs : List (Str × V)), H a = some (.ins C dx fs) ∧ PySem.W.findIn X.K (.ref C) "__repr__" = some (some (.ref f)) ∧ PySem.W.isFn X.K (.ref f) = true ∧
    ∀ (A : Around) (pins : List (Addr × Obj)) (σ : L2.St) (s : Shared) (H1 : Hp), Near X kO A → Inv X pins σ H1 s → Same H H1 → ∀ (Q : Value → Shared → Prop) (E : Value → Shared → Prop),
      (∀ s' H2 tk, Inv X pins σ H2 s' → Same H1 H2 → Q (.str t tk) s') → wpAny (model X.prog X.w) A (call (.ref f) [.ref a]) Q E s
theorem Rp.own {own : Hp → Addr → Str → Prop} {a : Addr} (o : OwnX X own k) (ho : own H a t) : Rp X σ H as k (.ref a) t := by
  intro u ru b hb A g n hg hc pins s H1 I s1 Q E q
  obtain rfl : u = Value.ref a := ru
  obtain ⟨C, f, dx, fs, hi, at_, fn, run⟩ := o.run H a t ho
  obtain ⟨mA, J, _⟩ := ins_get I.hok (s1 _ _ hi)
  obtain ⟨od, J, _⟩ := J.look
  exact wpAny_pyReprUnder_ref (by omega) (under_own n.line I.kIn J at_ fn (run A pins σ s H1 n I s1 _ E fun s' H2 tk I2 s2 => ⟨⟨_, _, rfl⟩, _, _, rfl, q s' H2 I2 s2⟩))

/-! lists -/
theorem vals_get {xs : List V} {its : List Value} (r : Vals xs its) : ∀ (i : Nat) (x : V), xs[i]? = some x → ∃ u, its[i]? = some u ∧ RelV x u := by
  induction r with
  | nil => intro i x h; simp at h
  | cons h t ih =>
    intro i x hx
    cases i with
    | zero => simp at hx; subst hx; exact ⟨_, by simp, h⟩
    | succ i => exact ih i x (by simpa using hx)
/-- each item is shown -/
def RpAll (X : Cx) (σ : L2.St) (H : Hp) (as : List Addr) (k : Nat) (xs : List V) (ts : List Str) : Prop :=
  ts.length = xs.length ∧ ∀ (i : Nat) (x : V), xs[i]? = some x → ∃ t, ts[i]? = some t ∧ Rp X σ H as k x t
theorem pinOf {pins : List (Addr × Obj)} {s : Shared} {H1 : Hp} {P : Addr} {o : Obj} (I : Inv X pins σ H1 s) (f : FpOk X pins H1 P) (e : s.heap.get? P = some o) (d : ∀ v, o.data ≠ .cell v) : Inv X (pins ++ [(P, o)]) σ H1 s := by
  have := I.pinned (fp := [P]) (fun b hb => by rw [List.mem_singleton.mp hb]; exact f) (fun b hb => by rw [List.mem_singleton.mp hb]; exact ⟨o, e, d⟩)
  have e2 : pinsAt [P] s.heap = [(P, o)] := by simp [pinsAt, e]
  rw [e2] at this
  exact this
theorem pinBack {pins : List (Addr × Obj)} {s : Shared} {H1 H2 : Hp} {P : Addr} {o : Obj} (I : Inv X (pins ++ [(P, o)]) σ H2 s) (f : FpOk X pins H1 P) : Inv X pins σ H2 s ∧ FpOk X pins H2 P ∧ s.heap.get? P = some o := by
  obtain ⟨e, n, _⟩ := I.pin (P, o) (by simp)
  exact ⟨I.unpinned, ⟨n, f.2.1, f.2.2.1, f.2.2.2.1, f.2.2.2.2.1, f.2.2.2.2.2⟩, e⟩
theorem fpTurn {pins : List (Addr × Obj)} {s : Shared} {H1 : Hp} {P : Addr} {h' : Heap} {t' : Nat} (I : Inv X pins σ H1 s) (f : FpOk X pins H1 P) (k : ∀ b o, b ≠ P → s.heap.get? b = some o → h'.get? b = some o) : Inv X pins σ H1 { s with heap := h', toks := t' } :=
  I.turned k f.1 f.2.1 f.2.2.2.1 f.2.2.2.2.1 f.2.2.2.2.2
/-- what a list's text says of its parts -/
structure Fit (b : Nat) (ts : List Str) : Prop where
  all : (listText ts).length ≤ sizeLine
  each : ∀ t ∈ ts, t.length ≤ sizeLine
  many : ts.length ≤ sizeLine
  far : b + piled ts ≤ sizeLine
theorem Fit.of {b : Nat} {ts : List Str} (h : b + (listText ts).length ≤ sizeLine) : Fit b ts := by
  have far := piled_le_listText ts
  obtain ⟨w1, w2, _⟩ := textFrom_len ts 0 (Str.ofString "[")
  rw [if_neg (by omega)] at w1
  have grow : (listText ts).length = (textFrom 0 (Str.ofString "[") ts).length + 1 := (strLen_append _ _).trans rfl
  exact ⟨by omega, fun t m => by have := w2 t m; omega, by omega, by omega⟩
theorem piled_snoc (dn : List Str) (t : Str) : piled (dn ++ [t]) = piled dn + (t.length + 2) := by rw [piled_append, piled_cons, piled_nil]
theorem rp_list_loop {a P : Addr} {xs : List V} {ts : List Str} {A : Around} {g : List Code} {b : Nat} {pins : List (Addr × Obj)} {R : Result → Shared → Prop}
    (hl : SqL X.K H a xs) (n : Near X (k + 1) A) (hg : A.guards = some g) (free : ∀ c ∈ as, Clear g c) (out : a ∉ as) (T : RpAll X σ H as k xs ts) (fit : Fit b ts) :
    ∀ (rest dn : List Str) (l : List (Str × Tok)) (s : Shared) (H1 : Hp) (parts : Array Value) (c : Nat), ts = dn ++ rest → l.map (·.1) = dn → parts.toList = strValues l → Inv X pins σ H1 s → Same H H1 → FpOk X pins H1 P →
    s.heap.get? P = some { cls := .type "list", dict := none, data := .seq parts c, slots := #[] } →
    (∀ s' H2 u, Inv X pins σ H2 s' → Same H1 H2 → R (.ok (.ret (.str (listText ts) u))) s') →
    codeAny (model X.prog X.w) A (.builtin "list.__repr__.loop" ⟨[.ref a, rawInt dn.length, .ref P, rawInt ((b + piled dn : Nat) : Int)], []⟩) R s := by
  intro rest
  induction rest with
  | nil =>
    intro dn l s H1 parts c split told lay I same hP0 hP done
    rw [List.append_nil] at split
    obtain ⟨its, rv, ⟨o, m, get, _, _, dat⟩, _⟩ := I.list (same.seq hl)
    have off : its.toArray[((dn.length : Nat) : Int).toNat]? = none := by
      have h1 := rv.length
      have h2 := T.1
      rw [split] at h2
      simp only [Int.toNat_natCast, List.getElem?_toArray]
      exact List.getElem?_eq_none (by omega)
    refine codeAny_builtin F.entry_list_repr_loop (show wpAny _ _ (Builtin.«list.__repr__.loop» ⟨[.ref a, .int dn.length 0, .ref P, .int ((b + piled dn : Nat) : Int) 0], []⟩) _ _ s from ?_)
    rw [repr_loop_tree]
    refine wpAny_bind (wpAny_listItems get dat ?_)
    rw [off]
    show wpAny _ _ (reprEnd (.ref P)) _ _ s
    refine wpAny_bind (wpAny_listItems hP rfl ?_)
    rw [lay, repr_fold, told, ← split]
    exact wpAny_bind (wpAny_pure (wpAny_bind (wpAny_mkStr (wpAny_pure (done _ H1 _ (I.tok _) (Same.refl H1))) fit.all)))
  | cons t rest ih =>
    intro dn l s H1 parts c split told lay I same hP0 hP done
    obtain ⟨its, rv, ⟨o, m, get, _, _, dat⟩, _⟩ := I.list (same.seq hl)
    have inn : dn.length < xs.length := by
      have h2 := T.1
      rw [split, List.length_append, List.length_cons] at h2
      omega
    have item : xs[dn.length]? = some xs[dn.length] := List.getElem?_eq_getElem inn
    obtain ⟨t', ht, shows⟩ := T.2 _ _ item
    obtain rfl : t = t' := by
      rw [split, List.getElem?_append_right (Nat.le_refl _), Nat.sub_self] at ht
      exact Option.some.inj ht
    obtain ⟨u, hu, ru⟩ := vals_get rv _ _ item
    have fast : its.toArray[((dn.length : Nat) : Int).toNat]? = some u := by simpa using hu
    have far := fit.far
    have near : piled ts = piled dn + (t.length + 2) + piled rest := by rw [split, piled_append, piled_cons]; omega
    have lit := lit_list A ⟨[.ref a, .int dn.length 0, .ref P, .int ((b + piled dn : Nat) : Int) 0], []⟩
    refine codeAny_builtin F.entry_list_repr_loop (show wpAny _ _ (Builtin.«list.__repr__.loop» ⟨[.ref a, .int dn.length 0, .ref P, .int ((b + piled dn : Nat) : Int) 0], []⟩) _ _ s from ?_)
    rw [repr_loop_tree]
    refine wpAny_bind (wpAny_listItems get dat ?_)
    rw [fast]
    dsimp only
    rw [Int.toNat_natCast]
    refine wpAny_bind (wpAny_holding (shows u ru (b + piled dn + 1) (by omega) _ _ (lit.near n) (guards_under_guard lit.guard hg) (fun c hc => (free c hc).cons fun e => out (e ▸ hc)) _ s H1 (pinOf I hP0 hP (fun _ z => nomatch z)) same _ _ fun s2 H2 I2 same2 => ?_))
    obtain ⟨I2, hP2, there⟩ := pinBack I2 hP0
    have lp : parts.size ≤ sizeLine := by
      have z : parts.toList.length = l.length := by rw [lay]; exact List.length_map ..
      have z2 : l.length = dn.length := by rw [← told, List.length_map]
      have z3 := fit.many
      rw [split, List.length_append] at z3
      rw [Array.length_toList] at z
      omega
    refine wpAny_bind (wpAny_mkStr (wpAny_bind ?_) (fit.each t (by rw [split]; simp)))
    refine wpAny_updateSeq (show s2.heap.get? P = _ from there) rfl (wpAny_pure ⟨F.quiet_list_repr_loop _, ?_⟩) lp
    have w1 : ((dn.length : Nat) : Int) + 1 = (((dn ++ [t]).length : Nat) : Int) := by rw [List.length_append]; rfl
    have w2 : b + piled dn + (t.length + 2) = b + piled (dn ++ [t]) := by rw [piled_snoc]; omega
    rw [w1, w2]
    refine ih (dn ++ [t]) (l ++ [(t, s2.toks)]) _ H2 (parts.push (.str t s2.toks)) _ (by rw [split, List.append_assoc]; rfl) (by rw [List.map_append, told]; rfl) (by simp [lay, strValues]) (fpTurn (I2.tok _) hP2 fun c o ne e => (Heap.get?_update_other _ _ (Ne.symm ne)).trans e) (same.trans same2) hP2
      (Heap.get?_update_self _ there rfl) fun s3 H3 u I3 same3 => done s3 H3 u I3 (same2.trans same3)
theorem rp_list_at {a : Addr} {x : V} {l : List V} {ts : List Str} {A : Around} {g : List Code} {b : Nat} {pins : List (Addr × Obj)} {s : Shared} {H1 : Hp} {R : Result → Shared → Prop}
    (hl : SqL X.K H a (x :: l)) (n : Near X (k + 1) A) (hg : A.guards = some g) (free : ∀ c ∈ a :: as, Clear g c) (out : a ∉ as) (T : RpAll X σ H as k (x :: l) ts) (hsz : b + (listText ts).length ≤ sizeLine) (I : Inv X pins σ H1 s) (same : Same H H1)
    (done : ∀ s' H2 u, Inv X pins σ H2 s' → Same H1 H2 → R (.ok (.ret (.str (listText ts) u))) s') :
    wpAny (model X.prog X.w) A.in1 (Builtin.listReprAt b ⟨[.ref a], []⟩) (fun fin s' => match fin with | .done f => R (.ok f) s' | .again c' => c'.quiet = true ∧ codeAny (model X.prog X.w) A c' R s') (fun e s' => R (.error e) s') s := by
  obtain ⟨its, rv, ⟨o, m, get, _, _, dat⟩, _⟩ := I.list (same.seq hl)
  cases rv with
  | cons ru rus =>
    refine wpAny_list_repr_head (A := A.in1) hg (fun v rest kw mem => listSameRef_of_ne (free a (.head _) _ _ _ _ mem)) get dat (wpAny_bind (wpAny_newObj_type (wpAny_pure ⟨F.quiet_list_repr_loop _, ?_⟩)))
    have I' : Inv X pins σ H1 { s with heap := _, toks := s.toks } := I.kept (h' := s.heap.push { cls := .type "list", dict := none, data := .seq #[] 0, slots := #[] }) (t' := s.toks) fun c u e => Heap.get?_push_of_some _ e
    exact rp_list_loop (P := s.heap.objs.size) hl n hg (fun c hc => free c (.tail _ hc)) out T (Fit.of hsz) ts [] [] _ H1 #[] _ rfl rfl rfl I' same (I.fpOk (Nat.le_refl _) (I.hok.fresh (Nat.le_refl _))) (Heap.get?_push_size _ rfl) done
theorem sq_type {pins : List (Addr × Obj)} {s : Shared} {H1 : Hp} {a : Addr} {xs : List V} (I : Inv X pins σ H1 s) (h : SqL X.K H1 a xs) : s.TypeIs (.ref a) "list" := by
  obtain ⟨its, rv, ⟨oa, na, ha, hc, _⟩, _⟩ := I.list h
  exact ⟨oa, ha, hc⟩
theorem Rp.list {a : Addr} {x : V} {l : List V} {ts : List Str} (hl : SqL X.K H a (x :: l)) (hna : a ∉ as) (hT : RpAll X σ H as k (x :: l) ts) : Rp X σ H (a :: as) (k + 2) (.ref a) (listText ts) := by
  intro u ru b hb A g n hg hc pins s H1 I s1 Q E q
  obtain rfl : u = Value.ref a := ru
  have hty := sq_type I (s1.seq hl)
  refine wpAny_pyReprUnder_ref (by omega) (wpAny_pyReprObjUnder_twin (twin := "list.__repr__.under") hty F.slot_list_repr.toG rfl n.line ?_)
  refine call_twin_plain F.plain_list_repr_under F.entry_list_repr_under F.check_list_repr_under hty F.slot_list_repr.toG (F.args_list_repr_1 _) ?_
  exact rp_list_at (R := callEnd _ E) hl (n.mono (by omega)) hg hc hna hT hb I s1 fun s' H2 u I2 s2 => ⟨⟨_, _, rfl⟩, _, _, rfl, q s' H2 I2 s2⟩
theorem Rp.list0 {a : Addr} (hl : SqL X.K H a []) : Rp X σ H as k (.ref a) "[]" := by
  intro u ru b hb A g n hg hc pins s H1 I s1 Q E q
  obtain rfl : u = Value.ref a := ru
  obtain ⟨its, rv, ⟨oa, na, ha, hc, _, hda⟩, _⟩ := I.list (s1.seq hl)
  cases rv
  exact wpAny_pyReprUnder_ref (by omega) (wpAny_pyReprObjUnder_list_empty ⟨oa, ha, hc⟩ n.line ha hda ⟨_, _, rfl, q _ H1 (I.tok _) (Same.refl H1)⟩)

/-! tuples -/
theorem RpAll.head {x : V} {xs : List V} {ts : List Str} (h : RpAll X σ H as k (x :: xs) ts) : ∃ t r, ts = t :: r ∧ Rp X σ H as k x t ∧ RpAll X σ H as k xs r := by
  cases ts with
  | nil => exact nomatch h.1
  | cons t r =>
    obtain ⟨t', e, q⟩ := h.2 0 x rfl
    cases (Option.some.inj e)
    exact ⟨t, r, rfl, q, by have := h.1; simpa using this, fun i y hy => by simpa using h.2 (i + 1) y (by simpa using hy)⟩
/-- the texts of a tuple's items, one behind the other -/
theorem rp_fold {A : Around} {g : List Code} {pins : List (Addr × Obj)} {E : Value → Shared → Prop} (n : Near X k A) (hg : A.guards = some g) (free : ∀ c ∈ as, Clear g c) {xs : List V} {us : List Value} (rv : Vals xs us) :
    ∀ (ts : List Str) (got : Array Str) (m : Nat) (s : Shared) (H1 : Hp) (Q : (Array Str × Nat) → Shared → Prop), RpAll X σ H as k xs ts → m + piled ts ≤ sizeLine → Inv X pins σ H1 s → Same H H1 →
    (∀ s' H2, Inv X pins σ H2 s' → Same H1 H2 → Q (got ++ ts.toArray, m + piled ts) s') → wpAny (model X.prog X.w) A (forIn us ((got, m) : (Array Str × Nat)) tupBody) Q E s := by
  induction rv with
  | nil =>
    intro ts got m s H1 Q T _ I _ done
    cases ts with
    | cons => exact nomatch T.1
    | nil =>
      have fin := done s H1 I (Same.refl H1)
      rw [List.forIn_nil]
      simp only [Array.append_empty, piled_nil, Nat.add_zero, List.toArray] at fin
      exact wpAny_pure fin
  | cons ru rus ih =>
    intro ts got m s H1 Q T fit I same done
    obtain ⟨t, rest, rfl, first, more⟩ := T.head
    have grow : m + piled (t :: rest) = m + (t.length + 2) + piled rest := by rw [piled_cons]; omega
    rw [grow] at fit done
    rw [List.forIn_cons]
    refine wpAny_bind (wpAny_bind (first _ ru (m + 1) (by omega) A g n hg free pins s H1 I same _ _ fun s2 H2 I2 same2 => wpAny_pure (ih rest _ _ s2 H2 Q more (by omega) I2 (same.trans same2) fun s3 H3 I3 same3 => ?_)))
    have fin := done s3 H3 I3 (same2.trans same3)
    have e : got.push t ++ rest.toArray = got ++ (t :: rest).toArray := by simp
    rw [e]
    exact fin
/-- no guard around speaks of a thing that is clear of them -/
theorem clear_any {g : List Code} {f : Code × Pos → Bool} (h : ∀ c ∈ g, f (c, default) = false) : (g.any fun c => f (c, default)) = false := List.any_eq_false.mpr fun c m => by rw [h c m]; exact Bool.false_ne_true
theorem rp_tuple_at {a : Addr} {xs : List V} {ts : List Str} {A : Around} {g : List Code} {b : Nat} {pins : List (Addr × Obj)} {s : Shared} {H1 : Hp} {R : Result → Shared → Prop} {id : String} {rest : List Value}
    (lit : Lit A (.builtin id ⟨.ref a :: rest, []⟩)) (hl : SqT X.K H a xs) (n : Near X (k + 1) A) (hg : A.guards = some g) (free : ∀ c ∈ a :: as, Clear g c) (out : a ∉ as) (T : RpAll X σ H as k xs ts)
    (hsz : b + (tupleText ts).length ≤ sizeLine) (I : Inv X pins σ H1 s) (same : Same H H1) (done : ∀ s' H2 u, Inv X pins σ H2 s' → Same H1 H2 → R (.ok (.ret (.str (tupleText ts) u))) s') :
    wpOwn (model X.prog X.w) A (.builtin id ⟨.ref a :: rest, []⟩) (Builtin.tupleReprAt b ⟨[.ref a], []⟩) (fun fin s' => match fin with | .done f => R (.ok f) s' | .again c' => c'.quiet = true ∧ codeAny (model X.prog X.w) A c' R s') (fun e s' => R (.error e) s') s := by
  obtain ⟨its, rv, ⟨o, get, cls, m, dat⟩, _⟩ := I.tuple (same_tup same hl)
  have much := piled_le_tupleText ts
  have eq : its.length = ts.length := by rw [T.1]; exact rv.length.symm
  rw [tuple_repr_tree, tupleReprUnderWay_eq]
  refine wpOwn_bind (wpOwn_stackTailAny hg (tupGuardF_off (.ref a)) (tupGuardF_pos (.ref a)) ?_)
  rw [clear_any (tupGuardF_of_clear (free a (.head _)))]
  refine wpOwn_of_wpAny (show wpAny _ _ (tupleReprRest b (.ref a)) _ _ s from ?_)
  refine wpAny_bind (wpAny_bind (wpAny_seqItems get dat (wpAny_pure ?_)))
  rw [← Array.forIn_toList]
  refine wpAny_bind (rp_fold (lit.near n) (guards_under_guard lit.guard hg) (fun c m => (free c (.tail _ m)).cons fun e => out (e ▸ m)) rv ts #[] b s H1 _ T (by omega) I same fun s2 H2 I2 same2 => ?_)
  have fin := done _ H2 s2.toks (I2.tok (s2.toks + 1)) same2
  have txt : (("(" : Str) ++ Str.join ", " ((#[] : Array Str) ++ ts.toArray).toList ++ (if its.toArray.size == 1 then ",)" else ")" : String)) = tupleText ts := by simp [tupleText, eq]
  refine wpAny_bind (wpAny_mkStr (wpAny_pure ?_) ?_)
  · rw [txt]
    exact fin
  · rw [txt]
    omega
theorem Rp.tuple {a : Addr} {xs : List V} {ts : List Str} (hl : SqT X.K H a xs) (hna : a ∉ as) (hT : RpAll X σ H as k xs ts) : Rp X σ H (a :: as) (k + 2) (.ref a) (tupleText ts) := by
  intro u ru b hb A g n hg hc pins s H1 I s1 Q E q
  obtain rfl : u = Value.ref a := ru
  obtain ⟨its, rv, ⟨o, ha, hct, _, hd⟩, _⟩ := I.tuple (same_tup s1 hl)
  refine wpAny_pyReprUnder_ref (by omega) (wpAny_pyReprObjUnder_twin (twin := "tuple.__repr__.under") ⟨o, ha, hct⟩ F.slot_tuple_repr rfl n.line ?_)
  exact call_twin_own (F.quiet_tuple_repr_under _) F.entry_tuple_repr_under F.check_tuple_repr_under ⟨o, ha, hct⟩ F.slot_tuple_repr (F.args_tuple_repr_1 _)
    (rp_tuple_at (R := callEnd _ E) (lit_tupleU A _) hl (n.mono (by omega)) hg hc hna hT hb I s1 fun s' H2 u I2 s2 => ⟨⟨_, _, rfl⟩, _, _, rfl, q s' H2 I2 s2⟩)

/-! dicts whose keys are ints and texts -/
def kTxt : Key → Str
  | .inl i => (toString i : String)
  | .inr z => reprText z
def RpKV (X : Cx) (σ : L2.St) (H : Hp) (as : List Addr) (k : Nat) (kvs : List (Key × V)) (ps : List Str) : Prop :=
  ps.length = kvs.length ∧ ∀ (i : Nat) (kv : Key × V), kvs[i]? = some kv → ∃ v, ps[i]? = some (kTxt kv.1 ++ ": " ++ v) ∧ Rp X σ H as k (kV kv.1) (kTxt kv.1) ∧ Rp X σ H as k kv.2 v
theorem kv_entry {κs : List (Key × V)} {vs : List (Key × Value)} (r : KV κs vs) : ∀ {es : List DictEntry} {P : Program} {w : World}, Pairs (mixKind P w) es vs →
    es.length = κs.length ∧ ∀ (i : Nat) (kv : Key × V), κs[i]? = some kv → ∃ e, es[i]? = some e ∧ RelV (kV kv.1) e.key ∧ RelV kv.2 e.val := by
  unfold KV at r
  induction r with
  | nil =>
    intro es P w p
    cases p
    exact ⟨rfl, fun i kv h => by simp at h⟩
  | cons h t ih =>
    intro es P w p
    cases p with
    | cons h1 h2 h3 =>
      obtain ⟨l, q⟩ := ih h3
      refine ⟨by simp [l], fun i kv hi => ?_⟩
      cases i with
      | zero =>
        simp at hi
        subst hi
        refine ⟨_, rfl, ?_, ?_⟩
        · rw [h.1]
          exact relV_key h1
        · rw [h2]
          exact h.2
      | succ i => exact q i kv (by simpa using hi)
/-- one entry more -/
theorem range_step {m i : Nat} {x : Nat} {rest : List Nat} (h : x :: rest = List.range' i (m - i)) : x = i ∧ i < m ∧ rest = List.range' (i + 1) (m - (i + 1)) := by
  cases d : m - i with
  | zero =>
    rw [d] at h
    cases h
  | succ j =>
    rw [d, List.range'_succ] at h
    injection h with h1 h2
    have : m - (i + 1) = j := by omega
    exact ⟨h1, by omega, by rw [h2, this]⟩
theorem range_end {m i : Nat} (hi : i ≤ m) (h : [] = List.range' i (m - i)) : i = m := by
  cases d : m - i with
  | zero => omega
  | succ j =>
    rw [d, List.range'_succ] at h
    cases h
theorem rp_dict_at {a : Addr} {kvs : List (Key × V)} {ps : List Str} {A : Around} {g : List Code} {b : Nat} {pins : List (Addr × Obj)} {s : Shared} {H0 H1 : Hp} {R : Result → Shared → Prop} {id : String} {rest : List Value}
    (lit : Lit A (.builtin id ⟨.ref a :: rest, []⟩)) (h0 : H0 a = none) (hl : H1 a = some (.dK kvs)) (n : Near X (k + 1) A) (hg : A.guards = some g) (free : ∀ c ∈ a :: as, Clear g c) (out : a ∉ as) (T : RpKV X σ H0 as k kvs ps)
    (hsz : b + (dictText ps).length ≤ sizeLine) (I0 : Inv X pins σ H1 s) (hs : Same H0 H1) (done : ∀ s' H2 u, Inv X pins σ H2 s' → Same H1 H2 → R (.ok (.ret (.str (dictText ps) u))) s') :
    wpOwn (model X.prog X.w) A (.builtin id ⟨.ref a :: rest, []⟩) (Builtin.dictReprAt b ⟨[.ref a], []⟩) (fun fin s' => match fin with | .done f => R (.ok f) s' | .again c' => c'.quiet = true ∧ codeAny (model X.prog X.w) A c' R s') (fun e s' => R (.error e) s') s := by
  -- the dict stays as it is while it is shown
  have hn0 := I0.nofrz hl trivial
  obtain ⟨o, I⟩ := I0.lock hl trivial
  have hfr : Same H0 (upd H1 a (.frz o (.dK kvs))) := fun c u e => by
    rw [upd_ne (ne_of_none e h0)]
    exact hs c u e
  obtain ⟨hsys, get, exact_, es, ep, vs, dat, size, rv, o', es', e1, _, e3, _, e4, _⟩ := I.frzK upd_same
  obtain rfl := Option.some.inj (get.symm.trans e1)
  obtain ⟨rfl, _⟩ := Data.dict.inj (dat.symm.trans e3)
  obtain ⟨_, entry⟩ := kv_entry rv e4
  have stays : ∀ (s' : Shared) (H2 : Hp), Inv X pins σ H2 s' → Same (upd H1 a (.frz o (.dK kvs))) H2 → s'.heap.get? a = some o := fun s' H2 I2 s2 => (I2.frzK (s2 _ _ upd_same)).2.1
  have much := piled_le_dictText ps
  have many := T.1
  unfold Builtin.dictReprAt
  refine wpOwn_bind (wpOwn_of_wpAny (wpAny_bind (wpAny_notOrdered_dict (show s.TypeIs (.ref a) "dict" from ⟨o, get, exact_.1⟩) (wpAny_pure (a := Value.ref a) ?_))))
  rw [dictReprRunning_eq]
  refine wpOwn_bind (wpOwn_stackTailAny hg (dictGuardF_off (.ref a)) (dictGuardF_pos (.ref a)) ?_)
  rw [clear_any (dictGuardF_of_clear (free a (.head _)))]
  have n' := lit.near n
  have hg' := guards_under_guard lit.guard hg
  have free' : ∀ c ∈ as, Clear (.builtin id ⟨.ref a :: rest, []⟩ :: g) c := fun c m => (free c (.tail _ m)).cons fun e => out (e ▸ m)
  refine wpOwn_of_wpAny (show wpAny _ _ (Builtin.Dict.addrOf (.ref a) >>= fun _ => _) _ _ s from wpAny_bind (wpAny_pure ?_))
  have whole : Builtin.Dict.showsAll a = pure () := by
    unfold Builtin.Dict.showsAll
    rw [hsys]
    rfl
  rw [whole]
  refine wpAny_bind (wpAny_pure (wpAny_bind (wpAny_dictEpoch get dat (wpAny_bind (wpAny_dictEntries get dat (wpAny_bind ?_))))))
  rw [Std.Legacy.Range.forIn_eq_forIn_range', show (Std.Legacy.Range.mk 0 es.size 1 _).size = es.size - 0 from by simp [Std.Legacy.Range.size]]
  refine wpAny_forIn_list _ (fun todo r s' => ∃ i H2, todo = List.range' i (es.size - i) ∧ i ≤ es.size ∧ r = ((ps.take i).toArray, b + piled (ps.take i)) ∧ Inv X pins σ H2 s' ∧ Same (upd H1 a (.frz o (.dK kvs))) H2) _ ?_ ?_ _ _ ⟨0, _, rfl, Nat.zero_le _, rfl, I, Same.refl _⟩
  · rintro x todo _ s2 ⟨i, H2, hr0, hi, rfl, I2, same2⟩
    obtain ⟨rfl, lt, hrest⟩ := range_step hr0
    have ltk : x < kvs.length := by omega
    have there : kvs[x]? = some kvs[x] := List.getElem?_eq_getElem ltk
    obtain ⟨v, txt, showK, showV⟩ := T.2 x _ there
    obtain ⟨en, he, rek, rev⟩ := entry x _ there
    have he' : es[x] = en := by
      rw [Array.getElem?_toList, Array.getElem?_eq_getElem lt] at he
      exact Option.some.inj he
    have len : (kTxt kvs[x].1 ++ ": " ++ v).length = (kTxt kvs[x].1).length + 2 + v.length := (strLen_append _ _).trans (congrArg (· + v.length) (strLen_append _ _))
    have pile := piled_take_succ txt
    have upto := piled_take_le ps (x + 1)
    rw [len] at pile
    refine wpAny_bind (wpAny_dictEntries (stays s2 H2 I2 same2) dat ?_)
    rw [Array.getElem?_eq_getElem lt, he']
    refine wpAny_bind (wpAny_holding (wpAny_bind (showK en.key rek (b + piled (ps.take x) + 1) (by omega) _ _ n' hg' free' pins s2 H2 I2 (hfr.trans same2) _ _ fun s3 H3 I3 same3 =>
      wpAny_bind (showV en.val rev (b + piled (ps.take x) + ((kTxt kvs[x].1).length + 3)) (by omega) _ _ n' hg' free' pins s3 H3 I3 ((hfr.trans same2).trans same3) _ _ fun s4 H4 I4 same4 => wpAny_pure ?_))))
    have same24 := (same2.trans same3).trans same4
    refine wpAny_bind (wpAny_dictEpoch (stays s4 H4 I4 same24) dat ?_)
    rw [if_neg (by simp)]
    have w1 : (ps.take x).toArray.push (kTxt kvs[x].1 ++ ": " ++ v) = (ps.take (x + 1)).toArray := by rw [take_one txt]; simp
    have w2 : b + piled (ps.take x) + ((kTxt kvs[x].1).length + v.length + 4) = b + piled (ps.take (x + 1)) := by omega
    exact wpAny_pure ⟨x + 1, H4, hrest, lt, by rw [w1, w2], I4, same24⟩
  · rintro _ s2 ⟨i, H2, hr0, hi, rfl, I2, same2⟩
    have last : i = ps.length := by rw [range_end hi hr0]; omega
    rw [last, List.take_length]
    have fin := done _ _ s2.toks ((I2.unlock (same2 _ _ upd_same) hn0).tok (s2.toks + 1)) fun c u e => by
      by_cases z : c = a
      · subst z
        rw [hl] at e
        obtain rfl := Option.some.inj e
        exact upd_same
      · rw [upd_ne z]
        exact same2 c u (by rw [upd_ne z]; exact e)
    have tx : (("{" : Str) ++ Str.join ", " ps.toArray.toList ++ "}") = dictText ps := by simp [dictText]
    refine wpAny_bind (wpAny_mkStr (wpAny_pure ?_) ?_)
    · rw [tx]
      exact fin
    · rw [tx]
      omega
theorem Rp.dict {a : Addr} {kvs : List (Key × V)} {ps : List Str} {H0 : Hp} (h0 : H0 a = none) (hl : H a = some (.dK kvs)) (hs : Same H0 H) (hna : a ∉ as) (hT : RpKV X σ H0 as k kvs ps) : Rp X σ H (a :: as) (k + 2) (.ref a) (dictText ps) := by
  intro u ru b hb A g n hg hc pins s H1 I s1 Q E q
  obtain rfl : u = Value.ref a := ru
  obtain ⟨_, _, vs, rv, o, es, _, ha, hx, _⟩ := dk_of I.hok (s1 _ _ hl)
  refine wpAny_pyReprUnder_ref (by omega) (wpAny_pyReprObjUnder_twin (twin := "dict.__repr__.under") ⟨o, ha, hx.1⟩ F.slot_dict_repr rfl n.line ?_)
  exact call_twin_own (F.quiet_dict_repr_under _) F.entry_dict_repr_under F.check_dict_repr_under ⟨o, ha, hx.1⟩ F.slot_dict_repr (F.args_dict_repr_1 _)
    (rp_dict_at (R := callEnd _ E) (lit_dictU A _) h0 (s1 _ _ hl) (n.mono (by omega)) hg hc hna hT hb I (hs.trans s1) fun s' H2 u I2 s2 => ⟨⟨_, _, rfl⟩, _, _, rfl, q s' H2 I2 s2⟩)
end
/-! ### values of any kind and what is shown of them -/
section
def keyFits : Key → Prop
  | .inl i => i.natAbs.log2 < 1920
  | .inr z => (reprText z).length ≤ sizeLine
def kvTxts (kvs : List (Key × V)) (vts : List Str) : List Str := List.zipWith (fun kv v => kTxt kv.1 ++ ": " ++ v) kvs vts
variable (K : PySem.W.Frag) (own : Hp → Addr → Str → Prop) (kO : Nat)
inductive Shw : Hp → List Addr → Nat → V → Str → Prop
  | non {H as k} : Shw H as k .non "None"
  | bl {H as k} (b : Bool) : Shw H as k (.bl b) (if b then "True" else "False")
  | int {H as k} {i : Int} : i.natAbs.log2 < 1920 → Shw H as k (.int i) (toString i)
  | str {H as k} {z : Str} : (reprText z).length ≤ sizeLine → Shw H as k (.str z) (reprText z)
  | own {H as k a t} : own H a t → kO ≤ k → Shw H as k (.ref a) t
  | list0 {H as k a} : SqL K H a [] → Shw H as k (.ref a) "[]"
  | list {H as as' k k' a x l ts} : SqL K H a (x :: l) → a ∉ as → ts.length = l.length + 1 → (∀ (i : Nat) (y : V) (t : Str), (x :: l)[i]? = some y → ts[i]? = some t → Shw H as k y t) → (∀ b ∈ a :: as, b ∈ as') → k + 2 ≤ k' → Shw H as' k' (.ref a) (listText ts)
  | tuple {H as as' k k' a xs ts} : SqT K H a xs → a ∉ as → ts.length = xs.length → (∀ (i : Nat) (y : V) (t : Str), xs[i]? = some y → ts[i]? = some t → Shw H as k y t) → (∀ b ∈ a :: as, b ∈ as') → k + 2 ≤ k' → Shw H as' k' (.ref a) (tupleText ts)
  | dict {H H0 as as' k k' a kvs vts} : H0 a = none → H a = some (.dK kvs) → Same H0 H → a ∉ as → vts.length = kvs.length → (∀ (i : Nat) (kv : Key × V), kvs[i]? = some kv → keyFits kv.1) →
      (∀ (i : Nat) (kv : Key × V) (v : Str), kvs[i]? = some kv → vts[i]? = some v → Shw H0 as k kv.2 v) → (∀ b ∈ a :: as, b ∈ as') → k + 2 ≤ k' → Shw H as' k' (.ref a) (dictText (kvTxts kvs vts))
end
section
variable {X : Cx} {own : Hp → Addr → Str → Prop} {kO j : Nat} {C : Addr} {sp : Sp} {H H' : Hp} {as : List Addr} {k : Nat} {x : V} {t : Str} {K : PySem.W.Frag}
theorem get_two {α β : Type} {xs : List α} {ts : List β} (h : ts.length = xs.length) {i : Nat} {x : α} (e : xs[i]? = some x) : ∃ t, ts[i]? = some t := by
  have hi : i < xs.length := (List.getElem?_eq_some_iff.mp e).1
  exact ⟨ts[i], List.getElem?_eq_getElem (by omega)⟩
theorem kvTxts_get {kvs : List (Key × V)} {vts : List Str} {i : Nat} {kv : Key × V} {v : Str} (h1 : kvs[i]? = some kv) (h2 : vts[i]? = some v) : (kvTxts kvs vts)[i]? = some (kTxt kv.1 ++ ": " ++ v) := by
  unfold kvTxts
  rw [List.getElem?_zipWith, h1, h2]
theorem Shw.same (hs : ∀ {H H' a t}, own H a t → Same H H' → own H' a t) (h : Shw K own kO H as k x t) (s : Same H H') : Shw K own kO H' as k x t := by
  induction h generalizing H' with
  | non => exact .non
  | bl b => exact .bl b
  | int h => exact .int h
  | str h => exact .str h
  | own h hk => exact .own (hs h s) hk
  | list0 h => exact .list0 (s.seq h)
  | list h n l _ m hk ih => exact .list (s.seq h) n l (fun i y t h1 h2 => ih i y t h1 h2 s) m hk
  | tuple h n l _ m hk ih => exact .tuple (same_tup s h) n l (fun i y t h1 h2 => ih i y t h1 h2 s) m hk
  | dict h0 h s0 n l kf hv m hk _ => exact .dict h0 (s _ _ h) (s0.trans s) n l kf hv m hk
theorem Shw.more {as' : List Addr} {k' : Nat} (h : Shw K own kO H as k x t) (m' : ∀ a ∈ as, a ∈ as') (hk' : k ≤ k') : Shw K own kO H as' k' x t := by
  cases h with
  | non => exact .non
  | bl b => exact .bl b
  | int h => exact .int h
  | str h => exact .str h
  | own h hk => exact .own h (Nat.le_trans hk hk')
  | list0 h => exact .list0 h
  | list h n l ih m hk => exact .list h n l ih (fun b hb => m' b (m b hb)) (Nat.le_trans hk hk')
  | tuple h n l ih m hk => exact .tuple h n l ih (fun b hb => m' b (m b hb)) (Nat.le_trans hk hk')
  | dict h0 h s0 n l kf hv m hk => exact .dict h0 h s0 n l kf hv (fun b hb => m' b (m b hb)) (Nat.le_trans hk hk')
theorem Rp.key {σ : L2.St} {κ : Key} (h : keyFits κ) : Rp X σ H as k (kV κ) (kTxt κ) := by
  cases κ with
  | inl i => exact Rp.int h
  | inr z => exact Rp.str h
theorem Shw.rp (o : OwnX X own kO) (h : Shw X.K own kO H as k x t) (σ : L2.St) : Rp X σ H as k x t := by
  induction h with
  | non => exact Rp.non
  | bl b => exact Rp.bl
  | int h => exact Rp.int h
  | str h => exact Rp.str h
  | own h hk => exact (Rp.own o h).mono hk
  | list0 h => exact Rp.list0 h
  | list h n l _ m hk ih => exact ((Rp.list h n ⟨l, fun i y hy => (get_two l hy).elim fun t ht => ⟨t, ht, ih i y t hy ht⟩⟩).more m).mono hk
  | tuple h n l _ m hk ih => exact ((Rp.tuple h n ⟨l, fun i y hy => (get_two l hy).elim fun t ht => ⟨t, ht, ih i y t hy ht⟩⟩).more m).mono hk
  | dict h0 h s0 n l kf _ m hk ih =>
    refine ((Rp.dict h0 h s0 n ⟨?_, fun i kv hkv => ?_⟩).more m).mono hk
    · unfold kvTxts
      rw [List.length_zipWith]
      omega
    · obtain ⟨v, hv⟩ := get_two l hkv
      exact ⟨v, kvTxts_get hkv hv, Rp.key (kf i kv hkv), ih i kv v hkv hv⟩
/-- repr(x), x a value of any kind, where nothing guarded runs around -/
def rShw (K : PySem.W.Frag) (own : Hp → Addr → Str → Prop) (kO j : Nat) : List V → Hp → VK → Prop := fun xs H Q => ∃ x as k t, xs = [x] ∧ Shw K own kO H as k x t ∧ t.length ≤ sizeLine ∧ k + 3 ≤ j ∧ ∀ H2, Same H H2 → Q (.str t) H2
theorem repr_top (o : OwnX X own kO) (bare : Bare X.A) (h : Shw X.K own kO H as k x t) (hz : t.length ≤ sizeLine) {pins : List (Addr × Obj)} {σ : L2.St} {s : Shared} {Q : VK} {u : Value} (hr : L2H.RoomH (k + 3) X.A) (I : Inv X pins σ H s) (ru : RelV x u)
    (hq : ∀ H2, Same H H2 → Q (.str t) H2) : wpAny (model X.prog X.w) X.A (call (.builtin "repr") [u]) (EP X pins σ Q) X.xe s := by
  have fin : ∀ (s' : Shared) (H2 : Hp) (z : Tok), Inv X pins σ H2 s' → Same H H2 → EP X pins σ Q (.str t z) s' := fun s' H2 z I2 s2 => ⟨.str t, H2, I2, ⟨z, rfl⟩, hq H2 s2⟩
  have hu : X.A.units + 1 < cLine := by have := hr.un; omega
  have nr : Near X (k + 2) X.A.in1 := (Near.self hr).in1
  cases h with
  | non =>
    obtain rfl : u = Value.none := ru
    exact PySem.P.repr_of_none (fin _ _ _ (I.tok _) (Same.refl H))
  | bl b =>
    obtain rfl : u = Value.bool b := ru
    exact PySem.P.repr_of_bool (fin _ _ _ (I.tok _) (Same.refl H))
  | int hi =>
    obtain ⟨tk, rfl⟩ := ru
    exact PySem.P.repr_of_int hi (fin _ _ _ (I.tok _) (Same.refl H))
  | str _ =>
    obtain ⟨tk, rfl⟩ := ru
    exact PySem.P.repr_of_str (fin _ _ _ (I.tok _) (Same.refl H)) hz
  | own ho hk =>
    obtain ⟨C, f, dx, fs, e, at_, fn, run⟩ := o.run _ _ _ ho
    cases ru
    obtain ⟨mA, J, _⟩ := ins_get I.hok e
    obtain ⟨od, J, _⟩ := J.look
    obtain ⟨m, hF⟩ := I.fr
    exact PySem.W.repr_K hu hF I.ok.mod.kin J at_ fn (run X.A.in1 pins σ s H (nr.mono (by omega)) I (Same.refl H) _ _ fun s' H2 tk I2 s2 => fin s' H2 tk I2 s2)
  | list0 hl =>
    cases ru
    obtain ⟨its, rv, ⟨oa, na, ha, hc, _, hda⟩, _⟩ := I.list hl
    cases rv
    exact call_repr_slot hu ⟨oa, ha, hc⟩ F.slot_list_repr.toG (call_list_repr_empty ⟨oa, ha, hc⟩ ha hda ⟨_, _, rfl, fin _ H _ (I.tok _) (Same.refl H)⟩)
  | list hl n l ih m hk =>
    cases ru
    have hty := sq_type I hl
    refine call_repr_slot hu hty F.slot_list_repr.toG (wpAny_call (codeAny_call_builtin F.slot_list_repr.plain F.entry_list_repr (F.slot_list_repr.check _ _ _ _ _ _ _ _ hty (F.args_list_repr_1 _) ?_)))
    exact rp_list_at (σ := σ) (H := H) (b := 0) (R := callEnd _ _) hl (nr.mono (by omega)) bare (fun c _ => Clear.nil c) n ⟨l, fun i y hy => (get_two l hy).elim fun t ht => ⟨t, ht, (ih i y t hy ht).rp o σ⟩⟩ (by omega) I (Same.refl H)
      fun s' H2 z I2 s2 => ⟨_, _, rfl, fin s' H2 z I2 s2⟩
  | tuple hl n l ih m hk =>
    cases ru
    obtain ⟨its, rv, ⟨o', ha, hct, n', hd⟩, _⟩ := I.tuple hl
    refine call_repr_slot hu ⟨o', ha, hct⟩ F.slot_tuple_repr (wpAny_call (codeAny_call_builtin_own (Code.quiet_builtin _ (by decide +kernel)) F.entry_tuple_repr (F.slot_tuple_repr.check _ _ _ _ _ _ _ _ ⟨o', ha, hct⟩ (F.args_tuple_repr_1 _) ?_)))
    exact rp_tuple_at (σ := σ) (H := H) (b := 0) (R := callEnd _ _) (lit_tuple _ _) hl (nr.mono (by omega)) bare (fun c _ => Clear.nil c) n ⟨l, fun i y hy => (get_two l hy).elim fun t ht => ⟨t, ht, (ih i y t hy ht).rp o σ⟩⟩ (by omega) I (Same.refl H)
      fun s' H2 z I2 s2 => ⟨_, _, rfl, fin s' H2 z I2 s2⟩
  | dict h0 hl s0 n l kf ih m hk =>
    rename_i as1 k1 a1 kvs vts
    cases ru
    obtain ⟨_, _, vs, rv, o', es, n', ha, hx, _⟩ := dk_of I.hok hl
    refine call_repr_slot hu ⟨o', ha, hx.1⟩ F.slot_dict_repr (wpAny_call (codeAny_call_builtin_own (Code.quiet_builtin _ (by decide +kernel)) F.entry_dict_repr (F.slot_dict_repr.check _ _ _ _ _ _ _ _ ⟨o', ha, hx.1⟩ (F.args_dict_repr_1 _) ?_)))
    refine rp_dict_at (σ := σ) (b := 0) (R := callEnd _ _) (lit_dict _ _) h0 hl (nr.mono (j := k1 + 1) (by omega)) bare (fun c _ => Clear.nil c) n ⟨?_, fun i kv hkv => ?_⟩ (by omega) I s0
      fun s' H2 z I2 s2 => ⟨_, _, rfl, fin s' H2 z I2 s2⟩
    · unfold kvTxts
      rw [List.length_zipWith]
      omega
    · obtain ⟨v, hv⟩ := get_two l hkv
      exact ⟨v, kvTxts_get hkv hv, Rp.key (kf i kv hkv), (ih i kv v hkv hv).rp o σ⟩
/-- the def that shows own instances, where nothing is handled -/
structure OwnF (P : Program) (w : World) (K : PySem.W.Frag) (mg : Str → Option Value) (base : Heap) (own : Hp → Addr → Str → Prop) (kO : Nat) : Prop where
  ex : ∃ (C : Addr) (sp : Sp), DunF P w K mg base kO C "__repr__" sp ∧ ∀ H a t, own H a t → (∃ dx fs, H a = some (.ins C dx fs)) ∧ ∀ H1, Same H H1 → sp [.ref a] H1 (fun v H2 => v = .str t ∧ Same H1 H2) E0
theorem OwnF.at (o : OwnF X.prog X.w X.K X.mg X.base own kO) (cold : X.A.handled = none) : OwnX X own kO := by
  obtain ⟨C, sp, ⟨f, fd, ps, at_, fn, F, hb⟩, ho⟩ := o.ex
  refine ⟨fun H a t h => ?_⟩
  obtain ⟨⟨dx, fs, e⟩, q⟩ := ho H a t h
  refine ⟨C, f, dx, fs, e, at_, fn, fun A pins σ s H1 n I s1 Q E fin => ?_⟩
  have h1 := q H1 s1
  have hl := F.len _ _ _ _ h1
  have bind := hb s [.ref a] I.kIn (by simpa using hl)
  rw [List.append_nil] at bind
  have env : Env0 X.prog X.w X.K X.mg X.base A X.stack s H1 := { I.env0 with frames := n.fr.trans I.env0.frames }
  refine wpAny_call (codeAny_mono (F.run A X.stack s H1 ⟨[.ref a], []⟩ [.ref a] [.ref a] _ E0 ⟨n.hn.trans cold, n.room.dp, n.room.un⟩ env bind (.cons rfl .nil) h1) fun r s' hq => ?_)
  match r, hq with
  | .error e, hq => exact False.elim hq
  | .ok (.ret z), hq =>
    obtain ⟨v, H', I', rv, rfl, s2⟩ := I.after hq
    obtain ⟨tk, rfl⟩ := rv
    exact fin s' H' tk I' s2
  | .ok .next, hq => exact False.elim hq
  | .ok .brk, hq => exact False.elim hq
  | .ok .cont, hq => exact False.elim hq
/-- the same within an except suite -/
structure OwnH (P : Program) (w : World) (K : PySem.W.Frag) (mg : Str → Option Value) (base : Heap) (own : Hp → Addr → Str → Prop) (kO : Nat) : Prop where
  ex : ∃ (C f : Addr) (fd : FuncData) (ps : List Str) (sp : Sp), PySem.W.findIn K (.ref C) "__repr__" = some (some (.ref f)) ∧ PySem.W.isFn K (.ref f) = true ∧ L2H.FnH P w K mg base CX0 kO f fd ps sp ∧ Binds K fd ps [] ∧
    ∀ H a t, own H a t → (∃ dx fs, H a = some (.ins C dx fs)) ∧ ∀ H1, Same H H1 → sp [.ref a] H1 (fun v H2 => v = .str t ∧ Same H1 H2) E0
theorem OwnH.at (o : OwnH X.prog X.w X.K X.mg X.base own kO) (hot : L2H.HotC X) : OwnX X own kO := by
  obtain ⟨C, f, fd, ps, sp, at_, fn, F, hb, ho⟩ := o.ex
  obtain ⟨p, hp1, hp2⟩ := hot
  refine ⟨fun H a t h => ?_⟩
  obtain ⟨⟨dx, fs, e⟩, q⟩ := ho H a t h
  refine ⟨C, f, dx, fs, e, at_, fn, fun A pins σ s H1 n I s1 Q E fin => ?_⟩
  have h1 := q H1 s1
  have hl := F.len _ _ _ _ h1
  have bind := hb s [.ref a] I.kIn (by simpa using hl)
  rw [List.append_nil] at bind
  have env : Env0 X.prog X.w X.K X.mg X.base A X.stack s H1 := { I.env0 with frames := n.fr.trans I.env0.frames }
  obtain ⟨p1, p2, p3, p4, p5⟩ := I.pin p (List.mem_append_left _ hp2)
  have pin : L2H.PinOk X.stack H1 s p := ⟨p1, p2, fun m => (List.mem_cons.mp (I.stkSub p.1 m)).elim p3 p4, p5⟩
  refine wpAny_call (codeAny_mono (F.run A X.stack s H1 ⟨[.ref a], []⟩ [.ref a] [.ref a] _ E0 p n.room ⟨n.hn.trans hp1.1, hp1.2⟩ pin env bind (.cons rfl .nil) h1) fun r s' hq => ?_)
  match r, hq with
  | .error e, hq => exact False.elim hq
  | .ok (.ret z), hq =>
    obtain ⟨v, H', I', rv, rfl, s2⟩ := I.after hq
    obtain ⟨tk, rfl⟩ := rv
    exact fin s' H' tk I' s2
  | .ok .next, hq => exact False.elim hq
  | .ok .brk, hq => exact False.elim hq
  | .ok .cont, hq => exact False.elim hq
theorem call_reprX (o : OwnX X own kO) (bare : Bare X.A) (hr : L2H.RoomH j X.A) (hK : X.K = K := by rfl) : CallR X (.builtin "repr") (rShw K own kO j) := by
  subst hK
  intro pins s σ H xs us Q I r h
  obtain ⟨x, as, k, t, rfl, hs, hz, hk, q⟩ := h
  obtain ⟨u, rfl, ru⟩ := vals1 r
  exact repr_top o bare hs hz (hr.mono hk) I ru q
theorem call_reprS (o : OwnF X.prog X.w X.K X.mg X.base own kO) (bare : Bare X.A) (hr : Room j X.A) (hK : X.K = K := by rfl) : CallR X (.builtin "repr") (rShw K own kO j) := call_reprX (o.at hr.hd) bare (L2H.roomH_of hr) hK
end
/-- a class made with values by name; sp: its __init__ -/
structure MakK (P : Program) (w : World) (K : PySem.W.Frag) (mg : Str → Option Value) (base : Heap) (k : Nat) (x : Str) (C : Addr) (sp : Sp) (ks : List Str) (gV : List V → List V → List V) : Prop where
  ex : ∃ (f : Addr) (fd : FuncData) (ps : List Str) (g : List Value → List Value → List Value), Mk K C f ∧ FnOk P w K mg base CX0 k f fd ps sp ∧ mg x = some (.ref C) ∧ KBn K fd ps 1 ks g gV
theorem pe_mkk {X : Cx} {k j : Nat} {x : Str} {C : Addr} {sp : Sp} {ks : List Str} {gV : List V → List V → List V} {p pos : Pos} {kws : List Keyword} {tk : TA}
    (c : MakK X.prog X.w X.K X.mg X.base k x C sp ks gV) (hr : Room j X.A) (hk : k + 1 ≤ j) (hg : Gl X x) (hkw : PK X kws tk)
    (hall : (backToKw pos (keywordEach kws X.env)).all (·.1.isSome) = true := by rfl) (hks : (backToKw pos (keywordEach kws X.env)).filterMap (·.1) = ks := by rfl) (hdb : (x == ("__debug__" : Str)) = false := by decide)
    (hpl : ((backTo pos (starEach [] X.env)).any (·.1) || (backToKw pos (keywordEach kws X.env)).any (·.1.isNone)) = false := by rfl) :
    PE X (.Call (.Name x p) [] kws pos) (tMakeK C 0 ks.length sp gV E0 tNil tk) := by
  obtain ⟨f, fd, ps, g, M, F, hm, b⟩ := c.ex
  exact pe_makeK0 M F (hr.mono hk) hg hm b pass0 hkw hall hks hdb hpl
end MG

/-! own errors with their own __init__, raised, caught, read; calls in a try; things of any kind -/
namespace MG
open PySem PySem.Spec PyProof.Rows L2

theorem TyX.same {K : PySem.W.Frag} {H H' : Hp} {x : V} {t : Value} (h : TyX K H x t) (s : Same H H') : TyX K H' x t := by
  cases h with
  | base h =>
    cases h with
    | non => exact .base .non
    | bl x => exact .base (.bl x)
    | int i => exact .base (.int i)
    | str x => exact .base (.str x)
    | flt x => exact .base (.flt x)
    | lst e => exact .base (.lst (s _ _ e))
    | frz e => exact .base (.frz (s _ _ e))
    | tup e => exact .base (.tup (s _ _ e))
    | dK e => exact .base (.dK (s _ _ e))
    | dT e => exact .base (.dT (s _ _ e))
    | ins e cl ha hn htk hm => exact .base (.ins (s _ _ e) cl ha hn htk hm)
  | byt b => exact .byt b
  | set e => exact .set (s _ _ e)
  | kList e c => exact .kList e c
  | kTuple e c => exact .kTuple e c
  | kDict e c => exact .kDict e c
  | fTuple e => exact .fTuple (s _ _ e)
  | fDict e => exact .fDict (s _ _ e)

section
variable {X : Cx} {CX : CXT} {k : Nat} {f C : Addr} {fd : FuncData} {ps : List Str} {sp : Sp} {dvs : List V} {ds : List Value} {E : L2.St → XK} {x m : Str} {p pos apos : Pos} {e o : Expr} {es : List Expr} {ta : TE} {t : TA}
/-- C(..) in a try: what is raised is wished for at the slots -/
def tMakeS (C : Addr) (sp : Sp) (dvs : List V) (E : L2.St → XK) (t : TA) : TE := fun σ H Q => t σ H fun vs H1 => ∀ x dx, H1 x = none → H1 dx = none → dx ≠ x →
  sp (.ref x :: (vs ++ dvs)) (upd (upd H1 dx (.own x)) x (.ins C dx [])) (fun v H2 => v = .non ∧ Q (.ref x) H2) (E σ)
/-- o.m(..) in a try -/
def tMethS (C : Addr) (m : Str) (sp : Sp) (dvs : List V) (E : L2.St → XK) (ta : TE) (t : TA) : TE := fun σ H Q => ta σ H fun x H1 => ∃ a dx fs, x = .ref a ∧ H1 a = some (.ins C dx fs) ∧ fs.lookup m = none ∧
  t σ H1 fun vs H2 => sp (x :: (vs ++ dvs)) H2 Q (E σ)
theorem run_fnS' {pins : List (Addr × Obj)} {σ : L2.St} {H : Hp} {s : Shared} {Q : VK} {us : List Value} {vs : List V} (F : FnOk X.prog X.w X.K X.mg X.base CX k f fd ps sp) (hr : Room k X.A) (hb : Binds X.K fd ps ds) (hd : Vals dvs ds) (hx : PassesAt CX X σ (E σ))
    (I : Inv X pins σ H s) (r : Vals vs us) (h : sp (vs ++ dvs) H Q (E σ)) : wpAny (model X.prog X.w) X.A (call (.ref f) us) (EP X pins σ Q) X.xe s := by
  have r2 : Vals (vs ++ dvs) (us ++ ds) := r.append hd
  have hl : (us ++ ds).length = ps.length := by rw [← r2.length]; exact F.len _ _ _ _ h
  refine wpAny_call (codeAny_mono (F.run X.A X.stack s H ⟨us, []⟩ (us ++ ds) (vs ++ dvs) Q (E σ) hr I.env0 (hb s us I.kIn hl) r2 h) fun r s' hq => ?_)
  cases r with
  | error e => exact hx pins H s e s' I hq
  | ok fl =>
    cases fl with
    | ret u => exact I.after hq
    | next => exact False.elim hq
    | brk => exact False.elim hq
    | cont => exact False.elim hq
theorem pe_makeS (M : Mk X.K C f) (F : FnOk X.prog X.w X.K X.mg X.base CX k f fd ps sp) (hr : Room (k + 1) X.A) (hg : Gl X x) (hm : X.mg x = some (.ref C)) (hb : Binds X.K fd ps ds) (hd : Vals dvs ds) (hx : ∀ σ, PassesAt CX X σ (E σ))
    (ha : PA X (e :: es) t) (hdb : (x == ("__debug__" : Str)) = false := by decide) (he : starEach (e :: es) X.env = (false, eval e X.env) :: starEach es X.env := by rfl) (hpl : (backTo pos (starEach es X.env)).any (·.1) = false := by rfl) :
    PE X (.Call (.Name x p) (e :: es) [] pos) (tMakeS C sp dvs E t) := by
  refine ⟨fun pins s σ H Q I h => ?_⟩
  refine wpAny_Call_Name_kw (ld_glob I hg hm ?_ hdb)
  refine PySem.W.callWith_K (h₀ := X.base) I.ok.mod.kin M.kp (thn (ha.run pos pins s σ H _ I h) fun us s1 ⟨vs, H1, I1, r, q⟩ => ⟨I1.kIn, ?_⟩) he hpl
  have hq := q (s1.heap.objs.size + 1) s1.heap.objs.size (I1.hok.fresh (Nat.le_succ _)) (I1.hok.fresh (Nat.le_refl _)) (Nat.ne_of_lt (Nat.lt_succ_self _))
  have I2 := Inv.made (C := C) I1
  have r2 : Vals (V.ref (s1.heap.objs.size + 1) :: (vs ++ dvs)) (Value.ref (s1.heap.objs.size + 1) :: (us ++ ds)) := .cons rfl (r.append hd)
  have hl : (Value.ref (s1.heap.objs.size + 1) :: us ++ ds).length = ps.length := by
    have e := r2.length
    rw [F.len _ _ _ _ hq] at e
    exact e.symm
  refine wpAny_call (make_map (f := f) I1.kIn M.makes M.init (beq_iff_eq.mp M.fn) (codeAny_mono (F.run _ X.stack _ _ ⟨Value.ref (s1.heap.objs.size + 1) :: us, []⟩ (Value.ref (s1.heap.objs.size + 1) :: (us ++ ds)) _ _ (E σ) (hr.make C us [])
    (I2.env0.make C us []) (hb _ (Value.ref (s1.heap.objs.size + 1) :: us) I2.kIn hl) r2 hq) fun r s' hq' => ?_))
  cases r with
  | error e => exact hx σ pins _ _ e s' I2 hq'
  | ok fl =>
    cases fl with
    | ret u =>
      obtain ⟨v, H', I3, rv, ev, q3⟩ := I2.after hq'
      subst ev
      exact ⟨rv, ⟨V.ref (s1.heap.objs.size + 1), H', I3, rfl, q3⟩⟩
    | next => exact False.elim hq'
    | brk => exact False.elim hq'
    | cont => exact False.elim hq'
theorem pe_methS {pl : Sem Bool} (he : PE X o ta) (c : Cls X.K C) (hm : Meth X.K C m f) (F : FnOk X.prog X.w X.K X.mg X.base CX k f fd ps sp) (hr : Room k X.A) (hb : Binds X.K fd ps ds) (hd : Vals dvs ds) (hx : ∀ σ, PassesAt CX X σ (E σ)) (ha : PA X (e :: es) t)
    (hst : starEach (e :: es) X.env = (false, eval e X.env) :: starEach es X.env := by rfl) (hpl : (backTo pos (starEach es X.env)).any (·.1) = false := by rfl)
    (ht : eval (.Call (.Attribute o m apos) (e :: es) [] pos) X.env = (do
      let ov ← eval o X.env
      standAt apos.atName
      let (f, first) ← holding [ov] (getMethod ov m pl)
      callWith pos f first (backTo pos (starEach (e :: es) X.env)) (backToKw pos (keywordEach [] X.env))) := by rfl) :
    PE X (.Call (.Attribute o m apos) (e :: es) [] pos) (tMethS C m sp dvs E ta t) := by
  refine ⟨fun pins s σ H Q I h => ?_⟩
  refine PySem.W.methodCall_KW (pl := pl) (thn (he.run pins s σ H _ I h) fun u s1 ⟨x, H1, I1, rx, a, dx, fs, ex, ea, l, q⟩ => ?_) ht
  subst ex
  obtain rfl : u = Value.ref a := rx
  refine getmeth_ok I1 ea c hm l ?_
  refine PySem.W.callWith_K (first := [.ref a]) (h₀ := X.base) I.ok.mod.kin hm.kp (thn (ha.run pos pins s1 σ H1 _ I1 q) fun us s2 ⟨vs, H2, I2, r, q2⟩ => ⟨I2.kIn, ?_⟩) hst hpl
  exact run_fnS' (us := .ref a :: us) (vs := .ref a :: vs) F hr hb hd (hx σ) I2 (.cons rfl r) q2
end

/-! ### an error class with its own __init__: one field -/
def spXi (K : PySem.W.Frag) (C : Addr) (fl : Str) : Sp := fun vs H Q _ => ∃ (a : Addr) (y : V), vs = [.ref a, y] ∧ OexC K C ∧ PySem.W.findIn K (.ref C) fl = some none ∧ H a = some (exo a C none) ∧
  ∀ dx, H dx = none → dx ≠ a → Q .non (upd (upd H dx (exd dx [(fl, y)])) a (exo a C (some dx)))
/-- such a class, as those know it who raise it -/
structure ExcF (P : Program) (w : World) (K : PySem.W.Frag) (mg : Str → Option Value) (base : Heap) (k : Nat) (x : Str) (C : Addr) (fl : Str) : Prop where
  oex : OexC K C
  xf : XfC K C
  no : PySem.W.findIn K (.ref C) fl = some none
  g : mg x = some (.ref C)
  te : PySem.W.exmOne K (.ref C) (.ref C) = some true
  ex : ∃ (fI : Addr) (fd : FuncData) (ps : List Str), PySem.W.findIn K (.ref C) "__init__" = some (some (.ref fI)) ∧ PySem.W.typeIn K (.ref fI) = some (.type "function") ∧ FnOk P w K mg base CX0 k fI fd ps (spXi K C fl) ∧ Binds K fd ps []
section
variable {X : Cx} {k j : Nat} {C : Addr} {fl x : Str} {p pos : Pos} {e : Expr} {es : List Expr} {ta : TA}
/-- the error: its own dict d, new, holds the field -/
def tRx (C : Addr) (fl : Str) (ta : TA) : L2.St → Hp → XK → Prop := fun σ H Q => ta σ H fun vs H1 => ∃ y, vs = [y] ∧ ∀ d H', Same H1 H' → H1 d = none → H' d = some (.xd [(fl, y)]) → Q (.ref C) (some d) H'
theorem pmk_x (T : ExcF X.prog X.w X.K X.mg X.base k x C fl) (hr : Room j X.A) (hk : k + 1 ≤ j) (hg : Gl X x) (ha : PA X (e :: es) ta)
    (hdb : (x == ("__debug__" : Str)) = false := by decide) (he : starEach (e :: es) X.env = (false, eval e X.env) :: starEach es X.env := by rfl) (hpl : (backTo pos (starEach es X.env)).any (·.1) = false := by rfl) :
    L2N.PMk X (.Call (.Name x p) (e :: es) [] pos) (tRx C fl ta) := by
  intro pins s σ H Q I h
  obtain ⟨oex, xf, hno, hm, te, fI, fd, ps, iC, tI, F1, hb⟩ := T
  obtain ⟨nm, q, N, bs, bm, sn, sub, ab, col, dd, k0, k1, k2, k3, k5, hC, hbm⟩ := oex.cls
  refine wpAny_Call_Name_kw (ld_glob I hg hm ?_ hdb)
  refine PySem.W.callWith_K (h₀ := X.base) I.ok.mod.kin oex.kC (thn (ha.run pos pins s σ H _ I h) fun us s1 ⟨vs, H1, I1, r1, y, ev, q1⟩ => ⟨I1.kIn, ?_⟩) he hpl
  subst ev
  show wpAny _ _ (call (.ref C) us) _ _ _
  obtain ⟨hp, g, dr, tk, os⟩ := s1
  have hsz : hp.objs.size ≤ hp.objs.size + 1 := Nat.le_succ _
  have hn : H1 (hp.objs.size + 1) = none := I1.hok.fresh hsz
  have hq : spXi X.K C fl [.ref (hp.objs.size + 1), y] (upd H1 (hp.objs.size + 1) (exo (hp.objs.size + 1) C none))
      (fun v H2 => v = .non ∧ ∃ d, H2 (hp.objs.size + 1) = some (exo (hp.objs.size + 1) C (some d)) ∧ H2 d = some (exd d [(fl, y)]) ∧ H1 d = none ∧ Q (.ref C) (some d) (upd (del H2 (hp.objs.size + 1)) d (.xd [(fl, y)]))) (fun _ _ _ => False) := by
    refine ⟨_, y, rfl, oex, hno, upd_same, fun dx hdx ne => ⟨rfl, dx, upd_same, ?_, ?_, q1 dx _ ?_ ?_ ?_⟩⟩
    · rw [upd_ne ne, upd_same]
    · rw [upd_ne ne] at hdx
      exact hdx
    · intro b o hbo
      rw [upd_ne ne] at hdx
      rw [upd_ne (ne_of_none hbo hdx), del_ne (ne_of_none hbo hn), upd_ne (ne_of_none hbo hn), upd_ne (ne_of_none hbo hdx), upd_ne (ne_of_none hbo hn)]
      exact hbo
    · rw [upd_ne ne] at hdx
      exact hdx
    · exact upd_same
  have kk : ∀ b o, hp.get? b = some o → ((hp.push (PySem.W.kdv_tup us)).push (PySem.HandSPX.excO C hp.objs.size)).get? b = some o := fun b o e => Heap.get?_push_of_some _ (Heap.get?_push_of_some _ e)
  have hget : ((hp.push (PySem.W.kdv_tup us)).push (PySem.HandSPX.excO C hp.objs.size)).get? (hp.objs.size + 1) = some (PySem.HandSPX.excO C hp.objs.size) := by heap_get
  have I2 : Inv X pins σ (upd H1 (hp.objs.size + 1) (exo (hp.objs.size + 1) C none)) ⟨(hp.push (PySem.W.kdv_tup us)).push (PySem.HandSPX.excO C hp.objs.size), g, dr, tk, os⟩ :=
    I1.laid (t' := tk) (a := hp.objs.size + 1) (o := exo (hp.objs.size + 1) C none) (h' := (hp.push (PySem.W.kdv_tup us)).push (PySem.HandSPX.excO C hp.objs.size)) kk hsz (exo_ok hget)
  have r2 : Vals (V.ref (hp.objs.size + 1) :: [y]) (Value.ref (hp.objs.size + 1) :: us) := .cons rfl r1
  have hl : (Value.ref (hp.objs.size + 1) :: us ++ []).length = ps.length := by
    have e := r2.length
    have e2 := F1.len _ _ _ _ hq
    rw [List.append_nil, ← e]
    exact e2
  have hus : us.length ≤ sizeLine := by
    rw [← Paired.length r1, sizeLine_eq]
    show 1 ≤ _
    omega
  have b2 := hb _ (Value.ref (hp.objs.size + 1) :: us) I2.kIn hl
  rw [List.append_nil] at b2
  refine wpAny_call (PySem.HandSPX.call_own F.excBase_ValueError (fun Y => PySem.HandSPX.refsVE_contains Y bm hbm) (I1.kIn _ _ hC) (PySem.W.looks_findIn I1.kIn iC) (fun self => PySem.W.bind_fn I1.kIn self tI) hus
    (codeAny_mono (F1.run _ X.stack _ _ ⟨Value.ref (hp.objs.size + 1) :: us, []⟩ (Value.ref (hp.objs.size + 1) :: us) _ _ (fun _ _ _ => False) ((hr.mono hk).make C us []) (I2.env0.make C us []) b2 r2 hq) fun r s' hq' => ?_))
  cases r with
  | error er => exact False.elim hq'
  | ok fl' =>
    cases fl' with
    | ret u =>
      obtain ⟨v, H2, os2, bare2, un2, hok2, rv, ev, d, ea, ed, hd1, q2⟩ := hq'
      subst ev
      obtain ⟨h2, g2, d2, t2, os'⟩ := s'
      obtain ⟨t0, G, J, kG, ge, hoe, na⟩ := mk_end0 (d2 := d2) (t2 := t2) I1 hsz kk un2 hok2 os2 bare2 ea ed hd1
      exact ⟨rv, ⟨hp.objs.size + 1, _, _, ⟨G, g2, d2, t2, os'⟩, _, .ref C, some d, rfl, J, kG, ge, hoe, ⟨rfl, rfl, fun vs hv => by cases hv; rfl⟩, rfl, rfl, na, rfl, bare2, raises_own oex.exC oex.tyC, q2⟩⟩
    | next => exact False.elim hq'
    | brk => exact False.elim hq'
    | cont => exact False.elim hq'
theorem ps_raiseX {W : WX} {pos2 : Pos} (T : ExcF X.prog X.w X.K X.mg X.base k x C fl) (hr : Room j X.A) (hk : k + 1 ≤ j) (hc : X.calm = true) (tk : L2N.Takes X W) (hg : Gl X x) (ha : PA X (e :: es) ta)
    (hdb : (x == ("__debug__" : Str)) = false := by decide) (he : starEach (e :: es) X.env = (false, eval e X.env) :: starEach es X.env := by rfl) (hpl : (backTo pos (starEach es X.env)).any (·.1) = false := by rfl) :
    PS X (.Raise (some (.Call (.Name x p) (e :: es) [] pos)) none pos2) (fun _ σ H => tRx C fl ta σ H fun cls d H' => W cls d σ H') := L2N.ps_raise hc tk (pmk_x T hr hk hg ha hdb he hpl)
theorem takesN0 : L2N.Takes X (fun _ _ _ _ => False) := fun u s' ⟨_, _, _, _, _, _, _, _, _, _, _, _, _, _, _, _, w⟩ => w.elim
theorem hot_of {a : Addr} {oe : Obj} {cls : Value} {d : Option Addr} {pn : List (Addr × Obj)} (hz : L2N.Zn cls d oe) (hf : ∃ vs, oe.data = .fields vs) : L2H.HotC (X.suite a ((a, oe) :: pn)) := by
  obtain ⟨vs, e⟩ := hf
  exact ⟨(a, oe), ⟨rfl, vs, e, hz.2.2 vs e⟩, List.mem_cons_self⟩
end

/-- a class made by its name in a try; sp: its __init__, which may raise -/
structure MakX (P : Program) (w : World) (K : PySem.W.Frag) (mg : Str → Option Value) (base : Heap) (k : Nat) (x : Str) (C : Addr) (sp : Sp) : Prop where
  ex : ∃ (f : Addr) (fd : FuncData) (ps : List Str), Mk K C f ∧ FnOk P w K mg base (L2N.CX P w) k f fd ps sp ∧ mg x = some (.ref C) ∧ Binds K fd ps []
theorem pe_mkX {X : Cx} {W : WX} {k j : Nat} {x : Str} {C : Addr} {sp : Sp} {p pos : Pos} {e : Expr} {es : List Expr} {t : TA} (c : MakX X.prog X.w X.K X.mg X.base k x C sp) (hr : Room j X.A) (hk : k + 1 ≤ j) (tk : L2N.Takes X W) (hg : Gl X x) (ha : PA X (e :: es) t)
    (hdb : (x == ("__debug__" : Str)) = false := by decide) (he : starEach (e :: es) X.env = (false, eval e X.env) :: starEach es X.env := by rfl) (hpl : (backTo pos (starEach es X.env)).any (·.1) = false := by rfl) :
    PE X (.Call (.Name x p) (e :: es) [] pos) (tMakeS C sp [] (WE W) t) := by
  obtain ⟨f, fd, ps, M, F, hm, b⟩ := c.ex
  exact pe_makeS M F (hr.mono hk) hg hm b .nil (fun σ => L2N.passAt tk σ) ha hdb he hpl
/-- a method called in a try, which may raise -/
structure MetX (P : Program) (w : World) (K : PySem.W.Frag) (mg : Str → Option Value) (base : Heap) (k : Nat) (C : Addr) (m : Str) (sp : Sp) : Prop where
  ex : ∃ (f : Addr) (fd : FuncData) (ps : List Str), Meth K C m f ∧ FnOk P w K mg base (L2N.CX P w) k f fd ps sp ∧ Binds K fd ps []
theorem pe_metX {X : Cx} {W : WX} {k j : Nat} {C : Addr} {m : Str} {sp : Sp} {pos apos : Pos} {o : Expr} {e : Expr} {es : List Expr} {ta : TE} {t : TA} {pl : Sem Bool} (c : MetX X.prog X.w X.K X.mg X.base k C m sp) (cl : Cls X.K C) (hr : Room j X.A) (hk : k ≤ j) (tk : L2N.Takes X W) (he : PE X o ta) (ha : PA X (e :: es) t)
    (hst : starEach (e :: es) X.env = (false, eval e X.env) :: starEach es X.env := by rfl) (hpl : (backTo pos (starEach es X.env)).any (·.1) = false := by rfl)
    (ht : eval (.Call (.Attribute o m apos) (e :: es) [] pos) X.env = (do
      let ov ← eval o X.env
      standAt apos.atName
      let (f, first) ← holding [ov] (getMethod ov m pl)
      callWith pos f first (backTo pos (starEach (e :: es) X.env)) (backToKw pos (keywordEach [] X.env))) := by rfl) :
    PE X (.Call (.Attribute o m apos) (e :: es) [] pos) (tMethS C m sp [] (WE W) ta t) := by
  obtain ⟨f, fd, ps, M, F, b⟩ := c.ex
  exact pe_methS (pl := pl) he cl M F (hr.mono hk) b .nil (fun σ => L2N.passAt tk σ) ha hst hpl ht

/-- a def of the module as it is called within an except suite -/
theorem fun_okH {P : Program} {w : World} {K : PySem.W.Frag} {mg : Str → Option Value} {base : Heap} {x qual : Str} {st : Stmt} {f : Addr} {fd : FuncData} {N ps : List Str} {k : Nat} {sp : Sp} (F : Fun K x qual st f fd) (S : FnScope N ps (defScope st)) (len : ∀ vs H Q E, sp vs H Q E → vs.length = ps.length)
    (hbody : ∀ (cdv : Value) (A : Around) (outer : List Env) (s : Shared) (H : Hp) (vs : List V) (Q : VK) (E : XK) (p : Addr × Obj), L2H.RoomH k (A.deeper (envOfC qual (defScope st) s.heap.objs.size f cdv)) → sp vs H Q E →
      ∃ t, PSs (L2H.cxH CX0 P w K mg base N qual (defScope st) f cdv A outer s H E p).nox (defBody st) t ∧ t { nx := fun _ H' => Q .non H', rt := Q } (start N vs) H) : L2H.FnH P w K mg base CX0 (k + 1) f fd ps sp := by
  obtain ⟨oc, od, kV, doc, pm, an, cdv, ct, osl, rfl, lk, hcd⟩ := F.ex
  refine L2H.fn_ofH lk hcd S len ?_
  intro A outer s H vs Q E p hot hr hsp
  obtain ⟨t, h, q⟩ := hbody cdv A outer s H vs Q E p hr hsp
  exact ⟨t, h.nox, q⟩

/-! ### the heap without q -/
def hid (q : Addr) (H : Hp) : Hp := fun b => if b = q then none else H b
theorem hid_same (q : Addr) (H : Hp) : Same (hid q H) H := fun b o h => by
  unfold hid at h
  split at h
  · cases h
  · exact h
theorem hid_keep {q : Addr} {H H' : Hp} (k : Keep q H H') : Same (hid q H) (hid q H') := fun b o h => by
  unfold hid at *
  by_cases e : b = q
  · rw [if_pos e] at h; cases h
  · rw [if_neg e] at h ⊢
    exact k b o h e
theorem hid_ne {q b : Addr} {H : Hp} (h : b ≠ q) : hid q H b = H b := if_neg h

/-! ### the sizes of texts -/
/-- printable signs -/
def Asc (z : Str) : Prop := ∀ c ∈ z.cps.toList, 32 ≤ c ∧ c ≤ 126
theorem asc_lt : ∀ c, c < 127 → 32 ≤ c → ((PySem.Builtin.Str.reprChar 34 c).all (fun d => decide (32 ≤ d ∧ d ≤ 126)) && (PySem.Builtin.Str.reprChar 39 c).all (fun d => decide (32 ≤ d ∧ d ≤ 126))) = true := by decide +kernel
theorem asc_repr {z : Str} (h : Asc z) : Asc (reprText z) := by
  have hq : reprQuote z = 34 ∨ reprQuote z = 39 := by
    unfold reprQuote
    split
    · exact .inl rfl
    · exact .inr rfl
  have ch : ∀ c ∈ z.cps.toList, ∀ d ∈ PySem.Builtin.Str.reprChar (reprQuote z) c, 32 ≤ d ∧ d ≤ 126 := fun c hc d hd => by
    have h1 := asc_lt c (by have := (h c hc).2; omega) (h c hc).1
    rw [Bool.and_eq_true] at h1
    rcases hq with e | e
    · rw [e] at hd
      exact of_decide_eq_true (List.all_eq_true.mp h1.1 d hd)
    · rw [e] at hd
      exact of_decide_eq_true (List.all_eq_true.mp h1.2 d hd)
  have qq : 32 ≤ reprQuote z ∧ reprQuote z ≤ 126 := by rcases hq with e | e <;> rw [e] <;> decide
  have key : ∀ (l : List Nat) (acc : Array Nat), (∀ c ∈ l, ∀ d ∈ PySem.Builtin.Str.reprChar (reprQuote z) c, 32 ≤ d ∧ d ≤ 126) → (∀ d ∈ acc.toList, 32 ≤ d ∧ d ≤ 126) → ∀ d ∈ (l.foldl (fun out c => out ++ (PySem.Builtin.Str.reprChar (reprQuote z) c).toArray) acc).toList, 32 ≤ d ∧ d ≤ 126 := by
    intro l
    induction l with
    | nil => intro acc _ ha; exact ha
    | cons c l ih =>
      intro acc hl ha
      refine ih _ (fun c' hc' => hl c' (List.mem_cons_of_mem _ hc')) fun d hd => ?_
      rw [Array.toList_append] at hd
      rcases List.mem_append.mp hd with hd | hd
      · exact ha d hd
      · exact hl c List.mem_cons_self d (by simpa using hd)
  intro d hd
  unfold reprText at hd
  have hd' : d ∈ ((z.cps.foldl (fun out c => out ++ (PySem.Builtin.Str.reprChar (reprQuote z) c).toArray) #[reprQuote z]).push (reprQuote z)).toList := hd
  rw [Array.toList_push, ← Array.foldl_toList] at hd'
  rcases List.mem_append.mp hd' with hd | hd
  · exact key _ _ ch (fun d hd => by
      have e : d = reprQuote z := by simpa using hd
      rw [e]; exact qq) d hd
  · have e : d = reprQuote z := by simpa using hd
    rw [e]; exact qq
theorem asc_ok {z : Str} (h : Asc z) : PyData.strOk z = true := by
  unfold PyData.strOk
  rw [← Array.all_toList, List.all_eq_true]
  intro c hc
  have := (h c hc).2
  exact decide_eq_true (by omega)
theorem asc_append {x y : Str} (hx : Asc x) (hy : Asc y) : Asc (x ++ y) := fun c hc => by
  have e : (x ++ y).cps = x.cps ++ y.cps := rfl
  rw [e, Array.toList_append] at hc
  rcases List.mem_append.mp hc with h | h
  · exact hx c h
  · exact hy c h

/-! ### a short text times a small number -/
def mulT (x : Str) (n : Int) : Str := if n < 1 then Str.empty else if (n == 1 || x.length == 0) = true then x else ⟨(List.replicate n.toNat x.cps).foldl (· ++ ·) #[]⟩
theorem rep_fold (x : Array Nat) : ∀ (n : Nat) (acc : Array Nat), ((List.replicate n x).foldl (· ++ ·) acc).size = acc.size + n * x.size ∧ ∀ c ∈ ((List.replicate n x).foldl (· ++ ·) acc).toList, c ∈ acc.toList ∨ c ∈ x.toList
  | 0, acc => ⟨by simp, fun c hc => .inl hc⟩
  | n + 1, acc => by
    obtain ⟨h1, h2⟩ := rep_fold x n (acc ++ x)
    rw [List.replicate_succ, List.foldl_cons]
    refine ⟨?_, fun c hc => ?_⟩
    · rw [h1, Array.size_append, Nat.add_mul]
      omega
    · rcases h2 c hc with h | h
      · rw [Array.toList_append] at h
        rcases List.mem_append.mp h with h | h
        · exact .inl h
        · exact .inr h
      · exact .inr h
theorem mulT_asc {x : Str} {n : Int} (h : Asc x) : Asc (mulT x n) := by
  unfold mulT
  split
  · intro c hc
    cases hc
  · split
    · exact h
    · intro c hc
      rcases (rep_fold x.cps n.toNat #[]).2 c hc with z | z
      · cases z
      · exact h c z
theorem mulT_len {x : Str} {n : Int} : (mulT x n).length ≤ n.toNat * x.length := by
  unfold mulT
  split
  · exact Nat.zero_le _
  · split
    · rename_i h1 h2
      exact Nat.le_mul_of_pos_left _ (by omega)
    · have h := (rep_fold x.cps n.toNat #[]).1
      show ((List.replicate n.toNat x.cps).foldl (· ++ ·) #[]).size ≤ n.toNat * x.cps.size
      rw [h]
      simp
theorem op_mulStr {X : Cx} : OpR X (binaryOp .Mult) (fun x y H Q => ∃ i n, x = .str i ∧ y = .int n ∧ 0 ≤ n ∧ n ≤ 1000 ∧ i.length ≤ 1000 ∧ Q (.str (mulT i n)) H) := by
  intro pins s σ H x y v u Q I rx ry h
  obtain ⟨i, n, rfl, rfl, h0, h1, hz, q⟩ := h
  obtain ⟨t, rfl⟩ := rx
  obtain ⟨t', rfl⟩ := ry
  have hb : n.toNat ≤ 1000 := by omega
  have hp : i.length * n.toNat ≤ 1000 * 1000 := Nat.mul_le_mul hz hb
  have hle := mulT_len (x := i) (n := n)
  rw [Nat.mul_comm] at hle
  have hline : 1000000 ≤ sizeLine := by decide
  refine PySem.P.mul_str ?_ ?_ ?_ ?_
  · rw [decide_eq_false (by omega : ¬ n < -(2 ^ 63 : Int)), decide_eq_false (by omega : ¬ n ≥ 2 ^ 63)]
    rfl
  · intro hn _ hc
    have h3 : (1000 : Int) ≤ (2 ^ 63 - 1) / n := by
      refine (Int.le_ediv_iff_mul_le (by omega)).mpr ?_
      omega
    omega
  · intro _ _
    unfold PySem.Builtin.Str.tooLong
    exact decide_eq_false (by omega)
  · unfold mulT at q hle
    by_cases c1 : n < 1
    · rw [if_pos c1] at q hle ⊢
      exact ⟨by decide, .str _, H, I.tok _, ⟨_, rfl⟩, q⟩
    · rw [if_neg c1] at q hle ⊢
      by_cases c2 : (n == 1 || i.length == 0) = true
      · rw [if_pos c2] at q ⊢
        exact ⟨.str i, H, I, ⟨_, rfl⟩, q⟩
      · rw [if_neg c2] at q hle ⊢
        exact ⟨by omega, .str _, H, I.tok _, ⟨_, rfl⟩, q⟩

section
variable {X : Cx} {x n : Str} {c : Value} {i : Nat} {body suite : List Stmt} {b₀ : Stmt} {np pos pos' : Pos} {tb : WX → TS} {ts : Addr → Value → Option Addr → TS} {Wout : WX}
/-- try .. except, what is raised said once for all ways -/
theorem ps_try_cut (hs : X.stack = X.env :: X.outer) (hf : X.env.frame = some X.env.locals) (hN : X.N.Nodup) (hi : X.N[i]? = some n) (hln : X.env.kindOf n = some .local) (hc : Names X x c) (tk : L2N.Takes X Wout)
    (hb : ∀ (W : WX) (pn : List (Addr × Obj)) (xe : Value → Shared → Prop), L2N.Takes (X.tr pn xe) W → PassesOwn (model X.prog X.w) X.A X.env xe → PSs (X.tr pn xe) body (tb W))
    (hsu : ∀ (a : Addr) (oe : Obj) (cls : Value) (d : Option Addr) (pn : List (Addr × Obj)), L2N.Zn cls d oe → (∃ vs, oe.data = .fields vs) → PSs (X.suite a ((a, oe) :: pn)) (b₀ :: suite) (ts a cls d)) :
    PS X (.Try body [.ExceptHandler (some (.Name x np)) (some n) (b₀ :: suite) pos'] [] [] pos) (fun D σ H => ∃ Ce : WX, (∀ cls d σ' H', Ce cls d σ' H' → wAs X.K c i ts Wout D cls d σ' H') ∧ tb Ce D σ H) :=
  L2N.ps_try_as (tb := fun W D σ H => ∃ Ce : WX, (∀ cls d σ' H', Ce cls d σ' H' → W cls d σ' H') ∧ tb Ce D σ H) hs hf hN hi hln hc tk
    (fun W pn xe tk po => ⟨fun pins s σ H D I ⟨Ce, imp, h⟩ => (hb Ce pn xe (tk.imp imp) po).run pins s σ H D I h⟩) hsu
end

/-- a def that may raise -/
theorem fun_okN {P : Program} {w : World} {K : PySem.W.Frag} {mg : Str → Option Value} {base : Heap} {x qual : Str} {st : Stmt} {f : Addr} {fd : FuncData} {N ps : List Str} {k : Nat} {sp : Sp} (F : Fun K x qual st f fd) (S : FnScope N ps (defScope st)) (len : ∀ vs H Q E, sp vs H Q E → vs.length = ps.length)
    (hbody : ∀ (cdv : Value) (A : Around) (outer : List Env) (s : Shared) (H : Hp) (vs : List V) (Q : VK) (E : XK), Room k (A.deeper (envOfC qual (defScope st) s.heap.objs.size f cdv)) → sp vs H Q E →
      ∃ t, PSs (cxOf (L2N.CX P w) P w K mg base N qual (defScope st) f cdv A outer s H E) (defBody st) t ∧ t { nx := fun _ H' => Q .non H', rt := Q } (start N vs) H) : FnOk P w K mg base (L2N.CX P w) (k + 1) f fd ps sp := by
  obtain ⟨oc, od, kV, doc, pm, an, cdv, ct, osl, rfl, lk, hcd⟩ := F.ex
  exact fn_of lk hcd S len fun A outer s H vs Q E hr hsp => hbody cdv A outer s H vs Q E hr hsp
end MG

/-! classmethods called in a try, by a keyword; a class called by a local name -/
namespace MG
open PySem PySem.Spec PyProof.Rows L2 ClX
section
variable {X : Cx} {CX : CXT} {k j : Nat} {C p g : Addr} {m : Str} {mc : Value} {sp : Sp} {o e : Expr} {es : List Expr} {pos apos : Pos} {ta : TE} {t : TA} {pl : Sem Bool}
theorem after_cm {pins : List (Addr × Obj)} {σ : L2.St} {H : Hp} {s : Shared} {q : Addr} {Q : VK} {E : XK} {us : List Value} {kw : List (Str × Value)} (I : Inv X ((q, PySem.W.methodObj (.ref g) (.ref C)) :: pins) σ H s) (hx : PassesAt CX X σ E)
    (run : codeAny (model X.prog X.w) X.A (.call (.ref g) ⟨.ref C :: us, kw⟩) (CR CX X.stack X.prog X.w H s Q E) s) : wpAny (model X.prog X.w) X.A (call (.ref q) us kw) (EP X pins σ Q) X.xe s := by
  have z : wpAny (model X.prog X.w) X.A (call (.ref q) us kw) (EP X ((q, PySem.W.methodObj (.ref g) (.ref C)) :: pins) σ Q) X.xe s := by
    refine wpAny_call (PySem.W.method_call (pin_at I) (codeAny_mono run fun r s' hq => ?_))
    match r, hq with
    | .error er, hq => exact hx _ H s er s' I hq
    | .ok (.ret u), hq => exact I.after hq
    | .ok .next, hq => exact False.elim hq
    | .ok .brk, hq => exact False.elim hq
    | .ok .cont, hq => exact False.elim hq
  exact thn z fun _ _ y => unpinE y
/-- C.m(..), m a classmethod that may raise, in a try -/
def tCMetS (C : Addr) (sp : Sp) (E : L2.St → XK) (ta : TE) (t : TA) : TE := fun σ H Q => ta σ H fun x H1 => x = .ref C ∧ t σ H1 fun vs H2 => sp (.ref C :: vs) H2 Q (E σ)
structure CmtX (P : Program) (w : World) (K : PySem.W.Frag) (mg : Str → Option Value) (base : Heap) (k : Nat) (C : Addr) (m : Str) (sp : Sp) : Prop where
  ex : ∃ (p g : Addr) (mc : Value) (fd : FuncData) (ps : List Str), CRead K C mc ∧ CMet K C mc m p g ∧ FnOk P w K mg base (L2N.CX P w) k g fd ps sp ∧ Binds K fd ps []
theorem pe_cmtX {W : WX} (c : CmtX X.prog X.w X.K X.mg X.base k C m sp) (hr : Room j X.A) (hk : k ≤ j) (tk : L2N.Takes X W) (he : PE X o ta) (ha : PA X (e :: es) t)
    (hst : starEach (e :: es) X.env = (false, eval e X.env) :: starEach es X.env := by rfl) (hpl : (backTo pos (starEach es X.env)).any (·.1) = false := by rfl)
    (ht : eval (.Call (.Attribute o m apos) (e :: es) [] pos) X.env = (do
      let ov ← eval o X.env
      standAt apos.atName
      let (f, first) ← holding [ov] (getMethod ov m pl)
      callWith pos f first (backTo pos (starEach (e :: es) X.env)) (backToKw pos (keywordEach [] X.env))) := by rfl) :
    PE X (.Call (.Attribute o m apos) (e :: es) [] pos) (tCMetS C sp (WE W) ta t) := by
  obtain ⟨p, g, mc, fd, ps, r, cm, F, b⟩ := c.ex
  refine ⟨fun pins s σ H Q I h => ?_⟩
  refine PySem.W.methodCall_KW (pl := pl) (thn (he.run pins s σ H _ I h) fun u s1 ⟨x, H1, I1, rx, ex, q⟩ => ?_) ht
  subst ex
  obtain rfl : u = Value.ref C := rx
  refine getmethcm_ok I1 r cm fun s2 I2 => ?_
  refine callwith_cm I2 (base_none I1 (Nat.le_refl _)) cm.fi (thn (ha.run pos _ s2 σ H1 _ I2 q) fun us s3 ⟨vs, H2, I3, rv, q2⟩ => ⟨⟨pin_at I3, I3.kIn⟩, ?_⟩) hst hpl
  have q3 : sp (.ref C :: vs ++ []) H2 Q (WE W σ) := by rw [List.append_nil]; exact q2
  exact after_cm I3 (L2N.passAt tk σ) ((F.raw b .nil) X.A X.stack s3 H2 (.ref C :: us) (.ref C :: vs) Q (WE W σ) (hr.mono hk) I3.env0 (.cons rfl rv) q3)
/-- C.m(k = v), where nothing is raised -/
def tCMetK (C : Addr) (sp : Sp) (n : Nat) (gV : List V → List V → List V) (ta : TE) (tk : TA) : TE := fun σ H Q => ta σ H fun x H1 => x = .ref C ∧ tk σ H1 fun zs H2 => zs.length = n ∧ sp (gV [.ref C] zs) H2 Q (fun _ _ _ => False)
structure CmtK (P : Program) (w : World) (K : PySem.W.Frag) (mg : Str → Option Value) (base : Heap) (k : Nat) (C : Addr) (m : Str) (sp : Sp) (ks : List Str) (gV : List V → List V → List V) : Prop where
  ex : ∃ (p g : Addr) (mc : Value) (fd : FuncData) (ps : List Str) (gf : List Value → List Value → List Value), CRead K C mc ∧ CMet K C mc m p g ∧ FnOk P w K mg base (L2N.CX P w) k g fd ps sp ∧ KBn K fd ps 1 ks gf gV
theorem passF {σ : L2.St} : PassesAt (L2N.CX X.prog X.w) X σ (fun _ _ _ => False) := fun _ _ _ _ _ _ ⟨_, _, _, _, _, _, _, _, _, _, _, _, z⟩ => z.elim
theorem pe_cmtK {kws : List Keyword} {ks : List Str} {gV : List V → List V → List V} {tk : TA} (c : CmtK X.prog X.w X.K X.mg X.base k C m sp ks gV) (hr : Room j X.A) (hk : k ≤ j) (he : PE X o ta) (hkw : PK X kws tk)
    (hall : (backToKw pos (keywordEach kws X.env)).all (·.1.isSome) = true := by rfl) (hks : (backToKw pos (keywordEach kws X.env)).filterMap (·.1) = ks := by rfl)
    (hpl : ((backTo pos (starEach [] X.env)).any (·.1) || (backToKw pos (keywordEach kws X.env)).any (·.1.isNone)) = false := by rfl)
    (ht : eval (.Call (.Attribute o m apos) [] kws pos) X.env = (do
      let ov ← eval o X.env
      standAt apos.atName
      let (f, first) ← holding [ov] (getMethod ov m pl)
      callWith pos f first (backTo pos (starEach [] X.env)) (backToKw pos (keywordEach kws X.env))) := by rfl) :
    PE X (.Call (.Attribute o m apos) [] kws pos) (tCMetK C sp ks.length gV ta tk) := by
  obtain ⟨p, g, mc, fd, ps, gf, r, cm, F, b⟩ := c.ex
  refine ⟨fun pins s σ H Q I h => ?_⟩
  refine PySem.W.methodCall_KW (pl := pl) (thn (he.run pins s σ H _ I h) fun u s1 ⟨x, H1, I1, rx, ex, q⟩ => ?_) ht
  subst ex
  obtain rfl : u = Value.ref C := rx
  refine getmethcm_ok I1 r cm fun s2 I2 => ?_
  refine PySem.W.callWith_of (P := PySem.W.MethP X.K s1.heap.objs.size g (.ref C)) hpl (PySem.W.keeps_M cm.fi) (PyProof.Rows.evalArgs_kw2_nil hall (thn (hkw.run pos _ s2 σ H1 _ I2 q) fun ws s3 ⟨zs, H2, I3, rz, hl, q2⟩ => ⟨⟨pin_at I3, I3.kIn⟩, ?_⟩))
  rw [hks]
  have hlw : ws.length = ks.length := rz.length.symm.trans hl
  exact after_cm I3 passF (F.run X.A X.stack s3 H2 ⟨.ref C :: [], ks.zip ws⟩ (gf [.ref C] ws) (gV [.ref C] zs) Q _ (hr.mono hk) I3.env0 (b.to s3 [.ref C] ws I3.kIn rfl hlw) (b.rel (.cons rfl .nil) rz) q2)
/-- cls(..), the class in slot i -/
def tMakeL (i : Nat) (C : Addr) (sp : Sp) (dvs : List V) (t : TA) : TE := fun σ H Q => σ[i]? = some (some (.ref C)) ∧ tMake C sp dvs E0 t σ H Q
theorem pe_mkL {y x : Str} {i : Nat} {q : Pos} {dvs : List V} (c : MakF X.prog X.w X.K X.mg X.base k y C sp dvs) (hr : Room j X.A) (hk : k + 1 ≤ j) (hN : X.N[i]? = some x) (hv : Vis X.env.scope x) (ha : PA X (e :: es) t)
    (hdb : (x == ("__debug__" : Str)) = false := by decide) (hcd : (x == ("__classdict__" : Str)) = false := by decide)
    (he : starEach (e :: es) X.env = (false, eval e X.env) :: starEach es X.env := by rfl) (hpl : (backTo pos (starEach es X.env)).any (·.1) = false := by rfl) : PE X (.Call (.Name x q) (e :: es) [] pos) (tMakeL i C sp dvs t) := by
  obtain ⟨f, fd, ps, ds, M, F, hm, b, d⟩ := c.ex
  refine ⟨fun pins s σ H Q I h => ?_⟩
  obtain ⟨hs, ht⟩ := h
  refine wpAny_Call_Name_kw (thn ((pe_var (pos := q) hN hv hdb hcd).run pins s σ H (fun v H1 => v = .ref C ∧ H1 = H) I ⟨.ref C, hs, rfl, rfl⟩) fun u s1 ⟨v, H1, I1, r1, q1⟩ => ?_)
  obtain ⟨rfl, rfl⟩ := q1
  cases r1
  refine PySem.W.callWith_K (h₀ := X.base) I.ok.mod.kin M.kp (thn (ha.run pos pins s1 σ _ _ I1 ht) fun us s2 ⟨vs, H2, I2, r, q⟩ => ⟨I2.kIn, ?_⟩) he hpl
  exact run_make M F (hr.mono hk) b d pass0 I2 r q
end

/-! ### comprehensions over a text -/
theorem lc_str {x : Str} {g : TG} {tt : TT} {te : TE} {vs : List Nat} {σ : L2.St} {H1 : Hp} {D : Addr} {Qd : Hp → Prop} (Pv : Nat → Hp → Prop) (h0 : Pv 0 (upd H1 D (.lst [])))
    (hs : ∀ i c H, x.cps[i]? = some c → Pv i H → g (.str ⟨#[c]⟩) (wipe σ vs) H fun σ2 H2 => wipe σ2 vs = wipe σ vs ∧ tt σ2 H2 fun b H3 =>
      if b = true then te σ2 H3 fun y H4 => ∃ acc, H4 D = some (.lst acc) ∧ acc.length < sizeLine ∧ Pv (i + 1) (upd H4 D (.lst (acc ++ [y]))) else Pv (i + 1) H3) (hd : ∀ H, Pv x.cps.size H → Qd H) :
    ∃ W : Nat → Nat → Hp → Prop, (∃ m, W 0 m (upd H1 D (.lst []))) ∧ ∀ i m H, W i m H →
      ((Its x).stop i H ∧ Qd H) ∨ ((Its x).go i H ∧ ∃ Nx : Hp → Prop, (∀ H', Nx H' → ∃ m', m' < m ∧ W (i + 1) m' H') ∧ ∀ v H', (Its x).yld i H v H' → g v (wipe σ vs) H' fun σ2 H2 => wipe σ2 vs = wipe σ vs ∧ tt σ2 H2 fun b H3 =>
        if b = true then te σ2 H3 fun y H4 => ∃ acc, H4 D = some (.lst acc) ∧ acc.length < sizeLine ∧ Nx (upd H4 D (.lst (acc ++ [y]))) else Nx H3) := by
  refine ⟨fun i m H => m = x.cps.size - i ∧ i ≤ x.cps.size ∧ Pv i H, ⟨x.cps.size, by simp, Nat.zero_le _, h0⟩, ?_⟩
  rintro i m H ⟨rfl, hi, p⟩
  by_cases hlt : i < x.cps.size
  · refine .inr ⟨hlt, Pv (i + 1), fun H' p' => ⟨x.cps.size - (i + 1), by omega, rfl, hlt, p'⟩, fun v H' y => ?_⟩
    obtain ⟨rfl, c, e, rfl⟩ := y
    exact hs i c _ e p
  · have e : i = x.cps.size := by omega
    subst e
    exact .inl ⟨Nat.le_refl _, hd H p⟩
/-- [e for c in z], c in slot j: ys are the items of the new list -/
def tMapS (j : Nat) (tl te : TE) : TE := fun σ H Q => tl σ H fun x H1 => ∃ (z : Str) (ys : List V), x = .str z ∧ ys.length = z.length ∧ z.length ≤ 100000 ∧
  (∀ (i : Nat) (c : Nat) (y : V) (H' : Hp), z.cps[i]? = some c → ys[i]? = some y → Same H1 H' → te ((σ.set j none).set j (some (.str ⟨#[c]⟩))) H' fun v H'' => v = y ∧ Same H' H'') ∧
  ∀ D H', Same H1 H' → H1 D = none → H' D = some (.lst ys) → Q (.ref D) H'
theorem map_coreS {te : TE} {j : Nat} {σ : L2.St} {H1 : Hp} {Q : VK} {z : Str} {ys : List V} (hn : ys.length = z.length) (hs : z.length ≤ 100000)
    (he : ∀ (i : Nat) (c : Nat) (y : V) (H' : Hp), z.cps[i]? = some c → ys[i]? = some y → Same H1 H' → te ((σ.set j none).set j (some (.str ⟨#[c]⟩))) H' fun v H'' => v = y ∧ Same H' H'')
    (k : ∀ D H', Same H1 H' → H1 D = none → H' D = some (.lst ys) → Q (.ref D) H') :
    tLc (fun _ H R => R (Its z) H) (gName j) tYes (tCut te) [j] σ H1 Q := by
  intro D hD
  refine lc_str (x := z) (fun i H' => Same H1 H' ∧ H' D = some (.lst (ys.take i))) ⟨fun c u h => by rw [upd_ne (ne_of_none h hD)]; exact h, upd_same⟩ ?_ ?_
  · rintro i c H' hi ⟨s, e⟩
    have hi2 : i < z.cps.size := (Array.getElem?_eq_some_iff.mp hi).1
    have hn' : ys.length = z.cps.size := hn
    have hy : ys[i]? = some ys[i] := List.getElem?_eq_getElem (by omega)
    refine ⟨wipe_one, _, he i c _ H' hi hy s, ?_⟩
    rintro v H2 ⟨rfl, s2⟩
    refine ⟨_, s2 _ _ e, ?_, ?_, ?_⟩
    · rw [List.length_take]
      exact Nat.lt_of_le_of_lt (m := 100000) (by omega) (by decide)
    · intro c o hc
      rw [upd_ne (ne_of_none hc hD)]
      exact s2 _ _ (s _ _ hc)
    · rw [upd_same, take_one hy]
  · rintro H' ⟨s, e⟩
    have hn' : ys.length = z.cps.size := hn
    rw [← hn', List.take_length] at e
    exact k D H' s hD e
theorem pe_mapS {X : Cx} {e : Expr} {tl te : TE} {j : Nat} (h : PE X e (tLc (iStr (tCut tl)) (gName j) tYes (tCut te) [j])) : PE X e (tMapS j tl te) := by
  refine pe_imp h fun σ H Q q => ?_
  refine ⟨_, q, ?_⟩
  rintro v H1 ⟨z, ys, rfl, hn, hs, he, k⟩
  exact ⟨z, rfl, map_coreS hn hs he k⟩
theorem cr_allK {X : Cx} {K : PySem.W.Frag} (hc : X.calm = true) (hK : X.K = K := by rfl) : CallR X (.builtin "all") (rAll K) := hK ▸ cr_all hc
end MG

namespace MG
open PySem PySem.Spec PyProof.Rows L2
/-- [e for x in range(..)], what an item changes told by P (of the new list's place and the turn) -/
def tMapRP (j : Nat) (ta : TA) (te : TE) : TE := fun σ H Q => ta σ H fun vs H1 => ∃ (m : Int) (ys : List V) (Pv : Addr → Nat → Hp → Prop), vs = [.int m] ∧ 0 ≤ m ∧ m ≤ 100000 ∧ (ys.length : Int) = m ∧
  (∀ D, H1 D = none → Pv D 0 (upd H1 D (.lst []))) ∧
  (∀ (D : Addr) (i : Nat) (y : V) (H' : Hp), ys[i]? = some y → Pv D i H' → H' D = some (.lst (ys.take i)) → te ((σ.set j none).set j (some (.int i))) H' fun v H'' => v = y ∧ H'' D = some (.lst (ys.take i)) ∧ Pv D (i + 1) (upd H'' D (.lst (ys.take (i + 1))))) ∧
  ∀ D H', H' D = some (.lst ys) → Pv D ys.length H' → Q (.ref D) H'
theorem map_coreRP {te : TE} {j : Nat} {σ : L2.St} {H1 : Hp} {Q : VK} {m : Nat} {ys : List V} {Pv : Addr → Nat → Hp → Prop} (hn : ys.length = m) (hs : m ≤ 100000) (h0 : ∀ D, H1 D = none → Pv D 0 (upd H1 D (.lst [])))
    (he : ∀ (D : Addr) (i : Nat) (y : V) (H' : Hp), ys[i]? = some y → Pv D i H' → H' D = some (.lst (ys.take i)) → te ((σ.set j none).set j (some (.int i))) H' fun v H'' => v = y ∧ H'' D = some (.lst (ys.take i)) ∧ Pv D (i + 1) (upd H'' D (.lst (ys.take (i + 1)))))
    (k : ∀ D H', H' D = some (.lst ys) → Pv D ys.length H' → Q (.ref D) H') :
    tLc (fun _ H R => R (Itr 0 m) H) (gName j) tYes (tCut te) [j] σ H1 Q := by
  intro D hD
  refine lc_range (lo := 0) (n := m) (fun i H' => H' D = some (.lst (ys.take i)) ∧ Pv D i H') ⟨upd_same, h0 D hD⟩ ?_ ?_
  · rintro i H' hi ⟨e, p⟩
    have hy : ys[i]? = some ys[i] := List.getElem?_eq_getElem (by omega)
    have e0 : (0 : Int) + (i : Int) = i := Int.zero_add _
    rw [e0]
    refine ⟨wipe_one, _, he D i _ H' hy p e, ?_⟩
    rintro v H2 ⟨rfl, e2, p2⟩
    refine ⟨_, e2, ?_, ?_, ?_⟩
    · rw [List.length_take]
      exact Nat.lt_of_le_of_lt (m := 100000) (by omega) (by decide)
    · rw [upd_same, take_one hy]
    · rw [take_one hy] at p2
      exact p2
  · rintro H' ⟨e, p⟩
    rw [← hn, List.take_length] at e
    rw [← hn] at p
    exact k D H' e p
theorem pe_mapRP {X : Cx} {e : Expr} {ta : TA} {te : TE} {j : Nat} (mono : ∀ σ H (Q Q' : List V → Hp → Prop), (∀ v H', Q v H' → Q' v H') → ta σ H Q → ta σ H Q')
    (h : PE X e (tLc (iRng1 ta) (gName j) tYes (tCut te) [j])) : PE X e (tMapRP j ta te) := by
  refine pe_imp h fun σ H Q q => ?_
  refine mono σ H _ _ ?_ q
  rintro vs H1 ⟨m, ys, Pv, rfl, h0, hm, hn, hp, he, k⟩
  exact ⟨m, rfl, by omega, by omega, map_coreRP (by omega) (by omega) hp he k⟩
end MG

/-! own errors held as values: made by position and by keyword, their fields read, asked by isinstance -/
namespace MG
open PySem PySem.Spec PyProof.Rows L2
/-! ### a class of errors called with keywords -/
section
open PySem.HandSPX
variable {prog : Program} {w : World} {A : Around} {E : Value → Shared → Prop} {R : Result → Shared → Prop} {h : Heap} {g : Array GenState} {d : Drawn} {t : Nat} {os : OsState}
variable {nm q : Str} {C N : Addr} {bs bm tl : List Value} {hdct : Bool} {sn : List Str} {sub : List Value} {ab : Bool} {col : Option Bool} {dd : Option Addr} {k0 k1 k2 k3 k5 : Option Value} {B newId initId : String} {rest : List Value} {kw : List (Str × Value)}
theorem xk_check {M : Model} (F : ExcBaseFacts B newId initId tl) (hT : ∀ X : String, bm.contains (.type X) = tl.contains (.type X)) {Q : Unit → Shared → Prop}
    (hC : h.get? C = some (excClassObj nm q C N bs bm hdct sn sub ab col dd k0 k1 k2 k3 k5 newId)) (hq : Q () ⟨h, g, d, t, os⟩) : wpAny M A (checkBuiltinCall newId ⟨.ref C :: rest, kw⟩) Q E ⟨h, g, d, t, os⟩ := by
  have hcont : (Value.ref C :: bm).contains (.type B) = true := by rw [List.contains_cons, hT, F.hasB, Bool.or_true]
  have hstar := F.noStar
  simp only [checkBuiltinCall, F.newKind, F.newSplit, F.newRow]
  repeat (first | refine wpAny_loadPart_at hC ?_ | (refine wpAny_isSubtype_exc hC ?_; rw [hcont]) | refine wpAny_staticBase_exc hC ?_ | refine wpAny_madeBy_exc hC ?_ | simp only [bne_self_eq_false, Bool.false_eq_true, if_false] | wp_step)
  exact hq
theorem xk_new (F : ExcBaseFacts B newId initId tl) (hT : ∀ X : String, bm.contains (.type X) = tl.contains (.type X))
    (hC : h.get? C = some (excClassObj nm q C N bs bm hdct sn sub ab col dd k0 k1 k2 k3 k5 newId))
    (hq : R (.ok (.ret (.ref (h.objs.size + 1)))) ⟨(h.push (PySem.W.kdv_tup rest)).push (excO C h.objs.size), g, d, t, os⟩) (hrest : rest.length ≤ sizeLine) :
    codeAny (model prog w) A (.builtin newId ⟨.ref C :: rest, kw⟩) R ⟨h, g, d, t, os⟩ := by
  have hends := F.ends
  have hcB : (Value.ref C :: bm).contains (.type B) = true := by rw [List.contains_cons, hT, F.hasB, Bool.or_true]
  have hcA : (Value.ref C :: bm).contains (.type "AttributeError") = false := by rw [List.contains_cons, hT, F.noAttr]; rfl
  have hcN : (Value.ref C :: bm).contains (.type "NameError") = false := by rw [List.contains_cons, hT, F.noName]; rfl
  refine codeAny_builtinAt F.entry ?_
  unfold Builtin.«BaseException.__new__»
  refine PySem.wpAt_bind ?_
  show PySem.wpAt _ _ _ (stack >>= _) _ _ _
  refine PySem.wpAt_bind (PySem.wpAt_stack fun p below => PySem.wpAt_of_wpAny ?_)
  wp_walk
  refine PySem.wpAt_of_wpAny ?_
  rw [F.owner]
  repeat (first | with_reducible refine wpAny_madeHere_exc F.canon hC ?_ | with_reducible refine wpAny_loadPart_at hC ?_ | (with_reducible refine wpAny_isSubtype_exc hC ?_; first | rw [hcB] | rw [hcA] | rw [hcN]) | wp_step)
  show R _ _
  rw [Heap.size_push]
  exact hq
theorem xk_type (F : ExcBaseFacts B newId initId tl) (hT : ∀ X : String, bm.contains (.type X) = tl.contains (.type X)) {fI : Addr} {Q : Fin → Shared → Prop}
    (hC : h.get? C = some (excClassObj nm q C N bs bm hdct sn sub ab col dd k0 k1 k2 k3 k5 newId))
    (hi : PySem.W.Looks (model prog w) h (typeLookup (.ref C) "__init__") (some (.ref fI))) (hb : ∀ self, PySem.W.Looks (model prog w) h (bindSpecial (.ref fI) self) (.ref fI, [self])) (hrest : rest.length ≤ sizeLine)
    (hq : codeAny (model prog w) A (.call (.ref fI) ⟨.ref (h.objs.size + 1) :: rest, kw⟩)
      (fun r s' => match r with | .ok (.ret v) => v = .none ∧ Q (.done (.ret (.ref (h.objs.size + 1)))) s' | .ok _ => False | .error e => E e s')
      ⟨(h.push (PySem.W.kdv_tup rest)).push (excO C h.objs.size), g, d, t, os⟩) :
    wpAny (model prog w) A (Builtin.«type.__call__» ⟨.ref C :: rest, kw⟩) Q E ⟨h, g, d, t, os⟩ := by
  repeat (first | with_reducible refine wpAny_loadPart_at hC ?_ | with_reducible refine wpAny_madeBy_exc hC ?_ | wp_step)
  refine codeAny_call_builtin_code (Code.quiet_builtin _ F.quiet) (xk_check F hT hC ?_)
  refine xk_new F hT hC ?_ hrest
  show wpAny _ _ _ _ _ _
  have k : ∀ b o, h.get? b = some o → ((h.push (PySem.W.kdv_tup rest)).push (excO C h.objs.size)).get? b = some o := fun b o e => Heap.get?_push_of_some _ (Heap.get?_push_of_some _ e)
  have hC₁ := k _ _ hC
  have hget : ((h.push (PySem.W.kdv_tup rest)).push (excO C h.objs.size)).get? (h.objs.size + 1) = some (excO C h.objs.size) := by heap_get
  have hcC : (Value.ref C :: bm).contains (.ref C) = true := by simp
  have i1 := hi.keeps k
  have b1 := (hb (.ref (h.objs.size + 1))).keeps k
  unfold isInstance
  repeat (first | with_reducible refine wpAny_loadPart_at hget ?_ | (with_reducible refine wpAny_isSubtype_exc hC₁ ?_; rw [hcC]) | wp_step)
  show wpAny _ _ (typeLookup (.ref C) _) _ _ _
  refine i1.at ?_
  refine wpAny_holding (wpAny_bind (b1.at ?_))
  refine wpAny_bind (wpAny_call (codeAny_mono hq fun r s' z => ?_))
  rcases r with e | (v | _ | _ | _) <;> first | exact z | exact z.elim | skip
  obtain ⟨rfl, z⟩ := z
  first
    | exact wpAny_pure (wpAny_pure z)
    | (wp_walk; exact z)
theorem xk_call (F : ExcBaseFacts B newId initId tl) (hT : ∀ X : String, bm.contains (.type X) = tl.contains (.type X)) {fI : Addr}
    (hC : h.get? C = some (excClassObj nm q C N bs bm hdct sn sub ab col dd k0 k1 k2 k3 k5 newId))
    (hi : PySem.W.Looks (model prog w) h (typeLookup (.ref C) "__init__") (some (.ref fI))) (hb : ∀ self, PySem.W.Looks (model prog w) h (bindSpecial (.ref fI) self) (.ref fI, [self])) (hrest : rest.length ≤ sizeLine)
    (hq : codeAny (model prog w) (A.under (.builtin "type.__call__" ⟨.ref C :: rest, kw⟩)) (.call (.ref fI) ⟨.ref (h.objs.size + 1) :: rest, kw⟩) (PySem.W.InitBack (h.objs.size + 1) R)
      ⟨(h.push (PySem.W.kdv_tup rest)).push (excO C h.objs.size), g, d, t, os⟩) :
    codeAny (model prog w) A (.call (.ref C) ⟨rest, kw⟩) R ⟨h, g, d, t, os⟩ := by
  have f1 := tc_lookup
  have f2 := tc_bind (.ref C)
  have hTy : (⟨h, g, d, t, os⟩ : Shared).TypeIs (.ref C) "type" := ⟨_, hC, rfl⟩
  refine codeAny_of_tree ?_
  show wpAny _ _ (callAny (.ref C) _) _ _ _
  repeat (any_goals (first | assumption | with_reducible refine wpAny_loadPart_at hC ?_ | wp_step))
  refine ⟨rfl, ?_⟩
  refine codeAny_call_builtin_at (Code.quiet_builtin _ (by decide +kernel)) entry_typeCall (wpAny_check_type_call_sub hC (xk_type F hT hC hi hb hrest ?_))
  refine codeAny_mono hq fun r s' z => ?_
  rcases r with e | (v | _ | _ | _) <;> exact z
end
end MG

namespace MG
open PySem PySem.Spec PyProof.Rows L2
/-- a built-in class of errors over which own ones stand -/
structure ExB (B newId initId : String) (tl : List Value) : Prop where
  fb : ExcBaseFacts B newId initId tl
  sf : StoreFacts B tl "object.__setattr__" "object"
/-- what an own class of errors says -/
structure ErC (K : PySem.W.Frag) (C : Addr) : Prop where
  cls : ∃ B newId initId tl, ExB B newId initId tl ∧ PySem.W.excInitIn K C tl newId = true ∧ PySem.W.excOver K C tl = true
  sa : PySem.W.findIn K (.ref C) "__setattr__" = some (some (.builtin "object.__setattr__"))
  exC : PySem.W.subIn K (.ref C) (.type "BaseException") = some true
  tyC : PySem.W.typeIn K (.ref C) = some (.type "type")
  kC : PySem.W.keepIn K (.ref C) = true
  ga : PySem.W.findIn K (.ref C) "__getattribute__" = some (some (.builtin "BaseException.__getattribute__"))
  gg : PySem.W.findIn K (.ref C) "__getattr__" = some none
  hd : PySem.W.hasDictIn K C = true
  ca : PySem.W.findIn K (.ref C) "__class__" = some (some (.builtin "object.__class__"))
  cn : PySem.W.specialIn K (.builtin "object.__class__") "__get__" = some (some (.builtin "getset_descriptor.__get__"))
  ct : PySem.W.takesIn K (.builtin "object.__class__") = some true
  mo : PySem.W.mroIn K C (.type "object") = some true
theorem ErC.look {K : PySem.W.Frag} {C : Addr} (T : ErC K C) : ∃ cd, PySem.W.clsIn K C = some cd ∧ cd.hasDict = true ∧ ∀ self, refuseLoop self "__setattr__" cd.mro = pure () := by
  obtain ⟨B, newId, initId, tl, eb, _, ho⟩ := T.cls
  obtain ⟨cd, hcd, h⟩ := PySem.W.any_some ho
  obtain ⟨cd', hcd', hd⟩ := PySem.W.any_some T.hd
  rw [hcd] at hcd'
  obtain rfl := Option.some.inj hcd'
  refine ⟨cd, hcd, hd, fun self => ?_⟩
  obtain ⟨nm, bs, mro, ns, qn, hdd, sn, sb, ab, col, del⟩ := cd
  dsimp only at h ⊢
  split at h
  · rename_i C' bm
    have h2 := (Bool.and_eq_true_iff.mp h).2
    exact PySem.W.excTail_pass self (eb.sf.passes self) _ (show PySem.W.excTail tl (.ref C' :: bm) = true from h2)
  · cases h
section
open Builtin Builtin.ObjectAttr PySem.HandSPX
variable {prog : Program} {w : World} {A : Around} {E : Value → Shared → Prop} {R : Result → Shared → Prop} {hp : Heap} {g : Array GenState} {d : Drawn} {t : Nat} {os : OsState}
theorem er_osa0 {K : PySem.W.Frag} {name : Str} {tk : Tok} {v : Value} {x C : Addr} {fv : Array Value} (T : ErC K C)
    (X : K.In hp) (hx : hp.get? x = some { cls := .ref C, data := .fields fv }) (ha : PySem.W.findIn K (.ref C) name = some none)
    (hq : ∀ h' tk' dx, (∀ b o, b ≠ x → hp.get? b = some o → h'.get? b = some o) → hp.objs.size ≤ dx → dx ≠ x → h'.get? x = some { cls := .ref C, dict := some dx, data := .fields fv } →
      h'.Ns1 dx (fun y => if y = name then some v else none) → R (.ok (.ret .none)) ⟨h', g, d, tk', os⟩) :
    codeAny (model prog w) A (.call (.builtin "object.__setattr__") ⟨[.ref x, .str name tk, v], []⟩) R ⟨hp, g, d, t, os⟩ := by
  obtain ⟨cd, hcd, hh, hm⟩ := T.look
  have I : PySem.W.InstAt hp x { cls := .ref C, data := .fields fv } C none := ⟨hx, rfl, rfl, trivial⟩
  have SF := PySem.F.store_object
  have hxs : x ≠ hp.objs.size := Nat.ne_of_lt (Heap.lt_size hx)
  have sub : PySem.W.Looks (model prog w) hp (isInstance (.ref x) (.type "object")) true := I.type.andThen (PySem.W.looks_mroIn X T.mo)
  refine codeAny_call_builtin SF.slot.plain SF.entry (@PySem.W.check_slot (model prog w) _ _ ⟨hp, g, d, t, os⟩ "object.__setattr__" "object" "__setattr__" (.ref x) [.str name tk, v] [] _ SF.kind SF.split sub (SF.args (.ref x) (.str name tk) v) ?_)
  have hmr : PySem.W.Looks (model prog w) hp (mroOf (.ref C)) cd.mro := (PySem.W.looks_clsIn X hcd).andThen .now
  have L3 : PySem.W.Looks (model prog w) hp (storeTaker? none) none := .now
  have hcls : PySem.W.Looks (model prog w) hp (classData C) cd := PySem.W.looks_clsIn X hcd
  rw [PySem.W.osa_eq, refuse_eq]
  refine wpAny_bind (wpAny_bind (I.type.at (wpAny_bind (hmr.at ?_))))
  rw [hm]
  refine wpAny_pure (wpAny_bind (I.type.at (wpAny_bind ((PySem.W.looks_findIn X ha).at (wpAny_bind (L3.at ?_))))))
  show wpAny _ _ (storeInOwnDict (.ref x) (.ref C) (.str name tk) name v false) _ _ _
  obtain ⟨nm, bs, mro, ns, qn, hd, sn, sb, ab, col, del⟩ := cd
  dsimp only at hh
  subst hh
  unfold storeInOwnDict ownDictForStores
  repeat (first | with_reducible refine PySem.HandSPX.store_in_new ?_ ?_ | with_reducible refine wpAny_loadPart_at hx ?_ | with_reducible refine hcls.at ?_ | wp_step)
  · exact ⟨_, #[], _, (Heap.get?_update_ne _ _ _ _ hxs.symm).trans (Heap.get?_push_at rfl rfl), rfl, fun e he => absurd he (by simp), fun _ => rfl⟩
  · intro h' tk' hn' hs
    have hx₁ : (hp.push { cls := .type "dict", data := .dict #[] }).get? x = some { cls := .ref C, data := .fields fv } := Heap.get?_push_of_some _ hx
    refine hq h' tk' hp.objs.size (fun b o hb ho => ?_) (Nat.le_refl _) hxs.symm ?_ hn'
    · exact (hs.2 b (Nat.ne_of_lt (Heap.lt_size ho))).trans ((Heap.get?_update_ne _ _ _ _ hb).trans (Heap.get?_push_of_some _ ho))
    · exact (hs.2 x hxs).trans (Heap.get?_update_self _ hx₁ rfl)
theorem er_osa1 {K : PySem.W.Frag} {name : Str} {tk : Tok} {v : Value} {x C dx : Addr} {fv : Array Value} {m0 : Str → Option Value} {nl : List Str} (T : ErC K C)
    (X : K.In hp) (hx : hp.get? x = some { cls := .ref C, dict := some dx, data := .fields fv }) (hns : hp.Ns1 dx m0) (hw : Within m0 nl) (hz : nl.length ≤ 1000)
    (ha : PySem.W.findIn K (.ref C) name = some none)
    (hq : ∀ h' tk', (∀ b o, b ≠ dx → hp.get? b = some o → h'.get? b = some o) → h'.Ns1 dx (fun y => if y = name then some v else m0 y) → R (.ok (.ret .none)) ⟨h', g, d, tk', os⟩) :
    codeAny (model prog w) A (.call (.builtin "object.__setattr__") ⟨[.ref x, .str name tk, v], []⟩) R ⟨hp, g, d, t, os⟩ := by
  obtain ⟨cd, hcd, hh, hm⟩ := T.look
  obtain ⟨oD, esD, epD, hoD, hdD, _⟩ := hns.count hw
  have I : PySem.W.InstAt hp x { cls := .ref C, dict := some dx, data := .fields fv } C (some oD) := ⟨hx, rfl, rfl, hoD⟩
  have SF := PySem.F.store_object
  have sub : PySem.W.Looks (model prog w) hp (isInstance (.ref x) (.type "object")) true := I.type.andThen (PySem.W.looks_mroIn X T.mo)
  refine codeAny_call_builtin SF.slot.plain SF.entry (@PySem.W.check_slot (model prog w) _ _ ⟨hp, g, d, t, os⟩ "object.__setattr__" "object" "__setattr__" (.ref x) [.str name tk, v] [] _ SF.kind SF.split sub (SF.args (.ref x) (.str name tk) v) ?_)
  have hmr : PySem.W.Looks (model prog w) hp (mroOf (.ref C)) cd.mro := (PySem.W.looks_clsIn X hcd).andThen .now
  have L3 : PySem.W.Looks (model prog w) hp (storeTaker? none) none := .now
  have hcls : PySem.W.Looks (model prog w) hp (classData C) cd := PySem.W.looks_clsIn X hcd
  rw [PySem.W.osa_eq, refuse_eq]
  refine wpAny_bind (wpAny_bind (I.type.at (wpAny_bind (hmr.at ?_))))
  rw [hm]
  refine wpAny_pure (wpAny_bind (I.type.at (wpAny_bind ((PySem.W.looks_findIn X ha).at (wpAny_bind (L3.at ?_))))))
  show wpAny _ _ (storeInOwnDict (.ref x) (.ref C) (.str name tk) name v false) _ _ _
  obtain ⟨nm, bs, mro, ns, qn, hd, sn, sb, ab, col, del⟩ := cd
  dsimp only at hh
  subst hh
  unfold storeInOwnDict ownDictForStores
  repeat (first | with_reducible refine PySem.OEX.store_in_old hns hw hz ?_ | with_reducible refine wpAny_loadPart_at hx ?_ | with_reducible refine hcls.at ?_ | wp_step)
  intro h' tk' hn' hs
  exact hq h' tk' (fun b o hb ho => (hs.2 b hb).trans ho) hn'
end
section
variable {X : Cx} {pins : List (Addr × Obj)} {σ : L2.St} {H : Hp} {s : Shared} {a C dx : Addr} {f : Str} {y : V} {u : Value} {fs : List (Str × V)} {Q : Unit → Shared → Prop} {E : Value → Shared → Prop} {A : Around}
/-- self.f = y, the first one -/
theorem er_new (T : ErC X.K C) (I : Inv X pins σ H s) (e : H a = some (exo a C none)) (hno : PySem.W.findIn X.K (.ref C) f = some none) (ry : RelV y u)
    (h : ∀ dx s', H dx = none → dx ≠ a → Inv X pins σ (upd (upd H dx (exd dx [(f, y)])) a (exo a C (some dx))) s' → Q () s') : wpAny (model X.prog X.w) A (setAttr (.ref a) f u) Q E s := by
  obtain ⟨t1, ho⟩ := exo_at I.hok e
  obtain ⟨hp, g, d, t, os⟩ := s
  refine PySem.W.set_plain I.kIn (ox := { cls := .ref C, dict := none, data := .fields #[.ref t1, .none, .none, .none, .bool false, .none] }) (od := none) ⟨ho, rfl, rfl, trivial⟩ T.sa ?_
  refine er_osa0 T I.kIn ho hno (fun h' tk' dx k dn dne hx hn => ?_)
  have hnd : H dx = none := I.hok.fresh dn
  have nd : ∀ {b : Addr} {o : Obj}, hp.get? b = some o → b ≠ dx := fun {b o} q => Nat.ne_of_lt (Nat.lt_of_lt_of_le (Heap.lt_size q) dn)
  have na : ∀ {b : Addr}, H b = none → b ≠ a := fun {b} n z => by
    rw [z, e] at n
    cases n
  have Un1 : Un X.fs [] H (upd (upd H dx (exd dx [(f, y)])) a (exo a C (some dx))) hp h' := {
    keep := fun b o q n _ _ => k b o (na n) q
    slot := fun b o q n _ _ => ⟨o.slots, k b o (na n) q⟩
    free := fun b o q n _ => by rw [upd_ne (na n), upd_ne (nd q)]; exact n
    there := fun b o q _ => by
      by_cases hb : b = a
      · exact ⟨_, by rw [hb]; exact hx⟩
      · exact ⟨o, k b o hb q⟩
    tups := fun b xs q => by rw [upd_ne (at_ne e q exo_tup), upd_ne (ne_of_none q hnd)]; exact q
    frzs := fun b o v q => by rw [upd_ne (at_ne e q exo_frz), upd_ne (ne_of_none q hnd)]; exact q
    tbls := fun b ps q => ⟨#[], by rw [upd_ne (at_ne e q exo_tbl), upd_ne (ne_of_none q hnd), q]; simp⟩ }
  refine h dx _ hnd dne (I.un (t' := tk') Un1 fun b o q => ?_)
  by_cases hb : b = a
  · subst hb
    rw [upd_same] at q
    cases q
    exact exo_ok hx
  · rw [upd_ne hb] at q
    by_cases hd : b = dx
    · subst hd
      rw [upd_same] at q
      cases q
      exact exd_ok hn (relO_put (fs := []) ry fun g => True.intro)
    · rw [upd_ne hd] at q
      exact (I.hok b o q).stay (fun c v hc z => k c v (by
          rcases hc with hc | hc
          · rw [hc]
            exact hb
          · exact at_ne e hc exo_own) z)
        (fun c hc => by rw [upd_ne (at_ne e hc exo_own), upd_ne (ne_of_none hc hnd)]; exact hc) (fun c xs hc => by rw [upd_ne (at_ne e hc exo_tup), upd_ne (ne_of_none hc hnd)]; exact hc)
/-- self.f = y, a further one -/
theorem er_old (T : ErC X.K C) (I : Inv X pins σ H s) (e : H a = some (exo a C (some dx))) (ed : H dx = some (exd dx fs)) (hl : fs.length ≤ 900) (hno : PySem.W.findIn X.K (.ref C) f = some none) (ry : RelV y u)
    (h : ∀ s', Inv X pins σ (upd H dx (exd dx ((f, y) :: fs))) s' → Q () s') : wpAny (model X.prog X.w) A (setAttr (.ref a) f u) Q E s := by
  obtain ⟨t1, ho⟩ := exo_at I.hok e
  obtain ⟨mA, hns, rel⟩ := exd_at I.hok ed
  have hw := within_of rel
  obtain ⟨hp, g, d, t, os⟩ := s
  obtain ⟨oD, _, _, hoD, _, _⟩ := hns.count hw
  refine PySem.W.set_plain I.kIn (ox := { cls := .ref C, dict := some dx, data := .fields #[.ref t1, .none, .none, .none, .bool false, .none] }) (od := some oD) ⟨ho, rfl, rfl, hoD⟩ T.sa ?_
  refine er_osa1 T I.kIn ho hns hw (by rw [List.length_map]; omega) hno (fun h' tk' k hn => ?_)
  have hd : ∃ o, h'.get? dx = some o := by
    obtain ⟨o, _, _, e', _⟩ := hn
    exact ⟨o, e'⟩
  exact h _ (I.write (t' := tk') (x := dx) (e := dx) (o := exd dx ((f, y) :: fs)) (by rw [ed]; exact True.intro) (.inl rfl) k hd (exd_ok hn (relO_put ry rel)))
end
/-- self.f = e, self an own error -/
def tOsE (K : PySem.W.Frag) (f : Str) (to te : TE) : TS := fun D σ H => te σ H fun y H1 => to σ H1 fun x H2 => ∃ a C : Addr, x = .ref a ∧ ErC K C ∧ PySem.W.findIn K (.ref C) f = some none ∧
  ((H2 a = some (exo a C none) ∧ ∀ dx, H2 dx = none → dx ≠ a → D.nx σ (upd (upd H2 dx (exd dx [(f, y)])) a (exo a C (some dx)))) ∨
    ∃ (dx : Addr) (fs : List (Str × V)), H2 a = some (exo a C (some dx)) ∧ H2 dx = some (exd dx fs) ∧ fs.length ≤ 900 ∧ D.nx σ (upd H2 dx (exd dx ((f, y) :: fs))))
theorem ps_osE {X : Cx} {o e : Expr} {to te : TE} {f : Str} {p' pos : Pos} (ho : PE X o to) (he : PE X e te) (hs : swapsWith e (some (.Attribute o f p')) pos.line X.env = pure false := by rfl) : PS X (.Assign [.Attribute o f p'] e pos) (tOsE X.K f to te) := by
  refine ⟨fun pins s σ H D I h => ?_⟩
  refine plainObj_wpAny_Assign_Attribute (thn (he.run pins s σ H _ I h) fun v s1 ⟨y, H1, I1, r1, q1⟩ => thn (ho.run pins s1 σ H1 _ I1 q1) fun u s2 ⟨x, H2, I2, r2, a, C, ex, T, hno, q⟩ => ?_) hs
  subst ex
  obtain rfl : u = Value.ref a := r2
  rcases q with ⟨ea, q⟩ | ⟨dx, fs, ea, ed, hl, q⟩
  · exact er_new T I2 ea hno r1 fun dx s' n ne J => ⟨σ, _, J, q dx n ne⟩
  · exact er_old T I2 ea ed hl hno r1 fun s' J => ⟨σ, _, J, q⟩
/-! ### made, held as values -/
/-- what stands at a: an error of the class C with these fields -/
def ErAt (C : Addr) (fs : List (Str × V)) (H : Hp) (a : Addr) : Prop := (fs = [] ∧ H a = some (exo a C none)) ∨ ∃ d, H a = some (exo a C (some d)) ∧ H d = some (exd d fs)
theorem ErAt.same {C a : Addr} {fs : List (Str × V)} {H H' : Hp} (h : ErAt C fs H a) (s : Same H H') : ErAt C fs H' a := by
  rcases h with ⟨e, h⟩ | ⟨d, h1, h2⟩
  · exact .inl ⟨e, s _ _ h⟩
  · exact .inr ⟨d, s _ _ h1, s _ _ h2⟩
/-- the __init__ of such a class -/
def spEr (K : PySem.W.Frag) (C : Addr) (fls : List Str) : Sp := fun vs H Q _ => ∃ (a : Addr) (ys : List V), vs = .ref a :: ys ∧ ys.length = fls.length ∧ ErC K C ∧ (∀ f ∈ fls, PySem.W.findIn K (.ref C) f = some none) ∧ H a = some (exo a C none) ∧
  ∀ dx H', H dx = none → dx ≠ a → (∀ b o, H b = some o → b ≠ a → H' b = some o) → H' a = some (exo a C (some dx)) → H' dx = some (exd dx (fls.zip ys).reverse) → Q .non H'
theorem er_vrev {xs : List V} {us : List Value} (r : Vals xs us) : Vals xs.reverse us.reverse := by
  induction r with
  | nil => exact .nil
  | cons h t ih =>
    rw [List.reverse_cons, List.reverse_cons]
    exact ih.append (.cons h .nil)
structure MkE (P : Program) (w : World) (K : PySem.W.Frag) (mg : Str → Option Value) (base : Heap) (k : Nat) (x : Str) (C : Addr) (fls : List Str) : Prop where
  er : ErC K C
  no : ∀ f ∈ fls, PySem.W.findIn K (.ref C) f = some none
  g : mg x = some (.ref C)
  few : fls.length ≤ 2
  ex : ∃ (fI : Addr) (fd : FuncData) (ps : List Str), PySem.W.findIn K (.ref C) "__init__" = some (some (.ref fI)) ∧ PySem.W.typeIn K (.ref fI) = some (.type "function") ∧ FnOk P w K mg base CX0 k fI fd ps (spEr K C fls) ∧ Binds K fd ps [] ∧
    KBn K fd ps 1 fls.reverse (fun us ws => us ++ ws.reverse) (fun vs zs => vs ++ zs.reverse)
def tMkE (C : Addr) (fls : List Str) (ta : TA) : TE := fun σ H Q => ta σ H fun vs H1 => vs.length = fls.length ∧ ∀ a H', Same H1 H' → H1 a = none → ErAt C (fls.zip vs).reverse H' a → Q (.ref a) H'
def tMkEK (C : Addr) (fls : List Str) (tk : TA) : TE := fun σ H Q => tk σ H fun zs H1 => zs.length = fls.length ∧ ∀ a H', Same H1 H' → H1 a = none → ErAt C (fls.zip zs.reverse).reverse H' a → Q (.ref a) H'
section
variable {X : Cx} {k j : Nat} {C : Addr} {fls : List Str} {x : Str} {p pos : Pos} {e : Expr} {es : List Expr} {kws : List Keyword} {ta tk : TA}
/-- the call of the class: rest by position, kw by name; all of them ys in the order of the fields -/
theorem er_run {pins : List (Addr × Obj)} {σ : L2.St} {H1 : Hp} {Q : VK} {s1 : Shared} {us : List Value} {kw : List (Str × Value)} {ys : List V} {ws : List Value} (c : MkE X.prog X.w X.K X.mg X.base k x C fls) (hr : Room j X.A) (hk : k + 1 ≤ j) (I1 : Inv X pins σ H1 s1)
    (hl : ys.length = fls.length) (hu : us.length ≤ 10) (rv : Vals ys ws) (hb : ∀ (fI : Addr) (fd : FuncData) (ps : List Str), FnOk X.prog X.w X.K X.mg X.base CX0 k fI fd ps (spEr X.K C fls) → Binds X.K fd ps [] → KBn X.K fd ps 1 fls.reverse (fun us ws => us ++ ws.reverse) (fun vs zs => vs ++ zs.reverse) →
      ∀ (a : Addr) (s : Shared), X.K.In s.heap → (a :: ys.map fun _ => a).length = ps.length → BindsTo s fd ⟨.ref a :: us, kw⟩ (ps.zip (.ref a :: ws)))
    (q1 : ∀ a H', Same H1 H' → H1 a = none → ErAt C (fls.zip ys).reverse H' a → Q (.ref a) H') : wpAny (model X.prog X.w) X.A (call (.ref C) us kw) (EP X pins σ Q) X.xe s1 := by
  obtain ⟨er, hno, hm, few, fI, fd, ps, iC, tI, F1, b1, b2⟩ := c
  obtain ⟨B, newId, initId, tl, eb, hin, _⟩ := er.cls
  obtain ⟨hp, g, dr, tk, os⟩ := s1
  obtain ⟨nm, N, q, bs, bm, hdct, sn, sub, ab, col, dd, k0, k1, k2, k3, k5, hC, hT⟩ := PySem.W.excInit_of (h := hp) I1.kIn hin
  have hsz : hp.objs.size ≤ hp.objs.size + 1 := Nat.le_succ _
  have hn : H1 (hp.objs.size + 1) = none := I1.hok.fresh hsz
  have hq : spEr X.K C fls (.ref (hp.objs.size + 1) :: ys) (upd H1 (hp.objs.size + 1) (exo (hp.objs.size + 1) C none)) (fun v H2 => v = .non ∧ Q (.ref (hp.objs.size + 1)) H2) (fun _ _ _ => False) := by
    refine ⟨_, ys, rfl, hl, er, hno, upd_same, fun dx H' hdx ne hkeep ha hd => ⟨rfl, q1 _ H' (fun b o hbo => ?_) hn (.inr ⟨dx, ha, hd⟩)⟩⟩
    have nb := ne_of_none hbo hn
    exact hkeep b o (by rw [upd_ne nb]; exact hbo) nb
  have kk : ∀ b o, hp.get? b = some o → ((hp.push (PySem.W.kdv_tup us)).push (PySem.HandSPX.excO C hp.objs.size)).get? b = some o := fun b o e => Heap.get?_push_of_some _ (Heap.get?_push_of_some _ e)
  have hget : ((hp.push (PySem.W.kdv_tup us)).push (PySem.HandSPX.excO C hp.objs.size)).get? (hp.objs.size + 1) = some (PySem.HandSPX.excO C hp.objs.size) := by heap_get
  have I2 : Inv X pins σ (upd H1 (hp.objs.size + 1) (exo (hp.objs.size + 1) C none)) ⟨(hp.push (PySem.W.kdv_tup us)).push (PySem.HandSPX.excO C hp.objs.size), g, dr, tk, os⟩ :=
    I1.laid (t' := tk) (a := hp.objs.size + 1) (o := exo (hp.objs.size + 1) C none) (h' := (hp.push (PySem.W.kdv_tup us)).push (PySem.HandSPX.excO C hp.objs.size)) kk hsz (exo_ok hget)
  have r2 : Vals (V.ref (hp.objs.size + 1) :: ys) (Value.ref (hp.objs.size + 1) :: ws) := .cons rfl rv
  have hlen := F1.len _ _ _ _ hq
  have hus : us.length ≤ sizeLine := Nat.le_trans hu (by decide)
  refine wpAny_call (xk_call eb.fb hT hC (PySem.W.looks_findIn I1.kIn iC) (fun self => PySem.W.bind_fn I1.kIn self tI) hus
    (codeAny_mono (F1.run _ X.stack _ _ ⟨Value.ref (hp.objs.size + 1) :: us, kw⟩ (Value.ref (hp.objs.size + 1) :: ws) _ _ (fun _ _ _ => False) ((hr.mono hk).make C us kw) (I2.env0.make C us kw)
      (hb fI fd ps F1 b1 b2 _ _ I2.kIn (by rw [← hlen]; simp)) r2 hq) fun r s' hq' => ?_))
  cases r with
  | error er => exact False.elim hq'
  | ok fl' =>
    cases fl' with
    | ret u =>
      obtain ⟨v, H', I3, rv', ev, q3⟩ := I2.after hq'
      subst ev
      exact ⟨rv', ⟨V.ref (hp.objs.size + 1), H', I3, rfl, q3⟩⟩
    | next => exact False.elim hq'
    | brk => exact False.elim hq'
    | cont => exact False.elim hq'
theorem pe_mkE (c : MkE X.prog X.w X.K X.mg X.base k x C fls) (hr : Room j X.A) (hk : k + 1 ≤ j) (hg : Gl X x) (ha : PA X (e :: es) ta)
    (hdb : (x == ("__debug__" : Str)) = false := by decide) (he : starEach (e :: es) X.env = (false, eval e X.env) :: starEach es X.env := by rfl) (hpl : (backTo pos (starEach es X.env)).any (·.1) = false := by rfl) :
    PE X (.Call (.Name x p) (e :: es) [] pos) (tMkE C fls ta) := by
  refine ⟨fun pins s σ H Q I h => ?_⟩
  refine wpAny_Call_Name_kw (ld_glob I hg c.g ?_ hdb)
  refine PySem.W.callWith_K (h₀ := X.base) I.ok.mod.kin c.er.kC (thn (ha.run pos pins s σ H _ I h) fun us s1 ⟨vs, H1, I1, r1, hl, q1⟩ => ⟨I1.kIn, ?_⟩) he hpl
  refine er_run c hr hk I1 hl ?_ r1 (fun fI fd ps F1 b1 b2 a s hi hln => ?_) q1
  · show us.length ≤ 10
    rw [← Paired.length r1, hl]
    exact Nat.le_trans c.few (by decide)
  · have hl2 : (Value.ref a :: us ++ []).length = ps.length := by
      rw [← hln, List.append_nil, List.length_cons, List.length_cons, List.length_map, Paired.length r1]
    have z := b1 s (Value.ref a :: us) hi hl2
    rw [List.append_nil] at z
    exact z
theorem pe_mkEK (c : MkE X.prog X.w X.K X.mg X.base k x C fls) (hr : Room j X.A) (hk : k + 1 ≤ j) (hg : Gl X x) (hkw : PK X kws tk)
    (hall : (backToKw pos (keywordEach kws X.env)).all (·.1.isSome) = true := by rfl) (hks : (backToKw pos (keywordEach kws X.env)).filterMap (·.1) = fls.reverse := by rfl) (hdb : (x == ("__debug__" : Str)) = false := by decide)
    (hpl : ((backTo pos (starEach [] X.env)).any (·.1) || (backToKw pos (keywordEach kws X.env)).any (·.1.isNone)) = false := by rfl) :
    PE X (.Call (.Name x p) [] kws pos) (tMkEK C fls tk) := by
  refine ⟨fun pins s σ H Q I h => ?_⟩
  refine wpAny_Call_Name_kw (ld_glob I hg c.g ?_ hdb)
  refine PySem.W.callWith_KW0 (h₀ := X.base) I.ok.mod.kin c.er.kC hall ?_ hpl
  refine thn (hkw.run pos pins s σ H _ I h) fun ws s2 ⟨zs, H2, I2, rz, hl, q2⟩ => ⟨I2.kIn, ?_⟩
  rw [hks]
  refine er_run (us := []) (ys := zs.reverse) (ws := ws.reverse) c hr hk I2 (by rw [List.length_reverse]; exact hl) (Nat.zero_le _) (er_vrev rz) (fun fI fd ps F1 b1 b2 a s hi hln => ?_) q2
  exact b2.to s [Value.ref a] ws hi rfl (by rw [← Paired.length rz, List.length_reverse]; exact hl)
end

/-! ### made without anything -/
structure MkN (K : PySem.W.Frag) (mg : Str → Option Value) (x : Str) (C : Addr) : Prop where
  er : ErC K C
  g : mg x = some (.ref C)
  ini : ∃ B newId initId tl, ExB B newId initId tl ∧ PySem.W.excInitIn K C tl newId = true ∧ PySem.W.findIn K (.ref C) "__init__" = some (some (.builtin initId))
def tMk0 (C : Addr) : TE := fun _ H Q => ∀ a H', Same H H' → H a = none → ErAt C [] H' a → Q (.ref a) H'
theorem pe_mk0 {X : Cx} {x : Str} {C : Addr} {p pos : Pos} (c : MkN X.K X.mg x C) (hg : Gl X x) (hdb : (x == ("__debug__" : Str)) = false := by decide) : PE X (.Call (.Name x p) [] [] pos) (tMk0 C) := by
  refine ⟨fun pins s σ H Q I h => ?_⟩
  obtain ⟨B, newId, initId, tl, eb, hin, hi⟩ := c.ini
  refine wpAny_Call_Name_kw (ld_glob I hg c.g ?_ hdb)
  refine PySem.W.callWith_K0 I.kIn c.er.kC ?_
  obtain ⟨hp, g, dr, tk, os⟩ := s
  obtain ⟨nm, N, q, bs, bm, hdct, sn, sub, ab, col, dd, k0, k1, k2, k3, k5, hC, hT⟩ := PySem.W.excInit_of (h := hp) I.kIn hin
  refine PySem.W.call_B eb.fb hT hC (PySem.W.looks_findIn I.kIn hi) (Nat.zero_le _) fun h' k e' t' => ?_
  have I2 : Inv X pins σ (upd H (hp.objs.size + 1) (exo (hp.objs.size + 1) C none)) ⟨h', g, dr, tk, os⟩ :=
    I.laid (t' := tk) (a := hp.objs.size + 1) (o := exo (hp.objs.size + 1) C none) (h' := h') k (Nat.le_succ _) (exo_ok e')
  have hn : H (hp.objs.size + 1) = none := I.hok.fresh (Nat.le_succ _)
  exact ⟨.ref (hp.objs.size + 1), _, I2, rfl, h _ _ (MG.Same.new (Same.refl H) hn) hn (.inl ⟨rfl, upd_same⟩)⟩
/-! ### read, asked -/
def tErG (K : PySem.W.Frag) (f : Str) (te : TE) : TE := fun σ H Q => te σ H fun x H1 => ∃ (a C d : Addr) (fs : List (Str × V)) (v : V), x = .ref a ∧ ErC K C ∧ PySem.W.findIn K (.ref C) f = some none ∧ H1 a = some (exo a C (some d)) ∧ H1 d = some (exd d fs) ∧ fs.lookup f = some v ∧ Q v H1
theorem pe_erG {X : Cx} {e : Expr} {te : TE} {pos : Pos} {n : Str} (he : PE X e te) (hb : attributeBase e n X.env (eval e X.env) = eval e X.env := by rfl) : PE X (.Attribute e n pos) (tErG X.K n te) := by
  refine ⟨fun pins s σ H Q I h => ?_⟩
  refine attr_of hb (thn (he.run pins s σ H _ I h) fun u s1 hh => ?_)
  obtain ⟨x, H1, I1, rx, a, C, d, fs, v, ex, T, hno, ea, ed, l, q⟩ := hh
  subst ex
  obtain rfl : u = Value.ref a := rx
  obtain ⟨t1, ho⟩ := exo_at I1.hok ea
  obtain ⟨mA, hns, hr⟩ := exd_at I1.hok ed
  obtain ⟨od, hod, hl⟩ := lookIn_ns hns
  obtain ⟨u, hu, ru⟩ := RelO.some_of (v := v) (o := mA n) (by rw [← l]; exact hr n)
  have J : PySem.W.InstAt s1.heap a { cls := .ref C, dict := some d, data := .fields #[.ref t1, .none, .none, .none, .bool false, .none] } C (some od) := ⟨ho, rfl, rfl, hod⟩
  exact HandSPX.exc_get I1.kIn J T.ga T.gg T.exC (PySem.W.findObj_own T.hd hno rfl (by rw [hl, hu])) (handed_of ru) ⟨v, H1, I1.tok _, ru, q⟩
theorem pe_erGK {X : Cx} {K : PySem.W.Frag} {e : Expr} {te : TE} {pos : Pos} {n : Str} (he : PE X e te) (hK : X.K = K := by rfl) (hb : attributeBase e n X.env (eval e X.env) = eval e X.env := by rfl) : PE X (.Attribute e n pos) (tErG K n te) := by
  subst hK
  exact pe_erG he hb
def rIsEr (K : PySem.W.Frag) : List V → Hp → VK → Prop := fun xs H Q => ∃ (a C : Addr) (fs : List (Str × V)) (c : V) (cv : Value) (b : Bool), xs = [.ref a, c] ∧ ErC K C ∧ ErAt C fs H a ∧ (∀ u, RelV c u → u = cv) ∧ PySem.W.kitOne K (.ref C) cv = some b ∧ Q (.bl b) H
theorem ErC.kit {K : PySem.W.Frag} {C x : Addr} (T : ErC K C) (ox : Obj) (od : Option Obj) : PySem.W.KitX K (.ref x) (.ref C) (fun h => PySem.W.InstAt h x ox C od) := by
  obtain ⟨cd, hcd, _⟩ := T.look
  exact PySem.W.kitx_exc (by rw [hcd]; rfl) T.ga T.gg T.exC T.ca T.cn T.ct T.mo
theorem call_isEr {X : Cx} : CallR X (.builtin "isinstance") (rIsEr X.K) := by
  intro pins s σ H xs us Q I r h
  obtain ⟨a, C, fs, c, cv, b, rfl, T, ea, hcv, e, q⟩ := h
  cases r with
  | cons rx rr =>
    cases rr with
    | cons rt rr =>
      cases rr
      cases rx
      have ec := hcv _ rt
      subst ec
      rcases ea with ⟨_, ea⟩ | ⟨d, ea, ed⟩
      · obtain ⟨t1, ho⟩ := exo_at I.hok ea
        have J : PySem.W.InstAt s.heap a { cls := .ref C, dict := none, data := .fields #[.ref t1, .none, .none, .none, .bool false, .none] } C none := ⟨ho, rfl, rfl, trivial⟩
        exact PySem.W.kia_one (T.kit _ _) I.kIn J e (fun z => nomatch z) fun tk => ⟨.bl b, H, I.kept (t' := tk) fun _ _ z => z, rfl, q⟩
      · obtain ⟨t1, ho⟩ := exo_at I.hok ea
        obtain ⟨mA, hns, hr⟩ := exd_at I.hok ed
        obtain ⟨od, hod, hl⟩ := lookIn_ns hns
        have J : PySem.W.InstAt s.heap a { cls := .ref C, dict := some d, data := .fields #[.ref t1, .none, .none, .none, .bool false, .none] } C (some od) := ⟨ho, rfl, rfl, hod⟩
        exact PySem.W.kia_one (T.kit _ _) I.kIn J e (fun z => nomatch z) fun tk => ⟨.bl b, H, I.kept (t' := tk) fun _ _ z => z, rfl, q⟩
end MG

/-! what the written part says of the classes of errors, in a few answers -/
namespace MG
open PySem PySem.Spec PyProof.Rows L2
def tlB : Nat → List Value
  | 0 => [.type "ValueError", .type "Exception", .type "BaseException", .type "object"]
  | 1 => [.type "LookupError", .type "Exception", .type "BaseException", .type "object"]
  | _ => [.type "ArithmeticError", .type "Exception", .type "BaseException", .type "object"]
def nmB : Nat → String
  | 0 => "ValueError"
  | 1 => "LookupError"
  | _ => "ArithmeticError"
def nwB : Nat → String
  | 0 => "ValueError.__new__"
  | 1 => "LookupError.__new__"
  | _ => "ArithmeticError.__new__"
def inB : Nat → String
  | 0 => "ValueError.__init__"
  | 1 => "LookupError.__init__"
  | _ => "ArithmeticError.__init__"
theorem exb : ∀ b, ExB (nmB b) (nwB b) (inB b) (tlB b)
  | 0 => ⟨PySem.F.excBase_ValueError, PySem.F.store_ValueError⟩
  | 1 => ⟨PySem.F.excBase_LookupError, PySem.F.store_LookupError⟩
  | _ + 2 => ⟨PySem.F.excBase_ArithmeticError, PySem.F.store_ArithmeticError⟩
def erB (K : PySem.W.Frag) (C : Addr) (b : Nat) : Bool :=
  PySem.W.excInitIn K C (tlB b) (nwB b) && (PySem.W.excOver K C (tlB b) && (decide (PySem.W.findIn K (.ref C) "__setattr__" = some (some (.builtin "object.__setattr__"))) && (decide (PySem.W.subIn K (.ref C) (.type "BaseException") = some true) &&
    (decide (PySem.W.typeIn K (.ref C) = some (.type "type")) && (PySem.W.keepIn K (.ref C) && (decide (PySem.W.findIn K (.ref C) "__getattribute__" = some (some (.builtin "BaseException.__getattribute__"))) && (decide (PySem.W.findIn K (.ref C) "__getattr__" = some none) &&
      (PySem.W.hasDictIn K C && (decide (PySem.W.findIn K (.ref C) "__class__" = some (some (.builtin "object.__class__"))) && (decide (PySem.W.specialIn K (.builtin "object.__class__") "__get__" = some (some (.builtin "getset_descriptor.__get__"))) &&
        (decide (PySem.W.takesIn K (.builtin "object.__class__") = some true) && decide (PySem.W.mroIn K C (.type "object") = some true))))))))))))
theorem erB_ok {K : PySem.W.Frag} {C : Addr} {b : Nat} (h : erB K C b = true) : ErC K C := by
  unfold erB at h
  simp only [Bool.and_eq_true, decide_eq_true_eq] at h
  obtain ⟨h1, h2, h3, h4, h5, h6, h7, h8, h9, h10, h11, h12, h13⟩ := h
  exact ⟨⟨_, _, _, _, exb b, h1, h2⟩, h3, h4, h5, h6, h7, h8, h9, h10, h11, h12, h13⟩
/-- all of them; the i-th stands over the built-in class b i -/
def erAll (K : PySem.W.Frag) (b : Nat → Nat) (L : List Addr) : Bool := (List.range L.length).all fun i => erB K (L.getD i 0) (b i)
theorem erAll_ok {K : PySem.W.Frag} {b : Nat → Nat} {L : List Addr} (h : erAll K b L = true) {i : Nat} (hi : i < L.length) : ErC K (L.getD i 0) :=
  erB_ok (List.all_eq_true.mp h i (List.mem_range.mpr hi))
theorem erAll_in {K : PySem.W.Frag} {b : Nat → Nat} {L : List Addr} (h : erAll K b L = true) {i : Nat} (hi : i < L.length) : PySem.W.excInitIn K (L.getD i 0) (tlB (b i)) (nwB (b i)) = true := by
  have z := List.all_eq_true.mp h i (List.mem_range.mpr hi)
  unfold erB at z
  exact (Bool.and_eq_true_iff.mp z).1
/-- fields that no class has of itself -/
def noAll (K : PySem.W.Frag) (L : List (Addr × Str)) : Bool := L.all fun p => decide (PySem.W.findIn K (.ref p.1) p.2 = some none)
theorem noAll_ok {K : PySem.W.Frag} {L : List (Addr × Str)} (h : noAll K L = true) {p : Addr × Str} (hp : p ∈ L) : PySem.W.findIn K (.ref p.1) p.2 = some none := of_decide_eq_true (List.all_eq_true.mp h p hp)
/-- defs -/
def fnAll (K : PySem.W.Frag) (L : List Addr) : Bool := L.all fun a => decide (PySem.W.typeIn K (.ref a) = some (.type "function"))
theorem fnAll_ok {K : PySem.W.Frag} {L : List Addr} (h : fnAll K L = true) {a : Addr} (ha : a ∈ L) : PySem.W.typeIn K (.ref a) = some (.type "function") := of_decide_eq_true (List.all_eq_true.mp h a ha)
/-- which class derives from which: the n first ones stand apart, the i-th under the base n + b i and the built-in class b i -/
def soAll (K : PySem.W.Frag) (b : Nat → Nat) (n : Nat) (L : List Addr) : Bool := (List.range n).all fun i =>
  ((List.range n).all fun j => decide (PySem.W.subIn K (.ref (L.getD i 0)) (.ref (L.getD j 0)) = some (decide (j = i)))) &&
  (((List.range 3).all fun j => decide (PySem.W.subIn K (.ref (L.getD i 0)) (.ref (L.getD (n + j) 0)) = some (decide (j = b i)))) &&
    ((List.range 3).all fun j => decide (PySem.W.subIn K (.ref (L.getD i 0)) (.type (nmB j)) = some (decide (j = b i)))))
/-- they are classes, and no two the same -/
def clAll (K : PySem.W.Frag) (L : List Addr) : Bool := L.all fun a => PySem.W.isClsIn K a && decide (PySem.W.typeIn K (.ref a) = some (.type "type"))
theorem kit_rrr {K : PySem.W.Frag} {A B : Addr} {b : Bool} (h1 : PySem.W.isClsIn K B = true) (h2 : PySem.W.typeIn K (.ref B) = some (.type "type")) (h : PySem.W.subIn K (.ref A) (.ref B) = some b) (hb : A = B → b = true) : PySem.W.kitOne K (.ref A) (.ref B) = some b := by
  by_cases e : A = B
  · subst e
    rw [hb rfl]
    exact kit_rr
  have e' : (Value.ref A == Value.ref B) = false := beq_eq_false_iff_ne.mpr fun z => e (Value.ref.inj z)
  unfold PySem.W.kitOne
  rw [e']
  show (if ((PySem.W.clsIn K B).isSome && PySem.W.typeIn K (.ref B) == some (.type "type")) = true then PySem.W.subIn K (.ref A) (.ref B) else none) = some b
  have h1' : (PySem.W.clsIn K B).isSome = true := h1
  rw [h1', h2, if_pos (by simp), h]
theorem clAll_ok {K : PySem.W.Frag} {L : List Addr} (h : clAll K L = true) {a : Addr} (ha : a ∈ L) : PySem.W.isClsIn K a = true ∧ PySem.W.typeIn K (.ref a) = some (.type "type") := by
  have z := List.all_eq_true.mp h a ha
  exact ⟨(Bool.and_eq_true_iff.mp z).1, of_decide_eq_true (Bool.and_eq_true_iff.mp z).2⟩
theorem getD_mem {L : List Addr} {i : Nat} (hi : i < L.length) : L.getD i 0 ∈ L := by
  rw [List.getD_eq_getElem?_getD, List.getElem?_eq_getElem hi]
  exact List.getElem_mem hi
theorem soAll_ok {K : PySem.W.Frag} {b : Nat → Nat} {n : Nat} {L : List Addr} (h : soAll K b n L = true) (hc : clAll K L = true) (hn : n + 3 = L.length) {i : Nat} (hi : i < n) :
    (∀ j, j < n → PySem.W.kitOne K (.ref (L.getD i 0)) (.ref (L.getD j 0)) = some (decide (j = i))) ∧
    (∀ j, j < 3 → PySem.W.kitOne K (.ref (L.getD i 0)) (.ref (L.getD (n + j) 0)) = some (decide (j = b i))) ∧
    (∀ j, j < 3 → PySem.W.kitOne K (.ref (L.getD i 0)) (.type (nmB j)) = some (decide (j = b i))) := by
  have z := List.all_eq_true.mp h i (List.mem_range.mpr hi)
  simp only [Bool.and_eq_true, List.all_eq_true, List.mem_range, decide_eq_true_eq] at z
  obtain ⟨z1, z2, z3⟩ := z
  refine ⟨fun j hj => ?_, fun j hj => ?_, fun j hj => ?_⟩
  · obtain ⟨c1, c2⟩ := clAll_ok hc (getD_mem (L := L) (i := j) (by omega))
    refine kit_rrr c1 c2 (z1 j hj) fun e => ?_
    have y := z1 i hi
    rw [decide_eq_true rfl] at y
    have y2 := z1 j hj
    rw [← e, y] at y2
    exact (Option.some.inj y2).symm
  · obtain ⟨c1, c2⟩ := clAll_ok hc (getD_mem (L := L) (i := n + j) (by omega))
    refine kit_rrr c1 c2 (z2 j hj) fun e => ?_
    have y := z1 i hi
    rw [decide_eq_true rfl] at y
    have y2 := z2 j hj
    rw [← e, y] at y2
    exact (Option.some.inj y2).symm
  · refine kit_rt ?_ (z3 j hj)
    match j, hj with
    | 0, _ => decide +kernel
    | 1, _ => decide +kernel
    | 2, _ => decide +kernel
end MG

namespace Lw
open PySem PySem.Spec PyProof.Rows L2 MG
def top (i : Nat) : Stmt := PySem.Challenge.pw_matrixforms_k01_constants_and_errors.main.body.getD i (.Pass ⟨0, 0, 0, 0⟩)
abbrev s__law_purse : Stmt := top 55
abbrev s__law_draw : Stmt := top 56
abbrev s__law_great : Stmt := top 57
abbrev s__law_from : Stmt := top 58
structure Blt (mg : Str → Option Value) : Prop where
  b_int : mg "int" = none
  b_len : mg "len" = none
  b_abs : mg "abs" = none
  b_range : mg "range" = none
  b_max : mg "max" = none
  b_min : mg "min" = none
  b_all : mg "all" = none
  b_repr : mg "repr" = none
  b_isinstance : mg "isinstance" = none
  b_bool : mg "bool" = none
  b_str : mg "str" = none
  b_any : mg "any" = none

/-- the cells, the next one, what is left of the last one, the turns -/
structure QAt (H : Hp) (q : Addr) (n : Nat) : Prop where
  ex : ∃ (c : Addr) (ns : List Int) (i r t : Int), H q = some (.lst [.ref c, .int i, .int r, .int t]) ∧ H c = some (.lst (ns.map V.int)) ∧
    (∀ z ∈ ns, 0 ≤ z ∧ z < 10 ^ 120) ∧ ns.length ≤ 100000 ∧ (0 ≤ i ∧ i ≤ n) ∧ (0 ≤ r ∧ r < 10 ^ 120) ∧ (0 ≤ t ∧ t ≤ n)
def spDraw : Sp := fun vs H Q _ => ∃ (q : Addr) (m : Int) (n : Nat), vs = [.ref q, .int m] ∧ QAt H q n ∧ n ≤ 100000 ∧ 0 < m ∧ m < 10 ^ 30 ∧
  ∀ (r : Int) (H' : Hp), 0 ≤ r → r < m → Keep q H H' → QAt H' q (n + 1) → Q (.int r) H'
theorem cells_ne {H : Hp} {q c : Addr} {ns : List Int} {i r t : Int} (hq : H q = some (.lst [.ref c, .int i, .int r, .int t])) (hc : H c = some (.lst (ns.map V.int))) : c ≠ q :=
  ne_of hc hq (by
    intro e
    have e2 := HO.lst.inj e
    cases ns with
    | nil => cases e2
    | cons a b => cases e2)
def primes : List Int := [1000003, 1299709, 2750159, 3497861, 4256233, 5800079, 6700417, 7368787, 8460041, 9576901, 15485863]
theorem primes_ok {z : Int} (h : z ∈ primes) : 0 < z ∧ z ≤ 15485863 := by
  simp only [primes, List.mem_cons, List.not_mem_nil, or_false] at h
  omega
theorem prime_at {i : Int} (h0 : 0 ≤ i) (h : i < 11) : ∃ z, atI ([.int 1000003, .int 1299709, .int 2750159, .int 3497861, .int 4256233, .int 5800079, .int 6700417, .int 7368787, .int 8460041, .int 9576901, .int 15485863] : List V) i = some (.int z) ∧ 0 < z ∧ z ≤ 15485863 := by
  obtain ⟨z, hz, e⟩ := at_ints (l := primes) h0 (by show i < 11; exact h)
  exact ⟨z, e, primes_ok hz⟩
section
variable {P : Program} {w : World} {K : PySem.W.Frag} {mg : Str → Option Value} {base : Heap}
theorem sc__law_draw : FnScope ["_law_q", "_law_many", "_law_digit", "_law_cells", "_law_cell", "_law_turn", "_law_primes", "_law_blend"] ["_law_q", "_law_many"] (defScope s__law_draw) := ⟨rfl, rfl, rfl, by decide +kernel, rfl, by decide +kernel, by decide +kernel⟩
theorem ok_draw {f : Addr} {fd : FuncData} (F : Fun K "_law_draw" "_law_draw" s__law_draw f fd) (T : Blt mg) : FnG P w K mg base CX0 2 f fd ["_law_q", "_law_many"] spDraw := by
  refine fun_okG F sc__law_draw (fun vs H Q E h => ?_) (fun cdv A outer s H vs Q E bare hr h => ?_)
  · obtain ⟨q, m, n, rfl, _⟩ := h
    rfl
  · obtain ⟨q, m, n, rfl, ⟨c, ns, i, r, t, hq, hc, hz, hl, ⟨hi0, hi⟩, ⟨hr0, hr1⟩, ⟨ht0, ht⟩⟩, hn, hm0, hm, k⟩ := h
    have ncq := cells_ne hq hc
    have smm : Sm m := sm_lt (k := 30) (by decide) (by omega) hm
    refine ⟨_, (pss_cons (ps_if (pt_cmpR op_gt (pe_ix (ix_listK (K := K)) (pv 0) pe_int (fun _ _ => rfl)) pe_int (nomark _)) (pss_cons (ps_set (i := 2) sc__law_draw.nd rfl (Or.inl rfl) (pe_op op_modN (pe_callTy call_int1 (by rfl) T.b_int (by decide +kernel) (pa_cons (pe_ix (ix_listK (K := K)) (pv 0) pe_int (fun _ _ => rfl)) pa_nil)) (pv 1)))
  (pss_cons (ps_asg (pe_op op_fdivZ (pe_ix (ix_listK (K := K)) (pv 0) pe_int (fun _ _ => rfl)) (pv 1)) (pg_sub (pv 0) pe_int set_list))
  (pss_one (ps_ret (pv 2)))))
  pss_nil)
  (pss_cons (ps_set (i := 3) sc__law_draw.nd rfl (Or.inl rfl) (pe_cut (pe_ifExp (pt_truth (pe_ix (ix_listK (K := K)) (pv 0) pe_int (fun _ _ => rfl)) (by intro _; rfl)) (pe_ix (ix_listK (K := K)) (pv 0) pe_int (fun _ _ => rfl)) (pe_lst (pa_cons pe_int pa_nil)))))
  (pss_cons (ps_set (i := 4) sc__law_draw.nd rfl (Or.inl rfl) (pe_ix (ix_listK (K := K)) (pv 3) (pe_op op_modN (pe_callTy call_int1 (by rfl) T.b_int (by decide +kernel) (pa_cons (pe_ix (ix_listK (K := K)) (pv 0) pe_int (fun _ _ => rfl)) pa_nil)) (pe_callB (id := "len") call_len_seq (by rfl) T.b_len (by decide +kernel) (pa_cons (pv 3) pa_nil))) (fun _ _ => rfl)))
  (pss_cons (ps_asg (pe_op op_add (pe_ix (ix_listK (K := K)) (pv 0) pe_int (fun _ _ => rfl)) pe_int) (pg_sub (pv 0) pe_int set_list))
  (pss_cons (ps_if (pt_cmpR op_ge (pv 4) (pe_op op_pow pe_int pe_int) (nomark _)) (pss_cons (ps_asg (pe_op op_fdivZ (pv 4) (pv 1)) (pg_sub (pv 0) pe_int set_list))
  (pss_one (ps_ret (pe_op op_modN (pe_callTy call_int1 (by rfl) T.b_int (by decide +kernel) (pa_cons (pv 4) pa_nil)) (pv 1)))))
  pss_nil)
  (pss_cons (ps_set (i := 5) sc__law_draw.nd rfl (Or.inl rfl) (pe_ix (ix_listK (K := K)) (pv 0) pe_int (fun _ _ => rfl)))
  (pss_cons (ps_asg (pe_op op_add (pv 5) pe_int) (pg_sub (pv 0) pe_int set_list))
  (pss_cons (ps_set (i := 6) sc__law_draw.nd rfl (Or.inl rfl) (pe_lst (pa_cons pe_int (pa_cons pe_int (pa_cons pe_int (pa_cons pe_int (pa_cons pe_int (pa_cons pe_int (pa_cons pe_int (pa_cons pe_int (pa_cons pe_int (pa_cons pe_int (pa_cons pe_int pa_nil)))))))))))))
  (pss_cons (ps_set (i := 7) sc__law_draw.nd rfl (Or.inl rfl) (pe_op op_modN (pe_callTy call_int1 (by rfl) T.b_int (by decide +kernel) (pa_cons (pe_op op_add (pe_op op_mulW (pe_op op_add (pv 4) pe_int) pe_int) (pe_op op_mulW (pe_op op_mulW (pe_op op_add (pv 5) pe_int) (pe_op op_add (pv 5) pe_int)) pe_int)) pa_nil)) (pe_ix (ix_listK (K := K)) (pv 6) (pe_op op_modN (pe_callTy call_int1 (by rfl) T.b_int (by decide +kernel) (pa_cons (pv 5) pa_nil)) pe_int) (fun _ _ => rfl))))
  (pss_cons (ps_set (i := 7) sc__law_draw.nd rfl (Or.inl rfl) (pe_op op_modN (pe_callTy call_int1 (by rfl) T.b_int (by decide +kernel) (pa_cons (pe_op op_add (pe_op op_pow (pv 7) pe_int) (pe_op op_mulW (pv 5) pe_int)) pa_nil)) pe_int))
  (pss_one (ps_ret (pe_op op_modN (pe_callTy call_int1 (by rfl) T.b_int (by decide +kernel) (pa_cons (pe_op op_fdivZ (pv 7) pe_int) pa_nil)) (pv 1)))))))))))))), ?_⟩
    -- if q[2] > 0
    refine ⟨_, rfl, q, _, _, _, rfl, rfl, SqL.of hq, rfl, _, _, rfl, rfl, _, rfl, ?_⟩
    refine ite2 (fun hpos => ?_) (fun hpos => ?_)
    · -- digit = int(q[2]) % many; q[2] = q[2] // many; return digit
      refine ⟨_, rfl, q, _, _, _, rfl, rfl, SqL.of hq, rfl, Or.inl ⟨_, rfl, _, rfl, _, _, rfl, rfl, by omega, ?_⟩⟩
      refine ⟨_, rfl, q, _, _, _, rfl, rfl, SqL.of hq, rfl, _, rfl, _, _, rfl, rfl, sm_div smm (by omega), ?_⟩
      refine ⟨_, rfl, q, _, _, _, rfl, rfl, hq, rfl, ?_⟩
      refine ⟨_, rfl, ?_⟩
      refine k _ _ (fmod_ge hm0) (fmod_lt hm0) Keep.refl.upd ⟨c, ns, i, _, t, upd_same, ?_, hz, hl, ⟨hi0, by omega⟩, ⟨fdiv_ge hr0 hm0, Int.lt_of_le_of_lt (fdiv_le hr0 hm0) hr1⟩, ⟨ht0, by omega⟩⟩
      rw [upd_ne ncq]
      exact hc
    · -- cells = q[0] if q[0] else [0]
      refine ⟨fun v H' => ∃ (c' : Addr) (ns' : List Int), v = .ref c' ∧ H' c' = some (.lst (ns'.map V.int)) ∧ ns' ≠ [] ∧ ns'.length ≤ 100000 ∧ (∀ z ∈ ns', 0 ≤ z ∧ z < 10 ^ 120) ∧ c' ≠ q ∧ Same H H', ?_, ?_⟩
      · refine ⟨_, rfl, q, _, _, _, rfl, rfl, SqL.of hq, rfl, _, Or.inl ⟨_, SqL.of hc, rfl⟩, ?_⟩
        cases ns with
        | nil =>
          refine iteF ?_
          refine ⟨by show 1 ≤ sizeLine; decide, fun p hp => ?_⟩
          refine ⟨p, [0], rfl, upd_same, by simp, by decide, by decide, ?_, MG.Same.new (Same.refl H) hp⟩
          exact (ne_of_none hq hp).symm
        | cons z ns =>
          refine iteT ?_
          exact ⟨_, rfl, q, _, _, _, rfl, rfl, SqL.of hq, rfl, c, z :: ns, rfl, hc, by simp, hl, hz, ncq, Same.refl H⟩
      rintro v H1 ⟨c', ns', rfl, hc', hne, hl', hz', ncq', s1⟩
      have hq1 := s1 _ _ hq
      have hlen : 0 < (ns'.length : Int) := by
        have : 0 < ns'.length := List.length_pos_iff.mpr hne
        omega
      -- cell = cells[int(q[1]) % len(cells)]
      have hlm : ((ns'.map V.int).length : Int) = ns'.length := by rw [List.length_map]
      obtain ⟨z, hzm, ez⟩ := at_ints (l := ns') (i := i.fmod ((ns'.map V.int).length : Int)) (fmod_ge (by omega)) (by rw [hlm]; exact fmod_lt hlen)
      obtain ⟨z0, z1⟩ := hz' z hzm
      refine ⟨_, rfl, _, rfl, q, _, _, _, rfl, rfl, SqL.of hq1, rfl, Or.inl ⟨_, rfl, _, rfl, c', _, rfl, Or.inl (SqL.of hc'), _, _, rfl, rfl, by omega, ?_⟩⟩
      refine ⟨c', _, _, _, rfl, rfl, SqL.of hc', ez, ?_⟩
      -- q[1] = q[1] + 1
      refine ⟨_, rfl, q, _, _, _, rfl, rfl, SqL.of hq1, rfl, _, _, rfl, rfl, ?_⟩
      refine ⟨_, rfl, q, _, _, _, rfl, rfl, hq1, rfl, ?_⟩
      -- if cell >= 10 ** 18
      refine ⟨_, rfl, _, _, rfl, rfl, ⟨by decide, by decide, by decide⟩, _, _, rfl, rfl, _, rfl, ?_⟩
      have smz : Sm z := sm_lt (k := 120) (by decide) (by omega) z1
      have nc1 : ∀ {o : HO}, upd H1 q o c = some (.lst (ns.map V.int)) := fun {o} => by rw [upd_ne ncq]; exact s1 _ _ hc
      refine ite2 (fun hbig => ?_) (fun hbig => ?_)
      · refine ⟨_, rfl, _, rfl, _, _, rfl, rfl, sm_div smm (by omega), ?_⟩
        refine ⟨_, rfl, q, _, _, _, rfl, rfl, upd_same, rfl, ?_⟩
        refine ⟨_, rfl, Or.inl ⟨_, rfl, _, rfl, _, _, rfl, rfl, by omega, ?_⟩⟩
        refine k _ _ (fmod_ge hm0) (fmod_lt hm0) (Same.keep s1).upd.upd ⟨c, ns, _, _, t, upd_same, ?_, hz, hl, ⟨by omega, by omega⟩, ⟨fdiv_ge z0 hm0, Int.lt_of_le_of_lt (fdiv_le z0 hm0) z1⟩, ⟨ht0, by omega⟩⟩
        rw [upd_ne ncq]
        exact nc1
      · -- turn = q[3]; q[3] = turn + 1
        refine ⟨_, rfl, q, _, _, _, rfl, rfl, SqL.of upd_same, rfl, ?_⟩
        refine ⟨_, rfl, _, _, rfl, rfl, ?_⟩
        refine ⟨_, rfl, q, _, _, _, rfl, rfl, upd_same, rfl, ?_⟩
        -- primes
        refine ⟨by show 11 ≤ sizeLine; decide, fun p hp => ?_⟩
        have hp' : H1 p = none := by
          have npq : p ≠ q := fun e => by rw [e, upd_same] at hp; cases hp
          rw [upd_ne npq, upd_ne npq] at hp
          exact hp
        -- blend = int((cell + 1) * 48271 + (turn + 1) * (turn + 7) * 69621) % primes[int(turn) % 11]
        obtain ⟨y, ey, y0, y1⟩ := prime_at (i := t.fmod 11) (fmod_ge (by decide)) (fmod_lt (by decide))
        have st : ∀ a : Int, 0 ≤ a → a ≤ 1000000 → Sm a := fun a h0 h1 => sm_lt (k := 7) (by decide) (by omega) (by omega)
        have hm1 : Sm ((t + 1) * (t + 7)) := by
          have h1 : (t + 1) * (t + 7) ≤ 200000 * 200000 := Int.mul_le_mul (by omega) (by omega) (by omega) (by omega)
          have h2 : 0 ≤ (t + 1) * (t + 7) := Int.mul_nonneg (by omega) (by omega)
          exact sm_lt (k := 20) (by decide) (by omega) (by omega)
        refine ⟨_, rfl, _, _, rfl, rfl, _, _, rfl, rfl, sm_mul (sm_lt (k := 121) (by decide) (by omega) (by omega)) (st _ (by decide) (by decide)), ?_⟩
        refine ⟨_, rfl, _, _, rfl, rfl, _, rfl, _, _, rfl, rfl, _, _, rfl, rfl, sm_mul (st _ (by omega) (by omega)) (st _ (by omega) (by omega)), _, _, rfl, rfl, sm_mul hm1 (st _ (by decide) (by decide)), ?_⟩
        refine ⟨_, _, rfl, rfl, Or.inl ⟨_, rfl, ?_⟩⟩
        refine ⟨_, rfl, _, rfl, Or.inl ⟨_, rfl, _, _, rfl, rfl, (show (11 : Int) ≠ 0 by decide), p, _, _, _, rfl, rfl, SqL.of upd_same, ey, _, _, rfl, rfl, by omega, ?_⟩⟩
        -- blend = int(blend ** 3 + turn * 40503) % 2147483647
        have b0 := fmod_ge (x := (z + 1) * 48271 + (t + 1) * (t + 7) * 69621) y0
        have b1 := fmod_lt (x := (z + 1) * 48271 + (t + 1) * (t + 7) * 69621) y0
        refine ⟨_, rfl, _, _, rfl, rfl, ⟨by decide, by decide, ?_⟩, _, rfl, _, _, rfl, rfl, sm_mul (st _ (by omega) (by omega)) (st _ (by decide) (by decide)), _, _, rfl, rfl, Or.inl ⟨_, rfl, _, _, rfl, rfl, (show (2147483647 : Int) ≠ 0 by decide), ?_⟩⟩
        · show ((((z + 1) * 48271 + (t + 1) * (t + 7) * 69621).fmod y).natAbs < 2 ^ 64)
          generalize ((z + 1) * 48271 + (t + 1) * (t + 7) * 69621).fmod y = b at *
          omega
        -- return int(blend // 32) % many
        refine ⟨_, rfl, _, _, rfl, rfl, ⟨by decide, by decide⟩, Or.inl ⟨_, rfl, _, rfl, _, _, rfl, rfl, by omega, ?_⟩⟩
        refine k _ _ (fmod_ge hm0) (fmod_lt hm0) ((Same.keep s1).upd.upd.new hp) ⟨c, ns, i + 1, r, t + 1, ?_, ?_, hz, hl, ⟨by omega, by omega⟩, ⟨hr0, hr1⟩, ⟨by omega, by omega⟩⟩
        · rw [upd_ne (fun e => by rw [← e, upd_same] at hp; cases hp)]
          exact upd_same
        · rw [upd_ne (ne_of_none (s1 _ _ hc) hp'), upd_ne ncq]
          exact nc1

theorem QAt.keep {H H' : Hp} {q : Addr} {n : Nat} (h : QAt H q n) (s : Same H H') : QAt H' q n := by
  obtain ⟨c, ns, i, r, t, hq, hc, h⟩ := h
  exact ⟨c, ns, i, r, t, s _ _ hq, s _ _ hc, h⟩
theorem QAt.at_ {H : Hp} {q : Addr} {n : Nat} (h : QAt H q n) : ∃ o, H q = some o := by
  obtain ⟨c, ns, i, r, t, hq, hc, h⟩ := h
  exact ⟨_, hq⟩
theorem QAt.ne {H : Hp} {q p : Addr} {n : Nat} (h : QAt H q n) (hp : H p = none) : p ≠ q := by
  obtain ⟨o, e⟩ := h.at_
  exact (ne_of_none e hp).symm
theorem QAt.new {H : Hp} {q p : Addr} {n : Nat} {o : HO} (h : QAt H q n) (hp : H p = none) : QAt (upd H p o) q n := h.keep (MG.Same.new (Same.refl H) hp)

abbrev DrawC (P : Program) (w : World) (K : PySem.W.Frag) (mg : Str → Option Value) (base : Heap) : Prop := CalG P w K mg base 2 "_law_draw" spDraw []
theorem signs_ok : ∀ z ∈ ([1, -1] : List Int), z = 1 ∨ z = -1 := by decide
/-! ### _law_great -/
def spGreat : Sp := fun vs H Q _ => ∃ (q : Addr) (n : Nat), vs = [.ref q] ∧ QAt H q n ∧ n + 3 ≤ 100000 ∧
  ∀ (z : Int) (H' : Hp), -(10 ^ 42) < z → z < 10 ^ 42 → Keep q H H' → QAt H' q (n + 3) → Q (.int z) H'
def fars : List Int := [1, 1, 10, 10 ^ Int.toNat 3, 10 ^ Int.toNat 9, 10 ^ Int.toNat 20, 10 ^ Int.toNat 39]
theorem fars_ok : ∀ z ∈ fars, 1 ≤ z ∧ z ≤ 10 ^ 39 := by decide +kernel
theorem sc__law_great : FnScope ["_law_q", "_law_far"] ["_law_q"] (defScope s__law_great) := ⟨rfl, rfl, rfl, by decide +kernel, rfl, by decide +kernel, by decide +kernel⟩
theorem ok_great {f : Addr} {fd : FuncData} (F : Fun K "_law_great" "_law_great" s__law_great f fd) (T : Blt mg) (c_draw : DrawC P w K mg base) : FnG P w K mg base CX0 4 f fd ["_law_q"] spGreat := by
  refine fun_okG F sc__law_great (fun vs H Q E h => ?_) (fun cdv A outer s H vs Q E bare hr h => ?_)
  · obtain ⟨q, n, rfl, _⟩ := h
    rfl
  · obtain ⟨q, n, rfl, hq, hn, k⟩ := h
    refine ⟨_, (pss_cons (ps_set (i := 1) sc__law_great.nd rfl (Or.inl rfl) (pe_ix (ix_listK (K := K)) (pe_lst (pa_cons pe_int (pa_cons pe_int (pa_cons pe_int (pa_cons (pe_op op_pow pe_int pe_int) (pa_cons (pe_op op_pow pe_int pe_int) (pa_cons (pe_op op_pow pe_int pe_int) (pa_cons (pe_op op_pow pe_int pe_int) pa_nil)))))))) (pe_cg c_draw bare hr (by decide) rfl (pa_cons (pv 0) (pa_cons pe_int pa_nil))) (fun _ _ => rfl)))
  (pss_one (ps_ret (pe_op op_mulW (pe_ix (ix_listK (K := K)) (pe_lst (pa_cons pe_int (pa_cons (pe_un un_neg pe_int) pa_nil))) (pe_cg c_draw bare hr (by decide) rfl (pa_cons (pv 0) (pa_cons pe_int pa_nil))) (fun _ _ => rfl)) (pe_op op_add (pe_op op_sub (pv 1) pe_int) (pe_op op_mulW (pe_cg c_draw bare hr (by decide) rfl (pa_cons (pv 0) (pa_cons pe_int pa_nil))) (pe_op op_add (pe_op op_fdivZ (pv 1) pe_int) pe_int))))))), ?_⟩
    refine ⟨_, _, rfl, rfl, ⟨by decide, by decide, by decide⟩, _, _, rfl, rfl, ⟨by decide, by decide, by decide⟩, _, _, rfl, rfl, ⟨by decide, by decide, by decide⟩, _, _, rfl, rfl, ⟨by decide, by decide, by decide⟩, by show 7 ≤ sizeLine; decide, fun p hp => ?_⟩
    refine ⟨_, rfl, q, 7, n, rfl, hq.new hp, by omega, by decide, by decide, fun r H1 r0 r1 k1 q1 => ?_⟩
    obtain ⟨y, hy, ey⟩ := at_ints (l := fars) r0 (by show r < 7; exact r1)
    obtain ⟨y0, y1⟩ := fars_ok y hy
    refine ⟨p, _, _, _, rfl, rfl, SqL.of (k1 _ _ upd_same (hq.ne hp)), ey, ?_⟩
    refine ⟨_, rfl, by show 2 ≤ sizeLine; decide, fun p2 hp2 => ?_⟩
    refine ⟨_, rfl, q, 2, n + 1, rfl, q1.new hp2, by omega, by decide, by decide, fun r2 H2 r20 r21 k2 q2 => ?_⟩
    obtain ⟨e, he, ee⟩ := at_ints (l := [1, -1]) r20 (by show r2 < 2; exact r21)
    have he' := signs_ok e he
    refine ⟨p2, _, _, _, rfl, rfl, SqL.of (k2 _ _ upd_same (q1.ne hp2)), ee, ?_⟩
    refine ⟨_, rfl, _, _, rfl, rfl, _, rfl, q, 60, n + 2, rfl, q2, by omega, by decide, by decide, fun r3 H3 r30 r31 k3 q3 => ?_⟩
    have d0 := fdiv_ge (x := y) (m := 7) (by omega) (by decide)
    have d1 := fdiv_le (x := y) (m := 7) (by omega) (by decide)
    have p0 : 0 ≤ r3 * (y.fdiv 7 + 1) := Int.mul_nonneg r30 (by omega)
    have p1 : r3 * (y.fdiv 7 + 1) ≤ 60 * (10 ^ 39 + 1) := Int.mul_le_mul (by omega) (by omega) (by omega) (by omega)
    refine ⟨_, rfl, _, _, rfl, rfl, ⟨by decide, by decide⟩, _, _, rfl, rfl, _, _, rfl, rfl, sm_mul (sm_lt (k := 3) (by decide) (by omega) (by omega)) (sm_lt (k := 42) (by decide) (by omega) (by omega)), ?_⟩
    refine ⟨_, _, rfl, rfl, _, _, rfl, rfl, sm_mul (sm_lt (k := 3) (by decide) (by omega) (by omega)) (sm_lt (k := 42) (by decide) (by omega) (by omega)), ?_⟩
    have kk : Keep q H H3 := ((Keep.refl.new hp).trans k1).trans ((Keep.refl.new hp2).trans (k2.trans k3))
    generalize r3 * (y.fdiv 7 + 1) = g at *
    refine k _ H3 ?_ ?_ kk q3
    · rcases he' with rfl | rfl <;> omega
    · rcases he' with rfl | rfl <;> omega

/-! ### _law_purse, _law_from -/
def spPurse (K : PySem.W.Frag) : Sp := fun vs H Q _ => ∃ (a : Addr) (ns : List Int), vs = [.ref a] ∧ SqL K H a (ns.map V.int) ∧ ns.length ≤ 100000 ∧
  ∀ q H', H q = none → Same H H' → QAt H' q 0 → Q (.ref q) H'
theorem sc__law_purse : FnScope ["_law_script", "_law_cell"] ["_law_script"] (defScope s__law_purse) := ⟨rfl, rfl, rfl, by decide +kernel, rfl, by decide +kernel, by decide +kernel⟩
theorem ok_purse {f : Addr} {fd : FuncData} (F : Fun K "_law_purse" "_law_purse" s__law_purse f fd) (T : Blt mg) : FnG P w K mg base CX0 2 f fd ["_law_script"] (spPurse K) := by
  refine fun_okG F sc__law_purse (fun vs H Q E h => ?_) (fun cdv A outer s H vs Q E bare hr h => ?_)
  · obtain ⟨a, ns, rfl, _⟩ := h
    rfl
  · obtain ⟨a, ns, rfl, hS, hl, k⟩ := h
    refine ⟨_, (pss_one (ps_ret (pe_lst (pa_cons (pe_map (K := K) (j := 1) (pe_lc (own := [("_law_cell", 1)]) (g := gName 1) (tt := tYes) rfl sc__law_purse.nd (pi_list (pe_cut (pv 0))) (blkOk_by (N := ["_law_script", "_law_cell"]) (sc := defScope s__law_purse) (by decide +kernel)) (fun _ _ _ _ _ => (pg_name (i := 1) sc__law_purse.nd rfl (Or.inl rfl))) (fun _ _ _ _ _ => pts_nil) (fun _ _ _ _ _ => (pe_cut (pe_op op_modN (pe_callTy call_int1 (by rfl) T.b_int (by decide +kernel) (pa_cons (pv 1) pa_nil)) (pe_op op_mulW (pe_op op_pow pe_int pe_int) (pe_op op_pow pe_int pe_int))))))) (pa_cons pe_int (pa_cons pe_int (pa_cons pe_int pa_nil))))))), ?_⟩
    refine ⟨_, rfl, a, ns.map V.int, (ns.map fun z => z.fmod (10 ^ Int.toNat 60 * 10 ^ Int.toNat 60)).map V.int, rfl, hS, by simp, by simpa using hl, ?_, fun D H1 s1 hD e1 => ?_⟩
    · intro i x y H' hx hy s'
      rw [List.getElem?_map] at hx
      rw [List.getElem?_map, List.getElem?_map] at hy
      cases e : ns[i]? with
      | none => rw [e] at hx; cases hx
      | some z =>
        rw [e] at hx hy
        obtain rfl := (Option.some.inj hx).symm
        obtain rfl := (Option.some.inj hy).symm
        refine ⟨_, rfl, Or.inl ⟨_, rfl, _, _, rfl, rfl, ⟨by decide, by decide, by decide⟩, _, _, rfl, rfl, ⟨by decide, by decide, by decide⟩, _, _, rfl, rfl, sm_mul (sm_lt (k := 61) (by decide) (by decide) (by decide)) (sm_lt (k := 61) (by decide) (by decide) (by decide)), _, _, rfl, rfl, (show (10 : Int) ^ Int.toNat 60 * 10 ^ Int.toNat 60 ≠ 0 by decide), ?_⟩⟩
        exact ⟨rfl, Same.refl _⟩
    · refine ⟨by show 4 ≤ sizeLine; decide, fun q hq => ?_⟩
      have nq : D ≠ q := ne_of_none e1 hq
      have hq' : H q = none := s1.free hq
      refine k q _ hq' (MG.Same.new s1 hq) ⟨D, _, 0, 0, 0, upd_same, (by rw [upd_ne nq]; exact e1), ?_, (by simpa using hl), by decide, by decide, by decide⟩
      intro y hy
      obtain ⟨z, _, rfl⟩ := List.mem_map.mp hy
      have e : (10 : Int) ^ Int.toNat 60 * 10 ^ Int.toNat 60 = 10 ^ 120 := by decide
      rw [e]
      exact ⟨fmod_ge (by decide), fmod_lt (by decide)⟩
abbrev PurseC (P : Program) (w : World) (K : PySem.W.Frag) (mg : Str → Option Value) (base : Heap) : Prop := CalG P w K mg base 2 "_law_purse" (spPurse K) []
theorem cut_map (ns : List Int) (lo hi : Option Int) : ∃ zs : List Int, cutV (ns.map V.int) lo hi = zs.map V.int ∧ zs.length ≤ ns.length := by
  refine ⟨(ns.drop (HT.sIx ns.length 0 lo)).take (HT.sIx ns.length ns.length hi - HT.sIx ns.length 0 lo), ?_, ?_⟩
  · unfold cutV
    rw [List.length_map, List.map_take, List.map_drop]
  · rw [List.length_take, List.length_drop]
    omega
def spFrom (K : PySem.W.Frag) : Sp := fun vs H Q _ => ∃ (a : Addr) (ns : List Int) (j : Int), vs = [.ref a, .int j] ∧ SqL K H a (ns.map V.int) ∧ ns.length ≤ 1000 ∧
  ∀ q H', H q = none → Same H H' → QAt H' q 0 → Q (.ref q) H'
theorem sc__law_from : FnScope ["_law_script", "_law_k"] ["_law_script", "_law_k"] (defScope s__law_from) := ⟨rfl, rfl, rfl, by decide +kernel, rfl, by decide +kernel, by decide +kernel⟩
theorem ok_from {f : Addr} {fd : FuncData} (F : Fun K "_law_from" "_law_from" s__law_from f fd) (c_purse : PurseC P w K mg base) : FnG P w K mg base CX0 4 f fd ["_law_script", "_law_k"] (spFrom K) := by
  refine fun_okG F sc__law_from (fun vs H Q E h => ?_) (fun cdv A outer s H vs Q E bare hr h => ?_)
  · obtain ⟨a, ns, j, rfl, _⟩ := h
    rfl
  · obtain ⟨a, ns, j, rfl, hS, hl, k⟩ := h
    obtain ⟨z1, e1, l1⟩ := cut_map ns (some j) none
    obtain ⟨z2, e2, l2⟩ := cut_map ns none (some j)
    refine ⟨_, (pss_one (ps_ret (pe_cg c_purse bare hr (by decide) rfl (pa_cons (pe_op op_cat (pe_slice sl_list (pv 0) (po_some (pv 1)) po_none) (pe_slice sl_list (pv 0) po_none (po_some (pv 1)))) pa_nil)))), ?_⟩
    refine ⟨_, rfl, _, rfl, j, rfl, a, _, rfl, hS, fun p hp => ?_⟩
    have s1 : Same H (upd H p (.lst (cutV (ns.map V.int) (some j) none))) := MG.Same.new (Same.refl H) hp
    refine ⟨_, rfl, _, rfl, j, rfl, a, _, rfl, s1.seq hS, fun p2 hp2 => ?_⟩
    have n12 : p ≠ p2 := ne_of_none upd_same hp2
    have s2 := MG.Same.new (o := .lst (cutV (ns.map V.int) none (some j))) s1 hp2
    refine ⟨p, p2, _, _, rfl, rfl, by rw [upd_ne n12]; exact upd_same, upd_same, ?_, fun p3 hp3 => ?_⟩
    · rw [e1, e2, List.length_map, List.length_map]
      exact Nat.le_trans (m := 2000) (by omega) (by decide)
    · refine ⟨p3, z1 ++ z2, rfl, ?_, by rw [List.length_append]; omega, fun q H' hq s q0 => ?_⟩
      · refine SqL.of ?_
        rw [upd_same, e1, e2, List.map_append]
      · have s3 := MG.Same.new (o := .lst (cutV (ns.map V.int) (some j) none ++ cutV (ns.map V.int) none (some j))) s2 hp3
        exact k q H' (s3.free hq) (s3.trans s) q0
end
end Lw

namespace Lw
open PySem PySem.Spec PyProof.Rows L2 MG
abbrev s_is_whole : Stmt := top 49
abbrev s_is_number : Stmt := top 50
abbrev s_to_ratio : Stmt := top 51
abbrev s_Ratio___init__ : Stmt := inClass (top 53) 0
abbrev s_Ratio_top : Stmt := inClass (top 53) 1
abbrev s_Ratio_bottom : Stmt := inClass (top 53) 2
abbrev s_Ratio_over : Stmt := inClass (top 53) 4
abbrev s_Ratio___add__ : Stmt := inClass (top 53) 5
abbrev s_Ratio___sub__ : Stmt := inClass (top 53) 6
abbrev s_Ratio___mul__ : Stmt := inClass (top 53) 7
abbrev s_Ratio___neg__ : Stmt := inClass (top 53) 8
abbrev s_Ratio___eq__ : Stmt := inClass (top 53) 9
abbrev s_Ratio___bool__ : Stmt := inClass (top 53) 10
abbrev s_Ratio___str__ : Stmt := inClass (top 53) 11
abbrev s_Ratio___repr__ : Stmt := inClass (top 53) 12
/-- what the top says of the class Ratio, at C -/
structure TxR (K : PySem.W.Frag) (mg : Str → Option Value) (C : Addr) : Prop extends Blt mg where
  cl : Cls K C
  nT : NoAttr K C "_top"
  nB : NoAttr K C "_bottom"
  g_Ratio : mg "Ratio" = some (.ref C)
  g_gcd : mg "gcd" = some (.builtin "math.gcd")
  ca : PySem.W.findIn K (.ref C) "__class__" = some (some (.builtin "object.__class__"))
  cn : PySem.W.specialIn K (.builtin "object.__class__") "__get__" = some (some (.builtin "getset_descriptor.__get__"))
  ct : PySem.W.takesIn K (.builtin "object.__class__") = some true
  cm : PySem.W.mroIn K C (.type "object") = some true
  kI : PySem.W.kitOne K (.ref C) (.type "int") = some false
  kB : PySem.W.kitOne K (.ref C) (.type "bool") = some false
  kC : PySem.W.kitOne K (.ref C) (.ref C) = some true
  iC : PySem.W.kitOne K (.type "int") (.ref C) = some false
def flds (p : Rat) : List (Str × V) := [("_top", .int p.num), ("_bottom", .int p.den)]
theorem kn : ¬ (("_top" : Str) = "_bottom") := by decide +kernel
theorem flds_put (a b : Int) : putF "_bottom" (.int b) (putF "_top" (.int a) []) = ([("_top", .int a), ("_bottom", .int b)] : List (Str × V)) := by
  show (if ("_top" : Str) = "_bottom" then _ else (("_top" : Str), V.int a) :: putF "_bottom" (V.int b) []) = _
  rw [if_neg kn]
  rfl
theorem flds_top (p : Rat) : (flds p).lookup ("_top" : Str) = some (.int p.num) := by simp [flds, List.lookup]
theorem flds_bottom (p : Rat) : (flds p).lookup ("_bottom" : Str) = some (.int p.den) := by
  have h : (("_bottom" : Str) == "_top") = false := by decide +kernel
  simp [flds, List.lookup, h]
theorem flds_no (p : Rat) {m : Str} (h1 : (m == ("_top" : Str)) = false) (h2 : (m == ("_bottom" : Str)) = false) : (flds p).lookup m = none := by
  simp [flds, List.lookup, h1, h2]
/-- a Ratio of the value p stands at r -/
def RatAt (C : Addr) (H : Hp) (r : Addr) (p : Rat) : Prop := ∃ dx, H r = some (.ins C dx (flds p))
theorem RatAt.same {C : Addr} {H H' : Hp} {r : Addr} {p : Rat} (h : RatAt C H r p) (s : Same H H') : RatAt C H' r p := h.elim fun dx e => ⟨dx, s _ _ e⟩
theorem RatAt.tyx {K : PySem.W.Frag} {mg : Str → Option Value} {C : Addr} {H : Hp} {r : Addr} {p : Rat} (T : TxR K mg C) (h : RatAt C H r p) : TyX K H (.ref r) (.ref C) :=
  h.elim fun dx e => .base (.ins e T.cl T.ca T.cn T.ct T.cm)
theorem tyx_int {K : PySem.W.Frag} {H : Hp} (i : Int) : TyX K H (.int i) (.type "int") := .base (.int i)
section
variable {P : Program} {w : World} {K : PySem.W.Frag} {mg : Str → Option Value} {base : Heap} {C : Addr}
/-! ### is_whole, is_number -/
def spWhole (K : PySem.W.Frag) : Sp := fun vs H Q _ => ∃ (x : V) (t : Value) (b1 b2 : Bool), vs = [x] ∧ TyX K H x t ∧
  PySem.W.kitOne K t (.type "int") = some b1 ∧ PySem.W.kitOne K t (.type "bool") = some b2 ∧ Q (.bl (b1 && !b2)) H
theorem sc_is_whole : FnScope ["value"] ["value"] (defScope s_is_whole) := ⟨rfl, rfl, rfl, by decide +kernel, rfl, by decide +kernel, by decide +kernel⟩
theorem ok_whole {f : Addr} {fd : FuncData} (F : Fun K "is_whole" "is_whole" s_is_whole f fd) (T : Blt mg) : FnOk P w K mg base CX0 2 f fd ["value"] (spWhole K) := by
  refine F.ok sc_is_whole (fun vs H Q E h => ?_) (fun cdv A outer s H vs Q E hr h => ?_)
  · obtain ⟨x, t, b1, b2, rfl, _⟩ := h
    rfl
  · obtain ⟨x, t, b1, b2, rfl, tx, k1, k2, k⟩ := h
    refine ⟨_, (pss_one (ps_ret (pe_and (pe_callB (id := "isinstance") (call_isiK (K := K)) (by rfl) T.b_isinstance (by decide +kernel) (pa_cons (pv 0) (pa_cons (pe_bltn (v := V.ty "int") (u := Value.type "int") (by rfl) T.b_int (by decide +kernel) rfl) pa_nil))) (pe_one (pe_not (pe_callB (id := "isinstance") (call_isiK (K := K)) (by rfl) T.b_isinstance (by decide +kernel) (pa_cons (pv 0) (pa_cons (pe_bltn (v := V.ty "bool") (u := Value.type "bool") (by rfl) T.b_bool (by decide +kernel) rfl) pa_nil)))))))), ?_⟩
    refine ⟨_, rfl, x, _, _, _, _, rfl, .ty "int", tx, k1, _, rfl, ?_⟩
    cases b1 with
    | false => exact iteF k
    | true =>
      refine iteT ?_
      refine ⟨_, rfl, x, _, _, _, _, rfl, .ty "bool", tx, k2, _, rfl, ?_⟩
      exact k
abbrev WholeC (P : Program) (w : World) (K : PySem.W.Frag) (mg : Str → Option Value) (base : Heap) : Prop := CalF P w K mg base 2 "is_whole" (spWhole K) []
def spNumber (K : PySem.W.Frag) (C : Addr) : Sp := fun vs H Q _ => ∃ (x : V) (t : Value) (b1 b2 b3 : Bool), vs = [x] ∧ TyX K H x t ∧
  PySem.W.kitOne K t (.type "int") = some b1 ∧ PySem.W.kitOne K t (.type "bool") = some b2 ∧ PySem.W.kitOne K t (.ref C) = some b3 ∧ Q (.bl ((b1 && !b2) || b3)) H
theorem sc_is_number : FnScope ["value"] ["value"] (defScope s_is_number) := ⟨rfl, rfl, rfl, by decide +kernel, rfl, by decide +kernel, by decide +kernel⟩
theorem ok_number {f : Addr} {fd : FuncData} (F : Fun K "is_number" "is_number" s_is_number f fd) (T : TxR K mg C) (c_whole : WholeC P w K mg base) : FnOk P w K mg base CX0 4 f fd ["value"] (spNumber K C) := by
  refine F.ok sc_is_number (fun vs H Q E h => ?_) (fun cdv A outer s H vs Q E hr h => ?_)
  · obtain ⟨x, t, b1, b2, b3, rfl, _⟩ := h
    rfl
  · obtain ⟨x, t, b1, b2, b3, rfl, tx, k1, k2, k3, k⟩ := h
    refine ⟨_, (pss_one (ps_ret (pe_or (pe_cf c_whole hr (by decide) rfl (pa_cons (pv 0) pa_nil)) (pe_one (pe_callB (id := "isinstance") (call_isiK (K := K)) (by rfl) T.b_isinstance (by decide +kernel) (pa_cons (pv 0) (pa_cons (pe_glob (v := V.ref C) rfl T.g_Ratio rfl) pa_nil))))))), ?_⟩
    refine ⟨_, rfl, x, t, b1, b2, rfl, tx, k1, k2, _, rfl, ?_⟩
    cases e : (b1 && !b2) with
    | true =>
      refine iteT ?_
      rw [e] at k
      exact k
    | false =>
      refine iteF ?_
      rw [e] at k
      exact ⟨_, rfl, x, _, _, _, _, rfl, .own C, tx, k3, k⟩
abbrev NumberC (P : Program) (w : World) (K : PySem.W.Frag) (mg : Str → Option Value) (base : Heap) (C : Addr) : Prop := CalF P w K mg base 4 "is_number" (spNumber K C) []
/-! ### Ratio(top, bottom), where both are integers and the bottom is not 0 -/
def spInit (C : Addr) : Sp := fun vs H Q _ => ∃ (r dx : Addr) (a b : Int), vs = [.ref r, .int a, .int b] ∧ H r = some (.ins C dx []) ∧ b ≠ 0 ∧ Sm b ∧
  ∀ H', H' r = some (.ins C dx (flds (Rat.divInt a b))) → (∀ c o, H c = some o → c ≠ r → H' c = some o) → Q .non H'
theorem sc_Ratio___init__ : FnScope ["self", "top", "bottom", "given", "shared"] ["self", "top", "bottom"] (defScope s_Ratio___init__) := ⟨rfl, rfl, rfl, by decide +kernel, rfl, by decide +kernel, by decide +kernel⟩
theorem ok_init {f : Addr} {fd : FuncData} {dvs : List V} (F : FunD K "__init__" "Ratio.__init__" (defArgs s_Ratio___init__) (defBody s_Ratio___init__) (defScope s_Ratio___init__) dvs [] f fd) (T : TxR K mg C) (c_whole : WholeC P w K mg base) : FnOk P w K mg base CX0 4 f fd ["self", "top", "bottom"] (spInit C) := by
  refine F.ok sc_Ratio___init__ (fun vs H Q E h => ?_) (fun cdv A outer s H vs Q E hr h => ?_)
  · obtain ⟨r, dx, a, b, rfl, _⟩ := h
    rfl
  · obtain ⟨r, dx, a, b, rfl, hr0, hb, sb, k⟩ := h
    suffices hh : ∃ t, PSs (cxOf CX0 P w K mg base ["self", "top", "bottom", "given", "shared"] "Ratio.__init__" (defScope s_Ratio___init__) f cdv A outer s H E).nox (defBody s_Ratio___init__) t ∧ t { nx := fun _ H' => Q .non H', rt := Q } (start ["self", "top", "bottom", "given", "shared"] [.ref r, .int a, .int b]) H by
      obtain ⟨t, h1, h2⟩ := hh
      exact ⟨t, h1.nox, h2⟩
    refine ⟨_, (pss_cons (ps_for PassesOwn.never rfl (pi_tup (pe_tup (pa_cons (pv 1) (pa_cons (pv 2) pa_nil)))) (pg_name (i := 3) sc_Ratio___init__.nd rfl (Or.inl rfl))
  (pss_one (ps_if (pt_not (pt_val (pe_cf c_whole hr (by decide) rfl (pa_cons (pv 3) pa_nil)))) (pss_one ps_never)
  pss_nil)))
  (pss_cons (ps_if (pt_cmpR op_eq (pv 2) pe_int (nomark _)) (pss_one ps_never)
  pss_nil)
  (pss_cons (ps_set (i := 4) sc_Ratio___init__.nd rfl (Or.inl rfl) (pe_callBfun cr_gcd rfl T.g_gcd (pa_cons (pv 1) (pa_cons (pv 2) pa_nil))))
  (pss_cons (ps_cut (ps_if (pt_cmpR op_lt (pv 2) pe_int (nomark _)) (pss_one (ps_set (i := 4) sc_Ratio___init__.nd rfl (Or.inl rfl) (pe_un un_neg (pv 4))))
  pss_nil))
  (pss_cons (ps_fld (pv 0) (pe_op op_fdivZ (pv 1) (pv 4)) rfl)
  (pss_one (ps_fld (pv 0) (pe_op op_fdivZ (pv 2) (pv 4)) rfl))))))), ?_⟩
    -- for given in (top, bottom)
    refine ⟨_, rfl, _, rfl, by show 2 ≤ sizeLine; decide, fun t ht => ⟨t, rfl, ⟨_, SqT.of upd_same⟩, ?_⟩⟩
    have s1 : Same H (upd H t (.tup [.int a, .int b])) := MG.Same.new (Same.refl H) ht
    refine for_tup (K := K) (a := t) (xs := [.int a, .int b]) (fun i σ H' => H' = upd H t (.tup [.int a, .int b]) ∧ ∃ v : Option V, σ = [some (.ref r), some (.int a), some (.int b), v, none]) ⟨rfl, none, rfl⟩ ?_ ?_ ?_
    · rintro i σ H' _ ⟨rfl, _⟩
      exact SqT.of upd_same
    · rintro i x σ H' hx ⟨rfl, v, rfl⟩
      obtain ⟨z, rfl⟩ : ∃ z, x = V.int z := by
        match i, hx with
        | 0, hx => exact ⟨a, (Option.some.inj hx).symm⟩
        | 1, hx => exact ⟨b, (Option.some.inj hx).symm⟩
      refine ⟨_, rfl, _, _, true, false, rfl, tyx_int z, kit_ty (by decide +kernel), kit_ty (by decide +kernel), _, rfl, ?_⟩
      exact ⟨rfl, _, rfl⟩
    · rintro σ H' ⟨rfl, v, rfl⟩
      -- if bottom == 0
      refine ⟨_, rfl, rfl, _, rfl, ?_⟩
      refine ite2 (fun z => ?_) (fun _ => ?_)
      · exact absurd (V.int.inj (of_decide_eq_true z)) hb
      -- shared = gcd(top, bottom); if bottom < 0: shared = -shared
      refine ⟨_, rfl, _, rfl, a, b, rfl, ?_⟩
      refine ⟨fun σ H' => H' = upd H t (.tup [.int a, .int b]) ∧ σ = [some (.ref r), some (.int a), some (.int b), v, some (.int (gd a b))], ?_, ?_⟩
      · refine ⟨_, rfl, _, _, rfl, rfl, _, rfl, ?_⟩
        refine ite2 (fun z => ?_) (fun z => ?_)
        · refine ⟨_, rfl, _, rfl, rfl, ?_⟩
          have hz : b < 0 := of_decide_eq_true z
          unfold gd
          rw [if_neg (by omega)]
          rfl
        · refine ⟨rfl, ?_⟩
          have hz : ¬ b < 0 := fun q => z (decide_eq_true q)
          unfold gd
          rw [if_pos (by omega)]
          rfl
      rintro σ H' ⟨rfl, rfl⟩
      have ds := sm_div (gd_sm (a := a) hb sb) (gd_ne hb)
      have hr1 := s1 _ _ hr0
      -- self._top = top // shared; self._bottom = bottom // shared
      refine ⟨_, rfl, _, rfl, _, _, rfl, rfl, ds, _, rfl, r, C, dx, _, rfl, hr1, T.cl, T.nT, (by show 0 < 1000; decide), ?_⟩
      refine ⟨_, rfl, _, rfl, _, _, rfl, rfl, ds, _, rfl, r, C, dx, _, rfl, upd_same, T.cl, T.nB, (by show 1 < 1000; decide), ?_⟩
      refine k _ ?_ fun c o hc hne => ?_
      · rw [upd_same, flds_put, lo_num hb, lo_den hb]
        rfl
      · rw [upd_ne hne, upd_ne hne]
        exact s1 _ _ hc
abbrev Rat2C (P : Program) (w : World) (K : PySem.W.Frag) (mg : Str → Option Value) (base : Heap) (C : Addr) : Prop := MakF P w K mg base 4 "Ratio" C (spInit C) []
abbrev Rat1C (P : Program) (w : World) (K : PySem.W.Frag) (mg : Str → Option Value) (base : Heap) (C : Addr) : Prop := MakF P w K mg base 4 "Ratio" C (spInit C) [.int 1]
/-- the reading of Ratio(a, b) -/
theorem make_rat {H : Hp} {a b : Int} {Q : VK} (hb : b ≠ 0) (sb : Sm b) (k : ∀ r H', H r = none → Same H H' → RatAt C H' r (Rat.divInt a b) → Q (.ref r) H') :
    ∀ x dx, H x = none → H dx = none → dx ≠ x → spInit C [.ref x, .int a, .int b] (upd (upd H dx (.own x)) x (.ins C dx [])) (fun v H2 => v = .non ∧ Q (.ref x) H2) E0 := by
  intro x dx hx hdx hne
  refine ⟨x, dx, a, b, rfl, upd_same, hb, sb, fun H' e kp => ⟨rfl, k x H' hx (fun c o hc => ?_) ⟨dx, e⟩⟩⟩
  have n1 := ne_of_none hc hx
  have n2 := ne_of_none hc hdx
  exact kp c o (by rw [upd_ne n1, upd_ne n2]; exact hc) n1
/-! ### to_ratio -/
/-- a number: a Ratio, or an int -/
def NumAt (C : Addr) (H : Hp) (y : V) (q : Rat) : Prop := (∃ r, y = .ref r ∧ RatAt C H r q) ∨ ∃ z : Int, y = .int z ∧ q = Rat.divInt z 1
theorem NumAt.same {H H' : Hp} {y : V} {q : Rat} (h : NumAt C H y q) (s : Same H H') : NumAt C H' y q := by
  rcases h with ⟨r, e, h⟩ | h
  · exact .inl ⟨r, e, h.same s⟩
  · exact .inr h
theorem NumAt.is {H : Hp} {y : V} {q : Rat} (T : TxR K mg C) (h : NumAt C H y q) : ∃ t b1 b2 b3, TyX K H y t ∧ PySem.W.kitOne K t (.type "int") = some b1 ∧ PySem.W.kitOne K t (.type "bool") = some b2 ∧
    PySem.W.kitOne K t (.ref C) = some b3 ∧ ((b1 && !b2) || b3) = true := by
  rcases h with ⟨r, rfl, h⟩ | ⟨z, rfl, _⟩
  · exact ⟨_, _, _, _, h.tyx T, T.kI, T.kB, T.kC, rfl⟩
  · exact ⟨_, true, false, _, tyx_int z, kit_ty (by decide +kernel), kit_ty (by decide +kernel), T.iC, rfl⟩
/-! ### the operators -/
def spEqR (K : PySem.W.Frag) (C : Addr) : Sp := fun vs H Q _ => ∃ (r : Addr) (p : Rat) (y : V), vs = [.ref r, y] ∧ RatAt C H r p ∧
  ((∃ r2 q, y = .ref r2 ∧ RatAt C H r2 q ∧ Q (.bl (decide (p = q))) H) ∨ ∃ t, TyX K H y t ∧ PySem.W.kitOne K t (.ref C) = some false ∧ Q (.bl false) H)
theorem sc_Ratio___eq__ : FnScope ["self", "other"] ["self", "other"] (defScope s_Ratio___eq__) := ⟨rfl, rfl, rfl, by decide +kernel, rfl, by decide +kernel, by decide +kernel⟩
theorem ok_eq {f : Addr} {fd : FuncData} (F : Fun K "__eq__" "Ratio.__eq__" s_Ratio___eq__ f fd) (T : TxR K mg C) : FnOk P w K mg base CX0 2 f fd ["self", "other"] (spEqR K C) := by
  refine F.ok sc_Ratio___eq__ (fun vs H Q E h => ?_) (fun cdv A outer s H vs Q E hr h => ?_)
  · obtain ⟨r, p, y, rfl, _⟩ := h
    rfl
  · obtain ⟨r, p, y, rfl, hp, h⟩ := h
    refine ⟨_, (pss_one (ps_ret (pe_and (pe_callB (id := "isinstance") (call_isiK (K := K)) (by rfl) T.b_isinstance (by decide +kernel) (pa_cons (pv 1) (pa_cons (pe_glob (v := V.ref C) rfl T.g_Ratio rfl) pa_nil))) (pe_and (pe_cmpR op_eq (pe_fld (pv 0) rfl) (pe_fld (pv 1) rfl) (nomark _)) (pe_one (pe_cmpR op_eq (pe_fld (pv 0) rfl) (pe_fld (pv 1) rfl) (nomark _))))))), ?_⟩
    obtain ⟨d1, e1⟩ := id hp
    rcases h with ⟨r2, q, rfl, hq, k⟩ | ⟨t, ty, ki, k⟩
    · obtain ⟨d2, e2⟩ := id hq
      refine ⟨_, rfl, _, _, _, _, _, rfl, .own C, hq.tyx T, T.kC, _, rfl, ?_⟩
      refine iteT ?_
      refine ⟨_, rfl, r, C, d1, _, _, rfl, e1, T.cl, T.nT, flds_top p, _, rfl, r2, C, d2, _, _, rfl, e2, T.cl, T.nT, flds_top q, rfl, _, rfl, ?_⟩
      rw [rat_dec] at k
      have en : decide (V.int p.num = V.int q.num) = decide (p.num = q.num) := by simp
      have ed : decide (V.int p.den = V.int q.den) = decide ((p.den : Int) = q.den) := by simp
      rw [en]
      cases e : decide (p.num = q.num) with
      | false =>
        rw [e] at k
        exact iteF k
      | true =>
        rw [e, Bool.true_and] at k
        refine iteT ?_
        refine ⟨_, rfl, r, C, d1, _, _, rfl, e1, T.cl, T.nB, flds_bottom p, _, rfl, r2, C, d2, _, _, rfl, e2, T.cl, T.nB, flds_bottom q, rfl, ?_⟩
        rw [ed]
        exact k
    · refine ⟨_, rfl, _, _, _, _, _, rfl, .own C, ty, ki, _, rfl, ?_⟩
      exact iteF k
def spTop (C : Addr) : Sp := fun vs H Q _ => ∃ (r : Addr) (p : Rat), vs = [.ref r] ∧ RatAt C H r p ∧ Q (.int p.num) H
def spBottom (C : Addr) : Sp := fun vs H Q _ => ∃ (r : Addr) (p : Rat), vs = [.ref r] ∧ RatAt C H r p ∧ Q (.int p.den) H
theorem sc_Ratio_top : FnScope ["self"] ["self"] (defScope s_Ratio_top) := ⟨rfl, rfl, rfl, by decide +kernel, rfl, by decide +kernel, by decide +kernel⟩
theorem ok_top {f : Addr} {fd : FuncData} (F : Fun K "top" "Ratio.top" s_Ratio_top f fd) (T : TxR K mg C) : FnOk P w K mg base CX0 2 f fd ["self"] (spTop C) := by
  refine F.ok sc_Ratio_top (fun vs H Q E h => ?_) (fun cdv A outer s H vs Q E hr h => ?_)
  · obtain ⟨r, p, rfl, _⟩ := h
    rfl
  · obtain ⟨r, p, rfl, ⟨d1, e1⟩, k⟩ := h
    exact ⟨_, (pss_one (ps_ret (pe_fld (pv 0) rfl))), _, rfl, r, C, d1, _, _, rfl, e1, T.cl, T.nT, flds_top p, k⟩
theorem sc_Ratio_bottom : FnScope ["self"] ["self"] (defScope s_Ratio_bottom) := ⟨rfl, rfl, rfl, by decide +kernel, rfl, by decide +kernel, by decide +kernel⟩
theorem ok_bottom {f : Addr} {fd : FuncData} (F : Fun K "bottom" "Ratio.bottom" s_Ratio_bottom f fd) (T : TxR K mg C) : FnOk P w K mg base CX0 2 f fd ["self"] (spBottom C) := by
  refine F.ok sc_Ratio_bottom (fun vs H Q E h => ?_) (fun cdv A outer s H vs Q E hr h => ?_)
  · obtain ⟨r, p, rfl, _⟩ := h
    rfl
  · obtain ⟨r, p, rfl, ⟨d1, e1⟩, k⟩ := h
    exact ⟨_, (pss_one (ps_ret (pe_fld (pv 0) rfl))), _, rfl, r, C, d1, _, _, rfl, e1, T.cl, T.nB, flds_bottom p, k⟩
/-! ### truth and texts -/
def rt (p : Rat) : Str := ("Ratio(" : Str) ++ Str.ofString (toString p.num) ++ (", " : Str) ++ Str.ofString (toString (p.den : Int)) ++ (")" : Str)
def dg (p : Rat) : Str := if p.den = 1 then Str.ofString (toString p.num) else Str.ofString (toString p.num) ++ ("/" : Str) ++ Str.ofString (toString (p.den : Int))
theorem empty_add (x : Str) : Str.empty ++ x = x := by
  show Str.mk (#[] ++ x.cps) = x
  rw [Array.empty_append]
def spBool (C : Addr) : Sp := fun vs H Q _ => ∃ (r : Addr) (p : Rat), vs = [.ref r] ∧ RatAt C H r p ∧ Q (.bl (p.num != 0)) H
theorem sc_Ratio___bool__ : FnScope ["self"] ["self"] (defScope s_Ratio___bool__) := ⟨rfl, rfl, rfl, by decide +kernel, rfl, by decide +kernel, by decide +kernel⟩
theorem ok_bool {f : Addr} {fd : FuncData} (F : Fun K "__bool__" "Ratio.__bool__" s_Ratio___bool__ f fd) (T : TxR K mg C) : FnOk P w K mg base CX0 2 f fd ["self"] (spBool C) := by
  refine F.ok sc_Ratio___bool__ (fun vs H Q E h => ?_) (fun cdv A outer s H vs Q E hr h => ?_)
  · obtain ⟨r, p, rfl, _⟩ := h
    rfl
  · obtain ⟨r, p, rfl, ⟨d1, e1⟩, k⟩ := h
    refine ⟨_, (pss_one (ps_ret (pe_callTy call_bool1 (by rfl) T.b_bool (by decide +kernel) (pa_cons (pe_fld (pv 0) rfl) pa_nil)))), ?_⟩
    exact ⟨_, rfl, r, C, d1, _, _, rfl, e1, T.cl, T.nT, flds_top p, .inl ⟨_, rfl, k⟩⟩
def spStr (C : Addr) : Sp := fun vs H Q _ => ∃ (r : Addr) (p : Rat), vs = [.ref r] ∧ RatAt C H r p ∧ Sm p.num ∧ Sm (p.den : Int) ∧ Q (.str (dg p)) H
theorem len_ofTxt {i : Int} (h : Sm i) : (Str.ofString (toString i)).length ≤ 1921 := txt_len h
theorem sc_Ratio___str__ : FnScope ["self"] ["self"] (defScope s_Ratio___str__) := ⟨rfl, rfl, rfl, by decide +kernel, rfl, by decide +kernel, by decide +kernel⟩
theorem ok_str {f : Addr} {fd : FuncData} (F : Fun K "__str__" "Ratio.__str__" s_Ratio___str__ f fd) (T : TxR K mg C) : FnOk P w K mg base CX0 2 f fd ["self"] (spStr C) := by
  refine F.ok sc_Ratio___str__ (fun vs H Q E h => ?_) (fun cdv A outer s H vs Q E hr h => ?_)
  · obtain ⟨r, p, rfl, _⟩ := h
    rfl
  · obtain ⟨r, p, rfl, ⟨d1, e1⟩, sn, sd, k⟩ := h
    refine ⟨_, (pss_cons (ps_if (pt_cmpR op_eq (pe_fld (pv 0) rfl) pe_int (nomark _)) (pss_one (ps_ret (pe_callTy call_str_int (by rfl) T.b_str (by decide +kernel) (pa_cons (pe_fld (pv 0) rfl) pa_nil))))
  pss_nil)
  (pss_one (ps_ret (pe_joined (PJ.cons (pe_fmt (pe_fld (pv 0) rfl)) (PJ.cons pe_str (PJ.cons (pe_fmt (pe_fld (pv 0) rfl)) PJ.nil))))))), ?_⟩
    refine ⟨_, rfl, r, C, d1, _, _, rfl, e1, T.cl, T.nB, flds_bottom p, rfl, _, rfl, ?_⟩
    unfold dg at k
    refine ite2 (fun h => ?_) (fun h => ?_)
    · have hd : p.den = 1 := by have := V.int.inj (of_decide_eq_true h); omega
      rw [if_pos hd] at k
      exact ⟨_, rfl, r, C, d1, _, _, rfl, e1, T.cl, T.nT, flds_top p, _, rfl, log_sm sn, k⟩
    · have hd : ¬ p.den = 1 := fun z => h (decide_eq_true (by rw [z]; rfl))
      rw [if_neg hd] at k
      have l1 := txt_len sn
      have l2 := txt_len sd
      refine ⟨_, rfl, r, C, d1, _, _, rfl, e1, T.cl, T.nT, flds_top p, .inr ⟨_, rfl, log_sm sn, _, rfl, ?_, _, rfl, ?_, _, rfl, r, C, d1, _, _, rfl, e1, T.cl, T.nB, flds_bottom p, .inr ⟨_, rfl, log_sm sd, _, rfl, ?_, ?_⟩⟩⟩
      · rw [empty_add]
        exact Nat.le_trans l1 (by decide)
      · rw [empty_add, strLen_append]
        exact Nat.le_trans (Nat.add_le_add l1 (Nat.le_refl 1)) (by decide)
      · rw [empty_add, strLen_append, strLen_append]
        exact Nat.le_trans (Nat.add_le_add (Nat.add_le_add l1 (Nat.le_refl 1)) l2) (by decide)
      · rw [empty_add]
        exact k
def spRepr (C : Addr) : Sp := fun vs H Q _ => ∃ (r : Addr) (p : Rat), vs = [.ref r] ∧ RatAt C H r p ∧ Sm p.num ∧ Sm (p.den : Int) ∧ Q (.str (rt p)) H
theorem rt_len {p : Rat} (h1 : Sm p.num) (h2 : Sm (p.den : Int)) : (rt p).length ≤ 4000 := by
  unfold rt
  rw [strLen_append, strLen_append, strLen_append, strLen_append]
  have l1 := txt_len h1
  have l2 := txt_len h2
  have e1 : (("Ratio(" : Str)).length = 6 := rfl
  have e2 : ((", " : Str)).length = 2 := rfl
  have e3 : ((")" : Str)).length = 1 := rfl
  omega
theorem sc_Ratio___repr__ : FnScope ["self"] ["self"] (defScope s_Ratio___repr__) := ⟨rfl, rfl, rfl, by decide +kernel, rfl, by decide +kernel, by decide +kernel⟩
theorem ok_repr {f : Addr} {fd : FuncData} (F : Fun K "__repr__" "Ratio.__repr__" s_Ratio___repr__ f fd) (T : TxR K mg C) : FnOk P w K mg base CX0 2 f fd ["self"] (spRepr C) := by
  refine F.ok sc_Ratio___repr__ (fun vs H Q E h => ?_) (fun cdv A outer s H vs Q E hr h => ?_)
  · obtain ⟨r, p, rfl, _⟩ := h
    rfl
  · obtain ⟨r, p, rfl, ⟨d1, e1⟩, sn, sd, k⟩ := h
    refine ⟨_, (pss_one (ps_ret (pe_joined (PJ.cons pe_str (PJ.cons (pe_fmt (pe_fld (pv 0) rfl)) (PJ.cons pe_str (PJ.cons (pe_fmt (pe_fld (pv 0) rfl)) (PJ.cons pe_str PJ.nil)))))))), ?_⟩
    have l1 := txt_len sn
    have l2 := txt_len sd
    have z1 : (("Ratio(" : Str)).length = 6 := rfl
    have z2 : ((", " : Str)).length = 2 := rfl
    have z3 : ((")" : Str)).length = 1 := rfl
    refine ⟨_, rfl, ?_, _, rfl, r, C, d1, _, _, rfl, e1, T.cl, T.nT, flds_top p, .inr ⟨_, rfl, log_sm sn, _, rfl, ?_, _, rfl, ?_, _, rfl, r, C, d1, _, _, rfl, e1, T.cl, T.nB, flds_bottom p, .inr ⟨_, rfl, log_sm sd, _, rfl, ?_, _, rfl, ?_, ?_⟩⟩⟩
    · rw [empty_add]; decide
    · rw [empty_add, strLen_append]; exact Nat.le_trans (m := 4000) (by omega) (by decide)
    · rw [empty_add, strLen_append, strLen_append]; exact Nat.le_trans (m := 4000) (by omega) (by decide)
    · rw [empty_add, strLen_append, strLen_append, strLen_append]; exact Nat.le_trans (m := 4000) (by omega) (by decide)
    · rw [empty_add, strLen_append, strLen_append, strLen_append, strLen_append]; exact Nat.le_trans (m := 4000) (by omega) (by decide)
    · rw [empty_add]; exact k
/-- how a Ratio is shown -/
def ownR (C : Addr) : Hp → Addr → Str → Prop := fun H a t => ∃ p, RatAt C H a p ∧ Sm p.num ∧ Sm (p.den : Int) ∧ t = rt p
theorem ownR_same {H H' : Hp} {a : Addr} {t : Str} (h : ownR C H a t) (s : Same H H') : ownR C H' a t := h.elim fun p ⟨h, r⟩ => ⟨p, h.same s, r⟩
theorem ownF (d : DunF P w K mg base 2 C "__repr__" (spRepr C)) : OwnF P w K mg base (ownR C) 2 :=
  ⟨C, spRepr C, d, fun H a t ⟨p, h, s1, s2, e⟩ => ⟨h.elim fun dx e => ⟨dx, _, e⟩, fun H1 s => ⟨a, p, rfl, h.same s, s1, s2, by rw [e], Same.refl H1⟩⟩⟩
end
end Lw

namespace Lw
open PySem PySem.Spec PyProof.Rows L2 MG
abbrev s_InvalidNumber___init__ : Stmt := inClass (top 4) 0
abbrev s__law_sign_text : Stmt := top 59
abbrev s__law_odd : Stmt := top 60
section
variable {P : Program} {w : World} {K : PySem.W.Frag} {mg : Str → Option Value} {base : Heap} {C CI : Addr}
/-! ### the error -/
theorem sc_InvalidNumber___init__ : FnScope ["self", "given"] ["self", "given"] (defScope s_InvalidNumber___init__) := ⟨rfl, rfl, rfl, by decide +kernel, rfl, by decide +kernel, by decide +kernel⟩
theorem ok_xn {f : Addr} {fd : FuncData} (F : Fun K "__init__" "InvalidNumber.__init__" s_InvalidNumber___init__ f fd) : FnOk P w K mg base CX0 2 f fd ["self", "given"] (spXi K CI "given") := by
  refine F.ok sc_InvalidNumber___init__ (fun vs H Q E h => ?_) (fun cdv A outer s H vs Q E hr h => ?_)
  · obtain ⟨a, y, rfl, _⟩ := h
    rfl
  · obtain ⟨a, y, rfl, T, no, ha, k⟩ := h
    refine ⟨_, (pss_one (ps_ost (pv 0) (pv 1))), ?_⟩
    exact ⟨_, rfl, _, rfl, a, CI, rfl, T, no, .inl ⟨ha, fun dx n ne => k dx n ne⟩⟩
abbrev XnC (P : Program) (w : World) (K : PySem.W.Frag) (mg : Str → Option Value) (base : Heap) (CI : Addr) : Prop := ExcF P w K mg base 2 "InvalidNumber" CI "given"
/-! ### what is whole -/
def WholeAt (K : PySem.W.Frag) (H : Hp) (x : V) (b : Bool) : Prop := ∃ t b1 b2, TyX K H x t ∧ PySem.W.kitOne K t (.type "int") = some b1 ∧ PySem.W.kitOne K t (.type "bool") = some b2 ∧ (b1 && !b2) = b
theorem WholeAt.same {H H' : Hp} {x : V} {b : Bool} (h : WholeAt K H x b) (s : Same H H') : WholeAt K H' x b := by
  obtain ⟨t, b1, b2, h1, h2, h3, h4⟩ := h
  exact ⟨t, b1, b2, MG.TyX.same h1 s, h2, h3, h4⟩
theorem whole_int {H : Hp} (i : Int) : WholeAt K H (.int i) true := ⟨_, true, false, tyx_int i, kit_ty (by decide +kernel), kit_ty (by decide +kernel), rfl⟩
/-- the error that carries x is raised -/
def Rsd (CI : Addr) (H : Hp) (x : V) (E : XK) : Prop := ∀ d H', Same H H' → H d = none → H' d = some (.xd [("given", x)]) → E (.ref CI) (some d) H'
theorem Rsd.same {H H' : Hp} {x : V} {E : XK} (h : Rsd CI H x E) (s : Same H H') : Rsd CI H' x E := fun d H2 s2 n e => h d H2 (s.trans s2) (s.free n) e
/-! ### Ratio.__repr__ within an except suite -/
theorem ok_reprH {f : Addr} {fd : FuncData} (F : Fun K "__repr__" "Ratio.__repr__" s_Ratio___repr__ f fd) (T : TxR K mg C) : L2H.FnH P w K mg base CX0 2 f fd ["self"] (spRepr C) := by
  refine fun_okH F sc_Ratio___repr__ (fun vs H Q E h => ?_) (fun cdv A outer s H vs Q E p hr h => ?_)
  · obtain ⟨r, p, rfl, _⟩ := h
    rfl
  · obtain ⟨r, p, rfl, ⟨d1, e1⟩, sn, sd, k⟩ := h
    refine ⟨_, (pss_one (ps_ret (pe_joined (PJ.cons pe_str (PJ.cons (pe_fmt (pe_fld (pv 0) rfl)) (PJ.cons pe_str (PJ.cons (pe_fmt (pe_fld (pv 0) rfl)) (PJ.cons pe_str PJ.nil)))))))), ?_⟩
    have l1 := txt_len sn
    have l2 := txt_len sd
    have z1 : (("Ratio(" : Str)).length = 6 := rfl
    have z2 : ((", " : Str)).length = 2 := rfl
    have z3 : ((")" : Str)).length = 1 := rfl
    refine ⟨_, rfl, ?_, _, rfl, r, C, d1, _, _, rfl, e1, T.cl, T.nT, flds_top p, .inr ⟨_, rfl, log_sm sn, _, rfl, ?_, _, rfl, ?_, _, rfl, r, C, d1, _, _, rfl, e1, T.cl, T.nB, flds_bottom p, .inr ⟨_, rfl, log_sm sd, _, rfl, ?_, _, rfl, ?_, ?_⟩⟩⟩
    · rw [empty_add]; decide
    · rw [empty_add, strLen_append]; exact Nat.le_trans (m := 4000) (by omega) (by decide)
    · rw [empty_add, strLen_append, strLen_append]; exact Nat.le_trans (m := 4000) (by omega) (by decide)
    · rw [empty_add, strLen_append, strLen_append, strLen_append]; exact Nat.le_trans (m := 4000) (by omega) (by decide)
    · rw [empty_add, strLen_append, strLen_append, strLen_append, strLen_append]; exact Nat.le_trans (m := 4000) (by omega) (by decide)
    · rw [empty_add]; exact k
theorem ownH {f : Addr} {fd : FuncData} {ps : List Str} (at_ : PySem.W.findIn K (.ref C) "__repr__" = some (some (.ref f))) (fn : PySem.W.isFn K (.ref f) = true) (F : L2H.FnH P w K mg base CX0 2 f fd ps (spRepr C)) (b : Binds K fd ps []) : OwnH P w K mg base (ownR C) 2 :=
  ⟨C, f, fd, ps, spRepr C, at_, fn, F, b, fun H a t ⟨p, h, s1, s2, e⟩ => ⟨h.elim fun dx e => ⟨dx, _, e⟩, fun H1 s => ⟨a, p, rfl, h.same s, s1, s2, by rw [e], Same.refl H1⟩⟩⟩
/-! ### things of any kind -/
/-- no int, None, text, tuple, list, dict or truth is a Ratio -/
structure Others (K : PySem.W.Frag) (C : Addr) : Prop where
  is : PySem.W.isClsIn K C = true
  ty : PySem.W.typeIn K (.ref C) = some (.type "type")
  non : PySem.W.subIn K (.type "NoneType") (.ref C) = some false
  str : PySem.W.subIn K (.type "str") (.ref C) = some false
  tup : PySem.W.subIn K (.type "tuple") (.ref C) = some false
  lst : PySem.W.subIn K (.type "list") (.ref C) = some false
  bl : PySem.W.subIn K (.type "bool") (.ref C) = some false
  dict : PySem.W.subIn K (.type "dict") (.ref C) = some false
  sst : PySem.W.subIn K (.ref C) (.type "str") = some false
def OddAt (K : PySem.W.Frag) (C : Addr) (H : Hp) (x : V) : Prop := ∃ t b1 b2, TyX K H x t ∧ PySem.W.kitOne K t (.type "int") = some b1 ∧ PySem.W.kitOne K t (.type "bool") = some b2 ∧ (b1 && !b2) = false ∧ PySem.W.kitOne K t (.ref C) = some false
/-- x at H, shown as t (of at most n signs, containers at most k deep); o its number, if it is one -/
structure Thing (K : PySem.W.Frag) (C : Addr) (H : Hp) (x : V) (t : Str) (o : Option Rat) (n k : Nat) : Prop where
  shw : ∃ as k', Shw K (ownR C) 2 H as k' x t ∧ k' ≤ k ∧ ∀ a ∈ as, H a ≠ none
  len : t.length ≤ n
  asc : Asc t
  kd : (∃ p, o = some p ∧ NumAt C H x p ∧ Bd p 43) ∨ (o = none ∧ OddAt K C H x)
  st : (∃ z, x = .str z ∧ Asc z ∧ z.length ≤ 10) ∨ ∃ t, TyX K H x t ∧ PySem.W.kitOne K t (.type "str") = some false
theorem OddAt.same {H H' : Hp} {x : V} (h : OddAt K C H x) (s : Same H H') : OddAt K C H' x := by
  obtain ⟨t, b1, b2, h1, h2⟩ := h
  exact ⟨t, b1, b2, MG.TyX.same h1 s, h2⟩
theorem Thing.same {H H' : Hp} {x : V} {t : Str} {o : Option Rat} {n k : Nat} (h : Thing K C H x t o n k) (s : Same H H') : Thing K C H' x t o n k := by
  obtain ⟨⟨as, k', h1, h2, h3⟩, h4, h5, h6, h7⟩ := h
  refine ⟨⟨as, k', Shw.same (fun h s => ownR_same h s) h1 s, h2, fun a ha z => ?_⟩, h4, h5, ?_, ?_⟩
  · cases e : H a with
    | none => exact h3 a ha e
    | some o' => exact nomatch (s _ _ e).symm.trans z
  · rcases h6 with ⟨p, e, h6, b⟩ | ⟨e, h6⟩
    · exact .inl ⟨p, e, h6.same s, b⟩
    · exact .inr ⟨e, h6.same s⟩
  · rcases h7 with h7 | ⟨t, h7, h8⟩
    · exact .inl h7
    · exact .inr ⟨t, MG.TyX.same h7 s, h8⟩
theorem Thing.le {H : Hp} {x : V} {t : Str} {o : Option Rat} {n k n' k' : Nat} (h : Thing K C H x t o n k) (hn : n ≤ n') (hk : k ≤ k') : Thing K C H x t o n' k' := by
  obtain ⟨⟨as, k1, h1, h2, h3⟩, h4, h5, h6, h7⟩ := h
  exact ⟨⟨as, k1, h1, by omega, h3⟩, by omega, h5, h6, h7⟩
theorem asc_of (s : String) (h : (s.toList.all fun c => decide (32 ≤ c.toNat ∧ c.toNat ≤ 126)) = true) : Asc (Str.ofString s) := by
  intro c hc
  rw [signs_ofString] at hc
  obtain ⟨d, hd, rfl⟩ := List.mem_map.mp hc
  exact of_decide_eq_true (List.all_eq_true.mp h d hd)
theorem asc_int (i : Int) : Asc (Str.ofString (toString i)) := by
  refine asc_of _ (List.all_eq_true.mpr fun c hc => ?_)
  rcases int_sign i c hc with h | h
  · have := digit_range h
    exact decide_eq_true ⟨by omega, by omega⟩
  · rw [h]
    decide
end
end Lw

namespace Lw
open PySem PySem.Spec PyProof.Rows L2 MG
section
variable {P : Program} {w : World} {K : PySem.W.Frag} {mg : Str → Option Value} {base : Heap} {C CI : Addr}
abbrev GreatC (P : Program) (w : World) (K : PySem.W.Frag) (mg : Str → Option Value) (base : Heap) : Prop := CalG P w K mg base 4 "_law_great" spGreat []
/-! ### _law_sign_text -/
def spSign : Sp := fun vs H Q _ => ∃ (q : Addr) (n : Nat), vs = [.ref q] ∧ QAt H q n ∧ n + 1 ≤ 100000 ∧ ∀ (z : Str) (H' : Hp), Asc z → z.length = 1 → Keep q H H' → QAt H' q (n + 1) → Q (.str z) H'
theorem at_str {z : Str} (hz : Asc z) {i : Int} (h0 : 0 ≤ i) (h : i < z.length) : ∃ c, atI z.cps.toList i = some c ∧ 32 ≤ c ∧ c ≤ 126 := by
  obtain ⟨j, rfl⟩ := Int.eq_ofNat_of_zero_le h0
  have hl : z.cps.toList.length = z.length := by simp [Str.length]
  have hj : j < z.cps.toList.length := by omega
  exact ⟨z.cps.toList[j], atI_nat (List.getElem?_eq_getElem hj), hz _ (List.getElem_mem hj)⟩
theorem sc__law_sign_text : FnScope ["_law_q", "_law_signs"] ["_law_q"] (defScope s__law_sign_text) := ⟨rfl, rfl, rfl, by decide +kernel, rfl, by decide +kernel, by decide +kernel⟩
theorem ok_sign {f : Addr} {fd : FuncData} (F : Fun K "_law_sign_text" "_law_sign_text" s__law_sign_text f fd) (T : Blt mg) (c_draw : DrawC P w K mg base) : FnG P w K mg base CX0 4 f fd ["_law_q"] spSign := by
  refine fun_okG F sc__law_sign_text (fun vs H Q E h => ?_) (fun cdv A outer s H vs Q E bare hr h => ?_)
  · obtain ⟨q, n, rfl, _⟩ := h
    rfl
  · obtain ⟨q, n, rfl, hq, hn, k⟩ := h
    refine ⟨_, (pss_cons (ps_set (i := 1) sc__law_sign_text.nd rfl (Or.inl rfl) pe_str)
  (pss_one (ps_ret (pe_ix ix_str (pv 1) (pe_cg c_draw bare hr (by decide) rfl (pa_cons (pv 0) (pa_cons (pe_callB (id := "len") call_len_str (by rfl) T.b_len (by decide +kernel) (pa_cons (pv 1) pa_nil)) pa_nil))) (fun _ _ => rfl))))), ?_⟩
    refine ⟨_, rfl, _, rfl, _, rfl, _, rfl, by decide +kernel, q, 93, n, rfl, hq, by omega, by decide, by decide, fun r H1 r0 r1 k1 q1 => ?_⟩
    obtain ⟨c, hc, h1, h2⟩ := at_str (z := Str.ofString " !\"#$&'()*+,-./0123456789:;<=>?@ABCDEFGHIJKLMNOPQRSTUVWXYZ[\\]^_abcdefghijklmnopqrstuvwxyz{|}~") (asc_of _ (by decide +kernel)) r0 (by show r < 93; exact r1)
    refine ⟨_, _, c, rfl, rfl, by decide +kernel, hc, k _ H1 (fun d hd => ?_) rfl k1 q1⟩
    have e : d = c := by simpa using hd
    rw [e]
    exact ⟨h1, h2⟩
abbrev SignC (P : Program) (w : World) (K : PySem.W.Frag) (mg : Str → Option Value) (base : Heap) : Prop := CalG P w K mg base 4 "_law_sign_text" spSign []
/-! ### _law_odd -/
theorem shw_same {H H' : Hp} {as : List Addr} {k : Nat} {x : V} {t : Str} (h : Shw K (ownR C) 2 H as k x t) (s : Same H H') : Shw K (ownR C) 2 H' as k x t := Shw.same (own := ownR C) (fun h s => ownR_same h s) h s
def tn : Nat → Nat
  | 0 => 4
  | m + 1 => 1 + 2 * tn m
def sz : Nat → Nat
  | 0 => 400
  | m + 1 => 2 * sz m + 10
theorem tn_ge : ∀ m, 4 ≤ tn m
  | 0 => Nat.le_refl 4
  | m + 1 => by have := tn_ge m; show 4 ≤ 1 + 2 * tn m; omega
theorem sz_ge : ∀ m, 400 ≤ sz m
  | 0 => Nat.le_refl 400
  | m + 1 => by have := sz_ge m; show 400 ≤ 2 * sz m + 10; omega
def spOdd (K : PySem.W.Frag) (C : Addr) : Nat → Sp
  | 0 => fun _ _ _ _ => False
  | m + 1 => fun vs H Q _ => ∃ (q : Addr) (n : Nat), vs = [.ref q, .int m] ∧ QAt H q n ∧ n + tn m ≤ 100000 ∧
      ∀ (x : V) (t : Str) (o : Option Rat) (H' : Hp), Keep q H H' → QAt H' q (n + tn m) → Thing K C (hid q H') x t o (sz m) (2 * m + 2) → Q x H'
theorem QAt.le {H : Hp} {q : Addr} {n n' : Nat} (h : QAt H q n) (hn : n ≤ n') : QAt H q n' := by
  obtain ⟨c, ns, i, r, t, hq, hc, hz, hl, h1, h2, h3⟩ := h
  exact ⟨c, ns, i, r, t, hq, hc, hz, hl, ⟨h1.1, by omega⟩, h2, ⟨h3.1, by omega⟩⟩
section
variable {H : Hp} {n k : Nat}
theorem thing_non (O : Others K C) : Thing K C H .non "None" none 400 2 := ⟨⟨[], 2, .non, Nat.le_refl _, nofun⟩, by decide, asc_of _ (by decide +kernel), .inr ⟨rfl, _, false, false, .base .non, kit_ty (by decide +kernel), kit_ty (by decide +kernel), rfl, kit_tr O.is O.ty O.non⟩, .inr ⟨_, .base .non, kit_ty (by decide +kernel)⟩⟩
theorem thing_bl (O : Others K C) (b : Bool) : Thing K C H (.bl b) (if b then "True" else "False") none 400 2 := ⟨⟨[], 2, .bl b, Nat.le_refl _, nofun⟩, by cases b <;> decide, by cases b <;> exact asc_of _ (by decide +kernel), .inr ⟨rfl, _, true, true, .base (.bl b), kit_ty (by decide +kernel), kit_ty (by decide +kernel), rfl, kit_tr O.is O.ty O.bl⟩, .inr ⟨_, .base (.bl b), kit_ty (by decide +kernel)⟩⟩
theorem thing_str (O : Others K C) {z : Str} (hz : Asc z) (hl : z.length ≤ 3) : Thing K C H (.str z) (reprText z) none 400 2 := by
  have l := PySem.StrLaws.reprText_len z fun c hc => by have := (hz c hc).2; omega
  exact ⟨⟨[], 2, .str (Nat.le_trans (m := 60) (by omega) (by decide)), Nat.le_refl _, nofun⟩, by omega, asc_repr hz, .inr ⟨rfl, _, false, false, .base (.str z), kit_ty (by decide +kernel), kit_ty (by decide +kernel), rfl, kit_tr O.is O.ty O.str⟩, .inl ⟨z, rfl, hz, by omega⟩⟩
theorem int_len {i : Int} (h : i.natAbs < 10 ^ 43) : (Str.ofString (toString i)).length ≤ 400 := by
  rw [PySem.ofString_length]
  exact Nat.le_trans (int_text_length_le (k := 150) (by decide) (Nat.lt_of_lt_of_le (PySem.Flt.log2_lt_of (k := 150) (by decide) (Nat.lt_of_lt_of_le h (by decide))) (by decide))) (by decide)
theorem thing_int {i : Int} (h : i.natAbs < 10 ^ 43) : Thing K C H (.int i) (toString i) (some (Rat.divInt i 1)) 400 2 := by
  have sm : Sm i := sm_of (Nat.lt_of_lt_of_le h (Nat.pow_le_pow_right (by decide) (by decide)))
  exact ⟨⟨[], 2, .int (log_sm sm), Nat.le_refl _, nofun⟩, int_len h, asc_int i, .inl ⟨_, rfl, .inr ⟨i, rfl, rfl⟩, bd_div (by decide) h (by decide)⟩, .inr ⟨_, .base (.int i), kit_ty (by decide +kernel)⟩⟩
theorem thing_rat (O : Others K C) {r : Addr} {p : Rat} (T : TxR K mg C) (h : RatAt C H r p) (b : Bd p 3) : Thing K C H (.ref r) (rt p) (some p) 400 2 := by
  have sn : Sm p.num := b.num (by decide)
  have sd : Sm (p.den : Int) := b.den (by decide)
  refine ⟨⟨[], 2, .own ⟨p, h, sn, sd, rfl⟩ (Nat.le_refl _), Nat.le_refl _, nofun⟩, ?_, ?_, .inl ⟨p, rfl, .inl ⟨r, rfl, h⟩, b.mono (by decide)⟩, .inr ⟨_, h.tyx T, kit_rt (by decide +kernel) O.sst⟩⟩
  · have l1 : (Str.ofString (toString p.num)).length ≤ 20 := by
      rw [PySem.ofString_length]
      exact Nat.le_trans (int_text_length_le (k := 12) (by decide) (Nat.lt_of_lt_of_le (PySem.Flt.log2_lt_of (k := 12) (by decide) (Nat.lt_of_lt_of_le b.1 (by decide))) (by decide))) (by decide)
    have l2 : (Str.ofString (toString (p.den : Int))).length ≤ 20 := by
      rw [PySem.ofString_length]
      exact Nat.le_trans (int_text_length_le (k := 12) (by decide) (Nat.lt_of_lt_of_le (PySem.Flt.log2_lt_of (k := 12) (by decide) (Nat.lt_of_lt_of_le (show (p.den : Int).natAbs < 10 ^ 3 from b.2) (by decide))) (by decide))) (by decide)
    unfold rt
    rw [strLen_append, strLen_append, strLen_append, strLen_append]
    have e1 : (("Ratio(" : Str)).length = 6 := rfl
    have e2 : ((", " : Str)).length = 2 := rfl
    have e3 : ((")" : Str)).length = 1 := rfl
    omega
  · exact asc_append (asc_append (asc_append (asc_append (asc_of _ (by decide +kernel)) (asc_int _)) (asc_of _ (by decide +kernel))) (asc_int _)) (asc_of _ (by decide +kernel))
theorem thing_tup0 (O : Others K C) {a : Addr} (h : H a = some (.tup [])) : Thing K C H (.ref a) (tupleText []) none 400 2 :=
  ⟨⟨[a], 2, .tuple (as := []) (k := 0) (SqT.of h) nofun rfl (fun i y t h1 _ => by simp at h1) (fun b hb => hb) (Nat.le_refl _), Nat.le_refl _, fun b hb z => by
    have e : b = a := by simpa using hb
    rw [e, h] at z; cases z⟩, by decide, asc_of "()" (by decide +kernel), .inr ⟨rfl, _, false, false, .base (.tup h), kit_ty (by decide +kernel), kit_ty (by decide +kernel), rfl, kit_tr O.is O.ty O.tup⟩, .inr ⟨_, .base (.tup h), kit_ty (by decide +kernel)⟩⟩
theorem thing_list0 (O : Others K C) {a : Addr} (h : H a = some (.lst [])) : Thing K C H (.ref a) "[]" none 400 2 :=
  ⟨⟨[], 2, .list0 (SqL.of h), Nat.le_refl _, nofun⟩, by decide, asc_of "[]" (by decide +kernel), .inr ⟨rfl, _, false, false, .base (.lst h), kit_ty (by decide +kernel), kit_ty (by decide +kernel), rfl, kit_tr O.is O.ty O.lst⟩, .inr ⟨_, .base (.lst h), kit_ty (by decide +kernel)⟩⟩
def but (a : Addr) (H : Hp) : Hp := fun b => if b = a then none else H b
theorem but_same (a : Addr) (H : Hp) : Same (but a H) H := fun b o h => by
  unfold but at h
  split at h
  · cases h
  · exact h
theorem thing_dict0 (O : Others K C) {a : Addr} (h : H a = some (.dK [])) : Thing K C H (.ref a) (dictText (kvTxts [] [])) none 400 2 :=
  ⟨⟨[a], 2, .dict (H0 := but a H) (as := []) (k := 0) (vts := []) (if_pos rfl) h (but_same a H) nofun rfl (fun i kv h1 => by simp at h1) (fun i kv v h1 _ => by simp at h1) (fun b hb => hb) (Nat.le_refl _), Nat.le_refl _, fun b hb z => by
    have e : b = a := by simpa using hb
    rw [e, h] at z; cases z⟩, by decide, asc_of "{}" (by decide +kernel), .inr ⟨rfl, _, false, false, .base (.dK h), kit_ty (by decide +kernel), kit_ty (by decide +kernel), rfl, kit_tr O.is O.ty O.dict⟩, .inr ⟨_, .base (.dK h), kit_ty (by decide +kernel)⟩⟩
/-- a container of one thing -/
theorem tupleText_one (t : Str) : tupleText [t] = ("(" : Str) ++ t ++ (",)" : Str) := by
  unfold tupleText
  rw [join_one]
  rfl
theorem thing_tup1 (O : Others K C) {a : Addr} {x : V} {t : Str} {o : Option Rat} {n k : Nat} (h : Thing K C H x t o n k) (hn : H a = none) {H' : Hp} (s : Same H H') (e : H' a = some (.tup [x])) : Thing K C H' (.ref a) (tupleText [t]) none (2 * n + 10) (k + 2) := by
  have h' := h.same s
  obtain ⟨⟨as, k1, h1, h2, h3⟩, h4, h5, h6⟩ := h
  obtain ⟨⟨as', k1', h1', h2', h3'⟩, _⟩ := h'
  refine ⟨⟨a :: as, k1 + 2, .tuple (as := as) (k := k1) (SqT.of e) (fun z => h3 a z hn) rfl (fun i y u e1 e2 => ?_) (fun b hb => hb) (Nat.le_refl _), by omega, fun b hb z => ?_⟩, ?_, ?_, .inr ⟨rfl, _, false, false, .base (.tup e), kit_ty (by decide +kernel), kit_ty (by decide +kernel), rfl, kit_tr O.is O.ty O.tup⟩, .inr ⟨_, .base (.tup e), kit_ty (by decide +kernel)⟩⟩
  · match i, e1, e2 with
    | 0, e1, e2 =>
      obtain rfl : x = y := Option.some.inj e1
      obtain rfl : t = u := Option.some.inj e2
      exact shw_same h1 s
  · rcases List.mem_cons.mp hb with rfl | hb
    · rw [e] at z; cases z
    · cases q : H b with
      | none => exact h3 b hb q
      | some o' => exact nomatch (s _ _ q).symm.trans z
  · rw [tupleText_one, strLen_append, strLen_append]
    have e1 : (("(" : Str)).length = 1 := rfl
    have e2 : ((",)" : Str)).length = 2 := rfl
    omega
  · rw [tupleText_one]
    exact asc_append (asc_append (asc_of _ (by decide +kernel)) h5) (asc_of _ (by decide +kernel))
theorem listText_one (t : Str) : listText [t] = ("[" : Str) ++ t ++ ("]" : Str) := rfl
theorem thing_list1 (O : Others K C) {a : Addr} {x : V} {t : Str} {o : Option Rat} {n k : Nat} (h : Thing K C H x t o n k) (hn : H a = none) {H' : Hp} (s : Same H H') (e : H' a = some (.lst [x])) : Thing K C H' (.ref a) (listText [t]) none (2 * n + 10) (k + 2) := by
  obtain ⟨⟨as, k1, h1, h2, h3⟩, h4, h5, h6⟩ := h
  refine ⟨⟨a :: as, k1 + 2, .list (as := as) (k := k1) (SqL.of e) (fun z => h3 a z hn) rfl (fun i y u e1 e2 => ?_) (fun b hb => hb) (Nat.le_refl _), by omega, fun b hb z => ?_⟩, ?_, ?_, .inr ⟨rfl, _, false, false, .base (.lst e), kit_ty (by decide +kernel), kit_ty (by decide +kernel), rfl, kit_tr O.is O.ty O.lst⟩, .inr ⟨_, .base (.lst e), kit_ty (by decide +kernel)⟩⟩
  · match i, e1, e2 with
    | 0, e1, e2 =>
      obtain rfl : x = y := Option.some.inj e1
      obtain rfl : t = u := Option.some.inj e2
      exact shw_same h1 s
  · rcases List.mem_cons.mp hb with rfl | hb
    · rw [e] at z; cases z
    · cases q : H b with
      | none => exact h3 b hb q
      | some o' => exact nomatch (s _ _ q).symm.trans z
  · rw [listText_one, strLen_append, strLen_append]
    have e1 : (("[" : Str)).length = 1 := rfl
    have e2 : (("]" : Str)).length = 1 := rfl
    omega
  · rw [listText_one]
    exact asc_append (asc_append (asc_of _ (by decide +kernel)) h5) (asc_of _ (by decide +kernel))
theorem tupleText_two (t u : Str) : tupleText [t, u] = ("(" : Str) ++ (t ++ (", " : Str) ++ u) ++ (")" : Str) := by
  unfold tupleText
  rw [join_cons_cons, join_one]
  rfl
theorem thing_tup2 (O : Others K C) {a : Addr} {x y : V} {t u : Str} {o o' : Option Rat} {n k : Nat} (h : Thing K C H x t o n k) (g : Thing K C H y u o' n k) (hn : H a = none) {H' : Hp} (s : Same H H') (e : H' a = some (.tup [x, y])) : Thing K C H' (.ref a) (tupleText [t, u]) none (2 * n + 10) (k + 2) := by
  obtain ⟨⟨as, k1, h1, h2, h3⟩, h4, h5, h6⟩ := h
  obtain ⟨⟨bs, k2, g1, g2, g3⟩, g4, g5, g6⟩ := g
  refine ⟨⟨a :: (as ++ bs), k + 2, .tuple (as := as ++ bs) (k := k) (SqT.of e) (fun z => ?_) rfl (fun i z v e1 e2 => ?_) (fun b hb => hb) (Nat.le_refl _), Nat.le_refl _, fun b hb z => ?_⟩, ?_, ?_, .inr ⟨rfl, _, false, false, .base (.tup e), kit_ty (by decide +kernel), kit_ty (by decide +kernel), rfl, kit_tr O.is O.ty O.tup⟩, .inr ⟨_, .base (.tup e), kit_ty (by decide +kernel)⟩⟩
  · rcases List.mem_append.mp z with z | z
    · exact h3 a z hn
    · exact g3 a z hn
  · match i, e1, e2 with
    | 0, e1, e2 =>
      obtain rfl : x = z := Option.some.inj e1
      obtain rfl : t = v := Option.some.inj e2
      exact (shw_same h1 s).more (fun c hc => List.mem_append_left _ hc) h2
    | 1, e1, e2 =>
      obtain rfl : y = z := Option.some.inj e1
      obtain rfl : u = v := Option.some.inj e2
      exact (shw_same g1 s).more (fun c hc => List.mem_append_right _ hc) g2
  · rcases List.mem_cons.mp hb with rfl | hb
    · rw [e] at z; cases z
    · cases q : H b with
      | none =>
        rcases List.mem_append.mp hb with hb | hb
        · exact h3 b hb q
        · exact g3 b hb q
      | some o' => exact nomatch (s _ _ q).symm.trans z
  · rw [tupleText_two, strLen_append, strLen_append, strLen_append, strLen_append]
    have e1 : (("(" : Str)).length = 1 := rfl
    have e2 : ((")" : Str)).length = 1 := rfl
    have e3 : ((", " : Str)).length = 2 := rfl
    omega
  · rw [tupleText_two]
    exact asc_append (asc_append (asc_of _ (by decide +kernel)) (asc_append (asc_append h5 (asc_of _ (by decide +kernel))) g5)) (asc_of _ (by decide +kernel))
theorem dictText_one (t : Str) : dictText (kvTxts [(Sum.inr "a", (V.non))] [t]) = ("{" : Str) ++ (reprText "a" ++ (": " : Str) ++ t) ++ ("}" : Str) := by
  unfold dictText kvTxts
  rw [List.zipWith_cons_cons, List.zipWith_nil_left, join_one]
  rfl
theorem thing_dict1 (O : Others K C) {a : Addr} {x : V} {t : Str} {o : Option Rat} {n k : Nat} (h : Thing K C H x t o n k) (hn : H a = none) {H' : Hp} (s : Same H H') (e : H' a = some (.dK [(Sum.inr "a", x)])) : Thing K C H' (.ref a) (dictText (kvTxts [(Sum.inr "a", V.non)] [t])) none (2 * n + 10) (k + 2) := by
  obtain ⟨⟨as, k1, h1, h2, h3⟩, h4, h5, h6⟩ := h
  have la : (reprText "a").length = 3 := by decide +kernel
  have e0 : kvTxts [(Sum.inr "a", V.non)] [t] = kvTxts [(Sum.inr "a", x)] [t] := rfl
  refine ⟨⟨a :: as, k1 + 2, ?_, by omega, fun b hb z => ?_⟩, ?_, ?_, .inr ⟨rfl, _, false, false, .base (.dK e), kit_ty (by decide +kernel), kit_ty (by decide +kernel), rfl, kit_tr O.is O.ty O.dict⟩, .inr ⟨_, .base (.dK e), kit_ty (by decide +kernel)⟩⟩
  · rw [e0]
    refine .dict (H0 := H) (as := as) (k := k1) (vts := [t]) hn e s (fun z => h3 a z hn) rfl (fun i kv e1 => ?_) (fun i kv v e1 e2 => ?_) (fun b hb => hb) (Nat.le_refl _)
    · match i, e1 with
      | 0, e1 =>
        obtain rfl := Option.some.inj e1
        show (reprText "a").length ≤ sizeLine
        rw [la]
        decide
    · match i, e1, e2 with
      | 0, e1, e2 =>
        obtain rfl := Option.some.inj e1
        obtain rfl : t = v := Option.some.inj e2
        exact h1
  · rcases List.mem_cons.mp hb with rfl | hb
    · rw [e] at z; cases z
    · cases q : H b with
      | none => exact h3 b hb q
      | some o' => exact nomatch (s _ _ q).symm.trans z
  · rw [dictText_one, strLen_append, strLen_append, strLen_append, strLen_append]
    have e1 : (("{" : Str)).length = 1 := rfl
    have e2 : (("}" : Str)).length = 1 := rfl
    have e3 : ((": " : Str)).length = 2 := rfl
    omega
  · rw [dictText_one]
    exact asc_append (asc_append (asc_of _ (by decide +kernel)) (asc_append (asc_append (asc_repr (asc_of "a" (by decide +kernel))) (asc_of _ (by decide +kernel))) h5)) (asc_of _ (by decide +kernel))
end
theorem sc__law_odd : FnScope ["_law_q", "_law_deep", "_law_way", "_law_one"] ["_law_q", "_law_deep"] (defScope s__law_odd) := ⟨rfl, rfl, rfl, by decide +kernel, rfl, by decide +kernel, by decide +kernel⟩
theorem ok_odd {f : Addr} {fd : FuncData} {l : Nat} (F : Fun K "_law_odd" "_law_odd" s__law_odd f fd) (T : TxR K mg C) (O : Others K C) (c_draw : DrawC P w K mg base) (c_great : GreatC P w K mg base) (c_sign : SignC P w K mg base) (m_rat2 : Rat2C P w K mg base C) (hl : 6 ≤ l) (m : Nat)
    (c_odd : CalG P w K mg base l "_law_odd" (spOdd K C m) []) : FnG P w K mg base CX0 (l + 1) f fd ["_law_q", "_law_deep"] (spOdd K C (m + 1)) := by
  refine fun_okG F sc__law_odd (fun vs H Q E h => ?_) (fun cdv A outer s H vs Q E bare hr h => ?_)
  · obtain ⟨q, n, rfl, _⟩ := h
    rfl
  · obtain ⟨q, n, rfl, hq, hn, k⟩ := h
    have t4 := tn_ge m
    have z4 := sz_ge m
    refine ⟨_, (pss_cons (ps_set (i := 2) sc__law_odd.nd rfl (Or.inl rfl) (pe_cg c_draw bare hr (by omega) rfl (pa_cons (pv 0) (pa_cons pe_int pa_nil))))
  (pss_cons (ps_if (pt_cmpR op_lt (pv 2) pe_int (nomark _)) (pss_one (ps_ret (pe_ix (ix_listK (K := K)) (pe_lst (pa_cons pe_non (pa_cons pe_bl (pa_cons pe_bl (pa_cons pe_str (pa_cons pe_int (pa_cons pe_int pa_nil))))))) (pv 2) (fun _ _ => rfl))))
  pss_nil)
  (pss_cons (ps_if (pt_cmpR op_eq (pv 2) pe_int (nomark _)) (pss_one (ps_ret (pe_cg c_great bare hr (by omega) rfl (pa_cons (pv 0) pa_nil))))
  pss_nil)
  (pss_cons (ps_if (pt_cmpR op_eq (pv 2) pe_int (nomark _)) (pss_one (ps_ret (pe_op op_add_str (pe_cg c_sign bare hr (by omega) rfl (pa_cons (pv 0) pa_nil)) (pe_op op_mulStr (pe_cg c_sign bare hr (by omega) rfl (pa_cons (pv 0) pa_nil)) (pe_cg c_draw bare hr (by omega) rfl (pa_cons (pv 0) (pa_cons pe_int pa_nil)))))))
  pss_nil)
  (pss_cons (ps_if (pt_cmpR op_eq (pv 2) pe_int (nomark _)) (pss_one (ps_ret (pe_mkf m_rat2 hr (by omega) rfl (pa_cons (pe_op op_sub (pe_cg c_draw bare hr (by omega) rfl (pa_cons (pv 0) (pa_cons pe_int pa_nil))) pe_int) (pa_cons (pe_op op_add pe_int (pe_cg c_draw bare hr (by omega) rfl (pa_cons (pv 0) (pa_cons pe_int pa_nil)))) pa_nil)))))
  pss_nil)
  (pss_cons (ps_if (PW.pt (pw_or (pt_cmpR op_eq (pv 2) pe_int (nomark _)) (pw_or1 (pt_cmpR op_lt (pv 1) pe_int (nomark _))))) (pss_one (ps_ret (pe_ix (ix_listK (K := K)) (pe_lst (pa_cons (pe_tup pa_nil) (pa_cons (pe_lst pa_nil) (pa_cons pe_dnewK pa_nil)))) (pe_cg c_draw bare hr (by omega) rfl (pa_cons (pv 0) (pa_cons pe_int pa_nil))) (fun _ _ => rfl))))
  pss_nil)
  (pss_cons (ps_set (i := 3) sc__law_odd.nd rfl (Or.inl rfl) (pe_cg c_odd bare hr (by omega) rfl (pa_cons (pv 0) (pa_cons (pe_op op_sub (pv 1) pe_int) pa_nil))))
  (pss_cons (ps_if (pt_cmpR op_eq (pv 2) pe_int (nomark _)) (pss_one (ps_ret (pe_tup (pa_cons (pv 3) pa_nil))))
  pss_nil)
  (pss_cons (ps_if (pt_cmpR op_eq (pv 2) pe_int (nomark _)) (pss_one (ps_ret (pe_lst (pa_cons (pv 3) pa_nil))))
  pss_nil)
  (pss_cons (ps_if (pt_cmpR op_eq (pv 2) pe_int (nomark _)) (pss_one (ps_ret (pe_tup (pa_cons (pv 3) (pa_cons (pe_cg c_odd bare hr (by omega) rfl (pa_cons (pv 0) (pa_cons (pe_op op_sub (pv 1) pe_int) pa_nil))) pa_nil)))))
  pss_nil)
  (pss_one (ps_ret (pe_disp (pps_cons pe_str (pv 3) pps_nil) (by rfl) (by rfl) (fun z => by cases z) (by decide)))))))))))))), ?_⟩
    -- way = draw(q, 14)
    refine ⟨_, rfl, q, 14, n, rfl, hq, by omega, by decide, by decide, fun r H1 r0 r1 k1 q1 => ?_⟩
    have fin : ∀ {x : V} {t : Str} {o : Option Rat} {H' : Hp} {n' : Nat}, Keep q H H' → QAt H' q n' → n' ≤ n + tn m → Thing K C (hid q H') x t o 400 2 → Q x H' := fun k2 q2 hle h => k _ _ _ _ k2 (QAt.le q2 hle) (h.le z4 (by omega))
    -- if way < 6
    refine ⟨_, rfl, _, _, rfl, rfl, _, rfl, ?_⟩
    refine ite2 (fun h6 => ?_) (fun h6 => ?_)
    · have h6' : r < 6 := of_decide_eq_true h6
      refine ⟨by show 6 ≤ sizeLine; decide, fun p hp => ?_⟩
      have kp : Keep q H (upd H1 p (.lst [V.non, .bl true, .bl false, .str "", .int 1, .int 0])) := k1.new hp
      have fin6 : ∀ (x : V) (t : Str) (o : Option Rat), (∀ H', Thing K C H' x t o 400 2) → Q x (upd H1 p (.lst [V.non, .bl true, .bl false, .str "", .int 1, .int 0])) := fun x t o h => fin kp (q1.new hp) (by omega) (h _)
      have cs : r = 0 ∨ r = 1 ∨ r = 2 ∨ r = 3 ∨ r = 4 ∨ r = 5 := by omega
      rcases cs with rfl | rfl | rfl | rfl | rfl | rfl
      · exact ⟨_, rfl, p, _, _, _, rfl, rfl, SqL.of upd_same, rfl, fin6 _ _ _ fun H' => thing_non O⟩
      · exact ⟨_, rfl, p, _, _, _, rfl, rfl, SqL.of upd_same, rfl, fin6 _ _ _ fun H' => thing_bl O true⟩
      · exact ⟨_, rfl, p, _, _, _, rfl, rfl, SqL.of upd_same, rfl, fin6 _ _ _ fun H' => thing_bl O false⟩
      · exact ⟨_, rfl, p, _, _, _, rfl, rfl, SqL.of upd_same, rfl, fin6 _ _ _ fun H' => thing_str O (asc_of "" (by decide +kernel)) (by decide)⟩
      · exact ⟨_, rfl, p, _, _, _, rfl, rfl, SqL.of upd_same, rfl, fin6 _ _ _ fun H' => thing_int (by decide)⟩
      · exact ⟨_, rfl, p, _, _, _, rfl, rfl, SqL.of upd_same, rfl, fin6 _ _ _ fun H' => thing_int (by decide)⟩
    -- if way == 6
    refine ⟨_, rfl, rfl, _, rfl, ?_⟩
    refine ite2 (fun _ => ?_) (fun _ => ?_)
    · refine ⟨_, rfl, q, n + 1, rfl, q1, by omega, fun z H2 z0 z1 k2 q2 => ?_⟩
      exact fin (k1.trans k2) q2 (by omega) (thing_int (Nat.lt_of_lt_of_le (m := 10 ^ 42) (by omega) (by decide)))
    -- if way == 7
    refine ⟨_, rfl, rfl, _, rfl, ?_⟩
    refine ite2 (fun _ => ?_) (fun _ => ?_)
    · refine ⟨_, rfl, q, n + 1, rfl, q1, by omega, fun z2 H2 a2 l2 k2 q2 => ?_⟩
      refine ⟨_, rfl, q, n + 2, rfl, q2, by omega, fun z3 H3 a3 l3 k3 q3 => ?_⟩
      refine ⟨_, rfl, q, 3, n + 3, rfl, q3, by omega, by decide, by decide, fun r4 H4 r40 r41 k4 q4 => ?_⟩
      have lm := mulT_len (x := z3) (n := r4)
      rw [l3] at lm
      have lm2 : (mulT z3 r4).length ≤ 2 := by omega
      refine ⟨_, _, rfl, rfl, r40, by omega, by omega, _, _, rfl, rfl, Nat.le_trans (m := 3) (by omega) (by decide), ?_⟩
      exact fin (k1.trans (k2.trans (k3.trans k4))) q4 (by omega) (thing_str O (asc_append a2 (mulT_asc a3)) (by rw [strLen_append]; omega))
    -- if way == 8
    refine ⟨_, rfl, rfl, _, rfl, ?_⟩
    refine ite2 (fun _ => ?_) (fun _ => ?_)
    · refine ⟨_, rfl, q, 9, n + 1, rfl, q1, by omega, by decide, by decide, fun r2 H2 r20 r21 k2 q2 => ?_⟩
      refine ⟨_, _, rfl, rfl, ?_⟩
      refine ⟨_, rfl, q, 3, n + 2, rfl, q2, by omega, by decide, by decide, fun r3 H3 r30 r31 k3 q3 => ?_⟩
      refine ⟨_, _, rfl, rfl, ?_⟩
      have kk := k1.trans (k2.trans k3)
      refine make_rat (by omega) (sm_lt (k := 2) (by decide) (by omega) (by omega)) fun x H4 hx s4 h4 => ?_
      have nx : x ≠ q := q3.ne hx
      have h4' : RatAt C (hid q H4) x (Rat.divInt (r2 - 4) (1 + r3)) := h4.elim fun dx e => ⟨dx, by rw [hid_ne nx]; exact e⟩
      exact fin (kk.same s4) (q3.keep s4) (by omega) (thing_rat O T h4' (bd_div (by omega) (by omega) (by omega)))
    -- if way == 9 or deep < 1
    refine ⟨_, rfl, rfl, _, rfl, ?_⟩
    refine ite2 (fun _ => ?_) (fun _ => ⟨_, rfl, _, _, rfl, rfl, _, rfl, ite2 (fun _ => ?_) (fun hd => ?_)⟩)
    · refine ⟨by show 0 ≤ sizeLine; decide, fun t ht => ⟨by show 0 ≤ sizeLine; decide, fun l hl => fun d hd => ⟨by show 3 ≤ sizeLine; decide, fun p hp => ?_⟩⟩⟩
      have s2 := MG.Same.new (o := .tup []) (Same.refl H1) ht
      have s3 := MG.Same.new (o := .lst []) (Same.refl _) hl
      have s4 := MG.Same.new (o := .dK []) (Same.refl _) hd
      have s5 := MG.Same.new (o := .lst [V.ref t, .ref l, .ref d]) (Same.refl _) hp
      have q5 := (((q1.keep s2).keep s3).keep s4).keep s5
      have k5 := (((k1.same s2).same s3).same s4).same s5
      refine ⟨_, rfl, q, 3, n + 1, rfl, q5, by omega, by decide, by decide, fun r6 H6 r60 r61 k6 q6 => ?_⟩
      have nt : t ≠ q := q1.ne ht
      have nl : l ≠ q := (q1.keep s2).ne hl
      have nd : d ≠ q := ((q1.keep s2).keep s3).ne hd
      have np : p ≠ q := (((q1.keep s2).keep s3).keep s4).ne hp
      have et : hid q H6 t = some (.tup []) := by rw [hid_ne nt]; exact k6 _ _ (s5 _ _ (s4 _ _ (s3 _ _ upd_same))) nt
      have el : hid q H6 l = some (.lst []) := by rw [hid_ne nl]; exact k6 _ _ (s5 _ _ (s4 _ _ upd_same)) nl
      have ed : hid q H6 d = some (.dK []) := by rw [hid_ne nd]; exact k6 _ _ (s5 _ _ upd_same) nd
      have ep := k6 _ _ upd_same np
      have kk := k5.trans k6
      have cs : r6 = 0 ∨ r6 = 1 ∨ r6 = 2 := by omega
      rcases cs with rfl | rfl | rfl
      · exact ⟨p, _, _, _, rfl, rfl, SqL.of ep, rfl, fin kk q6 (by omega) (thing_tup0 O et)⟩
      · exact ⟨p, _, _, _, rfl, rfl, SqL.of ep, rfl, fin kk q6 (by omega) (thing_list0 O el)⟩
      · exact ⟨p, _, _, _, rfl, rfl, SqL.of ep, rfl, fin kk q6 (by omega) (thing_dict0 O ed)⟩
    · refine ⟨by show 0 ≤ sizeLine; decide, fun t ht => ⟨by show 0 ≤ sizeLine; decide, fun l hl => fun d hd => ⟨by show 3 ≤ sizeLine; decide, fun p hp => ?_⟩⟩⟩
      have s2 := MG.Same.new (o := .tup []) (Same.refl H1) ht
      have s3 := MG.Same.new (o := .lst []) (Same.refl _) hl
      have s4 := MG.Same.new (o := .dK []) (Same.refl _) hd
      have s5 := MG.Same.new (o := .lst [V.ref t, .ref l, .ref d]) (Same.refl _) hp
      have q5 := (((q1.keep s2).keep s3).keep s4).keep s5
      have k5 := (((k1.same s2).same s3).same s4).same s5
      refine ⟨_, rfl, q, 3, n + 1, rfl, q5, by omega, by decide, by decide, fun r6 H6 r60 r61 k6 q6 => ?_⟩
      have nt : t ≠ q := q1.ne ht
      have nl : l ≠ q := (q1.keep s2).ne hl
      have nd : d ≠ q := ((q1.keep s2).keep s3).ne hd
      have np : p ≠ q := (((q1.keep s2).keep s3).keep s4).ne hp
      have et : hid q H6 t = some (.tup []) := by rw [hid_ne nt]; exact k6 _ _ (s5 _ _ (s4 _ _ (s3 _ _ upd_same))) nt
      have el : hid q H6 l = some (.lst []) := by rw [hid_ne nl]; exact k6 _ _ (s5 _ _ (s4 _ _ upd_same)) nl
      have ed : hid q H6 d = some (.dK []) := by rw [hid_ne nd]; exact k6 _ _ (s5 _ _ upd_same) nd
      have ep := k6 _ _ upd_same np
      have kk := k5.trans k6
      have cs : r6 = 0 ∨ r6 = 1 ∨ r6 = 2 := by omega
      rcases cs with rfl | rfl | rfl
      · exact ⟨p, _, _, _, rfl, rfl, SqL.of ep, rfl, fin kk q6 (by omega) (thing_tup0 O et)⟩
      · exact ⟨p, _, _, _, rfl, rfl, SqL.of ep, rfl, fin kk q6 (by omega) (thing_list0 O el)⟩
      · exact ⟨p, _, _, _, rfl, rfl, SqL.of ep, rfl, fin kk q6 (by omega) (thing_dict0 O ed)⟩
    -- one = odd(q, deep - 1)
    have m1 : ¬ ((m : Int) < 1) := fun z => hd (decide_eq_true z)
    obtain ⟨m, rfl⟩ : ∃ m', m = m' + 1 := ⟨m - 1, by omega⟩
    have em : V.int (((m + 1 : Nat) : Int) - 1) = V.int (m : Int) := by
      have : ((m + 1 : Nat) : Int) - 1 = (m : Int) := by omega
      rw [this]
    have et : tn (m + 1) = 1 + 2 * tn m := rfl
    refine ⟨_, rfl, _, rfl, _, _, rfl, rfl, q, n + 1, by show [V.ref q, V.int (((m + 1 : Nat) : Int) - 1)] = _; rw [em], q1, by omega, fun x t o H2 k2 q2 h2 => ?_⟩
    have kk := k1.trans k2
    have cont : ∀ {y : V} {u : Str} {H' : Hp} {n' : Nat}, Keep q H H' → QAt H' q n' → n' ≤ n + tn (m + 1) → Thing K C (hid q H') y u none (2 * sz m + 10) (2 * m + 2 + 2) → Q y H' := fun k2 q2 hle h => k _ _ _ _ k2 (QAt.le q2 hle) (h.le (Nat.le_refl _) (by omega))
    have hids : ∀ {p : Addr} {u : HO}, H2 p = none → hid q H2 p = none ∧ Same (hid q H2) (hid q (upd H2 p u)) ∧ hid q (upd H2 p u) p = some u := fun {p u} hp => by
      have np : p ≠ q := q2.ne hp
      refine ⟨by rw [hid_ne np]; exact hp, hid_keep (Keep.refl.new hp), by rw [hid_ne np]; exact upd_same⟩
    -- if way == 10: return (one,)
    refine ⟨_, rfl, rfl, _, rfl, ?_⟩
    refine ite2 (fun _ => ?_) (fun _ => ?_)
    · refine ⟨_, rfl, by show 1 ≤ sizeLine; decide, fun p hp => ?_⟩
      obtain ⟨e1, e2, e3⟩ := hids (u := .tup [x]) hp
      exact cont (kk.new hp) (q2.new hp) (by omega) (thing_tup1 O h2 e1 e2 e3)
    -- if way == 11: return [one]
    refine ⟨_, rfl, rfl, _, rfl, ?_⟩
    refine ite2 (fun _ => ?_) (fun _ => ?_)
    · refine ⟨_, rfl, by show 1 ≤ sizeLine; decide, fun p hp => ?_⟩
      obtain ⟨e1, e2, e3⟩ := hids (u := .lst [x]) hp
      exact cont (kk.new hp) (q2.new hp) (by omega) (thing_list1 O h2 e1 e2 e3)
    -- if way == 12: return (one, odd(q, deep - 1))
    refine ⟨_, rfl, rfl, _, rfl, ?_⟩
    refine ite2 (fun _ => ?_) (fun _ => ?_)
    · refine ⟨_, rfl, _, rfl, _, rfl, _, _, rfl, rfl, q, n + 1 + tn m, by show [V.ref q, V.int (((m + 1 : Nat) : Int) - 1)] = _; rw [em], q2, by omega, fun y u o' H3 k3 q3 h3 => ?_⟩
      refine ⟨by show 2 ≤ sizeLine; decide, fun p hp => ?_⟩
      have np : p ≠ q := q3.ne hp
      exact cont ((kk.trans k3).new hp) (q3.new hp) (by omega) (thing_tup2 O (h2.same (hid_keep k3)) h3 (by rw [hid_ne np]; exact hp) (hid_keep (Keep.refl.new hp)) (by rw [hid_ne np]; exact upd_same))
    -- return {'a': one}
    refine fun p hp => ⟨_, rfl, upd_same, [(Sum.inr "a", x)], rfl, by show 1 ≤ 15; decide, ?_⟩
    have np : p ≠ q := q2.ne hp
    have s1 := MG.Same.new (o := .dK []) (Same.refl H2) hp
    have e0 : upd (upd H2 p (.dK [])) p (.dK (mergeK [] [(Sum.inr "a", x)])) = upd H2 p (.dK [(Sum.inr "a", x)]) := by
      funext b
      by_cases hb : b = p
      · rw [hb, upd_same, upd_same]
        rfl
      · rw [upd_ne hb, upd_ne hb, upd_ne hb]
    rw [e0]
    obtain ⟨e1, e2, e3⟩ := hids (u := .dK [(Sum.inr "a", x)]) hp
    exact cont (kk.new hp) (q2.new hp) (by omega) (thing_dict1 O h2 e1 e2 e3)
end
end Lw

namespace Lw
open PySem PySem.Spec PyProof.Rows L2 MG
abbrev s_InvalidEntries___init__ : Stmt := inClass (top 5) 0
abbrev s_InvalidSize___init__ : Stmt := inClass (top 6) 0
abbrev s_InvalidName___init__ : Stmt := inClass (top 7) 0
abbrev s_InvalidSide___init__ : Stmt := inClass (top 8) 0
abbrev s_InvalidSymmetry___init__ : Stmt := inClass (top 9) 0
abbrev s_InvalidAbout___init__ : Stmt := inClass (top 10) 0
abbrev s_InvalidExponent___init__ : Stmt := inClass (top 11) 0
abbrev s_InvalidIndex___init__ : Stmt := inClass (top 12) 0
abbrev s_InvalidTable___init__ : Stmt := inClass (top 13) 0
abbrev s_InvalidWord___init__ : Stmt := inClass (top 14) 0
abbrev s_InvalidMapping___init__ : Stmt := inClass (top 15) 0
abbrev s_InvalidLetters___init__ : Stmt := inClass (top 16) 0
abbrev s_InvalidText___init__ : Stmt := inClass (top 17) 0
abbrev s_InvalidDeed___init__ : Stmt := inClass (top 18) 0
abbrev s_InvalidLine___init__ : Stmt := inClass (top 19) 0
abbrev s_NotAMatrix___init__ : Stmt := inClass (top 20) 0
abbrev s_NotAFormula___init__ : Stmt := inClass (top 21) 0
abbrev s_NotARatio___init__ : Stmt := inClass (top 22) 0
abbrev s_TextError___init__ : Stmt := inClass (top 23) 0
abbrev s_Clash___init__ : Stmt := inClass (top 25) 0
abbrev s_Mismatch___init__ : Stmt := inClass (top 26) 0
abbrev s_UnknownName___init__ : Stmt := inClass (top 27) 0
abbrev s_Taken___init__ : Stmt := inClass (top 28) 0
abbrev s_NoSize___init__ : Stmt := inClass (top 29) 0
abbrev s_NoMatrix___init__ : Stmt := inClass (top 30) 0
abbrev s_InUse___init__ : Stmt := inClass (top 31) 0
abbrev s_Circular___init__ : Stmt := inClass (top 32) 0
abbrev s_Unanchored___init__ : Stmt := inClass (top 35) 0
abbrev s_TooLarge___init__ : Stmt := inClass (top 38) 0
abbrev s_TooRich___init__ : Stmt := inClass (top 39) 0
abbrev s_NotSolvable___init__ : Stmt := inClass (top 40) 0
abbrev s_Broken___init__ : Stmt := inClass (top 41) 0
section
variable {P : Program} {w : World} {K : PySem.W.Frag} {mg : Str → Option Value} {base : Heap} {C CI : Addr}
theorem one_of {ys : List V} (h : ys.length = 1) : ∃ y, ys = [y] := match ys, h with | [y], _ => ⟨y, rfl⟩
theorem two_of {ys : List V} (h : ys.length = 2) : ∃ y z, ys = [y, z] := match ys, h with | [y, z], _ => ⟨y, z, rfl⟩
theorem er_keep {H : Hp} {a dx : Addr} {o1 o2 : HO} (n : H dx = none) (b : Addr) (o : HO) (hb : H b = some o) (ne : b ≠ a) : upd (upd H dx o1) a o2 b = some o := by
  rw [upd_ne ne, upd_ne (ne_of_none hb n)]
  exact hb
theorem ok_er_InvalidNumber {f : Addr} {fd : FuncData} (F : Fun K "__init__" "InvalidNumber.__init__" s_InvalidNumber___init__ f fd) : FnOk P w K mg base CX0 2 f fd ["self", "given"] (spEr K C ["given"]) := by
  refine F.ok sc_InvalidNumber___init__ (fun vs H Q E h => ?_) (fun cdv A outer s H vs Q E hr h => ?_)
  · obtain ⟨a, ys, rfl, hl, _⟩ := h
    show ys.length + 1 = _
    rw [hl]
    rfl
  · obtain ⟨a, ys, rfl, hl, T, no, ha, k⟩ := h
    obtain ⟨y, rfl⟩ := one_of hl
    refine ⟨_, (pss_one (ps_osE (pv 0) (pv 1))), ?_⟩
    exact ⟨_, rfl, _, rfl, a, C, rfl, T, no _ (.head _), .inl ⟨ha, fun dx n ne => k dx _ n ne (er_keep n) upd_same (by rw [upd_ne ne]; exact upd_same)⟩⟩
theorem sc_InvalidEntries___init__ : FnScope ["self", "given"] ["self", "given"] (defScope s_InvalidEntries___init__) := ⟨rfl, rfl, rfl, by decide +kernel, rfl, by decide +kernel, by decide +kernel⟩
theorem ok_er_InvalidEntries {f : Addr} {fd : FuncData} (F : Fun K "__init__" "InvalidEntries.__init__" s_InvalidEntries___init__ f fd) : FnOk P w K mg base CX0 2 f fd ["self", "given"] (spEr K C ["given"]) := by
  refine F.ok sc_InvalidEntries___init__ (fun vs H Q E h => ?_) (fun cdv A outer s H vs Q E hr h => ?_)
  · obtain ⟨a, ys, rfl, hl, _⟩ := h
    show ys.length + 1 = _
    rw [hl]
    rfl
  · obtain ⟨a, ys, rfl, hl, T, no, ha, k⟩ := h
    obtain ⟨y, rfl⟩ := one_of hl
    refine ⟨_, (pss_one (ps_osE (pv 0) (pv 1))), ?_⟩
    exact ⟨_, rfl, _, rfl, a, C, rfl, T, no _ (.head _), .inl ⟨ha, fun dx n ne => k dx _ n ne (er_keep n) upd_same (by rw [upd_ne ne]; exact upd_same)⟩⟩
theorem sc_InvalidSize___init__ : FnScope ["self", "given"] ["self", "given"] (defScope s_InvalidSize___init__) := ⟨rfl, rfl, rfl, by decide +kernel, rfl, by decide +kernel, by decide +kernel⟩
theorem ok_er_InvalidSize {f : Addr} {fd : FuncData} (F : Fun K "__init__" "InvalidSize.__init__" s_InvalidSize___init__ f fd) : FnOk P w K mg base CX0 2 f fd ["self", "given"] (spEr K C ["given"]) := by
  refine F.ok sc_InvalidSize___init__ (fun vs H Q E h => ?_) (fun cdv A outer s H vs Q E hr h => ?_)
  · obtain ⟨a, ys, rfl, hl, _⟩ := h
    show ys.length + 1 = _
    rw [hl]
    rfl
  · obtain ⟨a, ys, rfl, hl, T, no, ha, k⟩ := h
    obtain ⟨y, rfl⟩ := one_of hl
    refine ⟨_, (pss_one (ps_osE (pv 0) (pv 1))), ?_⟩
    exact ⟨_, rfl, _, rfl, a, C, rfl, T, no _ (.head _), .inl ⟨ha, fun dx n ne => k dx _ n ne (er_keep n) upd_same (by rw [upd_ne ne]; exact upd_same)⟩⟩
theorem sc_InvalidName___init__ : FnScope ["self", "given"] ["self", "given"] (defScope s_InvalidName___init__) := ⟨rfl, rfl, rfl, by decide +kernel, rfl, by decide +kernel, by decide +kernel⟩
theorem ok_er_InvalidName {f : Addr} {fd : FuncData} (F : Fun K "__init__" "InvalidName.__init__" s_InvalidName___init__ f fd) : FnOk P w K mg base CX0 2 f fd ["self", "given"] (spEr K C ["given"]) := by
  refine F.ok sc_InvalidName___init__ (fun vs H Q E h => ?_) (fun cdv A outer s H vs Q E hr h => ?_)
  · obtain ⟨a, ys, rfl, hl, _⟩ := h
    show ys.length + 1 = _
    rw [hl]
    rfl
  · obtain ⟨a, ys, rfl, hl, T, no, ha, k⟩ := h
    obtain ⟨y, rfl⟩ := one_of hl
    refine ⟨_, (pss_one (ps_osE (pv 0) (pv 1))), ?_⟩
    exact ⟨_, rfl, _, rfl, a, C, rfl, T, no _ (.head _), .inl ⟨ha, fun dx n ne => k dx _ n ne (er_keep n) upd_same (by rw [upd_ne ne]; exact upd_same)⟩⟩
theorem sc_InvalidSide___init__ : FnScope ["self", "given"] ["self", "given"] (defScope s_InvalidSide___init__) := ⟨rfl, rfl, rfl, by decide +kernel, rfl, by decide +kernel, by decide +kernel⟩
theorem ok_er_InvalidSide {f : Addr} {fd : FuncData} (F : Fun K "__init__" "InvalidSide.__init__" s_InvalidSide___init__ f fd) : FnOk P w K mg base CX0 2 f fd ["self", "given"] (spEr K C ["given"]) := by
  refine F.ok sc_InvalidSide___init__ (fun vs H Q E h => ?_) (fun cdv A outer s H vs Q E hr h => ?_)
  · obtain ⟨a, ys, rfl, hl, _⟩ := h
    show ys.length + 1 = _
    rw [hl]
    rfl
  · obtain ⟨a, ys, rfl, hl, T, no, ha, k⟩ := h
    obtain ⟨y, rfl⟩ := one_of hl
    refine ⟨_, (pss_one (ps_osE (pv 0) (pv 1))), ?_⟩
    exact ⟨_, rfl, _, rfl, a, C, rfl, T, no _ (.head _), .inl ⟨ha, fun dx n ne => k dx _ n ne (er_keep n) upd_same (by rw [upd_ne ne]; exact upd_same)⟩⟩
theorem sc_InvalidSymmetry___init__ : FnScope ["self", "given"] ["self", "given"] (defScope s_InvalidSymmetry___init__) := ⟨rfl, rfl, rfl, by decide +kernel, rfl, by decide +kernel, by decide +kernel⟩
theorem ok_er_InvalidSymmetry {f : Addr} {fd : FuncData} (F : Fun K "__init__" "InvalidSymmetry.__init__" s_InvalidSymmetry___init__ f fd) : FnOk P w K mg base CX0 2 f fd ["self", "given"] (spEr K C ["given"]) := by
  refine F.ok sc_InvalidSymmetry___init__ (fun vs H Q E h => ?_) (fun cdv A outer s H vs Q E hr h => ?_)
  · obtain ⟨a, ys, rfl, hl, _⟩ := h
    show ys.length + 1 = _
    rw [hl]
    rfl
  · obtain ⟨a, ys, rfl, hl, T, no, ha, k⟩ := h
    obtain ⟨y, rfl⟩ := one_of hl
    refine ⟨_, (pss_one (ps_osE (pv 0) (pv 1))), ?_⟩
    exact ⟨_, rfl, _, rfl, a, C, rfl, T, no _ (.head _), .inl ⟨ha, fun dx n ne => k dx _ n ne (er_keep n) upd_same (by rw [upd_ne ne]; exact upd_same)⟩⟩
theorem sc_InvalidAbout___init__ : FnScope ["self", "given"] ["self", "given"] (defScope s_InvalidAbout___init__) := ⟨rfl, rfl, rfl, by decide +kernel, rfl, by decide +kernel, by decide +kernel⟩
theorem ok_er_InvalidAbout {f : Addr} {fd : FuncData} (F : Fun K "__init__" "InvalidAbout.__init__" s_InvalidAbout___init__ f fd) : FnOk P w K mg base CX0 2 f fd ["self", "given"] (spEr K C ["given"]) := by
  refine F.ok sc_InvalidAbout___init__ (fun vs H Q E h => ?_) (fun cdv A outer s H vs Q E hr h => ?_)
  · obtain ⟨a, ys, rfl, hl, _⟩ := h
    show ys.length + 1 = _
    rw [hl]
    rfl
  · obtain ⟨a, ys, rfl, hl, T, no, ha, k⟩ := h
    obtain ⟨y, rfl⟩ := one_of hl
    refine ⟨_, (pss_one (ps_osE (pv 0) (pv 1))), ?_⟩
    exact ⟨_, rfl, _, rfl, a, C, rfl, T, no _ (.head _), .inl ⟨ha, fun dx n ne => k dx _ n ne (er_keep n) upd_same (by rw [upd_ne ne]; exact upd_same)⟩⟩
theorem sc_InvalidExponent___init__ : FnScope ["self", "given"] ["self", "given"] (defScope s_InvalidExponent___init__) := ⟨rfl, rfl, rfl, by decide +kernel, rfl, by decide +kernel, by decide +kernel⟩
theorem ok_er_InvalidExponent {f : Addr} {fd : FuncData} (F : Fun K "__init__" "InvalidExponent.__init__" s_InvalidExponent___init__ f fd) : FnOk P w K mg base CX0 2 f fd ["self", "given"] (spEr K C ["given"]) := by
  refine F.ok sc_InvalidExponent___init__ (fun vs H Q E h => ?_) (fun cdv A outer s H vs Q E hr h => ?_)
  · obtain ⟨a, ys, rfl, hl, _⟩ := h
    show ys.length + 1 = _
    rw [hl]
    rfl
  · obtain ⟨a, ys, rfl, hl, T, no, ha, k⟩ := h
    obtain ⟨y, rfl⟩ := one_of hl
    refine ⟨_, (pss_one (ps_osE (pv 0) (pv 1))), ?_⟩
    exact ⟨_, rfl, _, rfl, a, C, rfl, T, no _ (.head _), .inl ⟨ha, fun dx n ne => k dx _ n ne (er_keep n) upd_same (by rw [upd_ne ne]; exact upd_same)⟩⟩
theorem sc_InvalidIndex___init__ : FnScope ["self", "given"] ["self", "given"] (defScope s_InvalidIndex___init__) := ⟨rfl, rfl, rfl, by decide +kernel, rfl, by decide +kernel, by decide +kernel⟩
theorem ok_er_InvalidIndex {f : Addr} {fd : FuncData} (F : Fun K "__init__" "InvalidIndex.__init__" s_InvalidIndex___init__ f fd) : FnOk P w K mg base CX0 2 f fd ["self", "given"] (spEr K C ["given"]) := by
  refine F.ok sc_InvalidIndex___init__ (fun vs H Q E h => ?_) (fun cdv A outer s H vs Q E hr h => ?_)
  · obtain ⟨a, ys, rfl, hl, _⟩ := h
    show ys.length + 1 = _
    rw [hl]
    rfl
  · obtain ⟨a, ys, rfl, hl, T, no, ha, k⟩ := h
    obtain ⟨y, rfl⟩ := one_of hl
    refine ⟨_, (pss_one (ps_osE (pv 0) (pv 1))), ?_⟩
    exact ⟨_, rfl, _, rfl, a, C, rfl, T, no _ (.head _), .inl ⟨ha, fun dx n ne => k dx _ n ne (er_keep n) upd_same (by rw [upd_ne ne]; exact upd_same)⟩⟩
theorem sc_InvalidTable___init__ : FnScope ["self", "given"] ["self", "given"] (defScope s_InvalidTable___init__) := ⟨rfl, rfl, rfl, by decide +kernel, rfl, by decide +kernel, by decide +kernel⟩
theorem ok_er_InvalidTable {f : Addr} {fd : FuncData} (F : Fun K "__init__" "InvalidTable.__init__" s_InvalidTable___init__ f fd) : FnOk P w K mg base CX0 2 f fd ["self", "given"] (spEr K C ["given"]) := by
  refine F.ok sc_InvalidTable___init__ (fun vs H Q E h => ?_) (fun cdv A outer s H vs Q E hr h => ?_)
  · obtain ⟨a, ys, rfl, hl, _⟩ := h
    show ys.length + 1 = _
    rw [hl]
    rfl
  · obtain ⟨a, ys, rfl, hl, T, no, ha, k⟩ := h
    obtain ⟨y, rfl⟩ := one_of hl
    refine ⟨_, (pss_one (ps_osE (pv 0) (pv 1))), ?_⟩
    exact ⟨_, rfl, _, rfl, a, C, rfl, T, no _ (.head _), .inl ⟨ha, fun dx n ne => k dx _ n ne (er_keep n) upd_same (by rw [upd_ne ne]; exact upd_same)⟩⟩
theorem sc_InvalidWord___init__ : FnScope ["self", "given"] ["self", "given"] (defScope s_InvalidWord___init__) := ⟨rfl, rfl, rfl, by decide +kernel, rfl, by decide +kernel, by decide +kernel⟩
theorem ok_er_InvalidWord {f : Addr} {fd : FuncData} (F : Fun K "__init__" "InvalidWord.__init__" s_InvalidWord___init__ f fd) : FnOk P w K mg base CX0 2 f fd ["self", "given"] (spEr K C ["given"]) := by
  refine F.ok sc_InvalidWord___init__ (fun vs H Q E h => ?_) (fun cdv A outer s H vs Q E hr h => ?_)
  · obtain ⟨a, ys, rfl, hl, _⟩ := h
    show ys.length + 1 = _
    rw [hl]
    rfl
  · obtain ⟨a, ys, rfl, hl, T, no, ha, k⟩ := h
    obtain ⟨y, rfl⟩ := one_of hl
    refine ⟨_, (pss_one (ps_osE (pv 0) (pv 1))), ?_⟩
    exact ⟨_, rfl, _, rfl, a, C, rfl, T, no _ (.head _), .inl ⟨ha, fun dx n ne => k dx _ n ne (er_keep n) upd_same (by rw [upd_ne ne]; exact upd_same)⟩⟩
theorem sc_InvalidMapping___init__ : FnScope ["self", "given"] ["self", "given"] (defScope s_InvalidMapping___init__) := ⟨rfl, rfl, rfl, by decide +kernel, rfl, by decide +kernel, by decide +kernel⟩
theorem ok_er_InvalidMapping {f : Addr} {fd : FuncData} (F : Fun K "__init__" "InvalidMapping.__init__" s_InvalidMapping___init__ f fd) : FnOk P w K mg base CX0 2 f fd ["self", "given"] (spEr K C ["given"]) := by
  refine F.ok sc_InvalidMapping___init__ (fun vs H Q E h => ?_) (fun cdv A outer s H vs Q E hr h => ?_)
  · obtain ⟨a, ys, rfl, hl, _⟩ := h
    show ys.length + 1 = _
    rw [hl]
    rfl
  · obtain ⟨a, ys, rfl, hl, T, no, ha, k⟩ := h
    obtain ⟨y, rfl⟩ := one_of hl
    refine ⟨_, (pss_one (ps_osE (pv 0) (pv 1))), ?_⟩
    exact ⟨_, rfl, _, rfl, a, C, rfl, T, no _ (.head _), .inl ⟨ha, fun dx n ne => k dx _ n ne (er_keep n) upd_same (by rw [upd_ne ne]; exact upd_same)⟩⟩
theorem sc_InvalidLetters___init__ : FnScope ["self", "given"] ["self", "given"] (defScope s_InvalidLetters___init__) := ⟨rfl, rfl, rfl, by decide +kernel, rfl, by decide +kernel, by decide +kernel⟩
theorem ok_er_InvalidLetters {f : Addr} {fd : FuncData} (F : Fun K "__init__" "InvalidLetters.__init__" s_InvalidLetters___init__ f fd) : FnOk P w K mg base CX0 2 f fd ["self", "given"] (spEr K C ["given"]) := by
  refine F.ok sc_InvalidLetters___init__ (fun vs H Q E h => ?_) (fun cdv A outer s H vs Q E hr h => ?_)
  · obtain ⟨a, ys, rfl, hl, _⟩ := h
    show ys.length + 1 = _
    rw [hl]
    rfl
  · obtain ⟨a, ys, rfl, hl, T, no, ha, k⟩ := h
    obtain ⟨y, rfl⟩ := one_of hl
    refine ⟨_, (pss_one (ps_osE (pv 0) (pv 1))), ?_⟩
    exact ⟨_, rfl, _, rfl, a, C, rfl, T, no _ (.head _), .inl ⟨ha, fun dx n ne => k dx _ n ne (er_keep n) upd_same (by rw [upd_ne ne]; exact upd_same)⟩⟩
theorem sc_InvalidText___init__ : FnScope ["self", "given"] ["self", "given"] (defScope s_InvalidText___init__) := ⟨rfl, rfl, rfl, by decide +kernel, rfl, by decide +kernel, by decide +kernel⟩
theorem ok_er_InvalidText {f : Addr} {fd : FuncData} (F : Fun K "__init__" "InvalidText.__init__" s_InvalidText___init__ f fd) : FnOk P w K mg base CX0 2 f fd ["self", "given"] (spEr K C ["given"]) := by
  refine F.ok sc_InvalidText___init__ (fun vs H Q E h => ?_) (fun cdv A outer s H vs Q E hr h => ?_)
  · obtain ⟨a, ys, rfl, hl, _⟩ := h
    show ys.length + 1 = _
    rw [hl]
    rfl
  · obtain ⟨a, ys, rfl, hl, T, no, ha, k⟩ := h
    obtain ⟨y, rfl⟩ := one_of hl
    refine ⟨_, (pss_one (ps_osE (pv 0) (pv 1))), ?_⟩
    exact ⟨_, rfl, _, rfl, a, C, rfl, T, no _ (.head _), .inl ⟨ha, fun dx n ne => k dx _ n ne (er_keep n) upd_same (by rw [upd_ne ne]; exact upd_same)⟩⟩
theorem sc_InvalidDeed___init__ : FnScope ["self", "given"] ["self", "given"] (defScope s_InvalidDeed___init__) := ⟨rfl, rfl, rfl, by decide +kernel, rfl, by decide +kernel, by decide +kernel⟩
theorem ok_er_InvalidDeed {f : Addr} {fd : FuncData} (F : Fun K "__init__" "InvalidDeed.__init__" s_InvalidDeed___init__ f fd) : FnOk P w K mg base CX0 2 f fd ["self", "given"] (spEr K C ["given"]) := by
  refine F.ok sc_InvalidDeed___init__ (fun vs H Q E h => ?_) (fun cdv A outer s H vs Q E hr h => ?_)
  · obtain ⟨a, ys, rfl, hl, _⟩ := h
    show ys.length + 1 = _
    rw [hl]
    rfl
  · obtain ⟨a, ys, rfl, hl, T, no, ha, k⟩ := h
    obtain ⟨y, rfl⟩ := one_of hl
    refine ⟨_, (pss_one (ps_osE (pv 0) (pv 1))), ?_⟩
    exact ⟨_, rfl, _, rfl, a, C, rfl, T, no _ (.head _), .inl ⟨ha, fun dx n ne => k dx _ n ne (er_keep n) upd_same (by rw [upd_ne ne]; exact upd_same)⟩⟩
theorem sc_InvalidLine___init__ : FnScope ["self", "given"] ["self", "given"] (defScope s_InvalidLine___init__) := ⟨rfl, rfl, rfl, by decide +kernel, rfl, by decide +kernel, by decide +kernel⟩
theorem ok_er_InvalidLine {f : Addr} {fd : FuncData} (F : Fun K "__init__" "InvalidLine.__init__" s_InvalidLine___init__ f fd) : FnOk P w K mg base CX0 2 f fd ["self", "given"] (spEr K C ["given"]) := by
  refine F.ok sc_InvalidLine___init__ (fun vs H Q E h => ?_) (fun cdv A outer s H vs Q E hr h => ?_)
  · obtain ⟨a, ys, rfl, hl, _⟩ := h
    show ys.length + 1 = _
    rw [hl]
    rfl
  · obtain ⟨a, ys, rfl, hl, T, no, ha, k⟩ := h
    obtain ⟨y, rfl⟩ := one_of hl
    refine ⟨_, (pss_one (ps_osE (pv 0) (pv 1))), ?_⟩
    exact ⟨_, rfl, _, rfl, a, C, rfl, T, no _ (.head _), .inl ⟨ha, fun dx n ne => k dx _ n ne (er_keep n) upd_same (by rw [upd_ne ne]; exact upd_same)⟩⟩
theorem sc_NotAMatrix___init__ : FnScope ["self", "given"] ["self", "given"] (defScope s_NotAMatrix___init__) := ⟨rfl, rfl, rfl, by decide +kernel, rfl, by decide +kernel, by decide +kernel⟩
theorem ok_er_NotAMatrix {f : Addr} {fd : FuncData} (F : Fun K "__init__" "NotAMatrix.__init__" s_NotAMatrix___init__ f fd) : FnOk P w K mg base CX0 2 f fd ["self", "given"] (spEr K C ["given"]) := by
  refine F.ok sc_NotAMatrix___init__ (fun vs H Q E h => ?_) (fun cdv A outer s H vs Q E hr h => ?_)
  · obtain ⟨a, ys, rfl, hl, _⟩ := h
    show ys.length + 1 = _
    rw [hl]
    rfl
  · obtain ⟨a, ys, rfl, hl, T, no, ha, k⟩ := h
    obtain ⟨y, rfl⟩ := one_of hl
    refine ⟨_, (pss_one (ps_osE (pv 0) (pv 1))), ?_⟩
    exact ⟨_, rfl, _, rfl, a, C, rfl, T, no _ (.head _), .inl ⟨ha, fun dx n ne => k dx _ n ne (er_keep n) upd_same (by rw [upd_ne ne]; exact upd_same)⟩⟩
theorem sc_NotAFormula___init__ : FnScope ["self", "given"] ["self", "given"] (defScope s_NotAFormula___init__) := ⟨rfl, rfl, rfl, by decide +kernel, rfl, by decide +kernel, by decide +kernel⟩
theorem ok_er_NotAFormula {f : Addr} {fd : FuncData} (F : Fun K "__init__" "NotAFormula.__init__" s_NotAFormula___init__ f fd) : FnOk P w K mg base CX0 2 f fd ["self", "given"] (spEr K C ["given"]) := by
  refine F.ok sc_NotAFormula___init__ (fun vs H Q E h => ?_) (fun cdv A outer s H vs Q E hr h => ?_)
  · obtain ⟨a, ys, rfl, hl, _⟩ := h
    show ys.length + 1 = _
    rw [hl]
    rfl
  · obtain ⟨a, ys, rfl, hl, T, no, ha, k⟩ := h
    obtain ⟨y, rfl⟩ := one_of hl
    refine ⟨_, (pss_one (ps_osE (pv 0) (pv 1))), ?_⟩
    exact ⟨_, rfl, _, rfl, a, C, rfl, T, no _ (.head _), .inl ⟨ha, fun dx n ne => k dx _ n ne (er_keep n) upd_same (by rw [upd_ne ne]; exact upd_same)⟩⟩
theorem sc_NotARatio___init__ : FnScope ["self", "given"] ["self", "given"] (defScope s_NotARatio___init__) := ⟨rfl, rfl, rfl, by decide +kernel, rfl, by decide +kernel, by decide +kernel⟩
theorem ok_er_NotARatio {f : Addr} {fd : FuncData} (F : Fun K "__init__" "NotARatio.__init__" s_NotARatio___init__ f fd) : FnOk P w K mg base CX0 2 f fd ["self", "given"] (spEr K C ["given"]) := by
  refine F.ok sc_NotARatio___init__ (fun vs H Q E h => ?_) (fun cdv A outer s H vs Q E hr h => ?_)
  · obtain ⟨a, ys, rfl, hl, _⟩ := h
    show ys.length + 1 = _
    rw [hl]
    rfl
  · obtain ⟨a, ys, rfl, hl, T, no, ha, k⟩ := h
    obtain ⟨y, rfl⟩ := one_of hl
    refine ⟨_, (pss_one (ps_osE (pv 0) (pv 1))), ?_⟩
    exact ⟨_, rfl, _, rfl, a, C, rfl, T, no _ (.head _), .inl ⟨ha, fun dx n ne => k dx _ n ne (er_keep n) upd_same (by rw [upd_ne ne]; exact upd_same)⟩⟩
theorem sc_TextError___init__ : FnScope ["self", "place"] ["self", "place"] (defScope s_TextError___init__) := ⟨rfl, rfl, rfl, by decide +kernel, rfl, by decide +kernel, by decide +kernel⟩
theorem ok_er_TextError {f : Addr} {fd : FuncData} (F : Fun K "__init__" "TextError.__init__" s_TextError___init__ f fd) : FnOk P w K mg base CX0 2 f fd ["self", "place"] (spEr K C ["place"]) := by
  refine F.ok sc_TextError___init__ (fun vs H Q E h => ?_) (fun cdv A outer s H vs Q E hr h => ?_)
  · obtain ⟨a, ys, rfl, hl, _⟩ := h
    show ys.length + 1 = _
    rw [hl]
    rfl
  · obtain ⟨a, ys, rfl, hl, T, no, ha, k⟩ := h
    obtain ⟨y, rfl⟩ := one_of hl
    refine ⟨_, (pss_one (ps_osE (pv 0) (pv 1))), ?_⟩
    exact ⟨_, rfl, _, rfl, a, C, rfl, T, no _ (.head _), .inl ⟨ha, fun dx n ne => k dx _ n ne (er_keep n) upd_same (by rw [upd_ne ne]; exact upd_same)⟩⟩
theorem sc_Clash___init__ : FnScope ["self", "given"] ["self", "given"] (defScope s_Clash___init__) := ⟨rfl, rfl, rfl, by decide +kernel, rfl, by decide +kernel, by decide +kernel⟩
theorem ok_er_Clash {f : Addr} {fd : FuncData} (F : Fun K "__init__" "Clash.__init__" s_Clash___init__ f fd) : FnOk P w K mg base CX0 2 f fd ["self", "given"] (spEr K C ["given"]) := by
  refine F.ok sc_Clash___init__ (fun vs H Q E h => ?_) (fun cdv A outer s H vs Q E hr h => ?_)
  · obtain ⟨a, ys, rfl, hl, _⟩ := h
    show ys.length + 1 = _
    rw [hl]
    rfl
  · obtain ⟨a, ys, rfl, hl, T, no, ha, k⟩ := h
    obtain ⟨y, rfl⟩ := one_of hl
    refine ⟨_, (pss_one (ps_osE (pv 0) (pv 1))), ?_⟩
    exact ⟨_, rfl, _, rfl, a, C, rfl, T, no _ (.head _), .inl ⟨ha, fun dx n ne => k dx _ n ne (er_keep n) upd_same (by rw [upd_ne ne]; exact upd_same)⟩⟩
theorem sc_Mismatch___init__ : FnScope ["self", "first", "second"] ["self", "first", "second"] (defScope s_Mismatch___init__) := ⟨rfl, rfl, rfl, by decide +kernel, rfl, by decide +kernel, by decide +kernel⟩
theorem ok_er_Mismatch {f : Addr} {fd : FuncData} (F : Fun K "__init__" "Mismatch.__init__" s_Mismatch___init__ f fd) : FnOk P w K mg base CX0 2 f fd ["self", "first", "second"] (spEr K C ["first", "second"]) := by
  refine F.ok sc_Mismatch___init__ (fun vs H Q E h => ?_) (fun cdv A outer s H vs Q E hr h => ?_)
  · obtain ⟨a, ys, rfl, hl, _⟩ := h
    show ys.length + 1 = _
    rw [hl]
    rfl
  · obtain ⟨a, ys, rfl, hl, T, no, ha, k⟩ := h
    obtain ⟨y, z, rfl⟩ := two_of hl
    refine ⟨_, (pss_cons (ps_osE (pv 0) (pv 1))
  (pss_one (ps_osE (pv 0) (pv 2)))), ?_⟩
    refine ⟨_, rfl, _, rfl, a, C, rfl, T, no _ (.head _), .inl ⟨ha, fun dx n ne => ⟨_, rfl, _, rfl, a, C, rfl, T, no _ (.tail _ (.head _)), .inr ⟨dx, _, upd_same, by rw [upd_ne ne]; exact upd_same, (by show 1 ≤ 900; decide), ?_⟩⟩⟩⟩
    refine k dx _ n ne (fun b o hb nb => ?_) ?_ upd_same
    · rw [upd_ne (ne_of_none hb n)]
      exact er_keep n b o hb nb
    · rw [upd_ne (Ne.symm ne)]
      exact upd_same
theorem sc_UnknownName___init__ : FnScope ["self", "given"] ["self", "given"] (defScope s_UnknownName___init__) := ⟨rfl, rfl, rfl, by decide +kernel, rfl, by decide +kernel, by decide +kernel⟩
theorem ok_er_UnknownName {f : Addr} {fd : FuncData} (F : Fun K "__init__" "UnknownName.__init__" s_UnknownName___init__ f fd) : FnOk P w K mg base CX0 2 f fd ["self", "given"] (spEr K C ["given"]) := by
  refine F.ok sc_UnknownName___init__ (fun vs H Q E h => ?_) (fun cdv A outer s H vs Q E hr h => ?_)
  · obtain ⟨a, ys, rfl, hl, _⟩ := h
    show ys.length + 1 = _
    rw [hl]
    rfl
  · obtain ⟨a, ys, rfl, hl, T, no, ha, k⟩ := h
    obtain ⟨y, rfl⟩ := one_of hl
    refine ⟨_, (pss_one (ps_osE (pv 0) (pv 1))), ?_⟩
    exact ⟨_, rfl, _, rfl, a, C, rfl, T, no _ (.head _), .inl ⟨ha, fun dx n ne => k dx _ n ne (er_keep n) upd_same (by rw [upd_ne ne]; exact upd_same)⟩⟩
theorem sc_Taken___init__ : FnScope ["self", "given"] ["self", "given"] (defScope s_Taken___init__) := ⟨rfl, rfl, rfl, by decide +kernel, rfl, by decide +kernel, by decide +kernel⟩
theorem ok_er_Taken {f : Addr} {fd : FuncData} (F : Fun K "__init__" "Taken.__init__" s_Taken___init__ f fd) : FnOk P w K mg base CX0 2 f fd ["self", "given"] (spEr K C ["given"]) := by
  refine F.ok sc_Taken___init__ (fun vs H Q E h => ?_) (fun cdv A outer s H vs Q E hr h => ?_)
  · obtain ⟨a, ys, rfl, hl, _⟩ := h
    show ys.length + 1 = _
    rw [hl]
    rfl
  · obtain ⟨a, ys, rfl, hl, T, no, ha, k⟩ := h
    obtain ⟨y, rfl⟩ := one_of hl
    refine ⟨_, (pss_one (ps_osE (pv 0) (pv 1))), ?_⟩
    exact ⟨_, rfl, _, rfl, a, C, rfl, T, no _ (.head _), .inl ⟨ha, fun dx n ne => k dx _ n ne (er_keep n) upd_same (by rw [upd_ne ne]; exact upd_same)⟩⟩
theorem sc_NoSize___init__ : FnScope ["self", "given"] ["self", "given"] (defScope s_NoSize___init__) := ⟨rfl, rfl, rfl, by decide +kernel, rfl, by decide +kernel, by decide +kernel⟩
theorem ok_er_NoSize {f : Addr} {fd : FuncData} (F : Fun K "__init__" "NoSize.__init__" s_NoSize___init__ f fd) : FnOk P w K mg base CX0 2 f fd ["self", "given"] (spEr K C ["given"]) := by
  refine F.ok sc_NoSize___init__ (fun vs H Q E h => ?_) (fun cdv A outer s H vs Q E hr h => ?_)
  · obtain ⟨a, ys, rfl, hl, _⟩ := h
    show ys.length + 1 = _
    rw [hl]
    rfl
  · obtain ⟨a, ys, rfl, hl, T, no, ha, k⟩ := h
    obtain ⟨y, rfl⟩ := one_of hl
    refine ⟨_, (pss_one (ps_osE (pv 0) (pv 1))), ?_⟩
    exact ⟨_, rfl, _, rfl, a, C, rfl, T, no _ (.head _), .inl ⟨ha, fun dx n ne => k dx _ n ne (er_keep n) upd_same (by rw [upd_ne ne]; exact upd_same)⟩⟩
theorem sc_NoMatrix___init__ : FnScope ["self", "given"] ["self", "given"] (defScope s_NoMatrix___init__) := ⟨rfl, rfl, rfl, by decide +kernel, rfl, by decide +kernel, by decide +kernel⟩
theorem ok_er_NoMatrix {f : Addr} {fd : FuncData} (F : Fun K "__init__" "NoMatrix.__init__" s_NoMatrix___init__ f fd) : FnOk P w K mg base CX0 2 f fd ["self", "given"] (spEr K C ["given"]) := by
  refine F.ok sc_NoMatrix___init__ (fun vs H Q E h => ?_) (fun cdv A outer s H vs Q E hr h => ?_)
  · obtain ⟨a, ys, rfl, hl, _⟩ := h
    show ys.length + 1 = _
    rw [hl]
    rfl
  · obtain ⟨a, ys, rfl, hl, T, no, ha, k⟩ := h
    obtain ⟨y, rfl⟩ := one_of hl
    refine ⟨_, (pss_one (ps_osE (pv 0) (pv 1))), ?_⟩
    exact ⟨_, rfl, _, rfl, a, C, rfl, T, no _ (.head _), .inl ⟨ha, fun dx n ne => k dx _ n ne (er_keep n) upd_same (by rw [upd_ne ne]; exact upd_same)⟩⟩
theorem sc_InUse___init__ : FnScope ["self", "user"] ["self", "user"] (defScope s_InUse___init__) := ⟨rfl, rfl, rfl, by decide +kernel, rfl, by decide +kernel, by decide +kernel⟩
theorem ok_er_InUse {f : Addr} {fd : FuncData} (F : Fun K "__init__" "InUse.__init__" s_InUse___init__ f fd) : FnOk P w K mg base CX0 2 f fd ["self", "user"] (spEr K C ["user"]) := by
  refine F.ok sc_InUse___init__ (fun vs H Q E h => ?_) (fun cdv A outer s H vs Q E hr h => ?_)
  · obtain ⟨a, ys, rfl, hl, _⟩ := h
    show ys.length + 1 = _
    rw [hl]
    rfl
  · obtain ⟨a, ys, rfl, hl, T, no, ha, k⟩ := h
    obtain ⟨y, rfl⟩ := one_of hl
    refine ⟨_, (pss_one (ps_osE (pv 0) (pv 1))), ?_⟩
    exact ⟨_, rfl, _, rfl, a, C, rfl, T, no _ (.head _), .inl ⟨ha, fun dx n ne => k dx _ n ne (er_keep n) upd_same (by rw [upd_ne ne]; exact upd_same)⟩⟩
theorem sc_Circular___init__ : FnScope ["self", "given"] ["self", "given"] (defScope s_Circular___init__) := ⟨rfl, rfl, rfl, by decide +kernel, rfl, by decide +kernel, by decide +kernel⟩
theorem ok_er_Circular {f : Addr} {fd : FuncData} (F : Fun K "__init__" "Circular.__init__" s_Circular___init__ f fd) : FnOk P w K mg base CX0 2 f fd ["self", "given"] (spEr K C ["given"]) := by
  refine F.ok sc_Circular___init__ (fun vs H Q E h => ?_) (fun cdv A outer s H vs Q E hr h => ?_)
  · obtain ⟨a, ys, rfl, hl, _⟩ := h
    show ys.length + 1 = _
    rw [hl]
    rfl
  · obtain ⟨a, ys, rfl, hl, T, no, ha, k⟩ := h
    obtain ⟨y, rfl⟩ := one_of hl
    refine ⟨_, (pss_one (ps_osE (pv 0) (pv 1))), ?_⟩
    exact ⟨_, rfl, _, rfl, a, C, rfl, T, no _ (.head _), .inl ⟨ha, fun dx n ne => k dx _ n ne (er_keep n) upd_same (by rw [upd_ne ne]; exact upd_same)⟩⟩
theorem sc_Unanchored___init__ : FnScope ["self", "spelled"] ["self", "spelled"] (defScope s_Unanchored___init__) := ⟨rfl, rfl, rfl, by decide +kernel, rfl, by decide +kernel, by decide +kernel⟩
theorem ok_er_Unanchored {f : Addr} {fd : FuncData} (F : Fun K "__init__" "Unanchored.__init__" s_Unanchored___init__ f fd) : FnOk P w K mg base CX0 2 f fd ["self", "spelled"] (spEr K C ["spelled"]) := by
  refine F.ok sc_Unanchored___init__ (fun vs H Q E h => ?_) (fun cdv A outer s H vs Q E hr h => ?_)
  · obtain ⟨a, ys, rfl, hl, _⟩ := h
    show ys.length + 1 = _
    rw [hl]
    rfl
  · obtain ⟨a, ys, rfl, hl, T, no, ha, k⟩ := h
    obtain ⟨y, rfl⟩ := one_of hl
    refine ⟨_, (pss_one (ps_osE (pv 0) (pv 1))), ?_⟩
    exact ⟨_, rfl, _, rfl, a, C, rfl, T, no _ (.head _), .inl ⟨ha, fun dx n ne => k dx _ n ne (er_keep n) upd_same (by rw [upd_ne ne]; exact upd_same)⟩⟩
theorem sc_TooLarge___init__ : FnScope ["self", "limit"] ["self", "limit"] (defScope s_TooLarge___init__) := ⟨rfl, rfl, rfl, by decide +kernel, rfl, by decide +kernel, by decide +kernel⟩
theorem ok_er_TooLarge {f : Addr} {fd : FuncData} (F : Fun K "__init__" "TooLarge.__init__" s_TooLarge___init__ f fd) : FnOk P w K mg base CX0 2 f fd ["self", "limit"] (spEr K C ["limit"]) := by
  refine F.ok sc_TooLarge___init__ (fun vs H Q E h => ?_) (fun cdv A outer s H vs Q E hr h => ?_)
  · obtain ⟨a, ys, rfl, hl, _⟩ := h
    show ys.length + 1 = _
    rw [hl]
    rfl
  · obtain ⟨a, ys, rfl, hl, T, no, ha, k⟩ := h
    obtain ⟨y, rfl⟩ := one_of hl
    refine ⟨_, (pss_one (ps_osE (pv 0) (pv 1))), ?_⟩
    exact ⟨_, rfl, _, rfl, a, C, rfl, T, no _ (.head _), .inl ⟨ha, fun dx n ne => k dx _ n ne (er_keep n) upd_same (by rw [upd_ne ne]; exact upd_same)⟩⟩
theorem sc_TooRich___init__ : FnScope ["self", "limit"] ["self", "limit"] (defScope s_TooRich___init__) := ⟨rfl, rfl, rfl, by decide +kernel, rfl, by decide +kernel, by decide +kernel⟩
theorem ok_er_TooRich {f : Addr} {fd : FuncData} (F : Fun K "__init__" "TooRich.__init__" s_TooRich___init__ f fd) : FnOk P w K mg base CX0 2 f fd ["self", "limit"] (spEr K C ["limit"]) := by
  refine F.ok sc_TooRich___init__ (fun vs H Q E h => ?_) (fun cdv A outer s H vs Q E hr h => ?_)
  · obtain ⟨a, ys, rfl, hl, _⟩ := h
    show ys.length + 1 = _
    rw [hl]
    rfl
  · obtain ⟨a, ys, rfl, hl, T, no, ha, k⟩ := h
    obtain ⟨y, rfl⟩ := one_of hl
    refine ⟨_, (pss_one (ps_osE (pv 0) (pv 1))), ?_⟩
    exact ⟨_, rfl, _, rfl, a, C, rfl, T, no _ (.head _), .inl ⟨ha, fun dx n ne => k dx _ n ne (er_keep n) upd_same (by rw [upd_ne ne]; exact upd_same)⟩⟩
theorem sc_NotSolvable___init__ : FnScope ["self", "reason", "shown"] ["self", "reason", "shown"] (defScope s_NotSolvable___init__) := ⟨rfl, rfl, rfl, by decide +kernel, rfl, by decide +kernel, by decide +kernel⟩
theorem ok_er_NotSolvable {f : Addr} {fd : FuncData} (F : Fun K "__init__" "NotSolvable.__init__" s_NotSolvable___init__ f fd) : FnOk P w K mg base CX0 2 f fd ["self", "reason", "shown"] (spEr K C ["reason", "shown"]) := by
  refine F.ok sc_NotSolvable___init__ (fun vs H Q E h => ?_) (fun cdv A outer s H vs Q E hr h => ?_)
  · obtain ⟨a, ys, rfl, hl, _⟩ := h
    show ys.length + 1 = _
    rw [hl]
    rfl
  · obtain ⟨a, ys, rfl, hl, T, no, ha, k⟩ := h
    obtain ⟨y, z, rfl⟩ := two_of hl
    refine ⟨_, (pss_cons (ps_osE (pv 0) (pv 1))
  (pss_one (ps_osE (pv 0) (pv 2)))), ?_⟩
    refine ⟨_, rfl, _, rfl, a, C, rfl, T, no _ (.head _), .inl ⟨ha, fun dx n ne => ⟨_, rfl, _, rfl, a, C, rfl, T, no _ (.tail _ (.head _)), .inr ⟨dx, _, upd_same, by rw [upd_ne ne]; exact upd_same, (by show 1 ≤ 900; decide), ?_⟩⟩⟩⟩
    refine k dx _ n ne (fun b o hb nb => ?_) ?_ upd_same
    · rw [upd_ne (ne_of_none hb n)]
      exact er_keep n b o hb nb
    · rw [upd_ne (Ne.symm ne)]
      exact upd_same
theorem sc_Broken___init__ : FnScope ["self", "claim", "found"] ["self", "claim", "found"] (defScope s_Broken___init__) := ⟨rfl, rfl, rfl, by decide +kernel, rfl, by decide +kernel, by decide +kernel⟩
theorem ok_er_Broken {f : Addr} {fd : FuncData} (F : Fun K "__init__" "Broken.__init__" s_Broken___init__ f fd) : FnOk P w K mg base CX0 2 f fd ["self", "claim", "found"] (spEr K C ["claim", "found"]) := by
  refine F.ok sc_Broken___init__ (fun vs H Q E h => ?_) (fun cdv A outer s H vs Q E hr h => ?_)
  · obtain ⟨a, ys, rfl, hl, _⟩ := h
    show ys.length + 1 = _
    rw [hl]
    rfl
  · obtain ⟨a, ys, rfl, hl, T, no, ha, k⟩ := h
    obtain ⟨y, z, rfl⟩ := two_of hl
    refine ⟨_, (pss_cons (ps_osE (pv 0) (pv 1))
  (pss_one (ps_osE (pv 0) (pv 2)))), ?_⟩
    refine ⟨_, rfl, _, rfl, a, C, rfl, T, no _ (.head _), .inl ⟨ha, fun dx n ne => ⟨_, rfl, _, rfl, a, C, rfl, T, no _ (.tail _ (.head _)), .inr ⟨dx, _, upd_same, by rw [upd_ne ne]; exact upd_same, (by show 1 ≤ 900; decide), ?_⟩⟩⟩⟩
    refine k dx _ n ne (fun b o hb nb => ?_) ?_ upd_same
    · rw [upd_ne (ne_of_none hb n)]
      exact er_keep n b o hb nb
    · rw [upd_ne (Ne.symm ne)]
      exact upd_same
end
end Lw

namespace Lw
open PySem PySem.Spec PyProof.Rows L2 MG
abbrev s__law_sorts : Stmt := top 61
/-- the names of the classes -/
structure ErrG (mg : Str → Option Value) (cs : Nat → Addr) : Prop where
  g_InvalidNumber : mg "InvalidNumber" = some (.ref (cs 0))
  g_InvalidEntries : mg "InvalidEntries" = some (.ref (cs 1))
  g_InvalidSize : mg "InvalidSize" = some (.ref (cs 2))
  g_InvalidName : mg "InvalidName" = some (.ref (cs 3))
  g_InvalidSide : mg "InvalidSide" = some (.ref (cs 4))
  g_InvalidSymmetry : mg "InvalidSymmetry" = some (.ref (cs 5))
  g_InvalidAbout : mg "InvalidAbout" = some (.ref (cs 6))
  g_InvalidExponent : mg "InvalidExponent" = some (.ref (cs 7))
  g_InvalidIndex : mg "InvalidIndex" = some (.ref (cs 8))
  g_InvalidTable : mg "InvalidTable" = some (.ref (cs 9))
  g_InvalidWord : mg "InvalidWord" = some (.ref (cs 10))
  g_InvalidMapping : mg "InvalidMapping" = some (.ref (cs 11))
  g_InvalidLetters : mg "InvalidLetters" = some (.ref (cs 12))
  g_InvalidText : mg "InvalidText" = some (.ref (cs 13))
  g_InvalidDeed : mg "InvalidDeed" = some (.ref (cs 14))
  g_InvalidLine : mg "InvalidLine" = some (.ref (cs 15))
  g_NotAMatrix : mg "NotAMatrix" = some (.ref (cs 16))
  g_NotAFormula : mg "NotAFormula" = some (.ref (cs 17))
  g_NotARatio : mg "NotARatio" = some (.ref (cs 18))
  g_TextError : mg "TextError" = some (.ref (cs 19))
  g_Clash : mg "Clash" = some (.ref (cs 20))
  g_Mismatch : mg "Mismatch" = some (.ref (cs 21))
  g_UnknownName : mg "UnknownName" = some (.ref (cs 22))
  g_Taken : mg "Taken" = some (.ref (cs 23))
  g_NoSize : mg "NoSize" = some (.ref (cs 24))
  g_NoMatrix : mg "NoMatrix" = some (.ref (cs 25))
  g_InUse : mg "InUse" = some (.ref (cs 26))
  g_Circular : mg "Circular" = some (.ref (cs 27))
  g_NothingToUndo : mg "NothingToUndo" = some (.ref (cs 28))
  g_Unanchored : mg "Unanchored" = some (.ref (cs 29))
  g_Singular : mg "Singular" = some (.ref (cs 30))
  g_NoValue : mg "NoValue" = some (.ref (cs 31))
  g_TooLarge : mg "TooLarge" = some (.ref (cs 32))
  g_TooRich : mg "TooRich" = some (.ref (cs 33))
  g_NotSolvable : mg "NotSolvable" = some (.ref (cs 34))
  g_Broken : mg "Broken" = some (.ref (cs 35))
  g_InputError : mg "InputError" = some (.ref (cs 36))
  g_MeetError : mg "MeetError" = some (.ref (cs 37))
  g_AnswerError : mg "AnswerError" = some (.ref (cs 38))
  b_ValueError : mg "ValueError" = none
  b_LookupError : mg "LookupError" = none
  b_ArithmeticError : mg "ArithmeticError" = none
def bsn : Nat → String
  | 0 => "ValueError"
  | 1 => "LookupError"
  | _ => "ArithmeticError"
def bas (at_ : Nat) : Nat := if at_ < 20 then 0 else if at_ < 29 then 1 else 2
/-- C is the class with this number, and of no others -/
structure SortK (K : PySem.W.Frag) (cs : Nat → Addr) (C : Addr) (at_ : Nat) : Prop where
  e1 : ∀ j, j < 36 → PySem.W.kitOne K (.ref C) (.ref (cs j)) = some (decide (j = at_))
  e2 : ∀ j, j < 3 → PySem.W.kitOne K (.ref C) (.ref (cs (36 + j))) = some (decide (j = bas at_))
  v : ∀ j, j < 3 → PySem.W.kitOne K (.ref C) (.type (bsn j)) = some (decide (j = bas at_))
def fl (n at_ : Nat) : List V := (List.range n).map fun j => V.bl (decide (j = at_))
section
variable {P : Program} {w : World} {K : PySem.W.Frag} {mg : Str → Option Value} {base : Heap} {cs : Nat → Addr}
def spSorts (K : PySem.W.Frag) (cs : Nat → Addr) : Sp := fun vs H Q _ => ∃ (a C : Addr) (fs : List (Str × V)) (at_ : Nat), vs = [.ref a] ∧ ErC K C ∧ ErAt C fs H a ∧ SortK K cs C at_ ∧
  ∀ (D D1 D2 D3 : Addr) (H' : Hp), Same H H' → H' D = some (.lst [.ref D1, .ref D2, .ref D3]) → H' D1 = some (.lst (fl 36 at_)) → H' D2 = some (.lst (fl 3 (bas at_))) → H' D3 = some (.lst (fl 3 (bas at_))) → Q (.ref D) H'
theorem sc__law_sorts : FnScope ["_law_e", "_law_many", "_law_bases"] ["_law_e"] (defScope s__law_sorts) := ⟨rfl, rfl, rfl, by decide +kernel, rfl, by decide +kernel, by decide +kernel⟩
theorem ok_sorts {f : Addr} {fd : FuncData} (F : Fun K "_law_sorts" "_law_sorts" s__law_sorts f fd) (T0 : Blt mg) (Z : ErrG mg cs) : FnG P w K mg base CX0 4 f fd ["_law_e"] (spSorts K cs) := by
  refine fun_okG F sc__law_sorts (fun vs H Q E h => ?_) (fun cdv A outer s H vs Q E bare hr h => ?_)
  · obtain ⟨a, C, fs, at_, rfl, _⟩ := h
    rfl
  · obtain ⟨a, C, fs, at_, rfl, T, ea0, S, k⟩ := h
    have T1 := T0
    refine ⟨_, (have T := T0; (pss_cons (ps_cut (ps_set (i := 1) sc__law_sorts.nd rfl (Or.inl rfl) (pe_lst (pa_cons (pe_callB (id := "isinstance") call_isEr (by rfl) T.b_isinstance (by decide +kernel) (pa_cons (pv 0) (pa_cons (pe_glob (v := V.ref (cs 0)) rfl Z.g_InvalidNumber rfl) pa_nil))) (pa_cons (pe_callB (id := "isinstance") call_isEr (by rfl) T.b_isinstance (by decide +kernel) (pa_cons (pv 0) (pa_cons (pe_glob (v := V.ref (cs 1)) rfl Z.g_InvalidEntries rfl) pa_nil))) (pa_cons (pe_callB (id := "isinstance") call_isEr (by rfl) T.b_isinstance (by decide +kernel) (pa_cons (pv 0) (pa_cons (pe_glob (v := V.ref (cs 2)) rfl Z.g_InvalidSize rfl) pa_nil))) pa_nil))))))
  (pss_cons (ps_cut (ps_set (i := 1) sc__law_sorts.nd rfl (Or.inl rfl) (pe_op op_cat (pv 1) (pe_lst (pa_cons (pe_callB (id := "isinstance") call_isEr (by rfl) T.b_isinstance (by decide +kernel) (pa_cons (pv 0) (pa_cons (pe_glob (v := V.ref (cs 3)) rfl Z.g_InvalidName rfl) pa_nil))) (pa_cons (pe_callB (id := "isinstance") call_isEr (by rfl) T.b_isinstance (by decide +kernel) (pa_cons (pv 0) (pa_cons (pe_glob (v := V.ref (cs 4)) rfl Z.g_InvalidSide rfl) pa_nil))) (pa_cons (pe_callB (id := "isinstance") call_isEr (by rfl) T.b_isinstance (by decide +kernel) (pa_cons (pv 0) (pa_cons (pe_glob (v := V.ref (cs 5)) rfl Z.g_InvalidSymmetry rfl) pa_nil))) pa_nil)))))))
  (pss_cons (ps_cut (ps_set (i := 1) sc__law_sorts.nd rfl (Or.inl rfl) (pe_op op_cat (pv 1) (pe_lst (pa_cons (pe_callB (id := "isinstance") call_isEr (by rfl) T.b_isinstance (by decide +kernel) (pa_cons (pv 0) (pa_cons (pe_glob (v := V.ref (cs 6)) rfl Z.g_InvalidAbout rfl) pa_nil))) (pa_cons (pe_callB (id := "isinstance") call_isEr (by rfl) T.b_isinstance (by decide +kernel) (pa_cons (pv 0) (pa_cons (pe_glob (v := V.ref (cs 7)) rfl Z.g_InvalidExponent rfl) pa_nil))) (pa_cons (pe_callB (id := "isinstance") call_isEr (by rfl) T.b_isinstance (by decide +kernel) (pa_cons (pv 0) (pa_cons (pe_glob (v := V.ref (cs 8)) rfl Z.g_InvalidIndex rfl) pa_nil))) pa_nil)))))))
  (pss_cons (ps_cut (ps_set (i := 1) sc__law_sorts.nd rfl (Or.inl rfl) (pe_op op_cat (pv 1) (pe_lst (pa_cons (pe_callB (id := "isinstance") call_isEr (by rfl) T.b_isinstance (by decide +kernel) (pa_cons (pv 0) (pa_cons (pe_glob (v := V.ref (cs 9)) rfl Z.g_InvalidTable rfl) pa_nil))) (pa_cons (pe_callB (id := "isinstance") call_isEr (by rfl) T.b_isinstance (by decide +kernel) (pa_cons (pv 0) (pa_cons (pe_glob (v := V.ref (cs 10)) rfl Z.g_InvalidWord rfl) pa_nil))) (pa_cons (pe_callB (id := "isinstance") call_isEr (by rfl) T.b_isinstance (by decide +kernel) (pa_cons (pv 0) (pa_cons (pe_glob (v := V.ref (cs 11)) rfl Z.g_InvalidMapping rfl) pa_nil))) pa_nil)))))))
  (pss_cons (ps_cut (ps_set (i := 1) sc__law_sorts.nd rfl (Or.inl rfl) (pe_op op_cat (pv 1) (pe_lst (pa_cons (pe_callB (id := "isinstance") call_isEr (by rfl) T.b_isinstance (by decide +kernel) (pa_cons (pv 0) (pa_cons (pe_glob (v := V.ref (cs 12)) rfl Z.g_InvalidLetters rfl) pa_nil))) (pa_cons (pe_callB (id := "isinstance") call_isEr (by rfl) T.b_isinstance (by decide +kernel) (pa_cons (pv 0) (pa_cons (pe_glob (v := V.ref (cs 13)) rfl Z.g_InvalidText rfl) pa_nil))) (pa_cons (pe_callB (id := "isinstance") call_isEr (by rfl) T.b_isinstance (by decide +kernel) (pa_cons (pv 0) (pa_cons (pe_glob (v := V.ref (cs 14)) rfl Z.g_InvalidDeed rfl) pa_nil))) pa_nil)))))))
  (pss_cons (ps_cut (ps_set (i := 1) sc__law_sorts.nd rfl (Or.inl rfl) (pe_op op_cat (pv 1) (pe_lst (pa_cons (pe_callB (id := "isinstance") call_isEr (by rfl) T.b_isinstance (by decide +kernel) (pa_cons (pv 0) (pa_cons (pe_glob (v := V.ref (cs 15)) rfl Z.g_InvalidLine rfl) pa_nil))) (pa_cons (pe_callB (id := "isinstance") call_isEr (by rfl) T.b_isinstance (by decide +kernel) (pa_cons (pv 0) (pa_cons (pe_glob (v := V.ref (cs 16)) rfl Z.g_NotAMatrix rfl) pa_nil))) (pa_cons (pe_callB (id := "isinstance") call_isEr (by rfl) T.b_isinstance (by decide +kernel) (pa_cons (pv 0) (pa_cons (pe_glob (v := V.ref (cs 17)) rfl Z.g_NotAFormula rfl) pa_nil))) pa_nil)))))))
  (pss_cons (ps_cut (ps_set (i := 1) sc__law_sorts.nd rfl (Or.inl rfl) (pe_op op_cat (pv 1) (pe_lst (pa_cons (pe_callB (id := "isinstance") call_isEr (by rfl) T.b_isinstance (by decide +kernel) (pa_cons (pv 0) (pa_cons (pe_glob (v := V.ref (cs 18)) rfl Z.g_NotARatio rfl) pa_nil))) (pa_cons (pe_callB (id := "isinstance") call_isEr (by rfl) T.b_isinstance (by decide +kernel) (pa_cons (pv 0) (pa_cons (pe_glob (v := V.ref (cs 19)) rfl Z.g_TextError rfl) pa_nil))) (pa_cons (pe_callB (id := "isinstance") call_isEr (by rfl) T.b_isinstance (by decide +kernel) (pa_cons (pv 0) (pa_cons (pe_glob (v := V.ref (cs 20)) rfl Z.g_Clash rfl) pa_nil))) (pa_cons (pe_callB (id := "isinstance") call_isEr (by rfl) T.b_isinstance (by decide +kernel) (pa_cons (pv 0) (pa_cons (pe_glob (v := V.ref (cs 21)) rfl Z.g_Mismatch rfl) pa_nil))) pa_nil))))))))
  (pss_cons (ps_cut (ps_set (i := 1) sc__law_sorts.nd rfl (Or.inl rfl) (pe_op op_cat (pv 1) (pe_lst (pa_cons (pe_callB (id := "isinstance") call_isEr (by rfl) T.b_isinstance (by decide +kernel) (pa_cons (pv 0) (pa_cons (pe_glob (v := V.ref (cs 22)) rfl Z.g_UnknownName rfl) pa_nil))) (pa_cons (pe_callB (id := "isinstance") call_isEr (by rfl) T.b_isinstance (by decide +kernel) (pa_cons (pv 0) (pa_cons (pe_glob (v := V.ref (cs 23)) rfl Z.g_Taken rfl) pa_nil))) (pa_cons (pe_callB (id := "isinstance") call_isEr (by rfl) T.b_isinstance (by decide +kernel) (pa_cons (pv 0) (pa_cons (pe_glob (v := V.ref (cs 24)) rfl Z.g_NoSize rfl) pa_nil))) (pa_cons (pe_callB (id := "isinstance") call_isEr (by rfl) T.b_isinstance (by decide +kernel) (pa_cons (pv 0) (pa_cons (pe_glob (v := V.ref (cs 25)) rfl Z.g_NoMatrix rfl) pa_nil))) pa_nil))))))))
  (pss_cons (ps_cut (ps_set (i := 1) sc__law_sorts.nd rfl (Or.inl rfl) (pe_op op_cat (pv 1) (pe_lst (pa_cons (pe_callB (id := "isinstance") call_isEr (by rfl) T.b_isinstance (by decide +kernel) (pa_cons (pv 0) (pa_cons (pe_glob (v := V.ref (cs 26)) rfl Z.g_InUse rfl) pa_nil))) (pa_cons (pe_callB (id := "isinstance") call_isEr (by rfl) T.b_isinstance (by decide +kernel) (pa_cons (pv 0) (pa_cons (pe_glob (v := V.ref (cs 27)) rfl Z.g_Circular rfl) pa_nil))) (pa_cons (pe_callB (id := "isinstance") call_isEr (by rfl) T.b_isinstance (by decide +kernel) (pa_cons (pv 0) (pa_cons (pe_glob (v := V.ref (cs 28)) rfl Z.g_NothingToUndo rfl) pa_nil))) pa_nil)))))))
  (pss_cons (ps_cut (ps_set (i := 1) sc__law_sorts.nd rfl (Or.inl rfl) (pe_op op_cat (pv 1) (pe_lst (pa_cons (pe_callB (id := "isinstance") call_isEr (by rfl) T.b_isinstance (by decide +kernel) (pa_cons (pv 0) (pa_cons (pe_glob (v := V.ref (cs 29)) rfl Z.g_Unanchored rfl) pa_nil))) (pa_cons (pe_callB (id := "isinstance") call_isEr (by rfl) T.b_isinstance (by decide +kernel) (pa_cons (pv 0) (pa_cons (pe_glob (v := V.ref (cs 30)) rfl Z.g_Singular rfl) pa_nil))) (pa_cons (pe_callB (id := "isinstance") call_isEr (by rfl) T.b_isinstance (by decide +kernel) (pa_cons (pv 0) (pa_cons (pe_glob (v := V.ref (cs 31)) rfl Z.g_NoValue rfl) pa_nil))) pa_nil)))))))
  (pss_cons (ps_cut (ps_set (i := 1) sc__law_sorts.nd rfl (Or.inl rfl) (pe_op op_cat (pv 1) (pe_lst (pa_cons (pe_callB (id := "isinstance") call_isEr (by rfl) T.b_isinstance (by decide +kernel) (pa_cons (pv 0) (pa_cons (pe_glob (v := V.ref (cs 32)) rfl Z.g_TooLarge rfl) pa_nil))) (pa_cons (pe_callB (id := "isinstance") call_isEr (by rfl) T.b_isinstance (by decide +kernel) (pa_cons (pv 0) (pa_cons (pe_glob (v := V.ref (cs 33)) rfl Z.g_TooRich rfl) pa_nil))) (pa_cons (pe_callB (id := "isinstance") call_isEr (by rfl) T.b_isinstance (by decide +kernel) (pa_cons (pv 0) (pa_cons (pe_glob (v := V.ref (cs 34)) rfl Z.g_NotSolvable rfl) pa_nil))) (pa_cons (pe_callB (id := "isinstance") call_isEr (by rfl) T.b_isinstance (by decide +kernel) (pa_cons (pv 0) (pa_cons (pe_glob (v := V.ref (cs 35)) rfl Z.g_Broken rfl) pa_nil))) pa_nil))))))))
  (pss_cons (ps_cut (ps_set (i := 2) sc__law_sorts.nd rfl (Or.inl rfl) (pe_lst (pa_cons (pe_callB (id := "isinstance") call_isEr (by rfl) T.b_isinstance (by decide +kernel) (pa_cons (pv 0) (pa_cons (pe_glob (v := V.ref (cs 36)) rfl Z.g_InputError rfl) pa_nil))) (pa_cons (pe_callB (id := "isinstance") call_isEr (by rfl) T.b_isinstance (by decide +kernel) (pa_cons (pv 0) (pa_cons (pe_glob (v := V.ref (cs 37)) rfl Z.g_MeetError rfl) pa_nil))) (pa_cons (pe_callB (id := "isinstance") call_isEr (by rfl) T.b_isinstance (by decide +kernel) (pa_cons (pv 0) (pa_cons (pe_glob (v := V.ref (cs 38)) rfl Z.g_AnswerError rfl) pa_nil))) pa_nil))))))
  (pss_one (ps_ret (pe_lst (pa_cons (pv 1) (pa_cons (pv 2) (pa_cons (pe_lst (pa_cons (pe_callB (id := "isinstance") call_isEr (by rfl) T.b_isinstance (by decide +kernel) (pa_cons (pv 0) (pa_cons (pe_bltn (v := V.ty "ValueError") (u := Value.type "ValueError") (by rfl) Z.b_ValueError (by decide +kernel) rfl) pa_nil))) (pa_cons (pe_callB (id := "isinstance") call_isEr (by rfl) T.b_isinstance (by decide +kernel) (pa_cons (pv 0) (pa_cons (pe_bltn (v := V.ty "LookupError") (u := Value.type "LookupError") (by rfl) Z.b_LookupError (by decide +kernel) rfl) pa_nil))) (pa_cons (pe_callB (id := "isinstance") call_isEr (by rfl) T.b_isinstance (by decide +kernel) (pa_cons (pv 0) (pa_cons (pe_bltn (v := V.ty "ArithmeticError") (u := Value.type "ArithmeticError") (by rfl) Z.b_ArithmeticError (by decide +kernel) rfl) pa_nil))) pa_nil)))) pa_nil))))))))))))))))))), ?_⟩
    refine ⟨fun σ' H' => ∃ D, σ' = [some (.ref a), some (.ref D), none] ∧ Same H H' ∧ H' D = some (.lst (fl 3 at_)), ?_, ?_⟩
    · have ea := ea0
      exact ⟨_, rfl, a, C, fs, _, _, _, rfl, T, ea, (fun u h => h), S.e1 0 (by decide), ⟨_, rfl, a, C, fs, _, _, _, rfl, T, ea, (fun u h => h), S.e1 1 (by decide), ⟨_, rfl, a, C, fs, _, _, _, rfl, T, ea, (fun u h => h), S.e1 2 (by decide), (by show 3 ≤ sizeLine; decide), fun p hp => ⟨p, rfl, MG.Same.new (Same.refl H) hp, upd_same⟩⟩⟩⟩
    rintro σ' H1 ⟨D, rfl, s1, hD⟩
    refine ⟨fun σ' H' => ∃ D, σ' = [some (.ref a), some (.ref D), none] ∧ Same H H' ∧ H' D = some (.lst (fl 6 at_)), ?_, ?_⟩
    · have ea := ea0.same s1
      exact ⟨_, rfl, ⟨_, rfl, a, C, fs, _, _, _, rfl, T, ea, (fun u h => h), S.e1 3 (by decide), ⟨_, rfl, a, C, fs, _, _, _, rfl, T, ea, (fun u h => h), S.e1 4 (by decide), ⟨_, rfl, a, C, fs, _, _, _, rfl, T, ea, (fun u h => h), S.e1 5 (by decide), (by show 3 ≤ sizeLine; decide), fun q hq => ⟨D, q, fl 3 at_, _, rfl, rfl, (by rw [upd_ne (ne_of_none hD hq)]; exact hD), upd_same, (by show 6 ≤ sizeLine; decide), fun p hp => ⟨p, rfl, MG.Same.new (MG.Same.new s1 hq) hp, upd_same⟩⟩⟩⟩⟩⟩
    clear s1 hD D H1
    rintro σ' H1 ⟨D, rfl, s1, hD⟩
    refine ⟨fun σ' H' => ∃ D, σ' = [some (.ref a), some (.ref D), none] ∧ Same H H' ∧ H' D = some (.lst (fl 9 at_)), ?_, ?_⟩
    · have ea := ea0.same s1
      exact ⟨_, rfl, ⟨_, rfl, a, C, fs, _, _, _, rfl, T, ea, (fun u h => h), S.e1 6 (by decide), ⟨_, rfl, a, C, fs, _, _, _, rfl, T, ea, (fun u h => h), S.e1 7 (by decide), ⟨_, rfl, a, C, fs, _, _, _, rfl, T, ea, (fun u h => h), S.e1 8 (by decide), (by show 3 ≤ sizeLine; decide), fun q hq => ⟨D, q, fl 6 at_, _, rfl, rfl, (by rw [upd_ne (ne_of_none hD hq)]; exact hD), upd_same, (by show 9 ≤ sizeLine; decide), fun p hp => ⟨p, rfl, MG.Same.new (MG.Same.new s1 hq) hp, upd_same⟩⟩⟩⟩⟩⟩
    clear s1 hD D H1
    rintro σ' H1 ⟨D, rfl, s1, hD⟩
    refine ⟨fun σ' H' => ∃ D, σ' = [some (.ref a), some (.ref D), none] ∧ Same H H' ∧ H' D = some (.lst (fl 12 at_)), ?_, ?_⟩
    · have ea := ea0.same s1
      exact ⟨_, rfl, ⟨_, rfl, a, C, fs, _, _, _, rfl, T, ea, (fun u h => h), S.e1 9 (by decide), ⟨_, rfl, a, C, fs, _, _, _, rfl, T, ea, (fun u h => h), S.e1 10 (by decide), ⟨_, rfl, a, C, fs, _, _, _, rfl, T, ea, (fun u h => h), S.e1 11 (by decide), (by show 3 ≤ sizeLine; decide), fun q hq => ⟨D, q, fl 9 at_, _, rfl, rfl, (by rw [upd_ne (ne_of_none hD hq)]; exact hD), upd_same, (by show 12 ≤ sizeLine; decide), fun p hp => ⟨p, rfl, MG.Same.new (MG.Same.new s1 hq) hp, upd_same⟩⟩⟩⟩⟩⟩
    clear s1 hD D H1
    rintro σ' H1 ⟨D, rfl, s1, hD⟩
    refine ⟨fun σ' H' => ∃ D, σ' = [some (.ref a), some (.ref D), none] ∧ Same H H' ∧ H' D = some (.lst (fl 15 at_)), ?_, ?_⟩
    · have ea := ea0.same s1
      exact ⟨_, rfl, ⟨_, rfl, a, C, fs, _, _, _, rfl, T, ea, (fun u h => h), S.e1 12 (by decide), ⟨_, rfl, a, C, fs, _, _, _, rfl, T, ea, (fun u h => h), S.e1 13 (by decide), ⟨_, rfl, a, C, fs, _, _, _, rfl, T, ea, (fun u h => h), S.e1 14 (by decide), (by show 3 ≤ sizeLine; decide), fun q hq => ⟨D, q, fl 12 at_, _, rfl, rfl, (by rw [upd_ne (ne_of_none hD hq)]; exact hD), upd_same, (by show 15 ≤ sizeLine; decide), fun p hp => ⟨p, rfl, MG.Same.new (MG.Same.new s1 hq) hp, upd_same⟩⟩⟩⟩⟩⟩
    clear s1 hD D H1
    rintro σ' H1 ⟨D, rfl, s1, hD⟩
    refine ⟨fun σ' H' => ∃ D, σ' = [some (.ref a), some (.ref D), none] ∧ Same H H' ∧ H' D = some (.lst (fl 18 at_)), ?_, ?_⟩
    · have ea := ea0.same s1
      exact ⟨_, rfl, ⟨_, rfl, a, C, fs, _, _, _, rfl, T, ea, (fun u h => h), S.e1 15 (by decide), ⟨_, rfl, a, C, fs, _, _, _, rfl, T, ea, (fun u h => h), S.e1 16 (by decide), ⟨_, rfl, a, C, fs, _, _, _, rfl, T, ea, (fun u h => h), S.e1 17 (by decide), (by show 3 ≤ sizeLine; decide), fun q hq => ⟨D, q, fl 15 at_, _, rfl, rfl, (by rw [upd_ne (ne_of_none hD hq)]; exact hD), upd_same, (by show 18 ≤ sizeLine; decide), fun p hp => ⟨p, rfl, MG.Same.new (MG.Same.new s1 hq) hp, upd_same⟩⟩⟩⟩⟩⟩
    clear s1 hD D H1
    rintro σ' H1 ⟨D, rfl, s1, hD⟩
    refine ⟨fun σ' H' => ∃ D, σ' = [some (.ref a), some (.ref D), none] ∧ Same H H' ∧ H' D = some (.lst (fl 22 at_)), ?_, ?_⟩
    · have ea := ea0.same s1
      exact ⟨_, rfl, ⟨_, rfl, a, C, fs, _, _, _, rfl, T, ea, (fun u h => h), S.e1 18 (by decide), ⟨_, rfl, a, C, fs, _, _, _, rfl, T, ea, (fun u h => h), S.e1 19 (by decide), ⟨_, rfl, a, C, fs, _, _, _, rfl, T, ea, (fun u h => h), S.e1 20 (by decide), ⟨_, rfl, a, C, fs, _, _, _, rfl, T, ea, (fun u h => h), S.e1 21 (by decide), (by show 4 ≤ sizeLine; decide), fun q hq => ⟨D, q, fl 18 at_, _, rfl, rfl, (by rw [upd_ne (ne_of_none hD hq)]; exact hD), upd_same, (by show 22 ≤ sizeLine; decide), fun p hp => ⟨p, rfl, MG.Same.new (MG.Same.new s1 hq) hp, upd_same⟩⟩⟩⟩⟩⟩⟩
    clear s1 hD D H1
    rintro σ' H1 ⟨D, rfl, s1, hD⟩
    refine ⟨fun σ' H' => ∃ D, σ' = [some (.ref a), some (.ref D), none] ∧ Same H H' ∧ H' D = some (.lst (fl 26 at_)), ?_, ?_⟩
    · have ea := ea0.same s1
      exact ⟨_, rfl, ⟨_, rfl, a, C, fs, _, _, _, rfl, T, ea, (fun u h => h), S.e1 22 (by decide), ⟨_, rfl, a, C, fs, _, _, _, rfl, T, ea, (fun u h => h), S.e1 23 (by decide), ⟨_, rfl, a, C, fs, _, _, _, rfl, T, ea, (fun u h => h), S.e1 24 (by decide), ⟨_, rfl, a, C, fs, _, _, _, rfl, T, ea, (fun u h => h), S.e1 25 (by decide), (by show 4 ≤ sizeLine; decide), fun q hq => ⟨D, q, fl 22 at_, _, rfl, rfl, (by rw [upd_ne (ne_of_none hD hq)]; exact hD), upd_same, (by show 26 ≤ sizeLine; decide), fun p hp => ⟨p, rfl, MG.Same.new (MG.Same.new s1 hq) hp, upd_same⟩⟩⟩⟩⟩⟩⟩
    clear s1 hD D H1
    rintro σ' H1 ⟨D, rfl, s1, hD⟩
    refine ⟨fun σ' H' => ∃ D, σ' = [some (.ref a), some (.ref D), none] ∧ Same H H' ∧ H' D = some (.lst (fl 29 at_)), ?_, ?_⟩
    · have ea := ea0.same s1
      exact ⟨_, rfl, ⟨_, rfl, a, C, fs, _, _, _, rfl, T, ea, (fun u h => h), S.e1 26 (by decide), ⟨_, rfl, a, C, fs, _, _, _, rfl, T, ea, (fun u h => h), S.e1 27 (by decide), ⟨_, rfl, a, C, fs, _, _, _, rfl, T, ea, (fun u h => h), S.e1 28 (by decide), (by show 3 ≤ sizeLine; decide), fun q hq => ⟨D, q, fl 26 at_, _, rfl, rfl, (by rw [upd_ne (ne_of_none hD hq)]; exact hD), upd_same, (by show 29 ≤ sizeLine; decide), fun p hp => ⟨p, rfl, MG.Same.new (MG.Same.new s1 hq) hp, upd_same⟩⟩⟩⟩⟩⟩
    clear s1 hD D H1
    rintro σ' H1 ⟨D, rfl, s1, hD⟩
    refine ⟨fun σ' H' => ∃ D, σ' = [some (.ref a), some (.ref D), none] ∧ Same H H' ∧ H' D = some (.lst (fl 32 at_)), ?_, ?_⟩
    · have ea := ea0.same s1
      exact ⟨_, rfl, ⟨_, rfl, a, C, fs, _, _, _, rfl, T, ea, (fun u h => h), S.e1 29 (by decide), ⟨_, rfl, a, C, fs, _, _, _, rfl, T, ea, (fun u h => h), S.e1 30 (by decide), ⟨_, rfl, a, C, fs, _, _, _, rfl, T, ea, (fun u h => h), S.e1 31 (by decide), (by show 3 ≤ sizeLine; decide), fun q hq => ⟨D, q, fl 29 at_, _, rfl, rfl, (by rw [upd_ne (ne_of_none hD hq)]; exact hD), upd_same, (by show 32 ≤ sizeLine; decide), fun p hp => ⟨p, rfl, MG.Same.new (MG.Same.new s1 hq) hp, upd_same⟩⟩⟩⟩⟩⟩
    clear s1 hD D H1
    rintro σ' H1 ⟨D, rfl, s1, hD⟩
    refine ⟨fun σ' H' => ∃ D, σ' = [some (.ref a), some (.ref D), none] ∧ Same H H' ∧ H' D = some (.lst (fl 36 at_)), ?_, ?_⟩
    · have ea := ea0.same s1
      exact ⟨_, rfl, ⟨_, rfl, a, C, fs, _, _, _, rfl, T, ea, (fun u h => h), S.e1 32 (by decide), ⟨_, rfl, a, C, fs, _, _, _, rfl, T, ea, (fun u h => h), S.e1 33 (by decide), ⟨_, rfl, a, C, fs, _, _, _, rfl, T, ea, (fun u h => h), S.e1 34 (by decide), ⟨_, rfl, a, C, fs, _, _, _, rfl, T, ea, (fun u h => h), S.e1 35 (by decide), (by show 4 ≤ sizeLine; decide), fun q hq => ⟨D, q, fl 32 at_, _, rfl, rfl, (by rw [upd_ne (ne_of_none hD hq)]; exact hD), upd_same, (by show 36 ≤ sizeLine; decide), fun p hp => ⟨p, rfl, MG.Same.new (MG.Same.new s1 hq) hp, upd_same⟩⟩⟩⟩⟩⟩⟩
    clear s1 hD D H1
    rintro σ' H1 ⟨D, rfl, s1, hD⟩
    refine ⟨fun σ' H' => ∃ D2, σ' = [some (.ref a), some (.ref D), some (.ref D2)] ∧ Same H1 H' ∧ H' D2 = some (.lst (fl 3 (bas at_))), ?_, ?_⟩
    · have ea := ea0.same s1
      exact ⟨_, rfl, a, C, fs, _, _, _, rfl, T, ea, (fun u h => h), S.e2 0 (by decide), ⟨_, rfl, a, C, fs, _, _, _, rfl, T, ea, (fun u h => h), S.e2 1 (by decide), ⟨_, rfl, a, C, fs, _, _, _, rfl, T, ea, (fun u h => h), S.e2 2 (by decide), (by show 3 ≤ sizeLine; decide), fun p hp => ⟨p, rfl, MG.Same.new (Same.refl H1) hp, upd_same⟩⟩⟩⟩
    rintro σ' H2 ⟨D2, rfl, s2, hD2⟩
    have ea := (ea0.same s1).same s2
    refine ⟨_, rfl, _, rfl, ⟨_, rfl, a, C, fs, _, _, _, rfl, T, ea, (fun u h => h), S.v 0 (by decide), ⟨_, rfl, a, C, fs, _, _, _, rfl, T, ea, (fun u h => h), S.v 1 (by decide), ⟨_, rfl, a, C, fs, _, _, _, rfl, T, ea, (fun u h => h), S.v 2 (by decide), (by show 3 ≤ sizeLine; decide), fun p hp => ⟨(by show 3 ≤ sizeLine; decide), fun q hq => k q D D2 p _ (MG.Same.new (MG.Same.new (s1.trans s2) hp) hq) upd_same ?_ ?_ ?_⟩⟩⟩⟩⟩
    · have e := s2 _ _ hD
      rw [upd_ne (ne_of_none (by rw [upd_ne (ne_of_none e hp)]; exact e) hq), upd_ne (ne_of_none e hp)]
      exact e
    · rw [upd_ne (ne_of_none (by rw [upd_ne (ne_of_none hD2 hp)]; exact hD2) hq), upd_ne (ne_of_none hD2 hp)]
      exact hD2
    · have e : upd H2 p (.lst (fl 3 (bas at_))) p = some (.lst (fl 3 (bas at_))) := upd_same
      rw [upd_ne (ne_of_none e hq)]
      exact e
abbrev SortsC (P : Program) (w : World) (K : PySem.W.Frag) (mg : Str → Option Value) (base : Heap) (cs : Nat → Addr) : Prop := CalG P w K mg base 4 "_law_sorts" (spSorts K cs) []
end
end Lw

namespace Lw
open PySem PySem.Spec PyProof.Rows L2 MG
abbrev s__law_given_places : Stmt := top 62
abbrev s__law_given_words : Stmt := top 63
/-- all the classes, as they are called -/
structure ErrM (P : Program) (w : World) (K : PySem.W.Frag) (mg : Str → Option Value) (base : Heap) (cs : Nat → Addr) : Prop where
  e_InvalidNumber : MkE P w K mg base 2 "InvalidNumber" (cs 0) ["given"]
  e_InvalidEntries : MkE P w K mg base 2 "InvalidEntries" (cs 1) ["given"]
  e_InvalidSize : MkE P w K mg base 2 "InvalidSize" (cs 2) ["given"]
  e_InvalidName : MkE P w K mg base 2 "InvalidName" (cs 3) ["given"]
  e_InvalidSide : MkE P w K mg base 2 "InvalidSide" (cs 4) ["given"]
  e_InvalidSymmetry : MkE P w K mg base 2 "InvalidSymmetry" (cs 5) ["given"]
  e_InvalidAbout : MkE P w K mg base 2 "InvalidAbout" (cs 6) ["given"]
  e_InvalidExponent : MkE P w K mg base 2 "InvalidExponent" (cs 7) ["given"]
  e_InvalidIndex : MkE P w K mg base 2 "InvalidIndex" (cs 8) ["given"]
  e_InvalidTable : MkE P w K mg base 2 "InvalidTable" (cs 9) ["given"]
  e_InvalidWord : MkE P w K mg base 2 "InvalidWord" (cs 10) ["given"]
  e_InvalidMapping : MkE P w K mg base 2 "InvalidMapping" (cs 11) ["given"]
  e_InvalidLetters : MkE P w K mg base 2 "InvalidLetters" (cs 12) ["given"]
  e_InvalidText : MkE P w K mg base 2 "InvalidText" (cs 13) ["given"]
  e_InvalidDeed : MkE P w K mg base 2 "InvalidDeed" (cs 14) ["given"]
  e_InvalidLine : MkE P w K mg base 2 "InvalidLine" (cs 15) ["given"]
  e_NotAMatrix : MkE P w K mg base 2 "NotAMatrix" (cs 16) ["given"]
  e_NotAFormula : MkE P w K mg base 2 "NotAFormula" (cs 17) ["given"]
  e_NotARatio : MkE P w K mg base 2 "NotARatio" (cs 18) ["given"]
  e_TextError : MkE P w K mg base 2 "TextError" (cs 19) ["place"]
  e_Clash : MkE P w K mg base 2 "Clash" (cs 20) ["given"]
  e_Mismatch : MkE P w K mg base 2 "Mismatch" (cs 21) ["first", "second"]
  e_UnknownName : MkE P w K mg base 2 "UnknownName" (cs 22) ["given"]
  e_Taken : MkE P w K mg base 2 "Taken" (cs 23) ["given"]
  e_NoSize : MkE P w K mg base 2 "NoSize" (cs 24) ["given"]
  e_NoMatrix : MkE P w K mg base 2 "NoMatrix" (cs 25) ["given"]
  e_InUse : MkE P w K mg base 2 "InUse" (cs 26) ["user"]
  e_Circular : MkE P w K mg base 2 "Circular" (cs 27) ["given"]
  e_NothingToUndo : MkN K mg "NothingToUndo" (cs 28)
  e_Unanchored : MkE P w K mg base 2 "Unanchored" (cs 29) ["spelled"]
  e_Singular : MkN K mg "Singular" (cs 30)
  e_NoValue : MkN K mg "NoValue" (cs 31)
  e_TooLarge : MkE P w K mg base 2 "TooLarge" (cs 32) ["limit"]
  e_TooRich : MkE P w K mg base 2 "TooRich" (cs 33) ["limit"]
  e_NotSolvable : MkE P w K mg base 2 "NotSolvable" (cs 34) ["reason", "shown"]
  e_Broken : MkE P w K mg base 2 "Broken" (cs 35) ["claim", "found"]
/-- errors that were given x, one for each number -/
def Ers (cs : Nat → Addr) (x : V) (H : Hp) : List Nat → List Addr → Prop
  | [], [] => True
  | i :: is, a :: as => ErAt (cs i) [("given", x)] H a ∧ Ers cs x H is as
  | _, _ => False
theorem Ers.same {cs : Nat → Addr} {x : V} {H H' : Hp} (s : Same H H') : ∀ {is : List Nat} {as : List Addr}, Ers cs x H is as → Ers cs x H' is as
  | [], [], _ => trivial
  | _ :: _, _ :: _, h => ⟨h.1.same s, Ers.same s h.2⟩
  | [], _ :: _, h => h.elim
  | _ :: _, [], h => h.elim
theorem Ers.app {cs : Nat → Addr} {x : V} {H : Hp} : ∀ {is js : List Nat} {as bs : List Addr}, Ers cs x H is as → Ers cs x H js bs → Ers cs x H (is ++ js) (as ++ bs)
  | [], _, [], _, _, h => h
  | _ :: _, _, _ :: _, _, h1, h2 => ⟨h1.1, Ers.app h1.2 h2⟩
  | [], _, _ :: _, _, h, _ => h.elim
  | _ :: _, _, [], _, h, _ => h.elim
theorem Ers.one {cs : Nat → Addr} {x : V} {H : Hp} {i : Nat} {a : Addr} (h : ErAt (cs i) [("given", x)] H a) : Ers cs x H [i] [a] := ⟨h, trivial⟩
theorem Ers.len {cs : Nat → Addr} {x : V} {H : Hp} : ∀ {is : List Nat} {as : List Addr}, Ers cs x H is as → as.length = is.length
  | [], [], _ => rfl
  | _ :: _, _ :: _, h => by rw [List.length_cons, List.length_cons, Ers.len h.2]
  | [], _ :: _, h => h.elim
  | _ :: _, [], h => h.elim
theorem Ers.at_ {cs : Nat → Addr} {x : V} {H : Hp} : ∀ {is : List Nat} {as : List Addr} {n i : Nat} {a : Addr}, Ers cs x H is as → is[n]? = some i → as[n]? = some a → ErAt (cs i) [("given", x)] H a
  | _ :: _, _ :: _, 0, i, a, h, h1, h2 => by
    obtain rfl := Option.some.inj h1
    obtain rfl := Option.some.inj h2
    exact h.1
  | _ :: _, _ :: _, n + 1, i, a, h, h1, h2 => Ers.at_ h.2 (n := n) h1 h2
  | [], _, n, i, a, h, h1, h2 => by simp at h1
  | _ :: _, [], n, i, a, h, h1, h2 => h.elim
theorem ers_cat {cs : Nat → Addr} {x : V} {H H1 Hn : Hp} {p q : Addr} {as new : List Addr} {is js : List Nat} (s1 : Same H H1) (sn : Same H1 Hn) (hE : Ers cs x H1 is as) (hN : Ers cs x Hn js new) (hq : Hn q = none)
    (hp : upd Hn q (.lst (new.map V.ref)) p = none) :
    Same H (upd (upd Hn q (.lst (new.map V.ref))) p (.lst (as.map V.ref ++ new.map V.ref))) ∧ upd (upd Hn q (.lst (new.map V.ref))) p (.lst (as.map V.ref ++ new.map V.ref)) p = some (.lst ((as ++ new).map V.ref)) ∧
      Ers cs x (upd (upd Hn q (.lst (new.map V.ref))) p (.lst (as.map V.ref ++ new.map V.ref))) (is ++ js) (as ++ new) := by
  have t : Same Hn (upd (upd Hn q (.lst (new.map V.ref))) p (.lst (as.map V.ref ++ new.map V.ref))) := MG.Same.new (MG.Same.new (Same.refl Hn) hq) hp
  refine ⟨(s1.trans sn).trans t, ?_, ((hE.same sn).same t).app (hN.same t)⟩
  rw [upd_same, List.map_append]
section
variable {P : Program} {w : World} {K : PySem.W.Frag} {mg : Str → Option Value} {base : Heap} {cs : Nat → Addr}
def ordL : List Nat := [0, 1, 2, 3, 4, 5, 6, 7, 8, 9, 10, 11, 12, 13, 14, 15, 16, 17, 18, 20, 22, 23, 24, 25, 27]
def spGiven (cs : Nat → Addr) : Sp := fun vs H Q _ => ∃ x, vs = [x] ∧ ∀ (D : Addr) (as : List Addr) (H' : Hp), Same H H' → H' D = some (.lst (as.map V.ref)) → Ers cs x H' ordL as → Q (.ref D) H'
theorem sc__law_given_places : FnScope ["_law_one", "_law_many"] ["_law_one"] (defScope s__law_given_places) := ⟨rfl, rfl, rfl, by decide +kernel, rfl, by decide +kernel, by decide +kernel⟩
theorem ok_places {f : Addr} {fd : FuncData} (F : Fun K "_law_given_places" "_law_given_places" s__law_given_places f fd) (M : ErrM P w K mg base cs) : FnG P w K mg base CX0 4 f fd ["_law_one"] (spGiven cs) := by
  refine fun_okG F sc__law_given_places (fun vs H Q E h => ?_) (fun cdv A outer s H vs Q E bare hr h => ?_)
  · obtain ⟨x, rfl, _⟩ := h
    rfl
  · obtain ⟨x, rfl, k⟩ := h
    refine ⟨_, (pss_cons (ps_cut (ps_set (i := 1) sc__law_given_places.nd rfl (Or.inl rfl) (pe_lst (pa_cons (pe_mkE M.e_InvalidNumber hr (by decide) rfl (pa_cons (pv 0) pa_nil)) (pa_cons (pe_mkE M.e_InvalidEntries hr (by decide) rfl (pa_cons (pv 0) pa_nil)) (pa_cons (pe_mkE M.e_InvalidSize hr (by decide) rfl (pa_cons (pv 0) pa_nil)) (pa_cons (pe_mkE M.e_InvalidName hr (by decide) rfl (pa_cons (pv 0) pa_nil)) (pa_cons (pe_mkE M.e_InvalidSide hr (by decide) rfl (pa_cons (pv 0) pa_nil)) pa_nil))))))))
  (pss_cons (ps_cut (ps_set (i := 1) sc__law_given_places.nd rfl (Or.inl rfl) (pe_op op_cat (pv 1) (pe_lst (pa_cons (pe_mkE M.e_InvalidSymmetry hr (by decide) rfl (pa_cons (pv 0) pa_nil)) (pa_cons (pe_mkE M.e_InvalidAbout hr (by decide) rfl (pa_cons (pv 0) pa_nil)) (pa_cons (pe_mkE M.e_InvalidExponent hr (by decide) rfl (pa_cons (pv 0) pa_nil)) (pa_cons (pe_mkE M.e_InvalidIndex hr (by decide) rfl (pa_cons (pv 0) pa_nil)) pa_nil))))))))
  (pss_cons (ps_cut (ps_set (i := 1) sc__law_given_places.nd rfl (Or.inl rfl) (pe_op op_cat (pv 1) (pe_lst (pa_cons (pe_mkE M.e_InvalidTable hr (by decide) rfl (pa_cons (pv 0) pa_nil)) (pa_cons (pe_mkE M.e_InvalidWord hr (by decide) rfl (pa_cons (pv 0) pa_nil)) (pa_cons (pe_mkE M.e_InvalidMapping hr (by decide) rfl (pa_cons (pv 0) pa_nil)) (pa_cons (pe_mkE M.e_InvalidLetters hr (by decide) rfl (pa_cons (pv 0) pa_nil)) (pa_cons (pe_mkE M.e_InvalidText hr (by decide) rfl (pa_cons (pv 0) pa_nil)) pa_nil)))))))))
  (pss_cons (ps_cut (ps_set (i := 1) sc__law_given_places.nd rfl (Or.inl rfl) (pe_op op_cat (pv 1) (pe_lst (pa_cons (pe_mkE M.e_InvalidDeed hr (by decide) rfl (pa_cons (pv 0) pa_nil)) (pa_cons (pe_mkE M.e_InvalidLine hr (by decide) rfl (pa_cons (pv 0) pa_nil)) (pa_cons (pe_mkE M.e_NotAMatrix hr (by decide) rfl (pa_cons (pv 0) pa_nil)) (pa_cons (pe_mkE M.e_NotAFormula hr (by decide) rfl (pa_cons (pv 0) pa_nil)) (pa_cons (pe_mkE M.e_NotARatio hr (by decide) rfl (pa_cons (pv 0) pa_nil)) pa_nil)))))))))
  (pss_one (ps_ret (pe_op op_cat (pv 1) (pe_lst (pa_cons (pe_mkE M.e_Clash hr (by decide) rfl (pa_cons (pv 0) pa_nil)) (pa_cons (pe_mkE M.e_UnknownName hr (by decide) rfl (pa_cons (pv 0) pa_nil)) (pa_cons (pe_mkE M.e_Taken hr (by decide) rfl (pa_cons (pv 0) pa_nil)) (pa_cons (pe_mkE M.e_NoSize hr (by decide) rfl (pa_cons (pv 0) pa_nil)) (pa_cons (pe_mkE M.e_NoMatrix hr (by decide) rfl (pa_cons (pv 0) pa_nil)) (pa_cons (pe_mkE M.e_Circular hr (by decide) rfl (pa_cons (pv 0) pa_nil)) pa_nil)))))))))))))), ?_⟩
    refine ⟨fun σ' H' => ∃ D as, σ' = [some x, some (.ref D)] ∧ Same H H' ∧ H' D = some (.lst (as.map V.ref)) ∧ Ers cs x H' [0, 1, 2, 3, 4] as, ?_, ?_⟩
    · skip
      refine ⟨_, rfl, rfl, fun a0 G0 t0 n0 e0 => ?_⟩
      have N : Ers cs x G0 [0] [a0] := .one e0
      have sn := t0
      refine ⟨_, rfl, rfl, fun a1 G1 t1 n1 e1 => ?_⟩
      replace N : Ers cs x G1 [0, 1] [a0, a1] := (N.same t1).app (.one e1)
      replace sn := sn.trans t1
      refine ⟨_, rfl, rfl, fun a2 G2 t2 n2 e2 => ?_⟩
      replace N : Ers cs x G2 [0, 1, 2] [a0, a1, a2] := (N.same t2).app (.one e2)
      replace sn := sn.trans t2
      refine ⟨_, rfl, rfl, fun a3 G3 t3 n3 e3 => ?_⟩
      replace N : Ers cs x G3 [0, 1, 2, 3] [a0, a1, a2, a3] := (N.same t3).app (.one e3)
      replace sn := sn.trans t3
      refine ⟨_, rfl, rfl, fun a4 G4 t4 n4 e4 => ?_⟩
      replace N : Ers cs x G4 [0, 1, 2, 3, 4] [a0, a1, a2, a3, a4] := (N.same t4).app (.one e4)
      replace sn := sn.trans t4
      exact ⟨by show 5 ≤ sizeLine; decide, fun p hp => ⟨p, [a0, a1, a2, a3, a4], rfl, sn.trans (MG.Same.new (Same.refl _) hp), upd_same, N.same (MG.Same.new (Same.refl _) hp)⟩⟩
    rintro σ' H1 ⟨D, as, rfl, s1, hD, hE⟩
    refine ⟨fun σ' H' => ∃ D as, σ' = [some x, some (.ref D)] ∧ Same H H' ∧ H' D = some (.lst (as.map V.ref)) ∧ Ers cs x H' [0, 1, 2, 3, 4, 5, 6, 7, 8] as, ?_, ?_⟩
    · skip
      refine ⟨_, rfl, _, rfl, rfl, fun a0 G0 t0 n0 e0 => ?_⟩
      have N : Ers cs x G0 [5] [a0] := .one e0
      have sn := t0
      refine ⟨_, rfl, rfl, fun a1 G1 t1 n1 e1 => ?_⟩
      replace N : Ers cs x G1 [5, 6] [a0, a1] := (N.same t1).app (.one e1)
      replace sn := sn.trans t1
      refine ⟨_, rfl, rfl, fun a2 G2 t2 n2 e2 => ?_⟩
      replace N : Ers cs x G2 [5, 6, 7] [a0, a1, a2] := (N.same t2).app (.one e2)
      replace sn := sn.trans t2
      refine ⟨_, rfl, rfl, fun a3 G3 t3 n3 e3 => ?_⟩
      replace N : Ers cs x G3 [5, 6, 7, 8] [a0, a1, a2, a3] := (N.same t3).app (.one e3)
      replace sn := sn.trans t3
      refine ⟨by show 4 ≤ sizeLine; decide, fun q hq => ⟨D, q, as.map V.ref, ([a0, a1, a2, a3] : List Addr).map V.ref, rfl, rfl, ?_, upd_same, ?_, fun p hp => ?_⟩⟩
      · rw [upd_ne (ne_of_none (sn _ _ hD) hq)]
        exact sn _ _ hD
      · rw [List.length_map, List.length_map, hE.len]
        show 5 + 4 ≤ sizeLine
        decide
      obtain ⟨r1, r2, r3⟩ := ers_cat (p := p) s1 sn hE N hq hp
      exact ⟨p, _, rfl, r1, r2, r3⟩
    clear s1 hD hE D as H1
    rintro σ' H1 ⟨D, as, rfl, s1, hD, hE⟩
    refine ⟨fun σ' H' => ∃ D as, σ' = [some x, some (.ref D)] ∧ Same H H' ∧ H' D = some (.lst (as.map V.ref)) ∧ Ers cs x H' [0, 1, 2, 3, 4, 5, 6, 7, 8, 9, 10, 11, 12, 13] as, ?_, ?_⟩
    · skip
      refine ⟨_, rfl, _, rfl, rfl, fun a0 G0 t0 n0 e0 => ?_⟩
      have N : Ers cs x G0 [9] [a0] := .one e0
      have sn := t0
      refine ⟨_, rfl, rfl, fun a1 G1 t1 n1 e1 => ?_⟩
      replace N : Ers cs x G1 [9, 10] [a0, a1] := (N.same t1).app (.one e1)
      replace sn := sn.trans t1
      refine ⟨_, rfl, rfl, fun a2 G2 t2 n2 e2 => ?_⟩
      replace N : Ers cs x G2 [9, 10, 11] [a0, a1, a2] := (N.same t2).app (.one e2)
      replace sn := sn.trans t2
      refine ⟨_, rfl, rfl, fun a3 G3 t3 n3 e3 => ?_⟩
      replace N : Ers cs x G3 [9, 10, 11, 12] [a0, a1, a2, a3] := (N.same t3).app (.one e3)
      replace sn := sn.trans t3
      refine ⟨_, rfl, rfl, fun a4 G4 t4 n4 e4 => ?_⟩
      replace N : Ers cs x G4 [9, 10, 11, 12, 13] [a0, a1, a2, a3, a4] := (N.same t4).app (.one e4)
      replace sn := sn.trans t4
      refine ⟨by show 5 ≤ sizeLine; decide, fun q hq => ⟨D, q, as.map V.ref, ([a0, a1, a2, a3, a4] : List Addr).map V.ref, rfl, rfl, ?_, upd_same, ?_, fun p hp => ?_⟩⟩
      · rw [upd_ne (ne_of_none (sn _ _ hD) hq)]
        exact sn _ _ hD
      · rw [List.length_map, List.length_map, hE.len]
        show 9 + 5 ≤ sizeLine
        decide
      obtain ⟨r1, r2, r3⟩ := ers_cat (p := p) s1 sn hE N hq hp
      exact ⟨p, _, rfl, r1, r2, r3⟩
    clear s1 hD hE D as H1
    rintro σ' H1 ⟨D, as, rfl, s1, hD, hE⟩
    refine ⟨fun σ' H' => ∃ D as, σ' = [some x, some (.ref D)] ∧ Same H H' ∧ H' D = some (.lst (as.map V.ref)) ∧ Ers cs x H' [0, 1, 2, 3, 4, 5, 6, 7, 8, 9, 10, 11, 12, 13, 14, 15, 16, 17, 18] as, ?_, ?_⟩
    · skip
      refine ⟨_, rfl, _, rfl, rfl, fun a0 G0 t0 n0 e0 => ?_⟩
      have N : Ers cs x G0 [14] [a0] := .one e0
      have sn := t0
      refine ⟨_, rfl, rfl, fun a1 G1 t1 n1 e1 => ?_⟩
      replace N : Ers cs x G1 [14, 15] [a0, a1] := (N.same t1).app (.one e1)
      replace sn := sn.trans t1
      refine ⟨_, rfl, rfl, fun a2 G2 t2 n2 e2 => ?_⟩
      replace N : Ers cs x G2 [14, 15, 16] [a0, a1, a2] := (N.same t2).app (.one e2)
      replace sn := sn.trans t2
      refine ⟨_, rfl, rfl, fun a3 G3 t3 n3 e3 => ?_⟩
      replace N : Ers cs x G3 [14, 15, 16, 17] [a0, a1, a2, a3] := (N.same t3).app (.one e3)
      replace sn := sn.trans t3
      refine ⟨_, rfl, rfl, fun a4 G4 t4 n4 e4 => ?_⟩
      replace N : Ers cs x G4 [14, 15, 16, 17, 18] [a0, a1, a2, a3, a4] := (N.same t4).app (.one e4)
      replace sn := sn.trans t4
      refine ⟨by show 5 ≤ sizeLine; decide, fun q hq => ⟨D, q, as.map V.ref, ([a0, a1, a2, a3, a4] : List Addr).map V.ref, rfl, rfl, ?_, upd_same, ?_, fun p hp => ?_⟩⟩
      · rw [upd_ne (ne_of_none (sn _ _ hD) hq)]
        exact sn _ _ hD
      · rw [List.length_map, List.length_map, hE.len]
        show 14 + 5 ≤ sizeLine
        decide
      obtain ⟨r1, r2, r3⟩ := ers_cat (p := p) s1 sn hE N hq hp
      exact ⟨p, _, rfl, r1, r2, r3⟩
    clear s1 hD hE D as H1
    rintro σ' H1 ⟨D, as, rfl, s1, hD, hE⟩
    refine ⟨_, rfl, _, rfl, rfl, fun a0 G0 t0 n0 e0 => ?_⟩
    have N : Ers cs x G0 [20] [a0] := .one e0
    have sn := t0
    refine ⟨_, rfl, rfl, fun a1 G1 t1 n1 e1 => ?_⟩
    replace N : Ers cs x G1 [20, 22] [a0, a1] := (N.same t1).app (.one e1)
    replace sn := sn.trans t1
    refine ⟨_, rfl, rfl, fun a2 G2 t2 n2 e2 => ?_⟩
    replace N : Ers cs x G2 [20, 22, 23] [a0, a1, a2] := (N.same t2).app (.one e2)
    replace sn := sn.trans t2
    refine ⟨_, rfl, rfl, fun a3 G3 t3 n3 e3 => ?_⟩
    replace N : Ers cs x G3 [20, 22, 23, 24] [a0, a1, a2, a3] := (N.same t3).app (.one e3)
    replace sn := sn.trans t3
    refine ⟨_, rfl, rfl, fun a4 G4 t4 n4 e4 => ?_⟩
    replace N : Ers cs x G4 [20, 22, 23, 24, 25] [a0, a1, a2, a3, a4] := (N.same t4).app (.one e4)
    replace sn := sn.trans t4
    refine ⟨_, rfl, rfl, fun a5 G5 t5 n5 e5 => ?_⟩
    replace N : Ers cs x G5 [20, 22, 23, 24, 25, 27] [a0, a1, a2, a3, a4, a5] := (N.same t5).app (.one e5)
    replace sn := sn.trans t5
    refine ⟨by show 6 ≤ sizeLine; decide, fun q hq => ⟨D, q, as.map V.ref, ([a0, a1, a2, a3, a4, a5] : List Addr).map V.ref, rfl, rfl, ?_, upd_same, ?_, fun p hp => ?_⟩⟩
    · rw [upd_ne (ne_of_none (sn _ _ hD) hq)]
      exact sn _ _ hD
    · rw [List.length_map, List.length_map, hE.len]
      show 19 + 6 ≤ sizeLine
      decide
    obtain ⟨r1, r2, r3⟩ := ers_cat (p := p) s1 sn hE N hq hp
    exact k p _ _ r1 r2 r3
theorem sc__law_given_words : FnScope ["_law_one", "_law_many"] ["_law_one"] (defScope s__law_given_words) := ⟨rfl, rfl, rfl, by decide +kernel, rfl, by decide +kernel, by decide +kernel⟩
theorem ok_words {f : Addr} {fd : FuncData} (F : Fun K "_law_given_words" "_law_given_words" s__law_given_words f fd) (M : ErrM P w K mg base cs) : FnG P w K mg base CX0 4 f fd ["_law_one"] (spGiven cs) := by
  refine fun_okG F sc__law_given_words (fun vs H Q E h => ?_) (fun cdv A outer s H vs Q E bare hr h => ?_)
  · obtain ⟨x, rfl, _⟩ := h
    rfl
  · obtain ⟨x, rfl, k⟩ := h
    refine ⟨_, (pss_cons (ps_cut (ps_set (i := 1) sc__law_given_words.nd rfl (Or.inl rfl) (pe_lst (pa_cons (pe_mkEK M.e_InvalidNumber hr (by decide) rfl (pk_cons (pv 0) pk_nil)) (pa_cons (pe_mkEK M.e_InvalidEntries hr (by decide) rfl (pk_cons (pv 0) pk_nil)) (pa_cons (pe_mkEK M.e_InvalidSize hr (by decide) rfl (pk_cons (pv 0) pk_nil)) (pa_cons (pe_mkEK M.e_InvalidName hr (by decide) rfl (pk_cons (pv 0) pk_nil)) pa_nil)))))))
  (pss_cons (ps_cut (ps_set (i := 1) sc__law_given_words.nd rfl (Or.inl rfl) (pe_op op_cat (pv 1) (pe_lst (pa_cons (pe_mkEK M.e_InvalidSide hr (by decide) rfl (pk_cons (pv 0) pk_nil)) (pa_cons (pe_mkEK M.e_InvalidSymmetry hr (by decide) rfl (pk_cons (pv 0) pk_nil)) (pa_cons (pe_mkEK M.e_InvalidAbout hr (by decide) rfl (pk_cons (pv 0) pk_nil)) pa_nil)))))))
  (pss_cons (ps_cut (ps_set (i := 1) sc__law_given_words.nd rfl (Or.inl rfl) (pe_op op_cat (pv 1) (pe_lst (pa_cons (pe_mkEK M.e_InvalidExponent hr (by decide) rfl (pk_cons (pv 0) pk_nil)) (pa_cons (pe_mkEK M.e_InvalidIndex hr (by decide) rfl (pk_cons (pv 0) pk_nil)) (pa_cons (pe_mkEK M.e_InvalidTable hr (by decide) rfl (pk_cons (pv 0) pk_nil)) pa_nil)))))))
  (pss_cons (ps_cut (ps_set (i := 1) sc__law_given_words.nd rfl (Or.inl rfl) (pe_op op_cat (pv 1) (pe_lst (pa_cons (pe_mkEK M.e_InvalidWord hr (by decide) rfl (pk_cons (pv 0) pk_nil)) (pa_cons (pe_mkEK M.e_InvalidMapping hr (by decide) rfl (pk_cons (pv 0) pk_nil)) (pa_cons (pe_mkEK M.e_InvalidLetters hr (by decide) rfl (pk_cons (pv 0) pk_nil)) pa_nil)))))))
  (pss_cons (ps_cut (ps_set (i := 1) sc__law_given_words.nd rfl (Or.inl rfl) (pe_op op_cat (pv 1) (pe_lst (pa_cons (pe_mkEK M.e_InvalidText hr (by decide) rfl (pk_cons (pv 0) pk_nil)) (pa_cons (pe_mkEK M.e_InvalidDeed hr (by decide) rfl (pk_cons (pv 0) pk_nil)) (pa_cons (pe_mkEK M.e_InvalidLine hr (by decide) rfl (pk_cons (pv 0) pk_nil)) (pa_cons (pe_mkEK M.e_NotAMatrix hr (by decide) rfl (pk_cons (pv 0) pk_nil)) pa_nil))))))))
  (pss_cons (ps_cut (ps_set (i := 1) sc__law_given_words.nd rfl (Or.inl rfl) (pe_op op_cat (pv 1) (pe_lst (pa_cons (pe_mkEK M.e_NotAFormula hr (by decide) rfl (pk_cons (pv 0) pk_nil)) (pa_cons (pe_mkEK M.e_NotARatio hr (by decide) rfl (pk_cons (pv 0) pk_nil)) (pa_cons (pe_mkEK M.e_Clash hr (by decide) rfl (pk_cons (pv 0) pk_nil)) (pa_cons (pe_mkEK M.e_UnknownName hr (by decide) rfl (pk_cons (pv 0) pk_nil)) pa_nil))))))))
  (pss_one (ps_ret (pe_op op_cat (pv 1) (pe_lst (pa_cons (pe_mkEK M.e_Taken hr (by decide) rfl (pk_cons (pv 0) pk_nil)) (pa_cons (pe_mkEK M.e_NoSize hr (by decide) rfl (pk_cons (pv 0) pk_nil)) (pa_cons (pe_mkEK M.e_NoMatrix hr (by decide) rfl (pk_cons (pv 0) pk_nil)) (pa_cons (pe_mkEK M.e_Circular hr (by decide) rfl (pk_cons (pv 0) pk_nil)) pa_nil)))))))))))))), ?_⟩
    refine ⟨fun σ' H' => ∃ D as, σ' = [some x, some (.ref D)] ∧ Same H H' ∧ H' D = some (.lst (as.map V.ref)) ∧ Ers cs x H' [0, 1, 2, 3] as, ?_, ?_⟩
    · skip
      refine ⟨_, rfl, rfl, fun a0 G0 t0 n0 e0 => ?_⟩
      have N : Ers cs x G0 [0] [a0] := .one e0
      have sn := t0
      refine ⟨_, rfl, rfl, fun a1 G1 t1 n1 e1 => ?_⟩
      replace N : Ers cs x G1 [0, 1] [a0, a1] := (N.same t1).app (.one e1)
      replace sn := sn.trans t1
      refine ⟨_, rfl, rfl, fun a2 G2 t2 n2 e2 => ?_⟩
      replace N : Ers cs x G2 [0, 1, 2] [a0, a1, a2] := (N.same t2).app (.one e2)
      replace sn := sn.trans t2
      refine ⟨_, rfl, rfl, fun a3 G3 t3 n3 e3 => ?_⟩
      replace N : Ers cs x G3 [0, 1, 2, 3] [a0, a1, a2, a3] := (N.same t3).app (.one e3)
      replace sn := sn.trans t3
      exact ⟨by show 4 ≤ sizeLine; decide, fun p hp => ⟨p, [a0, a1, a2, a3], rfl, sn.trans (MG.Same.new (Same.refl _) hp), upd_same, N.same (MG.Same.new (Same.refl _) hp)⟩⟩
    rintro σ' H1 ⟨D, as, rfl, s1, hD, hE⟩
    refine ⟨fun σ' H' => ∃ D as, σ' = [some x, some (.ref D)] ∧ Same H H' ∧ H' D = some (.lst (as.map V.ref)) ∧ Ers cs x H' [0, 1, 2, 3, 4, 5, 6] as, ?_, ?_⟩
    · skip
      refine ⟨_, rfl, _, rfl, rfl, fun a0 G0 t0 n0 e0 => ?_⟩
      have N : Ers cs x G0 [4] [a0] := .one e0
      have sn := t0
      refine ⟨_, rfl, rfl, fun a1 G1 t1 n1 e1 => ?_⟩
      replace N : Ers cs x G1 [4, 5] [a0, a1] := (N.same t1).app (.one e1)
      replace sn := sn.trans t1
      refine ⟨_, rfl, rfl, fun a2 G2 t2 n2 e2 => ?_⟩
      replace N : Ers cs x G2 [4, 5, 6] [a0, a1, a2] := (N.same t2).app (.one e2)
      replace sn := sn.trans t2
      refine ⟨by show 3 ≤ sizeLine; decide, fun q hq => ⟨D, q, as.map V.ref, ([a0, a1, a2] : List Addr).map V.ref, rfl, rfl, ?_, upd_same, ?_, fun p hp => ?_⟩⟩
      · rw [upd_ne (ne_of_none (sn _ _ hD) hq)]
        exact sn _ _ hD
      · rw [List.length_map, List.length_map, hE.len]
        show 4 + 3 ≤ sizeLine
        decide
      obtain ⟨r1, r2, r3⟩ := ers_cat (p := p) s1 sn hE N hq hp
      exact ⟨p, _, rfl, r1, r2, r3⟩
    clear s1 hD hE D as H1
    rintro σ' H1 ⟨D, as, rfl, s1, hD, hE⟩
    refine ⟨fun σ' H' => ∃ D as, σ' = [some x, some (.ref D)] ∧ Same H H' ∧ H' D = some (.lst (as.map V.ref)) ∧ Ers cs x H' [0, 1, 2, 3, 4, 5, 6, 7, 8, 9] as, ?_, ?_⟩
    · skip
      refine ⟨_, rfl, _, rfl, rfl, fun a0 G0 t0 n0 e0 => ?_⟩
      have N : Ers cs x G0 [7] [a0] := .one e0
      have sn := t0
      refine ⟨_, rfl, rfl, fun a1 G1 t1 n1 e1 => ?_⟩
      replace N : Ers cs x G1 [7, 8] [a0, a1] := (N.same t1).app (.one e1)
      replace sn := sn.trans t1
      refine ⟨_, rfl, rfl, fun a2 G2 t2 n2 e2 => ?_⟩
      replace N : Ers cs x G2 [7, 8, 9] [a0, a1, a2] := (N.same t2).app (.one e2)
      replace sn := sn.trans t2
      refine ⟨by show 3 ≤ sizeLine; decide, fun q hq => ⟨D, q, as.map V.ref, ([a0, a1, a2] : List Addr).map V.ref, rfl, rfl, ?_, upd_same, ?_, fun p hp => ?_⟩⟩
      · rw [upd_ne (ne_of_none (sn _ _ hD) hq)]
        exact sn _ _ hD
      · rw [List.length_map, List.length_map, hE.len]
        show 7 + 3 ≤ sizeLine
        decide
      obtain ⟨r1, r2, r3⟩ := ers_cat (p := p) s1 sn hE N hq hp
      exact ⟨p, _, rfl, r1, r2, r3⟩
    clear s1 hD hE D as H1
    rintro σ' H1 ⟨D, as, rfl, s1, hD, hE⟩
    refine ⟨fun σ' H' => ∃ D as, σ' = [some x, some (.ref D)] ∧ Same H H' ∧ H' D = some (.lst (as.map V.ref)) ∧ Ers cs x H' [0, 1, 2, 3, 4, 5, 6, 7, 8, 9, 10, 11, 12] as, ?_, ?_⟩
    · skip
      refine ⟨_, rfl, _, rfl, rfl, fun a0 G0 t0 n0 e0 => ?_⟩
      have N : Ers cs x G0 [10] [a0] := .one e0
      have sn := t0
      refine ⟨_, rfl, rfl, fun a1 G1 t1 n1 e1 => ?_⟩
      replace N : Ers cs x G1 [10, 11] [a0, a1] := (N.same t1).app (.one e1)
      replace sn := sn.trans t1
      refine ⟨_, rfl, rfl, fun a2 G2 t2 n2 e2 => ?_⟩
      replace N : Ers cs x G2 [10, 11, 12] [a0, a1, a2] := (N.same t2).app (.one e2)
      replace sn := sn.trans t2
      refine ⟨by show 3 ≤ sizeLine; decide, fun q hq => ⟨D, q, as.map V.ref, ([a0, a1, a2] : List Addr).map V.ref, rfl, rfl, ?_, upd_same, ?_, fun p hp => ?_⟩⟩
      · rw [upd_ne (ne_of_none (sn _ _ hD) hq)]
        exact sn _ _ hD
      · rw [List.length_map, List.length_map, hE.len]
        show 10 + 3 ≤ sizeLine
        decide
      obtain ⟨r1, r2, r3⟩ := ers_cat (p := p) s1 sn hE N hq hp
      exact ⟨p, _, rfl, r1, r2, r3⟩
    clear s1 hD hE D as H1
    rintro σ' H1 ⟨D, as, rfl, s1, hD, hE⟩
    refine ⟨fun σ' H' => ∃ D as, σ' = [some x, some (.ref D)] ∧ Same H H' ∧ H' D = some (.lst (as.map V.ref)) ∧ Ers cs x H' [0, 1, 2, 3, 4, 5, 6, 7, 8, 9, 10, 11, 12, 13, 14, 15, 16] as, ?_, ?_⟩
    · skip
      refine ⟨_, rfl, _, rfl, rfl, fun a0 G0 t0 n0 e0 => ?_⟩
      have N : Ers cs x G0 [13] [a0] := .one e0
      have sn := t0
      refine ⟨_, rfl, rfl, fun a1 G1 t1 n1 e1 => ?_⟩
      replace N : Ers cs x G1 [13, 14] [a0, a1] := (N.same t1).app (.one e1)
      replace sn := sn.trans t1
      refine ⟨_, rfl, rfl, fun a2 G2 t2 n2 e2 => ?_⟩
      replace N : Ers cs x G2 [13, 14, 15] [a0, a1, a2] := (N.same t2).app (.one e2)
      replace sn := sn.trans t2
      refine ⟨_, rfl, rfl, fun a3 G3 t3 n3 e3 => ?_⟩
      replace N : Ers cs x G3 [13, 14, 15, 16] [a0, a1, a2, a3] := (N.same t3).app (.one e3)
      replace sn := sn.trans t3
      refine ⟨by show 4 ≤ sizeLine; decide, fun q hq => ⟨D, q, as.map V.ref, ([a0, a1, a2, a3] : List Addr).map V.ref, rfl, rfl, ?_, upd_same, ?_, fun p hp => ?_⟩⟩
      · rw [upd_ne (ne_of_none (sn _ _ hD) hq)]
        exact sn _ _ hD
      · rw [List.length_map, List.length_map, hE.len]
        show 13 + 4 ≤ sizeLine
        decide
      obtain ⟨r1, r2, r3⟩ := ers_cat (p := p) s1 sn hE N hq hp
      exact ⟨p, _, rfl, r1, r2, r3⟩
    clear s1 hD hE D as H1
    rintro σ' H1 ⟨D, as, rfl, s1, hD, hE⟩
    refine ⟨fun σ' H' => ∃ D as, σ' = [some x, some (.ref D)] ∧ Same H H' ∧ H' D = some (.lst (as.map V.ref)) ∧ Ers cs x H' [0, 1, 2, 3, 4, 5, 6, 7, 8, 9, 10, 11, 12, 13, 14, 15, 16, 17, 18, 20, 22] as, ?_, ?_⟩
    · skip
      refine ⟨_, rfl, _, rfl, rfl, fun a0 G0 t0 n0 e0 => ?_⟩
      have N : Ers cs x G0 [17] [a0] := .one e0
      have sn := t0
      refine ⟨_, rfl, rfl, fun a1 G1 t1 n1 e1 => ?_⟩
      replace N : Ers cs x G1 [17, 18] [a0, a1] := (N.same t1).app (.one e1)
      replace sn := sn.trans t1
      refine ⟨_, rfl, rfl, fun a2 G2 t2 n2 e2 => ?_⟩
      replace N : Ers cs x G2 [17, 18, 20] [a0, a1, a2] := (N.same t2).app (.one e2)
      replace sn := sn.trans t2
      refine ⟨_, rfl, rfl, fun a3 G3 t3 n3 e3 => ?_⟩
      replace N : Ers cs x G3 [17, 18, 20, 22] [a0, a1, a2, a3] := (N.same t3).app (.one e3)
      replace sn := sn.trans t3
      refine ⟨by show 4 ≤ sizeLine; decide, fun q hq => ⟨D, q, as.map V.ref, ([a0, a1, a2, a3] : List Addr).map V.ref, rfl, rfl, ?_, upd_same, ?_, fun p hp => ?_⟩⟩
      · rw [upd_ne (ne_of_none (sn _ _ hD) hq)]
        exact sn _ _ hD
      · rw [List.length_map, List.length_map, hE.len]
        show 17 + 4 ≤ sizeLine
        decide
      obtain ⟨r1, r2, r3⟩ := ers_cat (p := p) s1 sn hE N hq hp
      exact ⟨p, _, rfl, r1, r2, r3⟩
    clear s1 hD hE D as H1
    rintro σ' H1 ⟨D, as, rfl, s1, hD, hE⟩
    refine ⟨_, rfl, _, rfl, rfl, fun a0 G0 t0 n0 e0 => ?_⟩
    have N : Ers cs x G0 [23] [a0] := .one e0
    have sn := t0
    refine ⟨_, rfl, rfl, fun a1 G1 t1 n1 e1 => ?_⟩
    replace N : Ers cs x G1 [23, 24] [a0, a1] := (N.same t1).app (.one e1)
    replace sn := sn.trans t1
    refine ⟨_, rfl, rfl, fun a2 G2 t2 n2 e2 => ?_⟩
    replace N : Ers cs x G2 [23, 24, 25] [a0, a1, a2] := (N.same t2).app (.one e2)
    replace sn := sn.trans t2
    refine ⟨_, rfl, rfl, fun a3 G3 t3 n3 e3 => ?_⟩
    replace N : Ers cs x G3 [23, 24, 25, 27] [a0, a1, a2, a3] := (N.same t3).app (.one e3)
    replace sn := sn.trans t3
    refine ⟨by show 4 ≤ sizeLine; decide, fun q hq => ⟨D, q, as.map V.ref, ([a0, a1, a2, a3] : List Addr).map V.ref, rfl, rfl, ?_, upd_same, ?_, fun p hp => ?_⟩⟩
    · rw [upd_ne (ne_of_none (sn _ _ hD) hq)]
      exact sn _ _ hD
    · rw [List.length_map, List.length_map, hE.len]
      show 21 + 4 ≤ sizeLine
      decide
    obtain ⟨r1, r2, r3⟩ := ers_cat (p := p) s1 sn hE N hq hp
    exact k p _ _ r1 r2 r3
abbrev PlacesC (P : Program) (w : World) (K : PySem.W.Frag) (mg : Str → Option Value) (base : Heap) (cs : Nat → Addr) : Prop := CalG P w K mg base 4 "_law_given_places" (spGiven cs) []
abbrev WordsC (P : Program) (w : World) (K : PySem.W.Frag) (mg : Str → Option Value) (base : Heap) (cs : Nat → Addr) : Prop := CalG P w K mg base 4 "_law_given_words" (spGiven cs) []
end
end Lw

namespace Lw
open PySem PySem.Spec PyProof.Rows L2 MG
abbrev s__law_belongs : Stmt := top 64
section
variable {P : Program} {w : World} {K : PySem.W.Frag} {mg : Str → Option Value} {base : Heap} {cs : Nat → Addr}
def spBel (K : PySem.W.Frag) (cs : Nat → Addr) : Sp := fun vs H Q _ => ∃ (a C : Addr) (fs : List (Str × V)) (at_ : Nat), vs = [.ref a, .int at_] ∧ ErC K C ∧ ErAt C fs H a ∧ SortK K cs C at_ ∧ ∀ H', Same H H' → Q (.bl true) H'
theorem dp_bools {H : Hp} {a : Addr} {l : List Bool} (h : H a = some (.lst (l.map V.bl))) : Dp K H (.ref a) (.list (l.map .bool)) := by
  refine .lst (.of h) ?_
  clear h
  induction l with
  | nil => exact .nil
  | cons b l ih => exact .cons (.bl b) ih
theorem lay_bools : ∀ l : List Bool, PyData.canLayAll0 (l.map .bool) = true
  | [] => rfl
  | b :: l => by
    have h := lay_bools l
    simp [PyData.canLayAll0, PyData.canLay0] at h ⊢
    exact h
theorem dep_bools : ∀ l : List Bool, PyData.depthAll (l.map .bool) ≤ 1
  | [] => by simp [PyData.depthAll]
  | b :: l => by
    have h := dep_bools l
    simp [PyData.depthAll, PyData.depth] at h ⊢
    omega
theorem shp_bools (l : List Bool) : SeqAt.shaped (.list (l.map .bool)) = true := by
  unfold SeqAt.shaped
  rw [Bool.and_eq_true]
  refine ⟨lay_bools l, decide_eq_true ?_⟩
  have h := dep_bools l
  show PyData.depthAll (l.map .bool) + 1 ≤ 64
  omega
def bl (n at_ : Nat) : List Bool := (List.range n).map fun j => decide (j = at_)
theorem fl_at {n at_ i : Nat} {y : V} (h : (fl n at_)[i]? = some y) : V.bl (decide ((V.int i : V) = V.int at_)) = y := by
  unfold fl at h
  rw [List.getElem?_map] at h
  cases e : (List.range n)[i]? with
  | none => rw [e] at h; cases h
  | some j =>
    rw [e] at h
    have ej : i = j := by
      obtain ⟨hi, e2⟩ := List.getElem?_eq_some_iff.mp e
      rw [List.getElem_range] at e2
      exact e2
    subst ej
    rw [← Option.some.inj h]
    show _ = V.bl (decide (i = at_))
    by_cases q : i = at_
    · rw [decide_eq_true q, decide_eq_true (by rw [q])]
    · rw [decide_eq_false q, decide_eq_false (p := (V.int (i : Int) : V) = V.int (at_ : Int)) fun z => q (Int.ofNat.inj (V.int.inj z))]
theorem fl_len (n at_ : Nat) : (fl n at_).length = n := by unfold fl; rw [List.length_map, List.length_range]
theorem fl_bl (n at_ : Nat) : fl n at_ = (bl n at_).map V.bl := by
  unfold fl bl
  rw [List.map_map]
  rfl
theorem ne_bools {H : Hp} {a b : Addr} {l : List Bool} {Q : VK} (ha : H a = some (.lst (l.map V.bl))) (hb : H b = some (.lst (l.map V.bl))) (k : Q (.bl false) H) : rNeD K (.ref a) (.ref b) H Q := by
  refine ⟨_, _, dp_bools ha, dp_bools hb, shp_bools l, shp_bools l, ?_⟩
  rw [SeqAt.eqv_refl _ (SeqAt.canLay_of_shaped (shp_bools l))]
  exact k
theorem eq_bools {H : Hp} {a b : Addr} {l : List Bool} {Q : VK} (ha : H a = some (.lst (l.map V.bl))) (hb : H b = some (.lst (l.map V.bl))) (k : Q (.bl true) H) : rEqD K (.ref a) (.ref b) H Q := by
  refine ⟨_, _, dp_bools ha, dp_bools hb, shp_bools l, shp_bools l, ?_⟩
  rw [SeqAt.eqv_refl _ (SeqAt.canLay_of_shaped (shp_bools l))]
  exact k
theorem sc__law_belongs : FnScope ["_law_e", "_law_at", "_law_sorts_here", "_law_base", "_law_k"] ["_law_e", "_law_at"] (defScope s__law_belongs) := ⟨rfl, rfl, rfl, by decide +kernel, rfl, by decide +kernel, by decide +kernel⟩
theorem ok_belongs {f : Addr} {fd : FuncData} (F : Fun K "_law_belongs" "_law_belongs" s__law_belongs f fd) (T : Blt mg) (c_sorts : SortsC P w K mg base cs) : FnG P w K mg base CX0 6 f fd ["_law_e", "_law_at"] (spBel K cs) := by
  refine fun_okG F sc__law_belongs (fun vs H Q E h => ?_) (fun cdv A outer s H vs Q E bare hr h => ?_)
  · obtain ⟨a, C, fs, at_, rfl, _⟩ := h
    rfl
  · obtain ⟨a, C, fs, at_, rfl, TE, ea, S, k⟩ := h
    have hu64 := hr.units
    refine ⟨_, (pss_cons (ps_set (i := 2) sc__law_belongs.nd rfl (Or.inl rfl) (pe_cg c_sorts bare hr (by decide) rfl (pa_cons (pv 0) pa_nil)))
  (pss_cons (ps_set (i := 3) sc__law_belongs.nd rfl (Or.inr rfl) (pe_cut (pe_ifExp (pt_cmpR op_lt (pv 1) pe_int (nomark _)) pe_int (pe_cut (pe_ifExp (pt_cmpR op_lt (pv 1) pe_int (nomark _)) pe_int pe_int)))))
  (pss_cons (ps_if (pt_cmpR (op_neD hu64) (pe_ix (ix_listK (K := K)) (pv 2) pe_int (fun _ _ => rfl)) (pe_mapR (ta := tCons (tC (.int 36)) tNil) (j := 4) (fun σ H Q Q' hq q => hq _ _ q) (pe_lc (own := [("_law_k", 4)]) (g := gName 4) (tt := tYes) rfl sc__law_belongs.nd (pi_range1 (by rfl) T.b_range (pa_cons pe_int pa_nil)) (blkOk_by (N := ["_law_e", "_law_at", "_law_sorts_here", "_law_base", "_law_k"]) (sc := defScope s__law_belongs) (by decide +kernel)) (fun _ _ _ _ _ => (pg_name (i := 4) sc__law_belongs.nd rfl (Or.inl rfl))) (fun _ _ _ _ _ => pts_nil) (fun _ _ _ _ _ => (pe_cut (pe_cmpR op_eq (pv 4) (pv 1) (nomark _)))))) (nomark _)) (pss_one (ps_ret pe_bl))
  pss_nil)
  (pss_one (ps_ret (pe_and (pe_cmpR (op_eqD hu64) (pe_ix (ix_listK (K := K)) (pv 2) pe_int (fun _ _ => rfl)) (pe_mapR (ta := tCons (tC (.int 3)) tNil) (j := 4) (fun σ H Q Q' hq q => hq _ _ q) (pe_lc (own := [("_law_k", 4)]) (g := gName 4) (tt := tYes) rfl sc__law_belongs.nd (pi_range1 (by rfl) T.b_range (pa_cons pe_int pa_nil)) (blkOk_by (N := ["_law_e", "_law_at", "_law_sorts_here", "_law_base", "_law_k"]) (sc := defScope s__law_belongs) (by decide +kernel)) (fun _ _ _ _ _ => (pg_name (i := 4) sc__law_belongs.nd rfl (Or.inl rfl))) (fun _ _ _ _ _ => pts_nil) (fun _ _ _ _ _ => (pe_cut (pe_cmpR op_eq (pv 4) (pv 3) (nomark _)))))) (nomark _)) (pe_one (pe_cmpR (op_eqD hu64) (pe_ix (ix_listK (K := K)) (pv 2) pe_int (fun _ _ => rfl)) (pe_ix (ix_listK (K := K)) (pv 2) pe_int (fun _ _ => rfl)) (nomark _))))))))), ?_⟩
    refine ⟨_, rfl, a, C, fs, at_, rfl, TE, ea, S, fun D D1 D2 D3 H1 s1 eD e1 e2 e3 => ?_⟩
    refine ⟨fun v H' => v = .int (bas at_ : Nat) ∧ H' = H1, ?_, ?_⟩
    · refine ⟨_, rfl, _, _, rfl, rfl, _, rfl, ?_⟩
      refine ite2 (fun z => ?_) (fun z => ?_)
      · have hz : (at_ : Int) < 20 := of_decide_eq_true z
        refine ⟨?_, rfl⟩
        unfold bas
        rw [if_pos (by omega)]
        rfl
      · have hz : ¬ (at_ : Int) < 20 := fun q => z (decide_eq_true q)
        refine ⟨fun v H' => v = .int (bas at_ : Nat) ∧ H' = H1, ?_, fun v H' q => q⟩
        refine ⟨_, rfl, _, _, rfl, rfl, _, rfl, ?_⟩
        refine ite2 (fun y => ?_) (fun y => ?_)
        · have hy : (at_ : Int) < 29 := of_decide_eq_true y
          refine ⟨?_, rfl⟩
          unfold bas
          rw [if_neg (by omega), if_pos (by omega)]
          rfl
        · have hy : ¬ (at_ : Int) < 29 := fun q => y (decide_eq_true q)
          refine ⟨?_, rfl⟩
          unfold bas
          rw [if_neg (by omega), if_neg (by omega)]
          rfl
    rintro v H1' ⟨rfl, rfl⟩
    -- if sorts_here[0] != [k == at for k in range(36)]: return False
    refine ⟨_, rfl, D, _, _, _, rfl, rfl, SqL.of eD, rfl, ?_⟩
    refine ⟨36, fl 36 at_, rfl, by decide, by decide, by rw [fl_len]; rfl, fun i y H' hy _ => ⟨_, rfl, _, rfl, rfl, fl_at hy, Same.refl _⟩, fun Da H2 s2 _ ea2 => ?_⟩
    rw [fl_bl] at ea2 e1 e2 e3
    refine ne_bools (s2 _ _ e1) ea2 ?_
    refine ⟨_, rfl, iteF ?_⟩
    -- sorts_here[1] == .. and sorts_here[2] == sorts_here[1]
    refine ⟨_, rfl, D, _, _, _, rfl, rfl, SqL.of (s2 _ _ eD), rfl, ?_⟩
    refine ⟨3, fl 3 (bas at_), rfl, by decide, by decide, by rw [fl_len]; rfl, fun i y H' hy _ => ⟨_, rfl, _, rfl, rfl, fl_at hy, Same.refl _⟩, fun Db H3 s3 _ eb3 => ?_⟩
    rw [fl_bl] at eb3
    have s4 := s2.trans s3
    refine eq_bools (s4 _ _ e2) eb3 ?_
    refine ⟨_, rfl, ?_⟩
    refine iteT ⟨_, rfl, D, _, _, _, rfl, rfl, SqL.of (s4 _ _ eD), rfl, _, rfl, D, _, _, _, rfl, rfl, SqL.of (s4 _ _ eD), rfl, ?_⟩
    exact eq_bools (s4 _ _ e3) (s4 _ _ e2) (k _ (s1.trans s4))
abbrev BelC (P : Program) (w : World) (K : PySem.W.Frag) (mg : Str → Option Value) (base : Heap) (cs : Nat → Addr) : Prop := CalG P w K mg base 6 "_law_belongs" (spBel K cs) []
end
end Lw

namespace Lw
open PySem PySem.Spec PyProof.Rows L2 MG
abbrev s__law_right : Stmt := top 65
section
variable {P : Program} {w : World} {K : PySem.W.Frag} {mg : Str → Option Value} {base : Heap} {cs : Nat → Addr} {C : Addr}
theorem ifF {b : Bool} {A B : Prop} (e : b = false) (h : B) : if b = true then A else B := by rw [e]; exact iteF h
theorem ifT {b : Bool} {A B : Prop} (e : b = true) (h : A) : if b = true then A else B := by rw [e]; exact iteT h
def spRight : Sp := fun vs H Q _ => ∃ (q : Addr), vs = [.ref q] ∧ QAt H q 0 ∧ ∀ H', Keep q H H' → Q (.bl true) H'
abbrev Odd3C (P : Program) (w : World) (K : PySem.W.Frag) (mg : Str → Option Value) (base : Heap) (C : Addr) : Prop := CalG P w K mg base 9 "_law_odd" (spOdd K C 3) []
theorem Thing.parts {H H' : Hp} {x : V} {t : Str} {o : Option Rat} {n k j : Nat} (h : Thing K C H x t o n k) (s : Same H H') (hn : n ≤ 100000) (hj : k + 3 ≤ j) : ∃ as k', Shw K (ownR C) 2 H' as k' x t ∧ t.length ≤ sizeLine ∧ k' + 3 ≤ j := by
  obtain ⟨⟨as, k', h1, h2, h3⟩, h4, _⟩ := h
  exact ⟨as, k', shw_same h1 s, Nat.le_trans (Nat.le_trans h4 hn) (by decide), by omega⟩
/-- a list of two errors of one class -/
def Prs (C : Addr) (fs : List (Str × V)) (H : Hp) (D : Addr) : Prop := ∃ a b : Addr, H D = some (.lst [.ref a, .ref b]) ∧ ErAt C fs H a ∧ ErAt C fs H b
theorem Prs.same {C D : Addr} {fs : List (Str × V)} {H H' : Hp} (h : Prs C fs H D) (s : Same H H') : Prs C fs H' D := by
  obtain ⟨a, b, e, h1, h2⟩ := h
  exact ⟨a, b, s _ _ e, h1.same s, h2.same s⟩
theorem prs_mk {C a b p : Addr} {fs : List (Str × V)} {H G1 G2 : Hp} (t1 : Same H G1) (e1 : ErAt C fs G1 a) (t2 : Same G1 G2) (e2 : ErAt C fs G2 b) (hp : G2 p = none) :
    Same H (upd G2 p (.lst [.ref a, .ref b])) ∧ Prs C fs (upd G2 p (.lst [.ref a, .ref b])) p := by
  have t3 := MG.Same.new (o := .lst [.ref a, .ref b]) (Same.refl G2) hp
  exact ⟨(t1.trans t2).trans t3, a, b, upd_same, (e1.same t2).same t3, e2.same t3⟩
theorem told_one {j n : Nat} {σ : L2.St} {H : Hp} {Q : VK} {D C' : Addr} {f : Str} {fs : List (Str × V)} {v : V} {t : Str} (P : Prs C' fs H D) (hn : σ[n]? = some (some (.ref D))) (hj : j < σ.length) (T : ErC K C') (no : PySem.W.findIn K (.ref C') f = some none) (hf : fs ≠ []) (hl : fs.lookup f = some v)
    (sh : ∀ {H' : Hp}, Same H H' → ∃ as k', Shw K (ownR C) 2 H' as k' v t ∧ t.length ≤ sizeLine ∧ k' + 3 ≤ 23)
    (k : ∀ (p : Addr) (H' : Hp), Same H H' → H' p = some (.lst ([t, t].map V.str)) → Q (.ref p) H') : tMapL K j (tVar n) (tCB (rShw K (ownR C) 2 23) (tCons (tErG K f (tVar j)) tNil)) σ H Q := by
  obtain ⟨a, b, e, ha, hb⟩ := P
  refine ⟨_, hn, D, [.ref a, .ref b], [.str t, .str t], rfl, SqL.of e, rfl, by show 2 ≤ 100000; decide, fun i z y H' hz hy s => ?_, fun p H' s _ e => k p H' s e⟩
  have hc : ∃ c, z = .ref c ∧ ErAt C' fs H c ∧ y = .str t := by
    match i, hz, hy with
    | 0, hz, hy => exact ⟨a, (Option.some.inj hz).symm, ha, (Option.some.inj hy).symm⟩
    | 1, hz, hy => exact ⟨b, (Option.some.inj hz).symm, hb, (Option.some.inj hy).symm⟩
  obtain ⟨c, rfl, hc, rfl⟩ := hc
  rcases hc with ⟨z, _⟩ | ⟨d, ea, ed⟩
  · exact absurd z hf
  obtain ⟨as, k', shx, ln, hk⟩ := sh s
  exact ⟨_, by simp [hj], c, C', d, fs, v, rfl, T, no, s _ _ ea, s _ _ ed, hl, v, as, k', t, rfl, shx, ln, hk, fun H'' s'' => ⟨rfl, s''⟩⟩
theorem in_lst {te : TE} {ta : TA} {g : TG} {D : Ends} {σ : L2.St} {H : Hp} (h : te σ H fun x H1 => ta σ H1 fun xs H2 => (x :: xs).length ≤ sizeLine ∧ ∀ p, H2 p = none → g (.ref p) σ (upd H2 p (.lst (x :: xs))) D.nx) : tAsg (tLst (tCons te ta)) g D σ H := h
theorem in_lst2 {te : TE} {ta : TA} {Q : VK} {σ : L2.St} {H : Hp} (h : te σ H fun x H1 => ta σ H1 fun xs H2 => (x :: xs).length ≤ sizeLine ∧ ∀ p, H2 p = none → Q (.ref p) (upd H2 p (.lst (x :: xs)))) : tLst (tCons te ta) σ H Q := h
theorem in_cons {te : TE} {ta : TA} {Q : List V → Hp → Prop} {σ : L2.St} {H : Hp} (h : te σ H fun x H1 => ta σ H1 fun xs H2 => Q (x :: xs) H2) : tCons te ta σ H Q := h
/-- a list of lists of twice this text -/
def Tls (t : Str) (H : Hp) (D : Addr) (n : Nat) : Prop := ∃ ps : List Addr, H D = some (.lst (ps.map V.ref)) ∧ ps.length = n ∧ ∀ p ∈ ps, H p = some (.lst ([t, t].map V.str))
theorem Tls.same {t : Str} {H H' : Hp} {D : Addr} {n : Nat} (h : Tls t H D n) (s : Same H H') : Tls t H' D n := by
  obtain ⟨ps, e, hl, hp⟩ := h
  exact ⟨ps, s _ _ e, hl, fun p m => s _ _ (hp p m)⟩
theorem tls_new {t : Str} {H : Hp} {p : Addr} (ps : List Addr) (hp : H p = none) (h : ∀ z ∈ ps, H z = some (.lst ([t, t].map V.str))) : Same H (upd H p (.lst (ps.map V.ref))) ∧ Tls t (upd H p (.lst (ps.map V.ref))) p ps.length := by
  have s : Same H (upd H p (.lst (ps.map V.ref))) := MG.Same.new (Same.refl H) hp
  exact ⟨s, ps, upd_same, rfl, fun z m => s _ _ (h z m)⟩
theorem dp_tls {t : Str} {H : Hp} : ∀ {ps : List Addr}, (∀ p ∈ ps, H p = some (.lst ([t, t].map V.str))) → DpAll K H (ps.map V.ref) (List.replicate ps.length (.list [.str t, .str t]))
  | [], _ => .nil
  | p :: ps, h => .cons (.lst (.of (h p (.head _))) (.cons (.str t) (.cons (.str t) .nil))) (dp_tls fun z m => h z (.tail _ m))
theorem lay_rep {d : PyData} (h : d.canLay0 = true) : ∀ n, PyData.canLayAll0 (List.replicate n d) = true
  | 0 => rfl
  | n + 1 => by
    rw [List.replicate_succ]
    simp only [PyData.canLayAll0, Bool.and_eq_true]
    exact ⟨h, lay_rep h n⟩
theorem dep_rep {d : PyData} : ∀ n, PyData.depthAll (List.replicate n d) ≤ d.depth
  | 0 => Nat.zero_le _
  | n + 1 => by
    rw [List.replicate_succ]
    simp only [PyData.depthAll]
    exact Nat.max_le.mpr ⟨Nat.le_refl _, dep_rep n⟩
theorem tls_ne {t : Str} {H : Hp} {a b : Addr} {n : Nat} {Q : VK} (h1 : Tls t H a n) (h2 : Tls t H b n) (ok : PyData.strOk t = true) (k : Q (.bl false) H) : rNeD K (.ref a) (.ref b) H Q := by
  obtain ⟨ps, e1, l1, p1⟩ := h1
  obtain ⟨qs, e2, l2, p2⟩ := h2
  have sh : SeqAt.shaped (.list (List.replicate n (.list [.str t, .str t]))) = true := by
    unfold SeqAt.shaped
    rw [Bool.and_eq_true]
    refine ⟨lay_rep (by simp [PyData.canLay0, PyData.canLayAll0, ok]) n, decide_eq_true ?_⟩
    have h := dep_rep (d := .list [.str t, .str t]) n
    have h3 : (PyData.list [.str t, .str t]).depth ≤ 2 := by simp [PyData.depth, PyData.depthAll]
    show PyData.depthAll _ + 1 ≤ 64
    omega
  have d1 := dp_tls (K := K) p1
  have d2 := dp_tls (K := K) p2
  rw [l1] at d1
  rw [l2] at d2
  refine ⟨_, _, .lst (.of e1) d1, .lst (.of e2) d2, sh, sh, ?_⟩
  rw [SeqAt.eqv_refl _ (SeqAt.canLay_of_shaped sh)]
  exact k
/-- a list of errors of one class, and its number -/
def Grp (cs : Nat → Addr) (H : Hp) (g : Addr) : Prop := ∃ (D : Addr) (as : List Addr) (j : Nat), H g = some (.tup [.ref D, .int (j : Nat)]) ∧ j < 36 ∧ H D = some (.lst (as.map V.ref)) ∧ as.length ≤ 2 ∧ ∀ a ∈ as, ∃ fs, ErAt (cs j) fs H a
theorem Grp.same {cs : Nat → Addr} {H H' : Hp} {g : Addr} (h : Grp cs H g) (s : Same H H') : Grp cs H' g := by
  obtain ⟨D, as, j, e1, hj, e2, hl, h⟩ := h
  exact ⟨D, as, j, s _ _ e1, hj, s _ _ e2, hl, fun a m => (h a m).elim fun fs e => ⟨fs, e.same s⟩⟩
theorem grp_prs {cs : Nat → Addr} {H : Hp} {g D : Addr} {j : Nat} {fs : List (Str × V)} (P : Prs (cs j) fs H D) (i : Int) (hi : i = (j : Nat)) (hj : j < 36) (hg : H g = none) : Same H (upd H g (.tup [.ref D, .int i])) ∧ Grp cs (upd H g (.tup [.ref D, .int i])) g := by
  subst hi
  obtain ⟨a, b, e, ha, hb⟩ := P
  have s : Same H (upd H g (.tup [.ref D, .int (j : Nat)])) := MG.Same.new (Same.refl H) hg
  refine ⟨s, D, [a, b], j, upd_same, hj, s _ _ e, Nat.le_refl _, fun c m => ?_⟩
  rcases List.mem_cons.mp m with rfl | m
  · exact ⟨fs, ha.same s⟩
  · rcases List.mem_cons.mp m with rfl | m
    · exact ⟨fs, hb.same s⟩
    · cases m
theorem grp_one {cs : Nat → Addr} {H G : Hp} {g D a : Addr} {j : Nat} (s0 : Same H G) (ha : ErAt (cs j) [] G a) (hD : G D = none) (i : Int) (hi : i = (j : Nat)) (hj : j < 36) (hg : upd G D (.lst [.ref a]) g = none) :
    Same H (upd (upd G D (.lst [.ref a])) g (.tup [.ref D, .int i])) ∧ Grp cs (upd (upd G D (.lst [.ref a])) g (.tup [.ref D, .int i])) g := by
  subst hi
  have s1 : Same G (upd G D (.lst [.ref a])) := MG.Same.new (Same.refl G) hD
  have s2 : Same (upd G D (.lst [.ref a])) (upd (upd G D (.lst [.ref a])) g (.tup [.ref D, .int (j : Nat)])) := MG.Same.new (Same.refl _) hg
  refine ⟨(s0.trans s1).trans s2, D, [a], j, upd_same, hj, s2 _ _ upd_same, by show 1 ≤ 2; decide, fun c m => ?_⟩
  rcases List.mem_cons.mp m with rfl | m
  · exact ⟨[], (ha.same s1).same s2⟩
  · cases m
theorem rep_get {α : Type} {n i : Nat} {a y : α} (h : (List.replicate n a)[i]? = some y) : y = a := by
  rw [List.getElem?_replicate] at h
  split at h
  · exact (Option.some.inj h).symm
  · cases h
theorem ref_get {as : List Addr} {i : Nat} {z : V} (h : (as.map V.ref)[i]? = some z) : ∃ a, a ∈ as ∧ z = .ref a := by
  rw [List.getElem?_map] at h
  cases e : as[i]? with
  | none => rw [e] at h; cases h
  | some a =>
    rw [e] at h
    exact ⟨a, List.mem_of_getElem? e, (Option.some.inj h).symm⟩
/-- each class and its number -/
structure SortT (K : PySem.W.Frag) (cs : Nat → Addr) : Prop where
  er : ∀ i, i < 36 → ErC K (cs i)
  so : ∀ i, i < 36 → SortK K cs (cs i) i
  no : ∀ i, i ∈ ordL → ∀ f ∈ (["given"] : List Str), PySem.W.findIn K (.ref (cs i)) f = some none
theorem ord_lt : ∀ j ∈ ordL, j < 36 := by decide
theorem sc__law_right : FnScope ["_law_q", "_law_one", "_law_two", "_law_kept", "_law_order", "_law_group", "_law_k", "_law_places", "_law_pairs", "_law_users", "_law_spelled_ones", "_law_larges", "_law_riches", "_law_solved", "_law_broken", "_law_told", "_law_groups", "_law_e"] ["_law_q"] (defScope s__law_right) := ⟨rfl, rfl, rfl, by decide +kernel, rfl, by decide +kernel, by decide +kernel⟩
theorem ok_right {f : Addr} {fd : FuncData} (F : Fun K "_law_right" "_law_right" s__law_right f fd) (T : Blt mg) (b_list : mg "list" = none) (Z : ErrG mg cs) (S : SortT K cs) (M : ErrM P w K mg base cs) (c_odd : Odd3C P w K mg base C) (c_places : PlacesC P w K mg base cs) (c_words : WordsC P w K mg base cs) (c_belongs : BelC P w K mg base cs)
    (d_repr : DunF P w K mg base 2 C "__repr__" (spRepr C)) : FnG P w K mg base CX0 24 f fd ["_law_q"] spRight := by
  refine fun_okG F sc__law_right (fun vs H Q E h => ?_) (fun cdv A outer s H vs Q E bare hr h => ?_)
  · obtain ⟨q, rfl, _⟩ := h
    rfl
  · obtain ⟨q, rfl, hq, k⟩ := h
    have hu64 := hr.units
    refine ⟨_, (pss_cons (ps_par (i := 1) (j := 2) (by rfl) sc__law_right.nd rfl rfl (by decide) rfl rfl (pa_cons (pe_cg c_odd bare hr (by decide) rfl (pa_cons (pv 0) (pa_cons pe_int pa_nil))) (pa_cons (pe_cg c_odd bare hr (by decide) rfl (pa_cons (pv 0) (pa_cons pe_int pa_nil))) pa_nil)) (by rfl))
  (pss_cons (ps_cut (ps_set (i := 3) sc__law_right.nd rfl (Or.inl rfl) (pe_lst (pa_cons (pe_callB (id := "repr") (call_reprS (K := K) (own := ownR C) (ownF d_repr) bare hr) (by rfl) T.b_repr (by decide +kernel) (pa_cons (pv 1) pa_nil)) (pa_cons (pe_callB (id := "repr") (call_reprS (K := K) (own := ownR C) (ownF d_repr) bare hr) (by rfl) T.b_repr (by decide +kernel) (pa_cons (pv 2) pa_nil)) pa_nil)))))
  (pss_cons (ps_cut (ps_set (i := 4) sc__law_right.nd rfl (Or.inl rfl) (pe_op op_cat (pe_listRg rfl (by rfl) b_list (prg_1 (by rfl) T.b_range pe_int)) (pe_lst (pa_cons pe_int (pa_cons pe_int (pa_cons pe_int (pa_cons pe_int (pa_cons pe_int (pa_cons pe_int pa_nil))))))))))
  (pss_cons (ps_cut (ps_for PassesOwn.never rfl (pi_list (pe_lst (pa_cons (pe_cg c_places bare hr (by decide) rfl (pa_cons (pv 1) pa_nil)) (pa_cons (pe_cg c_words bare hr (by decide) rfl (pa_cons (pv 1) pa_nil)) pa_nil)))) (pg_name (i := 5) sc__law_right.nd rfl (Or.inl rfl))
  (pss_one (ps_for PassesOwn.never rfl (pi_range1 (by rfl) T.b_range (pa_cons pe_int pa_nil)) (pg_name (i := 6) sc__law_right.nd rfl (Or.inl rfl))
  (pss_one (ps_if (PW.pt (pw_or (pt_cmpR op_ne (pe_callB (id := "repr") (call_reprS (K := K) (own := ownR C) (ownF d_repr) bare hr) (by rfl) T.b_repr (by decide +kernel) (pa_cons (pe_erGK (K := K) (pe_ix (ix_listK (K := K)) (pv 5) (pv 6) (fun _ _ => rfl))) pa_nil)) (pe_ix (ix_listK (K := K)) (pv 3) pe_int (fun _ _ => rfl)) (nomark _)) (pw_or1 (pt_not (pt_val (pe_cg c_belongs bare hr (by decide) rfl (pa_cons (pe_ix (ix_listK (K := K)) (pv 5) (pv 6) (fun _ _ => rfl)) (pa_cons (pe_ix (ix_listK (K := K)) (pv 4) (pv 6) (fun _ _ => rfl)) pa_nil)))))))) (pss_one (ps_ret pe_bl))
  pss_nil))))))
  (pss_cons (ps_cut (ps_set (i := 7) sc__law_right.nd rfl (Or.inl rfl) (pe_lst (pa_cons (pe_mkE M.e_TextError hr (by decide) rfl (pa_cons (pv 1) pa_nil)) (pa_cons (pe_mkEK M.e_TextError hr (by decide) rfl (pk_cons (pv 1) pk_nil)) pa_nil)))))
  (pss_cons (ps_cut (ps_set (i := 8) sc__law_right.nd rfl (Or.inl rfl) (pe_lst (pa_cons (pe_mkE M.e_Mismatch hr (by decide) rfl (pa_cons (pv 1) (pa_cons (pv 2) pa_nil))) (pa_cons (pe_mkEK M.e_Mismatch hr (by decide) rfl (pk_cons (pv 2) (pk_cons (pv 1) pk_nil))) pa_nil)))))
  (pss_cons (ps_cut (ps_set (i := 9) sc__law_right.nd rfl (Or.inl rfl) (pe_lst (pa_cons (pe_mkE M.e_InUse hr (by decide) rfl (pa_cons (pv 1) pa_nil)) (pa_cons (pe_mkEK M.e_InUse hr (by decide) rfl (pk_cons (pv 1) pk_nil)) pa_nil)))))
  (pss_cons (ps_cut (ps_set (i := 10) sc__law_right.nd rfl (Or.inl rfl) (pe_lst (pa_cons (pe_mkE M.e_Unanchored hr (by decide) rfl (pa_cons (pv 1) pa_nil)) (pa_cons (pe_mkEK M.e_Unanchored hr (by decide) rfl (pk_cons (pv 1) pk_nil)) pa_nil)))))
  (pss_cons (ps_cut (ps_par (i := 11) (j := 12) (by rfl) sc__law_right.nd rfl rfl (by decide) rfl rfl (pa_cons (pe_lst (pa_cons (pe_mkE M.e_TooLarge hr (by decide) rfl (pa_cons (pv 1) pa_nil)) (pa_cons (pe_mkEK M.e_TooLarge hr (by decide) rfl (pk_cons (pv 1) pk_nil)) pa_nil))) (pa_cons (pe_lst (pa_cons (pe_mkE M.e_TooRich hr (by decide) rfl (pa_cons (pv 1) pa_nil)) (pa_cons (pe_mkEK M.e_TooRich hr (by decide) rfl (pk_cons (pv 1) pk_nil)) pa_nil))) pa_nil)) (by rfl)))
  (pss_cons (ps_cut (ps_set (i := 13) sc__law_right.nd rfl (Or.inl rfl) (pe_lst (pa_cons (pe_mkE M.e_NotSolvable hr (by decide) rfl (pa_cons (pv 1) (pa_cons (pv 2) pa_nil))) (pa_cons (pe_mkEK M.e_NotSolvable hr (by decide) rfl (pk_cons (pv 2) (pk_cons (pv 1) pk_nil))) pa_nil)))))
  (pss_cons (ps_cut (ps_set (i := 14) sc__law_right.nd rfl (Or.inl rfl) (pe_lst (pa_cons (pe_mkE M.e_Broken hr (by decide) rfl (pa_cons (pv 1) (pa_cons (pv 2) pa_nil))) (pa_cons (pe_mkEK M.e_Broken hr (by decide) rfl (pk_cons (pv 2) (pk_cons (pv 1) pk_nil))) pa_nil)))))
  (pss_cons (ps_cut (ps_set (i := 15) sc__law_right.nd rfl (Or.inl rfl) (pe_lst (pa_cons (pe_map (K := K) (j := 17) (pe_lc (own := [("_law_e", 17)]) (g := gName 17) (tt := tYes) rfl sc__law_right.nd (pi_list (pe_cut (pv 7))) (blkOk_by (N := ["_law_q", "_law_one", "_law_two", "_law_kept", "_law_order", "_law_group", "_law_k", "_law_places", "_law_pairs", "_law_users", "_law_spelled_ones", "_law_larges", "_law_riches", "_law_solved", "_law_broken", "_law_told", "_law_groups", "_law_e"]) (sc := defScope s__law_right) (by decide +kernel)) (fun _ _ _ _ _ => (pg_name (i := 17) sc__law_right.nd rfl (Or.inl rfl))) (fun _ _ _ _ _ => pts_nil) (fun _ _ _ _ _ => (pe_cut (pe_callB (id := "repr") (call_reprS (K := K) (own := ownR C) (ownF d_repr) bare hr) (by rfl) T.b_repr (by decide +kernel) (pa_cons (pe_erGK (K := K) (pv 17)) pa_nil)))))) (pa_cons (pe_map (K := K) (j := 17) (pe_lc (own := [("_law_e", 17)]) (g := gName 17) (tt := tYes) rfl sc__law_right.nd (pi_list (pe_cut (pv 9))) (blkOk_by (N := ["_law_q", "_law_one", "_law_two", "_law_kept", "_law_order", "_law_group", "_law_k", "_law_places", "_law_pairs", "_law_users", "_law_spelled_ones", "_law_larges", "_law_riches", "_law_solved", "_law_broken", "_law_told", "_law_groups", "_law_e"]) (sc := defScope s__law_right) (by decide +kernel)) (fun _ _ _ _ _ => (pg_name (i := 17) sc__law_right.nd rfl (Or.inl rfl))) (fun _ _ _ _ _ => pts_nil) (fun _ _ _ _ _ => (pe_cut (pe_callB (id := "repr") (call_reprS (K := K) (own := ownR C) (ownF d_repr) bare hr) (by rfl) T.b_repr (by decide +kernel) (pa_cons (pe_erGK (K := K) (pv 17)) pa_nil)))))) (pa_cons (pe_map (K := K) (j := 17) (pe_lc (own := [("_law_e", 17)]) (g := gName 17) (tt := tYes) rfl sc__law_right.nd (pi_list (pe_cut (pv 10))) (blkOk_by (N := ["_law_q", "_law_one", "_law_two", "_law_kept", "_law_order", "_law_group", "_law_k", "_law_places", "_law_pairs", "_law_users", "_law_spelled_ones", "_law_larges", "_law_riches", "_law_solved", "_law_broken", "_law_told", "_law_groups", "_law_e"]) (sc := defScope s__law_right) (by decide +kernel)) (fun _ _ _ _ _ => (pg_name (i := 17) sc__law_right.nd rfl (Or.inl rfl))) (fun _ _ _ _ _ => pts_nil) (fun _ _ _ _ _ => (pe_cut (pe_callB (id := "repr") (call_reprS (K := K) (own := ownR C) (ownF d_repr) bare hr) (by rfl) T.b_repr (by decide +kernel) (pa_cons (pe_erGK (K := K) (pv 17)) pa_nil)))))) pa_nil))))))
  (pss_cons (ps_cut (ps_set (i := 15) sc__law_right.nd rfl (Or.inl rfl) (pe_op op_cat (pv 15) (pe_lst (pa_cons (pe_map (K := K) (j := 17) (pe_lc (own := [("_law_e", 17)]) (g := gName 17) (tt := tYes) rfl sc__law_right.nd (pi_list (pe_cut (pv 11))) (blkOk_by (N := ["_law_q", "_law_one", "_law_two", "_law_kept", "_law_order", "_law_group", "_law_k", "_law_places", "_law_pairs", "_law_users", "_law_spelled_ones", "_law_larges", "_law_riches", "_law_solved", "_law_broken", "_law_told", "_law_groups", "_law_e"]) (sc := defScope s__law_right) (by decide +kernel)) (fun _ _ _ _ _ => (pg_name (i := 17) sc__law_right.nd rfl (Or.inl rfl))) (fun _ _ _ _ _ => pts_nil) (fun _ _ _ _ _ => (pe_cut (pe_callB (id := "repr") (call_reprS (K := K) (own := ownR C) (ownF d_repr) bare hr) (by rfl) T.b_repr (by decide +kernel) (pa_cons (pe_erGK (K := K) (pv 17)) pa_nil)))))) (pa_cons (pe_map (K := K) (j := 17) (pe_lc (own := [("_law_e", 17)]) (g := gName 17) (tt := tYes) rfl sc__law_right.nd (pi_list (pe_cut (pv 12))) (blkOk_by (N := ["_law_q", "_law_one", "_law_two", "_law_kept", "_law_order", "_law_group", "_law_k", "_law_places", "_law_pairs", "_law_users", "_law_spelled_ones", "_law_larges", "_law_riches", "_law_solved", "_law_broken", "_law_told", "_law_groups", "_law_e"]) (sc := defScope s__law_right) (by decide +kernel)) (fun _ _ _ _ _ => (pg_name (i := 17) sc__law_right.nd rfl (Or.inl rfl))) (fun _ _ _ _ _ => pts_nil) (fun _ _ _ _ _ => (pe_cut (pe_callB (id := "repr") (call_reprS (K := K) (own := ownR C) (ownF d_repr) bare hr) (by rfl) T.b_repr (by decide +kernel) (pa_cons (pe_erGK (K := K) (pv 17)) pa_nil)))))) pa_nil))))))
  (pss_cons (ps_cut (ps_set (i := 15) sc__law_right.nd rfl (Or.inl rfl) (pe_op op_cat (pv 15) (pe_lst (pa_cons (pe_map (K := K) (j := 17) (pe_lc (own := [("_law_e", 17)]) (g := gName 17) (tt := tYes) rfl sc__law_right.nd (pi_list (pe_cut (pv 8))) (blkOk_by (N := ["_law_q", "_law_one", "_law_two", "_law_kept", "_law_order", "_law_group", "_law_k", "_law_places", "_law_pairs", "_law_users", "_law_spelled_ones", "_law_larges", "_law_riches", "_law_solved", "_law_broken", "_law_told", "_law_groups", "_law_e"]) (sc := defScope s__law_right) (by decide +kernel)) (fun _ _ _ _ _ => (pg_name (i := 17) sc__law_right.nd rfl (Or.inl rfl))) (fun _ _ _ _ _ => pts_nil) (fun _ _ _ _ _ => (pe_cut (pe_callB (id := "repr") (call_reprS (K := K) (own := ownR C) (ownF d_repr) bare hr) (by rfl) T.b_repr (by decide +kernel) (pa_cons (pe_erGK (K := K) (pv 17)) pa_nil)))))) (pa_cons (pe_map (K := K) (j := 17) (pe_lc (own := [("_law_e", 17)]) (g := gName 17) (tt := tYes) rfl sc__law_right.nd (pi_list (pe_cut (pv 13))) (blkOk_by (N := ["_law_q", "_law_one", "_law_two", "_law_kept", "_law_order", "_law_group", "_law_k", "_law_places", "_law_pairs", "_law_users", "_law_spelled_ones", "_law_larges", "_law_riches", "_law_solved", "_law_broken", "_law_told", "_law_groups", "_law_e"]) (sc := defScope s__law_right) (by decide +kernel)) (fun _ _ _ _ _ => (pg_name (i := 17) sc__law_right.nd rfl (Or.inl rfl))) (fun _ _ _ _ _ => pts_nil) (fun _ _ _ _ _ => (pe_cut (pe_callB (id := "repr") (call_reprS (K := K) (own := ownR C) (ownF d_repr) bare hr) (by rfl) T.b_repr (by decide +kernel) (pa_cons (pe_erGK (K := K) (pv 17)) pa_nil)))))) (pa_cons (pe_map (K := K) (j := 17) (pe_lc (own := [("_law_e", 17)]) (g := gName 17) (tt := tYes) rfl sc__law_right.nd (pi_list (pe_cut (pv 14))) (blkOk_by (N := ["_law_q", "_law_one", "_law_two", "_law_kept", "_law_order", "_law_group", "_law_k", "_law_places", "_law_pairs", "_law_users", "_law_spelled_ones", "_law_larges", "_law_riches", "_law_solved", "_law_broken", "_law_told", "_law_groups", "_law_e"]) (sc := defScope s__law_right) (by decide +kernel)) (fun _ _ _ _ _ => (pg_name (i := 17) sc__law_right.nd rfl (Or.inl rfl))) (fun _ _ _ _ _ => pts_nil) (fun _ _ _ _ _ => (pe_cut (pe_callB (id := "repr") (call_reprS (K := K) (own := ownR C) (ownF d_repr) bare hr) (by rfl) T.b_repr (by decide +kernel) (pa_cons (pe_erGK (K := K) (pv 17)) pa_nil)))))) pa_nil)))))))
  (pss_cons (ps_cut (ps_if (pt_cmpR (op_neD hu64) (pv 15) (pe_op op_rep (pe_lst (pa_cons (pe_lst (pa_cons (pe_ix (ix_listK (K := K)) (pv 3) pe_int (fun _ _ => rfl)) (pa_cons (pe_ix (ix_listK (K := K)) (pv 3) pe_int (fun _ _ => rfl)) pa_nil))) pa_nil)) pe_int) (nomark _)) (pss_one (ps_ret pe_bl))
  pss_nil))
  (pss_cons (ps_cut (ps_set (i := 15) sc__law_right.nd rfl (Or.inl rfl) (pe_lst (pa_cons (pe_map (K := K) (j := 17) (pe_lc (own := [("_law_e", 17)]) (g := gName 17) (tt := tYes) rfl sc__law_right.nd (pi_list (pe_cut (pv 8))) (blkOk_by (N := ["_law_q", "_law_one", "_law_two", "_law_kept", "_law_order", "_law_group", "_law_k", "_law_places", "_law_pairs", "_law_users", "_law_spelled_ones", "_law_larges", "_law_riches", "_law_solved", "_law_broken", "_law_told", "_law_groups", "_law_e"]) (sc := defScope s__law_right) (by decide +kernel)) (fun _ _ _ _ _ => (pg_name (i := 17) sc__law_right.nd rfl (Or.inl rfl))) (fun _ _ _ _ _ => pts_nil) (fun _ _ _ _ _ => (pe_cut (pe_callB (id := "repr") (call_reprS (K := K) (own := ownR C) (ownF d_repr) bare hr) (by rfl) T.b_repr (by decide +kernel) (pa_cons (pe_erGK (K := K) (pv 17)) pa_nil)))))) (pa_cons (pe_map (K := K) (j := 17) (pe_lc (own := [("_law_e", 17)]) (g := gName 17) (tt := tYes) rfl sc__law_right.nd (pi_list (pe_cut (pv 13))) (blkOk_by (N := ["_law_q", "_law_one", "_law_two", "_law_kept", "_law_order", "_law_group", "_law_k", "_law_places", "_law_pairs", "_law_users", "_law_spelled_ones", "_law_larges", "_law_riches", "_law_solved", "_law_broken", "_law_told", "_law_groups", "_law_e"]) (sc := defScope s__law_right) (by decide +kernel)) (fun _ _ _ _ _ => (pg_name (i := 17) sc__law_right.nd rfl (Or.inl rfl))) (fun _ _ _ _ _ => pts_nil) (fun _ _ _ _ _ => (pe_cut (pe_callB (id := "repr") (call_reprS (K := K) (own := ownR C) (ownF d_repr) bare hr) (by rfl) T.b_repr (by decide +kernel) (pa_cons (pe_erGK (K := K) (pv 17)) pa_nil)))))) (pa_cons (pe_map (K := K) (j := 17) (pe_lc (own := [("_law_e", 17)]) (g := gName 17) (tt := tYes) rfl sc__law_right.nd (pi_list (pe_cut (pv 14))) (blkOk_by (N := ["_law_q", "_law_one", "_law_two", "_law_kept", "_law_order", "_law_group", "_law_k", "_law_places", "_law_pairs", "_law_users", "_law_spelled_ones", "_law_larges", "_law_riches", "_law_solved", "_law_broken", "_law_told", "_law_groups", "_law_e"]) (sc := defScope s__law_right) (by decide +kernel)) (fun _ _ _ _ _ => (pg_name (i := 17) sc__law_right.nd rfl (Or.inl rfl))) (fun _ _ _ _ _ => pts_nil) (fun _ _ _ _ _ => (pe_cut (pe_callB (id := "repr") (call_reprS (K := K) (own := ownR C) (ownF d_repr) bare hr) (by rfl) T.b_repr (by decide +kernel) (pa_cons (pe_erGK (K := K) (pv 17)) pa_nil)))))) pa_nil))))))
  (pss_cons (ps_cut (ps_if (PW.pt (pw_or (pt_cmpR (op_neD hu64) (pv 15) (pe_op op_rep (pe_lst (pa_cons (pe_lst (pa_cons (pe_ix (ix_listK (K := K)) (pv 3) pe_int (fun _ _ => rfl)) (pa_cons (pe_ix (ix_listK (K := K)) (pv 3) pe_int (fun _ _ => rfl)) pa_nil))) pa_nil)) pe_int) (nomark _)) (pw_or1 (pt_cmpR (op_neD hu64) (pe_lst (pa_cons (pe_callB (id := "repr") (call_reprS (K := K) (own := ownR C) (ownF d_repr) bare hr) (by rfl) T.b_repr (by decide +kernel) (pa_cons (pv 1) pa_nil)) (pa_cons (pe_callB (id := "repr") (call_reprS (K := K) (own := ownR C) (ownF d_repr) bare hr) (by rfl) T.b_repr (by decide +kernel) (pa_cons (pv 2) pa_nil)) pa_nil))) (pv 3) (nomark _))))) (pss_one (ps_ret pe_bl))
  pss_nil))
  (pss_cons (ps_cut (ps_set (i := 16) sc__law_right.nd rfl (Or.inl rfl) (pe_lst (pa_cons (pe_tup (pa_cons (pv 7) (pa_cons pe_int pa_nil))) (pa_cons (pe_tup (pa_cons (pv 8) (pa_cons pe_int pa_nil))) (pa_cons (pe_tup (pa_cons (pv 9) (pa_cons pe_int pa_nil))) (pa_cons (pe_tup (pa_cons (pe_lst (pa_cons (pe_mk0 M.e_NothingToUndo rfl) pa_nil)) (pa_cons pe_int pa_nil))) (pa_cons (pe_tup (pa_cons (pv 10) (pa_cons pe_int pa_nil))) (pa_cons (pe_tup (pa_cons (pe_lst (pa_cons (pe_mk0 M.e_Singular rfl) pa_nil)) (pa_cons pe_int pa_nil))) pa_nil)))))))))
  (pss_cons (ps_cut (ps_set (i := 16) sc__law_right.nd rfl (Or.inl rfl) (pe_op op_cat (pv 16) (pe_lst (pa_cons (pe_tup (pa_cons (pe_lst (pa_cons (pe_mk0 M.e_NoValue rfl) pa_nil)) (pa_cons pe_int pa_nil))) (pa_cons (pe_tup (pa_cons (pv 11) (pa_cons pe_int pa_nil))) (pa_cons (pe_tup (pa_cons (pv 12) (pa_cons pe_int pa_nil))) (pa_cons (pe_tup (pa_cons (pv 13) (pa_cons pe_int pa_nil))) (pa_cons (pe_tup (pa_cons (pv 14) (pa_cons pe_int pa_nil))) pa_nil)))))))))
  (pss_one (ps_ret (pe_callB (id := "all") (cr_all rfl) (by rfl) T.b_all (by decide +kernel) (pa_cons (pe_map (K := K) (j := 5) (pe_lc (own := [("_law_group", 5)]) (g := gName 5) (tt := tYes) rfl sc__law_right.nd (pi_list (pe_cut (pv 16))) (blkOk_by (N := ["_law_q", "_law_one", "_law_two", "_law_kept", "_law_order", "_law_group", "_law_k", "_law_places", "_law_pairs", "_law_users", "_law_spelled_ones", "_law_larges", "_law_riches", "_law_solved", "_law_broken", "_law_told", "_law_groups", "_law_e"]) (sc := defScope s__law_right) (by decide +kernel)) (fun _ _ _ _ _ => (pg_name (i := 5) sc__law_right.nd rfl (Or.inr rfl))) (fun _ _ _ _ _ => pts_nil) (fun _ _ _ _ _ => (pe_cut (pe_callB (id := "all") (cr_allK (K := K) rfl) (by rfl) T.b_all (by decide +kernel) (pa_cons (pe_map (K := K) (j := 17) (pe_lc (own := [("_law_e", 17)]) (g := gName 17) (tt := tYes) rfl sc__law_right.nd (pi_list (pe_cut (pe_ix (ix_tupK (K := K)) (pv 5) pe_int (fun _ _ => rfl)))) (blkOk_by (N := ["_law_q", "_law_one", "_law_two", "_law_kept", "_law_order", "_law_group", "_law_k", "_law_places", "_law_pairs", "_law_users", "_law_spelled_ones", "_law_larges", "_law_riches", "_law_solved", "_law_broken", "_law_told", "_law_groups", "_law_e"]) (sc := ({ kind := .function, names := [(PySem.Str.ofString ".0", .local), (PySem.Str.ofString "_law_group", .cell), (PySem.Str.ofString "all", .globalImplicit)], isGenerator := false, isCoroutine := false } : Scope)) (by decide +kernel)) (fun _ _ _ _ _ => (pg_name (i := 17) sc__law_right.nd rfl (Or.inl rfl))) (fun _ _ _ _ _ => pts_nil) (fun _ _ _ _ _ => (pe_cut (pe_cg c_belongs bare hr (by decide) rfl (pa_cons (pv 17) (pa_cons (pe_ix (ix_tupK (K := K)) (pv 5) pe_int (fun _ _ => rfl)) pa_nil))))))) pa_nil)))))) pa_nil))))))))))))))))))))))), ?_⟩
    have e2 : tn 2 = 19 := rfl
    -- one, two = odd(q, 2), odd(q, 2)
    refine ⟨_, rfl, q, 0, rfl, hq, by decide, fun x tx ox H1 k1 q1 hx1 => ?_⟩
    refine ⟨_, rfl, q, 0 + tn 2, rfl, q1, by decide, fun y ty oy H2 k2 q2 hy => ?_⟩
    refine ⟨_, _, rfl, ?_⟩
    have hx := hx1.same (hid_keep k2)
    have k02 := k1.trans k2
    have ax := asc_ok hx.asc
    have ay := asc_ok hy.asc
    have px : ∀ {H' : Hp}, Same H2 H' → ∃ as k', Shw K (ownR C) 2 H' as k' x tx ∧ tx.length ≤ sizeLine ∧ k' + 3 ≤ 23 := fun s => hx.parts ((hid_same q H2).trans s) (by decide) (by decide)
    have py : ∀ {H' : Hp}, Same H2 H' → ∃ as k', Shw K (ownR C) 2 H' as k' y ty ∧ ty.length ≤ sizeLine ∧ k' + 3 ≤ 23 := fun s => hy.parts ((hid_same q H2).trans s) (by decide) (by decide)
    replace k : ∀ H', Same H2 H' → Q (.bl true) H' := fun H' s => k H' (k02.same s)
    clear hx hx1 hy k02 k1 k2 q1 q2 hq
    -- kept
    refine ⟨fun σ' H' => ∃ l, σ' = [some (.ref q), some x, some y, some (.ref l), none, none, none, none, none, none, none, none, none, none, none, none, none, none] ∧ Same H2 H' ∧ H' l = some (.lst ([tx, ty].map V.str)), ?_, ?_⟩
    · obtain ⟨asx, kx, shx, lnx, hkx⟩ := px (Same.refl H2)
      refine ⟨_, rfl, _, asx, kx, tx, rfl, shx, lnx, hkx, fun H3 s3 => ?_⟩
      obtain ⟨asy, ky, shy, lny, hky⟩ := py s3
      exact ⟨_, rfl, _, asy, ky, ty, rfl, shy, lny, hky, fun H4 s4 => ⟨by show 2 ≤ sizeLine; decide, fun l hl => ⟨l, rfl, (s3.trans s4).trans (MG.Same.new (Same.refl H4) hl), upd_same⟩⟩⟩
    rintro σ' H3 ⟨l, rfl, s3, el⟩
    -- order
    refine ⟨fun σ' H' => ∃ o, σ' = [some (.ref q), some x, some y, some (.ref l), some (.ref o), none, none, none, none, none, none, none, none, none, none, none, none, none] ∧ Same H3 H' ∧ H' o = some (.lst (ordL.map fun i => V.int (i : Nat))), ?_, ?_⟩
    · refine ⟨19, rfl, RgOk.of_le (by decide) (by decide) (by decide) (by decide), fun p1 h1 => ⟨by show 6 ≤ sizeLine; decide, fun p2 h2 => ⟨p1, p2, rgV 0 19, _, rfl, rfl, ?_, upd_same, by show 19 + 6 ≤ sizeLine; decide, fun p h => ⟨p, rfl, MG.Same.new (MG.Same.new (MG.Same.new (Same.refl H3) h1) h2) h, ?_⟩⟩⟩⟩
      · rw [upd_ne (ne_of_none upd_same h2)]
        exact upd_same
      · rw [upd_same]
        rfl
    rintro σ' H4 ⟨o, rfl, s4, eo⟩
    replace el := s4 _ _ el
    replace s4 := s3.trans s4
    clear s3 H3
    -- for group in [places(one), words(one)]: for k in range(25)
    refine ⟨fun σ' H' => (∃ g kk, σ' = [some (.ref q), some x, some y, some (.ref l), some (.ref o), g, kk, none, none, none, none, none, none, none, none, none, none, none]) ∧ Same H4 H', ?_, ?_⟩
    · refine ⟨_, rfl, x, rfl, fun D1 as1 G1 t1 eD1 eE1 => ?_⟩
      refine ⟨_, rfl, x, rfl, fun D2 as2 G2 t2 eD2 eE2 => ⟨by show 2 ≤ sizeLine; decide, fun lp hlp => ⟨lp, rfl, ⟨_, SqL.of upd_same⟩, ?_⟩⟩⟩
      have t3 : Same G2 (upd G2 lp (.lst [.ref D1, .ref D2])) := MG.Same.new (Same.refl G2) hlp
      have elp : upd G2 lp (.lst [.ref D1, .ref D2]) lp = some (.lst [.ref D1, .ref D2]) := upd_same
      generalize upd G2 lp (.lst [.ref D1, .ref D2]) = G3 at *
      refine for_list (K := K) (a := lp) (xs := [.ref D1, .ref D2]) (fun i σ H' => Same G3 H' ∧ ∃ g kk, σ = [some (.ref q), some x, some y, some (.ref l), some (.ref o), g, kk, none, none, none, none, none, none, none, none, none, none, none]) ⟨Same.refl G3, none, none, rfl⟩ (fun i σ H' _ p => SqL.of (p.1 _ _ elp)) ?_ ?_
      · rintro i z σ H' hz ⟨sF, g, kk, rfl⟩
        have hD : ∃ D as, z = .ref D ∧ H' D = some (.lst (as.map V.ref)) ∧ Ers cs x H' ordL as := by
          match i, hz with
          | 0, hz => exact ⟨D1, as1, (Option.some.inj hz).symm, sF _ _ (t3 _ _ (t2 _ _ eD1)), ((eE1.same t2).same t3).same sF⟩
          | 1, hz => exact ⟨D2, as2, (Option.some.inj hz).symm, sF _ _ (t3 _ _ eD2), (eE2.same t3).same sF⟩
        obtain ⟨D, as, rfl, eD, eE⟩ := hD
        refine ⟨25, rfl, by decide, by decide, ?_⟩
        refine for_range (lo := 0) (n := 25) (fun i σ H'' => Same H' H'' ∧ ∃ kk, σ = [some (.ref q), some x, some y, some (.ref l), some (.ref o), some (.ref D), kk, none, none, none, none, none, none, none, none, none, none, none]) ⟨Same.refl H', _, rfl⟩ ?_ ?_
        · rintro i σ H'' hi ⟨sI, kk2, rfl⟩
          have s5 := ((((s4.trans t1).trans t2).trans t3).trans sF).trans sI
          have sl := (((t1.trans t2).trans t3).trans sF).trans sI
          have hlen := eE.len
          obtain ⟨a, ha⟩ : ∃ a, as[i]? = some a := ⟨as[i]'(by rw [hlen]; exact hi), List.getElem?_eq_getElem _⟩
          obtain ⟨j, hj⟩ : ∃ j, ordL[i]? = some j := ⟨ordL[i]'hi, List.getElem?_eq_getElem _⟩
          have hj36 : j < 36 := ord_lt j (List.mem_of_getElem? hj)
          have hE := (eE.same sI).at_ hj ha
          have eD2 := sI _ _ eD
          have zi : (0 : Int) + (i : Nat) = (i : Nat) := Int.zero_add _
          have zfl : ∀ f ∈ (["given"] : List Str), PySem.W.findIn K (.ref (cs j)) f = some none := S.no j (List.mem_of_getElem? hj)
          rcases hE with ⟨hbad, _⟩ | ⟨d, ea, ed⟩
          · cases hbad
          have a1 : atI (as.map V.ref) ((i : Nat) : Int) = some (.ref a) := atI_nat (by rw [List.getElem?_map, ha]; rfl)
          have a2 : atI (ordL.map fun i => V.int (i : Nat)) ((i : Nat) : Int) = some (.int (j : Nat)) := atI_nat (by rw [List.getElem?_map, hj]; rfl)
          rw [zi]
          obtain ⟨asx, kx, shx, lnx, hkx⟩ := px s5
          refine ⟨_, rfl, _, rfl, D, _, _, _, rfl, rfl, SqL.of eD2, a1, a, cs j, d, _, x, rfl, S.er j hj36, zfl _ (.head _), ea, ed, rfl, ?_⟩
          refine ⟨_, asx, kx, tx, rfl, shx, lnx, hkx, fun H6 s6 => ?_⟩
          refine ⟨_, rfl, l, _, _, _, rfl, rfl, SqL.of (s6 _ _ (sl _ _ el)), rfl, ?_⟩
          refine ⟨rfl, _, rfl, ?_⟩
          refine ifF (by rw [decide_eq_true rfl]; rfl) ?_
          refine ⟨_, rfl, _, rfl, D, _, _, _, rfl, rfl, SqL.of (s6 _ _ eD2), a1, ?_⟩
          refine ⟨_, rfl, _, rfl, o, _, _, _, rfl, rfl, SqL.of (s6 _ _ (sl _ _ eo)), a2, ?_⟩
          refine ⟨a, cs j, _, j, rfl, S.er j hj36, .inr ⟨d, s6 _ _ ea, s6 _ _ ed⟩, S.so j hj36, fun H7 s7 => ⟨true, rfl, ?_⟩⟩
          refine ifF rfl ?_
          exact ⟨(sI.trans s6).trans s7, _, rfl⟩
        · rintro σ H'' ⟨sI, kk2, rfl⟩
          exact ⟨sF.trans sI, _, _, rfl⟩
      · rintro σ H' ⟨sF, g, kk, rfl⟩
        exact ⟨⟨g, kk, rfl⟩, ((t1.trans t2).trans t3).trans sF⟩
    rintro σ' H5 ⟨⟨g, kk, rfl⟩, s5⟩
    replace el := s5 _ _ el
    replace s4 := s4.trans s5
    clear s5 eo H4
    -- places
    refine ⟨fun σ' H' => ∃ Dplaces, σ' = [some (.ref q), some x, some y, some (.ref l), some (.ref o), g, kk, some (.ref Dplaces), none, none, none, none, none, none, none, none, none, none] ∧ Same H5 H' ∧ Prs (cs 19) [("place", x)] H' Dplaces, ?_, ?_⟩
    · refine ⟨_, rfl, rfl, fun a G1 t1 n1 e1 => ⟨_, rfl, rfl, fun b G2 t2 n2 e2 => ⟨by show 2 ≤ sizeLine; decide, fun p hp => ?_⟩⟩⟩
      obtain ⟨r1, r2⟩ := prs_mk (fs := [("place", x)]) t1 e1 t2 e2 hp
      exact ⟨p, rfl, r1, r2⟩
    rintro σ' H6 ⟨Dplaces, rfl, sN, Pplaces⟩
    replace el := sN _ _ el
    replace s4 := s4.trans sN
    clear sN H5
    -- pairs
    refine ⟨fun σ' H' => ∃ Dpairs, σ' = [some (.ref q), some x, some y, some (.ref l), some (.ref o), g, kk, some (.ref Dplaces), some (.ref Dpairs), none, none, none, none, none, none, none, none, none] ∧ Same H6 H' ∧ Prs (cs 21) [("second", y), ("first", x)] H' Dpairs, ?_, ?_⟩
    · refine ⟨_, rfl, _, rfl, rfl, fun a G1 t1 n1 e1 => ⟨_, rfl, _, rfl, rfl, fun b G2 t2 n2 e2 => ⟨by show 2 ≤ sizeLine; decide, fun p hp => ?_⟩⟩⟩
      obtain ⟨r1, r2⟩ := prs_mk (fs := [("second", y), ("first", x)]) t1 e1 t2 e2 hp
      exact ⟨p, rfl, r1, r2⟩
    rintro σ' H7 ⟨Dpairs, rfl, sN, Ppairs⟩
    replace el := sN _ _ el
    replace s4 := s4.trans sN
    replace Pplaces := Pplaces.same sN
    clear sN H6
    -- users
    refine ⟨fun σ' H' => ∃ Dusers, σ' = [some (.ref q), some x, some y, some (.ref l), some (.ref o), g, kk, some (.ref Dplaces), some (.ref Dpairs), some (.ref Dusers), none, none, none, none, none, none, none, none] ∧ Same H7 H' ∧ Prs (cs 26) [("user", x)] H' Dusers, ?_, ?_⟩
    · refine ⟨_, rfl, rfl, fun a G1 t1 n1 e1 => ⟨_, rfl, rfl, fun b G2 t2 n2 e2 => ⟨by show 2 ≤ sizeLine; decide, fun p hp => ?_⟩⟩⟩
      obtain ⟨r1, r2⟩ := prs_mk (fs := [("user", x)]) t1 e1 t2 e2 hp
      exact ⟨p, rfl, r1, r2⟩
    rintro σ' H8 ⟨Dusers, rfl, sN, Pusers⟩
    replace el := sN _ _ el
    replace s4 := s4.trans sN
    replace Pplaces := Pplaces.same sN
    replace Ppairs := Ppairs.same sN
    clear sN H7
    -- spelled
    refine ⟨fun σ' H' => ∃ Dspelled, σ' = [some (.ref q), some x, some y, some (.ref l), some (.ref o), g, kk, some (.ref Dplaces), some (.ref Dpairs), some (.ref Dusers), some (.ref Dspelled), none, none, none, none, none, none, none] ∧ Same H8 H' ∧ Prs (cs 29) [("spelled", x)] H' Dspelled, ?_, ?_⟩
    · refine ⟨_, rfl, rfl, fun a G1 t1 n1 e1 => ⟨_, rfl, rfl, fun b G2 t2 n2 e2 => ⟨by show 2 ≤ sizeLine; decide, fun p hp => ?_⟩⟩⟩
      obtain ⟨r1, r2⟩ := prs_mk (fs := [("spelled", x)]) t1 e1 t2 e2 hp
      exact ⟨p, rfl, r1, r2⟩
    rintro σ' H9 ⟨Dspelled, rfl, sN, Pspelled⟩
    replace el := sN _ _ el
    replace s4 := s4.trans sN
    replace Pplaces := Pplaces.same sN
    replace Ppairs := Ppairs.same sN
    replace Pusers := Pusers.same sN
    clear sN H8
    -- larges, riches
    refine ⟨fun σ' H' => ∃ Dlarges Driches, σ' = [some (.ref q), some x, some y, some (.ref l), some (.ref o), g, kk, some (.ref Dplaces), some (.ref Dpairs), some (.ref Dusers), some (.ref Dspelled), some (.ref Dlarges), some (.ref Driches), none, none, none, none, none] ∧ Same H9 H' ∧ Prs (cs 32) [("limit", x)] H' Dlarges ∧ Prs (cs 33) [("limit", x)] H' Driches, ?_, ?_⟩
    · refine ⟨_, rfl, rfl, fun a G1 t1 n1 e1 => ⟨_, rfl, rfl, fun b G2 t2 n2 e2 => ⟨by show 2 ≤ sizeLine; decide, fun p hp => ?_⟩⟩⟩
      obtain ⟨r1, r2⟩ := prs_mk (fs := [("limit", x)]) t1 e1 t2 e2 hp
      generalize upd G2 p (.lst [.ref a, .ref b]) = G3 at *
      refine ⟨_, rfl, rfl, fun a1 G4 t4 n4 e4 => ⟨_, rfl, rfl, fun b1 G5 t5 n5 e5 => ⟨by show 2 ≤ sizeLine; decide, fun p1 hp1 => ?_⟩⟩⟩
      obtain ⟨r3, r4⟩ := prs_mk (fs := [("limit", x)]) t4 e4 t5 e5 hp1
      exact ⟨_, _, rfl, p, p1, rfl, r1.trans r3, r2.same r3, r4⟩
    rintro σ' H10 ⟨Dlarges, Driches, rfl, sN, Plarges, Priches⟩
    replace el := sN _ _ el
    replace s4 := s4.trans sN
    replace Pplaces := Pplaces.same sN
    replace Ppairs := Ppairs.same sN
    replace Pusers := Pusers.same sN
    replace Pspelled := Pspelled.same sN
    clear sN H9
    -- solved
    refine ⟨fun σ' H' => ∃ Dsolved, σ' = [some (.ref q), some x, some y, some (.ref l), some (.ref o), g, kk, some (.ref Dplaces), some (.ref Dpairs), some (.ref Dusers), some (.ref Dspelled), some (.ref Dlarges), some (.ref Driches), some (.ref Dsolved), none, none, none, none] ∧ Same H10 H' ∧ Prs (cs 34) [("shown", y), ("reason", x)] H' Dsolved, ?_, ?_⟩
    · refine ⟨_, rfl, _, rfl, rfl, fun a G1 t1 n1 e1 => ⟨_, rfl, _, rfl, rfl, fun b G2 t2 n2 e2 => ⟨by show 2 ≤ sizeLine; decide, fun p hp => ?_⟩⟩⟩
      obtain ⟨r1, r2⟩ := prs_mk (fs := [("shown", y), ("reason", x)]) t1 e1 t2 e2 hp
      exact ⟨p, rfl, r1, r2⟩
    rintro σ' H11 ⟨Dsolved, rfl, sN, Psolved⟩
    replace el := sN _ _ el
    replace s4 := s4.trans sN
    replace Pplaces := Pplaces.same sN
    replace Ppairs := Ppairs.same sN
    replace Pusers := Pusers.same sN
    replace Pspelled := Pspelled.same sN
    replace Plarges := Plarges.same sN
    replace Priches := Priches.same sN
    clear sN H10
    -- broken
    refine ⟨fun σ' H' => ∃ Dbroken, σ' = [some (.ref q), some x, some y, some (.ref l), some (.ref o), g, kk, some (.ref Dplaces), some (.ref Dpairs), some (.ref Dusers), some (.ref Dspelled), some (.ref Dlarges), some (.ref Driches), some (.ref Dsolved), some (.ref Dbroken), none, none, none] ∧ Same H11 H' ∧ Prs (cs 35) [("found", y), ("claim", x)] H' Dbroken, ?_, ?_⟩
    · refine ⟨_, rfl, _, rfl, rfl, fun a G1 t1 n1 e1 => ⟨_, rfl, _, rfl, rfl, fun b G2 t2 n2 e2 => ⟨by show 2 ≤ sizeLine; decide, fun p hp => ?_⟩⟩⟩
      obtain ⟨r1, r2⟩ := prs_mk (fs := [("found", y), ("claim", x)]) t1 e1 t2 e2 hp
      exact ⟨p, rfl, r1, r2⟩
    rintro σ' H12 ⟨Dbroken, rfl, sN, Pbroken⟩
    replace el := sN _ _ el
    replace s4 := s4.trans sN
    replace Pplaces := Pplaces.same sN
    replace Ppairs := Ppairs.same sN
    replace Pusers := Pusers.same sN
    replace Pspelled := Pspelled.same sN
    replace Plarges := Plarges.same sN
    replace Priches := Priches.same sN
    replace Psolved := Psolved.same sN
    clear sN H11
    refine ⟨fun σ' H' => ∃ Dt', σ' = [some (.ref q), some x, some y, some (.ref l), some (.ref o), g, kk, some (.ref Dplaces), some (.ref Dpairs), some (.ref Dusers), some (.ref Dspelled), some (.ref Dlarges), some (.ref Driches), some (.ref Dsolved), some (.ref Dbroken), some (.ref Dt'), none, none] ∧ Same H12 H' ∧ Tls tx H' Dt' 3, ?_, ?_⟩
    · skip
      refine in_lst ?_
      refine told_one Pplaces ?_ ?_ M.e_TextError.er (M.e_TextError.no _ (.head _)) nofun ?_ (fun s => px (s4.trans s)) (fun p1 G1 t1 m1 => ?_)
      · rfl
      · show 17 < 18
        decide
      · rfl
      refine in_cons ?_
      refine told_one (Pusers.same t1) ?_ ?_ M.e_InUse.er (M.e_InUse.no _ (.head _)) nofun ?_ (fun s => px ((s4.trans t1).trans s)) (fun p2 G2 t2 m2 => ?_)
      · rfl
      · show 17 < 18
        decide
      · rfl
      refine in_cons ?_
      refine told_one ((Pspelled.same t1).same t2) ?_ ?_ M.e_Unanchored.er (M.e_Unanchored.no _ (.head _)) nofun ?_ (fun s => px (((s4.trans t1).trans t2).trans s)) (fun p3 G3 t3 m3 => ?_)
      · rfl
      · show 17 < 18
        decide
      · rfl
      have hm : ∀ z ∈ ([p1, p2, p3] : List Addr), G3 z = some (.lst ([tx, tx].map V.str)) := by
        intro z hz
        simp only [List.mem_cons, List.not_mem_nil, or_false] at hz
        rcases hz with rfl | rfl | rfl
        · exact (t3 _ _ (t2 _ _ m1))
        · exact (t3 _ _ m2)
        · exact m3
      refine ⟨by show 3 ≤ sizeLine; decide, fun p hp => ?_⟩
      obtain ⟨r1, r2⟩ := tls_new [p1, p2, p3] hp hm
      exact ⟨p, rfl, ((t1.trans t2).trans t3).trans r1, r2⟩
    rintro σ' H13 ⟨Dt', rfl, sN, PT⟩
    replace el := sN _ _ el
    replace s4 := s4.trans sN
    replace Pplaces := Pplaces.same sN
    replace Ppairs := Ppairs.same sN
    replace Pusers := Pusers.same sN
    replace Pspelled := Pspelled.same sN
    replace Plarges := Plarges.same sN
    replace Priches := Priches.same sN
    replace Psolved := Psolved.same sN
    replace Pbroken := Pbroken.same sN
    clear sN H12
    refine ⟨fun σ' H' => ∃ Dt', σ' = [some (.ref q), some x, some y, some (.ref l), some (.ref o), g, kk, some (.ref Dplaces), some (.ref Dpairs), some (.ref Dusers), some (.ref Dspelled), some (.ref Dlarges), some (.ref Driches), some (.ref Dsolved), some (.ref Dbroken), some (.ref Dt'), none, none] ∧ Same H13 H' ∧ Tls tx H' Dt' 5, ?_, ?_⟩
    · skip
      obtain ⟨ps, eDt, lps, hps⟩ := PT
      refine ⟨_, rfl, ?_⟩
      refine in_lst2 ?_
      refine told_one Plarges ?_ ?_ M.e_TooLarge.er (M.e_TooLarge.no _ (.head _)) nofun ?_ (fun s => px (s4.trans s)) (fun p1 G1 t1 m1 => ?_)
      · rfl
      · show 17 < 18
        decide
      · rfl
      refine in_cons ?_
      refine told_one (Priches.same t1) ?_ ?_ M.e_TooRich.er (M.e_TooRich.no _ (.head _)) nofun ?_ (fun s => px ((s4.trans t1).trans s)) (fun p2 G2 t2 m2 => ?_)
      · rfl
      · show 17 < 18
        decide
      · rfl
      have hm : ∀ z ∈ ([p1, p2] : List Addr), G2 z = some (.lst ([tx, tx].map V.str)) := by
        intro z hz
        simp only [List.mem_cons, List.not_mem_nil, or_false] at hz
        rcases hz with rfl | rfl
        · exact (t2 _ _ m1)
        · exact m2
      refine ⟨by show 2 ≤ sizeLine; decide, fun pq hq => ⟨Dt', pq, ps.map V.ref, ([p1, p2] : List Addr).map V.ref, rfl, rfl, ?_, upd_same, ?_, fun p hp => ?_⟩⟩
      · exact (MG.Same.new (t1.trans t2) hq) _ _ eDt
      · rw [List.length_map, List.length_map, lps]
        show 3 + 2 ≤ sizeLine
        decide
      have sq : Same H13 (upd G2 pq (.lst (([p1, p2] : List Addr).map V.ref))) := MG.Same.new (t1.trans t2) hq
      have sg : Same G2 (upd G2 pq (.lst (([p1, p2] : List Addr).map V.ref))) := MG.Same.new (Same.refl _) hq
      rw [← List.map_append] at *
      obtain ⟨r1, r2⟩ := tls_new (t := tx) (ps ++ [p1, p2]) hp (fun z hz => by
        rcases List.mem_append.mp hz with hz | hz
        · exact sq _ _ (hps z hz)
        · exact sg _ _ (hm z hz))
      exact ⟨p, rfl, sq.trans r1, by rw [List.length_append, lps] at r2; exact r2⟩
    clear PT Dt'
    rintro σ' H14 ⟨Dt', rfl, sN, PT⟩
    replace el := sN _ _ el
    replace s4 := s4.trans sN
    replace Pplaces := Pplaces.same sN
    replace Ppairs := Ppairs.same sN
    replace Pusers := Pusers.same sN
    replace Pspelled := Pspelled.same sN
    replace Plarges := Plarges.same sN
    replace Priches := Priches.same sN
    replace Psolved := Psolved.same sN
    replace Pbroken := Pbroken.same sN
    clear sN H13
    refine ⟨fun σ' H' => ∃ Dt', σ' = [some (.ref q), some x, some y, some (.ref l), some (.ref o), g, kk, some (.ref Dplaces), some (.ref Dpairs), some (.ref Dusers), some (.ref Dspelled), some (.ref Dlarges), some (.ref Driches), some (.ref Dsolved), some (.ref Dbroken), some (.ref Dt'), none, none] ∧ Same H14 H' ∧ Tls tx H' Dt' 8, ?_, ?_⟩
    · skip
      obtain ⟨ps, eDt, lps, hps⟩ := PT
      refine ⟨_, rfl, ?_⟩
      refine in_lst2 ?_
      refine told_one Ppairs ?_ ?_ M.e_Mismatch.er (M.e_Mismatch.no _ (.head _)) nofun ?_ (fun s => px (s4.trans s)) (fun p1 G1 t1 m1 => ?_)
      · rfl
      · show 17 < 18
        decide
      · rfl
      refine in_cons ?_
      refine told_one (Psolved.same t1) ?_ ?_ M.e_NotSolvable.er (M.e_NotSolvable.no _ (.head _)) nofun ?_ (fun s => px ((s4.trans t1).trans s)) (fun p2 G2 t2 m2 => ?_)
      · rfl
      · show 17 < 18
        decide
      · rfl
      refine in_cons ?_
      refine told_one ((Pbroken.same t1).same t2) ?_ ?_ M.e_Broken.er (M.e_Broken.no _ (.head _)) nofun ?_ (fun s => px (((s4.trans t1).trans t2).trans s)) (fun p3 G3 t3 m3 => ?_)
      · rfl
      · show 17 < 18
        decide
      · rfl
      have hm : ∀ z ∈ ([p1, p2, p3] : List Addr), G3 z = some (.lst ([tx, tx].map V.str)) := by
        intro z hz
        simp only [List.mem_cons, List.not_mem_nil, or_false] at hz
        rcases hz with rfl | rfl | rfl
        · exact (t3 _ _ (t2 _ _ m1))
        · exact (t3 _ _ m2)
        · exact m3
      refine ⟨by show 3 ≤ sizeLine; decide, fun pq hq => ⟨Dt', pq, ps.map V.ref, ([p1, p2, p3] : List Addr).map V.ref, rfl, rfl, ?_, upd_same, ?_, fun p hp => ?_⟩⟩
      · exact (MG.Same.new ((t1.trans t2).trans t3) hq) _ _ eDt
      · rw [List.length_map, List.length_map, lps]
        show 5 + 3 ≤ sizeLine
        decide
      have sq : Same H14 (upd G3 pq (.lst (([p1, p2, p3] : List Addr).map V.ref))) := MG.Same.new ((t1.trans t2).trans t3) hq
      have sg : Same G3 (upd G3 pq (.lst (([p1, p2, p3] : List Addr).map V.ref))) := MG.Same.new (Same.refl _) hq
      rw [← List.map_append] at *
      obtain ⟨r1, r2⟩ := tls_new (t := tx) (ps ++ [p1, p2, p3]) hp (fun z hz => by
        rcases List.mem_append.mp hz with hz | hz
        · exact sq _ _ (hps z hz)
        · exact sg _ _ (hm z hz))
      exact ⟨p, rfl, sq.trans r1, by rw [List.length_append, lps] at r2; exact r2⟩
    clear PT Dt'
    rintro σ' H15 ⟨Dt', rfl, sN, PT⟩
    replace el := sN _ _ el
    replace s4 := s4.trans sN
    replace Pplaces := Pplaces.same sN
    replace Ppairs := Ppairs.same sN
    replace Pusers := Pusers.same sN
    replace Pspelled := Pspelled.same sN
    replace Plarges := Plarges.same sN
    replace Priches := Priches.same sN
    replace Psolved := Psolved.same sN
    replace Pbroken := Pbroken.same sN
    clear sN H14
    refine ⟨fun σ' H' => σ' = [some (.ref q), some x, some y, some (.ref l), some (.ref o), g, kk, some (.ref Dplaces), some (.ref Dpairs), some (.ref Dusers), some (.ref Dspelled), some (.ref Dlarges), some (.ref Driches), some (.ref Dsolved), some (.ref Dbroken), some (.ref Dt'), none, none] ∧ Same H15 H', ?_, ?_⟩
    · refine ⟨_, rfl, ?_⟩
      refine ⟨_, rfl, l, _, _, _, rfl, rfl, SqL.of el, rfl, _, rfl, l, _, _, _, rfl, rfl, SqL.of el, rfl, by show 2 ≤ sizeLine; decide, fun p1 h1 => ⟨by show 1 ≤ sizeLine; decide, fun p2 h2 => ⟨p2, 8, [.ref p1], rfl, rfl, upd_same, by decide, by decide, by show 1 * 8 ≤ sizeLine; decide, fun p3 h3 => ?_⟩⟩⟩
      have sA : Same H15 (upd H15 p1 (.lst [.str tx, .str tx])) := MG.Same.new (Same.refl _) h1
      have sB : Same (upd H15 p1 (.lst [.str tx, .str tx])) (upd (upd H15 p1 (.lst [.str tx, .str tx])) p2 (.lst [.ref p1])) := MG.Same.new (Same.refl _) h2
      have m1 : ∀ z ∈ List.replicate 8 p1, (upd (upd H15 p1 (.lst [.str tx, .str tx])) p2 (.lst [.ref p1])) z = some (.lst ([tx, tx].map V.str)) := fun z hz => by
        rw [List.eq_of_mem_replicate hz]
        exact sB _ _ upd_same
      obtain ⟨r1, r2⟩ := tls_new (t := tx) (List.replicate 8 p1) h3 m1
      refine tls_ne (n := 8) (((PT.same sA).same sB).same r1) r2 ax ?_
      have sC := (sA.trans sB).trans r1
      exact ⟨_, rfl, iteF ⟨rfl, sC⟩⟩
    rintro σ' H16 ⟨rfl, sN⟩
    clear PT
    replace el := sN _ _ el
    replace s4 := s4.trans sN
    replace Pplaces := Pplaces.same sN
    replace Ppairs := Ppairs.same sN
    replace Pusers := Pusers.same sN
    replace Pspelled := Pspelled.same sN
    replace Plarges := Plarges.same sN
    replace Priches := Priches.same sN
    replace Psolved := Psolved.same sN
    replace Pbroken := Pbroken.same sN
    clear sN H15
    refine ⟨fun σ' H' => ∃ Dt', σ' = [some (.ref q), some x, some y, some (.ref l), some (.ref o), g, kk, some (.ref Dplaces), some (.ref Dpairs), some (.ref Dusers), some (.ref Dspelled), some (.ref Dlarges), some (.ref Driches), some (.ref Dsolved), some (.ref Dbroken), some (.ref Dt'), none, none] ∧ Same H16 H' ∧ Tls ty H' Dt' 3, ?_, ?_⟩
    · skip
      refine in_lst ?_
      refine told_one Ppairs ?_ ?_ M.e_Mismatch.er (M.e_Mismatch.no _ (.tail _ (.head _))) nofun ?_ (fun s => py (s4.trans s)) (fun p1 G1 t1 m1 => ?_)
      · rfl
      · show 17 < 18
        decide
      · rfl
      refine in_cons ?_
      refine told_one (Psolved.same t1) ?_ ?_ M.e_NotSolvable.er (M.e_NotSolvable.no _ (.tail _ (.head _))) nofun ?_ (fun s => py ((s4.trans t1).trans s)) (fun p2 G2 t2 m2 => ?_)
      · rfl
      · show 17 < 18
        decide
      · rfl
      refine in_cons ?_
      refine told_one ((Pbroken.same t1).same t2) ?_ ?_ M.e_Broken.er (M.e_Broken.no _ (.tail _ (.head _))) nofun ?_ (fun s => py (((s4.trans t1).trans t2).trans s)) (fun p3 G3 t3 m3 => ?_)
      · rfl
      · show 17 < 18
        decide
      · rfl
      have hm : ∀ z ∈ ([p1, p2, p3] : List Addr), G3 z = some (.lst ([ty, ty].map V.str)) := by
        intro z hz
        simp only [List.mem_cons, List.not_mem_nil, or_false] at hz
        rcases hz with rfl | rfl | rfl
        · exact (t3 _ _ (t2 _ _ m1))
        · exact (t3 _ _ m2)
        · exact m3
      refine ⟨by show 3 ≤ sizeLine; decide, fun p hp => ?_⟩
      obtain ⟨r1, r2⟩ := tls_new [p1, p2, p3] hp hm
      exact ⟨p, rfl, ((t1.trans t2).trans t3).trans r1, r2⟩
    rintro σ' H17 ⟨Dt', rfl, sN, PT⟩
    replace el := sN _ _ el
    replace s4 := s4.trans sN
    replace Pplaces := Pplaces.same sN
    replace Ppairs := Ppairs.same sN
    replace Pusers := Pusers.same sN
    replace Pspelled := Pspelled.same sN
    replace Plarges := Plarges.same sN
    replace Priches := Priches.same sN
    replace Psolved := Psolved.same sN
    replace Pbroken := Pbroken.same sN
    clear sN H16
    refine ⟨fun σ' H' => σ' = [some (.ref q), some x, some y, some (.ref l), some (.ref o), g, kk, some (.ref Dplaces), some (.ref Dpairs), some (.ref Dusers), some (.ref Dspelled), some (.ref Dlarges), some (.ref Driches), some (.ref Dsolved), some (.ref Dbroken), some (.ref Dt'), none, none] ∧ Same H17 H', ?_, ?_⟩
    · refine ⟨_, rfl, ?_⟩
      refine ⟨_, rfl, l, _, _, _, rfl, rfl, SqL.of el, rfl, _, rfl, l, _, _, _, rfl, rfl, SqL.of el, rfl, by show 2 ≤ sizeLine; decide, fun p1 h1 => ⟨by show 1 ≤ sizeLine; decide, fun p2 h2 => ⟨p2, 3, [.ref p1], rfl, rfl, upd_same, by decide, by decide, by show 1 * 3 ≤ sizeLine; decide, fun p3 h3 => ?_⟩⟩⟩
      have sA : Same H17 (upd H17 p1 (.lst [.str ty, .str ty])) := MG.Same.new (Same.refl _) h1
      have sB : Same (upd H17 p1 (.lst [.str ty, .str ty])) (upd (upd H17 p1 (.lst [.str ty, .str ty])) p2 (.lst [.ref p1])) := MG.Same.new (Same.refl _) h2
      have m1 : ∀ z ∈ List.replicate 3 p1, (upd (upd H17 p1 (.lst [.str ty, .str ty])) p2 (.lst [.ref p1])) z = some (.lst ([ty, ty].map V.str)) := fun z hz => by
        rw [List.eq_of_mem_replicate hz]
        exact sB _ _ upd_same
      obtain ⟨r1, r2⟩ := tls_new (t := ty) (List.replicate 3 p1) h3 m1
      refine tls_ne (n := 3) (((PT.same sA).same sB).same r1) r2 ay ?_
      have sC := (sA.trans sB).trans r1
      refine ⟨_, rfl, iteF ?_⟩
      have elC := sC _ _ el
      have s4C := s4.trans sC
      obtain ⟨asx, kx, shx, lnx, hkx⟩ := px s4C
      refine ⟨_, rfl, _, asx, kx, tx, rfl, shx, lnx, hkx, fun G1 t1 => ?_⟩
      obtain ⟨asy, ky, shy, lny, hky⟩ := py (s4C.trans t1)
      refine ⟨_, rfl, _, asy, ky, ty, rfl, shy, lny, hky, fun G2 t2 => ⟨by show 2 ≤ sizeLine; decide, fun pl hpl => ⟨_, rfl, ?_⟩⟩⟩
      have t3 : Same G2 (upd G2 pl (.lst [.str tx, .str ty])) := MG.Same.new (Same.refl G2) hpl
      refine ne_strs (ss := [tx, ty]) (SqL.of upd_same) (SqL.of (t3 _ _ (t2 _ _ (t1 _ _ elC)))) (fun z hz => ?_) ⟨_, rfl, iteF ⟨rfl, ((sC.trans t1).trans t2).trans t3⟩⟩
      rcases List.mem_cons.mp hz with rfl | hz
      · exact ax
      · rcases List.mem_cons.mp hz with rfl | hz
        · exact ay
        · cases hz
    rintro σ' H18 ⟨rfl, sN⟩
    clear PT
    replace el := sN _ _ el
    replace s4 := s4.trans sN
    replace Pplaces := Pplaces.same sN
    replace Ppairs := Ppairs.same sN
    replace Pusers := Pusers.same sN
    replace Pspelled := Pspelled.same sN
    replace Plarges := Plarges.same sN
    replace Priches := Priches.same sN
    replace Psolved := Psolved.same sN
    replace Pbroken := Pbroken.same sN
    clear sN H17
    refine ⟨fun σ' H' => ∃ (Dg : Addr) (gs : List Addr), σ' = [some (.ref q), some x, some y, some (.ref l), some (.ref o), g, kk, some (.ref Dplaces), some (.ref Dpairs), some (.ref Dusers), some (.ref Dspelled), some (.ref Dlarges), some (.ref Driches), some (.ref Dsolved), some (.ref Dbroken), some (.ref Dt'), some (.ref Dg), none] ∧ Same H18 H' ∧ H' Dg = some (.lst (gs.map V.ref)) ∧ gs.length = 6 ∧ ∀ g ∈ gs, Grp cs H' g, ?_, ?_⟩
    · skip
      refine ⟨_, rfl, by show 2 ≤ sizeLine; decide, fun g1 h1 => ?_⟩
      obtain ⟨u1, v1⟩ := grp_prs (j := 19) Pplaces 19 rfl (by decide) h1
      generalize upd H18 g1 (.tup [.ref Dplaces, .int 19]) = G1 at *
      refine ⟨_, rfl, by show 2 ≤ sizeLine; decide, fun g2 h2 => ?_⟩
      obtain ⟨u2, v2⟩ := grp_prs (j := 21) (Ppairs.same u1) 21 rfl (by decide) h2
      generalize upd G1 g2 (.tup [.ref Dpairs, .int 21]) = G2 at *
      replace v1 := v1.same u2
      refine ⟨_, rfl, by show 2 ≤ sizeLine; decide, fun g3 h3 => ?_⟩
      obtain ⟨u3, v3⟩ := grp_prs (j := 26) ((Pusers.same u1).same u2) 26 rfl (by decide) h3
      generalize upd G2 g3 (.tup [.ref Dusers, .int 26]) = G3 at *
      replace v1 := v1.same u3
      replace v2 := v2.same u3
      refine fun a J t n e => ⟨by show 1 ≤ sizeLine; decide, fun D hD => ⟨by show 2 ≤ sizeLine; decide, fun g4 h4 => ?_⟩⟩
      obtain ⟨u4, v4⟩ := grp_one (j := 28) t e hD 28 rfl (by decide) h4
      generalize upd (upd J D (.lst [.ref a])) g4 (.tup [.ref D, .int 28]) = G4 at *
      clear e hD h4 t n
      replace v1 := v1.same u4
      replace v2 := v2.same u4
      replace v3 := v3.same u4
      refine ⟨_, rfl, by show 2 ≤ sizeLine; decide, fun g5 h5 => ?_⟩
      obtain ⟨u5, v5⟩ := grp_prs (j := 29) ((((Pspelled.same u1).same u2).same u3).same u4) 29 rfl (by decide) h5
      generalize upd G4 g5 (.tup [.ref Dspelled, .int 29]) = G5 at *
      replace v1 := v1.same u5
      replace v2 := v2.same u5
      replace v3 := v3.same u5
      replace v4 := v4.same u5
      refine fun a J t n e => ⟨by show 1 ≤ sizeLine; decide, fun D hD => ⟨by show 2 ≤ sizeLine; decide, fun g6 h6 => ?_⟩⟩
      obtain ⟨u6, v6⟩ := grp_one (j := 30) t e hD 30 rfl (by decide) h6
      generalize upd (upd J D (.lst [.ref a])) g6 (.tup [.ref D, .int 30]) = G6 at *
      clear e hD h6 t n
      replace v1 := v1.same u6
      replace v2 := v2.same u6
      replace v3 := v3.same u6
      replace v4 := v4.same u6
      replace v5 := v5.same u6
      have sn := (((((u1.trans u2).trans u3).trans u4).trans u5).trans u6)
      have hm : ∀ z ∈ ([g1, g2, g3, g4, g5, g6] : List Addr), Grp cs G6 z := by
        intro z hz
        simp only [List.mem_cons, List.not_mem_nil, or_false] at hz
        rcases hz with rfl | rfl | rfl | rfl | rfl | rfl
        · exact v1
        · exact v2
        · exact v3
        · exact v4
        · exact v5
        · exact v6
      refine ⟨by show 6 ≤ sizeLine; decide, fun p hp => ?_⟩
      have sp := MG.Same.new (o := .lst (([g1, g2, g3, g4, g5, g6] : List Addr).map V.ref)) (Same.refl _) hp
      exact ⟨p, [g1, g2, g3, g4, g5, g6], rfl, sn.trans sp, upd_same, rfl, fun z hz => (hm z hz).same sp⟩
    rintro σ' H19 ⟨Dg, gs, rfl, sN, eG, lG, hG⟩
    replace el := sN _ _ el
    replace s4 := s4.trans sN
    replace Pplaces := Pplaces.same sN
    replace Ppairs := Ppairs.same sN
    replace Pusers := Pusers.same sN
    replace Pspelled := Pspelled.same sN
    replace Plarges := Plarges.same sN
    replace Priches := Priches.same sN
    replace Psolved := Psolved.same sN
    replace Pbroken := Pbroken.same sN
    clear sN H18
    refine ⟨fun σ' H' => ∃ (Dg : Addr) (gs : List Addr), σ' = [some (.ref q), some x, some y, some (.ref l), some (.ref o), g, kk, some (.ref Dplaces), some (.ref Dpairs), some (.ref Dusers), some (.ref Dspelled), some (.ref Dlarges), some (.ref Driches), some (.ref Dsolved), some (.ref Dbroken), some (.ref Dt'), some (.ref Dg), none] ∧ Same H19 H' ∧ H' Dg = some (.lst (gs.map V.ref)) ∧ gs.length = 11 ∧ ∀ g ∈ gs, Grp cs H' g, ?_, ?_⟩
    · skip
      refine ⟨_, rfl, ?_⟩
      refine fun a J t n e => ⟨by show 1 ≤ sizeLine; decide, fun D hD => ⟨by show 2 ≤ sizeLine; decide, fun g1 h1 => ?_⟩⟩
      obtain ⟨u1, v1⟩ := grp_one (j := 31) t e hD 31 rfl (by decide) h1
      generalize upd (upd J D (.lst [.ref a])) g1 (.tup [.ref D, .int 31]) = G1 at *
      clear e hD h1 t n
      refine ⟨_, rfl, by show 2 ≤ sizeLine; decide, fun g2 h2 => ?_⟩
      obtain ⟨u2, v2⟩ := grp_prs (j := 32) (Plarges.same u1) 32 rfl (by decide) h2
      generalize upd G1 g2 (.tup [.ref Dlarges, .int 32]) = G2 at *
      replace v1 := v1.same u2
      refine ⟨_, rfl, by show 2 ≤ sizeLine; decide, fun g3 h3 => ?_⟩
      obtain ⟨u3, v3⟩ := grp_prs (j := 33) ((Priches.same u1).same u2) 33 rfl (by decide) h3
      generalize upd G2 g3 (.tup [.ref Driches, .int 33]) = G3 at *
      replace v1 := v1.same u3
      replace v2 := v2.same u3
      refine ⟨_, rfl, by show 2 ≤ sizeLine; decide, fun g4 h4 => ?_⟩
      obtain ⟨u4, v4⟩ := grp_prs (j := 34) (((Psolved.same u1).same u2).same u3) 34 rfl (by decide) h4
      generalize upd G3 g4 (.tup [.ref Dsolved, .int 34]) = G4 at *
      replace v1 := v1.same u4
      replace v2 := v2.same u4
      replace v3 := v3.same u4
      refine ⟨_, rfl, by show 2 ≤ sizeLine; decide, fun g5 h5 => ?_⟩
      obtain ⟨u5, v5⟩ := grp_prs (j := 35) ((((Pbroken.same u1).same u2).same u3).same u4) 35 rfl (by decide) h5
      generalize upd G4 g5 (.tup [.ref Dbroken, .int 35]) = G5 at *
      replace v1 := v1.same u5
      replace v2 := v2.same u5
      replace v3 := v3.same u5
      replace v4 := v4.same u5
      have sn := ((((u1.trans u2).trans u3).trans u4).trans u5)
      have hm : ∀ z ∈ ([g1, g2, g3, g4, g5] : List Addr), Grp cs G5 z := by
        intro z hz
        simp only [List.mem_cons, List.not_mem_nil, or_false] at hz
        rcases hz with rfl | rfl | rfl | rfl | rfl
        · exact v1
        · exact v2
        · exact v3
        · exact v4
        · exact v5
      refine ⟨by show 5 ≤ sizeLine; decide, fun pq hq => ⟨Dg, pq, gs.map V.ref, ([g1, g2, g3, g4, g5] : List Addr).map V.ref, rfl, rfl, ?_, upd_same, ?_, fun p hp => ?_⟩⟩
      · exact (MG.Same.new sn hq) _ _ eG
      · rw [List.length_map, List.length_map, lG]
        show 6 + 5 ≤ sizeLine
        decide
      have sq := MG.Same.new (o := .lst (([g1, g2, g3, g4, g5] : List Addr).map V.ref)) (Same.refl _) hq
      have sp := MG.Same.new (o := .lst (gs.map V.ref ++ ([g1, g2, g3, g4, g5] : List Addr).map V.ref)) (Same.refl _) hp
      refine ⟨p, gs ++ [g1, g2, g3, g4, g5], rfl, (sn.trans sq).trans sp, ?_, ?_, fun z hz => ?_⟩
      · rw [List.map_append]
        exact upd_same
      · rw [List.length_append, lG]
        rfl
      · rcases List.mem_append.mp hz with hz | hz
        · exact (((hG z hz).same sn).same sq).same sp
        · exact ((hm z hz).same sq).same sp
    clear eG lG hG gs
    rintro σ' H20 ⟨Dg, gs, rfl, sN, eG, lG, hG⟩
    replace el := sN _ _ el
    replace s4 := s4.trans sN
    replace Pplaces := Pplaces.same sN
    replace Ppairs := Ppairs.same sN
    replace Pusers := Pusers.same sN
    replace Pspelled := Pspelled.same sN
    replace Plarges := Plarges.same sN
    replace Priches := Priches.same sN
    replace Psolved := Psolved.same sN
    replace Pbroken := Pbroken.same sN
    clear sN H19
    refine ⟨_, rfl, Dg, gs.map V.ref, List.replicate 11 (.bl true), rfl, SqL.of eG, ?_, ?_, fun i z v H' hz hv s => ?_, fun p H' s _ e => ⟨p, List.replicate 11 true, rfl, SqL.of (by rw [e, List.map_replicate]), ?_⟩⟩
    · rw [List.length_map, lG, List.length_replicate]
    · rw [List.length_map, lG]
      decide
    · obtain ⟨g, hg, rfl⟩ := ref_get hz
      obtain rfl := rep_get hv
      obtain ⟨D, as, j, eg, hj, eD, hl, he⟩ := (hG g hg).same s
      refine ⟨_, rfl, g, _, _, _, rfl, rfl, SqT.of eg, rfl, D, as.map V.ref, List.replicate as.length (.bl true), rfl, SqL.of eD, by rw [List.length_map, List.length_replicate], by rw [List.length_map]; omega, fun i2 z2 v2 J hz2 hv2 s2 => ?_, fun p2 J s2 _ e2 => ⟨p2, List.replicate as.length true, rfl, SqL.of (by rw [e2, List.map_replicate]), ?_⟩⟩
      · obtain ⟨a, ha, rfl⟩ := ref_get hz2
        obtain rfl := rep_get hv2
        obtain ⟨fs, e⟩ := he a ha
        exact ⟨_, rfl, _, rfl, g, _, _, _, rfl, rfl, SqT.of (s2 _ _ eg), rfl, a, cs j, fs, j, rfl, S.er j hj, e.same s2, S.so j hj, fun H3 s3 => ⟨rfl, s3⟩⟩
      · have e3 : (List.replicate as.length true).all id = true := by simp
        rw [e3]
        exact ⟨rfl, s2⟩
    · have e3 : (List.replicate 11 true).all id = true := by decide
      rw [e3]
      exact k _ (s4.trans s)
abbrev RightC (P : Program) (w : World) (K : PySem.W.Frag) (mg : Str → Option Value) (base : Heap) : Prop := CalG P w K mg base 24 "_law_right" spRight []
end
end Lw

namespace Lw
open PySem PySem.Spec PyProof.Rows L2 MG
abbrev s_law : Stmt := top 66
section
variable {P : Program} {w : World} {K : PySem.W.Frag} {mg : Str → Option Value} {base : Heap} {cs : Nat → Addr} {C : Addr}
abbrev FromC (P : Program) (w : World) (K : PySem.W.Frag) (mg : Str → Option Value) (base : Heap) : Prop := CalG P w K mg base 4 "_law_from" (spFrom K) []
/-- the constants -/
structure CstG (mg : Str → Option Value) : Prop where
  g_MOST_SIDE : ∃ t, mg "MOST_SIDE" = some (.int 16 t)
  g_MOST_WEIGHT : ∃ t, mg "MOST_WEIGHT" = some (.int 1000 t)
  g_MOST_LEVELS : ∃ t, mg "MOST_LEVELS" = some (.int 60 t)
  g_MOST_POWER : ∃ t, mg "MOST_POWER" = some (.int 9 t)
  g_MOST_RANK : ∃ t, mg "MOST_RANK" = some (.int 24 t)
  g_MOST_TRACE_RANK : ∃ t, mg "MOST_TRACE_RANK" = some (.int 16 t)
def lims : List Int := [16, 1000, 60, 9, 24, 16]
def limT : List Str := lims.map fun i => toString i
theorem lim_txt : listText limT = Str.ofString "[16, 1000, 60, 9, 24, 16]" := by decide +kernel
theorem lim_small : ∀ i ∈ lims, i.natAbs.log2 < 1920 := by decide +kernel
def spLaw (K : PySem.W.Frag) : Sp := fun vs H Q _ => ∃ (a : Addr) (ns : List Int), vs = [.ref a] ∧ SqL K H a (ns.map V.int) ∧ ns.length ≤ 63 ∧ ∀ H', Q (.bl true) H'
theorem sc_law : FnScope ["_law_script", "_law_limits_told", "_law_k"] ["_law_script"] (defScope s_law) := ⟨rfl, rfl, rfl, by decide +kernel, rfl, by decide +kernel, by decide +kernel⟩
theorem ok_law {f : Addr} {fd : FuncData} (F : Fun K "law" "law" s_law f fd) (T : Blt mg) (N : CstG mg) (d_repr : DunF P w K mg base 2 C "__repr__" (spRepr C)) (c_right : RightC P w K mg base) (c_from : FromC P w K mg base) : FnG P w K mg base CX0 26 f fd ["_law_script"] (spLaw K) := by
  obtain ⟨⟨t1, g1⟩, ⟨t2, g2⟩, ⟨t3, g3⟩, ⟨t4, g4⟩, ⟨t5, g5⟩, ⟨t6, g6⟩⟩ := N
  refine fun_okG F sc_law (fun vs H Q E h => ?_) (fun cdv A outer s H vs Q E bare hr h => ?_)
  · obtain ⟨a, ns, rfl, _⟩ := h
    rfl
  · obtain ⟨a, ns, rfl, hS, hl, k⟩ := h
    refine ⟨_, (pss_cons (ps_set (i := 1) sc_law.nd rfl (Or.inl rfl) (pe_lst (pa_cons (pe_glob (v := V.int 16) rfl g1 ⟨_, rfl⟩) (pa_cons (pe_glob (v := V.int 1000) rfl g2 ⟨_, rfl⟩) (pa_cons (pe_glob (v := V.int 60) rfl g3 ⟨_, rfl⟩) (pa_cons (pe_glob (v := V.int 9) rfl g4 ⟨_, rfl⟩) (pa_cons (pe_glob (v := V.int 24) rfl g5 ⟨_, rfl⟩) (pa_cons (pe_glob (v := V.int 16) rfl g6 ⟨_, rfl⟩) pa_nil))))))))
  (pss_cons (ps_if (pt_cmpR op_ne (pe_callB (id := "repr") (call_reprS (K := K) (own := ownR C) (ownF d_repr) bare hr) (by rfl) T.b_repr (by decide +kernel) (pa_cons (pv 1) pa_nil)) pe_str (nomark _)) (pss_one (ps_ret pe_bl))
  pss_nil)
  (pss_one (ps_ret (pe_callB (id := "all") (cr_all rfl) (by rfl) T.b_all (by decide +kernel) (pa_cons (pe_mapR (j := 2) (fun σ H Q Q' hq ⟨v, e, p, ys, e1, o, i, j, e2, i2, j2, e3, q⟩ => ⟨v, e, p, ys, e1, o, i, j, e2, i2, j2, e3, hq _ _ q⟩) (pe_lc (own := [("_law_k", 2)]) (g := gName 2) (tt := tYes) rfl sc_law.nd (pi_range1 (by rfl) T.b_range (pa_cons (pe_callB (id := "max") (call_max2 rfl) (by rfl) T.b_max (by decide +kernel) (pa_cons pe_int (pa_cons (pe_callB (id := "min") (call_min2 rfl) (by rfl) T.b_min (by decide +kernel) (pa_cons (pe_callB (id := "len") call_len_seq (by rfl) T.b_len (by decide +kernel) (pa_cons (pv 0) pa_nil)) (pa_cons pe_int pa_nil))) pa_nil))) pa_nil)) (blkOk_by (N := ["_law_script", "_law_limits_told", "_law_k"]) (sc := defScope s_law) (by decide +kernel)) (fun _ _ _ _ _ => (pg_name (i := 2) sc_law.nd rfl (Or.inl rfl))) (fun _ _ _ _ _ => pts_nil) (fun _ _ _ _ _ => (pe_cut (pe_cg c_right bare hr (by decide) rfl (pa_cons (pe_cg c_from bare hr (by decide) rfl (pa_cons (pv 0) (pa_cons (pv 2) pa_nil))) pa_nil)))))) pa_nil)))))), ?_⟩
    refine ⟨by show 6 ≤ sizeLine; decide, fun lo hlo => ?_⟩
    have s5 : Same H (upd H lo (.lst (lims.map V.int))) := MG.Same.new (Same.refl H) hlo
    have elo : upd H lo (.lst (lims.map V.int)) lo = some (.lst (lims.map V.int)) := upd_same
    have sh : Shw K (ownR C) 2 (upd H lo (.lst (lims.map V.int))) [lo] 4 (.ref lo) (listText limT) := by
      refine .list (as := []) (k := 2) (x := .int 16) (l := [.int 1000, .int 60, .int 9, .int 24, .int 16]) (SqL.of elo) (by simp) rfl (fun i y t h1 h2 => ?_) (fun b hb => hb) (by decide)
      have h1' : (lims.map V.int)[i]? = some y := h1
      rw [List.getElem?_map] at h1'
      unfold limT at h2
      rw [List.getElem?_map] at h2
      cases e : lims[i]? with
      | none => rw [e] at h2; cases h2
      | some z =>
        rw [e] at h1' h2
        obtain rfl := Option.some.inj h1'
        obtain rfl := Option.some.inj h2
        exact .int (lim_small z (List.mem_of_getElem? e))
    refine ⟨_, rfl, .ref lo, [lo], 4, _, rfl, sh, by rw [lim_txt]; decide, by decide, fun H2 sH => ?_⟩
    rw [lim_txt]
    refine ⟨rfl, _, rfl, ?_⟩
    refine ifF (by rw [decide_eq_true rfl]; rfl) ?_
    have hS2 := (s5.trans sH).seq hS
    clear sh s5 sH elo
    have hm : ∃ m : Nat, (m : Int) = (if (if (4 : Int) < ((ns.map V.int).length : Int) then 4 else ((ns.map V.int).length : Int)) > 1 then (if (4 : Int) < ((ns.map V.int).length : Int) then 4 else ((ns.map V.int).length : Int)) else 1) ∧ m ≤ 63 := by
      rw [List.length_map]
      refine ⟨(if (if (4 : Int) < (ns.length : Int) then 4 else (ns.length : Int)) > 1 then (if (4 : Int) < (ns.length : Int) then 4 else (ns.length : Int)) else 1).toNat, ?_, ?_⟩
      · split <;> (try split) <;> omega
      · split <;> (try split) <;> omega
    obtain ⟨m, em, hm⟩ := hm
    refine ⟨_, rfl, a, _, rfl, Or.inl hS2, _, _, rfl, _, _, rfl, _, List.replicate m (.bl true), rfl, ?_, ?_, ?_, fun i y H' hy s' => ?_, fun D H' s' _ e => ?_⟩
    · rw [← em]; omega
    · rw [← em]; omega
    · rw [← em, List.length_replicate]
    · obtain rfl := rep_get hy
      refine ⟨_, rfl, _, rfl, a, ns, _, rfl, s'.seq hS2, by omega, fun q H1 hq s1 q0 => ⟨q, rfl, q0, fun H2 k2 => ⟨rfl, fun b o hb => ?_⟩⟩⟩
      exact k2 _ _ (s1 _ _ hb) (ne_of_none hb hq)
    · refine ⟨D, List.replicate m true, rfl, SqL.of (by rw [e, List.map_replicate]), ?_⟩
      have e2 : (List.replicate m true).all id = true := by simp
      rw [e2]
      exact k _
end
end Lw

namespace Lw
open PySem PySem.Spec PyProof.Rows L2 MG
def fldN : Nat → List Str
  | 19 => ["place"]
  | 21 => ["first", "second"]
  | 26 => ["user"]
  | 28 => []
  | 29 => ["spelled"]
  | 30 => []
  | 31 => []
  | 32 => ["limit"]
  | 33 => ["limit"]
  | 34 => ["reason", "shown"]
  | 35 => ["claim", "found"]
  | _ => ["given"]
theorem fld_ord : ∀ i ∈ ordL, fldN i = (["given"] : List Str) := by decide +kernel
/-- no class has one of its fields of itself -/
def noAl (K : PySem.W.Frag) (L : List Addr) (n : Nat) : Bool := (List.range n).all fun i => (fldN i).all fun f => decide (PySem.W.findIn K (.ref (L.getD i 0)) f = some none)
theorem noAl_ok {K : PySem.W.Frag} {L : List Addr} {n i : Nat} {f : Str} (h : noAl K L n = true) (hi : i < n) (hf : f ∈ fldN i) : PySem.W.findIn K (.ref (L.getD i 0)) f = some none :=
  of_decide_eq_true (List.all_eq_true.mp (List.all_eq_true.mp h i (List.mem_range.mpr hi)) f hf)
theorem bs_nm : ∀ j, j < 3 → bsn j = nmB j
  | 0, _ => rfl
  | 1, _ => rfl
  | 2, _ => rfl
theorem ap_get {L L' : List Addr} {i : Nat} (h : i < L.length) : (L ++ L').getD i 0 = L.getD i 0 := by
  rw [List.getD_eq_getElem?_getD, List.getD_eq_getElem?_getD, List.getElem?_append_left h]
section
variable {K : PySem.W.Frag} {c0 c1 c2 c3 c4 c5 c6 c7 c8 c9 c10 c11 c12 c13 c14 c15 c16 c17 c18 c19 c20 c21 c22 c23 c24 c25 c26 c27 c28 c29 c30 c31 c32 c33 c34 c35 c36 c37 c38 : Addr}
theorem cs_er (h : erAll K bas [c0, c1, c2, c3, c4, c5, c6, c7, c8, c9, c10, c11, c12, c13, c14, c15, c16, c17, c18, c19, c20, c21, c22, c23, c24, c25, c26, c27, c28, c29, c30, c31, c32, c33, c34, c35] = true) : ∀ i, i < 36 → ErC K ([c0, c1, c2, c3, c4, c5, c6, c7, c8, c9, c10, c11, c12, c13, c14, c15, c16, c17, c18, c19, c20, c21, c22, c23, c24, c25, c26, c27, c28, c29, c30, c31, c32, c33, c34, c35, c36, c37, c38].getD i 0) := fun i hi => by
  have z := erAll_ok h (i := i) hi
  rw [← ap_get (L := [c0, c1, c2, c3, c4, c5, c6, c7, c8, c9, c10, c11, c12, c13, c14, c15, c16, c17, c18, c19, c20, c21, c22, c23, c24, c25, c26, c27, c28, c29, c30, c31, c32, c33, c34, c35]) (L' := [c36, c37, c38]) (i := i) hi] at z
  exact z
theorem cs_no (h : noAl K [c0, c1, c2, c3, c4, c5, c6, c7, c8, c9, c10, c11, c12, c13, c14, c15, c16, c17, c18, c19, c20, c21, c22, c23, c24, c25, c26, c27, c28, c29, c30, c31, c32, c33, c34, c35] 36 = true) : ∀ i, i < 36 → ∀ f ∈ fldN i, PySem.W.findIn K (.ref ([c0, c1, c2, c3, c4, c5, c6, c7, c8, c9, c10, c11, c12, c13, c14, c15, c16, c17, c18, c19, c20, c21, c22, c23, c24, c25, c26, c27, c28, c29, c30, c31, c32, c33, c34, c35, c36, c37, c38].getD i 0)) f = some none := fun i hi f hf => by
  have z := noAl_ok h hi hf
  rw [← ap_get (L := [c0, c1, c2, c3, c4, c5, c6, c7, c8, c9, c10, c11, c12, c13, c14, c15, c16, c17, c18, c19, c20, c21, c22, c23, c24, c25, c26, c27, c28, c29, c30, c31, c32, c33, c34, c35]) (L' := [c36, c37, c38]) (i := i) hi] at z
  exact z
theorem cs_so (h : soAll K bas 36 [c0, c1, c2, c3, c4, c5, c6, c7, c8, c9, c10, c11, c12, c13, c14, c15, c16, c17, c18, c19, c20, c21, c22, c23, c24, c25, c26, c27, c28, c29, c30, c31, c32, c33, c34, c35, c36, c37, c38] = true) (hc : clAll K [c0, c1, c2, c3, c4, c5, c6, c7, c8, c9, c10, c11, c12, c13, c14, c15, c16, c17, c18, c19, c20, c21, c22, c23, c24, c25, c26, c27, c28, c29, c30, c31, c32, c33, c34, c35, c36, c37, c38] = true) : ∀ i, i < 36 → SortK K (fun i => [c0, c1, c2, c3, c4, c5, c6, c7, c8, c9, c10, c11, c12, c13, c14, c15, c16, c17, c18, c19, c20, c21, c22, c23, c24, c25, c26, c27, c28, c29, c30, c31, c32, c33, c34, c35, c36, c37, c38].getD i 0) ([c0, c1, c2, c3, c4, c5, c6, c7, c8, c9, c10, c11, c12, c13, c14, c15, c16, c17, c18, c19, c20, c21, c22, c23, c24, c25, c26, c27, c28, c29, c30, c31, c32, c33, c34, c35, c36, c37, c38].getD i 0) i := fun i hi => by
  obtain ⟨h1, h2, h3⟩ := soAll_ok h hc rfl hi
  exact ⟨h1, h2, fun j hj => by rw [bs_nm j hj]; exact h3 j hj⟩
end
theorem all_mk {l : PySem.W.OpenLaw} {w : World} {K : PySem.W.Frag} {h : Heap} {mg : Str → Option Value} {fa fD0 fD1 fD2 fD3 fD4 fD5 fD6 fD7 fD8 fD9 fD10 fD11 fD12 C fM0 fI tI : Addr} (X : K.In h) (G : h.Ns mainGlobals mg) (hfa : mg "law" = some (.ref fa))
    {odD0 anD0 : Option Addr} {slD0 : Array (Option Value)} {ocD0 kVD0 dcD0 pmD0 cdD0 ctD0 : Value}
    {odD1 anD1 : Option Addr} {slD1 : Array (Option Value)} {ocD1 kVD1 dcD1 pmD1 cdD1 ctD1 : Value}
    {odD2 anD2 : Option Addr} {slD2 : Array (Option Value)} {ocD2 kVD2 dcD2 pmD2 cdD2 ctD2 : Value}
    {odD3 anD3 : Option Addr} {slD3 : Array (Option Value)} {ocD3 kVD3 dcD3 pmD3 cdD3 ctD3 : Value}
    {odD4 anD4 : Option Addr} {slD4 : Array (Option Value)} {ocD4 kVD4 dcD4 pmD4 cdD4 ctD4 : Value}
    {odD5 anD5 : Option Addr} {slD5 : Array (Option Value)} {ocD5 kVD5 dcD5 pmD5 cdD5 ctD5 : Value}
    {odD6 anD6 : Option Addr} {slD6 : Array (Option Value)} {ocD6 kVD6 dcD6 pmD6 cdD6 ctD6 : Value}
    {odD7 anD7 : Option Addr} {slD7 : Array (Option Value)} {ocD7 kVD7 dcD7 pmD7 cdD7 ctD7 : Value}
    {odD8 anD8 : Option Addr} {slD8 : Array (Option Value)} {ocD8 kVD8 dcD8 pmD8 cdD8 ctD8 : Value}
    {odD9 anD9 : Option Addr} {slD9 : Array (Option Value)} {ocD9 kVD9 dcD9 pmD9 cdD9 ctD9 : Value}
    {odD10 anD10 : Option Addr} {slD10 : Array (Option Value)} {ocD10 kVD10 dcD10 pmD10 cdD10 ctD10 : Value}
    {odD11 anD11 : Option Addr} {slD11 : Array (Option Value)} {ocD11 kVD11 dcD11 pmD11 cdD11 ctD11 : Value}
    {odD12 anD12 : Option Addr} {slD12 : Array (Option Value)} {ocD12 kVD12 dcD12 pmD12 cdD12 ctD12 : Value}
    {odM0 anM0 : Option Addr} {slM0 : Array (Option Value)} {ocM0 kVM0 dcM0 pmM0 cdM0 ctM0 : Value}
    {odI anI : Option Addr} {slI : Array (Option Value)} {ocI kVI dcI pmI cdI ctI : Value}
    {oT : Obj} {nT : Nat} {kT : Tok}
    {c0 c1 c2 c3 c4 c5 c6 c7 c8 c9 c10 c11 c12 c13 c14 c15 c16 c17 c18 c19 c20 c21 c22 c23 c24 c25 c26 c27 c28 c29 c30 c31 c32 c33 c34 c35 c36 c37 c38 : Addr}
    {fE0 : Addr} {odE0 anE0 : Option Addr} {slE0 : Array (Option Value)} {ocE0 kVE0 dcE0 pmE0 cdE0 ctE0 : Value}
    {fE1 : Addr} {odE1 anE1 : Option Addr} {slE1 : Array (Option Value)} {ocE1 kVE1 dcE1 pmE1 cdE1 ctE1 : Value}
    {fE2 : Addr} {odE2 anE2 : Option Addr} {slE2 : Array (Option Value)} {ocE2 kVE2 dcE2 pmE2 cdE2 ctE2 : Value}
    {fE3 : Addr} {odE3 anE3 : Option Addr} {slE3 : Array (Option Value)} {ocE3 kVE3 dcE3 pmE3 cdE3 ctE3 : Value}
    {fE4 : Addr} {odE4 anE4 : Option Addr} {slE4 : Array (Option Value)} {ocE4 kVE4 dcE4 pmE4 cdE4 ctE4 : Value}
    {fE5 : Addr} {odE5 anE5 : Option Addr} {slE5 : Array (Option Value)} {ocE5 kVE5 dcE5 pmE5 cdE5 ctE5 : Value}
    {fE6 : Addr} {odE6 anE6 : Option Addr} {slE6 : Array (Option Value)} {ocE6 kVE6 dcE6 pmE6 cdE6 ctE6 : Value}
    {fE7 : Addr} {odE7 anE7 : Option Addr} {slE7 : Array (Option Value)} {ocE7 kVE7 dcE7 pmE7 cdE7 ctE7 : Value}
    {fE8 : Addr} {odE8 anE8 : Option Addr} {slE8 : Array (Option Value)} {ocE8 kVE8 dcE8 pmE8 cdE8 ctE8 : Value}
    {fE9 : Addr} {odE9 anE9 : Option Addr} {slE9 : Array (Option Value)} {ocE9 kVE9 dcE9 pmE9 cdE9 ctE9 : Value}
    {fE10 : Addr} {odE10 anE10 : Option Addr} {slE10 : Array (Option Value)} {ocE10 kVE10 dcE10 pmE10 cdE10 ctE10 : Value}
    {fE11 : Addr} {odE11 anE11 : Option Addr} {slE11 : Array (Option Value)} {ocE11 kVE11 dcE11 pmE11 cdE11 ctE11 : Value}
    {fE12 : Addr} {odE12 anE12 : Option Addr} {slE12 : Array (Option Value)} {ocE12 kVE12 dcE12 pmE12 cdE12 ctE12 : Value}
    {fE13 : Addr} {odE13 anE13 : Option Addr} {slE13 : Array (Option Value)} {ocE13 kVE13 dcE13 pmE13 cdE13 ctE13 : Value}
    {fE14 : Addr} {odE14 anE14 : Option Addr} {slE14 : Array (Option Value)} {ocE14 kVE14 dcE14 pmE14 cdE14 ctE14 : Value}
    {fE15 : Addr} {odE15 anE15 : Option Addr} {slE15 : Array (Option Value)} {ocE15 kVE15 dcE15 pmE15 cdE15 ctE15 : Value}
    {fE16 : Addr} {odE16 anE16 : Option Addr} {slE16 : Array (Option Value)} {ocE16 kVE16 dcE16 pmE16 cdE16 ctE16 : Value}
    {fE17 : Addr} {odE17 anE17 : Option Addr} {slE17 : Array (Option Value)} {ocE17 kVE17 dcE17 pmE17 cdE17 ctE17 : Value}
    {fE18 : Addr} {odE18 anE18 : Option Addr} {slE18 : Array (Option Value)} {ocE18 kVE18 dcE18 pmE18 cdE18 ctE18 : Value}
    {fE19 : Addr} {odE19 anE19 : Option Addr} {slE19 : Array (Option Value)} {ocE19 kVE19 dcE19 pmE19 cdE19 ctE19 : Value}
    {fE20 : Addr} {odE20 anE20 : Option Addr} {slE20 : Array (Option Value)} {ocE20 kVE20 dcE20 pmE20 cdE20 ctE20 : Value}
    {fE21 : Addr} {odE21 anE21 : Option Addr} {slE21 : Array (Option Value)} {ocE21 kVE21 dcE21 pmE21 cdE21 ctE21 : Value}
    {fE22 : Addr} {odE22 anE22 : Option Addr} {slE22 : Array (Option Value)} {ocE22 kVE22 dcE22 pmE22 cdE22 ctE22 : Value}
    {fE23 : Addr} {odE23 anE23 : Option Addr} {slE23 : Array (Option Value)} {ocE23 kVE23 dcE23 pmE23 cdE23 ctE23 : Value}
    {fE24 : Addr} {odE24 anE24 : Option Addr} {slE24 : Array (Option Value)} {ocE24 kVE24 dcE24 pmE24 cdE24 ctE24 : Value}
    {fE25 : Addr} {odE25 anE25 : Option Addr} {slE25 : Array (Option Value)} {ocE25 kVE25 dcE25 pmE25 cdE25 ctE25 : Value}
    {fE26 : Addr} {odE26 anE26 : Option Addr} {slE26 : Array (Option Value)} {ocE26 kVE26 dcE26 pmE26 cdE26 ctE26 : Value}
    {fE27 : Addr} {odE27 anE27 : Option Addr} {slE27 : Array (Option Value)} {ocE27 kVE27 dcE27 pmE27 cdE27 ctE27 : Value}
    {fE29 : Addr} {odE29 anE29 : Option Addr} {slE29 : Array (Option Value)} {ocE29 kVE29 dcE29 pmE29 cdE29 ctE29 : Value}
    {fE32 : Addr} {odE32 anE32 : Option Addr} {slE32 : Array (Option Value)} {ocE32 kVE32 dcE32 pmE32 cdE32 ctE32 : Value}
    {fE33 : Addr} {odE33 anE33 : Option Addr} {slE33 : Array (Option Value)} {ocE33 kVE33 dcE33 pmE33 cdE33 ctE33 : Value}
    {fE34 : Addr} {odE34 anE34 : Option Addr} {slE34 : Array (Option Value)} {ocE34 kVE34 dcE34 pmE34 cdE34 ctE34 : Value}
    {fE35 : Addr} {odE35 anE35 : Option Addr} {slE35 : Array (Option Value)} {ocE35 kVE35 dcE35 pmE35 cdE35 ctE35 : Value}
    {tk0 : Tok}
    {tk1 : Tok}
    {tk2 : Tok}
    {tk3 : Tok}
    {tk4 : Tok}
    {tk5 : Tok}
    (aD0 : PySem.W.nsIn K mainGlobals "is_whole" = some (some (.ref fD0)))
    (lD0 : K.lookup fD0 = some ⟨ocD0, odD0, .func (PySem.W.fnOf "is_whole" "is_whole" (defArgs s_is_whole) (defBody s_is_whole) (defScope s_is_whole) .none kVD0 dcD0 pmD0 anD0 cdD0 ctD0), slD0⟩)
    (cD0 : PySem.W.codeIn K cdD0 "is_whole" = true)
    (kD0 : PySem.W.keepIn K (.ref fD0) = true)
    (aD1 : PySem.W.nsIn K mainGlobals "_law_purse" = some (some (.ref fD1)))
    (lD1 : K.lookup fD1 = some ⟨ocD1, odD1, .func (PySem.W.fnOf "_law_purse" "_law_purse" (defArgs s__law_purse) (defBody s__law_purse) (defScope s__law_purse) .none kVD1 dcD1 pmD1 anD1 cdD1 ctD1), slD1⟩)
    (cD1 : PySem.W.codeIn K cdD1 "_law_purse" = true)
    (kD1 : PySem.W.keepIn K (.ref fD1) = true)
    (aD2 : PySem.W.nsIn K mainGlobals "_law_draw" = some (some (.ref fD2)))
    (lD2 : K.lookup fD2 = some ⟨ocD2, odD2, .func (PySem.W.fnOf "_law_draw" "_law_draw" (defArgs s__law_draw) (defBody s__law_draw) (defScope s__law_draw) .none kVD2 dcD2 pmD2 anD2 cdD2 ctD2), slD2⟩)
    (cD2 : PySem.W.codeIn K cdD2 "_law_draw" = true)
    (kD2 : PySem.W.keepIn K (.ref fD2) = true)
    (aD3 : PySem.W.nsIn K mainGlobals "_law_great" = some (some (.ref fD3)))
    (lD3 : K.lookup fD3 = some ⟨ocD3, odD3, .func (PySem.W.fnOf "_law_great" "_law_great" (defArgs s__law_great) (defBody s__law_great) (defScope s__law_great) .none kVD3 dcD3 pmD3 anD3 cdD3 ctD3), slD3⟩)
    (cD3 : PySem.W.codeIn K cdD3 "_law_great" = true)
    (kD3 : PySem.W.keepIn K (.ref fD3) = true)
    (aD4 : PySem.W.nsIn K mainGlobals "_law_from" = some (some (.ref fD4)))
    (lD4 : K.lookup fD4 = some ⟨ocD4, odD4, .func (PySem.W.fnOf "_law_from" "_law_from" (defArgs s__law_from) (defBody s__law_from) (defScope s__law_from) .none kVD4 dcD4 pmD4 anD4 cdD4 ctD4), slD4⟩)
    (cD4 : PySem.W.codeIn K cdD4 "_law_from" = true)
    (kD4 : PySem.W.keepIn K (.ref fD4) = true)
    (aD5 : PySem.W.nsIn K mainGlobals "_law_sign_text" = some (some (.ref fD5)))
    (lD5 : K.lookup fD5 = some ⟨ocD5, odD5, .func (PySem.W.fnOf "_law_sign_text" "_law_sign_text" (defArgs s__law_sign_text) (defBody s__law_sign_text) (defScope s__law_sign_text) .none kVD5 dcD5 pmD5 anD5 cdD5 ctD5), slD5⟩)
    (cD5 : PySem.W.codeIn K cdD5 "_law_sign_text" = true)
    (kD5 : PySem.W.keepIn K (.ref fD5) = true)
    (aD6 : PySem.W.nsIn K mainGlobals "_law_odd" = some (some (.ref fD6)))
    (lD6 : K.lookup fD6 = some ⟨ocD6, odD6, .func (PySem.W.fnOf "_law_odd" "_law_odd" (defArgs s__law_odd) (defBody s__law_odd) (defScope s__law_odd) .none kVD6 dcD6 pmD6 anD6 cdD6 ctD6), slD6⟩)
    (cD6 : PySem.W.codeIn K cdD6 "_law_odd" = true)
    (kD6 : PySem.W.keepIn K (.ref fD6) = true)
    (aD7 : PySem.W.nsIn K mainGlobals "_law_sorts" = some (some (.ref fD7)))
    (lD7 : K.lookup fD7 = some ⟨ocD7, odD7, .func (PySem.W.fnOf "_law_sorts" "_law_sorts" (defArgs s__law_sorts) (defBody s__law_sorts) (defScope s__law_sorts) .none kVD7 dcD7 pmD7 anD7 cdD7 ctD7), slD7⟩)
    (cD7 : PySem.W.codeIn K cdD7 "_law_sorts" = true)
    (kD7 : PySem.W.keepIn K (.ref fD7) = true)
    (aD8 : PySem.W.nsIn K mainGlobals "_law_given_places" = some (some (.ref fD8)))
    (lD8 : K.lookup fD8 = some ⟨ocD8, odD8, .func (PySem.W.fnOf "_law_given_places" "_law_given_places" (defArgs s__law_given_places) (defBody s__law_given_places) (defScope s__law_given_places) .none kVD8 dcD8 pmD8 anD8 cdD8 ctD8), slD8⟩)
    (cD8 : PySem.W.codeIn K cdD8 "_law_given_places" = true)
    (kD8 : PySem.W.keepIn K (.ref fD8) = true)
    (aD9 : PySem.W.nsIn K mainGlobals "_law_given_words" = some (some (.ref fD9)))
    (lD9 : K.lookup fD9 = some ⟨ocD9, odD9, .func (PySem.W.fnOf "_law_given_words" "_law_given_words" (defArgs s__law_given_words) (defBody s__law_given_words) (defScope s__law_given_words) .none kVD9 dcD9 pmD9 anD9 cdD9 ctD9), slD9⟩)
    (cD9 : PySem.W.codeIn K cdD9 "_law_given_words" = true)
    (kD9 : PySem.W.keepIn K (.ref fD9) = true)
    (aD10 : PySem.W.nsIn K mainGlobals "_law_belongs" = some (some (.ref fD10)))
    (lD10 : K.lookup fD10 = some ⟨ocD10, odD10, .func (PySem.W.fnOf "_law_belongs" "_law_belongs" (defArgs s__law_belongs) (defBody s__law_belongs) (defScope s__law_belongs) .none kVD10 dcD10 pmD10 anD10 cdD10 ctD10), slD10⟩)
    (cD10 : PySem.W.codeIn K cdD10 "_law_belongs" = true)
    (kD10 : PySem.W.keepIn K (.ref fD10) = true)
    (aD11 : PySem.W.nsIn K mainGlobals "_law_right" = some (some (.ref fD11)))
    (lD11 : K.lookup fD11 = some ⟨ocD11, odD11, .func (PySem.W.fnOf "_law_right" "_law_right" (defArgs s__law_right) (defBody s__law_right) (defScope s__law_right) .none kVD11 dcD11 pmD11 anD11 cdD11 ctD11), slD11⟩)
    (cD11 : PySem.W.codeIn K cdD11 "_law_right" = true)
    (kD11 : PySem.W.keepIn K (.ref fD11) = true)
    (aD12 : PySem.W.nsIn K mainGlobals "law" = some (some (.ref fD12)))
    (lD12 : K.lookup fD12 = some ⟨ocD12, odD12, .func (PySem.W.fnOf "law" "law" (defArgs s_law) (defBody s_law) (defScope s_law) .none kVD12 dcD12 pmD12 anD12 cdD12 ctD12), slD12⟩)
    (cD12 : PySem.W.codeIn K cdD12 "law" = true)
    (kD12 : PySem.W.keepIn K (.ref fD12) = true)
    (aM0 : PySem.W.findIn K (.ref C) "__repr__" = some (some (.ref fM0)))
    (iM0 : PySem.W.isFn K (.ref fM0) = true)
    (lM0 : K.lookup fM0 = some ⟨ocM0, odM0, .func (PySem.W.fnOf "__repr__" "Ratio.__repr__" (defArgs s_Ratio___repr__) (defBody s_Ratio___repr__) (defScope s_Ratio___repr__) .none kVM0 dcM0 pmM0 anM0 cdM0 ctM0), slM0⟩)
    (cM0 : PySem.W.codeIn K cdM0 "Ratio.__repr__" = true)
    (kM0 : PySem.W.keepIn K (.ref fM0) = true)
    (aI : PySem.W.findIn K (.ref C) "__init__" = some (some (.ref fI)))
    (iI : PySem.W.isFn K (.ref fI) = true)
    (lI : K.lookup fI = some ⟨ocI, odI, .func (PySem.W.fnOf "__init__" "Ratio.__init__" (defArgs s_Ratio___init__) (defBody s_Ratio___init__) (defScope s_Ratio___init__) (.ref tI) kVI dcI pmI anI cdI ctI), slI⟩)
    (cI : PySem.W.codeIn K cdI "Ratio.__init__" = true)
    (kI : PySem.W.keepIn K (.ref fI) = true)
    (lT : K.lookup tI = some oT)
    (dT : oT.data = .seq #[.int 1 kT] nT)
    (z_int : PySem.W.nsIn K mainGlobals "int" = some none)
    (z_len : PySem.W.nsIn K mainGlobals "len" = some none)
    (z_abs : PySem.W.nsIn K mainGlobals "abs" = some none)
    (z_range : PySem.W.nsIn K mainGlobals "range" = some none)
    (z_max : PySem.W.nsIn K mainGlobals "max" = some none)
    (z_min : PySem.W.nsIn K mainGlobals "min" = some none)
    (z_all : PySem.W.nsIn K mainGlobals "all" = some none)
    (z_repr : PySem.W.nsIn K mainGlobals "repr" = some none)
    (z_isinstance : PySem.W.nsIn K mainGlobals "isinstance" = some none)
    (z_bool : PySem.W.nsIn K mainGlobals "bool" = some none)
    (z_str : PySem.W.nsIn K mainGlobals "str" = some none)
    (z_any : PySem.W.nsIn K mainGlobals "any" = some none)
    (pg : PySem.W.plainGet K C Str.empty = true)
    (hd : PySem.W.hasDictIn K C = true)
    (po : PySem.W.plainOver K C = true)
    (sa : PySem.W.findIn K (.ref C) "__setattr__" = some (some (.builtin "object.__setattr__")))
    (mk : PySem.W.makesIn K C = true)
    (kcC : PySem.W.keepIn K (.ref C) = true)
    (nT' : PySem.W.findIn K (.ref C) "_top" = some none)
    (nB' : PySem.W.findIn K (.ref C) "_bottom" = some none)
    (aR : PySem.W.nsIn K mainGlobals "Ratio" = some (some (.ref C)))
    (aG : PySem.W.nsIn K mainGlobals "gcd" = some (some (.builtin "math.gcd")))
    (ca : PySem.W.findIn K (.ref C) "__class__" = some (some (.builtin "object.__class__")))
    (cn : PySem.W.specialIn K (.builtin "object.__class__") "__get__" = some (some (.builtin "getset_descriptor.__get__")))
    (ct' : PySem.W.takesIn K (.builtin "object.__class__") = some true)
    (cm : PySem.W.mroIn K C (.type "object") = some true)
    (sI : PySem.W.subIn K (.ref C) (.type "int") = some false)
    (sB : PySem.W.subIn K (.ref C) (.type "bool") = some false)
    (tyC : PySem.W.typeIn K (.ref C) = some (.type "type"))
    (isC : PySem.W.isClsIn K C = true)
    (sb : PySem.W.subIn K (.type "int") (.ref C) = some false)
    (sST : PySem.W.subIn K (.ref C) (.type "str") = some false)
    (x_n : PySem.W.subIn K (.type "NoneType") (.ref C) = some false)
    (x_s : PySem.W.subIn K (.type "str") (.ref C) = some false)
    (x_t : PySem.W.subIn K (.type "tuple") (.ref C) = some false)
    (x_l : PySem.W.subIn K (.type "list") (.ref C) = some false)
    (x_b : PySem.W.subIn K (.type "bool") (.ref C) = some false)
    (x_d : PySem.W.subIn K (.type "dict") (.ref C) = some false)
    (aE0 : PySem.W.nsIn K mainGlobals "InvalidNumber" = some (some (.ref c0)))
    (aE1 : PySem.W.nsIn K mainGlobals "InvalidEntries" = some (some (.ref c1)))
    (aE2 : PySem.W.nsIn K mainGlobals "InvalidSize" = some (some (.ref c2)))
    (aE3 : PySem.W.nsIn K mainGlobals "InvalidName" = some (some (.ref c3)))
    (aE4 : PySem.W.nsIn K mainGlobals "InvalidSide" = some (some (.ref c4)))
    (aE5 : PySem.W.nsIn K mainGlobals "InvalidSymmetry" = some (some (.ref c5)))
    (aE6 : PySem.W.nsIn K mainGlobals "InvalidAbout" = some (some (.ref c6)))
    (aE7 : PySem.W.nsIn K mainGlobals "InvalidExponent" = some (some (.ref c7)))
    (aE8 : PySem.W.nsIn K mainGlobals "InvalidIndex" = some (some (.ref c8)))
    (aE9 : PySem.W.nsIn K mainGlobals "InvalidTable" = some (some (.ref c9)))
    (aE10 : PySem.W.nsIn K mainGlobals "InvalidWord" = some (some (.ref c10)))
    (aE11 : PySem.W.nsIn K mainGlobals "InvalidMapping" = some (some (.ref c11)))
    (aE12 : PySem.W.nsIn K mainGlobals "InvalidLetters" = some (some (.ref c12)))
    (aE13 : PySem.W.nsIn K mainGlobals "InvalidText" = some (some (.ref c13)))
    (aE14 : PySem.W.nsIn K mainGlobals "InvalidDeed" = some (some (.ref c14)))
    (aE15 : PySem.W.nsIn K mainGlobals "InvalidLine" = some (some (.ref c15)))
    (aE16 : PySem.W.nsIn K mainGlobals "NotAMatrix" = some (some (.ref c16)))
    (aE17 : PySem.W.nsIn K mainGlobals "NotAFormula" = some (some (.ref c17)))
    (aE18 : PySem.W.nsIn K mainGlobals "NotARatio" = some (some (.ref c18)))
    (aE19 : PySem.W.nsIn K mainGlobals "TextError" = some (some (.ref c19)))
    (aE20 : PySem.W.nsIn K mainGlobals "Clash" = some (some (.ref c20)))
    (aE21 : PySem.W.nsIn K mainGlobals "Mismatch" = some (some (.ref c21)))
    (aE22 : PySem.W.nsIn K mainGlobals "UnknownName" = some (some (.ref c22)))
    (aE23 : PySem.W.nsIn K mainGlobals "Taken" = some (some (.ref c23)))
    (aE24 : PySem.W.nsIn K mainGlobals "NoSize" = some (some (.ref c24)))
    (aE25 : PySem.W.nsIn K mainGlobals "NoMatrix" = some (some (.ref c25)))
    (aE26 : PySem.W.nsIn K mainGlobals "InUse" = some (some (.ref c26)))
    (aE27 : PySem.W.nsIn K mainGlobals "Circular" = some (some (.ref c27)))
    (aE28 : PySem.W.nsIn K mainGlobals "NothingToUndo" = some (some (.ref c28)))
    (aE29 : PySem.W.nsIn K mainGlobals "Unanchored" = some (some (.ref c29)))
    (aE30 : PySem.W.nsIn K mainGlobals "Singular" = some (some (.ref c30)))
    (aE31 : PySem.W.nsIn K mainGlobals "NoValue" = some (some (.ref c31)))
    (aE32 : PySem.W.nsIn K mainGlobals "TooLarge" = some (some (.ref c32)))
    (aE33 : PySem.W.nsIn K mainGlobals "TooRich" = some (some (.ref c33)))
    (aE34 : PySem.W.nsIn K mainGlobals "NotSolvable" = some (some (.ref c34)))
    (aE35 : PySem.W.nsIn K mainGlobals "Broken" = some (some (.ref c35)))
    (aE36 : PySem.W.nsIn K mainGlobals "InputError" = some (some (.ref c36)))
    (aE37 : PySem.W.nsIn K mainGlobals "MeetError" = some (some (.ref c37)))
    (aE38 : PySem.W.nsIn K mainGlobals "AnswerError" = some (some (.ref c38)))
    (iE0 : PySem.W.findIn K (.ref c0) "__init__" = some (some (.ref fE0)))
    (lE0 : K.lookup fE0 = some ⟨ocE0, odE0, .func (PySem.W.fnOf "__init__" "InvalidNumber.__init__" (defArgs s_InvalidNumber___init__) (defBody s_InvalidNumber___init__) (defScope s_InvalidNumber___init__) .none kVE0 dcE0 pmE0 anE0 cdE0 ctE0), slE0⟩)
    (cE0 : PySem.W.codeIn K cdE0 "InvalidNumber.__init__" = true)
    (kE0 : PySem.W.keepIn K (.ref fE0) = true)
    (iE1 : PySem.W.findIn K (.ref c1) "__init__" = some (some (.ref fE1)))
    (lE1 : K.lookup fE1 = some ⟨ocE1, odE1, .func (PySem.W.fnOf "__init__" "InvalidEntries.__init__" (defArgs s_InvalidEntries___init__) (defBody s_InvalidEntries___init__) (defScope s_InvalidEntries___init__) .none kVE1 dcE1 pmE1 anE1 cdE1 ctE1), slE1⟩)
    (cE1 : PySem.W.codeIn K cdE1 "InvalidEntries.__init__" = true)
    (kE1 : PySem.W.keepIn K (.ref fE1) = true)
    (iE2 : PySem.W.findIn K (.ref c2) "__init__" = some (some (.ref fE2)))
    (lE2 : K.lookup fE2 = some ⟨ocE2, odE2, .func (PySem.W.fnOf "__init__" "InvalidSize.__init__" (defArgs s_InvalidSize___init__) (defBody s_InvalidSize___init__) (defScope s_InvalidSize___init__) .none kVE2 dcE2 pmE2 anE2 cdE2 ctE2), slE2⟩)
    (cE2 : PySem.W.codeIn K cdE2 "InvalidSize.__init__" = true)
    (kE2 : PySem.W.keepIn K (.ref fE2) = true)
    (iE3 : PySem.W.findIn K (.ref c3) "__init__" = some (some (.ref fE3)))
    (lE3 : K.lookup fE3 = some ⟨ocE3, odE3, .func (PySem.W.fnOf "__init__" "InvalidName.__init__" (defArgs s_InvalidName___init__) (defBody s_InvalidName___init__) (defScope s_InvalidName___init__) .none kVE3 dcE3 pmE3 anE3 cdE3 ctE3), slE3⟩)
    (cE3 : PySem.W.codeIn K cdE3 "InvalidName.__init__" = true)
    (kE3 : PySem.W.keepIn K (.ref fE3) = true)
    (iE4 : PySem.W.findIn K (.ref c4) "__init__" = some (some (.ref fE4)))
    (lE4 : K.lookup fE4 = some ⟨ocE4, odE4, .func (PySem.W.fnOf "__init__" "InvalidSide.__init__" (defArgs s_InvalidSide___init__) (defBody s_InvalidSide___init__) (defScope s_InvalidSide___init__) .none kVE4 dcE4 pmE4 anE4 cdE4 ctE4), slE4⟩)
    (cE4 : PySem.W.codeIn K cdE4 "InvalidSide.__init__" = true)
    (kE4 : PySem.W.keepIn K (.ref fE4) = true)
    (iE5 : PySem.W.findIn K (.ref c5) "__init__" = some (some (.ref fE5)))
    (lE5 : K.lookup fE5 = some ⟨ocE5, odE5, .func (PySem.W.fnOf "__init__" "InvalidSymmetry.__init__" (defArgs s_InvalidSymmetry___init__) (defBody s_InvalidSymmetry___init__) (defScope s_InvalidSymmetry___init__) .none kVE5 dcE5 pmE5 anE5 cdE5 ctE5), slE5⟩)
    (cE5 : PySem.W.codeIn K cdE5 "InvalidSymmetry.__init__" = true)
    (kE5 : PySem.W.keepIn K (.ref fE5) = true)
    (iE6 : PySem.W.findIn K (.ref c6) "__init__" = some (some (.ref fE6)))
    (lE6 : K.lookup fE6 = some ⟨ocE6, odE6, .func (PySem.W.fnOf "__init__" "InvalidAbout.__init__" (defArgs s_InvalidAbout___init__) (defBody s_InvalidAbout___init__) (defScope s_InvalidAbout___init__) .none kVE6 dcE6 pmE6 anE6 cdE6 ctE6), slE6⟩)
    (cE6 : PySem.W.codeIn K cdE6 "InvalidAbout.__init__" = true)
    (kE6 : PySem.W.keepIn K (.ref fE6) = true)
    (iE7 : PySem.W.findIn K (.ref c7) "__init__" = some (some (.ref fE7)))
    (lE7 : K.lookup fE7 = some ⟨ocE7, odE7, .func (PySem.W.fnOf "__init__" "InvalidExponent.__init__" (defArgs s_InvalidExponent___init__) (defBody s_InvalidExponent___init__) (defScope s_InvalidExponent___init__) .none kVE7 dcE7 pmE7 anE7 cdE7 ctE7), slE7⟩)
    (cE7 : PySem.W.codeIn K cdE7 "InvalidExponent.__init__" = true)
    (kE7 : PySem.W.keepIn K (.ref fE7) = true)
    (iE8 : PySem.W.findIn K (.ref c8) "__init__" = some (some (.ref fE8)))
    (lE8 : K.lookup fE8 = some ⟨ocE8, odE8, .func (PySem.W.fnOf "__init__" "InvalidIndex.__init__" (defArgs s_InvalidIndex___init__) (defBody s_InvalidIndex___init__) (defScope s_InvalidIndex___init__) .none kVE8 dcE8 pmE8 anE8 cdE8 ctE8), slE8⟩)
    (cE8 : PySem.W.codeIn K cdE8 "InvalidIndex.__init__" = true)
    (kE8 : PySem.W.keepIn K (.ref fE8) = true)
    (iE9 : PySem.W.findIn K (.ref c9) "__init__" = some (some (.ref fE9)))
    (lE9 : K.lookup fE9 = some ⟨ocE9, odE9, .func (PySem.W.fnOf "__init__" "InvalidTable.__init__" (defArgs s_InvalidTable___init__) (defBody s_InvalidTable___init__) (defScope s_InvalidTable___init__) .none kVE9 dcE9 pmE9 anE9 cdE9 ctE9), slE9⟩)
    (cE9 : PySem.W.codeIn K cdE9 "InvalidTable.__init__" = true)
    (kE9 : PySem.W.keepIn K (.ref fE9) = true)
    (iE10 : PySem.W.findIn K (.ref c10) "__init__" = some (some (.ref fE10)))
    (lE10 : K.lookup fE10 = some ⟨ocE10, odE10, .func (PySem.W.fnOf "__init__" "InvalidWord.__init__" (defArgs s_InvalidWord___init__) (defBody s_InvalidWord___init__) (defScope s_InvalidWord___init__) .none kVE10 dcE10 pmE10 anE10 cdE10 ctE10), slE10⟩)
    (cE10 : PySem.W.codeIn K cdE10 "InvalidWord.__init__" = true)
    (kE10 : PySem.W.keepIn K (.ref fE10) = true)
    (iE11 : PySem.W.findIn K (.ref c11) "__init__" = some (some (.ref fE11)))
    (lE11 : K.lookup fE11 = some ⟨ocE11, odE11, .func (PySem.W.fnOf "__init__" "InvalidMapping.__init__" (defArgs s_InvalidMapping___init__) (defBody s_InvalidMapping___init__) (defScope s_InvalidMapping___init__) .none kVE11 dcE11 pmE11 anE11 cdE11 ctE11), slE11⟩)
    (cE11 : PySem.W.codeIn K cdE11 "InvalidMapping.__init__" = true)
    (kE11 : PySem.W.keepIn K (.ref fE11) = true)
    (iE12 : PySem.W.findIn K (.ref c12) "__init__" = some (some (.ref fE12)))
    (lE12 : K.lookup fE12 = some ⟨ocE12, odE12, .func (PySem.W.fnOf "__init__" "InvalidLetters.__init__" (defArgs s_InvalidLetters___init__) (defBody s_InvalidLetters___init__) (defScope s_InvalidLetters___init__) .none kVE12 dcE12 pmE12 anE12 cdE12 ctE12), slE12⟩)
    (cE12 : PySem.W.codeIn K cdE12 "InvalidLetters.__init__" = true)
    (kE12 : PySem.W.keepIn K (.ref fE12) = true)
    (iE13 : PySem.W.findIn K (.ref c13) "__init__" = some (some (.ref fE13)))
    (lE13 : K.lookup fE13 = some ⟨ocE13, odE13, .func (PySem.W.fnOf "__init__" "InvalidText.__init__" (defArgs s_InvalidText___init__) (defBody s_InvalidText___init__) (defScope s_InvalidText___init__) .none kVE13 dcE13 pmE13 anE13 cdE13 ctE13), slE13⟩)
    (cE13 : PySem.W.codeIn K cdE13 "InvalidText.__init__" = true)
    (kE13 : PySem.W.keepIn K (.ref fE13) = true)
    (iE14 : PySem.W.findIn K (.ref c14) "__init__" = some (some (.ref fE14)))
    (lE14 : K.lookup fE14 = some ⟨ocE14, odE14, .func (PySem.W.fnOf "__init__" "InvalidDeed.__init__" (defArgs s_InvalidDeed___init__) (defBody s_InvalidDeed___init__) (defScope s_InvalidDeed___init__) .none kVE14 dcE14 pmE14 anE14 cdE14 ctE14), slE14⟩)
    (cE14 : PySem.W.codeIn K cdE14 "InvalidDeed.__init__" = true)
    (kE14 : PySem.W.keepIn K (.ref fE14) = true)
    (iE15 : PySem.W.findIn K (.ref c15) "__init__" = some (some (.ref fE15)))
    (lE15 : K.lookup fE15 = some ⟨ocE15, odE15, .func (PySem.W.fnOf "__init__" "InvalidLine.__init__" (defArgs s_InvalidLine___init__) (defBody s_InvalidLine___init__) (defScope s_InvalidLine___init__) .none kVE15 dcE15 pmE15 anE15 cdE15 ctE15), slE15⟩)
    (cE15 : PySem.W.codeIn K cdE15 "InvalidLine.__init__" = true)
    (kE15 : PySem.W.keepIn K (.ref fE15) = true)
    (iE16 : PySem.W.findIn K (.ref c16) "__init__" = some (some (.ref fE16)))
    (lE16 : K.lookup fE16 = some ⟨ocE16, odE16, .func (PySem.W.fnOf "__init__" "NotAMatrix.__init__" (defArgs s_NotAMatrix___init__) (defBody s_NotAMatrix___init__) (defScope s_NotAMatrix___init__) .none kVE16 dcE16 pmE16 anE16 cdE16 ctE16), slE16⟩)
    (cE16 : PySem.W.codeIn K cdE16 "NotAMatrix.__init__" = true)
    (kE16 : PySem.W.keepIn K (.ref fE16) = true)
    (iE17 : PySem.W.findIn K (.ref c17) "__init__" = some (some (.ref fE17)))
    (lE17 : K.lookup fE17 = some ⟨ocE17, odE17, .func (PySem.W.fnOf "__init__" "NotAFormula.__init__" (defArgs s_NotAFormula___init__) (defBody s_NotAFormula___init__) (defScope s_NotAFormula___init__) .none kVE17 dcE17 pmE17 anE17 cdE17 ctE17), slE17⟩)
    (cE17 : PySem.W.codeIn K cdE17 "NotAFormula.__init__" = true)
    (kE17 : PySem.W.keepIn K (.ref fE17) = true)
    (iE18 : PySem.W.findIn K (.ref c18) "__init__" = some (some (.ref fE18)))
    (lE18 : K.lookup fE18 = some ⟨ocE18, odE18, .func (PySem.W.fnOf "__init__" "NotARatio.__init__" (defArgs s_NotARatio___init__) (defBody s_NotARatio___init__) (defScope s_NotARatio___init__) .none kVE18 dcE18 pmE18 anE18 cdE18 ctE18), slE18⟩)
    (cE18 : PySem.W.codeIn K cdE18 "NotARatio.__init__" = true)
    (kE18 : PySem.W.keepIn K (.ref fE18) = true)
    (iE19 : PySem.W.findIn K (.ref c19) "__init__" = some (some (.ref fE19)))
    (lE19 : K.lookup fE19 = some ⟨ocE19, odE19, .func (PySem.W.fnOf "__init__" "TextError.__init__" (defArgs s_TextError___init__) (defBody s_TextError___init__) (defScope s_TextError___init__) .none kVE19 dcE19 pmE19 anE19 cdE19 ctE19), slE19⟩)
    (cE19 : PySem.W.codeIn K cdE19 "TextError.__init__" = true)
    (kE19 : PySem.W.keepIn K (.ref fE19) = true)
    (iE20 : PySem.W.findIn K (.ref c20) "__init__" = some (some (.ref fE20)))
    (lE20 : K.lookup fE20 = some ⟨ocE20, odE20, .func (PySem.W.fnOf "__init__" "Clash.__init__" (defArgs s_Clash___init__) (defBody s_Clash___init__) (defScope s_Clash___init__) .none kVE20 dcE20 pmE20 anE20 cdE20 ctE20), slE20⟩)
    (cE20 : PySem.W.codeIn K cdE20 "Clash.__init__" = true)
    (kE20 : PySem.W.keepIn K (.ref fE20) = true)
    (iE21 : PySem.W.findIn K (.ref c21) "__init__" = some (some (.ref fE21)))
    (lE21 : K.lookup fE21 = some ⟨ocE21, odE21, .func (PySem.W.fnOf "__init__" "Mismatch.__init__" (defArgs s_Mismatch___init__) (defBody s_Mismatch___init__) (defScope s_Mismatch___init__) .none kVE21 dcE21 pmE21 anE21 cdE21 ctE21), slE21⟩)
    (cE21 : PySem.W.codeIn K cdE21 "Mismatch.__init__" = true)
    (kE21 : PySem.W.keepIn K (.ref fE21) = true)
    (iE22 : PySem.W.findIn K (.ref c22) "__init__" = some (some (.ref fE22)))
    (lE22 : K.lookup fE22 = some ⟨ocE22, odE22, .func (PySem.W.fnOf "__init__" "UnknownName.__init__" (defArgs s_UnknownName___init__) (defBody s_UnknownName___init__) (defScope s_UnknownName___init__) .none kVE22 dcE22 pmE22 anE22 cdE22 ctE22), slE22⟩)
    (cE22 : PySem.W.codeIn K cdE22 "UnknownName.__init__" = true)
    (kE22 : PySem.W.keepIn K (.ref fE22) = true)
    (iE23 : PySem.W.findIn K (.ref c23) "__init__" = some (some (.ref fE23)))
    (lE23 : K.lookup fE23 = some ⟨ocE23, odE23, .func (PySem.W.fnOf "__init__" "Taken.__init__" (defArgs s_Taken___init__) (defBody s_Taken___init__) (defScope s_Taken___init__) .none kVE23 dcE23 pmE23 anE23 cdE23 ctE23), slE23⟩)
    (cE23 : PySem.W.codeIn K cdE23 "Taken.__init__" = true)
    (kE23 : PySem.W.keepIn K (.ref fE23) = true)
    (iE24 : PySem.W.findIn K (.ref c24) "__init__" = some (some (.ref fE24)))
    (lE24 : K.lookup fE24 = some ⟨ocE24, odE24, .func (PySem.W.fnOf "__init__" "NoSize.__init__" (defArgs s_NoSize___init__) (defBody s_NoSize___init__) (defScope s_NoSize___init__) .none kVE24 dcE24 pmE24 anE24 cdE24 ctE24), slE24⟩)
    (cE24 : PySem.W.codeIn K cdE24 "NoSize.__init__" = true)
    (kE24 : PySem.W.keepIn K (.ref fE24) = true)
    (iE25 : PySem.W.findIn K (.ref c25) "__init__" = some (some (.ref fE25)))
    (lE25 : K.lookup fE25 = some ⟨ocE25, odE25, .func (PySem.W.fnOf "__init__" "NoMatrix.__init__" (defArgs s_NoMatrix___init__) (defBody s_NoMatrix___init__) (defScope s_NoMatrix___init__) .none kVE25 dcE25 pmE25 anE25 cdE25 ctE25), slE25⟩)
    (cE25 : PySem.W.codeIn K cdE25 "NoMatrix.__init__" = true)
    (kE25 : PySem.W.keepIn K (.ref fE25) = true)
    (iE26 : PySem.W.findIn K (.ref c26) "__init__" = some (some (.ref fE26)))
    (lE26 : K.lookup fE26 = some ⟨ocE26, odE26, .func (PySem.W.fnOf "__init__" "InUse.__init__" (defArgs s_InUse___init__) (defBody s_InUse___init__) (defScope s_InUse___init__) .none kVE26 dcE26 pmE26 anE26 cdE26 ctE26), slE26⟩)
    (cE26 : PySem.W.codeIn K cdE26 "InUse.__init__" = true)
    (kE26 : PySem.W.keepIn K (.ref fE26) = true)
    (iE27 : PySem.W.findIn K (.ref c27) "__init__" = some (some (.ref fE27)))
    (lE27 : K.lookup fE27 = some ⟨ocE27, odE27, .func (PySem.W.fnOf "__init__" "Circular.__init__" (defArgs s_Circular___init__) (defBody s_Circular___init__) (defScope s_Circular___init__) .none kVE27 dcE27 pmE27 anE27 cdE27 ctE27), slE27⟩)
    (cE27 : PySem.W.codeIn K cdE27 "Circular.__init__" = true)
    (kE27 : PySem.W.keepIn K (.ref fE27) = true)
    (iE29 : PySem.W.findIn K (.ref c29) "__init__" = some (some (.ref fE29)))
    (lE29 : K.lookup fE29 = some ⟨ocE29, odE29, .func (PySem.W.fnOf "__init__" "Unanchored.__init__" (defArgs s_Unanchored___init__) (defBody s_Unanchored___init__) (defScope s_Unanchored___init__) .none kVE29 dcE29 pmE29 anE29 cdE29 ctE29), slE29⟩)
    (cE29 : PySem.W.codeIn K cdE29 "Unanchored.__init__" = true)
    (kE29 : PySem.W.keepIn K (.ref fE29) = true)
    (iE32 : PySem.W.findIn K (.ref c32) "__init__" = some (some (.ref fE32)))
    (lE32 : K.lookup fE32 = some ⟨ocE32, odE32, .func (PySem.W.fnOf "__init__" "TooLarge.__init__" (defArgs s_TooLarge___init__) (defBody s_TooLarge___init__) (defScope s_TooLarge___init__) .none kVE32 dcE32 pmE32 anE32 cdE32 ctE32), slE32⟩)
    (cE32 : PySem.W.codeIn K cdE32 "TooLarge.__init__" = true)
    (kE32 : PySem.W.keepIn K (.ref fE32) = true)
    (iE33 : PySem.W.findIn K (.ref c33) "__init__" = some (some (.ref fE33)))
    (lE33 : K.lookup fE33 = some ⟨ocE33, odE33, .func (PySem.W.fnOf "__init__" "TooRich.__init__" (defArgs s_TooRich___init__) (defBody s_TooRich___init__) (defScope s_TooRich___init__) .none kVE33 dcE33 pmE33 anE33 cdE33 ctE33), slE33⟩)
    (cE33 : PySem.W.codeIn K cdE33 "TooRich.__init__" = true)
    (kE33 : PySem.W.keepIn K (.ref fE33) = true)
    (iE34 : PySem.W.findIn K (.ref c34) "__init__" = some (some (.ref fE34)))
    (lE34 : K.lookup fE34 = some ⟨ocE34, odE34, .func (PySem.W.fnOf "__init__" "NotSolvable.__init__" (defArgs s_NotSolvable___init__) (defBody s_NotSolvable___init__) (defScope s_NotSolvable___init__) .none kVE34 dcE34 pmE34 anE34 cdE34 ctE34), slE34⟩)
    (cE34 : PySem.W.codeIn K cdE34 "NotSolvable.__init__" = true)
    (kE34 : PySem.W.keepIn K (.ref fE34) = true)
    (iE35 : PySem.W.findIn K (.ref c35) "__init__" = some (some (.ref fE35)))
    (lE35 : K.lookup fE35 = some ⟨ocE35, odE35, .func (PySem.W.fnOf "__init__" "Broken.__init__" (defArgs s_Broken___init__) (defBody s_Broken___init__) (defScope s_Broken___init__) .none kVE35 dcE35 pmE35 anE35 cdE35 ctE35), slE35⟩)
    (cE35 : PySem.W.codeIn K cdE35 "Broken.__init__" = true)
    (kE35 : PySem.W.keepIn K (.ref fE35) = true)
    (iE28 : PySem.W.findIn K (.ref c28) "__init__" = some (some (.builtin "LookupError.__init__")))
    (iE30 : PySem.W.findIn K (.ref c30) "__init__" = some (some (.builtin "ArithmeticError.__init__")))
    (iE31 : PySem.W.findIn K (.ref c31) "__init__" = some (some (.builtin "ArithmeticError.__init__")))
    (erA : erAll K bas [c0, c1, c2, c3, c4, c5, c6, c7, c8, c9, c10, c11, c12, c13, c14, c15, c16, c17, c18, c19, c20, c21, c22, c23, c24, c25, c26, c27, c28, c29, c30, c31, c32, c33, c34, c35] = true)
    (noA : noAl K [c0, c1, c2, c3, c4, c5, c6, c7, c8, c9, c10, c11, c12, c13, c14, c15, c16, c17, c18, c19, c20, c21, c22, c23, c24, c25, c26, c27, c28, c29, c30, c31, c32, c33, c34, c35] 36 = true)
    (fnA : fnAll K [fE0, fE1, fE2, fE3, fE4, fE5, fE6, fE7, fE8, fE9, fE10, fE11, fE12, fE13, fE14, fE15, fE16, fE17, fE18, fE19, fE20, fE21, fE22, fE23, fE24, fE25, fE26, fE27, fE29, fE32, fE33, fE34, fE35] = true)
    (soA : soAll K bas 36 [c0, c1, c2, c3, c4, c5, c6, c7, c8, c9, c10, c11, c12, c13, c14, c15, c16, c17, c18, c19, c20, c21, c22, c23, c24, c25, c26, c27, c28, c29, c30, c31, c32, c33, c34, c35, c36, c37, c38] = true)
    (clA : clAll K [c0, c1, c2, c3, c4, c5, c6, c7, c8, c9, c10, c11, c12, c13, c14, c15, c16, c17, c18, c19, c20, c21, c22, c23, c24, c25, c26, c27, c28, c29, c30, c31, c32, c33, c34, c35, c36, c37, c38] = true)
    (bE0 : PySem.W.nsIn K mainGlobals "ValueError" = some none)
    (bE1 : PySem.W.nsIn K mainGlobals "LookupError" = some none)
    (bE2 : PySem.W.nsIn K mainGlobals "ArithmeticError" = some none)
    (b_list : PySem.W.nsIn K mainGlobals "list" = some none)
    (mM0 : PySem.W.nsIn K mainGlobals "MOST_SIDE" = some (some (.int 16 tk0)))
    (mM1 : PySem.W.nsIn K mainGlobals "MOST_WEIGHT" = some (some (.int 1000 tk1)))
    (mM2 : PySem.W.nsIn K mainGlobals "MOST_LEVELS" = some (some (.int 60 tk2)))
    (mM3 : PySem.W.nsIn K mainGlobals "MOST_POWER" = some (some (.int 9 tk3)))
    (mM4 : PySem.W.nsIn K mainGlobals "MOST_RANK" = some (some (.int 24 tk4)))
    (mM5 : PySem.W.nsIn K mainGlobals "MOST_TRACE_RANK" = some (some (.int 16 tk5)))
    : ∃ fd : FuncData, (∀ (s : Shared) (v : Value), BindsTo s fd ⟨[v], []⟩ [("_law_script", v)]) ∧ ∀ base : Heap, K.In base → base.Ns mainGlobals mg → FnG l.prog w K mg base CX0 26 fa fd ["_law_script"] (spLaw K) := by
  have e := hfa.symm.trans (PySem.W.mg_of X G aD12)
  cases e
  have FD0 := fun_mk (st := s_is_whole) lD0 cD0 kD0
  have bD0 := FD0.binds (ps := ["value"]) fun _ _ _ _ _ _ us hl => match us, hl with | [_], _ => rfl
  have gD0 := PySem.W.mg_of X G aD0
  have FD1 := fun_mk (st := s__law_purse) lD1 cD1 kD1
  have bD1 := FD1.binds (ps := ["_law_script"]) fun _ _ _ _ _ _ us hl => match us, hl with | [_], _ => rfl
  have gD1 := PySem.W.mg_of X G aD1
  have FD2 := fun_mk (st := s__law_draw) lD2 cD2 kD2
  have bD2 := FD2.binds (ps := ["_law_q", "_law_many"]) fun _ _ _ _ _ _ us hl => match us, hl with | [_, _], _ => rfl
  have gD2 := PySem.W.mg_of X G aD2
  have FD3 := fun_mk (st := s__law_great) lD3 cD3 kD3
  have bD3 := FD3.binds (ps := ["_law_q"]) fun _ _ _ _ _ _ us hl => match us, hl with | [_], _ => rfl
  have gD3 := PySem.W.mg_of X G aD3
  have FD4 := fun_mk (st := s__law_from) lD4 cD4 kD4
  have bD4 := FD4.binds (ps := ["_law_script", "_law_k"]) fun _ _ _ _ _ _ us hl => match us, hl with | [_, _], _ => rfl
  have gD4 := PySem.W.mg_of X G aD4
  have FD5 := fun_mk (st := s__law_sign_text) lD5 cD5 kD5
  have bD5 := FD5.binds (ps := ["_law_q"]) fun _ _ _ _ _ _ us hl => match us, hl with | [_], _ => rfl
  have gD5 := PySem.W.mg_of X G aD5
  have FD6 := fun_mk (st := s__law_odd) lD6 cD6 kD6
  have bD6 := FD6.binds (ps := ["_law_q", "_law_deep"]) fun _ _ _ _ _ _ us hl => match us, hl with | [_, _], _ => rfl
  have gD6 := PySem.W.mg_of X G aD6
  have FD7 := fun_mk (st := s__law_sorts) lD7 cD7 kD7
  have bD7 := FD7.binds (ps := ["_law_e"]) fun _ _ _ _ _ _ us hl => match us, hl with | [_], _ => rfl
  have gD7 := PySem.W.mg_of X G aD7
  have FD8 := fun_mk (st := s__law_given_places) lD8 cD8 kD8
  have bD8 := FD8.binds (ps := ["_law_one"]) fun _ _ _ _ _ _ us hl => match us, hl with | [_], _ => rfl
  have gD8 := PySem.W.mg_of X G aD8
  have FD9 := fun_mk (st := s__law_given_words) lD9 cD9 kD9
  have bD9 := FD9.binds (ps := ["_law_one"]) fun _ _ _ _ _ _ us hl => match us, hl with | [_], _ => rfl
  have gD9 := PySem.W.mg_of X G aD9
  have FD10 := fun_mk (st := s__law_belongs) lD10 cD10 kD10
  have bD10 := FD10.binds (ps := ["_law_e", "_law_at"]) fun _ _ _ _ _ _ us hl => match us, hl with | [_, _], _ => rfl
  have gD10 := PySem.W.mg_of X G aD10
  have FD11 := fun_mk (st := s__law_right) lD11 cD11 kD11
  have bD11 := FD11.binds (ps := ["_law_q"]) fun _ _ _ _ _ _ us hl => match us, hl with | [_], _ => rfl
  have gD11 := PySem.W.mg_of X G aD11
  have FD12 := fun_mk (st := s_law) lD12 cD12 kD12
  have gD12 := PySem.W.mg_of X G aD12
  have FM0 := fun_mk (st := s_Ratio___repr__) lM0 cM0 kM0
  have bM0 := FM0.binds (ps := ["self"]) fun _ _ _ _ _ _ us hl => match us, hl with | [_], _ => rfl
  have FI : FunD K "__init__" "Ratio.__init__" (defArgs s_Ratio___init__) (defBody s_Ratio___init__) (defScope s_Ratio___init__) [.int 1] [] fI _ := ⟨⟨_, _, _, _, _, _, _, _, _, _, rfl, lI, cI, .inr ⟨nofun, tI, oT, [.int 1 kT], nT, rfl, lT, dT, .cons ⟨_, rfl⟩ .nil⟩, .inl rfl⟩, kI⟩
  obtain ⟨ds2, v2, bI2⟩ := FI.binds1 (ps := ["self", "top", "bottom"]) 3 1 nofun rfl fun T kV doc pm an cdv ct us its h1 h2 => match us, its, h1, h2 with | [_, _, _], [_], _, _ => ⟨_, rfl, rfl⟩
  obtain ⟨ds1, v1, bI1⟩ := FI.binds1 (ps := ["self", "top", "bottom"]) 2 0 nofun rfl fun T kV doc pm an cdv ct us its h1 h2 => match us, its, h1, h2 with | [_, _], [_], _, _ => ⟨_, rfl, rfl⟩
  refine ⟨PySem.W.fnOf "law" "law" (defArgs s_law) (defBody s_law) (defScope s_law) .none kVD12 dcD12 pmD12 anD12 cdD12 ctD12, fun s v => .of_eq rfl, fun base _ _ => ?_⟩
  have B : Blt mg := ⟨PySem.W.mg_none_of X G z_int, PySem.W.mg_none_of X G z_len, PySem.W.mg_none_of X G z_abs, PySem.W.mg_none_of X G z_range, PySem.W.mg_none_of X G z_max, PySem.W.mg_none_of X G z_min, PySem.W.mg_none_of X G z_all, PySem.W.mg_none_of X G z_repr, PySem.W.mg_none_of X G z_isinstance, PySem.W.mg_none_of X G z_bool, PySem.W.mg_none_of X G z_str, PySem.W.mg_none_of X G z_any⟩
  have R : TxR K mg C := { toBlt := B, cl := ⟨pg, hd, po, sa⟩, nT := nT', nB := nB', g_Ratio := PySem.W.mg_of X G aR, g_gcd := PySem.W.mg_of X G aG, ca := ca, cn := cn, ct := ct', cm := cm, kI := kit_rt (by decide +kernel) sI, kB := kit_rt (by decide +kernel) sB, kC := kit_rr, iC := kit_tr isC tyC sb }
  have O : Others K C := ⟨isC, tyC, x_n, x_s, x_t, x_l, x_b, x_d, sST⟩
  have c_whole : CalF l.prog w K mg base _ "is_whole" _ [] := ⟨fD0, _, _, [], ok_whole FD0 B, gD0, kD0, bD0, .nil⟩
  have M : Mk K C fI := ⟨mk, aI, iI, kcC⟩
  have m_rat2 : Rat2C l.prog w K mg base C := ⟨fI, _, _, ds2, M, ok_init FI R c_whole, PySem.W.mg_of X G aR, bI2, v2⟩
  have d_repr : DunF l.prog w K mg base 2 C "__repr__" (spRepr C) := ⟨fM0, _, _, aM0, iM0, ok_repr FM0 R, bM0⟩
  let cs : Nat → Addr := fun i => [c0, c1, c2, c3, c4, c5, c6, c7, c8, c9, c10, c11, c12, c13, c14, c15, c16, c17, c18, c19, c20, c21, c22, c23, c24, c25, c26, c27, c28, c29, c30, c31, c32, c33, c34, c35, c36, c37, c38].getD i 0
  have er : ∀ i, i < 36 → ErC K (cs i) := cs_er erA
  have no : ∀ i, i < 36 → ∀ f ∈ fldN i, PySem.W.findIn K (.ref (cs i)) f = some none := cs_no noA
  have Z : ErrG mg cs := ⟨PySem.W.mg_of X G aE0, PySem.W.mg_of X G aE1, PySem.W.mg_of X G aE2, PySem.W.mg_of X G aE3, PySem.W.mg_of X G aE4, PySem.W.mg_of X G aE5, PySem.W.mg_of X G aE6, PySem.W.mg_of X G aE7, PySem.W.mg_of X G aE8, PySem.W.mg_of X G aE9, PySem.W.mg_of X G aE10, PySem.W.mg_of X G aE11, PySem.W.mg_of X G aE12, PySem.W.mg_of X G aE13, PySem.W.mg_of X G aE14, PySem.W.mg_of X G aE15, PySem.W.mg_of X G aE16, PySem.W.mg_of X G aE17, PySem.W.mg_of X G aE18, PySem.W.mg_of X G aE19, PySem.W.mg_of X G aE20, PySem.W.mg_of X G aE21, PySem.W.mg_of X G aE22, PySem.W.mg_of X G aE23, PySem.W.mg_of X G aE24, PySem.W.mg_of X G aE25, PySem.W.mg_of X G aE26, PySem.W.mg_of X G aE27, PySem.W.mg_of X G aE28, PySem.W.mg_of X G aE29, PySem.W.mg_of X G aE30, PySem.W.mg_of X G aE31, PySem.W.mg_of X G aE32, PySem.W.mg_of X G aE33, PySem.W.mg_of X G aE34, PySem.W.mg_of X G aE35, PySem.W.mg_of X G aE36, PySem.W.mg_of X G aE37, PySem.W.mg_of X G aE38, PySem.W.mg_none_of X G bE0, PySem.W.mg_none_of X G bE1, PySem.W.mg_none_of X G bE2⟩
  have S : SortT K cs := ⟨er, cs_so soA clA, fun i hi f hf => no i (ord_lt i hi) f (by rw [fld_ord i hi]; exact hf)⟩
  have FE0 := fun_mk (st := s_InvalidNumber___init__) lE0 cE0 kE0
  have bE0' := FE0.binds (ps := ["self", "given"]) fun _ _ _ _ _ _ us hl => match us, hl with | [_, _], _ => rfl
  have e0 : MkE l.prog w K mg base 2 "InvalidNumber" (cs 0) ["given"] := ⟨er 0 (by decide), no 0 (by decide), PySem.W.mg_of X G aE0, by decide, fE0, _, _, iE0, fnAll_ok fnA (by simp), ok_er_InvalidNumber FE0, bE0', ⟨fun s us ws _ h1 h2 => match us, ws, h1, h2 with | [_], [_], _, _ => .of_eq rfl, fun r1 r2 => r1.append (er_vrev r2)⟩⟩
  have FE1 := fun_mk (st := s_InvalidEntries___init__) lE1 cE1 kE1
  have bE1' := FE1.binds (ps := ["self", "given"]) fun _ _ _ _ _ _ us hl => match us, hl with | [_, _], _ => rfl
  have e1 : MkE l.prog w K mg base 2 "InvalidEntries" (cs 1) ["given"] := ⟨er 1 (by decide), no 1 (by decide), PySem.W.mg_of X G aE1, by decide, fE1, _, _, iE1, fnAll_ok fnA (by simp), ok_er_InvalidEntries FE1, bE1', ⟨fun s us ws _ h1 h2 => match us, ws, h1, h2 with | [_], [_], _, _ => .of_eq rfl, fun r1 r2 => r1.append (er_vrev r2)⟩⟩
  have FE2 := fun_mk (st := s_InvalidSize___init__) lE2 cE2 kE2
  have bE2' := FE2.binds (ps := ["self", "given"]) fun _ _ _ _ _ _ us hl => match us, hl with | [_, _], _ => rfl
  have e2 : MkE l.prog w K mg base 2 "InvalidSize" (cs 2) ["given"] := ⟨er 2 (by decide), no 2 (by decide), PySem.W.mg_of X G aE2, by decide, fE2, _, _, iE2, fnAll_ok fnA (by simp), ok_er_InvalidSize FE2, bE2', ⟨fun s us ws _ h1 h2 => match us, ws, h1, h2 with | [_], [_], _, _ => .of_eq rfl, fun r1 r2 => r1.append (er_vrev r2)⟩⟩
  have FE3 := fun_mk (st := s_InvalidName___init__) lE3 cE3 kE3
  have bE3' := FE3.binds (ps := ["self", "given"]) fun _ _ _ _ _ _ us hl => match us, hl with | [_, _], _ => rfl
  have e3 : MkE l.prog w K mg base 2 "InvalidName" (cs 3) ["given"] := ⟨er 3 (by decide), no 3 (by decide), PySem.W.mg_of X G aE3, by decide, fE3, _, _, iE3, fnAll_ok fnA (by simp), ok_er_InvalidName FE3, bE3', ⟨fun s us ws _ h1 h2 => match us, ws, h1, h2 with | [_], [_], _, _ => .of_eq rfl, fun r1 r2 => r1.append (er_vrev r2)⟩⟩
  have FE4 := fun_mk (st := s_InvalidSide___init__) lE4 cE4 kE4
  have bE4' := FE4.binds (ps := ["self", "given"]) fun _ _ _ _ _ _ us hl => match us, hl with | [_, _], _ => rfl
  have e4 : MkE l.prog w K mg base 2 "InvalidSide" (cs 4) ["given"] := ⟨er 4 (by decide), no 4 (by decide), PySem.W.mg_of X G aE4, by decide, fE4, _, _, iE4, fnAll_ok fnA (by simp), ok_er_InvalidSide FE4, bE4', ⟨fun s us ws _ h1 h2 => match us, ws, h1, h2 with | [_], [_], _, _ => .of_eq rfl, fun r1 r2 => r1.append (er_vrev r2)⟩⟩
  have FE5 := fun_mk (st := s_InvalidSymmetry___init__) lE5 cE5 kE5
  have bE5' := FE5.binds (ps := ["self", "given"]) fun _ _ _ _ _ _ us hl => match us, hl with | [_, _], _ => rfl
  have e5 : MkE l.prog w K mg base 2 "InvalidSymmetry" (cs 5) ["given"] := ⟨er 5 (by decide), no 5 (by decide), PySem.W.mg_of X G aE5, by decide, fE5, _, _, iE5, fnAll_ok fnA (by simp), ok_er_InvalidSymmetry FE5, bE5', ⟨fun s us ws _ h1 h2 => match us, ws, h1, h2 with | [_], [_], _, _ => .of_eq rfl, fun r1 r2 => r1.append (er_vrev r2)⟩⟩
  have FE6 := fun_mk (st := s_InvalidAbout___init__) lE6 cE6 kE6
  have bE6' := FE6.binds (ps := ["self", "given"]) fun _ _ _ _ _ _ us hl => match us, hl with | [_, _], _ => rfl
  have e6 : MkE l.prog w K mg base 2 "InvalidAbout" (cs 6) ["given"] := ⟨er 6 (by decide), no 6 (by decide), PySem.W.mg_of X G aE6, by decide, fE6, _, _, iE6, fnAll_ok fnA (by simp), ok_er_InvalidAbout FE6, bE6', ⟨fun s us ws _ h1 h2 => match us, ws, h1, h2 with | [_], [_], _, _ => .of_eq rfl, fun r1 r2 => r1.append (er_vrev r2)⟩⟩
  have FE7 := fun_mk (st := s_InvalidExponent___init__) lE7 cE7 kE7
  have bE7' := FE7.binds (ps := ["self", "given"]) fun _ _ _ _ _ _ us hl => match us, hl with | [_, _], _ => rfl
  have e7 : MkE l.prog w K mg base 2 "InvalidExponent" (cs 7) ["given"] := ⟨er 7 (by decide), no 7 (by decide), PySem.W.mg_of X G aE7, by decide, fE7, _, _, iE7, fnAll_ok fnA (by simp), ok_er_InvalidExponent FE7, bE7', ⟨fun s us ws _ h1 h2 => match us, ws, h1, h2 with | [_], [_], _, _ => .of_eq rfl, fun r1 r2 => r1.append (er_vrev r2)⟩⟩
  have FE8 := fun_mk (st := s_InvalidIndex___init__) lE8 cE8 kE8
  have bE8' := FE8.binds (ps := ["self", "given"]) fun _ _ _ _ _ _ us hl => match us, hl with | [_, _], _ => rfl
  have e8 : MkE l.prog w K mg base 2 "InvalidIndex" (cs 8) ["given"] := ⟨er 8 (by decide), no 8 (by decide), PySem.W.mg_of X G aE8, by decide, fE8, _, _, iE8, fnAll_ok fnA (by simp), ok_er_InvalidIndex FE8, bE8', ⟨fun s us ws _ h1 h2 => match us, ws, h1, h2 with | [_], [_], _, _ => .of_eq rfl, fun r1 r2 => r1.append (er_vrev r2)⟩⟩
  have FE9 := fun_mk (st := s_InvalidTable___init__) lE9 cE9 kE9
  have bE9' := FE9.binds (ps := ["self", "given"]) fun _ _ _ _ _ _ us hl => match us, hl with | [_, _], _ => rfl
  have e9 : MkE l.prog w K mg base 2 "InvalidTable" (cs 9) ["given"] := ⟨er 9 (by decide), no 9 (by decide), PySem.W.mg_of X G aE9, by decide, fE9, _, _, iE9, fnAll_ok fnA (by simp), ok_er_InvalidTable FE9, bE9', ⟨fun s us ws _ h1 h2 => match us, ws, h1, h2 with | [_], [_], _, _ => .of_eq rfl, fun r1 r2 => r1.append (er_vrev r2)⟩⟩
  have FE10 := fun_mk (st := s_InvalidWord___init__) lE10 cE10 kE10
  have bE10' := FE10.binds (ps := ["self", "given"]) fun _ _ _ _ _ _ us hl => match us, hl with | [_, _], _ => rfl
  have e10 : MkE l.prog w K mg base 2 "InvalidWord" (cs 10) ["given"] := ⟨er 10 (by decide), no 10 (by decide), PySem.W.mg_of X G aE10, by decide, fE10, _, _, iE10, fnAll_ok fnA (by simp), ok_er_InvalidWord FE10, bE10', ⟨fun s us ws _ h1 h2 => match us, ws, h1, h2 with | [_], [_], _, _ => .of_eq rfl, fun r1 r2 => r1.append (er_vrev r2)⟩⟩
  have FE11 := fun_mk (st := s_InvalidMapping___init__) lE11 cE11 kE11
  have bE11' := FE11.binds (ps := ["self", "given"]) fun _ _ _ _ _ _ us hl => match us, hl with | [_, _], _ => rfl
  have e11 : MkE l.prog w K mg base 2 "InvalidMapping" (cs 11) ["given"] := ⟨er 11 (by decide), no 11 (by decide), PySem.W.mg_of X G aE11, by decide, fE11, _, _, iE11, fnAll_ok fnA (by simp), ok_er_InvalidMapping FE11, bE11', ⟨fun s us ws _ h1 h2 => match us, ws, h1, h2 with | [_], [_], _, _ => .of_eq rfl, fun r1 r2 => r1.append (er_vrev r2)⟩⟩
  have FE12 := fun_mk (st := s_InvalidLetters___init__) lE12 cE12 kE12
  have bE12' := FE12.binds (ps := ["self", "given"]) fun _ _ _ _ _ _ us hl => match us, hl with | [_, _], _ => rfl
  have e12 : MkE l.prog w K mg base 2 "InvalidLetters" (cs 12) ["given"] := ⟨er 12 (by decide), no 12 (by decide), PySem.W.mg_of X G aE12, by decide, fE12, _, _, iE12, fnAll_ok fnA (by simp), ok_er_InvalidLetters FE12, bE12', ⟨fun s us ws _ h1 h2 => match us, ws, h1, h2 with | [_], [_], _, _ => .of_eq rfl, fun r1 r2 => r1.append (er_vrev r2)⟩⟩
  have FE13 := fun_mk (st := s_InvalidText___init__) lE13 cE13 kE13
  have bE13' := FE13.binds (ps := ["self", "given"]) fun _ _ _ _ _ _ us hl => match us, hl with | [_, _], _ => rfl
  have e13 : MkE l.prog w K mg base 2 "InvalidText" (cs 13) ["given"] := ⟨er 13 (by decide), no 13 (by decide), PySem.W.mg_of X G aE13, by decide, fE13, _, _, iE13, fnAll_ok fnA (by simp), ok_er_InvalidText FE13, bE13', ⟨fun s us ws _ h1 h2 => match us, ws, h1, h2 with | [_], [_], _, _ => .of_eq rfl, fun r1 r2 => r1.append (er_vrev r2)⟩⟩
  have FE14 := fun_mk (st := s_InvalidDeed___init__) lE14 cE14 kE14
  have bE14' := FE14.binds (ps := ["self", "given"]) fun _ _ _ _ _ _ us hl => match us, hl with | [_, _], _ => rfl
  have e14 : MkE l.prog w K mg base 2 "InvalidDeed" (cs 14) ["given"] := ⟨er 14 (by decide), no 14 (by decide), PySem.W.mg_of X G aE14, by decide, fE14, _, _, iE14, fnAll_ok fnA (by simp), ok_er_InvalidDeed FE14, bE14', ⟨fun s us ws _ h1 h2 => match us, ws, h1, h2 with | [_], [_], _, _ => .of_eq rfl, fun r1 r2 => r1.append (er_vrev r2)⟩⟩
  have FE15 := fun_mk (st := s_InvalidLine___init__) lE15 cE15 kE15
  have bE15' := FE15.binds (ps := ["self", "given"]) fun _ _ _ _ _ _ us hl => match us, hl with | [_, _], _ => rfl
  have e15 : MkE l.prog w K mg base 2 "InvalidLine" (cs 15) ["given"] := ⟨er 15 (by decide), no 15 (by decide), PySem.W.mg_of X G aE15, by decide, fE15, _, _, iE15, fnAll_ok fnA (by simp), ok_er_InvalidLine FE15, bE15', ⟨fun s us ws _ h1 h2 => match us, ws, h1, h2 with | [_], [_], _, _ => .of_eq rfl, fun r1 r2 => r1.append (er_vrev r2)⟩⟩
  have FE16 := fun_mk (st := s_NotAMatrix___init__) lE16 cE16 kE16
  have bE16' := FE16.binds (ps := ["self", "given"]) fun _ _ _ _ _ _ us hl => match us, hl with | [_, _], _ => rfl
  have e16 : MkE l.prog w K mg base 2 "NotAMatrix" (cs 16) ["given"] := ⟨er 16 (by decide), no 16 (by decide), PySem.W.mg_of X G aE16, by decide, fE16, _, _, iE16, fnAll_ok fnA (by simp), ok_er_NotAMatrix FE16, bE16', ⟨fun s us ws _ h1 h2 => match us, ws, h1, h2 with | [_], [_], _, _ => .of_eq rfl, fun r1 r2 => r1.append (er_vrev r2)⟩⟩
  have FE17 := fun_mk (st := s_NotAFormula___init__) lE17 cE17 kE17
  have bE17' := FE17.binds (ps := ["self", "given"]) fun _ _ _ _ _ _ us hl => match us, hl with | [_, _], _ => rfl
  have e17 : MkE l.prog w K mg base 2 "NotAFormula" (cs 17) ["given"] := ⟨er 17 (by decide), no 17 (by decide), PySem.W.mg_of X G aE17, by decide, fE17, _, _, iE17, fnAll_ok fnA (by simp), ok_er_NotAFormula FE17, bE17', ⟨fun s us ws _ h1 h2 => match us, ws, h1, h2 with | [_], [_], _, _ => .of_eq rfl, fun r1 r2 => r1.append (er_vrev r2)⟩⟩
  have FE18 := fun_mk (st := s_NotARatio___init__) lE18 cE18 kE18
  have bE18' := FE18.binds (ps := ["self", "given"]) fun _ _ _ _ _ _ us hl => match us, hl with | [_, _], _ => rfl
  have e18 : MkE l.prog w K mg base 2 "NotARatio" (cs 18) ["given"] := ⟨er 18 (by decide), no 18 (by decide), PySem.W.mg_of X G aE18, by decide, fE18, _, _, iE18, fnAll_ok fnA (by simp), ok_er_NotARatio FE18, bE18', ⟨fun s us ws _ h1 h2 => match us, ws, h1, h2 with | [_], [_], _, _ => .of_eq rfl, fun r1 r2 => r1.append (er_vrev r2)⟩⟩
  have FE19 := fun_mk (st := s_TextError___init__) lE19 cE19 kE19
  have bE19' := FE19.binds (ps := ["self", "place"]) fun _ _ _ _ _ _ us hl => match us, hl with | [_, _], _ => rfl
  have e19 : MkE l.prog w K mg base 2 "TextError" (cs 19) ["place"] := ⟨er 19 (by decide), no 19 (by decide), PySem.W.mg_of X G aE19, by decide, fE19, _, _, iE19, fnAll_ok fnA (by simp), ok_er_TextError FE19, bE19', ⟨fun s us ws _ h1 h2 => match us, ws, h1, h2 with | [_], [_], _, _ => .of_eq rfl, fun r1 r2 => r1.append (er_vrev r2)⟩⟩
  have FE20 := fun_mk (st := s_Clash___init__) lE20 cE20 kE20
  have bE20' := FE20.binds (ps := ["self", "given"]) fun _ _ _ _ _ _ us hl => match us, hl with | [_, _], _ => rfl
  have e20 : MkE l.prog w K mg base 2 "Clash" (cs 20) ["given"] := ⟨er 20 (by decide), no 20 (by decide), PySem.W.mg_of X G aE20, by decide, fE20, _, _, iE20, fnAll_ok fnA (by simp), ok_er_Clash FE20, bE20', ⟨fun s us ws _ h1 h2 => match us, ws, h1, h2 with | [_], [_], _, _ => .of_eq rfl, fun r1 r2 => r1.append (er_vrev r2)⟩⟩
  have FE21 := fun_mk (st := s_Mismatch___init__) lE21 cE21 kE21
  have bE21' := FE21.binds (ps := ["self", "first", "second"]) fun _ _ _ _ _ _ us hl => match us, hl with | [_, _, _], _ => rfl
  have e21 : MkE l.prog w K mg base 2 "Mismatch" (cs 21) ["first", "second"] := ⟨er 21 (by decide), no 21 (by decide), PySem.W.mg_of X G aE21, by decide, fE21, _, _, iE21, fnAll_ok fnA (by simp), ok_er_Mismatch FE21, bE21', ⟨fun s us ws _ h1 h2 => match us, ws, h1, h2 with | [_], [_, _], _, _ => .of_eq rfl, fun r1 r2 => r1.append (er_vrev r2)⟩⟩
  have FE22 := fun_mk (st := s_UnknownName___init__) lE22 cE22 kE22
  have bE22' := FE22.binds (ps := ["self", "given"]) fun _ _ _ _ _ _ us hl => match us, hl with | [_, _], _ => rfl
  have e22 : MkE l.prog w K mg base 2 "UnknownName" (cs 22) ["given"] := ⟨er 22 (by decide), no 22 (by decide), PySem.W.mg_of X G aE22, by decide, fE22, _, _, iE22, fnAll_ok fnA (by simp), ok_er_UnknownName FE22, bE22', ⟨fun s us ws _ h1 h2 => match us, ws, h1, h2 with | [_], [_], _, _ => .of_eq rfl, fun r1 r2 => r1.append (er_vrev r2)⟩⟩
  have FE23 := fun_mk (st := s_Taken___init__) lE23 cE23 kE23
  have bE23' := FE23.binds (ps := ["self", "given"]) fun _ _ _ _ _ _ us hl => match us, hl with | [_, _], _ => rfl
  have e23 : MkE l.prog w K mg base 2 "Taken" (cs 23) ["given"] := ⟨er 23 (by decide), no 23 (by decide), PySem.W.mg_of X G aE23, by decide, fE23, _, _, iE23, fnAll_ok fnA (by simp), ok_er_Taken FE23, bE23', ⟨fun s us ws _ h1 h2 => match us, ws, h1, h2 with | [_], [_], _, _ => .of_eq rfl, fun r1 r2 => r1.append (er_vrev r2)⟩⟩
  have FE24 := fun_mk (st := s_NoSize___init__) lE24 cE24 kE24
  have bE24' := FE24.binds (ps := ["self", "given"]) fun _ _ _ _ _ _ us hl => match us, hl with | [_, _], _ => rfl
  have e24 : MkE l.prog w K mg base 2 "NoSize" (cs 24) ["given"] := ⟨er 24 (by decide), no 24 (by decide), PySem.W.mg_of X G aE24, by decide, fE24, _, _, iE24, fnAll_ok fnA (by simp), ok_er_NoSize FE24, bE24', ⟨fun s us ws _ h1 h2 => match us, ws, h1, h2 with | [_], [_], _, _ => .of_eq rfl, fun r1 r2 => r1.append (er_vrev r2)⟩⟩
  have FE25 := fun_mk (st := s_NoMatrix___init__) lE25 cE25 kE25
  have bE25' := FE25.binds (ps := ["self", "given"]) fun _ _ _ _ _ _ us hl => match us, hl with | [_, _], _ => rfl
  have e25 : MkE l.prog w K mg base 2 "NoMatrix" (cs 25) ["given"] := ⟨er 25 (by decide), no 25 (by decide), PySem.W.mg_of X G aE25, by decide, fE25, _, _, iE25, fnAll_ok fnA (by simp), ok_er_NoMatrix FE25, bE25', ⟨fun s us ws _ h1 h2 => match us, ws, h1, h2 with | [_], [_], _, _ => .of_eq rfl, fun r1 r2 => r1.append (er_vrev r2)⟩⟩
  have FE26 := fun_mk (st := s_InUse___init__) lE26 cE26 kE26
  have bE26' := FE26.binds (ps := ["self", "user"]) fun _ _ _ _ _ _ us hl => match us, hl with | [_, _], _ => rfl
  have e26 : MkE l.prog w K mg base 2 "InUse" (cs 26) ["user"] := ⟨er 26 (by decide), no 26 (by decide), PySem.W.mg_of X G aE26, by decide, fE26, _, _, iE26, fnAll_ok fnA (by simp), ok_er_InUse FE26, bE26', ⟨fun s us ws _ h1 h2 => match us, ws, h1, h2 with | [_], [_], _, _ => .of_eq rfl, fun r1 r2 => r1.append (er_vrev r2)⟩⟩
  have FE27 := fun_mk (st := s_Circular___init__) lE27 cE27 kE27
  have bE27' := FE27.binds (ps := ["self", "given"]) fun _ _ _ _ _ _ us hl => match us, hl with | [_, _], _ => rfl
  have e27 : MkE l.prog w K mg base 2 "Circular" (cs 27) ["given"] := ⟨er 27 (by decide), no 27 (by decide), PySem.W.mg_of X G aE27, by decide, fE27, _, _, iE27, fnAll_ok fnA (by simp), ok_er_Circular FE27, bE27', ⟨fun s us ws _ h1 h2 => match us, ws, h1, h2 with | [_], [_], _, _ => .of_eq rfl, fun r1 r2 => r1.append (er_vrev r2)⟩⟩
  have e28 : MkN K mg "NothingToUndo" (cs 28) := ⟨er 28 (by decide), PySem.W.mg_of X G aE28, _, _, _, _, exb 1, erAll_in erA (i := 28) (by show _ < 36; decide), iE28⟩
  have FE29 := fun_mk (st := s_Unanchored___init__) lE29 cE29 kE29
  have bE29' := FE29.binds (ps := ["self", "spelled"]) fun _ _ _ _ _ _ us hl => match us, hl with | [_, _], _ => rfl
  have e29 : MkE l.prog w K mg base 2 "Unanchored" (cs 29) ["spelled"] := ⟨er 29 (by decide), no 29 (by decide), PySem.W.mg_of X G aE29, by decide, fE29, _, _, iE29, fnAll_ok fnA (by simp), ok_er_Unanchored FE29, bE29', ⟨fun s us ws _ h1 h2 => match us, ws, h1, h2 with | [_], [_], _, _ => .of_eq rfl, fun r1 r2 => r1.append (er_vrev r2)⟩⟩
  have e30 : MkN K mg "Singular" (cs 30) := ⟨er 30 (by decide), PySem.W.mg_of X G aE30, _, _, _, _, exb 2, erAll_in erA (i := 30) (by show _ < 36; decide), iE30⟩
  have e31 : MkN K mg "NoValue" (cs 31) := ⟨er 31 (by decide), PySem.W.mg_of X G aE31, _, _, _, _, exb 2, erAll_in erA (i := 31) (by show _ < 36; decide), iE31⟩
  have FE32 := fun_mk (st := s_TooLarge___init__) lE32 cE32 kE32
  have bE32' := FE32.binds (ps := ["self", "limit"]) fun _ _ _ _ _ _ us hl => match us, hl with | [_, _], _ => rfl
  have e32 : MkE l.prog w K mg base 2 "TooLarge" (cs 32) ["limit"] := ⟨er 32 (by decide), no 32 (by decide), PySem.W.mg_of X G aE32, by decide, fE32, _, _, iE32, fnAll_ok fnA (by simp), ok_er_TooLarge FE32, bE32', ⟨fun s us ws _ h1 h2 => match us, ws, h1, h2 with | [_], [_], _, _ => .of_eq rfl, fun r1 r2 => r1.append (er_vrev r2)⟩⟩
  have FE33 := fun_mk (st := s_TooRich___init__) lE33 cE33 kE33
  have bE33' := FE33.binds (ps := ["self", "limit"]) fun _ _ _ _ _ _ us hl => match us, hl with | [_, _], _ => rfl
  have e33 : MkE l.prog w K mg base 2 "TooRich" (cs 33) ["limit"] := ⟨er 33 (by decide), no 33 (by decide), PySem.W.mg_of X G aE33, by decide, fE33, _, _, iE33, fnAll_ok fnA (by simp), ok_er_TooRich FE33, bE33', ⟨fun s us ws _ h1 h2 => match us, ws, h1, h2 with | [_], [_], _, _ => .of_eq rfl, fun r1 r2 => r1.append (er_vrev r2)⟩⟩
  have FE34 := fun_mk (st := s_NotSolvable___init__) lE34 cE34 kE34
  have bE34' := FE34.binds (ps := ["self", "reason", "shown"]) fun _ _ _ _ _ _ us hl => match us, hl with | [_, _, _], _ => rfl
  have e34 : MkE l.prog w K mg base 2 "NotSolvable" (cs 34) ["reason", "shown"] := ⟨er 34 (by decide), no 34 (by decide), PySem.W.mg_of X G aE34, by decide, fE34, _, _, iE34, fnAll_ok fnA (by simp), ok_er_NotSolvable FE34, bE34', ⟨fun s us ws _ h1 h2 => match us, ws, h1, h2 with | [_], [_, _], _, _ => .of_eq rfl, fun r1 r2 => r1.append (er_vrev r2)⟩⟩
  have FE35 := fun_mk (st := s_Broken___init__) lE35 cE35 kE35
  have bE35' := FE35.binds (ps := ["self", "claim", "found"]) fun _ _ _ _ _ _ us hl => match us, hl with | [_, _, _], _ => rfl
  have e35 : MkE l.prog w K mg base 2 "Broken" (cs 35) ["claim", "found"] := ⟨er 35 (by decide), no 35 (by decide), PySem.W.mg_of X G aE35, by decide, fE35, _, _, iE35, fnAll_ok fnA (by simp), ok_er_Broken FE35, bE35', ⟨fun s us ws _ h1 h2 => match us, ws, h1, h2 with | [_], [_, _], _, _ => .of_eq rfl, fun r1 r2 => r1.append (er_vrev r2)⟩⟩
  have ME : ErrM l.prog w K mg base cs := ⟨e0, e1, e2, e3, e4, e5, e6, e7, e8, e9, e10, e11, e12, e13, e14, e15, e16, e17, e18, e19, e20, e21, e22, e23, e24, e25, e26, e27, e28, e29, e30, e31, e32, e33, e34, e35⟩
  have c_draw : CalG l.prog w K mg base _ "_law_draw" _ [] := ⟨fD2, _, _, [], ok_draw FD2 B, gD2, kD2, bD2, .nil⟩
  have c_great : CalG l.prog w K mg base _ "_law_great" _ [] := ⟨fD3, _, _, [], ok_great FD3 B c_draw, gD3, kD3, bD3, .nil⟩
  have c_purse : CalG l.prog w K mg base _ "_law_purse" _ [] := ⟨fD1, _, _, [], ok_purse FD1 B, gD1, kD1, bD1, .nil⟩
  have c_from : CalG l.prog w K mg base _ "_law_from" _ [] := ⟨fD4, _, _, [], ok_from FD4 c_purse, gD4, kD4, bD4, .nil⟩
  have c_sign : CalG l.prog w K mg base _ "_law_sign_text" _ [] := ⟨fD5, _, _, [], ok_sign FD5 B c_draw, gD5, kD5, bD5, .nil⟩
  have c_odd0 : CalG l.prog w K mg base 6 "_law_odd" (spOdd K C 0) [] := ⟨fD6, _, _, [], ⟨fun _ _ _ _ h => h.elim, fun _ _ _ _ _ _ _ _ _ _ _ _ _ _ h => h.elim⟩, gD6, kD6, bD6, .nil⟩
  have c_odd1 : CalG l.prog w K mg base 7 "_law_odd" (spOdd K C 1) [] := ⟨fD6, _, _, [], ok_odd (l := 6) FD6 R O c_draw c_great c_sign m_rat2 (by decide) 0 c_odd0, gD6, kD6, bD6, .nil⟩
  have c_odd2 : CalG l.prog w K mg base 8 "_law_odd" (spOdd K C 2) [] := ⟨fD6, _, _, [], ok_odd (l := 7) FD6 R O c_draw c_great c_sign m_rat2 (by decide) 1 c_odd1, gD6, kD6, bD6, .nil⟩
  have c_odd3 : CalG l.prog w K mg base 9 "_law_odd" (spOdd K C 3) [] := ⟨fD6, _, _, [], ok_odd (l := 8) FD6 R O c_draw c_great c_sign m_rat2 (by decide) 2 c_odd2, gD6, kD6, bD6, .nil⟩
  have c_sorts : SortsC l.prog w K mg base cs := ⟨fD7, _, _, [], ok_sorts FD7 B Z, gD7, kD7, bD7, .nil⟩
  have c_places : PlacesC l.prog w K mg base cs := ⟨fD8, _, _, [], ok_places FD8 ME, gD8, kD8, bD8, .nil⟩
  have c_words : WordsC l.prog w K mg base cs := ⟨fD9, _, _, [], ok_words FD9 ME, gD9, kD9, bD9, .nil⟩
  have c_belongs : BelC l.prog w K mg base cs := ⟨fD10, _, _, [], ok_belongs FD10 B c_sorts, gD10, kD10, bD10, .nil⟩
  have c_right : RightC l.prog w K mg base := ⟨fD11, _, _, [], ok_right FD11 B (PySem.W.mg_none_of X G b_list) Z S ME c_odd3 c_places c_words c_belongs d_repr, gD11, kD11, bD11, .nil⟩
  have N : CstG mg := ⟨⟨_, PySem.W.mg_of X G mM0⟩, ⟨_, PySem.W.mg_of X G mM1⟩, ⟨_, PySem.W.mg_of X G mM2⟩, ⟨_, PySem.W.mg_of X G mM3⟩, ⟨_, PySem.W.mg_of X G mM4⟩, ⟨_, PySem.W.mg_of X G mM5⟩⟩
  exact ok_law FD12 B N d_repr c_right c_from
theorem walk {l : PySem.W.OpenLaw} {q : Program} {loose : List Str} {XP : (Str → Option Value) → Heap → Prop} {YP : World → Heap → Prop} {d : DefRec} {K : Params → PySem.W.Frag} (hn : l.most = some 63) (hdf : d.params.defaults = [])
    (hY : ∀ (w : World) (h : Heap), YP w h → (K w.params).In h)
    (F : ∀ (w : World) (mg : Str → Option Value) (fa : Addr) (h : Heap), (K w.params).In h → h.Ns mainGlobals mg → mg d.name = some (.ref fa) →
      ∃ fd : FuncData, (∀ (s : Shared) (u : Value), BindsTo s fd ⟨[u], []⟩ [("_law_script", u)]) ∧ ∀ base : Heap, (K w.params).In base → base.Ns mainGlobals mg → FnG l.prog w (K w.params) mg base CX0 26 fa fd ["_law_script"] (spLaw (K w.params))) :
    PySem.W.WalkO q loose XP YP l.row.toRowW d [] (fun f vs => PySem.call f vs) :=
  walkG (n := 63) (k := 26) (x := "_law_script") (sp := fun w => spLaw (K w.params)) hn (by decide) hdf ⟨rfl, by decide, by decide⟩ hY F (fun _ _ a ns hl _ hS => ⟨a, ns, rfl, hS, hl, fun _ => rfl⟩)
end Lw

open PySem PySem.W PyProof.Rows
set_option maxRecDepth 100000 in
set_option maxHeartbeats 0 in
theorem PySem.Challenge.cw_matrixforms_k01_constants_and_errors_holds : PySem.Challenge.rw_matrixforms_k01_constants_and_errors.Holds := by
  refine Lw.hd ?_
  k_fill
  refine Lw.walk (l := PySem.Challenge.rw_matrixforms_k01_constants_and_errors) rfl rfl (fun w h Y => PySem.W.kIn_of Y) ?F
  case F =>
    intro w mg fa h KX G hmg
    refine' Lw.all_mk KX G hmg ?aD0 ?lD0 ?cD0 ?kD0 ?aD1 ?lD1 ?cD1 ?kD1 ?aD2 ?lD2 ?cD2 ?kD2 ?aD3 ?lD3 ?cD3 ?kD3 ?aD4 ?lD4 ?cD4 ?kD4 ?aD5 ?lD5 ?cD5 ?kD5 ?aD6 ?lD6 ?cD6 ?kD6 ?aD7 ?lD7 ?cD7 ?kD7 ?aD8 ?lD8 ?cD8 ?kD8 ?aD9 ?lD9 ?cD9 ?kD9 ?aD10 ?lD10 ?cD10 ?kD10 ?aD11 ?lD11 ?cD11 ?kD11 ?aD12 ?lD12 ?cD12 ?kD12 ?aM0 ?iM0 ?lM0 ?cM0 ?kM0 ?aI ?iI ?lI ?cI ?kI ?lT ?dT ?z_int ?z_len ?z_abs ?z_range ?z_max ?z_min ?z_all ?z_repr ?z_isinstance ?z_bool ?z_str ?z_any ?pg ?hd ?po ?sa ?mk ?kcC ?nT' ?nB' ?aR ?aG ?ca ?cn ?ct' ?cm ?sI ?sB ?tyC ?isC ?sb ?sST ?x_n ?x_s ?x_t ?x_l ?x_b ?x_d ?aE0 ?aE1 ?aE2 ?aE3 ?aE4 ?aE5 ?aE6 ?aE7 ?aE8 ?aE9 ?aE10 ?aE11 ?aE12 ?aE13 ?aE14 ?aE15 ?aE16 ?aE17 ?aE18 ?aE19 ?aE20 ?aE21 ?aE22 ?aE23 ?aE24 ?aE25 ?aE26 ?aE27 ?aE28 ?aE29 ?aE30 ?aE31 ?aE32 ?aE33 ?aE34 ?aE35 ?aE36 ?aE37 ?aE38 ?iE0 ?lE0 ?cE0 ?kE0 ?iE1 ?lE1 ?cE1 ?kE1 ?iE2 ?lE2 ?cE2 ?kE2 ?iE3 ?lE3 ?cE3 ?kE3 ?iE4 ?lE4 ?cE4 ?kE4 ?iE5 ?lE5 ?cE5 ?kE5 ?iE6 ?lE6 ?cE6 ?kE6 ?iE7 ?lE7 ?cE7 ?kE7 ?iE8 ?lE8 ?cE8 ?kE8 ?iE9 ?lE9 ?cE9 ?kE9 ?iE10 ?lE10 ?cE10 ?kE10 ?iE11 ?lE11 ?cE11 ?kE11 ?iE12 ?lE12 ?cE12 ?kE12 ?iE13 ?lE13 ?cE13 ?kE13 ?iE14 ?lE14 ?cE14 ?kE14 ?iE15 ?lE15 ?cE15 ?kE15 ?iE16 ?lE16 ?cE16 ?kE16 ?iE17 ?lE17 ?cE17 ?kE17 ?iE18 ?lE18 ?cE18 ?kE18 ?iE19 ?lE19 ?cE19 ?kE19 ?iE20 ?lE20 ?cE20 ?kE20 ?iE21 ?lE21 ?cE21 ?kE21 ?iE22 ?lE22 ?cE22 ?kE22 ?iE23 ?lE23 ?cE23 ?kE23 ?iE24 ?lE24 ?cE24 ?kE24 ?iE25 ?lE25 ?cE25 ?kE25 ?iE26 ?lE26 ?cE26 ?kE26 ?iE27 ?lE27 ?cE27 ?kE27 ?iE29 ?lE29 ?cE29 ?kE29 ?iE32 ?lE32 ?cE32 ?kE32 ?iE33 ?lE33 ?cE33 ?kE33 ?iE34 ?lE34 ?cE34 ?kE34 ?iE35 ?lE35 ?cE35 ?kE35 ?iE28 ?iE30 ?iE31 ?erA ?noA ?fnA ?soA ?clA ?bE0 ?bE1 ?bE2 ?b_list ?mM0 ?mM1 ?mM2 ?mM3 ?mM4 ?mM5
    (case aR => k_is)
    (case aD0 => k_is)
    (case lD0 => k_is)
    (case cD0 => k_is)
    (case kD0 => k_is)
    (case aD1 => k_is)
    (case lD1 => k_is)
    (case cD1 => k_is)
    (case kD1 => k_is)
    (case aD2 => k_is)
    (case lD2 => k_is)
    (case cD2 => k_is)
    (case kD2 => k_is)
    (case aD3 => k_is)
    (case lD3 => k_is)
    (case cD3 => k_is)
    (case kD3 => k_is)
    (case aD4 => k_is)
    (case lD4 => k_is)
    (case cD4 => k_is)
    (case kD4 => k_is)
    (case aD5 => k_is)
    (case lD5 => k_is)
    (case cD5 => k_is)
    (case kD5 => k_is)
    (case aD6 => k_is)
    (case lD6 => k_is)
    (case cD6 => k_is)
    (case kD6 => k_is)
    (case aD7 => k_is)
    (case lD7 => k_is)
    (case cD7 => k_is)
    (case kD7 => k_is)
    (case aD8 => k_is)
    (case lD8 => k_is)
    (case cD8 => k_is)
    (case kD8 => k_is)
    (case aD9 => k_is)
    (case lD9 => k_is)
    (case cD9 => k_is)
    (case kD9 => k_is)
    (case aD10 => k_is)
    (case lD10 => k_is)
    (case cD10 => k_is)
    (case kD10 => k_is)
    (case aD11 => k_is)
    (case lD11 => k_is)
    (case cD11 => k_is)
    (case kD11 => k_is)
    (case aD12 => k_is)
    (case lD12 => k_is)
    (case cD12 => k_is)
    (case kD12 => k_is)
    (case aM0 => k_is)
    (case iM0 => k_is)
    (case lM0 => k_is)
    (case cM0 => k_is)
    (case kM0 => k_is)
    (case aI => k_is)
    (case iI => k_is)
    (case lI => k_is)
    (case cI => k_is)
    (case kI => k_is)
    (case lT => k_is)
    (case dT => rfl)
    (case z_int => k_is)
    (case z_len => k_is)
    (case z_abs => k_is)
    (case z_range => k_is)
    (case z_max => k_is)
    (case z_min => k_is)
    (case z_all => k_is)
    (case z_repr => k_is)
    (case z_isinstance => k_is)
    (case z_bool => k_is)
    (case z_str => k_is)
    (case z_any => k_is)
    (case pg => k_is)
    (case hd => k_is)
    (case po => k_is)
    (case sa => k_is)
    (case mk => k_is)
    (case kcC => k_is)
    (case nT' => k_is)
    (case nB' => k_is)
    (case aG => k_is)
    (case ca => k_is)
    (case cn => k_is)
    (case ct' => k_is)
    (case cm => k_is)
    (case sI => k_is)
    (case sB => k_is)
    (case tyC => k_is)
    (case isC => k_is)
    (case sb => k_is)
    (case sST => k_is)
    (case x_n => k_is)
    (case x_s => k_is)
    (case x_t => k_is)
    (case x_l => k_is)
    (case x_b => k_is)
    (case x_d => k_is)
    (case aE0 => k_is)
    (case aE1 => k_is)
    (case aE2 => k_is)
    (case aE3 => k_is)
    (case aE4 => k_is)
    (case aE5 => k_is)
    (case aE6 => k_is)
    (case aE7 => k_is)
    (case aE8 => k_is)
    (case aE9 => k_is)
    (case aE10 => k_is)
    (case aE11 => k_is)
    (case aE12 => k_is)
    (case aE13 => k_is)
    (case aE14 => k_is)
    (case aE15 => k_is)
    (case aE16 => k_is)
    (case aE17 => k_is)
    (case aE18 => k_is)
    (case aE19 => k_is)
    (case aE20 => k_is)
    (case aE21 => k_is)
    (case aE22 => k_is)
    (case aE23 => k_is)
    (case aE24 => k_is)
    (case aE25 => k_is)
    (case aE26 => k_is)
    (case aE27 => k_is)
    (case aE28 => k_is)
    (case aE29 => k_is)
    (case aE30 => k_is)
    (case aE31 => k_is)
    (case aE32 => k_is)
    (case aE33 => k_is)
    (case aE34 => k_is)
    (case aE35 => k_is)
    (case aE36 => k_is)
    (case aE37 => k_is)
    (case aE38 => k_is)
    (case iE0 => k_is)
    (case lE0 => k_is)
    (case cE0 => k_is)
    (case kE0 => k_is)
    (case iE1 => k_is)
    (case lE1 => k_is)
    (case cE1 => k_is)
    (case kE1 => k_is)
    (case iE2 => k_is)
    (case lE2 => k_is)
    (case cE2 => k_is)
    (case kE2 => k_is)
    (case iE3 => k_is)
    (case lE3 => k_is)
    (case cE3 => k_is)
    (case kE3 => k_is)
    (case iE4 => k_is)
    (case lE4 => k_is)
    (case cE4 => k_is)
    (case kE4 => k_is)
    (case iE5 => k_is)
    (case lE5 => k_is)
    (case cE5 => k_is)
    (case kE5 => k_is)
    (case iE6 => k_is)
    (case lE6 => k_is)
    (case cE6 => k_is)
    (case kE6 => k_is)
    (case iE7 => k_is)
    (case lE7 => k_is)
    (case cE7 => k_is)
    (case kE7 => k_is)
    (case iE8 => k_is)
    (case lE8 => k_is)
    (case cE8 => k_is)
    (case kE8 => k_is)
    (case iE9 => k_is)
    (case lE9 => k_is)
    (case cE9 => k_is)
    (case kE9 => k_is)
    (case iE10 => k_is)
    (case lE10 => k_is)
    (case cE10 => k_is)
    (case kE10 => k_is)
    (case iE11 => k_is)
    (case lE11 => k_is)
    (case cE11 => k_is)
    (case kE11 => k_is)
    (case iE12 => k_is)
    (case lE12 => k_is)
    (case cE12 => k_is)
    (case kE12 => k_is)
    (case iE13 => k_is)
    (case lE13 => k_is)
    (case cE13 => k_is)
    (case kE13 => k_is)
    (case iE14 => k_is)
    (case lE14 => k_is)
    (case cE14 => k_is)
    (case kE14 => k_is)
    (case iE15 => k_is)
    (case lE15 => k_is)
    (case cE15 => k_is)
    (case kE15 => k_is)
    (case iE16 => k_is)
    (case lE16 => k_is)
    (case cE16 => k_is)
    (case kE16 => k_is)
    (case iE17 => k_is)
    (case lE17 => k_is)
    (case cE17 => k_is)
    (case kE17 => k_is)
    (case iE18 => k_is)
    (case lE18 => k_is)
    (case cE18 => k_is)
    (case kE18 => k_is)
    (case iE19 => k_is)
    (case lE19 => k_is)
    (case cE19 => k_is)
    (case kE19 => k_is)
    (case iE20 => k_is)
    (case lE20 => k_is)
    (case cE20 => k_is)
    (case kE20 => k_is)
    (case iE21 => k_is)
    (case lE21 => k_is)
    (case cE21 => k_is)
    (case kE21 => k_is)
    (case iE22 => k_is)
    (case lE22 => k_is)
    (case cE22 => k_is)
    (case kE22 => k_is)
    (case iE23 => k_is)
    (case lE23 => k_is)
    (case cE23 => k_is)
    (case kE23 => k_is)
    (case iE24 => k_is)
    (case lE24 => k_is)
    (case cE24 => k_is)
    (case kE24 => k_is)
    (case iE25 => k_is)
    (case lE25 => k_is)
    (case cE25 => k_is)
    (case kE25 => k_is)
    (case iE26 => k_is)
    (case lE26 => k_is)
    (case cE26 => k_is)
    (case kE26 => k_is)
    (case iE27 => k_is)
    (case lE27 => k_is)
    (case cE27 => k_is)
    (case kE27 => k_is)
    (case iE29 => k_is)
    (case lE29 => k_is)
    (case cE29 => k_is)
    (case kE29 => k_is)
    (case iE32 => k_is)
    (case lE32 => k_is)
    (case cE32 => k_is)
    (case kE32 => k_is)
    (case iE33 => k_is)
    (case lE33 => k_is)
    (case cE33 => k_is)
    (case kE33 => k_is)
    (case iE34 => k_is)
    (case lE34 => k_is)
    (case cE34 => k_is)
    (case kE34 => k_is)
    (case iE35 => k_is)
    (case lE35 => k_is)
    (case cE35 => k_is)
    (case kE35 => k_is)
    (case iE28 => k_is)
    (case iE30 => k_is)
    (case iE31 => k_is)
    (case erA => kernel_rfl!)
    (case noA => kernel_rfl!)
    (case fnA => kernel_rfl!)
    (case soA => kernel_rfl!)
    (case clA => kernel_rfl!)
    (case bE0 => k_is)
    (case bE1 => k_is)
    (case bE2 => k_is)
    (case b_list => k_is)
    (case mM0 => k_is)
    (case mM1 => k_is)
    (case mM2 => k_is)
    (case mM3 => k_is)
    (case mM4 => k_is)
    (case mM5 => k_is)


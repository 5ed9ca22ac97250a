import PyProof.Rows.All
import Wide.All
import OpenK.AllK
import Wide.FinOn
import HandS.ForMost
import HandS.Wide
import HandS.Gcd
import HandS.IsInst
import HandS.Property
import HandS.OwnEq
import KE.KOpsOwn
import PyProof.ReprRoads
import HandS.Codes
import HandS.Defaults
import HandS.MakeKwOnly
import OpenK.KOps
import KE.KCallOwn
import PyProof.ReprDict
import PyProof.StrHeap
import HandS.MakeKw
import HandS.HotCalls
import HandS.Style
import PyProof.Rows.SortStrRead
import PyProof.Rows.ReprOcc
import PyProof.ReprLen
import PyProof.P3Eq
import HandS.FStr
import HandS.ExcInitHot
import HandS.ExcField
import HandS.WordsExc
import HandS.ExcIs
import HandS.ClsMeth
import HandS.StrMore
import HandS.Text
import PySem.Challenge.RW_matrixforms_k04_ratio_texts
set_option Elab.async false
set_option linter.all false
set_option maxRecDepth 100000
set_option maxHeartbeats 8000000
/-! A layer over L2 in which it is known that no guarded builtin (repr of a container) is running around. -/
namespace MG
open PySem PySem.Spec PyProof.Rows L2

/-- nothing guarded runs around -/
def Bare (A : Around) : Prop := A.guards = some []

/-- as FnOk, called only where nothing guarded runs around -/
structure FnG (P : Program) (w : World) (K : PySem.W.Frag) (mg : Str → Option Value) (base : Heap) (CX : CXT) (k : Nat)
    (f : Addr) (fd : FuncData) (ps : List Str) (sp : Sp) : Prop where
  len : ∀ vs H Q E, sp vs H Q E → vs.length = ps.length
  run : ∀ (A : Around) (outer : List Env) (s : Shared) (H : Hp) (args : Args) (us : List Value) (vs : List V) (Q : VK) (E : XK),
    Bare A → Room k A → Env0 P w K mg base A outer s H → BindsTo s fd args (ps.zip us) → Vals vs us → sp vs H Q E →
      codeAny (model P w) A (.call (.ref f) args) (CR CX outer P w H s Q E) s

section
variable {P : Program} {w : World} {K : PySem.W.Frag} {mg : Str → Option Value} {base : Heap} {CX : CXT} {k : Nat} {f : Addr}
theorem FnG.of {fd : FuncData} {ps : List Str} {sp : Sp} (F : FnOk P w K mg base CX k f fd ps sp) : FnG P w K mg base CX k f fd ps sp :=
  ⟨F.len, fun A outer s H args us vs Q E _ => F.run A outer s H args us vs Q E⟩

theorem fnG_of {name qual : Str} {params : Arguments} {body : List Stmt} {scope : Scope} {dV kV doc pm cdv ct oc : Value} {an od : Option Addr}
    {osl : Array (Option Value)} {N ps : List Str} {sp : Sp}
    (lk : K.lookup f = some ⟨oc, od, .func (PySem.W.fnOf name qual params body scope dV kV doc pm an cdv ct), osl⟩)
    (hcd : PySem.W.codeIn K cdv qual = true) (S : FnScope N ps scope) (len : ∀ vs H Q E, sp vs H Q E → vs.length = ps.length)
    (hbody : ∀ (A : Around) (outer : List Env) (s : Shared) (H : Hp) (vs : List V) (Q : VK) (E : XK), Bare A →
      Room k (A.deeper (envOfC qual scope s.heap.objs.size f cdv)) → sp vs H Q E →
      ∃ t, PSs (cxOf CX P w K mg base N qual scope f cdv A outer s H E) body t ∧ t { nx := fun _ H' => Q .non H', rt := Q } (start N vs) H) :
    FnG P w K mg base CX (k + 1) f (PySem.W.fnOf name qual params body scope dV kV doc pm an cdv ct) ps sp := by
  refine ⟨len, ?_⟩
  intro A outer s H args us vs Q E bare hr e0 hb r hsp
  have hl := len _ _ _ _ hsp
  have inK : K.In s.heap := e0.mod.kin.keeps (fun b o e => (e0.bs b o e).left)
  have free : s.heap.NoLimit := e0.mod.nolimit.keeps (fun b o e => (e0.bs b o e).left)
  refine codeAny_call_function hr.depth (inK _ _ lk) rfl S.co S.gen rfl (PySem.W.codeRec_of inK hcd) (hb _ _ _ _ ?_)
  have kinds : ∀ y ∈ ps.zip us, scope.names.lookup y.1 = some .local ∨
      (scope.names.lookup y.1 = some .cell ∧ ((cellsFrom (s.heap.objs.size + 1) scope.names []).lookup y.1).isSome = true) := by
    rintro ⟨n, v⟩ hy
    exact (S.par n (List.of_mem_zip hy).left).imp id fun q => ⟨q, PySem.W.cellsFrom_some _ _ _ (.inl q)⟩
  refine wpAny_newFunctionEnv_cells S.kind kinds ?_
  intro env he s1 x
  subst he
  refine ⟨free.keeps x.toInCall.keep, codeAny_func ?_⟩
  obtain ⟨t, ht, hq⟩ := hbody A outer s H vs Q E bare (hr.deeper _) hsp
  have I := inv_start (CX := CX) (E := E) S hr.hd e0 hl r x
  refine wpAny_mono (ht.run [] s1 (start N vs) H _ I hq) ?_ (fun e s' hs => hs)
  intro fl s' hs
  match fl, hs with
  | .ret u, ⟨v, σ', H', J, rv, q⟩ => exact ⟨v, H', J.os, J.bare, J.base, J.hok, rv, q⟩
  | .next, ⟨σ', H', J, q⟩ => exact ⟨V.non, H', J.os, J.bare, J.base, J.hok, rfl, q⟩
  | .brk, ⟨_, _, _, q⟩ => exact False.elim q
  | .cont, ⟨_, _, _, q⟩ => exact False.elim q
end

section
variable {X : Cx} {CX : CXT} {k : Nat} {f C : Addr} {fd : FuncData} {ps : List Str} {sp : Sp} {dvs : List V} {ds : List Value} {E : XK} {x m : Str} {p pos apos : Pos} {e o : Expr} {es : List Expr} {ta : TE} {t : TA}
variable {pins : List (Addr × Obj)} {σ : L2.St} {H : Hp} {s : Shared}
theorem run_fnG {Q : VK} {us : List Value} {vs : List V} (F : FnG X.prog X.w X.K X.mg X.base CX k f fd ps sp) (bare : Bare X.A) (hr : Room k X.A)
    (hb : Binds X.K fd ps ds) (hd : Vals dvs ds) (hx : Passes CX X E) (I : Inv X pins σ H s) (r : Vals vs us) (h : sp (vs ++ dvs) H Q E) :
    wpAny (model X.prog X.w) X.A (call (.ref f) us) (EP X pins σ Q) X.xe s := by
  have r2 := r.append hd
  have hl : (us ++ ds).length = ps.length := r2.length.symm.trans (F.len _ _ _ _ h)
  refine wpAny_call (codeAny_mono (F.run X.A X.stack s H ⟨us, []⟩ _ _ Q E bare hr I.env0 (hb s us I.kIn hl) r2 h) ?_)
  intro r s' hq
  match r, hq with
  | .error e, hq => exact hx pins σ H s e s' I hq
  | .ok (.ret u), hq => exact I.after hq
  | .ok .next, hq => exact False.elim hq
  | .ok .brk, hq => exact False.elim hq
  | .ok .cont, hq => exact False.elim hq

theorem pe_callG (F : FnG X.prog X.w X.K X.mg X.base CX k f fd ps sp) (bare : Bare X.A) (hr : Room k X.A) (hg : Gl X x) (hm : X.mg x = some (.ref f))
    (hk : PySem.W.keepIn X.K (.ref f) = true) (hb : Binds X.K fd ps ds) (hd : Vals dvs ds) (hx : Passes CX X E) (ha : PA X (e :: es) t)
    (hdb : (x == ("__debug__" : Str)) = false := by decide)
    (he : starEach (e :: es) X.env = (false, eval e X.env) :: starEach es X.env := by rfl)
    (hpl : (backTo pos (starEach es X.env)).any (·.1) = false := by rfl) : PE X (.Call (.Name x p) (e :: es) [] pos) (tCall sp dvs E t) := by
  constructor
  intro pins s σ H Q I h
  refine wpAny_Call_Name_kw (ld_glob I hg hm ?_ hdb)
  refine PySem.W.callWith_K (h₀ := X.base) I.ok.mod.kin hk (thn (ha.run pos pins s σ H _ I h) ?_) he hpl
  rintro us s1 ⟨vs, H1, I1, r, q⟩
  exact ⟨I1.kIn, run_fnG F bare hr hb hd hx I1 r q⟩
end

/-- the law's call at the heap behind the top, H being what is tracked there: at most the script -/
theorem enterG {P : Program} {w : World} {K : PySem.W.Frag} {mg mb : Str → Option Value} {k : Nat} {fa a : Addr} {fd : FuncData} {x : Str} {sp : Sp}
    {s₁ : Shared} {vs : List Value} {ns : List Int} {H : Hp}
    (KX : K.In s₁.heap) (hns : s₁.heap.Ns mainGlobals mg) (hb : s₁.heap.Ns builtinsNs mb) (hbb : ∀ x : Str, x ≠ "__name__" → mb x = bootBuiltins x)
    (hlim : s₁.heap.NoLimit) (hg : s₁.gens = #[]) (ha : s₁.heap.get? a = some { cls := .type "list", data := .seq vs.toArray })
    (hr : Room k callerA) (F : ∀ base : Heap, K.In base → base.Ns mainGlobals mg → FnG P w K mg base CX0 k fa fd [x] sp)
    (hbind : ∀ (s : Shared) (u : Value), BindsTo s fd ⟨[u], []⟩ [(x, u)])
    (hO : Only H) (hok : HOk P w H s₁.heap) (hA : ∀ b, H b ≠ none → b = a) (hK : H a ≠ none → K.lookup a = none)
    (hsp : sp [.ref a] H (fun v _ => v = .bl true) fun _ _ _ => False) :
    codeAny (model P w) callerA (.call (.ref fa) ⟨[.ref a], []⟩)
      (fun r s' => r = .ok (.ret (.bool true)) ∧ OldK s₁.heap s'.heap ∧ s'.os = s₁.os ∧ AllBare s'.gens) s₁ := by
  have untr : ∀ {b : Addr}, (b = a → False) → H b = none := fun {b} hne => by
    cases q : H b with
    | none => rfl
    | some u => exact (hne (hA b (by rw [q]; exact Option.some_ne_none u))).elim
  have ns' : ∀ {b : Addr} {m : Str → Option Value}, s₁.heap.Ns b m → (hidT s₁.heap H).Ns b m := by
    rintro b m ⟨o, es, ep, e, d, r⟩
    refine ⟨o, es, ep, hidT_get e (untr fun z => ?_), d, r⟩
    subst z
    have e' := e.symm.trans ha
    cases e'
    cases d
  have inB : K.In (hidT s₁.heap H) := fun b o e => hidT_get (KX b o e) (by
    by_cases z : b = a
    · subst z
      cases q : H b with
      | none => rfl
      | some u =>
        have e2 := hK (by rw [q]; exact Option.some_ne_none u)
        exact nomatch e.symm.trans e2
    · exact untr z)
  have M : Mod K mg (hidT s₁.heap H) := by
    refine ⟨inB, ns' hns, ⟨mb, ns' hb, hbb⟩, ?_⟩
    obtain ⟨mc, h1, h2⟩ := hlim
    exact ⟨mc, ns' h1, h2⟩
  have env : Env0 P w K mg (hidT s₁.heap H) callerA [] s₁ H :=
    { frames := rfl, mod := M, bs := fun b o e => of_hidT e, bsz := Nat.le_of_eq (hidT_size _ _), funs := trivial,
      frf := (fun b z => nomatch (show b ∈ ([] : List Addr) from z)), hok := hok, bare := .of_eq hg }
  refine codeAny_mono ((F _ inB (ns' hns)).run callerA [] s₁ H ⟨[.ref a], []⟩ [.ref a] [.ref a] _ _ rfl hr env (hbind s₁ (.ref a)) (.cons rfl .nil) hsp) ?_
  intro r s' h
  match r, h with
  | .error e, h => exact False.elim h
  | .ok .next, h => exact False.elim h
  | .ok .brk, h => exact False.elim h
  | .ok .cont, h => exact False.elim h
  | .ok (.ret u), ⟨v, H', os, bare, un, hok', rv, hv⟩ =>
    have hv' : v = .bl true := hv
    subst hv'
    have hu : u = Value.bool true := rv
    subst hu
    refine ⟨rfl, OldK.of_keep ?_, os, bare⟩
    intro b o e
    cases q : H b with
    | none => exact un.keep b o e q (fun z => by cases z) (by simp)
    | some t =>
      obtain ⟨ob, xs, z⟩ := (hO b).resolve_left (by rw [q]; exact Option.some_ne_none t)
      have o1 : s₁.heap.get? b = some ob := (hok b _ z).left
      have o2 : s'.heap.get? b = some ob := (hok' b _ (un.frzs b ob _ z)).left
      rw [o2]
      exact o1.symm.trans e

theorem callG {P : Program} {w : World} {K : PySem.W.Frag} {mg mb : Str → Option Value} {k : Nat} {fa a : Addr} {fd : FuncData} {x : Str} {sp : Sp}
    {s₁ : Shared} {vs : List Value} {ns : List Int}
    (KX : K.In s₁.heap) (hns : s₁.heap.Ns mainGlobals mg) (hb : s₁.heap.Ns builtinsNs mb) (hbb : ∀ x : Str, x ≠ "__name__" → mb x = bootBuiltins x)
    (hlim : s₁.heap.NoLimit) (hg : s₁.gens = #[]) (ha : s₁.heap.get? a = some { cls := .type "list", data := .seq vs.toArray }) (hi : IntsAre vs ns)
    (hl : ns.length ≤ sizeLine) (hr : Room k callerA) (F : ∀ base : Heap, K.In base → base.Ns mainGlobals mg → FnG P w K mg base CX0 k fa fd [x] sp)
    (hbind : ∀ (s : Shared) (u : Value), BindsTo s fd ⟨[u], []⟩ [(x, u)])
    (hsp : ∀ H : Hp, Only H → SqL K H a (ns.map V.int) → sp [.ref a] H (fun v _ => v = .bl true) fun _ _ _ => False) :
    codeAny (model P w) callerA (.call (.ref fa) ⟨[.ref a], []⟩)
      (fun r s' => r = .ok (.ret (.bool true)) ∧ OldK s₁.heap s'.heap ∧ s'.os = s₁.os ∧ AllBare s'.gens) s₁ := by
  have rv := vals_ints hi
  have lv := hi.length
  by_cases hk : K.lookup a = none
  · let H0 : Hp := upd (fun _ => none) a (.frz { cls := .type "list", data := .seq vs.toArray } (.lst (ns.map V.int)))
    have h0 : ∀ b, b ≠ a → H0 b = none := fun b z => upd_ne z
    have h1 : H0 a = some (.frz { cls := .type "list", data := .seq vs.toArray } (.lst (ns.map V.int))) := upd_same
    have O : Only H0 := fun b => by
      by_cases z : b = a
      · rw [z]
        exact .inr ⟨_, _, h1⟩
      · exact .inl (h0 b z)
    refine enterG (ns := ns) KX hns hb hbb hlim hg ha hr F hbind O (fun b u z => ?_) (fun b z => ?_) (fun _ => hk) (hsp _ O (.inl (.inr ⟨_, h1⟩)))
    · by_cases hba : b = a
      · subst hba
        cases h1.symm.trans z
        exact ⟨ha, by rw [List.length_map]; exact hl, vs, _, rv, ha⟩
      · exact nomatch (h0 b hba).symm.trans z
    · by_cases hba : b = a
      · exact hba
      · exact (z (h0 b hba)).elim
  · obtain ⟨o, e⟩ := Option.ne_none_iff_exists'.mp hk
    have e2 := (KX a o e).symm.trans ha
    cases e2
    have O : Only (fun _ => none) := fun _ => .inl rfl
    refine enterG (ns := ns) KX hns hb hbb hlim hg ha hr F hbind O (fun b u z => nomatch z) (fun b z => (z rfl).elim) (fun z => (z rfl).elim) (hsp _ O (.inr ?_))
    exact ⟨_, vs.toArray, _, e, rfl, rfl, rfl, by rw [List.size_toArray, lv]; exact hl, by simpa using rv⟩

theorem walkG {l : PySem.W.OpenLaw} {n k : Nat} {q : Program} {loose : List Str} {XP : (Str → Option Value) → Heap → Prop} {YP : World → Heap → Prop} {d : DefRec}
    {K : Params → PySem.W.Frag} {sp : World → Sp} {x : Str} (hn : l.most = some n) (hn2 : n ≤ sizeLine) (hdf : d.params.defaults = []) (hr : Room k callerA)
    (hY : ∀ (w : World) (h : Heap), YP w h → (K w.params).In h)
    (F : ∀ (w : World) (mg : Str → Option Value) (fa : Addr) (h : Heap), (K w.params).In h → h.Ns mainGlobals mg → mg d.name = some (.ref fa) →
      ∃ fd : FuncData, (∀ (s : Shared) (u : Value), BindsTo s fd ⟨[u], []⟩ [(x, u)]) ∧
        ∀ base : Heap, (K w.params).In base → base.Ns mainGlobals mg → FnG l.prog w (K w.params) mg base CX0 k fa fd [x] (sp w))
    (hsp : ∀ (w : World) (H : Hp) (a : Addr) (ns : List Int), ns.length ≤ n → Only H → SqL (K w.params) H a (ns.map V.int) →
      sp w [.ref a] H (fun v _ => v = .bl true) fun _ _ _ => False) :
    PySem.W.WalkO q loose XP YP l.row.toRowW d [] (fun f vs => PySem.call f vs) := by
  refine Att.attach_call hn hdf ?_
  intro w s₀ s₁ mg mb fa o pm cd doc a vs ns G Y ho hd hcd hmg hobj hints hlen hg
  have inK := hY w _ Y
  obtain ⟨fd, hb, hF⟩ := F w mg fa _ inK G.T.g hmg
  exact callG inK G.T.g G.T.b G.T.builtins G.T.nolimit hg hobj hints (Nat.le_trans hlen hn2) hr hF hb fun H hO hS => hsp w H a ns hlen hO hS
end MG

/-! Further rules: operators of own classes, repr of data, // of any sign -/
namespace MG
open PySem PySem.Spec PyProof.Rows L2

section
variable {X : Cx}
/-- // by any divisor but 0 -/
theorem op_fdivZ : OpR X (binaryOp .FloorDiv) (rI (fun _ j => j ≠ 0 ∧ j.natAbs.log2 < 9000) fun i j => .int (i.fdiv j)) :=
  opI fun _ _ _ _ _ _ _ hc q => floordiv_int hc.1 q (.inl (PyProof.noPylong_of_log2 hc.2))

theorem rel_ni {v : V} (r : RelV v Value.notImplemented) : False := by
  cases v with
  | non => cases (show Value.notImplemented = Value.none from r)
  | bl b => cases (show Value.notImplemented = Value.bool b from r)
  | int i => obtain ⟨_, q⟩ := (show ∃ t, Value.notImplemented = Value.int i t from r); cases q
  | str i => obtain ⟨_, q⟩ := (show ∃ t, Value.notImplemented = Value.str i t from r); cases q
  | byt i => obtain ⟨_, q⟩ := (show ∃ t, Value.notImplemented = Value.bytes i t from r); cases q
  | flt i => obtain ⟨_, q⟩ := (show ∃ t, Value.notImplemented = Value.float i t from r); cases q
  | ref i => cases (show Value.notImplemented = Value.ref i from r)
  | ty i => cases (show Value.notImplemented = Value.type i from r)
theorem back_of {Q : Value → Shared → Prop} {v : V} {u : Value} {s : Shared} (r : RelV v u) (q : Q u s) : PySem.W.CmpBack Q u s := by
  cases u <;> first | exact q | exact (rel_ni r).elim

/-- what the top says of an operator's method of an own class -/
structure OpAt (K : PySem.W.Frag) (C : Addr) (op : Operator) (f : Addr) : Prop where
  first : PySem.W.selfFirst K C = true
  at_ : PySem.W.findIn K (.ref C) (PySem.dunder op.info.2) = some (some (.ref f))
  fn : PySem.W.isFn K (.ref f) = true
  ref : PySem.W.findIn K (.ref C) (dunderR op.info.2) = some none
structure OpInt (K : PySem.W.Frag) (C : Addr) (op : Operator) : Prop where
  to : ∃ fo, PySem.W.findIn K (.type "int") (PySem.dunder op.info.2) = some fo
  ro : ∃ ro, PySem.W.findIn K (.type "int") (dunderR op.info.2) = some ro
  sub : PySem.W.subIn K (.type "int") (.ref C) = some false

/-- x op y, x of the class at C, y of it too or an int -/
def rOwn (C : Addr) (sp : Sp) (E : XK) : R2 := fun x y H Q => ∃ a dx fs, x = .ref a ∧ H a = some (.ins C dx fs) ∧
  ((∃ b dy gs, y = .ref b ∧ H b = some (.ins C dy gs)) ∨ ∃ i, y = .int i) ∧ sp [x, y] H Q E
theorem op_own {CX : CXT} {k : Nat} {C f : Addr} {op : Operator} {fd : FuncData} {ps : List Str} {sp : Sp} {E : XK}
    (o : OpAt X.K C op f) (oi : OpInt X.K C op) (F : FnOk X.prog X.w X.K X.mg X.base CX k f fd ps sp) (hr : Room k X.A)
    (hb : Binds X.K fd ps []) (hx : Passes CX X E) : OpR X (binaryOp op) (rOwn C sp E) := by
  intro pins s σ H x y v u Q I rx ry h
  obtain ⟨a, dx, fs, rfl, ha, hy, hsp⟩ := h
  cases rx
  obtain ⟨mA, J, _⟩ := ins_get I.hok ha
  obtain ⟨od, J, _⟩ := J.look
  obtain ⟨m, hF⟩ := I.fr
  have call1 : wpAny (model X.prog X.w) X.A (call (.ref f) [.ref a, u]) (PySem.W.CmpBack (EP X pins σ Q)) X.xe s :=
    wpAny_mono (run_fn (vs := [.ref a, y]) F hr hb .nil hx I (.cons rfl (.cons ry .nil)) (by rw [List.append_nil]; exact hsp))
      (fun _ _ hq => match hq with | ⟨_, _, _, r, _⟩ => back_of r hq) fun _ _ e => e
  rcases hy with ⟨b, dy, gs, rfl, hb'⟩ | ⟨i, rfl⟩
  · cases ry
    obtain ⟨mB, J', _⟩ := ins_get I.hok hb'
    obtain ⟨od', J', _⟩ := J'.look
    exact PySem.W.binop_K hF I.ok.mod.kin J J'.type o.first o.at_ o.fn call1
  · obtain ⟨t, rfl⟩ := ry
    obtain ⟨fo, h1⟩ := oi.to
    obtain ⟨ro, h2⟩ := oi.ro
    exact PySem.W.ksp_binT hF I.ok.mod.kin J (T := "int") rfl o.first o.at_ o.fn o.ref (.inl rfl) h1 h2 oi.sub call1

/-- -x of an own class -/
def rNegO (C : Addr) (sp : Sp) (E : XK) : V → Hp → VK → Prop := fun x H Q => ∃ a dx fs, x = .ref a ∧ H a = some (.ins C dx fs) ∧ sp [x] H Q E
theorem un_negO {CX : CXT} {k : Nat} {C f : Addr} {fd : FuncData} {ps : List Str} {sp : Sp} {E : XK}
    (at_ : PySem.W.findIn X.K (.ref C) "__neg__" = some (some (.ref f))) (fn : PySem.W.isFn X.K (.ref f) = true)
    (F : FnOk X.prog X.w X.K X.mg X.base CX k f fd ps sp) (hr : Room k X.A) (hb : Binds X.K fd ps []) (hx : Passes CX X E) :
    UnR X (unaryOp .USub) (rNegO C sp E) := by
  intro pins s σ H x v Q I rx h
  obtain ⟨a, dx, fs, rfl, ha, hsp⟩ := h
  cases rx
  obtain ⟨mA, J, _⟩ := ins_get I.hok ha
  obtain ⟨od, J, _⟩ := J.look
  obtain ⟨m, hF⟩ := I.fr
  exact PySem.W.ksp_neg hF I.ok.mod.kin J at_ fn (run_fn (vs := [.ref a]) F hr hb .nil hx I (.cons rfl .nil) (by rw [List.append_nil]; exact hsp))

/-- x == y, x of the class at C with its own ==, y of it too -/
def rEqO (C : Addr) (sp : Sp) (E : XK) : R2 := fun x y H Q => ∃ a dx fs b dy gs, x = .ref a ∧ H a = some (.ins C dx fs) ∧ y = .ref b ∧ H b = some (.ins C dy gs) ∧ sp [x, y] H Q E
theorem op_eqO {CX : CXT} {k : Nat} {C f : Addr} {fd : FuncData} {ps : List Str} {sp : Sp} {E : XK}
    (at_ : PySem.W.findIn X.K (.ref C) "__eq__" = some (some (.ref f))) (fn : PySem.W.isFn X.K (.ref f) = true)
    (F : FnOk X.prog X.w X.K X.mg X.base CX k f fd ps sp) (hr : Room k X.A) (hb : Binds X.K fd ps []) (hx : Passes CX X E) :
    OpR X (compareOp .Eq) (rEqO C sp E) := by
  intro pins s σ H x y v u Q I rx ry h
  obtain ⟨a, dx, fs, b, dy, gs, rfl, ha, rfl, hb', hsp⟩ := h
  cases rx
  cases ry
  obtain ⟨mA, J, _⟩ := ins_get I.hok ha
  obtain ⟨od, J, _⟩ := J.look
  obtain ⟨mB, J', _⟩ := ins_get I.hok hb'
  obtain ⟨od', J', _⟩ := J'.look
  obtain ⟨m, hF⟩ := I.fr
  refine PySem.W.cmp_K (op := .Eq) (tb := .ref C) hr.units0 hF I.ok.mod.kin J J'.type (by simp [PySem.W.notFirst]) at_ fn ?_
  exact wpAny_mono (run_fn (vs := [.ref a, .ref b]) F hr hb .nil hx I (.cons rfl (.cons rfl .nil)) (by rw [List.append_nil]; exact hsp))
    (fun _ _ hq => match hq with | ⟨_, _, _, r, _⟩ => back_of r hq) fun _ _ e => e
end
end MG

namespace MG
open PySem PySem.Spec PyProof.Rows L2 PySem.Calls

section
variable {prog : Program} {w : World} {A : Around} {E : Value → Shared → Prop} {s : Shared} {K : PySem.W.Frag} {x y C L f : Addr} {h₀ : Heap} {m : Str → Option Value} {ox oy : Obj} {od oe : Option Obj}

theorem objNe_run (X : K.In s.heap) (I : PySem.W.InstAt s.heap x ox C od) (hs : PySem.W.findIn K (.ref C) "__eq__" = some (some (.ref f))) (hf : PySem.W.isFn K (.ref f) = true)
    (hu : A.units < cLine) {Q : Fin → Shared → Prop}
    (hcall : wpAny (model prog w) A (call (.ref f) [.ref x, .ref y]) (fun v s' => ∃ b, v = .bool b ∧ Q (.done (.ret (.bool (!b)))) s') E s) :
    wpAny (model prog w) A (Builtin.«object.__ne__» ⟨[.ref x, .ref y], []⟩) Q E s := by
  unfold Builtin.«object.__ne__»
  repeat (first
    | with_reducible refine wpAny_cRoomFor hu ?_
    | (refine wpAny_bind (m := callSpecialIfBound? (.ref x) (Str.ofString "__eq__") [.ref y])
        (PySem.W.ifBound_K X I hs hf (wpAny_mono hcall (fun r s' hr => ?_) fun _ _ e => e)))
    | wp_step)
  obtain ⟨b, rfl, hq⟩ := hr
  repeat (first | exact hq | exact wpAny_pure hq | exact wpAny_truthy_bool hq | (refine wpAny_bind (m := truthy (.bool _)) (wpAny_truthy_bool ?_)) | wp_step)

theorem ifBound_ne (X : K.In s.heap) (I : PySem.W.InstAt s.heap x ox C od) (hn : PySem.W.findIn K (.ref C) "__ne__" = some (some (.builtin "object.__ne__")))
    {args : List Value} {Q : Option Value → Shared → Prop}
    (h : wpAny (model prog w) A (call (.builtin "object.__ne__") (.ref x :: args)) (fun v => Q (some v)) E s) :
    wpAny (model prog w) A (callSpecialIfBound? (.ref x) "__ne__" args) Q E s := by
  have S : Slot "object" "__ne__" "object.__ne__" := PySem.F.cmp_object.ne
  have hb := S.bind
  simp only [callSpecialIfBound?, bindSpecialIfBound?]
  refine wpAny_holding (wpAny_bind (wpAny_bind (wpAny_bind (I.type.here ((PySem.W.looks_findIn X hn).here ?_)))))
  simp only [hb]
  refine wpAny_bind (wpAny_askSetting (wpAny_ite ?_))
  have fin : wpAny (model prog w) A (call (.builtin "object.__ne__") ([.ref x] ++ args) >>= fun v => pure (some v)) Q E s :=
    wpAny_bind (wpAny_mono h (fun v s' h' => wpAny_pure h') fun _ _ h' => h')
  split
  · exact wpAny_bind (wpAny_pure (wpAny_pure fin))
  · exact wpAny_tryCatch (wpAny_bind (wpAny_pure (wpAny_pure fin)))

theorem ne_K (X : K.In s.heap) (I : PySem.W.InstAt s.heap x ox C od) (I' : PySem.W.InstAt s.heap y oy C oe)
    (hn : PySem.W.findIn K (.ref C) "__ne__" = some (some (.builtin "object.__ne__"))) (hs : PySem.W.findIn K (.ref C) "__eq__" = some (some (.ref f)))
    (hf : PySem.W.isFn K (.ref f) = true) (ho : PySem.W.subIn K (.ref C) (.type "object") = some true) (hu : A.units + 1 < cLine) {Q : Value → Shared → Prop}
    (hcall : wpAny (model prog w) A.in1 (call (.ref f) [.ref x, .ref y]) (fun v s' => ∃ b, v = .bool b ∧ Q (.bool (!b)) s') E s) :
    wpAny (model prog w) A (richCompare .NotEq (.ref x) (.ref y)) Q E s := by
  have sub : PySem.W.Looks (model prog w) s.heap (isInstance (.ref x) (.type "object")) true := I.type.andThen (PySem.W.looks_subIn X ho)
  have one : wpAny (model prog w) A (tryCompare (.ref x) "__ne__" (.ref y)) (fun r s' => ∃ v, r = some v ∧ Q v s') E s := by
    simp only [tryCompare]
    refine wpAny_bind (ifBound_ne X I hn (wpAny_call (codeAny_call_builtin PySem.F.cmp_object.ne.plain PySem.F.cmpEntry_ne
      (PySem.W.check_slot PySem.F.cmpKind_ne PySem.F.cmpSplit_ne sub (PySem.F.cmpArgs_ne _ _) ?_))))
    refine objNe_run (A := A.in1) X I hs hf hu (wpAny_mono hcall (fun v s' hv => ?_) fun _ _ e => e)
    obtain ⟨b, rfl, hq⟩ := hv
    first | exact ⟨b, rfl, wpAny_pure ⟨_, rfl, hq⟩⟩ | exact ⟨b, rfl, wpAny_pure (wpAny_pure ⟨_, rfl, hq⟩)⟩ | exact ⟨b, rfl, _, rfl, hq⟩
  unfold richCompare
  simp only [oneThing_ref]
  refine wpAny_holding (wpAny_bind (wpAny_cRoomFor (Nat.lt_of_succ_lt hu) ?_))
  refine wpAny_bind (I.type.here (wpAny_bind (I'.type.here ?_)))
  rw [show (Value.ref C != Value.ref C) = false from by simp]
  simp only [Bool.false_eq_true, if_false]
  refine wpAny_bind (wpAny_pure ?_)
  simp only [Bool.false_eq_true, if_false]
  refine wpAny_bind (wpAny_mono one (fun v s' hv => ?_) fun _ _ e => e)
  obtain ⟨b, rfl, hq⟩ := hv
  exact wpAny_pure hq
end

section
variable {X : Cx}
structure NeAt (K : PySem.W.Frag) (C f : Addr) : Prop where
  ne : PySem.W.findIn K (.ref C) "__ne__" = some (some (.builtin "object.__ne__"))
  eq : PySem.W.findIn K (.ref C) "__eq__" = some (some (.ref f))
  fn : PySem.W.isFn K (.ref f) = true
  sub : PySem.W.subIn K (.ref C) (.type "object") = some true
def rNeO (C : Addr) (sp : Sp) (E : XK) : R2 := fun x y H Q => ∃ a dx fs b dy gs, x = .ref a ∧ H a = some (.ins C dx fs) ∧ y = .ref b ∧ H b = some (.ins C dy gs) ∧
  sp [x, y] H (fun v H' => ∃ c, v = .bl c ∧ Q (.bl (!c)) H') E
theorem op_neO {CX : CXT} {k : Nat} {C f : Addr} {fd : FuncData} {ps : List Str} {sp : Sp} {E : XK} (n : NeAt X.K C f)
    (F : FnOk X.prog X.w X.K X.mg X.base CX k f fd ps sp) (hr : Room (k + 1) X.A) (hb : Binds X.K fd ps []) (hx : Passes CX X E) :
    OpR X (compareOp .NotEq) (rNeO C sp E) := by
  intro pins s σ H x y v u Q I rx ry h
  obtain ⟨a, dx, fs, b, dy, gs, rfl, ha, rfl, hb', hsp⟩ := h
  cases rx
  cases ry
  obtain ⟨mA, J, _⟩ := ins_get I.hok ha
  obtain ⟨od, J, _⟩ := J.look
  obtain ⟨mB, J', _⟩ := ins_get I.hok hb'
  obtain ⟨od', J', _⟩ := J'.look
  refine ne_K I.kIn J J' n.ne n.eq n.fn n.sub (Nat.lt_trans (by omega) hr.un) ?_
  have hl := F.len _ _ _ _ hsp
  refine wpAny_call (codeAny_mono (F.run X.A.in1 X.stack s H ⟨[.ref a, .ref b], []⟩ [.ref a, .ref b] [.ref a, .ref b] _ E hr.in1 I.env0.in1 (by
    have := hb s [.ref a, .ref b] I.kIn (by simpa using hl)
    simpa using this) (.cons rfl (.cons rfl .nil)) hsp) fun r s' hq => ?_)
  match r, hq with
  | .error e, hq => exact hx pins σ H s e s' I hq
  | .ok (.ret z), hq =>
    obtain ⟨v, H', I', rv, c, rfl, q⟩ := I.after hq
    cases rv
    exact ⟨c, rfl, .bl (!c), H', I', rfl, q⟩
  | .ok .next, hq => exact False.elim hq
  | .ok .brk, hq => exact False.elim hq
  | .ok .cont, hq => exact False.elim hq

/-- repr(x) of data: None, bools, ints, texts, lists, tuples -/
def rRepr (K : PySem.W.Frag) : List V → Hp → VK → Prop := fun xs H Q => ∃ x d, xs = [x] ∧ Dp K H x d ∧ d.showable = true ∧ d.hasDict = false ∧ d.depth ≤ 60 ∧ d.shown.length ≤ sizeLine ∧ Q (.str d.shown) H
theorem call_reprD (bare : Bare X.A) (hu : X.A.units + 64 < cLine) : CallR X (.builtin "repr") (rRepr X.K) := by
  intro pins s σ H xs us Q I r h
  obtain ⟨x, d, rfl, hd, hs, hdict, hdep, hz, q⟩ := h
  cases r with
  | cons rx rn =>
    cases rn
    rename_i u
    obtain ⟨as, R⟩ := Dp.reads I d x u hd rx
    have leaf : ∀ (k : Nat), EP X pins σ Q (.str d.shown k) { s with toks := s.toks + 1 } := fun k => ⟨.str _, H, I.tok _, ⟨_, rfl⟩, q⟩
    cases R with
    | none => exact PySem.P.repr_of_none (leaf _)
    | bool b => exact PySem.P.repr_of_bool (leaf _)
    | int i t => exact PySem.P.repr_of_int (by simpa [PyData.showable] using hs) (leaf _)
    | str z t => exact PySem.P.repr_of_str (leaf _) hz
    | list h1 h2 h3 h4 => exact repr_of_reads' (.list h1 h2 h3 h4) hs (fun z => by rw [hdict] at z; cases z) bare (by omega) (fun _ _ e => e) (fun h' u tk k => ⟨.str _, H, I.kept k, ⟨_, rfl⟩, q⟩) hz
    | tuple h1 h2 h3 h4 => exact repr_of_reads' (.tuple h1 h2 h3 h4) hs (fun z => by rw [hdict] at z; cases z) bare (by omega) (fun _ _ e => e) (fun h' u tk k => ⟨.str _, H, I.kept k, ⟨_, rfl⟩, q⟩) hz
    | dict h1 h2 h3 h4 h5 => exact absurd hd nofun
end
end MG

/-! Defs as callers know them -/
namespace MG
open PySem PySem.Spec PyProof.Rows L2

/-- a def of the module that lets nothing out, as callers know it -/
structure CalG (P : Program) (w : World) (K : PySem.W.Frag) (mg : Str → Option Value) (base : Heap) (k : Nat) (x : Str) (sp : Sp) (dvs : List V) : Prop where
  ex : ∃ (f : Addr) (fd : FuncData) (ps : List Str) (ds : List Value), FnG P w K mg base CX0 k f fd ps sp ∧ mg x = some (.ref f) ∧ PySem.W.keepIn K (.ref f) = true ∧ Binds K fd ps ds ∧ Vals dvs ds
theorem pe_cg {X : Cx} {k j : Nat} {x : Str} {sp : Sp} {dvs : List V} {p pos : Pos} {e : Expr} {es : List Expr} {t : TA}
    (c : CalG X.prog X.w X.K X.mg X.base k x sp dvs) (bare : Bare X.A) (hr : Room j X.A) (hk : k ≤ j) (hg : Gl X x) (ha : PA X (e :: es) t)
    (hdb : (x == ("__debug__" : Str)) = false := by decide)
    (he : starEach (e :: es) X.env = (false, eval e X.env) :: starEach es X.env := by rfl)
    (hpl : (backTo pos (starEach es X.env)).any (·.1) = false := by rfl) : PE X (.Call (.Name x p) (e :: es) [] pos) (tCall sp dvs E0 t) := by
  obtain ⟨f, fd, ps, ds, F, hm, kp, b, d⟩ := c.ex
  exact pe_callG F bare (hr.mono hk) hg hm kp b d pass0 ha hdb he hpl

section
variable {P : Program} {w : World} {K : PySem.W.Frag} {mg : Str → Option Value} {base : Heap}
/-- its body, as a term of rules, and the reading of that term -/
theorem fun_okG {x qual : Str} {st : Stmt} {f : Addr} {fd : FuncData} {N ps : List Str} {k : Nat} {sp : Sp} (F : Fun K x qual st f fd) (S : FnScope N ps (defScope st)) (len : ∀ vs H Q E, sp vs H Q E → vs.length = ps.length)
    (hbody : ∀ (cdv : Value) (A : Around) (outer : List Env) (s : Shared) (H : Hp) (vs : List V) (Q : VK) (E : XK), Bare (A.deeper (envOfC qual (defScope st) s.heap.objs.size f cdv)) →
      Room k (A.deeper (envOfC qual (defScope st) s.heap.objs.size f cdv)) → sp vs H Q E →
      ∃ t, PSs (cxOf CX0 P w K mg base N qual (defScope st) f cdv A outer s H E).nox (defBody st) t ∧ t { nx := fun _ H' => Q .non H', rt := Q } (start N vs) H) : FnG P w K mg base CX0 (k + 1) f fd ps sp := by
  obtain ⟨oc, od, kV, doc, pm, an, cdv, ct, osl, rfl, lk, hcd⟩ := F.ex
  refine fnG_of lk hcd S len ?_
  intro A outer s H vs Q E bare hr hsp
  obtain ⟨t, h, q⟩ := hbody cdv A outer s H vs Q E bare hr hsp
  exact ⟨t, h.nox, q⟩
theorem calG_of {x qual : Str} {st : Stmt} {f : Addr} {fd : FuncData} {N ps : List Str} {k : Nat} {sp : Sp} (F : Fun K x qual st f fd) (hm : mg x = some (.ref f)) (b : Binds K fd ps []) (S : FnScope N ps (defScope st)) (len : ∀ vs H Q E, sp vs H Q E → vs.length = ps.length)
    (hbody : ∀ (cdv : Value) (A : Around) (outer : List Env) (s : Shared) (H : Hp) (vs : List V) (Q : VK) (E : XK), Bare (A.deeper (envOfC qual (defScope st) s.heap.objs.size f cdv)) →
      Room k (A.deeper (envOfC qual (defScope st) s.heap.objs.size f cdv)) → sp vs H Q E →
      ∃ t, PSs (cxOf CX0 P w K mg base N qual (defScope st) f cdv A outer s H E).nox (defBody st) t ∧ t { nx := fun _ H' => Q .non H', rt := Q } (start N vs) H) : CalG P w K mg base (k + 1) x sp [] :=
  ⟨f, fd, ps, [], fun_okG F S len hbody, hm, F.kp, b, .nil⟩
end

/-- the same where nothing need be known of what runs around -/
structure CalF (P : Program) (w : World) (K : PySem.W.Frag) (mg : Str → Option Value) (base : Heap) (k : Nat) (x : Str) (sp : Sp) (dvs : List V) : Prop where
  ex : ∃ (f : Addr) (fd : FuncData) (ps : List Str) (ds : List Value), FnOk P w K mg base CX0 k f fd ps sp ∧ mg x = some (.ref f) ∧ PySem.W.keepIn K (.ref f) = true ∧ Binds K fd ps ds ∧ Vals dvs ds
theorem pe_cf {X : Cx} {k j : Nat} {x : Str} {sp : Sp} {dvs : List V} {p pos : Pos} {e : Expr} {es : List Expr} {t : TA}
    (c : CalF X.prog X.w X.K X.mg X.base k x sp dvs) (hr : Room j X.A) (hk : k ≤ j) (hg : Gl X x) (ha : PA X (e :: es) t)
    (hdb : (x == ("__debug__" : Str)) = false := by decide)
    (he : starEach (e :: es) X.env = (false, eval e X.env) :: starEach es X.env := by rfl)
    (hpl : (backTo pos (starEach es X.env)).any (·.1) = false := by rfl) : PE X (.Call (.Name x p) (e :: es) [] pos) (tCall sp dvs E0 t) := by
  obtain ⟨f, fd, ps, ds, F, hm, kp, b, d⟩ := c.ex
  exact pe_call F (hr.mono hk) hg hm kp b d pass0 ha hdb he hpl
/-- a class that may be made by its name; sp: its __init__ -/
structure MakF (P : Program) (w : World) (K : PySem.W.Frag) (mg : Str → Option Value) (base : Heap) (k : Nat) (x : Str) (C : Addr) (sp : Sp) (dvs : List V) : Prop where
  ex : ∃ (f : Addr) (fd : FuncData) (ps : List Str) (ds : List Value), Mk K C f ∧ FnOk P w K mg base CX0 k f fd ps sp ∧ mg x = some (.ref C) ∧ Binds K fd ps ds ∧ Vals dvs ds
theorem pe_mkf {X : Cx} {k j : Nat} {x : Str} {C : Addr} {sp : Sp} {dvs : List V} {p pos : Pos} {e : Expr} {es : List Expr} {t : TA}
    (c : MakF X.prog X.w X.K X.mg X.base k x C sp dvs) (hr : Room j X.A) (hk : k + 1 ≤ j) (hg : Gl X x) (ha : PA X (e :: es) t)
    (hdb : (x == ("__debug__" : Str)) = false := by decide)
    (he : starEach (e :: es) X.env = (false, eval e X.env) :: starEach es X.env := by rfl)
    (hpl : (backTo pos (starEach es X.env)).any (·.1) = false := by rfl) : PE X (.Call (.Name x p) (e :: es) [] pos) (tMake C sp dvs E0 t) := by
  obtain ⟨f, fd, ps, ds, M, F, hm, b, d⟩ := c.ex
  exact pe_make M F (hr.mono hk) hg hm b d pass0 ha hdb he hpl
/-- one value by place, one by name -/
def one1 {α : Type} : List α → List α → List α
  | [a], [b] => [a, b]
  | _, _ => []
/-- o.m(k = v, ..) -/
def tMethK (C : Addr) (m : Str) (sp : Sp) (gV : List V → List V → List V) (E : XK) (ta : TE) (tk : TA) : TE := fun σ H Q => ta σ H fun x H1 =>
  ∃ a dx fs, x = .ref a ∧ H1 a = some (.ins C dx fs) ∧ fs.lookup m = none ∧ tk σ H1 fun zs H2 => sp (gV [x] zs) H2 Q E
theorem pe_methK0 {X : Cx} {CX : CXT} {k : Nat} {f C : Addr} {fd : FuncData} {ps ks : List Str} {sp : Sp} {E : XK} {m : Str} {pos apos : Pos} {o : Expr} {kws : List Keyword} {ta : TE} {tk : TA}
    {g : List Value → List Value → List Value} {gV : List V → List V → List V} {pl : Sem Bool}
    (he : PE X o ta) (c : Cls X.K C) (hm : Meth X.K C m f) (F : FnOk X.prog X.w X.K X.mg X.base CX k f fd ps sp) (hr : Room k X.A) (hb : KBinds X.K fd ps ks g gV) (hx : Passes CX X E) (hkw : PK X kws tk)
    (hall : (backToKw pos (keywordEach kws X.env)).all (·.1.isSome) = true := by rfl) (hks : (backToKw pos (keywordEach kws X.env)).filterMap (·.1) = ks := by rfl)
    (hpl : ((backTo pos (starEach [] X.env)).any (·.1) || (backToKw pos (keywordEach kws X.env)).any (·.1.isNone)) = false := by rfl)
    (ht : eval (.Call (.Attribute o m apos) [] kws pos) X.env = (do
      let ov ← eval o X.env
      standAt apos.atName
      let (f, first) ← holding [ov] (getMethod ov m pl)
      callWith pos f first (backTo pos (starEach [] X.env)) (backToKw pos (keywordEach kws X.env))) := by rfl) :
    PE X (.Call (.Attribute o m apos) [] kws pos) (tMethK C m sp gV E ta tk) := by
  constructor
  intro pins s σ H Q I h
  refine PySem.W.methodCall_KW (pl := pl) (thn (he.run pins s σ H _ I h) ?_) ht
  rintro u s1 ⟨x, H1, I1, rx, a, dx, fs, ex, ea, l, q⟩
  subst ex
  have eu : u = Value.ref a := rx
  subst eu
  refine getmeth_ok I1 ea c hm l ?_
  refine PySem.W.callWith_KW0 (h₀ := X.base) I.ok.mod.kin hm.kp hall (thn (hkw.run pos pins s1 σ H1 _ I1 q) ?_) hpl
  rintro ws s2 ⟨zs, H2, I2, rz, q2⟩
  refine ⟨I2.kIn, ?_⟩
  rw [hks]
  exact run_fnk (us := [.ref a]) (vs := [.ref a]) F hr hb hx I2 (.cons rfl .nil) rz q2

/-! ### operators, properties and methods of a class, as callers know them -/
section
variable (P : Program) (w : World) (K : PySem.W.Frag) (mg : Str → Option Value) (base : Heap) (k : Nat) (C : Addr)
structure OpF (op : Operator) (sp : Sp) : Prop where
  ex : ∃ (f : Addr) (fd : FuncData) (ps : List Str), OpAt K C op f ∧ OpInt K C op ∧ FnOk P w K mg base CX0 k f fd ps sp ∧ Binds K fd ps []
structure NegF (sp : Sp) : Prop where
  ex : ∃ (f : Addr) (fd : FuncData) (ps : List Str), PySem.W.findIn K (.ref C) "__neg__" = some (some (.ref f)) ∧ PySem.W.isFn K (.ref f) = true ∧ FnOk P w K mg base CX0 k f fd ps sp ∧ Binds K fd ps []
structure EqF (sp : Sp) : Prop where
  ex : ∃ (f : Addr) (fd : FuncData) (ps : List Str), NeAt K C f ∧ FnOk P w K mg base CX0 k f fd ps sp ∧ Binds K fd ps []
structure PropF (x : Str) (sp : Sp) : Prop where
  ex : ∃ (p g : Addr) (fd : FuncData) (ps : List Str), PropOf K C x p g ∧ FnOk P w K mg base CX0 k g fd ps sp ∧ Binds K fd ps []
structure MetF (m : Str) (sp : Sp) (dvs : List V) : Prop where
  ex : ∃ (f : Addr) (fd : FuncData) (ps : List Str) (ds : List Value), Meth K C m f ∧ FnOk P w K mg base CX0 k f fd ps sp ∧ Binds K fd ps ds ∧ Vals dvs ds
structure MetK (m : Str) (sp : Sp) (ks : List Str) (gV : List V → List V → List V) : Prop where
  ex : ∃ (f : Addr) (fd : FuncData) (ps : List Str) (g : List Value → List Value → List Value), Meth K C m f ∧ FnOk P w K mg base CX0 k f fd ps sp ∧ KBinds K fd ps ks g gV
end
section
variable {X : Cx} {k j : Nat} {C : Addr} {sp : Sp} {op : Operator}
theorem op_f (o : OpF X.prog X.w X.K X.mg X.base k C op sp) (hr : Room j X.A) (hk : k ≤ j) : OpR X (binaryOp op) (rOwn C sp E0) := by
  obtain ⟨f, fd, ps, a, i, F, b⟩ := o.ex
  exact op_own a i F (hr.mono hk) b pass0
theorem un_f (o : NegF X.prog X.w X.K X.mg X.base k C sp) (hr : Room j X.A) (hk : k ≤ j) : UnR X (unaryOp .USub) (rNegO C sp E0) := by
  obtain ⟨f, fd, ps, a, i, F, b⟩ := o.ex
  exact un_negO a i F (hr.mono hk) b pass0
theorem eq_f (o : EqF X.prog X.w X.K X.mg X.base k C sp) (hr : Room j X.A) (hk : k ≤ j) : OpR X (compareOp .Eq) (rEqO C sp E0) := by
  obtain ⟨f, fd, ps, n, F, b⟩ := o.ex
  exact op_eqO n.eq n.fn F (hr.mono hk) b pass0
theorem ne_f (o : EqF X.prog X.w X.K X.mg X.base k C sp) (hr : Room j X.A) (hk : k + 1 ≤ j) : OpR X (compareOp .NotEq) (rNeO C sp E0) := by
  obtain ⟨f, fd, ps, n, F, b⟩ := o.ex
  exact op_neO n F (hr.mono hk) b pass0
theorem pe_pf {x : Str} {e : Expr} {pos : Pos} {ta : TE} (o : PropF X.prog X.w X.K X.mg X.base k C x sp) (c : Cls X.K C) (hr : Room j X.A) (hk : k + 1 ≤ j) (he : PE X e ta)
    (hab : attributeBase e x X.env (eval e X.env) = eval e X.env) : PE X (.Attribute e x pos) (tProp C sp [] E0 ta) := by
  obtain ⟨p, g, fd, ps, hp, F, b⟩ := o.ex
  exact pe_prop he c hp F (hr.mono hk) b .nil pass0 hab
theorem pe_mf {m : Str} {pos apos : Pos} {o : Expr} {e : Expr} {es : List Expr} {dvs : List V} {ta : TE} {t : TA} {pl : Sem Bool} (c : MetF X.prog X.w X.K X.mg X.base k C m sp dvs) (cl : Cls X.K C) (hr : Room j X.A) (hk : k ≤ j) (he : PE X o ta) (ha : PA X (e :: es) t)
    (hst : starEach (e :: es) X.env = (false, eval e X.env) :: starEach es X.env := by rfl) (hpl : (backTo pos (starEach es X.env)).any (·.1) = false := by rfl)
    (ht : eval (.Call (.Attribute o m apos) (e :: es) [] pos) X.env = (do
      let ov ← eval o X.env
      standAt apos.atName
      let (f, first) ← holding [ov] (getMethod ov m pl)
      callWith pos f first (backTo pos (starEach (e :: es) X.env)) (backToKw pos (keywordEach [] X.env))) := by rfl) :
    PE X (.Call (.Attribute o m apos) (e :: es) [] pos) (tMeth C m sp dvs E0 ta t) := by
  obtain ⟨f, fd, ps, ds, M, F, b, d⟩ := c.ex
  exact pe_meth (pl := pl) he cl M F (hr.mono hk) b d pass0 ha hst hpl ht
end
/-! ### joining the ways -/
/-- what holds of the value is said once for all ways -/
def tCut (te : TE) : TE := fun σ H Q => ∃ C : VK, te σ H C ∧ ∀ v H', C v H' → Q v H'
theorem pe_cut {X : Cx} {e : Expr} {te : TE} (h : PE X e te) : PE X e (tCut te) := by
  constructor
  rintro pins s σ H Q I ⟨C, h1, h2⟩
  refine wpAny_mono (h.run pins s σ H C I h1) ?_ fun _ _ z => z
  rintro u s' ⟨v, H', J, r, q⟩
  exact ⟨v, H', J, r, h2 v H' q⟩
/-- what holds behind a statement is said once for all ways -/
def tCutS (ts : TS) : TS := fun D σ H => ∃ C : L2.St → Hp → Prop, ts { D with nx := C } σ H ∧ ∀ σ' H', C σ' H' → D.nx σ' H'
theorem ps_cut {X : Cx} {st : Stmt} {ts : TS} (h : PS X st ts) : PS X st (tCutS ts) := by
  constructor
  rintro pins s σ H D I ⟨C, h1, h2⟩
  refine wpAny_mono (h.run pins s σ H { D with nx := C } I h1) ?_ fun _ _ z => z
  intro f s' q
  cases f with
  | next =>
    obtain ⟨σ', H', J, q⟩ := q
    exact ⟨σ', H', J, h2 σ' H' q⟩
  | ret u => exact q
  | brk => exact q
  | cont => exact q

/-! ### isinstance, from what the top says -/
theorem kit_rt {K : PySem.W.Frag} {C : Addr} {T : String} {b : Bool} (hm : PySem.W.kitMeta T = true) (h : PySem.W.subIn K (.ref C) (.type T) = some b) : PySem.W.kitOne K (.ref C) (.type T) = some b := by
  have e : (Value.ref C == Value.type T) = false := beq_eq_false_iff_ne.mpr nofun
  unfold PySem.W.kitOne
  rw [e]
  show (if PySem.W.kitMeta T = true then PySem.W.subIn K (.ref C) (.type T) else none) = some b
  rw [if_pos hm, h]
theorem kit_tr {K : PySem.W.Frag} {C : Addr} {T : String} {b : Bool} (h1 : PySem.W.isClsIn K C = true) (h2 : PySem.W.typeIn K (.ref C) = some (.type "type")) (h : PySem.W.subIn K (.type T) (.ref C) = some b) : PySem.W.kitOne K (.type T) (.ref C) = some b := by
  have e : (Value.type T == Value.ref C) = false := beq_eq_false_iff_ne.mpr nofun
  unfold PySem.W.kitOne
  rw [e]
  show (if ((PySem.W.clsIn K C).isSome && PySem.W.typeIn K (.ref C) == some (.type "type")) = true then PySem.W.subIn K (.type T) (.ref C) else none) = some b
  have h1' : (PySem.W.clsIn K C).isSome = true := h1
  rw [h1', h2, if_pos (by simp), h]
theorem kit_rr {K : PySem.W.Frag} {C : Addr} : PySem.W.kitOne K (.ref C) (.ref C) = some true := by
  unfold PySem.W.kitOne
  rw [if_pos (by simp)]

/-! ### comprehensions, item by item -/
theorem pe_imp {X : Cx} {e : Expr} {t t' : TE} (h : PE X e t) (hi : ∀ σ H Q, t' σ H Q → t σ H Q) : PE X e t' :=
  ⟨fun pins s σ H Q I q => h.run pins s σ H Q I (hi σ H Q q)⟩
theorem ps_imp {X : Cx} {st : Stmt} {t t' : TS} (h : PS X st t) (hi : ∀ D σ H, t' D σ H → t D σ H) : PS X st t' :=
  ⟨fun pins s σ H D I q => h.run pins s σ H D I (hi D σ H q)⟩
/-- [e for x in l], x in slot j: ys are the items of the new list -/
def tMapL (K : PySem.W.Frag) (j : Nat) (tl te : TE) : TE := fun σ H Q => tl σ H fun x H1 => ∃ a xs ys, x = .ref a ∧ SqL K H1 a xs ∧ ys.length = xs.length ∧ xs.length ≤ 100000 ∧
  (∀ (i : Nat) (x y : V) (H' : Hp), xs[i]? = some x → ys[i]? = some y → Same H1 H' → te ((σ.set j none).set j (some x)) H' fun v H'' => v = y ∧ Same H' H'') ∧
  ∀ D H', Same H1 H' → H1 D = none → H' D = some (.lst ys) → Q (.ref D) H'
/-- the same over range(..) -/
def tMapR (j : Nat) (ta : TA) (te : TE) : TE := fun σ H Q => ta σ H fun vs H1 => ∃ (m : Int) (ys : List V), vs = [.int m] ∧ 0 ≤ m ∧ m ≤ 100000 ∧ (ys.length : Int) = m ∧
  (∀ (i : Nat) (y : V) (H' : Hp), ys[i]? = some y → Same H1 H' → te ((σ.set j none).set j (some (.int i))) H' fun v H'' => v = y ∧ Same H' H'') ∧
  ∀ D H', Same H1 H' → H1 D = none → H' D = some (.lst ys) → Q (.ref D) H'
theorem take_one {α : Type} {l : List α} {i : Nat} {x : α} (h : l[i]? = some x) : l.take (i + 1) = l.take i ++ [x] := by
  rw [List.take_succ, h]
  rfl
theorem wipe_one {σ : L2.St} {j : Nat} {x : V} : wipe ((wipe σ [j]).set j (some x)) [j] = wipe σ [j] := by
  show (((σ.set j none).set j (some x)).set j none) = σ.set j none
  rw [List.set_set, List.set_set]
theorem map_core {K : PySem.W.Frag} {te : TE} (mono : ∀ σ H Q Q', (∀ v H', Q v H' → Q' v H') → te σ H Q → te σ H Q') {j : Nat} {σ : L2.St} {H1 : Hp} {Q : VK} {a : Addr} {xs ys : List V} (hl : SqL K H1 a xs) (hn : ys.length = xs.length) (hs : xs.length ≤ 100000)
    (he : ∀ (i : Nat) (x y : V) (H' : Hp), xs[i]? = some x → ys[i]? = some y → Same H1 H' → te ((σ.set j none).set j (some x)) H' fun v H'' => v = y ∧ Same H' H'')
    (k : ∀ D H', Same H1 H' → H1 D = none → H' D = some (.lst ys) → Q (.ref D) H') :
    tLc (fun _ H R => R (Itl K a) H) (gName j) tYes te [j] σ H1 Q := by
  intro D hD
  refine lc_list (K := K) (a := a) (xs := xs) (fun i H' => Same H1 H' ∧ H' D = some (.lst (ys.take i))) ⟨fun c u h => by rw [upd_ne (ne_of_none h hD)]; exact h, upd_same⟩ (fun i H' _ h => h.1.seq hl) ?_ ?_
  · rintro i x H' hi ⟨s, e⟩
    have hi2 : i < xs.length := (List.getElem?_eq_some_iff.mp hi).1
    have hy : ys[i]? = some ys[i] := List.getElem?_eq_getElem (by omega)
    refine ⟨wipe_one, mono _ _ _ _ ?_ (he i x _ H' hi hy s)⟩
    rintro v H2 ⟨rfl, s2⟩
    refine ⟨_, s2 _ _ e, ?_, ?_, ?_⟩
    · rw [List.length_take]
      exact Nat.lt_of_le_of_lt (m := 100000) (by omega) (by decide)
    · intro c o hc
      rw [upd_ne (ne_of_none hc hD)]
      exact s2 _ _ (s _ _ hc)
    · rw [upd_same, take_one hy]
  · rintro H' ⟨s, e⟩
    rw [← hn, List.take_length] at e
    exact k D H' s hD e
theorem tCut_mono {te : TE} : ∀ σ H (Q Q' : VK), (∀ v H', Q v H' → Q' v H') → tCut te σ H Q → tCut te σ H Q' :=
  fun _ _ _ _ hq ⟨C, h1, h2⟩ => ⟨C, h1, fun v H' c => hq v H' (h2 v H' c)⟩
theorem tl_core {K : PySem.W.Frag} {tl te : TE} {j : Nat} {σ : L2.St} {H : Hp} {Q : VK} (q : tMapL K j tl te σ H Q) : tLc (iList K (tCut tl)) (gName j) tYes (tCut te) [j] σ H Q := by
  refine ⟨_, q, ?_⟩
  rintro v H1 ⟨a, xs, ys, rfl, hl, hn, hs, he, k⟩
  exact ⟨a, rfl, ⟨_, hl⟩, map_core tCut_mono hl hn hs (fun i x y H' h1 h2 h3 => ⟨_, he i x y H' h1 h2 h3, fun _ _ c => c⟩) k⟩
theorem pe_map {X : Cx} {K : PySem.W.Frag} {e : Expr} {tl te : TE} {j : Nat} (h : PE X e (tLc (iList K (tCut tl)) (gName j) tYes (tCut te) [j])) : PE X e (tMapL K j tl te) :=
  pe_imp h fun _ _ _ => tl_core
theorem ps_map {X : Cx} {K : PySem.W.Frag} {st : Stmt} {tl te : TE} {j i : Nat} (h : PS X st (tAsg (tLc (iList K (tCut tl)) (gName j) tYes (tCut te) [j]) (gName i))) : PS X st (tAsg (tMapL K j tl te) (gName i)) :=
  ps_imp h fun _ _ _ => tl_core
/-- arguments, cut -/
def tCutA (ta : TA) : TA := fun σ H Q => ∃ C : List V → Hp → Prop, ta σ H C ∧ ∀ vs H', C vs H' → Q vs H'
theorem map_coreR {te : TE} {j : Nat} {σ : L2.St} {H1 : Hp} {Q : VK} {m : Nat} {ys : List V} (hn : ys.length = m) (hs : m ≤ 100000)
    (he : ∀ (i : Nat) (y : V) (H' : Hp), ys[i]? = some y → Same H1 H' → te ((σ.set j none).set j (some (.int i))) H' fun v H'' => v = y ∧ Same H' H'')
    (k : ∀ D H', Same H1 H' → H1 D = none → H' D = some (.lst ys) → Q (.ref D) H') :
    tLc (fun _ H R => R (Itr 0 m) H) (gName j) tYes (tCut te) [j] σ H1 Q := by
  intro D hD
  refine lc_range (lo := 0) (n := m) (fun i H' => Same H1 H' ∧ H' D = some (.lst (ys.take i))) ⟨fun c u h => by rw [upd_ne (ne_of_none h hD)]; exact h, upd_same⟩ ?_ ?_
  · rintro i H' hi ⟨s, e⟩
    have hy : ys[i]? = some ys[i] := List.getElem?_eq_getElem (by omega)
    have e0 : (0 : Int) + (i : Int) = i := Int.zero_add _
    rw [e0]
    refine ⟨wipe_one, _, he i _ H' hy s, ?_⟩
    rintro v H2 ⟨rfl, s2⟩
    refine ⟨_, s2 _ _ e, ?_, ?_, ?_⟩
    · rw [List.length_take]
      exact Nat.lt_of_le_of_lt (m := 100000) (by omega) (by decide)
    · intro c o hc
      rw [upd_ne (ne_of_none hc hD)]
      exact s2 _ _ (s _ _ hc)
    · rw [upd_same, take_one hy]
  · rintro H' ⟨s, e⟩
    rw [← hn, List.take_length] at e
    exact k D H' s hD e
theorem pe_mapR {X : Cx} {e : Expr} {ta : TA} {te : TE} {j : Nat} (mono : ∀ σ H (Q Q' : List V → Hp → Prop), (∀ v H', Q v H' → Q' v H') → ta σ H Q → ta σ H Q')
    (h : PE X e (tLc (iRng1 ta) (gName j) tYes (tCut te) [j])) : PE X e (tMapR j ta te) := by
  refine pe_imp h fun σ H Q q => ?_
  refine mono σ H _ _ ?_ q
  rintro vs H1 ⟨m, ys, rfl, h0, hm, hn, he, k⟩
  exact ⟨m, rfl, by omega, by omega, map_coreR (by omega) (by omega) he k⟩

/-! ### within a comprehension: the written part by its name -/
theorem call_reprK {X : Cx} {K : PySem.W.Frag} (bare : Bare X.A) (hu : X.A.units + 64 < cLine) (hK : X.K = K := by rfl) : CallR X (.builtin "repr") (rRepr K) := hK ▸ call_reprD bare hu
theorem ix_listK {X : Cx} {K : PySem.W.Frag} (hK : X.K = K := by rfl) : IxR X (rIxL K) := hK ▸ ix_list
theorem ix_tupK {X : Cx} {K : PySem.W.Frag} (hK : X.K = K := by rfl) : IxR X (rIxT K) := hK ▸ ix_tup
theorem call_isiK {X : Cx} {K : PySem.W.Frag} (hK : X.K = K := by rfl) : CallR X (.builtin "isinstance") (rIsi K) := hK ▸ call_isi

/-! ### heaps: all that was tracked stays, but for the list at q -/
def Keep (q : Addr) (H H' : Hp) : Prop := ∀ b o, H b = some o → b ≠ q → H' b = some o
theorem Keep.refl {q : Addr} {H : Hp} : Keep q H H := fun _ _ h _ => h
theorem Keep.trans {q : Addr} {H H1 H2 : Hp} (a : Keep q H H1) (b : Keep q H1 H2) : Keep q H H2 := fun c o h n => b c o (a c o h n) n
theorem Keep.upd {q : Addr} {H H' : Hp} {o : HO} (a : Keep q H H') : Keep q H (L2.upd H' q o) := fun c u h n => by rw [upd_ne n]; exact a c u h n
theorem Keep.new {q p : Addr} {H H' : Hp} {o : HO} (a : Keep q H H') (hp : H' p = none) : Keep q H (L2.upd H' p o) := fun c u h n => by
  have e := a c u h n
  rw [upd_ne (ne_of_none e hp)]
  exact e
theorem Keep.same {q : Addr} {H H1 H2 : Hp} (a : Keep q H H1) (b : Same H1 H2) : Keep q H H2 := fun c o h n => b c o (a c o h n)
theorem Same.keep {q : Addr} {H H' : Hp} (a : Same H H') : Keep q H H' := fun c o h _ => a c o h
theorem Same.new {p : Addr} {H H' : Hp} {o : HO} (a : Same H H') (hp : H' p = none) : Same H (L2.upd H' p o) := fun c u h => by
  have e := a c u h
  rw [upd_ne (ne_of_none e hp)]
  exact e
theorem Keep.toSame {q : Addr} {H H' : Hp} (a : Keep q H H') (hq : H q = none) : Same H H' := fun c o h => a c o h (ne_of_none h hq)
theorem Keep.free {q p : Addr} {H H' : Hp} (a : Keep q H H') (hne : p ≠ q) (h : H' p = none) : H p = none := by
  cases e : H p with
  | none => rfl
  | some o => exact nomatch h.symm.trans (a p o e hne)
theorem pe_mk_ {X : Cx} {k j : Nat} {C : Addr} {sp : Sp} {m : Str} {pos apos : Pos} {o : Expr} {kws : List Keyword} {ks : List Str} {gV : List V → List V → List V} {ta : TE} {tk : TA} {pl : Sem Bool}
    (c : MetK X.prog X.w X.K X.mg X.base k C m sp ks gV) (cl : Cls X.K C) (hr : Room j X.A) (hk : k ≤ j) (he : PE X o ta) (hkw : PK X kws tk)
    (hall : (backToKw pos (keywordEach kws X.env)).all (·.1.isSome) = true := by rfl) (hks : (backToKw pos (keywordEach kws X.env)).filterMap (·.1) = ks := by rfl)
    (hpl : ((backTo pos (starEach [] X.env)).any (·.1) || (backToKw pos (keywordEach kws X.env)).any (·.1.isNone)) = false := by rfl)
    (ht : eval (.Call (.Attribute o m apos) [] kws pos) X.env = (do
      let ov ← eval o X.env
      standAt apos.atName
      let (f, first) ← holding [ov] (getMethod ov m pl)
      callWith pos f first (backTo pos (starEach [] X.env)) (backToKw pos (keywordEach kws X.env))) := by rfl) :
    PE X (.Call (.Attribute o m apos) [] kws pos) (tMethK C m sp gV E0 ta tk) := by
  obtain ⟨f, fd, ps, g, M, F, b⟩ := c.ex
  exact pe_methK0 (pl := pl) he cl M F (hr.mono hk) b pass0 hkw hall hks hpl ht
end MG

/-! str, repr and bool of an own instance -/
namespace MG
open PySem PySem.Spec PyProof.Rows L2

section
variable {prog : Program} {w : World} {A : Around} {E : Value → Shared → Prop} {s : Shared} {K : PySem.W.Frag} {x C f : Addr} {ox : Obj} {od : Option Obj} {m : Str → Option Value} {L : Addr} {h₀ : Heap}
open Builtin in
theorem bool_own {Q : Value → Shared → Prop} (F : Fr h₀ L s.heap m) (X₀ : K.In h₀) (I : PySem.W.InstAt s.heap x ox C od)
    (hs : PySem.W.findIn K (.ref C) "__bool__" = some (some (.ref f))) (hf : PySem.W.isFn K (.ref f) = true)
    (h : wpAny (model prog w) A.in1.in1 (call (.ref f) [.ref x]) (fun v s' => ∃ b, v = .bool b ∧ Q (.bool b) s') E s) :
    wpAny (model prog w) A (call (.type "bool") [.ref x]) Q E s := by
  refine callType_codes (T := "bool") (Bi := Builtin.«object.__init__») (Q₁ := fun r s₁ => ∃ b, r = .bool b ∧ Q r s₁) PySem.F.called_bool (PySem.F.typeCall_bool_1 _) PySem.F.entry_object_init ?_ ?_
  · refine codeAny_of_tree ?_
    show wpAny _ A.in1.in1 (do checkBuiltinCall "bool.__new__" ⟨[.type "bool", .ref x], []⟩; again (.builtin "bool.__new__" ⟨[.type "bool", .ref x], []⟩)) _ _ s
    refine wpAny_bind (wpAny_of_eq (PySem.F.newCall_bool_1 _) (wpAny_pure ⟨plainId_quiet (by decide +kernel) _, codeAny_builtin PySem.F.entry_bool_new ?_⟩))
    rw [Around.under_plainId (by decide +kernel) _]
    have f1 := PySem.F.conv_sub_bool
    have tr : ∀ {R : Bool → Shared → Prop}, (∀ b s', Q (.bool b) s' → R b s') → wpAny (model prog w) A.in1.in1 (truthy (.ref x)) R E s := fun {R} hr =>
      PySem.W.truthy_K F X₀ I hs hf (wpAny_mono h (fun v s' z => match v, z with | _, ⟨b, rfl, q⟩ => hr b s' q) fun _ _ z => z)
    unfold Builtin.«bool.__new__»
    repeat (any_goals (first | assumption | (refine wpAny_bind (m := truthy (.ref x)) (tr fun b s' q => ?_)) | wp_step))
    all_goals first | exact wpAny_pure ⟨_, rfl, q⟩ | exact ⟨_, rfl, q⟩ | skip
  · rintro obj s₁ ⟨b, rfl, hq⟩
    exact ⟨PySem.typeIs_bool _ _, PySem.F.args_object_init_2 _ _, object_init_meets PySem.F.called_bool.init.lookup PySem.F.called_bool.made (by decide) prog w A.in1 _ s₁ ⟨PySem.typeIs_bool _ _, rfl, hq⟩⟩
end

section
variable {X : Cx} {CX : CXT} {k : Nat} {C f a : Addr} {fd : FuncData} {ps : List Str} {sp : Sp} {E : XK} {pins : List (Addr × Obj)} {σ : L2.St} {H : Hp} {s : Shared} {Q : VK}
/-- the callee, below a builtin -/
theorem run_in1 (F : FnOk X.prog X.w X.K X.mg X.base CX k f fd ps sp) (hr : Room (k + 1) X.A) (hb : Binds X.K fd ps []) (hx : Passes CX X E) (I : Inv X pins σ H s) (hsp : sp [.ref a] H Q E) :
    wpAny (model X.prog X.w) X.A.in1 (call (.ref f) [.ref a]) (EP X pins σ Q) X.xe s := by
  have hl := F.len _ _ _ _ hsp
  refine wpAny_call (codeAny_mono (F.run X.A.in1 X.stack s H ⟨[.ref a], []⟩ [.ref a] [.ref a] Q E hr.in1 I.env0.in1 (by
    have := hb s [.ref a] I.kIn (by simpa using hl)
    simpa using this) (.cons rfl .nil) hsp) fun r s' hq => ?_)
  match r, hq with
  | .error e, hq => exact hx pins σ H s e s' I hq
  | .ok (.ret z), hq => exact I.after hq
  | .ok .next, hq => exact False.elim hq
  | .ok .brk, hq => exact False.elim hq
  | .ok .cont, hq => exact False.elim hq
theorem run_in2 (F : FnOk X.prog X.w X.K X.mg X.base CX k f fd ps sp) (hr : Room (k + 2) X.A) (hb : Binds X.K fd ps []) (hx : Passes CX X E) (I : Inv X pins σ H s) (hsp : sp [.ref a] H Q E) :
    wpAny (model X.prog X.w) X.A.in1.in1 (call (.ref f) [.ref a]) (EP X pins σ Q) X.xe s := by
  have hl := F.len _ _ _ _ hsp
  refine wpAny_call (codeAny_mono (F.run X.A.in1.in1 X.stack s H ⟨[.ref a], []⟩ [.ref a] [.ref a] Q E hr.in1.in1 I.env0.in1.in1 (by
    have := hb s [.ref a] I.kIn (by simpa using hl)
    simpa using this) (.cons rfl .nil) hsp) fun r s' hq => ?_)
  match r, hq with
  | .error e, hq => exact hx pins σ H s e s' I hq
  | .ok (.ret z), hq => exact I.after hq
  | .ok .next, hq => exact False.elim hq
  | .ok .brk, hq => exact False.elim hq
  | .ok .cont, hq => exact False.elim hq
/-- str(x), repr(x): the own def's text -/
def rTxtO (C : Addr) (sp : Sp) (E : XK) : List V → Hp → VK → Prop := fun xs H Q => ∃ a dx fs, xs = [.ref a] ∧ H a = some (.ins C dx fs) ∧ sp [.ref a] H (fun v H' => ∃ z, v = .str z ∧ Q v H') E
/-- bool(x) -/
def rBoolO (C : Addr) (sp : Sp) (E : XK) : List V → Hp → VK → Prop := fun xs H Q => ∃ a dx fs, xs = [.ref a] ∧ H a = some (.ins C dx fs) ∧ sp [.ref a] H (fun v H' => ∃ z, v = .bl z ∧ Q v H') E
theorem strBack {u : Value} {s' : Shared} (h : EP X pins σ (fun v H' => ∃ z, v = .str z ∧ Q v H') u s') : PySem.W.StrBack (EP X pins σ Q) u s' := by
  obtain ⟨v, H', I, r, z, rfl, q⟩ := h
  obtain ⟨t, rfl⟩ := r
  exact ⟨.str z, H', I, ⟨t, rfl⟩, q⟩
theorem call_strO (at_ : PySem.W.findIn X.K (.ref C) "__str__" = some (some (.ref f))) (fn : PySem.W.isFn X.K (.ref f) = true)
    (F : FnOk X.prog X.w X.K X.mg X.base CX k f fd ps sp) (hr : Room (k + 2) X.A) (hb : Binds X.K fd ps []) (hx : Passes CX X E) : CallR X (.type "str") (rTxtO C sp E) := by
  intro pins s σ H xs us Q I r h
  obtain ⟨a, dx, fs, rfl, ha, hsp⟩ := h
  obtain ⟨u, rfl, ru⟩ := vals1 r
  cases ru
  obtain ⟨mA, J, _⟩ := ins_get I.hok ha
  obtain ⟨od, J, _⟩ := J.look
  exact PySem.W.kso_call (Nat.lt_trans (by show X.A.units + 1 + 1 < X.A.units + 16 * (k + 2) + 200; omega) hr.un) I.kIn J at_ fn (wpAny_mono (run_in2 F hr hb hx I hsp) (fun _ _ q => strBack q) fun _ _ e => e)
theorem call_reprO (at_ : PySem.W.findIn X.K (.ref C) "__repr__" = some (some (.ref f))) (fn : PySem.W.isFn X.K (.ref f) = true)
    (F : FnOk X.prog X.w X.K X.mg X.base CX k f fd ps sp) (hr : Room (k + 1) X.A) (hb : Binds X.K fd ps []) (hx : Passes CX X E) : CallR X (.builtin "repr") (rTxtO C sp E) := by
  intro pins s σ H xs us Q I r h
  obtain ⟨a, dx, fs, rfl, ha, hsp⟩ := h
  obtain ⟨u, rfl, ru⟩ := vals1 r
  cases ru
  obtain ⟨mA, J, _⟩ := ins_get I.hok ha
  obtain ⟨od, J, _⟩ := J.look
  obtain ⟨m, hF⟩ := I.fr
  exact PySem.W.repr_K (Nat.lt_trans (by show X.A.units + 1 < X.A.units + 16 * (k + 1) + 200; omega) hr.un) hF I.ok.mod.kin J at_ fn (wpAny_mono (run_in1 F hr hb hx I hsp) (fun _ _ q => strBack q) fun _ _ e => e)
theorem call_boolO (at_ : PySem.W.findIn X.K (.ref C) "__bool__" = some (some (.ref f))) (fn : PySem.W.isFn X.K (.ref f) = true)
    (F : FnOk X.prog X.w X.K X.mg X.base CX k f fd ps sp) (hr : Room (k + 2) X.A) (hb : Binds X.K fd ps []) (hx : Passes CX X E) : CallR X (.type "bool") (rBoolO C sp E) := by
  intro pins s σ H xs us Q I r h
  obtain ⟨a, dx, fs, rfl, ha, hsp⟩ := h
  obtain ⟨u, rfl, ru⟩ := vals1 r
  cases ru
  obtain ⟨mA, J, _⟩ := ins_get I.hok ha
  obtain ⟨od, J, _⟩ := J.look
  obtain ⟨m, hF⟩ := I.fr
  refine bool_own hF I.ok.mod.kin J at_ fn (wpAny_mono (run_in2 F hr hb hx I hsp) ?_ fun _ _ e => e)
  rintro u s' ⟨v, H', I', r, z, rfl, q⟩
  cases r
  exact ⟨z, rfl, .bl z, H', I', rfl, q⟩
end
section
variable (P : Program) (w : World) (K : PySem.W.Frag) (mg : Str → Option Value) (base : Heap) (k : Nat) (C : Addr)
/-- a double-underscore method of one parameter -/
structure DunF (nm : Str) (sp : Sp) : Prop where
  ex : ∃ (f : Addr) (fd : FuncData) (ps : List Str), PySem.W.findIn K (.ref C) nm = some (some (.ref f)) ∧ PySem.W.isFn K (.ref f) = true ∧ FnOk P w K mg base CX0 k f fd ps sp ∧ Binds K fd ps []
end
section
variable {X : Cx} {k j : Nat} {C : Addr} {sp : Sp}
theorem str_f (o : DunF X.prog X.w X.K X.mg X.base k C "__str__" sp) (hr : Room j X.A) (hk : k + 2 ≤ j) : CallR X (.type "str") (rTxtO C sp E0) := by
  obtain ⟨f, fd, ps, a, i, F, b⟩ := o.ex
  exact call_strO a i F (hr.mono hk) b pass0
theorem repr_f (o : DunF X.prog X.w X.K X.mg X.base k C "__repr__" sp) (hr : Room j X.A) (hk : k + 1 ≤ j) : CallR X (.builtin "repr") (rTxtO C sp E0) := by
  obtain ⟨f, fd, ps, a, i, F, b⟩ := o.ex
  exact call_reprO a i F (hr.mono hk) b pass0
theorem bool_f (o : DunF X.prog X.w X.K X.mg X.base k C "__bool__" sp) (hr : Room j X.A) (hk : k + 2 ≤ j) : CallR X (.type "bool") (rBoolO C sp E0) := by
  obtain ⟨f, fd, ps, a, i, F, b⟩ := o.ex
  exact call_boolO a i F (hr.mono hk) b pass0
end

section
variable {prog : Program} {w : World} {A : Around} {E : Value → Shared → Prop} {s : Shared} {K : PySem.W.Frag} {x C L f : Addr} {h₀ : Heap} {m : Str → Option Value} {ox : Obj} {od : Option Obj} {b tb : Value}
theorem objNe_any (X : K.In s.heap) (I : PySem.W.InstAt s.heap x ox C od) (hs : PySem.W.findIn K (.ref C) "__eq__" = some (some (.ref f))) (hf : PySem.W.isFn K (.ref f) = true)
    (hu : A.units < cLine) {Q : Fin → Shared → Prop}
    (hcall : wpAny (model prog w) A (call (.ref f) [.ref x, b]) (fun v s' => ∃ c, v = .bool c ∧ Q (.done (.ret (.bool (!c)))) s') E s) :
    wpAny (model prog w) A (Builtin.«object.__ne__» ⟨[.ref x, b], []⟩) Q E s := by
  unfold Builtin.«object.__ne__»
  repeat (first
    | with_reducible refine wpAny_cRoomFor hu ?_
    | (refine wpAny_bind (m := callSpecialIfBound? (.ref x) (Str.ofString "__eq__") [b])
        (PySem.W.ifBound_K X I hs hf (wpAny_mono hcall (fun r s' hr => ?_) fun _ _ e => e)))
    | wp_step)
  obtain ⟨c, rfl, hq⟩ := hr
  repeat (first | exact hq | exact wpAny_pure hq | exact wpAny_truthy_bool hq | (refine wpAny_bind (m := truthy (.bool _)) (wpAny_truthy_bool ?_)) | wp_step)
theorem ne_any (X : K.In s.heap) (I : PySem.W.InstAt s.heap x ox C od) (hb : PySem.W.Looks (model prog w) s.heap (typeOf b) tb) (hn : PySem.W.notFirst K C tb = true)
    (n : NeAt K C f) (ha : ∀ y, argsOk "object.__ne__" ⟨[y, b], []⟩) (hu : A.units + 1 < cLine) {Q : Value → Shared → Prop}
    (hcall : wpAny (model prog w) A.in1 (call (.ref f) [.ref x, b]) (fun v s' => ∃ c, v = .bool c ∧ Q (.bool (!c)) s') E s) :
    wpAny (model prog w) A (richCompare .NotEq (.ref x) b) Q E s := by
  have sub : PySem.W.Looks (model prog w) s.heap (isInstance (.ref x) (.type "object")) true := I.type.andThen (PySem.W.looks_subIn X n.sub)
  have one : wpAny (model prog w) A (tryCompare (.ref x) "__ne__" b) (fun r s' => ∃ v, r = some v ∧ Q v s') E s := by
    simp only [tryCompare]
    refine wpAny_bind (ifBound_ne X I n.ne (wpAny_call (codeAny_call_builtin PySem.F.cmp_object.ne.plain PySem.F.cmpEntry_ne
      (PySem.W.check_slot PySem.F.cmpKind_ne PySem.F.cmpSplit_ne sub (ha _) ?_))))
    refine objNe_any (A := A.in1) X I n.eq n.fn hu (wpAny_mono hcall (fun v s' hv => ?_) fun _ _ e => e)
    obtain ⟨c, rfl, hq⟩ := hv
    first | exact ⟨c, rfl, wpAny_pure ⟨_, rfl, hq⟩⟩ | exact ⟨c, rfl, wpAny_pure (wpAny_pure ⟨_, rfl, hq⟩)⟩ | exact ⟨c, rfl, _, rfl, hq⟩
  unfold richCompare
  simp only [oneThing_ref]
  refine wpAny_holding (wpAny_bind (wpAny_cRoomFor (Nat.lt_of_succ_lt hu) ?_))
  refine wpAny_bind (I.type.here (wpAny_bind (hb.here ?_)))
  split
  · rename_i q
    have e : PySem.W.subIn K tb (.ref C) = some false := by
      rcases Bool.or_eq_true_iff.mp hn with z | z
      · rw [beq_iff_eq.mp z] at q
        simp at q
      · exact beq_iff_eq.mp z
    refine wpAny_bind ((PySem.W.looks_subIn X e).here ?_)
    simp only [Bool.false_eq_true, if_false]
    refine wpAny_bind (wpAny_mono one (fun v s' hv => ?_) fun _ _ e => e)
    obtain ⟨c, rfl, hq⟩ := hv
    exact wpAny_pure hq
  · refine wpAny_bind (wpAny_pure ?_)
    simp only [Bool.false_eq_true, if_false]
    refine wpAny_bind (wpAny_mono one (fun v s' hv => ?_) fun _ _ e => e)
    obtain ⟨c, rfl, hq⟩ := hv
    exact wpAny_pure hq
end
section
variable {X : Cx}
/-- x == y, x of the class at C with its own ==, y anything -/
def rEqA (K : PySem.W.Frag) (C : Addr) (sp : Sp) (E : XK) : R2 := fun x y H Q => ∃ a dx fs t, x = .ref a ∧ H a = some (.ins C dx fs) ∧ TyX K H y t ∧ PySem.W.notFirst K C t = true ∧ sp [x, y] H Q E
def rNeA (K : PySem.W.Frag) (C : Addr) (sp : Sp) (E : XK) : R2 := fun x y H Q => ∃ a dx fs t, x = .ref a ∧ H a = some (.ins C dx fs) ∧ TyX K H y t ∧ PySem.W.notFirst K C t = true ∧ sp [x, y] H (fun v H' => ∃ c, v = .bl c ∧ Q (.bl (!c)) H') E
theorem op_eqA {CX : CXT} {k : Nat} {C f : Addr} {fd : FuncData} {ps : List Str} {sp : Sp} {E : XK} (n : NeAt X.K C f)
    (F : FnOk X.prog X.w X.K X.mg X.base CX k f fd ps sp) (hr : Room k X.A) (hb : Binds X.K fd ps []) (hx : Passes CX X E) : OpR X (compareOp .Eq) (rEqA X.K C sp E) := by
  intro pins s σ H x y v u Q I rx ry h
  obtain ⟨a, dx, fs, t, rfl, ha, ty, hn, hsp⟩ := h
  cases rx
  obtain ⟨mA, J, _⟩ := ins_get I.hok ha
  obtain ⟨od, J, _⟩ := J.look
  obtain ⟨Z, kz, hz, _⟩ := kit_of I ry ty
  obtain ⟨m, hF⟩ := I.fr
  refine PySem.W.cmp_K (op := .Eq) hr.units0 hF I.ok.mod.kin J (kz.ty _ _ I.kIn hz) hn n.eq n.fn ?_
  exact wpAny_mono (run_fn (vs := [.ref a, y]) F hr hb .nil hx I (.cons rfl (.cons ry .nil)) (by rw [List.append_nil]; exact hsp))
    (fun _ _ hq => match hq with | ⟨_, _, _, r, _⟩ => back_of r hq) fun _ _ e => e
theorem op_neA {CX : CXT} {k : Nat} {C f : Addr} {fd : FuncData} {ps : List Str} {sp : Sp} {E : XK} (n : NeAt X.K C f)
    (F : FnOk X.prog X.w X.K X.mg X.base CX k f fd ps sp) (hr : Room (k + 1) X.A) (hb : Binds X.K fd ps []) (hx : Passes CX X E) : OpR X (compareOp .NotEq) (rNeA X.K C sp E) := by
  intro pins s σ H x y v u Q I rx ry h
  obtain ⟨a, dx, fs, t, rfl, ha, ty, hn, hsp⟩ := h
  cases rx
  obtain ⟨mA, J, _⟩ := ins_get I.hok ha
  obtain ⟨od, J, _⟩ := J.look
  obtain ⟨Z, kz, hz, _⟩ := kit_of I ry ty
  refine ne_any I.kIn J (kz.ty _ _ I.kIn hz) hn n (fun z => PySem.F.cmpArgs_ne z u) (Nat.lt_trans (by omega) hr.un) ?_
  have hl := F.len _ _ _ _ hsp
  refine wpAny_call (codeAny_mono (F.run X.A.in1 X.stack s H ⟨[.ref a, u], []⟩ [.ref a, u] [.ref a, y] _ E hr.in1 I.env0.in1 (by
    have := hb s [.ref a, u] I.kIn (by simpa using hl)
    simpa using this) (.cons rfl (.cons ry .nil)) hsp) fun r s' hq => ?_)
  match r, hq with
  | .error e, hq => exact hx pins σ H s e s' I hq
  | .ok (.ret z), hq =>
    obtain ⟨v, H', I', rv, c, rfl, q⟩ := I.after hq
    cases rv
    exact ⟨c, rfl, .bl (!c), H', I', rfl, q⟩
  | .ok .next, hq => exact False.elim hq
  | .ok .brk, hq => exact False.elim hq
  | .ok .cont, hq => exact False.elim hq
variable {k j : Nat} {C : Addr} {sp : Sp} {K : PySem.W.Frag}
theorem eq_a (o : EqF X.prog X.w X.K X.mg X.base k C sp) (hr : Room j X.A) (hk : k ≤ j) (hK : X.K = K := by rfl) : OpR X (compareOp .Eq) (rEqA K C sp E0) := by
  obtain ⟨f, fd, ps, n, F, b⟩ := o.ex
  exact hK ▸ op_eqA n F (hr.mono hk) b pass0
theorem ne_a (o : EqF X.prog X.w X.K X.mg X.base k C sp) (hr : Room j X.A) (hk : k + 1 ≤ j) (hK : X.K = K := by rfl) : OpR X (compareOp .NotEq) (rNeA K C sp E0) := by
  obtain ⟨f, fd, ps, n, F, b⟩ := o.ex
  exact hK ▸ op_neA n F (hr.mono hk) b pass0
end
end MG

/-! repr of lists and tuples that hold own instances -/
namespace MG
open PySem PySem.Spec PyProof.Rows L2
open Builtin.List Builtin.Tuple

/-- a builtin that shows a container: little room -/
structure Lit (A : Around) (c : Code) : Prop where
  frames : (A.under c).frames = A.frames
  handled : (A.under c).handled = A.handled
  depth : (A.under c).depth ≤ A.depth + 1
  units : (A.under c).units = A.units + 1
  guard : c.isGuard = true
/-- near the frame of X: its frames, its handled exception, room -/
structure Near (X : Cx) (k : Nat) (A : Around) : Prop where
  fr : A.frames = X.A.frames
  hn : A.handled = X.A.handled
  room : L2H.RoomH k A
theorem Near.mono {X : Cx} {j k : Nat} {A : Around} (n : Near X k A) (h : j ≤ k) : Near X j A := ⟨n.fr, n.hn, n.room.mono h⟩
theorem Near.line {X : Cx} {k : Nat} {A : Around} (n : Near X k A) : A.units < cLine := by have := n.room.un; omega
theorem Near.in1 {X : Cx} {k : Nat} {A : Around} (n : Near X (k + 1) A) : Near X k A.in1 :=
  ⟨n.fr, n.hn, by have := n.room.dp; show A.depth + 3 * k + 5 < _; omega, by have := n.room.un; show A.units + 1 + 16 * k + 200 < _; omega⟩
theorem Near.self {X : Cx} {k : Nat} (r : L2H.RoomH k X.A) : Near X k X.A := ⟨rfl, rfl, r⟩
theorem Lit.near {X : Cx} {k : Nat} {A : Around} {c : Code} (l : Lit A c) (n : Near X (k + 1) A) : Near X k (A.under c) :=
  ⟨l.frames.trans n.fr, l.handled.trans n.hn, by have := n.room.dp; have := l.depth; omega, by have := n.room.un; rw [l.units]; omega⟩
theorem lit_list (A : Around) (args : Args) : Lit A (.builtin "list.__repr__.loop" args) where
  frames := by first | rfl | simp [Around.under, Code.envs, Code.isFrame, pushEnvs]
  handled := by first | rfl | simp [Around.under]
  depth := by first | exact Nat.le_refl _ | simp [Around.under, Code.weight, Code.isCreation, Code.isGuard, Code.isCaller, Code.frames, Code.isFrame, guardIds]
  units := by first | rfl | simp [Around.under, Code.cUnits, Code.frames, Code.isFrame]
  guard := by
    show guardIds.contains "list.__repr__.loop" = true
    decide +kernel
theorem lit_tuple (A : Around) (args : Args) : Lit A (.builtin "tuple.__repr__" args) where
  frames := by first | rfl | simp [Around.under, Code.envs, Code.isFrame, pushEnvs]
  handled := by first | rfl | simp [Around.under]
  depth := by first | exact Nat.le_refl _ | simp [Around.under, Code.weight, Code.isCreation, Code.isGuard, Code.isCaller, Code.frames, Code.isFrame, guardIds]
  units := by first | rfl | simp [Around.under, Code.cUnits, Code.frames, Code.isFrame]
  guard := by
    show guardIds.contains "tuple.__repr__" = true
    decide +kernel
theorem lit_tupleU (A : Around) (args : Args) : Lit A (.builtin "tuple.__repr__.under" args) where
  frames := by first | rfl | simp [Around.under, Code.envs, Code.isFrame, pushEnvs]
  handled := by first | rfl | simp [Around.under]
  depth := by first | exact Nat.le_refl _ | simp [Around.under, Code.weight, Code.isCreation, Code.isGuard, Code.isCaller, Code.frames, Code.isFrame, guardIds]
  units := by first | rfl | simp [Around.under, Code.cUnits, Code.frames, Code.isFrame]
  guard := by
    show guardIds.contains "tuple.__repr__.under" = true
    decide +kernel
theorem lit_dict (A : Around) (args : Args) : Lit A (.builtin "dict.__repr__" args) where
  frames := by first | rfl | simp [Around.under, Code.envs, Code.isFrame, pushEnvs]
  handled := by first | rfl | simp [Around.under]
  depth := by first | exact Nat.le_refl _ | simp [Around.under, Code.weight, Code.isCreation, Code.isGuard, Code.isCaller, Code.frames, Code.isFrame, guardIds]
  units := by first | rfl | simp [Around.under, Code.cUnits, Code.frames, Code.isFrame]
  guard := by
    show guardIds.contains "dict.__repr__" = true
    decide +kernel
theorem lit_dictU (A : Around) (args : Args) : Lit A (.builtin "dict.__repr__.under" args) where
  frames := by first | rfl | simp [Around.under, Code.envs, Code.isFrame, pushEnvs]
  handled := by first | rfl | simp [Around.under]
  depth := by first | exact Nat.le_refl _ | simp [Around.under, Code.weight, Code.isCreation, Code.isGuard, Code.isCaller, Code.frames, Code.isFrame, guardIds]
  units := by first | rfl | simp [Around.under, Code.cUnits, Code.frames, Code.isFrame]
  guard := by
    show guardIds.contains "dict.__repr__.under" = true
    decide +kernel
theorem same_tup {K : PySem.W.Frag} {H H' : Hp} {a : Addr} {xs : List V} (e : Same H H') (h : SqT K H a xs) : SqT K H' a xs := by
  rcases h with (h | ⟨o, h⟩) | h
  · exact .inl (.inl (e _ _ h))
  · exact .inl (.inr ⟨o, e _ _ h⟩)
  · exact .inr h
section
variable {X : Cx}
/-- what is shown of x is t, wherever the things of H stand; as: the containers within -/
def Rp (X : Cx) (σ : L2.St) (H : Hp) (as : List Addr) (k : Nat) (x : V) (t : Str) : Prop :=
  ∀ (u : Value), RelV x u → ∀ (b : Nat), b + t.length ≤ sizeLine → ∀ (A : Around) (g : List Code), Near X k A → A.guards = some g → (∀ a ∈ as, Clear g a) →
    ∀ (pins : List (Addr × Obj)) (s : Shared) (H1 : Hp), Inv X pins σ H1 s → Same H H1 → ∀ (Q : Str → Shared → Prop) (E : Value → Shared → Prop),
      (∀ s' H2, Inv X pins σ H2 s' → Same H1 H2 → Q t s') → wpAny (model X.prog X.w) A (pyReprUnder b u) Q E s
variable {σ : L2.St} {H H' : Hp} {as as' : List Addr} {k k' : Nat} {x : V} {t : Str}
theorem Rp.same (h : Rp X σ H as k x t) (s : Same H H') : Rp X σ H' as k x t := fun u ru b hb A g n hg hc pins s1 H1 I s2 Q E q => h u ru b hb A g n hg hc pins s1 H1 I (s.trans s2) Q E q
theorem Rp.more (h : Rp X σ H as k x t) (m : ∀ a ∈ as, a ∈ as') : Rp X σ H as' k x t := fun u ru b hb A g n hg hc => h u ru b hb A g n hg fun a ha => hc a (m a ha)
theorem Rp.mono (h : Rp X σ H as k x t) (hk : k ≤ k') : Rp X σ H as k' x t := fun u ru b hb A g n hg hc => h u ru b hb A g (n.mono hk) hg hc
theorem Rp.is (h : ∀ u, RelV x u → ReprIs X.prog X.w u t) : Rp X σ H as k x t := fun u ru b hb A g n hg hc pins s H1 I s2 Q E q => h u ru b hb A E s Q fun tk => q _ _ (I.tok tk) (Same.refl H1)
theorem Rp.int {i : Int} (hi : i.natAbs.log2 < 1920) : Rp X σ H as k (.int i) (toString i) := Rp.is fun u ru => by
  obtain ⟨tk, rfl⟩ := ru
  exact .int tk hi
theorem Rp.bl {b : Bool} : Rp X σ H as k (.bl b) (if b then "True" else "False") := Rp.is fun u ru => by
  cases ru
  exact .bool b
theorem Rp.non : Rp X σ H as k .non "None" := Rp.is fun u ru => by
  cases ru
  exact .none
theorem Rp.str {z : Str} (hz : (reprText z).length ≤ sizeLine) : Rp X σ H as k (.str z) (reprText z) := Rp.is fun u ru => by
  obtain ⟨tk, rfl⟩ := ru
  exact .str z tk hz

/-! an own instance -/
section
variable {M : Model} {A : Around} {E : Value → Shared → Prop} {s : Shared} {K : PySem.W.Frag} {y C f : Addr} {ox : Obj} {od : Option Obj}
theorem underBy_own {nm : Str} {fin : Value → List Value → Sem Value} {Q : Option Value → Shared → Prop} (X0 : K.In s.heap) (I : PySem.W.InstAt s.heap y ox C od) (hs : PySem.W.findIn K (.ref C) nm = some (some (.ref f))) (hf : PySem.W.isFn K (.ref f) = true)
    (h : wpAny M A (fin (.ref f) [.ref y]) (fun v => Q (some v)) E s) : wpAny M A (callSpecialIfBoundBy? fin (.ref y) nm) Q E s := by
  have last : wpAny M A (fin (.ref f) [.ref y] >>= fun v => pure (some v)) Q E s := wpAny_bind (wpAny_mono h (fun _ _ q => wpAny_pure q) fun _ _ q => q)
  have bound := (PySem.W.bind_fn (M := M) X0 (.ref y) (beq_iff_eq.mp hf))
  unfold callSpecialIfBoundBy? bindSpecialIfBound?
  refine wpAny_holding (wpAny_bind (wpAny_bind (wpAny_bind (I.type.here ((PySem.W.looks_findIn X0 hs).here (wpAny_bind (wpAny_askSetting (wpAny_ite ?_))))))))
  split
  · exact wpAny_bind (bound.here (wpAny_pure last))
  · exact wpAny_tryCatch (wpAny_bind (bound.here (wpAny_pure last)))
theorem under_own {b : Nat} {Q : Value → Shared → Prop} (hu : A.units < cLine) (X0 : K.In s.heap) (I : PySem.W.InstAt s.heap y ox C od) (hs : PySem.W.findIn K (.ref C) "__repr__" = some (some (.ref f))) (hf : PySem.W.isFn K (.ref f) = true)
    (h : wpAny M A (call (.ref f) [.ref y]) (fun v s' => (∃ z u, v = .str z u) ∧ Q v s') E s) : wpAny M A (pyReprObjUnder b (.ref y)) Q E s := by
  show wpAny M A (pyReprObjBy _ (.ref y)) Q E s
  unfold pyReprObjBy
  refine wpAny_bind (wpAny_cRoomFor hu (wpAny_bind (wpAny_bind (I.type.here ((PySem.W.looks_findIn X0 hs).here ?_)))))
  rw [show (some (Value.ref f)).isNone = false from rfl]
  simp only [Bool.false_eq_true, if_neg, not_false_eq_true]
  refine wpAny_bind (underBy_own X0 I hs hf (wpAny_mono (show wpAny M A (call (.ref f) ([.ref y] ++ [])) _ E s from h) (fun v s' hv => ?_) fun _ _ z => z))
  obtain ⟨⟨z, u, rfl⟩, hq⟩ := hv
  exact wpAny_bind (wpAny_isInstance (b := true) (typeIs_str _ _ _) isSubtype_str_str (wpAny_pure hq))
end
/-- how the own instances of X are shown: the def's text, wherever it is called near X -/
structure OwnX (X : Cx) (own : Hp → Addr → Str → Prop) (kO : Nat) : Prop where
  run : ∀ (H : Hp) (a : Addr) (t : Str), own H a t → ∃ (C f dx : Addr) (fs : List (Str × V)), H a = some (.ins C dx fs) ∧ PySem.W.findIn X.K (.ref C) "__repr__" = some (some (.ref f)) ∧ PySem.W.isFn X.K (.ref f) = true ∧
    ∀ (A : Around) (pins : List (Addr × Obj)) (σ : L2.St) (s : Shared) (H1 : Hp), Near X kO A → Inv X pins σ H1 s → Same H H1 → ∀ (Q : Value → Shared → Prop) (E : Value → Shared → Prop),
      (∀ s' H2 tk, Inv X pins σ H2 s' → Same H1 H2 → Q (.str t tk) s') → wpAny (model X.prog X.w) A (call (.ref f) [.ref a]) Q E s
theorem Rp.own {own : Hp → Addr → Str → Prop} {a : Addr} (o : OwnX X own k) (ho : own H a t) : Rp X σ H as k (.ref a) t := by
  intro u ru b hb A g n hg hc pins s H1 I s1 Q E q
  obtain rfl : u = Value.ref a := ru
  obtain ⟨C, f, dx, fs, hi, at_, fn, run⟩ := o.run H a t ho
  obtain ⟨mA, J, _⟩ := ins_get I.hok (s1 _ _ hi)
  obtain ⟨od, J, _⟩ := J.look
  exact wpAny_pyReprUnder_ref (by omega) (under_own n.line I.kIn J at_ fn (run A pins σ s H1 n I s1 _ E fun s' H2 tk I2 s2 => ⟨⟨_, _, rfl⟩, _, _, rfl, q s' H2 I2 s2⟩))

/-! lists -/
theorem vals_get {xs : List V} {its : List Value} (r : Vals xs its) : ∀ (i : Nat) (x : V), xs[i]? = some x → ∃ u, its[i]? = some u ∧ RelV x u := by
  induction r with
  | nil => intro i x h; simp at h
  | cons h t ih =>
    intro i x hx
    cases i with
    | zero => simp at hx; subst hx; exact ⟨_, by simp, h⟩
    | succ i => exact ih i x (by simpa using hx)
/-- each item is shown -/
def RpAll (X : Cx) (σ : L2.St) (H : Hp) (as : List Addr) (k : Nat) (xs : List V) (ts : List Str) : Prop :=
  ts.length = xs.length ∧ ∀ (i : Nat) (x : V), xs[i]? = some x → ∃ t, ts[i]? = some t ∧ Rp X σ H as k x t
theorem pinOf {pins : List (Addr × Obj)} {s : Shared} {H1 : Hp} {P : Addr} {o : Obj} (I : Inv X pins σ H1 s) (f : FpOk X pins H1 P) (e : s.heap.get? P = some o) (d : ∀ v, o.data ≠ .cell v) : Inv X (pins ++ [(P, o)]) σ H1 s := by
  have := I.pinned (fp := [P]) (fun b hb => by rw [List.mem_singleton.mp hb]; exact f) (fun b hb => by rw [List.mem_singleton.mp hb]; exact ⟨o, e, d⟩)
  have e2 : pinsAt [P] s.heap = [(P, o)] := by simp [pinsAt, e]
  rw [e2] at this
  exact this
theorem pinBack {pins : List (Addr × Obj)} {s : Shared} {H1 H2 : Hp} {P : Addr} {o : Obj} (I : Inv X (pins ++ [(P, o)]) σ H2 s) (f : FpOk X pins H1 P) : Inv X pins σ H2 s ∧ FpOk X pins H2 P ∧ s.heap.get? P = some o := by
  obtain ⟨e, n, _⟩ := I.pin (P, o) (by simp)
  exact ⟨I.unpinned, ⟨n, f.2.1, f.2.2.1, f.2.2.2.1, f.2.2.2.2.1, f.2.2.2.2.2⟩, e⟩
theorem fpTurn {pins : List (Addr × Obj)} {s : Shared} {H1 : Hp} {P : Addr} {h' : Heap} {t' : Nat} (I : Inv X pins σ H1 s) (f : FpOk X pins H1 P) (k : ∀ b o, b ≠ P → s.heap.get? b = some o → h'.get? b = some o) : Inv X pins σ H1 { s with heap := h', toks := t' } :=
  I.turned k f.1 f.2.1 f.2.2.2.1 f.2.2.2.2.1 f.2.2.2.2.2
/-- what a list's text says of its parts -/
structure Fit (b : Nat) (ts : List Str) : Prop where
  all : (listText ts).length ≤ sizeLine
  each : ∀ t ∈ ts, t.length ≤ sizeLine
  many : ts.length ≤ sizeLine
  far : b + piled ts ≤ sizeLine
theorem Fit.of {b : Nat} {ts : List Str} (h : b + (listText ts).length ≤ sizeLine) : Fit b ts := by
  have far := piled_le_listText ts
  obtain ⟨w1, w2, _⟩ := textFrom_len ts 0 (Str.ofString "[")
  rw [if_neg (by omega)] at w1
  have grow : (listText ts).length = (textFrom 0 (Str.ofString "[") ts).length + 1 := (strLen_append _ _).trans rfl
  exact ⟨by omega, fun t m => by have := w2 t m; omega, by omega, by omega⟩
theorem piled_snoc (dn : List Str) (t : Str) : piled (dn ++ [t]) = piled dn + (t.length + 2) := by rw [piled_append, piled_cons, piled_nil]
theorem rp_list_loop {a P : Addr} {xs : List V} {ts : List Str} {A : Around} {g : List Code} {b : Nat} {pins : List (Addr × Obj)} {R : Result → Shared → Prop}
    (hl : SqL X.K H a xs) (n : Near X (k + 1) A) (hg : A.guards = some g) (free : ∀ c ∈ as, Clear g c) (out : a ∉ as) (T : RpAll X σ H as k xs ts) (fit : Fit b ts) :
    ∀ (rest dn : List Str) (l : List (Str × Tok)) (s : Shared) (H1 : Hp) (parts : Array Value) (c : Nat), ts = dn ++ rest → l.map (·.1) = dn → parts.toList = strValues l → Inv X pins σ H1 s → Same H H1 → FpOk X pins H1 P →
    s.heap.get? P = some { cls := .type "list", dict := none, data := .seq parts c, slots := #[] } →
    (∀ s' H2 u, Inv X pins σ H2 s' → Same H1 H2 → R (.ok (.ret (.str (listText ts) u))) s') →
    codeAny (model X.prog X.w) A (.builtin "list.__repr__.loop" ⟨[.ref a, rawInt dn.length, .ref P, rawInt ((b + piled dn : Nat) : Int)], []⟩) R s := by
  intro rest
  induction rest with
  | nil =>
    intro dn l s H1 parts c split told lay I same hP0 hP done
    rw [List.append_nil] at split
    obtain ⟨its, rv, ⟨o, m, get, _, _, dat⟩, _⟩ := I.list (same.seq hl)
    have off : its.toArray[((dn.length : Nat) : Int).toNat]? = none := by
      have h1 := rv.length
      have h2 := T.1
      rw [split] at h2
      simp only [Int.toNat_natCast, List.getElem?_toArray]
      exact List.getElem?_eq_none (by omega)
    refine codeAny_builtin F.entry_list_repr_loop (show wpAny _ _ (Builtin.«list.__repr__.loop» ⟨[.ref a, .int dn.length 0, .ref P, .int ((b + piled dn : Nat) : Int) 0], []⟩) _ _ s from ?_)
    rw [repr_loop_tree]
    refine wpAny_bind (wpAny_listItems get dat ?_)
    rw [off]
    show wpAny _ _ (reprEnd (.ref P)) _ _ s
    refine wpAny_bind (wpAny_listItems hP rfl ?_)
    rw [lay, repr_fold, told, ← split]
    exact wpAny_bind (wpAny_pure (wpAny_bind (wpAny_mkStr (wpAny_pure (done _ H1 _ (I.tok _) (Same.refl H1))) fit.all)))
  | cons t rest ih =>
    intro dn l s H1 parts c split told lay I same hP0 hP done
    obtain ⟨its, rv, ⟨o, m, get, _, _, dat⟩, _⟩ := I.list (same.seq hl)
    have inn : dn.length < xs.length := by
      have h2 := T.1
      rw [split, List.length_append, List.length_cons] at h2
      omega
    have item : xs[dn.length]? = some xs[dn.length] := List.getElem?_eq_getElem inn
    obtain ⟨t', ht, shows⟩ := T.2 _ _ item
    obtain rfl : t = t' := by
      rw [split, List.getElem?_append_right (Nat.le_refl _), Nat.sub_self] at ht
      exact Option.some.inj ht
    obtain ⟨u, hu, ru⟩ := vals_get rv _ _ item
    have fast : its.toArray[((dn.length : Nat) : Int).toNat]? = some u := by simpa using hu
    have far := fit.far
    have near : piled ts = piled dn + (t.length + 2) + piled rest := by rw [split, piled_append, piled_cons]; omega
    have lit := lit_list A ⟨[.ref a, .int dn.length 0, .ref P, .int ((b + piled dn : Nat) : Int) 0], []⟩
    refine codeAny_builtin F.entry_list_repr_loop (show wpAny _ _ (Builtin.«list.__repr__.loop» ⟨[.ref a, .int dn.length 0, .ref P, .int ((b + piled dn : Nat) : Int) 0], []⟩) _ _ s from ?_)
    rw [repr_loop_tree]
    refine wpAny_bind (wpAny_listItems get dat ?_)
    rw [fast]
    dsimp only
    rw [Int.toNat_natCast]
    refine wpAny_bind (wpAny_holding (shows u ru (b + piled dn + 1) (by omega) _ _ (lit.near n) (guards_under_guard lit.guard hg) (fun c hc => (free c hc).cons fun e => out (e ▸ hc)) _ s H1 (pinOf I hP0 hP (fun _ z => nomatch z)) same _ _ fun s2 H2 I2 same2 => ?_))
    obtain ⟨I2, hP2, there⟩ := pinBack I2 hP0
    have lp : parts.size ≤ sizeLine := by
      have z : parts.toList.length = l.length := by rw [lay]; exact List.length_map ..
      have z2 : l.length = dn.length := by rw [← told, List.length_map]
      have z3 := fit.many
      rw [split, List.length_append] at z3
      rw [Array.length_toList] at z
      omega
    refine wpAny_bind (wpAny_mkStr (wpAny_bind ?_) (fit.each t (by rw [split]; simp)))
    refine wpAny_updateSeq (show s2.heap.get? P = _ from there) rfl (wpAny_pure ⟨F.quiet_list_repr_loop _, ?_⟩) lp
    have w1 : ((dn.length : Nat) : Int) + 1 = (((dn ++ [t]).length : Nat) : Int) := by rw [List.length_append]; rfl
    have w2 : b + piled dn + (t.length + 2) = b + piled (dn ++ [t]) := by rw [piled_snoc]; omega
    rw [w1, w2]
    refine ih (dn ++ [t]) (l ++ [(t, s2.toks)]) _ H2 (parts.push (.str t s2.toks)) _ (by rw [split, List.append_assoc]; rfl) (by rw [List.map_append, told]; rfl) (by simp [lay, strValues]) (fpTurn (I2.tok _) hP2 fun c o ne e => (Heap.get?_update_other _ _ (Ne.symm ne)).trans e) (same.trans same2) hP2
      (Heap.get?_update_self _ there rfl) fun s3 H3 u I3 same3 => done s3 H3 u I3 (same2.trans same3)
theorem rp_list_at {a : Addr} {x : V} {l : List V} {ts : List Str} {A : Around} {g : List Code} {b : Nat} {pins : List (Addr × Obj)} {s : Shared} {H1 : Hp} {R : Result → Shared → Prop}
    (hl : SqL X.K H a (x :: l)) (n : Near X (k + 1) A) (hg : A.guards = some g) (free : ∀ c ∈ a :: as, Clear g c) (out : a ∉ as) (T : RpAll X σ H as k (x :: l) ts) (hsz : b + (listText ts).length ≤ sizeLine) (I : Inv X pins σ H1 s) (same : Same H H1)
    (done : ∀ s' H2 u, Inv X pins σ H2 s' → Same H1 H2 → R (.ok (.ret (.str (listText ts) u))) s') :
    wpAny (model X.prog X.w) A.in1 (Builtin.listReprAt b ⟨[.ref a], []⟩) (fun fin s' => match fin with | .done f => R (.ok f) s' | .again c' => c'.quiet = true ∧ codeAny (model X.prog X.w) A c' R s') (fun e s' => R (.error e) s') s := by
  obtain ⟨its, rv, ⟨o, m, get, _, _, dat⟩, _⟩ := I.list (same.seq hl)
  cases rv with
  | cons ru rus =>
    refine wpAny_list_repr_head (A := A.in1) hg (fun v rest kw mem => listSameRef_of_ne (free a (.head _) _ _ _ _ mem)) get dat (wpAny_bind (wpAny_newObj_type (wpAny_pure ⟨F.quiet_list_repr_loop _, ?_⟩)))
    have I' : Inv X pins σ H1 { s with heap := _, toks := s.toks } := I.kept (h' := s.heap.push { cls := .type "list", dict := none, data := .seq #[] 0, slots := #[] }) (t' := s.toks) fun c u e => Heap.get?_push_of_some _ e
    exact rp_list_loop (P := s.heap.objs.size) hl n hg (fun c hc => free c (.tail _ hc)) out T (Fit.of hsz) ts [] [] _ H1 #[] _ rfl rfl rfl I' same (I.fpOk (Nat.le_refl _) (I.hok.fresh (Nat.le_refl _))) (Heap.get?_push_size _ rfl) done
theorem sq_type {pins : List (Addr × Obj)} {s : Shared} {H1 : Hp} {a : Addr} {xs : List V} (I : Inv X pins σ H1 s) (h : SqL X.K H1 a xs) : s.TypeIs (.ref a) "list" := by
  obtain ⟨its, rv, ⟨oa, na, ha, hc, _⟩, _⟩ := I.list h
  exact ⟨oa, ha, hc⟩
theorem Rp.list {a : Addr} {x : V} {l : List V} {ts : List Str} (hl : SqL X.K H a (x :: l)) (hna : a ∉ as) (hT : RpAll X σ H as k (x :: l) ts) : Rp X σ H (a :: as) (k + 2) (.ref a) (listText ts) := by
  intro u ru b hb A g n hg hc pins s H1 I s1 Q E q
  obtain rfl : u = Value.ref a := ru
  have hty := sq_type I (s1.seq hl)
  refine wpAny_pyReprUnder_ref (by omega) (wpAny_pyReprObjUnder_twin (twin := "list.__repr__.under") hty F.slot_list_repr.toG rfl n.line ?_)
  refine call_twin_plain F.plain_list_repr_under F.entry_list_repr_under F.check_list_repr_under hty F.slot_list_repr.toG (F.args_list_repr_1 _) ?_
  exact rp_list_at (R := callEnd _ E) hl (n.mono (by omega)) hg hc hna hT hb I s1 fun s' H2 u I2 s2 => ⟨⟨_, _, rfl⟩, _, _, rfl, q s' H2 I2 s2⟩
theorem Rp.list0 {a : Addr} (hl : SqL X.K H a []) : Rp X σ H as k (.ref a) "[]" := by
  intro u ru b hb A g n hg hc pins s H1 I s1 Q E q
  obtain rfl : u = Value.ref a := ru
  obtain ⟨its, rv, ⟨oa, na, ha, hc, _, hda⟩, _⟩ := I.list (s1.seq hl)
  cases rv
  exact wpAny_pyReprUnder_ref (by omega) (wpAny_pyReprObjUnder_list_empty ⟨oa, ha, hc⟩ n.line ha hda ⟨_, _, rfl, q _ H1 (I.tok _) (Same.refl H1)⟩)

/-! tuples -/
theorem RpAll.head {x : V} {xs : List V} {ts : List Str} (h : RpAll X σ H as k (x :: xs) ts) : ∃ t r, ts = t :: r ∧ Rp X σ H as k x t ∧ RpAll X σ H as k xs r := by
  cases ts with
  | nil => exact nomatch h.1
  | cons t r =>
    obtain ⟨t', e, q⟩ := h.2 0 x rfl
    cases (Option.some.inj e)
    exact ⟨t, r, rfl, q, by have := h.1; simpa using this, fun i y hy => by simpa using h.2 (i + 1) y (by simpa using hy)⟩
/-- the texts of a tuple's items, one behind the other -/
theorem rp_fold {A : Around} {g : List Code} {pins : List (Addr × Obj)} {E : Value → Shared → Prop} (n : Near X k A) (hg : A.guards = some g) (free : ∀ c ∈ as, Clear g c) {xs : List V} {us : List Value} (rv : Vals xs us) :
    ∀ (ts : List Str) (got : Array Str) (m : Nat) (s : Shared) (H1 : Hp) (Q : (Array Str × Nat) → Shared → Prop), RpAll X σ H as k xs ts → m + piled ts ≤ sizeLine → Inv X pins σ H1 s → Same H H1 →
    (∀ s' H2, Inv X pins σ H2 s' → Same H1 H2 → Q (got ++ ts.toArray, m + piled ts) s') → wpAny (model X.prog X.w) A (forIn us ((got, m) : (Array Str × Nat)) tupBody) Q E s := by
  induction rv with
  | nil =>
    intro ts got m s H1 Q T _ I _ done
    cases ts with
    | cons => exact nomatch T.1
    | nil =>
      have fin := done s H1 I (Same.refl H1)
      rw [List.forIn_nil]
      simp only [Array.append_empty, piled_nil, Nat.add_zero, List.toArray] at fin
      exact wpAny_pure fin
  | cons ru rus ih =>
    intro ts got m s H1 Q T fit I same done
    obtain ⟨t, rest, rfl, first, more⟩ := T.head
    have grow : m + piled (t :: rest) = m + (t.length + 2) + piled rest := by rw [piled_cons]; omega
    rw [grow] at fit done
    rw [List.forIn_cons]
    refine wpAny_bind (wpAny_bind (first _ ru (m + 1) (by omega) A g n hg free pins s H1 I same _ _ fun s2 H2 I2 same2 => wpAny_pure (ih rest _ _ s2 H2 Q more (by omega) I2 (same.trans same2) fun s3 H3 I3 same3 => ?_)))
    have fin := done s3 H3 I3 (same2.trans same3)
    have e : got.push t ++ rest.toArray = got ++ (t :: rest).toArray := by simp
    rw [e]
    exact fin
/-- no guard around speaks of a thing that is clear of them -/
theorem clear_any {g : List Code} {f : Code × Pos → Bool} (h : ∀ c ∈ g, f (c, default) = false) : (g.any fun c => f (c, default)) = false := List.any_eq_false.mpr fun c m => by rw [h c m]; exact Bool.false_ne_true
theorem rp_tuple_at {a : Addr} {xs : List V} {ts : List Str} {A : Around} {g : List Code} {b : Nat} {pins : List (Addr × Obj)} {s : Shared} {H1 : Hp} {R : Result → Shared → Prop} {id : String} {rest : List Value}
    (lit : Lit A (.builtin id ⟨.ref a :: rest, []⟩)) (hl : SqT X.K H a xs) (n : Near X (k + 1) A) (hg : A.guards = some g) (free : ∀ c ∈ a :: as, Clear g c) (out : a ∉ as) (T : RpAll X σ H as k xs ts)
    (hsz : b + (tupleText ts).length ≤ sizeLine) (I : Inv X pins σ H1 s) (same : Same H H1) (done : ∀ s' H2 u, Inv X pins σ H2 s' → Same H1 H2 → R (.ok (.ret (.str (tupleText ts) u))) s') :
    wpOwn (model X.prog X.w) A (.builtin id ⟨.ref a :: rest, []⟩) (Builtin.tupleReprAt b ⟨[.ref a], []⟩) (fun fin s' => match fin with | .done f => R (.ok f) s' | .again c' => c'.quiet = true ∧ codeAny (model X.prog X.w) A c' R s') (fun e s' => R (.error e) s') s := by
  obtain ⟨its, rv, ⟨o, get, cls, m, dat⟩, _⟩ := I.tuple (same_tup same hl)
  have much := piled_le_tupleText ts
  have eq : its.length = ts.length := by rw [T.1]; exact rv.length.symm
  rw [tuple_repr_tree, tupleReprUnderWay_eq]
  refine wpOwn_bind (wpOwn_stackTailAny hg (tupGuardF_off (.ref a)) (tupGuardF_pos (.ref a)) ?_)
  rw [clear_any (tupGuardF_of_clear (free a (.head _)))]
  refine wpOwn_of_wpAny (show wpAny _ _ (tupleReprRest b (.ref a)) _ _ s from ?_)
  refine wpAny_bind (wpAny_bind (wpAny_seqItems get dat (wpAny_pure ?_)))
  rw [← Array.forIn_toList]
  refine wpAny_bind (rp_fold (lit.near n) (guards_under_guard lit.guard hg) (fun c m => (free c (.tail _ m)).cons fun e => out (e ▸ m)) rv ts #[] b s H1 _ T (by omega) I same fun s2 H2 I2 same2 => ?_)
  have fin := done _ H2 s2.toks (I2.tok (s2.toks + 1)) same2
  have txt : (("(" : Str) ++ Str.join ", " ((#[] : Array Str) ++ ts.toArray).toList ++ (if its.toArray.size == 1 then ",)" else ")" : String)) = tupleText ts := by simp [tupleText, eq]
  refine wpAny_bind (wpAny_mkStr (wpAny_pure ?_) ?_)
  · rw [txt]
    exact fin
  · rw [txt]
    omega
theorem Rp.tuple {a : Addr} {xs : List V} {ts : List Str} (hl : SqT X.K H a xs) (hna : a ∉ as) (hT : RpAll X σ H as k xs ts) : Rp X σ H (a :: as) (k + 2) (.ref a) (tupleText ts) := by
  intro u ru b hb A g n hg hc pins s H1 I s1 Q E q
  obtain rfl : u = Value.ref a := ru
  obtain ⟨its, rv, ⟨o, ha, hct, _, hd⟩, _⟩ := I.tuple (same_tup s1 hl)
  refine wpAny_pyReprUnder_ref (by omega) (wpAny_pyReprObjUnder_twin (twin := "tuple.__repr__.under") ⟨o, ha, hct⟩ F.slot_tuple_repr rfl n.line ?_)
  exact call_twin_own (F.quiet_tuple_repr_under _) F.entry_tuple_repr_under F.check_tuple_repr_under ⟨o, ha, hct⟩ F.slot_tuple_repr (F.args_tuple_repr_1 _)
    (rp_tuple_at (R := callEnd _ E) (lit_tupleU A _) hl (n.mono (by omega)) hg hc hna hT hb I s1 fun s' H2 u I2 s2 => ⟨⟨_, _, rfl⟩, _, _, rfl, q s' H2 I2 s2⟩)

/-! dicts whose keys are ints and texts -/
def kTxt : Key → Str
  | .inl i => (toString i : String)
  | .inr z => reprText z
def RpKV (X : Cx) (σ : L2.St) (H : Hp) (as : List Addr) (k : Nat) (kvs : List (Key × V)) (ps : List Str) : Prop :=
  ps.length = kvs.length ∧ ∀ (i : Nat) (kv : Key × V), kvs[i]? = some kv → ∃ v, ps[i]? = some (kTxt kv.1 ++ ": " ++ v) ∧ Rp X σ H as k (kV kv.1) (kTxt kv.1) ∧ Rp X σ H as k kv.2 v
theorem kv_entry {κs : List (Key × V)} {vs : List (Key × Value)} (r : KV κs vs) : ∀ {es : List DictEntry} {P : Program} {w : World}, Pairs (mixKind P w) es vs →
    es.length = κs.length ∧ ∀ (i : Nat) (kv : Key × V), κs[i]? = some kv → ∃ e, es[i]? = some e ∧ RelV (kV kv.1) e.key ∧ RelV kv.2 e.val := by
  unfold KV at r
  induction r with
  | nil =>
    intro es P w p
    cases p
    exact ⟨rfl, fun i kv h => by simp at h⟩
  | cons h t ih =>
    intro es P w p
    cases p with
    | cons h1 h2 h3 =>
      obtain ⟨l, q⟩ := ih h3
      refine ⟨by simp [l], fun i kv hi => ?_⟩
      cases i with
      | zero =>
        simp at hi
        subst hi
        refine ⟨_, rfl, ?_, ?_⟩
        · rw [h.1]
          exact relV_key h1
        · rw [h2]
          exact h.2
      | succ i => exact q i kv (by simpa using hi)
/-- one entry more -/
theorem range_step {m i : Nat} {x : Nat} {rest : List Nat} (h : x :: rest = List.range' i (m - i)) : x = i ∧ i < m ∧ rest = List.range' (i + 1) (m - (i + 1)) := by
  cases d : m - i with
  | zero =>
    rw [d] at h
    cases h
  | succ j =>
    rw [d, List.range'_succ] at h
    injection h with h1 h2
    have : m - (i + 1) = j := by omega
    exact ⟨h1, by omega, by rw [h2, this]⟩
theorem range_end {m i : Nat} (hi : i ≤ m) (h : [] = List.range' i (m - i)) : i = m := by
  cases d : m - i with
  | zero => omega
  | succ j =>
    rw [d, List.range'_succ] at h
    cases h
theorem rp_dict_at {a : Addr} {kvs : List (Key × V)} {ps : List Str} {A : Around} {g : List Code} {b : Nat} {pins : List (Addr × Obj)} {s : Shared} {H0 H1 : Hp} {R : Result → Shared → Prop} {id : String} {rest : List Value}
    (lit : Lit A (.builtin id ⟨.ref a :: rest, []⟩)) (h0 : H0 a = none) (hl : H1 a = some (.dK kvs)) (n : Near X (k + 1) A) (hg : A.guards = some g) (free : ∀ c ∈ a :: as, Clear g c) (out : a ∉ as) (T : RpKV X σ H0 as k kvs ps)
    (hsz : b + (dictText ps).length ≤ sizeLine) (I0 : Inv X pins σ H1 s) (hs : Same H0 H1) (done : ∀ s' H2 u, Inv X pins σ H2 s' → Same H1 H2 → R (.ok (.ret (.str (dictText ps) u))) s') :
    wpOwn (model X.prog X.w) A (.builtin id ⟨.ref a :: rest, []⟩) (Builtin.dictReprAt b ⟨[.ref a], []⟩) (fun fin s' => match fin with | .done f => R (.ok f) s' | .again c' => c'.quiet = true ∧ codeAny (model X.prog X.w) A c' R s') (fun e s' => R (.error e) s') s := by
  -- the dict stays as it is while it is shown
  have hn0 := I0.nofrz hl trivial
  obtain ⟨o, I⟩ := I0.lock hl trivial
  have hfr : Same H0 (upd H1 a (.frz o (.dK kvs))) := fun c u e => by
    rw [upd_ne (ne_of_none e h0)]
    exact hs c u e
  obtain ⟨hsys, get, exact_, es, ep, vs, dat, size, rv, o', es', e1, _, e3, _, e4, _⟩ := I.frzK upd_same
  obtain rfl := Option.some.inj (get.symm.trans e1)
  obtain ⟨rfl, _⟩ := Data.dict.inj (dat.symm.trans e3)
  obtain ⟨_, entry⟩ := kv_entry rv e4
  have stays : ∀ (s' : Shared) (H2 : Hp), Inv X pins σ H2 s' → Same (upd H1 a (.frz o (.dK kvs))) H2 → s'.heap.get? a = some o := fun s' H2 I2 s2 => (I2.frzK (s2 _ _ upd_same)).2.1
  have much := piled_le_dictText ps
  have many := T.1
  unfold Builtin.dictReprAt
  refine wpOwn_bind (wpOwn_of_wpAny (wpAny_bind (wpAny_notOrdered_dict (show s.TypeIs (.ref a) "dict" from ⟨o, get, exact_.1⟩) (wpAny_pure (a := Value.ref a) ?_))))
  rw [dictReprRunning_eq]
  refine wpOwn_bind (wpOwn_stackTailAny hg (dictGuardF_off (.ref a)) (dictGuardF_pos (.ref a)) ?_)
  rw [clear_any (dictGuardF_of_clear (free a (.head _)))]
  have n' := lit.near n
  have hg' := guards_under_guard lit.guard hg
  have free' : ∀ c ∈ as, Clear (.builtin id ⟨.ref a :: rest, []⟩ :: g) c := fun c m => (free c (.tail _ m)).cons fun e => out (e ▸ m)
  refine wpOwn_of_wpAny (show wpAny _ _ (Builtin.Dict.addrOf (.ref a) >>= fun _ => _) _ _ s from wpAny_bind (wpAny_pure ?_))
  have whole : Builtin.Dict.showsAll a = pure () := by
    unfold Builtin.Dict.showsAll
    rw [hsys]
    rfl
  rw [whole]
  refine wpAny_bind (wpAny_pure (wpAny_bind (wpAny_dictEpoch get dat (wpAny_bind (wpAny_dictEntries get dat (wpAny_bind ?_))))))
  rw [Std.Legacy.Range.forIn_eq_forIn_range', show (Std.Legacy.Range.mk 0 es.size 1 _).size = es.size - 0 from by simp [Std.Legacy.Range.size]]
  refine wpAny_forIn_list _ (fun todo r s' => ∃ i H2, todo = List.range' i (es.size - i) ∧ i ≤ es.size ∧ r = ((ps.take i).toArray, b + piled (ps.take i)) ∧ Inv X pins σ H2 s' ∧ Same (upd H1 a (.frz o (.dK kvs))) H2) _ ?_ ?_ _ _ ⟨0, _, rfl, Nat.zero_le _, rfl, I, Same.refl _⟩
  · rintro x todo _ s2 ⟨i, H2, hr0, hi, rfl, I2, same2⟩
    obtain ⟨rfl, lt, hrest⟩ := range_step hr0
    have ltk : x < kvs.length := by omega
    have there : kvs[x]? = some kvs[x] := List.getElem?_eq_getElem ltk
    obtain ⟨v, txt, showK, showV⟩ := T.2 x _ there
    obtain ⟨en, he, rek, rev⟩ := entry x _ there
    have he' : es[x] = en := by
      rw [Array.getElem?_toList, Array.getElem?_eq_getElem lt] at he
      exact Option.some.inj he
    have len : (kTxt kvs[x].1 ++ ": " ++ v).length = (kTxt kvs[x].1).length + 2 + v.length := (strLen_append _ _).trans (congrArg (· + v.length) (strLen_append _ _))
    have pile := piled_take_succ txt
    have upto := piled_take_le ps (x + 1)
    rw [len] at pile
    refine wpAny_bind (wpAny_dictEntries (stays s2 H2 I2 same2) dat ?_)
    rw [Array.getElem?_eq_getElem lt, he']
    refine wpAny_bind (wpAny_holding (wpAny_bind (showK en.key rek (b + piled (ps.take x) + 1) (by omega) _ _ n' hg' free' pins s2 H2 I2 (hfr.trans same2) _ _ fun s3 H3 I3 same3 =>
      wpAny_bind (showV en.val rev (b + piled (ps.take x) + ((kTxt kvs[x].1).length + 3)) (by omega) _ _ n' hg' free' pins s3 H3 I3 ((hfr.trans same2).trans same3) _ _ fun s4 H4 I4 same4 => wpAny_pure ?_))))
    have same24 := (same2.trans same3).trans same4
    refine wpAny_bind (wpAny_dictEpoch (stays s4 H4 I4 same24) dat ?_)
    rw [if_neg (by simp)]
    have w1 : (ps.take x).toArray.push (kTxt kvs[x].1 ++ ": " ++ v) = (ps.take (x + 1)).toArray := by rw [take_one txt]; simp
    have w2 : b + piled (ps.take x) + ((kTxt kvs[x].1).length + v.length + 4) = b + piled (ps.take (x + 1)) := by omega
    exact wpAny_pure ⟨x + 1, H4, hrest, lt, by rw [w1, w2], I4, same24⟩
  · rintro _ s2 ⟨i, H2, hr0, hi, rfl, I2, same2⟩
    have last : i = ps.length := by rw [range_end hi hr0]; omega
    rw [last, List.take_length]
    have fin := done _ _ s2.toks ((I2.unlock (same2 _ _ upd_same) hn0).tok (s2.toks + 1)) fun c u e => by
      by_cases z : c = a
      · subst z
        rw [hl] at e
        obtain rfl := Option.some.inj e
        exact upd_same
      · rw [upd_ne z]
        exact same2 c u (by rw [upd_ne z]; exact e)
    have tx : (("{" : Str) ++ Str.join ", " ps.toArray.toList ++ "}") = dictText ps := by simp [dictText]
    refine wpAny_bind (wpAny_mkStr (wpAny_pure ?_) ?_)
    · rw [tx]
      exact fin
    · rw [tx]
      omega
theorem Rp.dict {a : Addr} {kvs : List (Key × V)} {ps : List Str} {H0 : Hp} (h0 : H0 a = none) (hl : H a = some (.dK kvs)) (hs : Same H0 H) (hna : a ∉ as) (hT : RpKV X σ H0 as k kvs ps) : Rp X σ H (a :: as) (k + 2) (.ref a) (dictText ps) := by
  intro u ru b hb A g n hg hc pins s H1 I s1 Q E q
  obtain rfl : u = Value.ref a := ru
  obtain ⟨_, _, vs, rv, o, es, _, ha, hx, _⟩ := dk_of I.hok (s1 _ _ hl)
  refine wpAny_pyReprUnder_ref (by omega) (wpAny_pyReprObjUnder_twin (twin := "dict.__repr__.under") ⟨o, ha, hx.1⟩ F.slot_dict_repr rfl n.line ?_)
  exact call_twin_own (F.quiet_dict_repr_under _) F.entry_dict_repr_under F.check_dict_repr_under ⟨o, ha, hx.1⟩ F.slot_dict_repr (F.args_dict_repr_1 _)
    (rp_dict_at (R := callEnd _ E) (lit_dictU A _) h0 (s1 _ _ hl) (n.mono (by omega)) hg hc hna hT hb I (hs.trans s1) fun s' H2 u I2 s2 => ⟨⟨_, _, rfl⟩, _, _, rfl, q s' H2 I2 s2⟩)
end
/-! ### values of any kind and what is shown of them -/
section
def keyFits : Key → Prop
  | .inl i => i.natAbs.log2 < 1920
  | .inr z => (reprText z).length ≤ sizeLine
def kvTxts (kvs : List (Key × V)) (vts : List Str) : List Str := List.zipWith (fun kv v => kTxt kv.1 ++ ": " ++ v) kvs vts
variable (K : PySem.W.Frag) (own : Hp → Addr → Str → Prop) (kO : Nat)
inductive Shw : Hp → List Addr → Nat → V → Str → Prop
  | non {H as k} : Shw H as k .non "None"
  | bl {H as k} (b : Bool) : Shw H as k (.bl b) (if b then "True" else "False")
  | int {H as k} {i : Int} : i.natAbs.log2 < 1920 → Shw H as k (.int i) (toString i)
  | str {H as k} {z : Str} : (reprText z).length ≤ sizeLine → Shw H as k (.str z) (reprText z)
  | own {H as k a t} : own H a t → kO ≤ k → Shw H as k (.ref a) t
  | list0 {H as k a} : SqL K H a [] → Shw H as k (.ref a) "[]"
  | list {H as as' k k' a x l ts} : SqL K H a (x :: l) → a ∉ as → ts.length = l.length + 1 → (∀ (i : Nat) (y : V) (t : Str), (x :: l)[i]? = some y → ts[i]? = some t → Shw H as k y t) → (∀ b ∈ a :: as, b ∈ as') → k + 2 ≤ k' → Shw H as' k' (.ref a) (listText ts)
  | tuple {H as as' k k' a xs ts} : SqT K H a xs → a ∉ as → ts.length = xs.length → (∀ (i : Nat) (y : V) (t : Str), xs[i]? = some y → ts[i]? = some t → Shw H as k y t) → (∀ b ∈ a :: as, b ∈ as') → k + 2 ≤ k' → Shw H as' k' (.ref a) (tupleText ts)
  | dict {H H0 as as' k k' a kvs vts} : H0 a = none → H a = some (.dK kvs) → Same H0 H → a ∉ as → vts.length = kvs.length → (∀ (i : Nat) (kv : Key × V), kvs[i]? = some kv → keyFits kv.1) →
      (∀ (i : Nat) (kv : Key × V) (v : Str), kvs[i]? = some kv → vts[i]? = some v → Shw H0 as k kv.2 v) → (∀ b ∈ a :: as, b ∈ as') → k + 2 ≤ k' → Shw H as' k' (.ref a) (dictText (kvTxts kvs vts))
end
section
variable {X : Cx} {own : Hp → Addr → Str → Prop} {kO j : Nat} {C : Addr} {sp : Sp} {H H' : Hp} {as : List Addr} {k : Nat} {x : V} {t : Str} {K : PySem.W.Frag}
theorem get_two {α β : Type} {xs : List α} {ts : List β} (h : ts.length = xs.length) {i : Nat} {x : α} (e : xs[i]? = some x) : ∃ t, ts[i]? = some t := by
  have hi : i < xs.length := (List.getElem?_eq_some_iff.mp e).1
  exact ⟨ts[i], List.getElem?_eq_getElem (by omega)⟩
theorem kvTxts_get {kvs : List (Key × V)} {vts : List Str} {i : Nat} {kv : Key × V} {v : Str} (h1 : kvs[i]? = some kv) (h2 : vts[i]? = some v) : (kvTxts kvs vts)[i]? = some (kTxt kv.1 ++ ": " ++ v) := by
  unfold kvTxts
  rw [List.getElem?_zipWith, h1, h2]
theorem Shw.same (hs : ∀ {H H' a t}, own H a t → Same H H' → own H' a t) (h : Shw K own kO H as k x t) (s : Same H H') : Shw K own kO H' as k x t := by
  induction h generalizing H' with
  | non => exact .non
  | bl b => exact .bl b
  | int h => exact .int h
  | str h => exact .str h
  | own h hk => exact .own (hs h s) hk
  | list0 h => exact .list0 (s.seq h)
  | list h n l _ m hk ih => exact .list (s.seq h) n l (fun i y t h1 h2 => ih i y t h1 h2 s) m hk
  | tuple h n l _ m hk ih => exact .tuple (same_tup s h) n l (fun i y t h1 h2 => ih i y t h1 h2 s) m hk
  | dict h0 h s0 n l kf hv m hk _ => exact .dict h0 (s _ _ h) (s0.trans s) n l kf hv m hk
theorem Shw.more {as' : List Addr} {k' : Nat} (h : Shw K own kO H as k x t) (m' : ∀ a ∈ as, a ∈ as') (hk' : k ≤ k') : Shw K own kO H as' k' x t := by
  cases h with
  | non => exact .non
  | bl b => exact .bl b
  | int h => exact .int h
  | str h => exact .str h
  | own h hk => exact .own h (Nat.le_trans hk hk')
  | list0 h => exact .list0 h
  | list h n l ih m hk => exact .list h n l ih (fun b hb => m' b (m b hb)) (Nat.le_trans hk hk')
  | tuple h n l ih m hk => exact .tuple h n l ih (fun b hb => m' b (m b hb)) (Nat.le_trans hk hk')
  | dict h0 h s0 n l kf hv m hk => exact .dict h0 h s0 n l kf hv (fun b hb => m' b (m b hb)) (Nat.le_trans hk hk')
theorem Rp.key {σ : L2.St} {κ : Key} (h : keyFits κ) : Rp X σ H as k (kV κ) (kTxt κ) := by
  cases κ with
  | inl i => exact Rp.int h
  | inr z => exact Rp.str h
theorem Shw.rp (o : OwnX X own kO) (h : Shw X.K own kO H as k x t) (σ : L2.St) : Rp X σ H as k x t := by
  induction h with
  | non => exact Rp.non
  | bl b => exact Rp.bl
  | int h => exact Rp.int h
  | str h => exact Rp.str h
  | own h hk => exact (Rp.own o h).mono hk
  | list0 h => exact Rp.list0 h
  | list h n l _ m hk ih => exact ((Rp.list h n ⟨l, fun i y hy => (get_two l hy).elim fun t ht => ⟨t, ht, ih i y t hy ht⟩⟩).more m).mono hk
  | tuple h n l _ m hk ih => exact ((Rp.tuple h n ⟨l, fun i y hy => (get_two l hy).elim fun t ht => ⟨t, ht, ih i y t hy ht⟩⟩).more m).mono hk
  | dict h0 h s0 n l kf _ m hk ih =>
    refine ((Rp.dict h0 h s0 n ⟨?_, fun i kv hkv => ?_⟩).more m).mono hk
    · unfold kvTxts
      rw [List.length_zipWith]
      omega
    · obtain ⟨v, hv⟩ := get_two l hkv
      exact ⟨v, kvTxts_get hkv hv, Rp.key (kf i kv hkv), ih i kv v hkv hv⟩
/-- repr(x), x a value of any kind, where nothing guarded runs around -/
def rShw (K : PySem.W.Frag) (own : Hp → Addr → Str → Prop) (kO j : Nat) : List V → Hp → VK → Prop := fun xs H Q => ∃ x as k t, xs = [x] ∧ Shw K own kO H as k x t ∧ t.length ≤ sizeLine ∧ k + 3 ≤ j ∧ ∀ H2, Same H H2 → Q (.str t) H2
theorem repr_top (o : OwnX X own kO) (bare : Bare X.A) (h : Shw X.K own kO H as k x t) (hz : t.length ≤ sizeLine) {pins : List (Addr × Obj)} {σ : L2.St} {s : Shared} {Q : VK} {u : Value} (hr : L2H.RoomH (k + 3) X.A) (I : Inv X pins σ H s) (ru : RelV x u)
    (hq : ∀ H2, Same H H2 → Q (.str t) H2) : wpAny (model X.prog X.w) X.A (call (.builtin "repr") [u]) (EP X pins σ Q) X.xe s := by
  have fin : ∀ (s' : Shared) (H2 : Hp) (z : Tok), Inv X pins σ H2 s' → Same H H2 → EP X pins σ Q (.str t z) s' := fun s' H2 z I2 s2 => ⟨.str t, H2, I2, ⟨z, rfl⟩, hq H2 s2⟩
  have hu : X.A.units + 1 < cLine := by have := hr.un; omega
  have nr : Near X (k + 2) X.A.in1 := (Near.self hr).in1
  cases h with
  | non =>
    obtain rfl : u = Value.none := ru
    exact PySem.P.repr_of_none (fin _ _ _ (I.tok _) (Same.refl H))
  | bl b =>
    obtain rfl : u = Value.bool b := ru
    exact PySem.P.repr_of_bool (fin _ _ _ (I.tok _) (Same.refl H))
  | int hi =>
    obtain ⟨tk, rfl⟩ := ru
    exact PySem.P.repr_of_int hi (fin _ _ _ (I.tok _) (Same.refl H))
  | str _ =>
    obtain ⟨tk, rfl⟩ := ru
    exact PySem.P.repr_of_str (fin _ _ _ (I.tok _) (Same.refl H)) hz
  | own ho hk =>
    obtain ⟨C, f, dx, fs, e, at_, fn, run⟩ := o.run _ _ _ ho
    cases ru
    obtain ⟨mA, J, _⟩ := ins_get I.hok e
    obtain ⟨od, J, _⟩ := J.look
    obtain ⟨m, hF⟩ := I.fr
    exact PySem.W.repr_K hu hF I.ok.mod.kin J at_ fn (run X.A.in1 pins σ s H (nr.mono (by omega)) I (Same.refl H) _ _ fun s' H2 tk I2 s2 => fin s' H2 tk I2 s2)
  | list0 hl =>
    cases ru
    obtain ⟨its, rv, ⟨oa, na, ha, hc, _, hda⟩, _⟩ := I.list hl
    cases rv
    exact call_repr_slot hu ⟨oa, ha, hc⟩ F.slot_list_repr.toG (call_list_repr_empty ⟨oa, ha, hc⟩ ha hda ⟨_, _, rfl, fin _ H _ (I.tok _) (Same.refl H)⟩)
  | list hl n l ih m hk =>
    cases ru
    have hty := sq_type I hl
    refine call_repr_slot hu hty F.slot_list_repr.toG (wpAny_call (codeAny_call_builtin F.slot_list_repr.plain F.entry_list_repr (F.slot_list_repr.check _ _ _ _ _ _ _ _ hty (F.args_list_repr_1 _) ?_)))
    exact rp_list_at (σ := σ) (H := H) (b := 0) (R := callEnd _ _) hl (nr.mono (by omega)) bare (fun c _ => Clear.nil c) n ⟨l, fun i y hy => (get_two l hy).elim fun t ht => ⟨t, ht, (ih i y t hy ht).rp o σ⟩⟩ (by omega) I (Same.refl H)
      fun s' H2 z I2 s2 => ⟨_, _, rfl, fin s' H2 z I2 s2⟩
  | tuple hl n l ih m hk =>
    cases ru
    obtain ⟨its, rv, ⟨o', ha, hct, n', hd⟩, _⟩ := I.tuple hl
    refine call_repr_slot hu ⟨o', ha, hct⟩ F.slot_tuple_repr (wpAny_call (codeAny_call_builtin_own (Code.quiet_builtin _ (by decide +kernel)) F.entry_tuple_repr (F.slot_tuple_repr.check _ _ _ _ _ _ _ _ ⟨o', ha, hct⟩ (F.args_tuple_repr_1 _) ?_)))
    exact rp_tuple_at (σ := σ) (H := H) (b := 0) (R := callEnd _ _) (lit_tuple _ _) hl (nr.mono (by omega)) bare (fun c _ => Clear.nil c) n ⟨l, fun i y hy => (get_two l hy).elim fun t ht => ⟨t, ht, (ih i y t hy ht).rp o σ⟩⟩ (by omega) I (Same.refl H)
      fun s' H2 z I2 s2 => ⟨_, _, rfl, fin s' H2 z I2 s2⟩
  | dict h0 hl s0 n l kf ih m hk =>
    rename_i as1 k1 a1 kvs vts
    cases ru
    obtain ⟨_, _, vs, rv, o', es, n', ha, hx, _⟩ := dk_of I.hok hl
    refine call_repr_slot hu ⟨o', ha, hx.1⟩ F.slot_dict_repr (wpAny_call (codeAny_call_builtin_own (Code.quiet_builtin _ (by decide +kernel)) F.entry_dict_repr (F.slot_dict_repr.check _ _ _ _ _ _ _ _ ⟨o', ha, hx.1⟩ (F.args_dict_repr_1 _) ?_)))
    refine rp_dict_at (σ := σ) (b := 0) (R := callEnd _ _) (lit_dict _ _) h0 hl (nr.mono (j := k1 + 1) (by omega)) bare (fun c _ => Clear.nil c) n ⟨?_, fun i kv hkv => ?_⟩ (by omega) I s0
      fun s' H2 z I2 s2 => ⟨_, _, rfl, fin s' H2 z I2 s2⟩
    · unfold kvTxts
      rw [List.length_zipWith]
      omega
    · obtain ⟨v, hv⟩ := get_two l hkv
      exact ⟨v, kvTxts_get hkv hv, Rp.key (kf i kv hkv), (ih i kv v hkv hv).rp o σ⟩
/-- the def that shows own instances, where nothing is handled -/
structure OwnF (P : Program) (w : World) (K : PySem.W.Frag) (mg : Str → Option Value) (base : Heap) (own : Hp → Addr → Str → Prop) (kO : Nat) : Prop where
  ex : ∃ (C : Addr) (sp : Sp), DunF P w K mg base kO C "__repr__" sp ∧ ∀ H a t, own H a t → (∃ dx fs, H a = some (.ins C dx fs)) ∧ ∀ H1, Same H H1 → sp [.ref a] H1 (fun v H2 => v = .str t ∧ Same H1 H2) E0
theorem OwnF.at (o : OwnF X.prog X.w X.K X.mg X.base own kO) (cold : X.A.handled = none) : OwnX X own kO := by
  obtain ⟨C, sp, ⟨f, fd, ps, at_, fn, F, hb⟩, ho⟩ := o.ex
  refine ⟨fun H a t h => ?_⟩
  obtain ⟨⟨dx, fs, e⟩, q⟩ := ho H a t h
  refine ⟨C, f, dx, fs, e, at_, fn, fun A pins σ s H1 n I s1 Q E fin => ?_⟩
  have h1 := q H1 s1
  have hl := F.len _ _ _ _ h1
  have bind := hb s [.ref a] I.kIn (by simpa using hl)
  rw [List.append_nil] at bind
  have env : Env0 X.prog X.w X.K X.mg X.base A X.stack s H1 := { I.env0 with frames := n.fr.trans I.env0.frames }
  refine wpAny_call (codeAny_mono (F.run A X.stack s H1 ⟨[.ref a], []⟩ [.ref a] [.ref a] _ E0 ⟨n.hn.trans cold, n.room.dp, n.room.un⟩ env bind (.cons rfl .nil) h1) fun r s' hq => ?_)
  match r, hq with
  | .error e, hq => exact False.elim hq
  | .ok (.ret z), hq =>
    obtain ⟨v, H', I', rv, rfl, s2⟩ := I.after hq
    obtain ⟨tk, rfl⟩ := rv
    exact fin s' H' tk I' s2
  | .ok .next, hq => exact False.elim hq
  | .ok .brk, hq => exact False.elim hq
  | .ok .cont, hq => exact False.elim hq
/-- the same within an except suite -/
structure OwnH (P : Program) (w : World) (K : PySem.W.Frag) (mg : Str → Option Value) (base : Heap) (own : Hp → Addr → Str → Prop) (kO : Nat) : Prop where
  ex : ∃ (C f : Addr) (fd : FuncData) (ps : List Str) (sp : Sp), PySem.W.findIn K (.ref C) "__repr__" = some (some (.ref f)) ∧ PySem.W.isFn K (.ref f) = true ∧ L2H.FnH P w K mg base CX0 kO f fd ps sp ∧ Binds K fd ps [] ∧
    ∀ H a t, own H a t → (∃ dx fs, H a = some (.ins C dx fs)) ∧ ∀ H1, Same H H1 → sp [.ref a] H1 (fun v H2 => v = .str t ∧ Same H1 H2) E0
theorem OwnH.at (o : OwnH X.prog X.w X.K X.mg X.base own kO) (hot : L2H.HotC X) : OwnX X own kO := by
  obtain ⟨C, f, fd, ps, sp, at_, fn, F, hb, ho⟩ := o.ex
  obtain ⟨p, hp1, hp2⟩ := hot
  refine ⟨fun H a t h => ?_⟩
  obtain ⟨⟨dx, fs, e⟩, q⟩ := ho H a t h
  refine ⟨C, f, dx, fs, e, at_, fn, fun A pins σ s H1 n I s1 Q E fin => ?_⟩
  have h1 := q H1 s1
  have hl := F.len _ _ _ _ h1
  have bind := hb s [.ref a] I.kIn (by simpa using hl)
  rw [List.append_nil] at bind
  have env : Env0 X.prog X.w X.K X.mg X.base A X.stack s H1 := { I.env0 with frames := n.fr.trans I.env0.frames }
  obtain ⟨p1, p2, p3, p4, p5⟩ := I.pin p (List.mem_append_left _ hp2)
  have pin : L2H.PinOk X.stack H1 s p := ⟨p1, p2, fun m => (List.mem_cons.mp (I.stkSub p.1 m)).elim p3 p4, p5⟩
  refine wpAny_call (codeAny_mono (F.run A X.stack s H1 ⟨[.ref a], []⟩ [.ref a] [.ref a] _ E0 p n.room ⟨n.hn.trans hp1.1, hp1.2⟩ pin env bind (.cons rfl .nil) h1) fun r s' hq => ?_)
  match r, hq with
  | .error e, hq => exact False.elim hq
  | .ok (.ret z), hq =>
    obtain ⟨v, H', I', rv, rfl, s2⟩ := I.after hq
    obtain ⟨tk, rfl⟩ := rv
    exact fin s' H' tk I' s2
  | .ok .next, hq => exact False.elim hq
  | .ok .brk, hq => exact False.elim hq
  | .ok .cont, hq => exact False.elim hq
theorem call_reprX (o : OwnX X own kO) (bare : Bare X.A) (hr : L2H.RoomH j X.A) (hK : X.K = K := by rfl) : CallR X (.builtin "repr") (rShw K own kO j) := by
  subst hK
  intro pins s σ H xs us Q I r h
  obtain ⟨x, as, k, t, rfl, hs, hz, hk, q⟩ := h
  obtain ⟨u, rfl, ru⟩ := vals1 r
  exact repr_top o bare hs hz (hr.mono hk) I ru q
theorem call_reprS (o : OwnF X.prog X.w X.K X.mg X.base own kO) (bare : Bare X.A) (hr : Room j X.A) (hK : X.K = K := by rfl) : CallR X (.builtin "repr") (rShw K own kO j) := call_reprX (o.at hr.hd) bare (L2H.roomH_of hr) hK
end
/-- a class made with values by name; sp: its __init__ -/
structure MakK (P : Program) (w : World) (K : PySem.W.Frag) (mg : Str → Option Value) (base : Heap) (k : Nat) (x : Str) (C : Addr) (sp : Sp) (ks : List Str) (gV : List V → List V → List V) : Prop where
  ex : ∃ (f : Addr) (fd : FuncData) (ps : List Str) (g : List Value → List Value → List Value), Mk K C f ∧ FnOk P w K mg base CX0 k f fd ps sp ∧ mg x = some (.ref C) ∧ KBn K fd ps 1 ks g gV
theorem pe_mkk {X : Cx} {k j : Nat} {x : Str} {C : Addr} {sp : Sp} {ks : List Str} {gV : List V → List V → List V} {p pos : Pos} {kws : List Keyword} {tk : TA}
    (c : MakK X.prog X.w X.K X.mg X.base k x C sp ks gV) (hr : Room j X.A) (hk : k + 1 ≤ j) (hg : Gl X x) (hkw : PK X kws tk)
    (hall : (backToKw pos (keywordEach kws X.env)).all (·.1.isSome) = true := by rfl) (hks : (backToKw pos (keywordEach kws X.env)).filterMap (·.1) = ks := by rfl) (hdb : (x == ("__debug__" : Str)) = false := by decide)
    (hpl : ((backTo pos (starEach [] X.env)).any (·.1) || (backToKw pos (keywordEach kws X.env)).any (·.1.isNone)) = false := by rfl) :
    PE X (.Call (.Name x p) [] kws pos) (tMakeK C 0 ks.length sp gV E0 tNil tk) := by
  obtain ⟨f, fd, ps, g, M, F, hm, b⟩ := c.ex
  exact pe_makeK0 M F (hr.mono hk) hg hm b pass0 hkw hall hks hdb hpl
end MG

/-! Plain facts about numbers, and short words for readings -/
namespace MG
open PySem PySem.Spec PyProof.Rows L2

/-- within 10 ^ 400 -/
def Sm (i : Int) : Prop := -(10 ^ 400) < i ∧ i < 10 ^ 400
theorem big400 : (10 : Nat) ^ 400 < 2 ^ 1400 := by decide +kernel
theorem Sm.abs {i : Int} (h : Sm i) : i.natAbs < 2 ^ 1400 := by
  have h1 := h.1
  have h2 := h.2
  have h3 := big400
  have e : ((10 : Int) ^ 400) = ((10 ^ 400 : Nat) : Int) := by rw [Int.natCast_pow]; rfl
  rw [e] at h1 h2
  generalize (10 : Nat) ^ 400 = a at *
  generalize (2 : Nat) ^ 1400 = b at *
  omega
theorem sm_mul {i j : Int} (hi : Sm i) (hj : Sm j) : CMulW i j := wide_mul hi.abs hj.abs (by decide) (by decide) (by decide)
theorem sm_div {j : Int} (h : Sm j) (h0 : j ≠ 0) : j ≠ 0 ∧ j.natAbs.log2 < 9000 :=
  ⟨h0, Nat.lt_of_lt_of_le (PySem.Flt.log2_lt_of (by decide) h.abs) (by decide)⟩
theorem sm_lt {i : Int} {k : Nat} (hk : k ≤ 400) (h1 : -(10 ^ k) < i) (h2 : i < 10 ^ k) : Sm i := by
  have e : (10 : Int) ^ k ≤ 10 ^ 400 := by
    have q : (10 : Nat) ^ k ≤ 10 ^ 400 := Nat.pow_le_pow_right (by decide) hk
    have z := Int.ofNat_le.mpr q
    rw [Int.natCast_pow, Int.natCast_pow] at z
    exact z
  constructor <;> generalize (10 : Int) ^ 400 = b at * <;> omega
theorem fmod_ge {x m : Int} (h : 0 < m) : 0 ≤ x.fmod m := Int.fmod_nonneg_of_pos x h
theorem fmod_lt {x m : Int} (h : 0 < m) : x.fmod m < m := Int.fmod_lt_of_pos x h
theorem fdiv_ge {x m : Int} (hx : 0 ≤ x) (h : 0 < m) : 0 ≤ x.fdiv m := by
  rw [Int.fdiv_eq_ediv_of_nonneg x (by omega)]
  exact Int.ediv_nonneg hx (by omega)
theorem fdiv_le {x m : Int} (hx : 0 ≤ x) (h : 0 < m) : x.fdiv m ≤ x := by
  rw [Int.fdiv_eq_ediv_of_nonneg x (by omega)]
  exact Int.ediv_le_self m hx
/-- an item of a written list of ints at a reckoned index -/
theorem at_ints {l : List Int} {i : Int} (h0 : 0 ≤ i) (h : i < l.length) : ∃ z ∈ l, atI (l.map V.int) i = some (V.int z) := by
  obtain ⟨j, rfl⟩ := Int.eq_ofNat_of_zero_le h0
  have hj : j < l.length := by omega
  exact ⟨l[j], List.getElem_mem hj, atI_nat (by rw [List.getElem?_map, List.getElem?_eq_getElem hj]; rfl)⟩
end MG

/-! Fractions: what crossing out gives is the numerator and the denominator -/
namespace MG
open PySem PySem.Spec PyProof.Rows L2

/-- the divisor, of the sign of the lower one -/
def gd (a u : Int) : Int := if 0 < u then (Int.gcd a u : Int) else -(Int.gcd a u : Int)
theorem gd_ne {a u : Int} (h : u ≠ 0) : gd a u ≠ 0 := by
  have := Int.gcd_pos_of_ne_zero_right a h
  unfold gd
  split <;> omega
theorem gd_sm {a u : Int} (h : u ≠ 0) (hu : Sm u) : Sm (gd a u) := by
  have h1 : (Int.gcd a u : Nat) ≤ u.natAbs := Nat.le_of_dvd (by omega) (Int.gcd_dvd_natAbs_right a u)
  obtain ⟨h2, h3⟩ := hu
  unfold gd Sm
  generalize (10 : Int) ^ 400 = t at *
  split <;> omega
theorem lo_num {a u : Int} (h : u ≠ 0) : a.fdiv (gd a u) = (Rat.divInt a u).num := by
  have hg : (Int.gcd a u : Int) ≠ 0 := by have := Int.gcd_pos_of_ne_zero_right a h; omega
  obtain ⟨x, hx⟩ := Int.gcd_dvd_left a u
  have e1 : (a.gcd u : Int) * x / (a.gcd u : Int) = x := Int.mul_ediv_cancel_left x hg
  rw [Rat.num_divInt, Int.gcd_comm u a]
  unfold gd
  generalize (a.gcd u : Int) = g at *
  rcases Int.lt_trichotomy u 0 with hu | hu | hu
  · rw [if_neg (by omega), Int.sign_eq_neg_one_of_neg hu, hx]
    have e : g * x = -g * -x := (Int.neg_mul_neg g x).symm
    rw [e, Int.mul_fdiv_cancel_left (-x) (by omega), ← e, Int.neg_one_mul, ← Int.mul_neg, Int.mul_ediv_cancel_left _ hg]
  · exact absurd hu h
  · rw [if_pos hu, Int.sign_eq_one_of_pos hu, Int.one_mul, hx, Int.mul_fdiv_cancel_left x hg, e1]
theorem lo_den {a u : Int} (h : u ≠ 0) : u.fdiv (gd a u) = ((Rat.divInt a u).den : Int) := by
  have hg : (Int.gcd a u : Int) ≠ 0 := by have := Int.gcd_pos_of_ne_zero_right a h; omega
  obtain ⟨x, hx⟩ := Int.gcd_dvd_right a u
  rw [Rat.den_divInt, if_neg h, Int.gcd_comm u a, Int.natCast_ediv]
  have e0 : (u.natAbs : Int) = if 0 < u then u else -u := by split <;> omega
  rw [e0]
  unfold gd
  generalize (a.gcd u : Int) = g at *
  rcases Int.lt_trichotomy u 0 with hu | hu | hu
  · rw [if_neg (by omega), if_neg (by omega)]
    have e : u = -g * -x := by rw [Int.neg_mul_neg]; exact hx
    have e2 : -u = g * -x := by rw [Int.mul_neg, ← hx]
    rw [e2, Int.mul_ediv_cancel_left _ hg]
    conv => lhs; rw [e]
    exact Int.mul_fdiv_cancel_left (-x) (by omega)
  · exact absurd hu h
  · rw [if_pos hu, if_pos hu]
    conv => lhs; rw [hx]
    conv => rhs; rw [hx]
    rw [Int.mul_fdiv_cancel_left x hg, Int.mul_ediv_cancel_left _ hg]

/-- numerator and denominator below 10 ^ k -/
def Bd (p : Rat) (k : Nat) : Prop := p.num.natAbs < 10 ^ k ∧ p.den < 10 ^ k
theorem Bd.mono {p : Rat} {i j : Nat} (h : Bd p i) (hij : i ≤ j) : Bd p j := by
  have := Nat.pow_le_pow_right (show 0 < 10 by decide) hij
  exact ⟨Nat.lt_of_lt_of_le h.1 this, Nat.lt_of_lt_of_le h.2 this⟩
theorem nab {x : Nat} {i : Int} (h : i.natAbs < x) : -(x : Int) < i ∧ i < x := by omega
theorem Bd.num {p : Rat} {k : Nat} (h : Bd p k) (hk : k ≤ 400) : Sm p.num := by
  have := nab h.1
  rw [Int.natCast_pow] at this
  exact sm_lt hk this.1 this.2
theorem Bd.den {p : Rat} {k : Nat} (h : Bd p k) (hk : k ≤ 400) : Sm (p.den : Int) := by
  have := nab (i := (p.den : Int)) (x := 10 ^ k) (by have := h.2; omega)
  rw [Int.natCast_pow] at this
  exact sm_lt hk this.1 this.2
theorem divInt_num_le (a u : Int) : (Rat.divInt a u).num.natAbs ≤ a.natAbs := by
  rw [Rat.num_divInt]
  have h : (u.sign * a).natAbs ≤ a.natAbs := by
    rw [Int.natAbs_mul]
    have : u.sign.natAbs ≤ 1 := by
      rcases Int.lt_trichotomy u 0 with hu | hu | hu
      · rw [Int.sign_eq_neg_one_of_neg hu]; decide
      · rw [hu]; decide
      · rw [Int.sign_eq_one_of_pos hu]; decide
    calc u.sign.natAbs * a.natAbs ≤ 1 * a.natAbs := Nat.mul_le_mul_right _ this
      _ = a.natAbs := Nat.one_mul _
  refine Nat.le_trans ?_ h
  obtain ⟨x, hx⟩ : ((u.gcd a : Nat) : Int) ∣ u.sign * a := Int.dvd_mul_of_dvd_right (Int.gcd_dvd_right u a)
  by_cases hg : ((u.gcd a : Nat) : Int) = 0
  · rw [hg, Int.ediv_zero]
    exact Nat.zero_le _
  · rw [hx, Int.mul_ediv_cancel_left _ hg, Int.natAbs_mul]
    exact Nat.le_mul_of_pos_left _ (by omega)
theorem divInt_den_le {a u : Int} (h : u ≠ 0) : (Rat.divInt a u).den ≤ u.natAbs := by
  rw [Rat.den_divInt, if_neg h]
  exact Nat.div_le_self _ _
theorem bd_div {a u : Int} {k : Nat} (h : u ≠ 0) (ha : a.natAbs < 10 ^ k) (hu : u.natAbs < 10 ^ k) : Bd (Rat.divInt a u) k :=
  ⟨Nat.lt_of_le_of_lt (divInt_num_le a u) ha, Nat.lt_of_le_of_lt (divInt_den_le h) hu⟩
theorem add_eq (p q : Rat) : p + q = Rat.divInt (p.num * q.den + q.num * p.den) (p.den * q.den) := by
  have h1 : (p.den : Int) ≠ 0 := by have := p.den_nz; omega
  have h2 : (q.den : Int) ≠ 0 := by have := q.den_nz; omega
  rw [← Rat.divInt_add_divInt _ _ h1 h2, Rat.num_divInt_den, Rat.num_divInt_den]
theorem sub_eq (p q : Rat) : p - q = Rat.divInt (p.num * q.den - q.num * p.den) (p.den * q.den) := by
  have h1 : (p.den : Int) ≠ 0 := by have := p.den_nz; omega
  have h2 : (q.den : Int) ≠ 0 := by have := q.den_nz; omega
  rw [← Rat.divInt_sub_divInt _ _ h1 h2, Rat.num_divInt_den, Rat.num_divInt_den]
theorem mul_eq (p q : Rat) : p * q = Rat.divInt (p.num * q.num) (p.den * q.den) := by
  rw [← Rat.divInt_mul_divInt, Rat.num_divInt_den, Rat.num_divInt_den]
theorem neg_eq (p : Rat) : -p = Rat.divInt (-p.num) p.den := by
  rw [← Rat.neg_divInt, Rat.num_divInt_den]
theorem over_eq (p q : Rat) : p / q = Rat.divInt (p.num * q.den) (p.den * q.num) := by
  rw [Rat.div_def]
  conv => lhs; rw [← Rat.num_divInt_den p, ← Rat.num_divInt_den q]
  rw [Rat.inv_divInt, Rat.divInt_mul_divInt]
theorem den_ne (p q : Rat) : (p.den : Int) * q.den ≠ 0 := by
  have h1 := p.den_nz
  have h2 := q.den_nz
  exact Int.mul_ne_zero (by omega) (by omega)
theorem lt_mul {a b : Nat} {i j : Nat} (ha : a < 10 ^ i) (hb : b < 10 ^ j) : a * b < 10 ^ (i + j) := by
  rw [Nat.pow_add]
  exact Nat.mul_lt_mul'' ha hb
theorem bd_mul {p q : Rat} {i j : Nat} (hp : Bd p i) (hq : Bd q j) : Bd (p * q) (i + j) := by
  rw [mul_eq]
  refine bd_div (den_ne p q) ?_ ?_
  · rw [Int.natAbs_mul]; exact lt_mul hp.1 hq.1
  · rw [Int.natAbs_mul]; exact lt_mul hp.2 hq.2
theorem ten (k : Nat) : 10 ^ (k + 1) = 10 * 10 ^ k := by rw [Nat.pow_succ, Nat.mul_comm]
theorem bd_add {p q : Rat} {i j : Nat} (hp : Bd p i) (hq : Bd q j) : Bd (p + q) (i + j + 1) := by
  rw [add_eq]
  have h1 := lt_mul hp.1 hq.2
  have h2 := lt_mul hp.2 hq.1
  have h3 := lt_mul hp.2 hq.2
  have t := ten (i + j)
  refine bd_div (den_ne p q) ?_ ?_
  · have e1 : (p.num * q.den).natAbs = p.num.natAbs * q.den := by rw [Int.natAbs_mul]; rfl
    have e2 : (q.num * p.den).natAbs = p.den * q.num.natAbs := by rw [Int.natAbs_mul, Nat.mul_comm]; rfl
    have := Int.natAbs_add_le (p.num * q.den) (q.num * p.den)
    omega
  · have e : ((p.den : Int) * q.den).natAbs = p.den * q.den := by rw [Int.natAbs_mul]; rfl
    omega
theorem bd_neg {p : Rat} {i : Nat} (hp : Bd p i) : Bd (-p) i := by
  have e1 : (-p).num = -p.num := rfl
  have e2 : (-p).den = p.den := rfl
  unfold Bd
  rw [e1, e2, Int.natAbs_neg]
  exact hp
theorem bd_sub {p q : Rat} {i j : Nat} (hp : Bd p i) (hq : Bd q j) : Bd (p - q) (i + j + 1) := by
  rw [Rat.sub_eq_add_neg]
  exact bd_add hp (bd_neg hq)
theorem sm_of {i : Int} (h : i.natAbs < 10 ^ 390) : Sm i := by
  have := nab h
  rw [Int.natCast_pow] at this
  exact sm_lt (by decide) this.1 this.2
theorem sm_den2 {p q : Rat} {i j : Nat} (hp : Bd p i) (hq : Bd q j) (h : i + j ≤ 390) : Sm ((p.den : Int) * q.den) := by
  refine sm_of ?_
  have e : ((p.den : Int) * q.den).natAbs = p.den * q.den := by rw [Int.natAbs_mul]; rfl
  rw [e]
  exact Nat.lt_of_lt_of_le (lt_mul hp.2 hq.2) (Nat.pow_le_pow_right (by decide) h)
theorem sm_dn {p q : Rat} {i j : Nat} (hp : Bd p i) (hq : Bd q j) (h : i + j ≤ 390) : Sm ((p.den : Int) * q.num) := by
  refine sm_of ?_
  have e : ((p.den : Int) * q.num).natAbs = p.den * q.num.natAbs := by rw [Int.natAbs_mul]; rfl
  rw [e]
  exact Nat.lt_of_lt_of_le (lt_mul hp.2 hq.1) (Nat.pow_le_pow_right (by decide) h)
theorem rat_dec (p q : Rat) : decide (p = q) = (decide (p.num = q.num) && decide ((p.den : Int) = q.den)) := by
  rw [← Bool.decide_and]
  refine decide_eq_decide.mpr ⟨fun e => by rw [e]; exact ⟨rfl, rfl⟩, fun ⟨h1, h2⟩ => Rat.ext h1 (by omega)⟩
end MG

/-! Texts of pairs, lists of texts compared -/
namespace MG
open PySem PySem.Spec PyProof.Rows L2

theorem all_append {x y : Str} (f : Nat → Bool) : (x ++ y).cps.all f = (x.cps.all f && y.cps.all f) := by
  show (x.cps ++ y.cps).all f = _
  exact Array.all_append
theorem ok_append {x y : Str} (hx : PyData.strOk x = true) (hy : PyData.strOk y = true) : PyData.strOk (x ++ y) = true := by
  unfold PyData.strOk at *
  rw [all_append, hx, hy]
  rfl
theorem ok_of (s : String) : PyData.strOk (Str.ofString s) = true := by
  unfold PyData.strOk
  rw [← Array.all_toList, signs_ofString, List.all_map, List.all_eq_true]
  intro c _
  have h := c.valid
  refine decide_eq_true ?_
  rcases h with h | ⟨_, h⟩
  · exact Nat.lt_trans h (by decide)
  · exact h
/-- repr((a, b)) -/
def shw (a b : Int) : Str := (PyData.tuple [.int a, .int b]).shown
theorem shw_eq (a b : Int) : shw a b = tupleText [toString a, toString b] := rfl
theorem ok_shw (a b : Int) : PyData.strOk (shw a b) = true := by
  show PyData.strOk (("(" : Str) ++ (Str.ofString (toString a) ++ (", " : Str) ++ Str.ofString (toString b)) ++ (")" : Str)) = true
  exact ok_append (ok_append (ok_of _) (ok_append (ok_append (ok_of _) (ok_of _)) (ok_of _))) (ok_of _)
theorem log_sm {i : Int} (h : Sm i) : i.natAbs.log2 < 1920 := Nat.lt_of_lt_of_le (PySem.Flt.log2_lt_of (by decide) h.abs) (by decide)
theorem txt_len {i : Int} (h : Sm i) : (Str.ofString (toString i)).length ≤ 1921 := by
  rw [PySem.ofString_length]
  exact int_text_length_le (k := 1920) (by decide) (log_sm h)
theorem shw_len {a b : Int} (ha : Sm a) (hb : Sm b) : (shw a b).length ≤ 4000 := by
  have h := tupleText_len_le [Str.ofString (toString a), Str.ofString (toString b)]
  have h1 := txt_len ha
  have h2 := txt_len hb
  simp only [List.map_cons, List.map_nil, List.sum_cons, List.sum_nil, List.length_cons, List.length_nil] at h
  have e : shw a b = tupleText [Str.ofString (toString a), Str.ofString (toString b)] := rfl
  rw [e]
  omega
theorem pair_ok {K : PySem.W.Frag} {H : Hp} {t : Addr} {a b : Int} (h : SqT K H t [.int a, .int b]) (ha : Sm a) (hb : Sm b) : Dp K H (.ref t) (.tuple [.int a, .int b]) ∧ (PyData.tuple [.int a, .int b]).showable = true ∧
    (PyData.tuple [.int a, .int b]).hasDict = false ∧ (PyData.tuple [.int a, .int b]).depth ≤ 60 ∧ (PyData.tuple [.int a, .int b]).shown.length ≤ sizeLine := by
  refine ⟨.tup h (.cons (.int a) (.cons (.int b) .nil)), ?_, rfl, ?_, ?_⟩
  · simp [PyData.showable, PyData.showableAll, log_sm ha, log_sm hb]
  · simp [PyData.depth, PyData.depthAll]
  · exact Nat.le_trans (shw_len ha hb) (by decide)
/-- the same, the data unnamed -/
theorem pair_ex {K : PySem.W.Frag} {H : Hp} {t : Addr} {a b : Int} (h : SqT K H t [.int a, .int b]) (ha : Sm a) (hb : Sm b) : ∃ d, Dp K H (.ref t) d ∧ d.showable = true ∧ d.hasDict = false ∧ d.depth ≤ 60 ∧ d.shown.length ≤ sizeLine ∧ d.shown = shw a b := by
  obtain ⟨r1, r2, r3, r4, r5⟩ := pair_ok h ha hb
  exact ⟨_, r1, r2, r3, r4, r5, rfl⟩
/-- what repr of a pair of ints asks -/
theorem repr_pair {K : PySem.W.Frag} {H : Hp} {t : Addr} {a b : Int} {Q : VK} (h : SqT K H t [.int a, .int b]) (ha : Sm a) (hb : Sm b) (k : Q (.str (shw a b)) H) : rRepr K [.ref t] H Q := by
  refine ⟨.ref t, .tuple [.int a, .int b], rfl, .tup h (.cons (.int a) (.cons (.int b) .nil)), ?_, rfl, ?_, ?_, k⟩
  · simp [PyData.showable, PyData.showableAll, log_sm ha, log_sm hb]
  · simp [PyData.depth, PyData.depthAll]
  · exact Nat.le_trans (shw_len ha hb) (by decide)
theorem dp_strs {K : PySem.W.Frag} {H : Hp} {a : Addr} {ss : List Str} (h : SqL K H a (ss.map V.str)) : Dp K H (.ref a) (.list (ss.map .str)) := by
  refine .lst h ?_
  induction ss with
  | nil => exact .nil
  | cons s ss ih => exact .cons (.str s) (all_dp ss)
where all_dp : ∀ ss : List Str, DpAll K H (ss.map V.str) (ss.map PyData.str)
  | [] => .nil
  | s :: ss => .cons (.str s) (all_dp ss)
theorem sh_strs {ss : List Str} (h : ∀ s ∈ ss, PyData.strOk s = true) : SeqAt.shaped (.list (ss.map .str)) = true := by
  unfold SeqAt.shaped
  rw [Bool.and_eq_true]
  refine ⟨?_, ?_⟩
  · show PyData.canLayAll0 (ss.map .str) = true
    rw [canLayAll_strs', List.all_eq_true]
    exact h
  · refine decide_eq_true ?_
    show PyData.depthAll (ss.map .str) + 1 ≤ 64
    rw [depthAll_strs']
    decide
/-- two lists of the same texts -/
theorem ne_strs {K : PySem.W.Frag} {H : Hp} {a b : Addr} {ss : List Str} {Q : VK} (ha : SqL K H a (ss.map V.str)) (hb : SqL K H b (ss.map V.str)) (h : ∀ s ∈ ss, PyData.strOk s = true) (k : Q (.bl false) H) : rNeD K (.ref a) (.ref b) H Q := by
  have sh := sh_strs h
  refine ⟨_, _, dp_strs ha, dp_strs hb, sh, sh, ?_⟩
  have e := SeqAt.eqv_refl (.list (ss.map .str)) (SeqAt.canLay_of_shaped sh)
  rw [e]
  exact k
theorem eq_strs {K : PySem.W.Frag} {H : Hp} {a b : Addr} {ss : List Str} {Q : VK} (ha : SqL K H a (ss.map V.str)) (hb : SqL K H b (ss.map V.str)) (h : ∀ s ∈ ss, PyData.strOk s = true) (k : Q (.bl true) H) : rEqD K (.ref a) (.ref b) H Q := by
  have sh := sh_strs h
  refine ⟨_, _, dp_strs ha, dp_strs hb, sh, sh, ?_⟩
  have e := SeqAt.eqv_refl (.list (ss.map .str)) (SeqAt.canLay_of_shaped sh)
  rw [e]
  exact k
end MG

namespace Lw
open PySem PySem.Spec PyProof.Rows L2 MG
def top (i : Nat) : Stmt := PySem.Challenge.pw_matrixforms_k04_ratio_texts.main.body.getD i (.Pass ⟨0, 0, 0, 0⟩)
abbrev s__law_purse : Stmt := top 13
abbrev s__law_draw : Stmt := top 14
abbrev s__law_great : Stmt := top 16
abbrev s__law_common : Stmt := top 17
abbrev s__law_lowest : Stmt := top 18
abbrev s__law_from : Stmt := top 20
structure Blt (mg : Str → Option Value) : Prop where
  b_int : mg "int" = none
  b_len : mg "len" = none
  b_abs : mg "abs" = none
  b_range : mg "range" = none
  b_max : mg "max" = none
  b_min : mg "min" = none
  b_all : mg "all" = none
  b_repr : mg "repr" = none
  b_isinstance : mg "isinstance" = none
  b_bool : mg "bool" = none
  b_str : mg "str" = none
  b_any : mg "any" = none

/-- the cells, the next one, what is left of the last one, the turns -/
structure QAt (X : Addr → Prop) (H : Hp) (q : Addr) (n : Nat) : Prop where
  ex : ∃ (c : Addr) (ns : List Int) (i r t : Int), H q = some (.lst [.ref c, .int i, .int r, .int t]) ∧ H c = some (.lst (ns.map V.int)) ∧
    (∀ z ∈ ns, 0 ≤ z ∧ z < 10 ^ 120) ∧ (ns.length ≤ 100000 ∧ ¬ X c) ∧ (0 ≤ i ∧ i ≤ n) ∧ (0 ≤ r ∧ r < 10 ^ 120) ∧ (0 ≤ t ∧ t ≤ n)
def spDraw (X : Addr → Prop) : Sp := fun vs H Q _ => ∃ (q : Addr) (m : Int) (n : Nat), vs = [.ref q, .int m] ∧ QAt X H q n ∧ n ≤ 100000 ∧ 0 < m ∧ m < 10 ^ 30 ∧
  ∀ (r : Int) (H' : Hp), 0 ≤ r → r < m → Keep q H H' → QAt X H' q (n + 1) → Q (.int r) H'
theorem cells_ne {H : Hp} {q c : Addr} {ns : List Int} {i r t : Int} (hq : H q = some (.lst [.ref c, .int i, .int r, .int t])) (hc : H c = some (.lst (ns.map V.int))) : c ≠ q :=
  ne_of hc hq (by
    intro e
    have e2 := HO.lst.inj e
    cases ns with
    | nil => cases e2
    | cons a b => cases e2)
def primes : List Int := [1000003, 1299709, 2750159, 3497861, 4256233, 5800079, 6700417, 7368787, 8460041, 9576901, 15485863]
theorem primes_ok {z : Int} (h : z ∈ primes) : 0 < z ∧ z ≤ 15485863 := by
  simp only [primes, List.mem_cons, List.not_mem_nil, or_false] at h
  omega
theorem prime_at {i : Int} (h0 : 0 ≤ i) (h : i < 11) : ∃ z, atI ([.int 1000003, .int 1299709, .int 2750159, .int 3497861, .int 4256233, .int 5800079, .int 6700417, .int 7368787, .int 8460041, .int 9576901, .int 15485863] : List V) i = some (.int z) ∧ 0 < z ∧ z ≤ 15485863 := by
  obtain ⟨z, hz, e⟩ := at_ints (l := primes) h0 (by show i < 11; exact h)
  exact ⟨z, e, primes_ok hz⟩
section
variable {X : Addr → Prop}
variable {P : Program} {w : World} {K : PySem.W.Frag} {mg : Str → Option Value} {base : Heap}
theorem sc__law_draw : FnScope ["_law_q", "_law_many", "_law_digit", "_law_cells", "_law_cell", "_law_turn", "_law_primes", "_law_blend"] ["_law_q", "_law_many"] (defScope s__law_draw) := ⟨rfl, rfl, rfl, by decide +kernel, rfl, by decide +kernel, by decide +kernel⟩
theorem ok_draw {f : Addr} {fd : FuncData} (F : Fun K "_law_draw" "_law_draw" s__law_draw f fd) (T : Blt mg) : FnG P w K mg base CX0 2 f fd ["_law_q", "_law_many"] (spDraw X) := by
  refine fun_okG F sc__law_draw (fun vs H Q E h => ?_) (fun cdv A outer s H vs Q E bare hr h => ?_)
  · obtain ⟨q, m, n, rfl, _⟩ := h
    rfl
  · obtain ⟨q, m, n, rfl, ⟨c, ns, i, r, t, hq, hc, hz, hl, ⟨hi0, hi⟩, ⟨hr0, hr1⟩, ⟨ht0, ht⟩⟩, hn, hm0, hm, k⟩ := h
    have ncq := cells_ne hq hc
    have smm : Sm m := sm_lt (k := 30) (by decide) (by omega) hm
    refine ⟨_, (pss_cons (ps_if (pt_cmpR op_gt (pe_ix (ix_listK (K := K)) (pv 0) pe_int (fun _ _ => rfl)) pe_int (nomark _)) (pss_cons (ps_set (i := 2) sc__law_draw.nd rfl (Or.inl rfl) (pe_op op_modN (pe_callTy call_int1 (by rfl) T.b_int (by decide +kernel) (pa_cons (pe_ix (ix_listK (K := K)) (pv 0) pe_int (fun _ _ => rfl)) pa_nil)) (pv 1)))
  (pss_cons (ps_asg (pe_op op_fdivZ (pe_ix (ix_listK (K := K)) (pv 0) pe_int (fun _ _ => rfl)) (pv 1)) (pg_sub (pv 0) pe_int set_list))
  (pss_one (ps_ret (pv 2)))))
  pss_nil)
  (pss_cons (ps_set (i := 3) sc__law_draw.nd rfl (Or.inl rfl) (pe_cut (pe_ifExp (pt_truth (pe_ix (ix_listK (K := K)) (pv 0) pe_int (fun _ _ => rfl)) (by intro _; rfl)) (pe_ix (ix_listK (K := K)) (pv 0) pe_int (fun _ _ => rfl)) (pe_lst (pa_cons pe_int pa_nil)))))
  (pss_cons (ps_set (i := 4) sc__law_draw.nd rfl (Or.inl rfl) (pe_ix (ix_listK (K := K)) (pv 3) (pe_op op_modN (pe_callTy call_int1 (by rfl) T.b_int (by decide +kernel) (pa_cons (pe_ix (ix_listK (K := K)) (pv 0) pe_int (fun _ _ => rfl)) pa_nil)) (pe_callB (id := "len") call_len_seq (by rfl) T.b_len (by decide +kernel) (pa_cons (pv 3) pa_nil))) (fun _ _ => rfl)))
  (pss_cons (ps_asg (pe_op op_add (pe_ix (ix_listK (K := K)) (pv 0) pe_int (fun _ _ => rfl)) pe_int) (pg_sub (pv 0) pe_int set_list))
  (pss_cons (ps_if (pt_cmpR op_ge (pv 4) (pe_op op_pow pe_int pe_int) (nomark _)) (pss_cons (ps_asg (pe_op op_fdivZ (pv 4) (pv 1)) (pg_sub (pv 0) pe_int set_list))
  (pss_one (ps_ret (pe_op op_modN (pe_callTy call_int1 (by rfl) T.b_int (by decide +kernel) (pa_cons (pv 4) pa_nil)) (pv 1)))))
  pss_nil)
  (pss_cons (ps_set (i := 5) sc__law_draw.nd rfl (Or.inl rfl) (pe_ix (ix_listK (K := K)) (pv 0) pe_int (fun _ _ => rfl)))
  (pss_cons (ps_asg (pe_op op_add (pv 5) pe_int) (pg_sub (pv 0) pe_int set_list))
  (pss_cons (ps_set (i := 6) sc__law_draw.nd rfl (Or.inl rfl) (pe_lst (pa_cons pe_int (pa_cons pe_int (pa_cons pe_int (pa_cons pe_int (pa_cons pe_int (pa_cons pe_int (pa_cons pe_int (pa_cons pe_int (pa_cons pe_int (pa_cons pe_int (pa_cons pe_int pa_nil)))))))))))))
  (pss_cons (ps_set (i := 7) sc__law_draw.nd rfl (Or.inl rfl) (pe_op op_modN (pe_callTy call_int1 (by rfl) T.b_int (by decide +kernel) (pa_cons (pe_op op_add (pe_op op_mulW (pe_op op_add (pv 4) pe_int) pe_int) (pe_op op_mulW (pe_op op_mulW (pe_op op_add (pv 5) pe_int) (pe_op op_add (pv 5) pe_int)) pe_int)) pa_nil)) (pe_ix (ix_listK (K := K)) (pv 6) (pe_op op_modN (pe_callTy call_int1 (by rfl) T.b_int (by decide +kernel) (pa_cons (pv 5) pa_nil)) pe_int) (fun _ _ => rfl))))
  (pss_cons (ps_set (i := 7) sc__law_draw.nd rfl (Or.inl rfl) (pe_op op_modN (pe_callTy call_int1 (by rfl) T.b_int (by decide +kernel) (pa_cons (pe_op op_add (pe_op op_pow (pv 7) pe_int) (pe_op op_mulW (pv 5) pe_int)) pa_nil)) pe_int))
  (pss_one (ps_ret (pe_op op_modN (pe_callTy call_int1 (by rfl) T.b_int (by decide +kernel) (pa_cons (pe_op op_fdivZ (pv 7) pe_int) pa_nil)) (pv 1)))))))))))))), ?_⟩
    -- if q[2] > 0
    refine ⟨_, rfl, q, _, _, _, rfl, rfl, SqL.of hq, rfl, _, _, rfl, rfl, _, rfl, ?_⟩
    refine ite2 (fun hpos => ?_) (fun hpos => ?_)
    · -- digit = int(q[2]) % many; q[2] = q[2] // many; return digit
      refine ⟨_, rfl, q, _, _, _, rfl, rfl, SqL.of hq, rfl, Or.inl ⟨_, rfl, _, rfl, _, _, rfl, rfl, by omega, ?_⟩⟩
      refine ⟨_, rfl, q, _, _, _, rfl, rfl, SqL.of hq, rfl, _, rfl, _, _, rfl, rfl, sm_div smm (by omega), ?_⟩
      refine ⟨_, rfl, q, _, _, _, rfl, rfl, hq, rfl, ?_⟩
      refine ⟨_, rfl, ?_⟩
      refine k _ _ (fmod_ge hm0) (fmod_lt hm0) Keep.refl.upd ⟨c, ns, i, _, t, upd_same, ?_, hz, hl, ⟨hi0, by omega⟩, ⟨fdiv_ge hr0 hm0, Int.lt_of_le_of_lt (fdiv_le hr0 hm0) hr1⟩, ⟨ht0, by omega⟩⟩
      rw [upd_ne ncq]
      exact hc
    · -- cells = q[0] if q[0] else [0]
      refine ⟨fun v H' => ∃ (c' : Addr) (ns' : List Int), v = .ref c' ∧ H' c' = some (.lst (ns'.map V.int)) ∧ ns' ≠ [] ∧ ns'.length ≤ 100000 ∧ (∀ z ∈ ns', 0 ≤ z ∧ z < 10 ^ 120) ∧ c' ≠ q ∧ Same H H', ?_, ?_⟩
      · refine ⟨_, rfl, q, _, _, _, rfl, rfl, SqL.of hq, rfl, _, Or.inl ⟨_, SqL.of hc, rfl⟩, ?_⟩
        cases ns with
        | nil =>
          refine iteF ?_
          refine ⟨by show 1 ≤ sizeLine; decide, fun p hp => ?_⟩
          refine ⟨p, [0], rfl, upd_same, by simp, by decide, by decide, ?_, MG.Same.new (Same.refl H) hp⟩
          exact (ne_of_none hq hp).symm
        | cons z ns =>
          refine iteT ?_
          exact ⟨_, rfl, q, _, _, _, rfl, rfl, SqL.of hq, rfl, c, z :: ns, rfl, hc, by simp, hl.1, hz, ncq, Same.refl H⟩
      rintro v H1 ⟨c', ns', rfl, hc', hne, hl', hz', ncq', s1⟩
      have hq1 := s1 _ _ hq
      have hlen : 0 < (ns'.length : Int) := by
        have : 0 < ns'.length := List.length_pos_iff.mpr hne
        omega
      -- cell = cells[int(q[1]) % len(cells)]
      have hlm : ((ns'.map V.int).length : Int) = ns'.length := by rw [List.length_map]
      obtain ⟨z, hzm, ez⟩ := at_ints (l := ns') (i := i.fmod ((ns'.map V.int).length : Int)) (fmod_ge (by omega)) (by rw [hlm]; exact fmod_lt hlen)
      obtain ⟨z0, z1⟩ := hz' z hzm
      refine ⟨_, rfl, _, rfl, q, _, _, _, rfl, rfl, SqL.of hq1, rfl, Or.inl ⟨_, rfl, _, rfl, c', _, rfl, Or.inl (SqL.of hc'), _, _, rfl, rfl, by omega, ?_⟩⟩
      refine ⟨c', _, _, _, rfl, rfl, SqL.of hc', ez, ?_⟩
      -- q[1] = q[1] + 1
      refine ⟨_, rfl, q, _, _, _, rfl, rfl, SqL.of hq1, rfl, _, _, rfl, rfl, ?_⟩
      refine ⟨_, rfl, q, _, _, _, rfl, rfl, hq1, rfl, ?_⟩
      -- if cell >= 10 ** 18
      refine ⟨_, rfl, _, _, rfl, rfl, ⟨by decide, by decide, by decide⟩, _, _, rfl, rfl, _, rfl, ?_⟩
      have smz : Sm z := sm_lt (k := 120) (by decide) (by omega) z1
      have nc1 : ∀ {o : HO}, upd H1 q o c = some (.lst (ns.map V.int)) := fun {o} => by rw [upd_ne ncq]; exact s1 _ _ hc
      refine ite2 (fun hbig => ?_) (fun hbig => ?_)
      · refine ⟨_, rfl, _, rfl, _, _, rfl, rfl, sm_div smm (by omega), ?_⟩
        refine ⟨_, rfl, q, _, _, _, rfl, rfl, upd_same, rfl, ?_⟩
        refine ⟨_, rfl, Or.inl ⟨_, rfl, _, rfl, _, _, rfl, rfl, by omega, ?_⟩⟩
        refine k _ _ (fmod_ge hm0) (fmod_lt hm0) (Same.keep s1).upd.upd ⟨c, ns, _, _, t, upd_same, ?_, hz, hl, ⟨by omega, by omega⟩, ⟨fdiv_ge z0 hm0, Int.lt_of_le_of_lt (fdiv_le z0 hm0) z1⟩, ⟨ht0, by omega⟩⟩
        rw [upd_ne ncq]
        exact nc1
      · -- turn = q[3]; q[3] = turn + 1
        refine ⟨_, rfl, q, _, _, _, rfl, rfl, SqL.of upd_same, rfl, ?_⟩
        refine ⟨_, rfl, _, _, rfl, rfl, ?_⟩
        refine ⟨_, rfl, q, _, _, _, rfl, rfl, upd_same, rfl, ?_⟩
        -- primes
        refine ⟨by show 11 ≤ sizeLine; decide, fun p hp => ?_⟩
        have hp' : H1 p = none := by
          have npq : p ≠ q := fun e => by rw [e, upd_same] at hp; cases hp
          rw [upd_ne npq, upd_ne npq] at hp
          exact hp
        -- blend = int((cell + 1) * 48271 + (turn + 1) * (turn + 7) * 69621) % primes[int(turn) % 11]
        obtain ⟨y, ey, y0, y1⟩ := prime_at (i := t.fmod 11) (fmod_ge (by decide)) (fmod_lt (by decide))
        have st : ∀ a : Int, 0 ≤ a → a ≤ 1000000 → Sm a := fun a h0 h1 => sm_lt (k := 7) (by decide) (by omega) (by omega)
        have hm1 : Sm ((t + 1) * (t + 7)) := by
          have h1 : (t + 1) * (t + 7) ≤ 200000 * 200000 := Int.mul_le_mul (by omega) (by omega) (by omega) (by omega)
          have h2 : 0 ≤ (t + 1) * (t + 7) := Int.mul_nonneg (by omega) (by omega)
          exact sm_lt (k := 20) (by decide) (by omega) (by omega)
        refine ⟨_, rfl, _, _, rfl, rfl, _, _, rfl, rfl, sm_mul (sm_lt (k := 121) (by decide) (by omega) (by omega)) (st _ (by decide) (by decide)), ?_⟩
        refine ⟨_, rfl, _, _, rfl, rfl, _, rfl, _, _, rfl, rfl, _, _, rfl, rfl, sm_mul (st _ (by omega) (by omega)) (st _ (by omega) (by omega)), _, _, rfl, rfl, sm_mul hm1 (st _ (by decide) (by decide)), ?_⟩
        refine ⟨_, _, rfl, rfl, Or.inl ⟨_, rfl, ?_⟩⟩
        refine ⟨_, rfl, _, rfl, Or.inl ⟨_, rfl, _, _, rfl, rfl, (show (11 : Int) ≠ 0 by decide), p, _, _, _, rfl, rfl, SqL.of upd_same, ey, _, _, rfl, rfl, by omega, ?_⟩⟩
        -- blend = int(blend ** 3 + turn * 40503) % 2147483647
        have b0 := fmod_ge (x := (z + 1) * 48271 + (t + 1) * (t + 7) * 69621) y0
        have b1 := fmod_lt (x := (z + 1) * 48271 + (t + 1) * (t + 7) * 69621) y0
        refine ⟨_, rfl, _, _, rfl, rfl, ⟨by decide, by decide, ?_⟩, _, rfl, _, _, rfl, rfl, sm_mul (st _ (by omega) (by omega)) (st _ (by decide) (by decide)), _, _, rfl, rfl, Or.inl ⟨_, rfl, _, _, rfl, rfl, (show (2147483647 : Int) ≠ 0 by decide), ?_⟩⟩
        · show ((((z + 1) * 48271 + (t + 1) * (t + 7) * 69621).fmod y).natAbs < 2 ^ 64)
          generalize ((z + 1) * 48271 + (t + 1) * (t + 7) * 69621).fmod y = b at *
          omega
        -- return int(blend // 32) % many
        refine ⟨_, rfl, _, _, rfl, rfl, ⟨by decide, by decide⟩, Or.inl ⟨_, rfl, _, rfl, _, _, rfl, rfl, by omega, ?_⟩⟩
        refine k _ _ (fmod_ge hm0) (fmod_lt hm0) ((Same.keep s1).upd.upd.new hp) ⟨c, ns, i + 1, r, t + 1, ?_, ?_, hz, hl, ⟨by omega, by omega⟩, ⟨hr0, hr1⟩, ⟨by omega, by omega⟩⟩
        · rw [upd_ne (fun e => by rw [← e, upd_same] at hp; cases hp)]
          exact upd_same
        · rw [upd_ne (ne_of_none (s1 _ _ hc) hp'), upd_ne ncq]
          exact nc1

theorem QAt.keep {H H' : Hp} {q : Addr} {n : Nat} (h : QAt X H q n) (s : Same H H') : QAt X H' q n := by
  obtain ⟨c, ns, i, r, t, hq, hc, h⟩ := h
  exact ⟨c, ns, i, r, t, s _ _ hq, s _ _ hc, h⟩
theorem QAt.at_ {H : Hp} {q : Addr} {n : Nat} (h : QAt X H q n) : ∃ o, H q = some o := by
  obtain ⟨c, ns, i, r, t, hq, hc, h⟩ := h
  exact ⟨_, hq⟩
theorem QAt.ne {H : Hp} {q p : Addr} {n : Nat} (h : QAt X H q n) (hp : H p = none) : p ≠ q := by
  obtain ⟨o, e⟩ := h.at_
  exact (ne_of_none e hp).symm
theorem QAt.new {H : Hp} {q p : Addr} {n : Nat} {o : HO} (h : QAt X H q n) (hp : H p = none) : QAt X (upd H p o) q n := h.keep (MG.Same.new (Same.refl H) hp)

abbrev DrawC (X : Addr → Prop) (P : Program) (w : World) (K : PySem.W.Frag) (mg : Str → Option Value) (base : Heap) : Prop := CalG P w K mg base 2 "_law_draw" (spDraw X) []
theorem signs_ok : ∀ z ∈ ([1, -1] : List Int), z = 1 ∨ z = -1 := by decide
/-! ### _law_great -/
def spGreat (X : Addr → Prop) : Sp := fun vs H Q _ => ∃ (q : Addr) (n : Nat), vs = [.ref q] ∧ QAt X H q n ∧ n + 3 ≤ 100000 ∧
  ∀ (z : Int) (H' : Hp), -(10 ^ 42) < z → z < 10 ^ 42 → Keep q H H' → QAt X H' q (n + 3) → Q (.int z) H'
def fars : List Int := [1, 1, 10, 10 ^ Int.toNat 3, 10 ^ Int.toNat 9, 10 ^ Int.toNat 20, 10 ^ Int.toNat 39]
theorem fars_ok : ∀ z ∈ fars, 1 ≤ z ∧ z ≤ 10 ^ 39 := by decide +kernel
theorem sc__law_great : FnScope ["_law_q", "_law_far"] ["_law_q"] (defScope s__law_great) := ⟨rfl, rfl, rfl, by decide +kernel, rfl, by decide +kernel, by decide +kernel⟩
theorem ok_great {f : Addr} {fd : FuncData} (F : Fun K "_law_great" "_law_great" s__law_great f fd) (T : Blt mg) (c_draw : DrawC X P w K mg base) : FnG P w K mg base CX0 4 f fd ["_law_q"] (spGreat X) := by
  refine fun_okG F sc__law_great (fun vs H Q E h => ?_) (fun cdv A outer s H vs Q E bare hr h => ?_)
  · obtain ⟨q, n, rfl, _⟩ := h
    rfl
  · obtain ⟨q, n, rfl, hq, hn, k⟩ := h
    refine ⟨_, (pss_cons (ps_set (i := 1) sc__law_great.nd rfl (Or.inl rfl) (pe_ix (ix_listK (K := K)) (pe_lst (pa_cons pe_int (pa_cons pe_int (pa_cons pe_int (pa_cons (pe_op op_pow pe_int pe_int) (pa_cons (pe_op op_pow pe_int pe_int) (pa_cons (pe_op op_pow pe_int pe_int) (pa_cons (pe_op op_pow pe_int pe_int) pa_nil)))))))) (pe_cg c_draw bare hr (by decide) rfl (pa_cons (pv 0) (pa_cons pe_int pa_nil))) (fun _ _ => rfl)))
  (pss_one (ps_ret (pe_op op_mulW (pe_ix (ix_listK (K := K)) (pe_lst (pa_cons pe_int (pa_cons (pe_un un_neg pe_int) pa_nil))) (pe_cg c_draw bare hr (by decide) rfl (pa_cons (pv 0) (pa_cons pe_int pa_nil))) (fun _ _ => rfl)) (pe_op op_add (pe_op op_sub (pv 1) pe_int) (pe_op op_mulW (pe_cg c_draw bare hr (by decide) rfl (pa_cons (pv 0) (pa_cons pe_int pa_nil))) (pe_op op_add (pe_op op_fdivZ (pv 1) pe_int) pe_int))))))), ?_⟩
    refine ⟨_, _, rfl, rfl, ⟨by decide, by decide, by decide⟩, _, _, rfl, rfl, ⟨by decide, by decide, by decide⟩, _, _, rfl, rfl, ⟨by decide, by decide, by decide⟩, _, _, rfl, rfl, ⟨by decide, by decide, by decide⟩, by show 7 ≤ sizeLine; decide, fun p hp => ?_⟩
    refine ⟨_, rfl, q, 7, n, rfl, hq.new hp, by omega, by decide, by decide, fun r H1 r0 r1 k1 q1 => ?_⟩
    obtain ⟨y, hy, ey⟩ := at_ints (l := fars) r0 (by show r < 7; exact r1)
    obtain ⟨y0, y1⟩ := fars_ok y hy
    refine ⟨p, _, _, _, rfl, rfl, SqL.of (k1 _ _ upd_same (hq.ne hp)), ey, ?_⟩
    refine ⟨_, rfl, by show 2 ≤ sizeLine; decide, fun p2 hp2 => ?_⟩
    refine ⟨_, rfl, q, 2, n + 1, rfl, q1.new hp2, by omega, by decide, by decide, fun r2 H2 r20 r21 k2 q2 => ?_⟩
    obtain ⟨e, he, ee⟩ := at_ints (l := [1, -1]) r20 (by show r2 < 2; exact r21)
    have he' := signs_ok e he
    refine ⟨p2, _, _, _, rfl, rfl, SqL.of (k2 _ _ upd_same (q1.ne hp2)), ee, ?_⟩
    refine ⟨_, rfl, _, _, rfl, rfl, _, rfl, q, 60, n + 2, rfl, q2, by omega, by decide, by decide, fun r3 H3 r30 r31 k3 q3 => ?_⟩
    have d0 := fdiv_ge (x := y) (m := 7) (by omega) (by decide)
    have d1 := fdiv_le (x := y) (m := 7) (by omega) (by decide)
    have p0 : 0 ≤ r3 * (y.fdiv 7 + 1) := Int.mul_nonneg r30 (by omega)
    have p1 : r3 * (y.fdiv 7 + 1) ≤ 60 * (10 ^ 39 + 1) := Int.mul_le_mul (by omega) (by omega) (by omega) (by omega)
    refine ⟨_, rfl, _, _, rfl, rfl, ⟨by decide, by decide⟩, _, _, rfl, rfl, _, _, rfl, rfl, sm_mul (sm_lt (k := 3) (by decide) (by omega) (by omega)) (sm_lt (k := 42) (by decide) (by omega) (by omega)), ?_⟩
    refine ⟨_, _, rfl, rfl, _, _, rfl, rfl, sm_mul (sm_lt (k := 3) (by decide) (by omega) (by omega)) (sm_lt (k := 42) (by decide) (by omega) (by omega)), ?_⟩
    have kk : Keep q H H3 := ((Keep.refl.new hp).trans k1).trans ((Keep.refl.new hp2).trans (k2.trans k3))
    generalize r3 * (y.fdiv 7 + 1) = g at *
    refine k _ H3 ?_ ?_ kk q3
    · rcases he' with rfl | rfl <;> omega
    · rcases he' with rfl | rfl <;> omega

/-! ### _law_common, _law_lowest -/
def spCommon : Sp := fun vs H Q _ => ∃ a b : Int, vs = [.int a, .int b] ∧ Q (.int (Int.gcd a b : Nat)) H
theorem gcd_step {x y : Nat} : Nat.gcd y (x % y) = Nat.gcd x y := by
  rw [Nat.gcd_comm x y, Nat.gcd_rec y x, Nat.gcd_comm]
theorem sc__law_common : FnScope ["_law_one", "_law_two", "_law_high", "_law_low"] ["_law_one", "_law_two"] (defScope s__law_common) := ⟨rfl, rfl, rfl, by decide +kernel, rfl, by decide +kernel, by decide +kernel⟩
theorem ok_common {f : Addr} {fd : FuncData} (F : Fun K "_law_common" "_law_common" s__law_common f fd) (T : Blt mg) : FnG P w K mg base CX0 2 f fd ["_law_one", "_law_two"] spCommon := by
  refine fun_okG F sc__law_common (fun vs H Q E h => ?_) (fun cdv A outer s H vs Q E bare hr h => ?_)
  · obtain ⟨a, b, rfl, _⟩ := h
    rfl
  · obtain ⟨a, b, rfl, k⟩ := h
    refine ⟨_, (pss_cons (ps_par (i := 2) (j := 3) (by rfl) sc__law_common.nd rfl rfl (by decide) rfl rfl (pa_cons (pe_callB (id := "abs") call_abs (by rfl) T.b_abs (by decide +kernel) (pa_cons (pv 0) pa_nil)) (pa_cons (pe_callB (id := "abs") call_abs (by rfl) T.b_abs (by decide +kernel) (pa_cons (pv 1) pa_nil)) pa_nil)) (by rfl))
  (pss_cons (ps_while PassesOwn.never (pt_cmpR op_gt (pv 3) pe_int (nomark _)) (pss_one (ps_par (i := 2) (j := 3) (by rfl) sc__law_common.nd rfl rfl (by decide) rfl rfl (pa_cons (pv 3) (pa_cons (pe_op op_modN (pe_callTy call_int1 (by rfl) T.b_int (by decide +kernel) (pa_cons (pv 2) pa_nil)) (pv 3)) pa_nil)) (by rfl))))
  (pss_one (ps_ret (pv 2))))), ?_⟩
    refine ⟨_, rfl, _, rfl, _, rfl, _, rfl, _, _, rfl, ?_⟩
    refine while_by (fun σ H' => H' = H ∧ ∃ x y : Nat, σ = [some (.int a), some (.int b), some (.int x), some (.int y)] ∧ Nat.gcd x y = Int.gcd a b) (fun (σ : L2.St) (_ : Hp) => match σ[3]? with | some (some (V.int y)) => y.toNat | _ => 0) ?_ ?_ ?_
    · refine ⟨rfl, a.natAbs, b.natAbs, ?_, rfl⟩
      have e : ∀ z : Int, (if z < 0 then -z else z) = (z.natAbs : Int) := fun z => by split <;> omega
      show [some (V.int a), some (V.int b), some (V.int (if a < 0 then -a else a)), some (V.int (if b < 0 then -b else b))] = _
      rw [e, e]
    · rintro σ H' ⟨rfl, x, y, rfl, hg⟩
      refine ⟨_, rfl, _, _, rfl, rfl, _, rfl, ?_⟩
      refine ite2 (fun hy => ?_) (fun hy => ?_)
      · have hy' : 0 < (y : Int) := of_decide_eq_true hy
        refine ⟨_, rfl, _, rfl, Or.inl ⟨_, rfl, _, rfl, _, _, rfl, rfl, by omega, _, _, rfl, ?_⟩⟩
        have e : (x : Int).fmod (y : Int) = ((x % y : Nat) : Int) := by
          rw [Int.fmod_eq_emod_of_nonneg (x : Int) (by omega)]
          exact (Int.natCast_emod x y).symm
        refine ⟨⟨rfl, y, x % y, ?_, gcd_step.trans hg⟩, ?_⟩
        · show [some (V.int a), some (V.int b), some (V.int (y : Int)), some (V.int ((x : Int).fmod (y : Int)))] = _
          rw [e]
        · show ((x : Int).fmod (y : Int)).toNat < (y : Int).toNat
          have h1 := fmod_lt (x := (x : Int)) hy'
          omega
      · have hy' : ¬ 0 < (y : Int) := fun z => hy (decide_eq_true z)
        have y0 : y = 0 := by omega
        subst y0
        refine ⟨_, rfl, ?_⟩
        rw [Nat.gcd_zero_right] at hg
        rw [hg]
        exact k
    · rintro σ H' Q1 Q2 hq ⟨v, e, i, j, e1, e2, b', e3, q⟩
      exact ⟨v, e, i, j, e1, e2, b', e3, hq _ _ q⟩
abbrev CommonC (P : Program) (w : World) (K : PySem.W.Frag) (mg : Str → Option Value) (base : Heap) : Prop := CalG P w K mg base 2 "_law_common" spCommon []
def spLowest : Sp := fun vs H Q _ => ∃ a u : Int, vs = [.int a, .int u] ∧ u ≠ 0 ∧ Sm u ∧
  ∀ p, H p = none → Q (.ref p) (upd H p (.tup [.int (Rat.divInt a u).num, .int (Rat.divInt a u).den]))
theorem sc__law_lowest : FnScope ["_law_high", "_law_under", "_law_both"] ["_law_high", "_law_under"] (defScope s__law_lowest) := ⟨rfl, rfl, rfl, by decide +kernel, rfl, by decide +kernel, by decide +kernel⟩
theorem ok_lowest {f : Addr} {fd : FuncData} (F : Fun K "_law_lowest" "_law_lowest" s__law_lowest f fd) (c_common : CommonC P w K mg base) : FnG P w K mg base CX0 4 f fd ["_law_high", "_law_under"] spLowest := by
  refine fun_okG F sc__law_lowest (fun vs H Q E h => ?_) (fun cdv A outer s H vs Q E bare hr h => ?_)
  · obtain ⟨a, b, rfl, _⟩ := h
    rfl
  · obtain ⟨a, u, rfl, hu, su, k⟩ := h
    refine ⟨_, (pss_cons (ps_set (i := 2) sc__law_lowest.nd rfl (Or.inl rfl) (pe_cut (pe_ifExp (pt_cmpR op_gt (pv 1) pe_int (nomark _)) (pe_cg c_common bare hr (by decide) rfl (pa_cons (pv 0) (pa_cons (pv 1) pa_nil))) (pe_un un_neg (pe_cg c_common bare hr (by decide) rfl (pa_cons (pv 0) (pa_cons (pv 1) pa_nil)))))))
  (pss_one (ps_ret (pe_tup (pa_cons (pe_op op_fdivZ (pv 0) (pv 2)) (pa_cons (pe_op op_fdivZ (pv 1) (pv 2)) pa_nil)))))), ?_⟩
    refine ⟨fun v H' => v = .int (gd a u) ∧ H' = H, ?_, ?_⟩
    · refine ⟨_, rfl, _, _, rfl, rfl, _, rfl, ?_⟩
      refine ite2 (fun h => ?_) (fun h => ?_)
      · refine ⟨_, rfl, _, rfl, a, u, rfl, ?_, rfl⟩
        unfold gd
        rw [if_pos (of_decide_eq_true h)]
      · refine ⟨_, rfl, _, rfl, a, u, rfl, _, rfl, ?_, rfl⟩
        unfold gd
        rw [if_neg (fun z => h (decide_eq_true z))]
    · rintro v H' ⟨rfl, rfl⟩
      have s := sm_div (gd_sm (a := a) hu su) (gd_ne hu)
      refine ⟨_, rfl, _, rfl, _, _, rfl, rfl, s, _, rfl, _, rfl, _, _, rfl, rfl, s, by show 2 ≤ sizeLine; decide, fun p hp => ?_⟩
      have kk := k p hp
      rw [← lo_num hu, ← lo_den hu] at kk
      exact kk

/-! ### _law_purse, _law_from -/
def spPurse (K : PySem.W.Frag) : Sp := fun vs H Q _ => ∃ (a : Addr) (ns : List Int), vs = [.ref a] ∧ SqL K H a (ns.map V.int) ∧ ns.length ≤ 100000 ∧
  ∀ q H', H q = none → Same H H' → QAt (fun _ => False) H' q 0 → Q (.ref q) H'
theorem sc__law_purse : FnScope ["_law_script", "_law_cell"] ["_law_script"] (defScope s__law_purse) := ⟨rfl, rfl, rfl, by decide +kernel, rfl, by decide +kernel, by decide +kernel⟩
theorem ok_purse {f : Addr} {fd : FuncData} (F : Fun K "_law_purse" "_law_purse" s__law_purse f fd) (T : Blt mg) : FnG P w K mg base CX0 2 f fd ["_law_script"] (spPurse K) := by
  refine fun_okG F sc__law_purse (fun vs H Q E h => ?_) (fun cdv A outer s H vs Q E bare hr h => ?_)
  · obtain ⟨a, ns, rfl, _⟩ := h
    rfl
  · obtain ⟨a, ns, rfl, hS, hl, k⟩ := h
    refine ⟨_, (pss_one (ps_ret (pe_lst (pa_cons (pe_map (K := K) (j := 1) (pe_lc (own := [("_law_cell", 1)]) (g := gName 1) (tt := tYes) rfl sc__law_purse.nd (pi_list (pe_cut (pv 0))) (blkOk_by (N := ["_law_script", "_law_cell"]) (sc := defScope s__law_purse) (by decide +kernel)) (fun _ _ _ _ _ => (pg_name (i := 1) sc__law_purse.nd rfl (Or.inl rfl))) (fun _ _ _ _ _ => pts_nil) (fun _ _ _ _ _ => (pe_cut (pe_op op_modN (pe_callTy call_int1 (by rfl) T.b_int (by decide +kernel) (pa_cons (pv 1) pa_nil)) (pe_op op_mulW (pe_op op_pow pe_int pe_int) (pe_op op_pow pe_int pe_int))))))) (pa_cons pe_int (pa_cons pe_int (pa_cons pe_int pa_nil))))))), ?_⟩
    refine ⟨_, rfl, a, ns.map V.int, (ns.map fun z => z.fmod (10 ^ Int.toNat 60 * 10 ^ Int.toNat 60)).map V.int, rfl, hS, by simp, by simpa using hl, ?_, fun D H1 s1 hD e1 => ?_⟩
    · intro i x y H' hx hy s'
      rw [List.getElem?_map] at hx
      rw [List.getElem?_map, List.getElem?_map] at hy
      cases e : ns[i]? with
      | none => rw [e] at hx; cases hx
      | some z =>
        rw [e] at hx hy
        obtain rfl := (Option.some.inj hx).symm
        obtain rfl := (Option.some.inj hy).symm
        refine ⟨_, rfl, Or.inl ⟨_, rfl, _, _, rfl, rfl, ⟨by decide, by decide, by decide⟩, _, _, rfl, rfl, ⟨by decide, by decide, by decide⟩, _, _, rfl, rfl, sm_mul (sm_lt (k := 61) (by decide) (by decide) (by decide)) (sm_lt (k := 61) (by decide) (by decide) (by decide)), _, _, rfl, rfl, (show (10 : Int) ^ Int.toNat 60 * 10 ^ Int.toNat 60 ≠ 0 by decide), ?_⟩⟩
        exact ⟨rfl, Same.refl _⟩
    · refine ⟨by show 4 ≤ sizeLine; decide, fun q hq => ?_⟩
      have nq : D ≠ q := ne_of_none e1 hq
      have hq' : H q = none := s1.free hq
      refine k q _ hq' (MG.Same.new s1 hq) ⟨D, _, 0, 0, 0, upd_same, (by rw [upd_ne nq]; exact e1), ?_, ⟨by simpa using hl, fun z => z⟩, by decide, by decide, by decide⟩
      intro y hy
      obtain ⟨z, _, rfl⟩ := List.mem_map.mp hy
      have e : (10 : Int) ^ Int.toNat 60 * 10 ^ Int.toNat 60 = 10 ^ 120 := by decide
      rw [e]
      exact ⟨fmod_ge (by decide), fmod_lt (by decide)⟩
abbrev PurseC (P : Program) (w : World) (K : PySem.W.Frag) (mg : Str → Option Value) (base : Heap) : Prop := CalG P w K mg base 2 "_law_purse" (spPurse K) []
theorem cut_map (ns : List Int) (lo hi : Option Int) : ∃ zs : List Int, cutV (ns.map V.int) lo hi = zs.map V.int ∧ zs.length ≤ ns.length := by
  refine ⟨(ns.drop (HT.sIx ns.length 0 lo)).take (HT.sIx ns.length ns.length hi - HT.sIx ns.length 0 lo), ?_, ?_⟩
  · unfold cutV
    rw [List.length_map, List.map_take, List.map_drop]
  · rw [List.length_take, List.length_drop]
    omega
def spFrom (K : PySem.W.Frag) : Sp := fun vs H Q _ => ∃ (a : Addr) (ns : List Int) (j : Int), vs = [.ref a, .int j] ∧ SqL K H a (ns.map V.int) ∧ ns.length ≤ 1000 ∧
  ∀ q H', H q = none → Same H H' → QAt (fun _ => False) H' q 0 → Q (.ref q) H'
theorem sc__law_from : FnScope ["_law_script", "_law_k"] ["_law_script", "_law_k"] (defScope s__law_from) := ⟨rfl, rfl, rfl, by decide +kernel, rfl, by decide +kernel, by decide +kernel⟩
theorem ok_from {f : Addr} {fd : FuncData} (F : Fun K "_law_from" "_law_from" s__law_from f fd) (c_purse : PurseC P w K mg base) : FnG P w K mg base CX0 4 f fd ["_law_script", "_law_k"] (spFrom K) := by
  refine fun_okG F sc__law_from (fun vs H Q E h => ?_) (fun cdv A outer s H vs Q E bare hr h => ?_)
  · obtain ⟨a, ns, j, rfl, _⟩ := h
    rfl
  · obtain ⟨a, ns, j, rfl, hS, hl, k⟩ := h
    obtain ⟨z1, e1, l1⟩ := cut_map ns (some j) none
    obtain ⟨z2, e2, l2⟩ := cut_map ns none (some j)
    refine ⟨_, (pss_one (ps_ret (pe_cg c_purse bare hr (by decide) rfl (pa_cons (pe_op op_cat (pe_slice sl_list (pv 0) (po_some (pv 1)) po_none) (pe_slice sl_list (pv 0) po_none (po_some (pv 1)))) pa_nil)))), ?_⟩
    refine ⟨_, rfl, _, rfl, j, rfl, a, _, rfl, hS, fun p hp => ?_⟩
    have s1 : Same H (upd H p (.lst (cutV (ns.map V.int) (some j) none))) := MG.Same.new (Same.refl H) hp
    refine ⟨_, rfl, _, rfl, j, rfl, a, _, rfl, s1.seq hS, fun p2 hp2 => ?_⟩
    have n12 : p ≠ p2 := ne_of_none upd_same hp2
    have s2 := MG.Same.new (o := .lst (cutV (ns.map V.int) none (some j))) s1 hp2
    refine ⟨p, p2, _, _, rfl, rfl, by rw [upd_ne n12]; exact upd_same, upd_same, ?_, fun p3 hp3 => ?_⟩
    · rw [e1, e2, List.length_map, List.length_map]
      exact Nat.le_trans (m := 2000) (by omega) (by decide)
    · refine ⟨p3, z1 ++ z2, rfl, ?_, by rw [List.length_append]; omega, fun q H' hq s q0 => ?_⟩
      · refine SqL.of ?_
        rw [upd_same, e1, e2, List.map_append]
      · have s3 := MG.Same.new (o := .lst (cutV (ns.map V.int) (some j) none ++ cutV (ns.map V.int) none (some j))) s2 hp3
        exact k q H' (s3.free hq) (s3.trans s) q0
end
end Lw

namespace Lw
open PySem PySem.Spec PyProof.Rows L2 MG
abbrev s_is_whole : Stmt := top 7
abbrev s_is_number : Stmt := top 8
abbrev s_to_ratio : Stmt := top 9
abbrev s_Ratio___init__ : Stmt := inClass (top 11) 0
abbrev s_Ratio_top : Stmt := inClass (top 11) 1
abbrev s_Ratio_bottom : Stmt := inClass (top 11) 2
abbrev s_Ratio_over : Stmt := inClass (top 11) 4
abbrev s_Ratio___add__ : Stmt := inClass (top 11) 5
abbrev s_Ratio___sub__ : Stmt := inClass (top 11) 6
abbrev s_Ratio___mul__ : Stmt := inClass (top 11) 7
abbrev s_Ratio___neg__ : Stmt := inClass (top 11) 8
abbrev s_Ratio___eq__ : Stmt := inClass (top 11) 9
abbrev s_Ratio___bool__ : Stmt := inClass (top 11) 10
abbrev s_Ratio___str__ : Stmt := inClass (top 11) 11
abbrev s_Ratio___repr__ : Stmt := inClass (top 11) 12
/-- what the top says of the class Ratio, at C -/
structure TxR (K : PySem.W.Frag) (mg : Str → Option Value) (C : Addr) : Prop extends Blt mg where
  cl : Cls K C
  nT : NoAttr K C "_top"
  nB : NoAttr K C "_bottom"
  g_Ratio : mg "Ratio" = some (.ref C)
  g_gcd : mg "gcd" = some (.builtin "math.gcd")
  ca : PySem.W.findIn K (.ref C) "__class__" = some (some (.builtin "object.__class__"))
  cn : PySem.W.specialIn K (.builtin "object.__class__") "__get__" = some (some (.builtin "getset_descriptor.__get__"))
  ct : PySem.W.takesIn K (.builtin "object.__class__") = some true
  cm : PySem.W.mroIn K C (.type "object") = some true
  kI : PySem.W.kitOne K (.ref C) (.type "int") = some false
  kB : PySem.W.kitOne K (.ref C) (.type "bool") = some false
  kC : PySem.W.kitOne K (.ref C) (.ref C) = some true
  iC : PySem.W.kitOne K (.type "int") (.ref C) = some false
def flds (p : Rat) : List (Str × V) := [("_top", .int p.num), ("_bottom", .int p.den)]
theorem kn : ¬ (("_top" : Str) = "_bottom") := by decide +kernel
theorem flds_put (a b : Int) : putF "_bottom" (.int b) (putF "_top" (.int a) []) = ([("_top", .int a), ("_bottom", .int b)] : List (Str × V)) := by
  show (if ("_top" : Str) = "_bottom" then _ else (("_top" : Str), V.int a) :: putF "_bottom" (V.int b) []) = _
  rw [if_neg kn]
  rfl
theorem flds_top (p : Rat) : (flds p).lookup ("_top" : Str) = some (.int p.num) := by simp [flds, List.lookup]
theorem flds_bottom (p : Rat) : (flds p).lookup ("_bottom" : Str) = some (.int p.den) := by
  have h : (("_bottom" : Str) == "_top") = false := by decide +kernel
  simp [flds, List.lookup, h]
theorem flds_no (p : Rat) {m : Str} (h1 : (m == ("_top" : Str)) = false) (h2 : (m == ("_bottom" : Str)) = false) : (flds p).lookup m = none := by
  simp [flds, List.lookup, h1, h2]
/-- a Ratio of the value p stands at r -/
def RatAt (C : Addr) (H : Hp) (r : Addr) (p : Rat) : Prop := ∃ dx, H r = some (.ins C dx (flds p))
theorem RatAt.same {C : Addr} {H H' : Hp} {r : Addr} {p : Rat} (h : RatAt C H r p) (s : Same H H') : RatAt C H' r p := h.elim fun dx e => ⟨dx, s _ _ e⟩
theorem RatAt.tyx {K : PySem.W.Frag} {mg : Str → Option Value} {C : Addr} {H : Hp} {r : Addr} {p : Rat} (T : TxR K mg C) (h : RatAt C H r p) : TyX K H (.ref r) (.ref C) :=
  h.elim fun dx e => .base (.ins e T.cl T.ca T.cn T.ct T.cm)
theorem tyx_int {K : PySem.W.Frag} {H : Hp} (i : Int) : TyX K H (.int i) (.type "int") := .base (.int i)
section
variable {P : Program} {w : World} {K : PySem.W.Frag} {mg : Str → Option Value} {base : Heap} {C : Addr}
/-! ### is_whole, is_number -/
def spWhole (K : PySem.W.Frag) : Sp := fun vs H Q _ => ∃ (x : V) (t : Value) (b1 b2 : Bool), vs = [x] ∧ TyX K H x t ∧
  PySem.W.kitOne K t (.type "int") = some b1 ∧ PySem.W.kitOne K t (.type "bool") = some b2 ∧ Q (.bl (b1 && !b2)) H
theorem sc_is_whole : FnScope ["value"] ["value"] (defScope s_is_whole) := ⟨rfl, rfl, rfl, by decide +kernel, rfl, by decide +kernel, by decide +kernel⟩
theorem ok_whole {f : Addr} {fd : FuncData} (F : Fun K "is_whole" "is_whole" s_is_whole f fd) (T : Blt mg) : FnOk P w K mg base CX0 2 f fd ["value"] (spWhole K) := by
  refine F.ok sc_is_whole (fun vs H Q E h => ?_) (fun cdv A outer s H vs Q E hr h => ?_)
  · obtain ⟨x, t, b1, b2, rfl, _⟩ := h
    rfl
  · obtain ⟨x, t, b1, b2, rfl, tx, k1, k2, k⟩ := h
    refine ⟨_, (pss_one (ps_ret (pe_and (pe_callB (id := "isinstance") (call_isiK (K := K)) (by rfl) T.b_isinstance (by decide +kernel) (pa_cons (pv 0) (pa_cons (pe_bltn (v := V.ty "int") (u := Value.type "int") (by rfl) T.b_int (by decide +kernel) rfl) pa_nil))) (pe_one (pe_not (pe_callB (id := "isinstance") (call_isiK (K := K)) (by rfl) T.b_isinstance (by decide +kernel) (pa_cons (pv 0) (pa_cons (pe_bltn (v := V.ty "bool") (u := Value.type "bool") (by rfl) T.b_bool (by decide +kernel) rfl) pa_nil)))))))), ?_⟩
    refine ⟨_, rfl, x, _, _, _, _, rfl, .ty "int", tx, k1, _, rfl, ?_⟩
    cases b1 with
    | false => exact iteF k
    | true =>
      refine iteT ?_
      refine ⟨_, rfl, x, _, _, _, _, rfl, .ty "bool", tx, k2, _, rfl, ?_⟩
      exact k
abbrev WholeC (P : Program) (w : World) (K : PySem.W.Frag) (mg : Str → Option Value) (base : Heap) : Prop := CalF P w K mg base 2 "is_whole" (spWhole K) []
def spNumber (K : PySem.W.Frag) (C : Addr) : Sp := fun vs H Q _ => ∃ (x : V) (t : Value) (b1 b2 b3 : Bool), vs = [x] ∧ TyX K H x t ∧
  PySem.W.kitOne K t (.type "int") = some b1 ∧ PySem.W.kitOne K t (.type "bool") = some b2 ∧ PySem.W.kitOne K t (.ref C) = some b3 ∧ Q (.bl ((b1 && !b2) || b3)) H
theorem sc_is_number : FnScope ["value"] ["value"] (defScope s_is_number) := ⟨rfl, rfl, rfl, by decide +kernel, rfl, by decide +kernel, by decide +kernel⟩
theorem ok_number {f : Addr} {fd : FuncData} (F : Fun K "is_number" "is_number" s_is_number f fd) (T : TxR K mg C) (c_whole : WholeC P w K mg base) : FnOk P w K mg base CX0 4 f fd ["value"] (spNumber K C) := by
  refine F.ok sc_is_number (fun vs H Q E h => ?_) (fun cdv A outer s H vs Q E hr h => ?_)
  · obtain ⟨x, t, b1, b2, b3, rfl, _⟩ := h
    rfl
  · obtain ⟨x, t, b1, b2, b3, rfl, tx, k1, k2, k3, k⟩ := h
    refine ⟨_, (pss_one (ps_ret (pe_or (pe_cf c_whole hr (by decide) rfl (pa_cons (pv 0) pa_nil)) (pe_one (pe_callB (id := "isinstance") (call_isiK (K := K)) (by rfl) T.b_isinstance (by decide +kernel) (pa_cons (pv 0) (pa_cons (pe_glob (v := V.ref C) rfl T.g_Ratio rfl) pa_nil))))))), ?_⟩
    refine ⟨_, rfl, x, t, b1, b2, rfl, tx, k1, k2, _, rfl, ?_⟩
    cases e : (b1 && !b2) with
    | true =>
      refine iteT ?_
      rw [e] at k
      exact k
    | false =>
      refine iteF ?_
      rw [e] at k
      exact ⟨_, rfl, x, _, _, _, _, rfl, .own C, tx, k3, k⟩
abbrev NumberC (P : Program) (w : World) (K : PySem.W.Frag) (mg : Str → Option Value) (base : Heap) (C : Addr) : Prop := CalF P w K mg base 4 "is_number" (spNumber K C) []
/-! ### Ratio(top, bottom), where both are integers and the bottom is not 0 -/
def spInit (C : Addr) : Sp := fun vs H Q _ => ∃ (r dx : Addr) (a b : Int), vs = [.ref r, .int a, .int b] ∧ H r = some (.ins C dx []) ∧ b ≠ 0 ∧ Sm b ∧
  ∀ H', H' r = some (.ins C dx (flds (Rat.divInt a b))) → (∀ c o, H c = some o → c ≠ r → H' c = some o) → Q .non H'
theorem sc_Ratio___init__ : FnScope ["self", "top", "bottom", "given", "shared"] ["self", "top", "bottom"] (defScope s_Ratio___init__) := ⟨rfl, rfl, rfl, by decide +kernel, rfl, by decide +kernel, by decide +kernel⟩
theorem ok_init {f : Addr} {fd : FuncData} {dvs : List V} (F : FunD K "__init__" "Ratio.__init__" (defArgs s_Ratio___init__) (defBody s_Ratio___init__) (defScope s_Ratio___init__) dvs [] f fd) (T : TxR K mg C) (c_whole : WholeC P w K mg base) : FnOk P w K mg base CX0 4 f fd ["self", "top", "bottom"] (spInit C) := by
  refine F.ok sc_Ratio___init__ (fun vs H Q E h => ?_) (fun cdv A outer s H vs Q E hr h => ?_)
  · obtain ⟨r, dx, a, b, rfl, _⟩ := h
    rfl
  · obtain ⟨r, dx, a, b, rfl, hr0, hb, sb, k⟩ := h
    suffices hh : ∃ t, PSs (cxOf CX0 P w K mg base ["self", "top", "bottom", "given", "shared"] "Ratio.__init__" (defScope s_Ratio___init__) f cdv A outer s H E).nox (defBody s_Ratio___init__) t ∧ t { nx := fun _ H' => Q .non H', rt := Q } (start ["self", "top", "bottom", "given", "shared"] [.ref r, .int a, .int b]) H by
      obtain ⟨t, h1, h2⟩ := hh
      exact ⟨t, h1.nox, h2⟩
    refine ⟨_, (pss_cons (ps_for PassesOwn.never rfl (pi_tup (pe_tup (pa_cons (pv 1) (pa_cons (pv 2) pa_nil)))) (pg_name (i := 3) sc_Ratio___init__.nd rfl (Or.inl rfl))
  (pss_one (ps_if (pt_not (pt_val (pe_cf c_whole hr (by decide) rfl (pa_cons (pv 3) pa_nil)))) (pss_one ps_never)
  pss_nil)))
  (pss_cons (ps_if (pt_cmpR op_eq (pv 2) pe_int (nomark _)) (pss_one ps_never)
  pss_nil)
  (pss_cons (ps_set (i := 4) sc_Ratio___init__.nd rfl (Or.inl rfl) (pe_callBfun cr_gcd rfl T.g_gcd (pa_cons (pv 1) (pa_cons (pv 2) pa_nil))))
  (pss_cons (ps_cut (ps_if (pt_cmpR op_lt (pv 2) pe_int (nomark _)) (pss_one (ps_set (i := 4) sc_Ratio___init__.nd rfl (Or.inl rfl) (pe_un un_neg (pv 4))))
  pss_nil))
  (pss_cons (ps_fld (pv 0) (pe_op op_fdivZ (pv 1) (pv 4)) rfl)
  (pss_one (ps_fld (pv 0) (pe_op op_fdivZ (pv 2) (pv 4)) rfl))))))), ?_⟩
    -- for given in (top, bottom)
    refine ⟨_, rfl, _, rfl, by show 2 ≤ sizeLine; decide, fun t ht => ⟨t, rfl, ⟨_, SqT.of upd_same⟩, ?_⟩⟩
    have s1 : Same H (upd H t (.tup [.int a, .int b])) := MG.Same.new (Same.refl H) ht
    refine for_tup (K := K) (a := t) (xs := [.int a, .int b]) (fun i σ H' => H' = upd H t (.tup [.int a, .int b]) ∧ ∃ v : Option V, σ = [some (.ref r), some (.int a), some (.int b), v, none]) ⟨rfl, none, rfl⟩ ?_ ?_ ?_
    · rintro i σ H' _ ⟨rfl, _⟩
      exact SqT.of upd_same
    · rintro i x σ H' hx ⟨rfl, v, rfl⟩
      obtain ⟨z, rfl⟩ : ∃ z, x = V.int z := by
        match i, hx with
        | 0, hx => exact ⟨a, (Option.some.inj hx).symm⟩
        | 1, hx => exact ⟨b, (Option.some.inj hx).symm⟩
      refine ⟨_, rfl, _, _, true, false, rfl, tyx_int z, kit_ty (by decide +kernel), kit_ty (by decide +kernel), _, rfl, ?_⟩
      exact ⟨rfl, _, rfl⟩
    · rintro σ H' ⟨rfl, v, rfl⟩
      -- if bottom == 0
      refine ⟨_, rfl, rfl, _, rfl, ?_⟩
      refine ite2 (fun z => ?_) (fun _ => ?_)
      · exact absurd (V.int.inj (of_decide_eq_true z)) hb
      -- shared = gcd(top, bottom); if bottom < 0: shared = -shared
      refine ⟨_, rfl, _, rfl, a, b, rfl, ?_⟩
      refine ⟨fun σ H' => H' = upd H t (.tup [.int a, .int b]) ∧ σ = [some (.ref r), some (.int a), some (.int b), v, some (.int (gd a b))], ?_, ?_⟩
      · refine ⟨_, rfl, _, _, rfl, rfl, _, rfl, ?_⟩
        refine ite2 (fun z => ?_) (fun z => ?_)
        · refine ⟨_, rfl, _, rfl, rfl, ?_⟩
          have hz : b < 0 := of_decide_eq_true z
          unfold gd
          rw [if_neg (by omega)]
          rfl
        · refine ⟨rfl, ?_⟩
          have hz : ¬ b < 0 := fun q => z (decide_eq_true q)
          unfold gd
          rw [if_pos (by omega)]
          rfl
      rintro σ H' ⟨rfl, rfl⟩
      have ds := sm_div (gd_sm (a := a) hb sb) (gd_ne hb)
      have hr1 := s1 _ _ hr0
      -- self._top = top // shared; self._bottom = bottom // shared
      refine ⟨_, rfl, _, rfl, _, _, rfl, rfl, ds, _, rfl, r, C, dx, _, rfl, hr1, T.cl, T.nT, (by show 0 < 1000; decide), ?_⟩
      refine ⟨_, rfl, _, rfl, _, _, rfl, rfl, ds, _, rfl, r, C, dx, _, rfl, upd_same, T.cl, T.nB, (by show 1 < 1000; decide), ?_⟩
      refine k _ ?_ fun c o hc hne => ?_
      · rw [upd_same, flds_put, lo_num hb, lo_den hb]
        rfl
      · rw [upd_ne hne, upd_ne hne]
        exact s1 _ _ hc
abbrev Rat2C (P : Program) (w : World) (K : PySem.W.Frag) (mg : Str → Option Value) (base : Heap) (C : Addr) : Prop := MakF P w K mg base 4 "Ratio" C (spInit C) []
abbrev Rat1C (P : Program) (w : World) (K : PySem.W.Frag) (mg : Str → Option Value) (base : Heap) (C : Addr) : Prop := MakF P w K mg base 4 "Ratio" C (spInit C) [.int 1]
/-- the reading of Ratio(a, b) -/
theorem make_rat {H : Hp} {a b : Int} {Q : VK} (hb : b ≠ 0) (sb : Sm b) (k : ∀ r H', H r = none → Same H H' → RatAt C H' r (Rat.divInt a b) → Q (.ref r) H') :
    ∀ x dx, H x = none → H dx = none → dx ≠ x → spInit C [.ref x, .int a, .int b] (upd (upd H dx (.own x)) x (.ins C dx [])) (fun v H2 => v = .non ∧ Q (.ref x) H2) E0 := by
  intro x dx hx hdx hne
  refine ⟨x, dx, a, b, rfl, upd_same, hb, sb, fun H' e kp => ⟨rfl, k x H' hx (fun c o hc => ?_) ⟨dx, e⟩⟩⟩
  have n1 := ne_of_none hc hx
  have n2 := ne_of_none hc hdx
  exact kp c o (by rw [upd_ne n1, upd_ne n2]; exact hc) n1
/-! ### to_ratio -/
/-- a number: a Ratio, or an int -/
def NumAt (C : Addr) (H : Hp) (y : V) (q : Rat) : Prop := (∃ r, y = .ref r ∧ RatAt C H r q) ∨ ∃ z : Int, y = .int z ∧ q = Rat.divInt z 1
theorem NumAt.same {H H' : Hp} {y : V} {q : Rat} (h : NumAt C H y q) (s : Same H H') : NumAt C H' y q := by
  rcases h with ⟨r, e, h⟩ | h
  · exact .inl ⟨r, e, h.same s⟩
  · exact .inr h
theorem NumAt.is {H : Hp} {y : V} {q : Rat} (T : TxR K mg C) (h : NumAt C H y q) : ∃ t b1 b2 b3, TyX K H y t ∧ PySem.W.kitOne K t (.type "int") = some b1 ∧ PySem.W.kitOne K t (.type "bool") = some b2 ∧
    PySem.W.kitOne K t (.ref C) = some b3 ∧ ((b1 && !b2) || b3) = true := by
  rcases h with ⟨r, rfl, h⟩ | ⟨z, rfl, _⟩
  · exact ⟨_, _, _, _, h.tyx T, T.kI, T.kB, T.kC, rfl⟩
  · exact ⟨_, true, false, _, tyx_int z, kit_ty (by decide +kernel), kit_ty (by decide +kernel), T.iC, rfl⟩
/-! ### the operators -/
def spNeg (C : Addr) : Sp := fun vs H Q _ => ∃ (r : Addr) (p : Rat), vs = [.ref r] ∧ RatAt C H r p ∧ Bd p 390 ∧ ∀ r' H', Same H H' → RatAt C H' r' (-p) → Q (.ref r') H'
theorem sc_Ratio___neg__ : FnScope ["self"] ["self"] (defScope s_Ratio___neg__) := ⟨rfl, rfl, rfl, by decide +kernel, rfl, by decide +kernel, by decide +kernel⟩
theorem ok_neg {f : Addr} {fd : FuncData} (F : Fun K "__neg__" "Ratio.__neg__" s_Ratio___neg__ f fd) (T : TxR K mg C) (m_rat2 : Rat2C P w K mg base C) : FnOk P w K mg base CX0 8 f fd ["self"] (spNeg C) := by
  refine F.ok sc_Ratio___neg__ (fun vs H Q E h => ?_) (fun cdv A outer s H vs Q E hr h => ?_)
  · obtain ⟨r, p, rfl, _⟩ := h
    rfl
  · obtain ⟨r, p, rfl, hp, bp, k⟩ := h
    refine ⟨_, (pss_one (ps_ret (pe_mkf m_rat2 hr (by decide) rfl (pa_cons (pe_un un_neg (pe_fld (pv 0) rfl)) (pa_cons (pe_fld (pv 0) rfl) pa_nil))))), ?_⟩
    obtain ⟨d1, e1⟩ := id hp
    refine ⟨_, rfl, r, C, d1, _, _, rfl, e1, T.cl, T.nT, flds_top p, _, rfl, _, rfl, r, C, d1, _, _, rfl, e1, T.cl, T.nB, flds_bottom p, ?_⟩
    refine make_rat (by have := p.den_nz; omega) (bp.den (by decide)) fun r' H' _ s h => k r' H' s ?_
    rw [neg_eq]
    exact h
def spEqR (K : PySem.W.Frag) (C : Addr) : Sp := fun vs H Q _ => ∃ (r : Addr) (p : Rat) (y : V), vs = [.ref r, y] ∧ RatAt C H r p ∧
  ((∃ r2 q, y = .ref r2 ∧ RatAt C H r2 q ∧ Q (.bl (decide (p = q))) H) ∨ ∃ t, TyX K H y t ∧ PySem.W.kitOne K t (.ref C) = some false ∧ Q (.bl false) H)
theorem sc_Ratio___eq__ : FnScope ["self", "other"] ["self", "other"] (defScope s_Ratio___eq__) := ⟨rfl, rfl, rfl, by decide +kernel, rfl, by decide +kernel, by decide +kernel⟩
theorem ok_eq {f : Addr} {fd : FuncData} (F : Fun K "__eq__" "Ratio.__eq__" s_Ratio___eq__ f fd) (T : TxR K mg C) : FnOk P w K mg base CX0 2 f fd ["self", "other"] (spEqR K C) := by
  refine F.ok sc_Ratio___eq__ (fun vs H Q E h => ?_) (fun cdv A outer s H vs Q E hr h => ?_)
  · obtain ⟨r, p, y, rfl, _⟩ := h
    rfl
  · obtain ⟨r, p, y, rfl, hp, h⟩ := h
    refine ⟨_, (pss_one (ps_ret (pe_and (pe_callB (id := "isinstance") (call_isiK (K := K)) (by rfl) T.b_isinstance (by decide +kernel) (pa_cons (pv 1) (pa_cons (pe_glob (v := V.ref C) rfl T.g_Ratio rfl) pa_nil))) (pe_and (pe_cmpR op_eq (pe_fld (pv 0) rfl) (pe_fld (pv 1) rfl) (nomark _)) (pe_one (pe_cmpR op_eq (pe_fld (pv 0) rfl) (pe_fld (pv 1) rfl) (nomark _))))))), ?_⟩
    obtain ⟨d1, e1⟩ := id hp
    rcases h with ⟨r2, q, rfl, hq, k⟩ | ⟨t, ty, ki, k⟩
    · obtain ⟨d2, e2⟩ := id hq
      refine ⟨_, rfl, _, _, _, _, _, rfl, .own C, hq.tyx T, T.kC, _, rfl, ?_⟩
      refine iteT ?_
      refine ⟨_, rfl, r, C, d1, _, _, rfl, e1, T.cl, T.nT, flds_top p, _, rfl, r2, C, d2, _, _, rfl, e2, T.cl, T.nT, flds_top q, rfl, _, rfl, ?_⟩
      rw [rat_dec] at k
      have en : decide (V.int p.num = V.int q.num) = decide (p.num = q.num) := by simp
      have ed : decide (V.int p.den = V.int q.den) = decide ((p.den : Int) = q.den) := by simp
      rw [en]
      cases e : decide (p.num = q.num) with
      | false =>
        rw [e] at k
        exact iteF k
      | true =>
        rw [e, Bool.true_and] at k
        refine iteT ?_
        refine ⟨_, rfl, r, C, d1, _, _, rfl, e1, T.cl, T.nB, flds_bottom p, _, rfl, r2, C, d2, _, _, rfl, e2, T.cl, T.nB, flds_bottom q, rfl, ?_⟩
        rw [ed]
        exact k
    · refine ⟨_, rfl, _, _, _, _, _, rfl, .own C, ty, ki, _, rfl, ?_⟩
      exact iteF k
def spTop (C : Addr) : Sp := fun vs H Q _ => ∃ (r : Addr) (p : Rat), vs = [.ref r] ∧ RatAt C H r p ∧ Q (.int p.num) H
def spBottom (C : Addr) : Sp := fun vs H Q _ => ∃ (r : Addr) (p : Rat), vs = [.ref r] ∧ RatAt C H r p ∧ Q (.int p.den) H
theorem sc_Ratio_top : FnScope ["self"] ["self"] (defScope s_Ratio_top) := ⟨rfl, rfl, rfl, by decide +kernel, rfl, by decide +kernel, by decide +kernel⟩
theorem ok_top {f : Addr} {fd : FuncData} (F : Fun K "top" "Ratio.top" s_Ratio_top f fd) (T : TxR K mg C) : FnOk P w K mg base CX0 2 f fd ["self"] (spTop C) := by
  refine F.ok sc_Ratio_top (fun vs H Q E h => ?_) (fun cdv A outer s H vs Q E hr h => ?_)
  · obtain ⟨r, p, rfl, _⟩ := h
    rfl
  · obtain ⟨r, p, rfl, ⟨d1, e1⟩, k⟩ := h
    exact ⟨_, (pss_one (ps_ret (pe_fld (pv 0) rfl))), _, rfl, r, C, d1, _, _, rfl, e1, T.cl, T.nT, flds_top p, k⟩
theorem sc_Ratio_bottom : FnScope ["self"] ["self"] (defScope s_Ratio_bottom) := ⟨rfl, rfl, rfl, by decide +kernel, rfl, by decide +kernel, by decide +kernel⟩
theorem ok_bottom {f : Addr} {fd : FuncData} (F : Fun K "bottom" "Ratio.bottom" s_Ratio_bottom f fd) (T : TxR K mg C) : FnOk P w K mg base CX0 2 f fd ["self"] (spBottom C) := by
  refine F.ok sc_Ratio_bottom (fun vs H Q E h => ?_) (fun cdv A outer s H vs Q E hr h => ?_)
  · obtain ⟨r, p, rfl, _⟩ := h
    rfl
  · obtain ⟨r, p, rfl, ⟨d1, e1⟩, k⟩ := h
    exact ⟨_, (pss_one (ps_ret (pe_fld (pv 0) rfl))), _, rfl, r, C, d1, _, _, rfl, e1, T.cl, T.nB, flds_bottom p, k⟩
/-! ### truth and texts -/
def rt (p : Rat) : Str := ("Ratio(" : Str) ++ Str.ofString (toString p.num) ++ (", " : Str) ++ Str.ofString (toString (p.den : Int)) ++ (")" : Str)
def dg (p : Rat) : Str := if p.den = 1 then Str.ofString (toString p.num) else Str.ofString (toString p.num) ++ ("/" : Str) ++ Str.ofString (toString (p.den : Int))
theorem empty_add (x : Str) : Str.empty ++ x = x := by
  show Str.mk (#[] ++ x.cps) = x
  rw [Array.empty_append]
def spBool (C : Addr) : Sp := fun vs H Q _ => ∃ (r : Addr) (p : Rat), vs = [.ref r] ∧ RatAt C H r p ∧ Q (.bl (p.num != 0)) H
theorem sc_Ratio___bool__ : FnScope ["self"] ["self"] (defScope s_Ratio___bool__) := ⟨rfl, rfl, rfl, by decide +kernel, rfl, by decide +kernel, by decide +kernel⟩
theorem ok_bool {f : Addr} {fd : FuncData} (F : Fun K "__bool__" "Ratio.__bool__" s_Ratio___bool__ f fd) (T : TxR K mg C) : FnOk P w K mg base CX0 2 f fd ["self"] (spBool C) := by
  refine F.ok sc_Ratio___bool__ (fun vs H Q E h => ?_) (fun cdv A outer s H vs Q E hr h => ?_)
  · obtain ⟨r, p, rfl, _⟩ := h
    rfl
  · obtain ⟨r, p, rfl, ⟨d1, e1⟩, k⟩ := h
    refine ⟨_, (pss_one (ps_ret (pe_callTy call_bool1 (by rfl) T.b_bool (by decide +kernel) (pa_cons (pe_fld (pv 0) rfl) pa_nil)))), ?_⟩
    exact ⟨_, rfl, r, C, d1, _, _, rfl, e1, T.cl, T.nT, flds_top p, .inl ⟨_, rfl, k⟩⟩
def spStr (C : Addr) : Sp := fun vs H Q _ => ∃ (r : Addr) (p : Rat), vs = [.ref r] ∧ RatAt C H r p ∧ Sm p.num ∧ Sm (p.den : Int) ∧ Q (.str (dg p)) H
theorem len_ofTxt {i : Int} (h : Sm i) : (Str.ofString (toString i)).length ≤ 1921 := txt_len h
theorem sc_Ratio___str__ : FnScope ["self"] ["self"] (defScope s_Ratio___str__) := ⟨rfl, rfl, rfl, by decide +kernel, rfl, by decide +kernel, by decide +kernel⟩
theorem ok_str {f : Addr} {fd : FuncData} (F : Fun K "__str__" "Ratio.__str__" s_Ratio___str__ f fd) (T : TxR K mg C) : FnOk P w K mg base CX0 2 f fd ["self"] (spStr C) := by
  refine F.ok sc_Ratio___str__ (fun vs H Q E h => ?_) (fun cdv A outer s H vs Q E hr h => ?_)
  · obtain ⟨r, p, rfl, _⟩ := h
    rfl
  · obtain ⟨r, p, rfl, ⟨d1, e1⟩, sn, sd, k⟩ := h
    refine ⟨_, (pss_cons (ps_if (pt_cmpR op_eq (pe_fld (pv 0) rfl) pe_int (nomark _)) (pss_one (ps_ret (pe_callTy call_str_int (by rfl) T.b_str (by decide +kernel) (pa_cons (pe_fld (pv 0) rfl) pa_nil))))
  pss_nil)
  (pss_one (ps_ret (pe_joined (PJ.cons (pe_fmt (pe_fld (pv 0) rfl)) (PJ.cons pe_str (PJ.cons (pe_fmt (pe_fld (pv 0) rfl)) PJ.nil))))))), ?_⟩
    refine ⟨_, rfl, r, C, d1, _, _, rfl, e1, T.cl, T.nB, flds_bottom p, rfl, _, rfl, ?_⟩
    unfold dg at k
    refine ite2 (fun h => ?_) (fun h => ?_)
    · have hd : p.den = 1 := by have := V.int.inj (of_decide_eq_true h); omega
      rw [if_pos hd] at k
      exact ⟨_, rfl, r, C, d1, _, _, rfl, e1, T.cl, T.nT, flds_top p, _, rfl, log_sm sn, k⟩
    · have hd : ¬ p.den = 1 := fun z => h (decide_eq_true (by rw [z]; rfl))
      rw [if_neg hd] at k
      have l1 := txt_len sn
      have l2 := txt_len sd
      refine ⟨_, rfl, r, C, d1, _, _, rfl, e1, T.cl, T.nT, flds_top p, .inr ⟨_, rfl, log_sm sn, _, rfl, ?_, _, rfl, ?_, _, rfl, r, C, d1, _, _, rfl, e1, T.cl, T.nB, flds_bottom p, .inr ⟨_, rfl, log_sm sd, _, rfl, ?_, ?_⟩⟩⟩
      · rw [empty_add]
        exact Nat.le_trans l1 (by decide)
      · rw [empty_add, strLen_append]
        exact Nat.le_trans (Nat.add_le_add l1 (Nat.le_refl 1)) (by decide)
      · rw [empty_add, strLen_append, strLen_append]
        exact Nat.le_trans (Nat.add_le_add (Nat.add_le_add l1 (Nat.le_refl 1)) l2) (by decide)
      · rw [empty_add]
        exact k
def spRepr (C : Addr) : Sp := fun vs H Q _ => ∃ (r : Addr) (p : Rat), vs = [.ref r] ∧ RatAt C H r p ∧ Sm p.num ∧ Sm (p.den : Int) ∧ Q (.str (rt p)) H
theorem rt_len {p : Rat} (h1 : Sm p.num) (h2 : Sm (p.den : Int)) : (rt p).length ≤ 4000 := by
  unfold rt
  rw [strLen_append, strLen_append, strLen_append, strLen_append]
  have l1 := txt_len h1
  have l2 := txt_len h2
  have e1 : (("Ratio(" : Str)).length = 6 := rfl
  have e2 : ((", " : Str)).length = 2 := rfl
  have e3 : ((")" : Str)).length = 1 := rfl
  omega
theorem sc_Ratio___repr__ : FnScope ["self"] ["self"] (defScope s_Ratio___repr__) := ⟨rfl, rfl, rfl, by decide +kernel, rfl, by decide +kernel, by decide +kernel⟩
theorem ok_repr {f : Addr} {fd : FuncData} (F : Fun K "__repr__" "Ratio.__repr__" s_Ratio___repr__ f fd) (T : TxR K mg C) : FnOk P w K mg base CX0 2 f fd ["self"] (spRepr C) := by
  refine F.ok sc_Ratio___repr__ (fun vs H Q E h => ?_) (fun cdv A outer s H vs Q E hr h => ?_)
  · obtain ⟨r, p, rfl, _⟩ := h
    rfl
  · obtain ⟨r, p, rfl, ⟨d1, e1⟩, sn, sd, k⟩ := h
    refine ⟨_, (pss_one (ps_ret (pe_joined (PJ.cons pe_str (PJ.cons (pe_fmt (pe_fld (pv 0) rfl)) (PJ.cons pe_str (PJ.cons (pe_fmt (pe_fld (pv 0) rfl)) (PJ.cons pe_str PJ.nil)))))))), ?_⟩
    have l1 := txt_len sn
    have l2 := txt_len sd
    have z1 : (("Ratio(" : Str)).length = 6 := rfl
    have z2 : ((", " : Str)).length = 2 := rfl
    have z3 : ((")" : Str)).length = 1 := rfl
    refine ⟨_, rfl, ?_, _, rfl, r, C, d1, _, _, rfl, e1, T.cl, T.nT, flds_top p, .inr ⟨_, rfl, log_sm sn, _, rfl, ?_, _, rfl, ?_, _, rfl, r, C, d1, _, _, rfl, e1, T.cl, T.nB, flds_bottom p, .inr ⟨_, rfl, log_sm sd, _, rfl, ?_, _, rfl, ?_, ?_⟩⟩⟩
    · rw [empty_add]; decide
    · rw [empty_add, strLen_append]; exact Nat.le_trans (m := 4000) (by omega) (by decide)
    · rw [empty_add, strLen_append, strLen_append]; exact Nat.le_trans (m := 4000) (by omega) (by decide)
    · rw [empty_add, strLen_append, strLen_append, strLen_append]; exact Nat.le_trans (m := 4000) (by omega) (by decide)
    · rw [empty_add, strLen_append, strLen_append, strLen_append, strLen_append]; exact Nat.le_trans (m := 4000) (by omega) (by decide)
    · rw [empty_add]; exact k
/-- how a Ratio is shown -/
def ownR (C : Addr) : Hp → Addr → Str → Prop := fun H a t => ∃ p, RatAt C H a p ∧ Sm p.num ∧ Sm (p.den : Int) ∧ t = rt p
theorem ownR_same {H H' : Hp} {a : Addr} {t : Str} (h : ownR C H a t) (s : Same H H') : ownR C H' a t := h.elim fun p ⟨h, r⟩ => ⟨p, h.same s, r⟩
theorem ownF (d : DunF P w K mg base 2 C "__repr__" (spRepr C)) : OwnF P w K mg base (ownR C) 2 :=
  ⟨C, spRepr C, d, fun H a t ⟨p, h, s1, s2, e⟩ => ⟨h.elim fun dx e => ⟨dx, _, e⟩, fun H1 s => ⟨a, p, rfl, h.same s, s1, s2, by rw [e], Same.refl H1⟩⟩⟩
end
end Lw

/-! own errors with their own __init__, raised, caught, read; calls in a try; things of any kind -/
namespace MG
open PySem PySem.Spec PyProof.Rows L2

theorem TyX.same {K : PySem.W.Frag} {H H' : Hp} {x : V} {t : Value} (h : TyX K H x t) (s : Same H H') : TyX K H' x t := by
  cases h with
  | base h =>
    cases h with
    | non => exact .base .non
    | bl x => exact .base (.bl x)
    | int i => exact .base (.int i)
    | str x => exact .base (.str x)
    | flt x => exact .base (.flt x)
    | lst e => exact .base (.lst (s _ _ e))
    | frz e => exact .base (.frz (s _ _ e))
    | tup e => exact .base (.tup (s _ _ e))
    | dK e => exact .base (.dK (s _ _ e))
    | dT e => exact .base (.dT (s _ _ e))
    | ins e cl ha hn htk hm => exact .base (.ins (s _ _ e) cl ha hn htk hm)
  | byt b => exact .byt b
  | set e => exact .set (s _ _ e)
  | kList e c => exact .kList e c
  | kTuple e c => exact .kTuple e c
  | kDict e c => exact .kDict e c
  | fTuple e => exact .fTuple (s _ _ e)
  | fDict e => exact .fDict (s _ _ e)

section
variable {X : Cx} {CX : CXT} {k : Nat} {f C : Addr} {fd : FuncData} {ps : List Str} {sp : Sp} {dvs : List V} {ds : List Value} {E : L2.St → XK} {x m : Str} {p pos apos : Pos} {e o : Expr} {es : List Expr} {ta : TE} {t : TA}
/-- C(..) in a try: what is raised is wished for at the slots -/
def tMakeS (C : Addr) (sp : Sp) (dvs : List V) (E : L2.St → XK) (t : TA) : TE := fun σ H Q => t σ H fun vs H1 => ∀ x dx, H1 x = none → H1 dx = none → dx ≠ x →
  sp (.ref x :: (vs ++ dvs)) (upd (upd H1 dx (.own x)) x (.ins C dx [])) (fun v H2 => v = .non ∧ Q (.ref x) H2) (E σ)
/-- o.m(..) in a try -/
def tMethS (C : Addr) (m : Str) (sp : Sp) (dvs : List V) (E : L2.St → XK) (ta : TE) (t : TA) : TE := fun σ H Q => ta σ H fun x H1 => ∃ a dx fs, x = .ref a ∧ H1 a = some (.ins C dx fs) ∧ fs.lookup m = none ∧
  t σ H1 fun vs H2 => sp (x :: (vs ++ dvs)) H2 Q (E σ)
theorem run_fnS' {pins : List (Addr × Obj)} {σ : L2.St} {H : Hp} {s : Shared} {Q : VK} {us : List Value} {vs : List V} (F : FnOk X.prog X.w X.K X.mg X.base CX k f fd ps sp) (hr : Room k X.A) (hb : Binds X.K fd ps ds) (hd : Vals dvs ds) (hx : PassesAt CX X σ (E σ))
    (I : Inv X pins σ H s) (r : Vals vs us) (h : sp (vs ++ dvs) H Q (E σ)) : wpAny (model X.prog X.w) X.A (call (.ref f) us) (EP X pins σ Q) X.xe s := by
  have r2 : Vals (vs ++ dvs) (us ++ ds) := r.append hd
  have hl : (us ++ ds).length = ps.length := by rw [← r2.length]; exact F.len _ _ _ _ h
  refine wpAny_call (codeAny_mono (F.run X.A X.stack s H ⟨us, []⟩ (us ++ ds) (vs ++ dvs) Q (E σ) hr I.env0 (hb s us I.kIn hl) r2 h) fun r s' hq => ?_)
  cases r with
  | error e => exact hx pins H s e s' I hq
  | ok fl =>
    cases fl with
    | ret u => exact I.after hq
    | next => exact False.elim hq
    | brk => exact False.elim hq
    | cont => exact False.elim hq
theorem pe_makeS (M : Mk X.K C f) (F : FnOk X.prog X.w X.K X.mg X.base CX k f fd ps sp) (hr : Room (k + 1) X.A) (hg : Gl X x) (hm : X.mg x = some (.ref C)) (hb : Binds X.K fd ps ds) (hd : Vals dvs ds) (hx : ∀ σ, PassesAt CX X σ (E σ))
    (ha : PA X (e :: es) t) (hdb : (x == ("__debug__" : Str)) = false := by decide) (he : starEach (e :: es) X.env = (false, eval e X.env) :: starEach es X.env := by rfl) (hpl : (backTo pos (starEach es X.env)).any (·.1) = false := by rfl) :
    PE X (.Call (.Name x p) (e :: es) [] pos) (tMakeS C sp dvs E t) := by
  refine ⟨fun pins s σ H Q I h => ?_⟩
  refine wpAny_Call_Name_kw (ld_glob I hg hm ?_ hdb)
  refine PySem.W.callWith_K (h₀ := X.base) I.ok.mod.kin M.kp (thn (ha.run pos pins s σ H _ I h) fun us s1 ⟨vs, H1, I1, r, q⟩ => ⟨I1.kIn, ?_⟩) he hpl
  have hq := q (s1.heap.objs.size + 1) s1.heap.objs.size (I1.hok.fresh (Nat.le_succ _)) (I1.hok.fresh (Nat.le_refl _)) (Nat.ne_of_lt (Nat.lt_succ_self _))
  have I2 := Inv.made (C := C) I1
  have r2 : Vals (V.ref (s1.heap.objs.size + 1) :: (vs ++ dvs)) (Value.ref (s1.heap.objs.size + 1) :: (us ++ ds)) := .cons rfl (r.append hd)
  have hl : (Value.ref (s1.heap.objs.size + 1) :: us ++ ds).length = ps.length := by
    have e := r2.length
    rw [F.len _ _ _ _ hq] at e
    exact e.symm
  refine wpAny_call (make_map (f := f) I1.kIn M.makes M.init (beq_iff_eq.mp M.fn) (codeAny_mono (F.run _ X.stack _ _ ⟨Value.ref (s1.heap.objs.size + 1) :: us, []⟩ (Value.ref (s1.heap.objs.size + 1) :: (us ++ ds)) _ _ (E σ) (hr.make C us [])
    (I2.env0.make C us []) (hb _ (Value.ref (s1.heap.objs.size + 1) :: us) I2.kIn hl) r2 hq) fun r s' hq' => ?_))
  cases r with
  | error e => exact hx σ pins _ _ e s' I2 hq'
  | ok fl =>
    cases fl with
    | ret u =>
      obtain ⟨v, H', I3, rv, ev, q3⟩ := I2.after hq'
      subst ev
      exact ⟨rv, ⟨V.ref (s1.heap.objs.size + 1), H', I3, rfl, q3⟩⟩
    | next => exact False.elim hq'
    | brk => exact False.elim hq'
    | cont => exact False.elim hq'
theorem pe_methS {pl : Sem Bool} (he : PE X o ta) (c : Cls X.K C) (hm : Meth X.K C m f) (F : FnOk X.prog X.w X.K X.mg X.base CX k f fd ps sp) (hr : Room k X.A) (hb : Binds X.K fd ps ds) (hd : Vals dvs ds) (hx : ∀ σ, PassesAt CX X σ (E σ)) (ha : PA X (e :: es) t)
    (hst : starEach (e :: es) X.env = (false, eval e X.env) :: starEach es X.env := by rfl) (hpl : (backTo pos (starEach es X.env)).any (·.1) = false := by rfl)
    (ht : eval (.Call (.Attribute o m apos) (e :: es) [] pos) X.env = (do
      let ov ← eval o X.env
      standAt apos.atName
      let (f, first) ← holding [ov] (getMethod ov m pl)
      callWith pos f first (backTo pos (starEach (e :: es) X.env)) (backToKw pos (keywordEach [] X.env))) := by rfl) :
    PE X (.Call (.Attribute o m apos) (e :: es) [] pos) (tMethS C m sp dvs E ta t) := by
  refine ⟨fun pins s σ H Q I h => ?_⟩
  refine PySem.W.methodCall_KW (pl := pl) (thn (he.run pins s σ H _ I h) fun u s1 ⟨x, H1, I1, rx, a, dx, fs, ex, ea, l, q⟩ => ?_) ht
  subst ex
  obtain rfl : u = Value.ref a := rx
  refine getmeth_ok I1 ea c hm l ?_
  refine PySem.W.callWith_K (first := [.ref a]) (h₀ := X.base) I.ok.mod.kin hm.kp (thn (ha.run pos pins s1 σ H1 _ I1 q) fun us s2 ⟨vs, H2, I2, r, q2⟩ => ⟨I2.kIn, ?_⟩) hst hpl
  exact run_fnS' (us := .ref a :: us) (vs := .ref a :: vs) F hr hb hd (hx σ) I2 (.cons rfl r) q2
end

/-! ### an error class with its own __init__: one field -/
def spXi (K : PySem.W.Frag) (C : Addr) (fl : Str) : Sp := fun vs H Q _ => ∃ (a : Addr) (y : V), vs = [.ref a, y] ∧ OexC K C ∧ PySem.W.findIn K (.ref C) fl = some none ∧ H a = some (exo a C none) ∧
  ∀ dx, H dx = none → dx ≠ a → Q .non (upd (upd H dx (exd dx [(fl, y)])) a (exo a C (some dx)))
/-- such a class, as those know it who raise it -/
structure ExcF (P : Program) (w : World) (K : PySem.W.Frag) (mg : Str → Option Value) (base : Heap) (k : Nat) (x : Str) (C : Addr) (fl : Str) : Prop where
  oex : OexC K C
  xf : XfC K C
  no : PySem.W.findIn K (.ref C) fl = some none
  g : mg x = some (.ref C)
  te : PySem.W.exmOne K (.ref C) (.ref C) = some true
  ex : ∃ (fI : Addr) (fd : FuncData) (ps : List Str), PySem.W.findIn K (.ref C) "__init__" = some (some (.ref fI)) ∧ PySem.W.typeIn K (.ref fI) = some (.type "function") ∧ FnOk P w K mg base CX0 k fI fd ps (spXi K C fl) ∧ Binds K fd ps []
section
variable {X : Cx} {k j : Nat} {C : Addr} {fl x : Str} {p pos : Pos} {e : Expr} {es : List Expr} {ta : TA}
/-- the error: its own dict d, new, holds the field -/
def tRx (C : Addr) (fl : Str) (ta : TA) : L2.St → Hp → XK → Prop := fun σ H Q => ta σ H fun vs H1 => ∃ y, vs = [y] ∧ ∀ d H', Same H1 H' → H1 d = none → H' d = some (.xd [(fl, y)]) → Q (.ref C) (some d) H'
theorem pmk_x (T : ExcF X.prog X.w X.K X.mg X.base k x C fl) (hr : Room j X.A) (hk : k + 1 ≤ j) (hg : Gl X x) (ha : PA X (e :: es) ta)
    (hdb : (x == ("__debug__" : Str)) = false := by decide) (he : starEach (e :: es) X.env = (false, eval e X.env) :: starEach es X.env := by rfl) (hpl : (backTo pos (starEach es X.env)).any (·.1) = false := by rfl) :
    L2N.PMk X (.Call (.Name x p) (e :: es) [] pos) (tRx C fl ta) := by
  intro pins s σ H Q I h
  obtain ⟨oex, xf, hno, hm, te, fI, fd, ps, iC, tI, F1, hb⟩ := T
  obtain ⟨nm, q, N, bs, bm, sn, sub, ab, col, dd, k0, k1, k2, k3, k5, hC, hbm⟩ := oex.cls
  refine wpAny_Call_Name_kw (ld_glob I hg hm ?_ hdb)
  refine PySem.W.callWith_K (h₀ := X.base) I.ok.mod.kin oex.kC (thn (ha.run pos pins s σ H _ I h) fun us s1 ⟨vs, H1, I1, r1, y, ev, q1⟩ => ⟨I1.kIn, ?_⟩) he hpl
  subst ev
  show wpAny _ _ (call (.ref C) us) _ _ _
  obtain ⟨hp, g, dr, tk, os⟩ := s1
  have hsz : hp.objs.size ≤ hp.objs.size + 1 := Nat.le_succ _
  have hn : H1 (hp.objs.size + 1) = none := I1.hok.fresh hsz
  have hq : spXi X.K C fl [.ref (hp.objs.size + 1), y] (upd H1 (hp.objs.size + 1) (exo (hp.objs.size + 1) C none))
      (fun v H2 => v = .non ∧ ∃ d, H2 (hp.objs.size + 1) = some (exo (hp.objs.size + 1) C (some d)) ∧ H2 d = some (exd d [(fl, y)]) ∧ H1 d = none ∧ Q (.ref C) (some d) (upd (del H2 (hp.objs.size + 1)) d (.xd [(fl, y)]))) (fun _ _ _ => False) := by
    refine ⟨_, y, rfl, oex, hno, upd_same, fun dx hdx ne => ⟨rfl, dx, upd_same, ?_, ?_, q1 dx _ ?_ ?_ ?_⟩⟩
    · rw [upd_ne ne, upd_same]
    · rw [upd_ne ne] at hdx
      exact hdx
    · intro b o hbo
      rw [upd_ne ne] at hdx
      rw [upd_ne (ne_of_none hbo hdx), del_ne (ne_of_none hbo hn), upd_ne (ne_of_none hbo hn), upd_ne (ne_of_none hbo hdx), upd_ne (ne_of_none hbo hn)]
      exact hbo
    · rw [upd_ne ne] at hdx
      exact hdx
    · exact upd_same
  have kk : ∀ b o, hp.get? b = some o → ((hp.push (PySem.W.kdv_tup us)).push (PySem.HandSPX.excO C hp.objs.size)).get? b = some o := fun b o e => Heap.get?_push_of_some _ (Heap.get?_push_of_some _ e)
  have hget : ((hp.push (PySem.W.kdv_tup us)).push (PySem.HandSPX.excO C hp.objs.size)).get? (hp.objs.size + 1) = some (PySem.HandSPX.excO C hp.objs.size) := by heap_get
  have I2 : Inv X pins σ (upd H1 (hp.objs.size + 1) (exo (hp.objs.size + 1) C none)) ⟨(hp.push (PySem.W.kdv_tup us)).push (PySem.HandSPX.excO C hp.objs.size), g, dr, tk, os⟩ :=
    I1.laid (t' := tk) (a := hp.objs.size + 1) (o := exo (hp.objs.size + 1) C none) (h' := (hp.push (PySem.W.kdv_tup us)).push (PySem.HandSPX.excO C hp.objs.size)) kk hsz (exo_ok hget)
  have r2 : Vals (V.ref (hp.objs.size + 1) :: [y]) (Value.ref (hp.objs.size + 1) :: us) := .cons rfl r1
  have hl : (Value.ref (hp.objs.size + 1) :: us ++ []).length = ps.length := by
    have e := r2.length
    have e2 := F1.len _ _ _ _ hq
    rw [List.append_nil, ← e]
    exact e2
  have hus : us.length ≤ sizeLine := by
    rw [← Paired.length r1, sizeLine_eq]
    show 1 ≤ _
    omega
  have b2 := hb _ (Value.ref (hp.objs.size + 1) :: us) I2.kIn hl
  rw [List.append_nil] at b2
  refine wpAny_call (PySem.HandSPX.call_own F.excBase_ValueError (fun Y => PySem.HandSPX.refsVE_contains Y bm hbm) (I1.kIn _ _ hC) (PySem.W.looks_findIn I1.kIn iC) (fun self => PySem.W.bind_fn I1.kIn self tI) hus
    (codeAny_mono (F1.run _ X.stack _ _ ⟨Value.ref (hp.objs.size + 1) :: us, []⟩ (Value.ref (hp.objs.size + 1) :: us) _ _ (fun _ _ _ => False) ((hr.mono hk).make C us []) (I2.env0.make C us []) b2 r2 hq) fun r s' hq' => ?_))
  cases r with
  | error er => exact False.elim hq'
  | ok fl' =>
    cases fl' with
    | ret u =>
      obtain ⟨v, H2, os2, bare2, un2, hok2, rv, ev, d, ea, ed, hd1, q2⟩ := hq'
      subst ev
      obtain ⟨h2, g2, d2, t2, os'⟩ := s'
      obtain ⟨t0, G, J, kG, ge, hoe, na⟩ := mk_end0 (d2 := d2) (t2 := t2) I1 hsz kk un2 hok2 os2 bare2 ea ed hd1
      exact ⟨rv, ⟨hp.objs.size + 1, _, _, ⟨G, g2, d2, t2, os'⟩, _, .ref C, some d, rfl, J, kG, ge, hoe, ⟨rfl, rfl, fun vs hv => by cases hv; rfl⟩, rfl, rfl, na, rfl, bare2, raises_own oex.exC oex.tyC, q2⟩⟩
    | next => exact False.elim hq'
    | brk => exact False.elim hq'
    | cont => exact False.elim hq'
theorem ps_raiseX {W : WX} {pos2 : Pos} (T : ExcF X.prog X.w X.K X.mg X.base k x C fl) (hr : Room j X.A) (hk : k + 1 ≤ j) (hc : X.calm = true) (tk : L2N.Takes X W) (hg : Gl X x) (ha : PA X (e :: es) ta)
    (hdb : (x == ("__debug__" : Str)) = false := by decide) (he : starEach (e :: es) X.env = (false, eval e X.env) :: starEach es X.env := by rfl) (hpl : (backTo pos (starEach es X.env)).any (·.1) = false := by rfl) :
    PS X (.Raise (some (.Call (.Name x p) (e :: es) [] pos)) none pos2) (fun _ σ H => tRx C fl ta σ H fun cls d H' => W cls d σ H') := L2N.ps_raise hc tk (pmk_x T hr hk hg ha hdb he hpl)
theorem takesN0 : L2N.Takes X (fun _ _ _ _ => False) := fun u s' ⟨_, _, _, _, _, _, _, _, _, _, _, _, _, _, _, _, w⟩ => w.elim
theorem hot_of {a : Addr} {oe : Obj} {cls : Value} {d : Option Addr} {pn : List (Addr × Obj)} (hz : L2N.Zn cls d oe) (hf : ∃ vs, oe.data = .fields vs) : L2H.HotC (X.suite a ((a, oe) :: pn)) := by
  obtain ⟨vs, e⟩ := hf
  exact ⟨(a, oe), ⟨rfl, vs, e, hz.2.2 vs e⟩, List.mem_cons_self⟩
end

/-- a class made by its name in a try; sp: its __init__, which may raise -/
structure MakX (P : Program) (w : World) (K : PySem.W.Frag) (mg : Str → Option Value) (base : Heap) (k : Nat) (x : Str) (C : Addr) (sp : Sp) : Prop where
  ex : ∃ (f : Addr) (fd : FuncData) (ps : List Str), Mk K C f ∧ FnOk P w K mg base (L2N.CX P w) k f fd ps sp ∧ mg x = some (.ref C) ∧ Binds K fd ps []
theorem pe_mkX {X : Cx} {W : WX} {k j : Nat} {x : Str} {C : Addr} {sp : Sp} {p pos : Pos} {e : Expr} {es : List Expr} {t : TA} (c : MakX X.prog X.w X.K X.mg X.base k x C sp) (hr : Room j X.A) (hk : k + 1 ≤ j) (tk : L2N.Takes X W) (hg : Gl X x) (ha : PA X (e :: es) t)
    (hdb : (x == ("__debug__" : Str)) = false := by decide) (he : starEach (e :: es) X.env = (false, eval e X.env) :: starEach es X.env := by rfl) (hpl : (backTo pos (starEach es X.env)).any (·.1) = false := by rfl) :
    PE X (.Call (.Name x p) (e :: es) [] pos) (tMakeS C sp [] (WE W) t) := by
  obtain ⟨f, fd, ps, M, F, hm, b⟩ := c.ex
  exact pe_makeS M F (hr.mono hk) hg hm b .nil (fun σ => L2N.passAt tk σ) ha hdb he hpl
/-- a method called in a try, which may raise -/
structure MetX (P : Program) (w : World) (K : PySem.W.Frag) (mg : Str → Option Value) (base : Heap) (k : Nat) (C : Addr) (m : Str) (sp : Sp) : Prop where
  ex : ∃ (f : Addr) (fd : FuncData) (ps : List Str), Meth K C m f ∧ FnOk P w K mg base (L2N.CX P w) k f fd ps sp ∧ Binds K fd ps []
theorem pe_metX {X : Cx} {W : WX} {k j : Nat} {C : Addr} {m : Str} {sp : Sp} {pos apos : Pos} {o : Expr} {e : Expr} {es : List Expr} {ta : TE} {t : TA} {pl : Sem Bool} (c : MetX X.prog X.w X.K X.mg X.base k C m sp) (cl : Cls X.K C) (hr : Room j X.A) (hk : k ≤ j) (tk : L2N.Takes X W) (he : PE X o ta) (ha : PA X (e :: es) t)
    (hst : starEach (e :: es) X.env = (false, eval e X.env) :: starEach es X.env := by rfl) (hpl : (backTo pos (starEach es X.env)).any (·.1) = false := by rfl)
    (ht : eval (.Call (.Attribute o m apos) (e :: es) [] pos) X.env = (do
      let ov ← eval o X.env
      standAt apos.atName
      let (f, first) ← holding [ov] (getMethod ov m pl)
      callWith pos f first (backTo pos (starEach (e :: es) X.env)) (backToKw pos (keywordEach [] X.env))) := by rfl) :
    PE X (.Call (.Attribute o m apos) (e :: es) [] pos) (tMethS C m sp [] (WE W) ta t) := by
  obtain ⟨f, fd, ps, M, F, b⟩ := c.ex
  exact pe_methS (pl := pl) he cl M F (hr.mono hk) b .nil (fun σ => L2N.passAt tk σ) ha hst hpl ht

/-- a def of the module as it is called within an except suite -/
theorem fun_okH {P : Program} {w : World} {K : PySem.W.Frag} {mg : Str → Option Value} {base : Heap} {x qual : Str} {st : Stmt} {f : Addr} {fd : FuncData} {N ps : List Str} {k : Nat} {sp : Sp} (F : Fun K x qual st f fd) (S : FnScope N ps (defScope st)) (len : ∀ vs H Q E, sp vs H Q E → vs.length = ps.length)
    (hbody : ∀ (cdv : Value) (A : Around) (outer : List Env) (s : Shared) (H : Hp) (vs : List V) (Q : VK) (E : XK) (p : Addr × Obj), L2H.RoomH k (A.deeper (envOfC qual (defScope st) s.heap.objs.size f cdv)) → sp vs H Q E →
      ∃ t, PSs (L2H.cxH CX0 P w K mg base N qual (defScope st) f cdv A outer s H E p).nox (defBody st) t ∧ t { nx := fun _ H' => Q .non H', rt := Q } (start N vs) H) : L2H.FnH P w K mg base CX0 (k + 1) f fd ps sp := by
  obtain ⟨oc, od, kV, doc, pm, an, cdv, ct, osl, rfl, lk, hcd⟩ := F.ex
  refine L2H.fn_ofH lk hcd S len ?_
  intro A outer s H vs Q E p hot hr hsp
  obtain ⟨t, h, q⟩ := hbody cdv A outer s H vs Q E p hr hsp
  exact ⟨t, h.nox, q⟩

/-! ### the heap without q -/
def hid (q : Addr) (H : Hp) : Hp := fun b => if b = q then none else H b
theorem hid_same (q : Addr) (H : Hp) : Same (hid q H) H := fun b o h => by
  unfold hid at h
  split at h
  · cases h
  · exact h
theorem hid_keep {q : Addr} {H H' : Hp} (k : Keep q H H') : Same (hid q H) (hid q H') := fun b o h => by
  unfold hid at *
  by_cases e : b = q
  · rw [if_pos e] at h; cases h
  · rw [if_neg e] at h ⊢
    exact k b o h e
theorem hid_ne {q b : Addr} {H : Hp} (h : b ≠ q) : hid q H b = H b := if_neg h

/-! ### the sizes of texts -/
/-- printable signs -/
def Asc (z : Str) : Prop := ∀ c ∈ z.cps.toList, 32 ≤ c ∧ c ≤ 126
theorem asc_lt : ∀ c, c < 127 → 32 ≤ c → ((PySem.Builtin.Str.reprChar 34 c).all (fun d => decide (32 ≤ d ∧ d ≤ 126)) && (PySem.Builtin.Str.reprChar 39 c).all (fun d => decide (32 ≤ d ∧ d ≤ 126))) = true := by decide +kernel
theorem asc_repr {z : Str} (h : Asc z) : Asc (reprText z) := by
  have hq : reprQuote z = 34 ∨ reprQuote z = 39 := by
    unfold reprQuote
    split
    · exact .inl rfl
    · exact .inr rfl
  have ch : ∀ c ∈ z.cps.toList, ∀ d ∈ PySem.Builtin.Str.reprChar (reprQuote z) c, 32 ≤ d ∧ d ≤ 126 := fun c hc d hd => by
    have h1 := asc_lt c (by have := (h c hc).2; omega) (h c hc).1
    rw [Bool.and_eq_true] at h1
    rcases hq with e | e
    · rw [e] at hd
      exact of_decide_eq_true (List.all_eq_true.mp h1.1 d hd)
    · rw [e] at hd
      exact of_decide_eq_true (List.all_eq_true.mp h1.2 d hd)
  have qq : 32 ≤ reprQuote z ∧ reprQuote z ≤ 126 := by rcases hq with e | e <;> rw [e] <;> decide
  have key : ∀ (l : List Nat) (acc : Array Nat), (∀ c ∈ l, ∀ d ∈ PySem.Builtin.Str.reprChar (reprQuote z) c, 32 ≤ d ∧ d ≤ 126) → (∀ d ∈ acc.toList, 32 ≤ d ∧ d ≤ 126) → ∀ d ∈ (l.foldl (fun out c => out ++ (PySem.Builtin.Str.reprChar (reprQuote z) c).toArray) acc).toList, 32 ≤ d ∧ d ≤ 126 := by
    intro l
    induction l with
    | nil => intro acc _ ha; exact ha
    | cons c l ih =>
      intro acc hl ha
      refine ih _ (fun c' hc' => hl c' (List.mem_cons_of_mem _ hc')) fun d hd => ?_
      rw [Array.toList_append] at hd
      rcases List.mem_append.mp hd with hd | hd
      · exact ha d hd
      · exact hl c List.mem_cons_self d (by simpa using hd)
  intro d hd
  unfold reprText at hd
  have hd' : d ∈ ((z.cps.foldl (fun out c => out ++ (PySem.Builtin.Str.reprChar (reprQuote z) c).toArray) #[reprQuote z]).push (reprQuote z)).toList := hd
  rw [Array.toList_push, ← Array.foldl_toList] at hd'
  rcases List.mem_append.mp hd' with hd | hd
  · exact key _ _ ch (fun d hd => by
      have e : d = reprQuote z := by simpa using hd
      rw [e]; exact qq) d hd
  · have e : d = reprQuote z := by simpa using hd
    rw [e]; exact qq
theorem asc_ok {z : Str} (h : Asc z) : PyData.strOk z = true := by
  unfold PyData.strOk
  rw [← Array.all_toList, List.all_eq_true]
  intro c hc
  have := (h c hc).2
  exact decide_eq_true (by omega)
theorem asc_append {x y : Str} (hx : Asc x) (hy : Asc y) : Asc (x ++ y) := fun c hc => by
  have e : (x ++ y).cps = x.cps ++ y.cps := rfl
  rw [e, Array.toList_append] at hc
  rcases List.mem_append.mp hc with h | h
  · exact hx c h
  · exact hy c h

/-! ### a short text times a small number -/
def mulT (x : Str) (n : Int) : Str := if n < 1 then Str.empty else if (n == 1 || x.length == 0) = true then x else ⟨(List.replicate n.toNat x.cps).foldl (· ++ ·) #[]⟩
theorem rep_fold (x : Array Nat) : ∀ (n : Nat) (acc : Array Nat), ((List.replicate n x).foldl (· ++ ·) acc).size = acc.size + n * x.size ∧ ∀ c ∈ ((List.replicate n x).foldl (· ++ ·) acc).toList, c ∈ acc.toList ∨ c ∈ x.toList
  | 0, acc => ⟨by simp, fun c hc => .inl hc⟩
  | n + 1, acc => by
    obtain ⟨h1, h2⟩ := rep_fold x n (acc ++ x)
    rw [List.replicate_succ, List.foldl_cons]
    refine ⟨?_, fun c hc => ?_⟩
    · rw [h1, Array.size_append, Nat.add_mul]
      omega
    · rcases h2 c hc with h | h
      · rw [Array.toList_append] at h
        rcases List.mem_append.mp h with h | h
        · exact .inl h
        · exact .inr h
      · exact .inr h
theorem mulT_asc {x : Str} {n : Int} (h : Asc x) : Asc (mulT x n) := by
  unfold mulT
  split
  · intro c hc
    cases hc
  · split
    · exact h
    · intro c hc
      rcases (rep_fold x.cps n.toNat #[]).2 c hc with z | z
      · cases z
      · exact h c z
theorem mulT_len {x : Str} {n : Int} : (mulT x n).length ≤ n.toNat * x.length := by
  unfold mulT
  split
  · exact Nat.zero_le _
  · split
    · rename_i h1 h2
      exact Nat.le_mul_of_pos_left _ (by omega)
    · have h := (rep_fold x.cps n.toNat #[]).1
      show ((List.replicate n.toNat x.cps).foldl (· ++ ·) #[]).size ≤ n.toNat * x.cps.size
      rw [h]
      simp
theorem op_mulStr {X : Cx} : OpR X (binaryOp .Mult) (fun x y H Q => ∃ i n, x = .str i ∧ y = .int n ∧ 0 ≤ n ∧ n ≤ 1000 ∧ i.length ≤ 1000 ∧ Q (.str (mulT i n)) H) := by
  intro pins s σ H x y v u Q I rx ry h
  obtain ⟨i, n, rfl, rfl, h0, h1, hz, q⟩ := h
  obtain ⟨t, rfl⟩ := rx
  obtain ⟨t', rfl⟩ := ry
  have hb : n.toNat ≤ 1000 := by omega
  have hp : i.length * n.toNat ≤ 1000 * 1000 := Nat.mul_le_mul hz hb
  have hle := mulT_len (x := i) (n := n)
  rw [Nat.mul_comm] at hle
  have hline : 1000000 ≤ sizeLine := by decide
  refine PySem.P.mul_str ?_ ?_ ?_ ?_
  · rw [decide_eq_false (by omega : ¬ n < -(2 ^ 63 : Int)), decide_eq_false (by omega : ¬ n ≥ 2 ^ 63)]
    rfl
  · intro hn _ hc
    have h3 : (1000 : Int) ≤ (2 ^ 63 - 1) / n := by
      refine (Int.le_ediv_iff_mul_le (by omega)).mpr ?_
      omega
    omega
  · intro _ _
    unfold PySem.Builtin.Str.tooLong
    exact decide_eq_false (by omega)
  · unfold mulT at q hle
    by_cases c1 : n < 1
    · rw [if_pos c1] at q hle ⊢
      exact ⟨by decide, .str _, H, I.tok _, ⟨_, rfl⟩, q⟩
    · rw [if_neg c1] at q hle ⊢
      by_cases c2 : (n == 1 || i.length == 0) = true
      · rw [if_pos c2] at q ⊢
        exact ⟨.str i, H, I, ⟨_, rfl⟩, q⟩
      · rw [if_neg c2] at q hle ⊢
        exact ⟨by omega, .str _, H, I.tok _, ⟨_, rfl⟩, q⟩

section
variable {X : Cx} {x n : Str} {c : Value} {i : Nat} {body suite : List Stmt} {b₀ : Stmt} {np pos pos' : Pos} {tb : WX → TS} {ts : Addr → Value → Option Addr → TS} {Wout : WX}
/-- try .. except, what is raised said once for all ways -/
theorem ps_try_cut (hs : X.stack = X.env :: X.outer) (hf : X.env.frame = some X.env.locals) (hN : X.N.Nodup) (hi : X.N[i]? = some n) (hln : X.env.kindOf n = some .local) (hc : Names X x c) (tk : L2N.Takes X Wout)
    (hb : ∀ (W : WX) (pn : List (Addr × Obj)) (xe : Value → Shared → Prop), L2N.Takes (X.tr pn xe) W → PassesOwn (model X.prog X.w) X.A X.env xe → PSs (X.tr pn xe) body (tb W))
    (hsu : ∀ (a : Addr) (oe : Obj) (cls : Value) (d : Option Addr) (pn : List (Addr × Obj)), L2N.Zn cls d oe → (∃ vs, oe.data = .fields vs) → PSs (X.suite a ((a, oe) :: pn)) (b₀ :: suite) (ts a cls d)) :
    PS X (.Try body [.ExceptHandler (some (.Name x np)) (some n) (b₀ :: suite) pos'] [] [] pos) (fun D σ H => ∃ Ce : WX, (∀ cls d σ' H', Ce cls d σ' H' → wAs X.K c i ts Wout D cls d σ' H') ∧ tb Ce D σ H) :=
  L2N.ps_try_as (tb := fun W D σ H => ∃ Ce : WX, (∀ cls d σ' H', Ce cls d σ' H' → W cls d σ' H') ∧ tb Ce D σ H) hs hf hN hi hln hc tk
    (fun W pn xe tk po => ⟨fun pins s σ H D I ⟨Ce, imp, h⟩ => (hb Ce pn xe (tk.imp imp) po).run pins s σ H D I h⟩) hsu
end

/-- a def that may raise -/
theorem fun_okN {P : Program} {w : World} {K : PySem.W.Frag} {mg : Str → Option Value} {base : Heap} {x qual : Str} {st : Stmt} {f : Addr} {fd : FuncData} {N ps : List Str} {k : Nat} {sp : Sp} (F : Fun K x qual st f fd) (S : FnScope N ps (defScope st)) (len : ∀ vs H Q E, sp vs H Q E → vs.length = ps.length)
    (hbody : ∀ (cdv : Value) (A : Around) (outer : List Env) (s : Shared) (H : Hp) (vs : List V) (Q : VK) (E : XK), Room k (A.deeper (envOfC qual (defScope st) s.heap.objs.size f cdv)) → sp vs H Q E →
      ∃ t, PSs (cxOf (L2N.CX P w) P w K mg base N qual (defScope st) f cdv A outer s H E) (defBody st) t ∧ t { nx := fun _ H' => Q .non H', rt := Q } (start N vs) H) : FnOk P w K mg base (L2N.CX P w) (k + 1) f fd ps sp := by
  obtain ⟨oc, od, kV, doc, pm, an, cdv, ct, osl, rfl, lk, hcd⟩ := F.ex
  exact fn_of lk hcd S len fun A outer s H vs Q E hr hsp => hbody cdv A outer s H vs Q E hr hsp
end MG

namespace Lw
open PySem PySem.Spec PyProof.Rows L2 MG
abbrev s_NotARatio___init__ : Stmt := inClass (top 5) 0
abbrev s__law_sign_text : Stmt := top 21
abbrev s__law_odd : Stmt := top 22
section
variable {P : Program} {w : World} {K : PySem.W.Frag} {mg : Str → Option Value} {base : Heap} {C CI : Addr}
/-! ### the error -/
theorem sc_NotARatio___init__ : FnScope ["self", "given"] ["self", "given"] (defScope s_NotARatio___init__) := ⟨rfl, rfl, rfl, by decide +kernel, rfl, by decide +kernel, by decide +kernel⟩
theorem ok_xn {f : Addr} {fd : FuncData} (F : Fun K "__init__" "NotARatio.__init__" s_NotARatio___init__ f fd) : FnOk P w K mg base CX0 2 f fd ["self", "given"] (spXi K CI "given") := by
  refine F.ok sc_NotARatio___init__ (fun vs H Q E h => ?_) (fun cdv A outer s H vs Q E hr h => ?_)
  · obtain ⟨a, y, rfl, _⟩ := h
    rfl
  · obtain ⟨a, y, rfl, T, no, ha, k⟩ := h
    refine ⟨_, (pss_one (ps_ost (pv 0) (pv 1))), ?_⟩
    exact ⟨_, rfl, _, rfl, a, CI, rfl, T, no, .inl ⟨ha, fun dx n ne => k dx n ne⟩⟩
abbrev XnC (P : Program) (w : World) (K : PySem.W.Frag) (mg : Str → Option Value) (base : Heap) (CI : Addr) : Prop := ExcF P w K mg base 2 "NotARatio" CI "given"
/-! ### what is whole -/
def WholeAt (K : PySem.W.Frag) (H : Hp) (x : V) (b : Bool) : Prop := ∃ t b1 b2, TyX K H x t ∧ PySem.W.kitOne K t (.type "int") = some b1 ∧ PySem.W.kitOne K t (.type "bool") = some b2 ∧ (b1 && !b2) = b
theorem WholeAt.same {H H' : Hp} {x : V} {b : Bool} (h : WholeAt K H x b) (s : Same H H') : WholeAt K H' x b := by
  obtain ⟨t, b1, b2, h1, h2, h3, h4⟩ := h
  exact ⟨t, b1, b2, MG.TyX.same h1 s, h2, h3, h4⟩
theorem whole_int {H : Hp} (i : Int) : WholeAt K H (.int i) true := ⟨_, true, false, tyx_int i, kit_ty (by decide +kernel), kit_ty (by decide +kernel), rfl⟩
/-- the error that carries x is raised -/
def Rsd (CI : Addr) (H : Hp) (x : V) (E : XK) : Prop := ∀ d H', Same H H' → H d = none → H' d = some (.xd [("given", x)]) → E (.ref CI) (some d) H'
theorem Rsd.same {H H' : Hp} {x : V} {E : XK} (h : Rsd CI H x E) (s : Same H H') : Rsd CI H' x E := fun d H2 s2 n e => h d H2 (s.trans s2) (s.free n) e
/-! ### Ratio.__repr__ within an except suite -/
theorem ok_reprH {f : Addr} {fd : FuncData} (F : Fun K "__repr__" "Ratio.__repr__" s_Ratio___repr__ f fd) (T : TxR K mg C) : L2H.FnH P w K mg base CX0 2 f fd ["self"] (spRepr C) := by
  refine fun_okH F sc_Ratio___repr__ (fun vs H Q E h => ?_) (fun cdv A outer s H vs Q E p hr h => ?_)
  · obtain ⟨r, p, rfl, _⟩ := h
    rfl
  · obtain ⟨r, p, rfl, ⟨d1, e1⟩, sn, sd, k⟩ := h
    refine ⟨_, (pss_one (ps_ret (pe_joined (PJ.cons pe_str (PJ.cons (pe_fmt (pe_fld (pv 0) rfl)) (PJ.cons pe_str (PJ.cons (pe_fmt (pe_fld (pv 0) rfl)) (PJ.cons pe_str PJ.nil)))))))), ?_⟩
    have l1 := txt_len sn
    have l2 := txt_len sd
    have z1 : (("Ratio(" : Str)).length = 6 := rfl
    have z2 : ((", " : Str)).length = 2 := rfl
    have z3 : ((")" : Str)).length = 1 := rfl
    refine ⟨_, rfl, ?_, _, rfl, r, C, d1, _, _, rfl, e1, T.cl, T.nT, flds_top p, .inr ⟨_, rfl, log_sm sn, _, rfl, ?_, _, rfl, ?_, _, rfl, r, C, d1, _, _, rfl, e1, T.cl, T.nB, flds_bottom p, .inr ⟨_, rfl, log_sm sd, _, rfl, ?_, _, rfl, ?_, ?_⟩⟩⟩
    · rw [empty_add]; decide
    · rw [empty_add, strLen_append]; exact Nat.le_trans (m := 4000) (by omega) (by decide)
    · rw [empty_add, strLen_append, strLen_append]; exact Nat.le_trans (m := 4000) (by omega) (by decide)
    · rw [empty_add, strLen_append, strLen_append, strLen_append]; exact Nat.le_trans (m := 4000) (by omega) (by decide)
    · rw [empty_add, strLen_append, strLen_append, strLen_append, strLen_append]; exact Nat.le_trans (m := 4000) (by omega) (by decide)
    · rw [empty_add]; exact k
theorem ownH {f : Addr} {fd : FuncData} {ps : List Str} (at_ : PySem.W.findIn K (.ref C) "__repr__" = some (some (.ref f))) (fn : PySem.W.isFn K (.ref f) = true) (F : L2H.FnH P w K mg base CX0 2 f fd ps (spRepr C)) (b : Binds K fd ps []) : OwnH P w K mg base (ownR C) 2 :=
  ⟨C, f, fd, ps, spRepr C, at_, fn, F, b, fun H a t ⟨p, h, s1, s2, e⟩ => ⟨h.elim fun dx e => ⟨dx, _, e⟩, fun H1 s => ⟨a, p, rfl, h.same s, s1, s2, by rw [e], Same.refl H1⟩⟩⟩
/-! ### things of any kind -/
/-- no int, None, text, tuple, list, dict or truth is a Ratio -/
structure Others (K : PySem.W.Frag) (C : Addr) : Prop where
  is : PySem.W.isClsIn K C = true
  ty : PySem.W.typeIn K (.ref C) = some (.type "type")
  non : PySem.W.subIn K (.type "NoneType") (.ref C) = some false
  str : PySem.W.subIn K (.type "str") (.ref C) = some false
  tup : PySem.W.subIn K (.type "tuple") (.ref C) = some false
  lst : PySem.W.subIn K (.type "list") (.ref C) = some false
  bl : PySem.W.subIn K (.type "bool") (.ref C) = some false
  dict : PySem.W.subIn K (.type "dict") (.ref C) = some false
  sst : PySem.W.subIn K (.ref C) (.type "str") = some false
def OddAt (K : PySem.W.Frag) (C : Addr) (H : Hp) (x : V) : Prop := ∃ t b1 b2, TyX K H x t ∧ PySem.W.kitOne K t (.type "int") = some b1 ∧ PySem.W.kitOne K t (.type "bool") = some b2 ∧ (b1 && !b2) = false ∧ PySem.W.kitOne K t (.ref C) = some false
/-- x at H, shown as t (of at most n signs, containers at most k deep); o its number, if it is one -/
structure Thing (K : PySem.W.Frag) (C : Addr) (H : Hp) (x : V) (t : Str) (o : Option Rat) (n k : Nat) : Prop where
  shw : ∃ as k', Shw K (ownR C) 2 H as k' x t ∧ k' ≤ k ∧ ∀ a ∈ as, H a ≠ none
  len : t.length ≤ n
  asc : Asc t
  kd : (∃ p, o = some p ∧ NumAt C H x p ∧ Bd p 43) ∨ (o = none ∧ OddAt K C H x)
  st : (∃ z, x = .str z ∧ Asc z ∧ z.length ≤ 10) ∨ ∃ t, TyX K H x t ∧ PySem.W.kitOne K t (.type "str") = some false
theorem OddAt.same {H H' : Hp} {x : V} (h : OddAt K C H x) (s : Same H H') : OddAt K C H' x := by
  obtain ⟨t, b1, b2, h1, h2⟩ := h
  exact ⟨t, b1, b2, MG.TyX.same h1 s, h2⟩
theorem Thing.same {H H' : Hp} {x : V} {t : Str} {o : Option Rat} {n k : Nat} (h : Thing K C H x t o n k) (s : Same H H') : Thing K C H' x t o n k := by
  obtain ⟨⟨as, k', h1, h2, h3⟩, h4, h5, h6, h7⟩ := h
  refine ⟨⟨as, k', Shw.same (fun h s => ownR_same h s) h1 s, h2, fun a ha z => ?_⟩, h4, h5, ?_, ?_⟩
  · cases e : H a with
    | none => exact h3 a ha e
    | some o' => exact nomatch (s _ _ e).symm.trans z
  · rcases h6 with ⟨p, e, h6, b⟩ | ⟨e, h6⟩
    · exact .inl ⟨p, e, h6.same s, b⟩
    · exact .inr ⟨e, h6.same s⟩
  · rcases h7 with h7 | ⟨t, h7, h8⟩
    · exact .inl h7
    · exact .inr ⟨t, MG.TyX.same h7 s, h8⟩
theorem Thing.le {H : Hp} {x : V} {t : Str} {o : Option Rat} {n k n' k' : Nat} (h : Thing K C H x t o n k) (hn : n ≤ n') (hk : k ≤ k') : Thing K C H x t o n' k' := by
  obtain ⟨⟨as, k1, h1, h2, h3⟩, h4, h5, h6, h7⟩ := h
  exact ⟨⟨as, k1, h1, by omega, h3⟩, by omega, h5, h6, h7⟩
theorem asc_of (s : String) (h : (s.toList.all fun c => decide (32 ≤ c.toNat ∧ c.toNat ≤ 126)) = true) : Asc (Str.ofString s) := by
  intro c hc
  rw [signs_ofString] at hc
  obtain ⟨d, hd, rfl⟩ := List.mem_map.mp hc
  exact of_decide_eq_true (List.all_eq_true.mp h d hd)
theorem asc_int (i : Int) : Asc (Str.ofString (toString i)) := by
  refine asc_of _ (List.all_eq_true.mpr fun c hc => ?_)
  rcases int_sign i c hc with h | h
  · have := digit_range h
    exact decide_eq_true ⟨by omega, by omega⟩
  · rw [h]
    decide
end
end Lw

/-! classmethods called in a try, by a keyword; a class called by a local name -/
namespace MG
open PySem PySem.Spec PyProof.Rows L2 ClX
section
variable {X : Cx} {CX : CXT} {k j : Nat} {C p g : Addr} {m : Str} {mc : Value} {sp : Sp} {o e : Expr} {es : List Expr} {pos apos : Pos} {ta : TE} {t : TA} {pl : Sem Bool}
theorem after_cm {pins : List (Addr × Obj)} {σ : L2.St} {H : Hp} {s : Shared} {q : Addr} {Q : VK} {E : XK} {us : List Value} {kw : List (Str × Value)} (I : Inv X ((q, PySem.W.methodObj (.ref g) (.ref C)) :: pins) σ H s) (hx : PassesAt CX X σ E)
    (run : codeAny (model X.prog X.w) X.A (.call (.ref g) ⟨.ref C :: us, kw⟩) (CR CX X.stack X.prog X.w H s Q E) s) : wpAny (model X.prog X.w) X.A (call (.ref q) us kw) (EP X pins σ Q) X.xe s := by
  have z : wpAny (model X.prog X.w) X.A (call (.ref q) us kw) (EP X ((q, PySem.W.methodObj (.ref g) (.ref C)) :: pins) σ Q) X.xe s := by
    refine wpAny_call (PySem.W.method_call (pin_at I) (codeAny_mono run fun r s' hq => ?_))
    match r, hq with
    | .error er, hq => exact hx _ H s er s' I hq
    | .ok (.ret u), hq => exact I.after hq
    | .ok .next, hq => exact False.elim hq
    | .ok .brk, hq => exact False.elim hq
    | .ok .cont, hq => exact False.elim hq
  exact thn z fun _ _ y => unpinE y
/-- C.m(..), m a classmethod that may raise, in a try -/
def tCMetS (C : Addr) (sp : Sp) (E : L2.St → XK) (ta : TE) (t : TA) : TE := fun σ H Q => ta σ H fun x H1 => x = .ref C ∧ t σ H1 fun vs H2 => sp (.ref C :: vs) H2 Q (E σ)
structure CmtX (P : Program) (w : World) (K : PySem.W.Frag) (mg : Str → Option Value) (base : Heap) (k : Nat) (C : Addr) (m : Str) (sp : Sp) : Prop where
  ex : ∃ (p g : Addr) (mc : Value) (fd : FuncData) (ps : List Str), CRead K C mc ∧ CMet K C mc m p g ∧ FnOk P w K mg base (L2N.CX P w) k g fd ps sp ∧ Binds K fd ps []
theorem pe_cmtX {W : WX} (c : CmtX X.prog X.w X.K X.mg X.base k C m sp) (hr : Room j X.A) (hk : k ≤ j) (tk : L2N.Takes X W) (he : PE X o ta) (ha : PA X (e :: es) t)
    (hst : starEach (e :: es) X.env = (false, eval e X.env) :: starEach es X.env := by rfl) (hpl : (backTo pos (starEach es X.env)).any (·.1) = false := by rfl)
    (ht : eval (.Call (.Attribute o m apos) (e :: es) [] pos) X.env = (do
      let ov ← eval o X.env
      standAt apos.atName
      let (f, first) ← holding [ov] (getMethod ov m pl)
      callWith pos f first (backTo pos (starEach (e :: es) X.env)) (backToKw pos (keywordEach [] X.env))) := by rfl) :
    PE X (.Call (.Attribute o m apos) (e :: es) [] pos) (tCMetS C sp (WE W) ta t) := by
  obtain ⟨p, g, mc, fd, ps, r, cm, F, b⟩ := c.ex
  refine ⟨fun pins s σ H Q I h => ?_⟩
  refine PySem.W.methodCall_KW (pl := pl) (thn (he.run pins s σ H _ I h) fun u s1 ⟨x, H1, I1, rx, ex, q⟩ => ?_) ht
  subst ex
  obtain rfl : u = Value.ref C := rx
  refine getmethcm_ok I1 r cm fun s2 I2 => ?_
  refine callwith_cm I2 (base_none I1 (Nat.le_refl _)) cm.fi (thn (ha.run pos _ s2 σ H1 _ I2 q) fun us s3 ⟨vs, H2, I3, rv, q2⟩ => ⟨⟨pin_at I3, I3.kIn⟩, ?_⟩) hst hpl
  have q3 : sp (.ref C :: vs ++ []) H2 Q (WE W σ) := by rw [List.append_nil]; exact q2
  exact after_cm I3 (L2N.passAt tk σ) ((F.raw b .nil) X.A X.stack s3 H2 (.ref C :: us) (.ref C :: vs) Q (WE W σ) (hr.mono hk) I3.env0 (.cons rfl rv) q3)
/-- C.m(k = v), where nothing is raised -/
def tCMetK (C : Addr) (sp : Sp) (n : Nat) (gV : List V → List V → List V) (ta : TE) (tk : TA) : TE := fun σ H Q => ta σ H fun x H1 => x = .ref C ∧ tk σ H1 fun zs H2 => zs.length = n ∧ sp (gV [.ref C] zs) H2 Q (fun _ _ _ => False)
structure CmtK (P : Program) (w : World) (K : PySem.W.Frag) (mg : Str → Option Value) (base : Heap) (k : Nat) (C : Addr) (m : Str) (sp : Sp) (ks : List Str) (gV : List V → List V → List V) : Prop where
  ex : ∃ (p g : Addr) (mc : Value) (fd : FuncData) (ps : List Str) (gf : List Value → List Value → List Value), CRead K C mc ∧ CMet K C mc m p g ∧ FnOk P w K mg base (L2N.CX P w) k g fd ps sp ∧ KBn K fd ps 1 ks gf gV
theorem passF {σ : L2.St} : PassesAt (L2N.CX X.prog X.w) X σ (fun _ _ _ => False) := fun _ _ _ _ _ _ ⟨_, _, _, _, _, _, _, _, _, _, _, _, z⟩ => z.elim
theorem pe_cmtK {kws : List Keyword} {ks : List Str} {gV : List V → List V → List V} {tk : TA} (c : CmtK X.prog X.w X.K X.mg X.base k C m sp ks gV) (hr : Room j X.A) (hk : k ≤ j) (he : PE X o ta) (hkw : PK X kws tk)
    (hall : (backToKw pos (keywordEach kws X.env)).all (·.1.isSome) = true := by rfl) (hks : (backToKw pos (keywordEach kws X.env)).filterMap (·.1) = ks := by rfl)
    (hpl : ((backTo pos (starEach [] X.env)).any (·.1) || (backToKw pos (keywordEach kws X.env)).any (·.1.isNone)) = false := by rfl)
    (ht : eval (.Call (.Attribute o m apos) [] kws pos) X.env = (do
      let ov ← eval o X.env
      standAt apos.atName
      let (f, first) ← holding [ov] (getMethod ov m pl)
      callWith pos f first (backTo pos (starEach [] X.env)) (backToKw pos (keywordEach kws X.env))) := by rfl) :
    PE X (.Call (.Attribute o m apos) [] kws pos) (tCMetK C sp ks.length gV ta tk) := by
  obtain ⟨p, g, mc, fd, ps, gf, r, cm, F, b⟩ := c.ex
  refine ⟨fun pins s σ H Q I h => ?_⟩
  refine PySem.W.methodCall_KW (pl := pl) (thn (he.run pins s σ H _ I h) fun u s1 ⟨x, H1, I1, rx, ex, q⟩ => ?_) ht
  subst ex
  obtain rfl : u = Value.ref C := rx
  refine getmethcm_ok I1 r cm fun s2 I2 => ?_
  refine PySem.W.callWith_of (P := PySem.W.MethP X.K s1.heap.objs.size g (.ref C)) hpl (PySem.W.keeps_M cm.fi) (PyProof.Rows.evalArgs_kw2_nil hall (thn (hkw.run pos _ s2 σ H1 _ I2 q) fun ws s3 ⟨zs, H2, I3, rz, hl, q2⟩ => ⟨⟨pin_at I3, I3.kIn⟩, ?_⟩))
  rw [hks]
  have hlw : ws.length = ks.length := rz.length.symm.trans hl
  exact after_cm I3 passF (F.run X.A X.stack s3 H2 ⟨.ref C :: [], ks.zip ws⟩ (gf [.ref C] ws) (gV [.ref C] zs) Q _ (hr.mono hk) I3.env0 (b.to s3 [.ref C] ws I3.kIn rfl hlw) (b.rel (.cons rfl .nil) rz) q2)
/-- cls(..), the class in slot i -/
def tMakeL (i : Nat) (C : Addr) (sp : Sp) (dvs : List V) (t : TA) : TE := fun σ H Q => σ[i]? = some (some (.ref C)) ∧ tMake C sp dvs E0 t σ H Q
theorem pe_mkL {y x : Str} {i : Nat} {q : Pos} {dvs : List V} (c : MakF X.prog X.w X.K X.mg X.base k y C sp dvs) (hr : Room j X.A) (hk : k + 1 ≤ j) (hN : X.N[i]? = some x) (hv : Vis X.env.scope x) (ha : PA X (e :: es) t)
    (hdb : (x == ("__debug__" : Str)) = false := by decide) (hcd : (x == ("__classdict__" : Str)) = false := by decide)
    (he : starEach (e :: es) X.env = (false, eval e X.env) :: starEach es X.env := by rfl) (hpl : (backTo pos (starEach es X.env)).any (·.1) = false := by rfl) : PE X (.Call (.Name x q) (e :: es) [] pos) (tMakeL i C sp dvs t) := by
  obtain ⟨f, fd, ps, ds, M, F, hm, b, d⟩ := c.ex
  refine ⟨fun pins s σ H Q I h => ?_⟩
  obtain ⟨hs, ht⟩ := h
  refine wpAny_Call_Name_kw (thn ((pe_var (pos := q) hN hv hdb hcd).run pins s σ H (fun v H1 => v = .ref C ∧ H1 = H) I ⟨.ref C, hs, rfl, rfl⟩) fun u s1 ⟨v, H1, I1, r1, q1⟩ => ?_)
  obtain ⟨rfl, rfl⟩ := q1
  cases r1
  refine PySem.W.callWith_K (h₀ := X.base) I.ok.mod.kin M.kp (thn (ha.run pos pins s1 σ _ _ I1 ht) fun us s2 ⟨vs, H2, I2, r, q⟩ => ⟨I2.kIn, ?_⟩) he hpl
  exact run_make M F (hr.mono hk) b d pass0 I2 r q
end

/-! ### comprehensions over a text -/
theorem lc_str {x : Str} {g : TG} {tt : TT} {te : TE} {vs : List Nat} {σ : L2.St} {H1 : Hp} {D : Addr} {Qd : Hp → Prop} (Pv : Nat → Hp → Prop) (h0 : Pv 0 (upd H1 D (.lst [])))
    (hs : ∀ i c H, x.cps[i]? = some c → Pv i H → g (.str ⟨#[c]⟩) (wipe σ vs) H fun σ2 H2 => wipe σ2 vs = wipe σ vs ∧ tt σ2 H2 fun b H3 =>
      if b = true then te σ2 H3 fun y H4 => ∃ acc, H4 D = some (.lst acc) ∧ acc.length < sizeLine ∧ Pv (i + 1) (upd H4 D (.lst (acc ++ [y]))) else Pv (i + 1) H3) (hd : ∀ H, Pv x.cps.size H → Qd H) :
    ∃ W : Nat → Nat → Hp → Prop, (∃ m, W 0 m (upd H1 D (.lst []))) ∧ ∀ i m H, W i m H →
      ((Its x).stop i H ∧ Qd H) ∨ ((Its x).go i H ∧ ∃ Nx : Hp → Prop, (∀ H', Nx H' → ∃ m', m' < m ∧ W (i + 1) m' H') ∧ ∀ v H', (Its x).yld i H v H' → g v (wipe σ vs) H' fun σ2 H2 => wipe σ2 vs = wipe σ vs ∧ tt σ2 H2 fun b H3 =>
        if b = true then te σ2 H3 fun y H4 => ∃ acc, H4 D = some (.lst acc) ∧ acc.length < sizeLine ∧ Nx (upd H4 D (.lst (acc ++ [y]))) else Nx H3) := by
  refine ⟨fun i m H => m = x.cps.size - i ∧ i ≤ x.cps.size ∧ Pv i H, ⟨x.cps.size, by simp, Nat.zero_le _, h0⟩, ?_⟩
  rintro i m H ⟨rfl, hi, p⟩
  by_cases hlt : i < x.cps.size
  · refine .inr ⟨hlt, Pv (i + 1), fun H' p' => ⟨x.cps.size - (i + 1), by omega, rfl, hlt, p'⟩, fun v H' y => ?_⟩
    obtain ⟨rfl, c, e, rfl⟩ := y
    exact hs i c _ e p
  · have e : i = x.cps.size := by omega
    subst e
    exact .inl ⟨Nat.le_refl _, hd H p⟩
/-- [e for c in z], c in slot j: ys are the items of the new list -/
def tMapS (j : Nat) (tl te : TE) : TE := fun σ H Q => tl σ H fun x H1 => ∃ (z : Str) (ys : List V), x = .str z ∧ ys.length = z.length ∧ z.length ≤ 100000 ∧
  (∀ (i : Nat) (c : Nat) (y : V) (H' : Hp), z.cps[i]? = some c → ys[i]? = some y → Same H1 H' → te ((σ.set j none).set j (some (.str ⟨#[c]⟩))) H' fun v H'' => v = y ∧ Same H' H'') ∧
  ∀ D H', Same H1 H' → H1 D = none → H' D = some (.lst ys) → Q (.ref D) H'
theorem map_coreS {te : TE} {j : Nat} {σ : L2.St} {H1 : Hp} {Q : VK} {z : Str} {ys : List V} (hn : ys.length = z.length) (hs : z.length ≤ 100000)
    (he : ∀ (i : Nat) (c : Nat) (y : V) (H' : Hp), z.cps[i]? = some c → ys[i]? = some y → Same H1 H' → te ((σ.set j none).set j (some (.str ⟨#[c]⟩))) H' fun v H'' => v = y ∧ Same H' H'')
    (k : ∀ D H', Same H1 H' → H1 D = none → H' D = some (.lst ys) → Q (.ref D) H') :
    tLc (fun _ H R => R (Its z) H) (gName j) tYes (tCut te) [j] σ H1 Q := by
  intro D hD
  refine lc_str (x := z) (fun i H' => Same H1 H' ∧ H' D = some (.lst (ys.take i))) ⟨fun c u h => by rw [upd_ne (ne_of_none h hD)]; exact h, upd_same⟩ ?_ ?_
  · rintro i c H' hi ⟨s, e⟩
    have hi2 : i < z.cps.size := (Array.getElem?_eq_some_iff.mp hi).1
    have hn' : ys.length = z.cps.size := hn
    have hy : ys[i]? = some ys[i] := List.getElem?_eq_getElem (by omega)
    refine ⟨wipe_one, _, he i c _ H' hi hy s, ?_⟩
    rintro v H2 ⟨rfl, s2⟩
    refine ⟨_, s2 _ _ e, ?_, ?_, ?_⟩
    · rw [List.length_take]
      exact Nat.lt_of_le_of_lt (m := 100000) (by omega) (by decide)
    · intro c o hc
      rw [upd_ne (ne_of_none hc hD)]
      exact s2 _ _ (s _ _ hc)
    · rw [upd_same, take_one hy]
  · rintro H' ⟨s, e⟩
    have hn' : ys.length = z.cps.size := hn
    rw [← hn', List.take_length] at e
    exact k D H' s hD e
theorem pe_mapS {X : Cx} {e : Expr} {tl te : TE} {j : Nat} (h : PE X e (tLc (iStr (tCut tl)) (gName j) tYes (tCut te) [j])) : PE X e (tMapS j tl te) := by
  refine pe_imp h fun σ H Q q => ?_
  refine ⟨_, q, ?_⟩
  rintro v H1 ⟨z, ys, rfl, hn, hs, he, k⟩
  exact ⟨z, rfl, map_coreS hn hs he k⟩
theorem cr_allK {X : Cx} {K : PySem.W.Frag} (hc : X.calm = true) (hK : X.K = K := by rfl) : CallR X (.builtin "all") (rAll K) := hK ▸ cr_all hc
end MG

namespace Lw
open PySem PySem.Spec PyProof.Rows L2 MG
section
variable {X : Addr → Prop}
variable {P : Program} {w : World} {K : PySem.W.Frag} {mg : Str → Option Value} {base : Heap} {C CI : Addr}
abbrev GreatC (X : Addr → Prop) (P : Program) (w : World) (K : PySem.W.Frag) (mg : Str → Option Value) (base : Heap) : Prop := CalG P w K mg base 4 "_law_great" (spGreat X) []
/-! ### _law_sign_text -/
def spSign (X : Addr → Prop) : Sp := fun vs H Q _ => ∃ (q : Addr) (n : Nat), vs = [.ref q] ∧ QAt X H q n ∧ n + 1 ≤ 100000 ∧ ∀ (z : Str) (H' : Hp), Asc z → z.length = 1 → Keep q H H' → QAt X H' q (n + 1) → Q (.str z) H'
theorem at_str {z : Str} (hz : Asc z) {i : Int} (h0 : 0 ≤ i) (h : i < z.length) : ∃ c, atI z.cps.toList i = some c ∧ 32 ≤ c ∧ c ≤ 126 := by
  obtain ⟨j, rfl⟩ := Int.eq_ofNat_of_zero_le h0
  have hl : z.cps.toList.length = z.length := by simp [Str.length]
  have hj : j < z.cps.toList.length := by omega
  exact ⟨z.cps.toList[j], atI_nat (List.getElem?_eq_getElem hj), hz _ (List.getElem_mem hj)⟩
theorem sc__law_sign_text : FnScope ["_law_q", "_law_signs"] ["_law_q"] (defScope s__law_sign_text) := ⟨rfl, rfl, rfl, by decide +kernel, rfl, by decide +kernel, by decide +kernel⟩
theorem ok_sign {f : Addr} {fd : FuncData} (F : Fun K "_law_sign_text" "_law_sign_text" s__law_sign_text f fd) (T : Blt mg) (c_draw : DrawC X P w K mg base) : FnG P w K mg base CX0 4 f fd ["_law_q"] (spSign X) := by
  refine fun_okG F sc__law_sign_text (fun vs H Q E h => ?_) (fun cdv A outer s H vs Q E bare hr h => ?_)
  · obtain ⟨q, n, rfl, _⟩ := h
    rfl
  · obtain ⟨q, n, rfl, hq, hn, k⟩ := h
    refine ⟨_, (pss_cons (ps_set (i := 1) sc__law_sign_text.nd rfl (Or.inl rfl) pe_str)
  (pss_one (ps_ret (pe_ix ix_str (pv 1) (pe_cg c_draw bare hr (by decide) rfl (pa_cons (pv 0) (pa_cons (pe_callB (id := "len") call_len_str (by rfl) T.b_len (by decide +kernel) (pa_cons (pv 1) pa_nil)) pa_nil))) (fun _ _ => rfl))))), ?_⟩
    refine ⟨_, rfl, _, rfl, _, rfl, _, rfl, by decide +kernel, q, 93, n, rfl, hq, by omega, by decide, by decide, fun r H1 r0 r1 k1 q1 => ?_⟩
    obtain ⟨c, hc, h1, h2⟩ := at_str (z := Str.ofString " !\"#$&'()*+,-./0123456789:;<=>?@ABCDEFGHIJKLMNOPQRSTUVWXYZ[\\]^_abcdefghijklmnopqrstuvwxyz{|}~") (asc_of _ (by decide +kernel)) r0 (by show r < 93; exact r1)
    refine ⟨_, _, c, rfl, rfl, by decide +kernel, hc, k _ H1 (fun d hd => ?_) rfl k1 q1⟩
    have e : d = c := by simpa using hd
    rw [e]
    exact ⟨h1, h2⟩
abbrev SignC (X : Addr → Prop) (P : Program) (w : World) (K : PySem.W.Frag) (mg : Str → Option Value) (base : Heap) : Prop := CalG P w K mg base 4 "_law_sign_text" (spSign X) []
/-! ### _law_odd -/
theorem shw_same {H H' : Hp} {as : List Addr} {k : Nat} {x : V} {t : Str} (h : Shw K (ownR C) 2 H as k x t) (s : Same H H') : Shw K (ownR C) 2 H' as k x t := Shw.same (own := ownR C) (fun h s => ownR_same h s) h s
def tn : Nat → Nat
  | 0 => 4
  | m + 1 => 1 + 2 * tn m
def sz : Nat → Nat
  | 0 => 400
  | m + 1 => 2 * sz m + 10
theorem tn_ge : ∀ m, 4 ≤ tn m
  | 0 => Nat.le_refl 4
  | m + 1 => by have := tn_ge m; show 4 ≤ 1 + 2 * tn m; omega
theorem sz_ge : ∀ m, 400 ≤ sz m
  | 0 => Nat.le_refl 400
  | m + 1 => by have := sz_ge m; show 400 ≤ 2 * sz m + 10; omega
def spOdd (X : Addr → Prop) (K : PySem.W.Frag) (C : Addr) : Nat → Sp
  | 0 => fun _ _ _ _ => False
  | m + 1 => fun vs H Q _ => ∃ (q : Addr) (n : Nat), vs = [.ref q, .int m] ∧ QAt X H q n ∧ n + tn m ≤ 100000 ∧
      ∀ (x : V) (t : Str) (o : Option Rat) (H' : Hp), Keep q H H' → QAt X H' q (n + tn m) → Thing K C (hid q H') x t o (sz m) (2 * m + 2) → Q x H'
theorem QAt.le {H : Hp} {q : Addr} {n n' : Nat} (h : QAt X H q n) (hn : n ≤ n') : QAt X H q n' := by
  obtain ⟨c, ns, i, r, t, hq, hc, hz, hl, h1, h2, h3⟩ := h
  exact ⟨c, ns, i, r, t, hq, hc, hz, hl, ⟨h1.1, by omega⟩, h2, ⟨h3.1, by omega⟩⟩
section
variable {H : Hp} {n k : Nat}
theorem thing_non (O : Others K C) : Thing K C H .non "None" none 400 2 := ⟨⟨[], 2, .non, Nat.le_refl _, nofun⟩, by decide, asc_of _ (by decide +kernel), .inr ⟨rfl, _, false, false, .base .non, kit_ty (by decide +kernel), kit_ty (by decide +kernel), rfl, kit_tr O.is O.ty O.non⟩, .inr ⟨_, .base .non, kit_ty (by decide +kernel)⟩⟩
theorem thing_bl (O : Others K C) (b : Bool) : Thing K C H (.bl b) (if b then "True" else "False") none 400 2 := ⟨⟨[], 2, .bl b, Nat.le_refl _, nofun⟩, by cases b <;> decide, by cases b <;> exact asc_of _ (by decide +kernel), .inr ⟨rfl, _, true, true, .base (.bl b), kit_ty (by decide +kernel), kit_ty (by decide +kernel), rfl, kit_tr O.is O.ty O.bl⟩, .inr ⟨_, .base (.bl b), kit_ty (by decide +kernel)⟩⟩
theorem thing_str (O : Others K C) {z : Str} (hz : Asc z) (hl : z.length ≤ 3) : Thing K C H (.str z) (reprText z) none 400 2 := by
  have l := PySem.StrLaws.reprText_len z fun c hc => by have := (hz c hc).2; omega
  exact ⟨⟨[], 2, .str (Nat.le_trans (m := 60) (by omega) (by decide)), Nat.le_refl _, nofun⟩, by omega, asc_repr hz, .inr ⟨rfl, _, false, false, .base (.str z), kit_ty (by decide +kernel), kit_ty (by decide +kernel), rfl, kit_tr O.is O.ty O.str⟩, .inl ⟨z, rfl, hz, by omega⟩⟩
theorem int_len {i : Int} (h : i.natAbs < 10 ^ 43) : (Str.ofString (toString i)).length ≤ 400 := by
  rw [PySem.ofString_length]
  exact Nat.le_trans (int_text_length_le (k := 150) (by decide) (Nat.lt_of_lt_of_le (PySem.Flt.log2_lt_of (k := 150) (by decide) (Nat.lt_of_lt_of_le h (by decide))) (by decide))) (by decide)
theorem thing_int {i : Int} (h : i.natAbs < 10 ^ 43) : Thing K C H (.int i) (toString i) (some (Rat.divInt i 1)) 400 2 := by
  have sm : Sm i := sm_of (Nat.lt_of_lt_of_le h (Nat.pow_le_pow_right (by decide) (by decide)))
  exact ⟨⟨[], 2, .int (log_sm sm), Nat.le_refl _, nofun⟩, int_len h, asc_int i, .inl ⟨_, rfl, .inr ⟨i, rfl, rfl⟩, bd_div (by decide) h (by decide)⟩, .inr ⟨_, .base (.int i), kit_ty (by decide +kernel)⟩⟩
theorem thing_rat (O : Others K C) {r : Addr} {p : Rat} (T : TxR K mg C) (h : RatAt C H r p) (b : Bd p 3) : Thing K C H (.ref r) (rt p) (some p) 400 2 := by
  have sn : Sm p.num := b.num (by decide)
  have sd : Sm (p.den : Int) := b.den (by decide)
  refine ⟨⟨[], 2, .own ⟨p, h, sn, sd, rfl⟩ (Nat.le_refl _), Nat.le_refl _, nofun⟩, ?_, ?_, .inl ⟨p, rfl, .inl ⟨r, rfl, h⟩, b.mono (by decide)⟩, .inr ⟨_, h.tyx T, kit_rt (by decide +kernel) O.sst⟩⟩
  · have l1 : (Str.ofString (toString p.num)).length ≤ 20 := by
      rw [PySem.ofString_length]
      exact Nat.le_trans (int_text_length_le (k := 12) (by decide) (Nat.lt_of_lt_of_le (PySem.Flt.log2_lt_of (k := 12) (by decide) (Nat.lt_of_lt_of_le b.1 (by decide))) (by decide))) (by decide)
    have l2 : (Str.ofString (toString (p.den : Int))).length ≤ 20 := by
      rw [PySem.ofString_length]
      exact Nat.le_trans (int_text_length_le (k := 12) (by decide) (Nat.lt_of_lt_of_le (PySem.Flt.log2_lt_of (k := 12) (by decide) (Nat.lt_of_lt_of_le (show (p.den : Int).natAbs < 10 ^ 3 from b.2) (by decide))) (by decide))) (by decide)
    unfold rt
    rw [strLen_append, strLen_append, strLen_append, strLen_append]
    have e1 : (("Ratio(" : Str)).length = 6 := rfl
    have e2 : ((", " : Str)).length = 2 := rfl
    have e3 : ((")" : Str)).length = 1 := rfl
    omega
  · exact asc_append (asc_append (asc_append (asc_append (asc_of _ (by decide +kernel)) (asc_int _)) (asc_of _ (by decide +kernel))) (asc_int _)) (asc_of _ (by decide +kernel))
theorem thing_tup0 (O : Others K C) {a : Addr} (h : H a = some (.tup [])) : Thing K C H (.ref a) (tupleText []) none 400 2 :=
  ⟨⟨[a], 2, .tuple (as := []) (k := 0) (SqT.of h) nofun rfl (fun i y t h1 _ => by simp at h1) (fun b hb => hb) (Nat.le_refl _), Nat.le_refl _, fun b hb z => by
    have e : b = a := by simpa using hb
    rw [e, h] at z; cases z⟩, by decide, asc_of "()" (by decide +kernel), .inr ⟨rfl, _, false, false, .base (.tup h), kit_ty (by decide +kernel), kit_ty (by decide +kernel), rfl, kit_tr O.is O.ty O.tup⟩, .inr ⟨_, .base (.tup h), kit_ty (by decide +kernel)⟩⟩
theorem thing_list0 (O : Others K C) {a : Addr} (h : H a = some (.lst [])) : Thing K C H (.ref a) "[]" none 400 2 :=
  ⟨⟨[], 2, .list0 (SqL.of h), Nat.le_refl _, nofun⟩, by decide, asc_of "[]" (by decide +kernel), .inr ⟨rfl, _, false, false, .base (.lst h), kit_ty (by decide +kernel), kit_ty (by decide +kernel), rfl, kit_tr O.is O.ty O.lst⟩, .inr ⟨_, .base (.lst h), kit_ty (by decide +kernel)⟩⟩
def but (a : Addr) (H : Hp) : Hp := fun b => if b = a then none else H b
theorem but_same (a : Addr) (H : Hp) : Same (but a H) H := fun b o h => by
  unfold but at h
  split at h
  · cases h
  · exact h
theorem thing_dict0 (O : Others K C) {a : Addr} (h : H a = some (.dK [])) : Thing K C H (.ref a) (dictText (kvTxts [] [])) none 400 2 :=
  ⟨⟨[a], 2, .dict (H0 := but a H) (as := []) (k := 0) (vts := []) (if_pos rfl) h (but_same a H) nofun rfl (fun i kv h1 => by simp at h1) (fun i kv v h1 _ => by simp at h1) (fun b hb => hb) (Nat.le_refl _), Nat.le_refl _, fun b hb z => by
    have e : b = a := by simpa using hb
    rw [e, h] at z; cases z⟩, by decide, asc_of "{}" (by decide +kernel), .inr ⟨rfl, _, false, false, .base (.dK h), kit_ty (by decide +kernel), kit_ty (by decide +kernel), rfl, kit_tr O.is O.ty O.dict⟩, .inr ⟨_, .base (.dK h), kit_ty (by decide +kernel)⟩⟩
/-- a container of one thing -/
theorem tupleText_one (t : Str) : tupleText [t] = ("(" : Str) ++ t ++ (",)" : Str) := by
  unfold tupleText
  rw [join_one]
  rfl
theorem thing_tup1 (O : Others K C) {a : Addr} {x : V} {t : Str} {o : Option Rat} {n k : Nat} (h : Thing K C H x t o n k) (hn : H a = none) {H' : Hp} (s : Same H H') (e : H' a = some (.tup [x])) : Thing K C H' (.ref a) (tupleText [t]) none (2 * n + 10) (k + 2) := by
  have h' := h.same s
  obtain ⟨⟨as, k1, h1, h2, h3⟩, h4, h5, h6⟩ := h
  obtain ⟨⟨as', k1', h1', h2', h3'⟩, _⟩ := h'
  refine ⟨⟨a :: as, k1 + 2, .tuple (as := as) (k := k1) (SqT.of e) (fun z => h3 a z hn) rfl (fun i y u e1 e2 => ?_) (fun b hb => hb) (Nat.le_refl _), by omega, fun b hb z => ?_⟩, ?_, ?_, .inr ⟨rfl, _, false, false, .base (.tup e), kit_ty (by decide +kernel), kit_ty (by decide +kernel), rfl, kit_tr O.is O.ty O.tup⟩, .inr ⟨_, .base (.tup e), kit_ty (by decide +kernel)⟩⟩
  · match i, e1, e2 with
    | 0, e1, e2 =>
      obtain rfl : x = y := Option.some.inj e1
      obtain rfl : t = u := Option.some.inj e2
      exact shw_same h1 s
  · rcases List.mem_cons.mp hb with rfl | hb
    · rw [e] at z; cases z
    · cases q : H b with
      | none => exact h3 b hb q
      | some o' => exact nomatch (s _ _ q).symm.trans z
  · rw [tupleText_one, strLen_append, strLen_append]
    have e1 : (("(" : Str)).length = 1 := rfl
    have e2 : ((",)" : Str)).length = 2 := rfl
    omega
  · rw [tupleText_one]
    exact asc_append (asc_append (asc_of _ (by decide +kernel)) h5) (asc_of _ (by decide +kernel))
theorem listText_one (t : Str) : listText [t] = ("[" : Str) ++ t ++ ("]" : Str) := rfl
theorem thing_list1 (O : Others K C) {a : Addr} {x : V} {t : Str} {o : Option Rat} {n k : Nat} (h : Thing K C H x t o n k) (hn : H a = none) {H' : Hp} (s : Same H H') (e : H' a = some (.lst [x])) : Thing K C H' (.ref a) (listText [t]) none (2 * n + 10) (k + 2) := by
  obtain ⟨⟨as, k1, h1, h2, h3⟩, h4, h5, h6⟩ := h
  refine ⟨⟨a :: as, k1 + 2, .list (as := as) (k := k1) (SqL.of e) (fun z => h3 a z hn) rfl (fun i y u e1 e2 => ?_) (fun b hb => hb) (Nat.le_refl _), by omega, fun b hb z => ?_⟩, ?_, ?_, .inr ⟨rfl, _, false, false, .base (.lst e), kit_ty (by decide +kernel), kit_ty (by decide +kernel), rfl, kit_tr O.is O.ty O.lst⟩, .inr ⟨_, .base (.lst e), kit_ty (by decide +kernel)⟩⟩
  · match i, e1, e2 with
    | 0, e1, e2 =>
      obtain rfl : x = y := Option.some.inj e1
      obtain rfl : t = u := Option.some.inj e2
      exact shw_same h1 s
  · rcases List.mem_cons.mp hb with rfl | hb
    · rw [e] at z; cases z
    · cases q : H b with
      | none => exact h3 b hb q
      | some o' => exact nomatch (s _ _ q).symm.trans z
  · rw [listText_one, strLen_append, strLen_append]
    have e1 : (("[" : Str)).length = 1 := rfl
    have e2 : (("]" : Str)).length = 1 := rfl
    omega
  · rw [listText_one]
    exact asc_append (asc_append (asc_of _ (by decide +kernel)) h5) (asc_of _ (by decide +kernel))
theorem tupleText_two (t u : Str) : tupleText [t, u] = ("(" : Str) ++ (t ++ (", " : Str) ++ u) ++ (")" : Str) := by
  unfold tupleText
  rw [join_cons_cons, join_one]
  rfl
theorem thing_tup2 (O : Others K C) {a : Addr} {x y : V} {t u : Str} {o o' : Option Rat} {n k : Nat} (h : Thing K C H x t o n k) (g : Thing K C H y u o' n k) (hn : H a = none) {H' : Hp} (s : Same H H') (e : H' a = some (.tup [x, y])) : Thing K C H' (.ref a) (tupleText [t, u]) none (2 * n + 10) (k + 2) := by
  obtain ⟨⟨as, k1, h1, h2, h3⟩, h4, h5, h6⟩ := h
  obtain ⟨⟨bs, k2, g1, g2, g3⟩, g4, g5, g6⟩ := g
  refine ⟨⟨a :: (as ++ bs), k + 2, .tuple (as := as ++ bs) (k := k) (SqT.of e) (fun z => ?_) rfl (fun i z v e1 e2 => ?_) (fun b hb => hb) (Nat.le_refl _), Nat.le_refl _, fun b hb z => ?_⟩, ?_, ?_, .inr ⟨rfl, _, false, false, .base (.tup e), kit_ty (by decide +kernel), kit_ty (by decide +kernel), rfl, kit_tr O.is O.ty O.tup⟩, .inr ⟨_, .base (.tup e), kit_ty (by decide +kernel)⟩⟩
  · rcases List.mem_append.mp z with z | z
    · exact h3 a z hn
    · exact g3 a z hn
  · match i, e1, e2 with
    | 0, e1, e2 =>
      obtain rfl : x = z := Option.some.inj e1
      obtain rfl : t = v := Option.some.inj e2
      exact (shw_same h1 s).more (fun c hc => List.mem_append_left _ hc) h2
    | 1, e1, e2 =>
      obtain rfl : y = z := Option.some.inj e1
      obtain rfl : u = v := Option.some.inj e2
      exact (shw_same g1 s).more (fun c hc => List.mem_append_right _ hc) g2
  · rcases List.mem_cons.mp hb with rfl | hb
    · rw [e] at z; cases z
    · cases q : H b with
      | none =>
        rcases List.mem_append.mp hb with hb | hb
        · exact h3 b hb q
        · exact g3 b hb q
      | some o' => exact nomatch (s _ _ q).symm.trans z
  · rw [tupleText_two, strLen_append, strLen_append, strLen_append, strLen_append]
    have e1 : (("(" : Str)).length = 1 := rfl
    have e2 : ((")" : Str)).length = 1 := rfl
    have e3 : ((", " : Str)).length = 2 := rfl
    omega
  · rw [tupleText_two]
    exact asc_append (asc_append (asc_of _ (by decide +kernel)) (asc_append (asc_append h5 (asc_of _ (by decide +kernel))) g5)) (asc_of _ (by decide +kernel))
theorem dictText_one (t : Str) : dictText (kvTxts [(Sum.inr "a", (V.non))] [t]) = ("{" : Str) ++ (reprText "a" ++ (": " : Str) ++ t) ++ ("}" : Str) := by
  unfold dictText kvTxts
  rw [List.zipWith_cons_cons, List.zipWith_nil_left, join_one]
  rfl
theorem thing_dict1 (O : Others K C) {a : Addr} {x : V} {t : Str} {o : Option Rat} {n k : Nat} (h : Thing K C H x t o n k) (hn : H a = none) {H' : Hp} (s : Same H H') (e : H' a = some (.dK [(Sum.inr "a", x)])) : Thing K C H' (.ref a) (dictText (kvTxts [(Sum.inr "a", V.non)] [t])) none (2 * n + 10) (k + 2) := by
  obtain ⟨⟨as, k1, h1, h2, h3⟩, h4, h5, h6⟩ := h
  have la : (reprText "a").length = 3 := by decide +kernel
  have e0 : kvTxts [(Sum.inr "a", V.non)] [t] = kvTxts [(Sum.inr "a", x)] [t] := rfl
  refine ⟨⟨a :: as, k1 + 2, ?_, by omega, fun b hb z => ?_⟩, ?_, ?_, .inr ⟨rfl, _, false, false, .base (.dK e), kit_ty (by decide +kernel), kit_ty (by decide +kernel), rfl, kit_tr O.is O.ty O.dict⟩, .inr ⟨_, .base (.dK e), kit_ty (by decide +kernel)⟩⟩
  · rw [e0]
    refine .dict (H0 := H) (as := as) (k := k1) (vts := [t]) hn e s (fun z => h3 a z hn) rfl (fun i kv e1 => ?_) (fun i kv v e1 e2 => ?_) (fun b hb => hb) (Nat.le_refl _)
    · match i, e1 with
      | 0, e1 =>
        obtain rfl := Option.some.inj e1
        show (reprText "a").length ≤ sizeLine
        rw [la]
        decide
    · match i, e1, e2 with
      | 0, e1, e2 =>
        obtain rfl := Option.some.inj e1
        obtain rfl : t = v := Option.some.inj e2
        exact h1
  · rcases List.mem_cons.mp hb with rfl | hb
    · rw [e] at z; cases z
    · cases q : H b with
      | none => exact h3 b hb q
      | some o' => exact nomatch (s _ _ q).symm.trans z
  · rw [dictText_one, strLen_append, strLen_append, strLen_append, strLen_append]
    have e1 : (("{" : Str)).length = 1 := rfl
    have e2 : (("}" : Str)).length = 1 := rfl
    have e3 : ((": " : Str)).length = 2 := rfl
    omega
  · rw [dictText_one]
    exact asc_append (asc_append (asc_of _ (by decide +kernel)) (asc_append (asc_append (asc_repr (asc_of "a" (by decide +kernel))) (asc_of _ (by decide +kernel))) h5)) (asc_of _ (by decide +kernel))
end
theorem sc__law_odd : FnScope ["_law_q", "_law_deep", "_law_way", "_law_one"] ["_law_q", "_law_deep"] (defScope s__law_odd) := ⟨rfl, rfl, rfl, by decide +kernel, rfl, by decide +kernel, by decide +kernel⟩
theorem ok_odd {f : Addr} {fd : FuncData} {l : Nat} (F : Fun K "_law_odd" "_law_odd" s__law_odd f fd) (T : TxR K mg C) (O : Others K C) (c_draw : DrawC X P w K mg base) (c_great : GreatC X P w K mg base) (c_sign : SignC X P w K mg base) (m_rat2 : Rat2C P w K mg base C) (hl : 6 ≤ l) (m : Nat)
    (c_odd : CalG P w K mg base l "_law_odd" (spOdd X K C m) []) : FnG P w K mg base CX0 (l + 1) f fd ["_law_q", "_law_deep"] (spOdd X K C (m + 1)) := by
  refine fun_okG F sc__law_odd (fun vs H Q E h => ?_) (fun cdv A outer s H vs Q E bare hr h => ?_)
  · obtain ⟨q, n, rfl, _⟩ := h
    rfl
  · obtain ⟨q, n, rfl, hq, hn, k⟩ := h
    have t4 := tn_ge m
    have z4 := sz_ge m
    refine ⟨_, (pss_cons (ps_set (i := 2) sc__law_odd.nd rfl (Or.inl rfl) (pe_cg c_draw bare hr (by omega) rfl (pa_cons (pv 0) (pa_cons pe_int pa_nil))))
  (pss_cons (ps_if (pt_cmpR op_lt (pv 2) pe_int (nomark _)) (pss_one (ps_ret (pe_ix (ix_listK (K := K)) (pe_lst (pa_cons pe_non (pa_cons pe_bl (pa_cons pe_bl (pa_cons pe_str (pa_cons pe_int (pa_cons pe_int pa_nil))))))) (pv 2) (fun _ _ => rfl))))
  pss_nil)
  (pss_cons (ps_if (pt_cmpR op_eq (pv 2) pe_int (nomark _)) (pss_one (ps_ret (pe_cg c_great bare hr (by omega) rfl (pa_cons (pv 0) pa_nil))))
  pss_nil)
  (pss_cons (ps_if (pt_cmpR op_eq (pv 2) pe_int (nomark _)) (pss_one (ps_ret (pe_op op_add_str (pe_cg c_sign bare hr (by omega) rfl (pa_cons (pv 0) pa_nil)) (pe_op op_mulStr (pe_cg c_sign bare hr (by omega) rfl (pa_cons (pv 0) pa_nil)) (pe_cg c_draw bare hr (by omega) rfl (pa_cons (pv 0) (pa_cons pe_int pa_nil)))))))
  pss_nil)
  (pss_cons (ps_if (pt_cmpR op_eq (pv 2) pe_int (nomark _)) (pss_one (ps_ret (pe_mkf m_rat2 hr (by omega) rfl (pa_cons (pe_op op_sub (pe_cg c_draw bare hr (by omega) rfl (pa_cons (pv 0) (pa_cons pe_int pa_nil))) pe_int) (pa_cons (pe_op op_add pe_int (pe_cg c_draw bare hr (by omega) rfl (pa_cons (pv 0) (pa_cons pe_int pa_nil)))) pa_nil)))))
  pss_nil)
  (pss_cons (ps_if (PW.pt (pw_or (pt_cmpR op_eq (pv 2) pe_int (nomark _)) (pw_or1 (pt_cmpR op_lt (pv 1) pe_int (nomark _))))) (pss_one (ps_ret (pe_ix (ix_listK (K := K)) (pe_lst (pa_cons (pe_tup pa_nil) (pa_cons (pe_lst pa_nil) (pa_cons pe_dnewK pa_nil)))) (pe_cg c_draw bare hr (by omega) rfl (pa_cons (pv 0) (pa_cons pe_int pa_nil))) (fun _ _ => rfl))))
  pss_nil)
  (pss_cons (ps_set (i := 3) sc__law_odd.nd rfl (Or.inl rfl) (pe_cg c_odd bare hr (by omega) rfl (pa_cons (pv 0) (pa_cons (pe_op op_sub (pv 1) pe_int) pa_nil))))
  (pss_cons (ps_if (pt_cmpR op_eq (pv 2) pe_int (nomark _)) (pss_one (ps_ret (pe_tup (pa_cons (pv 3) pa_nil))))
  pss_nil)
  (pss_cons (ps_if (pt_cmpR op_eq (pv 2) pe_int (nomark _)) (pss_one (ps_ret (pe_lst (pa_cons (pv 3) pa_nil))))
  pss_nil)
  (pss_cons (ps_if (pt_cmpR op_eq (pv 2) pe_int (nomark _)) (pss_one (ps_ret (pe_tup (pa_cons (pv 3) (pa_cons (pe_cg c_odd bare hr (by omega) rfl (pa_cons (pv 0) (pa_cons (pe_op op_sub (pv 1) pe_int) pa_nil))) pa_nil)))))
  pss_nil)
  (pss_one (ps_ret (pe_disp (pps_cons pe_str (pv 3) pps_nil) (by rfl) (by rfl) (fun z => by cases z) (by decide)))))))))))))), ?_⟩
    -- way = draw(q, 14)
    refine ⟨_, rfl, q, 14, n, rfl, hq, by omega, by decide, by decide, fun r H1 r0 r1 k1 q1 => ?_⟩
    have fin : ∀ {x : V} {t : Str} {o : Option Rat} {H' : Hp} {n' : Nat}, Keep q H H' → QAt X H' q n' → n' ≤ n + tn m → Thing K C (hid q H') x t o 400 2 → Q x H' := fun k2 q2 hle h => k _ _ _ _ k2 (QAt.le q2 hle) (h.le z4 (by omega))
    -- if way < 6
    refine ⟨_, rfl, _, _, rfl, rfl, _, rfl, ?_⟩
    refine ite2 (fun h6 => ?_) (fun h6 => ?_)
    · have h6' : r < 6 := of_decide_eq_true h6
      refine ⟨by show 6 ≤ sizeLine; decide, fun p hp => ?_⟩
      have kp : Keep q H (upd H1 p (.lst [V.non, .bl true, .bl false, .str "", .int 1, .int 0])) := k1.new hp
      have fin6 : ∀ (x : V) (t : Str) (o : Option Rat), (∀ H', Thing K C H' x t o 400 2) → Q x (upd H1 p (.lst [V.non, .bl true, .bl false, .str "", .int 1, .int 0])) := fun x t o h => fin kp (q1.new hp) (by omega) (h _)
      have cs : r = 0 ∨ r = 1 ∨ r = 2 ∨ r = 3 ∨ r = 4 ∨ r = 5 := by omega
      rcases cs with rfl | rfl | rfl | rfl | rfl | rfl
      · exact ⟨_, rfl, p, _, _, _, rfl, rfl, SqL.of upd_same, rfl, fin6 _ _ _ fun H' => thing_non O⟩
      · exact ⟨_, rfl, p, _, _, _, rfl, rfl, SqL.of upd_same, rfl, fin6 _ _ _ fun H' => thing_bl O true⟩
      · exact ⟨_, rfl, p, _, _, _, rfl, rfl, SqL.of upd_same, rfl, fin6 _ _ _ fun H' => thing_bl O false⟩
      · exact ⟨_, rfl, p, _, _, _, rfl, rfl, SqL.of upd_same, rfl, fin6 _ _ _ fun H' => thing_str O (asc_of "" (by decide +kernel)) (by decide)⟩
      · exact ⟨_, rfl, p, _, _, _, rfl, rfl, SqL.of upd_same, rfl, fin6 _ _ _ fun H' => thing_int (by decide)⟩
      · exact ⟨_, rfl, p, _, _, _, rfl, rfl, SqL.of upd_same, rfl, fin6 _ _ _ fun H' => thing_int (by decide)⟩
    -- if way == 6
    refine ⟨_, rfl, rfl, _, rfl, ?_⟩
    refine ite2 (fun _ => ?_) (fun _ => ?_)
    · refine ⟨_, rfl, q, n + 1, rfl, q1, by omega, fun z H2 z0 z1 k2 q2 => ?_⟩
      exact fin (k1.trans k2) q2 (by omega) (thing_int (Nat.lt_of_lt_of_le (m := 10 ^ 42) (by omega) (by decide)))
    -- if way == 7
    refine ⟨_, rfl, rfl, _, rfl, ?_⟩
    refine ite2 (fun _ => ?_) (fun _ => ?_)
    · refine ⟨_, rfl, q, n + 1, rfl, q1, by omega, fun z2 H2 a2 l2 k2 q2 => ?_⟩
      refine ⟨_, rfl, q, n + 2, rfl, q2, by omega, fun z3 H3 a3 l3 k3 q3 => ?_⟩
      refine ⟨_, rfl, q, 3, n + 3, rfl, q3, by omega, by decide, by decide, fun r4 H4 r40 r41 k4 q4 => ?_⟩
      have lm := mulT_len (x := z3) (n := r4)
      rw [l3] at lm
      have lm2 : (mulT z3 r4).length ≤ 2 := by omega
      refine ⟨_, _, rfl, rfl, r40, by omega, by omega, _, _, rfl, rfl, Nat.le_trans (m := 3) (by omega) (by decide), ?_⟩
      exact fin (k1.trans (k2.trans (k3.trans k4))) q4 (by omega) (thing_str O (asc_append a2 (mulT_asc a3)) (by rw [strLen_append]; omega))
    -- if way == 8
    refine ⟨_, rfl, rfl, _, rfl, ?_⟩
    refine ite2 (fun _ => ?_) (fun _ => ?_)
    · refine ⟨_, rfl, q, 9, n + 1, rfl, q1, by omega, by decide, by decide, fun r2 H2 r20 r21 k2 q2 => ?_⟩
      refine ⟨_, _, rfl, rfl, ?_⟩
      refine ⟨_, rfl, q, 3, n + 2, rfl, q2, by omega, by decide, by decide, fun r3 H3 r30 r31 k3 q3 => ?_⟩
      refine ⟨_, _, rfl, rfl, ?_⟩
      have kk := k1.trans (k2.trans k3)
      refine make_rat (by omega) (sm_lt (k := 2) (by decide) (by omega) (by omega)) fun x H4 hx s4 h4 => ?_
      have nx : x ≠ q := q3.ne hx
      have h4' : RatAt C (hid q H4) x (Rat.divInt (r2 - 4) (1 + r3)) := h4.elim fun dx e => ⟨dx, by rw [hid_ne nx]; exact e⟩
      exact fin (kk.same s4) (q3.keep s4) (by omega) (thing_rat O T h4' (bd_div (by omega) (by omega) (by omega)))
    -- if way == 9 or deep < 1
    refine ⟨_, rfl, rfl, _, rfl, ?_⟩
    refine ite2 (fun _ => ?_) (fun _ => ⟨_, rfl, _, _, rfl, rfl, _, rfl, ite2 (fun _ => ?_) (fun hd => ?_)⟩)
    · refine ⟨by show 0 ≤ sizeLine; decide, fun t ht => ⟨by show 0 ≤ sizeLine; decide, fun l hl => fun d hd => ⟨by show 3 ≤ sizeLine; decide, fun p hp => ?_⟩⟩⟩
      have s2 := MG.Same.new (o := .tup []) (Same.refl H1) ht
      have s3 := MG.Same.new (o := .lst []) (Same.refl _) hl
      have s4 := MG.Same.new (o := .dK []) (Same.refl _) hd
      have s5 := MG.Same.new (o := .lst [V.ref t, .ref l, .ref d]) (Same.refl _) hp
      have q5 := (((q1.keep s2).keep s3).keep s4).keep s5
      have k5 := (((k1.same s2).same s3).same s4).same s5
      refine ⟨_, rfl, q, 3, n + 1, rfl, q5, by omega, by decide, by decide, fun r6 H6 r60 r61 k6 q6 => ?_⟩
      have nt : t ≠ q := q1.ne ht
      have nl : l ≠ q := (q1.keep s2).ne hl
      have nd : d ≠ q := ((q1.keep s2).keep s3).ne hd
      have np : p ≠ q := (((q1.keep s2).keep s3).keep s4).ne hp
      have et : hid q H6 t = some (.tup []) := by rw [hid_ne nt]; exact k6 _ _ (s5 _ _ (s4 _ _ (s3 _ _ upd_same))) nt
      have el : hid q H6 l = some (.lst []) := by rw [hid_ne nl]; exact k6 _ _ (s5 _ _ (s4 _ _ upd_same)) nl
      have ed : hid q H6 d = some (.dK []) := by rw [hid_ne nd]; exact k6 _ _ (s5 _ _ upd_same) nd
      have ep := k6 _ _ upd_same np
      have kk := k5.trans k6
      have cs : r6 = 0 ∨ r6 = 1 ∨ r6 = 2 := by omega
      rcases cs with rfl | rfl | rfl
      · exact ⟨p, _, _, _, rfl, rfl, SqL.of ep, rfl, fin kk q6 (by omega) (thing_tup0 O et)⟩
      · exact ⟨p, _, _, _, rfl, rfl, SqL.of ep, rfl, fin kk q6 (by omega) (thing_list0 O el)⟩
      · exact ⟨p, _, _, _, rfl, rfl, SqL.of ep, rfl, fin kk q6 (by omega) (thing_dict0 O ed)⟩
    · refine ⟨by show 0 ≤ sizeLine; decide, fun t ht => ⟨by show 0 ≤ sizeLine; decide, fun l hl => fun d hd => ⟨by show 3 ≤ sizeLine; decide, fun p hp => ?_⟩⟩⟩
      have s2 := MG.Same.new (o := .tup []) (Same.refl H1) ht
      have s3 := MG.Same.new (o := .lst []) (Same.refl _) hl
      have s4 := MG.Same.new (o := .dK []) (Same.refl _) hd
      have s5 := MG.Same.new (o := .lst [V.ref t, .ref l, .ref d]) (Same.refl _) hp
      have q5 := (((q1.keep s2).keep s3).keep s4).keep s5
      have k5 := (((k1.same s2).same s3).same s4).same s5
      refine ⟨_, rfl, q, 3, n + 1, rfl, q5, by omega, by decide, by decide, fun r6 H6 r60 r61 k6 q6 => ?_⟩
      have nt : t ≠ q := q1.ne ht
      have nl : l ≠ q := (q1.keep s2).ne hl
      have nd : d ≠ q := ((q1.keep s2).keep s3).ne hd
      have np : p ≠ q := (((q1.keep s2).keep s3).keep s4).ne hp
      have et : hid q H6 t = some (.tup []) := by rw [hid_ne nt]; exact k6 _ _ (s5 _ _ (s4 _ _ (s3 _ _ upd_same))) nt
      have el : hid q H6 l = some (.lst []) := by rw [hid_ne nl]; exact k6 _ _ (s5 _ _ (s4 _ _ upd_same)) nl
      have ed : hid q H6 d = some (.dK []) := by rw [hid_ne nd]; exact k6 _ _ (s5 _ _ upd_same) nd
      have ep := k6 _ _ upd_same np
      have kk := k5.trans k6
      have cs : r6 = 0 ∨ r6 = 1 ∨ r6 = 2 := by omega
      rcases cs with rfl | rfl | rfl
      · exact ⟨p, _, _, _, rfl, rfl, SqL.of ep, rfl, fin kk q6 (by omega) (thing_tup0 O et)⟩
      · exact ⟨p, _, _, _, rfl, rfl, SqL.of ep, rfl, fin kk q6 (by omega) (thing_list0 O el)⟩
      · exact ⟨p, _, _, _, rfl, rfl, SqL.of ep, rfl, fin kk q6 (by omega) (thing_dict0 O ed)⟩
    -- one = odd(q, deep - 1)
    have m1 : ¬ ((m : Int) < 1) := fun z => hd (decide_eq_true z)
    obtain ⟨m, rfl⟩ : ∃ m', m = m' + 1 := ⟨m - 1, by omega⟩
    have em : V.int (((m + 1 : Nat) : Int) - 1) = V.int (m : Int) := by
      have : ((m + 1 : Nat) : Int) - 1 = (m : Int) := by omega
      rw [this]
    have et : tn (m + 1) = 1 + 2 * tn m := rfl
    refine ⟨_, rfl, _, rfl, _, _, rfl, rfl, q, n + 1, by show [V.ref q, V.int (((m + 1 : Nat) : Int) - 1)] = _; rw [em], q1, by omega, fun x t o H2 k2 q2 h2 => ?_⟩
    have kk := k1.trans k2
    have cont : ∀ {y : V} {u : Str} {H' : Hp} {n' : Nat}, Keep q H H' → QAt X H' q n' → n' ≤ n + tn (m + 1) → Thing K C (hid q H') y u none (2 * sz m + 10) (2 * m + 2 + 2) → Q y H' := fun k2 q2 hle h => k _ _ _ _ k2 (QAt.le q2 hle) (h.le (Nat.le_refl _) (by omega))
    have hids : ∀ {p : Addr} {u : HO}, H2 p = none → hid q H2 p = none ∧ Same (hid q H2) (hid q (upd H2 p u)) ∧ hid q (upd H2 p u) p = some u := fun {p u} hp => by
      have np : p ≠ q := q2.ne hp
      refine ⟨by rw [hid_ne np]; exact hp, hid_keep (Keep.refl.new hp), by rw [hid_ne np]; exact upd_same⟩
    -- if way == 10: return (one,)
    refine ⟨_, rfl, rfl, _, rfl, ?_⟩
    refine ite2 (fun _ => ?_) (fun _ => ?_)
    · refine ⟨_, rfl, by show 1 ≤ sizeLine; decide, fun p hp => ?_⟩
      obtain ⟨e1, e2, e3⟩ := hids (u := .tup [x]) hp
      exact cont (kk.new hp) (q2.new hp) (by omega) (thing_tup1 O h2 e1 e2 e3)
    -- if way == 11: return [one]
    refine ⟨_, rfl, rfl, _, rfl, ?_⟩
    refine ite2 (fun _ => ?_) (fun _ => ?_)
    · refine ⟨_, rfl, by show 1 ≤ sizeLine; decide, fun p hp => ?_⟩
      obtain ⟨e1, e2, e3⟩ := hids (u := .lst [x]) hp
      exact cont (kk.new hp) (q2.new hp) (by omega) (thing_list1 O h2 e1 e2 e3)
    -- if way == 12: return (one, odd(q, deep - 1))
    refine ⟨_, rfl, rfl, _, rfl, ?_⟩
    refine ite2 (fun _ => ?_) (fun _ => ?_)
    · refine ⟨_, rfl, _, rfl, _, rfl, _, _, rfl, rfl, q, n + 1 + tn m, by show [V.ref q, V.int (((m + 1 : Nat) : Int) - 1)] = _; rw [em], q2, by omega, fun y u o' H3 k3 q3 h3 => ?_⟩
      refine ⟨by show 2 ≤ sizeLine; decide, fun p hp => ?_⟩
      have np : p ≠ q := q3.ne hp
      exact cont ((kk.trans k3).new hp) (q3.new hp) (by omega) (thing_tup2 O (h2.same (hid_keep k3)) h3 (by rw [hid_ne np]; exact hp) (hid_keep (Keep.refl.new hp)) (by rw [hid_ne np]; exact upd_same))
    -- return {'a': one}
    refine fun p hp => ⟨_, rfl, upd_same, [(Sum.inr "a", x)], rfl, by show 1 ≤ 15; decide, ?_⟩
    have np : p ≠ q := q2.ne hp
    have s1 := MG.Same.new (o := .dK []) (Same.refl H2) hp
    have e0 : upd (upd H2 p (.dK [])) p (.dK (mergeK [] [(Sum.inr "a", x)])) = upd H2 p (.dK [(Sum.inr "a", x)]) := by
      funext b
      by_cases hb : b = p
      · rw [hb, upd_same, upd_same]
        rfl
      · rw [upd_ne hb, upd_ne hb, upd_ne hb]
    rw [e0]
    obtain ⟨e1, e2, e3⟩ := hids (u := .dK [(Sum.inr "a", x)]) hp
    exact cont (kk.new hp) (q2.new hp) (by omega) (thing_dict1 O h2 e1 e2 e3)
end
end Lw

/-! the texts of fractions -/
namespace Lw
open PySem PySem.Spec PyProof.Rows L2 MG TL
def DN (n : Nat) : Str := Str.ofString (toString ((n : Nat) : Int))
theorem tl_DN (n : Nat) : tl (DN n) = numL n := tl_num n
theorem tl_minus : tl (Str.ofString "-") = [45] := by decide +kernel
theorem tl_slash : tl (Str.ofString "/") = [47] := by decide +kernel
theorem tl_zero : tl (Str.ofString "0") = [48] := by decide +kernel
theorem str_one {x : Str} {c : Nat} (h : tl x = [c]) : x = ⟨#[c]⟩ := ext_tl (by rw [h])
theorem z_txt (i : Int) : Str.ofString (toString i) = if i < 0 then Str.ofString "-" ++ DN i.natAbs else DN i.natAbs := by
  by_cases h : i < 0
  · rw [if_pos h]
    refine ext_tl ?_
    rw [tl_append, tl_minus, tl_DN, tl_ofString, Int.toString_eq_repr, Int.repr_eq_if, if_neg (by omega), String.toList_append, List.map_append, Nat.toList_repr]
    have e : (-i).toNat = i.natAbs := by omega
    rw [e]
    rfl
  · rw [if_neg h]
    have e : ((i.natAbs : Nat) : Int) = i := by omega
    unfold DN
    rw [e]
def core (p : Rat) : Str := if p.den = 1 then DN p.num.natAbs else DN p.num.natAbs ++ Str.ofString "/" ++ DN p.den
theorem dg_core (p : Rat) : dg p = if p.num < 0 then Str.ofString "-" ++ core p else core p := by
  unfold dg core
  by_cases h1 : p.den = 1
  · rw [if_pos h1, if_pos h1]
    exact z_txt p.num
  · rw [if_neg h1, if_neg h1, z_txt p.num]
    by_cases h : p.num < 0
    · rw [if_pos h, if_pos h]
      refine ext_tl ?_
      rw [tl_append, tl_append, tl_append, tl_append, tl_append, tl_append, List.append_assoc, List.append_assoc, List.append_assoc]
      rfl
    · rw [if_neg h, if_neg h]
      rfl
/-! ### the first sign -/
theorem sub1 (x y : Str) {c : Nat} (hy : tl y = [c]) : Builtin.Str.subAt x y 0 = decide ((tl x).take 1 = [c]) := by
  have e := str_one hy
  subst e
  unfold Builtin.Str.subAt
  rw [Bool.eq_iff_iff, beq_iff_eq, decide_eq_true_iff, ← Array.toList_inj]
  show (x.cps.extract 0 (0 + 1)).toList = [c] ↔ _
  rw [Array.toList_extract]
  show (x.cps.toList.extract 0 (0 + 1)) = [c] ↔ _
  rw [List.extract_eq_take_drop]
  rfl
theorem starts1 (x y : Str) {c : Nat} (hy : tl y = [c]) : Txt.startswith x y = decide ((tl x).take 1 = [c]) := by
  unfold Txt.startswith
  rw [sub1 x y hy]
  by_cases h : (tl x).take 1 = [c]
  · have hl : 1 ≤ x.length := by
      rw [len_tl]
      cases e : tl x with
      | nil => rw [e] at h; cases h
      | cons a l => simp
    have hy1 : y.length = 1 := by rw [len_tl, hy]; rfl
    rw [hy1, decide_eq_true h, decide_eq_true (by omega : 0 + 1 ≤ x.length)]
    rfl
  · rw [decide_eq_false h, Bool.and_false]
theorem take1_core (p : Rat) : (tl (core p)).take 1 ≠ [45] := by
  have h : ∀ l, (numL p.num.natAbs ++ l).take 1 ≠ [45] := by
    intro l e
    cases en : numL p.num.natAbs with
    | nil => exact numL_ne _ en
    | cons a r =>
      rw [en] at e
      have e2 : a = 45 := by simpa using e
      have := numL_digits p.num.natAbs a (by rw [en]; simp)
      omega
  unfold core
  split
  · rw [tl_DN]
    have := h []
    rw [List.append_nil] at this
    exact this
  · rw [tl_append, tl_append, tl_DN, List.append_assoc]
    exact h _
theorem starts_dg (p : Rat) : Txt.startswith (dg p) (Str.ofString "-") = decide (p.num < 0) := by
  rw [starts1 _ _ tl_minus, dg_core]
  by_cases h : p.num < 0
  · rw [if_pos h, tl_append, tl_minus]
    simp [h]
  · rw [if_neg h, decide_eq_false (take1_core p), decide_eq_false h]
theorem affix_le (x : Str) (i j : Nat) : (Builtin.Str.strSub x i j).length ≤ x.length := by
  rw [len_tl, len_tl, tl_strSub, List.length_take, List.length_drop]
  omega
theorem rp_le (x y : Str) : (Txt.removeprefix x y).length ≤ x.length := by
  unfold Txt.removeprefix
  split
  · unfold Txt.affix
    dsimp only
    split
    · exact Nat.le_refl _
    · exact affix_le _ _ _
  · exact Nat.le_refl _
theorem rp_miss {x : Str} (h : (tl x).take 1 ≠ [45]) : Txt.removeprefix x (Str.ofString "-") = x := by
  unfold Txt.removeprefix
  rw [sub1 _ _ tl_minus, decide_eq_false h]
  rfl
theorem rp_hit (r : Str) : Txt.removeprefix (Str.ofString "-" ++ r) (Str.ofString "-") = r := by
  unfold Txt.removeprefix
  have h : (tl (Str.ofString "-" ++ r)).take 1 = [45] := by rw [tl_append, tl_minus]; rfl
  rw [sub1 _ _ tl_minus, decide_eq_true h]
  have l : (Str.ofString "-" ++ r).length = r.length + 1 := by rw [len_tl, tl_append, tl_minus, len_tl]; simp
  have l1 : (Str.ofString "-").length = 1 := by decide +kernel
  show (if ((Str.ofString "-" ++ r).length - (Str.ofString "-").length == (Str.ofString "-" ++ r).length) = true then _ else _) = r
  rw [l, l1, if_neg (by simp)]
  refine ext_tl ?_
  have e := tl_strSub_end (Str.ofString "-" ++ r) 1
  rw [l] at e
  rw [e, tl_append, tl_minus]
  rfl
theorem rp_dg (p : Rat) : Txt.removeprefix (dg p) (Str.ofString "-") = core p := by
  rw [dg_core]
  split
  · exact rp_hit _
  · exact rp_miss (take1_core p)
theorem part_core (p : Rat) : Txt.partition (core p) (Str.ofString "/") = if p.den = 1 then (DN p.num.natAbs, Str.empty, Str.empty) else (DN p.num.natAbs, Str.ofString "/", DN p.den) := by
  have free : ∀ n, 47 ∉ tl (DN n) := fun n => by rw [tl_DN]; exact numL_free (by omega)
  unfold core
  split
  · exact partition_none tl_slash (free _)
  · exact partition_app tl_slash (free _)
theorem split_core (p : Rat) : Txt.split (core p) (Str.ofString "/") = if p.den = 1 then [DN p.num.natAbs] else [DN p.num.natAbs, DN p.den] := by
  have free : ∀ n, 47 ∉ numL n := fun n => numL_free (by omega)
  refine map_tl_inj ?_
  rw [split_spl _ _ (by rw [tl_slash]; simp) (kind_ok (by decide +kernel)), tl_slash]
  unfold core
  split
  · rw [tl_DN, spl_last1 (free _)]
    simp [tl_DN]
  · rw [tl_append, tl_append, tl_DN, tl_DN, tl_slash, List.append_assoc, spl_part1 (free _), spl_last1 (free _)]
    simp [tl_DN]
theorem DN_inj {m n : Nat} (h : DN m = DN n) : m = n := numL_inj (by rw [← tl_DN, ← tl_DN, h])
theorem dg_inj {p q : Rat} (h : dg p = dg q) : p = q := by
  have h1 := starts_dg p
  rw [h, starts_dg q] at h1
  have hc : core p = core q := by rw [← rp_dg, h, rp_dg]
  have hp := part_core p
  rw [hc, part_core q] at hp
  have nz : Str.empty ≠ Str.ofString "/" := by decide +kernel
  have sgn : (q.num < 0) ↔ (p.num < 0) := by
    have := decide_eq_decide.mp h1
    exact this
  have fin : p.num.natAbs = q.num.natAbs → p.den = q.den → p = q := fun e1 e2 => Rat.ext (by omega) e2
  by_cases d1 : p.den = 1 <;> by_cases d2 : q.den = 1
  · rw [if_pos d1, if_pos d2] at hp
    exact fin (DN_inj (congrArg (·.1) hp)).symm (d1.trans d2.symm)
  · rw [if_pos d1, if_neg d2] at hp
    exact absurd (congrArg (·.2.1) hp).symm nz
  · rw [if_neg d1, if_pos d2] at hp
    exact absurd (congrArg (·.2.1) hp) nz
  · rw [if_neg d1, if_neg d2] at hp
    exact fin (DN_inj (congrArg (·.1) hp)).symm (DN_inj (congrArg (·.2.2) hp)).symm
/-! ### natural texts -/
theorem dig_uni : ∀ c, c < 128 → (Unicode.isDigit c = true ↔ 48 ≤ c ∧ c ≤ 57) := by decide +kernel
theorem dig_all {x : Str} : (Txt.isascii x && Txt.isdigit x) = true ↔ (NumText.AllDigits (tl x) ∧ tl x ≠ []) := by
  unfold Txt.isascii Txt.isdigit
  rw [Bool.and_eq_true, Bool.and_eq_true, ← Array.all_toList, ← Array.all_toList, List.all_eq_true, List.all_eq_true, decide_eq_true_iff]
  constructor
  · rintro ⟨h1, h2, h3⟩
    refine ⟨fun c hc => (dig_uni c (of_decide_eq_true (h1 c hc))).mp (h3 c hc), fun e => ?_⟩
    rw [len_tl, e] at h2
    simp at h2
  · rintro ⟨h1, h2⟩
    refine ⟨fun c hc => decide_eq_true (by have := h1 c hc; omega), ?_, fun c hc => (dig_uni c (by have := h1 c hc; omega)).mpr (h1 c hc)⟩
    rw [len_tl]
    cases e : tl x with
    | nil => exact absurd e h2
    | cons a l => simp
def natB (x : Str) : Bool := (Txt.isascii x && Txt.isdigit x) && (decide (x = Str.ofString "0") || !Txt.startswith x (Str.ofString "0"))
theorem val_lt : ∀ (l : List Nat) (a : Nat), NumText.AllDigits l → l.foldl (fun acc c => acc * 10 + (c - 48)) a < (a + 1) * 10 ^ l.length
  | [], a, _ => by simp
  | c :: r, a, h => by
    rw [List.foldl_cons, List.length_cons]
    have hc := h c (by simp)
    have ih := val_lt r (a * 10 + (c - 48)) fun d hd => h d (by simp [hd])
    refine Nat.lt_of_lt_of_le ih ?_
    rw [Nat.pow_succ, Nat.mul_comm (10 ^ r.length) 10, ← Nat.mul_assoc]
    exact Nat.mul_le_mul_right _ (by omega)
theorem dig_int {x : Str} (h : NumText.AllDigits (tl x)) (h1 : tl x ≠ []) (hl : x.length ≤ 640) : PySem.intText? x = some ((NumText.digitsVal (tl x) : Nat) : Int) ∧ NumText.digitsVal (tl x) < 10 ^ x.length := by
  refine ⟨intText_digits h h1 (by omega), ?_⟩
  have := val_lt (tl x) 0 h
  rw [len_tl]
  rw [Nat.zero_add, Nat.one_mul] at this
  exact this
theorem numL_head {n : Nat} : 0 < n → ∃ c r, numL n = c :: r ∧ 49 ≤ c := by
  induction n using Nat.strongRecOn with
  | _ n ih =>
    intro h
    by_cases h10 : n < 10
    · exact ⟨48 + n, [], numL_lt h10, by omega⟩
    · obtain ⟨c, r, e, hc⟩ := ih (n / 10) (by omega) (by omega)
      exact ⟨c, r ++ [48 + n % 10], by rw [numL_step (by omega), e]; rfl, hc⟩
theorem nat_DN (n : Nat) : natB (DN n) = true := by
  unfold natB
  rw [Bool.and_eq_true]
  refine ⟨dig_all.mpr ⟨by rw [tl_DN]; exact numL_digits n, by rw [tl_DN]; exact numL_ne n⟩, ?_⟩
  rw [starts1 _ _ tl_zero, tl_DN]
  by_cases h : n = 0
  · subst h
    rw [decide_eq_true (by decide +kernel : DN 0 = Str.ofString "0")]
    rfl
  · obtain ⟨c, r, e, hc⟩ := numL_head (Nat.pos_of_ne_zero h)
    rw [e]
    have : ¬ ([c] = [48]) := by simp; omega
    simp
    omega
theorem nat_pos {x : Str} (h : natB x = true) (h0 : x ≠ Str.ofString "0") : NumText.digitsVal (tl x) ≠ 0 := by
  unfold natB at h
  rw [Bool.and_eq_true, decide_eq_false h0, Bool.false_or, starts1 _ _ tl_zero] at h
  obtain ⟨h1, h2⟩ := h
  obtain ⟨d, ne⟩ := dig_all.mp h1
  cases e : tl x with
  | nil => exact absurd e ne
  | cons c r =>
    rw [e] at h2 d
    have hc := d c (by simp)
    have hn : c ≠ 48 := by
      intro z
      rw [z] at h2
      simp at h2
    exact Nat.pos_iff_ne_zero.mp (NumText.digitsVal_pos (by omega))
theorem val_DN (n : Nat) : NumText.digitsVal (tl (DN n)) = n := by rw [tl_DN, numL_val]
theorem DN_zero {n : Nat} (h : n ≠ 0) : DN n ≠ Str.ofString "0" := fun e => h (DN_inj (e.trans (by decide +kernel : Str.ofString "0" = DN 0)))
/-! ### parts of a text -/
theorem par_len (S : List Nat) : ∀ (l acc a b : List Nat), par S acc l = some (a, b) → a.length + b.length ≤ acc.length + l.length
  | [], acc, a, b, h => by cases h
  | c :: r, acc, a, b, h => by
    by_cases hp : pre S (c :: r) = true
    · rw [par_hit hp] at h
      obtain ⟨rfl, rfl⟩ := Prod.mk.inj (Option.some.inj h)
      rw [List.length_drop]
      omega
    · have hp' : pre S (c :: r) = false := by simpa using hp
      rw [par_miss hp'] at h
      have := par_len S r (acc ++ [c]) a b h
      simp only [List.length_append, List.length_cons, List.length_nil] at this ⊢
      omega
theorem part_le (x : Str) : (Txt.partition x (Str.ofString "/")).1.length ≤ x.length ∧ (Txt.partition x (Str.ofString "/")).2.2.length ≤ x.length := by
  rw [partition_par _ _ (by rw [tl_slash]; simp)]
  cases e : par (tl (Str.ofString "/")) [] (tl x) with
  | none => exact ⟨Nat.le_refl _, Nat.zero_le _⟩
  | some ab =>
    obtain ⟨a, b⟩ := ab
    have := par_len _ _ _ _ _ e
    rw [len_tl x]
    simp only [List.length_nil] at this
    constructor
    · show (⟨a.toArray⟩ : Str).length ≤ _
      rw [len_tl, tl_mk]
      omega
    · show (⟨b.toArray⟩ : Str).length ≤ _
      rw [len_tl, tl_mk]
      omega
theorem spl_len (S : List Nat) : ∀ (l acc : List Nat) (k : Nat) (p : List Nat), p ∈ spl S k acc l → p.length ≤ acc.length + l.length
  | [], acc, k, p, h => by
    rw [spl_nil] at h
    have e : p = acc := by simpa using h
    rw [e]
    omega
  | c :: r, acc, k + 1, p, h => by
    have h' : p ∈ spl S k acc r := h
    have := spl_len S r acc k p h'
    simp only [List.length_cons]
    omega
  | c :: r, acc, 0, p, h => by
    by_cases hp : pre S (c :: r) = true
    · rw [spl_hit hp] at h
      rcases List.mem_cons.mp h with rfl | h
      · omega
      · have := spl_len S r [] _ p h
        simp only [List.length_nil, List.length_cons] at this ⊢
        omega
    · have hp' : pre S (c :: r) = false := by simpa using hp
      rw [spl_miss hp'] at h
      have := spl_len S r _ 0 p h
      simp only [List.length_append, List.length_cons, List.length_nil] at this ⊢
      omega
theorem spl_ne (S : List Nat) : ∀ (l acc : List Nat) (k : Nat), spl S k acc l ≠ []
  | [], acc, k => by rw [spl_nil]; simp
  | c :: r, acc, k + 1 => spl_ne S r acc k
  | c :: r, acc, 0 => by
    by_cases hp : pre S (c :: r) = true
    · rw [spl_hit hp]; simp
    · have hp' : pre S (c :: r) = false := by simpa using hp
      rw [spl_miss hp']
      exact spl_ne S r _ 0
theorem split_facts (x : Str) : Txt.split x (Str.ofString "/") ≠ [] ∧ ∀ p ∈ Txt.split x (Str.ofString "/"), p.length ≤ x.length := by
  have e := split_spl x (Str.ofString "/") (by rw [tl_slash]; simp) (kind_ok (by decide +kernel))
  refine ⟨fun z => ?_, fun p hp => ?_⟩
  · rw [z] at e
    exact spl_ne _ _ _ _ e.symm
  · have h : tl p ∈ (Txt.split x (Str.ofString "/")).map tl := List.mem_map.mpr ⟨p, hp, rfl⟩
    rw [e] at h
    have := spl_len _ _ _ _ _ h
    rw [len_tl, len_tl]
    simpa using this
/-! ### slices -/
theorem tl_cut (z : Str) (lo hi : Option Int) : ∃ a b, tl (cutS z lo hi) = ((tl z).drop a).take b := ⟨_, _, rfl⟩
theorem asc_cut {z : Str} (h : Asc z) (lo hi : Option Int) : Asc (cutS z lo hi) := fun c hc => by
  obtain ⟨a, b, e⟩ := tl_cut z lo hi
  have hc' : c ∈ tl (cutS z lo hi) := hc
  rw [e] at hc'
  exact h c (List.mem_of_mem_drop (List.mem_of_mem_take hc'))
theorem cut_first (z : Str) : cutS z none (some 1) = Str.ofString "-" ↔ (tl z).take 1 = [45] := by
  have e : tl (cutS z none (some 1)) = (tl z).take 1 := by
    show ((tl z).drop (HT.sIx z.length 0 none)).take (HT.sIx z.length z.length (some 1) - HT.sIx z.length 0 none) = _
    have h0 : HT.sIx z.length 0 none = 0 := rfl
    rw [h0, List.drop_zero, Nat.sub_zero]
    have h1 : HT.sIx z.length z.length (some 1) = min 1 z.length := by
      unfold HT.sIx
      simp
    rw [h1, len_tl]
    rw [← List.take_take]
    rw [List.take_of_length_le (Nat.le_refl (tl z).length)]
  constructor
  · intro h
    rw [← e, h, tl_minus]
  · intro h
    exact ext_tl (by rw [e, h, tl_minus])
theorem cut_rest (z : Str) : tl (cutS z (some 1) none) = (tl z).drop 1 := by
  show ((tl z).drop (HT.sIx z.length 0 (some 1))).take (HT.sIx z.length z.length none - HT.sIx z.length 0 (some 1)) = _
  have h0 : HT.sIx z.length z.length none = z.length := rfl
  have h1 : HT.sIx z.length 0 (some 1) = min 1 z.length := by
    unfold HT.sIx
    simp
  rw [h0, h1, len_tl]
  by_cases hz : (tl z).length = 0
  · have : tl z = [] := List.length_eq_zero_iff.mp hz
    rw [this]
    rfl
  · have hm : min 1 (tl z).length = 1 := by omega
    rw [hm]
    rw [List.take_of_length_le]
    rw [List.length_drop]
    omega
/-! ### the law's own digits -/
theorem tl_figs : tl (Str.ofString "0123456789") = [48, 49, 50, 51, 52, 53, 54, 55, 56, 57] := by decide +kernel
def figB (c : Nat) : Bool := decide (c ∈ tl (Str.ofString "0123456789"))
theorem fig_iff (c : Nat) : figB c = true ↔ 48 ≤ c ∧ c ≤ 57 := by
  unfold figB
  rw [decide_eq_true_iff, tl_figs]
  simp only [List.mem_cons, List.not_mem_nil, or_false]
  omega
/-- half != '' and all digits -/
def digB (h : Str) : Bool := if h = Str.empty then false else ((tl h).map figB).all id
theorem empty_tl {h : Str} : h = Str.empty ↔ tl h = [] := ⟨fun e => by rw [e]; rfl, fun e => ext_tl (by rw [e]; rfl)⟩
theorem digB_iff {h : Str} : digB h = true ↔ NumText.AllDigits (tl h) ∧ tl h ≠ [] := by
  unfold digB
  by_cases e : h = Str.empty
  · rw [if_pos e]
    simp [empty_tl.mp e]
  · rw [if_neg e]
    have ne : tl h ≠ [] := fun z => e (empty_tl.mpr z)
    rw [List.all_eq_true]
    constructor
    · intro a
      exact ⟨fun c hc => (fig_iff c).mp (a _ (List.mem_map.mpr ⟨c, hc, rfl⟩)), ne⟩
    · rintro ⟨a, _⟩ b hb
      obtain ⟨c, hc, rfl⟩ := List.mem_map.mp hb
      exact (fig_iff c).mpr (a c hc)
theorem digB_DN (n : Nat) : digB (DN n) = true := digB_iff.mpr ⟨by rw [tl_DN]; exact numL_digits n, by rw [tl_DN]; exact numL_ne n⟩
/-- the fraction of the pieces -/
theorem frac_of (p : Rat) : (if p.num < 0 then Rat.divInt (-(p.num.natAbs : Int)) p.den else Rat.divInt (p.num.natAbs : Int) p.den) = p := by
  split
  · have e : -(p.num.natAbs : Int) = p.num := by omega
    rw [e, Rat.num_divInt_den]
  · have e : (p.num.natAbs : Int) = p.num := by omega
    rw [e, Rat.num_divInt_den]
theorem frac_neg (p : Rat) : (if p.num < 0 then -(Rat.divInt (p.num.natAbs : Int) p.den) else Rat.divInt (p.num.natAbs : Int) p.den) = p := by
  rw [Rat.neg_divInt]
  exact frac_of p
end Lw

namespace Lw
open PySem PySem.Spec PyProof.Rows L2 MG TL
abbrev s_is_natural_text : Stmt := top 10
abbrev s_Ratio_read : Stmt := inClass (top 11) 3
section
variable {P : Program} {w : World} {K : PySem.W.Frag} {mg : Str → Option Value} {base : Heap} {C CI : Addr}
theorem ifF {b : Bool} {A B : Prop} (e : b = false) (h : B) : if b = true then A else B := by rw [e]; exact iteF h
theorem ifT {b : Bool} {A B : Prop} (e : b = true) (h : A) : if b = true then A else B := by rw [e]; exact iteT h
theorem smI {i : Int} {k : Nat} (h : i.natAbs < 10 ^ k) (hk : k ≤ 390) : Sm i := by
  have := nab h
  rw [Int.natCast_pow] at this
  exact sm_lt (k := k) (by omega) this.1 this.2
theorem made_same {H H' : Hp} {x dx : Addr} (hx : H x = none) (hdx : H dx = none) (kp : ∀ c o, (upd (upd H dx (.own x)) x (.ins C dx [])) c = some o → c ≠ x → H' c = some o) : Same H H' := fun c o hc => by
  have n1 := ne_of_none hc hx
  have n2 := ne_of_none hc hdx
  exact kp c o (by rw [upd_ne n1, upd_ne n2]; exact hc) n1
def spNat : Sp := fun vs H Q _ => ∃ z : Str, vs = [.str z] ∧ Q (.bl (natB z)) H
theorem sc_is_natural_text : FnScope ["text"] ["text"] (defScope s_is_natural_text) := ⟨rfl, rfl, rfl, by decide +kernel, rfl, by decide +kernel, by decide +kernel⟩
theorem ok_natural {f : Addr} {fd : FuncData} (F : Fun K "is_natural_text" "is_natural_text" s_is_natural_text f fd) : FnOk P w K mg base CX0 2 f fd ["text"] spNat := by
  refine F.ok sc_is_natural_text (fun vs H Q E h => ?_) (fun cdv A outer s H vs Q E hr h => ?_)
  · obtain ⟨z, rfl, _⟩ := h
    rfl
  · obtain ⟨z, rfl, k⟩ := h
    refine ⟨_, (pss_cons (ps_if (pt_not (PW.pt (pw_and (pt_val (pe_bm0 PySem.F.plainAttrs_str PySem.F.slot_str_isascii PySem.F.type_str_isascii mt_isascii (pv 0))) (pw_and1 (pt_val (pe_m0 PySem.F.slot_str_isdigit PySem.F.type_str_isdigit mt_isdigit (pv 0))))))) (pss_one (ps_ret pe_bl))
  pss_nil)
  (pss_one (ps_ret (pe_or (pe_cmpR op_eq (pv 0) pe_str (nomark _)) (pe_one (pe_not (pe_m1 PySem.F.slot_str_startswith PySem.F.type_str_startswith mt_startswith (pv 0) pe_str))))))), ?_⟩
    unfold natB at k
    refine ⟨_, rfl, rfl, z, rfl, rfl, True.intro, _, rfl, ?_⟩
    cases e1 : Txt.isascii z with
    | false =>
      rw [e1] at k
      exact iteF (iteT k)
    | true =>
      refine iteT ⟨_, rfl, ⟨_, rfl⟩, z, rfl, rfl, True.intro, _, rfl, ?_⟩
      cases e2 : Txt.isdigit z with
      | false =>
        rw [e1, e2] at k
        exact iteT k
      | true =>
        rw [e1, e2, Bool.true_and, Bool.true_and] at k
        refine iteF ⟨_, rfl, rfl, _, rfl, ?_⟩
        refine ite2 (fun h => ?_) (fun h => ?_)
        · have hz : z = Str.ofString "0" := V.str.inj (of_decide_eq_true h)
          rw [decide_eq_true hz] at k
          exact k
        · have hz : z ≠ Str.ofString "0" := fun e => h (decide_eq_true (by rw [e]))
          rw [decide_eq_false hz, Bool.false_or] at k
          exact ⟨_, rfl, ⟨_, rfl⟩, z, _, rfl, rfl, _, rfl, k⟩
abbrev NatC (P : Program) (w : World) (K : PySem.W.Frag) (mg : Str → Option Value) (base : Heap) : Prop := CalF P w K mg base 2 "is_natural_text" spNat []
/-! ### Ratio.read -/
def az (z : Str) : Str := (Txt.partition (Txt.removeprefix z (Str.ofString "-")) (Str.ofString "/")).1
def lz (z : Str) : Str := (Txt.partition (Txt.removeprefix z (Str.ofString "-")) (Str.ofString "/")).2.1
def bz (z : Str) : Str := if (((lz z).length : Int) != 0) = true then (Txt.partition (Txt.removeprefix z (Str.ofString "-")) (Str.ofString "/")).2.2 else Str.ofString "1"
theorem az_le (z : Str) : (az z).length ≤ z.length := Nat.le_trans (part_le _).1 (rp_le _ _)
theorem bz_le {z : Str} {n : Nat} (h : z.length ≤ n) (hn : 1 ≤ n) : (bz z).length ≤ n := by
  unfold bz
  split
  · exact Nat.le_trans (part_le _).2 (Nat.le_trans (rp_le _ _) h)
  · exact hn
theorem pieces (p : Rat) : az (dg p) = DN p.num.natAbs ∧ bz (dg p) = DN p.den := by
  unfold bz az lz
  rw [rp_dg, part_core]
  by_cases h : p.den = 1
  · rw [if_pos h, h]
    exact ⟨rfl, (by decide +kernel : Str.ofString "1" = DN 1)⟩
  · rw [if_neg h]
    exact ⟨rfl, rfl⟩
/-- what stands behind the checks -/
def fz (z : Str) : Rat := if Txt.startswith z (Str.ofString "-") = true then -(Rat.divInt (NumText.digitsVal (tl (az z)) : Nat) (NumText.digitsVal (tl (bz z)) : Nat)) else Rat.divInt (NumText.digitsVal (tl (az z)) : Nat) (NumText.digitsVal (tl (bz z)) : Nat)
theorem fz_dg (p : Rat) : fz (dg p) = p := by
  unfold fz
  rw [starts_dg, (pieces p).1, (pieces p).2, val_DN, val_DN]
  simp only [decide_eq_true_eq]
  exact frac_neg p
def spRead (K : PySem.W.Frag) (C CI : Addr) : Sp := fun vs H Q E => ∃ x : V, vs = [.ref C, x] ∧
  ((∃ z : Str, x = .str z ∧ z.length ≤ 300 ∧ (∀ r p H', Same H H' → z = dg p → Bd p 300 → RatAt C H' r p → Q (.ref r) H') ∧ ((∀ p, z ≠ dg p) → Rsd CI H x E)) ∨
    (∃ t, TyX K H x t ∧ PySem.W.kitOne K t (.type "str") = some false ∧ Rsd CI H x E))
theorem sc_Ratio_read : FnScope ["cls", "text", "above", "line", "below", "found"] ["cls", "text"] (defScope s_Ratio_read) := ⟨rfl, rfl, rfl, by decide +kernel, rfl, by decide +kernel, by decide +kernel⟩
theorem ok_read {f : Addr} {fd : FuncData} (F : Fun K "read" "Ratio.read" s_Ratio_read f fd) (T : TxR K mg C) (x_num : XnC P w K mg base CI) (c_natural : NatC P w K mg base) (m_rat2 : Rat2C P w K mg base C) (o_neg : NegF P w K mg base 8 C (spNeg C)) (d_str : DunF P w K mg base 2 C "__str__" (spStr C)) : FnOk P w K mg base (L2N.CX P w) 12 f fd ["cls", "text"] (spRead K C CI) := by
  refine fun_okN F sc_Ratio_read (fun vs H Q E h => ?_) (fun cdv A outer s H vs Q E hr h => ?_)
  · obtain ⟨x, rfl, _⟩ := h
    rfl
  · obtain ⟨x, rfl, h⟩ := h
    refine ⟨_, (pss_cons (ps_if (pt_not (pt_val (pe_callB (id := "isinstance") (call_isiK (K := K)) (by rfl) T.b_isinstance (by decide +kernel) (pa_cons (pv 1) (pa_cons (pe_bltn (v := V.ty "str") (u := Value.type "str") (by rfl) T.b_str (by decide +kernel) rfl) pa_nil))))) (pss_one (ps_raiseX x_num hr (by decide) rfl (L2N.takes_of rfl rfl rfl rfl) rfl (pa_cons (pv 1) pa_nil)))
  pss_nil)
  (pss_cons (ps_asg (pe_partition (pe_bm PySem.F.plainAttrs_str PySem.F.slot_str_removeprefix PySem.F.type_str_removeprefix mt_removeprefix (pv 1) (pa_cons pe_str pa_nil)) pe_str) (pg_tup rfl (pgs_cons (pg_name (i := 2) sc_Ratio_read.nd rfl (Or.inl rfl)) (pgs_cons (pg_name (i := 3) sc_Ratio_read.nd rfl (Or.inl rfl)) (pgs_cons (pg_name (i := 4) sc_Ratio_read.nd rfl (Or.inl rfl)) pgs_nil)))))
  (pss_cons (ps_cut (ps_if (pt_not (pt_truth (pv 3) (by intro _; rfl))) (pss_one (ps_set (i := 4) sc_Ratio_read.nd rfl (Or.inl rfl) pe_str))
  pss_nil))
  (pss_cons (ps_if (PW.pt (pw_or (pt_not (PW.pt (pw_and (pt_val (pe_cf c_natural hr (by decide) rfl (pa_cons (pv 2) pa_nil))) (pw_and1 (pt_val (pe_cf c_natural hr (by decide) rfl (pa_cons (pv 4) pa_nil))))))) (pw_or1 (pt_cmpR op_eq (pv 4) pe_str (nomark _))))) (pss_one (ps_raiseX x_num hr (by decide) rfl (L2N.takes_of rfl rfl rfl rfl) rfl (pa_cons (pv 1) pa_nil)))
  pss_nil)
  (pss_cons (ps_set (i := 5) sc_Ratio_read.nd rfl (Or.inl rfl) (pe_mkL (i := 0) m_rat2 hr (by decide) rfl (Or.inl rfl) (pa_cons (pe_callTy call_int_str (by rfl) T.b_int (by decide +kernel) (pa_cons (pv 2) pa_nil)) (pa_cons (pe_callTy call_int_str (by rfl) T.b_int (by decide +kernel) (pa_cons (pv 4) pa_nil)) pa_nil))))
  (pss_cons (ps_cut (ps_if (pt_val (pe_m1 PySem.F.slot_str_startswith PySem.F.type_str_startswith mt_startswith (pv 1) pe_str)) (pss_one (ps_set (i := 5) sc_Ratio_read.nd rfl (Or.inl rfl) (pe_un (un_f o_neg hr (by decide)) (pv 5))))
  pss_nil))
  (pss_cons (ps_if (pt_cmpR op_ne (pe_callTy (str_f d_str hr (by decide)) (by rfl) T.b_str (by decide +kernel) (pa_cons (pv 5) pa_nil)) (pv 1) (nomark _)) (pss_one (ps_raiseX x_num hr (by decide) rfl (L2N.takes_of rfl rfl rfl rfl) rfl (pa_cons (pv 1) pa_nil)))
  pss_nil)
  (pss_one (ps_ret (pv 5)))))))))), ?_⟩
    rcases h with ⟨z, rfl, hz, k1, k2⟩ | ⟨t, tx, kx, k2⟩
    · have k3 : ∀ {H'}, Same H H' → (∀ p, z ≠ dg p) → Rsd CI H' (.str z) E := fun s h => (k2 h).same s
      refine ⟨_, rfl, _, _, _, _, true, rfl, .ty "str", .base (.str z), kit_ty (by decide +kernel), _, rfl, iteF ?_⟩
      -- above, line, below = text.removeprefix("-").partition("/")
      have hb := rp_le z (Str.ofString "-")
      refine ⟨_, rfl, rfl, _, _, rfl, rfl, Nat.le_trans (m := 300) hz (by decide), ⟨_, rfl⟩, _, _, rfl, rfl, by decide +kernel, Nat.le_trans (m := 300) (by omega) (by decide), fun t ht => ?_⟩
      refine ⟨t, _, rfl, SqT.of upd_same, rfl, _, _, rfl, _, _, rfl, _, _, rfl, rfl, ?_⟩
      have s1 : Same H (upd H t (.tup [.str (az z), .str (lz z), .str (Txt.partition (Txt.removeprefix z (Str.ofString "-")) (Str.ofString "/")).2.2])) := MG.Same.new (Same.refl H) ht
      -- if not line: below = "1"
      refine ⟨fun σ' H' => σ' = [some (.ref C), some (.str z), some (.str (az z)), some (.str (lz z)), some (.str (bz z)), none] ∧ Same H H', ?_, ?_⟩
      · have ll : (lz z).length ≤ sizeLine := by
          unfold lz
          rw [partition_par _ _ (by rw [tl_slash]; simp)]
          split
          · show (Str.ofString "/").length ≤ _
            decide +kernel
          · exact Nat.zero_le _
        refine ⟨_, rfl, _, ⟨ll, rfl⟩, ?_⟩
        refine ite2 (fun h => ?_) (fun h => ?_)
        · have e : bz z = Str.ofString "1" := if_neg (by unfold lz; simpa using h)
          rw [e]
          exact ⟨rfl, s1⟩
        · have e : bz z = (Txt.partition (Txt.removeprefix z (Str.ofString "-")) (Str.ofString "/")).2.2 := if_pos (by unfold lz; simpa using h)
          rw [e]
          exact ⟨rfl, s1⟩
      rintro σ' H1 ⟨rfl, s1⟩
      clear ht
      -- if not (natural(above) and natural(below)) or below == "0"
      have l1 := az_le z
      have l2 := bz_le hz (by decide)
      have bad : ∀ {H'}, Same H H' → (natB (az z) = false ∨ natB (bz z) = false ∨ bz z = Str.ofString "0") → Rsd CI H' (.str z) E := fun s h => k3 s fun p e => by
        rw [e, (pieces p).1, (pieces p).2, nat_DN, nat_DN] at h
        rcases h with h | h | h
        · cases h
        · cases h
        · exact DN_zero p.den_nz h
      refine ⟨_, rfl, az z, rfl, _, rfl, ?_⟩
      cases e1 : natB (az z) with
      | false => exact iteF (iteT ⟨_, rfl, _, rfl, fun d H' s n e => bad s1 (.inl e1) d H' s n e⟩)
      | true =>
        refine iteT ⟨_, rfl, bz z, rfl, _, rfl, ?_⟩
        cases e2 : natB (bz z) with
        | false => exact iteT ⟨_, rfl, _, rfl, fun d H' s n e => bad s1 (.inr (.inl e2)) d H' s n e⟩
        | true =>
          refine iteF ⟨_, rfl, rfl, _, rfl, ?_⟩
          refine ite2 (fun h => ?_) (fun h => ?_)
          · exact ⟨_, rfl, _, rfl, fun d H' s n e => bad s1 (.inr (.inr (V.str.inj (of_decide_eq_true h)))) d H' s n e⟩
          have h0 : bz z ≠ Str.ofString "0" := fun e => h (decide_eq_true (by rw [e]))
          have hv := nat_pos e2 h0
          unfold natB at e1 e2
          rw [Bool.and_eq_true] at e1 e2
          obtain ⟨da, na⟩ := dig_all.mp e1.1
          obtain ⟨db, nb⟩ := dig_all.mp e2.1
          obtain ⟨i1, v1⟩ := dig_int da na (by omega)
          obtain ⟨i2, v2⟩ := dig_int db nb (by omega)
          have v1' := Nat.lt_of_lt_of_le v1 (Nat.pow_le_pow_right (by decide : 0 < 10) (Nat.le_trans l1 hz))
          have v2' := Nat.lt_of_lt_of_le v2 (Nat.pow_le_pow_right (by decide : 0 < 10) l2)
          have hbn : ((NumText.digitsVal (tl (bz z)) : Nat) : Int) ≠ 0 := by omega
          have bf : Bd (Rat.divInt (NumText.digitsVal (tl (az z)) : Nat) (NumText.digitsVal (tl (bz z)) : Nat)) 300 := bd_div hbn v1' v2'
          -- found = cls(int(above), int(below)); if text.startswith("-"): found = -found
          refine ⟨rfl, _, rfl, _, _, rfl, i1, by omega, _, rfl, _, _, rfl, i2, by omega, fun r dx hr0 hdx hne => ⟨r, dx, _, _, rfl, upd_same, hbn, smI (k := 300) v2' (by decide), fun H2 er kp => ⟨rfl, ?_⟩⟩⟩
          have s2 := made_same (C := C) hr0 hdx kp
          have hR : RatAt C H2 r (Rat.divInt (NumText.digitsVal (tl (az z)) : Nat) (NumText.digitsVal (tl (bz z)) : Nat)) := ⟨dx, er⟩
          have bfz : Bd (fz z) 300 := by
            unfold fz
            split
            · exact bd_neg bf
            · exact bf
          refine ⟨fun σ' H' => ∃ r2, σ' = [some (.ref C), some (.str z), some (.str (az z)), some (.str (lz z)), some (.str (bz z)), some (.ref r2)] ∧ Same H H' ∧ RatAt C H' r2 (fz z), ?_, ?_⟩
          · refine ⟨_, rfl, ⟨_, rfl⟩, z, _, rfl, rfl, _, rfl, ?_⟩
            cases es : Txt.startswith z (Str.ofString "-") with
            | false =>
              refine iteF ⟨r, rfl, s1.trans s2, ?_⟩
              unfold fz
              rw [if_neg (by rw [es]; decide)]
              exact hR
            | true =>
              refine iteT ⟨_, rfl, r, dx, _, rfl, er, r, _, rfl, hR, bf.mono (by decide), fun r2 H3 s3 h3 => ⟨r2, rfl, (s1.trans s2).trans s3, ?_⟩⟩
              unfold fz
              rw [if_pos es]
              exact h3
          rintro σ' H3 ⟨r2, rfl, s3, hF⟩
          -- if str(found) != text
          obtain ⟨dx2, e2'⟩ := id hF
          refine ⟨_, rfl, r2, dx2, _, rfl, e2', r2, _, rfl, hF, bfz.num (by decide), bfz.den (by decide), _, rfl, _, rfl, rfl, _, rfl, ?_⟩
          refine ite2 (fun h => ?_) (fun h => ?_)
          · refine ⟨_, rfl, _, rfl, fun d H' s n e => k3 s3 (fun p ep => ?_) d H' s n e⟩
            have hh : dg (fz z) ≠ z := fun q => by rw [q] at h; simp at h
            exact hh (by rw [ep, fz_dg])
          · have hh : dg (fz z) = z := by
              by_cases q : dg (fz z) = z
              · exact q
              · exact absurd (by simp [q]) h
            exact ⟨_, rfl, k1 r2 _ H3 s3 hh.symm bfz hF⟩
    · refine ⟨_, rfl, _, _, _, _, _, rfl, .ty "str", tx, kx, _, rfl, iteT ?_⟩
      exact ⟨_, rfl, _, rfl, fun d H' s n e => k2 d H' s n e⟩
abbrev ReadX (P : Program) (w : World) (K : PySem.W.Frag) (mg : Str → Option Value) (base : Heap) (C CI : Addr) : Prop := CmtX P w K mg base 12 C "read" (spRead K C CI)
abbrev ReadK (P : Program) (w : World) (K : PySem.W.Frag) (mg : Str → Option Value) (base : Heap) (C CI : Addr) : Prop := CmtK P w K mg base 12 C "read" (spRead K C CI) ["text"] (fun vs zs => vs ++ zs)
end
end Lw

namespace Lw
open PySem PySem.Spec PyProof.Rows L2 MG TL
abbrev s__law_pick : Stmt := top 15
abbrev s__law_digits : Stmt := top 19
abbrev s__law_read_fraction : Stmt := top 23
abbrev s__law_spoiled_text : Stmt := top 24
abbrev s__law_reads : Stmt := top 25
abbrev s__law_strange : Stmt := top 27
abbrev s__law_right : Stmt := top 26
abbrev s_law : Stmt := top 28
section
variable {P : Program} {w : World} {K : PySem.W.Frag} {mg : Str → Option Value} {base : Heap} {C CI : Addr}
abbrev LowC (P : Program) (w : World) (K : PySem.W.Frag) (mg : Str → Option Value) (base : Heap) : Prop := CalG P w K mg base 4 "_law_lowest" spLowest []
/-- the pair of a fraction -/
def pr (p : Rat) : List V := [.int p.num, .int p.den]
def spDigits (K : PySem.W.Frag) : Sp := fun vs H Q _ => ∃ (t : Addr) (p : Rat), vs = [.ref t] ∧ SqT K H t (pr p) ∧ Sm p.num ∧ Sm (p.den : Int) ∧ Q (.str (dg p)) H
theorem sc__law_digits : FnScope ["_law_pair"] ["_law_pair"] (defScope s__law_digits) := ⟨rfl, rfl, rfl, by decide +kernel, rfl, by decide +kernel, by decide +kernel⟩
theorem ok_digits {f : Addr} {fd : FuncData} (F : Fun K "_law_digits" "_law_digits" s__law_digits f fd) (T : Blt mg) : FnG P w K mg base CX0 2 f fd ["_law_pair"] (spDigits K) := by
  refine fun_okG F sc__law_digits (fun vs H Q E h => ?_) (fun cdv A outer s H vs Q E bare hr h => ?_)
  · obtain ⟨t, p, rfl, _⟩ := h
    rfl
  · obtain ⟨t, p, rfl, ht, sn, sd, k⟩ := h
    refine ⟨_, (pss_one (ps_ret (pe_ifExp (pt_cmpR op_eq (pe_ix (ix_tupK (K := K)) (pv 0) pe_int (fun _ _ => rfl)) pe_int (nomark _)) (pe_callTy call_str_int (by rfl) T.b_str (by decide +kernel) (pa_cons (pe_ix (ix_tupK (K := K)) (pv 0) pe_int (fun _ _ => rfl)) pa_nil)) (pe_op op_add_str (pe_op op_add_str (pe_callTy call_str_int (by rfl) T.b_str (by decide +kernel) (pa_cons (pe_ix (ix_tupK (K := K)) (pv 0) pe_int (fun _ _ => rfl)) pa_nil)) pe_str) (pe_callTy call_str_int (by rfl) T.b_str (by decide +kernel) (pa_cons (pe_ix (ix_tupK (K := K)) (pv 0) pe_int (fun _ _ => rfl)) pa_nil)))))), ?_⟩
    refine ⟨_, rfl, t, _, _, _, rfl, rfl, ht, rfl, rfl, _, rfl, ?_⟩
    unfold dg at k
    refine ite2 (fun h => ?_) (fun h => ?_)
    · have hd : p.den = 1 := by have := V.int.inj (of_decide_eq_true h); omega
      rw [if_pos hd] at k
      exact ⟨_, rfl, t, _, _, _, rfl, rfl, ht, rfl, _, rfl, log_sm sn, k⟩
    · have hd : ¬ p.den = 1 := fun z => h (decide_eq_true (by rw [z]; rfl))
      rw [if_neg hd] at k
      have l1 := txt_len sn
      have l2 := txt_len sd
      refine ⟨_, rfl, t, _, _, _, rfl, rfl, ht, rfl, _, rfl, log_sm sn, _, _, rfl, rfl, Nat.le_trans (Nat.add_le_add l1 (Nat.le_refl 1)) (by decide), ?_⟩
      refine ⟨_, rfl, t, _, _, _, rfl, rfl, ht, rfl, _, rfl, log_sm sd, _, _, rfl, rfl, ?_, k⟩
      rw [strLen_append]
      exact Nat.le_trans (Nat.add_le_add (Nat.add_le_add l1 (Nat.le_refl 1)) l2) (by decide)
abbrev DigitsC (P : Program) (w : World) (K : PySem.W.Frag) (mg : Str → Option Value) (base : Heap) : Prop := CalG P w K mg base 2 "_law_digits" (spDigits K) []
/-! ### _law_read_fraction -/
theorem spl_cnt (S : List Nat) : ∀ (l acc : List Nat) (k : Nat), (spl S k acc l).length ≤ l.length + 1
  | [], acc, k => by rw [spl_nil]; simp
  | c :: r, acc, k + 1 => by
    have := spl_cnt S r acc k
    show (spl S k acc r).length ≤ _
    simp only [List.length_cons]
    omega
  | c :: r, acc, 0 => by
    by_cases hp : pre S (c :: r) = true
    · rw [spl_hit hp]
      have := spl_cnt S r [] (S.length - 1)
      simp only [List.length_cons]
      omega
    · have hp' : pre S (c :: r) = false := by simpa using hp
      rw [spl_miss hp']
      have := spl_cnt S r (acc ++ [c]) 0
      simp only [List.length_cons]
      omega
def negB (z : Str) : Bool := decide (V.str (cutS z none (some 1)) = V.str (Str.ofString "-"))
def hb (z : Str) : Str := if negB z = true then cutS z (some 1) none else z
def ss (z : Str) : List Str := Txt.split (hb z) (Str.ofString "/")
theorem hb_le (z : Str) : (hb z).length ≤ z.length := by
  unfold hb
  split
  · exact cutS_length _ _ _
  · exact Nat.le_refl _
theorem ss_facts (z : Str) : ss z ≠ [] ∧ (∀ p ∈ ss z, p.length ≤ z.length) ∧ (ss z).length ≤ z.length + 1 := by
  obtain ⟨h1, h2⟩ := split_facts (hb z)
  refine ⟨h1, fun p hp => Nat.le_trans (h2 p hp) (hb_le z), ?_⟩
  have e := split_spl (hb z) (Str.ofString "/") (by rw [tl_slash]; simp) (kind_ok (by decide +kernel))
  have := spl_cnt (tl (Str.ofString "/")) (tl (hb z)) [] 0
  rw [← e, List.length_map, ← len_tl] at this
  exact Nat.le_trans this (Nat.succ_le_succ (hb_le z))
theorem neg_dg (p : Rat) : negB (dg p) = decide (p.num < 0) := by
  have h := starts_dg p
  rw [starts1 _ _ tl_minus] at h
  unfold negB
  rw [← h]
  refine decide_eq_decide.mpr ⟨fun e => (cut_first _).mp (V.str.inj e), fun e => by rw [(cut_first _).mpr e]⟩
theorem hb_dg (p : Rat) : hb (dg p) = core p := by
  unfold hb
  rw [neg_dg]
  by_cases h : p.num < 0
  · rw [if_pos (decide_eq_true h)]
    refine ext_tl ?_
    rw [cut_rest, dg_core, if_pos h, tl_append, tl_minus]
    rfl
  · rw [if_neg (by simp [h]), dg_core, if_neg h]
theorem ss_dg (p : Rat) : ss (dg p) = if p.den = 1 then [DN p.num.natAbs] else [DN p.num.natAbs, DN p.den] := by
  unfold ss
  rw [hb_dg, split_core]
/-- the lower one -/
def lo2 : List Str → Nat
  | [_, b] => NumText.digitsVal (tl b)
  | _ => 1
def hi2 : List Str → Nat
  | a :: _ => NumText.digitsVal (tl a)
  | _ => 0
def ff (z : Str) : Rat := if negB z = true then Rat.divInt (-(hi2 (ss z) : Int)) (lo2 (ss z) : Nat) else Rat.divInt (hi2 (ss z) : Nat) (lo2 (ss z) : Nat)
theorem ss_ok (p : Rat) : (ss (dg p)).length ≤ 2 ∧ (∀ h ∈ ss (dg p), digB h = true) ∧ lo2 (ss (dg p)) = p.den ∧ hi2 (ss (dg p)) = p.num.natAbs := by
  rw [ss_dg]
  by_cases h : p.den = 1
  · rw [if_pos h, h]
    exact ⟨by show 1 ≤ 2; decide, fun x hx => by rw [List.mem_singleton.mp hx]; exact digB_DN _, rfl, val_DN _⟩
  · rw [if_neg h]
    refine ⟨by show 2 ≤ 2; decide, fun x hx => ?_, val_DN _, val_DN _⟩
    rcases List.mem_cons.mp hx with rfl | hx
    · exact digB_DN _
    · rw [List.mem_singleton.mp hx]; exact digB_DN _
theorem ff_dg (p : Rat) : ff (dg p) = p := by
  unfold ff
  rw [neg_dg, (ss_ok p).2.2.1, (ss_ok p).2.2.2]
  simp only [decide_eq_true_eq]
  exact frac_of p
theorem inV_bl (l : List Bool) : inV (.bl false) (l.map V.bl) = !l.all id := by
  induction l with
  | nil => rfl
  | cons b l ih =>
    have ih' : (l.map V.bl).any (fun y => eqV y (.bl false)) = !l.all id := ih
    show ((eqV (.bl b) (.bl false)) || (l.map V.bl).any (fun y => eqV y (.bl false))) = !(b && l.all id)
    rw [ih']
    cases b <;> simp [eqV]
def spReadF (K : PySem.W.Frag) : Sp := fun vs H Q _ => ∃ z : Str, vs = [.str z] ∧ z.length ≤ 300 ∧ (∀ t p H', Same H H' → z = dg p → Bd p 300 → H' t = some (.tup (pr p)) → Q (.ref t) H') ∧ ((∀ p, z ≠ dg p) → ∀ H', Same H H' → Q .non H')
theorem sc__law_read_fraction : FnScope ["_law_string", "_law_is_below", "_law_halves", "_law_figures", "_law_high", "_law_under", "_law_pair", "_law_half", "_law_sign"] ["_law_string"] (defScope s__law_read_fraction) := ⟨rfl, rfl, rfl, by decide +kernel, rfl, by decide +kernel, by decide +kernel⟩
theorem ok_readf {f : Addr} {fd : FuncData} (F : Fun K "_law_read_fraction" "_law_read_fraction" s__law_read_fraction f fd) (T : Blt mg) (c_lowest : LowC P w K mg base) (c_digits : DigitsC P w K mg base) : FnG P w K mg base CX0 8 f fd ["_law_string"] (spReadF K) := by
  refine fun_okG F sc__law_read_fraction (fun vs H Q E h => ?_) (fun cdv A outer s H vs Q E bare hr h => ?_)
  · obtain ⟨z, rfl, _⟩ := h
    rfl
  · obtain ⟨z, rfl, hz, k1, k2⟩ := h
    refine ⟨_, (pss_cons (ps_set (i := 1) sc__law_read_fraction.nd rfl (Or.inl rfl) (pe_cmpR op_eq (pe_slice sl_str (pv 0) po_none (po_some pe_int)) pe_str (nomark _)))
  (pss_cons (ps_cut (ps_set (i := 2) sc__law_read_fraction.nd rfl (Or.inl rfl) (pe_split (pe_ifExp (pt_val (pv 1)) (pe_slice sl_str (pv 0) (po_some pe_int) po_none) (pv 0)) pe_str)))
  (pss_cons (ps_map (K := K) (j := 7) (i := 3) (ps_setLc (i := 3) (own := [("_law_half", 7)]) (g := gName 7) (tt := tYes) rfl sc__law_read_fraction.nd rfl rfl (sw_true rfl rfl rfl (by decide +kernel)) (pi_list (pe_cut (pv 2))) (blkOk_by (N := ["_law_string", "_law_is_below", "_law_halves", "_law_figures", "_law_high", "_law_under", "_law_pair", "_law_half", "_law_sign"]) (sc := defScope s__law_read_fraction) (by decide +kernel)) (fun _ _ _ _ _ => (pg_name (i := 7) sc__law_read_fraction.nd rfl (Or.inl rfl))) (fun _ _ _ _ _ => pts_nil) (fun _ _ _ _ _ => (pe_cut (pe_and (pe_cmpR op_ne (pv 7) pe_str (nomark _)) (pe_one (pe_callB (id := "all") (cr_allK (K := K) rfl) (by rfl) T.b_all (by decide +kernel) (pa_cons (pe_mapS (j := 8) (pe_lc (own := [("_law_sign", 8)]) (g := gName 8) (tt := tYes) rfl sc__law_read_fraction.nd (pi_str (pe_cut (pv 7))) (blkOk_by (N := ["_law_string", "_law_is_below", "_law_halves", "_law_figures", "_law_high", "_law_under", "_law_pair", "_law_half", "_law_sign"]) (sc := ({ kind := .function, names := [(PySem.Str.ofString ".0", .local), (PySem.Str.ofString "_law_half", .local), (PySem.Str.ofString "all", .globalImplicit)], isGenerator := false, isCoroutine := false } : Scope)) (by decide +kernel)) (fun _ _ _ _ _ => (pg_name (i := 8) sc__law_read_fraction.nd rfl (Or.inl rfl))) (fun _ _ _ _ _ => pts_nil) (fun _ _ _ _ _ => (pe_cut (pe_cmpR op_in_sign (pv 8) pe_str rfl))))) pa_nil))))))))
  (pss_cons (ps_if (PW.pt (pw_or (pt_cmpR op_gt (pe_callB (id := "len") call_len_seq (by rfl) T.b_len (by decide +kernel) (pa_cons (pv 2) pa_nil)) pe_int (nomark _)) (pw_or1 (pt_cmpR op_in_seq pe_bl (pv 3) rfl)))) (pss_one (ps_ret pe_non))
  pss_nil)
  (pss_cons (ps_cut (ps_par (i := 4) (j := 5) (by rfl) sc__law_read_fraction.nd rfl rfl (by decide) rfl rfl (pa_cons (pe_callTy call_int_str (by rfl) T.b_int (by decide +kernel) (pa_cons (pe_ix (ix_listK (K := K)) (pv 2) pe_int (fun _ _ => rfl)) pa_nil)) (pa_cons (pe_ifExp (pt_cmpR op_eq (pe_callB (id := "len") call_len_seq (by rfl) T.b_len (by decide +kernel) (pa_cons (pv 2) pa_nil)) pe_int (nomark _)) (pe_callTy call_int_str (by rfl) T.b_int (by decide +kernel) (pa_cons (pe_ix (ix_listK (K := K)) (pv 2) (pe_op op_sub (pe_callB (id := "len") call_len_seq (by rfl) T.b_len (by decide +kernel) (pa_cons (pv 2) pa_nil)) pe_int) (fun _ _ => rfl)) pa_nil)) pe_int) pa_nil)) (by rfl)))
  (pss_cons (ps_if (pt_cmpR op_eq (pv 5) pe_int (nomark _)) (pss_one (ps_ret pe_non))
  pss_nil)
  (pss_cons (ps_cut (ps_set (i := 6) sc__law_read_fraction.nd rfl (Or.inl rfl) (pe_cg c_lowest bare hr (by decide) rfl (pa_cons (pe_ifExp (pt_val (pv 1)) (pe_un un_neg (pv 4)) (pv 4)) (pa_cons (pv 5) pa_nil)))))
  (pss_one (ps_ret (pe_ifExp (pt_cmpR op_eq (pe_cg c_digits bare hr (by decide) rfl (pa_cons (pv 6) pa_nil)) (pv 0) (nomark _)) (pv 6) pe_non)))))))))), ?_⟩
    have hzl : z.length ≤ sizeLine := Nat.le_trans hz (by decide)
    obtain ⟨sne, sle, scnt⟩ := ss_facts z
    -- is_below = s[:1] == '-'
    refine ⟨_, rfl, 1, rfl, z, rfl, hzl, rfl, ?_⟩
    -- halves = (s[1:] if is_below else s).split('/')
    refine ⟨fun σ' H' => ∃ hl, σ' = [some (.str z), some (.bl (negB z)), some (.ref hl), none, none, none, none, none, none] ∧ Same H H' ∧ H' hl = some (.lst ((ss z).map V.str)), ?_, ?_⟩
    · refine ⟨_, rfl, _, rfl, ?_⟩
      have sp : ∀ (w : Str), w = hb z → rNewStrs (Txt.split w (Str.ofString "/")) H (fun v H' => ∃ hl, v = .ref hl ∧ Same H H' ∧ H' hl = some (.lst ((ss z).map V.str))) := fun w e p hp => ⟨p, rfl, MG.Same.new (Same.refl H) hp, by rw [upd_same, e]; rfl⟩
      refine ite2 (fun h => ?_) (fun h => ?_)
      · have e : cutS z (some 1) none = hb z := (if_pos h).symm
        refine ⟨_, rfl, 1, rfl, z, rfl, hzl, ⟨_, rfl⟩, _, _, rfl, rfl, by decide +kernel, Nat.le_trans (m := 302) (by have := cutS_length z (some 1) none; omega) (by decide), fun p hp => ?_⟩
        exact ⟨p, rfl, MG.Same.new (Same.refl H) hp, by rw [upd_same, e]; rfl⟩
      · have e : z = hb z := (if_neg h).symm
        refine ⟨_, rfl, ⟨_, rfl⟩, _, _, rfl, rfl, by decide +kernel, Nat.le_trans (m := 302) (by omega) (by decide), fun p hp => ?_⟩
        refine ⟨p, rfl, MG.Same.new (Same.refl H) hp, ?_⟩
        rw [upd_same]
        show some (HO.lst ((Txt.split z (Str.ofString "/")).map V.str)) = _
        unfold ss
        rw [← e]
    rintro σ' H1 ⟨hl, rfl, s1, ehl⟩
    have bad : ((∃ h ∈ ss z, digB h = false) ∨ (ss z).length > 2 ∨ lo2 (ss z) = 0) → ∀ p, z ≠ dg p := fun h p e => by
      obtain ⟨o1, o2, o3, o4⟩ := ss_ok p
      rw [← e] at o1 o2 o3 o4
      rcases h with ⟨h, hm, hf⟩ | h | h
      · rw [o2 h hm] at hf; cases hf
      · omega
      · exact p.den_nz (o3.symm.trans h)
    have hff : ∀ {p : Rat}, dg (ff z) ≠ z → z ≠ dg p := fun {p} h e => h (by rw [e, ff_dg])
    -- figures
    refine ⟨_, rfl, hl, (ss z).map V.str, ((ss z).map digB).map V.bl, rfl, SqL.of ehl, by simp, by rw [List.length_map]; omega, ?_, fun D H2 s2 hD e2 => ?_⟩
    · intro i x y H' hx hy s'
      rw [List.getElem?_map] at hx
      rw [List.getElem?_map, List.getElem?_map] at hy
      cases e : (ss z)[i]? with
      | none => rw [e] at hx; cases hx
      | some h =>
        rw [e] at hx hy
        obtain rfl := (Option.some.inj hx).symm
        obtain rfl := (Option.some.inj hy).symm
        have hle : h.length ≤ 300 := Nat.le_trans (sle h (List.mem_of_getElem? e)) hz
        refine ⟨_, rfl, rfl, _, rfl, ?_⟩
        refine ite2 (fun hne => ?_) (fun hne => ?_)
        · have ne : h ≠ Str.empty := fun z => by rw [z] at hne; exact absurd hne (by decide +kernel)
          refine ⟨_, rfl, h, ((tl h).map figB).map V.bl, rfl, by rw [List.length_map, List.length_map, len_tl], by omega, ?_, fun D H3 s3 hD e3 => ?_⟩
          · intro i c y H4 hc hy s4
            rw [List.getElem?_map, List.getElem?_map] at hy
            have hc' : (tl h)[i]? = some c := by
              show h.cps.toList[i]? = some c
              rw [Array.getElem?_toList]
              exact hc
            rw [hc'] at hy
            obtain rfl := (Option.some.inj hy).symm
            exact ⟨_, rfl, c, _, rfl, rfl, rfl, Same.refl _⟩
          · refine ⟨D, (tl h).map figB, rfl, SqL.of e3, ?_, s3⟩
            unfold digB
            rw [if_neg ne]
        · have eq : h = Str.empty := by
            by_cases z : h = Str.empty
            · exact z
            · exact absurd (by
                have : V.str h ≠ V.str (Str.ofString "") := fun q => z ((V.str.inj q).trans (by decide +kernel))
                simp [this]) hne
          refine ⟨?_, Same.refl _⟩
          unfold digB
          rw [if_pos eq]
    -- if len(halves) > 2 or False in figures
    have s12 := s1.trans s2
    have ehl2 := s2 _ _ ehl
    have non : ∀ {H'}, Same H H' → ((∃ h ∈ ss z, digB h = false) ∨ (ss z).length > 2 ∨ lo2 (ss z) = 0) → Q .non H' := fun s h => k2 (bad h) _ s
    refine ⟨_, rfl, hl, _, rfl, .inl (SqL.of ehl2), _, _, rfl, rfl, _, rfl, ?_⟩
    refine ite2 (fun h => ?_) (fun h => ?_)
    · have := of_decide_eq_true h
      rw [List.length_map] at this
      exact non s12 (.inr (.inl (by omega)))
    have hl2 : (ss z).length ≤ 2 := by
      have h' : ¬ ((2 : Int) < (((ss z).map V.str).length : Int)) := fun q => h (decide_eq_true q)
      rw [List.length_map] at h'
      omega
    refine ⟨_, rfl, D, _, rfl, .inl (SqL.of e2), rfl, by simp [flatV], _, rfl, ?_⟩
    rw [show (if (false : Bool) = true then !inV (V.bl false) (((ss z).map digB).map V.bl) else inV (V.bl false) (((ss z).map digB).map V.bl)) = inV (V.bl false) (((ss z).map digB).map V.bl) from rfl, inV_bl]
    cases ea : ((ss z).map digB).all id with
    | false =>
      refine iteT (non s12 (.inl ?_))
      have h1 : ¬ ∀ b ∈ (ss z).map digB, id b = true := fun q => by rw [List.all_eq_true.mpr q] at ea; cases ea
      by_cases h2 : ∃ h ∈ ss z, digB h = false
      · exact h2
      · refine absurd (fun b hb => ?_) h1
        obtain ⟨h, hm, rfl⟩ := List.mem_map.mp hb
        cases e : digB h with
        | true => rfl
        | false => exact absurd ⟨h, hm, e⟩ h2
    | true =>
    refine iteF ?_
    have hall : ∀ h ∈ ss z, digB h = true := fun h hm => List.all_eq_true.mp ea _ (List.mem_map.mpr ⟨h, hm, rfl⟩)
    have intz : ∀ h ∈ ss z, PySem.intText? h = some ((NumText.digitsVal (tl h) : Nat) : Int) ∧ h.length ≤ 640 ∧ NumText.digitsVal (tl h) < 10 ^ 300 := fun h hm => by
      obtain ⟨d, ne⟩ := digB_iff.mp (hall h hm)
      have l := Nat.le_trans (sle h hm) hz
      obtain ⟨i, v⟩ := dig_int d ne (by omega)
      exact ⟨i, by omega, Nat.lt_of_lt_of_le v (Nat.pow_le_pow_right (by decide) l)⟩
    -- high, under = ..
    refine ⟨fun σ' H' => σ' = [some (.str z), some (.bl (negB z)), some (.ref hl), some (.ref D), some (.int (hi2 (ss z))), some (.int (lo2 (ss z))), none, none, none] ∧ Same H H' ∧ hi2 (ss z) < 10 ^ 300 ∧ lo2 (ss z) < 10 ^ 300, ?_, ?_⟩
    · cases es : ss z with
      | nil => exact absurd es sne
      | cons a r =>
        rw [es] at ehl2 intz hl2
        obtain ⟨i1, l1, v1⟩ := intz a (by simp)
        refine ⟨_, rfl, hl, _, _, _, rfl, rfl, SqL.of ehl2, atI_nat (j := 0) (show (List.map V.str (a :: r))[0]? = some (V.str a) from rfl), _, _, rfl, i1, l1, ?_⟩
        cases r with
        | nil =>
          refine ⟨_, rfl, hl, _, rfl, .inl (SqL.of ehl2), rfl, _, rfl, ifF (by simp) ?_⟩
          exact ⟨_, _, rfl, rfl, s12, v1, by show 1 < 10 ^ 300; exact Nat.one_lt_pow (by decide) (by decide)⟩
        | cons b r2 =>
          cases r2 with
          | nil =>
            obtain ⟨i2, l2, v2⟩ := intz b (by simp)
            refine ⟨_, rfl, hl, _, rfl, .inl (SqL.of ehl2), rfl, _, rfl, ifT (by simp) ?_⟩
            refine ⟨_, rfl, _, rfl, hl, _, rfl, .inl (SqL.of ehl2), _, _, rfl, rfl, hl, _, _, _, rfl, rfl, SqL.of ehl2, rfl, _, _, rfl, i2, l2, ?_⟩
            exact ⟨_, _, rfl, rfl, s12, v1, v2⟩
          | cons c r3 => simp at hl2
    rintro σ' H3 ⟨rfl, s3, v1, v2⟩
    -- if under == 0
    refine ⟨_, rfl, rfl, _, rfl, ?_⟩
    refine ite2 (fun h => ?_) (fun h => ?_)
    · have := V.int.inj (of_decide_eq_true h)
      exact non s3 (.inr (.inr (by omega)))
    have hl0 : ((lo2 (ss z) : Nat) : Int) ≠ 0 := fun q => h (decide_eq_true (by rw [q]))
    have sl : Sm ((lo2 (ss z) : Nat) : Int) := smI (k := 300) v2 (by decide)
    have bf : Bd (ff z) 300 := by
      unfold ff
      split
      · exact bd_div hl0 (by rw [Int.natAbs_neg]; exact v1) v2
      · exact bd_div hl0 v1 v2
    -- pair = lowest(-high if is_below else high, under)
    refine ⟨fun σ' H' => ∃ t, σ' = [some (.str z), some (.bl (negB z)), some (.ref hl), some (.ref D), some (.int (hi2 (ss z))), some (.int (lo2 (ss z))), some (.ref t), none, none] ∧ Same H H' ∧ H' t = some (.tup (pr (ff z))), ?_, ?_⟩
    · refine ⟨_, rfl, _, rfl, ?_⟩
      have hff1 : negB z = true → Rat.divInt (-(hi2 (ss z) : Int)) (lo2 (ss z) : Nat) = ff z := fun h => (if_pos h).symm
      have hff2 : ¬ negB z = true → Rat.divInt (hi2 (ss z) : Nat) (lo2 (ss z) : Nat) = ff z := fun h => (if_neg h).symm
      refine ite2 (fun h => ?_) (fun h => ?_)
      · refine ⟨_, rfl, _, rfl, _, rfl, _, _, rfl, hl0, sl, fun t ht => ⟨t, rfl, s3.trans (MG.Same.new (Same.refl _) ht), ?_⟩⟩
        rw [upd_same, hff1 h]
        rfl
      · refine ⟨_, rfl, _, rfl, _, _, rfl, hl0, sl, fun t ht => ⟨t, rfl, s3.trans (MG.Same.new (Same.refl _) ht), ?_⟩⟩
        rw [upd_same, hff2 h]
        rfl
    rintro σ' H4 ⟨t, rfl, s4, et⟩
    -- return pair if digits(pair) == s else None
    refine ⟨_, rfl, t, ff z, rfl, SqT.of et, bf.num (by decide), bf.den (by decide), _, rfl, rfl, _, rfl, ?_⟩
    refine ite2 (fun h => ?_) (fun h => ?_)
    · exact ⟨_, rfl, k1 t (ff z) H4 s4 (V.str.inj (of_decide_eq_true h)).symm bf et⟩
    · exact k2 (fun p => hff (fun q => h (decide_eq_true (by rw [q])))) H4 s4
abbrev ReadFC (P : Program) (w : World) (K : PySem.W.Frag) (mg : Str → Option Value) (base : Heap) : Prop := CalG P w K mg base 8 "_law_read_fraction" (spReadF K) []
end
end Lw

namespace Lw
open PySem PySem.Spec PyProof.Rows L2 MG TL
section
variable {X : Addr → Prop}
variable {P : Program} {w : World} {K : PySem.W.Frag} {mg : Str → Option Value} {base : Heap} {C CI : Addr}
/-! ### _law_reads -/
theorem two_txt {H : Hp} {t : Addr} {p : Rat} (h : H t = some (.tup (pr p))) (sn : Sm p.num) (sd : Sm (p.den : Int)) : ∃ as k, Shw K (ownR C) 2 H as k (.ref t) (tupleText [toString p.num, toString (p.den : Int)]) ∧ (tupleText [toString p.num, toString (p.den : Int)] : Str).length ≤ sizeLine ∧ k + 3 ≤ 13 := by
  refine ⟨[t], 2, .tuple (as := []) (k := 0) (SqT.of h) nofun rfl (fun i y u e1 e2 => ?_) (fun b hb => hb) (Nat.le_refl _), ?_, by decide⟩
  · match i, e1, e2 with
    | 0, e1, e2 =>
      obtain rfl : V.int p.num = y := Option.some.inj e1
      obtain rfl := Option.some.inj e2
      exact .int (log_sm sn)
    | 1, e1, e2 =>
      obtain rfl : V.int (p.den : Int) = y := Option.some.inj e1
      obtain rfl := Option.some.inj e2
      exact .int (log_sm sd)
  · have := shw_len sn sd
    exact Nat.le_trans this (by decide)
def spReads (K : PySem.W.Frag) : Sp := fun vs H Q _ => ∃ z : Str, vs = [.str z] ∧ z.length ≤ 300 ∧ Asc z ∧ ∀ H', Same H H' → Q (.bl true) H'
theorem sc__law_reads : FnScope ["_law_string", "_law_due", "_law_one", "e"] ["_law_string"] (defScope s__law_reads) := ⟨rfl, rfl, rfl, by decide +kernel, rfl, by decide +kernel, by decide +kernel⟩
theorem ok_reads {f : Addr} {fd : FuncData} (F : Fun K "_law_reads" "_law_reads" s__law_reads f fd) (T : TxR K mg C) (x_num : XnC P w K mg base CI) (c_readf : ReadFC P w K mg base) (m_readX : ReadX P w K mg base C CI) (m_readK : ReadK P w K mg base C CI) (p_top : PropF P w K mg base 2 C "top" (spTop C)) (p_bottom : PropF P w K mg base 2 C "bottom" (spBottom C))
    (d_str : DunF P w K mg base 2 C "__str__" (spStr C)) (d_repr : DunF P w K mg base 2 C "__repr__" (spRepr C)) (d_reprH : OwnH P w K mg base (ownR C) 2) (o_eq : EqF P w K mg base 2 C (spEqR K C)) : FnG P w K mg base CX0 20 f fd ["_law_string"] (spReads K) := by
  refine fun_okG F sc__law_reads (fun vs H Q E h => ?_) (fun cdv A outer s H vs Q E bare hr h => ?_)
  · obtain ⟨z, rfl, _⟩ := h
    rfl
  · obtain ⟨z, rfl, hz, az, k⟩ := h
    refine ⟨_, (pss_cons (ps_cut (ps_set (i := 1) sc__law_reads.nd rfl (Or.inl rfl) (pe_cg c_readf bare hr (by decide) rfl (pa_cons (pv 0) pa_nil))))
  (pss_cons (ps_try_cut (i := 3) (Wout := fun _ _ _ _ => False) rfl rfl sc__law_reads.nd rfl rfl ⟨rfl, by decide, Or.inl x_num.g⟩ takesN0
  (fun W pn xe tk _ => (pss_one (ps_set (i := 2) sc__law_reads.nd rfl (Or.inl rfl) (pe_cmtX m_readX hr (by decide) tk (pe_glob (v := V.ref C) rfl T.g_Ratio rfl) (pa_cons (pv 0) pa_nil)))))
  (fun a oe cls d pn hz hf => (pss_one (ps_ret (pe_and (pe_cmpR op_isN (pv 1) pe_non (nomark _)) (pe_one (pe_cmpR op_eq (pe_callB (id := "repr") (call_reprX (K := K) (own := ownR C) (j := 19) ((d_reprH).at (hot_of hz hf)) bare (L2H.roomH_mark hr _)) (by rfl) T.b_repr (by decide +kernel) (pa_cons (pe_xf (C := CI) x_num.xf x_num.no hz.zc hf (pv 3)) pa_nil)) (pe_callB (id := "repr") (call_reprX (K := K) (own := ownR C) (j := 19) ((d_reprH).at (hot_of hz hf)) bare (L2H.roomH_mark hr _)) (by rfl) T.b_repr (by decide +kernel) (pa_cons (pv 0) pa_nil)) (nomark _))))))))
  (pss_cons (ps_if (PW.pt (pw_or (pt_cmpR op_isN (pv 1) pe_non (nomark _)) (pw_or (pt_not (pt_val (pe_callB (id := "isinstance") (call_isiK (K := K)) (by rfl) T.b_isinstance (by decide +kernel) (pa_cons (pv 2) (pa_cons (pe_glob (v := V.ref C) rfl T.g_Ratio rfl) pa_nil))))) (pw_or1 (pt_cmpR op_ne (pe_callB (id := "repr") (call_reprS (K := K) (own := ownR C) (ownF d_repr) bare hr) (by rfl) T.b_repr (by decide +kernel) (pa_cons (pe_tup (pa_cons (pe_pf p_top T.cl hr (by decide) (pv 2) rfl) (pa_cons (pe_pf p_bottom T.cl hr (by decide) (pv 2) rfl) pa_nil))) pa_nil)) (pe_callB (id := "repr") (call_reprS (K := K) (own := ownR C) (ownF d_repr) bare hr) (by rfl) T.b_repr (by decide +kernel) (pa_cons (pv 1) pa_nil)) (nomark _)))))) (pss_one (ps_ret pe_bl))
  pss_nil)
  (pss_one (ps_ret (pe_and (pe_cmpR op_eq (pe_callTy (str_f d_str hr (by decide)) (by rfl) T.b_str (by decide +kernel) (pa_cons (pv 2) pa_nil)) (pv 0) (nomark _)) (pe_one (pe_cmpR (eq_f o_eq hr (by decide)) (pv 2) (pe_cmtK m_readK hr (by decide) (pe_glob (v := V.ref C) rfl T.g_Ratio rfl) (pk_cons (pv 0) pk_nil)) (nomark _))))))))), ?_⟩
    -- due = read_fraction(s)
    refine ⟨fun σ' H' => ∃ v, σ' = [some (.str z), some v, none, none] ∧ Same H H' ∧ (((∀ p, z ≠ dg p) ∧ v = .non) ∨ ∃ t p, v = .ref t ∧ z = dg p ∧ Bd p 300 ∧ H' t = some (.tup (pr p))), ?_, ?_⟩
    · exact ⟨_, rfl, z, rfl, hz, fun t p H' s e b et => ⟨.ref t, rfl, s, .inr ⟨t, p, rfl, e, b, et⟩⟩, fun h H' s => ⟨.non, rfl, s, .inl ⟨h, rfl⟩⟩⟩
    rintro σ' H1 ⟨v, rfl, s1, hv⟩
    have lz : (reprText z).length ≤ sizeLine := by
      have := PySem.StrLaws.reprText_len z fun c hc => by have := (az c hc).2; omega
      exact Nat.le_trans (m := 10000) (by omega) (by decide)
    rcases hv with ⟨non, rfl⟩ | ⟨t, p, rfl, ez, bp, et⟩
    · refine ⟨fun cls d σ' H' => cls = .ref CI ∧ σ' = [some (.str z), some .non, none, none] ∧ Same H1 H' ∧ ∃ dd, d = some dd ∧ H' dd = some (.xd [("given", .str z)]), ?_, ?_⟩
      · rintro cls d σ' H' ⟨rfl, rfl, s2, dd, rfl, ed⟩
        refine ⟨true, x_num.te, fun _ a ha => ?_, fun q => Bool.noConfusion q⟩
        refine ⟨_, rfl, rfl, _, rfl, iteT ?_⟩
        refine ⟨_, rfl, rfl, rfl, dd, _, _, rfl, ed, by simp [List.lookup], .str z, [], 0, _, rfl, .str lz, lz, by decide, fun H2 s3 => ?_⟩
        refine ⟨_, rfl, .str z, [], 0, _, rfl, .str lz, lz, by decide, fun H4 s4 => ⟨rfl, ?_⟩⟩
        rw [decide_eq_true rfl]
        exact k _ (((s1.trans s2).trans s3).trans s4)
      · refine ⟨rfl, _, rfl, .str z, rfl, .inl ⟨z, rfl, hz, fun r p H' s e b h => absurd e (non p), fun _ d H' s' n ed => ⟨rfl, rfl, s', d, rfl, ed⟩⟩⟩
    · subst ez
      refine ⟨fun _ _ _ _ => False, fun _ _ _ _ h => h.elim, ?_⟩
      refine ⟨rfl, _, rfl, .str (dg p), rfl, .inl ⟨dg p, rfl, hz, fun r p' H2 s2 e b hR => ?_, fun h => absurd rfl (h p)⟩⟩
      obtain rfl := dg_inj e
      have sn := bp.num (by decide)
      have sd := bp.den (by decide)
      have et2 := s2 _ _ et
      obtain ⟨dx, er⟩ := id hR
      -- if due is None or not isinstance(one, Ratio) or repr((one.top, one.bottom)) != repr(due)
      refine ⟨_, rfl, rfl, _, rfl, ifF (by rfl) ?_⟩
      refine ⟨_, rfl, _, _, _, _, true, rfl, .own C, hR.tyx T, T.kC, _, rfl, iteF ?_⟩
      refine ⟨_, rfl, r, dx, _, rfl, er, r, p, rfl, hR, _, rfl, r, dx, _, rfl, er, r, p, rfl, hR, by show 2 ≤ sizeLine; decide, fun tp htp => ?_⟩
      have s3 : Same H2 (upd H2 tp (.tup (pr p))) := MG.Same.new (Same.refl H2) htp
      obtain ⟨as1, k1, sh1, ln1, hk1⟩ := two_txt (K := K) (C := C) (H := upd H2 tp (.tup (pr p))) (t := tp) upd_same sn sd
      refine ⟨_, as1, k1, _, rfl, sh1, ln1, by omega, fun H4 s4 => ?_⟩
      obtain ⟨as2, k2, sh2, ln2, hk2⟩ := two_txt (K := K) (C := C) (s4 _ _ (s3 _ _ et2)) sn sd
      refine ⟨_, rfl, _, as2, k2, _, rfl, sh2, ln2, by omega, fun H5 s5 => ⟨rfl, _, rfl, ifF (by simp) ?_⟩⟩
      have s25 := (s3.trans s4).trans s5
      have hR5 := hR.same s25
      obtain ⟨dx5, er5⟩ := id hR5
      -- return str(one) == s and one == Ratio.read(text=s)
      refine ⟨_, rfl, r, dx5, _, rfl, er5, r, p, rfl, hR5, sn, sd, _, rfl, _, rfl, rfl, _, rfl, ifT (by simp) ?_⟩
      refine ⟨_, rfl, rfl, _, rfl, rfl, .str (dg p), rfl, .inl ⟨dg p, rfl, hz, fun r2 p2 H6 s6 e2 b2 hR2 => ?_, fun h => absurd rfl (h p)⟩⟩
      obtain rfl := dg_inj e2
      have hR6 := hR5.same s6
      obtain ⟨dx6, er6⟩ := id hR6
      obtain ⟨dx7, er7⟩ := id hR2
      refine ⟨r, dx6, _, r2, dx7, _, rfl, er6, rfl, er7, r, p, .ref r2, rfl, hR6, .inl ⟨r2, p, rfl, hR2, ?_⟩⟩
      rw [decide_eq_true rfl]
      exact k _ (((s1.trans s2).trans s25).trans s6)
abbrev ReadsC (P : Program) (w : World) (K : PySem.W.Frag) (mg : Str → Option Value) (base : Heap) : Prop := CalG P w K mg base 20 "_law_reads" (spReads K) []
/-! ### _law_pick, _law_spoiled_text -/
def spPick : Sp := fun vs H Q _ => ∃ (q l : Addr) (ls : List Str) (n : Nat), vs = [.ref q, .ref l] ∧ QAt X H q n ∧ n + 1 ≤ 100000 ∧ l ≠ q ∧ H l = some (.lst (ls.map V.str)) ∧ 0 < ls.length ∧ ls.length ≤ 100 ∧
  ∀ (s : Str) (H' : Hp), s ∈ ls → Keep q H H' → QAt X H' q (n + 1) → Q (.str s) H'
theorem sc__law_pick : FnScope ["_law_q", "_law_six"] ["_law_q", "_law_six"] (defScope s__law_pick) := ⟨rfl, rfl, rfl, by decide +kernel, rfl, by decide +kernel, by decide +kernel⟩
theorem ok_pick {f : Addr} {fd : FuncData} (F : Fun K "_law_pick" "_law_pick" s__law_pick f fd) (T : Blt mg) (c_draw : DrawC X P w K mg base) : FnG P w K mg base CX0 4 f fd ["_law_q", "_law_six"] (spPick (X := X)) := by
  refine fun_okG F sc__law_pick (fun vs H Q E h => ?_) (fun cdv A outer s H vs Q E bare hr h => ?_)
  · obtain ⟨q, l, ls, n, rfl, _⟩ := h
    rfl
  · obtain ⟨q, l, ls, n, rfl, hq, hn, hlq, el, l0, l1, k⟩ := h
    refine ⟨_, (pss_one (ps_ret (pe_ix (ix_listK (K := K)) (pv 1) (pe_cg c_draw bare hr (by decide) rfl (pa_cons (pv 0) (pa_cons (pe_callB (id := "len") call_len_seq (by rfl) T.b_len (by decide +kernel) (pa_cons (pv 1) pa_nil)) pa_nil))) (fun _ _ => rfl)))), ?_⟩
    refine ⟨_, rfl, _, rfl, _, rfl, l, _, rfl, .inl (SqL.of el), q, _, n, rfl, hq, by omega, ?_, ?_, fun r H1 r0 r1 k1 q1 => ?_⟩
    · rw [List.length_map]; omega
    · rw [List.length_map]; exact Int.lt_of_le_of_lt (b := 100) (by omega) (by decide)
    rw [List.length_map] at r1
    obtain ⟨j, rfl⟩ := Int.eq_ofNat_of_zero_le r0
    have hj : j < ls.length := by omega
    exact ⟨l, _, _, _, rfl, rfl, SqL.of (k1 _ _ el hlq), atI_nat (j := j) (v := .str ls[j]) (by rw [List.getElem?_map, List.getElem?_eq_getElem hj]; rfl), k _ H1 (List.getElem_mem hj) k1 q1⟩
abbrev PickC (X : Addr → Prop) (P : Program) (w : World) (K : PySem.W.Frag) (mg : Str → Option Value) (base : Heap) : Prop := CalG P w K mg base 4 "_law_pick" (spPick (X := X)) []
theorem cut_to (z : Str) (n : Nat) : (cutS z none (some (n : Int))).length ≤ n ∧ (cutS z none (some (n : Int))).length ≤ z.length := by
  refine ⟨?_, cutS_length _ _ _⟩
  show (((tl z).drop (HT.sIx z.length 0 none)).take (HT.sIx z.length z.length (some (n : Int)) - HT.sIx z.length 0 none)).toArray.size ≤ n
  rw [HT.sIx_nat, HT.sIx_none, List.size_toArray, List.length_take]
  omega
theorem cut_from (z : Str) (n : Nat) : (cutS z (some (n : Int)) none).length ≤ z.length - n := by
  show (((tl z).drop (HT.sIx z.length 0 (some (n : Int)))).take (HT.sIx z.length z.length none - HT.sIx z.length 0 (some (n : Int)))).toArray.size ≤ z.length - n
  rw [HT.sIx_nat, HT.sIx_none, List.size_toArray, List.length_take, List.length_drop]
  omega
theorem cut_mid (z : Str) (n : Nat) : (cutS z (some (n : Int)) (some ((n : Int) + 1))).length ≤ 1 := by
  have e : ((n : Int) + 1) = ((n + 1 : Nat) : Int) := by omega
  rw [e]
  show (((tl z).drop (HT.sIx z.length 0 (some (n : Int)))).take (HT.sIx z.length z.length (some ((n + 1 : Nat) : Int)) - HT.sIx z.length 0 (some (n : Int)))).toArray.size ≤ 1
  rw [HT.sIx_nat, HT.sIx_nat, List.size_toArray, List.length_take]
  omega
def mores : List Str := ["0", "-", "/", " ", "1", "'", "**", "*", "+", "(", ")", ",", ";", "; ", "[", "]", "/1", "eye(", "inv("]
theorem mores_ok : ∀ s ∈ mores, Asc s ∧ s.length ≤ 4 := by
  intro s hs
  simp only [mores, List.mem_cons, List.not_mem_nil, or_false] at hs
  rcases hs with rfl | rfl | rfl | rfl | rfl | rfl | rfl | rfl | rfl | rfl | rfl | rfl | rfl | rfl | rfl | rfl | rfl | rfl | rfl <;> exact ⟨asc_of _ (by decide +kernel), by decide +kernel⟩
def spSpoil : Sp := fun vs H Q _ => ∃ (q : Addr) (z : Str) (n : Nat), vs = [.ref q, .str z] ∧ QAt X H q n ∧ n + 4 ≤ 100000 ∧ Asc z ∧ z.length ≤ 1000 ∧
  ∀ (s : Str) (H' : Hp), Asc s → s.length ≤ z.length + 4 → Keep q H H' → QAt X H' q (n + 4) → Q (.str s) H'
theorem sc__law_spoiled_text : FnScope ["_law_q", "_law_string", "_law_at", "_law_way", "_law_sign", "_law_more"] ["_law_q", "_law_string"] (defScope s__law_spoiled_text) := ⟨rfl, rfl, rfl, by decide +kernel, rfl, by decide +kernel, by decide +kernel⟩
theorem ok_spoiled {f : Addr} {fd : FuncData} (F : Fun K "_law_spoiled_text" "_law_spoiled_text" s__law_spoiled_text f fd) (T : Blt mg) (c_draw : DrawC X P w K mg base) (c_sign : SignC X P w K mg base) (c_pick : PickC X P w K mg base) : FnG P w K mg base CX0 6 f fd ["_law_q", "_law_string"] (spSpoil (X := X)) := by
  refine fun_okG F sc__law_spoiled_text (fun vs H Q E h => ?_) (fun cdv A outer s H vs Q E bare hr h => ?_)
  · obtain ⟨q, z, n, rfl, _⟩ := h
    rfl
  · obtain ⟨q, z, n, rfl, hq, hn, az, hz, k⟩ := h
    refine ⟨_, (pss_cons (ps_par (i := 2) (j := 3) (by rfl) sc__law_spoiled_text.nd rfl rfl (by decide) rfl rfl (pa_cons (pe_cg c_draw bare hr (by decide) rfl (pa_cons (pv 0) (pa_cons (pe_op op_add (pe_callB (id := "len") call_len_str (by rfl) T.b_len (by decide +kernel) (pa_cons (pv 1) pa_nil)) pe_int) pa_nil))) (pa_cons (pe_cg c_draw bare hr (by decide) rfl (pa_cons (pv 0) (pa_cons pe_int pa_nil))) pa_nil)) (by rfl))
  (pss_cons (ps_if (pt_cmpR op_eq (pv 3) pe_int (nomark _)) (pss_one (ps_ret (pe_op op_add_str (pe_slice sl_str (pv 1) po_none (po_some (pv 2))) (pe_slice sl_str (pv 1) (po_some (pe_op op_add (pv 2) pe_int)) po_none))))
  pss_nil)
  (pss_cons (ps_if (pt_cmpR op_eq (pv 3) pe_int (nomark _)) (pss_one (ps_ret (pe_op op_add_str (pe_op op_add_str (pe_slice sl_str (pv 1) po_none (po_some (pv 2))) (pe_slice sl_str (pv 1) (po_some (pv 2)) (po_some (pe_op op_add (pv 2) pe_int)))) (pe_slice sl_str (pv 1) (po_some (pv 2)) po_none))))
  pss_nil)
  (pss_cons (ps_if (pt_cmpR op_eq (pv 3) pe_int (nomark _)) (pss_one (ps_ret (pe_slice sl_str (pv 1) po_none (po_some (pv 2)))))
  pss_nil)
  (pss_cons (ps_set (i := 4) sc__law_spoiled_text.nd rfl (Or.inl rfl) (pe_cg c_sign bare hr (by decide) rfl (pa_cons (pv 0) pa_nil)))
  (pss_cons (ps_if (pt_cmpR op_eq (pv 3) pe_int (nomark _)) (pss_one (ps_ret (pe_op op_add_str (pe_op op_add_str (pe_slice sl_str (pv 1) po_none (po_some (pv 2))) (pv 4)) (pe_slice sl_str (pv 1) (po_some (pv 2)) po_none))))
  pss_nil)
  (pss_cons (ps_if (pt_cmpR op_eq (pv 3) pe_int (nomark _)) (pss_one (ps_ret (pe_op op_add_str (pe_op op_add_str (pe_slice sl_str (pv 1) po_none (po_some (pv 2))) (pv 4)) (pe_slice sl_str (pv 1) (po_some (pe_op op_add (pv 2) pe_int)) po_none))))
  pss_nil)
  (pss_cons (ps_set (i := 5) sc__law_spoiled_text.nd rfl (Or.inl rfl) (pe_lst (pa_cons pe_str (pa_cons pe_str (pa_cons pe_str (pa_cons pe_str (pa_cons pe_str (pa_cons pe_str (pa_cons pe_str (pa_cons pe_str (pa_cons pe_str (pa_cons pe_str (pa_cons pe_str (pa_cons pe_str (pa_cons pe_str (pa_cons pe_str (pa_cons pe_str (pa_cons pe_str (pa_cons pe_str (pa_cons pe_str (pa_cons pe_str pa_nil)))))))))))))))))))))
  (pss_one (ps_ret (pe_op op_add_str (pe_op op_add_str (pe_slice sl_str (pv 1) po_none (po_some (pv 2))) (pe_cg c_pick bare hr (by decide) rfl (pa_cons (pv 0) (pa_cons (pv 5) pa_nil)))) (pe_slice sl_str (pv 1) (po_some (pv 2)) po_none)))))))))))), ?_⟩
    have hzl : z.length ≤ sizeLine := Nat.le_trans hz (by decide)
    -- at, way = draw(q, len(s) + 1), draw(q, 6)
    refine ⟨_, rfl, _, rfl, _, rfl, hzl, _, _, rfl, rfl, q, _, n, rfl, hq, by omega, by omega, Int.lt_of_le_of_lt (b := 1001) (by omega) (by decide), fun r H1 r0 r1 k1 q1 => ?_⟩
    refine ⟨_, rfl, q, 6, n + 1, rfl, q1, by omega, by decide, by decide, fun v H2 v0 v1 k2 q2 => ?_⟩
    refine ⟨_, _, rfl, ?_⟩
    obtain ⟨j, rfl⟩ := Int.eq_ofNat_of_zero_le r0
    have hj : j ≤ z.length := by omega
    have kk := k1.trans k2
    have fin : ∀ {s : Str} {H' : Hp} {n' : Nat}, Asc s → s.length ≤ z.length + 4 → Keep q H2 H' → QAt X H' q n' → n' ≤ n + 4 → Q (.str s) H' := fun a l kx qx hle => k _ _ a l (kk.trans kx) (QAt.le qx hle)
    obtain ⟨t1, t1'⟩ := cut_to z j
    have t2 := cut_from z j
    have t3 := cut_mid z j
    have e1 : ((j : Int) + 1) = ((j + 1 : Nat) : Int) := by omega
    have t4 : (cutS z (some ((j : Int) + 1)) none).length ≤ z.length - (j + 1) := by rw [e1]; exact cut_from z (j + 1)
    have ac := fun lo hi => asc_cut az lo hi
    -- way == 0
    refine ⟨_, rfl, rfl, _, rfl, ?_⟩
    refine ite2 (fun _ => ?_) (fun _ => ?_)
    · refine ⟨_, rfl, _, rfl, _, rfl, z, rfl, hzl, _, rfl, _, rfl, _, _, rfl, rfl, _, rfl, z, rfl, hzl, _, _, rfl, rfl, Nat.le_trans (m := 3000) (by omega) (by decide), ?_⟩
      exact fin (asc_append (ac _ _) (ac _ _)) (by rw [strLen_append]; omega) Keep.refl q2 (by omega)
    -- way == 1
    refine ⟨_, rfl, rfl, _, rfl, ?_⟩
    refine ite2 (fun _ => ?_) (fun _ => ?_)
    · refine ⟨_, rfl, _, rfl, _, rfl, z, rfl, hzl, _, rfl, _, rfl, _, rfl, _, rfl, _, _, rfl, rfl, _, rfl, z, rfl, hzl, _, _, rfl, rfl, Nat.le_trans (m := 3000) (by omega) (by decide), ?_⟩
      refine ⟨_, rfl, _, rfl, _, rfl, z, rfl, hzl, _, _, rfl, rfl, Nat.le_trans (m := 3000) (by rw [strLen_append]; omega) (by decide), ?_⟩
      exact fin (asc_append (asc_append (ac _ _) (ac _ _)) (ac _ _)) (by rw [strLen_append, strLen_append]; omega) Keep.refl q2 (by omega)
    -- way == 2
    refine ⟨_, rfl, rfl, _, rfl, ?_⟩
    refine ite2 (fun _ => ?_) (fun _ => ?_)
    · refine ⟨_, rfl, _, rfl, _, rfl, z, rfl, hzl, ?_⟩
      exact fin (ac _ _) (by omega) Keep.refl q2 (by omega)
    -- sign
    refine ⟨_, rfl, q, n + 2, rfl, q2, by omega, fun sg H3 asg lsg k3 q3 => ?_⟩
    -- way == 3
    refine ⟨_, rfl, rfl, _, rfl, ?_⟩
    refine ite2 (fun _ => ?_) (fun _ => ?_)
    · refine ⟨_, rfl, _, rfl, _, rfl, z, rfl, hzl, _, rfl, _, _, rfl, rfl, Nat.le_trans (m := 3000) (by omega) (by decide), ?_⟩
      refine ⟨_, rfl, _, rfl, _, rfl, z, rfl, hzl, _, _, rfl, rfl, Nat.le_trans (m := 3000) (by rw [strLen_append]; omega) (by decide), ?_⟩
      exact fin (asc_append (asc_append (ac _ _) asg) (ac _ _)) (by rw [strLen_append, strLen_append]; omega) k3 q3 (by omega)
    -- way == 4
    refine ⟨_, rfl, rfl, _, rfl, ?_⟩
    refine ite2 (fun _ => ?_) (fun _ => ?_)
    · refine ⟨_, rfl, _, rfl, _, rfl, z, rfl, hzl, _, rfl, _, _, rfl, rfl, Nat.le_trans (m := 3000) (by omega) (by decide), ?_⟩
      refine ⟨_, rfl, _, rfl, _, _, rfl, rfl, _, rfl, z, rfl, hzl, _, _, rfl, rfl, Nat.le_trans (m := 3000) (by rw [strLen_append]; omega) (by decide), ?_⟩
      exact fin (asc_append (asc_append (ac _ _) asg) (ac _ _)) (by rw [strLen_append, strLen_append]; omega) k3 q3 (by omega)
    -- more = [..]
    refine ⟨by show 19 ≤ sizeLine; decide, fun l hl => ?_⟩
    have nl : l ≠ q := q3.ne hl
    refine ⟨_, rfl, _, rfl, _, rfl, z, rfl, hzl, _, rfl, _, rfl, q, l, mores, n + 3, rfl, q3.new hl, by omega, nl, upd_same, by decide, by decide, fun sm H4 hsm k4 q4 => ?_⟩
    obtain ⟨am, lm⟩ := mores_ok sm hsm
    refine ⟨_, _, rfl, rfl, Nat.le_trans (m := 3000) (by omega) (by decide), ?_⟩
    refine ⟨_, rfl, _, rfl, _, rfl, z, rfl, hzl, _, _, rfl, rfl, Nat.le_trans (m := 3000) (by rw [strLen_append]; omega) (by decide), ?_⟩
    exact fin (asc_append (asc_append (ac _ _) am) (ac _ _)) (by rw [strLen_append, strLen_append]; omega) (k3.trans ((Keep.refl.new hl).trans k4)) q4 (by omega)
abbrev SpoilC (X : Addr → Prop) (P : Program) (w : World) (K : PySem.W.Frag) (mg : Str → Option Value) (base : Heap) : Prop := CalG P w K mg base 6 "_law_spoiled_text" (spSpoil (X := X)) []
end
end Lw

namespace MG
open PySem PySem.Spec PyProof.Rows L2
/-- [e for x in range(..)], what an item changes told by P (of the new list's place and the turn) -/
def tMapRP (j : Nat) (ta : TA) (te : TE) : TE := fun σ H Q => ta σ H fun vs H1 => ∃ (m : Int) (ys : List V) (Pv : Addr → Nat → Hp → Prop), vs = [.int m] ∧ 0 ≤ m ∧ m ≤ 100000 ∧ (ys.length : Int) = m ∧
  (∀ D, H1 D = none → Pv D 0 (upd H1 D (.lst []))) ∧
  (∀ (D : Addr) (i : Nat) (y : V) (H' : Hp), ys[i]? = some y → Pv D i H' → H' D = some (.lst (ys.take i)) → te ((σ.set j none).set j (some (.int i))) H' fun v H'' => v = y ∧ H'' D = some (.lst (ys.take i)) ∧ Pv D (i + 1) (upd H'' D (.lst (ys.take (i + 1))))) ∧
  ∀ D H', H' D = some (.lst ys) → Pv D ys.length H' → Q (.ref D) H'
theorem map_coreRP {te : TE} {j : Nat} {σ : L2.St} {H1 : Hp} {Q : VK} {m : Nat} {ys : List V} {Pv : Addr → Nat → Hp → Prop} (hn : ys.length = m) (hs : m ≤ 100000) (h0 : ∀ D, H1 D = none → Pv D 0 (upd H1 D (.lst [])))
    (he : ∀ (D : Addr) (i : Nat) (y : V) (H' : Hp), ys[i]? = some y → Pv D i H' → H' D = some (.lst (ys.take i)) → te ((σ.set j none).set j (some (.int i))) H' fun v H'' => v = y ∧ H'' D = some (.lst (ys.take i)) ∧ Pv D (i + 1) (upd H'' D (.lst (ys.take (i + 1)))))
    (k : ∀ D H', H' D = some (.lst ys) → Pv D ys.length H' → Q (.ref D) H') :
    tLc (fun _ H R => R (Itr 0 m) H) (gName j) tYes (tCut te) [j] σ H1 Q := by
  intro D hD
  refine lc_range (lo := 0) (n := m) (fun i H' => H' D = some (.lst (ys.take i)) ∧ Pv D i H') ⟨upd_same, h0 D hD⟩ ?_ ?_
  · rintro i H' hi ⟨e, p⟩
    have hy : ys[i]? = some ys[i] := List.getElem?_eq_getElem (by omega)
    have e0 : (0 : Int) + (i : Int) = i := Int.zero_add _
    rw [e0]
    refine ⟨wipe_one, _, he D i _ H' hy p e, ?_⟩
    rintro v H2 ⟨rfl, e2, p2⟩
    refine ⟨_, e2, ?_, ?_, ?_⟩
    · rw [List.length_take]
      exact Nat.lt_of_le_of_lt (m := 100000) (by omega) (by decide)
    · rw [upd_same, take_one hy]
    · rw [take_one hy] at p2
      exact p2
  · rintro H' ⟨e, p⟩
    rw [← hn, List.take_length] at e
    rw [← hn] at p
    exact k D H' e p
theorem pe_mapRP {X : Cx} {e : Expr} {ta : TA} {te : TE} {j : Nat} (mono : ∀ σ H (Q Q' : List V → Hp → Prop), (∀ v H', Q v H' → Q' v H') → ta σ H Q → ta σ H Q')
    (h : PE X e (tLc (iRng1 ta) (gName j) tYes (tCut te) [j])) : PE X e (tMapRP j ta te) := by
  refine pe_imp h fun σ H Q q => ?_
  refine mono σ H _ _ ?_ q
  rintro vs H1 ⟨m, ys, Pv, rfl, h0, hm, hn, hp, he, k⟩
  exact ⟨m, rfl, by omega, by omega, map_coreRP (by omega) (by omega) hp he k⟩
end MG

namespace Lw
open PySem PySem.Spec PyProof.Rows L2 MG TL
section
variable {X : Addr → Prop}
variable {P : Program} {w : World} {K : PySem.W.Frag} {mg : Str → Option Value} {base : Heap} {C CI : Addr}
abbrev OddC (X : Addr → Prop) (P : Program) (w : World) (K : PySem.W.Frag) (mg : Str → Option Value) (base : Heap) (C : Addr) : Prop := CalG P w K mg base 9 "_law_odd" (spOdd X K C 3) []
/-! ### _law_strange -/
theorem Thing.parts {H H' : Hp} {x : V} {t : Str} {o : Option Rat} {n k j : Nat} (h : Thing K C H x t o n k) (s : Same H H') (hn : n ≤ 100000) (hj : k + 3 ≤ j) : ∃ as k', Shw K (ownR C) 2 H' as k' x t ∧ t.length ≤ sizeLine ∧ k' + 3 ≤ j := by
  obtain ⟨⟨as, k', h1, h2, h3⟩, h4, _⟩ := h
  exact ⟨as, k', shw_same h1 s, Nat.le_trans (Nat.le_trans h4 hn) (by decide), by omega⟩
def spStrange (X : Addr → Prop) : Sp := fun vs H Q _ => ∃ (q : Addr) (n : Nat), vs = [.ref q] ∧ QAt X H q n ∧ n + 20 ≤ 100000 ∧ ∀ H', Keep q H H' → QAt X H' q (n + 20) → Q (.bl true) H'
theorem sc__law_strange : FnScope ["_law_q", "_law_thing", "e"] ["_law_q"] (defScope s__law_strange) := ⟨rfl, rfl, rfl, by decide +kernel, rfl, by decide +kernel, by decide +kernel⟩
theorem ok_strange {f : Addr} {fd : FuncData} (F : Fun K "_law_strange" "_law_strange" s__law_strange f fd) (T : TxR K mg C) (x_num : XnC P w K mg base CI) (c_odd : OddC X P w K mg base C) (c_reads : ReadsC P w K mg base) (m_readX : ReadX P w K mg base C CI) (d_reprH : OwnH P w K mg base (ownR C) 2) : FnG P w K mg base CX0 24 f fd ["_law_q"] (spStrange X) := by
  refine fun_okG F sc__law_strange (fun vs H Q E h => ?_) (fun cdv A outer s H vs Q E bare hr h => ?_)
  · obtain ⟨q, n, rfl, _⟩ := h
    rfl
  · obtain ⟨q, n, rfl, hq, hn, k⟩ := h
    refine ⟨_, (pss_cons (ps_set (i := 1) sc__law_strange.nd rfl (Or.inl rfl) (pe_cg c_odd bare hr (by decide) rfl (pa_cons (pv 0) (pa_cons pe_int pa_nil))))
  (pss_cons (ps_if (pt_val (pe_callB (id := "isinstance") (call_isiK (K := K)) (by rfl) T.b_isinstance (by decide +kernel) (pa_cons (pv 1) (pa_cons (pe_bltn (v := V.ty "str") (u := Value.type "str") (by rfl) T.b_str (by decide +kernel) rfl) pa_nil)))) (pss_one (ps_ret (pe_cg c_reads bare hr (by decide) rfl (pa_cons (pv 1) pa_nil))))
  pss_nil)
  (pss_cons (ps_try_cut (i := 2) (Wout := fun _ _ _ _ => False) rfl rfl sc__law_strange.nd rfl rfl ⟨rfl, by decide, Or.inl x_num.g⟩ takesN0
  (fun W pn xe tk _ => (pss_one (ps_expr (pe_cmtX m_readX hr (by decide) tk (pe_glob (v := V.ref C) rfl T.g_Ratio rfl) (pa_cons (pv 1) pa_nil)))))
  (fun a oe cls d pn hz hf => (pss_one (ps_ret (pe_cmpR op_eq (pe_callB (id := "repr") (call_reprX (K := K) (own := ownR C) (j := 19) ((d_reprH).at (hot_of hz hf)) bare ((L2H.roomH_mark hr _).mono (by decide))) (by rfl) T.b_repr (by decide +kernel) (pa_cons (pe_xf (C := CI) x_num.xf x_num.no hz.zc hf (pv 2)) pa_nil)) (pe_callB (id := "repr") (call_reprX (K := K) (own := ownR C) (j := 19) ((d_reprH).at (hot_of hz hf)) bare ((L2H.roomH_mark hr _).mono (by decide))) (by rfl) T.b_repr (by decide +kernel) (pa_cons (pv 1) pa_nil)) (nomark _))))))
  (pss_one (ps_ret pe_bl))))), ?_⟩
    have e2 : tn 2 = 19 := rfl
    refine ⟨_, rfl, q, n, rfl, hq, by show n + 19 ≤ 100000; omega, fun x t o H1 k1 q1 h1 => ?_⟩
    have q1' : QAt X H1 q (n + 20) := QAt.le q1 (by show n + 19 ≤ n + 20; omega)
    rcases h1.st with ⟨z, rfl, az, lz⟩ | ⟨ty, tx, kx⟩
    · refine ⟨_, rfl, _, _, _, _, true, rfl, .ty "str", .base (.str z), kit_ty (by decide +kernel), _, rfl, iteT ?_⟩
      exact ⟨_, rfl, z, rfl, by omega, az, fun H2 s2 => k H2 (k1.same s2) (q1'.keep s2)⟩
    · have tx1 := MG.TyX.same tx (hid_same q H1)
      refine ⟨_, rfl, _, _, _, _, false, rfl, .ty "str", tx1, kx, _, rfl, iteF ?_⟩
      refine ⟨fun cls d σ' H' => cls = .ref CI ∧ σ' = [some (.ref q), some x, none] ∧ Same H1 H' ∧ ∃ dd, d = some dd ∧ H' dd = some (.xd [("given", x)]), ?_, ?_⟩
      · rintro cls d σ' H' ⟨rfl, rfl, s2, dd, rfl, ed⟩
        refine ⟨true, x_num.te, fun _ a ha => ?_, fun q => Bool.noConfusion q⟩
        obtain ⟨as, k', sh, ln, hk⟩ := h1.parts (j := 19) ((hid_same q H1).trans s2) (by show sz 2 ≤ 100000; decide) (by decide)
        refine ⟨_, rfl, rfl, rfl, dd, _, _, rfl, ed, by simp [List.lookup], x, as, k', t, rfl, sh, ln, hk, fun H2 s3 => ?_⟩
        obtain ⟨as, k', sh, ln, hk⟩ := h1.parts (j := 19) (((hid_same q H1).trans s2).trans s3) (by show sz 2 ≤ 100000; decide) (by decide)
        refine ⟨_, rfl, x, as, k', t, rfl, sh, ln, hk, fun H4 s4 => ⟨rfl, ?_⟩⟩
        rw [decide_eq_true rfl]
        exact k H4 (((k1.same s2).same s3).same s4) (((q1'.keep s2).keep s3).keep s4)
      · exact ⟨rfl, _, rfl, x, rfl, .inr ⟨ty, tx1, kx, fun d H' s' n ed => ⟨rfl, rfl, s', d, rfl, ed⟩⟩⟩
/-! ### _law_right -/
theorem asc_dg (p : Rat) : Asc (dg p) := by
  unfold dg
  split
  · exact asc_int _
  · exact asc_append (asc_append (asc_int _) (asc_of _ (by decide +kernel))) (asc_int _)
theorem int_le {i : Int} (h : i.natAbs < 10 ^ 18) : (Str.ofString (toString i)).length ≤ 65 := by
  rw [PySem.ofString_length]
  exact Nat.le_trans (int_text_length_le (k := 64) (by decide) (Nat.lt_of_lt_of_le (PySem.Flt.log2_lt_of (k := 64) (by decide) (Nat.lt_of_lt_of_le h (by decide))) (by decide))) (by decide)
theorem dg_le {p : Rat} (b : Bd p 18) : (dg p).length ≤ 140 := by
  have h1 := int_le b.1
  have h2 := int_le (i := (p.den : Int)) b.2
  unfold dg
  split
  · omega
  · rw [strLen_append, strLen_append]
    have e : (Str.ofString "/").length = 1 := rfl
    omega
def farl : List Int := [3, 20, 10 ^ Int.toNat 6, 10 ^ Int.toNat 14]
theorem farl_ok : ∀ z ∈ farl, 3 ≤ z ∧ z ≤ 10 ^ 14 := by decide +kernel
/-- texts to be read -/
def Good (ls : List Str) : Prop := ∀ s ∈ ls, Asc s ∧ s.length ≤ 300
def spRight : Sp := fun vs H Q _ => ∃ (q : Addr), vs = [.ref q] ∧ QAt (fun _ => False) H q 0 ∧ ∀ H', Keep q H H' → Q (.bl true) H'
theorem Keep.at_new {q l : Addr} {H H' : Hp} {o : HO} (k : Keep q H H') (hl : H l = none) : Keep q H (upd H' l o) := fun b u e n => by
  rw [upd_ne (ne_of_none e hl)]
  exact k b u e n
theorem QAt.at_ne {H : Hp} {q l : Addr} {n : Nat} {o u : HO} (h : QAt (fun _ => False) H q n) (hl : l ≠ q) (ho : H l = some u) (hu : ∀ ns : List Int, u ≠ .lst (ns.map V.int)) : QAt (fun _ => False) (upd H l o) q n := by
  obtain ⟨c, ns, i, r, t, hq, hc, h⟩ := h
  refine ⟨c, ns, i, r, t, by rw [upd_ne (Ne.symm hl)]; exact hq, ?_, h⟩
  rw [upd_ne (fun e => ?_)]
  · exact hc
  · rw [e, ho] at hc
    exact hu ns (Option.some.inj hc)
theorem strs_ne {ls : List Str} (h : ls ≠ []) : ∀ ns : List Int, HO.lst (ls.map V.str) ≠ .lst (ns.map V.int) := fun ns e => by
  cases ls with
  | nil => exact h rfl
  | cons a l =>
    cases ns with
    | nil => cases HO.lst.inj e
    | cons b m => cases HO.lst.inj e
theorem sc__law_right : FnScope ["_law_q", "_law_far", "_law_high", "_law_under", "_law_string", "_law_more", "_law_strings", "_law_turn", "_law_spoiled", "_law_again", "_law_thing"] ["_law_q"] (defScope s__law_right) := ⟨rfl, rfl, rfl, by decide +kernel, rfl, by decide +kernel, by decide +kernel⟩
theorem ok_right {f : Addr} {fd : FuncData} (F : Fun K "_law_right" "_law_right" s__law_right f fd) (T : Blt mg) (c_draw : DrawC (fun _ => False) P w K mg base) (c_lowest : LowC P w K mg base) (c_digits : DigitsC P w K mg base) (c_spoiled : SpoilC (fun _ => False) P w K mg base) (c_reads : ReadsC P w K mg base) : FnG P w K mg base CX0 24 f fd ["_law_q"] spRight := by
  refine fun_okG F sc__law_right (fun vs H Q E h => ?_) (fun cdv A outer s H vs Q E bare hr h => ?_)
  · obtain ⟨q, rfl, _⟩ := h
    rfl
  · obtain ⟨q, rfl, hq, k⟩ := h
    refine ⟨_, (pss_cons (ps_set (i := 1) sc__law_right.nd rfl (Or.inl rfl) (pe_ix (ix_listK (K := K)) (pe_lst (pa_cons pe_int (pa_cons pe_int (pa_cons (pe_op op_pow pe_int pe_int) (pa_cons (pe_op op_pow pe_int pe_int) pa_nil))))) (pe_cg c_draw bare hr (by decide) rfl (pa_cons (pv 0) (pa_cons pe_int pa_nil))) (fun _ _ => rfl)))
  (pss_cons (ps_set (i := 2) sc__law_right.nd rfl (Or.inl rfl) (pe_op op_mulW (pe_ix (ix_listK (K := K)) (pe_lst (pa_cons pe_int (pa_cons (pe_un un_neg pe_int) pa_nil))) (pe_cg c_draw bare hr (by decide) rfl (pa_cons (pv 0) (pa_cons pe_int pa_nil))) (fun _ _ => rfl)) (pe_op op_add (pe_op op_mulW (pe_cg c_draw bare hr (by decide) rfl (pa_cons (pv 0) (pa_cons pe_int pa_nil))) (pe_op op_fdivZ (pv 1) pe_int)) (pe_cg c_draw bare hr (by decide) rfl (pa_cons (pv 0) (pa_cons pe_int pa_nil))))))
  (pss_cons (ps_cut (ps_set (i := 3) sc__law_right.nd rfl (Or.inl rfl) (pe_op op_add (pe_op op_add pe_int (pe_op op_mulW (pe_cg c_draw bare hr (by decide) rfl (pa_cons (pv 0) (pa_cons pe_int pa_nil))) (pe_op op_fdivZ (pv 1) pe_int))) (pe_cg c_draw bare hr (by decide) rfl (pa_cons (pv 0) (pa_cons pe_int pa_nil))))))
  (pss_cons (ps_cut (ps_set (i := 4) sc__law_right.nd rfl (Or.inl rfl) (pe_cg c_digits bare hr (by decide) rfl (pa_cons (pe_cg c_lowest bare hr (by decide) rfl (pa_cons (pv 2) (pa_cons (pv 3) pa_nil))) pa_nil))))
  (pss_cons (ps_set (i := 5) sc__law_right.nd rfl (Or.inl rfl) (pe_op op_add pe_int (pe_cg c_draw bare hr (by decide) rfl (pa_cons (pv 0) (pa_cons pe_int pa_nil)))))
  (pss_cons (ps_set (i := 6) sc__law_right.nd rfl (Or.inl rfl) (pe_lst (pa_cons (pv 4) (pa_cons (pe_op op_add_str (pe_op op_add_str (pe_callTy call_str_int (by rfl) T.b_str (by decide +kernel) (pa_cons (pv 2) pa_nil)) pe_str) (pe_callTy call_str_int (by rfl) T.b_str (by decide +kernel) (pa_cons (pv 3) pa_nil))) (pa_cons (pe_op op_add_str (pe_op op_add_str (pe_callTy call_str_int (by rfl) T.b_str (by decide +kernel) (pa_cons (pe_op op_mulW (pv 2) (pv 5)) pa_nil)) pe_str) (pe_callTy call_str_int (by rfl) T.b_str (by decide +kernel) (pa_cons (pe_op op_mulW (pv 3) (pv 5)) pa_nil))) (pa_cons (pe_op op_add_str (pv 4) pe_str) pa_nil))))))
  (pss_cons (ps_cut (ps_set (i := 6) sc__law_right.nd rfl (Or.inl rfl) (pe_op op_cat (pv 6) (pe_lst (pa_cons (pe_op op_add_str pe_str (pv 4)) (pa_cons (pe_op op_add_str pe_str (pv 4)) (pa_cons (pe_op op_add_str (pe_op op_add_str (pv 4) pe_str) (pe_callTy call_str_int (by rfl) T.b_str (by decide +kernel) (pa_cons (pv 3) pa_nil))) (pa_cons (pe_op op_add_str (pe_op op_add_str (pe_callTy call_str_int (by rfl) T.b_str (by decide +kernel) (pa_cons (pv 3) pa_nil)) pe_str) (pe_callTy call_str_int (by rfl) T.b_str (by decide +kernel) (pa_cons (pv 2) pa_nil))) pa_nil))))))))
  (pss_cons (ps_for PassesOwn.never rfl (pi_range1 (by rfl) T.b_range (pa_cons pe_int pa_nil)) (pg_name (i := 7) sc__law_right.nd rfl (Or.inl rfl))
  (pss_cons (ps_set (i := 8) sc__law_right.nd rfl (Or.inl rfl) (pv 4))
  (pss_cons (ps_for PassesOwn.never rfl (pi_range1 (by rfl) T.b_range (pa_cons (pe_op op_add pe_int (pe_cg c_draw bare hr (by decide) rfl (pa_cons (pv 0) (pa_cons pe_int pa_nil)))) pa_nil)) (pg_name (i := 9) sc__law_right.nd rfl (Or.inl rfl))
  (pss_one (ps_set (i := 8) sc__law_right.nd rfl (Or.inl rfl) (pe_cg c_spoiled bare hr (by decide) rfl (pa_cons (pv 0) (pa_cons (pv 8) pa_nil))))))
  (pss_one (ps_expr (pe_bm PySem.F.plainAttrs_list PySem.F.slot_list_append PySem.F.type_list_append mt_append (pv 6) (pa_cons (pv 8) pa_nil)))))))
  (pss_one (ps_ret (pe_callB (id := "all") (cr_all rfl) (by rfl) T.b_all (by decide +kernel) (pa_cons (pe_map (K := K) (j := 10) (pe_lc (own := [("_law_thing", 10)]) (g := gName 10) (tt := tYes) rfl sc__law_right.nd (pi_list (pe_cut (pv 6))) (blkOk_by (N := ["_law_q", "_law_far", "_law_high", "_law_under", "_law_string", "_law_more", "_law_strings", "_law_turn", "_law_spoiled", "_law_again", "_law_thing"]) (sc := defScope s__law_right) (by decide +kernel)) (fun _ _ _ _ _ => (pg_name (i := 10) sc__law_right.nd rfl (Or.inl rfl))) (fun _ _ _ _ _ => pts_nil) (fun _ _ _ _ _ => (pe_cut (pe_cg c_reads bare hr (by decide) rfl (pa_cons (pv 10) pa_nil)))))) pa_nil)))))))))))), ?_⟩
    have q0 := hq
    -- far, high, under
    refine ⟨_, _, rfl, rfl, ⟨by decide, by decide, by decide⟩, _, _, rfl, rfl, ⟨by decide, by decide, by decide⟩, by show 4 ≤ sizeLine; decide, fun p hp => ?_⟩
    refine ⟨_, rfl, q, 4, 0, rfl, hq.new hp, by omega, by decide, by decide, fun r H1 r0 r1 k1 q1 => ?_⟩
    obtain ⟨fa, hfa, efa⟩ := at_ints (l := farl) r0 (by show r < 4; exact r1)
    obtain ⟨fa0, fa1⟩ := farl_ok fa hfa
    refine ⟨p, _, _, _, rfl, rfl, SqL.of (k1 _ _ upd_same (hq.ne hp)), efa, ?_⟩
    have d0 := fdiv_ge (x := fa) (m := 20) (by omega) (by decide)
    have d1 := fdiv_le (x := fa) (m := 20) (by omega) (by decide)
    have st : ∀ z : Int, 0 ≤ z → z ≤ 10 ^ 17 → Sm z := fun z h0 h1 => sm_lt (k := 18) (by decide) (by omega) (by omega)
    refine ⟨_, rfl, by show 2 ≤ sizeLine; decide, fun p2 hp2 => ?_⟩
    refine ⟨_, rfl, q, 2, 1, rfl, q1.new hp2, by omega, by decide, by decide, fun r2 H2 r20 r21 k2 q2 => ?_⟩
    obtain ⟨e, he, ee⟩ := at_ints (l := [1, -1]) r20 (by show r2 < 2; exact r21)
    have he' := signs_ok e he
    refine ⟨p2, _, _, _, rfl, rfl, SqL.of (k2 _ _ upd_same (q1.ne hp2)), ee, ?_⟩
    refine ⟨_, rfl, q, 60, 2, rfl, q2, by omega, by decide, by decide, fun r3 H3 r30 r31 k3 q3 => ?_⟩
    have p0 : 0 ≤ r3 * fa.fdiv 20 := Int.mul_nonneg r30 d0
    have p1 : r3 * fa.fdiv 20 ≤ 60 * 10 ^ 14 := Int.mul_le_mul (by omega) (by omega) (by omega) (by omega)
    refine ⟨_, rfl, _, _, rfl, rfl, ⟨by decide, by decide⟩, _, _, rfl, rfl, sm_mul (st _ (by omega) (by omega)) (st _ (by omega) (by omega)), ?_⟩
    refine ⟨_, rfl, q, 40, 3, rfl, q3, by omega, by decide, by decide, fun r4 H4 r40 r41 k4 q4 => ?_⟩
    refine ⟨_, _, rfl, rfl, _, _, rfl, rfl, sm_mul (sm_lt (k := 3) (by decide) (by omega) (by omega)) (st _ (by omega) (by omega)), ?_⟩
    have kk : Keep q H H4 := ((Keep.refl.new hp).trans k1).trans (((Keep.refl.new hp2).trans k2).trans (k3.trans k4))
    refine ⟨fun σ' H' => ∃ fa hi un : Int, σ' = [some (.ref q), some (.int fa), some (.int hi), some (.int un), none, none, none, none, none, none, none] ∧ Keep q H H' ∧ QAt (fun _ => False) H' q 6 ∧ hi.natAbs < 10 ^ 16 ∧ 1 ≤ un ∧ un < 10 ^ 16, ?_, ?_⟩
    · refine ⟨_, rfl, q, 40, 4, rfl, q4, by omega, by decide, by decide, fun r5 H5 r50 r51 k5 q5 => ?_⟩
      have g0 : 0 ≤ r5 * fa.fdiv 20 := Int.mul_nonneg r50 d0
      have g1 : r5 * fa.fdiv 20 ≤ 40 * 10 ^ 14 := Int.mul_le_mul (by omega) (by omega) (by omega) (by omega)
      refine ⟨_, rfl, _, _, rfl, rfl, ⟨by decide, by decide⟩, _, _, rfl, rfl, sm_mul (st _ (by omega) (by omega)) (st _ (by omega) (by omega)), _, _, rfl, rfl, ?_⟩
      refine ⟨_, rfl, q, 5, 5, rfl, q5, by omega, by decide, by decide, fun r6 H6 r60 r61 k6 q6 => ?_⟩
      refine ⟨_, _, rfl, rfl, fa, _, _, rfl, (kk.trans k5).trans k6, q6, ?_, ?_, ?_⟩
      · generalize r3 * fa.fdiv 20 = g at *
        rcases he' with rfl | rfl <;> omega
      · omega
      · omega
    clear p0 p1 d0 d1 efa hfa fa0 fa1 ee he
    rintro σ' H6 ⟨fa, hi, un, rfl, k6, q6, bhi, un0, un1⟩
    have hun : un ≠ 0 := by omega
    have bun : un.natAbs < 10 ^ 16 := by omega
    have shi : Sm hi := smI bhi (by decide)
    have sun : Sm un := smI bun (by decide)
    -- string = digits(lowest(high, under))
    refine ⟨fun σ' H' => ∃ s : Str, σ' = [some (.ref q), some (.int fa), some (.int hi), some (.int un), some (.str s), none, none, none, none, none, none] ∧ Keep q H H' ∧ QAt (fun _ => False) H' q 6 ∧ Asc s ∧ s.length ≤ 140, ?_, ?_⟩
    · refine ⟨_, rfl, _, rfl, hi, un, rfl, hun, sun, fun t ht => ?_⟩
      have bp : Bd (Rat.divInt hi un) 18 := (bd_div hun bhi bun).mono (by decide)
      exact ⟨t, Rat.divInt hi un, rfl, SqT.of upd_same, bp.num (by decide), bp.den (by decide), _, rfl, k6.new ht, q6.new ht, asc_dg _, dg_le bp⟩
    rintro σ' H7 ⟨s, rfl, k7, q7, as, ls⟩
    -- more = 1 + draw(q, 5)
    refine ⟨_, rfl, q, 5, 6, rfl, q7, by omega, by decide, by decide, fun mo H8 mo0 mo1 k8 q8 => ?_⟩
    refine ⟨_, _, rfl, rfl, ?_⟩
    have k08 := k7.trans k8
    have m1 : (hi * (1 + mo)).natAbs < 10 ^ 18 := by
      rw [Int.natAbs_mul]
      have h1 : (1 + mo).natAbs ≤ 10 := by omega
      have h2 : hi.natAbs * (1 + mo).natAbs ≤ 10 ^ 16 * 10 := Nat.mul_le_mul (by omega) h1
      omega
    have m2 : (un * (1 + mo)).natAbs < 10 ^ 18 := by
      rw [Int.natAbs_mul]
      have h1 : (1 + mo).natAbs ≤ 10 := by omega
      have h2 : un.natAbs * (1 + mo).natAbs ≤ 10 ^ 16 * 10 := Nat.mul_le_mul (by omega) h1
      omega
    have smo : Sm (1 + mo) := sm_lt (k := 2) (by decide) (by omega) (by omega)
    have a1 := int_le (i := hi) (by omega)
    have a2 := int_le (i := un) (by omega)
    have a3 := int_le m1
    have a4 := int_le m2
    have z1 : (Str.ofString "/").length = 1 := rfl
    have z2 : (Str.ofString "/1").length = 2 := rfl
    have z3 : (Str.ofString "-").length = 1 := rfl
    have z4 : (Str.ofString "0").length = 1 := rfl
    have le3 : ∀ {n : Nat}, n ≤ 300 → n ≤ sizeLine := fun h => Nat.le_trans h (by decide)
    -- strings = [..]
    refine ⟨_, rfl, _, rfl, _, rfl, log_sm shi, _, _, rfl, rfl, le3 (by omega), _, rfl, _, rfl, log_sm sun, _, _, rfl, rfl, le3 (by rw [strLen_append]; omega), ?_⟩
    refine ⟨_, rfl, _, rfl, _, _, rfl, rfl, sm_mul shi smo, _, rfl, log_sm (smI m1 (by decide)), _, _, rfl, rfl, le3 (by omega), ?_⟩
    refine ⟨_, rfl, _, rfl, _, _, rfl, rfl, sm_mul sun smo, _, rfl, log_sm (smI m2 (by decide)), _, _, rfl, rfl, le3 (by rw [strLen_append]; omega), ?_⟩
    refine ⟨_, rfl, _, _, rfl, rfl, le3 (by omega), by show 4 ≤ sizeLine; decide, fun l1 hl1 => ?_⟩
    have asl : Asc (Str.ofString "/") := asc_of _ (by decide +kernel)
    have good1 : Good [s, Str.ofString (toString hi) ++ Str.ofString "/" ++ Str.ofString (toString un), Str.ofString (toString (hi * (1 + mo))) ++ Str.ofString "/" ++ Str.ofString (toString (un * (1 + mo))), s ++ Str.ofString "/1"] := by
      intro x hx
      simp only [List.mem_cons, List.not_mem_nil, or_false] at hx
      rcases hx with rfl | rfl | rfl | rfl
      · exact ⟨as, by omega⟩
      · exact ⟨asc_append (asc_append (asc_int _) asl) (asc_int _), by rw [strLen_append, strLen_append]; omega⟩
      · exact ⟨asc_append (asc_append (asc_int _) asl) (asc_int _), by rw [strLen_append, strLen_append]; omega⟩
      · exact ⟨asc_append as (asc_of _ (by decide +kernel)), by rw [strLen_append]; omega⟩
    have el1 : (upd H8 l1 (.lst (List.map V.str [s, Str.ofString (toString hi) ++ Str.ofString "/" ++ Str.ofString (toString un), Str.ofString (toString (hi * (1 + mo))) ++ Str.ofString "/" ++ Str.ofString (toString (un * (1 + mo))), s ++ Str.ofString "/1"]))) l1 = some (.lst (List.map V.str [s, Str.ofString (toString hi) ++ Str.ofString "/" ++ Str.ofString (toString un), Str.ofString (toString (hi * (1 + mo))) ++ Str.ofString "/" ++ Str.ofString (toString (un * (1 + mo))), s ++ Str.ofString "/1"])) := upd_same
    have s8 : Same H8 (upd H8 l1 (.lst (List.map V.str [s, Str.ofString (toString hi) ++ Str.ofString "/" ++ Str.ofString (toString un), Str.ofString (toString (hi * (1 + mo))) ++ Str.ofString "/" ++ Str.ofString (toString (un * (1 + mo))), s ++ Str.ofString "/1"]))) := MG.Same.new (Same.refl H8) hl1
    have good2 : Good [Str.ofString "-" ++ s, Str.ofString "0" ++ s, s ++ Str.ofString "/" ++ Str.ofString (toString un), Str.ofString (toString un) ++ Str.ofString "/" ++ Str.ofString (toString hi)] := by
      intro x hx
      simp only [List.mem_cons, List.not_mem_nil, or_false] at hx
      rcases hx with rfl | rfl | rfl | rfl
      · exact ⟨asc_append (asc_of _ (by decide +kernel)) as, by rw [strLen_append]; omega⟩
      · exact ⟨asc_append (asc_of _ (by decide +kernel)) as, by rw [strLen_append]; omega⟩
      · exact ⟨asc_append (asc_append as asl) (asc_int _), by rw [strLen_append, strLen_append]; omega⟩
      · exact ⟨asc_append (asc_append (asc_int _) asl) (asc_int _), by rw [strLen_append, strLen_append]; omega⟩
    -- strings = strings + [..]
    refine ⟨fun σ' H' => ∃ (l : Addr) (ls : List Str), σ' = [some (.ref q), some (.int fa), some (.int hi), some (.int un), some (.str s), some (.int (1 + mo)), some (.ref l), none, none, none, none] ∧ Keep q H H' ∧ QAt (fun _ => False) H' q 7 ∧ Good ls ∧ ls ≠ [] ∧ ls.length ≤ 8 ∧ H' l = some (.lst (ls.map V.str)) ∧ l ≠ q ∧ H l = none, ?_, ?_⟩
    · change tAsg _ _ _ _ (upd H8 l1 (.lst (List.map V.str [s, Str.ofString (toString hi) ++ Str.ofString "/" ++ Str.ofString (toString un), Str.ofString (toString (hi * (1 + mo))) ++ Str.ofString "/" ++ Str.ofString (toString (un * (1 + mo))), s ++ Str.ofString "/1"])))
      generalize hg : List.map V.str [s, Str.ofString (toString hi) ++ Str.ofString "/" ++ Str.ofString (toString un), Str.ofString (toString (hi * (1 + mo))) ++ Str.ofString "/" ++ Str.ofString (toString (un * (1 + mo))), s ++ Str.ofString "/1"] = L1 at *
      have k9 := k08.same s8
      have q9 := q8.keep s8
      generalize upd H8 l1 (.lst L1) = H9 at *
      refine ⟨_, rfl, _, rfl, _, _, rfl, rfl, le3 (by omega), _, rfl, _, _, rfl, rfl, le3 (by omega), ?_⟩
      refine ⟨_, rfl, _, _, rfl, rfl, le3 (by omega), _, rfl, _, rfl, log_sm sun, _, _, rfl, rfl, le3 (by rw [strLen_append]; omega), ?_⟩
      refine ⟨_, rfl, _, rfl, log_sm sun, _, _, rfl, rfl, le3 (by omega), _, rfl, _, rfl, log_sm shi, _, _, rfl, rfl, le3 (by rw [strLen_append]; omega), by show 4 ≤ sizeLine; decide, fun l2 hl2 => ?_⟩
      have n12 : l1 ≠ l2 := ne_of_none el1 hl2
      have hlen : L1.length = 4 := by rw [← hg]; rfl
      refine ⟨l1, l2, _, _, rfl, rfl, by rw [upd_ne n12]; exact el1, upd_same, ?_, fun l hl => ?_⟩
      · rw [hlen]
        show 4 + 4 ≤ sizeLine
        decide
      have q10 := q9.new (o := .lst [.str (Str.ofString "-" ++ s), .str (Str.ofString "0" ++ s), .str (s ++ Str.ofString "/" ++ Str.ofString (toString un)), .str (Str.ofString (toString un) ++ Str.ofString "/" ++ Str.ofString (toString hi))]) hl2
      have k10 := k9.new (o := .lst [.str (Str.ofString "-" ++ s), .str (Str.ofString "0" ++ s), .str (s ++ Str.ofString "/" ++ Str.ofString (toString un)), .str (Str.ofString (toString un) ++ Str.ofString "/" ++ Str.ofString (toString hi))]) hl2
      refine ⟨l, [s, Str.ofString (toString hi) ++ Str.ofString "/" ++ Str.ofString (toString un), Str.ofString (toString (hi * (1 + mo))) ++ Str.ofString "/" ++ Str.ofString (toString (un * (1 + mo))), s ++ Str.ofString "/1"] ++ [Str.ofString "-" ++ s, Str.ofString "0" ++ s, s ++ Str.ofString "/" ++ Str.ofString (toString un), Str.ofString (toString un) ++ Str.ofString "/" ++ Str.ofString (toString hi)], rfl, k10.new hl, q10.new hl, ?_, by simp, by simp, ?_, q10.ne hl, k10.free (q10.ne hl) hl⟩
      · intro x hx
        rcases List.mem_append.mp hx with hx | hx
        · exact good1 x hx
        · exact good2 x hx
      · rw [upd_same, List.map_append, hg]
        rfl
    rintro σ' H9 ⟨l, ls, rfl, k9, q9, gls, lne, llen, el, nlq, hl0⟩
    clear good1 good2 el1 s8 m1 m2 a1 a2 a3 a4
    -- for turn in range(6)
    refine ⟨_, rfl, by decide, by decide, for_range (lo := 0) (n := 6) (fun i σ H' => ∃ (ls : List Str) (v7 v8 v9 : Option V), σ = [some (.ref q), some (.int fa), some (.int hi), some (.int un), some (.str s), some (.int (1 + mo)), some (.ref l), v7, v8, v9, none] ∧ Keep q H H' ∧ QAt (fun _ => False) H' q (7 + 20 * i) ∧ Good ls ∧ ls ≠ [] ∧ ls.length ≤ 8 + i ∧ H' l = some (.lst (ls.map V.str))) ⟨ls, none, none, none, rfl, k9, q9, gls, lne, llen, el⟩ ?_ ?_⟩
    · rintro i σ Ha hi6 ⟨ls, v7, v8, v9, rfl, ka, qa, gls, lne, llen, el⟩
      -- spoiled = string; for again in range(1 + draw(q, 3))
      refine ⟨_, rfl, _, rfl, q, 3, 7 + 20 * i, rfl, qa, by omega, by decide, by decide, fun r Hb r0 r1 kb qb => ?_⟩
      refine ⟨_, _, rfl, rfl, _, rfl, by omega, by omega, ?_⟩
      have el2 := kb _ _ el nlq
      have kab := ka.trans kb
      refine for_range (lo := 0) (n := ((1 : Int) + r).toNat) (fun j σ H' => ∃ (sp : Str) (v9 : Option V), σ = [some (.ref q), some (.int fa), some (.int hi), some (.int un), some (.str s), some (.int (1 + mo)), some (.ref l), some (.int (0 + i)), some (.str sp), v9, none] ∧ Keep q H H' ∧ QAt (fun _ => False) H' q (8 + 20 * i + 4 * j) ∧ Asc sp ∧ sp.length ≤ 140 + 4 * j ∧ H' l = some (.lst (ls.map V.str))) ⟨s, v9, rfl, kab, QAt.le qb (by omega), as, by omega, el2⟩ ?_ ?_
      · rintro j σ Hc hj ⟨sp, v9, rfl, kc, qc, ac, lc, elc⟩
        refine ⟨_, rfl, _, rfl, q, sp, _, rfl, qc, by omega, ac, by omega, fun sp2 Hd ad ld kd qd => ?_⟩
        exact ⟨sp2, _, rfl, kc.trans kd, QAt.le qd (by omega), ad, by omega, kd _ _ elc nlq⟩
      · rintro σ Hc ⟨sp, v9, rfl, kc, qc, ac, lc, elc⟩
        refine ⟨_, rfl, .inl ⟨rfl, _, SqL.of elc⟩, _, rfl, l, _, _, rfl, rfl, elc, ?_, ?_⟩
        · rw [List.length_map]
          exact Nat.lt_of_le_of_lt (m := 100) (by omega) (by decide)
        · refine ⟨ls ++ [sp], _, _, _, rfl, Keep.at_new kc hl0, QAt.le (QAt.at_ne qc nlq elc (strs_ne lne)) (by omega), ?_, by simp, by simp; omega, ?_⟩
          · intro x hx
            rcases List.mem_append.mp hx with hx | hx
            · exact gls x hx
            · rw [List.mem_singleton.mp hx]
              exact ⟨ac, by omega⟩
          · rw [upd_same, List.map_append]
            rfl
    · rintro σ Ha ⟨ls, v7, v8, v9, rfl, ka, qa, gls, lne, llen, el⟩
      -- return all([reads(thing) for thing in strings])
      refine ⟨_, rfl, l, ls.map V.str, List.replicate ls.length (.bl true), rfl, SqL.of el, by simp, by rw [List.length_map]; omega, ?_, fun D Hb s2 hD e2 => ?_⟩
      · intro j x y Hb hx hy s2
        rw [List.getElem?_map] at hx
        cases e : ls[j]? with
        | none => rw [e] at hx; cases hx
        | some z =>
          rw [e] at hx
          obtain rfl := (Option.some.inj hx).symm
          obtain ⟨az, lz⟩ := gls z (List.mem_of_getElem? e)
          have hy' : y = V.bl true := by
            rw [List.getElem?_replicate] at hy
            split at hy
            · exact (Option.some.inj hy).symm
            · cases hy
          subst hy'
          exact ⟨_, rfl, z, rfl, lz, az, fun Hc s3 => ⟨rfl, s3⟩⟩
      · refine ⟨D, List.replicate ls.length true, rfl, SqL.of (by rw [e2, List.map_replicate]), ?_⟩
        have e3 : (List.replicate ls.length true).all id = true := by simp
        rw [e3]
        exact k _ (ka.same s2)
abbrev RightC (P : Program) (w : World) (K : PySem.W.Frag) (mg : Str → Option Value) (base : Heap) : Prop := CalG P w K mg base 24 "_law_right" spRight []
end
end Lw

namespace Lw
open PySem PySem.Spec PyProof.Rows L2 MG TL
section
variable {P : Program} {w : World} {K : PySem.W.Frag} {mg : Str → Option Value} {base : Heap} {C CI : Addr}
abbrev FromC (P : Program) (w : World) (K : PySem.W.Frag) (mg : Str → Option Value) (base : Heap) : Prop := CalG P w K mg base 4 "_law_from" (spFrom K) []
def spLaw (K : PySem.W.Frag) : Sp := fun vs H Q _ => ∃ (a : Addr) (ns : List Int), vs = [.ref a] ∧ SqL K H a (ns.map V.int) ∧ ns.length ≤ 63 ∧ ∀ H', Q (.bl true) H'
theorem rep_get {α : Type} {n i : Nat} {a y : α} (h : (List.replicate n a)[i]? = some y) : y = a ∧ i < n := by
  rw [List.getElem?_replicate] at h
  split at h
  · rename_i hi
    exact ⟨(Option.some.inj h).symm, hi⟩
  · cases h
/-- a strange one, whatever ghost -/
def spStr1 : Sp := fun vs H Q E => ∃ X, spStrange X vs H Q E
abbrev StrangeC (P : Program) (w : World) (K : PySem.W.Frag) (mg : Str → Option Value) (base : Heap) : Prop := CalG P w K mg base 24 "_law_strange" spStr1 []
theorem strange_all {f : Addr} {fd : FuncData} {ps : List Str} (h : ∀ X, FnG P w K mg base CX0 24 f fd ps (spStrange X)) : FnG P w K mg base CX0 24 f fd ps spStr1 :=
  ⟨fun vs H Q E ⟨X, s⟩ => (h X).len vs H Q E s, fun A outer s H args us vs Q E bare hr e0 b r ⟨X, sp⟩ => (h X).run A outer s H args us vs Q E bare hr e0 b r sp⟩
theorem QAt.ghost {H : Hp} {q D : Addr} {n : Nat} {o : HO} (h : QAt (fun _ => False) H q n) (hD : H D = none) : QAt (fun c => c = D) (upd H D o) q n := by
  obtain ⟨c, ns, i, r, t, hq, hc, hz, hl, h⟩ := h
  have n1 := ne_of_none hq hD
  have n2 := ne_of_none hc hD
  exact ⟨c, ns, i, r, t, by rw [upd_ne n1]; exact hq, by rw [upd_ne n2]; exact hc, hz, ⟨hl.1, n2⟩, h⟩
theorem QAt.updX {H : Hp} {q D : Addr} {n : Nat} {o : HO} (h : QAt (fun c => c = D) H q n) (hD : D ≠ q) : QAt (fun c => c = D) (upd H D o) q n := by
  obtain ⟨c, ns, i, r, t, hq, hc, hz, hl, h⟩ := h
  exact ⟨c, ns, i, r, t, by rw [upd_ne (Ne.symm hD)]; exact hq, by rw [upd_ne hl.2]; exact hc, hz, hl, h⟩
def lits : List Str := (["", "-", "/", "0", "-0", "0/1", "00", "1/0", "1/1", "2/4", "-1/2", "1/-2", "+1", " 1", "1 "] : List Str) ++ (["1/2/3", "1/02", "01/2", "-/2", "3/"] : List Str)
theorem lits_ok : ∀ s ∈ lits, Asc s ∧ s.length ≤ 300 := by
  intro s hs
  simp only [lits, List.cons_append, List.nil_append, List.mem_cons, List.not_mem_nil, or_false] at hs
  rcases hs with rfl | rfl | rfl | rfl | rfl | rfl | rfl | rfl | rfl | rfl | rfl | rfl | rfl | rfl | rfl | rfl | rfl | rfl | rfl | rfl <;> exact ⟨asc_of _ (by decide +kernel), by decide +kernel⟩
theorem ps_len {i : Nat} {x : V} (h : (lits.map V.str)[i]? = some x) : ∃ s, x = .str s ∧ Asc s ∧ s.length ≤ 300 := by
  rw [List.getElem?_map] at h
  cases e : lits[i]? with
  | none => rw [e] at h; cases h
  | some s =>
    rw [e] at h
    obtain ⟨a, b⟩ := lits_ok s (List.mem_of_getElem? e)
    exact ⟨s, (Option.some.inj h).symm, a, b⟩
theorem sc_law : FnScope ["_law_script", "_law_some", "_law_q", "_law_string", "_law_k", "_law_turn"] ["_law_script"] (defScope s_law) := ⟨rfl, rfl, rfl, by decide +kernel, rfl, by decide +kernel, by decide +kernel⟩
theorem ok_law {f : Addr} {fd : FuncData} (F : Fun K "law" "law" s_law f fd) (T : Blt mg) (c_reads : ReadsC P w K mg base) (c_right : RightC P w K mg base) (c_from : FromC P w K mg base) (c_purse : PurseC P w K mg base) (c_strange : StrangeC P w K mg base) : FnG P w K mg base CX0 26 f fd ["_law_script"] (spLaw K) := by
  refine fun_okG F sc_law (fun vs H Q E h => ?_) (fun cdv A outer s H vs Q E bare hr h => ?_)
  · obtain ⟨a, ns, rfl, _⟩ := h
    rfl
  · obtain ⟨a, ns, rfl, hS, hl, k⟩ := h
    refine ⟨_, (pss_cons (ps_set (i := 1) sc_law.nd rfl (Or.inl rfl) (pe_lst (pa_cons pe_str (pa_cons pe_str (pa_cons pe_str (pa_cons pe_str (pa_cons pe_str (pa_cons pe_str (pa_cons pe_str (pa_cons pe_str (pa_cons pe_str (pa_cons pe_str (pa_cons pe_str (pa_cons pe_str (pa_cons pe_str (pa_cons pe_str (pa_cons pe_str pa_nil)))))))))))))))))
  (pss_cons (ps_if (pt_not (pt_val (pe_callB (id := "all") (cr_all rfl) (by rfl) T.b_all (by decide +kernel) (pa_cons (pe_map (K := K) (j := 3) (pe_lc (own := [("_law_string", 3)]) (g := gName 3) (tt := tYes) rfl sc_law.nd (pi_list (pe_cut (pe_op op_cat (pv 1) (pe_lst (pa_cons pe_str (pa_cons pe_str (pa_cons pe_str (pa_cons pe_str (pa_cons pe_str pa_nil))))))))) (blkOk_by (N := ["_law_script", "_law_some", "_law_q", "_law_string", "_law_k", "_law_turn"]) (sc := defScope s_law) (by decide +kernel)) (fun _ _ _ _ _ => (pg_name (i := 3) sc_law.nd rfl (Or.inl rfl))) (fun _ _ _ _ _ => pts_nil) (fun _ _ _ _ _ => (pe_cut (pe_cg c_reads bare hr (by decide) rfl (pa_cons (pv 3) pa_nil)))))) pa_nil)))) (pss_one (ps_ret pe_bl))
  pss_nil)
  (pss_cons (ps_if (pt_not (pt_val (pe_callB (id := "all") (cr_all rfl) (by rfl) T.b_all (by decide +kernel) (pa_cons (pe_mapR (j := 4) (fun σ H Q Q' hq ⟨v, e, p, ys, e1, o, i, j, e2, i2, j2, e3, q⟩ => ⟨v, e, p, ys, e1, o, i, j, e2, i2, j2, e3, hq _ _ q⟩) (pe_lc (own := [("_law_k", 4)]) (g := gName 4) (tt := tYes) rfl sc_law.nd (pi_range1 (by rfl) T.b_range (pa_cons (pe_callB (id := "max") (call_max2 rfl) (by rfl) T.b_max (by decide +kernel) (pa_cons pe_int (pa_cons (pe_callB (id := "min") (call_min2 rfl) (by rfl) T.b_min (by decide +kernel) (pa_cons (pe_callB (id := "len") call_len_seq (by rfl) T.b_len (by decide +kernel) (pa_cons (pv 0) pa_nil)) (pa_cons pe_int pa_nil))) pa_nil))) pa_nil)) (blkOk_by (N := ["_law_script", "_law_some", "_law_q", "_law_string", "_law_k", "_law_turn"]) (sc := defScope s_law) (by decide +kernel)) (fun _ _ _ _ _ => (pg_name (i := 4) sc_law.nd rfl (Or.inl rfl))) (fun _ _ _ _ _ => pts_nil) (fun _ _ _ _ _ => (pe_cut (pe_cg c_right bare hr (by decide) rfl (pa_cons (pe_cg c_from bare hr (by decide) rfl (pa_cons (pv 0) (pa_cons (pv 4) pa_nil))) pa_nil)))))) pa_nil)))) (pss_one (ps_ret pe_bl))
  pss_nil)
  (pss_cons (ps_set (i := 2) sc_law.nd rfl (Or.inr rfl) (pe_cg c_purse bare hr (by decide) rfl (pa_cons (pv 0) pa_nil)))
  (pss_one (ps_ret (pe_callB (id := "all") (cr_all rfl) (by rfl) T.b_all (by decide +kernel) (pa_cons (pe_mapRP (ta := tCons (tC (.int 6)) tNil) (j := 5) (fun σ H Q Q' hq q => hq _ _ q) (pe_lc (own := [("_law_turn", 5)]) (g := gName 5) (tt := tYes) rfl sc_law.nd (pi_range1 (by rfl) T.b_range (pa_cons pe_int pa_nil)) (blkOk_by (N := ["_law_script", "_law_some", "_law_q", "_law_string", "_law_k", "_law_turn"]) (sc := defScope s_law) (by decide +kernel)) (fun _ _ _ _ _ => (pg_name (i := 5) sc_law.nd rfl (Or.inl rfl))) (fun _ _ _ _ _ => pts_nil) (fun _ _ _ _ _ => (pe_cut (pe_cg c_strange bare hr (by decide) rfl (pa_cons (pv 2) pa_nil)))))) pa_nil)))))))), ?_⟩
    -- some = [..]; if not all([reads(s) for s in some + [..]])
    refine ⟨by show 15 ≤ sizeLine; decide, fun l0 hl0 => ?_⟩
    refine ⟨_, rfl, by show 5 ≤ sizeLine; decide, fun l1 hl1 => ?_⟩
    have n01 : l0 ≠ l1 := ne_of_none upd_same hl1
    have sA := MG.Same.new (o := .lst (List.map V.str (["", "-", "/", "0", "-0", "0/1", "00", "1/0", "1/1", "2/4", "-1/2", "1/-2", "+1", " 1", "1 "] : List Str))) (Same.refl H) hl0
    have sB := MG.Same.new (o := .lst (List.map V.str (["1/2/3", "1/02", "01/2", "-/2", "3/"] : List Str))) sA hl1
    refine ⟨l0, l1, _, _, rfl, rfl, by rw [upd_ne n01]; exact upd_same, upd_same, by show 15 + 5 ≤ sizeLine; decide, fun l2 hl2 => ?_⟩
    have sC := MG.Same.new (o := .lst (List.map V.str lits)) sB hl2
    have eC : (upd (upd (upd H l0 (.lst (List.map V.str (["", "-", "/", "0", "-0", "0/1", "00", "1/0", "1/1", "2/4", "-1/2", "1/-2", "+1", " 1", "1 "] : List Str)))) l1 (.lst (List.map V.str (["1/2/3", "1/02", "01/2", "-/2", "3/"] : List Str)))) l2 (.lst (List.map V.str lits))) l2 = some (.lst (List.map V.str lits)) := upd_same
    refine ⟨l2, lits.map V.str, List.replicate 20 (.bl true), rfl, SqL.of eC, by rfl, by decide, ?_, fun D0 H1 s1 _ e1 => ?_⟩
    · intro i x y H' hx hy s'
      obtain ⟨z, rfl, az, lz⟩ := ps_len hx
      obtain rfl := (rep_get hy).1
      exact ⟨_, rfl, z, rfl, lz, az, fun H2 s2 => ⟨rfl, s2⟩⟩
    refine ⟨D0, List.replicate 20 true, rfl, SqL.of (by rw [e1]; rfl), _, rfl, ifF (by rfl) ?_⟩
    have sD := sC.trans s1
    have hS2 := sD.seq hS
    clear sA sB sC eC n01
    have hm : ∃ m : Nat, (m : Int) = (if (if (6 : Int) < ((ns.map V.int).length : Int) then 6 else ((ns.map V.int).length : Int)) > 1 then (if (6 : Int) < ((ns.map V.int).length : Int) then 6 else ((ns.map V.int).length : Int)) else 1) ∧ m ≤ 63 := by
      rw [List.length_map]
      refine ⟨(if (if (6 : Int) < (ns.length : Int) then 6 else (ns.length : Int)) > 1 then (if (6 : Int) < (ns.length : Int) then 6 else (ns.length : Int)) else 1).toNat, ?_, ?_⟩
      · split <;> (try split) <;> omega
      · split <;> (try split) <;> omega
    obtain ⟨m, em, hm⟩ := hm
    refine ⟨_, rfl, a, _, rfl, Or.inl hS2, _, _, rfl, _, _, rfl, _, List.replicate m (.bl true), rfl, ?_, ?_, ?_, fun i y H' hy s' => ?_, fun D H' s' _ e => ?_⟩
    · rw [← em]; omega
    · rw [← em]; omega
    · rw [← em, List.length_replicate]
    · obtain rfl := (rep_get hy).1
      refine ⟨_, rfl, _, rfl, a, ns, _, rfl, s'.seq hS2, by omega, fun q H1 hq s1 q0 => ⟨q, rfl, q0, fun H2 k2 => ⟨rfl, fun b o hb => ?_⟩⟩⟩
      exact k2 _ _ (s1 _ _ hb) (ne_of_none hb hq)
    · refine ⟨D, List.replicate m true, rfl, SqL.of (by rw [e, List.map_replicate]), ?_⟩
      have e2 : (List.replicate m true).all id = true := by simp
      refine ⟨_, rfl, ifF (by rw [e2]; rfl) ?_⟩
      have hS3 := s'.seq hS2
      -- q = purse(script); return all([strange(q) for turn in range(6)])
      refine ⟨_, rfl, a, ns, rfl, hS3, by omega, fun q H3 hq0 s3 q3 => ?_⟩
      refine ⟨6, List.replicate 6 (.bl true), fun D i H' => D ≠ q ∧ QAt (fun c => c = D) H' q (20 * i), rfl, by decide, by decide, rfl, fun D hD => ⟨q3.ne hD, q3.ghost hD⟩, ?_, fun D H4 e4 _ => ?_⟩
      · rintro D i y H4 hy ⟨nD, q4⟩ e4
        obtain ⟨rfl, hi⟩ := rep_get hy
        exact ⟨_, rfl, fun c => c = D, q, 20 * i, rfl, q4, by omega, fun H5 k5 q5 => ⟨rfl, k5 _ _ e4 nD, nD, QAt.updX (QAt.le q5 (by omega)) nD⟩⟩
      · exact ⟨D, List.replicate 6 true, rfl, SqL.of (by rw [e4]; rfl), k _⟩
end
end Lw

namespace Lw
open PySem PySem.Spec PyProof.Rows L2 MG
theorem all_mk {l : PySem.W.OpenLaw} {w : World} {K : PySem.W.Frag} {h : Heap} {mg : Str → Option Value} {fa fD0 fD1 fD2 fD3 fD4 fD5 fD6 fD7 fD8 fD9 fD10 fD11 fD12 fD13 fD14 fD15 fD16 fD17 C fM0 fM1 fM2 fM3 fP0 pP0 fP1 pP1 fI tI : Addr} (X : K.In h) (G : h.Ns mainGlobals mg) (hfa : mg "law" = some (.ref fa))
    {odD0 anD0 : Option Addr} {slD0 : Array (Option Value)} {ocD0 kVD0 dcD0 pmD0 cdD0 ctD0 : Value}
    {odD1 anD1 : Option Addr} {slD1 : Array (Option Value)} {ocD1 kVD1 dcD1 pmD1 cdD1 ctD1 : Value}
    {odD2 anD2 : Option Addr} {slD2 : Array (Option Value)} {ocD2 kVD2 dcD2 pmD2 cdD2 ctD2 : Value}
    {odD3 anD3 : Option Addr} {slD3 : Array (Option Value)} {ocD3 kVD3 dcD3 pmD3 cdD3 ctD3 : Value}
    {odD4 anD4 : Option Addr} {slD4 : Array (Option Value)} {ocD4 kVD4 dcD4 pmD4 cdD4 ctD4 : Value}
    {odD5 anD5 : Option Addr} {slD5 : Array (Option Value)} {ocD5 kVD5 dcD5 pmD5 cdD5 ctD5 : Value}
    {odD6 anD6 : Option Addr} {slD6 : Array (Option Value)} {ocD6 kVD6 dcD6 pmD6 cdD6 ctD6 : Value}
    {odD7 anD7 : Option Addr} {slD7 : Array (Option Value)} {ocD7 kVD7 dcD7 pmD7 cdD7 ctD7 : Value}
    {odD8 anD8 : Option Addr} {slD8 : Array (Option Value)} {ocD8 kVD8 dcD8 pmD8 cdD8 ctD8 : Value}
    {odD9 anD9 : Option Addr} {slD9 : Array (Option Value)} {ocD9 kVD9 dcD9 pmD9 cdD9 ctD9 : Value}
    {odD10 anD10 : Option Addr} {slD10 : Array (Option Value)} {ocD10 kVD10 dcD10 pmD10 cdD10 ctD10 : Value}
    {odD11 anD11 : Option Addr} {slD11 : Array (Option Value)} {ocD11 kVD11 dcD11 pmD11 cdD11 ctD11 : Value}
    {odD12 anD12 : Option Addr} {slD12 : Array (Option Value)} {ocD12 kVD12 dcD12 pmD12 cdD12 ctD12 : Value}
    {odD13 anD13 : Option Addr} {slD13 : Array (Option Value)} {ocD13 kVD13 dcD13 pmD13 cdD13 ctD13 : Value}
    {odD14 anD14 : Option Addr} {slD14 : Array (Option Value)} {ocD14 kVD14 dcD14 pmD14 cdD14 ctD14 : Value}
    {odD15 anD15 : Option Addr} {slD15 : Array (Option Value)} {ocD15 kVD15 dcD15 pmD15 cdD15 ctD15 : Value}
    {odD16 anD16 : Option Addr} {slD16 : Array (Option Value)} {ocD16 kVD16 dcD16 pmD16 cdD16 ctD16 : Value}
    {odD17 anD17 : Option Addr} {slD17 : Array (Option Value)} {ocD17 kVD17 dcD17 pmD17 cdD17 ctD17 : Value}
    {odM0 anM0 : Option Addr} {slM0 : Array (Option Value)} {ocM0 kVM0 dcM0 pmM0 cdM0 ctM0 : Value}
    {odM1 anM1 : Option Addr} {slM1 : Array (Option Value)} {ocM1 kVM1 dcM1 pmM1 cdM1 ctM1 : Value}
    {odM2 anM2 : Option Addr} {slM2 : Array (Option Value)} {ocM2 kVM2 dcM2 pmM2 cdM2 ctM2 : Value}
    {odM3 anM3 : Option Addr} {slM3 : Array (Option Value)} {ocM3 kVM3 dcM3 pmM3 cdM3 ctM3 : Value}
    {reP0 : List Value}
    {odP0 anP0 : Option Addr} {slP0 : Array (Option Value)} {ocP0 kVP0 dcP0 pmP0 cdP0 ctP0 : Value}
    {reP1 : List Value}
    {odP1 anP1 : Option Addr} {slP1 : Array (Option Value)} {ocP1 kVP1 dcP1 pmP1 cdP1 ctP1 : Value}
    {odI anI : Option Addr} {slI : Array (Option Value)} {ocI kVI dcI pmI cdI ctI : Value}
    {oT : Obj} {nT : Nat} {kT : Tok}
    {CI fX CE : Addr} {nmX qX : Str} {NX : Addr} {bsX : List Value} {snX : List Str} {subX : List Value} {abX : Bool} {colX : Option Bool} {ddX : Option Addr} {m0 m1 m2 m3 m5 : Option Value} {odX anX : Option Addr} {slX : Array (Option Value)} {ocX kVX dcX pmX cdX ctX : Value}
    {pR fR : Addr} {reR : List Value} {odR anR : Option Addr} {slR : Array (Option Value)} {ocR kVR dcR pmR cdR ctR : Value}
    (aD0 : PySem.W.nsIn K mainGlobals "is_whole" = some (some (.ref fD0)))
    (lD0 : K.lookup fD0 = some ⟨ocD0, odD0, .func (PySem.W.fnOf "is_whole" "is_whole" (defArgs s_is_whole) (defBody s_is_whole) (defScope s_is_whole) .none kVD0 dcD0 pmD0 anD0 cdD0 ctD0), slD0⟩)
    (cD0 : PySem.W.codeIn K cdD0 "is_whole" = true)
    (kD0 : PySem.W.keepIn K (.ref fD0) = true)
    (aD1 : PySem.W.nsIn K mainGlobals "is_natural_text" = some (some (.ref fD1)))
    (lD1 : K.lookup fD1 = some ⟨ocD1, odD1, .func (PySem.W.fnOf "is_natural_text" "is_natural_text" (defArgs s_is_natural_text) (defBody s_is_natural_text) (defScope s_is_natural_text) .none kVD1 dcD1 pmD1 anD1 cdD1 ctD1), slD1⟩)
    (cD1 : PySem.W.codeIn K cdD1 "is_natural_text" = true)
    (kD1 : PySem.W.keepIn K (.ref fD1) = true)
    (aD2 : PySem.W.nsIn K mainGlobals "_law_purse" = some (some (.ref fD2)))
    (lD2 : K.lookup fD2 = some ⟨ocD2, odD2, .func (PySem.W.fnOf "_law_purse" "_law_purse" (defArgs s__law_purse) (defBody s__law_purse) (defScope s__law_purse) .none kVD2 dcD2 pmD2 anD2 cdD2 ctD2), slD2⟩)
    (cD2 : PySem.W.codeIn K cdD2 "_law_purse" = true)
    (kD2 : PySem.W.keepIn K (.ref fD2) = true)
    (aD3 : PySem.W.nsIn K mainGlobals "_law_draw" = some (some (.ref fD3)))
    (lD3 : K.lookup fD3 = some ⟨ocD3, odD3, .func (PySem.W.fnOf "_law_draw" "_law_draw" (defArgs s__law_draw) (defBody s__law_draw) (defScope s__law_draw) .none kVD3 dcD3 pmD3 anD3 cdD3 ctD3), slD3⟩)
    (cD3 : PySem.W.codeIn K cdD3 "_law_draw" = true)
    (kD3 : PySem.W.keepIn K (.ref fD3) = true)
    (aD4 : PySem.W.nsIn K mainGlobals "_law_great" = some (some (.ref fD4)))
    (lD4 : K.lookup fD4 = some ⟨ocD4, odD4, .func (PySem.W.fnOf "_law_great" "_law_great" (defArgs s__law_great) (defBody s__law_great) (defScope s__law_great) .none kVD4 dcD4 pmD4 anD4 cdD4 ctD4), slD4⟩)
    (cD4 : PySem.W.codeIn K cdD4 "_law_great" = true)
    (kD4 : PySem.W.keepIn K (.ref fD4) = true)
    (aD5 : PySem.W.nsIn K mainGlobals "_law_common" = some (some (.ref fD5)))
    (lD5 : K.lookup fD5 = some ⟨ocD5, odD5, .func (PySem.W.fnOf "_law_common" "_law_common" (defArgs s__law_common) (defBody s__law_common) (defScope s__law_common) .none kVD5 dcD5 pmD5 anD5 cdD5 ctD5), slD5⟩)
    (cD5 : PySem.W.codeIn K cdD5 "_law_common" = true)
    (kD5 : PySem.W.keepIn K (.ref fD5) = true)
    (aD6 : PySem.W.nsIn K mainGlobals "_law_lowest" = some (some (.ref fD6)))
    (lD6 : K.lookup fD6 = some ⟨ocD6, odD6, .func (PySem.W.fnOf "_law_lowest" "_law_lowest" (defArgs s__law_lowest) (defBody s__law_lowest) (defScope s__law_lowest) .none kVD6 dcD6 pmD6 anD6 cdD6 ctD6), slD6⟩)
    (cD6 : PySem.W.codeIn K cdD6 "_law_lowest" = true)
    (kD6 : PySem.W.keepIn K (.ref fD6) = true)
    (aD7 : PySem.W.nsIn K mainGlobals "_law_from" = some (some (.ref fD7)))
    (lD7 : K.lookup fD7 = some ⟨ocD7, odD7, .func (PySem.W.fnOf "_law_from" "_law_from" (defArgs s__law_from) (defBody s__law_from) (defScope s__law_from) .none kVD7 dcD7 pmD7 anD7 cdD7 ctD7), slD7⟩)
    (cD7 : PySem.W.codeIn K cdD7 "_law_from" = true)
    (kD7 : PySem.W.keepIn K (.ref fD7) = true)
    (aD8 : PySem.W.nsIn K mainGlobals "_law_digits" = some (some (.ref fD8)))
    (lD8 : K.lookup fD8 = some ⟨ocD8, odD8, .func (PySem.W.fnOf "_law_digits" "_law_digits" (defArgs s__law_digits) (defBody s__law_digits) (defScope s__law_digits) .none kVD8 dcD8 pmD8 anD8 cdD8 ctD8), slD8⟩)
    (cD8 : PySem.W.codeIn K cdD8 "_law_digits" = true)
    (kD8 : PySem.W.keepIn K (.ref fD8) = true)
    (aD9 : PySem.W.nsIn K mainGlobals "_law_sign_text" = some (some (.ref fD9)))
    (lD9 : K.lookup fD9 = some ⟨ocD9, odD9, .func (PySem.W.fnOf "_law_sign_text" "_law_sign_text" (defArgs s__law_sign_text) (defBody s__law_sign_text) (defScope s__law_sign_text) .none kVD9 dcD9 pmD9 anD9 cdD9 ctD9), slD9⟩)
    (cD9 : PySem.W.codeIn K cdD9 "_law_sign_text" = true)
    (kD9 : PySem.W.keepIn K (.ref fD9) = true)
    (aD10 : PySem.W.nsIn K mainGlobals "_law_odd" = some (some (.ref fD10)))
    (lD10 : K.lookup fD10 = some ⟨ocD10, odD10, .func (PySem.W.fnOf "_law_odd" "_law_odd" (defArgs s__law_odd) (defBody s__law_odd) (defScope s__law_odd) .none kVD10 dcD10 pmD10 anD10 cdD10 ctD10), slD10⟩)
    (cD10 : PySem.W.codeIn K cdD10 "_law_odd" = true)
    (kD10 : PySem.W.keepIn K (.ref fD10) = true)
    (aD11 : PySem.W.nsIn K mainGlobals "_law_pick" = some (some (.ref fD11)))
    (lD11 : K.lookup fD11 = some ⟨ocD11, odD11, .func (PySem.W.fnOf "_law_pick" "_law_pick" (defArgs s__law_pick) (defBody s__law_pick) (defScope s__law_pick) .none kVD11 dcD11 pmD11 anD11 cdD11 ctD11), slD11⟩)
    (cD11 : PySem.W.codeIn K cdD11 "_law_pick" = true)
    (kD11 : PySem.W.keepIn K (.ref fD11) = true)
    (aD12 : PySem.W.nsIn K mainGlobals "_law_spoiled_text" = some (some (.ref fD12)))
    (lD12 : K.lookup fD12 = some ⟨ocD12, odD12, .func (PySem.W.fnOf "_law_spoiled_text" "_law_spoiled_text" (defArgs s__law_spoiled_text) (defBody s__law_spoiled_text) (defScope s__law_spoiled_text) .none kVD12 dcD12 pmD12 anD12 cdD12 ctD12), slD12⟩)
    (cD12 : PySem.W.codeIn K cdD12 "_law_spoiled_text" = true)
    (kD12 : PySem.W.keepIn K (.ref fD12) = true)
    (aD13 : PySem.W.nsIn K mainGlobals "_law_read_fraction" = some (some (.ref fD13)))
    (lD13 : K.lookup fD13 = some ⟨ocD13, odD13, .func (PySem.W.fnOf "_law_read_fraction" "_law_read_fraction" (defArgs s__law_read_fraction) (defBody s__law_read_fraction) (defScope s__law_read_fraction) .none kVD13 dcD13 pmD13 anD13 cdD13 ctD13), slD13⟩)
    (cD13 : PySem.W.codeIn K cdD13 "_law_read_fraction" = true)
    (kD13 : PySem.W.keepIn K (.ref fD13) = true)
    (aD14 : PySem.W.nsIn K mainGlobals "_law_reads" = some (some (.ref fD14)))
    (lD14 : K.lookup fD14 = some ⟨ocD14, odD14, .func (PySem.W.fnOf "_law_reads" "_law_reads" (defArgs s__law_reads) (defBody s__law_reads) (defScope s__law_reads) .none kVD14 dcD14 pmD14 anD14 cdD14 ctD14), slD14⟩)
    (cD14 : PySem.W.codeIn K cdD14 "_law_reads" = true)
    (kD14 : PySem.W.keepIn K (.ref fD14) = true)
    (aD15 : PySem.W.nsIn K mainGlobals "_law_right" = some (some (.ref fD15)))
    (lD15 : K.lookup fD15 = some ⟨ocD15, odD15, .func (PySem.W.fnOf "_law_right" "_law_right" (defArgs s__law_right) (defBody s__law_right) (defScope s__law_right) .none kVD15 dcD15 pmD15 anD15 cdD15 ctD15), slD15⟩)
    (cD15 : PySem.W.codeIn K cdD15 "_law_right" = true)
    (kD15 : PySem.W.keepIn K (.ref fD15) = true)
    (aD16 : PySem.W.nsIn K mainGlobals "_law_strange" = some (some (.ref fD16)))
    (lD16 : K.lookup fD16 = some ⟨ocD16, odD16, .func (PySem.W.fnOf "_law_strange" "_law_strange" (defArgs s__law_strange) (defBody s__law_strange) (defScope s__law_strange) .none kVD16 dcD16 pmD16 anD16 cdD16 ctD16), slD16⟩)
    (cD16 : PySem.W.codeIn K cdD16 "_law_strange" = true)
    (kD16 : PySem.W.keepIn K (.ref fD16) = true)
    (aD17 : PySem.W.nsIn K mainGlobals "law" = some (some (.ref fD17)))
    (lD17 : K.lookup fD17 = some ⟨ocD17, odD17, .func (PySem.W.fnOf "law" "law" (defArgs s_law) (defBody s_law) (defScope s_law) .none kVD17 dcD17 pmD17 anD17 cdD17 ctD17), slD17⟩)
    (cD17 : PySem.W.codeIn K cdD17 "law" = true)
    (kD17 : PySem.W.keepIn K (.ref fD17) = true)
    (aM0 : PySem.W.findIn K (.ref C) "__neg__" = some (some (.ref fM0)))
    (iM0 : PySem.W.isFn K (.ref fM0) = true)
    (lM0 : K.lookup fM0 = some ⟨ocM0, odM0, .func (PySem.W.fnOf "__neg__" "Ratio.__neg__" (defArgs s_Ratio___neg__) (defBody s_Ratio___neg__) (defScope s_Ratio___neg__) .none kVM0 dcM0 pmM0 anM0 cdM0 ctM0), slM0⟩)
    (cM0 : PySem.W.codeIn K cdM0 "Ratio.__neg__" = true)
    (kM0 : PySem.W.keepIn K (.ref fM0) = true)
    (aM1 : PySem.W.findIn K (.ref C) "__eq__" = some (some (.ref fM1)))
    (iM1 : PySem.W.isFn K (.ref fM1) = true)
    (lM1 : K.lookup fM1 = some ⟨ocM1, odM1, .func (PySem.W.fnOf "__eq__" "Ratio.__eq__" (defArgs s_Ratio___eq__) (defBody s_Ratio___eq__) (defScope s_Ratio___eq__) .none kVM1 dcM1 pmM1 anM1 cdM1 ctM1), slM1⟩)
    (cM1 : PySem.W.codeIn K cdM1 "Ratio.__eq__" = true)
    (kM1 : PySem.W.keepIn K (.ref fM1) = true)
    (aM2 : PySem.W.findIn K (.ref C) "__str__" = some (some (.ref fM2)))
    (iM2 : PySem.W.isFn K (.ref fM2) = true)
    (lM2 : K.lookup fM2 = some ⟨ocM2, odM2, .func (PySem.W.fnOf "__str__" "Ratio.__str__" (defArgs s_Ratio___str__) (defBody s_Ratio___str__) (defScope s_Ratio___str__) .none kVM2 dcM2 pmM2 anM2 cdM2 ctM2), slM2⟩)
    (cM2 : PySem.W.codeIn K cdM2 "Ratio.__str__" = true)
    (kM2 : PySem.W.keepIn K (.ref fM2) = true)
    (aM3 : PySem.W.findIn K (.ref C) "__repr__" = some (some (.ref fM3)))
    (iM3 : PySem.W.isFn K (.ref fM3) = true)
    (lM3 : K.lookup fM3 = some ⟨ocM3, odM3, .func (PySem.W.fnOf "__repr__" "Ratio.__repr__" (defArgs s_Ratio___repr__) (defBody s_Ratio___repr__) (defScope s_Ratio___repr__) .none kVM3 dcM3 pmM3 anM3 cdM3 ctM3), slM3⟩)
    (cM3 : PySem.W.codeIn K cdM3 "Ratio.__repr__" = true)
    (kM3 : PySem.W.keepIn K (.ref fM3) = true)
    (aP0 : PySem.W.findIn K (.ref C) "top" = some (some (.ref pP0)))
    (gP0 : PySem.W.specialIn K (.ref pP0) "__get__" = some (some (.builtin "property.__get__")))
    (tP0 : PySem.W.takesIn K (.ref pP0) = some true)
    (rP0 : PySem.W.recIn K pP0 "property" = some (.ref fP0 :: reP0))
    (lP0 : K.lookup fP0 = some ⟨ocP0, odP0, .func (PySem.W.fnOf "top" "Ratio.top" (defArgs s_Ratio_top) (defBody s_Ratio_top) (defScope s_Ratio_top) .none kVP0 dcP0 pmP0 anP0 cdP0 ctP0), slP0⟩)
    (cP0 : PySem.W.codeIn K cdP0 "Ratio.top" = true)
    (kP0 : PySem.W.keepIn K (.ref fP0) = true)
    (aP1 : PySem.W.findIn K (.ref C) "bottom" = some (some (.ref pP1)))
    (gP1 : PySem.W.specialIn K (.ref pP1) "__get__" = some (some (.builtin "property.__get__")))
    (tP1 : PySem.W.takesIn K (.ref pP1) = some true)
    (rP1 : PySem.W.recIn K pP1 "property" = some (.ref fP1 :: reP1))
    (lP1 : K.lookup fP1 = some ⟨ocP1, odP1, .func (PySem.W.fnOf "bottom" "Ratio.bottom" (defArgs s_Ratio_bottom) (defBody s_Ratio_bottom) (defScope s_Ratio_bottom) .none kVP1 dcP1 pmP1 anP1 cdP1 ctP1), slP1⟩)
    (cP1 : PySem.W.codeIn K cdP1 "Ratio.bottom" = true)
    (kP1 : PySem.W.keepIn K (.ref fP1) = true)
    (aI : PySem.W.findIn K (.ref C) "__init__" = some (some (.ref fI)))
    (iI : PySem.W.isFn K (.ref fI) = true)
    (lI : K.lookup fI = some ⟨ocI, odI, .func (PySem.W.fnOf "__init__" "Ratio.__init__" (defArgs s_Ratio___init__) (defBody s_Ratio___init__) (defScope s_Ratio___init__) (.ref tI) kVI dcI pmI anI cdI ctI), slI⟩)
    (cI : PySem.W.codeIn K cdI "Ratio.__init__" = true)
    (kI : PySem.W.keepIn K (.ref fI) = true)
    (lT : K.lookup tI = some oT)
    (dT : oT.data = .seq #[.int 1 kT] nT)
    (z_int : PySem.W.nsIn K mainGlobals "int" = some none)
    (z_len : PySem.W.nsIn K mainGlobals "len" = some none)
    (z_abs : PySem.W.nsIn K mainGlobals "abs" = some none)
    (z_range : PySem.W.nsIn K mainGlobals "range" = some none)
    (z_max : PySem.W.nsIn K mainGlobals "max" = some none)
    (z_min : PySem.W.nsIn K mainGlobals "min" = some none)
    (z_all : PySem.W.nsIn K mainGlobals "all" = some none)
    (z_repr : PySem.W.nsIn K mainGlobals "repr" = some none)
    (z_isinstance : PySem.W.nsIn K mainGlobals "isinstance" = some none)
    (z_bool : PySem.W.nsIn K mainGlobals "bool" = some none)
    (z_str : PySem.W.nsIn K mainGlobals "str" = some none)
    (z_any : PySem.W.nsIn K mainGlobals "any" = some none)
    (pg : PySem.W.plainGet K C Str.empty = true)
    (hd : PySem.W.hasDictIn K C = true)
    (po : PySem.W.plainOver K C = true)
    (sa : PySem.W.findIn K (.ref C) "__setattr__" = some (some (.builtin "object.__setattr__")))
    (mk : PySem.W.makesIn K C = true)
    (kcC : PySem.W.keepIn K (.ref C) = true)
    (nT' : PySem.W.findIn K (.ref C) "_top" = some none)
    (nB' : PySem.W.findIn K (.ref C) "_bottom" = some none)
    (aR : PySem.W.nsIn K mainGlobals "Ratio" = some (some (.ref C)))
    (aG : PySem.W.nsIn K mainGlobals "gcd" = some (some (.builtin "math.gcd")))
    (ca : PySem.W.findIn K (.ref C) "__class__" = some (some (.builtin "object.__class__")))
    (cn : PySem.W.specialIn K (.builtin "object.__class__") "__get__" = some (some (.builtin "getset_descriptor.__get__")))
    (ct' : PySem.W.takesIn K (.builtin "object.__class__") = some true)
    (cm : PySem.W.mroIn K C (.type "object") = some true)
    (sI : PySem.W.subIn K (.ref C) (.type "int") = some false)
    (sB : PySem.W.subIn K (.ref C) (.type "bool") = some false)
    (tyC : PySem.W.typeIn K (.ref C) = some (.type "type"))
    (isC : PySem.W.isClsIn K C = true)
    (sb : PySem.W.subIn K (.type "int") (.ref C) = some false)
    (sST : PySem.W.subIn K (.ref C) (.type "str") = some false)
    (x_n : PySem.W.subIn K (.type "NoneType") (.ref C) = some false)
    (x_s : PySem.W.subIn K (.type "str") (.ref C) = some false)
    (x_t : PySem.W.subIn K (.type "tuple") (.ref C) = some false)
    (x_l : PySem.W.subIn K (.type "list") (.ref C) = some false)
    (x_b : PySem.W.subIn K (.type "bool") (.ref C) = some false)
    (x_d : PySem.W.subIn K (.type "dict") (.ref C) = some false)
    (so : PySem.W.subIn K (.ref C) (.type "object") = some true)
    (ne : PySem.W.findIn K (.ref C) "__ne__" = some (some (.builtin "object.__ne__")))
    (aX : PySem.W.nsIn K mainGlobals "NotARatio" = some (some (.ref CI)))
    (xL : K.lookup CI = some (excClassObj nmX qX CI NX bsX [.ref CE, .type "ValueError", .type "Exception", .type "BaseException", .type "object"] true snX subX abX colX ddX m0 m1 m2 m3 m5 "ValueError.__new__"))
    (xsa : PySem.W.findIn K (.ref CI) "__setattr__" = some (some (.builtin "object.__setattr__")))
    (xga : PySem.W.findIn K (.ref CI) "__getattribute__" = some (some (.builtin "BaseException.__getattribute__")))
    (xgg : PySem.W.findIn K (.ref CI) "__getattr__" = some none)
    (xno : PySem.W.findIn K (.ref CI) "given" = some none)
    (xin : PySem.W.findIn K (.ref CI) "__init__" = some (some (.ref fX)))
    (xt : PySem.W.typeIn K (.ref fX) = some (.type "function"))
    (xk : PySem.W.keepIn K (.ref CI) = true)
    (xeC : PySem.W.subIn K (.ref CI) (.type "BaseException") = some true)
    (xtC : PySem.W.typeIn K (.ref CI) = some (.type "type"))
    (xhC : PySem.W.hasDictIn K CI = true)
    (xsC : PySem.W.subIn K (.ref CI) (.ref CI) = some true)
    (lX : K.lookup fX = some ⟨ocX, odX, .func (PySem.W.fnOf "__init__" "NotARatio.__init__" (defArgs s_NotARatio___init__) (defBody s_NotARatio___init__) (defScope s_NotARatio___init__) .none kVX dcX pmX anX cdX ctX), slX⟩)
    (cX : PySem.W.codeIn K cdX "NotARatio.__init__" = true)
    (kX : PySem.W.keepIn K (.ref fX) = true)
    (rrd : PySem.W.readsIn K C (.type "type") = true)
    (rga : PySem.W.specialIn K (.ref C) "__getattribute__" = some (some (.builtin "type.__getattribute__")))
    (rat : PySem.W.findCls K (.ref C) (.type "type") "read" = some (.get (.builtin "classmethod.__get__") (.ref pR) .none (.ref C)))
    (rrc : PySem.W.recIn K pR "classmethod" = some (.ref fR :: reR))
    (rfi : PySem.W.fnIn K fR = true)
    (lR : K.lookup fR = some ⟨ocR, odR, .func (PySem.W.fnOf "read" "Ratio.read" (defArgs s_Ratio_read) (defBody s_Ratio_read) (defScope s_Ratio_read) .none kVR dcR pmR anR cdR ctR), slR⟩)
    (cR : PySem.W.codeIn K cdR "Ratio.read" = true)
    (kR : PySem.W.keepIn K (.ref fR) = true)
    : ∃ fd : FuncData, (∀ (s : Shared) (v : Value), BindsTo s fd ⟨[v], []⟩ [("_law_script", v)]) ∧ ∀ base : Heap, K.In base → base.Ns mainGlobals mg → FnG l.prog w K mg base CX0 26 fa fd ["_law_script"] (spLaw K) := by
  have e := hfa.symm.trans (PySem.W.mg_of X G aD17)
  cases e
  have FD0 := fun_mk (st := s_is_whole) lD0 cD0 kD0
  have bD0 := FD0.binds (ps := ["value"]) fun _ _ _ _ _ _ us hl => match us, hl with | [_], _ => rfl
  have gD0 := PySem.W.mg_of X G aD0
  have FD1 := fun_mk (st := s_is_natural_text) lD1 cD1 kD1
  have bD1 := FD1.binds (ps := ["text"]) fun _ _ _ _ _ _ us hl => match us, hl with | [_], _ => rfl
  have gD1 := PySem.W.mg_of X G aD1
  have FD2 := fun_mk (st := s__law_purse) lD2 cD2 kD2
  have bD2 := FD2.binds (ps := ["_law_script"]) fun _ _ _ _ _ _ us hl => match us, hl with | [_], _ => rfl
  have gD2 := PySem.W.mg_of X G aD2
  have FD3 := fun_mk (st := s__law_draw) lD3 cD3 kD3
  have bD3 := FD3.binds (ps := ["_law_q", "_law_many"]) fun _ _ _ _ _ _ us hl => match us, hl with | [_, _], _ => rfl
  have gD3 := PySem.W.mg_of X G aD3
  have FD4 := fun_mk (st := s__law_great) lD4 cD4 kD4
  have bD4 := FD4.binds (ps := ["_law_q"]) fun _ _ _ _ _ _ us hl => match us, hl with | [_], _ => rfl
  have gD4 := PySem.W.mg_of X G aD4
  have FD5 := fun_mk (st := s__law_common) lD5 cD5 kD5
  have bD5 := FD5.binds (ps := ["_law_one", "_law_two"]) fun _ _ _ _ _ _ us hl => match us, hl with | [_, _], _ => rfl
  have gD5 := PySem.W.mg_of X G aD5
  have FD6 := fun_mk (st := s__law_lowest) lD6 cD6 kD6
  have bD6 := FD6.binds (ps := ["_law_high", "_law_under"]) fun _ _ _ _ _ _ us hl => match us, hl with | [_, _], _ => rfl
  have gD6 := PySem.W.mg_of X G aD6
  have FD7 := fun_mk (st := s__law_from) lD7 cD7 kD7
  have bD7 := FD7.binds (ps := ["_law_script", "_law_k"]) fun _ _ _ _ _ _ us hl => match us, hl with | [_, _], _ => rfl
  have gD7 := PySem.W.mg_of X G aD7
  have FD8 := fun_mk (st := s__law_digits) lD8 cD8 kD8
  have bD8 := FD8.binds (ps := ["_law_pair"]) fun _ _ _ _ _ _ us hl => match us, hl with | [_], _ => rfl
  have gD8 := PySem.W.mg_of X G aD8
  have FD9 := fun_mk (st := s__law_sign_text) lD9 cD9 kD9
  have bD9 := FD9.binds (ps := ["_law_q"]) fun _ _ _ _ _ _ us hl => match us, hl with | [_], _ => rfl
  have gD9 := PySem.W.mg_of X G aD9
  have FD10 := fun_mk (st := s__law_odd) lD10 cD10 kD10
  have bD10 := FD10.binds (ps := ["_law_q", "_law_deep"]) fun _ _ _ _ _ _ us hl => match us, hl with | [_, _], _ => rfl
  have gD10 := PySem.W.mg_of X G aD10
  have FD11 := fun_mk (st := s__law_pick) lD11 cD11 kD11
  have bD11 := FD11.binds (ps := ["_law_q", "_law_six"]) fun _ _ _ _ _ _ us hl => match us, hl with | [_, _], _ => rfl
  have gD11 := PySem.W.mg_of X G aD11
  have FD12 := fun_mk (st := s__law_spoiled_text) lD12 cD12 kD12
  have bD12 := FD12.binds (ps := ["_law_q", "_law_string"]) fun _ _ _ _ _ _ us hl => match us, hl with | [_, _], _ => rfl
  have gD12 := PySem.W.mg_of X G aD12
  have FD13 := fun_mk (st := s__law_read_fraction) lD13 cD13 kD13
  have bD13 := FD13.binds (ps := ["_law_string"]) fun _ _ _ _ _ _ us hl => match us, hl with | [_], _ => rfl
  have gD13 := PySem.W.mg_of X G aD13
  have FD14 := fun_mk (st := s__law_reads) lD14 cD14 kD14
  have bD14 := FD14.binds (ps := ["_law_string"]) fun _ _ _ _ _ _ us hl => match us, hl with | [_], _ => rfl
  have gD14 := PySem.W.mg_of X G aD14
  have FD15 := fun_mk (st := s__law_right) lD15 cD15 kD15
  have bD15 := FD15.binds (ps := ["_law_q"]) fun _ _ _ _ _ _ us hl => match us, hl with | [_], _ => rfl
  have gD15 := PySem.W.mg_of X G aD15
  have FD16 := fun_mk (st := s__law_strange) lD16 cD16 kD16
  have bD16 := FD16.binds (ps := ["_law_q"]) fun _ _ _ _ _ _ us hl => match us, hl with | [_], _ => rfl
  have gD16 := PySem.W.mg_of X G aD16
  have FD17 := fun_mk (st := s_law) lD17 cD17 kD17
  have gD17 := PySem.W.mg_of X G aD17
  have FM0 := fun_mk (st := s_Ratio___neg__) lM0 cM0 kM0
  have bM0 := FM0.binds (ps := ["self"]) fun _ _ _ _ _ _ us hl => match us, hl with | [_], _ => rfl
  have FM1 := fun_mk (st := s_Ratio___eq__) lM1 cM1 kM1
  have bM1 := FM1.binds (ps := ["self", "other"]) fun _ _ _ _ _ _ us hl => match us, hl with | [_, _], _ => rfl
  have FM2 := fun_mk (st := s_Ratio___str__) lM2 cM2 kM2
  have bM2 := FM2.binds (ps := ["self"]) fun _ _ _ _ _ _ us hl => match us, hl with | [_], _ => rfl
  have FM3 := fun_mk (st := s_Ratio___repr__) lM3 cM3 kM3
  have bM3 := FM3.binds (ps := ["self"]) fun _ _ _ _ _ _ us hl => match us, hl with | [_], _ => rfl
  have FP0 := fun_mk (st := s_Ratio_top) lP0 cP0 kP0
  have bP0 := FP0.binds (ps := ["self"]) fun _ _ _ _ _ _ us hl => match us, hl with | [_], _ => rfl
  have pP0' : PropOf K C "top" pP0 fP0 := ⟨aP0, gP0, tP0, _, rP0⟩
  have FP1 := fun_mk (st := s_Ratio_bottom) lP1 cP1 kP1
  have bP1 := FP1.binds (ps := ["self"]) fun _ _ _ _ _ _ us hl => match us, hl with | [_], _ => rfl
  have pP1' : PropOf K C "bottom" pP1 fP1 := ⟨aP1, gP1, tP1, _, rP1⟩
  have FI : FunD K "__init__" "Ratio.__init__" (defArgs s_Ratio___init__) (defBody s_Ratio___init__) (defScope s_Ratio___init__) [.int 1] [] fI _ := ⟨⟨_, _, _, _, _, _, _, _, _, _, rfl, lI, cI, .inr ⟨nofun, tI, oT, [.int 1 kT], nT, rfl, lT, dT, .cons ⟨_, rfl⟩ .nil⟩, .inl rfl⟩, kI⟩
  obtain ⟨ds2, v2, bI2⟩ := FI.binds1 (ps := ["self", "top", "bottom"]) 3 1 nofun rfl fun T kV doc pm an cdv ct us its h1 h2 => match us, its, h1, h2 with | [_, _, _], [_], _, _ => ⟨_, rfl, rfl⟩
  obtain ⟨ds1, v1, bI1⟩ := FI.binds1 (ps := ["self", "top", "bottom"]) 2 0 nofun rfl fun T kV doc pm an cdv ct us its h1 h2 => match us, its, h1, h2 with | [_, _], [_], _, _ => ⟨_, rfl, rfl⟩
  refine ⟨PySem.W.fnOf "law" "law" (defArgs s_law) (defBody s_law) (defScope s_law) .none kVD17 dcD17 pmD17 anD17 cdD17 ctD17, fun s v => .of_eq rfl, fun base _ _ => ?_⟩
  have B : Blt mg := ⟨PySem.W.mg_none_of X G z_int, PySem.W.mg_none_of X G z_len, PySem.W.mg_none_of X G z_abs, PySem.W.mg_none_of X G z_range, PySem.W.mg_none_of X G z_max, PySem.W.mg_none_of X G z_min, PySem.W.mg_none_of X G z_all, PySem.W.mg_none_of X G z_repr, PySem.W.mg_none_of X G z_isinstance, PySem.W.mg_none_of X G z_bool, PySem.W.mg_none_of X G z_str, PySem.W.mg_none_of X G z_any⟩
  have R : TxR K mg C := { toBlt := B, cl := ⟨pg, hd, po, sa⟩, nT := nT', nB := nB', g_Ratio := PySem.W.mg_of X G aR, g_gcd := PySem.W.mg_of X G aG, ca := ca, cn := cn, ct := ct', cm := cm, kI := kit_rt (by decide +kernel) sI, kB := kit_rt (by decide +kernel) sB, kC := kit_rr, iC := kit_tr isC tyC sb }
  have O : Others K C := ⟨isC, tyC, x_n, x_s, x_t, x_l, x_b, x_d, sST⟩
  have FX := fun_mk (st := s_NotARatio___init__) lX cX kX
  have bX := FX.binds (ps := ["self", "given"]) fun _ _ _ _ _ _ us hl => match us, hl with | [_, _], _ => rfl
  have x_num : XnC l.prog w K mg base CI := ⟨⟨⟨nmX, qX, NX, bsX, _, snX, subX, abX, colX, ddX, m0, m1, m2, m3, m5, xL, rfl⟩, xsa, xeC, xtC, xk⟩, ⟨xga, xgg, xeC, xhC⟩, xno, PySem.W.mg_of X G aX, PySem.W.exm_ref xeC xhC xtC xsC, fX, _, _, xin, xt, ok_xn FX, bX⟩
  have c_whole : CalF l.prog w K mg base _ "is_whole" _ [] := ⟨fD0, _, _, [], ok_whole FD0 B, gD0, kD0, bD0, .nil⟩
  have c_natural : CalF l.prog w K mg base _ "is_natural_text" _ [] := ⟨fD1, _, _, [], ok_natural FD1 , gD1, kD1, bD1, .nil⟩
  have M : Mk K C fI := ⟨mk, aI, iI, kcC⟩
  have m_rat2 : Rat2C l.prog w K mg base C := ⟨fI, _, _, ds2, M, ok_init FI R c_whole, PySem.W.mg_of X G aR, bI2, v2⟩
  have o_neg : NegF l.prog w K mg base 8 C (spNeg C) := ⟨fM0, _, _, aM0, iM0, ok_neg FM0 R m_rat2, bM0⟩
  have o_eq : EqF l.prog w K mg base 2 C (spEqR K C) := ⟨fM1, _, _, ⟨ne, aM1, iM1, so⟩, ok_eq FM1 R, bM1⟩
  have d_str : DunF l.prog w K mg base 2 C "__str__" (spStr C) := ⟨fM2, _, _, aM2, iM2, ok_str FM2 R, bM2⟩
  have d_repr : DunF l.prog w K mg base 2 C "__repr__" (spRepr C) := ⟨fM3, _, _, aM3, iM3, ok_repr FM3 R, bM3⟩
  have d_reprH : OwnH l.prog w K mg base (ownR C) 2 := ownH aM3 iM3 (ok_reprH FM3 R) bM3
  have p_top : PropF l.prog w K mg base 2 C "top" _ := ⟨pP0, fP0, _, _, pP0', ok_top FP0 R, bP0⟩
  have p_bottom : PropF l.prog w K mg base 2 C "bottom" _ := ⟨pP1, fP1, _, _, pP1', ok_bottom FP1 R, bP1⟩
  have FR := fun_mk (st := s_Ratio_read) lR cR kR
  have bR := FR.binds (ps := ["cls", "text"]) fun _ _ _ _ _ _ us hl => match us, hl with | [_, _], _ => rfl
  have GR := ok_read (base := base) (P := l.prog) (w := w) FR R x_num c_natural m_rat2 o_neg d_str
  have cr : ClX.CRead K C (.type "type") := ⟨rrd, rga⟩
  have cm' : ClX.CMet K C (.type "type") "read" pR fR := ⟨rat, ⟨_, rrc⟩, rfi⟩
  have m_readX : ReadX l.prog w K mg base C CI := ⟨pR, fR, _, _, _, cr, cm', GR, bR⟩
  have m_readK : ReadK l.prog w K mg base C CI := ⟨pR, fR, _, _, _, (fun us ws => us ++ ws), cr, cm', GR, ⟨fun s us ws _ h1 h2 => match us, ws, h1, h2 with | [_], [_], _, _ => .of_eq rfl, fun r1 r2 => r1.append r2⟩⟩
  have c_draw : ∀ Y, DrawC Y l.prog w K mg base := fun Y => ⟨fD3, _, _, [], ok_draw FD3 B, gD3, kD3, bD3, .nil⟩
  have c_great : ∀ Y, GreatC Y l.prog w K mg base := fun Y => ⟨fD4, _, _, [], ok_great FD4 B (c_draw Y), gD4, kD4, bD4, .nil⟩
  have c_common : CalG l.prog w K mg base _ "_law_common" _ [] := ⟨fD5, _, _, [], ok_common FD5 B, gD5, kD5, bD5, .nil⟩
  have c_lowest : CalG l.prog w K mg base _ "_law_lowest" _ [] := ⟨fD6, _, _, [], ok_lowest FD6 c_common, gD6, kD6, bD6, .nil⟩
  have c_purse : CalG l.prog w K mg base _ "_law_purse" _ [] := ⟨fD2, _, _, [], ok_purse FD2 B, gD2, kD2, bD2, .nil⟩
  have c_from : CalG l.prog w K mg base _ "_law_from" _ [] := ⟨fD7, _, _, [], ok_from FD7 c_purse, gD7, kD7, bD7, .nil⟩
  have c_digits : CalG l.prog w K mg base _ "_law_digits" _ [] := ⟨fD8, _, _, [], ok_digits FD8 B, gD8, kD8, bD8, .nil⟩
  have c_sign : ∀ Y, SignC Y l.prog w K mg base := fun Y => ⟨fD9, _, _, [], ok_sign FD9 B (c_draw Y), gD9, kD9, bD9, .nil⟩
  have c_odd0 : ∀ Y, CalG l.prog w K mg base 6 "_law_odd" (spOdd Y K C 0) [] := fun Y => ⟨fD10, _, _, [], ⟨fun _ _ _ _ h => h.elim, fun _ _ _ _ _ _ _ _ _ _ _ _ _ _ h => h.elim⟩, gD10, kD10, bD10, .nil⟩
  have c_odd1 : ∀ Y, CalG l.prog w K mg base 7 "_law_odd" (spOdd Y K C 1) [] := fun Y => ⟨fD10, _, _, [], ok_odd (l := 6) FD10 R O (c_draw Y) (c_great Y) (c_sign Y) m_rat2 (by decide) 0 (c_odd0 Y), gD10, kD10, bD10, .nil⟩
  have c_odd2 : ∀ Y, CalG l.prog w K mg base 8 "_law_odd" (spOdd Y K C 2) [] := fun Y => ⟨fD10, _, _, [], ok_odd (l := 7) FD10 R O (c_draw Y) (c_great Y) (c_sign Y) m_rat2 (by decide) 1 (c_odd1 Y), gD10, kD10, bD10, .nil⟩
  have c_odd3 : ∀ Y, CalG l.prog w K mg base 9 "_law_odd" (spOdd Y K C 3) [] := fun Y => ⟨fD10, _, _, [], ok_odd (l := 8) FD10 R O (c_draw Y) (c_great Y) (c_sign Y) m_rat2 (by decide) 2 (c_odd2 Y), gD10, kD10, bD10, .nil⟩
  have c_pick : ∀ Y, PickC Y l.prog w K mg base := fun Y => ⟨fD11, _, _, [], ok_pick FD11 B (c_draw Y), gD11, kD11, bD11, .nil⟩
  have c_spoiled : ∀ Y, SpoilC Y l.prog w K mg base := fun Y => ⟨fD12, _, _, [], ok_spoiled FD12 B (c_draw Y) (c_sign Y) (c_pick Y), gD12, kD12, bD12, .nil⟩
  have c_readf : CalG l.prog w K mg base _ "_law_read_fraction" _ [] := ⟨fD13, _, _, [], ok_readf FD13 B c_lowest c_digits, gD13, kD13, bD13, .nil⟩
  have c_reads : CalG l.prog w K mg base _ "_law_reads" _ [] := ⟨fD14, _, _, [], ok_reads FD14 R x_num c_readf m_readX m_readK p_top p_bottom d_str d_repr d_reprH o_eq, gD14, kD14, bD14, .nil⟩
  have c_right : CalG l.prog w K mg base _ "_law_right" _ [] := ⟨fD15, _, _, [], ok_right FD15 B (c_draw _) c_lowest c_digits (c_spoiled _) c_reads, gD15, kD15, bD15, .nil⟩
  have c_strange : StrangeC l.prog w K mg base := ⟨fD16, _, _, [], strange_all fun Y => ok_strange FD16 R x_num (c_odd3 Y) c_reads m_readX d_reprH, gD16, kD16, bD16, .nil⟩
  exact ok_law FD17 B c_reads c_right c_from c_purse c_strange
theorem walk {l : PySem.W.OpenLaw} {q : Program} {loose : List Str} {XP : (Str → Option Value) → Heap → Prop} {YP : World → Heap → Prop} {d : DefRec} {K : Params → PySem.W.Frag} (hn : l.most = some 63) (hdf : d.params.defaults = [])
    (hY : ∀ (w : World) (h : Heap), YP w h → (K w.params).In h)
    (F : ∀ (w : World) (mg : Str → Option Value) (fa : Addr) (h : Heap), (K w.params).In h → h.Ns mainGlobals mg → mg d.name = some (.ref fa) →
      ∃ fd : FuncData, (∀ (s : Shared) (u : Value), BindsTo s fd ⟨[u], []⟩ [("_law_script", u)]) ∧ ∀ base : Heap, (K w.params).In base → base.Ns mainGlobals mg → FnG l.prog w (K w.params) mg base CX0 26 fa fd ["_law_script"] (spLaw (K w.params))) :
    PySem.W.WalkO q loose XP YP l.row.toRowW d [] (fun f vs => PySem.call f vs) :=
  walkG (n := 63) (k := 26) (x := "_law_script") (sp := fun w => spLaw (K w.params)) hn (by decide) hdf ⟨rfl, by decide, by decide⟩ hY F (fun _ _ a ns hl _ hS => ⟨a, ns, rfl, hS, hl, fun _ => rfl⟩)
end Lw

open PySem PySem.W PyProof.Rows
set_option maxRecDepth 100000 in
set_option maxHeartbeats 0 in
theorem PySem.Challenge.cw_matrixforms_k04_ratio_texts_holds : PySem.Challenge.rw_matrixforms_k04_ratio_texts.Holds := by
  w_on; o_law; k_head; (case hw => w_witness2)
  k_fill
  refine Lw.walk (l := PySem.Challenge.rw_matrixforms_k04_ratio_texts) rfl rfl (fun w h Y => PySem.W.kIn_of Y) ?F
  case F =>
    intro w mg fa h KX G hmg
    refine' Lw.all_mk KX G hmg ?aD0 ?lD0 ?cD0 ?kD0 ?aD1 ?lD1 ?cD1 ?kD1 ?aD2 ?lD2 ?cD2 ?kD2 ?aD3 ?lD3 ?cD3 ?kD3 ?aD4 ?lD4 ?cD4 ?kD4 ?aD5 ?lD5 ?cD5 ?kD5 ?aD6 ?lD6 ?cD6 ?kD6 ?aD7 ?lD7 ?cD7 ?kD7 ?aD8 ?lD8 ?cD8 ?kD8 ?aD9 ?lD9 ?cD9 ?kD9 ?aD10 ?lD10 ?cD10 ?kD10 ?aD11 ?lD11 ?cD11 ?kD11 ?aD12 ?lD12 ?cD12 ?kD12 ?aD13 ?lD13 ?cD13 ?kD13 ?aD14 ?lD14 ?cD14 ?kD14 ?aD15 ?lD15 ?cD15 ?kD15 ?aD16 ?lD16 ?cD16 ?kD16 ?aD17 ?lD17 ?cD17 ?kD17 ?aM0 ?iM0 ?lM0 ?cM0 ?kM0 ?aM1 ?iM1 ?lM1 ?cM1 ?kM1 ?aM2 ?iM2 ?lM2 ?cM2 ?kM2 ?aM3 ?iM3 ?lM3 ?cM3 ?kM3 ?aP0 ?gP0 ?tP0 ?rP0 ?lP0 ?cP0 ?kP0 ?aP1 ?gP1 ?tP1 ?rP1 ?lP1 ?cP1 ?kP1 ?aI ?iI ?lI ?cI ?kI ?lT ?dT ?z_int ?z_len ?z_abs ?z_range ?z_max ?z_min ?z_all ?z_repr ?z_isinstance ?z_bool ?z_str ?z_any ?pg ?hd ?po ?sa ?mk ?kcC ?nT' ?nB' ?aR ?aG ?ca ?cn ?ct' ?cm ?sI ?sB ?tyC ?isC ?sb ?sST ?x_n ?x_s ?x_t ?x_l ?x_b ?x_d ?so ?ne ?aX ?xL ?xsa ?xga ?xgg ?xno ?xin ?xt ?xk ?xeC ?xtC ?xhC ?xsC ?lX ?cX ?kX ?rrd ?rga ?rat ?rrc ?rfi ?lR ?cR ?kR
    (case aR => k_is)
    (case aD0 => k_is)
    (case lD0 => k_is)
    (case cD0 => k_is)
    (case kD0 => k_is)
    (case aD1 => k_is)
    (case lD1 => k_is)
    (case cD1 => k_is)
    (case kD1 => k_is)
    (case aD2 => k_is)
    (case lD2 => k_is)
    (case cD2 => k_is)
    (case kD2 => k_is)
    (case aD3 => k_is)
    (case lD3 => k_is)
    (case cD3 => k_is)
    (case kD3 => k_is)
    (case aD4 => k_is)
    (case lD4 => k_is)
    (case cD4 => k_is)
    (case kD4 => k_is)
    (case aD5 => k_is)
    (case lD5 => k_is)
    (case cD5 => k_is)
    (case kD5 => k_is)
    (case aD6 => k_is)
    (case lD6 => k_is)
    (case cD6 => k_is)
    (case kD6 => k_is)
    (case aD7 => k_is)
    (case lD7 => k_is)
    (case cD7 => k_is)
    (case kD7 => k_is)
    (case aD8 => k_is)
    (case lD8 => k_is)
    (case cD8 => k_is)
    (case kD8 => k_is)
    (case aD9 => k_is)
    (case lD9 => k_is)
    (case cD9 => k_is)
    (case kD9 => k_is)
    (case aD10 => k_is)
    (case lD10 => k_is)
    (case cD10 => k_is)
    (case kD10 => k_is)
    (case aD11 => k_is)
    (case lD11 => k_is)
    (case cD11 => k_is)
    (case kD11 => k_is)
    (case aD12 => k_is)
    (case lD12 => k_is)
    (case cD12 => k_is)
    (case kD12 => k_is)
    (case aD13 => k_is)
    (case lD13 => k_is)
    (case cD13 => k_is)
    (case kD13 => k_is)
    (case aD14 => k_is)
    (case lD14 => k_is)
    (case cD14 => k_is)
    (case kD14 => k_is)
    (case aD15 => k_is)
    (case lD15 => k_is)
    (case cD15 => k_is)
    (case kD15 => k_is)
    (case aD16 => k_is)
    (case lD16 => k_is)
    (case cD16 => k_is)
    (case kD16 => k_is)
    (case aD17 => k_is)
    (case lD17 => k_is)
    (case cD17 => k_is)
    (case kD17 => k_is)
    (case aM0 => k_is)
    (case iM0 => k_is)
    (case lM0 => k_is)
    (case cM0 => k_is)
    (case kM0 => k_is)
    (case aM1 => k_is)
    (case iM1 => k_is)
    (case lM1 => k_is)
    (case cM1 => k_is)
    (case kM1 => k_is)
    (case aM2 => k_is)
    (case iM2 => k_is)
    (case lM2 => k_is)
    (case cM2 => k_is)
    (case kM2 => k_is)
    (case aM3 => k_is)
    (case iM3 => k_is)
    (case lM3 => k_is)
    (case cM3 => k_is)
    (case kM3 => k_is)
    (case aP0 => k_is)
    (case gP0 => k_is)
    (case tP0 => k_is)
    (case rP0 => k_is)
    (case lP0 => k_is)
    (case cP0 => k_is)
    (case kP0 => k_is)
    (case aP1 => k_is)
    (case gP1 => k_is)
    (case tP1 => k_is)
    (case rP1 => k_is)
    (case lP1 => k_is)
    (case cP1 => k_is)
    (case kP1 => k_is)
    (case aI => k_is)
    (case iI => k_is)
    (case lI => k_is)
    (case cI => k_is)
    (case kI => k_is)
    (case lT => k_is)
    (case dT => rfl)
    (case z_int => k_is)
    (case z_len => k_is)
    (case z_abs => k_is)
    (case z_range => k_is)
    (case z_max => k_is)
    (case z_min => k_is)
    (case z_all => k_is)
    (case z_repr => k_is)
    (case z_isinstance => k_is)
    (case z_bool => k_is)
    (case z_str => k_is)
    (case z_any => k_is)
    (case pg => k_is)
    (case hd => k_is)
    (case po => k_is)
    (case sa => k_is)
    (case mk => k_is)
    (case kcC => k_is)
    (case nT' => k_is)
    (case nB' => k_is)
    (case aG => k_is)
    (case ca => k_is)
    (case cn => k_is)
    (case ct' => k_is)
    (case cm => k_is)
    (case sI => k_is)
    (case sB => k_is)
    (case tyC => k_is)
    (case isC => k_is)
    (case sb => k_is)
    (case sST => k_is)
    (case x_n => k_is)
    (case x_s => k_is)
    (case x_t => k_is)
    (case x_l => k_is)
    (case x_b => k_is)
    (case x_d => k_is)
    (case so => k_is)
    (case ne => k_is)
    (case aX => k_is)
    (case xL => k_is)
    (case xsa => k_is)
    (case xga => k_is)
    (case xgg => k_is)
    (case xno => k_is)
    (case xin => k_is)
    (case xt => k_is)
    (case xk => k_is)
    (case xeC => k_is)
    (case xtC => k_is)
    (case xhC => k_is)
    (case xsC => first | rfl | k_is)
    (case lX => k_is)
    (case cX => k_is)
    (case kX => k_is)
    (case rrd => k_is)
    (case rga => k_is)
    (case rat => k_is)
    (case rrc => k_is)
    (case rfi => k_is)
    (case lR => k_is)
    (case cR => k_is)
    (case kR => k_is)


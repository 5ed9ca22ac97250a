import PyProof.Rows.All
import Wide.All
import OpenK.AllK
import Wide.FinOn
import HandS.ForMost
import HandS.Wide
import HandS.Gcd
import HandS.IsInst
import HandS.Property
import HandS.OwnEq
import KE.KOpsOwn
import PyProof.ReprRoads
import HandS.Codes
import HandS.Defaults
import HandS.MakeKwOnly
import OpenK.KOps
import KE.KCallOwn
import PyProof.ReprDict
import PyProof.StrHeap
import HandS.MakeKw
import HandS.HotCalls
import HandS.Style
import PyProof.Rows.SortStrRead
import PyProof.Rows.ReprOcc
import PyProof.ReprLen
import PyProof.P3Eq
import HandS.FStr
import PySem.Challenge.RW_matrixforms_k02_ratios_in_lowest_terms
set_option Elab.async false
set_option linter.all false
set_option maxRecDepth 100000
set_option maxHeartbeats 8000000
/-! A layer over L2 in which it is known that no guarded builtin (repr of a container) is running around. -/
namespace MG
open PySem PySem.Spec PyProof.Rows L2

/-- nothing guarded runs around -/
def Bare (A : Around) : Prop := A.guards = some []

/-- as FnOk, called only where nothing guarded runs around -/
structure FnG (P : Program) (w : World) (K : PySem.W.Frag) (mg : Str → Option Value) (base : Heap) (CX : CXT) (k : Nat)
    (f : Addr) (fd : FuncData) (ps : List Str) (sp : Sp) : Prop where
  len : ∀ vs H Q E, sp vs H Q E → vs.length = ps.length
  run : ∀ (A : Around) (outer : List Env) (s : Shared) (H : Hp) (args : Args) (us : List Value) (vs : List V) (Q : VK) (E : XK),
    Bare A → Room k A → Env0 P w K mg base A outer s H → BindsTo s fd args (ps.zip us) → Vals vs us → sp vs H Q E →
      codeAny (model P w) A (.call (.ref f) args) (CR CX outer P w H s Q E) s

section
variable {P : Program} {w : World} {K : PySem.W.Frag} {mg : Str → Option Value} {base : Heap} {CX : CXT} {k : Nat} {f : Addr}
theorem FnG.of {fd : FuncData} {ps : List Str} {sp : Sp} (F : FnOk P w K mg base CX k f fd ps sp) : FnG P w K mg base CX k f fd ps sp :=
  ⟨F.len, fun A outer s H args us vs Q E _ => F.run A outer s H args us vs Q E⟩

theorem fnG_of {name qual : Str} {params : Arguments} {body : List Stmt} {scope : Scope} {dV kV doc pm cdv ct oc : Value} {an od : Option Addr}
    {osl : Array (Option Value)} {N ps : List Str} {sp : Sp}
    (lk : K.lookup f = some ⟨oc, od, .func (PySem.W.fnOf name qual params body scope dV kV doc pm an cdv ct), osl⟩)
    (hcd : PySem.W.codeIn K cdv qual = true) (S : FnScope N ps scope) (len : ∀ vs H Q E, sp vs H Q E → vs.length = ps.length)
    (hbody : ∀ (A : Around) (outer : List Env) (s : Shared) (H : Hp) (vs : List V) (Q : VK) (E : XK), Bare A →
      Room k (A.deeper (envOfC qual scope s.heap.objs.size f cdv)) → sp vs H Q E →
      ∃ t, PSs (cxOf CX P w K mg base N qual scope f cdv A outer s H E) body t ∧ t { nx := fun _ H' => Q .non H', rt := Q } (start N vs) H) :
    FnG P w K mg base CX (k + 1) f (PySem.W.fnOf name qual params body scope dV kV doc pm an cdv ct) ps sp := by
  refine ⟨len, ?_⟩
  intro A outer s H args us vs Q E bare hr e0 hb r hsp
  have hl := len _ _ _ _ hsp
  have inK : K.In s.heap := e0.mod.kin.keeps (fun b o e => (e0.bs b o e).left)
  have free : s.heap.NoLimit := e0.mod.nolimit.keeps (fun b o e => (e0.bs b o e).left)
  refine codeAny_call_function hr.depth (inK _ _ lk) rfl S.co S.gen rfl (PySem.W.codeRec_of inK hcd) (hb _ _ _ _ ?_)
  have kinds : ∀ y ∈ ps.zip us, scope.names.lookup y.1 = some .local ∨
      (scope.names.lookup y.1 = some .cell ∧ ((cellsFrom (s.heap.objs.size + 1) scope.names []).lookup y.1).isSome = true) := by
    rintro ⟨n, v⟩ hy
    exact (S.par n (List.of_mem_zip hy).left).imp id fun q => ⟨q, PySem.W.cellsFrom_some _ _ _ (.inl q)⟩
  refine wpAny_newFunctionEnv_cells S.kind kinds ?_
  intro env he s1 x
  subst he
  refine ⟨free.keeps x.toInCall.keep, codeAny_func ?_⟩
  obtain ⟨t, ht, hq⟩ := hbody A outer s H vs Q E bare (hr.deeper _) hsp
  have I := inv_start (CX := CX) (E := E) S hr.hd e0 hl r x
  refine wpAny_mono (ht.run [] s1 (start N vs) H _ I hq) ?_ (fun e s' hs => hs)
  intro fl s' hs
  match fl, hs with
  | .ret u, ⟨v, σ', H', J, rv, q⟩ => exact ⟨v, H', J.os, J.bare, J.base, J.hok, rv, q⟩
  | .next, ⟨σ', H', J, q⟩ => exact ⟨V.non, H', J.os, J.bare, J.base, J.hok, rfl, q⟩
  | .brk, ⟨_, _, _, q⟩ => exact False.elim q
  | .cont, ⟨_, _, _, q⟩ => exact False.elim q
end

section
variable {X : Cx} {CX : CXT} {k : Nat} {f C : Addr} {fd : FuncData} {ps : List Str} {sp : Sp} {dvs : List V} {ds : List Value} {E : XK} {x m : Str} {p pos apos : Pos} {e o : Expr} {es : List Expr} {ta : TE} {t : TA}
variable {pins : List (Addr × Obj)} {σ : L2.St} {H : Hp} {s : Shared}
theorem run_fnG {Q : VK} {us : List Value} {vs : List V} (F : FnG X.prog X.w X.K X.mg X.base CX k f fd ps sp) (bare : Bare X.A) (hr : Room k X.A)
    (hb : Binds X.K fd ps ds) (hd : Vals dvs ds) (hx : Passes CX X E) (I : Inv X pins σ H s) (r : Vals vs us) (h : sp (vs ++ dvs) H Q E) :
    wpAny (model X.prog X.w) X.A (call (.ref f) us) (EP X pins σ Q) X.xe s := by
  have r2 := r.append hd
  have hl : (us ++ ds).length = ps.length := r2.length.symm.trans (F.len _ _ _ _ h)
  refine wpAny_call (codeAny_mono (F.run X.A X.stack s H ⟨us, []⟩ _ _ Q E bare hr I.env0 (hb s us I.kIn hl) r2 h) ?_)
  intro r s' hq
  match r, hq with
  | .error e, hq => exact hx pins σ H s e s' I hq
  | .ok (.ret u), hq => exact I.after hq
  | .ok .next, hq => exact False.elim hq
  | .ok .brk, hq => exact False.elim hq
  | .ok .cont, hq => exact False.elim hq

theorem pe_callG (F : FnG X.prog X.w X.K X.mg X.base CX k f fd ps sp) (bare : Bare X.A) (hr : Room k X.A) (hg : Gl X x) (hm : X.mg x = some (.ref f))
    (hk : PySem.W.keepIn X.K (.ref f) = true) (hb : Binds X.K fd ps ds) (hd : Vals dvs ds) (hx : Passes CX X E) (ha : PA X (e :: es) t)
    (hdb : (x == ("__debug__" : Str)) = false := by decide)
    (he : starEach (e :: es) X.env = (false, eval e X.env) :: starEach es X.env := by rfl)
    (hpl : (backTo pos (starEach es X.env)).any (·.1) = false := by rfl) : PE X (.Call (.Name x p) (e :: es) [] pos) (tCall sp dvs E t) := by
  constructor
  intro pins s σ H Q I h
  refine wpAny_Call_Name_kw (ld_glob I hg hm ?_ hdb)
  refine PySem.W.callWith_K (h₀ := X.base) I.ok.mod.kin hk (thn (ha.run pos pins s σ H _ I h) ?_) he hpl
  rintro us s1 ⟨vs, H1, I1, r, q⟩
  exact ⟨I1.kIn, run_fnG F bare hr hb hd hx I1 r q⟩
end

/-- the law's call at the heap behind the top, H being what is tracked there: at most the script -/
theorem enterG {P : Program} {w : World} {K : PySem.W.Frag} {mg mb : Str → Option Value} {k : Nat} {fa a : Addr} {fd : FuncData} {x : Str} {sp : Sp}
    {s₁ : Shared} {vs : List Value} {ns : List Int} {H : Hp}
    (KX : K.In s₁.heap) (hns : s₁.heap.Ns mainGlobals mg) (hb : s₁.heap.Ns builtinsNs mb) (hbb : ∀ x : Str, x ≠ "__name__" → mb x = bootBuiltins x)
    (hlim : s₁.heap.NoLimit) (hg : s₁.gens = #[]) (ha : s₁.heap.get? a = some { cls := .type "list", data := .seq vs.toArray })
    (hr : Room k callerA) (F : ∀ base : Heap, K.In base → base.Ns mainGlobals mg → FnG P w K mg base CX0 k fa fd [x] sp)
    (hbind : ∀ (s : Shared) (u : Value), BindsTo s fd ⟨[u], []⟩ [(x, u)])
    (hO : Only H) (hok : HOk P w H s₁.heap) (hA : ∀ b, H b ≠ none → b = a) (hK : H a ≠ none → K.lookup a = none)
    (hsp : sp [.ref a] H (fun v _ => v = .bl true) fun _ _ _ => False) :
    codeAny (model P w) callerA (.call (.ref fa) ⟨[.ref a], []⟩)
      (fun r s' => r = .ok (.ret (.bool true)) ∧ OldK s₁.heap s'.heap ∧ s'.os = s₁.os ∧ AllBare s'.gens) s₁ := by
  have untr : ∀ {b : Addr}, (b = a → False) → H b = none := fun {b} hne => by
    cases q : H b with
    | none => rfl
    | some u => exact (hne (hA b (by rw [q]; exact Option.some_ne_none u))).elim
  have ns' : ∀ {b : Addr} {m : Str → Option Value}, s₁.heap.Ns b m → (hidT s₁.heap H).Ns b m := by
    rintro b m ⟨o, es, ep, e, d, r⟩
    refine ⟨o, es, ep, hidT_get e (untr fun z => ?_), d, r⟩
    subst z
    have e' := e.symm.trans ha
    cases e'
    cases d
  have inB : K.In (hidT s₁.heap H) := fun b o e => hidT_get (KX b o e) (by
    by_cases z : b = a
    · subst z
      cases q : H b with
      | none => rfl
      | some u =>
        have e2 := hK (by rw [q]; exact Option.some_ne_none u)
        exact nomatch e.symm.trans e2
    · exact untr z)
  have M : Mod K mg (hidT s₁.heap H) := by
    refine ⟨inB, ns' hns, ⟨mb, ns' hb, hbb⟩, ?_⟩
    obtain ⟨mc, h1, h2⟩ := hlim
    exact ⟨mc, ns' h1, h2⟩
  have env : Env0 P w K mg (hidT s₁.heap H) callerA [] s₁ H :=
    { frames := rfl, mod := M, bs := fun b o e => of_hidT e, bsz := Nat.le_of_eq (hidT_size _ _), funs := trivial,
      frf := (fun b z => nomatch (show b ∈ ([] : List Addr) from z)), hok := hok, bare := .of_eq hg }
  refine codeAny_mono ((F _ inB (ns' hns)).run callerA [] s₁ H ⟨[.ref a], []⟩ [.ref a] [.ref a] _ _ rfl hr env (hbind s₁ (.ref a)) (.cons rfl .nil) hsp) ?_
  intro r s' h
  match r, h with
  | .error e, h => exact False.elim h
  | .ok .next, h => exact False.elim h
  | .ok .brk, h => exact False.elim h
  | .ok .cont, h => exact False.elim h
  | .ok (.ret u), ⟨v, H', os, bare, un, hok', rv, hv⟩ =>
    have hv' : v = .bl true := hv
    subst hv'
    have hu : u = Value.bool true := rv
    subst hu
    refine ⟨rfl, OldK.of_keep ?_, os, bare⟩
    intro b o e
    cases q : H b with
    | none => exact un.keep b o e q (fun z => by cases z) (by simp)
    | some t =>
      obtain ⟨ob, xs, z⟩ := (hO b).resolve_left (by rw [q]; exact Option.some_ne_none t)
      have o1 : s₁.heap.get? b = some ob := (hok b _ z).left
      have o2 : s'.heap.get? b = some ob := (hok' b _ (un.frzs b ob _ z)).left
      rw [o2]
      exact o1.symm.trans e

theorem callG {P : Program} {w : World} {K : PySem.W.Frag} {mg mb : Str → Option Value} {k : Nat} {fa a : Addr} {fd : FuncData} {x : Str} {sp : Sp}
    {s₁ : Shared} {vs : List Value} {ns : List Int}
    (KX : K.In s₁.heap) (hns : s₁.heap.Ns mainGlobals mg) (hb : s₁.heap.Ns builtinsNs mb) (hbb : ∀ x : Str, x ≠ "__name__" → mb x = bootBuiltins x)
    (hlim : s₁.heap.NoLimit) (hg : s₁.gens = #[]) (ha : s₁.heap.get? a = some { cls := .type "list", data := .seq vs.toArray }) (hi : IntsAre vs ns)
    (hl : ns.length ≤ sizeLine) (hr : Room k callerA) (F : ∀ base : Heap, K.In base → base.Ns mainGlobals mg → FnG P w K mg base CX0 k fa fd [x] sp)
    (hbind : ∀ (s : Shared) (u : Value), BindsTo s fd ⟨[u], []⟩ [(x, u)])
    (hsp : ∀ H : Hp, Only H → SqL K H a (ns.map V.int) → sp [.ref a] H (fun v _ => v = .bl true) fun _ _ _ => False) :
    codeAny (model P w) callerA (.call (.ref fa) ⟨[.ref a], []⟩)
      (fun r s' => r = .ok (.ret (.bool true)) ∧ OldK s₁.heap s'.heap ∧ s'.os = s₁.os ∧ AllBare s'.gens) s₁ := by
  have rv := vals_ints hi
  have lv := hi.length
  by_cases hk : K.lookup a = none
  · let H0 : Hp := upd (fun _ => none) a (.frz { cls := .type "list", data := .seq vs.toArray } (.lst (ns.map V.int)))
    have h0 : ∀ b, b ≠ a → H0 b = none := fun b z => upd_ne z
    have h1 : H0 a = some (.frz { cls := .type "list", data := .seq vs.toArray } (.lst (ns.map V.int))) := upd_same
    have O : Only H0 := fun b => by
      by_cases z : b = a
      · rw [z]
        exact .inr ⟨_, _, h1⟩
      · exact .inl (h0 b z)
    refine enterG (ns := ns) KX hns hb hbb hlim hg ha hr F hbind O (fun b u z => ?_) (fun b z => ?_) (fun _ => hk) (hsp _ O (.inl (.inr ⟨_, h1⟩)))
    · by_cases hba : b = a
      · subst hba
        cases h1.symm.trans z
        exact ⟨ha, by rw [List.length_map]; exact hl, vs, _, rv, ha⟩
      · exact nomatch (h0 b hba).symm.trans z
    · by_cases hba : b = a
      · exact hba
      · exact (z (h0 b hba)).elim
  · obtain ⟨o, e⟩ := Option.ne_none_iff_exists'.mp hk
    have e2 := (KX a o e).symm.trans ha
    cases e2
    have O : Only (fun _ => none) := fun _ => .inl rfl
    refine enterG (ns := ns) KX hns hb hbb hlim hg ha hr F hbind O (fun b u z => nomatch z) (fun b z => (z rfl).elim) (fun z => (z rfl).elim) (hsp _ O (.inr ?_))
    exact ⟨_, vs.toArray, _, e, rfl, rfl, rfl, by rw [List.size_toArray, lv]; exact hl, by simpa using rv⟩

theorem walkG {l : PySem.W.OpenLaw} {n k : Nat} {q : Program} {loose : List Str} {XP : (Str → Option Value) → Heap → Prop} {YP : World → Heap → Prop} {d : DefRec}
    {K : Params → PySem.W.Frag} {sp : World → Sp} {x : Str} (hn : l.most = some n) (hn2 : n ≤ sizeLine) (hdf : d.params.defaults = []) (hr : Room k callerA)
    (hY : ∀ (w : World) (h : Heap), YP w h → (K w.params).In h)
    (F : ∀ (w : World) (mg : Str → Option Value) (fa : Addr) (h : Heap), (K w.params).In h → h.Ns mainGlobals mg → mg d.name = some (.ref fa) →
      ∃ fd : FuncData, (∀ (s : Shared) (u : Value), BindsTo s fd ⟨[u], []⟩ [(x, u)]) ∧
        ∀ base : Heap, (K w.params).In base → base.Ns mainGlobals mg → FnG l.prog w (K w.params) mg base CX0 k fa fd [x] (sp w))
    (hsp : ∀ (w : World) (H : Hp) (a : Addr) (ns : List Int), ns.length ≤ n → Only H → SqL (K w.params) H a (ns.map V.int) →
      sp w [.ref a] H (fun v _ => v = .bl true) fun _ _ _ => False) :
    PySem.W.WalkO q loose XP YP l.row.toRowW d [] (fun f vs => PySem.call f vs) := by
  refine Att.attach_call hn hdf ?_
  intro w s₀ s₁ mg mb fa o pm cd doc a vs ns G Y ho hd hcd hmg hobj hints hlen hg
  have inK := hY w _ Y
  obtain ⟨fd, hb, hF⟩ := F w mg fa _ inK G.T.g hmg
  exact callG inK G.T.g G.T.b G.T.builtins G.T.nolimit hg hobj hints (Nat.le_trans hlen hn2) hr hF hb fun H hO hS => hsp w H a ns hlen hO hS
end MG

/-! Further rules: operators of own classes, repr of data, // of any sign -/
namespace MG
open PySem PySem.Spec PyProof.Rows L2

section
variable {X : Cx}
/-- // by any divisor but 0 -/
theorem op_fdivZ : OpR X (binaryOp .FloorDiv) (rI (fun _ j => j ≠ 0 ∧ j.natAbs.log2 < 9000) fun i j => .int (i.fdiv j)) :=
  opI fun _ _ _ _ _ _ _ hc q => floordiv_int hc.1 q (.inl (PyProof.noPylong_of_log2 hc.2))

theorem rel_ni {v : V} (r : RelV v Value.notImplemented) : False := by
  cases v with
  | non => cases (show Value.notImplemented = Value.none from r)
  | bl b => cases (show Value.notImplemented = Value.bool b from r)
  | int i => obtain ⟨_, q⟩ := (show ∃ t, Value.notImplemented = Value.int i t from r); cases q
  | str i => obtain ⟨_, q⟩ := (show ∃ t, Value.notImplemented = Value.str i t from r); cases q
  | byt i => obtain ⟨_, q⟩ := (show ∃ t, Value.notImplemented = Value.bytes i t from r); cases q
  | flt i => obtain ⟨_, q⟩ := (show ∃ t, Value.notImplemented = Value.float i t from r); cases q
  | ref i => cases (show Value.notImplemented = Value.ref i from r)
  | ty i => cases (show Value.notImplemented = Value.type i from r)
theorem back_of {Q : Value → Shared → Prop} {v : V} {u : Value} {s : Shared} (r : RelV v u) (q : Q u s) : PySem.W.CmpBack Q u s := by
  cases u <;> first | exact q | exact (rel_ni r).elim

/-- what the top says of an operator's method of an own class -/
structure OpAt (K : PySem.W.Frag) (C : Addr) (op : Operator) (f : Addr) : Prop where
  first : PySem.W.selfFirst K C = true
  at_ : PySem.W.findIn K (.ref C) (PySem.dunder op.info.2) = some (some (.ref f))
  fn : PySem.W.isFn K (.ref f) = true
  ref : PySem.W.findIn K (.ref C) (dunderR op.info.2) = some none
structure OpInt (K : PySem.W.Frag) (C : Addr) (op : Operator) : Prop where
  to : ∃ fo, PySem.W.findIn K (.type "int") (PySem.dunder op.info.2) = some fo
  ro : ∃ ro, PySem.W.findIn K (.type "int") (dunderR op.info.2) = some ro
  sub : PySem.W.subIn K (.type "int") (.ref C) = some false

/-- x op y, x of the class at C, y of it too or an int -/
def rOwn (C : Addr) (sp : Sp) (E : XK) : R2 := fun x y H Q => ∃ a dx fs, x = .ref a ∧ H a = some (.ins C dx fs) ∧
  ((∃ b dy gs, y = .ref b ∧ H b = some (.ins C dy gs)) ∨ ∃ i, y = .int i) ∧ sp [x, y] H Q E
theorem op_own {CX : CXT} {k : Nat} {C f : Addr} {op : Operator} {fd : FuncData} {ps : List Str} {sp : Sp} {E : XK}
    (o : OpAt X.K C op f) (oi : OpInt X.K C op) (F : FnOk X.prog X.w X.K X.mg X.base CX k f fd ps sp) (hr : Room k X.A)
    (hb : Binds X.K fd ps []) (hx : Passes CX X E) : OpR X (binaryOp op) (rOwn C sp E) := by
  intro pins s σ H x y v u Q I rx ry h
  obtain ⟨a, dx, fs, rfl, ha, hy, hsp⟩ := h
  cases rx
  obtain ⟨mA, J, _⟩ := ins_get I.hok ha
  obtain ⟨od, J, _⟩ := J.look
  obtain ⟨m, hF⟩ := I.fr
  have call1 : wpAny (model X.prog X.w) X.A (call (.ref f) [.ref a, u]) (PySem.W.CmpBack (EP X pins σ Q)) X.xe s :=
    wpAny_mono (run_fn (vs := [.ref a, y]) F hr hb .nil hx I (.cons rfl (.cons ry .nil)) (by rw [List.append_nil]; exact hsp))
      (fun _ _ hq => match hq with | ⟨_, _, _, r, _⟩ => back_of r hq) fun _ _ e => e
  rcases hy with ⟨b, dy, gs, rfl, hb'⟩ | ⟨i, rfl⟩
  · cases ry
    obtain ⟨mB, J', _⟩ := ins_get I.hok hb'
    obtain ⟨od', J', _⟩ := J'.look
    exact PySem.W.binop_K hF I.ok.mod.kin J J'.type o.first o.at_ o.fn call1
  · obtain ⟨t, rfl⟩ := ry
    obtain ⟨fo, h1⟩ := oi.to
    obtain ⟨ro, h2⟩ := oi.ro
    exact PySem.W.ksp_binT hF I.ok.mod.kin J (T := "int") rfl o.first o.at_ o.fn o.ref (.inl rfl) h1 h2 oi.sub call1

/-- -x of an own class -/
def rNegO (C : Addr) (sp : Sp) (E : XK) : V → Hp → VK → Prop := fun x H Q => ∃ a dx fs, x = .ref a ∧ H a = some (.ins C dx fs) ∧ sp [x] H Q E
theorem un_negO {CX : CXT} {k : Nat} {C f : Addr} {fd : FuncData} {ps : List Str} {sp : Sp} {E : XK}
    (at_ : PySem.W.findIn X.K (.ref C) "__neg__" = some (some (.ref f))) (fn : PySem.W.isFn X.K (.ref f) = true)
    (F : FnOk X.prog X.w X.K X.mg X.base CX k f fd ps sp) (hr : Room k X.A) (hb : Binds X.K fd ps []) (hx : Passes CX X E) :
    UnR X (unaryOp .USub) (rNegO C sp E) := by
  intro pins s σ H x v Q I rx h
  obtain ⟨a, dx, fs, rfl, ha, hsp⟩ := h
  cases rx
  obtain ⟨mA, J, _⟩ := ins_get I.hok ha
  obtain ⟨od, J, _⟩ := J.look
  obtain ⟨m, hF⟩ := I.fr
  exact PySem.W.ksp_neg hF I.ok.mod.kin J at_ fn (run_fn (vs := [.ref a]) F hr hb .nil hx I (.cons rfl .nil) (by rw [List.append_nil]; exact hsp))

/-- x == y, x of the class at C with its own ==, y of it too -/
def rEqO (C : Addr) (sp : Sp) (E : XK) : R2 := fun x y H Q => ∃ a dx fs b dy gs, x = .ref a ∧ H a = some (.ins C dx fs) ∧ y = .ref b ∧ H b = some (.ins C dy gs) ∧ sp [x, y] H Q E
theorem op_eqO {CX : CXT} {k : Nat} {C f : Addr} {fd : FuncData} {ps : List Str} {sp : Sp} {E : XK}
    (at_ : PySem.W.findIn X.K (.ref C) "__eq__" = some (some (.ref f))) (fn : PySem.W.isFn X.K (.ref f) = true)
    (F : FnOk X.prog X.w X.K X.mg X.base CX k f fd ps sp) (hr : Room k X.A) (hb : Binds X.K fd ps []) (hx : Passes CX X E) :
    OpR X (compareOp .Eq) (rEqO C sp E) := by
  intro pins s σ H x y v u Q I rx ry h
  obtain ⟨a, dx, fs, b, dy, gs, rfl, ha, rfl, hb', hsp⟩ := h
  cases rx
  cases ry
  obtain ⟨mA, J, _⟩ := ins_get I.hok ha
  obtain ⟨od, J, _⟩ := J.look
  obtain ⟨mB, J', _⟩ := ins_get I.hok hb'
  obtain ⟨od', J', _⟩ := J'.look
  obtain ⟨m, hF⟩ := I.fr
  refine PySem.W.cmp_K (op := .Eq) (tb := .ref C) hr.units0 hF I.ok.mod.kin J J'.type (by simp [PySem.W.notFirst]) at_ fn ?_
  exact wpAny_mono (run_fn (vs := [.ref a, .ref b]) F hr hb .nil hx I (.cons rfl (.cons rfl .nil)) (by rw [List.append_nil]; exact hsp))
    (fun _ _ hq => match hq with | ⟨_, _, _, r, _⟩ => back_of r hq) fun _ _ e => e
end
end MG

namespace MG
open PySem PySem.Spec PyProof.Rows L2 PySem.Calls

section
variable {prog : Program} {w : World} {A : Around} {E : Value → Shared → Prop} {s : Shared} {K : PySem.W.Frag} {x y C L f : Addr} {h₀ : Heap} {m : Str → Option Value} {ox oy : Obj} {od oe : Option Obj}

theorem objNe_run (X : K.In s.heap) (I : PySem.W.InstAt s.heap x ox C od) (hs : PySem.W.findIn K (.ref C) "__eq__" = some (some (.ref f))) (hf : PySem.W.isFn K (.ref f) = true)
    (hu : A.units < cLine) {Q : Fin → Shared → Prop}
    (hcall : wpAny (model prog w) A (call (.ref f) [.ref x, .ref y]) (fun v s' => ∃ b, v = .bool b ∧ Q (.done (.ret (.bool (!b)))) s') E s) :
    wpAny (model prog w) A (Builtin.«object.__ne__» ⟨[.ref x, .ref y], []⟩) Q E s := by
  unfold Builtin.«object.__ne__»
  repeat (first
    | with_reducible refine wpAny_cRoomFor hu ?_
    | (refine wpAny_bind (m := callSpecialIfBound? (.ref x) (Str.ofString "__eq__") [.ref y])
        (PySem.W.ifBound_K X I hs hf (wpAny_mono hcall (fun r s' hr => ?_) fun _ _ e => e)))
    | wp_step)
  obtain ⟨b, rfl, hq⟩ := hr
  repeat (first | exact hq | exact wpAny_pure hq | exact wpAny_truthy_bool hq | (refine wpAny_bind (m := truthy (.bool _)) (wpAny_truthy_bool ?_)) | wp_step)

theorem ifBound_ne (X : K.In s.heap) (I : PySem.W.InstAt s.heap x ox C od) (hn : PySem.W.findIn K (.ref C) "__ne__" = some (some (.builtin "object.__ne__")))
    {args : List Value} {Q : Option Value → Shared → Prop}
    (h : wpAny (model prog w) A (call (.builtin "object.__ne__") (.ref x :: args)) (fun v => Q (some v)) E s) :
    wpAny (model prog w) A (callSpecialIfBound? (.ref x) "__ne__" args) Q E s := by
  have S : Slot "object" "__ne__" "object.__ne__" := PySem.F.cmp_object.ne
  have hb := S.bind
  simp only [callSpecialIfBound?, bindSpecialIfBound?]
  refine wpAny_holding (wpAny_bind (wpAny_bind (wpAny_bind (I.type.here ((PySem.W.looks_findIn X hn).here ?_)))))
  simp only [hb]
  refine wpAny_bind (wpAny_askSetting (wpAny_ite ?_))
  have fin : wpAny (model prog w) A (call (.builtin "object.__ne__") ([.ref x] ++ args) >>= fun v => pure (some v)) Q E s :=
    wpAny_bind (wpAny_mono h (fun v s' h' => wpAny_pure h') fun _ _ h' => h')
  split
  · exact wpAny_bind (wpAny_pure (wpAny_pure fin))
  · exact wpAny_tryCatch (wpAny_bind (wpAny_pure (wpAny_pure fin)))

theorem ne_K (X : K.In s.heap) (I : PySem.W.InstAt s.heap x ox C od) (I' : PySem.W.InstAt s.heap y oy C oe)
    (hn : PySem.W.findIn K (.ref C) "__ne__" = some (some (.builtin "object.__ne__"))) (hs : PySem.W.findIn K (.ref C) "__eq__" = some (some (.ref f)))
    (hf : PySem.W.isFn K (.ref f) = true) (ho : PySem.W.subIn K (.ref C) (.type "object") = some true) (hu : A.units + 1 < cLine) {Q : Value → Shared → Prop}
    (hcall : wpAny (model prog w) A.in1 (call (.ref f) [.ref x, .ref y]) (fun v s' => ∃ b, v = .bool b ∧ Q (.bool (!b)) s') E s) :
    wpAny (model prog w) A (richCompare .NotEq (.ref x) (.ref y)) Q E s := by
  have sub : PySem.W.Looks (model prog w) s.heap (isInstance (.ref x) (.type "object")) true := I.type.andThen (PySem.W.looks_subIn X ho)
  have one : wpAny (model prog w) A (tryCompare (.ref x) "__ne__" (.ref y)) (fun r s' => ∃ v, r = some v ∧ Q v s') E s := by
    simp only [tryCompare]
    refine wpAny_bind (ifBound_ne X I hn (wpAny_call (codeAny_call_builtin PySem.F.cmp_object.ne.plain PySem.F.cmpEntry_ne
      (PySem.W.check_slot PySem.F.cmpKind_ne PySem.F.cmpSplit_ne sub (PySem.F.cmpArgs_ne _ _) ?_))))
    refine objNe_run (A := A.in1) X I hs hf hu (wpAny_mono hcall (fun v s' hv => ?_) fun _ _ e => e)
    obtain ⟨b, rfl, hq⟩ := hv
    first | exact ⟨b, rfl, wpAny_pure ⟨_, rfl, hq⟩⟩ | exact ⟨b, rfl, wpAny_pure (wpAny_pure ⟨_, rfl, hq⟩)⟩ | exact ⟨b, rfl, _, rfl, hq⟩
  unfold richCompare
  simp only [oneThing_ref]
  refine wpAny_holding (wpAny_bind (wpAny_cRoomFor (Nat.lt_of_succ_lt hu) ?_))
  refine wpAny_bind (I.type.here (wpAny_bind (I'.type.here ?_)))
  rw [show (Value.ref C != Value.ref C) = false from by simp]
  simp only [Bool.false_eq_true, if_false]
  refine wpAny_bind (wpAny_pure ?_)
  simp only [Bool.false_eq_true, if_false]
  refine wpAny_bind (wpAny_mono one (fun v s' hv => ?_) fun _ _ e => e)
  obtain ⟨b, rfl, hq⟩ := hv
  exact wpAny_pure hq
end

section
variable {X : Cx}
structure NeAt (K : PySem.W.Frag) (C f : Addr) : Prop where
  ne : PySem.W.findIn K (.ref C) "__ne__" = some (some (.builtin "object.__ne__"))
  eq : PySem.W.findIn K (.ref C) "__eq__" = some (some (.ref f))
  fn : PySem.W.isFn K (.ref f) = true
  sub : PySem.W.subIn K (.ref C) (.type "object") = some true
def rNeO (C : Addr) (sp : Sp) (E : XK) : R2 := fun x y H Q => ∃ a dx fs b dy gs, x = .ref a ∧ H a = some (.ins C dx fs) ∧ y = .ref b ∧ H b = some (.ins C dy gs) ∧
  sp [x, y] H (fun v H' => ∃ c, v = .bl c ∧ Q (.bl (!c)) H') E
theorem op_neO {CX : CXT} {k : Nat} {C f : Addr} {fd : FuncData} {ps : List Str} {sp : Sp} {E : XK} (n : NeAt X.K C f)
    (F : FnOk X.prog X.w X.K X.mg X.base CX k f fd ps sp) (hr : Room (k + 1) X.A) (hb : Binds X.K fd ps []) (hx : Passes CX X E) :
    OpR X (compareOp .NotEq) (rNeO C sp E) := by
  intro pins s σ H x y v u Q I rx ry h
  obtain ⟨a, dx, fs, b, dy, gs, rfl, ha, rfl, hb', hsp⟩ := h
  cases rx
  cases ry
  obtain ⟨mA, J, _⟩ := ins_get I.hok ha
  obtain ⟨od, J, _⟩ := J.look
  obtain ⟨mB, J', _⟩ := ins_get I.hok hb'
  obtain ⟨od', J', _⟩ := J'.look
  refine ne_K I.kIn J J' n.ne n.eq n.fn n.sub (Nat.lt_trans (by omega) hr.un) ?_
  have hl := F.len _ _ _ _ hsp
  refine wpAny_call (codeAny_mono (F.run X.A.in1 X.stack s H ⟨[.ref a, .ref b], []⟩ [.ref a, .ref b] [.ref a, .ref b] _ E hr.in1 I.env0.in1 (by
    have := hb s [.ref a, .ref b] I.kIn (by simpa using hl)
    simpa using this) (.cons rfl (.cons rfl .nil)) hsp) fun r s' hq => ?_)
  match r, hq with
  | .error e, hq => exact hx pins σ H s e s' I hq
  | .ok (.ret z), hq =>
    obtain ⟨v, H', I', rv, c, rfl, q⟩ := I.after hq
    cases rv
    exact ⟨c, rfl, .bl (!c), H', I', rfl, q⟩
  | .ok .next, hq => exact False.elim hq
  | .ok .brk, hq => exact False.elim hq
  | .ok .cont, hq => exact False.elim hq

/-- repr(x) of data: None, bools, ints, texts, lists, tuples -/
def rRepr (K : PySem.W.Frag) : List V → Hp → VK → Prop := fun xs H Q => ∃ x d, xs = [x] ∧ Dp K H x d ∧ d.showable = true ∧ d.hasDict = false ∧ d.depth ≤ 60 ∧ d.shown.length ≤ sizeLine ∧ Q (.str d.shown) H
theorem call_reprD (bare : Bare X.A) (hu : X.A.units + 64 < cLine) : CallR X (.builtin "repr") (rRepr X.K) := by
  intro pins s σ H xs us Q I r h
  obtain ⟨x, d, rfl, hd, hs, hdict, hdep, hz, q⟩ := h
  cases r with
  | cons rx rn =>
    cases rn
    rename_i u
    obtain ⟨as, R⟩ := Dp.reads I d x u hd rx
    have leaf : ∀ (k : Nat), EP X pins σ Q (.str d.shown k) { s with toks := s.toks + 1 } := fun k => ⟨.str _, H, I.tok _, ⟨_, rfl⟩, q⟩
    cases R with
    | none => exact PySem.P.repr_of_none (leaf _)
    | bool b => exact PySem.P.repr_of_bool (leaf _)
    | int i t => exact PySem.P.repr_of_int (by simpa [PyData.showable] using hs) (leaf _)
    | str z t => exact PySem.P.repr_of_str (leaf _) hz
    | list h1 h2 h3 h4 => exact repr_of_reads' (.list h1 h2 h3 h4) hs (fun z => by rw [hdict] at z; cases z) bare (by omega) (fun _ _ e => e) (fun h' u tk k => ⟨.str _, H, I.kept k, ⟨_, rfl⟩, q⟩) hz
    | tuple h1 h2 h3 h4 => exact repr_of_reads' (.tuple h1 h2 h3 h4) hs (fun z => by rw [hdict] at z; cases z) bare (by omega) (fun _ _ e => e) (fun h' u tk k => ⟨.str _, H, I.kept k, ⟨_, rfl⟩, q⟩) hz
    | dict h1 h2 h3 h4 h5 => exact absurd hd nofun
end
end MG

/-! Defs as callers know them -/
namespace MG
open PySem PySem.Spec PyProof.Rows L2

/-- a def of the module that lets nothing out, as callers know it -/
structure CalG (P : Program) (w : World) (K : PySem.W.Frag) (mg : Str → Option Value) (base : Heap) (k : Nat) (x : Str) (sp : Sp) (dvs : List V) : Prop where
  ex : ∃ (f : Addr) (fd : FuncData) (ps : List Str) (ds : List Value), FnG P w K mg base CX0 k f fd ps sp ∧ mg x = some (.ref f) ∧ PySem.W.keepIn K (.ref f) = true ∧ Binds K fd ps ds ∧ Vals dvs ds
theorem pe_cg {X : Cx} {k j : Nat} {x : Str} {sp : Sp} {dvs : List V} {p pos : Pos} {e : Expr} {es : List Expr} {t : TA}
    (c : CalG X.prog X.w X.K X.mg X.base k x sp dvs) (bare : Bare X.A) (hr : Room j X.A) (hk : k ≤ j) (hg : Gl X x) (ha : PA X (e :: es) t)
    (hdb : (x == ("__debug__" : Str)) = false := by decide)
    (he : starEach (e :: es) X.env = (false, eval e X.env) :: starEach es X.env := by rfl)
    (hpl : (backTo pos (starEach es X.env)).any (·.1) = false := by rfl) : PE X (.Call (.Name x p) (e :: es) [] pos) (tCall sp dvs E0 t) := by
  obtain ⟨f, fd, ps, ds, F, hm, kp, b, d⟩ := c.ex
  exact pe_callG F bare (hr.mono hk) hg hm kp b d pass0 ha hdb he hpl

section
variable {P : Program} {w : World} {K : PySem.W.Frag} {mg : Str → Option Value} {base : Heap}
/-- its body, as a term of rules, and the reading of that term -/
theorem fun_okG {x qual : Str} {st : Stmt} {f : Addr} {fd : FuncData} {N ps : List Str} {k : Nat} {sp : Sp} (F : Fun K x qual st f fd) (S : FnScope N ps (defScope st)) (len : ∀ vs H Q E, sp vs H Q E → vs.length = ps.length)
    (hbody : ∀ (cdv : Value) (A : Around) (outer : List Env) (s : Shared) (H : Hp) (vs : List V) (Q : VK) (E : XK), Bare (A.deeper (envOfC qual (defScope st) s.heap.objs.size f cdv)) →
      Room k (A.deeper (envOfC qual (defScope st) s.heap.objs.size f cdv)) → sp vs H Q E →
      ∃ t, PSs (cxOf CX0 P w K mg base N qual (defScope st) f cdv A outer s H E).nox (defBody st) t ∧ t { nx := fun _ H' => Q .non H', rt := Q } (start N vs) H) : FnG P w K mg base CX0 (k + 1) f fd ps sp := by
  obtain ⟨oc, od, kV, doc, pm, an, cdv, ct, osl, rfl, lk, hcd⟩ := F.ex
  refine fnG_of lk hcd S len ?_
  intro A outer s H vs Q E bare hr hsp
  obtain ⟨t, h, q⟩ := hbody cdv A outer s H vs Q E bare hr hsp
  exact ⟨t, h.nox, q⟩
theorem calG_of {x qual : Str} {st : Stmt} {f : Addr} {fd : FuncData} {N ps : List Str} {k : Nat} {sp : Sp} (F : Fun K x qual st f fd) (hm : mg x = some (.ref f)) (b : Binds K fd ps []) (S : FnScope N ps (defScope st)) (len : ∀ vs H Q E, sp vs H Q E → vs.length = ps.length)
    (hbody : ∀ (cdv : Value) (A : Around) (outer : List Env) (s : Shared) (H : Hp) (vs : List V) (Q : VK) (E : XK), Bare (A.deeper (envOfC qual (defScope st) s.heap.objs.size f cdv)) →
      Room k (A.deeper (envOfC qual (defScope st) s.heap.objs.size f cdv)) → sp vs H Q E →
      ∃ t, PSs (cxOf CX0 P w K mg base N qual (defScope st) f cdv A outer s H E).nox (defBody st) t ∧ t { nx := fun _ H' => Q .non H', rt := Q } (start N vs) H) : CalG P w K mg base (k + 1) x sp [] :=
  ⟨f, fd, ps, [], fun_okG F S len hbody, hm, F.kp, b, .nil⟩
end

/-- the same where nothing need be known of what runs around -/
structure CalF (P : Program) (w : World) (K : PySem.W.Frag) (mg : Str → Option Value) (base : Heap) (k : Nat) (x : Str) (sp : Sp) (dvs : List V) : Prop where
  ex : ∃ (f : Addr) (fd : FuncData) (ps : List Str) (ds : List Value), FnOk P w K mg base CX0 k f fd ps sp ∧ mg x = some (.ref f) ∧ PySem.W.keepIn K (.ref f) = true ∧ Binds K fd ps ds ∧ Vals dvs ds
theorem pe_cf {X : Cx} {k j : Nat} {x : Str} {sp : Sp} {dvs : List V} {p pos : Pos} {e : Expr} {es : List Expr} {t : TA}
    (c : CalF X.prog X.w X.K X.mg X.base k x sp dvs) (hr : Room j X.A) (hk : k ≤ j) (hg : Gl X x) (ha : PA X (e :: es) t)
    (hdb : (x == ("__debug__" : Str)) = false := by decide)
    (he : starEach (e :: es) X.env = (false, eval e X.env) :: starEach es X.env := by rfl)
    (hpl : (backTo pos (starEach es X.env)).any (·.1) = false := by rfl) : PE X (.Call (.Name x p) (e :: es) [] pos) (tCall sp dvs E0 t) := by
  obtain ⟨f, fd, ps, ds, F, hm, kp, b, d⟩ := c.ex
  exact pe_call F (hr.mono hk) hg hm kp b d pass0 ha hdb he hpl
/-- a class that may be made by its name; sp: its __init__ -/
structure MakF (P : Program) (w : World) (K : PySem.W.Frag) (mg : Str → Option Value) (base : Heap) (k : Nat) (x : Str) (C : Addr) (sp : Sp) (dvs : List V) : Prop where
  ex : ∃ (f : Addr) (fd : FuncData) (ps : List Str) (ds : List Value), Mk K C f ∧ FnOk P w K mg base CX0 k f fd ps sp ∧ mg x = some (.ref C) ∧ Binds K fd ps ds ∧ Vals dvs ds
theorem pe_mkf {X : Cx} {k j : Nat} {x : Str} {C : Addr} {sp : Sp} {dvs : List V} {p pos : Pos} {e : Expr} {es : List Expr} {t : TA}
    (c : MakF X.prog X.w X.K X.mg X.base k x C sp dvs) (hr : Room j X.A) (hk : k + 1 ≤ j) (hg : Gl X x) (ha : PA X (e :: es) t)
    (hdb : (x == ("__debug__" : Str)) = false := by decide)
    (he : starEach (e :: es) X.env = (false, eval e X.env) :: starEach es X.env := by rfl)
    (hpl : (backTo pos (starEach es X.env)).any (·.1) = false := by rfl) : PE X (.Call (.Name x p) (e :: es) [] pos) (tMake C sp dvs E0 t) := by
  obtain ⟨f, fd, ps, ds, M, F, hm, b, d⟩ := c.ex
  exact pe_make M F (hr.mono hk) hg hm b d pass0 ha hdb he hpl
/-- one value by place, one by name -/
def one1 {α : Type} : List α → List α → List α
  | [a], [b] => [a, b]
  | _, _ => []
/-- o.m(k = v, ..) -/
def tMethK (C : Addr) (m : Str) (sp : Sp) (gV : List V → List V → List V) (E : XK) (ta : TE) (tk : TA) : TE := fun σ H Q => ta σ H fun x H1 =>
  ∃ a dx fs, x = .ref a ∧ H1 a = some (.ins C dx fs) ∧ fs.lookup m = none ∧ tk σ H1 fun zs H2 => sp (gV [x] zs) H2 Q E
theorem pe_methK0 {X : Cx} {CX : CXT} {k : Nat} {f C : Addr} {fd : FuncData} {ps ks : List Str} {sp : Sp} {E : XK} {m : Str} {pos apos : Pos} {o : Expr} {kws : List Keyword} {ta : TE} {tk : TA}
    {g : List Value → List Value → List Value} {gV : List V → List V → List V} {pl : Sem Bool}
    (he : PE X o ta) (c : Cls X.K C) (hm : Meth X.K C m f) (F : FnOk X.prog X.w X.K X.mg X.base CX k f fd ps sp) (hr : Room k X.A) (hb : KBinds X.K fd ps ks g gV) (hx : Passes CX X E) (hkw : PK X kws tk)
    (hall : (backToKw pos (keywordEach kws X.env)).all (·.1.isSome) = true := by rfl) (hks : (backToKw pos (keywordEach kws X.env)).filterMap (·.1) = ks := by rfl)
    (hpl : ((backTo pos (starEach [] X.env)).any (·.1) || (backToKw pos (keywordEach kws X.env)).any (·.1.isNone)) = false := by rfl)
    (ht : eval (.Call (.Attribute o m apos) [] kws pos) X.env = (do
      let ov ← eval o X.env
      standAt apos.atName
      let (f, first) ← holding [ov] (getMethod ov m pl)
      callWith pos f first (backTo pos (starEach [] X.env)) (backToKw pos (keywordEach kws X.env))) := by rfl) :
    PE X (.Call (.Attribute o m apos) [] kws pos) (tMethK C m sp gV E ta tk) := by
  constructor
  intro pins s σ H Q I h
  refine PySem.W.methodCall_KW (pl := pl) (thn (he.run pins s σ H _ I h) ?_) ht
  rintro u s1 ⟨x, H1, I1, rx, a, dx, fs, ex, ea, l, q⟩
  subst ex
  have eu : u = Value.ref a := rx
  subst eu
  refine getmeth_ok I1 ea c hm l ?_
  refine PySem.W.callWith_KW0 (h₀ := X.base) I.ok.mod.kin hm.kp hall (thn (hkw.run pos pins s1 σ H1 _ I1 q) ?_) hpl
  rintro ws s2 ⟨zs, H2, I2, rz, q2⟩
  refine ⟨I2.kIn, ?_⟩
  rw [hks]
  exact run_fnk (us := [.ref a]) (vs := [.ref a]) F hr hb hx I2 (.cons rfl .nil) rz q2

/-! ### operators, properties and methods of a class, as callers know them -/
section
variable (P : Program) (w : World) (K : PySem.W.Frag) (mg : Str → Option Value) (base : Heap) (k : Nat) (C : Addr)
structure OpF (op : Operator) (sp : Sp) : Prop where
  ex : ∃ (f : Addr) (fd : FuncData) (ps : List Str), OpAt K C op f ∧ OpInt K C op ∧ FnOk P w K mg base CX0 k f fd ps sp ∧ Binds K fd ps []
structure NegF (sp : Sp) : Prop where
  ex : ∃ (f : Addr) (fd : FuncData) (ps : List Str), PySem.W.findIn K (.ref C) "__neg__" = some (some (.ref f)) ∧ PySem.W.isFn K (.ref f) = true ∧ FnOk P w K mg base CX0 k f fd ps sp ∧ Binds K fd ps []
structure EqF (sp : Sp) : Prop where
  ex : ∃ (f : Addr) (fd : FuncData) (ps : List Str), NeAt K C f ∧ FnOk P w K mg base CX0 k f fd ps sp ∧ Binds K fd ps []
structure PropF (x : Str) (sp : Sp) : Prop where
  ex : ∃ (p g : Addr) (fd : FuncData) (ps : List Str), PropOf K C x p g ∧ FnOk P w K mg base CX0 k g fd ps sp ∧ Binds K fd ps []
structure MetF (m : Str) (sp : Sp) (dvs : List V) : Prop where
  ex : ∃ (f : Addr) (fd : FuncData) (ps : List Str) (ds : List Value), Meth K C m f ∧ FnOk P w K mg base CX0 k f fd ps sp ∧ Binds K fd ps ds ∧ Vals dvs ds
structure MetK (m : Str) (sp : Sp) (ks : List Str) (gV : List V → List V → List V) : Prop where
  ex : ∃ (f : Addr) (fd : FuncData) (ps : List Str) (g : List Value → List Value → List Value), Meth K C m f ∧ FnOk P w K mg base CX0 k f fd ps sp ∧ KBinds K fd ps ks g gV
end
section
variable {X : Cx} {k j : Nat} {C : Addr} {sp : Sp} {op : Operator}
theorem op_f (o : OpF X.prog X.w X.K X.mg X.base k C op sp) (hr : Room j X.A) (hk : k ≤ j) : OpR X (binaryOp op) (rOwn C sp E0) := by
  obtain ⟨f, fd, ps, a, i, F, b⟩ := o.ex
  exact op_own a i F (hr.mono hk) b pass0
theorem un_f (o : NegF X.prog X.w X.K X.mg X.base k C sp) (hr : Room j X.A) (hk : k ≤ j) : UnR X (unaryOp .USub) (rNegO C sp E0) := by
  obtain ⟨f, fd, ps, a, i, F, b⟩ := o.ex
  exact un_negO a i F (hr.mono hk) b pass0
theorem eq_f (o : EqF X.prog X.w X.K X.mg X.base k C sp) (hr : Room j X.A) (hk : k ≤ j) : OpR X (compareOp .Eq) (rEqO C sp E0) := by
  obtain ⟨f, fd, ps, n, F, b⟩ := o.ex
  exact op_eqO n.eq n.fn F (hr.mono hk) b pass0
theorem ne_f (o : EqF X.prog X.w X.K X.mg X.base k C sp) (hr : Room j X.A) (hk : k + 1 ≤ j) : OpR X (compareOp .NotEq) (rNeO C sp E0) := by
  obtain ⟨f, fd, ps, n, F, b⟩ := o.ex
  exact op_neO n F (hr.mono hk) b pass0
theorem pe_pf {x : Str} {e : Expr} {pos : Pos} {ta : TE} (o : PropF X.prog X.w X.K X.mg X.base k C x sp) (c : Cls X.K C) (hr : Room j X.A) (hk : k + 1 ≤ j) (he : PE X e ta)
    (hab : attributeBase e x X.env (eval e X.env) = eval e X.env) : PE X (.Attribute e x pos) (tProp C sp [] E0 ta) := by
  obtain ⟨p, g, fd, ps, hp, F, b⟩ := o.ex
  exact pe_prop he c hp F (hr.mono hk) b .nil pass0 hab
theorem pe_mf {m : Str} {pos apos : Pos} {o : Expr} {e : Expr} {es : List Expr} {dvs : List V} {ta : TE} {t : TA} {pl : Sem Bool} (c : MetF X.prog X.w X.K X.mg X.base k C m sp dvs) (cl : Cls X.K C) (hr : Room j X.A) (hk : k ≤ j) (he : PE X o ta) (ha : PA X (e :: es) t)
    (hst : starEach (e :: es) X.env = (false, eval e X.env) :: starEach es X.env := by rfl) (hpl : (backTo pos (starEach es X.env)).any (·.1) = false := by rfl)
    (ht : eval (.Call (.Attribute o m apos) (e :: es) [] pos) X.env = (do
      let ov ← eval o X.env
      standAt apos.atName
      let (f, first) ← holding [ov] (getMethod ov m pl)
      callWith pos f first (backTo pos (starEach (e :: es) X.env)) (backToKw pos (keywordEach [] X.env))) := by rfl) :
    PE X (.Call (.Attribute o m apos) (e :: es) [] pos) (tMeth C m sp dvs E0 ta t) := by
  obtain ⟨f, fd, ps, ds, M, F, b, d⟩ := c.ex
  exact pe_meth (pl := pl) he cl M F (hr.mono hk) b d pass0 ha hst hpl ht
end
/-! ### joining the ways -/
/-- what holds of the value is said once for all ways -/
def tCut (te : TE) : TE := fun σ H Q => ∃ C : VK, te σ H C ∧ ∀ v H', C v H' → Q v H'
theorem pe_cut {X : Cx} {e : Expr} {te : TE} (h : PE X e te) : PE X e (tCut te) := by
  constructor
  rintro pins s σ H Q I ⟨C, h1, h2⟩
  refine wpAny_mono (h.run pins s σ H C I h1) ?_ fun _ _ z => z
  rintro u s' ⟨v, H', J, r, q⟩
  exact ⟨v, H', J, r, h2 v H' q⟩
/-- what holds behind a statement is said once for all ways -/
def tCutS (ts : TS) : TS := fun D σ H => ∃ C : L2.St → Hp → Prop, ts { D with nx := C } σ H ∧ ∀ σ' H', C σ' H' → D.nx σ' H'
theorem ps_cut {X : Cx} {st : Stmt} {ts : TS} (h : PS X st ts) : PS X st (tCutS ts) := by
  constructor
  rintro pins s σ H D I ⟨C, h1, h2⟩
  refine wpAny_mono (h.run pins s σ H { D with nx := C } I h1) ?_ fun _ _ z => z
  intro f s' q
  cases f with
  | next =>
    obtain ⟨σ', H', J, q⟩ := q
    exact ⟨σ', H', J, h2 σ' H' q⟩
  | ret u => exact q
  | brk => exact q
  | cont => exact q

/-! ### isinstance, from what the top says -/
theorem kit_rt {K : PySem.W.Frag} {C : Addr} {T : String} {b : Bool} (hm : PySem.W.kitMeta T = true) (h : PySem.W.subIn K (.ref C) (.type T) = some b) : PySem.W.kitOne K (.ref C) (.type T) = some b := by
  have e : (Value.ref C == Value.type T) = false := beq_eq_false_iff_ne.mpr nofun
  unfold PySem.W.kitOne
  rw [e]
  show (if PySem.W.kitMeta T = true then PySem.W.subIn K (.ref C) (.type T) else none) = some b
  rw [if_pos hm, h]
theorem kit_tr {K : PySem.W.Frag} {C : Addr} {T : String} {b : Bool} (h1 : PySem.W.isClsIn K C = true) (h2 : PySem.W.typeIn K (.ref C) = some (.type "type")) (h : PySem.W.subIn K (.type T) (.ref C) = some b) : PySem.W.kitOne K (.type T) (.ref C) = some b := by
  have e : (Value.type T == Value.ref C) = false := beq_eq_false_iff_ne.mpr nofun
  unfold PySem.W.kitOne
  rw [e]
  show (if ((PySem.W.clsIn K C).isSome && PySem.W.typeIn K (.ref C) == some (.type "type")) = true then PySem.W.subIn K (.type T) (.ref C) else none) = some b
  have h1' : (PySem.W.clsIn K C).isSome = true := h1
  rw [h1', h2, if_pos (by simp), h]
theorem kit_rr {K : PySem.W.Frag} {C : Addr} : PySem.W.kitOne K (.ref C) (.ref C) = some true := by
  unfold PySem.W.kitOne
  rw [if_pos (by simp)]

/-! ### comprehensions, item by item -/
theorem pe_imp {X : Cx} {e : Expr} {t t' : TE} (h : PE X e t) (hi : ∀ σ H Q, t' σ H Q → t σ H Q) : PE X e t' :=
  ⟨fun pins s σ H Q I q => h.run pins s σ H Q I (hi σ H Q q)⟩
theorem ps_imp {X : Cx} {st : Stmt} {t t' : TS} (h : PS X st t) (hi : ∀ D σ H, t' D σ H → t D σ H) : PS X st t' :=
  ⟨fun pins s σ H D I q => h.run pins s σ H D I (hi D σ H q)⟩
/-- [e for x in l], x in slot j: ys are the items of the new list -/
def tMapL (K : PySem.W.Frag) (j : Nat) (tl te : TE) : TE := fun σ H Q => tl σ H fun x H1 => ∃ a xs ys, x = .ref a ∧ SqL K H1 a xs ∧ ys.length = xs.length ∧ xs.length ≤ 100000 ∧
  (∀ (i : Nat) (x y : V) (H' : Hp), xs[i]? = some x → ys[i]? = some y → Same H1 H' → te ((σ.set j none).set j (some x)) H' fun v H'' => v = y ∧ Same H' H'') ∧
  ∀ D H', Same H1 H' → H1 D = none → H' D = some (.lst ys) → Q (.ref D) H'
/-- the same over range(..) -/
def tMapR (j : Nat) (ta : TA) (te : TE) : TE := fun σ H Q => ta σ H fun vs H1 => ∃ (m : Int) (ys : List V), vs = [.int m] ∧ 0 ≤ m ∧ m ≤ 100000 ∧ (ys.length : Int) = m ∧
  (∀ (i : Nat) (y : V) (H' : Hp), ys[i]? = some y → Same H1 H' → te ((σ.set j none).set j (some (.int i))) H' fun v H'' => v = y ∧ Same H' H'') ∧
  ∀ D H', Same H1 H' → H1 D = none → H' D = some (.lst ys) → Q (.ref D) H'
theorem take_one {α : Type} {l : List α} {i : Nat} {x : α} (h : l[i]? = some x) : l.take (i + 1) = l.take i ++ [x] := by
  rw [List.take_succ, h]
  rfl
theorem wipe_one {σ : L2.St} {j : Nat} {x : V} : wipe ((wipe σ [j]).set j (some x)) [j] = wipe σ [j] := by
  show (((σ.set j none).set j (some x)).set j none) = σ.set j none
  rw [List.set_set, List.set_set]
theorem map_core {K : PySem.W.Frag} {te : TE} (mono : ∀ σ H Q Q', (∀ v H', Q v H' → Q' v H') → te σ H Q → te σ H Q') {j : Nat} {σ : L2.St} {H1 : Hp} {Q : VK} {a : Addr} {xs ys : List V} (hl : SqL K H1 a xs) (hn : ys.length = xs.length) (hs : xs.length ≤ 100000)
    (he : ∀ (i : Nat) (x y : V) (H' : Hp), xs[i]? = some x → ys[i]? = some y → Same H1 H' → te ((σ.set j none).set j (some x)) H' fun v H'' => v = y ∧ Same H' H'')
    (k : ∀ D H', Same H1 H' → H1 D = none → H' D = some (.lst ys) → Q (.ref D) H') :
    tLc (fun _ H R => R (Itl K a) H) (gName j) tYes te [j] σ H1 Q := by
  intro D hD
  refine lc_list (K := K) (a := a) (xs := xs) (fun i H' => Same H1 H' ∧ H' D = some (.lst (ys.take i))) ⟨fun c u h => by rw [upd_ne (ne_of_none h hD)]; exact h, upd_same⟩ (fun i H' _ h => h.1.seq hl) ?_ ?_
  · rintro i x H' hi ⟨s, e⟩
    have hi2 : i < xs.length := (List.getElem?_eq_some_iff.mp hi).1
    have hy : ys[i]? = some ys[i] := List.getElem?_eq_getElem (by omega)
    refine ⟨wipe_one, mono _ _ _ _ ?_ (he i x _ H' hi hy s)⟩
    rintro v H2 ⟨rfl, s2⟩
    refine ⟨_, s2 _ _ e, ?_, ?_, ?_⟩
    · rw [List.length_take]
      exact Nat.lt_of_le_of_lt (m := 100000) (by omega) (by decide)
    · intro c o hc
      rw [upd_ne (ne_of_none hc hD)]
      exact s2 _ _ (s _ _ hc)
    · rw [upd_same, take_one hy]
  · rintro H' ⟨s, e⟩
    rw [← hn, List.take_length] at e
    exact k D H' s hD e
theorem tCut_mono {te : TE} : ∀ σ H (Q Q' : VK), (∀ v H', Q v H' → Q' v H') → tCut te σ H Q → tCut te σ H Q' :=
  fun _ _ _ _ hq ⟨C, h1, h2⟩ => ⟨C, h1, fun v H' c => hq v H' (h2 v H' c)⟩
theorem tl_core {K : PySem.W.Frag} {tl te : TE} {j : Nat} {σ : L2.St} {H : Hp} {Q : VK} (q : tMapL K j tl te σ H Q) : tLc (iList K (tCut tl)) (gName j) tYes (tCut te) [j] σ H Q := by
  refine ⟨_, q, ?_⟩
  rintro v H1 ⟨a, xs, ys, rfl, hl, hn, hs, he, k⟩
  exact ⟨a, rfl, ⟨_, hl⟩, map_core tCut_mono hl hn hs (fun i x y H' h1 h2 h3 => ⟨_, he i x y H' h1 h2 h3, fun _ _ c => c⟩) k⟩
theorem pe_map {X : Cx} {K : PySem.W.Frag} {e : Expr} {tl te : TE} {j : Nat} (h : PE X e (tLc (iList K (tCut tl)) (gName j) tYes (tCut te) [j])) : PE X e (tMapL K j tl te) :=
  pe_imp h fun _ _ _ => tl_core
theorem ps_map {X : Cx} {K : PySem.W.Frag} {st : Stmt} {tl te : TE} {j i : Nat} (h : PS X st (tAsg (tLc (iList K (tCut tl)) (gName j) tYes (tCut te) [j]) (gName i))) : PS X st (tAsg (tMapL K j tl te) (gName i)) :=
  ps_imp h fun _ _ _ => tl_core
/-- arguments, cut -/
def tCutA (ta : TA) : TA := fun σ H Q => ∃ C : List V → Hp → Prop, ta σ H C ∧ ∀ vs H', C vs H' → Q vs H'
theorem map_coreR {te : TE} {j : Nat} {σ : L2.St} {H1 : Hp} {Q : VK} {m : Nat} {ys : List V} (hn : ys.length = m) (hs : m ≤ 100000)
    (he : ∀ (i : Nat) (y : V) (H' : Hp), ys[i]? = some y → Same H1 H' → te ((σ.set j none).set j (some (.int i))) H' fun v H'' => v = y ∧ Same H' H'')
    (k : ∀ D H', Same H1 H' → H1 D = none → H' D = some (.lst ys) → Q (.ref D) H') :
    tLc (fun _ H R => R (Itr 0 m) H) (gName j) tYes (tCut te) [j] σ H1 Q := by
  intro D hD
  refine lc_range (lo := 0) (n := m) (fun i H' => Same H1 H' ∧ H' D = some (.lst (ys.take i))) ⟨fun c u h => by rw [upd_ne (ne_of_none h hD)]; exact h, upd_same⟩ ?_ ?_
  · rintro i H' hi ⟨s, e⟩
    have hy : ys[i]? = some ys[i] := List.getElem?_eq_getElem (by omega)
    have e0 : (0 : Int) + (i : Int) = i := Int.zero_add _
    rw [e0]
    refine ⟨wipe_one, _, he i _ H' hy s, ?_⟩
    rintro v H2 ⟨rfl, s2⟩
    refine ⟨_, s2 _ _ e, ?_, ?_, ?_⟩
    · rw [List.length_take]
      exact Nat.lt_of_le_of_lt (m := 100000) (by omega) (by decide)
    · intro c o hc
      rw [upd_ne (ne_of_none hc hD)]
      exact s2 _ _ (s _ _ hc)
    · rw [upd_same, take_one hy]
  · rintro H' ⟨s, e⟩
    rw [← hn, List.take_length] at e
    exact k D H' s hD e
theorem pe_mapR {X : Cx} {e : Expr} {ta : TA} {te : TE} {j : Nat} (mono : ∀ σ H (Q Q' : List V → Hp → Prop), (∀ v H', Q v H' → Q' v H') → ta σ H Q → ta σ H Q')
    (h : PE X e (tLc (iRng1 ta) (gName j) tYes (tCut te) [j])) : PE X e (tMapR j ta te) := by
  refine pe_imp h fun σ H Q q => ?_
  refine mono σ H _ _ ?_ q
  rintro vs H1 ⟨m, ys, rfl, h0, hm, hn, he, k⟩
  exact ⟨m, rfl, by omega, by omega, map_coreR (by omega) (by omega) he k⟩

/-! ### within a comprehension: the written part by its name -/
theorem call_reprK {X : Cx} {K : PySem.W.Frag} (bare : Bare X.A) (hu : X.A.units + 64 < cLine) (hK : X.K = K := by rfl) : CallR X (.builtin "repr") (rRepr K) := hK ▸ call_reprD bare hu
theorem ix_listK {X : Cx} {K : PySem.W.Frag} (hK : X.K = K := by rfl) : IxR X (rIxL K) := hK ▸ ix_list
theorem ix_tupK {X : Cx} {K : PySem.W.Frag} (hK : X.K = K := by rfl) : IxR X (rIxT K) := hK ▸ ix_tup
theorem call_isiK {X : Cx} {K : PySem.W.Frag} (hK : X.K = K := by rfl) : CallR X (.builtin "isinstance") (rIsi K) := hK ▸ call_isi

/-! ### heaps: all that was tracked stays, but for the list at q -/
def Keep (q : Addr) (H H' : Hp) : Prop := ∀ b o, H b = some o → b ≠ q → H' b = some o
theorem Keep.refl {q : Addr} {H : Hp} : Keep q H H := fun _ _ h _ => h
theorem Keep.trans {q : Addr} {H H1 H2 : Hp} (a : Keep q H H1) (b : Keep q H1 H2) : Keep q H H2 := fun c o h n => b c o (a c o h n) n
theorem Keep.upd {q : Addr} {H H' : Hp} {o : HO} (a : Keep q H H') : Keep q H (L2.upd H' q o) := fun c u h n => by rw [upd_ne n]; exact a c u h n
theorem Keep.new {q p : Addr} {H H' : Hp} {o : HO} (a : Keep q H H') (hp : H' p = none) : Keep q H (L2.upd H' p o) := fun c u h n => by
  have e := a c u h n
  rw [upd_ne (ne_of_none e hp)]
  exact e
theorem Keep.same {q : Addr} {H H1 H2 : Hp} (a : Keep q H H1) (b : Same H1 H2) : Keep q H H2 := fun c o h n => b c o (a c o h n)
theorem Same.keep {q : Addr} {H H' : Hp} (a : Same H H') : Keep q H H' := fun c o h _ => a c o h
theorem Same.new {p : Addr} {H H' : Hp} {o : HO} (a : Same H H') (hp : H' p = none) : Same H (L2.upd H' p o) := fun c u h => by
  have e := a c u h
  rw [upd_ne (ne_of_none e hp)]
  exact e
theorem Keep.toSame {q : Addr} {H H' : Hp} (a : Keep q H H') (hq : H q = none) : Same H H' := fun c o h => a c o h (ne_of_none h hq)
theorem Keep.free {q p : Addr} {H H' : Hp} (a : Keep q H H') (hne : p ≠ q) (h : H' p = none) : H p = none := by
  cases e : H p with
  | none => rfl
  | some o => exact nomatch h.symm.trans (a p o e hne)
theorem pe_mk_ {X : Cx} {k j : Nat} {C : Addr} {sp : Sp} {m : Str} {pos apos : Pos} {o : Expr} {kws : List Keyword} {ks : List Str} {gV : List V → List V → List V} {ta : TE} {tk : TA} {pl : Sem Bool}
    (c : MetK X.prog X.w X.K X.mg X.base k C m sp ks gV) (cl : Cls X.K C) (hr : Room j X.A) (hk : k ≤ j) (he : PE X o ta) (hkw : PK X kws tk)
    (hall : (backToKw pos (keywordEach kws X.env)).all (·.1.isSome) = true := by rfl) (hks : (backToKw pos (keywordEach kws X.env)).filterMap (·.1) = ks := by rfl)
    (hpl : ((backTo pos (starEach [] X.env)).any (·.1) || (backToKw pos (keywordEach kws X.env)).any (·.1.isNone)) = false := by rfl)
    (ht : eval (.Call (.Attribute o m apos) [] kws pos) X.env = (do
      let ov ← eval o X.env
      standAt apos.atName
      let (f, first) ← holding [ov] (getMethod ov m pl)
      callWith pos f first (backTo pos (starEach [] X.env)) (backToKw pos (keywordEach kws X.env))) := by rfl) :
    PE X (.Call (.Attribute o m apos) [] kws pos) (tMethK C m sp gV E0 ta tk) := by
  obtain ⟨f, fd, ps, g, M, F, b⟩ := c.ex
  exact pe_methK0 (pl := pl) he cl M F (hr.mono hk) b pass0 hkw hall hks hpl ht
end MG

/-! str, repr and bool of an own instance -/
namespace MG
open PySem PySem.Spec PyProof.Rows L2

section
variable {prog : Program} {w : World} {A : Around} {E : Value → Shared → Prop} {s : Shared} {K : PySem.W.Frag} {x C f : Addr} {ox : Obj} {od : Option Obj} {m : Str → Option Value} {L : Addr} {h₀ : Heap}
open Builtin in
theorem bool_own {Q : Value → Shared → Prop} (F : Fr h₀ L s.heap m) (X₀ : K.In h₀) (I : PySem.W.InstAt s.heap x ox C od)
    (hs : PySem.W.findIn K (.ref C) "__bool__" = some (some (.ref f))) (hf : PySem.W.isFn K (.ref f) = true)
    (h : wpAny (model prog w) A.in1.in1 (call (.ref f) [.ref x]) (fun v s' => ∃ b, v = .bool b ∧ Q (.bool b) s') E s) :
    wpAny (model prog w) A (call (.type "bool") [.ref x]) Q E s := by
  refine callType_codes (T := "bool") (Bi := Builtin.«object.__init__») (Q₁ := fun r s₁ => ∃ b, r = .bool b ∧ Q r s₁) PySem.F.called_bool (PySem.F.typeCall_bool_1 _) PySem.F.entry_object_init ?_ ?_
  · refine codeAny_of_tree ?_
    show wpAny _ A.in1.in1 (do checkBuiltinCall "bool.__new__" ⟨[.type "bool", .ref x], []⟩; again (.builtin "bool.__new__" ⟨[.type "bool", .ref x], []⟩)) _ _ s
    refine wpAny_bind (wpAny_of_eq (PySem.F.newCall_bool_1 _) (wpAny_pure ⟨plainId_quiet (by decide +kernel) _, codeAny_builtin PySem.F.entry_bool_new ?_⟩))
    rw [Around.under_plainId (by decide +kernel) _]
    have f1 := PySem.F.conv_sub_bool
    have tr : ∀ {R : Bool → Shared → Prop}, (∀ b s', Q (.bool b) s' → R b s') → wpAny (model prog w) A.in1.in1 (truthy (.ref x)) R E s := fun {R} hr =>
      PySem.W.truthy_K F X₀ I hs hf (wpAny_mono h (fun v s' z => match v, z with | _, ⟨b, rfl, q⟩ => hr b s' q) fun _ _ z => z)
    unfold Builtin.«bool.__new__»
    repeat (any_goals (first | assumption | (refine wpAny_bind (m := truthy (.ref x)) (tr fun b s' q => ?_)) | wp_step))
    all_goals first | exact wpAny_pure ⟨_, rfl, q⟩ | exact ⟨_, rfl, q⟩ | skip
  · rintro obj s₁ ⟨b, rfl, hq⟩
    exact ⟨PySem.typeIs_bool _ _, PySem.F.args_object_init_2 _ _, object_init_meets PySem.F.called_bool.init.lookup PySem.F.called_bool.made (by decide) prog w A.in1 _ s₁ ⟨PySem.typeIs_bool _ _, rfl, hq⟩⟩
end

section
variable {X : Cx} {CX : CXT} {k : Nat} {C f a : Addr} {fd : FuncData} {ps : List Str} {sp : Sp} {E : XK} {pins : List (Addr × Obj)} {σ : L2.St} {H : Hp} {s : Shared} {Q : VK}
/-- the callee, below a builtin -/
theorem run_in1 (F : FnOk X.prog X.w X.K X.mg X.base CX k f fd ps sp) (hr : Room (k + 1) X.A) (hb : Binds X.K fd ps []) (hx : Passes CX X E) (I : Inv X pins σ H s) (hsp : sp [.ref a] H Q E) :
    wpAny (model X.prog X.w) X.A.in1 (call (.ref f) [.ref a]) (EP X pins σ Q) X.xe s := by
  have hl := F.len _ _ _ _ hsp
  refine wpAny_call (codeAny_mono (F.run X.A.in1 X.stack s H ⟨[.ref a], []⟩ [.ref a] [.ref a] Q E hr.in1 I.env0.in1 (by
    have := hb s [.ref a] I.kIn (by simpa using hl)
    simpa using this) (.cons rfl .nil) hsp) fun r s' hq => ?_)
  match r, hq with
  | .error e, hq => exact hx pins σ H s e s' I hq
  | .ok (.ret z), hq => exact I.after hq
  | .ok .next, hq => exact False.elim hq
  | .ok .brk, hq => exact False.elim hq
  | .ok .cont, hq => exact False.elim hq
theorem run_in2 (F : FnOk X.prog X.w X.K X.mg X.base CX k f fd ps sp) (hr : Room (k + 2) X.A) (hb : Binds X.K fd ps []) (hx : Passes CX X E) (I : Inv X pins σ H s) (hsp : sp [.ref a] H Q E) :
    wpAny (model X.prog X.w) X.A.in1.in1 (call (.ref f) [.ref a]) (EP X pins σ Q) X.xe s := by
  have hl := F.len _ _ _ _ hsp
  refine wpAny_call (codeAny_mono (F.run X.A.in1.in1 X.stack s H ⟨[.ref a], []⟩ [.ref a] [.ref a] Q E hr.in1.in1 I.env0.in1.in1 (by
    have := hb s [.ref a] I.kIn (by simpa using hl)
    simpa using this) (.cons rfl .nil) hsp) fun r s' hq => ?_)
  match r, hq with
  | .error e, hq => exact hx pins σ H s e s' I hq
  | .ok (.ret z), hq => exact I.after hq
  | .ok .next, hq => exact False.elim hq
  | .ok .brk, hq => exact False.elim hq
  | .ok .cont, hq => exact False.elim hq
/-- str(x), repr(x): the own def's text -/
def rTxtO (C : Addr) (sp : Sp) (E : XK) : List V → Hp → VK → Prop := fun xs H Q => ∃ a dx fs, xs = [.ref a] ∧ H a = some (.ins C dx fs) ∧ sp [.ref a] H (fun v H' => ∃ z, v = .str z ∧ Q v H') E
/-- bool(x) -/
def rBoolO (C : Addr) (sp : Sp) (E : XK) : List V → Hp → VK → Prop := fun xs H Q => ∃ a dx fs, xs = [.ref a] ∧ H a = some (.ins C dx fs) ∧ sp [.ref a] H (fun v H' => ∃ z, v = .bl z ∧ Q v H') E
theorem strBack {u : Value} {s' : Shared} (h : EP X pins σ (fun v H' => ∃ z, v = .str z ∧ Q v H') u s') : PySem.W.StrBack (EP X pins σ Q) u s' := by
  obtain ⟨v, H', I, r, z, rfl, q⟩ := h
  obtain ⟨t, rfl⟩ := r
  exact ⟨.str z, H', I, ⟨t, rfl⟩, q⟩
theorem call_strO (at_ : PySem.W.findIn X.K (.ref C) "__str__" = some (some (.ref f))) (fn : PySem.W.isFn X.K (.ref f) = true)
    (F : FnOk X.prog X.w X.K X.mg X.base CX k f fd ps sp) (hr : Room (k + 2) X.A) (hb : Binds X.K fd ps []) (hx : Passes CX X E) : CallR X (.type "str") (rTxtO C sp E) := by
  intro pins s σ H xs us Q I r h
  obtain ⟨a, dx, fs, rfl, ha, hsp⟩ := h
  obtain ⟨u, rfl, ru⟩ := vals1 r
  cases ru
  obtain ⟨mA, J, _⟩ := ins_get I.hok ha
  obtain ⟨od, J, _⟩ := J.look
  exact PySem.W.kso_call (Nat.lt_trans (by show X.A.units + 1 + 1 < X.A.units + 16 * (k + 2) + 200; omega) hr.un) I.kIn J at_ fn (wpAny_mono (run_in2 F hr hb hx I hsp) (fun _ _ q => strBack q) fun _ _ e => e)
theorem call_reprO (at_ : PySem.W.findIn X.K (.ref C) "__repr__" = some (some (.ref f))) (fn : PySem.W.isFn X.K (.ref f) = true)
    (F : FnOk X.prog X.w X.K X.mg X.base CX k f fd ps sp) (hr : Room (k + 1) X.A) (hb : Binds X.K fd ps []) (hx : Passes CX X E) : CallR X (.builtin "repr") (rTxtO C sp E) := by
  intro pins s σ H xs us Q I r h
  obtain ⟨a, dx, fs, rfl, ha, hsp⟩ := h
  obtain ⟨u, rfl, ru⟩ := vals1 r
  cases ru
  obtain ⟨mA, J, _⟩ := ins_get I.hok ha
  obtain ⟨od, J, _⟩ := J.look
  obtain ⟨m, hF⟩ := I.fr
  exact PySem.W.repr_K (Nat.lt_trans (by show X.A.units + 1 < X.A.units + 16 * (k + 1) + 200; omega) hr.un) hF I.ok.mod.kin J at_ fn (wpAny_mono (run_in1 F hr hb hx I hsp) (fun _ _ q => strBack q) fun _ _ e => e)
theorem call_boolO (at_ : PySem.W.findIn X.K (.ref C) "__bool__" = some (some (.ref f))) (fn : PySem.W.isFn X.K (.ref f) = true)
    (F : FnOk X.prog X.w X.K X.mg X.base CX k f fd ps sp) (hr : Room (k + 2) X.A) (hb : Binds X.K fd ps []) (hx : Passes CX X E) : CallR X (.type "bool") (rBoolO C sp E) := by
  intro pins s σ H xs us Q I r h
  obtain ⟨a, dx, fs, rfl, ha, hsp⟩ := h
  obtain ⟨u, rfl, ru⟩ := vals1 r
  cases ru
  obtain ⟨mA, J, _⟩ := ins_get I.hok ha
  obtain ⟨od, J, _⟩ := J.look
  obtain ⟨m, hF⟩ := I.fr
  refine bool_own hF I.ok.mod.kin J at_ fn (wpAny_mono (run_in2 F hr hb hx I hsp) ?_ fun _ _ e => e)
  rintro u s' ⟨v, H', I', r, z, rfl, q⟩
  cases r
  exact ⟨z, rfl, .bl z, H', I', rfl, q⟩
end
section
variable (P : Program) (w : World) (K : PySem.W.Frag) (mg : Str → Option Value) (base : Heap) (k : Nat) (C : Addr)
/-- a double-underscore method of one parameter -/
structure DunF (nm : Str) (sp : Sp) : Prop where
  ex : ∃ (f : Addr) (fd : FuncData) (ps : List Str), PySem.W.findIn K (.ref C) nm = some (some (.ref f)) ∧ PySem.W.isFn K (.ref f) = true ∧ FnOk P w K mg base CX0 k f fd ps sp ∧ Binds K fd ps []
end
section
variable {X : Cx} {k j : Nat} {C : Addr} {sp : Sp}
theorem str_f (o : DunF X.prog X.w X.K X.mg X.base k C "__str__" sp) (hr : Room j X.A) (hk : k + 2 ≤ j) : CallR X (.type "str") (rTxtO C sp E0) := by
  obtain ⟨f, fd, ps, a, i, F, b⟩ := o.ex
  exact call_strO a i F (hr.mono hk) b pass0
theorem repr_f (o : DunF X.prog X.w X.K X.mg X.base k C "__repr__" sp) (hr : Room j X.A) (hk : k + 1 ≤ j) : CallR X (.builtin "repr") (rTxtO C sp E0) := by
  obtain ⟨f, fd, ps, a, i, F, b⟩ := o.ex
  exact call_reprO a i F (hr.mono hk) b pass0
theorem bool_f (o : DunF X.prog X.w X.K X.mg X.base k C "__bool__" sp) (hr : Room j X.A) (hk : k + 2 ≤ j) : CallR X (.type "bool") (rBoolO C sp E0) := by
  obtain ⟨f, fd, ps, a, i, F, b⟩ := o.ex
  exact call_boolO a i F (hr.mono hk) b pass0
end

section
variable {prog : Program} {w : World} {A : Around} {E : Value → Shared → Prop} {s : Shared} {K : PySem.W.Frag} {x C L f : Addr} {h₀ : Heap} {m : Str → Option Value} {ox : Obj} {od : Option Obj} {b tb : Value}
theorem objNe_any (X : K.In s.heap) (I : PySem.W.InstAt s.heap x ox C od) (hs : PySem.W.findIn K (.ref C) "__eq__" = some (some (.ref f))) (hf : PySem.W.isFn K (.ref f) = true)
    (hu : A.units < cLine) {Q : Fin → Shared → Prop}
    (hcall : wpAny (model prog w) A (call (.ref f) [.ref x, b]) (fun v s' => ∃ c, v = .bool c ∧ Q (.done (.ret (.bool (!c)))) s') E s) :
    wpAny (model prog w) A (Builtin.«object.__ne__» ⟨[.ref x, b], []⟩) Q E s := by
  unfold Builtin.«object.__ne__»
  repeat (first
    | with_reducible refine wpAny_cRoomFor hu ?_
    | (refine wpAny_bind (m := callSpecialIfBound? (.ref x) (Str.ofString "__eq__") [b])
        (PySem.W.ifBound_K X I hs hf (wpAny_mono hcall (fun r s' hr => ?_) fun _ _ e => e)))
    | wp_step)
  obtain ⟨c, rfl, hq⟩ := hr
  repeat (first | exact hq | exact wpAny_pure hq | exact wpAny_truthy_bool hq | (refine wpAny_bind (m := truthy (.bool _)) (wpAny_truthy_bool ?_)) | wp_step)
theorem ne_any (X : K.In s.heap) (I : PySem.W.InstAt s.heap x ox C od) (hb : PySem.W.Looks (model prog w) s.heap (typeOf b) tb) (hn : PySem.W.notFirst K C tb = true)
    (n : NeAt K C f) (ha : ∀ y, argsOk "object.__ne__" ⟨[y, b], []⟩) (hu : A.units + 1 < cLine) {Q : Value → Shared → Prop}
    (hcall : wpAny (model prog w) A.in1 (call (.ref f) [.ref x, b]) (fun v s' => ∃ c, v = .bool c ∧ Q (.bool (!c)) s') E s) :
    wpAny (model prog w) A (richCompare .NotEq (.ref x) b) Q E s := by
  have sub : PySem.W.Looks (model prog w) s.heap (isInstance (.ref x) (.type "object")) true := I.type.andThen (PySem.W.looks_subIn X n.sub)
  have one : wpAny (model prog w) A (tryCompare (.ref x) "__ne__" b) (fun r s' => ∃ v, r = some v ∧ Q v s') E s := by
    simp only [tryCompare]
    refine wpAny_bind (ifBound_ne X I n.ne (wpAny_call (codeAny_call_builtin PySem.F.cmp_object.ne.plain PySem.F.cmpEntry_ne
      (PySem.W.check_slot PySem.F.cmpKind_ne PySem.F.cmpSplit_ne sub (ha _) ?_))))
    refine objNe_any (A := A.in1) X I n.eq n.fn hu (wpAny_mono hcall (fun v s' hv => ?_) fun _ _ e => e)
    obtain ⟨c, rfl, hq⟩ := hv
    first | exact ⟨c, rfl, wpAny_pure ⟨_, rfl, hq⟩⟩ | exact ⟨c, rfl, wpAny_pure (wpAny_pure ⟨_, rfl, hq⟩)⟩ | exact ⟨c, rfl, _, rfl, hq⟩
  unfold richCompare
  simp only [oneThing_ref]
  refine wpAny_holding (wpAny_bind (wpAny_cRoomFor (Nat.lt_of_succ_lt hu) ?_))
  refine wpAny_bind (I.type.here (wpAny_bind (hb.here ?_)))
  split
  · rename_i q
    have e : PySem.W.subIn K tb (.ref C) = some false := by
      rcases Bool.or_eq_true_iff.mp hn with z | z
      · rw [beq_iff_eq.mp z] at q
        simp at q
      · exact beq_iff_eq.mp z
    refine wpAny_bind ((PySem.W.looks_subIn X e).here ?_)
    simp only [Bool.false_eq_true, if_false]
    refine wpAny_bind (wpAny_mono one (fun v s' hv => ?_) fun _ _ e => e)
    obtain ⟨c, rfl, hq⟩ := hv
    exact wpAny_pure hq
  · refine wpAny_bind (wpAny_pure ?_)
    simp only [Bool.false_eq_true, if_false]
    refine wpAny_bind (wpAny_mono one (fun v s' hv => ?_) fun _ _ e => e)
    obtain ⟨c, rfl, hq⟩ := hv
    exact wpAny_pure hq
end
section
variable {X : Cx}
/-- x == y, x of the class at C with its own ==, y anything -/
def rEqA (K : PySem.W.Frag) (C : Addr) (sp : Sp) (E : XK) : R2 := fun x y H Q => ∃ a dx fs t, x = .ref a ∧ H a = some (.ins C dx fs) ∧ TyX K H y t ∧ PySem.W.notFirst K C t = true ∧ sp [x, y] H Q E
def rNeA (K : PySem.W.Frag) (C : Addr) (sp : Sp) (E : XK) : R2 := fun x y H Q => ∃ a dx fs t, x = .ref a ∧ H a = some (.ins C dx fs) ∧ TyX K H y t ∧ PySem.W.notFirst K C t = true ∧ sp [x, y] H (fun v H' => ∃ c, v = .bl c ∧ Q (.bl (!c)) H') E
theorem op_eqA {CX : CXT} {k : Nat} {C f : Addr} {fd : FuncData} {ps : List Str} {sp : Sp} {E : XK} (n : NeAt X.K C f)
    (F : FnOk X.prog X.w X.K X.mg X.base CX k f fd ps sp) (hr : Room k X.A) (hb : Binds X.K fd ps []) (hx : Passes CX X E) : OpR X (compareOp .Eq) (rEqA X.K C sp E) := by
  intro pins s σ H x y v u Q I rx ry h
  obtain ⟨a, dx, fs, t, rfl, ha, ty, hn, hsp⟩ := h
  cases rx
  obtain ⟨mA, J, _⟩ := ins_get I.hok ha
  obtain ⟨od, J, _⟩ := J.look
  obtain ⟨Z, kz, hz, _⟩ := kit_of I ry ty
  obtain ⟨m, hF⟩ := I.fr
  refine PySem.W.cmp_K (op := .Eq) hr.units0 hF I.ok.mod.kin J (kz.ty _ _ I.kIn hz) hn n.eq n.fn ?_
  exact wpAny_mono (run_fn (vs := [.ref a, y]) F hr hb .nil hx I (.cons rfl (.cons ry .nil)) (by rw [List.append_nil]; exact hsp))
    (fun _ _ hq => match hq with | ⟨_, _, _, r, _⟩ => back_of r hq) fun _ _ e => e
theorem op_neA {CX : CXT} {k : Nat} {C f : Addr} {fd : FuncData} {ps : List Str} {sp : Sp} {E : XK} (n : NeAt X.K C f)
    (F : FnOk X.prog X.w X.K X.mg X.base CX k f fd ps sp) (hr : Room (k + 1) X.A) (hb : Binds X.K fd ps []) (hx : Passes CX X E) : OpR X (compareOp .NotEq) (rNeA X.K C sp E) := by
  intro pins s σ H x y v u Q I rx ry h
  obtain ⟨a, dx, fs, t, rfl, ha, ty, hn, hsp⟩ := h
  cases rx
  obtain ⟨mA, J, _⟩ := ins_get I.hok ha
  obtain ⟨od, J, _⟩ := J.look
  obtain ⟨Z, kz, hz, _⟩ := kit_of I ry ty
  refine ne_any I.kIn J (kz.ty _ _ I.kIn hz) hn n (fun z => PySem.F.cmpArgs_ne z u) (Nat.lt_trans (by omega) hr.un) ?_
  have hl := F.len _ _ _ _ hsp
  refine wpAny_call (codeAny_mono (F.run X.A.in1 X.stack s H ⟨[.ref a, u], []⟩ [.ref a, u] [.ref a, y] _ E hr.in1 I.env0.in1 (by
    have := hb s [.ref a, u] I.kIn (by simpa using hl)
    simpa using this) (.cons rfl (.cons ry .nil)) hsp) fun r s' hq => ?_)
  match r, hq with
  | .error e, hq => exact hx pins σ H s e s' I hq
  | .ok (.ret z), hq =>
    obtain ⟨v, H', I', rv, c, rfl, q⟩ := I.after hq
    cases rv
    exact ⟨c, rfl, .bl (!c), H', I', rfl, q⟩
  | .ok .next, hq => exact False.elim hq
  | .ok .brk, hq => exact False.elim hq
  | .ok .cont, hq => exact False.elim hq
variable {k j : Nat} {C : Addr} {sp : Sp} {K : PySem.W.Frag}
theorem eq_a (o : EqF X.prog X.w X.K X.mg X.base k C sp) (hr : Room j X.A) (hk : k ≤ j) (hK : X.K = K := by rfl) : OpR X (compareOp .Eq) (rEqA K C sp E0) := by
  obtain ⟨f, fd, ps, n, F, b⟩ := o.ex
  exact hK ▸ op_eqA n F (hr.mono hk) b pass0
theorem ne_a (o : EqF X.prog X.w X.K X.mg X.base k C sp) (hr : Room j X.A) (hk : k + 1 ≤ j) (hK : X.K = K := by rfl) : OpR X (compareOp .NotEq) (rNeA K C sp E0) := by
  obtain ⟨f, fd, ps, n, F, b⟩ := o.ex
  exact hK ▸ op_neA n F (hr.mono hk) b pass0
end
end MG

/-! repr of lists and tuples that hold own instances -/
namespace MG
open PySem PySem.Spec PyProof.Rows L2
open Builtin.List Builtin.Tuple

/-- a builtin that shows a container: little room -/
structure Lit (A : Around) (c : Code) : Prop where
  frames : (A.under c).frames = A.frames
  handled : (A.under c).handled = A.handled
  depth : (A.under c).depth ≤ A.depth + 1
  units : (A.under c).units = A.units + 1
  guard : c.isGuard = true
/-- near the frame of X: its frames, its handled exception, room -/
structure Near (X : Cx) (k : Nat) (A : Around) : Prop where
  fr : A.frames = X.A.frames
  hn : A.handled = X.A.handled
  room : L2H.RoomH k A
theorem Near.mono {X : Cx} {j k : Nat} {A : Around} (n : Near X k A) (h : j ≤ k) : Near X j A := ⟨n.fr, n.hn, n.room.mono h⟩
theorem Near.line {X : Cx} {k : Nat} {A : Around} (n : Near X k A) : A.units < cLine := by have := n.room.un; omega
theorem Near.in1 {X : Cx} {k : Nat} {A : Around} (n : Near X (k + 1) A) : Near X k A.in1 :=
  ⟨n.fr, n.hn, by have := n.room.dp; show A.depth + 3 * k + 5 < _; omega, by have := n.room.un; show A.units + 1 + 16 * k + 200 < _; omega⟩
theorem Near.self {X : Cx} {k : Nat} (r : L2H.RoomH k X.A) : Near X k X.A := ⟨rfl, rfl, r⟩
theorem Lit.near {X : Cx} {k : Nat} {A : Around} {c : Code} (l : Lit A c) (n : Near X (k + 1) A) : Near X k (A.under c) :=
  ⟨l.frames.trans n.fr, l.handled.trans n.hn, by have := n.room.dp; have := l.depth; omega, by have := n.room.un; rw [l.units]; omega⟩
theorem lit_list (A : Around) (args : Args) : Lit A (.builtin "list.__repr__.loop" args) where
  frames := by first | rfl | simp [Around.under, Code.envs, Code.isFrame, pushEnvs]
  handled := by first | rfl | simp [Around.under]
  depth := by first | exact Nat.le_refl _ | simp [Around.under, Code.weight, Code.isCreation, Code.isGuard, Code.isCaller, Code.frames, Code.isFrame, guardIds]
  units := by first | rfl | simp [Around.under, Code.cUnits, Code.frames, Code.isFrame]
  guard := by
    show guardIds.contains "list.__repr__.loop" = true
    decide +kernel
theorem lit_tuple (A : Around) (args : Args) : Lit A (.builtin "tuple.__repr__" args) where
  frames := by first | rfl | simp [Around.under, Code.envs, Code.isFrame, pushEnvs]
  handled := by first | rfl | simp [Around.under]
  depth := by first | exact Nat.le_refl _ | simp [Around.under, Code.weight, Code.isCreation, Code.isGuard, Code.isCaller, Code.frames, Code.isFrame, guardIds]
  units := by first | rfl | simp [Around.under, Code.cUnits, Code.frames, Code.isFrame]
  guard := by
    show guardIds.contains "tuple.__repr__" = true
    decide +kernel
theorem lit_tupleU (A : Around) (args : Args) : Lit A (.builtin "tuple.__repr__.under" args) where
  frames := by first | rfl | simp [Around.under, Code.envs, Code.isFrame, pushEnvs]
  handled := by first | rfl | simp [Around.under]
  depth := by first | exact Nat.le_refl _ | simp [Around.under, Code.weight, Code.isCreation, Code.isGuard, Code.isCaller, Code.frames, Code.isFrame, guardIds]
  units := by first | rfl | simp [Around.under, Code.cUnits, Code.frames, Code.isFrame]
  guard := by
    show guardIds.contains "tuple.__repr__.under" = true
    decide +kernel
theorem lit_dict (A : Around) (args : Args) : Lit A (.builtin "dict.__repr__" args) where
  frames := by first | rfl | simp [Around.under, Code.envs, Code.isFrame, pushEnvs]
  handled := by first | rfl | simp [Around.under]
  depth := by first | exact Nat.le_refl _ | simp [Around.under, Code.weight, Code.isCreation, Code.isGuard, Code.isCaller, Code.frames, Code.isFrame, guardIds]
  units := by first | rfl | simp [Around.under, Code.cUnits, Code.frames, Code.isFrame]
  guard := by
    show guardIds.contains "dict.__repr__" = true
    decide +kernel
theorem lit_dictU (A : Around) (args : Args) : Lit A (.builtin "dict.__repr__.under" args) where
  frames := by first | rfl | simp [Around.under, Code.envs, Code.isFrame, pushEnvs]
  handled := by first | rfl | simp [Around.under]
  depth := by first | exact Nat.le_refl _ | simp [Around.under, Code.weight, Code.isCreation, Code.isGuard, Code.isCaller, Code.frames, Code.isFrame, guardIds]
  units := by first | rfl | simp [Around.under, Code.cUnits, Code.frames, Code.isFrame]
  guard := by
    show guardIds.contains "dict.__repr__.under" = true
    decide +kernel
theorem same_tup {K : PySem.W.Frag} {H H' : Hp} {a : Addr} {xs : List V} (e : Same H H') (h : SqT K H a xs) : SqT K H' a xs := by
  rcases h with (h | ⟨o, h⟩) | h
  · exact .inl (.inl (e _ _ h))
  · exact .inl (.inr ⟨o, e _ _ h⟩)
  · exact .inr h
section
variable {X : Cx}
/-- what is shown of x is t, wherever the things of H stand; as: the containers within -/
def Rp (X : Cx) (σ : L2.St) (H : Hp) (as : List Addr) (k : Nat) (x : V) (t : Str) : Prop :=
  ∀ (u : Value), RelV x u → ∀ (b : Nat), b + t.length ≤ sizeLine → ∀ (A : Around) (g : List Code), Near X k A → A.guards = some g → (∀ a ∈ as, Clear g a) →
    ∀ (pins : List (Addr × Obj)) (s : Shared) (H1 : Hp), Inv X pins σ H1 s → Same H H1 → ∀ (Q : Str → Shared → Prop) (E : Value → Shared → Prop),
      (∀ s' H2, Inv X pins σ H2 s' → Same H1 H2 → Q t s') → wpAny (model X.prog X.w) A (pyReprUnder b u) Q E s
variable {σ : L2.St} {H H' : Hp} {as as' : List Addr} {k k' : Nat} {x : V} {t : Str}
theorem Rp.same (h : Rp X σ H as k x t) (s : Same H H') : Rp X σ H' as k x t := fun u ru b hb A g n hg hc pins s1 H1 I s2 Q E q => h u ru b hb A g n hg hc pins s1 H1 I (s.trans s2) Q E q
theorem Rp.more (h : Rp X σ H as k x t) (m : ∀ a ∈ as, a ∈ as') : Rp X σ H as' k x t := fun u ru b hb A g n hg hc => h u ru b hb A g n hg fun a ha => hc a (m a ha)
theorem Rp.mono (h : Rp X σ H as k x t) (hk : k ≤ k') : Rp X σ H as k' x t := fun u ru b hb A g n hg hc => h u ru b hb A g (n.mono hk) hg hc
theorem Rp.is (h : ∀ u, RelV x u → ReprIs X.prog X.w u t) : Rp X σ H as k x t := fun u ru b hb A g n hg hc pins s H1 I s2 Q E q => h u ru b hb A E s Q fun tk => q _ _ (I.tok tk) (Same.refl H1)
theorem Rp.int {i : Int} (hi : i.natAbs.log2 < 1920) : Rp X σ H as k (.int i) (toString i) := Rp.is fun u ru => by
  obtain ⟨tk, rfl⟩ := ru
  exact .int tk hi
theorem Rp.bl {b : Bool} : Rp X σ H as k (.bl b) (if b then "True" else "False") := Rp.is fun u ru => by
  cases ru
  exact .bool b
theorem Rp.non : Rp X σ H as k .non "None" := Rp.is fun u ru => by
  cases ru
  exact .none
theorem Rp.str {z : Str} (hz : (reprText z).length ≤ sizeLine) : Rp X σ H as k (.str z) (reprText z) := Rp.is fun u ru => by
  obtain ⟨tk, rfl⟩ := ru
  exact .str z tk hz

/-! an own instance -/
section
variable {M : Model} {A : Around} {E : Value → Shared → Prop} {s : Shared} {K : PySem.W.Frag} {y C f : Addr} {ox : Obj} {od : Option Obj}
theorem underBy_own {nm : Str} {fin : Value → List Value → Sem Value} {Q : Option Value → Shared → Prop} (X0 : K.In s.heap) (I : PySem.W.InstAt s.heap y ox C od) (hs : PySem.W.findIn K (.ref C) nm = some (some (.ref f))) (hf : PySem.W.isFn K (.ref f) = true)
    (h : wpAny M A (fin (.ref f) [.ref y]) (fun v => Q (some v)) E s) : wpAny M A (callSpecialIfBoundBy? fin (.ref y) nm) Q E s := by
  have last : wpAny M A (fin (.ref f) [.ref y] >>= fun v => pure (some v)) Q E s := wpAny_bind (wpAny_mono h (fun _ _ q => wpAny_pure q) fun _ _ q => q)
  have bound := (PySem.W.bind_fn (M := M) X0 (.ref y) (beq_iff_eq.mp hf))
  unfold callSpecialIfBoundBy? bindSpecialIfBound?
  refine wpAny_holding (wpAny_bind (wpAny_bind (wpAny_bind (I.type.here ((PySem.W.looks_findIn X0 hs).here (wpAny_bind (wpAny_askSetting (wpAny_ite ?_))))))))
  split
  · exact wpAny_bind (bound.here (wpAny_pure last))
  · exact wpAny_tryCatch (wpAny_bind (bound.here (wpAny_pure last)))
theorem under_own {b : Nat} {Q : Value → Shared → Prop} (hu : A.units < cLine) (X0 : K.In s.heap) (I : PySem.W.InstAt s.heap y ox C od) (hs : PySem.W.findIn K (.ref C) "__repr__" = some (some (.ref f))) (hf : PySem.W.isFn K (.ref f) = true)
    (h : wpAny M A (call (.ref f) [.ref y]) (fun v s' => (∃ z u, v = .str z u) ∧ Q v s') E s) : wpAny M A (pyReprObjUnder b (.ref y)) Q E s := by
  show wpAny M A (pyReprObjBy _ (.ref y)) Q E s
  unfold pyReprObjBy
  refine wpAny_bind (wpAny_cRoomFor hu (wpAny_bind (wpAny_bind (I.type.here ((PySem.W.looks_findIn X0 hs).here ?_)))))
  rw [show (some (Value.ref f)).isNone = false from rfl]
  simp only [Bool.false_eq_true, if_neg, not_false_eq_true]
  refine wpAny_bind (underBy_own X0 I hs hf (wpAny_mono (show wpAny M A (call (.ref f) ([.ref y] ++ [])) _ E s from h) (fun v s' hv => ?_) fun _ _ z => z))
  obtain ⟨⟨z, u, rfl⟩, hq⟩ := hv
  exact wpAny_bind (wpAny_isInstance (b := true) (typeIs_str _ _ _) isSubtype_str_str (wpAny_pure hq))
end
/-- how the own instances of X are shown: the def's text, wherever it is called near X -/
structure OwnX (X : Cx) (own : Hp → Addr → Str → Prop) (kO : Nat) : Prop where
  run : ∀ (H : Hp) (a : Addr) (t : Str), own H a t → ∃ (C f dx : Addr) (fs : List (Str × V)), H a = some (.ins C dx fs) ∧ PySem.W.findIn X.K (.ref C) "__repr__" = some (some (.ref f)) ∧ PySem.W.isFn X.K (.ref f) = true ∧
    ∀ (A : Around) (pins : List (Addr × Obj)) (σ : L2.St) (s : Shared) (H1 : Hp), Near X kO A → Inv X pins σ H1 s → Same H H1 → ∀ (Q : Value → Shared → Prop) (E : Value → Shared → Prop),
      (∀ s' H2 tk, Inv X pins σ H2 s' → Same H1 H2 → Q (.str t tk) s') → wpAny (model X.prog X.w) A (call (.ref f) [.ref a]) Q E s
theorem Rp.own {own : Hp → Addr → Str → Prop} {a : Addr} (o : OwnX X own k) (ho : own H a t) : Rp X σ H as k (.ref a) t := by
  intro u ru b hb A g n hg hc pins s H1 I s1 Q E q
  obtain rfl : u = Value.ref a := ru
  obtain ⟨C, f, dx, fs, hi, at_, fn, run⟩ := o.run H a t ho
  obtain ⟨mA, J, _⟩ := ins_get I.hok (s1 _ _ hi)
  obtain ⟨od, J, _⟩ := J.look
  exact wpAny_pyReprUnder_ref (by omega) (under_own n.line I.kIn J at_ fn (run A pins σ s H1 n I s1 _ E fun s' H2 tk I2 s2 => ⟨⟨_, _, rfl⟩, _, _, rfl, q s' H2 I2 s2⟩))

/-! lists -/
theorem vals_get {xs : List V} {its : List Value} (r : Vals xs its) : ∀ (i : Nat) (x : V), xs[i]? = some x → ∃ u, its[i]? = some u ∧ RelV x u := by
  induction r with
  | nil => intro i x h; simp at h
  | cons h t ih =>
    intro i x hx
    cases i with
    | zero => simp at hx; subst hx; exact ⟨_, by simp, h⟩
    | succ i => exact ih i x (by simpa using hx)
/-- each item is shown -/
def RpAll (X : Cx) (σ : L2.St) (H : Hp) (as : List Addr) (k : Nat) (xs : List V) (ts : List Str) : Prop :=
  ts.length = xs.length ∧ ∀ (i : Nat) (x : V), xs[i]? = some x → ∃ t, ts[i]? = some t ∧ Rp X σ H as k x t
theorem pinOf {pins : List (Addr × Obj)} {s : Shared} {H1 : Hp} {P : Addr} {o : Obj} (I : Inv X pins σ H1 s) (f : FpOk X pins H1 P) (e : s.heap.get? P = some o) (d : ∀ v, o.data ≠ .cell v) : Inv X (pins ++ [(P, o)]) σ H1 s := by
  have := I.pinned (fp := [P]) (fun b hb => by rw [List.mem_singleton.mp hb]; exact f) (fun b hb => by rw [List.mem_singleton.mp hb]; exact ⟨o, e, d⟩)
  have e2 : pinsAt [P] s.heap = [(P, o)] := by simp [pinsAt, e]
  rw [e2] at this
  exact this
theorem pinBack {pins : List (Addr × Obj)} {s : Shared} {H1 H2 : Hp} {P : Addr} {o : Obj} (I : Inv X (pins ++ [(P, o)]) σ H2 s) (f : FpOk X pins H1 P) : Inv X pins σ H2 s ∧ FpOk X pins H2 P ∧ s.heap.get? P = some o := by
  obtain ⟨e, n, _⟩ := I.pin (P, o) (by simp)
  exact ⟨I.unpinned, ⟨n, f.2.1, f.2.2.1, f.2.2.2.1, f.2.2.2.2.1, f.2.2.2.2.2⟩, e⟩
theorem fpTurn {pins : List (Addr × Obj)} {s : Shared} {H1 : Hp} {P : Addr} {h' : Heap} {t' : Nat} (I : Inv X pins σ H1 s) (f : FpOk X pins H1 P) (k : ∀ b o, b ≠ P → s.heap.get? b = some o → h'.get? b = some o) : Inv X pins σ H1 { s with heap := h', toks := t' } :=
  I.turned k f.1 f.2.1 f.2.2.2.1 f.2.2.2.2.1 f.2.2.2.2.2
/-- what a list's text says of its parts -/
structure Fit (b : Nat) (ts : List Str) : Prop where
  all : (listText ts).length ≤ sizeLine
  each : ∀ t ∈ ts, t.length ≤ sizeLine
  many : ts.length ≤ sizeLine
  far : b + piled ts ≤ sizeLine
theorem Fit.of {b : Nat} {ts : List Str} (h : b + (listText ts).length ≤ sizeLine) : Fit b ts := by
  have far := piled_le_listText ts
  obtain ⟨w1, w2, _⟩ := textFrom_len ts 0 (Str.ofString "[")
  rw [if_neg (by omega)] at w1
  have grow : (listText ts).length = (textFrom 0 (Str.ofString "[") ts).length + 1 := (strLen_append _ _).trans rfl
  exact ⟨by omega, fun t m => by have := w2 t m; omega, by omega, by omega⟩
theorem piled_snoc (dn : List Str) (t : Str) : piled (dn ++ [t]) = piled dn + (t.length + 2) := by rw [piled_append, piled_cons, piled_nil]
theorem rp_list_loop {a P : Addr} {xs : List V} {ts : List Str} {A : Around} {g : List Code} {b : Nat} {pins : List (Addr × Obj)} {R : Result → Shared → Prop}
    (hl : SqL X.K H a xs) (n : Near X (k + 1) A) (hg : A.guards = some g) (free : ∀ c ∈ as, Clear g c) (out : a ∉ as) (T : RpAll X σ H as k xs ts) (fit : Fit b ts) :
    ∀ (rest dn : List Str) (l : List (Str × Tok)) (s : Shared) (H1 : Hp) (parts : Array Value) (c : Nat), ts = dn ++ rest → l.map (·.1) = dn → parts.toList = strValues l → Inv X pins σ H1 s → Same H H1 → FpOk X pins H1 P →
    s.heap.get? P = some { cls := .type "list", dict := none, data := .seq parts c, slots := #[] } →
    (∀ s' H2 u, Inv X pins σ H2 s' → Same H1 H2 → R (.ok (.ret (.str (listText ts) u))) s') →
    codeAny (model X.prog X.w) A (.builtin "list.__repr__.loop" ⟨[.ref a, rawInt dn.length, .ref P, rawInt ((b + piled dn : Nat) : Int)], []⟩) R s := by
  intro rest
  induction rest with
  | nil =>
    intro dn l s H1 parts c split told lay I same hP0 hP done
    rw [List.append_nil] at split
    obtain ⟨its, rv, ⟨o, m, get, _, _, dat⟩, _⟩ := I.list (same.seq hl)
    have off : its.toArray[((dn.length : Nat) : Int).toNat]? = none := by
      have h1 := rv.length
      have h2 := T.1
      rw [split] at h2
      simp only [Int.toNat_natCast, List.getElem?_toArray]
      exact List.getElem?_eq_none (by omega)
    refine codeAny_builtin F.entry_list_repr_loop (show wpAny _ _ (Builtin.«list.__repr__.loop» ⟨[.ref a, .int dn.length 0, .ref P, .int ((b + piled dn : Nat) : Int) 0], []⟩) _ _ s from ?_)
    rw [repr_loop_tree]
    refine wpAny_bind (wpAny_listItems get dat ?_)
    rw [off]
    show wpAny _ _ (reprEnd (.ref P)) _ _ s
    refine wpAny_bind (wpAny_listItems hP rfl ?_)
    rw [lay, repr_fold, told, ← split]
    exact wpAny_bind (wpAny_pure (wpAny_bind (wpAny_mkStr (wpAny_pure (done _ H1 _ (I.tok _) (Same.refl H1))) fit.all)))
  | cons t rest ih =>
    intro dn l s H1 parts c split told lay I same hP0 hP done
    obtain ⟨its, rv, ⟨o, m, get, _, _, dat⟩, _⟩ := I.list (same.seq hl)
    have inn : dn.length < xs.length := by
      have h2 := T.1
      rw [split, List.length_append, List.length_cons] at h2
      omega
    have item : xs[dn.length]? = some xs[dn.length] := List.getElem?_eq_getElem inn
    obtain ⟨t', ht, shows⟩ := T.2 _ _ item
    obtain rfl : t = t' := by
      rw [split, List.getElem?_append_right (Nat.le_refl _), Nat.sub_self] at ht
      exact Option.some.inj ht
    obtain ⟨u, hu, ru⟩ := vals_get rv _ _ item
    have fast : its.toArray[((dn.length : Nat) : Int).toNat]? = some u := by simpa using hu
    have far := fit.far
    have near : piled ts = piled dn + (t.length + 2) + piled rest := by rw [split, piled_append, piled_cons]; omega
    have lit := lit_list A ⟨[.ref a, .int dn.length 0, .ref P, .int ((b + piled dn : Nat) : Int) 0], []⟩
    refine codeAny_builtin F.entry_list_repr_loop (show wpAny _ _ (Builtin.«list.__repr__.loop» ⟨[.ref a, .int dn.length 0, .ref P, .int ((b + piled dn : Nat) : Int) 0], []⟩) _ _ s from ?_)
    rw [repr_loop_tree]
    refine wpAny_bind (wpAny_listItems get dat ?_)
    rw [fast]
    dsimp only
    rw [Int.toNat_natCast]
    refine wpAny_bind (wpAny_holding (shows u ru (b + piled dn + 1) (by omega) _ _ (lit.near n) (guards_under_guard lit.guard hg) (fun c hc => (free c hc).cons fun e => out (e ▸ hc)) _ s H1 (pinOf I hP0 hP (fun _ z => nomatch z)) same _ _ fun s2 H2 I2 same2 => ?_))
    obtain ⟨I2, hP2, there⟩ := pinBack I2 hP0
    have lp : parts.size ≤ sizeLine := by
      have z : parts.toList.length = l.length := by rw [lay]; exact List.length_map ..
      have z2 : l.length = dn.length := by rw [← told, List.length_map]
      have z3 := fit.many
      rw [split, List.length_append] at z3
      rw [Array.length_toList] at z
      omega
    refine wpAny_bind (wpAny_mkStr (wpAny_bind ?_) (fit.each t (by rw [split]; simp)))
    refine wpAny_updateSeq (show s2.heap.get? P = _ from there) rfl (wpAny_pure ⟨F.quiet_list_repr_loop _, ?_⟩) lp
    have w1 : ((dn.length : Nat) : Int) + 1 = (((dn ++ [t]).length : Nat) : Int) := by rw [List.length_append]; rfl
    have w2 : b + piled dn + (t.length + 2) = b + piled (dn ++ [t]) := by rw [piled_snoc]; omega
    rw [w1, w2]
    refine ih (dn ++ [t]) (l ++ [(t, s2.toks)]) _ H2 (parts.push (.str t s2.toks)) _ (by rw [split, List.append_assoc]; rfl) (by rw [List.map_append, told]; rfl) (by simp [lay, strValues]) (fpTurn (I2.tok _) hP2 fun c o ne e => (Heap.get?_update_other _ _ (Ne.symm ne)).trans e) (same.trans same2) hP2
      (Heap.get?_update_self _ there rfl) fun s3 H3 u I3 same3 => done s3 H3 u I3 (same2.trans same3)
theorem rp_list_at {a : Addr} {x : V} {l : List V} {ts : List Str} {A : Around} {g : List Code} {b : Nat} {pins : List (Addr × Obj)} {s : Shared} {H1 : Hp} {R : Result → Shared → Prop}
    (hl : SqL X.K H a (x :: l)) (n : Near X (k + 1) A) (hg : A.guards = some g) (free : ∀ c ∈ a :: as, Clear g c) (out : a ∉ as) (T : RpAll X σ H as k (x :: l) ts) (hsz : b + (listText ts).length ≤ sizeLine) (I : Inv X pins σ H1 s) (same : Same H H1)
    (done : ∀ s' H2 u, Inv X pins σ H2 s' → Same H1 H2 → R (.ok (.ret (.str (listText ts) u))) s') :
    wpAny (model X.prog X.w) A.in1 (Builtin.listReprAt b ⟨[.ref a], []⟩) (fun fin s' => match fin with | .done f => R (.ok f) s' | .again c' => c'.quiet = true ∧ codeAny (model X.prog X.w) A c' R s') (fun e s' => R (.error e) s') s := by
  obtain ⟨its, rv, ⟨o, m, get, _, _, dat⟩, _⟩ := I.list (same.seq hl)
  cases rv with
  | cons ru rus =>
    refine wpAny_list_repr_head (A := A.in1) hg (fun v rest kw mem => listSameRef_of_ne (free a (.head _) _ _ _ _ mem)) get dat (wpAny_bind (wpAny_newObj_type (wpAny_pure ⟨F.quiet_list_repr_loop _, ?_⟩)))
    have I' : Inv X pins σ H1 { s with heap := _, toks := s.toks } := I.kept (h' := s.heap.push { cls := .type "list", dict := none, data := .seq #[] 0, slots := #[] }) (t' := s.toks) fun c u e => Heap.get?_push_of_some _ e
    exact rp_list_loop (P := s.heap.objs.size) hl n hg (fun c hc => free c (.tail _ hc)) out T (Fit.of hsz) ts [] [] _ H1 #[] _ rfl rfl rfl I' same (I.fpOk (Nat.le_refl _) (I.hok.fresh (Nat.le_refl _))) (Heap.get?_push_size _ rfl) done
theorem sq_type {pins : List (Addr × Obj)} {s : Shared} {H1 : Hp} {a : Addr} {xs : List V} (I : Inv X pins σ H1 s) (h : SqL X.K H1 a xs) : s.TypeIs (.ref a) "list" := by
  obtain ⟨its, rv, ⟨oa, na, ha, hc, _⟩, _⟩ := I.list h
  exact ⟨oa, ha, hc⟩
theorem Rp.list {a : Addr} {x : V} {l : List V} {ts : List Str} (hl : SqL X.K H a (x :: l)) (hna : a ∉ as) (hT : RpAll X σ H as k (x :: l) ts) : Rp X σ H (a :: as) (k + 2) (.ref a) (listText ts) := by
  intro u ru b hb A g n hg hc pins s H1 I s1 Q E q
  obtain rfl : u = Value.ref a := ru
  have hty := sq_type I (s1.seq hl)
  refine wpAny_pyReprUnder_ref (by omega) (wpAny_pyReprObjUnder_twin (twin := "list.__repr__.under") hty F.slot_list_repr.toG rfl n.line ?_)
  refine call_twin_plain F.plain_list_repr_under F.entry_list_repr_under F.check_list_repr_under hty F.slot_list_repr.toG (F.args_list_repr_1 _) ?_
  exact rp_list_at (R := callEnd _ E) hl (n.mono (by omega)) hg hc hna hT hb I s1 fun s' H2 u I2 s2 => ⟨⟨_, _, rfl⟩, _, _, rfl, q s' H2 I2 s2⟩
theorem Rp.list0 {a : Addr} (hl : SqL X.K H a []) : Rp X σ H as k (.ref a) "[]" := by
  intro u ru b hb A g n hg hc pins s H1 I s1 Q E q
  obtain rfl : u = Value.ref a := ru
  obtain ⟨its, rv, ⟨oa, na, ha, hc, _, hda⟩, _⟩ := I.list (s1.seq hl)
  cases rv
  exact wpAny_pyReprUnder_ref (by omega) (wpAny_pyReprObjUnder_list_empty ⟨oa, ha, hc⟩ n.line ha hda ⟨_, _, rfl, q _ H1 (I.tok _) (Same.refl H1)⟩)

/-! tuples -/
theorem RpAll.head {x : V} {xs : List V} {ts : List Str} (h : RpAll X σ H as k (x :: xs) ts) : ∃ t r, ts = t :: r ∧ Rp X σ H as k x t ∧ RpAll X σ H as k xs r := by
  cases ts with
  | nil => exact nomatch h.1
  | cons t r =>
    obtain ⟨t', e, q⟩ := h.2 0 x rfl
    cases (Option.some.inj e)
    exact ⟨t, r, rfl, q, by have := h.1; simpa using this, fun i y hy => by simpa using h.2 (i + 1) y (by simpa using hy)⟩
/-- the texts of a tuple's items, one behind the other -/
theorem rp_fold {A : Around} {g : List Code} {pins : List (Addr × Obj)} {E : Value → Shared → Prop} (n : Near X k A) (hg : A.guards = some g) (free : ∀ c ∈ as, Clear g c) {xs : List V} {us : List Value} (rv : Vals xs us) :
    ∀ (ts : List Str) (got : Array Str) (m : Nat) (s : Shared) (H1 : Hp) (Q : (Array Str × Nat) → Shared → Prop), RpAll X σ H as k xs ts → m + piled ts ≤ sizeLine → Inv X pins σ H1 s → Same H H1 →
    (∀ s' H2, Inv X pins σ H2 s' → Same H1 H2 → Q (got ++ ts.toArray, m + piled ts) s') → wpAny (model X.prog X.w) A (forIn us ((got, m) : (Array Str × Nat)) tupBody) Q E s := by
  induction rv with
  | nil =>
    intro ts got m s H1 Q T _ I _ done
    cases ts with
    | cons => exact nomatch T.1
    | nil =>
      have fin := done s H1 I (Same.refl H1)
      rw [List.forIn_nil]
      simp only [Array.append_empty, piled_nil, Nat.add_zero, List.toArray] at fin
      exact wpAny_pure fin
  | cons ru rus ih =>
    intro ts got m s H1 Q T fit I same done
    obtain ⟨t, rest, rfl, first, more⟩ := T.head
    have grow : m + piled (t :: rest) = m + (t.length + 2) + piled rest := by rw [piled_cons]; omega
    rw [grow] at fit done
    rw [List.forIn_cons]
    refine wpAny_bind (wpAny_bind (first _ ru (m + 1) (by omega) A g n hg free pins s H1 I same _ _ fun s2 H2 I2 same2 => wpAny_pure (ih rest _ _ s2 H2 Q more (by omega) I2 (same.trans same2) fun s3 H3 I3 same3 => ?_)))
    have fin := done s3 H3 I3 (same2.trans same3)
    have e : got.push t ++ rest.toArray = got ++ (t :: rest).toArray := by simp
    rw [e]
    exact fin
/-- no guard around speaks of a thing that is clear of them -/
theorem clear_any {g : List Code} {f : Code × Pos → Bool} (h : ∀ c ∈ g, f (c, default) = false) : (g.any fun c => f (c, default)) = false := List.any_eq_false.mpr fun c m => by rw [h c m]; exact Bool.false_ne_true
theorem rp_tuple_at {a : Addr} {xs : List V} {ts : List Str} {A : Around} {g : List Code} {b : Nat} {pins : List (Addr × Obj)} {s : Shared} {H1 : Hp} {R : Result → Shared → Prop} {id : String} {rest : List Value}
    (lit : Lit A (.builtin id ⟨.ref a :: rest, []⟩)) (hl : SqT X.K H a xs) (n : Near X (k + 1) A) (hg : A.guards = some g) (free : ∀ c ∈ a :: as, Clear g c) (out : a ∉ as) (T : RpAll X σ H as k xs ts)
    (hsz : b + (tupleText ts).length ≤ sizeLine) (I : Inv X pins σ H1 s) (same : Same H H1) (done : ∀ s' H2 u, Inv X pins σ H2 s' → Same H1 H2 → R (.ok (.ret (.str (tupleText ts) u))) s') :
    wpOwn (model X.prog X.w) A (.builtin id ⟨.ref a :: rest, []⟩) (Builtin.tupleReprAt b ⟨[.ref a], []⟩) (fun fin s' => match fin with | .done f => R (.ok f) s' | .again c' => c'.quiet = true ∧ codeAny (model X.prog X.w) A c' R s') (fun e s' => R (.error e) s') s := by
  obtain ⟨its, rv, ⟨o, get, cls, m, dat⟩, _⟩ := I.tuple (same_tup same hl)
  have much := piled_le_tupleText ts
  have eq : its.length = ts.length := by rw [T.1]; exact rv.length.symm
  rw [tuple_repr_tree, tupleReprUnderWay_eq]
  refine wpOwn_bind (wpOwn_stackTailAny hg (tupGuardF_off (.ref a)) (tupGuardF_pos (.ref a)) ?_)
  rw [clear_any (tupGuardF_of_clear (free a (.head _)))]
  refine wpOwn_of_wpAny (show wpAny _ _ (tupleReprRest b (.ref a)) _ _ s from ?_)
  refine wpAny_bind (wpAny_bind (wpAny_seqItems get dat (wpAny_pure ?_)))
  rw [← Array.forIn_toList]
  refine wpAny_bind (rp_fold (lit.near n) (guards_under_guard lit.guard hg) (fun c m => (free c (.tail _ m)).cons fun e => out (e ▸ m)) rv ts #[] b s H1 _ T (by omega) I same fun s2 H2 I2 same2 => ?_)
  have fin := done _ H2 s2.toks (I2.tok (s2.toks + 1)) same2
  have txt : (("(" : Str) ++ Str.join ", " ((#[] : Array Str) ++ ts.toArray).toList ++ (if its.toArray.size == 1 then ",)" else ")" : String)) = tupleText ts := by simp [tupleText, eq]
  refine wpAny_bind (wpAny_mkStr (wpAny_pure ?_) ?_)
  · rw [txt]
    exact fin
  · rw [txt]
    omega
theorem Rp.tuple {a : Addr} {xs : List V} {ts : List Str} (hl : SqT X.K H a xs) (hna : a ∉ as) (hT : RpAll X σ H as k xs ts) : Rp X σ H (a :: as) (k + 2) (.ref a) (tupleText ts) := by
  intro u ru b hb A g n hg hc pins s H1 I s1 Q E q
  obtain rfl : u = Value.ref a := ru
  obtain ⟨its, rv, ⟨o, ha, hct, _, hd⟩, _⟩ := I.tuple (same_tup s1 hl)
  refine wpAny_pyReprUnder_ref (by omega) (wpAny_pyReprObjUnder_twin (twin := "tuple.__repr__.under") ⟨o, ha, hct⟩ F.slot_tuple_repr rfl n.line ?_)
  exact call_twin_own (F.quiet_tuple_repr_under _) F.entry_tuple_repr_under F.check_tuple_repr_under ⟨o, ha, hct⟩ F.slot_tuple_repr (F.args_tuple_repr_1 _)
    (rp_tuple_at (R := callEnd _ E) (lit_tupleU A _) hl (n.mono (by omega)) hg hc hna hT hb I s1 fun s' H2 u I2 s2 => ⟨⟨_, _, rfl⟩, _, _, rfl, q s' H2 I2 s2⟩)

/-! dicts whose keys are ints and texts -/
def kTxt : Key → Str
  | .inl i => (toString i : String)
  | .inr z => reprText z
def RpKV (X : Cx) (σ : L2.St) (H : Hp) (as : List Addr) (k : Nat) (kvs : List (Key × V)) (ps : List Str) : Prop :=
  ps.length = kvs.length ∧ ∀ (i : Nat) (kv : Key × V), kvs[i]? = some kv → ∃ v, ps[i]? = some (kTxt kv.1 ++ ": " ++ v) ∧ Rp X σ H as k (kV kv.1) (kTxt kv.1) ∧ Rp X σ H as k kv.2 v
theorem kv_entry {κs : List (Key × V)} {vs : List (Key × Value)} (r : KV κs vs) : ∀ {es : List DictEntry} {P : Program} {w : World}, Pairs (mixKind P w) es vs →
    es.length = κs.length ∧ ∀ (i : Nat) (kv : Key × V), κs[i]? = some kv → ∃ e, es[i]? = some e ∧ RelV (kV kv.1) e.key ∧ RelV kv.2 e.val := by
  unfold KV at r
  induction r with
  | nil =>
    intro es P w p
    cases p
    exact ⟨rfl, fun i kv h => by simp at h⟩
  | cons h t ih =>
    intro es P w p
    cases p with
    | cons h1 h2 h3 =>
      obtain ⟨l, q⟩ := ih h3
      refine ⟨by simp [l], fun i kv hi => ?_⟩
      cases i with
      | zero =>
        simp at hi
        subst hi
        refine ⟨_, rfl, ?_, ?_⟩
        · rw [h.1]
          exact relV_key h1
        · rw [h2]
          exact h.2
      | succ i => exact q i kv (by simpa using hi)
/-- one entry more -/
theorem range_step {m i : Nat} {x : Nat} {rest : List Nat} (h : x :: rest = List.range' i (m - i)) : x = i ∧ i < m ∧ rest = List.range' (i + 1) (m - (i + 1)) := by
  cases d : m - i with
  | zero =>
    rw [d] at h
    cases h
  | succ j =>
    rw [d, List.range'_succ] at h
    injection h with h1 h2
    have : m - (i + 1) = j := by omega
    exact ⟨h1, by omega, by rw [h2, this]⟩
theorem range_end {m i : Nat} (hi : i ≤ m) (h : [] = List.range' i (m - i)) : i = m := by
  cases d : m - i with
  | zero => omega
  | succ j =>
    rw [d, List.range'_succ] at h
    cases h
theorem rp_dict_at {a : Addr} {kvs : List (Key × V)} {ps : List Str} {A : Around} {g : List Code} {b : Nat} {pins : List (Addr × Obj)} {s : Shared} {H0 H1 : Hp} {R : Result → Shared → Prop} {id : String} {rest : List Value}
    (lit : Lit A (.builtin id ⟨.ref a :: rest, []⟩)) (h0 : H0 a = none) (hl : H1 a = some (.dK kvs)) (n : Near X (k + 1) A) (hg : A.guards = some g) (free : ∀ c ∈ a :: as, Clear g c) (out : a ∉ as) (T : RpKV X σ H0 as k kvs ps)
    (hsz : b + (dictText ps).length ≤ sizeLine) (I0 : Inv X pins σ H1 s) (hs : Same H0 H1) (done : ∀ s' H2 u, Inv X pins σ H2 s' → Same H1 H2 → R (.ok (.ret (.str (dictText ps) u))) s') :
    wpOwn (model X.prog X.w) A (.builtin id ⟨.ref a :: rest, []⟩) (Builtin.dictReprAt b ⟨[.ref a], []⟩) (fun fin s' => match fin with | .done f => R (.ok f) s' | .again c' => c'.quiet = true ∧ codeAny (model X.prog X.w) A c' R s') (fun e s' => R (.error e) s') s := by
  -- the dict stays as it is while it is shown
  have hn0 := I0.nofrz hl trivial
  obtain ⟨o, I⟩ := I0.lock hl trivial
  have hfr : Same H0 (upd H1 a (.frz o (.dK kvs))) := fun c u e => by
    rw [upd_ne (ne_of_none e h0)]
    exact hs c u e
  obtain ⟨hsys, get, exact_, es, ep, vs, dat, size, rv, o', es', e1, _, e3, _, e4, _⟩ := I.frzK upd_same
  obtain rfl := Option.some.inj (get.symm.trans e1)
  obtain ⟨rfl, _⟩ := Data.dict.inj (dat.symm.trans e3)
  obtain ⟨_, entry⟩ := kv_entry rv e4
  have stays : ∀ (s' : Shared) (H2 : Hp), Inv X pins σ H2 s' → Same (upd H1 a (.frz o (.dK kvs))) H2 → s'.heap.get? a = some o := fun s' H2 I2 s2 => (I2.frzK (s2 _ _ upd_same)).2.1
  have much := piled_le_dictText ps
  have many := T.1
  unfold Builtin.dictReprAt
  refine wpOwn_bind (wpOwn_of_wpAny (wpAny_bind (wpAny_notOrdered_dict (show s.TypeIs (.ref a) "dict" from ⟨o, get, exact_.1⟩) (wpAny_pure (a := Value.ref a) ?_))))
  rw [dictReprRunning_eq]
  refine wpOwn_bind (wpOwn_stackTailAny hg (dictGuardF_off (.ref a)) (dictGuardF_pos (.ref a)) ?_)
  rw [clear_any (dictGuardF_of_clear (free a (.head _)))]
  have n' := lit.near n
  have hg' := guards_under_guard lit.guard hg
  have free' : ∀ c ∈ as, Clear (.builtin id ⟨.ref a :: rest, []⟩ :: g) c := fun c m => (free c (.tail _ m)).cons fun e => out (e ▸ m)
  refine wpOwn_of_wpAny (show wpAny _ _ (Builtin.Dict.addrOf (.ref a) >>= fun _ => _) _ _ s from wpAny_bind (wpAny_pure ?_))
  have whole : Builtin.Dict.showsAll a = pure () := by
    unfold Builtin.Dict.showsAll
    rw [hsys]
    rfl
  rw [whole]
  refine wpAny_bind (wpAny_pure (wpAny_bind (wpAny_dictEpoch get dat (wpAny_bind (wpAny_dictEntries get dat (wpAny_bind ?_))))))
  rw [Std.Legacy.Range.forIn_eq_forIn_range', show (Std.Legacy.Range.mk 0 es.size 1 _).size = es.size - 0 from by simp [Std.Legacy.Range.size]]
  refine wpAny_forIn_list _ (fun todo r s' => ∃ i H2, todo = List.range' i (es.size - i) ∧ i ≤ es.size ∧ r = ((ps.take i).toArray, b + piled (ps.take i)) ∧ Inv X pins σ H2 s' ∧ Same (upd H1 a (.frz o (.dK kvs))) H2) _ ?_ ?_ _ _ ⟨0, _, rfl, Nat.zero_le _, rfl, I, Same.refl _⟩
  · rintro x todo _ s2 ⟨i, H2, hr0, hi, rfl, I2, same2⟩
    obtain ⟨rfl, lt, hrest⟩ := range_step hr0
    have ltk : x < kvs.length := by omega
    have there : kvs[x]? = some kvs[x] := List.getElem?_eq_getElem ltk
    obtain ⟨v, txt, showK, showV⟩ := T.2 x _ there
    obtain ⟨en, he, rek, rev⟩ := entry x _ there
    have he' : es[x] = en := by
      rw [Array.getElem?_toList, Array.getElem?_eq_getElem lt] at he
      exact Option.some.inj he
    have len : (kTxt kvs[x].1 ++ ": " ++ v).length = (kTxt kvs[x].1).length + 2 + v.length := (strLen_append _ _).trans (congrArg (· + v.length) (strLen_append _ _))
    have pile := piled_take_succ txt
    have upto := piled_take_le ps (x + 1)
    rw [len] at pile
    refine wpAny_bind (wpAny_dictEntries (stays s2 H2 I2 same2) dat ?_)
    rw [Array.getElem?_eq_getElem lt, he']
    refine wpAny_bind (wpAny_holding (wpAny_bind (showK en.key rek (b + piled (ps.take x) + 1) (by omega) _ _ n' hg' free' pins s2 H2 I2 (hfr.trans same2) _ _ fun s3 H3 I3 same3 =>
      wpAny_bind (showV en.val rev (b + piled (ps.take x) + ((kTxt kvs[x].1).length + 3)) (by omega) _ _ n' hg' free' pins s3 H3 I3 ((hfr.trans same2).trans same3) _ _ fun s4 H4 I4 same4 => wpAny_pure ?_))))
    have same24 := (same2.trans same3).trans same4
    refine wpAny_bind (wpAny_dictEpoch (stays s4 H4 I4 same24) dat ?_)
    rw [if_neg (by simp)]
    have w1 : (ps.take x).toArray.push (kTxt kvs[x].1 ++ ": " ++ v) = (ps.take (x + 1)).toArray := by rw [take_one txt]; simp
    have w2 : b + piled (ps.take x) + ((kTxt kvs[x].1).length + v.length + 4) = b + piled (ps.take (x + 1)) := by omega
    exact wpAny_pure ⟨x + 1, H4, hrest, lt, by rw [w1, w2], I4, same24⟩
  · rintro _ s2 ⟨i, H2, hr0, hi, rfl, I2, same2⟩
    have last : i = ps.length := by rw [range_end hi hr0]; omega
    rw [last, List.take_length]
    have fin := done _ _ s2.toks ((I2.unlock (same2 _ _ upd_same) hn0).tok (s2.toks + 1)) fun c u e => by
      by_cases z : c = a
      · subst z
        rw [hl] at e
        obtain rfl := Option.some.inj e
        exact upd_same
      · rw [upd_ne z]
        exact same2 c u (by rw [upd_ne z]; exact e)
    have tx : (("{" : Str) ++ Str.join ", " ps.toArray.toList ++ "}") = dictText ps := by simp [dictText]
    refine wpAny_bind (wpAny_mkStr (wpAny_pure ?_) ?_)
    · rw [tx]
      exact fin
    · rw [tx]
      omega
theorem Rp.dict {a : Addr} {kvs : List (Key × V)} {ps : List Str} {H0 : Hp} (h0 : H0 a = none) (hl : H a = some (.dK kvs)) (hs : Same H0 H) (hna : a ∉ as) (hT : RpKV X σ H0 as k kvs ps) : Rp X σ H (a :: as) (k + 2) (.ref a) (dictText ps) := by
  intro u ru b hb A g n hg hc pins s H1 I s1 Q E q
  obtain rfl : u = Value.ref a := ru
  obtain ⟨_, _, vs, rv, o, es, _, ha, hx, _⟩ := dk_of I.hok (s1 _ _ hl)
  refine wpAny_pyReprUnder_ref (by omega) (wpAny_pyReprObjUnder_twin (twin := "dict.__repr__.under") ⟨o, ha, hx.1⟩ F.slot_dict_repr rfl n.line ?_)
  exact call_twin_own (F.quiet_dict_repr_under _) F.entry_dict_repr_under F.check_dict_repr_under ⟨o, ha, hx.1⟩ F.slot_dict_repr (F.args_dict_repr_1 _)
    (rp_dict_at (R := callEnd _ E) (lit_dictU A _) h0 (s1 _ _ hl) (n.mono (by omega)) hg hc hna hT hb I (hs.trans s1) fun s' H2 u I2 s2 => ⟨⟨_, _, rfl⟩, _, _, rfl, q s' H2 I2 s2⟩)
end
/-! ### values of any kind and what is shown of them -/
section
def keyFits : Key → Prop
  | .inl i => i.natAbs.log2 < 1920
  | .inr z => (reprText z).length ≤ sizeLine
def kvTxts (kvs : List (Key × V)) (vts : List Str) : List Str := List.zipWith (fun kv v => kTxt kv.1 ++ ": " ++ v) kvs vts
variable (K : PySem.W.Frag) (own : Hp → Addr → Str → Prop) (kO : Nat)
inductive Shw : Hp → List Addr → Nat → V → Str → Prop
  | non {H as k} : Shw H as k .non "None"
  | bl {H as k} (b : Bool) : Shw H as k (.bl b) (if b then "True" else "False")
  | int {H as k} {i : Int} : i.natAbs.log2 < 1920 → Shw H as k (.int i) (toString i)
  | str {H as k} {z : Str} : (reprText z).length ≤ sizeLine → Shw H as k (.str z) (reprText z)
  | own {H as k a t} : own H a t → kO ≤ k → Shw H as k (.ref a) t
  | list0 {H as k a} : SqL K H a [] → Shw H as k (.ref a) "[]"
  | list {H as as' k k' a x l ts} : SqL K H a (x :: l) → a ∉ as → ts.length = l.length + 1 → (∀ (i : Nat) (y : V) (t : Str), (x :: l)[i]? = some y → ts[i]? = some t → Shw H as k y t) → (∀ b ∈ a :: as, b ∈ as') → k + 2 ≤ k' → Shw H as' k' (.ref a) (listText ts)
  | tuple {H as as' k k' a xs ts} : SqT K H a xs → a ∉ as → ts.length = xs.length → (∀ (i : Nat) (y : V) (t : Str), xs[i]? = some y → ts[i]? = some t → Shw H as k y t) → (∀ b ∈ a :: as, b ∈ as') → k + 2 ≤ k' → Shw H as' k' (.ref a) (tupleText ts)
  | dict {H H0 as as' k k' a kvs vts} : H0 a = none → H a = some (.dK kvs) → Same H0 H → a ∉ as → vts.length = kvs.length → (∀ (i : Nat) (kv : Key × V), kvs[i]? = some kv → keyFits kv.1) →
      (∀ (i : Nat) (kv : Key × V) (v : Str), kvs[i]? = some kv → vts[i]? = some v → Shw H0 as k kv.2 v) → (∀ b ∈ a :: as, b ∈ as') → k + 2 ≤ k' → Shw H as' k' (.ref a) (dictText (kvTxts kvs vts))
end
section
variable {X : Cx} {own : Hp → Addr → Str → Prop} {kO j : Nat} {C : Addr} {sp : Sp} {H H' : Hp} {as : List Addr} {k : Nat} {x : V} {t : Str} {K : PySem.W.Frag}
theorem get_two {α β : Type} {xs : List α} {ts : List β} (h : ts.length = xs.length) {i : Nat} {x : α} (e : xs[i]? = some x) : ∃ t, ts[i]? = some t := by
  have hi : i < xs.length := (List.getElem?_eq_some_iff.mp e).1
  exact ⟨ts[i], List.getElem?_eq_getElem (by omega)⟩
theorem kvTxts_get {kvs : List (Key × V)} {vts : List Str} {i : Nat} {kv : Key × V} {v : Str} (h1 : kvs[i]? = some kv) (h2 : vts[i]? = some v) : (kvTxts kvs vts)[i]? = some (kTxt kv.1 ++ ": " ++ v) := by
  unfold kvTxts
  rw [List.getElem?_zipWith, h1, h2]
theorem Shw.same (hs : ∀ {H H' a t}, own H a t → Same H H' → own H' a t) (h : Shw K own kO H as k x t) (s : Same H H') : Shw K own kO H' as k x t := by
  induction h generalizing H' with
  | non => exact .non
  | bl b => exact .bl b
  | int h => exact .int h
  | str h => exact .str h
  | own h hk => exact .own (hs h s) hk
  | list0 h => exact .list0 (s.seq h)
  | list h n l _ m hk ih => exact .list (s.seq h) n l (fun i y t h1 h2 => ih i y t h1 h2 s) m hk
  | tuple h n l _ m hk ih => exact .tuple (same_tup s h) n l (fun i y t h1 h2 => ih i y t h1 h2 s) m hk
  | dict h0 h s0 n l kf hv m hk _ => exact .dict h0 (s _ _ h) (s0.trans s) n l kf hv m hk
theorem Shw.more {as' : List Addr} {k' : Nat} (h : Shw K own kO H as k x t) (m' : ∀ a ∈ as, a ∈ as') (hk' : k ≤ k') : Shw K own kO H as' k' x t := by
  cases h with
  | non => exact .non
  | bl b => exact .bl b
  | int h => exact .int h
  | str h => exact .str h
  | own h hk => exact .own h (Nat.le_trans hk hk')
  | list0 h => exact .list0 h
  | list h n l ih m hk => exact .list h n l ih (fun b hb => m' b (m b hb)) (Nat.le_trans hk hk')
  | tuple h n l ih m hk => exact .tuple h n l ih (fun b hb => m' b (m b hb)) (Nat.le_trans hk hk')
  | dict h0 h s0 n l kf hv m hk => exact .dict h0 h s0 n l kf hv (fun b hb => m' b (m b hb)) (Nat.le_trans hk hk')
theorem Rp.key {σ : L2.St} {κ : Key} (h : keyFits κ) : Rp X σ H as k (kV κ) (kTxt κ) := by
  cases κ with
  | inl i => exact Rp.int h
  | inr z => exact Rp.str h
theorem Shw.rp (o : OwnX X own kO) (h : Shw X.K own kO H as k x t) (σ : L2.St) : Rp X σ H as k x t := by
  induction h with
  | non => exact Rp.non
  | bl b => exact Rp.bl
  | int h => exact Rp.int h
  | str h => exact Rp.str h
  | own h hk => exact (Rp.own o h).mono hk
  | list0 h => exact Rp.list0 h
  | list h n l _ m hk ih => exact ((Rp.list h n ⟨l, fun i y hy => (get_two l hy).elim fun t ht => ⟨t, ht, ih i y t hy ht⟩⟩).more m).mono hk
  | tuple h n l _ m hk ih => exact ((Rp.tuple h n ⟨l, fun i y hy => (get_two l hy).elim fun t ht => ⟨t, ht, ih i y t hy ht⟩⟩).more m).mono hk
  | dict h0 h s0 n l kf _ m hk ih =>
    refine ((Rp.dict h0 h s0 n ⟨?_, fun i kv hkv => ?_⟩).more m).mono hk
    · unfold kvTxts
      rw [List.length_zipWith]
      omega
    · obtain ⟨v, hv⟩ := get_two l hkv
      exact ⟨v, kvTxts_get hkv hv, Rp.key (kf i kv hkv), ih i kv v hkv hv⟩
/-- repr(x), x a value of any kind, where nothing guarded runs around -/
def rShw (K : PySem.W.Frag) (own : Hp → Addr → Str → Prop) (kO j : Nat) : List V → Hp → VK → Prop := fun xs H Q => ∃ x as k t, xs = [x] ∧ Shw K own kO H as k x t ∧ t.length ≤ sizeLine ∧ k + 3 ≤ j ∧ ∀ H2, Same H H2 → Q (.str t) H2
theorem repr_top (o : OwnX X own kO) (bare : Bare X.A) (h : Shw X.K own kO H as k x t) (hz : t.length ≤ sizeLine) {pins : List (Addr × Obj)} {σ : L2.St} {s : Shared} {Q : VK} {u : Value} (hr : L2H.RoomH (k + 3) X.A) (I : Inv X pins σ H s) (ru : RelV x u)
    (hq : ∀ H2, Same H H2 → Q (.str t) H2) : wpAny (model X.prog X.w) X.A (call (.builtin "repr") [u]) (EP X pins σ Q) X.xe s := by
  have fin : ∀ (s' : Shared) (H2 : Hp) (z : Tok), Inv X pins σ H2 s' → Same H H2 → EP X pins σ Q (.str t z) s' := fun s' H2 z I2 s2 => ⟨.str t, H2, I2, ⟨z, rfl⟩, hq H2 s2⟩
  have hu : X.A.units + 1 < cLine := by have := hr.un; omega
  have nr : Near X (k + 2) X.A.in1 := (Near.self hr).in1
  cases h with
  | non =>
    obtain rfl : u = Value.none := ru
    exact PySem.P.repr_of_none (fin _ _ _ (I.tok _) (Same.refl H))
  | bl b =>
    obtain rfl : u = Value.bool b := ru
    exact PySem.P.repr_of_bool (fin _ _ _ (I.tok _) (Same.refl H))
  | int hi =>
    obtain ⟨tk, rfl⟩ := ru
    exact PySem.P.repr_of_int hi (fin _ _ _ (I.tok _) (Same.refl H))
  | str _ =>
    obtain ⟨tk, rfl⟩ := ru
    exact PySem.P.repr_of_str (fin _ _ _ (I.tok _) (Same.refl H)) hz
  | own ho hk =>
    obtain ⟨C, f, dx, fs, e, at_, fn, run⟩ := o.run _ _ _ ho
    cases ru
    obtain ⟨mA, J, _⟩ := ins_get I.hok e
    obtain ⟨od, J, _⟩ := J.look
    obtain ⟨m, hF⟩ := I.fr
    exact PySem.W.repr_K hu hF I.ok.mod.kin J at_ fn (run X.A.in1 pins σ s H (nr.mono (by omega)) I (Same.refl H) _ _ fun s' H2 tk I2 s2 => fin s' H2 tk I2 s2)
  | list0 hl =>
    cases ru
    obtain ⟨its, rv, ⟨oa, na, ha, hc, _, hda⟩, _⟩ := I.list hl
    cases rv
    exact call_repr_slot hu ⟨oa, ha, hc⟩ F.slot_list_repr.toG (call_list_repr_empty ⟨oa, ha, hc⟩ ha hda ⟨_, _, rfl, fin _ H _ (I.tok _) (Same.refl H)⟩)
  | list hl n l ih m hk =>
    cases ru
    have hty := sq_type I hl
    refine call_repr_slot hu hty F.slot_list_repr.toG (wpAny_call (codeAny_call_builtin F.slot_list_repr.plain F.entry_list_repr (F.slot_list_repr.check _ _ _ _ _ _ _ _ hty (F.args_list_repr_1 _) ?_)))
    exact rp_list_at (σ := σ) (H := H) (b := 0) (R := callEnd _ _) hl (nr.mono (by omega)) bare (fun c _ => Clear.nil c) n ⟨l, fun i y hy => (get_two l hy).elim fun t ht => ⟨t, ht, (ih i y t hy ht).rp o σ⟩⟩ (by omega) I (Same.refl H)
      fun s' H2 z I2 s2 => ⟨_, _, rfl, fin s' H2 z I2 s2⟩
  | tuple hl n l ih m hk =>
    cases ru
    obtain ⟨its, rv, ⟨o', ha, hct, n', hd⟩, _⟩ := I.tuple hl
    refine call_repr_slot hu ⟨o', ha, hct⟩ F.slot_tuple_repr (wpAny_call (codeAny_call_builtin_own (Code.quiet_builtin _ (by decide +kernel)) F.entry_tuple_repr (F.slot_tuple_repr.check _ _ _ _ _ _ _ _ ⟨o', ha, hct⟩ (F.args_tuple_repr_1 _) ?_)))
    exact rp_tuple_at (σ := σ) (H := H) (b := 0) (R := callEnd _ _) (lit_tuple _ _) hl (nr.mono (by omega)) bare (fun c _ => Clear.nil c) n ⟨l, fun i y hy => (get_two l hy).elim fun t ht => ⟨t, ht, (ih i y t hy ht).rp o σ⟩⟩ (by omega) I (Same.refl H)
      fun s' H2 z I2 s2 => ⟨_, _, rfl, fin s' H2 z I2 s2⟩
  | dict h0 hl s0 n l kf ih m hk =>
    rename_i as1 k1 a1 kvs vts
    cases ru
    obtain ⟨_, _, vs, rv, o', es, n', ha, hx, _⟩ := dk_of I.hok hl
    refine call_repr_slot hu ⟨o', ha, hx.1⟩ F.slot_dict_repr (wpAny_call (codeAny_call_builtin_own (Code.quiet_builtin _ (by decide +kernel)) F.entry_dict_repr (F.slot_dict_repr.check _ _ _ _ _ _ _ _ ⟨o', ha, hx.1⟩ (F.args_dict_repr_1 _) ?_)))
    refine rp_dict_at (σ := σ) (b := 0) (R := callEnd _ _) (lit_dict _ _) h0 hl (nr.mono (j := k1 + 1) (by omega)) bare (fun c _ => Clear.nil c) n ⟨?_, fun i kv hkv => ?_⟩ (by omega) I s0
      fun s' H2 z I2 s2 => ⟨_, _, rfl, fin s' H2 z I2 s2⟩
    · unfold kvTxts
      rw [List.length_zipWith]
      omega
    · obtain ⟨v, hv⟩ := get_two l hkv
      exact ⟨v, kvTxts_get hkv hv, Rp.key (kf i kv hkv), (ih i kv v hkv hv).rp o σ⟩
/-- the def that shows own instances, where nothing is handled -/
structure OwnF (P : Program) (w : World) (K : PySem.W.Frag) (mg : Str → Option Value) (base : Heap) (own : Hp → Addr → Str → Prop) (kO : Nat) : Prop where
  ex : ∃ (C : Addr) (sp : Sp), DunF P w K mg base kO C "__repr__" sp ∧ ∀ H a t, own H a t → (∃ dx fs, H a = some (.ins C dx fs)) ∧ ∀ H1, Same H H1 → sp [.ref a] H1 (fun v H2 => v = .str t ∧ Same H1 H2) E0
theorem OwnF.at (o : OwnF X.prog X.w X.K X.mg X.base own kO) (cold : X.A.handled = none) : OwnX X own kO := by
  obtain ⟨C, sp, ⟨f, fd, ps, at_, fn, F, hb⟩, ho⟩ := o.ex
  refine ⟨fun H a t h => ?_⟩
  obtain ⟨⟨dx, fs, e⟩, q⟩ := ho H a t h
  refine ⟨C, f, dx, fs, e, at_, fn, fun A pins σ s H1 n I s1 Q E fin => ?_⟩
  have h1 := q H1 s1
  have hl := F.len _ _ _ _ h1
  have bind := hb s [.ref a] I.kIn (by simpa using hl)
  rw [List.append_nil] at bind
  have env : Env0 X.prog X.w X.K X.mg X.base A X.stack s H1 := { I.env0 with frames := n.fr.trans I.env0.frames }
  refine wpAny_call (codeAny_mono (F.run A X.stack s H1 ⟨[.ref a], []⟩ [.ref a] [.ref a] _ E0 ⟨n.hn.trans cold, n.room.dp, n.room.un⟩ env bind (.cons rfl .nil) h1) fun r s' hq => ?_)
  match r, hq with
  | .error e, hq => exact False.elim hq
  | .ok (.ret z), hq =>
    obtain ⟨v, H', I', rv, rfl, s2⟩ := I.after hq
    obtain ⟨tk, rfl⟩ := rv
    exact fin s' H' tk I' s2
  | .ok .next, hq => exact False.elim hq
  | .ok .brk, hq => exact False.elim hq
  | .ok .cont, hq => exact False.elim hq
/-- the same within an except suite -/
structure OwnH (P : Program) (w : World) (K : PySem.W.Frag) (mg : Str → Option Value) (base : Heap) (own : Hp → Addr → Str → Prop) (kO : Nat) : Prop where
  ex : ∃ (C f : Addr) (fd : FuncData) (ps : List Str) (sp : Sp), PySem.W.findIn K (.ref C) "__repr__" = some (some (.ref f)) ∧ PySem.W.isFn K (.ref f) = true ∧ L2H.FnH P w K mg base CX0 kO f fd ps sp ∧ Binds K fd ps [] ∧
    ∀ H a t, own H a t → (∃ dx fs, H a = some (.ins C dx fs)) ∧ ∀ H1, Same H H1 → sp [.ref a] H1 (fun v H2 => v = .str t ∧ Same H1 H2) E0
theorem OwnH.at (o : OwnH X.prog X.w X.K X.mg X.base own kO) (hot : L2H.HotC X) : OwnX X own kO := by
  obtain ⟨C, f, fd, ps, sp, at_, fn, F, hb, ho⟩ := o.ex
  obtain ⟨p, hp1, hp2⟩ := hot
  refine ⟨fun H a t h => ?_⟩
  obtain ⟨⟨dx, fs, e⟩, q⟩ := ho H a t h
  refine ⟨C, f, dx, fs, e, at_, fn, fun A pins σ s H1 n I s1 Q E fin => ?_⟩
  have h1 := q H1 s1
  have hl := F.len _ _ _ _ h1
  have bind := hb s [.ref a] I.kIn (by simpa using hl)
  rw [List.append_nil] at bind
  have env : Env0 X.prog X.w X.K X.mg X.base A X.stack s H1 := { I.env0 with frames := n.fr.trans I.env0.frames }
  obtain ⟨p1, p2, p3, p4, p5⟩ := I.pin p (List.mem_append_left _ hp2)
  have pin : L2H.PinOk X.stack H1 s p := ⟨p1, p2, fun m => (List.mem_cons.mp (I.stkSub p.1 m)).elim p3 p4, p5⟩
  refine wpAny_call (codeAny_mono (F.run A X.stack s H1 ⟨[.ref a], []⟩ [.ref a] [.ref a] _ E0 p n.room ⟨n.hn.trans hp1.1, hp1.2⟩ pin env bind (.cons rfl .nil) h1) fun r s' hq => ?_)
  match r, hq with
  | .error e, hq => exact False.elim hq
  | .ok (.ret z), hq =>
    obtain ⟨v, H', I', rv, rfl, s2⟩ := I.after hq
    obtain ⟨tk, rfl⟩ := rv
    exact fin s' H' tk I' s2
  | .ok .next, hq => exact False.elim hq
  | .ok .brk, hq => exact False.elim hq
  | .ok .cont, hq => exact False.elim hq
theorem call_reprX (o : OwnX X own kO) (bare : Bare X.A) (hr : L2H.RoomH j X.A) (hK : X.K = K := by rfl) : CallR X (.builtin "repr") (rShw K own kO j) := by
  subst hK
  intro pins s σ H xs us Q I r h
  obtain ⟨x, as, k, t, rfl, hs, hz, hk, q⟩ := h
  obtain ⟨u, rfl, ru⟩ := vals1 r
  exact repr_top o bare hs hz (hr.mono hk) I ru q
theorem call_reprS (o : OwnF X.prog X.w X.K X.mg X.base own kO) (bare : Bare X.A) (hr : Room j X.A) (hK : X.K = K := by rfl) : CallR X (.builtin "repr") (rShw K own kO j) := call_reprX (o.at hr.hd) bare (L2H.roomH_of hr) hK
end
/-- a class made with values by name; sp: its __init__ -/
structure MakK (P : Program) (w : World) (K : PySem.W.Frag) (mg : Str → Option Value) (base : Heap) (k : Nat) (x : Str) (C : Addr) (sp : Sp) (ks : List Str) (gV : List V → List V → List V) : Prop where
  ex : ∃ (f : Addr) (fd : FuncData) (ps : List Str) (g : List Value → List Value → List Value), Mk K C f ∧ FnOk P w K mg base CX0 k f fd ps sp ∧ mg x = some (.ref C) ∧ KBn K fd ps 1 ks g gV
theorem pe_mkk {X : Cx} {k j : Nat} {x : Str} {C : Addr} {sp : Sp} {ks : List Str} {gV : List V → List V → List V} {p pos : Pos} {kws : List Keyword} {tk : TA}
    (c : MakK X.prog X.w X.K X.mg X.base k x C sp ks gV) (hr : Room j X.A) (hk : k + 1 ≤ j) (hg : Gl X x) (hkw : PK X kws tk)
    (hall : (backToKw pos (keywordEach kws X.env)).all (·.1.isSome) = true := by rfl) (hks : (backToKw pos (keywordEach kws X.env)).filterMap (·.1) = ks := by rfl) (hdb : (x == ("__debug__" : Str)) = false := by decide)
    (hpl : ((backTo pos (starEach [] X.env)).any (·.1) || (backToKw pos (keywordEach kws X.env)).any (·.1.isNone)) = false := by rfl) :
    PE X (.Call (.Name x p) [] kws pos) (tMakeK C 0 ks.length sp gV E0 tNil tk) := by
  obtain ⟨f, fd, ps, g, M, F, hm, b⟩ := c.ex
  exact pe_makeK0 M F (hr.mono hk) hg hm b pass0 hkw hall hks hdb hpl
end MG

/-! Plain facts about numbers, and short words for readings -/
namespace MG
open PySem PySem.Spec PyProof.Rows L2

/-- within 10 ^ 400 -/
def Sm (i : Int) : Prop := -(10 ^ 400) < i ∧ i < 10 ^ 400
theorem big400 : (10 : Nat) ^ 400 < 2 ^ 1400 := by decide +kernel
theorem Sm.abs {i : Int} (h : Sm i) : i.natAbs < 2 ^ 1400 := by
  have h1 := h.1
  have h2 := h.2
  have h3 := big400
  have e : ((10 : Int) ^ 400) = ((10 ^ 400 : Nat) : Int) := by rw [Int.natCast_pow]; rfl
  rw [e] at h1 h2
  generalize (10 : Nat) ^ 400 = a at *
  generalize (2 : Nat) ^ 1400 = b at *
  omega
theorem sm_mul {i j : Int} (hi : Sm i) (hj : Sm j) : CMulW i j := wide_mul hi.abs hj.abs (by decide) (by decide) (by decide)
theorem sm_div {j : Int} (h : Sm j) (h0 : j ≠ 0) : j ≠ 0 ∧ j.natAbs.log2 < 9000 :=
  ⟨h0, Nat.lt_of_lt_of_le (PySem.Flt.log2_lt_of (by decide) h.abs) (by decide)⟩
theorem sm_lt {i : Int} {k : Nat} (hk : k ≤ 400) (h1 : -(10 ^ k) < i) (h2 : i < 10 ^ k) : Sm i := by
  have e : (10 : Int) ^ k ≤ 10 ^ 400 := by
    have q : (10 : Nat) ^ k ≤ 10 ^ 400 := Nat.pow_le_pow_right (by decide) hk
    have z := Int.ofNat_le.mpr q
    rw [Int.natCast_pow, Int.natCast_pow] at z
    exact z
  constructor <;> generalize (10 : Int) ^ 400 = b at * <;> omega
theorem fmod_ge {x m : Int} (h : 0 < m) : 0 ≤ x.fmod m := Int.fmod_nonneg_of_pos x h
theorem fmod_lt {x m : Int} (h : 0 < m) : x.fmod m < m := Int.fmod_lt_of_pos x h
theorem fdiv_ge {x m : Int} (hx : 0 ≤ x) (h : 0 < m) : 0 ≤ x.fdiv m := by
  rw [Int.fdiv_eq_ediv_of_nonneg x (by omega)]
  exact Int.ediv_nonneg hx (by omega)
theorem fdiv_le {x m : Int} (hx : 0 ≤ x) (h : 0 < m) : x.fdiv m ≤ x := by
  rw [Int.fdiv_eq_ediv_of_nonneg x (by omega)]
  exact Int.ediv_le_self m hx
/-- an item of a written list of ints at a reckoned index -/
theorem at_ints {l : List Int} {i : Int} (h0 : 0 ≤ i) (h : i < l.length) : ∃ z ∈ l, atI (l.map V.int) i = some (V.int z) := by
  obtain ⟨j, rfl⟩ := Int.eq_ofNat_of_zero_le h0
  have hj : j < l.length := by omega
  exact ⟨l[j], List.getElem_mem hj, atI_nat (by rw [List.getElem?_map, List.getElem?_eq_getElem hj]; rfl)⟩
end MG

/-! Fractions: what crossing out gives is the numerator and the denominator -/
namespace MG
open PySem PySem.Spec PyProof.Rows L2

/-- the divisor, of the sign of the lower one -/
def gd (a u : Int) : Int := if 0 < u then (Int.gcd a u : Int) else -(Int.gcd a u : Int)
theorem gd_ne {a u : Int} (h : u ≠ 0) : gd a u ≠ 0 := by
  have := Int.gcd_pos_of_ne_zero_right a h
  unfold gd
  split <;> omega
theorem gd_sm {a u : Int} (h : u ≠ 0) (hu : Sm u) : Sm (gd a u) := by
  have h1 : (Int.gcd a u : Nat) ≤ u.natAbs := Nat.le_of_dvd (by omega) (Int.gcd_dvd_natAbs_right a u)
  obtain ⟨h2, h3⟩ := hu
  unfold gd Sm
  generalize (10 : Int) ^ 400 = t at *
  split <;> omega
theorem lo_num {a u : Int} (h : u ≠ 0) : a.fdiv (gd a u) = (Rat.divInt a u).num := by
  have hg : (Int.gcd a u : Int) ≠ 0 := by have := Int.gcd_pos_of_ne_zero_right a h; omega
  obtain ⟨x, hx⟩ := Int.gcd_dvd_left a u
  have e1 : (a.gcd u : Int) * x / (a.gcd u : Int) = x := Int.mul_ediv_cancel_left x hg
  rw [Rat.num_divInt, Int.gcd_comm u a]
  unfold gd
  generalize (a.gcd u : Int) = g at *
  rcases Int.lt_trichotomy u 0 with hu | hu | hu
  · rw [if_neg (by omega), Int.sign_eq_neg_one_of_neg hu, hx]
    have e : g * x = -g * -x := (Int.neg_mul_neg g x).symm
    rw [e, Int.mul_fdiv_cancel_left (-x) (by omega), ← e, Int.neg_one_mul, ← Int.mul_neg, Int.mul_ediv_cancel_left _ hg]
  · exact absurd hu h
  · rw [if_pos hu, Int.sign_eq_one_of_pos hu, Int.one_mul, hx, Int.mul_fdiv_cancel_left x hg, e1]
theorem lo_den {a u : Int} (h : u ≠ 0) : u.fdiv (gd a u) = ((Rat.divInt a u).den : Int) := by
  have hg : (Int.gcd a u : Int) ≠ 0 := by have := Int.gcd_pos_of_ne_zero_right a h; omega
  obtain ⟨x, hx⟩ := Int.gcd_dvd_right a u
  rw [Rat.den_divInt, if_neg h, Int.gcd_comm u a, Int.natCast_ediv]
  have e0 : (u.natAbs : Int) = if 0 < u then u else -u := by split <;> omega
  rw [e0]
  unfold gd
  generalize (a.gcd u : Int) = g at *
  rcases Int.lt_trichotomy u 0 with hu | hu | hu
  · rw [if_neg (by omega), if_neg (by omega)]
    have e : u = -g * -x := by rw [Int.neg_mul_neg]; exact hx
    have e2 : -u = g * -x := by rw [Int.mul_neg, ← hx]
    rw [e2, Int.mul_ediv_cancel_left _ hg]
    conv => lhs; rw [e]
    exact Int.mul_fdiv_cancel_left (-x) (by omega)
  · exact absurd hu h
  · rw [if_pos hu, if_pos hu]
    conv => lhs; rw [hx]
    conv => rhs; rw [hx]
    rw [Int.mul_fdiv_cancel_left x hg, Int.mul_ediv_cancel_left _ hg]

/-- numerator and denominator below 10 ^ k -/
def Bd (p : Rat) (k : Nat) : Prop := p.num.natAbs < 10 ^ k ∧ p.den < 10 ^ k
theorem Bd.mono {p : Rat} {i j : Nat} (h : Bd p i) (hij : i ≤ j) : Bd p j := by
  have := Nat.pow_le_pow_right (show 0 < 10 by decide) hij
  exact ⟨Nat.lt_of_lt_of_le h.1 this, Nat.lt_of_lt_of_le h.2 this⟩
theorem nab {x : Nat} {i : Int} (h : i.natAbs < x) : -(x : Int) < i ∧ i < x := by omega
theorem Bd.num {p : Rat} {k : Nat} (h : Bd p k) (hk : k ≤ 400) : Sm p.num := by
  have := nab h.1
  rw [Int.natCast_pow] at this
  exact sm_lt hk this.1 this.2
theorem Bd.den {p : Rat} {k : Nat} (h : Bd p k) (hk : k ≤ 400) : Sm (p.den : Int) := by
  have := nab (i := (p.den : Int)) (x := 10 ^ k) (by have := h.2; omega)
  rw [Int.natCast_pow] at this
  exact sm_lt hk this.1 this.2
theorem divInt_num_le (a u : Int) : (Rat.divInt a u).num.natAbs ≤ a.natAbs := by
  rw [Rat.num_divInt]
  have h : (u.sign * a).natAbs ≤ a.natAbs := by
    rw [Int.natAbs_mul]
    have : u.sign.natAbs ≤ 1 := by
      rcases Int.lt_trichotomy u 0 with hu | hu | hu
      · rw [Int.sign_eq_neg_one_of_neg hu]; decide
      · rw [hu]; decide
      · rw [Int.sign_eq_one_of_pos hu]; decide
    calc u.sign.natAbs * a.natAbs ≤ 1 * a.natAbs := Nat.mul_le_mul_right _ this
      _ = a.natAbs := Nat.one_mul _
  refine Nat.le_trans ?_ h
  obtain ⟨x, hx⟩ : ((u.gcd a : Nat) : Int) ∣ u.sign * a := Int.dvd_mul_of_dvd_right (Int.gcd_dvd_right u a)
  by_cases hg : ((u.gcd a : Nat) : Int) = 0
  · rw [hg, Int.ediv_zero]
    exact Nat.zero_le _
  · rw [hx, Int.mul_ediv_cancel_left _ hg, Int.natAbs_mul]
    exact Nat.le_mul_of_pos_left _ (by omega)
theorem divInt_den_le {a u : Int} (h : u ≠ 0) : (Rat.divInt a u).den ≤ u.natAbs := by
  rw [Rat.den_divInt, if_neg h]
  exact Nat.div_le_self _ _
theorem bd_div {a u : Int} {k : Nat} (h : u ≠ 0) (ha : a.natAbs < 10 ^ k) (hu : u.natAbs < 10 ^ k) : Bd (Rat.divInt a u) k :=
  ⟨Nat.lt_of_le_of_lt (divInt_num_le a u) ha, Nat.lt_of_le_of_lt (divInt_den_le h) hu⟩
theorem add_eq (p q : Rat) : p + q = Rat.divInt (p.num * q.den + q.num * p.den) (p.den * q.den) := by
  have h1 : (p.den : Int) ≠ 0 := by have := p.den_nz; omega
  have h2 : (q.den : Int) ≠ 0 := by have := q.den_nz; omega
  rw [← Rat.divInt_add_divInt _ _ h1 h2, Rat.num_divInt_den, Rat.num_divInt_den]
theorem sub_eq (p q : Rat) : p - q = Rat.divInt (p.num * q.den - q.num * p.den) (p.den * q.den) := by
  have h1 : (p.den : Int) ≠ 0 := by have := p.den_nz; omega
  have h2 : (q.den : Int) ≠ 0 := by have := q.den_nz; omega
  rw [← Rat.divInt_sub_divInt _ _ h1 h2, Rat.num_divInt_den, Rat.num_divInt_den]
theorem mul_eq (p q : Rat) : p * q = Rat.divInt (p.num * q.num) (p.den * q.den) := by
  rw [← Rat.divInt_mul_divInt, Rat.num_divInt_den, Rat.num_divInt_den]
theorem neg_eq (p : Rat) : -p = Rat.divInt (-p.num) p.den := by
  rw [← Rat.neg_divInt, Rat.num_divInt_den]
theorem over_eq (p q : Rat) : p / q = Rat.divInt (p.num * q.den) (p.den * q.num) := by
  rw [Rat.div_def]
  conv => lhs; rw [← Rat.num_divInt_den p, ← Rat.num_divInt_den q]
  rw [Rat.inv_divInt, Rat.divInt_mul_divInt]
theorem den_ne (p q : Rat) : (p.den : Int) * q.den ≠ 0 := by
  have h1 := p.den_nz
  have h2 := q.den_nz
  exact Int.mul_ne_zero (by omega) (by omega)
theorem lt_mul {a b : Nat} {i j : Nat} (ha : a < 10 ^ i) (hb : b < 10 ^ j) : a * b < 10 ^ (i + j) := by
  rw [Nat.pow_add]
  exact Nat.mul_lt_mul'' ha hb
theorem bd_mul {p q : Rat} {i j : Nat} (hp : Bd p i) (hq : Bd q j) : Bd (p * q) (i + j) := by
  rw [mul_eq]
  refine bd_div (den_ne p q) ?_ ?_
  · rw [Int.natAbs_mul]; exact lt_mul hp.1 hq.1
  · rw [Int.natAbs_mul]; exact lt_mul hp.2 hq.2
theorem ten (k : Nat) : 10 ^ (k + 1) = 10 * 10 ^ k := by rw [Nat.pow_succ, Nat.mul_comm]
theorem bd_add {p q : Rat} {i j : Nat} (hp : Bd p i) (hq : Bd q j) : Bd (p + q) (i + j + 1) := by
  rw [add_eq]
  have h1 := lt_mul hp.1 hq.2
  have h2 := lt_mul hp.2 hq.1
  have h3 := lt_mul hp.2 hq.2
  have t := ten (i + j)
  refine bd_div (den_ne p q) ?_ ?_
  · have e1 : (p.num * q.den).natAbs = p.num.natAbs * q.den := by rw [Int.natAbs_mul]; rfl
    have e2 : (q.num * p.den).natAbs = p.den * q.num.natAbs := by rw [Int.natAbs_mul, Nat.mul_comm]; rfl
    have := Int.natAbs_add_le (p.num * q.den) (q.num * p.den)
    omega
  · have e : ((p.den : Int) * q.den).natAbs = p.den * q.den := by rw [Int.natAbs_mul]; rfl
    omega
theorem bd_neg {p : Rat} {i : Nat} (hp : Bd p i) : Bd (-p) i := by
  have e1 : (-p).num = -p.num := rfl
  have e2 : (-p).den = p.den := rfl
  unfold Bd
  rw [e1, e2, Int.natAbs_neg]
  exact hp
theorem bd_sub {p q : Rat} {i j : Nat} (hp : Bd p i) (hq : Bd q j) : Bd (p - q) (i + j + 1) := by
  rw [Rat.sub_eq_add_neg]
  exact bd_add hp (bd_neg hq)
theorem sm_of {i : Int} (h : i.natAbs < 10 ^ 390) : Sm i := by
  have := nab h
  rw [Int.natCast_pow] at this
  exact sm_lt (by decide) this.1 this.2
theorem sm_den2 {p q : Rat} {i j : Nat} (hp : Bd p i) (hq : Bd q j) (h : i + j ≤ 390) : Sm ((p.den : Int) * q.den) := by
  refine sm_of ?_
  have e : ((p.den : Int) * q.den).natAbs = p.den * q.den := by rw [Int.natAbs_mul]; rfl
  rw [e]
  exact Nat.lt_of_lt_of_le (lt_mul hp.2 hq.2) (Nat.pow_le_pow_right (by decide) h)
theorem sm_dn {p q : Rat} {i j : Nat} (hp : Bd p i) (hq : Bd q j) (h : i + j ≤ 390) : Sm ((p.den : Int) * q.num) := by
  refine sm_of ?_
  have e : ((p.den : Int) * q.num).natAbs = p.den * q.num.natAbs := by rw [Int.natAbs_mul]; rfl
  rw [e]
  exact Nat.lt_of_lt_of_le (lt_mul hp.2 hq.1) (Nat.pow_le_pow_right (by decide) h)
theorem rat_dec (p q : Rat) : decide (p = q) = (decide (p.num = q.num) && decide ((p.den : Int) = q.den)) := by
  rw [← Bool.decide_and]
  refine decide_eq_decide.mpr ⟨fun e => by rw [e]; exact ⟨rfl, rfl⟩, fun ⟨h1, h2⟩ => Rat.ext h1 (by omega)⟩
end MG

/-! Texts of pairs, lists of texts compared -/
namespace MG
open PySem PySem.Spec PyProof.Rows L2

theorem all_append {x y : Str} (f : Nat → Bool) : (x ++ y).cps.all f = (x.cps.all f && y.cps.all f) := by
  show (x.cps ++ y.cps).all f = _
  exact Array.all_append
theorem ok_append {x y : Str} (hx : PyData.strOk x = true) (hy : PyData.strOk y = true) : PyData.strOk (x ++ y) = true := by
  unfold PyData.strOk at *
  rw [all_append, hx, hy]
  rfl
theorem ok_of (s : String) : PyData.strOk (Str.ofString s) = true := by
  unfold PyData.strOk
  rw [← Array.all_toList, signs_ofString, List.all_map, List.all_eq_true]
  intro c _
  have h := c.valid
  refine decide_eq_true ?_
  rcases h with h | ⟨_, h⟩
  · exact Nat.lt_trans h (by decide)
  · exact h
/-- repr((a, b)) -/
def shw (a b : Int) : Str := (PyData.tuple [.int a, .int b]).shown
theorem shw_eq (a b : Int) : shw a b = tupleText [toString a, toString b] := rfl
theorem ok_shw (a b : Int) : PyData.strOk (shw a b) = true := by
  show PyData.strOk (("(" : Str) ++ (Str.ofString (toString a) ++ (", " : Str) ++ Str.ofString (toString b)) ++ (")" : Str)) = true
  exact ok_append (ok_append (ok_of _) (ok_append (ok_append (ok_of _) (ok_of _)) (ok_of _))) (ok_of _)
theorem log_sm {i : Int} (h : Sm i) : i.natAbs.log2 < 1920 := Nat.lt_of_lt_of_le (PySem.Flt.log2_lt_of (by decide) h.abs) (by decide)
theorem txt_len {i : Int} (h : Sm i) : (Str.ofString (toString i)).length ≤ 1921 := by
  rw [PySem.ofString_length]
  exact int_text_length_le (k := 1920) (by decide) (log_sm h)
theorem shw_len {a b : Int} (ha : Sm a) (hb : Sm b) : (shw a b).length ≤ 4000 := by
  have h := tupleText_len_le [Str.ofString (toString a), Str.ofString (toString b)]
  have h1 := txt_len ha
  have h2 := txt_len hb
  simp only [List.map_cons, List.map_nil, List.sum_cons, List.sum_nil, List.length_cons, List.length_nil] at h
  have e : shw a b = tupleText [Str.ofString (toString a), Str.ofString (toString b)] := rfl
  rw [e]
  omega
theorem pair_ok {K : PySem.W.Frag} {H : Hp} {t : Addr} {a b : Int} (h : SqT K H t [.int a, .int b]) (ha : Sm a) (hb : Sm b) : Dp K H (.ref t) (.tuple [.int a, .int b]) ∧ (PyData.tuple [.int a, .int b]).showable = true ∧
    (PyData.tuple [.int a, .int b]).hasDict = false ∧ (PyData.tuple [.int a, .int b]).depth ≤ 60 ∧ (PyData.tuple [.int a, .int b]).shown.length ≤ sizeLine := by
  refine ⟨.tup h (.cons (.int a) (.cons (.int b) .nil)), ?_, rfl, ?_, ?_⟩
  · simp [PyData.showable, PyData.showableAll, log_sm ha, log_sm hb]
  · simp [PyData.depth, PyData.depthAll]
  · exact Nat.le_trans (shw_len ha hb) (by decide)
/-- the same, the data unnamed -/
theorem pair_ex {K : PySem.W.Frag} {H : Hp} {t : Addr} {a b : Int} (h : SqT K H t [.int a, .int b]) (ha : Sm a) (hb : Sm b) : ∃ d, Dp K H (.ref t) d ∧ d.showable = true ∧ d.hasDict = false ∧ d.depth ≤ 60 ∧ d.shown.length ≤ sizeLine ∧ d.shown = shw a b := by
  obtain ⟨r1, r2, r3, r4, r5⟩ := pair_ok h ha hb
  exact ⟨_, r1, r2, r3, r4, r5, rfl⟩
/-- what repr of a pair of ints asks -/
theorem repr_pair {K : PySem.W.Frag} {H : Hp} {t : Addr} {a b : Int} {Q : VK} (h : SqT K H t [.int a, .int b]) (ha : Sm a) (hb : Sm b) (k : Q (.str (shw a b)) H) : rRepr K [.ref t] H Q := by
  refine ⟨.ref t, .tuple [.int a, .int b], rfl, .tup h (.cons (.int a) (.cons (.int b) .nil)), ?_, rfl, ?_, ?_, k⟩
  · simp [PyData.showable, PyData.showableAll, log_sm ha, log_sm hb]
  · simp [PyData.depth, PyData.depthAll]
  · exact Nat.le_trans (shw_len ha hb) (by decide)
theorem dp_strs {K : PySem.W.Frag} {H : Hp} {a : Addr} {ss : List Str} (h : SqL K H a (ss.map V.str)) : Dp K H (.ref a) (.list (ss.map .str)) := by
  refine .lst h ?_
  induction ss with
  | nil => exact .nil
  | cons s ss ih => exact .cons (.str s) (all_dp ss)
where all_dp : ∀ ss : List Str, DpAll K H (ss.map V.str) (ss.map PyData.str)
  | [] => .nil
  | s :: ss => .cons (.str s) (all_dp ss)
theorem sh_strs {ss : List Str} (h : ∀ s ∈ ss, PyData.strOk s = true) : SeqAt.shaped (.list (ss.map .str)) = true := by
  unfold SeqAt.shaped
  rw [Bool.and_eq_true]
  refine ⟨?_, ?_⟩
  · show PyData.canLayAll0 (ss.map .str) = true
    rw [canLayAll_strs', List.all_eq_true]
    exact h
  · refine decide_eq_true ?_
    show PyData.depthAll (ss.map .str) + 1 ≤ 64
    rw [depthAll_strs']
    decide
/-- two lists of the same texts -/
theorem ne_strs {K : PySem.W.Frag} {H : Hp} {a b : Addr} {ss : List Str} {Q : VK} (ha : SqL K H a (ss.map V.str)) (hb : SqL K H b (ss.map V.str)) (h : ∀ s ∈ ss, PyData.strOk s = true) (k : Q (.bl false) H) : rNeD K (.ref a) (.ref b) H Q := by
  have sh := sh_strs h
  refine ⟨_, _, dp_strs ha, dp_strs hb, sh, sh, ?_⟩
  have e := SeqAt.eqv_refl (.list (ss.map .str)) (SeqAt.canLay_of_shaped sh)
  rw [e]
  exact k
theorem eq_strs {K : PySem.W.Frag} {H : Hp} {a b : Addr} {ss : List Str} {Q : VK} (ha : SqL K H a (ss.map V.str)) (hb : SqL K H b (ss.map V.str)) (h : ∀ s ∈ ss, PyData.strOk s = true) (k : Q (.bl true) H) : rEqD K (.ref a) (.ref b) H Q := by
  have sh := sh_strs h
  refine ⟨_, _, dp_strs ha, dp_strs hb, sh, sh, ?_⟩
  have e := SeqAt.eqv_refl (.list (ss.map .str)) (SeqAt.canLay_of_shaped sh)
  rw [e]
  exact k
end MG

namespace Lw
open PySem PySem.Spec PyProof.Rows L2 MG
def top (i : Nat) : Stmt := PySem.Challenge.pw_matrixforms_k02_ratios_in_lowest_terms.main.body.getD i (.Pass ⟨0, 0, 0, 0⟩)
abbrev s__law_purse : Stmt := top 13
abbrev s__law_draw : Stmt := top 14
abbrev s__law_common : Stmt := top 15
abbrev s__law_lowest : Stmt := top 16
abbrev s__law_from : Stmt := top 18
structure Blt (mg : Str → Option Value) : Prop where
  b_int : mg "int" = none
  b_len : mg "len" = none
  b_abs : mg "abs" = none
  b_range : mg "range" = none
  b_max : mg "max" = none
  b_min : mg "min" = none
  b_all : mg "all" = none
  b_repr : mg "repr" = none
  b_isinstance : mg "isinstance" = none
  b_bool : mg "bool" = none
  b_str : mg "str" = none
  b_any : mg "any" = none

/-- the cells, the next one, what is left of the last one, the turns -/
structure QAt (H : Hp) (q : Addr) (n : Nat) : Prop where
  ex : ∃ (c : Addr) (ns : List Int) (i r t : Int), H q = some (.lst [.ref c, .int i, .int r, .int t]) ∧ H c = some (.lst (ns.map V.int)) ∧
    (∀ z ∈ ns, 0 ≤ z ∧ z < 10 ^ 120) ∧ ns.length ≤ 100000 ∧ (0 ≤ i ∧ i ≤ n) ∧ (0 ≤ r ∧ r < 10 ^ 120) ∧ (0 ≤ t ∧ t ≤ n)
def spDraw : Sp := fun vs H Q _ => ∃ (q : Addr) (m : Int) (n : Nat), vs = [.ref q, .int m] ∧ QAt H q n ∧ n ≤ 100000 ∧ 0 < m ∧ m < 10 ^ 30 ∧
  ∀ (r : Int) (H' : Hp), 0 ≤ r → r < m → Keep q H H' → QAt H' q (n + 1) → Q (.int r) H'
theorem cells_ne {H : Hp} {q c : Addr} {ns : List Int} {i r t : Int} (hq : H q = some (.lst [.ref c, .int i, .int r, .int t])) (hc : H c = some (.lst (ns.map V.int))) : c ≠ q :=
  ne_of hc hq (by
    intro e
    have e2 := HO.lst.inj e
    cases ns with
    | nil => cases e2
    | cons a b => cases e2)
def primes : List Int := [1000003, 1299709, 2750159, 3497861, 4256233, 5800079, 6700417, 7368787, 8460041, 9576901, 15485863]
theorem primes_ok {z : Int} (h : z ∈ primes) : 0 < z ∧ z ≤ 15485863 := by
  simp only [primes, List.mem_cons, List.not_mem_nil, or_false] at h
  omega
theorem prime_at {i : Int} (h0 : 0 ≤ i) (h : i < 11) : ∃ z, atI ([.int 1000003, .int 1299709, .int 2750159, .int 3497861, .int 4256233, .int 5800079, .int 6700417, .int 7368787, .int 8460041, .int 9576901, .int 15485863] : List V) i = some (.int z) ∧ 0 < z ∧ z ≤ 15485863 := by
  obtain ⟨z, hz, e⟩ := at_ints (l := primes) h0 (by show i < 11; exact h)
  exact ⟨z, e, primes_ok hz⟩
section
variable {P : Program} {w : World} {K : PySem.W.Frag} {mg : Str → Option Value} {base : Heap}
theorem sc__law_draw : FnScope ["_law_q", "_law_many", "_law_digit", "_law_cells", "_law_cell", "_law_turn", "_law_primes", "_law_blend"] ["_law_q", "_law_many"] (defScope s__law_draw) := ⟨rfl, rfl, rfl, by decide +kernel, rfl, by decide +kernel, by decide +kernel⟩
theorem ok_draw {f : Addr} {fd : FuncData} (F : Fun K "_law_draw" "_law_draw" s__law_draw f fd) (T : Blt mg) : FnG P w K mg base CX0 2 f fd ["_law_q", "_law_many"] spDraw := by
  refine fun_okG F sc__law_draw (fun vs H Q E h => ?_) (fun cdv A outer s H vs Q E bare hr h => ?_)
  · obtain ⟨q, m, n, rfl, _⟩ := h
    rfl
  · obtain ⟨q, m, n, rfl, ⟨c, ns, i, r, t, hq, hc, hz, hl, ⟨hi0, hi⟩, ⟨hr0, hr1⟩, ⟨ht0, ht⟩⟩, hn, hm0, hm, k⟩ := h
    have ncq := cells_ne hq hc
    have smm : Sm m := sm_lt (k := 30) (by decide) (by omega) hm
    refine ⟨_, (pss_cons (ps_if (pt_cmpR op_gt (pe_ix (ix_listK (K := K)) (pv 0) pe_int (fun _ _ => rfl)) pe_int (nomark _)) (pss_cons (ps_set (i := 2) sc__law_draw.nd rfl (Or.inl rfl) (pe_op op_modN (pe_callTy call_int1 (by rfl) T.b_int (by decide +kernel) (pa_cons (pe_ix (ix_listK (K := K)) (pv 0) pe_int (fun _ _ => rfl)) pa_nil)) (pv 1)))
  (pss_cons (ps_asg (pe_op op_fdivZ (pe_ix (ix_listK (K := K)) (pv 0) pe_int (fun _ _ => rfl)) (pv 1)) (pg_sub (pv 0) pe_int set_list))
  (pss_one (ps_ret (pv 2)))))
  pss_nil)
  (pss_cons (ps_set (i := 3) sc__law_draw.nd rfl (Or.inl rfl) (pe_cut (pe_ifExp (pt_truth (pe_ix (ix_listK (K := K)) (pv 0) pe_int (fun _ _ => rfl)) (by intro _; rfl)) (pe_ix (ix_listK (K := K)) (pv 0) pe_int (fun _ _ => rfl)) (pe_lst (pa_cons pe_int pa_nil)))))
  (pss_cons (ps_set (i := 4) sc__law_draw.nd rfl (Or.inl rfl) (pe_ix (ix_listK (K := K)) (pv 3) (pe_op op_modN (pe_callTy call_int1 (by rfl) T.b_int (by decide +kernel) (pa_cons (pe_ix (ix_listK (K := K)) (pv 0) pe_int (fun _ _ => rfl)) pa_nil)) (pe_callB (id := "len") call_len_seq (by rfl) T.b_len (by decide +kernel) (pa_cons (pv 3) pa_nil))) (fun _ _ => rfl)))
  (pss_cons (ps_asg (pe_op op_add (pe_ix (ix_listK (K := K)) (pv 0) pe_int (fun _ _ => rfl)) pe_int) (pg_sub (pv 0) pe_int set_list))
  (pss_cons (ps_if (pt_cmpR op_ge (pv 4) (pe_op op_pow pe_int pe_int) (nomark _)) (pss_cons (ps_asg (pe_op op_fdivZ (pv 4) (pv 1)) (pg_sub (pv 0) pe_int set_list))
  (pss_one (ps_ret (pe_op op_modN (pe_callTy call_int1 (by rfl) T.b_int (by decide +kernel) (pa_cons (pv 4) pa_nil)) (pv 1)))))
  pss_nil)
  (pss_cons (ps_set (i := 5) sc__law_draw.nd rfl (Or.inl rfl) (pe_ix (ix_listK (K := K)) (pv 0) pe_int (fun _ _ => rfl)))
  (pss_cons (ps_asg (pe_op op_add (pv 5) pe_int) (pg_sub (pv 0) pe_int set_list))
  (pss_cons (ps_set (i := 6) sc__law_draw.nd rfl (Or.inl rfl) (pe_lst (pa_cons pe_int (pa_cons pe_int (pa_cons pe_int (pa_cons pe_int (pa_cons pe_int (pa_cons pe_int (pa_cons pe_int (pa_cons pe_int (pa_cons pe_int (pa_cons pe_int (pa_cons pe_int pa_nil)))))))))))))
  (pss_cons (ps_set (i := 7) sc__law_draw.nd rfl (Or.inl rfl) (pe_op op_modN (pe_callTy call_int1 (by rfl) T.b_int (by decide +kernel) (pa_cons (pe_op op_add (pe_op op_mulW (pe_op op_add (pv 4) pe_int) pe_int) (pe_op op_mulW (pe_op op_mulW (pe_op op_add (pv 5) pe_int) (pe_op op_add (pv 5) pe_int)) pe_int)) pa_nil)) (pe_ix (ix_listK (K := K)) (pv 6) (pe_op op_modN (pe_callTy call_int1 (by rfl) T.b_int (by decide +kernel) (pa_cons (pv 5) pa_nil)) pe_int) (fun _ _ => rfl))))
  (pss_cons (ps_set (i := 7) sc__law_draw.nd rfl (Or.inl rfl) (pe_op op_modN (pe_callTy call_int1 (by rfl) T.b_int (by decide +kernel) (pa_cons (pe_op op_add (pe_op op_pow (pv 7) pe_int) (pe_op op_mulW (pv 5) pe_int)) pa_nil)) pe_int))
  (pss_one (ps_ret (pe_op op_modN (pe_callTy call_int1 (by rfl) T.b_int (by decide +kernel) (pa_cons (pe_op op_fdivZ (pv 7) pe_int) pa_nil)) (pv 1)))))))))))))), ?_⟩
    -- if q[2] > 0
    refine ⟨_, rfl, q, _, _, _, rfl, rfl, SqL.of hq, rfl, _, _, rfl, rfl, _, rfl, ?_⟩
    refine ite2 (fun hpos => ?_) (fun hpos => ?_)
    · -- digit = int(q[2]) % many; q[2] = q[2] // many; return digit
      refine ⟨_, rfl, q, _, _, _, rfl, rfl, SqL.of hq, rfl, Or.inl ⟨_, rfl, _, rfl, _, _, rfl, rfl, by omega, ?_⟩⟩
      refine ⟨_, rfl, q, _, _, _, rfl, rfl, SqL.of hq, rfl, _, rfl, _, _, rfl, rfl, sm_div smm (by omega), ?_⟩
      refine ⟨_, rfl, q, _, _, _, rfl, rfl, hq, rfl, ?_⟩
      refine ⟨_, rfl, ?_⟩
      refine k _ _ (fmod_ge hm0) (fmod_lt hm0) Keep.refl.upd ⟨c, ns, i, _, t, upd_same, ?_, hz, hl, ⟨hi0, by omega⟩, ⟨fdiv_ge hr0 hm0, Int.lt_of_le_of_lt (fdiv_le hr0 hm0) hr1⟩, ⟨ht0, by omega⟩⟩
      rw [upd_ne ncq]
      exact hc
    · -- cells = q[0] if q[0] else [0]
      refine ⟨fun v H' => ∃ (c' : Addr) (ns' : List Int), v = .ref c' ∧ H' c' = some (.lst (ns'.map V.int)) ∧ ns' ≠ [] ∧ ns'.length ≤ 100000 ∧ (∀ z ∈ ns', 0 ≤ z ∧ z < 10 ^ 120) ∧ c' ≠ q ∧ Same H H', ?_, ?_⟩
      · refine ⟨_, rfl, q, _, _, _, rfl, rfl, SqL.of hq, rfl, _, Or.inl ⟨_, SqL.of hc, rfl⟩, ?_⟩
        cases ns with
        | nil =>
          refine iteF ?_
          refine ⟨by show 1 ≤ sizeLine; decide, fun p hp => ?_⟩
          refine ⟨p, [0], rfl, upd_same, by simp, by decide, by decide, ?_, MG.Same.new (Same.refl H) hp⟩
          exact (ne_of_none hq hp).symm
        | cons z ns =>
          refine iteT ?_
          exact ⟨_, rfl, q, _, _, _, rfl, rfl, SqL.of hq, rfl, c, z :: ns, rfl, hc, by simp, hl, hz, ncq, Same.refl H⟩
      rintro v H1 ⟨c', ns', rfl, hc', hne, hl', hz', ncq', s1⟩
      have hq1 := s1 _ _ hq
      have hlen : 0 < (ns'.length : Int) := by
        have : 0 < ns'.length := List.length_pos_iff.mpr hne
        omega
      -- cell = cells[int(q[1]) % len(cells)]
      have hlm : ((ns'.map V.int).length : Int) = ns'.length := by rw [List.length_map]
      obtain ⟨z, hzm, ez⟩ := at_ints (l := ns') (i := i.fmod ((ns'.map V.int).length : Int)) (fmod_ge (by omega)) (by rw [hlm]; exact fmod_lt hlen)
      obtain ⟨z0, z1⟩ := hz' z hzm
      refine ⟨_, rfl, _, rfl, q, _, _, _, rfl, rfl, SqL.of hq1, rfl, Or.inl ⟨_, rfl, _, rfl, c', _, rfl, Or.inl (SqL.of hc'), _, _, rfl, rfl, by omega, ?_⟩⟩
      refine ⟨c', _, _, _, rfl, rfl, SqL.of hc', ez, ?_⟩
      -- q[1] = q[1] + 1
      refine ⟨_, rfl, q, _, _, _, rfl, rfl, SqL.of hq1, rfl, _, _, rfl, rfl, ?_⟩
      refine ⟨_, rfl, q, _, _, _, rfl, rfl, hq1, rfl, ?_⟩
      -- if cell >= 10 ** 18
      refine ⟨_, rfl, _, _, rfl, rfl, ⟨by decide, by decide, by decide⟩, _, _, rfl, rfl, _, rfl, ?_⟩
      have smz : Sm z := sm_lt (k := 120) (by decide) (by omega) z1
      have nc1 : ∀ {o : HO}, upd H1 q o c = some (.lst (ns.map V.int)) := fun {o} => by rw [upd_ne ncq]; exact s1 _ _ hc
      refine ite2 (fun hbig => ?_) (fun hbig => ?_)
      · refine ⟨_, rfl, _, rfl, _, _, rfl, rfl, sm_div smm (by omega), ?_⟩
        refine ⟨_, rfl, q, _, _, _, rfl, rfl, upd_same, rfl, ?_⟩
        refine ⟨_, rfl, Or.inl ⟨_, rfl, _, rfl, _, _, rfl, rfl, by omega, ?_⟩⟩
        refine k _ _ (fmod_ge hm0) (fmod_lt hm0) (Same.keep s1).upd.upd ⟨c, ns, _, _, t, upd_same, ?_, hz, hl, ⟨by omega, by omega⟩, ⟨fdiv_ge z0 hm0, Int.lt_of_le_of_lt (fdiv_le z0 hm0) z1⟩, ⟨ht0, by omega⟩⟩
        rw [upd_ne ncq]
        exact nc1
      · -- turn = q[3]; q[3] = turn + 1
        refine ⟨_, rfl, q, _, _, _, rfl, rfl, SqL.of upd_same, rfl, ?_⟩
        refine ⟨_, rfl, _, _, rfl, rfl, ?_⟩
        refine ⟨_, rfl, q, _, _, _, rfl, rfl, upd_same, rfl, ?_⟩
        -- primes
        refine ⟨by show 11 ≤ sizeLine; decide, fun p hp => ?_⟩
        have hp' : H1 p = none := by
          have npq : p ≠ q := fun e => by rw [e, upd_same] at hp; cases hp
          rw [upd_ne npq, upd_ne npq] at hp
          exact hp
        -- blend = int((cell + 1) * 48271 + (turn + 1) * (turn + 7) * 69621) % primes[int(turn) % 11]
        obtain ⟨y, ey, y0, y1⟩ := prime_at (i := t.fmod 11) (fmod_ge (by decide)) (fmod_lt (by decide))
        have st : ∀ a : Int, 0 ≤ a → a ≤ 1000000 → Sm a := fun a h0 h1 => sm_lt (k := 7) (by decide) (by omega) (by omega)
        have hm1 : Sm ((t + 1) * (t + 7)) := by
          have h1 : (t + 1) * (t + 7) ≤ 200000 * 200000 := Int.mul_le_mul (by omega) (by omega) (by omega) (by omega)
          have h2 : 0 ≤ (t + 1) * (t + 7) := Int.mul_nonneg (by omega) (by omega)
          exact sm_lt (k := 20) (by decide) (by omega) (by omega)
        refine ⟨_, rfl, _, _, rfl, rfl, _, _, rfl, rfl, sm_mul (sm_lt (k := 121) (by decide) (by omega) (by omega)) (st _ (by decide) (by decide)), ?_⟩
        refine ⟨_, rfl, _, _, rfl, rfl, _, rfl, _, _, rfl, rfl, _, _, rfl, rfl, sm_mul (st _ (by omega) (by omega)) (st _ (by omega) (by omega)), _, _, rfl, rfl, sm_mul hm1 (st _ (by decide) (by decide)), ?_⟩
        refine ⟨_, _, rfl, rfl, Or.inl ⟨_, rfl, ?_⟩⟩
        refine ⟨_, rfl, _, rfl, Or.inl ⟨_, rfl, _, _, rfl, rfl, (show (11 : Int) ≠ 0 by decide), p, _, _, _, rfl, rfl, SqL.of upd_same, ey, _, _, rfl, rfl, by omega, ?_⟩⟩
        -- blend = int(blend ** 3 + turn * 40503) % 2147483647
        have b0 := fmod_ge (x := (z + 1) * 48271 + (t + 1) * (t + 7) * 69621) y0
        have b1 := fmod_lt (x := (z + 1) * 48271 + (t + 1) * (t + 7) * 69621) y0
        refine ⟨_, rfl, _, _, rfl, rfl, ⟨by decide, by decide, ?_⟩, _, rfl, _, _, rfl, rfl, sm_mul (st _ (by omega) (by omega)) (st _ (by decide) (by decide)), _, _, rfl, rfl, Or.inl ⟨_, rfl, _, _, rfl, rfl, (show (2147483647 : Int) ≠ 0 by decide), ?_⟩⟩
        · show ((((z + 1) * 48271 + (t + 1) * (t + 7) * 69621).fmod y).natAbs < 2 ^ 64)
          generalize ((z + 1) * 48271 + (t + 1) * (t + 7) * 69621).fmod y = b at *
          omega
        -- return int(blend // 32) % many
        refine ⟨_, rfl, _, _, rfl, rfl, ⟨by decide, by decide⟩, Or.inl ⟨_, rfl, _, rfl, _, _, rfl, rfl, by omega, ?_⟩⟩
        refine k _ _ (fmod_ge hm0) (fmod_lt hm0) ((Same.keep s1).upd.upd.new hp) ⟨c, ns, i + 1, r, t + 1, ?_, ?_, hz, hl, ⟨by omega, by omega⟩, ⟨hr0, hr1⟩, ⟨by omega, by omega⟩⟩
        · rw [upd_ne (fun e => by rw [← e, upd_same] at hp; cases hp)]
          exact upd_same
        · rw [upd_ne (ne_of_none (s1 _ _ hc) hp'), upd_ne ncq]
          exact nc1

theorem QAt.keep {H H' : Hp} {q : Addr} {n : Nat} (h : QAt H q n) (s : Same H H') : QAt H' q n := by
  obtain ⟨c, ns, i, r, t, hq, hc, h⟩ := h
  exact ⟨c, ns, i, r, t, s _ _ hq, s _ _ hc, h⟩
theorem QAt.at_ {H : Hp} {q : Addr} {n : Nat} (h : QAt H q n) : ∃ o, H q = some o := by
  obtain ⟨c, ns, i, r, t, hq, hc, h⟩ := h
  exact ⟨_, hq⟩
theorem QAt.ne {H : Hp} {q p : Addr} {n : Nat} (h : QAt H q n) (hp : H p = none) : p ≠ q := by
  obtain ⟨o, e⟩ := h.at_
  exact (ne_of_none e hp).symm
theorem QAt.new {H : Hp} {q p : Addr} {n : Nat} {o : HO} (h : QAt H q n) (hp : H p = none) : QAt (upd H p o) q n := h.keep (MG.Same.new (Same.refl H) hp)

abbrev DrawC (P : Program) (w : World) (K : PySem.W.Frag) (mg : Str → Option Value) (base : Heap) : Prop := CalG P w K mg base 2 "_law_draw" spDraw []
theorem signs_ok : ∀ z ∈ ([1, -1] : List Int), z = 1 ∨ z = -1 := by decide
/-! ### _law_common, _law_lowest -/
def spCommon : Sp := fun vs H Q _ => ∃ a b : Int, vs = [.int a, .int b] ∧ Q (.int (Int.gcd a b : Nat)) H
theorem gcd_step {x y : Nat} : Nat.gcd y (x % y) = Nat.gcd x y := by
  rw [Nat.gcd_comm x y, Nat.gcd_rec y x, Nat.gcd_comm]
theorem sc__law_common : FnScope ["_law_one", "_law_two", "_law_high", "_law_low"] ["_law_one", "_law_two"] (defScope s__law_common) := ⟨rfl, rfl, rfl, by decide +kernel, rfl, by decide +kernel, by decide +kernel⟩
theorem ok_common {f : Addr} {fd : FuncData} (F : Fun K "_law_common" "_law_common" s__law_common f fd) (T : Blt mg) : FnG P w K mg base CX0 2 f fd ["_law_one", "_law_two"] spCommon := by
  refine fun_okG F sc__law_common (fun vs H Q E h => ?_) (fun cdv A outer s H vs Q E bare hr h => ?_)
  · obtain ⟨a, b, rfl, _⟩ := h
    rfl
  · obtain ⟨a, b, rfl, k⟩ := h
    refine ⟨_, (pss_cons (ps_par (i := 2) (j := 3) (by rfl) sc__law_common.nd rfl rfl (by decide) rfl rfl (pa_cons (pe_callB (id := "abs") call_abs (by rfl) T.b_abs (by decide +kernel) (pa_cons (pv 0) pa_nil)) (pa_cons (pe_callB (id := "abs") call_abs (by rfl) T.b_abs (by decide +kernel) (pa_cons (pv 1) pa_nil)) pa_nil)) (by rfl))
  (pss_cons (ps_while PassesOwn.never (pt_cmpR op_gt (pv 3) pe_int (nomark _)) (pss_one (ps_par (i := 2) (j := 3) (by rfl) sc__law_common.nd rfl rfl (by decide) rfl rfl (pa_cons (pv 3) (pa_cons (pe_op op_modN (pe_callTy call_int1 (by rfl) T.b_int (by decide +kernel) (pa_cons (pv 2) pa_nil)) (pv 3)) pa_nil)) (by rfl))))
  (pss_one (ps_ret (pv 2))))), ?_⟩
    refine ⟨_, rfl, _, rfl, _, rfl, _, rfl, _, _, rfl, ?_⟩
    refine while_by (fun σ H' => H' = H ∧ ∃ x y : Nat, σ = [some (.int a), some (.int b), some (.int x), some (.int y)] ∧ Nat.gcd x y = Int.gcd a b) (fun (σ : L2.St) (_ : Hp) => match σ[3]? with | some (some (V.int y)) => y.toNat | _ => 0) ?_ ?_ ?_
    · refine ⟨rfl, a.natAbs, b.natAbs, ?_, rfl⟩
      have e : ∀ z : Int, (if z < 0 then -z else z) = (z.natAbs : Int) := fun z => by split <;> omega
      show [some (V.int a), some (V.int b), some (V.int (if a < 0 then -a else a)), some (V.int (if b < 0 then -b else b))] = _
      rw [e, e]
    · rintro σ H' ⟨rfl, x, y, rfl, hg⟩
      refine ⟨_, rfl, _, _, rfl, rfl, _, rfl, ?_⟩
      refine ite2 (fun hy => ?_) (fun hy => ?_)
      · have hy' : 0 < (y : Int) := of_decide_eq_true hy
        refine ⟨_, rfl, _, rfl, Or.inl ⟨_, rfl, _, rfl, _, _, rfl, rfl, by omega, _, _, rfl, ?_⟩⟩
        have e : (x : Int).fmod (y : Int) = ((x % y : Nat) : Int) := by
          rw [Int.fmod_eq_emod_of_nonneg (x : Int) (by omega)]
          exact (Int.natCast_emod x y).symm
        refine ⟨⟨rfl, y, x % y, ?_, gcd_step.trans hg⟩, ?_⟩
        · show [some (V.int a), some (V.int b), some (V.int (y : Int)), some (V.int ((x : Int).fmod (y : Int)))] = _
          rw [e]
        · show ((x : Int).fmod (y : Int)).toNat < (y : Int).toNat
          have h1 := fmod_lt (x := (x : Int)) hy'
          omega
      · have hy' : ¬ 0 < (y : Int) := fun z => hy (decide_eq_true z)
        have y0 : y = 0 := by omega
        subst y0
        refine ⟨_, rfl, ?_⟩
        rw [Nat.gcd_zero_right] at hg
        rw [hg]
        exact k
    · rintro σ H' Q1 Q2 hq ⟨v, e, i, j, e1, e2, b', e3, q⟩
      exact ⟨v, e, i, j, e1, e2, b', e3, hq _ _ q⟩
abbrev CommonC (P : Program) (w : World) (K : PySem.W.Frag) (mg : Str → Option Value) (base : Heap) : Prop := CalG P w K mg base 2 "_law_common" spCommon []
def spLowest : Sp := fun vs H Q _ => ∃ a u : Int, vs = [.int a, .int u] ∧ u ≠ 0 ∧ Sm u ∧
  ∀ p, H p = none → Q (.ref p) (upd H p (.tup [.int (Rat.divInt a u).num, .int (Rat.divInt a u).den]))
theorem sc__law_lowest : FnScope ["_law_high", "_law_under", "_law_both"] ["_law_high", "_law_under"] (defScope s__law_lowest) := ⟨rfl, rfl, rfl, by decide +kernel, rfl, by decide +kernel, by decide +kernel⟩
theorem ok_lowest {f : Addr} {fd : FuncData} (F : Fun K "_law_lowest" "_law_lowest" s__law_lowest f fd) (c_common : CommonC P w K mg base) : FnG P w K mg base CX0 4 f fd ["_law_high", "_law_under"] spLowest := by
  refine fun_okG F sc__law_lowest (fun vs H Q E h => ?_) (fun cdv A outer s H vs Q E bare hr h => ?_)
  · obtain ⟨a, b, rfl, _⟩ := h
    rfl
  · obtain ⟨a, u, rfl, hu, su, k⟩ := h
    refine ⟨_, (pss_cons (ps_set (i := 2) sc__law_lowest.nd rfl (Or.inl rfl) (pe_cut (pe_ifExp (pt_cmpR op_gt (pv 1) pe_int (nomark _)) (pe_cg c_common bare hr (by decide) rfl (pa_cons (pv 0) (pa_cons (pv 1) pa_nil))) (pe_un un_neg (pe_cg c_common bare hr (by decide) rfl (pa_cons (pv 0) (pa_cons (pv 1) pa_nil)))))))
  (pss_one (ps_ret (pe_tup (pa_cons (pe_op op_fdivZ (pv 0) (pv 2)) (pa_cons (pe_op op_fdivZ (pv 1) (pv 2)) pa_nil)))))), ?_⟩
    refine ⟨fun v H' => v = .int (gd a u) ∧ H' = H, ?_, ?_⟩
    · refine ⟨_, rfl, _, _, rfl, rfl, _, rfl, ?_⟩
      refine ite2 (fun h => ?_) (fun h => ?_)
      · refine ⟨_, rfl, _, rfl, a, u, rfl, ?_, rfl⟩
        unfold gd
        rw [if_pos (of_decide_eq_true h)]
      · refine ⟨_, rfl, _, rfl, a, u, rfl, _, rfl, ?_, rfl⟩
        unfold gd
        rw [if_neg (fun z => h (decide_eq_true z))]
    · rintro v H' ⟨rfl, rfl⟩
      have s := sm_div (gd_sm (a := a) hu su) (gd_ne hu)
      refine ⟨_, rfl, _, rfl, _, _, rfl, rfl, s, _, rfl, _, rfl, _, _, rfl, rfl, s, by show 2 ≤ sizeLine; decide, fun p hp => ?_⟩
      have kk := k p hp
      rw [← lo_num hu, ← lo_den hu] at kk
      exact kk

/-! ### _law_purse, _law_from -/
def spPurse (K : PySem.W.Frag) : Sp := fun vs H Q _ => ∃ (a : Addr) (ns : List Int), vs = [.ref a] ∧ SqL K H a (ns.map V.int) ∧ ns.length ≤ 100000 ∧
  ∀ q H', H q = none → Same H H' → QAt H' q 0 → Q (.ref q) H'
theorem sc__law_purse : FnScope ["_law_script", "_law_cell"] ["_law_script"] (defScope s__law_purse) := ⟨rfl, rfl, rfl, by decide +kernel, rfl, by decide +kernel, by decide +kernel⟩
theorem ok_purse {f : Addr} {fd : FuncData} (F : Fun K "_law_purse" "_law_purse" s__law_purse f fd) (T : Blt mg) : FnG P w K mg base CX0 2 f fd ["_law_script"] (spPurse K) := by
  refine fun_okG F sc__law_purse (fun vs H Q E h => ?_) (fun cdv A outer s H vs Q E bare hr h => ?_)
  · obtain ⟨a, ns, rfl, _⟩ := h
    rfl
  · obtain ⟨a, ns, rfl, hS, hl, k⟩ := h
    refine ⟨_, (pss_one (ps_ret (pe_lst (pa_cons (pe_map (K := K) (j := 1) (pe_lc (own := [("_law_cell", 1)]) (g := gName 1) (tt := tYes) rfl sc__law_purse.nd (pi_list (pe_cut (pv 0))) (blkOk_by (N := ["_law_script", "_law_cell"]) (sc := defScope s__law_purse) (by decide +kernel)) (fun _ _ _ _ _ => (pg_name (i := 1) sc__law_purse.nd rfl (Or.inl rfl))) (fun _ _ _ _ _ => pts_nil) (fun _ _ _ _ _ => (pe_cut (pe_op op_modN (pe_callTy call_int1 (by rfl) T.b_int (by decide +kernel) (pa_cons (pv 1) pa_nil)) (pe_op op_mulW (pe_op op_pow pe_int pe_int) (pe_op op_pow pe_int pe_int))))))) (pa_cons pe_int (pa_cons pe_int (pa_cons pe_int pa_nil))))))), ?_⟩
    refine ⟨_, rfl, a, ns.map V.int, (ns.map fun z => z.fmod (10 ^ Int.toNat 60 * 10 ^ Int.toNat 60)).map V.int, rfl, hS, by simp, by simpa using hl, ?_, fun D H1 s1 hD e1 => ?_⟩
    · intro i x y H' hx hy s'
      rw [List.getElem?_map] at hx
      rw [List.getElem?_map, List.getElem?_map] at hy
      cases e : ns[i]? with
      | none => rw [e] at hx; cases hx
      | some z =>
        rw [e] at hx hy
        obtain rfl := (Option.some.inj hx).symm
        obtain rfl := (Option.some.inj hy).symm
        refine ⟨_, rfl, Or.inl ⟨_, rfl, _, _, rfl, rfl, ⟨by decide, by decide, by decide⟩, _, _, rfl, rfl, ⟨by decide, by decide, by decide⟩, _, _, rfl, rfl, sm_mul (sm_lt (k := 61) (by decide) (by decide) (by decide)) (sm_lt (k := 61) (by decide) (by decide) (by decide)), _, _, rfl, rfl, (show (10 : Int) ^ Int.toNat 60 * 10 ^ Int.toNat 60 ≠ 0 by decide), ?_⟩⟩
        exact ⟨rfl, Same.refl _⟩
    · refine ⟨by show 4 ≤ sizeLine; decide, fun q hq => ?_⟩
      have nq : D ≠ q := ne_of_none e1 hq
      have hq' : H q = none := s1.free hq
      refine k q _ hq' (MG.Same.new s1 hq) ⟨D, _, 0, 0, 0, upd_same, (by rw [upd_ne nq]; exact e1), ?_, (by simpa using hl), by decide, by decide, by decide⟩
      intro y hy
      obtain ⟨z, _, rfl⟩ := List.mem_map.mp hy
      have e : (10 : Int) ^ Int.toNat 60 * 10 ^ Int.toNat 60 = 10 ^ 120 := by decide
      rw [e]
      exact ⟨fmod_ge (by decide), fmod_lt (by decide)⟩
abbrev PurseC (P : Program) (w : World) (K : PySem.W.Frag) (mg : Str → Option Value) (base : Heap) : Prop := CalG P w K mg base 2 "_law_purse" (spPurse K) []
theorem cut_map (ns : List Int) (lo hi : Option Int) : ∃ zs : List Int, cutV (ns.map V.int) lo hi = zs.map V.int ∧ zs.length ≤ ns.length := by
  refine ⟨(ns.drop (HT.sIx ns.length 0 lo)).take (HT.sIx ns.length ns.length hi - HT.sIx ns.length 0 lo), ?_, ?_⟩
  · unfold cutV
    rw [List.length_map, List.map_take, List.map_drop]
  · rw [List.length_take, List.length_drop]
    omega
def spFrom (K : PySem.W.Frag) : Sp := fun vs H Q _ => ∃ (a : Addr) (ns : List Int) (j : Int), vs = [.ref a, .int j] ∧ SqL K H a (ns.map V.int) ∧ ns.length ≤ 1000 ∧
  ∀ q H', H q = none → Same H H' → QAt H' q 0 → Q (.ref q) H'
theorem sc__law_from : FnScope ["_law_script", "_law_k"] ["_law_script", "_law_k"] (defScope s__law_from) := ⟨rfl, rfl, rfl, by decide +kernel, rfl, by decide +kernel, by decide +kernel⟩
theorem ok_from {f : Addr} {fd : FuncData} (F : Fun K "_law_from" "_law_from" s__law_from f fd) (c_purse : PurseC P w K mg base) : FnG P w K mg base CX0 4 f fd ["_law_script", "_law_k"] (spFrom K) := by
  refine fun_okG F sc__law_from (fun vs H Q E h => ?_) (fun cdv A outer s H vs Q E bare hr h => ?_)
  · obtain ⟨a, ns, j, rfl, _⟩ := h
    rfl
  · obtain ⟨a, ns, j, rfl, hS, hl, k⟩ := h
    obtain ⟨z1, e1, l1⟩ := cut_map ns (some j) none
    obtain ⟨z2, e2, l2⟩ := cut_map ns none (some j)
    refine ⟨_, (pss_one (ps_ret (pe_cg c_purse bare hr (by decide) rfl (pa_cons (pe_op op_cat (pe_slice sl_list (pv 0) (po_some (pv 1)) po_none) (pe_slice sl_list (pv 0) po_none (po_some (pv 1)))) pa_nil)))), ?_⟩
    refine ⟨_, rfl, _, rfl, j, rfl, a, _, rfl, hS, fun p hp => ?_⟩
    have s1 : Same H (upd H p (.lst (cutV (ns.map V.int) (some j) none))) := MG.Same.new (Same.refl H) hp
    refine ⟨_, rfl, _, rfl, j, rfl, a, _, rfl, s1.seq hS, fun p2 hp2 => ?_⟩
    have n12 : p ≠ p2 := ne_of_none upd_same hp2
    have s2 := MG.Same.new (o := .lst (cutV (ns.map V.int) none (some j))) s1 hp2
    refine ⟨p, p2, _, _, rfl, rfl, by rw [upd_ne n12]; exact upd_same, upd_same, ?_, fun p3 hp3 => ?_⟩
    · rw [e1, e2, List.length_map, List.length_map]
      exact Nat.le_trans (m := 2000) (by omega) (by decide)
    · refine ⟨p3, z1 ++ z2, rfl, ?_, by rw [List.length_append]; omega, fun q H' hq s q0 => ?_⟩
      · refine SqL.of ?_
        rw [upd_same, e1, e2, List.map_append]
      · have s3 := MG.Same.new (o := .lst (cutV (ns.map V.int) (some j) none ++ cutV (ns.map V.int) none (some j))) s2 hp3
        exact k q H' (s3.free hq) (s3.trans s) q0
end
end Lw

namespace Lw
open PySem PySem.Spec PyProof.Rows L2 MG
abbrev s_is_whole : Stmt := top 7
abbrev s_is_number : Stmt := top 8
abbrev s_to_ratio : Stmt := top 9
abbrev s_Ratio___init__ : Stmt := inClass (top 11) 0
abbrev s_Ratio_top : Stmt := inClass (top 11) 1
abbrev s_Ratio_bottom : Stmt := inClass (top 11) 2
abbrev s_Ratio_over : Stmt := inClass (top 11) 4
abbrev s_Ratio___add__ : Stmt := inClass (top 11) 5
abbrev s_Ratio___sub__ : Stmt := inClass (top 11) 6
abbrev s_Ratio___mul__ : Stmt := inClass (top 11) 7
abbrev s_Ratio___neg__ : Stmt := inClass (top 11) 8
abbrev s_Ratio___eq__ : Stmt := inClass (top 11) 9
abbrev s_Ratio___bool__ : Stmt := inClass (top 11) 10
abbrev s_Ratio___str__ : Stmt := inClass (top 11) 11
abbrev s_Ratio___repr__ : Stmt := inClass (top 11) 12
/-- what the top says of the class Ratio, at C -/
structure TxR (K : PySem.W.Frag) (mg : Str → Option Value) (C : Addr) : Prop extends Blt mg where
  cl : Cls K C
  nT : NoAttr K C "_top"
  nB : NoAttr K C "_bottom"
  g_Ratio : mg "Ratio" = some (.ref C)
  g_gcd : mg "gcd" = some (.builtin "math.gcd")
  ca : PySem.W.findIn K (.ref C) "__class__" = some (some (.builtin "object.__class__"))
  cn : PySem.W.specialIn K (.builtin "object.__class__") "__get__" = some (some (.builtin "getset_descriptor.__get__"))
  ct : PySem.W.takesIn K (.builtin "object.__class__") = some true
  cm : PySem.W.mroIn K C (.type "object") = some true
  kI : PySem.W.kitOne K (.ref C) (.type "int") = some false
  kB : PySem.W.kitOne K (.ref C) (.type "bool") = some false
  kC : PySem.W.kitOne K (.ref C) (.ref C) = some true
  iC : PySem.W.kitOne K (.type "int") (.ref C) = some false
def flds (p : Rat) : List (Str × V) := [("_top", .int p.num), ("_bottom", .int p.den)]
theorem kn : ¬ (("_top" : Str) = "_bottom") := by decide +kernel
theorem flds_put (a b : Int) : putF "_bottom" (.int b) (putF "_top" (.int a) []) = ([("_top", .int a), ("_bottom", .int b)] : List (Str × V)) := by
  show (if ("_top" : Str) = "_bottom" then _ else (("_top" : Str), V.int a) :: putF "_bottom" (V.int b) []) = _
  rw [if_neg kn]
  rfl
theorem flds_top (p : Rat) : (flds p).lookup ("_top" : Str) = some (.int p.num) := by simp [flds, List.lookup]
theorem flds_bottom (p : Rat) : (flds p).lookup ("_bottom" : Str) = some (.int p.den) := by
  have h : (("_bottom" : Str) == "_top") = false := by decide +kernel
  simp [flds, List.lookup, h]
theorem flds_no (p : Rat) {m : Str} (h1 : (m == ("_top" : Str)) = false) (h2 : (m == ("_bottom" : Str)) = false) : (flds p).lookup m = none := by
  simp [flds, List.lookup, h1, h2]
/-- a Ratio of the value p stands at r -/
def RatAt (C : Addr) (H : Hp) (r : Addr) (p : Rat) : Prop := ∃ dx, H r = some (.ins C dx (flds p))
theorem RatAt.same {C : Addr} {H H' : Hp} {r : Addr} {p : Rat} (h : RatAt C H r p) (s : Same H H') : RatAt C H' r p := h.elim fun dx e => ⟨dx, s _ _ e⟩
theorem RatAt.tyx {K : PySem.W.Frag} {mg : Str → Option Value} {C : Addr} {H : Hp} {r : Addr} {p : Rat} (T : TxR K mg C) (h : RatAt C H r p) : TyX K H (.ref r) (.ref C) :=
  h.elim fun dx e => .base (.ins e T.cl T.ca T.cn T.ct T.cm)
theorem tyx_int {K : PySem.W.Frag} {H : Hp} (i : Int) : TyX K H (.int i) (.type "int") := .base (.int i)
section
variable {P : Program} {w : World} {K : PySem.W.Frag} {mg : Str → Option Value} {base : Heap} {C : Addr}
/-! ### is_whole, is_number -/
def spWhole (K : PySem.W.Frag) : Sp := fun vs H Q _ => ∃ (x : V) (t : Value) (b1 b2 : Bool), vs = [x] ∧ TyX K H x t ∧
  PySem.W.kitOne K t (.type "int") = some b1 ∧ PySem.W.kitOne K t (.type "bool") = some b2 ∧ Q (.bl (b1 && !b2)) H
theorem sc_is_whole : FnScope ["value"] ["value"] (defScope s_is_whole) := ⟨rfl, rfl, rfl, by decide +kernel, rfl, by decide +kernel, by decide +kernel⟩
theorem ok_whole {f : Addr} {fd : FuncData} (F : Fun K "is_whole" "is_whole" s_is_whole f fd) (T : Blt mg) : FnOk P w K mg base CX0 2 f fd ["value"] (spWhole K) := by
  refine F.ok sc_is_whole (fun vs H Q E h => ?_) (fun cdv A outer s H vs Q E hr h => ?_)
  · obtain ⟨x, t, b1, b2, rfl, _⟩ := h
    rfl
  · obtain ⟨x, t, b1, b2, rfl, tx, k1, k2, k⟩ := h
    refine ⟨_, (pss_one (ps_ret (pe_and (pe_callB (id := "isinstance") (call_isiK (K := K)) (by rfl) T.b_isinstance (by decide +kernel) (pa_cons (pv 0) (pa_cons (pe_bltn (v := V.ty "int") (u := Value.type "int") (by rfl) T.b_int (by decide +kernel) rfl) pa_nil))) (pe_one (pe_not (pe_callB (id := "isinstance") (call_isiK (K := K)) (by rfl) T.b_isinstance (by decide +kernel) (pa_cons (pv 0) (pa_cons (pe_bltn (v := V.ty "bool") (u := Value.type "bool") (by rfl) T.b_bool (by decide +kernel) rfl) pa_nil)))))))), ?_⟩
    refine ⟨_, rfl, x, _, _, _, _, rfl, .ty "int", tx, k1, _, rfl, ?_⟩
    cases b1 with
    | false => exact iteF k
    | true =>
      refine iteT ?_
      refine ⟨_, rfl, x, _, _, _, _, rfl, .ty "bool", tx, k2, _, rfl, ?_⟩
      exact k
abbrev WholeC (P : Program) (w : World) (K : PySem.W.Frag) (mg : Str → Option Value) (base : Heap) : Prop := CalF P w K mg base 2 "is_whole" (spWhole K) []
def spNumber (K : PySem.W.Frag) (C : Addr) : Sp := fun vs H Q _ => ∃ (x : V) (t : Value) (b1 b2 b3 : Bool), vs = [x] ∧ TyX K H x t ∧
  PySem.W.kitOne K t (.type "int") = some b1 ∧ PySem.W.kitOne K t (.type "bool") = some b2 ∧ PySem.W.kitOne K t (.ref C) = some b3 ∧ Q (.bl ((b1 && !b2) || b3)) H
theorem sc_is_number : FnScope ["value"] ["value"] (defScope s_is_number) := ⟨rfl, rfl, rfl, by decide +kernel, rfl, by decide +kernel, by decide +kernel⟩
theorem ok_number {f : Addr} {fd : FuncData} (F : Fun K "is_number" "is_number" s_is_number f fd) (T : TxR K mg C) (c_whole : WholeC P w K mg base) : FnOk P w K mg base CX0 4 f fd ["value"] (spNumber K C) := by
  refine F.ok sc_is_number (fun vs H Q E h => ?_) (fun cdv A outer s H vs Q E hr h => ?_)
  · obtain ⟨x, t, b1, b2, b3, rfl, _⟩ := h
    rfl
  · obtain ⟨x, t, b1, b2, b3, rfl, tx, k1, k2, k3, k⟩ := h
    refine ⟨_, (pss_one (ps_ret (pe_or (pe_cf c_whole hr (by decide) rfl (pa_cons (pv 0) pa_nil)) (pe_one (pe_callB (id := "isinstance") (call_isiK (K := K)) (by rfl) T.b_isinstance (by decide +kernel) (pa_cons (pv 0) (pa_cons (pe_glob (v := V.ref C) rfl T.g_Ratio rfl) pa_nil))))))), ?_⟩
    refine ⟨_, rfl, x, t, b1, b2, rfl, tx, k1, k2, _, rfl, ?_⟩
    cases e : (b1 && !b2) with
    | true =>
      refine iteT ?_
      rw [e] at k
      exact k
    | false =>
      refine iteF ?_
      rw [e] at k
      exact ⟨_, rfl, x, _, _, _, _, rfl, .own C, tx, k3, k⟩
abbrev NumberC (P : Program) (w : World) (K : PySem.W.Frag) (mg : Str → Option Value) (base : Heap) (C : Addr) : Prop := CalF P w K mg base 4 "is_number" (spNumber K C) []
/-! ### Ratio(top, bottom), where both are integers and the bottom is not 0 -/
def spInit (C : Addr) : Sp := fun vs H Q _ => ∃ (r dx : Addr) (a b : Int), vs = [.ref r, .int a, .int b] ∧ H r = some (.ins C dx []) ∧ b ≠ 0 ∧ Sm b ∧
  ∀ H', H' r = some (.ins C dx (flds (Rat.divInt a b))) → (∀ c o, H c = some o → c ≠ r → H' c = some o) → Q .non H'
theorem sc_Ratio___init__ : FnScope ["self", "top", "bottom", "given", "shared"] ["self", "top", "bottom"] (defScope s_Ratio___init__) := ⟨rfl, rfl, rfl, by decide +kernel, rfl, by decide +kernel, by decide +kernel⟩
theorem ok_init {f : Addr} {fd : FuncData} {dvs : List V} (F : FunD K "__init__" "Ratio.__init__" (defArgs s_Ratio___init__) (defBody s_Ratio___init__) (defScope s_Ratio___init__) dvs [] f fd) (T : TxR K mg C) (c_whole : WholeC P w K mg base) : FnOk P w K mg base CX0 4 f fd ["self", "top", "bottom"] (spInit C) := by
  refine F.ok sc_Ratio___init__ (fun vs H Q E h => ?_) (fun cdv A outer s H vs Q E hr h => ?_)
  · obtain ⟨r, dx, a, b, rfl, _⟩ := h
    rfl
  · obtain ⟨r, dx, a, b, rfl, hr0, hb, sb, k⟩ := h
    suffices hh : ∃ t, PSs (cxOf CX0 P w K mg base ["self", "top", "bottom", "given", "shared"] "Ratio.__init__" (defScope s_Ratio___init__) f cdv A outer s H E).nox (defBody s_Ratio___init__) t ∧ t { nx := fun _ H' => Q .non H', rt := Q } (start ["self", "top", "bottom", "given", "shared"] [.ref r, .int a, .int b]) H by
      obtain ⟨t, h1, h2⟩ := hh
      exact ⟨t, h1.nox, h2⟩
    refine ⟨_, (pss_cons (ps_for PassesOwn.never rfl (pi_tup (pe_tup (pa_cons (pv 1) (pa_cons (pv 2) pa_nil)))) (pg_name (i := 3) sc_Ratio___init__.nd rfl (Or.inl rfl))
  (pss_one (ps_if (pt_not (pt_val (pe_cf c_whole hr (by decide) rfl (pa_cons (pv 3) pa_nil)))) (pss_one ps_never)
  pss_nil)))
  (pss_cons (ps_if (pt_cmpR op_eq (pv 2) pe_int (nomark _)) (pss_one ps_never)
  pss_nil)
  (pss_cons (ps_set (i := 4) sc_Ratio___init__.nd rfl (Or.inl rfl) (pe_callBfun cr_gcd rfl T.g_gcd (pa_cons (pv 1) (pa_cons (pv 2) pa_nil))))
  (pss_cons (ps_cut (ps_if (pt_cmpR op_lt (pv 2) pe_int (nomark _)) (pss_one (ps_set (i := 4) sc_Ratio___init__.nd rfl (Or.inl rfl) (pe_un un_neg (pv 4))))
  pss_nil))
  (pss_cons (ps_fld (pv 0) (pe_op op_fdivZ (pv 1) (pv 4)) rfl)
  (pss_one (ps_fld (pv 0) (pe_op op_fdivZ (pv 2) (pv 4)) rfl))))))), ?_⟩
    -- for given in (top, bottom)
    refine ⟨_, rfl, _, rfl, by show 2 ≤ sizeLine; decide, fun t ht => ⟨t, rfl, ⟨_, SqT.of upd_same⟩, ?_⟩⟩
    have s1 : Same H (upd H t (.tup [.int a, .int b])) := MG.Same.new (Same.refl H) ht
    refine for_tup (K := K) (a := t) (xs := [.int a, .int b]) (fun i σ H' => H' = upd H t (.tup [.int a, .int b]) ∧ ∃ v : Option V, σ = [some (.ref r), some (.int a), some (.int b), v, none]) ⟨rfl, none, rfl⟩ ?_ ?_ ?_
    · rintro i σ H' _ ⟨rfl, _⟩
      exact SqT.of upd_same
    · rintro i x σ H' hx ⟨rfl, v, rfl⟩
      obtain ⟨z, rfl⟩ : ∃ z, x = V.int z := by
        match i, hx with
        | 0, hx => exact ⟨a, (Option.some.inj hx).symm⟩
        | 1, hx => exact ⟨b, (Option.some.inj hx).symm⟩
      refine ⟨_, rfl, _, _, true, false, rfl, tyx_int z, kit_ty (by decide +kernel), kit_ty (by decide +kernel), _, rfl, ?_⟩
      exact ⟨rfl, _, rfl⟩
    · rintro σ H' ⟨rfl, v, rfl⟩
      -- if bottom == 0
      refine ⟨_, rfl, rfl, _, rfl, ?_⟩
      refine ite2 (fun z => ?_) (fun _ => ?_)
      · exact absurd (V.int.inj (of_decide_eq_true z)) hb
      -- shared = gcd(top, bottom); if bottom < 0: shared = -shared
      refine ⟨_, rfl, _, rfl, a, b, rfl, ?_⟩
      refine ⟨fun σ H' => H' = upd H t (.tup [.int a, .int b]) ∧ σ = [some (.ref r), some (.int a), some (.int b), v, some (.int (gd a b))], ?_, ?_⟩
      · refine ⟨_, rfl, _, _, rfl, rfl, _, rfl, ?_⟩
        refine ite2 (fun z => ?_) (fun z => ?_)
        · refine ⟨_, rfl, _, rfl, rfl, ?_⟩
          have hz : b < 0 := of_decide_eq_true z
          unfold gd
          rw [if_neg (by omega)]
          rfl
        · refine ⟨rfl, ?_⟩
          have hz : ¬ b < 0 := fun q => z (decide_eq_true q)
          unfold gd
          rw [if_pos (by omega)]
          rfl
      rintro σ H' ⟨rfl, rfl⟩
      have ds := sm_div (gd_sm (a := a) hb sb) (gd_ne hb)
      have hr1 := s1 _ _ hr0
      -- self._top = top // shared; self._bottom = bottom // shared
      refine ⟨_, rfl, _, rfl, _, _, rfl, rfl, ds, _, rfl, r, C, dx, _, rfl, hr1, T.cl, T.nT, (by show 0 < 1000; decide), ?_⟩
      refine ⟨_, rfl, _, rfl, _, _, rfl, rfl, ds, _, rfl, r, C, dx, _, rfl, upd_same, T.cl, T.nB, (by show 1 < 1000; decide), ?_⟩
      refine k _ ?_ fun c o hc hne => ?_
      · rw [upd_same, flds_put, lo_num hb, lo_den hb]
        rfl
      · rw [upd_ne hne, upd_ne hne]
        exact s1 _ _ hc
abbrev Rat2C (P : Program) (w : World) (K : PySem.W.Frag) (mg : Str → Option Value) (base : Heap) (C : Addr) : Prop := MakF P w K mg base 4 "Ratio" C (spInit C) []
abbrev Rat1C (P : Program) (w : World) (K : PySem.W.Frag) (mg : Str → Option Value) (base : Heap) (C : Addr) : Prop := MakF P w K mg base 4 "Ratio" C (spInit C) [.int 1]
/-- the reading of Ratio(a, b) -/
theorem make_rat {H : Hp} {a b : Int} {Q : VK} (hb : b ≠ 0) (sb : Sm b) (k : ∀ r H', H r = none → Same H H' → RatAt C H' r (Rat.divInt a b) → Q (.ref r) H') :
    ∀ x dx, H x = none → H dx = none → dx ≠ x → spInit C [.ref x, .int a, .int b] (upd (upd H dx (.own x)) x (.ins C dx [])) (fun v H2 => v = .non ∧ Q (.ref x) H2) E0 := by
  intro x dx hx hdx hne
  refine ⟨x, dx, a, b, rfl, upd_same, hb, sb, fun H' e kp => ⟨rfl, k x H' hx (fun c o hc => ?_) ⟨dx, e⟩⟩⟩
  have n1 := ne_of_none hc hx
  have n2 := ne_of_none hc hdx
  exact kp c o (by rw [upd_ne n1, upd_ne n2]; exact hc) n1
/-! ### to_ratio -/
/-- a number: a Ratio, or an int -/
def NumAt (C : Addr) (H : Hp) (y : V) (q : Rat) : Prop := (∃ r, y = .ref r ∧ RatAt C H r q) ∨ ∃ z : Int, y = .int z ∧ q = Rat.divInt z 1
theorem NumAt.same {H H' : Hp} {y : V} {q : Rat} (h : NumAt C H y q) (s : Same H H') : NumAt C H' y q := by
  rcases h with ⟨r, e, h⟩ | h
  · exact .inl ⟨r, e, h.same s⟩
  · exact .inr h
theorem NumAt.is {H : Hp} {y : V} {q : Rat} (T : TxR K mg C) (h : NumAt C H y q) : ∃ t b1 b2 b3, TyX K H y t ∧ PySem.W.kitOne K t (.type "int") = some b1 ∧ PySem.W.kitOne K t (.type "bool") = some b2 ∧
    PySem.W.kitOne K t (.ref C) = some b3 ∧ ((b1 && !b2) || b3) = true := by
  rcases h with ⟨r, rfl, h⟩ | ⟨z, rfl, _⟩
  · exact ⟨_, _, _, _, h.tyx T, T.kI, T.kB, T.kC, rfl⟩
  · exact ⟨_, true, false, _, tyx_int z, kit_ty (by decide +kernel), kit_ty (by decide +kernel), T.iC, rfl⟩
/-! ### the operators -/
def spEqR (K : PySem.W.Frag) (C : Addr) : Sp := fun vs H Q _ => ∃ (r : Addr) (p : Rat) (y : V), vs = [.ref r, y] ∧ RatAt C H r p ∧
  ((∃ r2 q, y = .ref r2 ∧ RatAt C H r2 q ∧ Q (.bl (decide (p = q))) H) ∨ ∃ t, TyX K H y t ∧ PySem.W.kitOne K t (.ref C) = some false ∧ Q (.bl false) H)
theorem sc_Ratio___eq__ : FnScope ["self", "other"] ["self", "other"] (defScope s_Ratio___eq__) := ⟨rfl, rfl, rfl, by decide +kernel, rfl, by decide +kernel, by decide +kernel⟩
theorem ok_eq {f : Addr} {fd : FuncData} (F : Fun K "__eq__" "Ratio.__eq__" s_Ratio___eq__ f fd) (T : TxR K mg C) : FnOk P w K mg base CX0 2 f fd ["self", "other"] (spEqR K C) := by
  refine F.ok sc_Ratio___eq__ (fun vs H Q E h => ?_) (fun cdv A outer s H vs Q E hr h => ?_)
  · obtain ⟨r, p, y, rfl, _⟩ := h
    rfl
  · obtain ⟨r, p, y, rfl, hp, h⟩ := h
    refine ⟨_, (pss_one (ps_ret (pe_and (pe_callB (id := "isinstance") (call_isiK (K := K)) (by rfl) T.b_isinstance (by decide +kernel) (pa_cons (pv 1) (pa_cons (pe_glob (v := V.ref C) rfl T.g_Ratio rfl) pa_nil))) (pe_and (pe_cmpR op_eq (pe_fld (pv 0) rfl) (pe_fld (pv 1) rfl) (nomark _)) (pe_one (pe_cmpR op_eq (pe_fld (pv 0) rfl) (pe_fld (pv 1) rfl) (nomark _))))))), ?_⟩
    obtain ⟨d1, e1⟩ := id hp
    rcases h with ⟨r2, q, rfl, hq, k⟩ | ⟨t, ty, ki, k⟩
    · obtain ⟨d2, e2⟩ := id hq
      refine ⟨_, rfl, _, _, _, _, _, rfl, .own C, hq.tyx T, T.kC, _, rfl, ?_⟩
      refine iteT ?_
      refine ⟨_, rfl, r, C, d1, _, _, rfl, e1, T.cl, T.nT, flds_top p, _, rfl, r2, C, d2, _, _, rfl, e2, T.cl, T.nT, flds_top q, rfl, _, rfl, ?_⟩
      rw [rat_dec] at k
      have en : decide (V.int p.num = V.int q.num) = decide (p.num = q.num) := by simp
      have ed : decide (V.int p.den = V.int q.den) = decide ((p.den : Int) = q.den) := by simp
      rw [en]
      cases e : decide (p.num = q.num) with
      | false =>
        rw [e] at k
        exact iteF k
      | true =>
        rw [e, Bool.true_and] at k
        refine iteT ?_
        refine ⟨_, rfl, r, C, d1, _, _, rfl, e1, T.cl, T.nB, flds_bottom p, _, rfl, r2, C, d2, _, _, rfl, e2, T.cl, T.nB, flds_bottom q, rfl, ?_⟩
        rw [ed]
        exact k
    · refine ⟨_, rfl, _, _, _, _, _, rfl, .own C, ty, ki, _, rfl, ?_⟩
      exact iteF k
def spTop (C : Addr) : Sp := fun vs H Q _ => ∃ (r : Addr) (p : Rat), vs = [.ref r] ∧ RatAt C H r p ∧ Q (.int p.num) H
def spBottom (C : Addr) : Sp := fun vs H Q _ => ∃ (r : Addr) (p : Rat), vs = [.ref r] ∧ RatAt C H r p ∧ Q (.int p.den) H
theorem sc_Ratio_top : FnScope ["self"] ["self"] (defScope s_Ratio_top) := ⟨rfl, rfl, rfl, by decide +kernel, rfl, by decide +kernel, by decide +kernel⟩
theorem ok_top {f : Addr} {fd : FuncData} (F : Fun K "top" "Ratio.top" s_Ratio_top f fd) (T : TxR K mg C) : FnOk P w K mg base CX0 2 f fd ["self"] (spTop C) := by
  refine F.ok sc_Ratio_top (fun vs H Q E h => ?_) (fun cdv A outer s H vs Q E hr h => ?_)
  · obtain ⟨r, p, rfl, _⟩ := h
    rfl
  · obtain ⟨r, p, rfl, ⟨d1, e1⟩, k⟩ := h
    exact ⟨_, (pss_one (ps_ret (pe_fld (pv 0) rfl))), _, rfl, r, C, d1, _, _, rfl, e1, T.cl, T.nT, flds_top p, k⟩
theorem sc_Ratio_bottom : FnScope ["self"] ["self"] (defScope s_Ratio_bottom) := ⟨rfl, rfl, rfl, by decide +kernel, rfl, by decide +kernel, by decide +kernel⟩
theorem ok_bottom {f : Addr} {fd : FuncData} (F : Fun K "bottom" "Ratio.bottom" s_Ratio_bottom f fd) (T : TxR K mg C) : FnOk P w K mg base CX0 2 f fd ["self"] (spBottom C) := by
  refine F.ok sc_Ratio_bottom (fun vs H Q E h => ?_) (fun cdv A outer s H vs Q E hr h => ?_)
  · obtain ⟨r, p, rfl, _⟩ := h
    rfl
  · obtain ⟨r, p, rfl, ⟨d1, e1⟩, k⟩ := h
    exact ⟨_, (pss_one (ps_ret (pe_fld (pv 0) rfl))), _, rfl, r, C, d1, _, _, rfl, e1, T.cl, T.nB, flds_bottom p, k⟩
/-! ### truth and texts -/
def rt (p : Rat) : Str := ("Ratio(" : Str) ++ Str.ofString (toString p.num) ++ (", " : Str) ++ Str.ofString (toString (p.den : Int)) ++ (")" : Str)
def dg (p : Rat) : Str := if p.den = 1 then Str.ofString (toString p.num) else Str.ofString (toString p.num) ++ ("/" : Str) ++ Str.ofString (toString (p.den : Int))
theorem empty_add (x : Str) : Str.empty ++ x = x := by
  show Str.mk (#[] ++ x.cps) = x
  rw [Array.empty_append]
def spBool (C : Addr) : Sp := fun vs H Q _ => ∃ (r : Addr) (p : Rat), vs = [.ref r] ∧ RatAt C H r p ∧ Q (.bl (p.num != 0)) H
theorem sc_Ratio___bool__ : FnScope ["self"] ["self"] (defScope s_Ratio___bool__) := ⟨rfl, rfl, rfl, by decide +kernel, rfl, by decide +kernel, by decide +kernel⟩
theorem ok_bool {f : Addr} {fd : FuncData} (F : Fun K "__bool__" "Ratio.__bool__" s_Ratio___bool__ f fd) (T : TxR K mg C) : FnOk P w K mg base CX0 2 f fd ["self"] (spBool C) := by
  refine F.ok sc_Ratio___bool__ (fun vs H Q E h => ?_) (fun cdv A outer s H vs Q E hr h => ?_)
  · obtain ⟨r, p, rfl, _⟩ := h
    rfl
  · obtain ⟨r, p, rfl, ⟨d1, e1⟩, k⟩ := h
    refine ⟨_, (pss_one (ps_ret (pe_callTy call_bool1 (by rfl) T.b_bool (by decide +kernel) (pa_cons (pe_fld (pv 0) rfl) pa_nil)))), ?_⟩
    exact ⟨_, rfl, r, C, d1, _, _, rfl, e1, T.cl, T.nT, flds_top p, .inl ⟨_, rfl, k⟩⟩
def spStr (C : Addr) : Sp := fun vs H Q _ => ∃ (r : Addr) (p : Rat), vs = [.ref r] ∧ RatAt C H r p ∧ Sm p.num ∧ Sm (p.den : Int) ∧ Q (.str (dg p)) H
theorem len_ofTxt {i : Int} (h : Sm i) : (Str.ofString (toString i)).length ≤ 1921 := txt_len h
theorem sc_Ratio___str__ : FnScope ["self"] ["self"] (defScope s_Ratio___str__) := ⟨rfl, rfl, rfl, by decide +kernel, rfl, by decide +kernel, by decide +kernel⟩
theorem ok_str {f : Addr} {fd : FuncData} (F : Fun K "__str__" "Ratio.__str__" s_Ratio___str__ f fd) (T : TxR K mg C) : FnOk P w K mg base CX0 2 f fd ["self"] (spStr C) := by
  refine F.ok sc_Ratio___str__ (fun vs H Q E h => ?_) (fun cdv A outer s H vs Q E hr h => ?_)
  · obtain ⟨r, p, rfl, _⟩ := h
    rfl
  · obtain ⟨r, p, rfl, ⟨d1, e1⟩, sn, sd, k⟩ := h
    refine ⟨_, (pss_cons (ps_if (pt_cmpR op_eq (pe_fld (pv 0) rfl) pe_int (nomark _)) (pss_one (ps_ret (pe_callTy call_str_int (by rfl) T.b_str (by decide +kernel) (pa_cons (pe_fld (pv 0) rfl) pa_nil))))
  pss_nil)
  (pss_one (ps_ret (pe_joined (PJ.cons (pe_fmt (pe_fld (pv 0) rfl)) (PJ.cons pe_str (PJ.cons (pe_fmt (pe_fld (pv 0) rfl)) PJ.nil))))))), ?_⟩
    refine ⟨_, rfl, r, C, d1, _, _, rfl, e1, T.cl, T.nB, flds_bottom p, rfl, _, rfl, ?_⟩
    unfold dg at k
    refine ite2 (fun h => ?_) (fun h => ?_)
    · have hd : p.den = 1 := by have := V.int.inj (of_decide_eq_true h); omega
      rw [if_pos hd] at k
      exact ⟨_, rfl, r, C, d1, _, _, rfl, e1, T.cl, T.nT, flds_top p, _, rfl, log_sm sn, k⟩
    · have hd : ¬ p.den = 1 := fun z => h (decide_eq_true (by rw [z]; rfl))
      rw [if_neg hd] at k
      have l1 := txt_len sn
      have l2 := txt_len sd
      refine ⟨_, rfl, r, C, d1, _, _, rfl, e1, T.cl, T.nT, flds_top p, .inr ⟨_, rfl, log_sm sn, _, rfl, ?_, _, rfl, ?_, _, rfl, r, C, d1, _, _, rfl, e1, T.cl, T.nB, flds_bottom p, .inr ⟨_, rfl, log_sm sd, _, rfl, ?_, ?_⟩⟩⟩
      · rw [empty_add]
        exact Nat.le_trans l1 (by decide)
      · rw [empty_add, strLen_append]
        exact Nat.le_trans (Nat.add_le_add l1 (Nat.le_refl 1)) (by decide)
      · rw [empty_add, strLen_append, strLen_append]
        exact Nat.le_trans (Nat.add_le_add (Nat.add_le_add l1 (Nat.le_refl 1)) l2) (by decide)
      · rw [empty_add]
        exact k
def spRepr (C : Addr) : Sp := fun vs H Q _ => ∃ (r : Addr) (p : Rat), vs = [.ref r] ∧ RatAt C H r p ∧ Sm p.num ∧ Sm (p.den : Int) ∧ Q (.str (rt p)) H
theorem rt_len {p : Rat} (h1 : Sm p.num) (h2 : Sm (p.den : Int)) : (rt p).length ≤ 4000 := by
  unfold rt
  rw [strLen_append, strLen_append, strLen_append, strLen_append]
  have l1 := txt_len h1
  have l2 := txt_len h2
  have e1 : (("Ratio(" : Str)).length = 6 := rfl
  have e2 : ((", " : Str)).length = 2 := rfl
  have e3 : ((")" : Str)).length = 1 := rfl
  omega
theorem sc_Ratio___repr__ : FnScope ["self"] ["self"] (defScope s_Ratio___repr__) := ⟨rfl, rfl, rfl, by decide +kernel, rfl, by decide +kernel, by decide +kernel⟩
theorem ok_repr {f : Addr} {fd : FuncData} (F : Fun K "__repr__" "Ratio.__repr__" s_Ratio___repr__ f fd) (T : TxR K mg C) : FnOk P w K mg base CX0 2 f fd ["self"] (spRepr C) := by
  refine F.ok sc_Ratio___repr__ (fun vs H Q E h => ?_) (fun cdv A outer s H vs Q E hr h => ?_)
  · obtain ⟨r, p, rfl, _⟩ := h
    rfl
  · obtain ⟨r, p, rfl, ⟨d1, e1⟩, sn, sd, k⟩ := h
    refine ⟨_, (pss_one (ps_ret (pe_joined (PJ.cons pe_str (PJ.cons (pe_fmt (pe_fld (pv 0) rfl)) (PJ.cons pe_str (PJ.cons (pe_fmt (pe_fld (pv 0) rfl)) (PJ.cons pe_str PJ.nil)))))))), ?_⟩
    have l1 := txt_len sn
    have l2 := txt_len sd
    have z1 : (("Ratio(" : Str)).length = 6 := rfl
    have z2 : ((", " : Str)).length = 2 := rfl
    have z3 : ((")" : Str)).length = 1 := rfl
    refine ⟨_, rfl, ?_, _, rfl, r, C, d1, _, _, rfl, e1, T.cl, T.nT, flds_top p, .inr ⟨_, rfl, log_sm sn, _, rfl, ?_, _, rfl, ?_, _, rfl, r, C, d1, _, _, rfl, e1, T.cl, T.nB, flds_bottom p, .inr ⟨_, rfl, log_sm sd, _, rfl, ?_, _, rfl, ?_, ?_⟩⟩⟩
    · rw [empty_add]; decide
    · rw [empty_add, strLen_append]; exact Nat.le_trans (m := 4000) (by omega) (by decide)
    · rw [empty_add, strLen_append, strLen_append]; exact Nat.le_trans (m := 4000) (by omega) (by decide)
    · rw [empty_add, strLen_append, strLen_append, strLen_append]; exact Nat.le_trans (m := 4000) (by omega) (by decide)
    · rw [empty_add, strLen_append, strLen_append, strLen_append, strLen_append]; exact Nat.le_trans (m := 4000) (by omega) (by decide)
    · rw [empty_add]; exact k
/-- how a Ratio is shown -/
def ownR (C : Addr) : Hp → Addr → Str → Prop := fun H a t => ∃ p, RatAt C H a p ∧ Sm p.num ∧ Sm (p.den : Int) ∧ t = rt p
theorem ownR_same {H H' : Hp} {a : Addr} {t : Str} (h : ownR C H a t) (s : Same H H') : ownR C H' a t := h.elim fun p ⟨h, r⟩ => ⟨p, h.same s, r⟩
theorem ownF (d : DunF P w K mg base 2 C "__repr__" (spRepr C)) : OwnF P w K mg base (ownR C) 2 :=
  ⟨C, spRepr C, d, fun H a t ⟨p, h, s1, s2, e⟩ => ⟨h.elim fun dx e => ⟨dx, _, e⟩, fun H1 s => ⟨a, p, rfl, h.same s, s1, s2, by rw [e], Same.refl H1⟩⟩⟩
end
end Lw

namespace Lw
open PySem PySem.Spec PyProof.Rows L2 MG
abbrev s__law_digits : Stmt := top 17
abbrev s__law_small : Stmt := top 19
abbrev s__law_fits : Stmt := top 20
abbrev s__law_right : Stmt := top 21
abbrev s_law : Stmt := top 22
section
variable {P : Program} {w : World} {K : PySem.W.Frag} {mg : Str → Option Value} {base : Heap} {C : Addr}
abbrev LowC (P : Program) (w : World) (K : PySem.W.Frag) (mg : Str → Option Value) (base : Heap) : Prop := CalG P w K mg base 4 "_law_lowest" spLowest []
abbrev FromC (P : Program) (w : World) (K : PySem.W.Frag) (mg : Str → Option Value) (base : Heap) : Prop := CalG P w K mg base 4 "_law_from" (spFrom K) []
/-- the pair of a fraction -/
def pr (p : Rat) : List V := [.int p.num, .int p.den]
def spDigits (K : PySem.W.Frag) : Sp := fun vs H Q _ => ∃ (t : Addr) (p : Rat), vs = [.ref t] ∧ SqT K H t (pr p) ∧ Sm p.num ∧ Sm (p.den : Int) ∧ Q (.str (dg p)) H
theorem sc__law_digits : FnScope ["_law_pair"] ["_law_pair"] (defScope s__law_digits) := ⟨rfl, rfl, rfl, by decide +kernel, rfl, by decide +kernel, by decide +kernel⟩
theorem ok_digits {f : Addr} {fd : FuncData} (F : Fun K "_law_digits" "_law_digits" s__law_digits f fd) (T : Blt mg) : FnG P w K mg base CX0 2 f fd ["_law_pair"] (spDigits K) := by
  refine fun_okG F sc__law_digits (fun vs H Q E h => ?_) (fun cdv A outer s H vs Q E bare hr h => ?_)
  · obtain ⟨t, p, rfl, _⟩ := h
    rfl
  · obtain ⟨t, p, rfl, ht, sn, sd, k⟩ := h
    refine ⟨_, (pss_one (ps_ret (pe_ifExp (pt_cmpR op_eq (pe_ix (ix_tupK (K := K)) (pv 0) pe_int (fun _ _ => rfl)) pe_int (nomark _)) (pe_callTy call_str_int (by rfl) T.b_str (by decide +kernel) (pa_cons (pe_ix (ix_tupK (K := K)) (pv 0) pe_int (fun _ _ => rfl)) pa_nil)) (pe_op op_add_str (pe_op op_add_str (pe_callTy call_str_int (by rfl) T.b_str (by decide +kernel) (pa_cons (pe_ix (ix_tupK (K := K)) (pv 0) pe_int (fun _ _ => rfl)) pa_nil)) pe_str) (pe_callTy call_str_int (by rfl) T.b_str (by decide +kernel) (pa_cons (pe_ix (ix_tupK (K := K)) (pv 0) pe_int (fun _ _ => rfl)) pa_nil)))))), ?_⟩
    refine ⟨_, rfl, t, _, _, _, rfl, rfl, ht, rfl, rfl, _, rfl, ?_⟩
    unfold dg at k
    refine ite2 (fun h => ?_) (fun h => ?_)
    · have hd : p.den = 1 := by have := V.int.inj (of_decide_eq_true h); omega
      rw [if_pos hd] at k
      exact ⟨_, rfl, t, _, _, _, rfl, rfl, ht, rfl, _, rfl, log_sm sn, k⟩
    · have hd : ¬ p.den = 1 := fun z => h (decide_eq_true (by rw [z]; rfl))
      rw [if_neg hd] at k
      have l1 := txt_len sn
      have l2 := txt_len sd
      refine ⟨_, rfl, t, _, _, _, rfl, rfl, ht, rfl, _, rfl, log_sm sn, _, _, rfl, rfl, Nat.le_trans (Nat.add_le_add l1 (Nat.le_refl 1)) (by decide), ?_⟩
      refine ⟨_, rfl, t, _, _, _, rfl, rfl, ht, rfl, _, rfl, log_sm sd, _, _, rfl, rfl, ?_, k⟩
      rw [strLen_append]
      exact Nat.le_trans (Nat.add_le_add (Nat.add_le_add l1 (Nat.le_refl 1)) l2) (by decide)
abbrev DigitsC (P : Program) (w : World) (K : PySem.W.Frag) (mg : Str → Option Value) (base : Heap) : Prop := CalG P w K mg base 2 "_law_digits" (spDigits K) []
/-! ### _law_small -/
def spSmall : Sp := fun vs H Q _ => ∃ (q : Addr) (m : Int) (n : Nat), vs = [.ref q, .int m] ∧ QAt H q n ∧ n + 4 ≤ 100000 ∧ 3 ≤ m ∧ m ≤ 10 ^ 20 ∧
  ∀ (z : Int) (H' : Hp), -(10 ^ 22) < z → z < 10 ^ 22 → Keep q H H' → QAt H' q (n + 4) → Q (.int z) H'
def smalls (m : Int) : List Int := [3, 10, 60, 10 ^ Int.toNat 6, m]
theorem smalls_ok {m : Int} (h0 : 3 ≤ m) (h1 : m ≤ 10 ^ 20) : ∀ z ∈ smalls m, 3 ≤ z ∧ z ≤ 10 ^ 20 := by
  intro z hz
  simp only [smalls, List.mem_cons, List.not_mem_nil, or_false] at hz
  rcases hz with rfl | rfl | rfl | rfl | rfl
  · decide
  · decide
  · decide
  · decide
  · exact ⟨h0, h1⟩
theorem sc__law_small : FnScope ["_law_q", "_law_most", "_law_far"] ["_law_q", "_law_most"] (defScope s__law_small) := ⟨rfl, rfl, rfl, by decide +kernel, rfl, by decide +kernel, by decide +kernel⟩
theorem ok_small {f : Addr} {fd : FuncData} (F : Fun K "_law_small" "_law_small" s__law_small f fd) (c_draw : DrawC P w K mg base) : FnG P w K mg base CX0 4 f fd ["_law_q", "_law_most"] spSmall := by
  refine fun_okG F sc__law_small (fun vs H Q E h => ?_) (fun cdv A outer s H vs Q E bare hr h => ?_)
  · obtain ⟨q, m, n, rfl, _⟩ := h
    rfl
  · obtain ⟨q, m, n, rfl, hq, hn, m0, m1, k⟩ := h
    refine ⟨_, (pss_cons (ps_set (i := 2) sc__law_small.nd rfl (Or.inl rfl) (pe_ix (ix_listK (K := K)) (pe_lst (pa_cons pe_int (pa_cons pe_int (pa_cons pe_int (pa_cons (pe_op op_pow pe_int pe_int) (pa_cons (pv 1) pa_nil)))))) (pe_cg c_draw bare hr (by decide) rfl (pa_cons (pv 0) (pa_cons pe_int pa_nil))) (fun _ _ => rfl)))
  (pss_one (ps_ret (pe_op op_mulW (pe_ix (ix_listK (K := K)) (pe_lst (pa_cons pe_int (pa_cons (pe_un un_neg pe_int) pa_nil))) (pe_cg c_draw bare hr (by decide) rfl (pa_cons (pv 0) (pa_cons pe_int pa_nil))) (fun _ _ => rfl)) (pe_op op_add (pe_op op_mulW (pe_cg c_draw bare hr (by decide) rfl (pa_cons (pv 0) (pa_cons pe_int pa_nil))) (pe_op op_add (pe_op op_fdivZ (pv 2) pe_int) pe_int)) (pe_cg c_draw bare hr (by decide) rfl (pa_cons (pv 0) (pa_cons pe_int pa_nil)))))))), ?_⟩
    refine ⟨_, _, rfl, rfl, ⟨by decide, by decide, by decide⟩, _, rfl, by show 5 ≤ sizeLine; decide, fun p hp => ?_⟩
    refine ⟨_, rfl, q, 5, n, rfl, hq.new hp, by omega, by decide, by decide, fun r H1 r0 r1 k1 q1 => ?_⟩
    obtain ⟨y, hy, ey⟩ := at_ints (l := smalls m) r0 (by show r < 5; exact r1)
    obtain ⟨y0, y1⟩ := smalls_ok m0 m1 y hy
    refine ⟨p, _, _, _, rfl, rfl, SqL.of (k1 _ _ upd_same (hq.ne hp)), ey, ?_⟩
    refine ⟨_, rfl, by show 2 ≤ sizeLine; decide, fun p2 hp2 => ?_⟩
    refine ⟨_, rfl, q, 2, n + 1, rfl, q1.new hp2, by omega, by decide, by decide, fun r2 H2 r20 r21 k2 q2 => ?_⟩
    obtain ⟨e, he, ee⟩ := at_ints (l := [1, -1]) r20 (by show r2 < 2; exact r21)
    have he' := signs_ok e he
    refine ⟨p2, _, _, _, rfl, rfl, SqL.of (k2 _ _ upd_same (q1.ne hp2)), ee, ?_⟩
    have d0 := fdiv_ge (x := y) (m := 60) (by omega) (by decide)
    have d1 := fdiv_le (x := y) (m := 60) (by omega) (by decide)
    have st : ∀ z : Int, 0 ≤ z → z ≤ 10 ^ 22 → Sm z := fun z h0 h1 => sm_lt (k := 23) (by decide) (by omega) (by omega)
    refine ⟨_, rfl, q, 60, n + 2, rfl, q2, by omega, by decide, by decide, fun r3 H3 r30 r31 k3 q3 => ?_⟩
    have p0 : 0 ≤ r3 * (y.fdiv 60 + 1) := Int.mul_nonneg r30 (by omega)
    have p1 : r3 * (y.fdiv 60 + 1) ≤ 60 * (10 ^ 20 + 1) := Int.mul_le_mul (by omega) (by omega) (by omega) (by omega)
    refine ⟨_, rfl, _, _, rfl, rfl, ⟨by decide, by decide⟩, _, _, rfl, rfl, _, _, rfl, rfl, sm_mul (st _ (by omega) (by omega)) (st _ (by omega) (by omega)), ?_⟩
    refine ⟨_, rfl, q, 60, n + 3, rfl, q3, by omega, by decide, by decide, fun r4 H4 r40 r41 k4 q4 => ?_⟩
    refine ⟨_, _, rfl, rfl, _, _, rfl, rfl, sm_mul (sm_lt (k := 3) (by decide) (by omega) (by omega)) (st _ (by omega) (by omega)), ?_⟩
    have kk : Keep q H H4 := ((Keep.refl.new hp).trans k1).trans (((Keep.refl.new hp2).trans k2).trans (k3.trans k4))
    generalize r3 * (y.fdiv 60 + 1) = g at *
    refine k _ H4 ?_ ?_ kk q4
    · rcases he' with rfl | rfl <;> omega
    · rcases he' with rfl | rfl <;> omega
abbrev SmallC (P : Program) (w : World) (K : PySem.W.Frag) (mg : Str → Option Value) (base : Heap) : Prop := CalG P w K mg base 4 "_law_small" spSmall []
end
end Lw

namespace Lw
open PySem PySem.Spec PyProof.Rows L2 MG
theorem ok_dg (p : Rat) : PyData.strOk (dg p) = true := by
  unfold dg
  split
  · exact ok_of _
  · exact ok_append (ok_append (ok_of _) (ok_of _)) (ok_of _)
theorem ok_rt (p : Rat) : PyData.strOk (rt p) = true := ok_append (ok_append (ok_append (ok_append (ok_of _) (ok_of _)) (ok_of _)) (ok_of _)) (ok_of _)
theorem dg_len {p : Rat} (h1 : Sm p.num) (h2 : Sm (p.den : Int)) : (dg p).length ≤ 4000 := by
  have l1 := txt_len h1
  have l2 := txt_len h2
  unfold dg
  split
  · omega
  · rw [strLen_append, strLen_append]
    have e2 : (("/" : Str)).length = 1 := rfl
    omega
theorem repr_len {x : Str} (h : PyData.strOk x = true) : (reprText x).length ≤ 10 * x.length + 2 := by
  refine PySem.StrLaws.reprText_len x fun c hc => ?_
  unfold PyData.strOk at h
  rw [← Array.all_toList, List.all_eq_true] at h
  have := of_decide_eq_true (h c hc)
  exact Nat.lt_trans this (by decide)
def fitD (p : Rat) : List PyData := [.int p.num, .int p.den, .int p.num, .str (dg p), .str (rt p), .bool (p.num != 0)]
def fitV (p : Rat) : List V := [.int p.num, .int p.den, .int p.num, .str (dg p), .str (rt p), .bl (p.num != 0)]
def fitT (p : Rat) : Str := (PyData.list (fitD p)).shown
theorem fit_dp {K : PySem.W.Frag} {H : Hp} {a : Addr} {p : Rat} (h : SqL K H a (fitV p)) : Dp K H (.ref a) (.list (fitD p)) :=
  .lst h (.cons (.int _) (.cons (.int _) (.cons (.int _) (.cons (.str _) (.cons (.str _) (.cons (.bl _) .nil))))))
theorem fit_ex {K : PySem.W.Frag} {H : Hp} {a : Addr} {p : Rat} (h : SqL K H a (fitV p)) (sn : Sm p.num) (sd : Sm (p.den : Int)) : ∃ d, Dp K H (.ref a) d ∧ d.showable = true ∧ d.hasDict = false ∧ d.depth ≤ 60 ∧ d.shown.length ≤ sizeLine ∧ d.shown = fitT p := by
  refine ⟨.list (fitD p), fit_dp h, ?_, rfl, ?_, ?_, rfl⟩
  · have h3 : p.den.log2 < 1920 := log_sm sd
    simp [fitD, PyData.showable, PyData.showableAll, log_sm sn, h3]
  · simp [fitD, PyData.depth, PyData.depthAll]
  · have h := listText_len_le (PyData.shownAll (fitD p))
    have l1 := txt_len sn
    have l2 := txt_len sd
    have l3 := repr_len (ok_dg p)
    have l4 := repr_len (ok_rt p)
    have l5 := dg_len sn sd
    have l6 := rt_len sn sd
    show (listText (PyData.shownAll (fitD p))).length ≤ sizeLine
    have e0 : PyData.shownAll (fitD p) = [Str.ofString (toString p.num), Str.ofString (toString (p.den : Int)), Str.ofString (toString p.num), reprText (dg p), reprText (rt p), PyData.shown (.bool (p.num != 0))] := rfl
    have l7 : (PyData.shown (.bool (p.num != 0))).length ≤ 5 := by
      cases (p.num != 0) <;> decide
    rw [e0] at h ⊢
    simp only [List.map_cons, List.map_nil, List.sum_cons, List.sum_nil, List.length_cons, List.length_nil] at h
    exact Nat.le_trans h (Nat.le_trans (m := 200000) (by omega) (by decide))
section
variable {P : Program} {w : World} {K : PySem.W.Frag} {mg : Str → Option Value} {base : Heap} {C : Addr}
structure RatC (P : Program) (w : World) (K : PySem.W.Frag) (mg : Str → Option Value) (base : Heap) (C : Addr) : Prop where
  p_top : PropF P w K mg base 2 C "top" (spTop C)
  p_bottom : PropF P w K mg base 2 C "bottom" (spBottom C)
  d_str : DunF P w K mg base 2 C "__str__" (spStr C)
  d_repr : DunF P w K mg base 2 C "__repr__" (spRepr C)
  d_bool : DunF P w K mg base 2 C "__bool__" (spBool C)
  o_eq : EqF P w K mg base 2 C (spEqR K C)
def spFits (K : PySem.W.Frag) (C : Addr) : Sp := fun vs H Q _ => ∃ (r t : Addr) (p : Rat), vs = [.ref r, .ref t] ∧ RatAt C H r p ∧ SqT K H t (pr p) ∧ Sm p.num ∧ Sm (p.den : Int) ∧ ∀ H', Same H H' → Q (.bl true) H'
theorem sc__law_fits : FnScope ["_law_one", "_law_pair", "_law_told", "_law_due"] ["_law_one", "_law_pair"] (defScope s__law_fits) := ⟨rfl, rfl, rfl, by decide +kernel, rfl, by decide +kernel, by decide +kernel⟩
theorem ok_fits {f : Addr} {fd : FuncData} (F : Fun K "_law_fits" "_law_fits" s__law_fits f fd) (T : TxR K mg C) (R : RatC P w K mg base C) (c_digits : DigitsC P w K mg base) : FnG P w K mg base CX0 8 f fd ["_law_one", "_law_pair"] (spFits K C) := by
  obtain ⟨p_top, p_bottom, d_str, d_repr, d_bool, o_eq⟩ := R
  refine fun_okG F sc__law_fits (fun vs H Q E h => ?_) (fun cdv A outer s H vs Q E bare hr h => ?_)
  · obtain ⟨r, t, p, rfl, _⟩ := h
    rfl
  · obtain ⟨r, t, p, rfl, hr0, ht, sn, sd, k⟩ := h
    have hu64 := hr.units
    refine ⟨_, (pss_cons (ps_set (i := 2) sc__law_fits.nd rfl (Or.inl rfl) (pe_lst (pa_cons (pe_pf p_top T.cl hr (by decide) (pv 0) rfl) (pa_cons (pe_pf p_bottom T.cl hr (by decide) (pv 0) rfl) (pa_cons (pe_pf p_top T.cl hr (by decide) (pv 0) rfl) (pa_cons (pe_callTy (str_f d_str hr (by decide)) (by rfl) T.b_str (by decide +kernel) (pa_cons (pv 0) pa_nil)) (pa_cons (pe_callB (id := "repr") (repr_f d_repr hr (by decide)) (by rfl) T.b_repr (by decide +kernel) (pa_cons (pv 0) pa_nil)) (pa_cons (pe_callTy (bool_f d_bool hr (by decide)) (by rfl) T.b_bool (by decide +kernel) (pa_cons (pv 0) pa_nil)) pa_nil))))))))
  (pss_cons (ps_set (i := 3) sc__law_fits.nd rfl (Or.inl rfl) (pe_lst (pa_cons (pe_ix (ix_tupK (K := K)) (pv 1) pe_int (fun _ _ => rfl)) (pa_cons (pe_ix (ix_tupK (K := K)) (pv 1) pe_int (fun _ _ => rfl)) (pa_cons (pe_ix (ix_tupK (K := K)) (pv 1) pe_int (fun _ _ => rfl)) (pa_cons (pe_cg c_digits bare hr (by decide) rfl (pa_cons (pv 1) pa_nil)) (pa_cons (pe_op op_add_str (pe_op op_add_str (pe_op op_add_str (pe_op op_add_str pe_str (pe_callTy call_str_int (by rfl) T.b_str (by decide +kernel) (pa_cons (pe_ix (ix_tupK (K := K)) (pv 1) pe_int (fun _ _ => rfl)) pa_nil))) pe_str) (pe_callTy call_str_int (by rfl) T.b_str (by decide +kernel) (pa_cons (pe_ix (ix_tupK (K := K)) (pv 1) pe_int (fun _ _ => rfl)) pa_nil))) pe_str) pa_nil)))))))
  (pss_one (ps_ret (pe_cmpR op_eq (pe_callB (id := "repr") (call_reprK (K := K) bare hu64) (by rfl) T.b_repr (by decide +kernel) (pa_cons (pv 2) pa_nil)) (pe_callB (id := "repr") (call_reprK (K := K) bare hu64) (by rfl) T.b_repr (by decide +kernel) (pa_cons (pe_op op_cat (pv 3) (pe_lst (pa_cons (pe_cmpR op_ne (pe_ix (ix_tupK (K := K)) (pv 1) pe_int (fun _ _ => rfl)) pe_int (nomark _)) pa_nil))) pa_nil)) (nomark _)))))), ?_⟩
    obtain ⟨dx, e⟩ := id hr0
    refine ⟨_, rfl, r, dx, _, rfl, e, r, p, rfl, hr0, _, rfl, r, dx, _, rfl, e, r, p, rfl, hr0, _, rfl, r, dx, _, rfl, e, r, p, rfl, hr0, ?_⟩
    refine ⟨_, rfl, r, dx, _, rfl, e, r, p, rfl, hr0, sn, sd, _, rfl, ?_⟩
    refine ⟨_, rfl, r, dx, _, rfl, e, r, p, rfl, hr0, sn, sd, _, rfl, ?_⟩
    refine ⟨_, rfl, r, dx, _, rfl, e, r, p, rfl, hr0, _, rfl, ?_⟩
    refine ⟨by show 6 ≤ sizeLine; decide, fun l1 hl1 => ?_⟩
    have s1 : Same H (upd H l1 (.lst (fitV p))) := MG.Same.new (Same.refl H) hl1
    have e1 : (upd H l1 (.lst (fitV p))) l1 = some (.lst (fitV p)) := upd_same
    show _
    change tSeq _ _ _ _ (upd H l1 (.lst (fitV p)))
    generalize upd H l1 (.lst (fitV p)) = H1 at *
    have m1 := txt_len sn
    have m2 := txt_len sd
    have z1 : (Str.ofString "Ratio(").length = 6 := rfl
    have z2 : (Str.ofString ", ").length = 2 := rfl
    have z3 : (Str.ofString ")").length = 1 := rfl
    have hT := same_tup s1 ht
    refine ⟨_, rfl, t, _, _, _, rfl, rfl, hT, rfl, _, rfl, t, _, _, _, rfl, rfl, hT, rfl, _, rfl, t, _, _, _, rfl, rfl, hT, rfl, ?_⟩
    refine ⟨_, rfl, t, p, rfl, hT, sn, sd, ?_⟩
    refine ⟨_, rfl, t, _, _, _, rfl, rfl, hT, rfl, _, rfl, log_sm sn, _, _, rfl, rfl, Nat.le_trans (m := 10000) (by omega) (by decide), ?_⟩
    refine ⟨_, _, rfl, rfl, ?_, _, rfl, t, _, _, _, rfl, rfl, hT, rfl, _, rfl, log_sm sd, _, _, rfl, rfl, ?_, ?_⟩
    · rw [strLen_append]; exact Nat.le_trans (m := 10000) (by omega) (by decide)
    · rw [strLen_append, strLen_append]; exact Nat.le_trans (m := 10000) (by omega) (by decide)
    refine ⟨_, _, rfl, rfl, ?_, ?_⟩
    · rw [strLen_append, strLen_append, strLen_append]; exact Nat.le_trans (m := 10000) (by omega) (by decide)
    refine ⟨by show 5 ≤ sizeLine; decide, fun l2 hl2 => ?_⟩
    have s2 : Same H1 (upd H1 l2 (.lst [.int p.num, .int p.den, .int p.num, .str (dg p), .str (rt p)])) := MG.Same.new (Same.refl H1) hl2
    have e2 : (upd H1 l2 (.lst [.int p.num, .int p.den, .int p.num, .str (dg p), .str (rt p)])) l2 = some (.lst [.int p.num, .int p.den, .int p.num, .str (dg p), .str (rt p)]) := upd_same
    have er : (Str.ofString "Ratio(" ++ Str.ofString (toString p.num) ++ Str.ofString ", " ++ Str.ofString (toString (p.den : Int)) ++ Str.ofString ")") = rt p := rfl
    rw [er]
    generalize upd H1 l2 (.lst [.int p.num, .int p.den, .int p.num, .str (dg p), .str (rt p)]) = H2 at *
    -- return repr(told) == repr(due + [pair[0] != 0])
    obtain ⟨d1, a1, a2, a3, a4, a5, a6⟩ := fit_ex (K := K) (SqL.of (s2 _ _ e1)) sn sd
    refine ⟨_, rfl, .ref l1, d1, rfl, a1, a2, a3, a4, a5, ?_⟩
    rw [a6]
    refine ⟨_, rfl, _, rfl, t, _, _, _, rfl, rfl, same_tup s2 hT, rfl, rfl, ?_⟩
    refine ⟨by show 1 ≤ sizeLine; decide, fun l3 hl3 => ?_⟩
    refine ⟨l2, l3, _, _, rfl, rfl, by rw [upd_ne (ne_of_none e2 hl3)]; exact e2, upd_same, by show 5 + 1 ≤ sizeLine; decide, fun l4 hl4 => ?_⟩
    have eb : (!decide (V.int p.num = V.int 0)) = (p.num != 0) := by
      by_cases z : p.num = 0 <;> simp [z]
    rw [eb] at hl4 ⊢
    have s4 := ((s1.trans s2).trans (MG.Same.new (o := .lst [.bl (p.num != 0)]) (Same.refl H2) hl3)).trans (MG.Same.new (o := .lst ([.int p.num, .int p.den, .int p.num, .str (dg p), .str (rt p)] ++ [.bl (p.num != 0)])) (Same.refl _) hl4)
    obtain ⟨d2, b1, b2, b3, b4, b5, b6⟩ := fit_ex (K := K) (a := l4) (p := p) (SqL.of (upd_same (H := upd H2 l3 (.lst [.bl (p.num != 0)])) (o := .lst ([.int p.num, .int p.den, .int p.num, .str (dg p), .str (rt p)] ++ [.bl (p.num != 0)])))) sn sd
    refine ⟨.ref l4, d2, rfl, b1, b2, b3, b4, b5, ?_⟩
    rw [b6]
    refine ⟨rfl, ?_⟩
    rw [decide_eq_true rfl]
    exact k _ s4
abbrev FitsC (P : Program) (w : World) (K : PySem.W.Frag) (mg : Str → Option Value) (base : Heap) (C : Addr) : Prop := CalG P w K mg base 8 "_law_fits" (spFits K C) []
end
end Lw

namespace Lw
open PySem PySem.Spec PyProof.Rows L2 MG
section
variable {P : Program} {w : World} {K : PySem.W.Frag} {mg : Str → Option Value} {base : Heap} {C : Addr}
abbrev RatTB (P : Program) (w : World) (K : PySem.W.Frag) (mg : Str → Option Value) (base : Heap) (C : Addr) : Prop := MakK P w K mg base 4 "Ratio" C (spInit C) ["top", "bottom"] (fun vs zs => vs ++ zs)
abbrev RatBT (P : Program) (w : World) (K : PySem.W.Frag) (mg : Str → Option Value) (base : Heap) (C : Addr) : Prop := MakK P w K mg base 4 "Ratio" C (spInit C) ["bottom", "top"] (fun vs zs => vs ++ zs.reverse)
abbrev RatT (P : Program) (w : World) (K : PySem.W.Frag) (mg : Str → Option Value) (base : Heap) (C : Addr) : Prop := MakK P w K mg base 4 "Ratio" C (spInit C) ["top"] (fun vs zs => vs ++ zs ++ [.int 1])
/-- no int, None, text, tuple, list or truth is a Ratio -/
structure Others (K : PySem.W.Frag) (C : Addr) : Prop where
  is : PySem.W.isClsIn K C = true
  ty : PySem.W.typeIn K (.ref C) = some (.type "type")
  int : PySem.W.subIn K (.type "int") (.ref C) = some false
  non : PySem.W.subIn K (.type "NoneType") (.ref C) = some false
  str : PySem.W.subIn K (.type "str") (.ref C) = some false
  tup : PySem.W.subIn K (.type "tuple") (.ref C) = some false
  lst : PySem.W.subIn K (.type "list") (.ref C) = some false
  bl : PySem.W.subIn K (.type "bool") (.ref C) = some false
/-- a value of another class, one of these -/
def Odd (K : PySem.W.Frag) (C : Addr) (H : Hp) (y : V) : Prop := ∃ T : String, TyX K H y (.type T) ∧ PySem.W.subIn K (.type T) (.ref C) = some false
theorem Odd.read {K : PySem.W.Frag} {C : Addr} {H : Hp} {y : V} (o : Others K C) (h : Odd K C H y) : ∃ t, TyX K H y t ∧ PySem.W.notFirst K C t = true ∧ PySem.W.kitOne K t (.ref C) = some false := by
  obtain ⟨T, h1, h2⟩ := h
  refine ⟨_, h1, ?_, kit_tr o.is o.ty h2⟩
  unfold PySem.W.notFirst
  rw [h2]
  simp
theorem Odd.same {K : PySem.W.Frag} {C : Addr} {H H' : Hp} {y : V} (s : Same H H') (h : ∀ H, (∀ a o, H' a = some o → H a = some o) → Odd K C H y) : Odd K C H' y := h H' fun _ _ e => e
def TupL (H : Hp) : List V → List (Int × Int) → Prop
  | [], [] => True
  | x :: xs, o :: os => (∃ t, x = .ref t ∧ H t = some (.tup [.int o.1, .int o.2])) ∧ TupL H xs os
  | _, _ => False
theorem TupL.same {H H' : Hp} (s : Same H H') : ∀ {xs : List V} {os : List (Int × Int)}, TupL H xs os → TupL H' xs os
  | [], [], _ => True.intro
  | _ :: _, _ :: _, ⟨⟨t, e, h⟩, r⟩ => ⟨⟨t, e, s _ _ h⟩, TupL.same s r⟩
theorem TupL.get {H : Hp} : ∀ {xs : List V} {os : List (Int × Int)}, TupL H xs os → ∀ (i : Nat) (x : V), xs[i]? = some x → ∃ o t, o ∈ os ∧ x = .ref t ∧ H t = some (.tup [.int o.1, .int o.2])
  | [], [], _, i, x, h => by simp at h
  | x :: xs, o :: os, ⟨⟨t, e, h⟩, r⟩, i, y, hy => by
    cases i with
    | zero => exact ⟨o, t, by simp, (Option.some.inj hy).symm.trans e, h⟩
    | succ i =>
      obtain ⟨o', t', m, e', h'⟩ := TupL.get r i y hy
      exact ⟨o', t', List.mem_cons_of_mem _ m, e', h'⟩
def Nums (os : List (Int × Int)) : Prop := ∀ o ∈ os, o.1.natAbs < 10 ^ 30 ∧ o.2.natAbs < 10 ^ 30
def boT (x y z : Bool) : Str := (PyData.list [.bool x, .bool y, .bool z]).shown
theorem bools_ex {K : PySem.W.Frag} {H : Hp} {l : Addr} {x y z : Bool} (h : H l = some (.lst [.bl x, .bl y, .bl z])) : ∃ d, Dp K H (.ref l) d ∧ d.showable = true ∧ d.hasDict = false ∧ d.depth ≤ 60 ∧ d.shown.length ≤ sizeLine ∧ d.shown = boT x y z := by
  refine ⟨.list [.bool x, .bool y, .bool z], .lst (SqL.of h) (.cons (.bl _) (.cons (.bl _) (.cons (.bl _) .nil))), rfl, rfl, ?_, ?_, rfl⟩
  · simp [PyData.depth, PyData.depthAll]
  · cases x <;> cases y <;> cases z <;> decide
theorem pair_dp {K : PySem.W.Frag} {H : Hp} {t : Addr} {a b : Int} (h : H t = some (.tup [.int a, .int b])) : ∃ d, Dp K H (.ref t) d ∧ SeqAt.shaped d = true ∧ d = .tuple [.int a, .int b] :=
  ⟨_, .tup (SqT.of h) (.cons (.int a) (.cons (.int b) .nil)), rfl, rfl⟩
theorem eqv_pair (p q : Rat) : PyData.eqv (.tuple [.int p.num, .int p.den]) (.tuple [.int q.num, .int q.den]) = decide (p = q) := by
  rw [rat_dec]
  simp only [PyData.eqv, PyData.eqvAll, Bool.and_true]
  congr 1
/-- what stands behind the drawing -/
structure F5 (C : Addr) (H : Hp) (t l r1 r2 r3 r4 : Addr) (p : Rat) : Prop where
  t : H t = some (.tup (pr p))
  l : H l = some (.lst [.ref r1, .ref r2, .ref r3, .ref r4])
  a1 : RatAt C H r1 p
  a2 : RatAt C H r2 p
  a3 : RatAt C H r3 p
  a4 : RatAt C H r4 p
theorem F5.same {H H' : Hp} {t l r1 r2 r3 r4 : Addr} {p : Rat} (h : F5 C H t l r1 r2 r3 r4 p) (s : Same H H') : F5 C H' t l r1 r2 r3 r4 p :=
  ⟨s _ _ h.t, s _ _ h.l, h.a1.same s, h.a2.same s, h.a3.same s, h.a4.same s⟩
/-- the numbers drawn -/
structure N5 (a b m : Int) : Prop where
  ha : a.natAbs < 10 ^ 22
  hb : b.natAbs < 10 ^ 22
  hm : m.natAbs < 10 ^ 22
  b0 : b ≠ 0
  m0 : m ≠ 0
theorem N5.bd {a b m : Int} (h : N5 a b m) : Bd (Rat.divInt a b) 22 := bd_div h.b0 h.ha h.hb
theorem QAt.le {H : Hp} {q : Addr} {n n' : Nat} (h : QAt H q n) (hn : n ≤ n') : QAt H q n' := by
  obtain ⟨c, ns, i, r, t, hq, hc, hz, hl, h1, h2, h3⟩ := h
  exact ⟨c, ns, i, r, t, hq, hc, hz, hl, ⟨h1.1, by omega⟩, h2, ⟨h3.1, by omega⟩⟩
theorem smI {i : Int} {k : Nat} (h : i.natAbs < 10 ^ k) (hk : k ≤ 390) : Sm i := by
  have := nab h
  rw [Int.natCast_pow] at this
  exact sm_lt (k := k) (by omega) this.1 this.2
theorem made_same {H H' : Hp} {x dx : Addr} (hx : H x = none) (hdx : H dx = none) (kp : ∀ c o, (upd (upd H dx (.own x)) x (.ins C dx [])) c = some o → c ≠ x → H' c = some o) : Same H H' := fun c o hc => by
  have n1 := ne_of_none hc hx
  have n2 := ne_of_none hc hdx
  exact kp c o (by rw [upd_ne n1, upd_ne n2]; exact hc) n1
theorem ifF {b : Bool} {A B : Prop} (e : b = false) (h : B) : if b = true then A else B := by rw [e]; exact iteF h
theorem ifT {b : Bool} {A B : Prop} (e : b = true) (h : A) : if b = true then A else B := by rw [e]; exact iteT h
def spRight : Sp := fun vs H Q _ => ∃ (q : Addr), vs = [.ref q] ∧ QAt H q 0 ∧ ∀ H', Keep q H H' → Q (.bl true) H'
theorem sc__law_right : FnScope ["_law_q", "_law_high", "_law_low", "_law_more", "_law_pair", "_law_told", "_law_one", "_law_whole", "_law_others", "_law_other", "_law_are_equal", "_law_second", "_law_asked", "_law_strange", "_law_thing"] ["_law_q"] (defScope s__law_right) := ⟨rfl, rfl, rfl, by decide +kernel, rfl, by decide +kernel, by decide +kernel⟩
theorem ok_right {f : Addr} {fd : FuncData} (F : Fun K "_law_right" "_law_right" s__law_right f fd) (T : TxR K mg C) (O : Others K C) (R : RatC P w K mg base C) (c_draw : DrawC P w K mg base) (c_small : SmallC P w K mg base) (c_lowest : LowC P w K mg base) (c_digits : DigitsC P w K mg base) (c_fits : FitsC P w K mg base C)
    (m_rat1 : Rat1C P w K mg base C) (m_rat2 : Rat2C P w K mg base C) (m_ratTB : RatTB P w K mg base C) (m_ratBT : RatBT P w K mg base C) (m_ratT : RatT P w K mg base C) : FnG P w K mg base CX0 12 f fd ["_law_q"] spRight := by
  obtain ⟨p_top, p_bottom, d_str, d_repr, d_bool, o_eq⟩ := R
  refine fun_okG F sc__law_right (fun vs H Q E h => ?_) (fun cdv A outer s H vs Q E bare hr h => ?_)
  · obtain ⟨q, rfl, _⟩ := h
    rfl
  · obtain ⟨q, rfl, hq, k⟩ := h
    have hu64 := hr.units
    refine ⟨_, (pss_cons (ps_par (i := 1) (j := 2) (by rfl) sc__law_right.nd rfl rfl (by decide) rfl rfl (pa_cons (pe_cg c_small bare hr (by decide) rfl (pa_cons (pv 0) (pa_cons (pe_op op_pow pe_int pe_int) pa_nil))) (pa_cons (pe_cg c_small bare hr (by decide) rfl (pa_cons (pv 0) (pa_cons (pe_op op_pow pe_int pe_int) pa_nil))) pa_nil)) (by rfl))
  (pss_cons (ps_set (i := 2) sc__law_right.nd rfl (Or.inl rfl) (pe_cut (pe_ifExp (pt_cmpR op_ne (pv 2) pe_int (nomark _)) (pv 2) (pe_op op_add pe_int (pe_cg c_draw bare hr (by decide) rfl (pa_cons (pv 0) (pa_cons pe_int pa_nil)))))))
  (pss_cons (ps_set (i := 3) sc__law_right.nd rfl (Or.inl rfl) (pe_cg c_small bare hr (by decide) rfl (pa_cons (pv 0) (pa_cons (pe_op op_pow pe_int pe_int) pa_nil))))
  (pss_cons (ps_cut (ps_set (i := 3) sc__law_right.nd rfl (Or.inl rfl) (pe_cut (pe_ifExp (pt_cmpR op_ne (pv 3) pe_int (nomark _)) (pv 3) (pe_un un_neg pe_int)))))
  (pss_cons (ps_set (i := 4) sc__law_right.nd rfl (Or.inl rfl) (pe_cg c_lowest bare hr (by decide) rfl (pa_cons (pv 1) (pa_cons (pv 2) pa_nil))))
  (pss_cons (ps_cut (ps_set (i := 5) sc__law_right.nd rfl (Or.inl rfl) (pe_lst (pa_cons (pe_mkf m_rat2 hr (by decide) rfl (pa_cons (pv 1) (pa_cons (pv 2) pa_nil))) (pa_cons (pe_mkk m_ratTB hr (by decide) rfl (pk_cons (pv 1) (pk_cons (pv 2) pk_nil))) (pa_cons (pe_mkk m_ratBT hr (by decide) rfl (pk_cons (pv 2) (pk_cons (pv 1) pk_nil))) (pa_cons (pe_mkf m_rat2 hr (by decide) rfl (pa_cons (pe_op op_mulW (pv 1) (pv 3)) (pa_cons (pe_op op_mulW (pv 2) (pv 3)) pa_nil))) pa_nil)))))))
  (pss_cons (ps_cut (ps_for PassesOwn.never rfl (pi_list (pv 5)) (pg_name (i := 6) sc__law_right.nd rfl (Or.inl rfl))
  (pss_one (ps_if (PW.pt (pw_or (pt_not (pt_val (pe_cg c_fits bare hr (by decide) rfl (pa_cons (pv 6) (pa_cons (pv 4) pa_nil))))) (pw_or (pt_not (pt_cmpR (eq_f o_eq hr (by decide)) (pv 6) (pe_ix (ix_listK (K := K)) (pv 5) pe_int (fun _ _ => rfl)) (nomark _))) (pw_or1 (pt_cmpR (ne_f o_eq hr (by decide)) (pv 6) (pe_ix (ix_listK (K := K)) (pv 5) pe_int (fun _ _ => rfl)) (nomark _)))))) (pss_one (ps_ret pe_bl))
  pss_nil))))
  (pss_cons (ps_set (i := 7) sc__law_right.nd rfl (Or.inr rfl) (pe_mkf m_rat1 hr (by decide) rfl (pa_cons (pv 1) pa_nil)))
  (pss_cons (ps_cut (ps_if (PW.pt (pw_or (pt_not (pt_val (pe_cg c_fits bare hr (by decide) rfl (pa_cons (pv 7) (pa_cons (pe_tup (pa_cons (pv 1) (pa_cons pe_int pa_nil))) pa_nil))))) (pw_or1 (pt_not (pt_val (pe_cg c_fits bare hr (by decide) rfl (pa_cons (pe_mkk m_ratT hr (by decide) rfl (pk_cons (pv 1) pk_nil)) (pa_cons (pe_tup (pa_cons (pv 1) (pa_cons pe_int pa_nil))) pa_nil)))))))) (pss_one (ps_ret pe_bl))
  pss_nil))
  (pss_cons (ps_cut (ps_set (i := 8) sc__law_right.nd rfl (Or.inl rfl) (pe_lst (pa_cons (pe_tup (pa_cons (pe_op op_add (pv 1) pe_int) (pa_cons (pv 2) pa_nil))) (pa_cons (pe_tup (pa_cons (pv 1) (pa_cons (pe_op op_add (pv 2) (pv 3)) pa_nil))) (pa_cons (pe_tup (pa_cons (pv 2) (pa_cons (pv 1) pa_nil))) (pa_cons (pe_tup (pa_cons (pe_un un_neg (pv 1)) (pa_cons (pv 2) pa_nil))) (pa_cons (pe_tup (pa_cons (pv 1) (pa_cons pe_int pa_nil))) (pa_cons (pe_tup (pa_cons pe_int (pa_cons (pv 2) pa_nil))) (pa_cons (pe_tup (pa_cons pe_int (pa_cons (pv 2) pa_nil))) pa_nil))))))))))
  (pss_cons (ps_cut (ps_for PassesOwn.never rfl (pi_list (pv 8)) (pg_name (i := 9) sc__law_right.nd rfl (Or.inl rfl))
  (pss_one (ps_if (pt_cmpR op_ne (pe_ix (ix_tupK (K := K)) (pv 9) pe_int (fun _ _ => rfl)) pe_int (nomark _)) (pss_cons (ps_set (i := 10) sc__law_right.nd rfl (Or.inl rfl) (pe_cmpR (op_eqD hu64) (pe_cg c_lowest bare hr (by decide) rfl (pa_cons (pe_ix (ix_tupK (K := K)) (pv 9) pe_int (fun _ _ => rfl)) (pa_cons (pe_ix (ix_tupK (K := K)) (pv 9) pe_int (fun _ _ => rfl)) pa_nil))) (pv 4) (nomark _)))
  (pss_cons (ps_set (i := 11) sc__law_right.nd rfl (Or.inl rfl) (pe_mkf m_rat2 hr (by decide) rfl (pa_cons (pe_ix (ix_tupK (K := K)) (pv 9) pe_int (fun _ _ => rfl)) (pa_cons (pe_ix (ix_tupK (K := K)) (pv 9) pe_int (fun _ _ => rfl)) pa_nil))))
  (pss_cons (ps_set (i := 12) sc__law_right.nd rfl (Or.inl rfl) (pe_lst (pa_cons (pe_cmpR (eq_f o_eq hr (by decide)) (pe_ix (ix_listK (K := K)) (pv 5) pe_int (fun _ _ => rfl)) (pv 11) (nomark _)) (pa_cons (pe_cmpR (eq_f o_eq hr (by decide)) (pv 11) (pe_ix (ix_listK (K := K)) (pv 5) pe_int (fun _ _ => rfl)) (nomark _)) (pa_cons (pe_cmpR (ne_f o_eq hr (by decide)) (pe_ix (ix_listK (K := K)) (pv 5) pe_int (fun _ _ => rfl)) (pv 11) (nomark _)) pa_nil)))))
  (pss_one (ps_if (pt_cmpR op_ne (pe_callB (id := "repr") (call_reprK (K := K) bare hu64) (by rfl) T.b_repr (by decide +kernel) (pa_cons (pv 12) pa_nil)) (pe_callB (id := "repr") (call_reprK (K := K) bare hu64) (by rfl) T.b_repr (by decide +kernel) (pa_cons (pe_lst (pa_cons (pv 10) (pa_cons (pv 10) (pa_cons (pe_not (pv 10)) pa_nil)))) pa_nil)) (nomark _)) (pss_one (ps_ret pe_bl))
  pss_nil)))))
  pss_nil))))
  (pss_cons (ps_set (i := 13) sc__law_right.nd rfl (Or.inl rfl) (pe_lst (pa_cons (pv 1) (pa_cons pe_non (pa_cons (pe_callTy (str_f d_str hr (by decide)) (by rfl) T.b_str (by decide +kernel) (pa_cons (pv 7) pa_nil)) (pa_cons (pe_tup (pa_cons (pv 1) (pa_cons pe_int pa_nil))) (pa_cons (pe_lst (pa_cons (pv 1) pa_nil)) (pa_cons pe_bl pa_nil))))))))
  (pss_cons (ps_if (PW.pt (pw_or (pt_val (pe_callB (id := "any") (cr_any rfl) (by rfl) T.b_any (by decide +kernel) (pa_cons (pe_map (K := K) (j := 14) (pe_lc (own := [("_law_thing", 14)]) (g := gName 14) (tt := tYes) rfl sc__law_right.nd (pi_list (pe_cut (pv 13))) (blkOk_by (N := ["_law_q", "_law_high", "_law_low", "_law_more", "_law_pair", "_law_told", "_law_one", "_law_whole", "_law_others", "_law_other", "_law_are_equal", "_law_second", "_law_asked", "_law_strange", "_law_thing"]) (sc := defScope s__law_right) (by decide +kernel)) (fun _ _ _ _ _ => (pg_name (i := 14) sc__law_right.nd rfl (Or.inl rfl))) (fun _ _ _ _ _ => pts_nil) (fun _ _ _ _ _ => (pe_cut (pe_cmpR (eq_a (K := K) o_eq hr (by decide)) (pv 7) (pv 14) (nomark _)))))) pa_nil))) (pw_or1 (pt_not (pt_val (pe_callB (id := "all") (cr_all rfl) (by rfl) T.b_all (by decide +kernel) (pa_cons (pe_map (K := K) (j := 14) (pe_lc (own := [("_law_thing", 14)]) (g := gName 14) (tt := tYes) rfl sc__law_right.nd (pi_list (pe_cut (pv 13))) (blkOk_by (N := ["_law_q", "_law_high", "_law_low", "_law_more", "_law_pair", "_law_told", "_law_one", "_law_whole", "_law_others", "_law_other", "_law_are_equal", "_law_second", "_law_asked", "_law_strange", "_law_thing"]) (sc := defScope s__law_right) (by decide +kernel)) (fun _ _ _ _ _ => (pg_name (i := 14) sc__law_right.nd rfl (Or.inl rfl))) (fun _ _ _ _ _ => pts_nil) (fun _ _ _ _ _ => (pe_cut (pe_cmpR (ne_a (K := K) o_eq hr (by decide)) (pv 7) (pv 14) (nomark _)))))) pa_nil))))))) (pss_one (ps_ret pe_bl))
  pss_nil)
  (pss_one (ps_ret (pe_cg c_fits bare hr (by decide) rfl (pa_cons (pe_ix (ix_listK (K := K)) (pv 5) pe_int (fun _ _ => rfl)) (pa_cons (pv 4) pa_nil)))))))))))))))))), ?_⟩
    -- high, low = small(..), small(..)
    refine ⟨_, rfl, _, _, rfl, rfl, ⟨by decide, by decide, by decide⟩, q, _, 0, rfl, hq, by decide, by decide, by decide, fun a H1 a0 a1 k1 q1 => ?_⟩
    refine ⟨_, rfl, _, _, rfl, rfl, ⟨by decide, by decide, by decide⟩, q, _, 4, rfl, q1, by decide, by decide, by decide, fun b0 H2 b00 b01 k2 q2 => ?_⟩
    refine ⟨_, _, rfl, ?_⟩
    have ha : a.natAbs < 10 ^ 22 := by omega
    replace k2 := k1.trans k2
    clear k1 q1 hq
    -- low = low if low != 0 else 1 + draw(q, 9)
    refine ⟨fun v H' => ∃ b : Int, v = .int b ∧ b ≠ 0 ∧ b.natAbs < 10 ^ 22 ∧ Keep q H H' ∧ QAt H' q 9, ?_, ?_⟩
    · refine ⟨_, rfl, rfl, _, rfl, ?_⟩
      refine ite2 (fun z => ?_) (fun z => ?_)
      · refine ⟨_, rfl, b0, rfl, ?_, by omega, k2, ?_⟩
        · intro e
          subst e
          exact absurd z (by decide)
        · exact q2.le (by decide)
      · refine ⟨_, rfl, q, 9, 8, rfl, q2, by decide, by decide, by decide, fun r H3 r0 r1 k3 q3 => ?_⟩
        exact ⟨_, _, rfl, rfl, _, rfl, by omega, by omega, k2.trans k3, q3⟩
    rintro _ H3 ⟨b, rfl, bn, bb, k3, q3⟩
    clear k2 q2
    -- more = small(q, 10 ** 13); more = more if more != 0 else -1
    refine ⟨_, rfl, _, _, rfl, rfl, ⟨by decide, by decide, by decide⟩, q, _, 9, rfl, q3, by decide, by decide, by decide, fun m0 H4 m00 m01 k4 q4 => ?_⟩
    replace k4 := k3.trans k4
    clear k3 q3
    refine ⟨fun σ H' => ∃ m : Int, σ = [some (.ref q), some (.int a), some (.int b), some (.int m), none, none, none, none, none, none, none, none, none, none, none] ∧ N5 a b m ∧ Keep q H H' ∧ ∃ o, H' q = some o, ?_, ?_⟩
    · refine ⟨fun v H' => ∃ m : Int, v = .int m ∧ m ≠ 0 ∧ m.natAbs < 10 ^ 22 ∧ H' = H4, ?_, ?_⟩
      · refine ⟨_, rfl, rfl, _, rfl, ?_⟩
        refine ite2 (fun z => ?_) (fun z => ?_)
        · refine ⟨_, rfl, m0, rfl, ?_, by omega, rfl⟩
          intro e
          subst e
          exact absurd z (by decide)
        · exact ⟨_, rfl, -1, rfl, by decide, by decide, rfl⟩
      · rintro _ _ ⟨m, rfl, mn, mb, rfl⟩
        exact ⟨m, rfl, ⟨ha, bb, mb, bn, mn⟩, k4, q4.at_⟩
    clear k4 q4 m00 m01 bn bb a0 a1 b00 b01
    rintro _ G ⟨m, rfl, n5, kG, oq, hoq⟩
    -- pair = lowest(high, low)
    have sa := smI n5.ha (by decide)
    have sb := smI n5.hb (by decide)
    have sm := smI n5.hm (by decide)
    refine ⟨_, rfl, _, rfl, a, b, rfl, n5.b0, sb, fun t ht => ?_⟩
    have st : Same G (upd G t (.tup (pr (Rat.divInt a b)))) := MG.Same.new (Same.refl G) ht
    have et : (upd G t (.tup (pr (Rat.divInt a b)))) t = some (.tup (pr (Rat.divInt a b))) := upd_same
    have eq0 : ([.int (Rat.divInt a b).num, .int (Rat.divInt a b).den] : List V) = pr (Rat.divInt a b) := rfl
    rw [eq0]
    generalize upd G t (.tup (pr (Rat.divInt a b))) = G1 at *
    replace kG := kG.same st
    replace hoq := st _ _ hoq
    clear st eq0 ht
    generalize hp : Rat.divInt a b = p at *
    -- told = [..]
    refine ⟨fun σ H' => ∃ l r1 r2 r3 r4, σ = [some (.ref q), some (.int a), some (.int b), some (.int m), some (.ref t), some (.ref l), none, none, none, none, none, none, none, none, none] ∧ F5 C H' t l r1 r2 r3 r4 p ∧ Keep q H H', ?_, ?_⟩
    · refine ⟨_, rfl, _, rfl, fun r1 d1 x1 y1 _ => ⟨r1, d1, a, b, rfl, upd_same, n5.b0, sb, fun J1 e1 kp1 => ⟨rfl, ?_⟩⟩⟩
      have s1 := made_same x1 y1 kp1
      rw [hp] at e1
      have h1 : RatAt C J1 r1 p := ⟨d1, e1⟩
      refine ⟨_, rfl, _, rfl, rfl, rfl, fun r2 d2 x2 y2 _ => ⟨r2, d2, a, b, rfl, upd_same, n5.b0, sb, fun J2 e2 kp2 => ⟨rfl, ?_⟩⟩⟩
      have s2 := made_same x2 y2 kp2
      rw [hp] at e2
      have h2 : RatAt C J2 r2 p := ⟨d2, e2⟩
      refine ⟨_, rfl, _, rfl, rfl, rfl, fun r3 d3 x3 y3 _ => ⟨r3, d3, a, b, rfl, upd_same, n5.b0, sb, fun J3 e3 kp3 => ⟨rfl, ?_⟩⟩⟩
      have s3 := made_same x3 y3 kp3
      rw [hp] at e3
      have h3 : RatAt C J3 r3 p := ⟨d3, e3⟩
      have sbm : Sm (b * m) := by
        refine sm_of ?_
        rw [Int.natAbs_mul]
        exact Nat.lt_of_lt_of_le (lt_mul n5.hb n5.hm) (Nat.pow_le_pow_right (by decide) (by decide))
      refine ⟨_, rfl, _, rfl, _, _, rfl, rfl, sm_mul sa sm, _, rfl, _, rfl, _, _, rfl, rfl, sm_mul sb sm, fun r4 d4 x4 y4 _ => ⟨r4, d4, a * m, b * m, rfl, upd_same, Int.mul_ne_zero n5.b0 n5.m0, sbm, fun J4 e4 kp4 => ⟨rfl, ?_⟩⟩⟩
      have s4 := made_same x4 y4 kp4
      rw [Rat.divInt_mul_right n5.m0, hp] at e4
      have h4 : RatAt C J4 r4 p := ⟨d4, e4⟩
      refine ⟨by show 4 ≤ sizeLine; decide, fun l hl => ?_⟩
      have s5 : Same J4 (upd J4 l (.lst [.ref r1, .ref r2, .ref r3, .ref r4])) := MG.Same.new (Same.refl J4) hl
      have s45 := s4.trans s5
      have s345 := s3.trans s45
      have s2345 := s2.trans s345
      have s12345 := s1.trans s2345
      exact ⟨l, r1, r2, r3, r4, rfl, ⟨s12345 _ _ et, upd_same, h1.same s2345, h2.same s345, h3.same s45, h4.same s5⟩, kG.same s12345⟩
    clear et kG hoq
    rintro _ G ⟨l, r1, r2, r3, r4, rfl, f5, kG⟩
    have bd := n5.bd
    rw [hp] at bd
    have sn := bd.num (by decide)
    have sd := bd.den (by decide)
    -- for one in told
    refine ⟨fun σ H' => ∃ v, σ = [some (.ref q), some (.int a), some (.int b), some (.int m), some (.ref t), some (.ref l), v, none, none, none, none, none, none, none, none] ∧ F5 C H' t l r1 r2 r3 r4 p ∧ Keep q H H', ?_, ?_⟩
    · refine ⟨_, rfl, l, rfl, ⟨_, SqL.of f5.l⟩, ?_⟩
      refine for_list (K := K) (a := l) (xs := [.ref r1, .ref r2, .ref r3, .ref r4]) (fun i σ H' => ∃ v : Option V, σ = [some (.ref q), some (.int a), some (.int b), some (.int m), some (.ref t), some (.ref l), v, none, none, none, none, none, none, none, none] ∧ F5 C H' t l r1 r2 r3 r4 p ∧ Keep q H H') ⟨none, rfl, f5, kG⟩ ?_ ?_ ?_
      · rintro i σ H' _ ⟨v, rfl, f, _⟩
        exact SqL.of f.l
      · rintro i x σ H' hx ⟨v, rfl, f, kk⟩
        obtain ⟨r, rfl, hr0⟩ : ∃ r, x = V.ref r ∧ RatAt C H' r p := by
          match i, hx with
          | 0, hx => exact ⟨r1, (Option.some.inj hx).symm, f.a1⟩
          | 1, hx => exact ⟨r2, (Option.some.inj hx).symm, f.a2⟩
          | 2, hx => exact ⟨r3, (Option.some.inj hx).symm, f.a3⟩
          | 3, hx => exact ⟨r4, (Option.some.inj hx).symm, f.a4⟩
        refine ⟨_, rfl, _, rfl, r, t, p, rfl, hr0, SqT.of f.t, sn, sd, fun J sJ => ⟨_, rfl, ?_⟩⟩
        refine iteF ?_
        have f' := f.same sJ
        have hr1 := hr0.same sJ
        obtain ⟨d1, e1⟩ := id hr1
        obtain ⟨d2, e2⟩ := id f'.a1
        have pp : decide (p = p) = true := decide_eq_true rfl
        refine ⟨_, rfl, _, rfl, l, _, _, _, rfl, rfl, SqL.of f'.l, rfl, r, d1, _, r1, d2, _, rfl, e1, rfl, e2, r, p, .ref r1, rfl, hr1, .inl ⟨r1, p, rfl, f'.a1, _, rfl, ?_⟩⟩
        refine ifF (by rw [pp]; rfl) ?_
        refine ⟨_, rfl, _, rfl, l, _, _, _, rfl, rfl, SqL.of f'.l, rfl, r, d1, _, r1, d2, _, rfl, e1, rfl, e2, r, p, .ref r1, rfl, hr1, .inl ⟨r1, p, rfl, f'.a1, _, rfl, _, rfl, ?_⟩⟩
        refine ifF (by rw [pp]; rfl) ?_
        exact ⟨_, rfl, f', kk.same sJ⟩
      · rintro σ H' ⟨v, rfl, f, kk⟩
        exact ⟨v, rfl, f, kk⟩
    clear f5 kG
    rintro _ G ⟨v1, rfl, f5, kG⟩
    -- whole = Ratio(high)
    refine ⟨_, rfl, fun rw' dw xw yw _ => ⟨rw', dw, a, 1, rfl, upd_same, by decide, sm_lt (k := 1) (by decide) (by decide) (by decide), fun G1 ew kpw => ⟨rfl, ?_⟩⟩⟩
    have sw := made_same xw yw kpw
    have hw : RatAt C G1 rw' (Rat.divInt a 1) := ⟨dw, ew⟩
    replace f5 := f5.same sw
    replace kG := kG.same sw
    clear sw kpw xw yw ew
    have na : (Rat.divInt a 1).num = a := by simp [Rat.num_divInt]
    have da : (Rat.divInt a 1).den = 1 := by simp [Rat.den_divInt]
    have prw : pr (Rat.divInt a 1) = [.int a, .int 1] := by unfold pr; rw [na, da]; rfl
    have swn : Sm (Rat.divInt a 1).num := by rw [na]; exact sa
    have swd : Sm ((Rat.divInt a 1).den : Int) := by rw [da]; exact sm_lt (k := 1) (by decide) (by decide) (by decide)
    -- if not fits(whole, (high, 1)) or not fits(Ratio(top=high), (high, 1))
    refine ⟨fun σ H' => σ = [some (.ref q), some (.int a), some (.int b), some (.int m), some (.ref t), some (.ref l), v1, some (.ref rw'), none, none, none, none, none, none, none] ∧ F5 C H' t l r1 r2 r3 r4 p ∧ RatAt C H' rw' (Rat.divInt a 1) ∧ Keep q H H', ?_, ?_⟩
    · refine ⟨_, rfl, _, rfl, by show 2 ≤ sizeLine; decide, fun t2 ht2 => ?_⟩
      have s2 : Same G1 (upd G1 t2 (.tup [.int a, .int 1])) := MG.Same.new (Same.refl G1) ht2
      refine ⟨rw', t2, _, rfl, hw.same s2, SqT.of (by rw [prw]; exact upd_same), swn, swd, fun J sJ => ⟨_, rfl, ?_⟩⟩
      refine iteF ?_
      replace s2 := s2.trans sJ
      refine ⟨_, rfl, rfl, rfl, fun rv dv xv yv _ => ⟨rv, dv, a, 1, rfl, upd_same, by decide, sm_lt (k := 1) (by decide) (by decide) (by decide), fun J2 ev kpv => ⟨rfl, ?_⟩⟩⟩
      have sv := made_same xv yv kpv
      refine ⟨_, rfl, by show 2 ≤ sizeLine; decide, fun t3 ht3 => ?_⟩
      have s3 : Same J2 (upd J2 t3 (.tup [.int a, .int 1])) := MG.Same.new (Same.refl J2) ht3
      refine ⟨rv, t3, _, rfl, RatAt.same ⟨dv, ev⟩ s3, SqT.of (by rw [prw]; exact upd_same), swn, swd, fun J3 sJ3 => ⟨_, rfl, ?_⟩⟩
      refine ifF rfl ?_
      have s4 := ((s2.trans sv).trans s3).trans sJ3
      exact ⟨rfl, f5.same s4, hw.same s4, kG.same s4⟩
    clear f5 hw kG
    rintro _ G2 ⟨rfl, f5, hw, kG⟩
    -- others = [..]
    refine ⟨fun σ H' => ∃ lo xs os, σ = [some (.ref q), some (.int a), some (.int b), some (.int m), some (.ref t), some (.ref l), v1, some (.ref rw'), some (.ref lo), none, none, none, none, none, none] ∧ H' lo = some (.lst xs) ∧ TupL H' xs os ∧ Nums os ∧ F5 C H' t l r1 r2 r3 r4 p ∧ RatAt C H' rw' (Rat.divInt a 1) ∧ Keep q H H', ?_, ?_⟩
    · refine ⟨_, rfl, _, _, rfl, rfl, _, rfl, by show 2 ≤ sizeLine; decide, fun t1 ht1 => ?_⟩
      refine ⟨_, rfl, _, rfl, _, rfl, _, _, rfl, rfl, by show 2 ≤ sizeLine; decide, fun t2 ht2 => ?_⟩
      refine ⟨_, rfl, _, rfl, by show 2 ≤ sizeLine; decide, fun t3 ht3 => ?_⟩
      refine ⟨_, rfl, _, rfl, _, rfl, by show 2 ≤ sizeLine; decide, fun t4 ht4 => ?_⟩
      refine ⟨_, rfl, by show 2 ≤ sizeLine; decide, fun t5 ht5 => ?_⟩
      refine ⟨_, rfl, by show 2 ≤ sizeLine; decide, fun t6 ht6 => ?_⟩
      refine ⟨_, rfl, by show 2 ≤ sizeLine; decide, fun t7 ht7 => ?_⟩
      refine ⟨by show 7 ≤ sizeLine; decide, fun lo hlo => ?_⟩
      have s8 := MG.Same.new (o := .lst [.ref t1, .ref t2, .ref t3, .ref t4, .ref t5, .ref t6, .ref t7]) (Same.refl _) hlo
      have s7 := (MG.Same.new (o := .tup [.int 0, .int b]) (Same.refl _) ht7).trans s8
      have s6 := (MG.Same.new (o := .tup [.int 1, .int b]) (Same.refl _) ht6).trans s7
      have s5 := (MG.Same.new (o := .tup [.int a, .int 1]) (Same.refl _) ht5).trans s6
      have s4 := (MG.Same.new (o := .tup [.int (-a), .int b]) (Same.refl _) ht4).trans s5
      have s3 := (MG.Same.new (o := .tup [.int b, .int a]) (Same.refl _) ht3).trans s4
      have s2 := (MG.Same.new (o := .tup [.int a, .int (b + m)]) (Same.refl _) ht2).trans s3
      have s1 := (MG.Same.new (o := .tup [.int (a + 1), .int b]) (Same.refl _) ht1).trans s2
      refine ⟨lo, _, [(a + 1, b), (a, b + m), (b, a), (-a, b), (a, 1), (1, b), (0, b)], rfl, upd_same, ?_, ?_, f5.same s1, hw.same s1, kG.same s1⟩
      · exact ⟨⟨t1, rfl, s2 _ _ upd_same⟩, ⟨t2, rfl, s3 _ _ upd_same⟩, ⟨t3, rfl, s4 _ _ upd_same⟩, ⟨t4, rfl, s5 _ _ upd_same⟩, ⟨t5, rfl, s6 _ _ upd_same⟩, ⟨t6, rfl, s7 _ _ upd_same⟩, ⟨t7, rfl, s8 _ _ upd_same⟩, True.intro⟩
      · have h1 := n5.ha
        have h2 := n5.hb
        have h3 := n5.hm
        intro o ho
        simp only [List.mem_cons, List.not_mem_nil, or_false] at ho
        rcases ho with rfl | rfl | rfl | rfl | rfl | rfl | rfl <;> constructor <;> simp only [] <;> omega
    clear f5 hw kG
    rintro _ G3 ⟨lo, xs, os, rfl, hlo, hos, nos, f5, hw, kG⟩
    -- for other in others
    refine ⟨fun σ H' => ∃ v9 v10 v11 v12, σ = [some (.ref q), some (.int a), some (.int b), some (.int m), some (.ref t), some (.ref l), v1, some (.ref rw'), some (.ref lo), v9, v10, v11, v12, none, none] ∧ F5 C H' t l r1 r2 r3 r4 p ∧ RatAt C H' rw' (Rat.divInt a 1) ∧ Keep q H H', ?_, ?_⟩
    · refine ⟨_, rfl, lo, rfl, ⟨_, SqL.of hlo⟩, ?_⟩
      refine for_list (K := K) (a := lo) (xs := xs) (fun i σ H' => ∃ v9 v10 v11 v12 : Option V, σ = [some (.ref q), some (.int a), some (.int b), some (.int m), some (.ref t), some (.ref l), v1, some (.ref rw'), some (.ref lo), v9, v10, v11, v12, none, none] ∧ H' lo = some (.lst xs) ∧ TupL H' xs os ∧ F5 C H' t l r1 r2 r3 r4 p ∧ RatAt C H' rw' (Rat.divInt a 1) ∧ Keep q H H') ⟨none, none, none, none, rfl, hlo, hos, f5, hw, kG⟩ ?_ ?_ ?_
      · rintro i σ H' _ ⟨v9, v10, v11, v12, rfl, h, _⟩
        exact SqL.of h
      · rintro i x σ H' hx ⟨v9, v10, v11, v12, rfl, hlo, hos, f5, hw, kG⟩
        obtain ⟨⟨u, v⟩, tt, hm, rfl, htt⟩ := hos.get i x hx
        obtain ⟨hu, hv⟩ := nos _ hm
        have su := smI hu (by decide)
        have sv := smI hv (by decide)
        simp only [] at hu hv su sv htt
        refine ⟨_, rfl, tt, _, _, _, rfl, rfl, SqT.of htt, rfl, rfl, _, rfl, ?_⟩
        by_cases v0 : v = 0
        · refine ifF (by subst v0; rfl) ?_
          exact ⟨_, _, _, _, rfl, hlo, hos, f5, hw, kG⟩
        refine ifT (by simp [v0]) ?_
        -- are_equal = lowest(other[0], other[1]) == pair
        refine ⟨_, rfl, tt, _, _, _, rfl, rfl, SqT.of htt, rfl, _, rfl, tt, _, _, _, rfl, rfl, SqT.of htt, rfl, u, v, rfl, v0, sv, fun p6 hp6 => ?_⟩
        have z6 : Same H' (upd H' p6 (.tup [.int (Rat.divInt u v).num, .int (Rat.divInt u v).den])) := MG.Same.new (Same.refl H') hp6
        obtain ⟨dL, l1, l2, l3⟩ := pair_dp (K := K) (upd_same (H := H') (a := p6) (o := .tup [.int (Rat.divInt u v).num, .int (Rat.divInt u v).den]))
        obtain ⟨dR, q1, q2, q3⟩ := pair_dp (K := K) (z6 _ _ f5.t)
        generalize upd H' p6 (.tup [.int (Rat.divInt u v).num, .int (Rat.divInt u v).den]) = J6 at *
        refine ⟨_, rfl, dL, dR, l1, q1, l2, q2, ?_⟩
        rw [l3, q3, eqv_pair]
        clear l1 q1 l2 q2 l3 q3
        -- second = Ratio(other[0], other[1])
        refine ⟨_, rfl, tt, _, _, _, rfl, rfl, SqT.of (z6 _ _ htt), rfl, _, rfl, tt, _, _, _, rfl, rfl, SqT.of (z6 _ _ htt), rfl, fun rs ds xs' ys' _ => ⟨rs, ds, u, v, rfl, upd_same, v0, sv, fun J7 e7 kp7 => ⟨rfl, ?_⟩⟩⟩
        have z7 := z6.trans (made_same xs' ys' kp7)
        have hsec : RatAt C J7 rs (Rat.divInt u v) := ⟨ds, e7⟩
        generalize Rat.divInt u v = g at *
        replace f5 := f5.same z7
        replace hw := hw.same z7
        replace kG := kG.same z7
        replace hos := TupL.same z7 hos
        replace hlo := z7 _ _ hlo
        clear z6 z7 xs' ys' kp7 htt
        obtain ⟨d1, e1⟩ := id f5.a1
        -- asked
        refine ⟨_, rfl, l, _, _, _, rfl, rfl, SqL.of f5.l, rfl, _, rfl, r1, d1, _, rs, ds, _, rfl, e1, rfl, e7, r1, p, .ref rs, rfl, f5.a1, .inl ⟨rs, g, rfl, hsec, ?_⟩⟩
        refine ⟨_, rfl, _, rfl, l, _, _, _, rfl, rfl, SqL.of f5.l, rfl, rs, ds, _, r1, d1, _, rfl, e7, rfl, e1, rs, g, .ref r1, rfl, hsec, .inl ⟨r1, p, rfl, f5.a1, ?_⟩⟩
        refine ⟨_, rfl, l, _, _, _, rfl, rfl, SqL.of f5.l, rfl, _, rfl, r1, d1, _, rs, ds, _, rfl, e1, rfl, e7, r1, p, .ref rs, rfl, f5.a1, .inl ⟨rs, g, rfl, hsec, _, rfl, ?_⟩⟩
        refine ⟨by show 3 ≤ sizeLine; decide, fun la hla => ?_⟩
        have ec : decide (p = g) = decide (g = p) := decide_eq_decide.mpr ⟨Eq.symm, Eq.symm⟩
        rw [ec]
        generalize decide (g = p) = c at *
        have za : Same J7 (upd J7 la (.lst [.bl c, .bl c, .bl (!c)])) := MG.Same.new (Same.refl J7) hla
        have ea : (upd J7 la (.lst [.bl c, .bl c, .bl (!c)])) la = some (.lst [.bl c, .bl c, .bl (!c)]) := upd_same
        generalize upd J7 la (.lst [.bl c, .bl c, .bl (!c)]) = J8 at *
        obtain ⟨d1', a1, a2, a3, a4, a5, a6⟩ := bools_ex (K := K) ea
        refine ⟨_, rfl, .ref la, d1', rfl, a1, a2, a3, a4, a5, ?_⟩
        rw [a6]
        refine ⟨_, rfl, _, rfl, _, rfl, c, rfl, by show 3 ≤ sizeLine; decide, fun lb hlb => ?_⟩
        have zb : Same J8 (upd J8 lb (.lst [.bl c, .bl c, .bl (!c)])) := MG.Same.new (Same.refl J8) hlb
        have eb : (upd J8 lb (.lst [.bl c, .bl c, .bl (!c)])) lb = some (.lst [.bl c, .bl c, .bl (!c)]) := upd_same
        obtain ⟨d2', b1, b2, b3, b4, b5, b6⟩ := bools_ex (K := K) eb
        refine ⟨.ref lb, d2', rfl, b1, b2, b3, b4, b5, ?_⟩
        rw [b6]
        refine ⟨rfl, _, rfl, ?_⟩
        refine ifF (by rw [decide_eq_true rfl]; rfl) ?_
        have zz := za.trans zb
        exact ⟨_, _, _, _, rfl, zz _ _ hlo, TupL.same zz hos, f5.same zz, hw.same zz, kG.same zz⟩
      · rintro σ H' ⟨v9, v10, v11, v12, rfl, _, _, f5, hw, kG⟩
        exact ⟨v9, v10, v11, v12, rfl, f5, hw, kG⟩
    clear f5 hw kG hlo hos nos
    rintro _ G4 ⟨v9, v10, v11, v12, rfl, f5, hw, kG⟩
    -- strange = [..]
    obtain ⟨dw', ew'⟩ := id hw
    refine ⟨_, rfl, _, rfl, rw', dw', _, rfl, ew', rw', _, rfl, hw, swn, swd, _, rfl, ?_⟩
    refine ⟨_, rfl, by show 2 ≤ sizeLine; decide, fun t2 ht2 => ?_⟩
    refine ⟨_, rfl, by show 1 ≤ sizeLine; decide, fun l2 hl2 => ?_⟩
    refine ⟨by show 6 ≤ sizeLine; decide, fun l3 hl3 => ?_⟩
    have s3 := MG.Same.new (o := .lst [.int a, .non, .str (dg (Rat.divInt a 1)), .ref t2, .ref l2, .bl true]) (Same.refl _) hl3
    have s2 := (MG.Same.new (o := .lst [.int a]) (Same.refl _) hl2).trans s3
    have s1 := (MG.Same.new (o := .tup [.int a, .int 1]) (Same.refl _) ht2).trans s2
    have hl3' : upd (upd (upd G4 t2 (.tup [.int a, .int 1])) l2 (.lst [.int a])) l3 (.lst [.int a, .non, .str (dg (Rat.divInt a 1)), .ref t2, .ref l2, .bl true]) l3 = some (.lst [.int a, .non, .str (dg (Rat.divInt a 1)), .ref t2, .ref l2, .bl true]) := upd_same
    have ht2' := s2 _ _ (upd_same (H := G4) (a := t2) (o := .tup [.int a, .int 1]))
    have hl2' := s3 _ _ (upd_same (H := upd G4 t2 (.tup [.int a, .int 1])) (a := l2) (o := .lst [.int a]))
    generalize upd (upd (upd G4 t2 (.tup [.int a, .int 1])) l2 (.lst [.int a])) l3 (.lst [.int a, .non, .str (dg (Rat.divInt a 1)), .ref t2, .ref l2, .bl true]) = G5 at *
    have f5' := f5.same s1
    have hw' := hw.same s1
    have kG' := kG.same s1
    clear f5 hw kG s1 s2 s3 ew'
    have odds : ∀ (i : Nat) (x : V), ([.int a, .non, .str (dg (Rat.divInt a 1)), .ref t2, .ref l2, .bl true] : List V)[i]? = some x → ∀ H', Same G5 H' → Odd K C H' x := by
      intro i x hx H' s'
      match i, hx with
      | 0, hx => cases (Option.some.inj hx); exact ⟨_, .base (.int _), O.int⟩
      | 1, hx => cases (Option.some.inj hx); exact ⟨_, .base .non, O.non⟩
      | 2, hx => cases (Option.some.inj hx); exact ⟨_, .base (.str _), O.str⟩
      | 3, hx => cases (Option.some.inj hx); exact ⟨_, .base (.tup (s' _ _ ht2')), O.tup⟩
      | 4, hx => cases (Option.some.inj hx); exact ⟨_, .base (.lst (s' _ _ hl2')), O.lst⟩
      | 5, hx => cases (Option.some.inj hx); exact ⟨_, .base (.bl _), O.bl⟩
    have rep : ∀ {n i : Nat} {y z : V}, (List.replicate n z)[i]? = some y → y = z := by
      intro n i y z h
      rw [List.getElem?_replicate] at h
      split at h
      · exact (Option.some.inj h).symm
      · cases h
    -- any([whole == thing ..])
    refine ⟨_, rfl, l3, _, List.replicate 6 (.bl false), rfl, SqL.of hl3', rfl, by show 6 ≤ 100000; decide, fun i x y H' hx hy s' => ?_, fun D G6 s6 _ eD => ?_⟩
    · obtain rfl := rep hy
      obtain ⟨ty, o1, o2, o3⟩ := (odds i x hx H' s').read O
      obtain ⟨dz, ez⟩ := id (hw'.same s')
      exact ⟨_, rfl, _, rfl, rw', dz, _, ty, rfl, ez, o1, o2, rw', _, x, rfl, hw'.same s', .inr ⟨ty, o1, o3, rfl, Same.refl H'⟩⟩
    refine ⟨D, List.replicate 6 false, rfl, SqL.of eD, _, rfl, ?_⟩
    refine ifF rfl ?_
    -- all([whole != thing ..])
    refine ⟨_, rfl, l3, _, List.replicate 6 (.bl true), rfl, SqL.of (s6 _ _ hl3'), rfl, by show 6 ≤ 100000; decide, fun i x y H' hx hy s' => ?_, fun D2 G7 s7 _ eD2 => ?_⟩
    · obtain rfl := rep hy
      have s'' := s6.trans s'
      obtain ⟨ty, o1, o2, o3⟩ := (odds i x hx H' s'').read O
      obtain ⟨dz, ez⟩ := id (hw'.same s'')
      exact ⟨_, rfl, _, rfl, rw', dz, _, ty, rfl, ez, o1, o2, rw', _, x, rfl, hw'.same s'', .inr ⟨ty, o1, o3, _, rfl, rfl, Same.refl H'⟩⟩
    refine ⟨D2, List.replicate 6 true, rfl, SqL.of eD2, _, rfl, ?_⟩
    refine ifF rfl ?_
    -- return fits(told[0], pair)
    have s67 := s6.trans s7
    have f7 := f5'.same s67
    exact ⟨_, rfl, l, _, _, _, rfl, rfl, SqL.of f7.l, rfl, _, rfl, r1, t, p, rfl, f7.a1, SqT.of f7.t, sn, sd, fun J sJ => k _ ((kG'.same s67).same sJ)⟩
abbrev RightC (P : Program) (w : World) (K : PySem.W.Frag) (mg : Str → Option Value) (base : Heap) : Prop := CalG P w K mg base 12 "_law_right" spRight []
end
end Lw

namespace Lw
open PySem PySem.Spec PyProof.Rows L2 MG
section
variable {P : Program} {w : World} {K : PySem.W.Frag} {mg : Str → Option Value} {base : Heap} {C : Addr}
def spLaw (K : PySem.W.Frag) : Sp := fun vs H Q _ => ∃ (a : Addr) (ns : List Int), vs = [.ref a] ∧ SqL K H a (ns.map V.int) ∧ ns.length ≤ 63 ∧ ∀ H', Q (.bl true) H'
theorem rep_get {α : Type} {n i : Nat} {a y : α} (h : (List.replicate n a)[i]? = some y) : y = a := by
  rw [List.getElem?_replicate] at h
  split at h
  · exact (Option.some.inj h).symm
  · cases h
theorem first_txt : listText [rt (Rat.divInt 0 (-7)), rt (Rat.divInt 6 (-4)), rt (Rat.divInt (-3) 1), rt (Rat.divInt (10 ^ Int.toNat 39) (10 ^ Int.toNat 38))] = Str.ofString "[Ratio(0, 1), Ratio(-3, 2), Ratio(-3, 1), Ratio(10, 1)]" := by decide +kernel
theorem own_at {H : Hp} {r : Addr} {p : Rat} (h : RatAt C H r p) (b : Bd p 50) : ownR C H r (rt p) := ⟨p, h, b.num (by decide), b.den (by decide), rfl⟩
theorem bd_1 : Bd (Rat.divInt 0 (-7)) 50 := bd_div (by decide) (by decide) (by decide)
theorem bd_2 : Bd (Rat.divInt 6 (-4)) 50 := bd_div (by decide) (by decide) (by decide)
theorem bd_3 : Bd (Rat.divInt (-3) 1) 50 := bd_div (by decide) (by decide) (by decide)
theorem bd_4 : Bd (Rat.divInt (10 ^ Int.toNat 39) (10 ^ Int.toNat 38)) 50 := bd_div (by decide) (by decide) (by decide)
theorem sc_law : FnScope ["_law_script", "_law_k"] ["_law_script"] (defScope s_law) := ⟨rfl, rfl, rfl, by decide +kernel, rfl, by decide +kernel, by decide +kernel⟩
theorem ok_law {f : Addr} {fd : FuncData} (F : Fun K "law" "law" s_law f fd) (T : TxR K mg C) (R : RatC P w K mg base C) (m_rat1 : Rat1C P w K mg base C) (m_rat2 : Rat2C P w K mg base C) (c_right : RightC P w K mg base) (c_from : FromC P w K mg base) : FnG P w K mg base CX0 14 f fd ["_law_script"] (spLaw K) := by
  obtain ⟨p_top, p_bottom, d_str, d_repr, d_bool, o_eq⟩ := R
  refine fun_okG F sc_law (fun vs H Q E h => ?_) (fun cdv A outer s H vs Q E bare hr h => ?_)
  · obtain ⟨a, ns, rfl, _⟩ := h
    rfl
  · obtain ⟨a, ns, rfl, hS, hl, k⟩ := h
    refine ⟨_, (pss_cons (ps_if (pt_cmpR op_ne (pe_callB (id := "repr") (call_reprS (own := ownR C) (ownF d_repr) bare hr) (by rfl) T.b_repr (by decide +kernel) (pa_cons (pe_lst (pa_cons (pe_mkf m_rat2 hr (by decide) rfl (pa_cons pe_int (pa_cons (pe_un un_neg pe_int) pa_nil))) (pa_cons (pe_mkf m_rat2 hr (by decide) rfl (pa_cons pe_int (pa_cons (pe_un un_neg pe_int) pa_nil))) (pa_cons (pe_mkf m_rat1 hr (by decide) rfl (pa_cons (pe_un un_neg pe_int) pa_nil)) (pa_cons (pe_mkf m_rat2 hr (by decide) rfl (pa_cons (pe_op op_pow pe_int pe_int) (pa_cons (pe_op op_pow pe_int pe_int) pa_nil))) pa_nil))))) pa_nil)) pe_str (nomark _)) (pss_one (ps_ret pe_bl))
  pss_nil)
  (pss_one (ps_ret (pe_callB (id := "all") (cr_all rfl) (by rfl) T.b_all (by decide +kernel) (pa_cons (pe_mapR (j := 1) (fun σ H Q Q' hq ⟨v, e, p, ys, e1, o, i, j, e2, i2, j2, e3, q⟩ => ⟨v, e, p, ys, e1, o, i, j, e2, i2, j2, e3, hq _ _ q⟩) (pe_lc (own := [("_law_k", 1)]) (g := gName 1) (tt := tYes) rfl sc_law.nd (pi_range1 (by rfl) T.b_range (pa_cons (pe_callB (id := "max") (call_max2 rfl) (by rfl) T.b_max (by decide +kernel) (pa_cons pe_int (pa_cons (pe_callB (id := "min") (call_min2 rfl) (by rfl) T.b_min (by decide +kernel) (pa_cons (pe_callB (id := "len") call_len_seq (by rfl) T.b_len (by decide +kernel) (pa_cons (pv 0) pa_nil)) (pa_cons pe_int pa_nil))) pa_nil))) pa_nil)) (blkOk_by (N := ["_law_script", "_law_k"]) (sc := defScope s_law) (by decide +kernel)) (fun _ _ _ _ _ => (pg_name (i := 1) sc_law.nd rfl (Or.inl rfl))) (fun _ _ _ _ _ => pts_nil) (fun _ _ _ _ _ => (pe_cut (pe_cg c_right bare hr (by decide) rfl (pa_cons (pe_cg c_from bare hr (by decide) rfl (pa_cons (pv 0) (pa_cons (pv 1) pa_nil))) pa_nil)))))) pa_nil))))), ?_⟩
    -- repr([Ratio(0, -7), ..])
    refine ⟨_, rfl, fun r1 d1 x1 y1 _ => ⟨r1, d1, _, _, rfl, upd_same, by decide, sm_lt (k := 3) (by decide) (by decide) (by decide), fun J1 e1 kp1 => ⟨rfl, ?_⟩⟩⟩
    have s1 := made_same x1 y1 kp1
    refine ⟨_, rfl, fun r2 d2 x2 y2 _ => ⟨r2, d2, _, _, rfl, upd_same, by decide, sm_lt (k := 3) (by decide) (by decide) (by decide), fun J2 e2 kp2 => ⟨rfl, ?_⟩⟩⟩
    have s2 := made_same x2 y2 kp2
    refine ⟨_, rfl, fun r3 d3 x3 y3 _ => ⟨r3, d3, _, _, rfl, upd_same, by decide, sm_lt (k := 3) (by decide) (by decide) (by decide), fun J3 e3 kp3 => ⟨rfl, ?_⟩⟩⟩
    have s3 := made_same x3 y3 kp3
    refine ⟨_, _, rfl, rfl, ⟨by decide, by decide, by decide⟩, _, _, rfl, rfl, ⟨by decide, by decide, by decide⟩, fun r4 d4 x4 y4 _ => ⟨r4, d4, _, _, rfl, upd_same, by decide, sm_lt (k := 39) (by decide) (by decide) (by decide), fun J4 e4 kp4 => ⟨rfl, ?_⟩⟩⟩
    have s4 := made_same x4 y4 kp4
    refine ⟨by show 4 ≤ sizeLine; decide, fun lo hlo => ?_⟩
    have s5 : Same J4 (upd J4 lo (.lst [.ref r1, .ref r2, .ref r3, .ref r4])) := MG.Same.new (Same.refl J4) hlo
    have elo : upd J4 lo (.lst [.ref r1, .ref r2, .ref r3, .ref r4]) lo = some (.lst [.ref r1, .ref r2, .ref r3, .ref r4]) := upd_same
    have w4 := own_at (RatAt.same ⟨d4, e4⟩ s5) bd_4
    have w3 := own_at (RatAt.same ⟨d3, e3⟩ (s4.trans s5)) bd_3
    have w2 := own_at (RatAt.same ⟨d2, e2⟩ (s3.trans (s4.trans s5))) bd_2
    have w1 := own_at (RatAt.same ⟨d1, e1⟩ (s2.trans (s3.trans (s4.trans s5)))) bd_1
    have ss := s1.trans (s2.trans (s3.trans (s4.trans s5)))
    generalize upd J4 lo (.lst [.ref r1, .ref r2, .ref r3, .ref r4]) = J5 at *
    clear s1 s2 s3 s4 s5 kp1 kp2 kp3 kp4 x1 x2 x3 x4 y1 y2 y3 y4 hlo
    have sh : Shw K (ownR C) 2 J5 [lo] 4 (.ref lo) (listText [rt (Rat.divInt 0 (-7)), rt (Rat.divInt 6 (-4)), rt (Rat.divInt (-3) 1), rt (Rat.divInt (10 ^ Int.toNat 39) (10 ^ Int.toNat 38))]) := by
      refine .list (as := []) (k := 2) (SqL.of elo) (by simp) rfl (fun i y t h1 h2 => ?_) (fun b hb => hb) (by decide)
      match i, h1, h2 with
      | 0, h1, h2 => cases Option.some.inj h1; cases Option.some.inj h2; exact .own w1 (Nat.le_refl _)
      | 1, h1, h2 => cases Option.some.inj h1; cases Option.some.inj h2; exact .own w2 (Nat.le_refl _)
      | 2, h1, h2 => cases Option.some.inj h1; cases Option.some.inj h2; exact .own w3 (Nat.le_refl _)
      | 3, h1, h2 => cases Option.some.inj h1; cases Option.some.inj h2; exact .own w4 (Nat.le_refl _)
    refine ⟨.ref lo, [lo], 4, _, rfl, sh, by rw [first_txt]; decide, by decide, fun H2 sH => ?_⟩
    rw [first_txt]
    refine ⟨rfl, _, rfl, ?_⟩
    refine ifF (by rw [decide_eq_true rfl]; rfl) ?_
    have hS2 := (ss.trans sH).seq hS
    clear sh w1 w2 w3 w4 ss sH elo e1 e2 e3 e4
    have hm : ∃ m : Nat, (m : Int) = (if (if (6 : Int) < ((ns.map V.int).length : Int) then 6 else ((ns.map V.int).length : Int)) > 1 then (if (6 : Int) < ((ns.map V.int).length : Int) then 6 else ((ns.map V.int).length : Int)) else 1) ∧ m ≤ 63 := by
      rw [List.length_map]
      refine ⟨(if (if (6 : Int) < (ns.length : Int) then 6 else (ns.length : Int)) > 1 then (if (6 : Int) < (ns.length : Int) then 6 else (ns.length : Int)) else 1).toNat, ?_, ?_⟩
      · split <;> (try split) <;> omega
      · split <;> (try split) <;> omega
    obtain ⟨m, em, hm⟩ := hm
    refine ⟨_, rfl, a, _, rfl, Or.inl hS2, _, _, rfl, _, _, rfl, _, List.replicate m (.bl true), rfl, ?_, ?_, ?_, fun i y H' hy s' => ?_, fun D H' s' _ e => ?_⟩
    · rw [← em]; omega
    · rw [← em]; omega
    · rw [← em, List.length_replicate]
    · obtain rfl := rep_get hy
      refine ⟨_, rfl, _, rfl, a, ns, _, rfl, s'.seq hS2, by omega, fun q H1 hq s1 q0 => ⟨q, rfl, q0, fun H2 k2 => ⟨rfl, fun b o hb => ?_⟩⟩⟩
      exact k2 _ _ (s1 _ _ hb) (ne_of_none hb hq)
    · refine ⟨D, List.replicate m true, rfl, SqL.of (by rw [e, List.map_replicate]), ?_⟩
      have e2 : (List.replicate m true).all id = true := by simp
      rw [e2]
      exact k _
end
end Lw

namespace Lw
open PySem PySem.Spec PyProof.Rows L2 MG
theorem vals_rev {xs : List V} {us : List Value} (r : Vals xs us) : Vals xs.reverse us.reverse := by
  induction r with
  | nil => exact .nil
  | cons h t ih =>
    rw [List.reverse_cons, List.reverse_cons]
    exact ih.append (.cons h .nil)
theorem all_mk {l : PySem.W.OpenLaw} {w : World} {K : PySem.W.Frag} {h : Heap} {mg : Str → Option Value} {fa fD0 fD1 fD2 fD3 fD4 fD5 fD6 fD7 fD8 fD9 fD10 C fM0 fM1 fM2 fM3 fP0 pP0 fP1 pP1 fI tI : Addr} (X : K.In h) (G : h.Ns mainGlobals mg) (hfa : mg "law" = some (.ref fa))
    {odD0 anD0 : Option Addr} {slD0 : Array (Option Value)} {ocD0 kVD0 dcD0 pmD0 cdD0 ctD0 : Value}
    {odD1 anD1 : Option Addr} {slD1 : Array (Option Value)} {ocD1 kVD1 dcD1 pmD1 cdD1 ctD1 : Value}
    {odD2 anD2 : Option Addr} {slD2 : Array (Option Value)} {ocD2 kVD2 dcD2 pmD2 cdD2 ctD2 : Value}
    {odD3 anD3 : Option Addr} {slD3 : Array (Option Value)} {ocD3 kVD3 dcD3 pmD3 cdD3 ctD3 : Value}
    {odD4 anD4 : Option Addr} {slD4 : Array (Option Value)} {ocD4 kVD4 dcD4 pmD4 cdD4 ctD4 : Value}
    {odD5 anD5 : Option Addr} {slD5 : Array (Option Value)} {ocD5 kVD5 dcD5 pmD5 cdD5 ctD5 : Value}
    {odD6 anD6 : Option Addr} {slD6 : Array (Option Value)} {ocD6 kVD6 dcD6 pmD6 cdD6 ctD6 : Value}
    {odD7 anD7 : Option Addr} {slD7 : Array (Option Value)} {ocD7 kVD7 dcD7 pmD7 cdD7 ctD7 : Value}
    {odD8 anD8 : Option Addr} {slD8 : Array (Option Value)} {ocD8 kVD8 dcD8 pmD8 cdD8 ctD8 : Value}
    {odD9 anD9 : Option Addr} {slD9 : Array (Option Value)} {ocD9 kVD9 dcD9 pmD9 cdD9 ctD9 : Value}
    {odD10 anD10 : Option Addr} {slD10 : Array (Option Value)} {ocD10 kVD10 dcD10 pmD10 cdD10 ctD10 : Value}
    {odM0 anM0 : Option Addr} {slM0 : Array (Option Value)} {ocM0 kVM0 dcM0 pmM0 cdM0 ctM0 : Value}
    {odM1 anM1 : Option Addr} {slM1 : Array (Option Value)} {ocM1 kVM1 dcM1 pmM1 cdM1 ctM1 : Value}
    {odM2 anM2 : Option Addr} {slM2 : Array (Option Value)} {ocM2 kVM2 dcM2 pmM2 cdM2 ctM2 : Value}
    {odM3 anM3 : Option Addr} {slM3 : Array (Option Value)} {ocM3 kVM3 dcM3 pmM3 cdM3 ctM3 : Value}
    {reP0 : List Value}
    {odP0 anP0 : Option Addr} {slP0 : Array (Option Value)} {ocP0 kVP0 dcP0 pmP0 cdP0 ctP0 : Value}
    {reP1 : List Value}
    {odP1 anP1 : Option Addr} {slP1 : Array (Option Value)} {ocP1 kVP1 dcP1 pmP1 cdP1 ctP1 : Value}
    {odI anI : Option Addr} {slI : Array (Option Value)} {ocI kVI dcI pmI cdI ctI : Value}
    {oT : Obj} {nT : Nat} {kT : Tok}
    (aD0 : PySem.W.nsIn K mainGlobals "is_whole" = some (some (.ref fD0)))
    (lD0 : K.lookup fD0 = some ⟨ocD0, odD0, .func (PySem.W.fnOf "is_whole" "is_whole" (defArgs s_is_whole) (defBody s_is_whole) (defScope s_is_whole) .none kVD0 dcD0 pmD0 anD0 cdD0 ctD0), slD0⟩)
    (cD0 : PySem.W.codeIn K cdD0 "is_whole" = true)
    (kD0 : PySem.W.keepIn K (.ref fD0) = true)
    (aD1 : PySem.W.nsIn K mainGlobals "_law_purse" = some (some (.ref fD1)))
    (lD1 : K.lookup fD1 = some ⟨ocD1, odD1, .func (PySem.W.fnOf "_law_purse" "_law_purse" (defArgs s__law_purse) (defBody s__law_purse) (defScope s__law_purse) .none kVD1 dcD1 pmD1 anD1 cdD1 ctD1), slD1⟩)
    (cD1 : PySem.W.codeIn K cdD1 "_law_purse" = true)
    (kD1 : PySem.W.keepIn K (.ref fD1) = true)
    (aD2 : PySem.W.nsIn K mainGlobals "_law_draw" = some (some (.ref fD2)))
    (lD2 : K.lookup fD2 = some ⟨ocD2, odD2, .func (PySem.W.fnOf "_law_draw" "_law_draw" (defArgs s__law_draw) (defBody s__law_draw) (defScope s__law_draw) .none kVD2 dcD2 pmD2 anD2 cdD2 ctD2), slD2⟩)
    (cD2 : PySem.W.codeIn K cdD2 "_law_draw" = true)
    (kD2 : PySem.W.keepIn K (.ref fD2) = true)
    (aD3 : PySem.W.nsIn K mainGlobals "_law_common" = some (some (.ref fD3)))
    (lD3 : K.lookup fD3 = some ⟨ocD3, odD3, .func (PySem.W.fnOf "_law_common" "_law_common" (defArgs s__law_common) (defBody s__law_common) (defScope s__law_common) .none kVD3 dcD3 pmD3 anD3 cdD3 ctD3), slD3⟩)
    (cD3 : PySem.W.codeIn K cdD3 "_law_common" = true)
    (kD3 : PySem.W.keepIn K (.ref fD3) = true)
    (aD4 : PySem.W.nsIn K mainGlobals "_law_lowest" = some (some (.ref fD4)))
    (lD4 : K.lookup fD4 = some ⟨ocD4, odD4, .func (PySem.W.fnOf "_law_lowest" "_law_lowest" (defArgs s__law_lowest) (defBody s__law_lowest) (defScope s__law_lowest) .none kVD4 dcD4 pmD4 anD4 cdD4 ctD4), slD4⟩)
    (cD4 : PySem.W.codeIn K cdD4 "_law_lowest" = true)
    (kD4 : PySem.W.keepIn K (.ref fD4) = true)
    (aD5 : PySem.W.nsIn K mainGlobals "_law_from" = some (some (.ref fD5)))
    (lD5 : K.lookup fD5 = some ⟨ocD5, odD5, .func (PySem.W.fnOf "_law_from" "_law_from" (defArgs s__law_from) (defBody s__law_from) (defScope s__law_from) .none kVD5 dcD5 pmD5 anD5 cdD5 ctD5), slD5⟩)
    (cD5 : PySem.W.codeIn K cdD5 "_law_from" = true)
    (kD5 : PySem.W.keepIn K (.ref fD5) = true)
    (aD6 : PySem.W.nsIn K mainGlobals "_law_digits" = some (some (.ref fD6)))
    (lD6 : K.lookup fD6 = some ⟨ocD6, odD6, .func (PySem.W.fnOf "_law_digits" "_law_digits" (defArgs s__law_digits) (defBody s__law_digits) (defScope s__law_digits) .none kVD6 dcD6 pmD6 anD6 cdD6 ctD6), slD6⟩)
    (cD6 : PySem.W.codeIn K cdD6 "_law_digits" = true)
    (kD6 : PySem.W.keepIn K (.ref fD6) = true)
    (aD7 : PySem.W.nsIn K mainGlobals "_law_small" = some (some (.ref fD7)))
    (lD7 : K.lookup fD7 = some ⟨ocD7, odD7, .func (PySem.W.fnOf "_law_small" "_law_small" (defArgs s__law_small) (defBody s__law_small) (defScope s__law_small) .none kVD7 dcD7 pmD7 anD7 cdD7 ctD7), slD7⟩)
    (cD7 : PySem.W.codeIn K cdD7 "_law_small" = true)
    (kD7 : PySem.W.keepIn K (.ref fD7) = true)
    (aD8 : PySem.W.nsIn K mainGlobals "_law_fits" = some (some (.ref fD8)))
    (lD8 : K.lookup fD8 = some ⟨ocD8, odD8, .func (PySem.W.fnOf "_law_fits" "_law_fits" (defArgs s__law_fits) (defBody s__law_fits) (defScope s__law_fits) .none kVD8 dcD8 pmD8 anD8 cdD8 ctD8), slD8⟩)
    (cD8 : PySem.W.codeIn K cdD8 "_law_fits" = true)
    (kD8 : PySem.W.keepIn K (.ref fD8) = true)
    (aD9 : PySem.W.nsIn K mainGlobals "_law_right" = some (some (.ref fD9)))
    (lD9 : K.lookup fD9 = some ⟨ocD9, odD9, .func (PySem.W.fnOf "_law_right" "_law_right" (defArgs s__law_right) (defBody s__law_right) (defScope s__law_right) .none kVD9 dcD9 pmD9 anD9 cdD9 ctD9), slD9⟩)
    (cD9 : PySem.W.codeIn K cdD9 "_law_right" = true)
    (kD9 : PySem.W.keepIn K (.ref fD9) = true)
    (aD10 : PySem.W.nsIn K mainGlobals "law" = some (some (.ref fD10)))
    (lD10 : K.lookup fD10 = some ⟨ocD10, odD10, .func (PySem.W.fnOf "law" "law" (defArgs s_law) (defBody s_law) (defScope s_law) .none kVD10 dcD10 pmD10 anD10 cdD10 ctD10), slD10⟩)
    (cD10 : PySem.W.codeIn K cdD10 "law" = true)
    (kD10 : PySem.W.keepIn K (.ref fD10) = true)
    (aM0 : PySem.W.findIn K (.ref C) "__eq__" = some (some (.ref fM0)))
    (iM0 : PySem.W.isFn K (.ref fM0) = true)
    (lM0 : K.lookup fM0 = some ⟨ocM0, odM0, .func (PySem.W.fnOf "__eq__" "Ratio.__eq__" (defArgs s_Ratio___eq__) (defBody s_Ratio___eq__) (defScope s_Ratio___eq__) .none kVM0 dcM0 pmM0 anM0 cdM0 ctM0), slM0⟩)
    (cM0 : PySem.W.codeIn K cdM0 "Ratio.__eq__" = true)
    (kM0 : PySem.W.keepIn K (.ref fM0) = true)
    (aM1 : PySem.W.findIn K (.ref C) "__bool__" = some (some (.ref fM1)))
    (iM1 : PySem.W.isFn K (.ref fM1) = true)
    (lM1 : K.lookup fM1 = some ⟨ocM1, odM1, .func (PySem.W.fnOf "__bool__" "Ratio.__bool__" (defArgs s_Ratio___bool__) (defBody s_Ratio___bool__) (defScope s_Ratio___bool__) .none kVM1 dcM1 pmM1 anM1 cdM1 ctM1), slM1⟩)
    (cM1 : PySem.W.codeIn K cdM1 "Ratio.__bool__" = true)
    (kM1 : PySem.W.keepIn K (.ref fM1) = true)
    (aM2 : PySem.W.findIn K (.ref C) "__str__" = some (some (.ref fM2)))
    (iM2 : PySem.W.isFn K (.ref fM2) = true)
    (lM2 : K.lookup fM2 = some ⟨ocM2, odM2, .func (PySem.W.fnOf "__str__" "Ratio.__str__" (defArgs s_Ratio___str__) (defBody s_Ratio___str__) (defScope s_Ratio___str__) .none kVM2 dcM2 pmM2 anM2 cdM2 ctM2), slM2⟩)
    (cM2 : PySem.W.codeIn K cdM2 "Ratio.__str__" = true)
    (kM2 : PySem.W.keepIn K (.ref fM2) = true)
    (aM3 : PySem.W.findIn K (.ref C) "__repr__" = some (some (.ref fM3)))
    (iM3 : PySem.W.isFn K (.ref fM3) = true)
    (lM3 : K.lookup fM3 = some ⟨ocM3, odM3, .func (PySem.W.fnOf "__repr__" "Ratio.__repr__" (defArgs s_Ratio___repr__) (defBody s_Ratio___repr__) (defScope s_Ratio___repr__) .none kVM3 dcM3 pmM3 anM3 cdM3 ctM3), slM3⟩)
    (cM3 : PySem.W.codeIn K cdM3 "Ratio.__repr__" = true)
    (kM3 : PySem.W.keepIn K (.ref fM3) = true)
    (aP0 : PySem.W.findIn K (.ref C) "top" = some (some (.ref pP0)))
    (gP0 : PySem.W.specialIn K (.ref pP0) "__get__" = some (some (.builtin "property.__get__")))
    (tP0 : PySem.W.takesIn K (.ref pP0) = some true)
    (rP0 : PySem.W.recIn K pP0 "property" = some (.ref fP0 :: reP0))
    (lP0 : K.lookup fP0 = some ⟨ocP0, odP0, .func (PySem.W.fnOf "top" "Ratio.top" (defArgs s_Ratio_top) (defBody s_Ratio_top) (defScope s_Ratio_top) .none kVP0 dcP0 pmP0 anP0 cdP0 ctP0), slP0⟩)
    (cP0 : PySem.W.codeIn K cdP0 "Ratio.top" = true)
    (kP0 : PySem.W.keepIn K (.ref fP0) = true)
    (aP1 : PySem.W.findIn K (.ref C) "bottom" = some (some (.ref pP1)))
    (gP1 : PySem.W.specialIn K (.ref pP1) "__get__" = some (some (.builtin "property.__get__")))
    (tP1 : PySem.W.takesIn K (.ref pP1) = some true)
    (rP1 : PySem.W.recIn K pP1 "property" = some (.ref fP1 :: reP1))
    (lP1 : K.lookup fP1 = some ⟨ocP1, odP1, .func (PySem.W.fnOf "bottom" "Ratio.bottom" (defArgs s_Ratio_bottom) (defBody s_Ratio_bottom) (defScope s_Ratio_bottom) .none kVP1 dcP1 pmP1 anP1 cdP1 ctP1), slP1⟩)
    (cP1 : PySem.W.codeIn K cdP1 "Ratio.bottom" = true)
    (kP1 : PySem.W.keepIn K (.ref fP1) = true)
    (aI : PySem.W.findIn K (.ref C) "__init__" = some (some (.ref fI)))
    (iI : PySem.W.isFn K (.ref fI) = true)
    (lI : K.lookup fI = some ⟨ocI, odI, .func (PySem.W.fnOf "__init__" "Ratio.__init__" (defArgs s_Ratio___init__) (defBody s_Ratio___init__) (defScope s_Ratio___init__) (.ref tI) kVI dcI pmI anI cdI ctI), slI⟩)
    (cI : PySem.W.codeIn K cdI "Ratio.__init__" = true)
    (kI : PySem.W.keepIn K (.ref fI) = true)
    (lT : K.lookup tI = some oT)
    (dT : oT.data = .seq #[.int 1 kT] nT)
    (z_int : PySem.W.nsIn K mainGlobals "int" = some none)
    (z_len : PySem.W.nsIn K mainGlobals "len" = some none)
    (z_abs : PySem.W.nsIn K mainGlobals "abs" = some none)
    (z_range : PySem.W.nsIn K mainGlobals "range" = some none)
    (z_max : PySem.W.nsIn K mainGlobals "max" = some none)
    (z_min : PySem.W.nsIn K mainGlobals "min" = some none)
    (z_all : PySem.W.nsIn K mainGlobals "all" = some none)
    (z_repr : PySem.W.nsIn K mainGlobals "repr" = some none)
    (z_isinstance : PySem.W.nsIn K mainGlobals "isinstance" = some none)
    (z_bool : PySem.W.nsIn K mainGlobals "bool" = some none)
    (z_str : PySem.W.nsIn K mainGlobals "str" = some none)
    (z_any : PySem.W.nsIn K mainGlobals "any" = some none)
    (pg : PySem.W.plainGet K C Str.empty = true)
    (hd : PySem.W.hasDictIn K C = true)
    (po : PySem.W.plainOver K C = true)
    (sa : PySem.W.findIn K (.ref C) "__setattr__" = some (some (.builtin "object.__setattr__")))
    (mk : PySem.W.makesIn K C = true)
    (kcC : PySem.W.keepIn K (.ref C) = true)
    (nT' : PySem.W.findIn K (.ref C) "_top" = some none)
    (nB' : PySem.W.findIn K (.ref C) "_bottom" = some none)
    (aR : PySem.W.nsIn K mainGlobals "Ratio" = some (some (.ref C)))
    (aG : PySem.W.nsIn K mainGlobals "gcd" = some (some (.builtin "math.gcd")))
    (ca : PySem.W.findIn K (.ref C) "__class__" = some (some (.builtin "object.__class__")))
    (cn : PySem.W.specialIn K (.builtin "object.__class__") "__get__" = some (some (.builtin "getset_descriptor.__get__")))
    (ct' : PySem.W.takesIn K (.builtin "object.__class__") = some true)
    (cm : PySem.W.mroIn K C (.type "object") = some true)
    (sI : PySem.W.subIn K (.ref C) (.type "int") = some false)
    (sB : PySem.W.subIn K (.ref C) (.type "bool") = some false)
    (tyC : PySem.W.typeIn K (.ref C) = some (.type "type"))
    (isC : PySem.W.isClsIn K C = true)
    (sb : PySem.W.subIn K (.type "int") (.ref C) = some false)
    (so : PySem.W.subIn K (.ref C) (.type "object") = some true)
    (ne : PySem.W.findIn K (.ref C) "__ne__" = some (some (.builtin "object.__ne__")))
    (x_n : PySem.W.subIn K (.type "NoneType") (.ref C) = some false)
    (x_s : PySem.W.subIn K (.type "str") (.ref C) = some false)
    (x_t : PySem.W.subIn K (.type "tuple") (.ref C) = some false)
    (x_l : PySem.W.subIn K (.type "list") (.ref C) = some false)
    (x_b : PySem.W.subIn K (.type "bool") (.ref C) = some false)
    : ∃ fd : FuncData, (∀ (s : Shared) (v : Value), BindsTo s fd ⟨[v], []⟩ [("_law_script", v)]) ∧ ∀ base : Heap, K.In base → base.Ns mainGlobals mg → FnG l.prog w K mg base CX0 14 fa fd ["_law_script"] (spLaw K) := by
  have e := hfa.symm.trans (PySem.W.mg_of X G aD10)
  cases e
  have FD0 := fun_mk (st := s_is_whole) lD0 cD0 kD0
  have bD0 := FD0.binds (ps := ["value"]) fun _ _ _ _ _ _ us hl => match us, hl with | [_], _ => rfl
  have gD0 := PySem.W.mg_of X G aD0
  have FD1 := fun_mk (st := s__law_purse) lD1 cD1 kD1
  have bD1 := FD1.binds (ps := ["_law_script"]) fun _ _ _ _ _ _ us hl => match us, hl with | [_], _ => rfl
  have gD1 := PySem.W.mg_of X G aD1
  have FD2 := fun_mk (st := s__law_draw) lD2 cD2 kD2
  have bD2 := FD2.binds (ps := ["_law_q", "_law_many"]) fun _ _ _ _ _ _ us hl => match us, hl with | [_, _], _ => rfl
  have gD2 := PySem.W.mg_of X G aD2
  have FD3 := fun_mk (st := s__law_common) lD3 cD3 kD3
  have bD3 := FD3.binds (ps := ["_law_one", "_law_two"]) fun _ _ _ _ _ _ us hl => match us, hl with | [_, _], _ => rfl
  have gD3 := PySem.W.mg_of X G aD3
  have FD4 := fun_mk (st := s__law_lowest) lD4 cD4 kD4
  have bD4 := FD4.binds (ps := ["_law_high", "_law_under"]) fun _ _ _ _ _ _ us hl => match us, hl with | [_, _], _ => rfl
  have gD4 := PySem.W.mg_of X G aD4
  have FD5 := fun_mk (st := s__law_from) lD5 cD5 kD5
  have bD5 := FD5.binds (ps := ["_law_script", "_law_k"]) fun _ _ _ _ _ _ us hl => match us, hl with | [_, _], _ => rfl
  have gD5 := PySem.W.mg_of X G aD5
  have FD6 := fun_mk (st := s__law_digits) lD6 cD6 kD6
  have bD6 := FD6.binds (ps := ["_law_pair"]) fun _ _ _ _ _ _ us hl => match us, hl with | [_], _ => rfl
  have gD6 := PySem.W.mg_of X G aD6
  have FD7 := fun_mk (st := s__law_small) lD7 cD7 kD7
  have bD7 := FD7.binds (ps := ["_law_q", "_law_most"]) fun _ _ _ _ _ _ us hl => match us, hl with | [_, _], _ => rfl
  have gD7 := PySem.W.mg_of X G aD7
  have FD8 := fun_mk (st := s__law_fits) lD8 cD8 kD8
  have bD8 := FD8.binds (ps := ["_law_one", "_law_pair"]) fun _ _ _ _ _ _ us hl => match us, hl with | [_, _], _ => rfl
  have gD8 := PySem.W.mg_of X G aD8
  have FD9 := fun_mk (st := s__law_right) lD9 cD9 kD9
  have bD9 := FD9.binds (ps := ["_law_q"]) fun _ _ _ _ _ _ us hl => match us, hl with | [_], _ => rfl
  have gD9 := PySem.W.mg_of X G aD9
  have FD10 := fun_mk (st := s_law) lD10 cD10 kD10
  have gD10 := PySem.W.mg_of X G aD10
  have FM0 := fun_mk (st := s_Ratio___eq__) lM0 cM0 kM0
  have bM0 := FM0.binds (ps := ["self", "other"]) fun _ _ _ _ _ _ us hl => match us, hl with | [_, _], _ => rfl
  have FM1 := fun_mk (st := s_Ratio___bool__) lM1 cM1 kM1
  have bM1 := FM1.binds (ps := ["self"]) fun _ _ _ _ _ _ us hl => match us, hl with | [_], _ => rfl
  have FM2 := fun_mk (st := s_Ratio___str__) lM2 cM2 kM2
  have bM2 := FM2.binds (ps := ["self"]) fun _ _ _ _ _ _ us hl => match us, hl with | [_], _ => rfl
  have FM3 := fun_mk (st := s_Ratio___repr__) lM3 cM3 kM3
  have bM3 := FM3.binds (ps := ["self"]) fun _ _ _ _ _ _ us hl => match us, hl with | [_], _ => rfl
  have FP0 := fun_mk (st := s_Ratio_top) lP0 cP0 kP0
  have bP0 := FP0.binds (ps := ["self"]) fun _ _ _ _ _ _ us hl => match us, hl with | [_], _ => rfl
  have pP0' : PropOf K C "top" pP0 fP0 := ⟨aP0, gP0, tP0, _, rP0⟩
  have FP1 := fun_mk (st := s_Ratio_bottom) lP1 cP1 kP1
  have bP1 := FP1.binds (ps := ["self"]) fun _ _ _ _ _ _ us hl => match us, hl with | [_], _ => rfl
  have pP1' : PropOf K C "bottom" pP1 fP1 := ⟨aP1, gP1, tP1, _, rP1⟩
  have FI : FunD K "__init__" "Ratio.__init__" (defArgs s_Ratio___init__) (defBody s_Ratio___init__) (defScope s_Ratio___init__) [.int 1] [] fI _ := ⟨⟨_, _, _, _, _, _, _, _, _, _, rfl, lI, cI, .inr ⟨nofun, tI, oT, [.int 1 kT], nT, rfl, lT, dT, .cons ⟨_, rfl⟩ .nil⟩, .inl rfl⟩, kI⟩
  obtain ⟨ds2, v2, bI2⟩ := FI.binds1 (ps := ["self", "top", "bottom"]) 3 1 nofun rfl fun T kV doc pm an cdv ct us its h1 h2 => match us, its, h1, h2 with | [_, _, _], [_], _, _ => ⟨_, rfl, rfl⟩
  obtain ⟨ds1, v1, bI1⟩ := FI.binds1 (ps := ["self", "top", "bottom"]) 2 0 nofun rfl fun T kV doc pm an cdv ct us its h1 h2 => match us, its, h1, h2 with | [_, _], [_], _, _ => ⟨_, rfl, rfl⟩
  obtain ⟨itTB, kbTB⟩ := FI.kbindsD (ps := ["self", "top", "bottom"]) 1 ["top", "bottom"] (fun us ds ws => us ++ ws) nofun (fun a b c => a.append c) fun T kV doc pm an cdv ct us its ws h1 h2 h3 => match us, its, ws, h1, h2, h3 with | [_], [_], [_, _], _, _, _ => ⟨_, rfl, rfl⟩
  obtain ⟨itBT, kbBT⟩ := FI.kbindsD (ps := ["self", "top", "bottom"]) 1 ["bottom", "top"] (fun us ds ws => us ++ ws.reverse) nofun (fun a b c => a.append (vals_rev c)) fun T kV doc pm an cdv ct us its ws h1 h2 h3 => match us, its, ws, h1, h2, h3 with | [_], [_], [_, _], _, _, _ => ⟨_, rfl, rfl⟩
  obtain ⟨itT, kbT⟩ := FI.kbindsD (ps := ["self", "top", "bottom"]) 1 ["top"] (fun us ds ws => us ++ ws ++ ds) nofun (fun a b c => (a.append c).append b) fun T kV doc pm an cdv ct us its ws h1 h2 h3 => match us, its, ws, h1, h2, h3 with | [_], [_], [_], _, _, _ => ⟨_, rfl, rfl⟩
  refine ⟨PySem.W.fnOf "law" "law" (defArgs s_law) (defBody s_law) (defScope s_law) .none kVD10 dcD10 pmD10 anD10 cdD10 ctD10, fun s v => .of_eq rfl, fun base _ _ => ?_⟩
  have B : Blt mg := ⟨PySem.W.mg_none_of X G z_int, PySem.W.mg_none_of X G z_len, PySem.W.mg_none_of X G z_abs, PySem.W.mg_none_of X G z_range, PySem.W.mg_none_of X G z_max, PySem.W.mg_none_of X G z_min, PySem.W.mg_none_of X G z_all, PySem.W.mg_none_of X G z_repr, PySem.W.mg_none_of X G z_isinstance, PySem.W.mg_none_of X G z_bool, PySem.W.mg_none_of X G z_str, PySem.W.mg_none_of X G z_any⟩
  have R : TxR K mg C := { toBlt := B, cl := ⟨pg, hd, po, sa⟩, nT := nT', nB := nB', g_Ratio := PySem.W.mg_of X G aR, g_gcd := PySem.W.mg_of X G aG, ca := ca, cn := cn, ct := ct', cm := cm, kI := kit_rt (by decide +kernel) sI, kB := kit_rt (by decide +kernel) sB, kC := kit_rr, iC := kit_tr isC tyC sb }
  have O : Others K C := ⟨isC, tyC, sb, x_n, x_s, x_t, x_l, x_b⟩
  have c_whole : CalF l.prog w K mg base _ "is_whole" _ [] := ⟨fD0, _, _, [], ok_whole FD0 B, gD0, kD0, bD0, .nil⟩
  have M : Mk K C fI := ⟨mk, aI, iI, kcC⟩
  have m_rat2 : Rat2C l.prog w K mg base C := ⟨fI, _, _, ds2, M, ok_init FI R c_whole, PySem.W.mg_of X G aR, bI2, v2⟩
  have m_rat1 : Rat1C l.prog w K mg base C := ⟨fI, _, _, ds1, M, ok_init FI R c_whole, PySem.W.mg_of X G aR, bI1, v1⟩
  have m_ratTB : RatTB l.prog w K mg base C := ⟨fI, _, _, _, M, ok_init FI R c_whole, PySem.W.mg_of X G aR, kbTB⟩
  have m_ratBT : RatBT l.prog w K mg base C := ⟨fI, _, _, _, M, ok_init FI R c_whole, PySem.W.mg_of X G aR, kbBT⟩
  have m_ratT : RatT l.prog w K mg base C := ⟨fI, _, _, _, M, ok_init FI R c_whole, PySem.W.mg_of X G aR, kbT⟩
  have o_eq : EqF l.prog w K mg base 2 C _ := ⟨fM0, _, _, ⟨ne, aM0, iM0, so⟩, ok_eq FM0 R, bM0⟩
  have d__str__ : DunF l.prog w K mg base 2 C "__str__" _ := ⟨fM2, _, _, aM2, iM2, ok_str FM2 R, bM2⟩
  have d__repr__ : DunF l.prog w K mg base 2 C "__repr__" _ := ⟨fM3, _, _, aM3, iM3, ok_repr FM3 R, bM3⟩
  have d__bool__ : DunF l.prog w K mg base 2 C "__bool__" _ := ⟨fM1, _, _, aM1, iM1, ok_bool FM1 R, bM1⟩
  have p_top : PropF l.prog w K mg base 2 C "top" _ := ⟨pP0, fP0, _, _, pP0', ok_top FP0 R, bP0⟩
  have p_bottom : PropF l.prog w K mg base 2 C "bottom" _ := ⟨pP1, fP1, _, _, pP1', ok_bottom FP1 R, bP1⟩
  have RC : RatC l.prog w K mg base C := ⟨p_top, p_bottom, d__str__, d__repr__, d__bool__, o_eq⟩
  have c_draw : CalG l.prog w K mg base _ "_law_draw" _ [] := ⟨fD2, _, _, [], ok_draw FD2 B, gD2, kD2, bD2, .nil⟩
  have c_common : CalG l.prog w K mg base _ "_law_common" _ [] := ⟨fD3, _, _, [], ok_common FD3 B, gD3, kD3, bD3, .nil⟩
  have c_lowest : CalG l.prog w K mg base _ "_law_lowest" _ [] := ⟨fD4, _, _, [], ok_lowest FD4 c_common, gD4, kD4, bD4, .nil⟩
  have c_purse : CalG l.prog w K mg base _ "_law_purse" _ [] := ⟨fD1, _, _, [], ok_purse FD1 B, gD1, kD1, bD1, .nil⟩
  have c_from : CalG l.prog w K mg base _ "_law_from" _ [] := ⟨fD5, _, _, [], ok_from FD5 c_purse, gD5, kD5, bD5, .nil⟩
  have c_digits : CalG l.prog w K mg base _ "_law_digits" _ [] := ⟨fD6, _, _, [], ok_digits FD6 B, gD6, kD6, bD6, .nil⟩
  have c_small : CalG l.prog w K mg base _ "_law_small" _ [] := ⟨fD7, _, _, [], ok_small FD7 c_draw, gD7, kD7, bD7, .nil⟩
  have c_fits : CalG l.prog w K mg base _ "_law_fits" _ [] := ⟨fD8, _, _, [], ok_fits FD8 R RC c_digits, gD8, kD8, bD8, .nil⟩
  have c_right : CalG l.prog w K mg base _ "_law_right" _ [] := ⟨fD9, _, _, [], ok_right FD9 R O RC c_draw c_small c_lowest c_digits c_fits m_rat1 m_rat2 m_ratTB m_ratBT m_ratT, gD9, kD9, bD9, .nil⟩
  exact ok_law FD10 R RC m_rat1 m_rat2 c_right c_from
theorem walk {l : PySem.W.OpenLaw} {q : Program} {loose : List Str} {XP : (Str → Option Value) → Heap → Prop} {YP : World → Heap → Prop} {d : DefRec} {K : Params → PySem.W.Frag} (hn : l.most = some 63) (hdf : d.params.defaults = [])
    (hY : ∀ (w : World) (h : Heap), YP w h → (K w.params).In h)
    (F : ∀ (w : World) (mg : Str → Option Value) (fa : Addr) (h : Heap), (K w.params).In h → h.Ns mainGlobals mg → mg d.name = some (.ref fa) →
      ∃ fd : FuncData, (∀ (s : Shared) (u : Value), BindsTo s fd ⟨[u], []⟩ [("_law_script", u)]) ∧ ∀ base : Heap, (K w.params).In base → base.Ns mainGlobals mg → FnG l.prog w (K w.params) mg base CX0 14 fa fd ["_law_script"] (spLaw (K w.params))) :
    PySem.W.WalkO q loose XP YP l.row.toRowW d [] (fun f vs => PySem.call f vs) :=
  walkG (n := 63) (k := 14) (x := "_law_script") (sp := fun w => spLaw (K w.params)) hn (by decide) hdf ⟨rfl, by decide, by decide⟩ hY F (fun _ _ a ns hl _ hS => ⟨a, ns, rfl, hS, hl, fun _ => rfl⟩)
end Lw

open PySem PySem.W PyProof.Rows
set_option maxRecDepth 100000 in
set_option maxHeartbeats 0 in
theorem PySem.Challenge.cw_matrixforms_k02_ratios_in_lowest_terms_holds : PySem.Challenge.rw_matrixforms_k02_ratios_in_lowest_terms.Holds := by
  w_on; o_law; k_head; (case hw => w_witness2)
  k_fill
  refine Lw.walk (l := PySem.Challenge.rw_matrixforms_k02_ratios_in_lowest_terms) rfl rfl (fun w h Y => PySem.W.kIn_of Y) ?F
  case F =>
    intro w mg fa h KX G hmg
    refine' Lw.all_mk KX G hmg ?aD0 ?lD0 ?cD0 ?kD0 ?aD1 ?lD1 ?cD1 ?kD1 ?aD2 ?lD2 ?cD2 ?kD2 ?aD3 ?lD3 ?cD3 ?kD3 ?aD4 ?lD4 ?cD4 ?kD4 ?aD5 ?lD5 ?cD5 ?kD5 ?aD6 ?lD6 ?cD6 ?kD6 ?aD7 ?lD7 ?cD7 ?kD7 ?aD8 ?lD8 ?cD8 ?kD8 ?aD9 ?lD9 ?cD9 ?kD9 ?aD10 ?lD10 ?cD10 ?kD10 ?aM0 ?iM0 ?lM0 ?cM0 ?kM0 ?aM1 ?iM1 ?lM1 ?cM1 ?kM1 ?aM2 ?iM2 ?lM2 ?cM2 ?kM2 ?aM3 ?iM3 ?lM3 ?cM3 ?kM3 ?aP0 ?gP0 ?tP0 ?rP0 ?lP0 ?cP0 ?kP0 ?aP1 ?gP1 ?tP1 ?rP1 ?lP1 ?cP1 ?kP1 ?aI ?iI ?lI ?cI ?kI ?lT ?dT ?z_int ?z_len ?z_abs ?z_range ?z_max ?z_min ?z_all ?z_repr ?z_isinstance ?z_bool ?z_str ?z_any ?pg ?hd ?po ?sa ?mk ?kcC ?nT' ?nB' ?aR ?aG ?ca ?cn ?ct' ?cm ?sI ?sB ?tyC ?isC ?sb ?so ?ne ?x_n ?x_s ?x_t ?x_l ?x_b
    (case aR => k_is)
    (case aD0 => k_is)
    (case lD0 => k_is)
    (case cD0 => k_is)
    (case kD0 => k_is)
    (case aD1 => k_is)
    (case lD1 => k_is)
    (case cD1 => k_is)
    (case kD1 => k_is)
    (case aD2 => k_is)
    (case lD2 => k_is)
    (case cD2 => k_is)
    (case kD2 => k_is)
    (case aD3 => k_is)
    (case lD3 => k_is)
    (case cD3 => k_is)
    (case kD3 => k_is)
    (case aD4 => k_is)
    (case lD4 => k_is)
    (case cD4 => k_is)
    (case kD4 => k_is)
    (case aD5 => k_is)
    (case lD5 => k_is)
    (case cD5 => k_is)
    (case kD5 => k_is)
    (case aD6 => k_is)
    (case lD6 => k_is)
    (case cD6 => k_is)
    (case kD6 => k_is)
    (case aD7 => k_is)
    (case lD7 => k_is)
    (case cD7 => k_is)
    (case kD7 => k_is)
    (case aD8 => k_is)
    (case lD8 => k_is)
    (case cD8 => k_is)
    (case kD8 => k_is)
    (case aD9 => k_is)
    (case lD9 => k_is)
    (case cD9 => k_is)
    (case kD9 => k_is)
    (case aD10 => k_is)
    (case lD10 => k_is)
    (case cD10 => k_is)
    (case kD10 => k_is)
    (case aM0 => k_is)
    (case iM0 => k_is)
    (case lM0 => k_is)
    (case cM0 => k_is)
    (case kM0 => k_is)
    (case aM1 => k_is)
    (case iM1 => k_is)
    (case lM1 => k_is)
    (case cM1 => k_is)
    (case kM1 => k_is)
    (case aM2 => k_is)
    (case iM2 => k_is)
    (case lM2 => k_is)
    (case cM2 => k_is)
    (case kM2 => k_is)
    (case aM3 => k_is)
    (case iM3 => k_is)
    (case lM3 => k_is)
    (case cM3 => k_is)
    (case kM3 => k_is)
    (case aP0 => k_is)
    (case gP0 => k_is)
    (case tP0 => k_is)
    (case rP0 => k_is)
    (case lP0 => k_is)
    (case cP0 => k_is)
    (case kP0 => k_is)
    (case aP1 => k_is)
    (case gP1 => k_is)
    (case tP1 => k_is)
    (case rP1 => k_is)
    (case lP1 => k_is)
    (case cP1 => k_is)
    (case kP1 => k_is)
    (case aI => k_is)
    (case iI => k_is)
    (case lI => k_is)
    (case cI => k_is)
    (case kI => k_is)
    (case lT => k_is)
    (case dT => rfl)
    (case z_int => k_is)
    (case z_len => k_is)
    (case z_abs => k_is)
    (case z_range => k_is)
    (case z_max => k_is)
    (case z_min => k_is)
    (case z_all => k_is)
    (case z_repr => k_is)
    (case z_isinstance => k_is)
    (case z_bool => k_is)
    (case z_str => k_is)
    (case z_any => k_is)
    (case pg => k_is)
    (case hd => k_is)
    (case po => k_is)
    (case sa => k_is)
    (case mk => k_is)
    (case kcC => k_is)
    (case nT' => k_is)
    (case nB' => k_is)
    (case aG => k_is)
    (case ca => k_is)
    (case cn => k_is)
    (case ct' => k_is)
    (case cm => k_is)
    (case sI => k_is)
    (case sB => k_is)
    (case tyC => k_is)
    (case isC => k_is)
    (case sb => k_is)
    (case so => k_is)
    (case ne => k_is)
    (case x_n => k_is)
    (case x_s => k_is)
    (case x_t => k_is)
    (case x_l => k_is)
    (case x_b => k_is)


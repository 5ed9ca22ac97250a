import PyProof.Rows.All
import Wide.All
import OpenK.AllK
import Wide.FinOn
import HandS.ForMost
import HandS.Wide
import HandS.Gcd
import HandS.IsInst
import HandS.Property
import HandS.OwnEq
import KE.KOpsOwn
import PyProof.ReprRoads
import HandS.Codes
import HandS.Defaults
import HandS.MakeKwOnly
import HandS.Style
import PyProof.Rows.SortStrRead
import PyProof.Rows.ReprOcc
import PyProof.ReprLen
import PyProof.P3Eq
import PySem.Challenge.RW_matrixforms_k03_ratio_operators
set_option Elab.async false
set_option linter.all false
set_option maxRecDepth 100000
set_option maxHeartbeats 8000000
/-! A layer over L2 in which it is known that no guarded builtin (repr of a container) is running around. -/
namespace MG
open PySem PySem.Spec PyProof.Rows L2

/-- nothing guarded runs around -/
def Bare (A : Around) : Prop := A.guards = some []

/-- as FnOk, called only where nothing guarded runs around -/
structure FnG (P : Program) (w : World) (K : PySem.W.Frag) (mg : Str → Option Value) (base : Heap) (CX : CXT) (k : Nat)
    (f : Addr) (fd : FuncData) (ps : List Str) (sp : Sp) : Prop where
  len : ∀ vs H Q E, sp vs H Q E → vs.length = ps.length
  run : ∀ (A : Around) (outer : List Env) (s : Shared) (H : Hp) (args : Args) (us : List Value) (vs : List V) (Q : VK) (E : XK),
    Bare A → Room k A → Env0 P w K mg base A outer s H → BindsTo s fd args (ps.zip us) → Vals vs us → sp vs H Q E →
      codeAny (model P w) A (.call (.ref f) args) (CR CX outer P w H s Q E) s

section
variable {P : Program} {w : World} {K : PySem.W.Frag} {mg : Str → Option Value} {base : Heap} {CX : CXT} {k : Nat} {f : Addr}
theorem FnG.of {fd : FuncData} {ps : List Str} {sp : Sp} (F : FnOk P w K mg base CX k f fd ps sp) : FnG P w K mg base CX k f fd ps sp :=
  ⟨F.len, fun A outer s H args us vs Q E _ => F.run A outer s H args us vs Q E⟩

theorem fnG_of {name qual : Str} {params : Arguments} {body : List Stmt} {scope : Scope} {dV kV doc pm cdv ct oc : Value} {an od : Option Addr}
    {osl : Array (Option Value)} {N ps : List Str} {sp : Sp}
    (lk : K.lookup f = some ⟨oc, od, .func (PySem.W.fnOf name qual params body scope dV kV doc pm an cdv ct), osl⟩)
    (hcd : PySem.W.codeIn K cdv qual = true) (S : FnScope N ps scope) (len : ∀ vs H Q E, sp vs H Q E → vs.length = ps.length)
    (hbody : ∀ (A : Around) (outer : List Env) (s : Shared) (H : Hp) (vs : List V) (Q : VK) (E : XK), Bare A →
      Room k (A.deeper (envOfC qual scope s.heap.objs.size f cdv)) → sp vs H Q E →
      ∃ t, PSs (cxOf CX P w K mg base N qual scope f cdv A outer s H E) body t ∧ t { nx := fun _ H' => Q .non H', rt := Q } (start N vs) H) :
    FnG P w K mg base CX (k + 1) f (PySem.W.fnOf name qual params body scope dV kV doc pm an cdv ct) ps sp := by
  refine ⟨len, ?_⟩
  intro A outer s H args us vs Q E bare hr e0 hb r hsp
  have hl := len _ _ _ _ hsp
  have inK : K.In s.heap := e0.mod.kin.keeps (fun b o e => (e0.bs b o e).left)
  have free : s.heap.NoLimit := e0.mod.nolimit.keeps (fun b o e => (e0.bs b o e).left)
  refine codeAny_call_function hr.depth (inK _ _ lk) rfl S.co S.gen rfl (PySem.W.codeRec_of inK hcd) (hb _ _ _ _ ?_)
  have kinds : ∀ y ∈ ps.zip us, scope.names.lookup y.1 = some .local ∨
      (scope.names.lookup y.1 = some .cell ∧ ((cellsFrom (s.heap.objs.size + 1) scope.names []).lookup y.1).isSome = true) := by
    rintro ⟨n, v⟩ hy
    exact (S.par n (List.of_mem_zip hy).left).imp id fun q => ⟨q, PySem.W.cellsFrom_some _ _ _ (.inl q)⟩
  refine wpAny_newFunctionEnv_cells S.kind kinds ?_
  intro env he s1 x
  subst he
  refine ⟨free.keeps x.toInCall.keep, codeAny_func ?_⟩
  obtain ⟨t, ht, hq⟩ := hbody A outer s H vs Q E bare (hr.deeper _) hsp
  have I := inv_start (CX := CX) (E := E) S hr.hd e0 hl r x
  refine wpAny_mono (ht.run [] s1 (start N vs) H _ I hq) ?_ (fun e s' hs => hs)
  intro fl s' hs
  match fl, hs with
  | .ret u, ⟨v, σ', H', J, rv, q⟩ => exact ⟨v, H', J.os, J.bare, J.base, J.hok, rv, q⟩
  | .next, ⟨σ', H', J, q⟩ => exact ⟨V.non, H', J.os, J.bare, J.base, J.hok, rfl, q⟩
  | .brk, ⟨_, _, _, q⟩ => exact False.elim q
  | .cont, ⟨_, _, _, q⟩ => exact False.elim q
end

section
variable {X : Cx} {CX : CXT} {k : Nat} {f C : Addr} {fd : FuncData} {ps : List Str} {sp : Sp} {dvs : List V} {ds : List Value} {E : XK} {x m : Str} {p pos apos : Pos} {e o : Expr} {es : List Expr} {ta : TE} {t : TA}
variable {pins : List (Addr × Obj)} {σ : L2.St} {H : Hp} {s : Shared}
theorem run_fnG {Q : VK} {us : List Value} {vs : List V} (F : FnG X.prog X.w X.K X.mg X.base CX k f fd ps sp) (bare : Bare X.A) (hr : Room k X.A)
    (hb : Binds X.K fd ps ds) (hd : Vals dvs ds) (hx : Passes CX X E) (I : Inv X pins σ H s) (r : Vals vs us) (h : sp (vs ++ dvs) H Q E) :
    wpAny (model X.prog X.w) X.A (call (.ref f) us) (EP X pins σ Q) X.xe s := by
  have r2 := r.append hd
  have hl : (us ++ ds).length = ps.length := r2.length.symm.trans (F.len _ _ _ _ h)
  refine wpAny_call (codeAny_mono (F.run X.A X.stack s H ⟨us, []⟩ _ _ Q E bare hr I.env0 (hb s us I.kIn hl) r2 h) ?_)
  intro r s' hq
  match r, hq with
  | .error e, hq => exact hx pins σ H s e s' I hq
  | .ok (.ret u), hq => exact I.after hq
  | .ok .next, hq => exact False.elim hq
  | .ok .brk, hq => exact False.elim hq
  | .ok .cont, hq => exact False.elim hq

theorem pe_callG (F : FnG X.prog X.w X.K X.mg X.base CX k f fd ps sp) (bare : Bare X.A) (hr : Room k X.A) (hg : Gl X x) (hm : X.mg x = some (.ref f))
    (hk : PySem.W.keepIn X.K (.ref f) = true) (hb : Binds X.K fd ps ds) (hd : Vals dvs ds) (hx : Passes CX X E) (ha : PA X (e :: es) t)
    (hdb : (x == ("__debug__" : Str)) = false := by decide)
    (he : starEach (e :: es) X.env = (false, eval e X.env) :: starEach es X.env := by rfl)
    (hpl : (backTo pos (starEach es X.env)).any (·.1) = false := by rfl) : PE X (.Call (.Name x p) (e :: es) [] pos) (tCall sp dvs E t) := by
  constructor
  intro pins s σ H Q I h
  refine wpAny_Call_Name_kw (ld_glob I hg hm ?_ hdb)
  refine PySem.W.callWith_K (h₀ := X.base) I.ok.mod.kin hk (thn (ha.run pos pins s σ H _ I h) ?_) he hpl
  rintro us s1 ⟨vs, H1, I1, r, q⟩
  exact ⟨I1.kIn, run_fnG F bare hr hb hd hx I1 r q⟩
end

/-- the law's call at the heap behind the top, H being what is tracked there: at most the script -/
theorem enterG {P : Program} {w : World} {K : PySem.W.Frag} {mg mb : Str → Option Value} {k : Nat} {fa a : Addr} {fd : FuncData} {x : Str} {sp : Sp}
    {s₁ : Shared} {vs : List Value} {ns : List Int} {H : Hp}
    (KX : K.In s₁.heap) (hns : s₁.heap.Ns mainGlobals mg) (hb : s₁.heap.Ns builtinsNs mb) (hbb : ∀ x : Str, x ≠ "__name__" → mb x = bootBuiltins x)
    (hlim : s₁.heap.NoLimit) (hg : s₁.gens = #[]) (ha : s₁.heap.get? a = some { cls := .type "list", data := .seq vs.toArray })
    (hr : Room k callerA) (F : ∀ base : Heap, K.In base → base.Ns mainGlobals mg → FnG P w K mg base CX0 k fa fd [x] sp)
    (hbind : ∀ (s : Shared) (u : Value), BindsTo s fd ⟨[u], []⟩ [(x, u)])
    (hO : Only H) (hok : HOk P w H s₁.heap) (hA : ∀ b, H b ≠ none → b = a) (hK : H a ≠ none → K.lookup a = none)
    (hsp : sp [.ref a] H (fun v _ => v = .bl true) fun _ _ _ => False) :
    codeAny (model P w) callerA (.call (.ref fa) ⟨[.ref a], []⟩)
      (fun r s' => r = .ok (.ret (.bool true)) ∧ OldK s₁.heap s'.heap ∧ s'.os = s₁.os ∧ AllBare s'.gens) s₁ := by
  have untr : ∀ {b : Addr}, (b = a → False) → H b = none := fun {b} hne => by
    cases q : H b with
    | none => rfl
    | some u => exact (hne (hA b (by rw [q]; exact Option.some_ne_none u))).elim
  have ns' : ∀ {b : Addr} {m : Str → Option Value}, s₁.heap.Ns b m → (hidT s₁.heap H).Ns b m := by
    rintro b m ⟨o, es, ep, e, d, r⟩
    refine ⟨o, es, ep, hidT_get e (untr fun z => ?_), d, r⟩
    subst z
    have e' := e.symm.trans ha
    cases e'
    cases d
  have inB : K.In (hidT s₁.heap H) := fun b o e => hidT_get (KX b o e) (by
    by_cases z : b = a
    · subst z
      cases q : H b with
      | none => rfl
      | some u =>
        have e2 := hK (by rw [q]; exact Option.some_ne_none u)
        exact nomatch e.symm.trans e2
    · exact untr z)
  have M : Mod K mg (hidT s₁.heap H) := by
    refine ⟨inB, ns' hns, ⟨mb, ns' hb, hbb⟩, ?_⟩
    obtain ⟨mc, h1, h2⟩ := hlim
    exact ⟨mc, ns' h1, h2⟩
  have env : Env0 P w K mg (hidT s₁.heap H) callerA [] s₁ H :=
    { frames := rfl, mod := M, bs := fun b o e => of_hidT e, bsz := Nat.le_of_eq (hidT_size _ _), funs := trivial,
      frf := (fun b z => nomatch (show b ∈ ([] : List Addr) from z)), hok := hok, bare := .of_eq hg }
  refine codeAny_mono ((F _ inB (ns' hns)).run callerA [] s₁ H ⟨[.ref a], []⟩ [.ref a] [.ref a] _ _ rfl hr env (hbind s₁ (.ref a)) (.cons rfl .nil) hsp) ?_
  intro r s' h
  match r, h with
  | .error e, h => exact False.elim h
  | .ok .next, h => exact False.elim h
  | .ok .brk, h => exact False.elim h
  | .ok .cont, h => exact False.elim h
  | .ok (.ret u), ⟨v, H', os, bare, un, hok', rv, hv⟩ =>
    have hv' : v = .bl true := hv
    subst hv'
    have hu : u = Value.bool true := rv
    subst hu
    refine ⟨rfl, OldK.of_keep ?_, os, bare⟩
    intro b o e
    cases q : H b with
    | none => exact un.keep b o e q (fun z => by cases z) (by simp)
    | some t =>
      obtain ⟨ob, xs, z⟩ := (hO b).resolve_left (by rw [q]; exact Option.some_ne_none t)
      have o1 : s₁.heap.get? b = some ob := (hok b _ z).left
      have o2 : s'.heap.get? b = some ob := (hok' b _ (un.frzs b ob _ z)).left
      rw [o2]
      exact o1.symm.trans e

theorem callG {P : Program} {w : World} {K : PySem.W.Frag} {mg mb : Str → Option Value} {k : Nat} {fa a : Addr} {fd : FuncData} {x : Str} {sp : Sp}
    {s₁ : Shared} {vs : List Value} {ns : List Int}
    (KX : K.In s₁.heap) (hns : s₁.heap.Ns mainGlobals mg) (hb : s₁.heap.Ns builtinsNs mb) (hbb : ∀ x : Str, x ≠ "__name__" → mb x = bootBuiltins x)
    (hlim : s₁.heap.NoLimit) (hg : s₁.gens = #[]) (ha : s₁.heap.get? a = some { cls := .type "list", data := .seq vs.toArray }) (hi : IntsAre vs ns)
    (hl : ns.length ≤ sizeLine) (hr : Room k callerA) (F : ∀ base : Heap, K.In base → base.Ns mainGlobals mg → FnG P w K mg base CX0 k fa fd [x] sp)
    (hbind : ∀ (s : Shared) (u : Value), BindsTo s fd ⟨[u], []⟩ [(x, u)])
    (hsp : ∀ H : Hp, Only H → SqL K H a (ns.map V.int) → sp [.ref a] H (fun v _ => v = .bl true) fun _ _ _ => False) :
    codeAny (model P w) callerA (.call (.ref fa) ⟨[.ref a], []⟩)
      (fun r s' => r = .ok (.ret (.bool true)) ∧ OldK s₁.heap s'.heap ∧ s'.os = s₁.os ∧ AllBare s'.gens) s₁ := by
  have rv := vals_ints hi
  have lv := hi.length
  by_cases hk : K.lookup a = none
  · let H0 : Hp := upd (fun _ => none) a (.frz { cls := .type "list", data := .seq vs.toArray } (.lst (ns.map V.int)))
    have h0 : ∀ b, b ≠ a → H0 b = none := fun b z => upd_ne z
    have h1 : H0 a = some (.frz { cls := .type "list", data := .seq vs.toArray } (.lst (ns.map V.int))) := upd_same
    have O : Only H0 := fun b => by
      by_cases z : b = a
      · rw [z]
        exact .inr ⟨_, _, h1⟩
      · exact .inl (h0 b z)
    refine enterG (ns := ns) KX hns hb hbb hlim hg ha hr F hbind O (fun b u z => ?_) (fun b z => ?_) (fun _ => hk) (hsp _ O (.inl (.inr ⟨_, h1⟩)))
    · by_cases hba : b = a
      · subst hba
        cases h1.symm.trans z
        exact ⟨ha, by rw [List.length_map]; exact hl, vs, _, rv, ha⟩
      · exact nomatch (h0 b hba).symm.trans z
    · by_cases hba : b = a
      · exact hba
      · exact (z (h0 b hba)).elim
  · obtain ⟨o, e⟩ := Option.ne_none_iff_exists'.mp hk
    have e2 := (KX a o e).symm.trans ha
    cases e2
    have O : Only (fun _ => none) := fun _ => .inl rfl
    refine enterG (ns := ns) KX hns hb hbb hlim hg ha hr F hbind O (fun b u z => nomatch z) (fun b z => (z rfl).elim) (fun z => (z rfl).elim) (hsp _ O (.inr ?_))
    exact ⟨_, vs.toArray, _, e, rfl, rfl, rfl, by rw [List.size_toArray, lv]; exact hl, by simpa using rv⟩

theorem walkG {l : PySem.W.OpenLaw} {n k : Nat} {q : Program} {loose : List Str} {XP : (Str → Option Value) → Heap → Prop} {YP : World → Heap → Prop} {d : DefRec}
    {K : Params → PySem.W.Frag} {sp : World → Sp} {x : Str} (hn : l.most = some n) (hn2 : n ≤ sizeLine) (hdf : d.params.defaults = []) (hr : Room k callerA)
    (hY : ∀ (w : World) (h : Heap), YP w h → (K w.params).In h)
    (F : ∀ (w : World) (mg : Str → Option Value) (fa : Addr) (h : Heap), (K w.params).In h → h.Ns mainGlobals mg → mg d.name = some (.ref fa) →
      ∃ fd : FuncData, (∀ (s : Shared) (u : Value), BindsTo s fd ⟨[u], []⟩ [(x, u)]) ∧
        ∀ base : Heap, (K w.params).In base → base.Ns mainGlobals mg → FnG l.prog w (K w.params) mg base CX0 k fa fd [x] (sp w))
    (hsp : ∀ (w : World) (H : Hp) (a : Addr) (ns : List Int), ns.length ≤ n → Only H → SqL (K w.params) H a (ns.map V.int) →
      sp w [.ref a] H (fun v _ => v = .bl true) fun _ _ _ => False) :
    PySem.W.WalkO q loose XP YP l.row.toRowW d [] (fun f vs => PySem.call f vs) := by
  refine Att.attach_call hn hdf ?_
  intro w s₀ s₁ mg mb fa o pm cd doc a vs ns G Y ho hd hcd hmg hobj hints hlen hg
  have inK := hY w _ Y
  obtain ⟨fd, hb, hF⟩ := F w mg fa _ inK G.T.g hmg
  exact callG inK G.T.g G.T.b G.T.builtins G.T.nolimit hg hobj hints (Nat.le_trans hlen hn2) hr hF hb fun H hO hS => hsp w H a ns hlen hO hS
end MG

/-! Further rules: operators of own classes, repr of data, // of any sign -/
namespace MG
open PySem PySem.Spec PyProof.Rows L2

section
variable {X : Cx}
/-- // by any divisor but 0 -/
theorem op_fdivZ : OpR X (binaryOp .FloorDiv) (rI (fun _ j => j ≠ 0 ∧ j.natAbs.log2 < 9000) fun i j => .int (i.fdiv j)) :=
  opI fun _ _ _ _ _ _ _ hc q => floordiv_int hc.1 q (.inl (PyProof.noPylong_of_log2 hc.2))

theorem rel_ni {v : V} (r : RelV v Value.notImplemented) : False := by
  cases v with
  | non => cases (show Value.notImplemented = Value.none from r)
  | bl b => cases (show Value.notImplemented = Value.bool b from r)
  | int i => obtain ⟨_, q⟩ := (show ∃ t, Value.notImplemented = Value.int i t from r); cases q
  | str i => obtain ⟨_, q⟩ := (show ∃ t, Value.notImplemented = Value.str i t from r); cases q
  | byt i => obtain ⟨_, q⟩ := (show ∃ t, Value.notImplemented = Value.bytes i t from r); cases q
  | flt i => obtain ⟨_, q⟩ := (show ∃ t, Value.notImplemented = Value.float i t from r); cases q
  | ref i => cases (show Value.notImplemented = Value.ref i from r)
  | ty i => cases (show Value.notImplemented = Value.type i from r)
theorem back_of {Q : Value → Shared → Prop} {v : V} {u : Value} {s : Shared} (r : RelV v u) (q : Q u s) : PySem.W.CmpBack Q u s := by
  cases u <;> first | exact q | exact (rel_ni r).elim

/-- what the top says of an operator's method of an own class -/
structure OpAt (K : PySem.W.Frag) (C : Addr) (op : Operator) (f : Addr) : Prop where
  first : PySem.W.selfFirst K C = true
  at_ : PySem.W.findIn K (.ref C) (PySem.dunder op.info.2) = some (some (.ref f))
  fn : PySem.W.isFn K (.ref f) = true
  ref : PySem.W.findIn K (.ref C) (dunderR op.info.2) = some none
structure OpInt (K : PySem.W.Frag) (C : Addr) (op : Operator) : Prop where
  to : ∃ fo, PySem.W.findIn K (.type "int") (PySem.dunder op.info.2) = some fo
  ro : ∃ ro, PySem.W.findIn K (.type "int") (dunderR op.info.2) = some ro
  sub : PySem.W.subIn K (.type "int") (.ref C) = some false

/-- x op y, x of the class at C, y of it too or an int -/
def rOwn (C : Addr) (sp : Sp) (E : XK) : R2 := fun x y H Q => ∃ a dx fs, x = .ref a ∧ H a = some (.ins C dx fs) ∧
  ((∃ b dy gs, y = .ref b ∧ H b = some (.ins C dy gs)) ∨ ∃ i, y = .int i) ∧ sp [x, y] H Q E
theorem op_own {CX : CXT} {k : Nat} {C f : Addr} {op : Operator} {fd : FuncData} {ps : List Str} {sp : Sp} {E : XK}
    (o : OpAt X.K C op f) (oi : OpInt X.K C op) (F : FnOk X.prog X.w X.K X.mg X.base CX k f fd ps sp) (hr : Room k X.A)
    (hb : Binds X.K fd ps []) (hx : Passes CX X E) : OpR X (binaryOp op) (rOwn C sp E) := by
  intro pins s σ H x y v u Q I rx ry h
  obtain ⟨a, dx, fs, rfl, ha, hy, hsp⟩ := h
  cases rx
  obtain ⟨mA, J, _⟩ := ins_get I.hok ha
  obtain ⟨od, J, _⟩ := J.look
  obtain ⟨m, hF⟩ := I.fr
  have call1 : wpAny (model X.prog X.w) X.A (call (.ref f) [.ref a, u]) (PySem.W.CmpBack (EP X pins σ Q)) X.xe s :=
    wpAny_mono (run_fn (vs := [.ref a, y]) F hr hb .nil hx I (.cons rfl (.cons ry .nil)) (by rw [List.append_nil]; exact hsp))
      (fun _ _ hq => match hq with | ⟨_, _, _, r, _⟩ => back_of r hq) fun _ _ e => e
  rcases hy with ⟨b, dy, gs, rfl, hb'⟩ | ⟨i, rfl⟩
  · cases ry
    obtain ⟨mB, J', _⟩ := ins_get I.hok hb'
    obtain ⟨od', J', _⟩ := J'.look
    exact PySem.W.binop_K hF I.ok.mod.kin J J'.type o.first o.at_ o.fn call1
  · obtain ⟨t, rfl⟩ := ry
    obtain ⟨fo, h1⟩ := oi.to
    obtain ⟨ro, h2⟩ := oi.ro
    exact PySem.W.ksp_binT hF I.ok.mod.kin J (T := "int") rfl o.first o.at_ o.fn o.ref (.inl rfl) h1 h2 oi.sub call1

/-- -x of an own class -/
def rNegO (C : Addr) (sp : Sp) (E : XK) : V → Hp → VK → Prop := fun x H Q => ∃ a dx fs, x = .ref a ∧ H a = some (.ins C dx fs) ∧ sp [x] H Q E
theorem un_negO {CX : CXT} {k : Nat} {C f : Addr} {fd : FuncData} {ps : List Str} {sp : Sp} {E : XK}
    (at_ : PySem.W.findIn X.K (.ref C) "__neg__" = some (some (.ref f))) (fn : PySem.W.isFn X.K (.ref f) = true)
    (F : FnOk X.prog X.w X.K X.mg X.base CX k f fd ps sp) (hr : Room k X.A) (hb : Binds X.K fd ps []) (hx : Passes CX X E) :
    UnR X (unaryOp .USub) (rNegO C sp E) := by
  intro pins s σ H x v Q I rx h
  obtain ⟨a, dx, fs, rfl, ha, hsp⟩ := h
  cases rx
  obtain ⟨mA, J, _⟩ := ins_get I.hok ha
  obtain ⟨od, J, _⟩ := J.look
  obtain ⟨m, hF⟩ := I.fr
  exact PySem.W.ksp_neg hF I.ok.mod.kin J at_ fn (run_fn (vs := [.ref a]) F hr hb .nil hx I (.cons rfl .nil) (by rw [List.append_nil]; exact hsp))

/-- x == y, x of the class at C with its own ==, y of it too -/
def rEqO (C : Addr) (sp : Sp) (E : XK) : R2 := fun x y H Q => ∃ a dx fs b dy gs, x = .ref a ∧ H a = some (.ins C dx fs) ∧ y = .ref b ∧ H b = some (.ins C dy gs) ∧ sp [x, y] H Q E
theorem op_eqO {CX : CXT} {k : Nat} {C f : Addr} {fd : FuncData} {ps : List Str} {sp : Sp} {E : XK}
    (at_ : PySem.W.findIn X.K (.ref C) "__eq__" = some (some (.ref f))) (fn : PySem.W.isFn X.K (.ref f) = true)
    (F : FnOk X.prog X.w X.K X.mg X.base CX k f fd ps sp) (hr : Room k X.A) (hb : Binds X.K fd ps []) (hx : Passes CX X E) :
    OpR X (compareOp .Eq) (rEqO C sp E) := by
  intro pins s σ H x y v u Q I rx ry h
  obtain ⟨a, dx, fs, b, dy, gs, rfl, ha, rfl, hb', hsp⟩ := h
  cases rx
  cases ry
  obtain ⟨mA, J, _⟩ := ins_get I.hok ha
  obtain ⟨od, J, _⟩ := J.look
  obtain ⟨mB, J', _⟩ := ins_get I.hok hb'
  obtain ⟨od', J', _⟩ := J'.look
  obtain ⟨m, hF⟩ := I.fr
  refine PySem.W.cmp_K (op := .Eq) (tb := .ref C) hr.units0 hF I.ok.mod.kin J J'.type (by simp [PySem.W.notFirst]) at_ fn ?_
  exact wpAny_mono (run_fn (vs := [.ref a, .ref b]) F hr hb .nil hx I (.cons rfl (.cons rfl .nil)) (by rw [List.append_nil]; exact hsp))
    (fun _ _ hq => match hq with | ⟨_, _, _, r, _⟩ => back_of r hq) fun _ _ e => e
end
end MG

namespace MG
open PySem PySem.Spec PyProof.Rows L2 PySem.Calls

section
variable {prog : Program} {w : World} {A : Around} {E : Value → Shared → Prop} {s : Shared} {K : PySem.W.Frag} {x y C L f : Addr} {h₀ : Heap} {m : Str → Option Value} {ox oy : Obj} {od oe : Option Obj}

theorem objNe_run (X : K.In s.heap) (I : PySem.W.InstAt s.heap x ox C od) (hs : PySem.W.findIn K (.ref C) "__eq__" = some (some (.ref f))) (hf : PySem.W.isFn K (.ref f) = true)
    (hu : A.units < cLine) {Q : Fin → Shared → Prop}
    (hcall : wpAny (model prog w) A (call (.ref f) [.ref x, .ref y]) (fun v s' => ∃ b, v = .bool b ∧ Q (.done (.ret (.bool (!b)))) s') E s) :
    wpAny (model prog w) A (Builtin.«object.__ne__» ⟨[.ref x, .ref y], []⟩) Q E s := by
  unfold Builtin.«object.__ne__»
  repeat (first
    | with_reducible refine wpAny_cRoomFor hu ?_
    | (refine wpAny_bind (m := callSpecialIfBound? (.ref x) (Str.ofString "__eq__") [.ref y])
        (PySem.W.ifBound_K X I hs hf (wpAny_mono hcall (fun r s' hr => ?_) fun _ _ e => e)))
    | wp_step)
  obtain ⟨b, rfl, hq⟩ := hr
  repeat (first | exact hq | exact wpAny_pure hq | exact wpAny_truthy_bool hq | (refine wpAny_bind (m := truthy (.bool _)) (wpAny_truthy_bool ?_)) | wp_step)

theorem ifBound_ne (X : K.In s.heap) (I : PySem.W.InstAt s.heap x ox C od) (hn : PySem.W.findIn K (.ref C) "__ne__" = some (some (.builtin "object.__ne__")))
    {args : List Value} {Q : Option Value → Shared → Prop}
    (h : wpAny (model prog w) A (call (.builtin "object.__ne__") (.ref x :: args)) (fun v => Q (some v)) E s) :
    wpAny (model prog w) A (callSpecialIfBound? (.ref x) "__ne__" args) Q E s := by
  have S : Slot "object" "__ne__" "object.__ne__" := PySem.F.cmp_object.ne
  have hb := S.bind
  simp only [callSpecialIfBound?, bindSpecialIfBound?]
  refine wpAny_holding (wpAny_bind (wpAny_bind (wpAny_bind (I.type.here ((PySem.W.looks_findIn X hn).here ?_)))))
  simp only [hb]
  refine wpAny_bind (wpAny_askSetting (wpAny_ite ?_))
  have fin : wpAny (model prog w) A (call (.builtin "object.__ne__") ([.ref x] ++ args) >>= fun v => pure (some v)) Q E s :=
    wpAny_bind (wpAny_mono h (fun v s' h' => wpAny_pure h') fun _ _ h' => h')
  split
  · exact wpAny_bind (wpAny_pure (wpAny_pure fin))
  · exact wpAny_tryCatch (wpAny_bind (wpAny_pure (wpAny_pure fin)))

theorem ne_K (X : K.In s.heap) (I : PySem.W.InstAt s.heap x ox C od) (I' : PySem.W.InstAt s.heap y oy C oe)
    (hn : PySem.W.findIn K (.ref C) "__ne__" = some (some (.builtin "object.__ne__"))) (hs : PySem.W.findIn K (.ref C) "__eq__" = some (some (.ref f)))
    (hf : PySem.W.isFn K (.ref f) = true) (ho : PySem.W.subIn K (.ref C) (.type "object") = some true) (hu : A.units + 1 < cLine) {Q : Value → Shared → Prop}
    (hcall : wpAny (model prog w) A.in1 (call (.ref f) [.ref x, .ref y]) (fun v s' => ∃ b, v = .bool b ∧ Q (.bool (!b)) s') E s) :
    wpAny (model prog w) A (richCompare .NotEq (.ref x) (.ref y)) Q E s := by
  have sub : PySem.W.Looks (model prog w) s.heap (isInstance (.ref x) (.type "object")) true := I.type.andThen (PySem.W.looks_subIn X ho)
  have one : wpAny (model prog w) A (tryCompare (.ref x) "__ne__" (.ref y)) (fun r s' => ∃ v, r = some v ∧ Q v s') E s := by
    simp only [tryCompare]
    refine wpAny_bind (ifBound_ne X I hn (wpAny_call (codeAny_call_builtin PySem.F.cmp_object.ne.plain PySem.F.cmpEntry_ne
      (PySem.W.check_slot PySem.F.cmpKind_ne PySem.F.cmpSplit_ne sub (PySem.F.cmpArgs_ne _ _) ?_))))
    refine objNe_run (A := A.in1) X I hs hf hu (wpAny_mono hcall (fun v s' hv => ?_) fun _ _ e => e)
    obtain ⟨b, rfl, hq⟩ := hv
    first | exact ⟨b, rfl, wpAny_pure ⟨_, rfl, hq⟩⟩ | exact ⟨b, rfl, wpAny_pure (wpAny_pure ⟨_, rfl, hq⟩)⟩ | exact ⟨b, rfl, _, rfl, hq⟩
  unfold richCompare
  simp only [oneThing_ref]
  refine wpAny_holding (wpAny_bind (wpAny_cRoomFor (Nat.lt_of_succ_lt hu) ?_))
  refine wpAny_bind (I.type.here (wpAny_bind (I'.type.here ?_)))
  rw [show (Value.ref C != Value.ref C) = false from by simp]
  simp only [Bool.false_eq_true, if_false]
  refine wpAny_bind (wpAny_pure ?_)
  simp only [Bool.false_eq_true, if_false]
  refine wpAny_bind (wpAny_mono one (fun v s' hv => ?_) fun _ _ e => e)
  obtain ⟨b, rfl, hq⟩ := hv
  exact wpAny_pure hq
end

section
variable {X : Cx}
structure NeAt (K : PySem.W.Frag) (C f : Addr) : Prop where
  ne : PySem.W.findIn K (.ref C) "__ne__" = some (some (.builtin "object.__ne__"))
  eq : PySem.W.findIn K (.ref C) "__eq__" = some (some (.ref f))
  fn : PySem.W.isFn K (.ref f) = true
  sub : PySem.W.subIn K (.ref C) (.type "object") = some true
def rNeO (C : Addr) (sp : Sp) (E : XK) : R2 := fun x y H Q => ∃ a dx fs b dy gs, x = .ref a ∧ H a = some (.ins C dx fs) ∧ y = .ref b ∧ H b = some (.ins C dy gs) ∧
  sp [x, y] H (fun v H' => ∃ c, v = .bl c ∧ Q (.bl (!c)) H') E
theorem op_neO {CX : CXT} {k : Nat} {C f : Addr} {fd : FuncData} {ps : List Str} {sp : Sp} {E : XK} (n : NeAt X.K C f)
    (F : FnOk X.prog X.w X.K X.mg X.base CX k f fd ps sp) (hr : Room (k + 1) X.A) (hb : Binds X.K fd ps []) (hx : Passes CX X E) :
    OpR X (compareOp .NotEq) (rNeO C sp E) := by
  intro pins s σ H x y v u Q I rx ry h
  obtain ⟨a, dx, fs, b, dy, gs, rfl, ha, rfl, hb', hsp⟩ := h
  cases rx
  cases ry
  obtain ⟨mA, J, _⟩ := ins_get I.hok ha
  obtain ⟨od, J, _⟩ := J.look
  obtain ⟨mB, J', _⟩ := ins_get I.hok hb'
  obtain ⟨od', J', _⟩ := J'.look
  refine ne_K I.kIn J J' n.ne n.eq n.fn n.sub (Nat.lt_trans (by omega) hr.un) ?_
  have hl := F.len _ _ _ _ hsp
  refine wpAny_call (codeAny_mono (F.run X.A.in1 X.stack s H ⟨[.ref a, .ref b], []⟩ [.ref a, .ref b] [.ref a, .ref b] _ E hr.in1 I.env0.in1 (by
    have := hb s [.ref a, .ref b] I.kIn (by simpa using hl)
    simpa using this) (.cons rfl (.cons rfl .nil)) hsp) fun r s' hq => ?_)
  match r, hq with
  | .error e, hq => exact hx pins σ H s e s' I hq
  | .ok (.ret z), hq =>
    obtain ⟨v, H', I', rv, c, rfl, q⟩ := I.after hq
    cases rv
    exact ⟨c, rfl, .bl (!c), H', I', rfl, q⟩
  | .ok .next, hq => exact False.elim hq
  | .ok .brk, hq => exact False.elim hq
  | .ok .cont, hq => exact False.elim hq

/-- repr(x) of data: None, bools, ints, texts, lists, tuples -/
def rRepr (K : PySem.W.Frag) : List V → Hp → VK → Prop := fun xs H Q => ∃ x d, xs = [x] ∧ Dp K H x d ∧ d.showable = true ∧ d.hasDict = false ∧ d.depth ≤ 60 ∧ d.shown.length ≤ sizeLine ∧ Q (.str d.shown) H
theorem call_reprD (bare : Bare X.A) (hu : X.A.units + 64 < cLine) : CallR X (.builtin "repr") (rRepr X.K) := by
  intro pins s σ H xs us Q I r h
  obtain ⟨x, d, rfl, hd, hs, hdict, hdep, hz, q⟩ := h
  cases r with
  | cons rx rn =>
    cases rn
    rename_i u
    obtain ⟨as, R⟩ := Dp.reads I d x u hd rx
    have leaf : ∀ (k : Nat), EP X pins σ Q (.str d.shown k) { s with toks := s.toks + 1 } := fun k => ⟨.str _, H, I.tok _, ⟨_, rfl⟩, q⟩
    cases R with
    | none => exact PySem.P.repr_of_none (leaf _)
    | bool b => exact PySem.P.repr_of_bool (leaf _)
    | int i t => exact PySem.P.repr_of_int (by simpa [PyData.showable] using hs) (leaf _)
    | str z t => exact PySem.P.repr_of_str (leaf _) hz
    | list h1 h2 h3 h4 => exact repr_of_reads' (.list h1 h2 h3 h4) hs (fun z => by rw [hdict] at z; cases z) bare (by omega) (fun _ _ e => e) (fun h' u tk k => ⟨.str _, H, I.kept k, ⟨_, rfl⟩, q⟩) hz
    | tuple h1 h2 h3 h4 => exact repr_of_reads' (.tuple h1 h2 h3 h4) hs (fun z => by rw [hdict] at z; cases z) bare (by omega) (fun _ _ e => e) (fun h' u tk k => ⟨.str _, H, I.kept k, ⟨_, rfl⟩, q⟩) hz
    | dict h1 h2 h3 h4 h5 => exact absurd hd nofun
end
end MG

/-! Defs as callers know them -/
namespace MG
open PySem PySem.Spec PyProof.Rows L2

/-- a def of the module that lets nothing out, as callers know it -/
structure CalG (P : Program) (w : World) (K : PySem.W.Frag) (mg : Str → Option Value) (base : Heap) (k : Nat) (x : Str) (sp : Sp) (dvs : List V) : Prop where
  ex : ∃ (f : Addr) (fd : FuncData) (ps : List Str) (ds : List Value), FnG P w K mg base CX0 k f fd ps sp ∧ mg x = some (.ref f) ∧ PySem.W.keepIn K (.ref f) = true ∧ Binds K fd ps ds ∧ Vals dvs ds
theorem pe_cg {X : Cx} {k j : Nat} {x : Str} {sp : Sp} {dvs : List V} {p pos : Pos} {e : Expr} {es : List Expr} {t : TA}
    (c : CalG X.prog X.w X.K X.mg X.base k x sp dvs) (bare : Bare X.A) (hr : Room j X.A) (hk : k ≤ j) (hg : Gl X x) (ha : PA X (e :: es) t)
    (hdb : (x == ("__debug__" : Str)) = false := by decide)
    (he : starEach (e :: es) X.env = (false, eval e X.env) :: starEach es X.env := by rfl)
    (hpl : (backTo pos (starEach es X.env)).any (·.1) = false := by rfl) : PE X (.Call (.Name x p) (e :: es) [] pos) (tCall sp dvs E0 t) := by
  obtain ⟨f, fd, ps, ds, F, hm, kp, b, d⟩ := c.ex
  exact pe_callG F bare (hr.mono hk) hg hm kp b d pass0 ha hdb he hpl

section
variable {P : Program} {w : World} {K : PySem.W.Frag} {mg : Str → Option Value} {base : Heap}
/-- its body, as a term of rules, and the reading of that term -/
theorem fun_okG {x qual : Str} {st : Stmt} {f : Addr} {fd : FuncData} {N ps : List Str} {k : Nat} {sp : Sp} (F : Fun K x qual st f fd) (S : FnScope N ps (defScope st)) (len : ∀ vs H Q E, sp vs H Q E → vs.length = ps.length)
    (hbody : ∀ (cdv : Value) (A : Around) (outer : List Env) (s : Shared) (H : Hp) (vs : List V) (Q : VK) (E : XK), Bare (A.deeper (envOfC qual (defScope st) s.heap.objs.size f cdv)) →
      Room k (A.deeper (envOfC qual (defScope st) s.heap.objs.size f cdv)) → sp vs H Q E →
      ∃ t, PSs (cxOf CX0 P w K mg base N qual (defScope st) f cdv A outer s H E).nox (defBody st) t ∧ t { nx := fun _ H' => Q .non H', rt := Q } (start N vs) H) : FnG P w K mg base CX0 (k + 1) f fd ps sp := by
  obtain ⟨oc, od, kV, doc, pm, an, cdv, ct, osl, rfl, lk, hcd⟩ := F.ex
  refine fnG_of lk hcd S len ?_
  intro A outer s H vs Q E bare hr hsp
  obtain ⟨t, h, q⟩ := hbody cdv A outer s H vs Q E bare hr hsp
  exact ⟨t, h.nox, q⟩
theorem calG_of {x qual : Str} {st : Stmt} {f : Addr} {fd : FuncData} {N ps : List Str} {k : Nat} {sp : Sp} (F : Fun K x qual st f fd) (hm : mg x = some (.ref f)) (b : Binds K fd ps []) (S : FnScope N ps (defScope st)) (len : ∀ vs H Q E, sp vs H Q E → vs.length = ps.length)
    (hbody : ∀ (cdv : Value) (A : Around) (outer : List Env) (s : Shared) (H : Hp) (vs : List V) (Q : VK) (E : XK), Bare (A.deeper (envOfC qual (defScope st) s.heap.objs.size f cdv)) →
      Room k (A.deeper (envOfC qual (defScope st) s.heap.objs.size f cdv)) → sp vs H Q E →
      ∃ t, PSs (cxOf CX0 P w K mg base N qual (defScope st) f cdv A outer s H E).nox (defBody st) t ∧ t { nx := fun _ H' => Q .non H', rt := Q } (start N vs) H) : CalG P w K mg base (k + 1) x sp [] :=
  ⟨f, fd, ps, [], fun_okG F S len hbody, hm, F.kp, b, .nil⟩
end

/-- the same where nothing need be known of what runs around -/
structure CalF (P : Program) (w : World) (K : PySem.W.Frag) (mg : Str → Option Value) (base : Heap) (k : Nat) (x : Str) (sp : Sp) (dvs : List V) : Prop where
  ex : ∃ (f : Addr) (fd : FuncData) (ps : List Str) (ds : List Value), FnOk P w K mg base CX0 k f fd ps sp ∧ mg x = some (.ref f) ∧ PySem.W.keepIn K (.ref f) = true ∧ Binds K fd ps ds ∧ Vals dvs ds
theorem pe_cf {X : Cx} {k j : Nat} {x : Str} {sp : Sp} {dvs : List V} {p pos : Pos} {e : Expr} {es : List Expr} {t : TA}
    (c : CalF X.prog X.w X.K X.mg X.base k x sp dvs) (hr : Room j X.A) (hk : k ≤ j) (hg : Gl X x) (ha : PA X (e :: es) t)
    (hdb : (x == ("__debug__" : Str)) = false := by decide)
    (he : starEach (e :: es) X.env = (false, eval e X.env) :: starEach es X.env := by rfl)
    (hpl : (backTo pos (starEach es X.env)).any (·.1) = false := by rfl) : PE X (.Call (.Name x p) (e :: es) [] pos) (tCall sp dvs E0 t) := by
  obtain ⟨f, fd, ps, ds, F, hm, kp, b, d⟩ := c.ex
  exact pe_call F (hr.mono hk) hg hm kp b d pass0 ha hdb he hpl
/-- a class that may be made by its name; sp: its __init__ -/
structure MakF (P : Program) (w : World) (K : PySem.W.Frag) (mg : Str → Option Value) (base : Heap) (k : Nat) (x : Str) (C : Addr) (sp : Sp) (dvs : List V) : Prop where
  ex : ∃ (f : Addr) (fd : FuncData) (ps : List Str) (ds : List Value), Mk K C f ∧ FnOk P w K mg base CX0 k f fd ps sp ∧ mg x = some (.ref C) ∧ Binds K fd ps ds ∧ Vals dvs ds
theorem pe_mkf {X : Cx} {k j : Nat} {x : Str} {C : Addr} {sp : Sp} {dvs : List V} {p pos : Pos} {e : Expr} {es : List Expr} {t : TA}
    (c : MakF X.prog X.w X.K X.mg X.base k x C sp dvs) (hr : Room j X.A) (hk : k + 1 ≤ j) (hg : Gl X x) (ha : PA X (e :: es) t)
    (hdb : (x == ("__debug__" : Str)) = false := by decide)
    (he : starEach (e :: es) X.env = (false, eval e X.env) :: starEach es X.env := by rfl)
    (hpl : (backTo pos (starEach es X.env)).any (·.1) = false := by rfl) : PE X (.Call (.Name x p) (e :: es) [] pos) (tMake C sp dvs E0 t) := by
  obtain ⟨f, fd, ps, ds, M, F, hm, b, d⟩ := c.ex
  exact pe_make M F (hr.mono hk) hg hm b d pass0 ha hdb he hpl
/-- one value by place, one by name -/
def one1 {α : Type} : List α → List α → List α
  | [a], [b] => [a, b]
  | _, _ => []
/-- o.m(k = v, ..) -/
def tMethK (C : Addr) (m : Str) (sp : Sp) (gV : List V → List V → List V) (E : XK) (ta : TE) (tk : TA) : TE := fun σ H Q => ta σ H fun x H1 =>
  ∃ a dx fs, x = .ref a ∧ H1 a = some (.ins C dx fs) ∧ fs.lookup m = none ∧ tk σ H1 fun zs H2 => sp (gV [x] zs) H2 Q E
theorem pe_methK0 {X : Cx} {CX : CXT} {k : Nat} {f C : Addr} {fd : FuncData} {ps ks : List Str} {sp : Sp} {E : XK} {m : Str} {pos apos : Pos} {o : Expr} {kws : List Keyword} {ta : TE} {tk : TA}
    {g : List Value → List Value → List Value} {gV : List V → List V → List V} {pl : Sem Bool}
    (he : PE X o ta) (c : Cls X.K C) (hm : Meth X.K C m f) (F : FnOk X.prog X.w X.K X.mg X.base CX k f fd ps sp) (hr : Room k X.A) (hb : KBinds X.K fd ps ks g gV) (hx : Passes CX X E) (hkw : PK X kws tk)
    (hall : (backToKw pos (keywordEach kws X.env)).all (·.1.isSome) = true := by rfl) (hks : (backToKw pos (keywordEach kws X.env)).filterMap (·.1) = ks := by rfl)
    (hpl : ((backTo pos (starEach [] X.env)).any (·.1) || (backToKw pos (keywordEach kws X.env)).any (·.1.isNone)) = false := by rfl)
    (ht : eval (.Call (.Attribute o m apos) [] kws pos) X.env = (do
      let ov ← eval o X.env
      standAt apos.atName
      let (f, first) ← holding [ov] (getMethod ov m pl)
      callWith pos f first (backTo pos (starEach [] X.env)) (backToKw pos (keywordEach kws X.env))) := by rfl) :
    PE X (.Call (.Attribute o m apos) [] kws pos) (tMethK C m sp gV E ta tk) := by
  constructor
  intro pins s σ H Q I h
  refine PySem.W.methodCall_KW (pl := pl) (thn (he.run pins s σ H _ I h) ?_) ht
  rintro u s1 ⟨x, H1, I1, rx, a, dx, fs, ex, ea, l, q⟩
  subst ex
  have eu : u = Value.ref a := rx
  subst eu
  refine getmeth_ok I1 ea c hm l ?_
  refine PySem.W.callWith_KW0 (h₀ := X.base) I.ok.mod.kin hm.kp hall (thn (hkw.run pos pins s1 σ H1 _ I1 q) ?_) hpl
  rintro ws s2 ⟨zs, H2, I2, rz, q2⟩
  refine ⟨I2.kIn, ?_⟩
  rw [hks]
  exact run_fnk (us := [.ref a]) (vs := [.ref a]) F hr hb hx I2 (.cons rfl .nil) rz q2

/-! ### operators, properties and methods of a class, as callers know them -/
section
variable (P : Program) (w : World) (K : PySem.W.Frag) (mg : Str → Option Value) (base : Heap) (k : Nat) (C : Addr)
structure OpF (op : Operator) (sp : Sp) : Prop where
  ex : ∃ (f : Addr) (fd : FuncData) (ps : List Str), OpAt K C op f ∧ OpInt K C op ∧ FnOk P w K mg base CX0 k f fd ps sp ∧ Binds K fd ps []
structure NegF (sp : Sp) : Prop where
  ex : ∃ (f : Addr) (fd : FuncData) (ps : List Str), PySem.W.findIn K (.ref C) "__neg__" = some (some (.ref f)) ∧ PySem.W.isFn K (.ref f) = true ∧ FnOk P w K mg base CX0 k f fd ps sp ∧ Binds K fd ps []
structure EqF (sp : Sp) : Prop where
  ex : ∃ (f : Addr) (fd : FuncData) (ps : List Str), NeAt K C f ∧ FnOk P w K mg base CX0 k f fd ps sp ∧ Binds K fd ps []
structure PropF (x : Str) (sp : Sp) : Prop where
  ex : ∃ (p g : Addr) (fd : FuncData) (ps : List Str), PropOf K C x p g ∧ FnOk P w K mg base CX0 k g fd ps sp ∧ Binds K fd ps []
structure MetF (m : Str) (sp : Sp) (dvs : List V) : Prop where
  ex : ∃ (f : Addr) (fd : FuncData) (ps : List Str) (ds : List Value), Meth K C m f ∧ FnOk P w K mg base CX0 k f fd ps sp ∧ Binds K fd ps ds ∧ Vals dvs ds
structure MetK (m : Str) (sp : Sp) (ks : List Str) (gV : List V → List V → List V) : Prop where
  ex : ∃ (f : Addr) (fd : FuncData) (ps : List Str) (g : List Value → List Value → List Value), Meth K C m f ∧ FnOk P w K mg base CX0 k f fd ps sp ∧ KBinds K fd ps ks g gV
end
section
variable {X : Cx} {k j : Nat} {C : Addr} {sp : Sp} {op : Operator}
theorem op_f (o : OpF X.prog X.w X.K X.mg X.base k C op sp) (hr : Room j X.A) (hk : k ≤ j) : OpR X (binaryOp op) (rOwn C sp E0) := by
  obtain ⟨f, fd, ps, a, i, F, b⟩ := o.ex
  exact op_own a i F (hr.mono hk) b pass0
theorem un_f (o : NegF X.prog X.w X.K X.mg X.base k C sp) (hr : Room j X.A) (hk : k ≤ j) : UnR X (unaryOp .USub) (rNegO C sp E0) := by
  obtain ⟨f, fd, ps, a, i, F, b⟩ := o.ex
  exact un_negO a i F (hr.mono hk) b pass0
theorem eq_f (o : EqF X.prog X.w X.K X.mg X.base k C sp) (hr : Room j X.A) (hk : k ≤ j) : OpR X (compareOp .Eq) (rEqO C sp E0) := by
  obtain ⟨f, fd, ps, n, F, b⟩ := o.ex
  exact op_eqO n.eq n.fn F (hr.mono hk) b pass0
theorem ne_f (o : EqF X.prog X.w X.K X.mg X.base k C sp) (hr : Room j X.A) (hk : k + 1 ≤ j) : OpR X (compareOp .NotEq) (rNeO C sp E0) := by
  obtain ⟨f, fd, ps, n, F, b⟩ := o.ex
  exact op_neO n F (hr.mono hk) b pass0
theorem pe_pf {x : Str} {e : Expr} {pos : Pos} {ta : TE} (o : PropF X.prog X.w X.K X.mg X.base k C x sp) (c : Cls X.K C) (hr : Room j X.A) (hk : k + 1 ≤ j) (he : PE X e ta)
    (hab : attributeBase e x X.env (eval e X.env) = eval e X.env) : PE X (.Attribute e x pos) (tProp C sp [] E0 ta) := by
  obtain ⟨p, g, fd, ps, hp, F, b⟩ := o.ex
  exact pe_prop he c hp F (hr.mono hk) b .nil pass0 hab
theorem pe_mf {m : Str} {pos apos : Pos} {o : Expr} {e : Expr} {es : List Expr} {dvs : List V} {ta : TE} {t : TA} {pl : Sem Bool} (c : MetF X.prog X.w X.K X.mg X.base k C m sp dvs) (cl : Cls X.K C) (hr : Room j X.A) (hk : k ≤ j) (he : PE X o ta) (ha : PA X (e :: es) t)
    (hst : starEach (e :: es) X.env = (false, eval e X.env) :: starEach es X.env := by rfl) (hpl : (backTo pos (starEach es X.env)).any (·.1) = false := by rfl)
    (ht : eval (.Call (.Attribute o m apos) (e :: es) [] pos) X.env = (do
      let ov ← eval o X.env
      standAt apos.atName
      let (f, first) ← holding [ov] (getMethod ov m pl)
      callWith pos f first (backTo pos (starEach (e :: es) X.env)) (backToKw pos (keywordEach [] X.env))) := by rfl) :
    PE X (.Call (.Attribute o m apos) (e :: es) [] pos) (tMeth C m sp dvs E0 ta t) := by
  obtain ⟨f, fd, ps, ds, M, F, b, d⟩ := c.ex
  exact pe_meth (pl := pl) he cl M F (hr.mono hk) b d pass0 ha hst hpl ht
end
/-! ### joining the ways -/
/-- what holds of the value is said once for all ways -/
def tCut (te : TE) : TE := fun σ H Q => ∃ C : VK, te σ H C ∧ ∀ v H', C v H' → Q v H'
theorem pe_cut {X : Cx} {e : Expr} {te : TE} (h : PE X e te) : PE X e (tCut te) := by
  constructor
  rintro pins s σ H Q I ⟨C, h1, h2⟩
  refine wpAny_mono (h.run pins s σ H C I h1) ?_ fun _ _ z => z
  rintro u s' ⟨v, H', J, r, q⟩
  exact ⟨v, H', J, r, h2 v H' q⟩
/-- what holds behind a statement is said once for all ways -/
def tCutS (ts : TS) : TS := fun D σ H => ∃ C : L2.St → Hp → Prop, ts { D with nx := C } σ H ∧ ∀ σ' H', C σ' H' → D.nx σ' H'
theorem ps_cut {X : Cx} {st : Stmt} {ts : TS} (h : PS X st ts) : PS X st (tCutS ts) := by
  constructor
  rintro pins s σ H D I ⟨C, h1, h2⟩
  refine wpAny_mono (h.run pins s σ H { D with nx := C } I h1) ?_ fun _ _ z => z
  intro f s' q
  cases f with
  | next =>
    obtain ⟨σ', H', J, q⟩ := q
    exact ⟨σ', H', J, h2 σ' H' q⟩
  | ret u => exact q
  | brk => exact q
  | cont => exact q

/-! ### isinstance, from what the top says -/
theorem kit_rt {K : PySem.W.Frag} {C : Addr} {T : String} {b : Bool} (hm : PySem.W.kitMeta T = true) (h : PySem.W.subIn K (.ref C) (.type T) = some b) : PySem.W.kitOne K (.ref C) (.type T) = some b := by
  have e : (Value.ref C == Value.type T) = false := beq_eq_false_iff_ne.mpr nofun
  unfold PySem.W.kitOne
  rw [e]
  show (if PySem.W.kitMeta T = true then PySem.W.subIn K (.ref C) (.type T) else none) = some b
  rw [if_pos hm, h]
theorem kit_tr {K : PySem.W.Frag} {C : Addr} {T : String} {b : Bool} (h1 : PySem.W.isClsIn K C = true) (h2 : PySem.W.typeIn K (.ref C) = some (.type "type")) (h : PySem.W.subIn K (.type T) (.ref C) = some b) : PySem.W.kitOne K (.type T) (.ref C) = some b := by
  have e : (Value.type T == Value.ref C) = false := beq_eq_false_iff_ne.mpr nofun
  unfold PySem.W.kitOne
  rw [e]
  show (if ((PySem.W.clsIn K C).isSome && PySem.W.typeIn K (.ref C) == some (.type "type")) = true then PySem.W.subIn K (.type T) (.ref C) else none) = some b
  have h1' : (PySem.W.clsIn K C).isSome = true := h1
  rw [h1', h2, if_pos (by simp), h]
theorem kit_rr {K : PySem.W.Frag} {C : Addr} : PySem.W.kitOne K (.ref C) (.ref C) = some true := by
  unfold PySem.W.kitOne
  rw [if_pos (by simp)]

/-! ### comprehensions, item by item -/
theorem pe_imp {X : Cx} {e : Expr} {t t' : TE} (h : PE X e t) (hi : ∀ σ H Q, t' σ H Q → t σ H Q) : PE X e t' :=
  ⟨fun pins s σ H Q I q => h.run pins s σ H Q I (hi σ H Q q)⟩
theorem ps_imp {X : Cx} {st : Stmt} {t t' : TS} (h : PS X st t) (hi : ∀ D σ H, t' D σ H → t D σ H) : PS X st t' :=
  ⟨fun pins s σ H D I q => h.run pins s σ H D I (hi D σ H q)⟩
/-- [e for x in l], x in slot j: ys are the items of the new list -/
def tMapL (K : PySem.W.Frag) (j : Nat) (tl te : TE) : TE := fun σ H Q => tl σ H fun x H1 => ∃ a xs ys, x = .ref a ∧ SqL K H1 a xs ∧ ys.length = xs.length ∧ xs.length ≤ 100000 ∧
  (∀ (i : Nat) (x y : V) (H' : Hp), xs[i]? = some x → ys[i]? = some y → Same H1 H' → te ((σ.set j none).set j (some x)) H' fun v H'' => v = y ∧ Same H' H'') ∧
  ∀ D H', Same H1 H' → H1 D = none → H' D = some (.lst ys) → Q (.ref D) H'
/-- the same over range(..) -/
def tMapR (j : Nat) (ta : TA) (te : TE) : TE := fun σ H Q => ta σ H fun vs H1 => ∃ (m : Int) (ys : List V), vs = [.int m] ∧ 0 ≤ m ∧ m ≤ 100000 ∧ (ys.length : Int) = m ∧
  (∀ (i : Nat) (y : V) (H' : Hp), ys[i]? = some y → Same H1 H' → te ((σ.set j none).set j (some (.int i))) H' fun v H'' => v = y ∧ Same H' H'') ∧
  ∀ D H', Same H1 H' → H1 D = none → H' D = some (.lst ys) → Q (.ref D) H'
theorem take_one {α : Type} {l : List α} {i : Nat} {x : α} (h : l[i]? = some x) : l.take (i + 1) = l.take i ++ [x] := by
  rw [List.take_succ, h]
  rfl
theorem wipe_one {σ : L2.St} {j : Nat} {x : V} : wipe ((wipe σ [j]).set j (some x)) [j] = wipe σ [j] := by
  show (((σ.set j none).set j (some x)).set j none) = σ.set j none
  rw [List.set_set, List.set_set]
theorem map_core {K : PySem.W.Frag} {te : TE} (mono : ∀ σ H Q Q', (∀ v H', Q v H' → Q' v H') → te σ H Q → te σ H Q') {j : Nat} {σ : L2.St} {H1 : Hp} {Q : VK} {a : Addr} {xs ys : List V} (hl : SqL K H1 a xs) (hn : ys.length = xs.length) (hs : xs.length ≤ 100000)
    (he : ∀ (i : Nat) (x y : V) (H' : Hp), xs[i]? = some x → ys[i]? = some y → Same H1 H' → te ((σ.set j none).set j (some x)) H' fun v H'' => v = y ∧ Same H' H'')
    (k : ∀ D H', Same H1 H' → H1 D = none → H' D = some (.lst ys) → Q (.ref D) H') :
    tLc (fun _ H R => R (Itl K a) H) (gName j) tYes te [j] σ H1 Q := by
  intro D hD
  refine lc_list (K := K) (a := a) (xs := xs) (fun i H' => Same H1 H' ∧ H' D = some (.lst (ys.take i))) ⟨fun c u h => by rw [upd_ne (ne_of_none h hD)]; exact h, upd_same⟩ (fun i H' _ h => h.1.seq hl) ?_ ?_
  · rintro i x H' hi ⟨s, e⟩
    have hi2 : i < xs.length := (List.getElem?_eq_some_iff.mp hi).1
    have hy : ys[i]? = some ys[i] := List.getElem?_eq_getElem (by omega)
    refine ⟨wipe_one, mono _ _ _ _ ?_ (he i x _ H' hi hy s)⟩
    rintro v H2 ⟨rfl, s2⟩
    refine ⟨_, s2 _ _ e, ?_, ?_, ?_⟩
    · rw [List.length_take]
      exact Nat.lt_of_le_of_lt (m := 100000) (by omega) (by decide)
    · intro c o hc
      rw [upd_ne (ne_of_none hc hD)]
      exact s2 _ _ (s _ _ hc)
    · rw [upd_same, take_one hy]
  · rintro H' ⟨s, e⟩
    rw [← hn, List.take_length] at e
    exact k D H' s hD e
theorem tCut_mono {te : TE} : ∀ σ H (Q Q' : VK), (∀ v H', Q v H' → Q' v H') → tCut te σ H Q → tCut te σ H Q' :=
  fun _ _ _ _ hq ⟨C, h1, h2⟩ => ⟨C, h1, fun v H' c => hq v H' (h2 v H' c)⟩
theorem tl_core {K : PySem.W.Frag} {tl te : TE} {j : Nat} {σ : L2.St} {H : Hp} {Q : VK} (q : tMapL K j tl te σ H Q) : tLc (iList K (tCut tl)) (gName j) tYes (tCut te) [j] σ H Q := by
  refine ⟨_, q, ?_⟩
  rintro v H1 ⟨a, xs, ys, rfl, hl, hn, hs, he, k⟩
  exact ⟨a, rfl, ⟨_, hl⟩, map_core tCut_mono hl hn hs (fun i x y H' h1 h2 h3 => ⟨_, he i x y H' h1 h2 h3, fun _ _ c => c⟩) k⟩
theorem pe_map {X : Cx} {K : PySem.W.Frag} {e : Expr} {tl te : TE} {j : Nat} (h : PE X e (tLc (iList K (tCut tl)) (gName j) tYes (tCut te) [j])) : PE X e (tMapL K j tl te) :=
  pe_imp h fun _ _ _ => tl_core
theorem ps_map {X : Cx} {K : PySem.W.Frag} {st : Stmt} {tl te : TE} {j i : Nat} (h : PS X st (tAsg (tLc (iList K (tCut tl)) (gName j) tYes (tCut te) [j]) (gName i))) : PS X st (tAsg (tMapL K j tl te) (gName i)) :=
  ps_imp h fun _ _ _ => tl_core
/-- arguments, cut -/
def tCutA (ta : TA) : TA := fun σ H Q => ∃ C : List V → Hp → Prop, ta σ H C ∧ ∀ vs H', C vs H' → Q vs H'
theorem map_coreR {te : TE} {j : Nat} {σ : L2.St} {H1 : Hp} {Q : VK} {m : Nat} {ys : List V} (hn : ys.length = m) (hs : m ≤ 100000)
    (he : ∀ (i : Nat) (y : V) (H' : Hp), ys[i]? = some y → Same H1 H' → te ((σ.set j none).set j (some (.int i))) H' fun v H'' => v = y ∧ Same H' H'')
    (k : ∀ D H', Same H1 H' → H1 D = none → H' D = some (.lst ys) → Q (.ref D) H') :
    tLc (fun _ H R => R (Itr 0 m) H) (gName j) tYes (tCut te) [j] σ H1 Q := by
  intro D hD
  refine lc_range (lo := 0) (n := m) (fun i H' => Same H1 H' ∧ H' D = some (.lst (ys.take i))) ⟨fun c u h => by rw [upd_ne (ne_of_none h hD)]; exact h, upd_same⟩ ?_ ?_
  · rintro i H' hi ⟨s, e⟩
    have hy : ys[i]? = some ys[i] := List.getElem?_eq_getElem (by omega)
    have e0 : (0 : Int) + (i : Int) = i := Int.zero_add _
    rw [e0]
    refine ⟨wipe_one, _, he i _ H' hy s, ?_⟩
    rintro v H2 ⟨rfl, s2⟩
    refine ⟨_, s2 _ _ e, ?_, ?_, ?_⟩
    · rw [List.length_take]
      exact Nat.lt_of_le_of_lt (m := 100000) (by omega) (by decide)
    · intro c o hc
      rw [upd_ne (ne_of_none hc hD)]
      exact s2 _ _ (s _ _ hc)
    · rw [upd_same, take_one hy]
  · rintro H' ⟨s, e⟩
    rw [← hn, List.take_length] at e
    exact k D H' s hD e
theorem pe_mapR {X : Cx} {e : Expr} {ta : TA} {te : TE} {j : Nat} (mono : ∀ σ H (Q Q' : List V → Hp → Prop), (∀ v H', Q v H' → Q' v H') → ta σ H Q → ta σ H Q')
    (h : PE X e (tLc (iRng1 ta) (gName j) tYes (tCut te) [j])) : PE X e (tMapR j ta te) := by
  refine pe_imp h fun σ H Q q => ?_
  refine mono σ H _ _ ?_ q
  rintro vs H1 ⟨m, ys, rfl, h0, hm, hn, he, k⟩
  exact ⟨m, rfl, by omega, by omega, map_coreR (by omega) (by omega) he k⟩

/-! ### within a comprehension: the written part by its name -/
theorem call_reprK {X : Cx} {K : PySem.W.Frag} (bare : Bare X.A) (hu : X.A.units + 64 < cLine) (hK : X.K = K := by rfl) : CallR X (.builtin "repr") (rRepr K) := hK ▸ call_reprD bare hu
theorem ix_listK {X : Cx} {K : PySem.W.Frag} (hK : X.K = K := by rfl) : IxR X (rIxL K) := hK ▸ ix_list
theorem ix_tupK {X : Cx} {K : PySem.W.Frag} (hK : X.K = K := by rfl) : IxR X (rIxT K) := hK ▸ ix_tup
theorem call_isiK {X : Cx} {K : PySem.W.Frag} (hK : X.K = K := by rfl) : CallR X (.builtin "isinstance") (rIsi K) := hK ▸ call_isi

/-! ### heaps: all that was tracked stays, but for the list at q -/
def Keep (q : Addr) (H H' : Hp) : Prop := ∀ b o, H b = some o → b ≠ q → H' b = some o
theorem Keep.refl {q : Addr} {H : Hp} : Keep q H H := fun _ _ h _ => h
theorem Keep.trans {q : Addr} {H H1 H2 : Hp} (a : Keep q H H1) (b : Keep q H1 H2) : Keep q H H2 := fun c o h n => b c o (a c o h n) n
theorem Keep.upd {q : Addr} {H H' : Hp} {o : HO} (a : Keep q H H') : Keep q H (L2.upd H' q o) := fun c u h n => by rw [upd_ne n]; exact a c u h n
theorem Keep.new {q p : Addr} {H H' : Hp} {o : HO} (a : Keep q H H') (hp : H' p = none) : Keep q H (L2.upd H' p o) := fun c u h n => by
  have e := a c u h n
  rw [upd_ne (ne_of_none e hp)]
  exact e
theorem Keep.same {q : Addr} {H H1 H2 : Hp} (a : Keep q H H1) (b : Same H1 H2) : Keep q H H2 := fun c o h n => b c o (a c o h n)
theorem Same.keep {q : Addr} {H H' : Hp} (a : Same H H') : Keep q H H' := fun c o h _ => a c o h
theorem Same.new {p : Addr} {H H' : Hp} {o : HO} (a : Same H H') (hp : H' p = none) : Same H (L2.upd H' p o) := fun c u h => by
  have e := a c u h
  rw [upd_ne (ne_of_none e hp)]
  exact e
theorem Keep.toSame {q : Addr} {H H' : Hp} (a : Keep q H H') (hq : H q = none) : Same H H' := fun c o h => a c o h (ne_of_none h hq)
theorem Keep.free {q p : Addr} {H H' : Hp} (a : Keep q H H') (hne : p ≠ q) (h : H' p = none) : H p = none := by
  cases e : H p with
  | none => rfl
  | some o => exact nomatch h.symm.trans (a p o e hne)
theorem pe_mk_ {X : Cx} {k j : Nat} {C : Addr} {sp : Sp} {m : Str} {pos apos : Pos} {o : Expr} {kws : List Keyword} {ks : List Str} {gV : List V → List V → List V} {ta : TE} {tk : TA} {pl : Sem Bool}
    (c : MetK X.prog X.w X.K X.mg X.base k C m sp ks gV) (cl : Cls X.K C) (hr : Room j X.A) (hk : k ≤ j) (he : PE X o ta) (hkw : PK X kws tk)
    (hall : (backToKw pos (keywordEach kws X.env)).all (·.1.isSome) = true := by rfl) (hks : (backToKw pos (keywordEach kws X.env)).filterMap (·.1) = ks := by rfl)
    (hpl : ((backTo pos (starEach [] X.env)).any (·.1) || (backToKw pos (keywordEach kws X.env)).any (·.1.isNone)) = false := by rfl)
    (ht : eval (.Call (.Attribute o m apos) [] kws pos) X.env = (do
      let ov ← eval o X.env
      standAt apos.atName
      let (f, first) ← holding [ov] (getMethod ov m pl)
      callWith pos f first (backTo pos (starEach [] X.env)) (backToKw pos (keywordEach kws X.env))) := by rfl) :
    PE X (.Call (.Attribute o m apos) [] kws pos) (tMethK C m sp gV E0 ta tk) := by
  obtain ⟨f, fd, ps, g, M, F, b⟩ := c.ex
  exact pe_methK0 (pl := pl) he cl M F (hr.mono hk) b pass0 hkw hall hks hpl ht
end MG

/-! Plain facts about numbers, and short words for readings -/
namespace MG
open PySem PySem.Spec PyProof.Rows L2

/-- within 10 ^ 400 -/
def Sm (i : Int) : Prop := -(10 ^ 400) < i ∧ i < 10 ^ 400
theorem big400 : (10 : Nat) ^ 400 < 2 ^ 1400 := by decide +kernel
theorem Sm.abs {i : Int} (h : Sm i) : i.natAbs < 2 ^ 1400 := by
  have h1 := h.1
  have h2 := h.2
  have h3 := big400
  have e : ((10 : Int) ^ 400) = ((10 ^ 400 : Nat) : Int) := by rw [Int.natCast_pow]; rfl
  rw [e] at h1 h2
  generalize (10 : Nat) ^ 400 = a at *
  generalize (2 : Nat) ^ 1400 = b at *
  omega
theorem sm_mul {i j : Int} (hi : Sm i) (hj : Sm j) : CMulW i j := wide_mul hi.abs hj.abs (by decide) (by decide) (by decide)
theorem sm_div {j : Int} (h : Sm j) (h0 : j ≠ 0) : j ≠ 0 ∧ j.natAbs.log2 < 9000 :=
  ⟨h0, Nat.lt_of_lt_of_le (PySem.Flt.log2_lt_of (by decide) h.abs) (by decide)⟩
theorem sm_lt {i : Int} {k : Nat} (hk : k ≤ 400) (h1 : -(10 ^ k) < i) (h2 : i < 10 ^ k) : Sm i := by
  have e : (10 : Int) ^ k ≤ 10 ^ 400 := by
    have q : (10 : Nat) ^ k ≤ 10 ^ 400 := Nat.pow_le_pow_right (by decide) hk
    have z := Int.ofNat_le.mpr q
    rw [Int.natCast_pow, Int.natCast_pow] at z
    exact z
  constructor <;> generalize (10 : Int) ^ 400 = b at * <;> omega
theorem fmod_ge {x m : Int} (h : 0 < m) : 0 ≤ x.fmod m := Int.fmod_nonneg_of_pos x h
theorem fmod_lt {x m : Int} (h : 0 < m) : x.fmod m < m := Int.fmod_lt_of_pos x h
theorem fdiv_ge {x m : Int} (hx : 0 ≤ x) (h : 0 < m) : 0 ≤ x.fdiv m := by
  rw [Int.fdiv_eq_ediv_of_nonneg x (by omega)]
  exact Int.ediv_nonneg hx (by omega)
theorem fdiv_le {x m : Int} (hx : 0 ≤ x) (h : 0 < m) : x.fdiv m ≤ x := by
  rw [Int.fdiv_eq_ediv_of_nonneg x (by omega)]
  exact Int.ediv_le_self m hx
/-- an item of a written list of ints at a reckoned index -/
theorem at_ints {l : List Int} {i : Int} (h0 : 0 ≤ i) (h : i < l.length) : ∃ z ∈ l, atI (l.map V.int) i = some (V.int z) := by
  obtain ⟨j, rfl⟩ := Int.eq_ofNat_of_zero_le h0
  have hj : j < l.length := by omega
  exact ⟨l[j], List.getElem_mem hj, atI_nat (by rw [List.getElem?_map, List.getElem?_eq_getElem hj]; rfl)⟩
end MG

/-! Fractions: what crossing out gives is the numerator and the denominator -/
namespace MG
open PySem PySem.Spec PyProof.Rows L2

/-- the divisor, of the sign of the lower one -/
def gd (a u : Int) : Int := if 0 < u then (Int.gcd a u : Int) else -(Int.gcd a u : Int)
theorem gd_ne {a u : Int} (h : u ≠ 0) : gd a u ≠ 0 := by
  have := Int.gcd_pos_of_ne_zero_right a h
  unfold gd
  split <;> omega
theorem gd_sm {a u : Int} (h : u ≠ 0) (hu : Sm u) : Sm (gd a u) := by
  have h1 : (Int.gcd a u : Nat) ≤ u.natAbs := Nat.le_of_dvd (by omega) (Int.gcd_dvd_natAbs_right a u)
  obtain ⟨h2, h3⟩ := hu
  unfold gd Sm
  generalize (10 : Int) ^ 400 = t at *
  split <;> omega
theorem lo_num {a u : Int} (h : u ≠ 0) : a.fdiv (gd a u) = (Rat.divInt a u).num := by
  have hg : (Int.gcd a u : Int) ≠ 0 := by have := Int.gcd_pos_of_ne_zero_right a h; omega
  obtain ⟨x, hx⟩ := Int.gcd_dvd_left a u
  have e1 : (a.gcd u : Int) * x / (a.gcd u : Int) = x := Int.mul_ediv_cancel_left x hg
  rw [Rat.num_divInt, Int.gcd_comm u a]
  unfold gd
  generalize (a.gcd u : Int) = g at *
  rcases Int.lt_trichotomy u 0 with hu | hu | hu
  · rw [if_neg (by omega), Int.sign_eq_neg_one_of_neg hu, hx]
    have e : g * x = -g * -x := (Int.neg_mul_neg g x).symm
    rw [e, Int.mul_fdiv_cancel_left (-x) (by omega), ← e, Int.neg_one_mul, ← Int.mul_neg, Int.mul_ediv_cancel_left _ hg]
  · exact absurd hu h
  · rw [if_pos hu, Int.sign_eq_one_of_pos hu, Int.one_mul, hx, Int.mul_fdiv_cancel_left x hg, e1]
theorem lo_den {a u : Int} (h : u ≠ 0) : u.fdiv (gd a u) = ((Rat.divInt a u).den : Int) := by
  have hg : (Int.gcd a u : Int) ≠ 0 := by have := Int.gcd_pos_of_ne_zero_right a h; omega
  obtain ⟨x, hx⟩ := Int.gcd_dvd_right a u
  rw [Rat.den_divInt, if_neg h, Int.gcd_comm u a, Int.natCast_ediv]
  have e0 : (u.natAbs : Int) = if 0 < u then u else -u := by split <;> omega
  rw [e0]
  unfold gd
  generalize (a.gcd u : Int) = g at *
  rcases Int.lt_trichotomy u 0 with hu | hu | hu
  · rw [if_neg (by omega), if_neg (by omega)]
    have e : u = -g * -x := by rw [Int.neg_mul_neg]; exact hx
    have e2 : -u = g * -x := by rw [Int.mul_neg, ← hx]
    rw [e2, Int.mul_ediv_cancel_left _ hg]
    conv => lhs; rw [e]
    exact Int.mul_fdiv_cancel_left (-x) (by omega)
  · exact absurd hu h
  · rw [if_pos hu, if_pos hu]
    conv => lhs; rw [hx]
    conv => rhs; rw [hx]
    rw [Int.mul_fdiv_cancel_left x hg, Int.mul_ediv_cancel_left _ hg]

/-- numerator and denominator below 10 ^ k -/
def Bd (p : Rat) (k : Nat) : Prop := p.num.natAbs < 10 ^ k ∧ p.den < 10 ^ k
theorem Bd.mono {p : Rat} {i j : Nat} (h : Bd p i) (hij : i ≤ j) : Bd p j := by
  have := Nat.pow_le_pow_right (show 0 < 10 by decide) hij
  exact ⟨Nat.lt_of_lt_of_le h.1 this, Nat.lt_of_lt_of_le h.2 this⟩
theorem nab {x : Nat} {i : Int} (h : i.natAbs < x) : -(x : Int) < i ∧ i < x := by omega
theorem Bd.num {p : Rat} {k : Nat} (h : Bd p k) (hk : k ≤ 400) : Sm p.num := by
  have := nab h.1
  rw [Int.natCast_pow] at this
  exact sm_lt hk this.1 this.2
theorem Bd.den {p : Rat} {k : Nat} (h : Bd p k) (hk : k ≤ 400) : Sm (p.den : Int) := by
  have := nab (i := (p.den : Int)) (x := 10 ^ k) (by have := h.2; omega)
  rw [Int.natCast_pow] at this
  exact sm_lt hk this.1 this.2
theorem divInt_num_le (a u : Int) : (Rat.divInt a u).num.natAbs ≤ a.natAbs := by
  rw [Rat.num_divInt]
  have h : (u.sign * a).natAbs ≤ a.natAbs := by
    rw [Int.natAbs_mul]
    have : u.sign.natAbs ≤ 1 := by
      rcases Int.lt_trichotomy u 0 with hu | hu | hu
      · rw [Int.sign_eq_neg_one_of_neg hu]; decide
      · rw [hu]; decide
      · rw [Int.sign_eq_one_of_pos hu]; decide
    calc u.sign.natAbs * a.natAbs ≤ 1 * a.natAbs := Nat.mul_le_mul_right _ this
      _ = a.natAbs := Nat.one_mul _
  refine Nat.le_trans ?_ h
  obtain ⟨x, hx⟩ : ((u.gcd a : Nat) : Int) ∣ u.sign * a := Int.dvd_mul_of_dvd_right (Int.gcd_dvd_right u a)
  by_cases hg : ((u.gcd a : Nat) : Int) = 0
  · rw [hg, Int.ediv_zero]
    exact Nat.zero_le _
  · rw [hx, Int.mul_ediv_cancel_left _ hg, Int.natAbs_mul]
    exact Nat.le_mul_of_pos_left _ (by omega)
theorem divInt_den_le {a u : Int} (h : u ≠ 0) : (Rat.divInt a u).den ≤ u.natAbs := by
  rw [Rat.den_divInt, if_neg h]
  exact Nat.div_le_self _ _
theorem bd_div {a u : Int} {k : Nat} (h : u ≠ 0) (ha : a.natAbs < 10 ^ k) (hu : u.natAbs < 10 ^ k) : Bd (Rat.divInt a u) k :=
  ⟨Nat.lt_of_le_of_lt (divInt_num_le a u) ha, Nat.lt_of_le_of_lt (divInt_den_le h) hu⟩
theorem add_eq (p q : Rat) : p + q = Rat.divInt (p.num * q.den + q.num * p.den) (p.den * q.den) := by
  have h1 : (p.den : Int) ≠ 0 := by have := p.den_nz; omega
  have h2 : (q.den : Int) ≠ 0 := by have := q.den_nz; omega
  rw [← Rat.divInt_add_divInt _ _ h1 h2, Rat.num_divInt_den, Rat.num_divInt_den]
theorem sub_eq (p q : Rat) : p - q = Rat.divInt (p.num * q.den - q.num * p.den) (p.den * q.den) := by
  have h1 : (p.den : Int) ≠ 0 := by have := p.den_nz; omega
  have h2 : (q.den : Int) ≠ 0 := by have := q.den_nz; omega
  rw [← Rat.divInt_sub_divInt _ _ h1 h2, Rat.num_divInt_den, Rat.num_divInt_den]
theorem mul_eq (p q : Rat) : p * q = Rat.divInt (p.num * q.num) (p.den * q.den) := by
  rw [← Rat.divInt_mul_divInt, Rat.num_divInt_den, Rat.num_divInt_den]
theorem neg_eq (p : Rat) : -p = Rat.divInt (-p.num) p.den := by
  rw [← Rat.neg_divInt, Rat.num_divInt_den]
theorem over_eq (p q : Rat) : p / q = Rat.divInt (p.num * q.den) (p.den * q.num) := by
  rw [Rat.div_def]
  conv => lhs; rw [← Rat.num_divInt_den p, ← Rat.num_divInt_den q]
  rw [Rat.inv_divInt, Rat.divInt_mul_divInt]
theorem den_ne (p q : Rat) : (p.den : Int) * q.den ≠ 0 := by
  have h1 := p.den_nz
  have h2 := q.den_nz
  exact Int.mul_ne_zero (by omega) (by omega)
theorem lt_mul {a b : Nat} {i j : Nat} (ha : a < 10 ^ i) (hb : b < 10 ^ j) : a * b < 10 ^ (i + j) := by
  rw [Nat.pow_add]
  exact Nat.mul_lt_mul'' ha hb
theorem bd_mul {p q : Rat} {i j : Nat} (hp : Bd p i) (hq : Bd q j) : Bd (p * q) (i + j) := by
  rw [mul_eq]
  refine bd_div (den_ne p q) ?_ ?_
  · rw [Int.natAbs_mul]; exact lt_mul hp.1 hq.1
  · rw [Int.natAbs_mul]; exact lt_mul hp.2 hq.2
theorem ten (k : Nat) : 10 ^ (k + 1) = 10 * 10 ^ k := by rw [Nat.pow_succ, Nat.mul_comm]
theorem bd_add {p q : Rat} {i j : Nat} (hp : Bd p i) (hq : Bd q j) : Bd (p + q) (i + j + 1) := by
  rw [add_eq]
  have h1 := lt_mul hp.1 hq.2
  have h2 := lt_mul hp.2 hq.1
  have h3 := lt_mul hp.2 hq.2
  have t := ten (i + j)
  refine bd_div (den_ne p q) ?_ ?_
  · have e1 : (p.num * q.den).natAbs = p.num.natAbs * q.den := by rw [Int.natAbs_mul]; rfl
    have e2 : (q.num * p.den).natAbs = p.den * q.num.natAbs := by rw [Int.natAbs_mul, Nat.mul_comm]; rfl
    have := Int.natAbs_add_le (p.num * q.den) (q.num * p.den)
    omega
  · have e : ((p.den : Int) * q.den).natAbs = p.den * q.den := by rw [Int.natAbs_mul]; rfl
    omega
theorem bd_neg {p : Rat} {i : Nat} (hp : Bd p i) : Bd (-p) i := by
  have e1 : (-p).num = -p.num := rfl
  have e2 : (-p).den = p.den := rfl
  unfold Bd
  rw [e1, e2, Int.natAbs_neg]
  exact hp
theorem bd_sub {p q : Rat} {i j : Nat} (hp : Bd p i) (hq : Bd q j) : Bd (p - q) (i + j + 1) := by
  rw [Rat.sub_eq_add_neg]
  exact bd_add hp (bd_neg hq)
theorem sm_of {i : Int} (h : i.natAbs < 10 ^ 390) : Sm i := by
  have := nab h
  rw [Int.natCast_pow] at this
  exact sm_lt (by decide) this.1 this.2
theorem sm_den2 {p q : Rat} {i j : Nat} (hp : Bd p i) (hq : Bd q j) (h : i + j ≤ 390) : Sm ((p.den : Int) * q.den) := by
  refine sm_of ?_
  have e : ((p.den : Int) * q.den).natAbs = p.den * q.den := by rw [Int.natAbs_mul]; rfl
  rw [e]
  exact Nat.lt_of_lt_of_le (lt_mul hp.2 hq.2) (Nat.pow_le_pow_right (by decide) h)
theorem sm_dn {p q : Rat} {i j : Nat} (hp : Bd p i) (hq : Bd q j) (h : i + j ≤ 390) : Sm ((p.den : Int) * q.num) := by
  refine sm_of ?_
  have e : ((p.den : Int) * q.num).natAbs = p.den * q.num.natAbs := by rw [Int.natAbs_mul]; rfl
  rw [e]
  exact Nat.lt_of_lt_of_le (lt_mul hp.2 hq.1) (Nat.pow_le_pow_right (by decide) h)
theorem rat_dec (p q : Rat) : decide (p = q) = (decide (p.num = q.num) && decide ((p.den : Int) = q.den)) := by
  rw [← Bool.decide_and]
  refine decide_eq_decide.mpr ⟨fun e => by rw [e]; exact ⟨rfl, rfl⟩, fun ⟨h1, h2⟩ => Rat.ext h1 (by omega)⟩
end MG

/-! Texts of pairs, lists of texts compared -/
namespace MG
open PySem PySem.Spec PyProof.Rows L2

theorem all_append {x y : Str} (f : Nat → Bool) : (x ++ y).cps.all f = (x.cps.all f && y.cps.all f) := by
  show (x.cps ++ y.cps).all f = _
  exact Array.all_append
theorem ok_append {x y : Str} (hx : PyData.strOk x = true) (hy : PyData.strOk y = true) : PyData.strOk (x ++ y) = true := by
  unfold PyData.strOk at *
  rw [all_append, hx, hy]
  rfl
theorem ok_of (s : String) : PyData.strOk (Str.ofString s) = true := by
  unfold PyData.strOk
  rw [← Array.all_toList, signs_ofString, List.all_map, List.all_eq_true]
  intro c _
  have h := c.valid
  refine decide_eq_true ?_
  rcases h with h | ⟨_, h⟩
  · exact Nat.lt_trans h (by decide)
  · exact h
/-- repr((a, b)) -/
def shw (a b : Int) : Str := (PyData.tuple [.int a, .int b]).shown
theorem shw_eq (a b : Int) : shw a b = tupleText [toString a, toString b] := rfl
theorem ok_shw (a b : Int) : PyData.strOk (shw a b) = true := by
  show PyData.strOk (("(" : Str) ++ (Str.ofString (toString a) ++ (", " : Str) ++ Str.ofString (toString b)) ++ (")" : Str)) = true
  exact ok_append (ok_append (ok_of _) (ok_append (ok_append (ok_of _) (ok_of _)) (ok_of _))) (ok_of _)
theorem log_sm {i : Int} (h : Sm i) : i.natAbs.log2 < 1920 := Nat.lt_of_lt_of_le (PySem.Flt.log2_lt_of (by decide) h.abs) (by decide)
theorem txt_len {i : Int} (h : Sm i) : (Str.ofString (toString i)).length ≤ 1921 := by
  rw [PySem.ofString_length]
  exact int_text_length_le (k := 1920) (by decide) (log_sm h)
theorem shw_len {a b : Int} (ha : Sm a) (hb : Sm b) : (shw a b).length ≤ 4000 := by
  have h := tupleText_len_le [Str.ofString (toString a), Str.ofString (toString b)]
  have h1 := txt_len ha
  have h2 := txt_len hb
  simp only [List.map_cons, List.map_nil, List.sum_cons, List.sum_nil, List.length_cons, List.length_nil] at h
  have e : shw a b = tupleText [Str.ofString (toString a), Str.ofString (toString b)] := rfl
  rw [e]
  omega
theorem pair_ok {K : PySem.W.Frag} {H : Hp} {t : Addr} {a b : Int} (h : SqT K H t [.int a, .int b]) (ha : Sm a) (hb : Sm b) : Dp K H (.ref t) (.tuple [.int a, .int b]) ∧ (PyData.tuple [.int a, .int b]).showable = true ∧
    (PyData.tuple [.int a, .int b]).hasDict = false ∧ (PyData.tuple [.int a, .int b]).depth ≤ 60 ∧ (PyData.tuple [.int a, .int b]).shown.length ≤ sizeLine := by
  refine ⟨.tup h (.cons (.int a) (.cons (.int b) .nil)), ?_, rfl, ?_, ?_⟩
  · simp [PyData.showable, PyData.showableAll, log_sm ha, log_sm hb]
  · simp [PyData.depth, PyData.depthAll]
  · exact Nat.le_trans (shw_len ha hb) (by decide)
/-- the same, the data unnamed -/
theorem pair_ex {K : PySem.W.Frag} {H : Hp} {t : Addr} {a b : Int} (h : SqT K H t [.int a, .int b]) (ha : Sm a) (hb : Sm b) : ∃ d, Dp K H (.ref t) d ∧ d.showable = true ∧ d.hasDict = false ∧ d.depth ≤ 60 ∧ d.shown.length ≤ sizeLine ∧ d.shown = shw a b := by
  obtain ⟨r1, r2, r3, r4, r5⟩ := pair_ok h ha hb
  exact ⟨_, r1, r2, r3, r4, r5, rfl⟩
/-- what repr of a pair of ints asks -/
theorem repr_pair {K : PySem.W.Frag} {H : Hp} {t : Addr} {a b : Int} {Q : VK} (h : SqT K H t [.int a, .int b]) (ha : Sm a) (hb : Sm b) (k : Q (.str (shw a b)) H) : rRepr K [.ref t] H Q := by
  refine ⟨.ref t, .tuple [.int a, .int b], rfl, .tup h (.cons (.int a) (.cons (.int b) .nil)), ?_, rfl, ?_, ?_, k⟩
  · simp [PyData.showable, PyData.showableAll, log_sm ha, log_sm hb]
  · simp [PyData.depth, PyData.depthAll]
  · exact Nat.le_trans (shw_len ha hb) (by decide)
theorem dp_strs {K : PySem.W.Frag} {H : Hp} {a : Addr} {ss : List Str} (h : SqL K H a (ss.map V.str)) : Dp K H (.ref a) (.list (ss.map .str)) := by
  refine .lst h ?_
  induction ss with
  | nil => exact .nil
  | cons s ss ih => exact .cons (.str s) (all_dp ss)
where all_dp : ∀ ss : List Str, DpAll K H (ss.map V.str) (ss.map PyData.str)
  | [] => .nil
  | s :: ss => .cons (.str s) (all_dp ss)
theorem sh_strs {ss : List Str} (h : ∀ s ∈ ss, PyData.strOk s = true) : SeqAt.shaped (.list (ss.map .str)) = true := by
  unfold SeqAt.shaped
  rw [Bool.and_eq_true]
  refine ⟨?_, ?_⟩
  · show PyData.canLayAll0 (ss.map .str) = true
    rw [canLayAll_strs', List.all_eq_true]
    exact h
  · refine decide_eq_true ?_
    show PyData.depthAll (ss.map .str) + 1 ≤ 64
    rw [depthAll_strs']
    decide
/-- two lists of the same texts -/
theorem ne_strs {K : PySem.W.Frag} {H : Hp} {a b : Addr} {ss : List Str} {Q : VK} (ha : SqL K H a (ss.map V.str)) (hb : SqL K H b (ss.map V.str)) (h : ∀ s ∈ ss, PyData.strOk s = true) (k : Q (.bl false) H) : rNeD K (.ref a) (.ref b) H Q := by
  have sh := sh_strs h
  refine ⟨_, _, dp_strs ha, dp_strs hb, sh, sh, ?_⟩
  have e := SeqAt.eqv_refl (.list (ss.map .str)) (SeqAt.canLay_of_shaped sh)
  rw [e]
  exact k
theorem eq_strs {K : PySem.W.Frag} {H : Hp} {a b : Addr} {ss : List Str} {Q : VK} (ha : SqL K H a (ss.map V.str)) (hb : SqL K H b (ss.map V.str)) (h : ∀ s ∈ ss, PyData.strOk s = true) (k : Q (.bl true) H) : rEqD K (.ref a) (.ref b) H Q := by
  have sh := sh_strs h
  refine ⟨_, _, dp_strs ha, dp_strs hb, sh, sh, ?_⟩
  have e := SeqAt.eqv_refl (.list (ss.map .str)) (SeqAt.canLay_of_shaped sh)
  rw [e]
  exact k
end MG

namespace Lw
open PySem PySem.Spec PyProof.Rows L2 MG
def top (i : Nat) : Stmt := PySem.Challenge.pw_matrixforms_k03_ratio_operators.main.body.getD i (.Pass ⟨0, 0, 0, 0⟩)
abbrev s__law_purse : Stmt := top 12
abbrev s__law_draw : Stmt := top 13
abbrev s__law_great : Stmt := top 14
abbrev s__law_common : Stmt := top 15
abbrev s__law_lowest : Stmt := top 16
abbrev s__law_from : Stmt := top 17
structure Blt (mg : Str → Option Value) : Prop where
  b_int : mg "int" = none
  b_len : mg "len" = none
  b_abs : mg "abs" = none
  b_range : mg "range" = none
  b_max : mg "max" = none
  b_min : mg "min" = none
  b_all : mg "all" = none
  b_repr : mg "repr" = none
  b_isinstance : mg "isinstance" = none
  b_bool : mg "bool" = none

/-- the cells, the next one, what is left of the last one, the turns -/
structure QAt (H : Hp) (q : Addr) (n : Nat) : Prop where
  ex : ∃ (c : Addr) (ns : List Int) (i r t : Int), H q = some (.lst [.ref c, .int i, .int r, .int t]) ∧ H c = some (.lst (ns.map V.int)) ∧
    (∀ z ∈ ns, 0 ≤ z ∧ z < 10 ^ 120) ∧ ns.length ≤ 100000 ∧ (0 ≤ i ∧ i ≤ n) ∧ (0 ≤ r ∧ r < 10 ^ 120) ∧ (0 ≤ t ∧ t ≤ n)
def spDraw : Sp := fun vs H Q _ => ∃ (q : Addr) (m : Int) (n : Nat), vs = [.ref q, .int m] ∧ QAt H q n ∧ n ≤ 100000 ∧ 0 < m ∧ m < 10 ^ 30 ∧
  ∀ (r : Int) (H' : Hp), 0 ≤ r → r < m → Keep q H H' → QAt H' q (n + 1) → Q (.int r) H'
theorem cells_ne {H : Hp} {q c : Addr} {ns : List Int} {i r t : Int} (hq : H q = some (.lst [.ref c, .int i, .int r, .int t])) (hc : H c = some (.lst (ns.map V.int))) : c ≠ q :=
  ne_of hc hq (by
    intro e
    have e2 := HO.lst.inj e
    cases ns with
    | nil => cases e2
    | cons a b => cases e2)
def primes : List Int := [1000003, 1299709, 2750159, 3497861, 4256233, 5800079, 6700417, 7368787, 8460041, 9576901, 15485863]
theorem primes_ok {z : Int} (h : z ∈ primes) : 0 < z ∧ z ≤ 15485863 := by
  simp only [primes, List.mem_cons, List.not_mem_nil, or_false] at h
  omega
theorem prime_at {i : Int} (h0 : 0 ≤ i) (h : i < 11) : ∃ z, atI ([.int 1000003, .int 1299709, .int 2750159, .int 3497861, .int 4256233, .int 5800079, .int 6700417, .int 7368787, .int 8460041, .int 9576901, .int 15485863] : List V) i = some (.int z) ∧ 0 < z ∧ z ≤ 15485863 := by
  obtain ⟨z, hz, e⟩ := at_ints (l := primes) h0 (by show i < 11; exact h)
  exact ⟨z, e, primes_ok hz⟩
section
variable {P : Program} {w : World} {K : PySem.W.Frag} {mg : Str → Option Value} {base : Heap}
theorem sc__law_draw : FnScope ["_law_q", "_law_many", "_law_digit", "_law_cells", "_law_cell", "_law_turn", "_law_primes", "_law_blend"] ["_law_q", "_law_many"] (defScope s__law_draw) := ⟨rfl, rfl, rfl, by decide +kernel, rfl, by decide +kernel, by decide +kernel⟩
theorem ok_draw {f : Addr} {fd : FuncData} (F : Fun K "_law_draw" "_law_draw" s__law_draw f fd) (T : Blt mg) : FnG P w K mg base CX0 2 f fd ["_law_q", "_law_many"] spDraw := by
  refine fun_okG F sc__law_draw (fun vs H Q E h => ?_) (fun cdv A outer s H vs Q E bare hr h => ?_)
  · obtain ⟨q, m, n, rfl, _⟩ := h
    rfl
  · obtain ⟨q, m, n, rfl, ⟨c, ns, i, r, t, hq, hc, hz, hl, ⟨hi0, hi⟩, ⟨hr0, hr1⟩, ⟨ht0, ht⟩⟩, hn, hm0, hm, k⟩ := h
    have ncq := cells_ne hq hc
    have smm : Sm m := sm_lt (k := 30) (by decide) (by omega) hm
    refine ⟨_, (pss_cons (ps_if (pt_cmpR op_gt (pe_ix (ix_listK (K := K)) (pv 0) pe_int (fun _ _ => rfl)) pe_int (nomark _)) (pss_cons (ps_set (i := 2) sc__law_draw.nd rfl (Or.inl rfl) (pe_op op_modN (pe_callTy call_int1 (by rfl) T.b_int (by decide +kernel) (pa_cons (pe_ix (ix_listK (K := K)) (pv 0) pe_int (fun _ _ => rfl)) pa_nil)) (pv 1)))
  (pss_cons (ps_asg (pe_op op_fdivZ (pe_ix (ix_listK (K := K)) (pv 0) pe_int (fun _ _ => rfl)) (pv 1)) (pg_sub (pv 0) pe_int set_list))
  (pss_one (ps_ret (pv 2)))))
  pss_nil)
  (pss_cons (ps_set (i := 3) sc__law_draw.nd rfl (Or.inl rfl) (pe_cut (pe_ifExp (pt_truth (pe_ix (ix_listK (K := K)) (pv 0) pe_int (fun _ _ => rfl)) (by intro _; rfl)) (pe_ix (ix_listK (K := K)) (pv 0) pe_int (fun _ _ => rfl)) (pe_lst (pa_cons pe_int pa_nil)))))
  (pss_cons (ps_set (i := 4) sc__law_draw.nd rfl (Or.inl rfl) (pe_ix (ix_listK (K := K)) (pv 3) (pe_op op_modN (pe_callTy call_int1 (by rfl) T.b_int (by decide +kernel) (pa_cons (pe_ix (ix_listK (K := K)) (pv 0) pe_int (fun _ _ => rfl)) pa_nil)) (pe_callB (id := "len") call_len_seq (by rfl) T.b_len (by decide +kernel) (pa_cons (pv 3) pa_nil))) (fun _ _ => rfl)))
  (pss_cons (ps_asg (pe_op op_add (pe_ix (ix_listK (K := K)) (pv 0) pe_int (fun _ _ => rfl)) pe_int) (pg_sub (pv 0) pe_int set_list))
  (pss_cons (ps_if (pt_cmpR op_ge (pv 4) (pe_op op_pow pe_int pe_int) (nomark _)) (pss_cons (ps_asg (pe_op op_fdivZ (pv 4) (pv 1)) (pg_sub (pv 0) pe_int set_list))
  (pss_one (ps_ret (pe_op op_modN (pe_callTy call_int1 (by rfl) T.b_int (by decide +kernel) (pa_cons (pv 4) pa_nil)) (pv 1)))))
  pss_nil)
  (pss_cons (ps_set (i := 5) sc__law_draw.nd rfl (Or.inl rfl) (pe_ix (ix_listK (K := K)) (pv 0) pe_int (fun _ _ => rfl)))
  (pss_cons (ps_asg (pe_op op_add (pv 5) pe_int) (pg_sub (pv 0) pe_int set_list))
  (pss_cons (ps_set (i := 6) sc__law_draw.nd rfl (Or.inl rfl) (pe_lst (pa_cons pe_int (pa_cons pe_int (pa_cons pe_int (pa_cons pe_int (pa_cons pe_int (pa_cons pe_int (pa_cons pe_int (pa_cons pe_int (pa_cons pe_int (pa_cons pe_int (pa_cons pe_int pa_nil)))))))))))))
  (pss_cons (ps_set (i := 7) sc__law_draw.nd rfl (Or.inl rfl) (pe_op op_modN (pe_callTy call_int1 (by rfl) T.b_int (by decide +kernel) (pa_cons (pe_op op_add (pe_op op_mulW (pe_op op_add (pv 4) pe_int) pe_int) (pe_op op_mulW (pe_op op_mulW (pe_op op_add (pv 5) pe_int) (pe_op op_add (pv 5) pe_int)) pe_int)) pa_nil)) (pe_ix (ix_listK (K := K)) (pv 6) (pe_op op_modN (pe_callTy call_int1 (by rfl) T.b_int (by decide +kernel) (pa_cons (pv 5) pa_nil)) pe_int) (fun _ _ => rfl))))
  (pss_cons (ps_set (i := 7) sc__law_draw.nd rfl (Or.inl rfl) (pe_op op_modN (pe_callTy call_int1 (by rfl) T.b_int (by decide +kernel) (pa_cons (pe_op op_add (pe_op op_pow (pv 7) pe_int) (pe_op op_mulW (pv 5) pe_int)) pa_nil)) pe_int))
  (pss_one (ps_ret (pe_op op_modN (pe_callTy call_int1 (by rfl) T.b_int (by decide +kernel) (pa_cons (pe_op op_fdivZ (pv 7) pe_int) pa_nil)) (pv 1)))))))))))))), ?_⟩
    -- if q[2] > 0
    refine ⟨_, rfl, q, _, _, _, rfl, rfl, SqL.of hq, rfl, _, _, rfl, rfl, _, rfl, ?_⟩
    refine ite2 (fun hpos => ?_) (fun hpos => ?_)
    · -- digit = int(q[2]) % many; q[2] = q[2] // many; return digit
      refine ⟨_, rfl, q, _, _, _, rfl, rfl, SqL.of hq, rfl, Or.inl ⟨_, rfl, _, rfl, _, _, rfl, rfl, by omega, ?_⟩⟩
      refine ⟨_, rfl, q, _, _, _, rfl, rfl, SqL.of hq, rfl, _, rfl, _, _, rfl, rfl, sm_div smm (by omega), ?_⟩
      refine ⟨_, rfl, q, _, _, _, rfl, rfl, hq, rfl, ?_⟩
      refine ⟨_, rfl, ?_⟩
      refine k _ _ (fmod_ge hm0) (fmod_lt hm0) Keep.refl.upd ⟨c, ns, i, _, t, upd_same, ?_, hz, hl, ⟨hi0, by omega⟩, ⟨fdiv_ge hr0 hm0, Int.lt_of_le_of_lt (fdiv_le hr0 hm0) hr1⟩, ⟨ht0, by omega⟩⟩
      rw [upd_ne ncq]
      exact hc
    · -- cells = q[0] if q[0] else [0]
      refine ⟨fun v H' => ∃ (c' : Addr) (ns' : List Int), v = .ref c' ∧ H' c' = some (.lst (ns'.map V.int)) ∧ ns' ≠ [] ∧ ns'.length ≤ 100000 ∧ (∀ z ∈ ns', 0 ≤ z ∧ z < 10 ^ 120) ∧ c' ≠ q ∧ Same H H', ?_, ?_⟩
      · refine ⟨_, rfl, q, _, _, _, rfl, rfl, SqL.of hq, rfl, _, Or.inl ⟨_, SqL.of hc, rfl⟩, ?_⟩
        cases ns with
        | nil =>
          refine iteF ?_
          refine ⟨by show 1 ≤ sizeLine; decide, fun p hp => ?_⟩
          refine ⟨p, [0], rfl, upd_same, by simp, by decide, by decide, ?_, MG.Same.new (Same.refl H) hp⟩
          exact (ne_of_none hq hp).symm
        | cons z ns =>
          refine iteT ?_
          exact ⟨_, rfl, q, _, _, _, rfl, rfl, SqL.of hq, rfl, c, z :: ns, rfl, hc, by simp, hl, hz, ncq, Same.refl H⟩
      rintro v H1 ⟨c', ns', rfl, hc', hne, hl', hz', ncq', s1⟩
      have hq1 := s1 _ _ hq
      have hlen : 0 < (ns'.length : Int) := by
        have : 0 < ns'.length := List.length_pos_iff.mpr hne
        omega
      -- cell = cells[int(q[1]) % len(cells)]
      have hlm : ((ns'.map V.int).length : Int) = ns'.length := by rw [List.length_map]
      obtain ⟨z, hzm, ez⟩ := at_ints (l := ns') (i := i.fmod ((ns'.map V.int).length : Int)) (fmod_ge (by omega)) (by rw [hlm]; exact fmod_lt hlen)
      obtain ⟨z0, z1⟩ := hz' z hzm
      refine ⟨_, rfl, _, rfl, q, _, _, _, rfl, rfl, SqL.of hq1, rfl, Or.inl ⟨_, rfl, _, rfl, c', _, rfl, Or.inl (SqL.of hc'), _, _, rfl, rfl, by omega, ?_⟩⟩
      refine ⟨c', _, _, _, rfl, rfl, SqL.of hc', ez, ?_⟩
      -- q[1] = q[1] + 1
      refine ⟨_, rfl, q, _, _, _, rfl, rfl, SqL.of hq1, rfl, _, _, rfl, rfl, ?_⟩
      refine ⟨_, rfl, q, _, _, _, rfl, rfl, hq1, rfl, ?_⟩
      -- if cell >= 10 ** 18
      refine ⟨_, rfl, _, _, rfl, rfl, ⟨by decide, by decide, by decide⟩, _, _, rfl, rfl, _, rfl, ?_⟩
      have smz : Sm z := sm_lt (k := 120) (by decide) (by omega) z1
      have nc1 : ∀ {o : HO}, upd H1 q o c = some (.lst (ns.map V.int)) := fun {o} => by rw [upd_ne ncq]; exact s1 _ _ hc
      refine ite2 (fun hbig => ?_) (fun hbig => ?_)
      · refine ⟨_, rfl, _, rfl, _, _, rfl, rfl, sm_div smm (by omega), ?_⟩
        refine ⟨_, rfl, q, _, _, _, rfl, rfl, upd_same, rfl, ?_⟩
        refine ⟨_, rfl, Or.inl ⟨_, rfl, _, rfl, _, _, rfl, rfl, by omega, ?_⟩⟩
        refine k _ _ (fmod_ge hm0) (fmod_lt hm0) (Same.keep s1).upd.upd ⟨c, ns, _, _, t, upd_same, ?_, hz, hl, ⟨by omega, by omega⟩, ⟨fdiv_ge z0 hm0, Int.lt_of_le_of_lt (fdiv_le z0 hm0) z1⟩, ⟨ht0, by omega⟩⟩
        rw [upd_ne ncq]
        exact nc1
      · -- turn = q[3]; q[3] = turn + 1
        refine ⟨_, rfl, q, _, _, _, rfl, rfl, SqL.of upd_same, rfl, ?_⟩
        refine ⟨_, rfl, _, _, rfl, rfl, ?_⟩
        refine ⟨_, rfl, q, _, _, _, rfl, rfl, upd_same, rfl, ?_⟩
        -- primes
        refine ⟨by show 11 ≤ sizeLine; decide, fun p hp => ?_⟩
        have hp' : H1 p = none := by
          have npq : p ≠ q := fun e => by rw [e, upd_same] at hp; cases hp
          rw [upd_ne npq, upd_ne npq] at hp
          exact hp
        -- blend = int((cell + 1) * 48271 + (turn + 1) * (turn + 7) * 69621) % primes[int(turn) % 11]
        obtain ⟨y, ey, y0, y1⟩ := prime_at (i := t.fmod 11) (fmod_ge (by decide)) (fmod_lt (by decide))
        have st : ∀ a : Int, 0 ≤ a → a ≤ 1000000 → Sm a := fun a h0 h1 => sm_lt (k := 7) (by decide) (by omega) (by omega)
        have hm1 : Sm ((t + 1) * (t + 7)) := by
          have h1 : (t + 1) * (t + 7) ≤ 200000 * 200000 := Int.mul_le_mul (by omega) (by omega) (by omega) (by omega)
          have h2 : 0 ≤ (t + 1) * (t + 7) := Int.mul_nonneg (by omega) (by omega)
          exact sm_lt (k := 20) (by decide) (by omega) (by omega)
        refine ⟨_, rfl, _, _, rfl, rfl, _, _, rfl, rfl, sm_mul (sm_lt (k := 121) (by decide) (by omega) (by omega)) (st _ (by decide) (by decide)), ?_⟩
        refine ⟨_, rfl, _, _, rfl, rfl, _, rfl, _, _, rfl, rfl, _, _, rfl, rfl, sm_mul (st _ (by omega) (by omega)) (st _ (by omega) (by omega)), _, _, rfl, rfl, sm_mul hm1 (st _ (by decide) (by decide)), ?_⟩
        refine ⟨_, _, rfl, rfl, Or.inl ⟨_, rfl, ?_⟩⟩
        refine ⟨_, rfl, _, rfl, Or.inl ⟨_, rfl, _, _, rfl, rfl, (show (11 : Int) ≠ 0 by decide), p, _, _, _, rfl, rfl, SqL.of upd_same, ey, _, _, rfl, rfl, by omega, ?_⟩⟩
        -- blend = int(blend ** 3 + turn * 40503) % 2147483647
        have b0 := fmod_ge (x := (z + 1) * 48271 + (t + 1) * (t + 7) * 69621) y0
        have b1 := fmod_lt (x := (z + 1) * 48271 + (t + 1) * (t + 7) * 69621) y0
        refine ⟨_, rfl, _, _, rfl, rfl, ⟨by decide, by decide, ?_⟩, _, rfl, _, _, rfl, rfl, sm_mul (st _ (by omega) (by omega)) (st _ (by decide) (by decide)), _, _, rfl, rfl, Or.inl ⟨_, rfl, _, _, rfl, rfl, (show (2147483647 : Int) ≠ 0 by decide), ?_⟩⟩
        · show ((((z + 1) * 48271 + (t + 1) * (t + 7) * 69621).fmod y).natAbs < 2 ^ 64)
          generalize ((z + 1) * 48271 + (t + 1) * (t + 7) * 69621).fmod y = b at *
          omega
        -- return int(blend // 32) % many
        refine ⟨_, rfl, _, _, rfl, rfl, ⟨by decide, by decide⟩, Or.inl ⟨_, rfl, _, rfl, _, _, rfl, rfl, by omega, ?_⟩⟩
        refine k _ _ (fmod_ge hm0) (fmod_lt hm0) ((Same.keep s1).upd.upd.new hp) ⟨c, ns, i + 1, r, t + 1, ?_, ?_, hz, hl, ⟨by omega, by omega⟩, ⟨hr0, hr1⟩, ⟨by omega, by omega⟩⟩
        · rw [upd_ne (fun e => by rw [← e, upd_same] at hp; cases hp)]
          exact upd_same
        · rw [upd_ne (ne_of_none (s1 _ _ hc) hp'), upd_ne ncq]
          exact nc1

theorem QAt.keep {H H' : Hp} {q : Addr} {n : Nat} (h : QAt H q n) (s : Same H H') : QAt H' q n := by
  obtain ⟨c, ns, i, r, t, hq, hc, h⟩ := h
  exact ⟨c, ns, i, r, t, s _ _ hq, s _ _ hc, h⟩
theorem QAt.at_ {H : Hp} {q : Addr} {n : Nat} (h : QAt H q n) : ∃ o, H q = some o := by
  obtain ⟨c, ns, i, r, t, hq, hc, h⟩ := h
  exact ⟨_, hq⟩
theorem QAt.ne {H : Hp} {q p : Addr} {n : Nat} (h : QAt H q n) (hp : H p = none) : p ≠ q := by
  obtain ⟨o, e⟩ := h.at_
  exact (ne_of_none e hp).symm
theorem QAt.new {H : Hp} {q p : Addr} {n : Nat} {o : HO} (h : QAt H q n) (hp : H p = none) : QAt (upd H p o) q n := h.keep (MG.Same.new (Same.refl H) hp)

/-! ### _law_great -/
def spGreat : Sp := fun vs H Q _ => ∃ (q : Addr) (n : Nat), vs = [.ref q] ∧ QAt H q n ∧ n + 3 ≤ 100000 ∧
  ∀ (z : Int) (H' : Hp), -(10 ^ 42) < z → z < 10 ^ 42 → Keep q H H' → QAt H' q (n + 3) → Q (.int z) H'
abbrev DrawC (P : Program) (w : World) (K : PySem.W.Frag) (mg : Str → Option Value) (base : Heap) : Prop := CalG P w K mg base 2 "_law_draw" spDraw []
def fars : List Int := [1, 1, 10, 10 ^ Int.toNat 3, 10 ^ Int.toNat 9, 10 ^ Int.toNat 20, 10 ^ Int.toNat 39]
theorem fars_ok : ∀ z ∈ fars, 1 ≤ z ∧ z ≤ 10 ^ 39 := by decide +kernel
theorem signs_ok : ∀ z ∈ ([1, -1] : List Int), z = 1 ∨ z = -1 := by decide
theorem sc__law_great : FnScope ["_law_q", "_law_far"] ["_law_q"] (defScope s__law_great) := ⟨rfl, rfl, rfl, by decide +kernel, rfl, by decide +kernel, by decide +kernel⟩
theorem ok_great {f : Addr} {fd : FuncData} (F : Fun K "_law_great" "_law_great" s__law_great f fd) (T : Blt mg) (c_draw : DrawC P w K mg base) : FnG P w K mg base CX0 4 f fd ["_law_q"] spGreat := by
  refine fun_okG F sc__law_great (fun vs H Q E h => ?_) (fun cdv A outer s H vs Q E bare hr h => ?_)
  · obtain ⟨q, n, rfl, _⟩ := h
    rfl
  · obtain ⟨q, n, rfl, hq, hn, k⟩ := h
    refine ⟨_, (pss_cons (ps_set (i := 1) sc__law_great.nd rfl (Or.inl rfl) (pe_ix (ix_listK (K := K)) (pe_lst (pa_cons pe_int (pa_cons pe_int (pa_cons pe_int (pa_cons (pe_op op_pow pe_int pe_int) (pa_cons (pe_op op_pow pe_int pe_int) (pa_cons (pe_op op_pow pe_int pe_int) (pa_cons (pe_op op_pow pe_int pe_int) pa_nil)))))))) (pe_cg c_draw bare hr (by decide) rfl (pa_cons (pv 0) (pa_cons pe_int pa_nil))) (fun _ _ => rfl)))
  (pss_one (ps_ret (pe_op op_mulW (pe_ix (ix_listK (K := K)) (pe_lst (pa_cons pe_int (pa_cons (pe_un un_neg pe_int) pa_nil))) (pe_cg c_draw bare hr (by decide) rfl (pa_cons (pv 0) (pa_cons pe_int pa_nil))) (fun _ _ => rfl)) (pe_op op_add (pe_op op_sub (pv 1) pe_int) (pe_op op_mulW (pe_cg c_draw bare hr (by decide) rfl (pa_cons (pv 0) (pa_cons pe_int pa_nil))) (pe_op op_add (pe_op op_fdivZ (pv 1) pe_int) pe_int))))))), ?_⟩
    refine ⟨_, _, rfl, rfl, ⟨by decide, by decide, by decide⟩, _, _, rfl, rfl, ⟨by decide, by decide, by decide⟩, _, _, rfl, rfl, ⟨by decide, by decide, by decide⟩, _, _, rfl, rfl, ⟨by decide, by decide, by decide⟩, by show 7 ≤ sizeLine; decide, fun p hp => ?_⟩
    refine ⟨_, rfl, q, 7, n, rfl, hq.new hp, by omega, by decide, by decide, fun r H1 r0 r1 k1 q1 => ?_⟩
    obtain ⟨y, hy, ey⟩ := at_ints (l := fars) r0 (by show r < 7; exact r1)
    obtain ⟨y0, y1⟩ := fars_ok y hy
    refine ⟨p, _, _, _, rfl, rfl, SqL.of (k1 _ _ upd_same (hq.ne hp)), ey, ?_⟩
    refine ⟨_, rfl, by show 2 ≤ sizeLine; decide, fun p2 hp2 => ?_⟩
    refine ⟨_, rfl, q, 2, n + 1, rfl, q1.new hp2, by omega, by decide, by decide, fun r2 H2 r20 r21 k2 q2 => ?_⟩
    obtain ⟨e, he, ee⟩ := at_ints (l := [1, -1]) r20 (by show r2 < 2; exact r21)
    have he' := signs_ok e he
    refine ⟨p2, _, _, _, rfl, rfl, SqL.of (k2 _ _ upd_same (q1.ne hp2)), ee, ?_⟩
    refine ⟨_, rfl, _, _, rfl, rfl, _, rfl, q, 60, n + 2, rfl, q2, by omega, by decide, by decide, fun r3 H3 r30 r31 k3 q3 => ?_⟩
    have d0 := fdiv_ge (x := y) (m := 7) (by omega) (by decide)
    have d1 := fdiv_le (x := y) (m := 7) (by omega) (by decide)
    have p0 : 0 ≤ r3 * (y.fdiv 7 + 1) := Int.mul_nonneg r30 (by omega)
    have p1 : r3 * (y.fdiv 7 + 1) ≤ 60 * (10 ^ 39 + 1) := Int.mul_le_mul (by omega) (by omega) (by omega) (by omega)
    refine ⟨_, rfl, _, _, rfl, rfl, ⟨by decide, by decide⟩, _, _, rfl, rfl, _, _, rfl, rfl, sm_mul (sm_lt (k := 3) (by decide) (by omega) (by omega)) (sm_lt (k := 42) (by decide) (by omega) (by omega)), ?_⟩
    refine ⟨_, _, rfl, rfl, _, _, rfl, rfl, sm_mul (sm_lt (k := 3) (by decide) (by omega) (by omega)) (sm_lt (k := 42) (by decide) (by omega) (by omega)), ?_⟩
    have kk : Keep q H H3 := ((Keep.refl.new hp).trans k1).trans ((Keep.refl.new hp2).trans (k2.trans k3))
    generalize r3 * (y.fdiv 7 + 1) = g at *
    refine k _ H3 ?_ ?_ kk q3
    · rcases he' with rfl | rfl <;> omega
    · rcases he' with rfl | rfl <;> omega

/-! ### _law_common, _law_lowest -/
def spCommon : Sp := fun vs H Q _ => ∃ a b : Int, vs = [.int a, .int b] ∧ Q (.int (Int.gcd a b : Nat)) H
theorem gcd_step {x y : Nat} : Nat.gcd y (x % y) = Nat.gcd x y := by
  rw [Nat.gcd_comm x y, Nat.gcd_rec y x, Nat.gcd_comm]
theorem sc__law_common : FnScope ["_law_one", "_law_two", "_law_high", "_law_low"] ["_law_one", "_law_two"] (defScope s__law_common) := ⟨rfl, rfl, rfl, by decide +kernel, rfl, by decide +kernel, by decide +kernel⟩
theorem ok_common {f : Addr} {fd : FuncData} (F : Fun K "_law_common" "_law_common" s__law_common f fd) (T : Blt mg) : FnG P w K mg base CX0 2 f fd ["_law_one", "_law_two"] spCommon := by
  refine fun_okG F sc__law_common (fun vs H Q E h => ?_) (fun cdv A outer s H vs Q E bare hr h => ?_)
  · obtain ⟨a, b, rfl, _⟩ := h
    rfl
  · obtain ⟨a, b, rfl, k⟩ := h
    refine ⟨_, (pss_cons (ps_par (i := 2) (j := 3) (by rfl) sc__law_common.nd rfl rfl (by decide) rfl rfl (pa_cons (pe_callB (id := "abs") call_abs (by rfl) T.b_abs (by decide +kernel) (pa_cons (pv 0) pa_nil)) (pa_cons (pe_callB (id := "abs") call_abs (by rfl) T.b_abs (by decide +kernel) (pa_cons (pv 1) pa_nil)) pa_nil)) (by rfl))
  (pss_cons (ps_while PassesOwn.never (pt_cmpR op_gt (pv 3) pe_int (nomark _)) (pss_one (ps_par (i := 2) (j := 3) (by rfl) sc__law_common.nd rfl rfl (by decide) rfl rfl (pa_cons (pv 3) (pa_cons (pe_op op_modN (pe_callTy call_int1 (by rfl) T.b_int (by decide +kernel) (pa_cons (pv 2) pa_nil)) (pv 3)) pa_nil)) (by rfl))))
  (pss_one (ps_ret (pv 2))))), ?_⟩
    refine ⟨_, rfl, _, rfl, _, rfl, _, rfl, _, _, rfl, ?_⟩
    refine while_by (fun σ H' => H' = H ∧ ∃ x y : Nat, σ = [some (.int a), some (.int b), some (.int x), some (.int y)] ∧ Nat.gcd x y = Int.gcd a b) (fun (σ : L2.St) (_ : Hp) => match σ[3]? with | some (some (V.int y)) => y.toNat | _ => 0) ?_ ?_ ?_
    · refine ⟨rfl, a.natAbs, b.natAbs, ?_, rfl⟩
      have e : ∀ z : Int, (if z < 0 then -z else z) = (z.natAbs : Int) := fun z => by split <;> omega
      show [some (V.int a), some (V.int b), some (V.int (if a < 0 then -a else a)), some (V.int (if b < 0 then -b else b))] = _
      rw [e, e]
    · rintro σ H' ⟨rfl, x, y, rfl, hg⟩
      refine ⟨_, rfl, _, _, rfl, rfl, _, rfl, ?_⟩
      refine ite2 (fun hy => ?_) (fun hy => ?_)
      · have hy' : 0 < (y : Int) := of_decide_eq_true hy
        refine ⟨_, rfl, _, rfl, Or.inl ⟨_, rfl, _, rfl, _, _, rfl, rfl, by omega, _, _, rfl, ?_⟩⟩
        have e : (x : Int).fmod (y : Int) = ((x % y : Nat) : Int) := by
          rw [Int.fmod_eq_emod_of_nonneg (x : Int) (by omega)]
          exact (Int.natCast_emod x y).symm
        refine ⟨⟨rfl, y, x % y, ?_, gcd_step.trans hg⟩, ?_⟩
        · show [some (V.int a), some (V.int b), some (V.int (y : Int)), some (V.int ((x : Int).fmod (y : Int)))] = _
          rw [e]
        · show ((x : Int).fmod (y : Int)).toNat < (y : Int).toNat
          have h1 := fmod_lt (x := (x : Int)) hy'
          omega
      · have hy' : ¬ 0 < (y : Int) := fun z => hy (decide_eq_true z)
        have y0 : y = 0 := by omega
        subst y0
        refine ⟨_, rfl, ?_⟩
        rw [Nat.gcd_zero_right] at hg
        rw [hg]
        exact k
    · rintro σ H' Q1 Q2 hq ⟨v, e, i, j, e1, e2, b', e3, q⟩
      exact ⟨v, e, i, j, e1, e2, b', e3, hq _ _ q⟩
abbrev CommonC (P : Program) (w : World) (K : PySem.W.Frag) (mg : Str → Option Value) (base : Heap) : Prop := CalG P w K mg base 2 "_law_common" spCommon []
def spLowest : Sp := fun vs H Q _ => ∃ a u : Int, vs = [.int a, .int u] ∧ u ≠ 0 ∧ Sm u ∧
  ∀ p, H p = none → Q (.ref p) (upd H p (.tup [.int (Rat.divInt a u).num, .int (Rat.divInt a u).den]))
theorem sc__law_lowest : FnScope ["_law_high", "_law_under", "_law_both"] ["_law_high", "_law_under"] (defScope s__law_lowest) := ⟨rfl, rfl, rfl, by decide +kernel, rfl, by decide +kernel, by decide +kernel⟩
theorem ok_lowest {f : Addr} {fd : FuncData} (F : Fun K "_law_lowest" "_law_lowest" s__law_lowest f fd) (c_common : CommonC P w K mg base) : FnG P w K mg base CX0 4 f fd ["_law_high", "_law_under"] spLowest := by
  refine fun_okG F sc__law_lowest (fun vs H Q E h => ?_) (fun cdv A outer s H vs Q E bare hr h => ?_)
  · obtain ⟨a, b, rfl, _⟩ := h
    rfl
  · obtain ⟨a, u, rfl, hu, su, k⟩ := h
    refine ⟨_, (pss_cons (ps_set (i := 2) sc__law_lowest.nd rfl (Or.inl rfl) (pe_cut (pe_ifExp (pt_cmpR op_gt (pv 1) pe_int (nomark _)) (pe_cg c_common bare hr (by decide) rfl (pa_cons (pv 0) (pa_cons (pv 1) pa_nil))) (pe_un un_neg (pe_cg c_common bare hr (by decide) rfl (pa_cons (pv 0) (pa_cons (pv 1) pa_nil)))))))
  (pss_one (ps_ret (pe_tup (pa_cons (pe_op op_fdivZ (pv 0) (pv 2)) (pa_cons (pe_op op_fdivZ (pv 1) (pv 2)) pa_nil)))))), ?_⟩
    refine ⟨fun v H' => v = .int (gd a u) ∧ H' = H, ?_, ?_⟩
    · refine ⟨_, rfl, _, _, rfl, rfl, _, rfl, ?_⟩
      refine ite2 (fun h => ?_) (fun h => ?_)
      · refine ⟨_, rfl, _, rfl, a, u, rfl, ?_, rfl⟩
        unfold gd
        rw [if_pos (of_decide_eq_true h)]
      · refine ⟨_, rfl, _, rfl, a, u, rfl, _, rfl, ?_, rfl⟩
        unfold gd
        rw [if_neg (fun z => h (decide_eq_true z))]
    · rintro v H' ⟨rfl, rfl⟩
      have s := sm_div (gd_sm (a := a) hu su) (gd_ne hu)
      refine ⟨_, rfl, _, rfl, _, _, rfl, rfl, s, _, rfl, _, rfl, _, _, rfl, rfl, s, by show 2 ≤ sizeLine; decide, fun p hp => ?_⟩
      have kk := k p hp
      rw [← lo_num hu, ← lo_den hu] at kk
      exact kk

/-! ### _law_purse, _law_from -/
def spPurse (K : PySem.W.Frag) : Sp := fun vs H Q _ => ∃ (a : Addr) (ns : List Int), vs = [.ref a] ∧ SqL K H a (ns.map V.int) ∧ ns.length ≤ 100000 ∧
  ∀ q H', H q = none → Same H H' → QAt H' q 0 → Q (.ref q) H'
theorem sc__law_purse : FnScope ["_law_script", "_law_cell"] ["_law_script"] (defScope s__law_purse) := ⟨rfl, rfl, rfl, by decide +kernel, rfl, by decide +kernel, by decide +kernel⟩
theorem ok_purse {f : Addr} {fd : FuncData} (F : Fun K "_law_purse" "_law_purse" s__law_purse f fd) (T : Blt mg) : FnG P w K mg base CX0 2 f fd ["_law_script"] (spPurse K) := by
  refine fun_okG F sc__law_purse (fun vs H Q E h => ?_) (fun cdv A outer s H vs Q E bare hr h => ?_)
  · obtain ⟨a, ns, rfl, _⟩ := h
    rfl
  · obtain ⟨a, ns, rfl, hS, hl, k⟩ := h
    refine ⟨_, (pss_one (ps_ret (pe_lst (pa_cons (pe_map (K := K) (j := 1) (pe_lc (own := [("_law_cell", 1)]) (g := gName 1) (tt := tYes) rfl sc__law_purse.nd (pi_list (pe_cut (pv 0))) (blkOk_by (N := ["_law_script", "_law_cell"]) (sc := defScope s__law_purse) (by decide +kernel)) (fun _ _ _ _ _ => (pg_name (i := 1) sc__law_purse.nd rfl (Or.inl rfl))) (fun _ _ _ _ _ => pts_nil) (fun _ _ _ _ _ => (pe_cut (pe_op op_modN (pe_callTy call_int1 (by rfl) T.b_int (by decide +kernel) (pa_cons (pv 1) pa_nil)) (pe_op op_mulW (pe_op op_pow pe_int pe_int) (pe_op op_pow pe_int pe_int))))))) (pa_cons pe_int (pa_cons pe_int (pa_cons pe_int pa_nil))))))), ?_⟩
    refine ⟨_, rfl, a, ns.map V.int, (ns.map fun z => z.fmod (10 ^ Int.toNat 60 * 10 ^ Int.toNat 60)).map V.int, rfl, hS, by simp, by simpa using hl, ?_, fun D H1 s1 hD e1 => ?_⟩
    · intro i x y H' hx hy s'
      rw [List.getElem?_map] at hx
      rw [List.getElem?_map, List.getElem?_map] at hy
      cases e : ns[i]? with
      | none => rw [e] at hx; cases hx
      | some z =>
        rw [e] at hx hy
        obtain rfl := (Option.some.inj hx).symm
        obtain rfl := (Option.some.inj hy).symm
        refine ⟨_, rfl, Or.inl ⟨_, rfl, _, _, rfl, rfl, ⟨by decide, by decide, by decide⟩, _, _, rfl, rfl, ⟨by decide, by decide, by decide⟩, _, _, rfl, rfl, sm_mul (sm_lt (k := 61) (by decide) (by decide) (by decide)) (sm_lt (k := 61) (by decide) (by decide) (by decide)), _, _, rfl, rfl, (show (10 : Int) ^ Int.toNat 60 * 10 ^ Int.toNat 60 ≠ 0 by decide), ?_⟩⟩
        exact ⟨rfl, Same.refl _⟩
    · refine ⟨by show 4 ≤ sizeLine; decide, fun q hq => ?_⟩
      have nq : D ≠ q := ne_of_none e1 hq
      have hq' : H q = none := s1.free hq
      refine k q _ hq' (MG.Same.new s1 hq) ⟨D, _, 0, 0, 0, upd_same, (by rw [upd_ne nq]; exact e1), ?_, (by simpa using hl), by decide, by decide, by decide⟩
      intro y hy
      obtain ⟨z, _, rfl⟩ := List.mem_map.mp hy
      have e : (10 : Int) ^ Int.toNat 60 * 10 ^ Int.toNat 60 = 10 ^ 120 := by decide
      rw [e]
      exact ⟨fmod_ge (by decide), fmod_lt (by decide)⟩
abbrev PurseC (P : Program) (w : World) (K : PySem.W.Frag) (mg : Str → Option Value) (base : Heap) : Prop := CalG P w K mg base 2 "_law_purse" (spPurse K) []
theorem cut_map (ns : List Int) (lo hi : Option Int) : ∃ zs : List Int, cutV (ns.map V.int) lo hi = zs.map V.int ∧ zs.length ≤ ns.length := by
  refine ⟨(ns.drop (HT.sIx ns.length 0 lo)).take (HT.sIx ns.length ns.length hi - HT.sIx ns.length 0 lo), ?_, ?_⟩
  · unfold cutV
    rw [List.length_map, List.map_take, List.map_drop]
  · rw [List.length_take, List.length_drop]
    omega
def spFrom (K : PySem.W.Frag) : Sp := fun vs H Q _ => ∃ (a : Addr) (ns : List Int) (j : Int), vs = [.ref a, .int j] ∧ SqL K H a (ns.map V.int) ∧ ns.length ≤ 1000 ∧
  ∀ q H', H q = none → Same H H' → QAt H' q 0 → Q (.ref q) H'
theorem sc__law_from : FnScope ["_law_script", "_law_k"] ["_law_script", "_law_k"] (defScope s__law_from) := ⟨rfl, rfl, rfl, by decide +kernel, rfl, by decide +kernel, by decide +kernel⟩
theorem ok_from {f : Addr} {fd : FuncData} (F : Fun K "_law_from" "_law_from" s__law_from f fd) (c_purse : PurseC P w K mg base) : FnG P w K mg base CX0 4 f fd ["_law_script", "_law_k"] (spFrom K) := by
  refine fun_okG F sc__law_from (fun vs H Q E h => ?_) (fun cdv A outer s H vs Q E bare hr h => ?_)
  · obtain ⟨a, ns, j, rfl, _⟩ := h
    rfl
  · obtain ⟨a, ns, j, rfl, hS, hl, k⟩ := h
    obtain ⟨z1, e1, l1⟩ := cut_map ns (some j) none
    obtain ⟨z2, e2, l2⟩ := cut_map ns none (some j)
    refine ⟨_, (pss_one (ps_ret (pe_cg c_purse bare hr (by decide) rfl (pa_cons (pe_op op_cat (pe_slice sl_list (pv 0) (po_some (pv 1)) po_none) (pe_slice sl_list (pv 0) po_none (po_some (pv 1)))) pa_nil)))), ?_⟩
    refine ⟨_, rfl, _, rfl, j, rfl, a, _, rfl, hS, fun p hp => ?_⟩
    have s1 : Same H (upd H p (.lst (cutV (ns.map V.int) (some j) none))) := MG.Same.new (Same.refl H) hp
    refine ⟨_, rfl, _, rfl, j, rfl, a, _, rfl, s1.seq hS, fun p2 hp2 => ?_⟩
    have n12 : p ≠ p2 := ne_of_none upd_same hp2
    have s2 := MG.Same.new (o := .lst (cutV (ns.map V.int) none (some j))) s1 hp2
    refine ⟨p, p2, _, _, rfl, rfl, by rw [upd_ne n12]; exact upd_same, upd_same, ?_, fun p3 hp3 => ?_⟩
    · rw [e1, e2, List.length_map, List.length_map]
      exact Nat.le_trans (m := 2000) (by omega) (by decide)
    · refine ⟨p3, z1 ++ z2, rfl, ?_, by rw [List.length_append]; omega, fun q H' hq s q0 => ?_⟩
      · refine SqL.of ?_
        rw [upd_same, e1, e2, List.map_append]
      · have s3 := MG.Same.new (o := .lst (cutV (ns.map V.int) (some j) none ++ cutV (ns.map V.int) none (some j))) s2 hp3
        exact k q H' (s3.free hq) (s3.trans s) q0
end
end Lw

namespace Lw
open PySem PySem.Spec PyProof.Rows L2 MG
abbrev s_is_whole : Stmt := top 6
abbrev s_is_number : Stmt := top 7
abbrev s_to_ratio : Stmt := top 8
abbrev s_Ratio___init__ : Stmt := inClass (top 10) 0
abbrev s_Ratio_top : Stmt := inClass (top 10) 1
abbrev s_Ratio_bottom : Stmt := inClass (top 10) 2
abbrev s_Ratio_over : Stmt := inClass (top 10) 4
abbrev s_Ratio___add__ : Stmt := inClass (top 10) 5
abbrev s_Ratio___sub__ : Stmt := inClass (top 10) 6
abbrev s_Ratio___mul__ : Stmt := inClass (top 10) 7
abbrev s_Ratio___neg__ : Stmt := inClass (top 10) 8
abbrev s_Ratio___eq__ : Stmt := inClass (top 10) 9
/-- what the top says of the class Ratio, at C -/
structure TxR (K : PySem.W.Frag) (mg : Str → Option Value) (C : Addr) : Prop extends Blt mg where
  cl : Cls K C
  nT : NoAttr K C "_top"
  nB : NoAttr K C "_bottom"
  g_Ratio : mg "Ratio" = some (.ref C)
  g_gcd : mg "gcd" = some (.builtin "math.gcd")
  ca : PySem.W.findIn K (.ref C) "__class__" = some (some (.builtin "object.__class__"))
  cn : PySem.W.specialIn K (.builtin "object.__class__") "__get__" = some (some (.builtin "getset_descriptor.__get__"))
  ct : PySem.W.takesIn K (.builtin "object.__class__") = some true
  cm : PySem.W.mroIn K C (.type "object") = some true
  kI : PySem.W.kitOne K (.ref C) (.type "int") = some false
  kB : PySem.W.kitOne K (.ref C) (.type "bool") = some false
  kC : PySem.W.kitOne K (.ref C) (.ref C) = some true
  iC : PySem.W.kitOne K (.type "int") (.ref C) = some false
def flds (p : Rat) : List (Str × V) := [("_top", .int p.num), ("_bottom", .int p.den)]
theorem kn : ¬ (("_top" : Str) = "_bottom") := by decide +kernel
theorem flds_put (a b : Int) : putF "_bottom" (.int b) (putF "_top" (.int a) []) = ([("_top", .int a), ("_bottom", .int b)] : List (Str × V)) := by
  show (if ("_top" : Str) = "_bottom" then _ else (("_top" : Str), V.int a) :: putF "_bottom" (V.int b) []) = _
  rw [if_neg kn]
  rfl
theorem flds_top (p : Rat) : (flds p).lookup ("_top" : Str) = some (.int p.num) := by simp [flds, List.lookup]
theorem flds_bottom (p : Rat) : (flds p).lookup ("_bottom" : Str) = some (.int p.den) := by
  have h : (("_bottom" : Str) == "_top") = false := by decide +kernel
  simp [flds, List.lookup, h]
theorem flds_no (p : Rat) {m : Str} (h1 : (m == ("_top" : Str)) = false) (h2 : (m == ("_bottom" : Str)) = false) : (flds p).lookup m = none := by
  simp [flds, List.lookup, h1, h2]
/-- a Ratio of the value p stands at r -/
def RatAt (C : Addr) (H : Hp) (r : Addr) (p : Rat) : Prop := ∃ dx, H r = some (.ins C dx (flds p))
theorem RatAt.same {C : Addr} {H H' : Hp} {r : Addr} {p : Rat} (h : RatAt C H r p) (s : Same H H') : RatAt C H' r p := h.elim fun dx e => ⟨dx, s _ _ e⟩
theorem RatAt.tyx {K : PySem.W.Frag} {mg : Str → Option Value} {C : Addr} {H : Hp} {r : Addr} {p : Rat} (T : TxR K mg C) (h : RatAt C H r p) : TyX K H (.ref r) (.ref C) :=
  h.elim fun dx e => .base (.ins e T.cl T.ca T.cn T.ct T.cm)
theorem tyx_int {K : PySem.W.Frag} {H : Hp} (i : Int) : TyX K H (.int i) (.type "int") := .base (.int i)
section
variable {P : Program} {w : World} {K : PySem.W.Frag} {mg : Str → Option Value} {base : Heap} {C : Addr}
/-! ### is_whole, is_number -/
def spWhole (K : PySem.W.Frag) : Sp := fun vs H Q _ => ∃ (x : V) (t : Value) (b1 b2 : Bool), vs = [x] ∧ TyX K H x t ∧
  PySem.W.kitOne K t (.type "int") = some b1 ∧ PySem.W.kitOne K t (.type "bool") = some b2 ∧ Q (.bl (b1 && !b2)) H
theorem sc_is_whole : FnScope ["value"] ["value"] (defScope s_is_whole) := ⟨rfl, rfl, rfl, by decide +kernel, rfl, by decide +kernel, by decide +kernel⟩
theorem ok_whole {f : Addr} {fd : FuncData} (F : Fun K "is_whole" "is_whole" s_is_whole f fd) (T : Blt mg) : FnOk P w K mg base CX0 2 f fd ["value"] (spWhole K) := by
  refine F.ok sc_is_whole (fun vs H Q E h => ?_) (fun cdv A outer s H vs Q E hr h => ?_)
  · obtain ⟨x, t, b1, b2, rfl, _⟩ := h
    rfl
  · obtain ⟨x, t, b1, b2, rfl, tx, k1, k2, k⟩ := h
    refine ⟨_, (pss_one (ps_ret (pe_and (pe_callB (id := "isinstance") (call_isiK (K := K)) (by rfl) T.b_isinstance (by decide +kernel) (pa_cons (pv 0) (pa_cons (pe_bltn (v := V.ty "int") (u := Value.type "int") (by rfl) T.b_int (by decide +kernel) rfl) pa_nil))) (pe_one (pe_not (pe_callB (id := "isinstance") (call_isiK (K := K)) (by rfl) T.b_isinstance (by decide +kernel) (pa_cons (pv 0) (pa_cons (pe_bltn (v := V.ty "bool") (u := Value.type "bool") (by rfl) T.b_bool (by decide +kernel) rfl) pa_nil)))))))), ?_⟩
    refine ⟨_, rfl, x, _, _, _, _, rfl, .ty "int", tx, k1, _, rfl, ?_⟩
    cases b1 with
    | false => exact iteF k
    | true =>
      refine iteT ?_
      refine ⟨_, rfl, x, _, _, _, _, rfl, .ty "bool", tx, k2, _, rfl, ?_⟩
      exact k
abbrev WholeC (P : Program) (w : World) (K : PySem.W.Frag) (mg : Str → Option Value) (base : Heap) : Prop := CalF P w K mg base 2 "is_whole" (spWhole K) []
def spNumber (K : PySem.W.Frag) (C : Addr) : Sp := fun vs H Q _ => ∃ (x : V) (t : Value) (b1 b2 b3 : Bool), vs = [x] ∧ TyX K H x t ∧
  PySem.W.kitOne K t (.type "int") = some b1 ∧ PySem.W.kitOne K t (.type "bool") = some b2 ∧ PySem.W.kitOne K t (.ref C) = some b3 ∧ Q (.bl ((b1 && !b2) || b3)) H
theorem sc_is_number : FnScope ["value"] ["value"] (defScope s_is_number) := ⟨rfl, rfl, rfl, by decide +kernel, rfl, by decide +kernel, by decide +kernel⟩
theorem ok_number {f : Addr} {fd : FuncData} (F : Fun K "is_number" "is_number" s_is_number f fd) (T : TxR K mg C) (c_whole : WholeC P w K mg base) : FnOk P w K mg base CX0 4 f fd ["value"] (spNumber K C) := by
  refine F.ok sc_is_number (fun vs H Q E h => ?_) (fun cdv A outer s H vs Q E hr h => ?_)
  · obtain ⟨x, t, b1, b2, b3, rfl, _⟩ := h
    rfl
  · obtain ⟨x, t, b1, b2, b3, rfl, tx, k1, k2, k3, k⟩ := h
    refine ⟨_, (pss_one (ps_ret (pe_or (pe_cf c_whole hr (by decide) rfl (pa_cons (pv 0) pa_nil)) (pe_one (pe_callB (id := "isinstance") (call_isiK (K := K)) (by rfl) T.b_isinstance (by decide +kernel) (pa_cons (pv 0) (pa_cons (pe_glob (v := V.ref C) rfl T.g_Ratio rfl) pa_nil))))))), ?_⟩
    refine ⟨_, rfl, x, t, b1, b2, rfl, tx, k1, k2, _, rfl, ?_⟩
    cases e : (b1 && !b2) with
    | true =>
      refine iteT ?_
      rw [e] at k
      exact k
    | false =>
      refine iteF ?_
      rw [e] at k
      exact ⟨_, rfl, x, _, _, _, _, rfl, .own C, tx, k3, k⟩
abbrev NumberC (P : Program) (w : World) (K : PySem.W.Frag) (mg : Str → Option Value) (base : Heap) (C : Addr) : Prop := CalF P w K mg base 4 "is_number" (spNumber K C) []
/-! ### Ratio(top, bottom), where both are integers and the bottom is not 0 -/
def spInit (C : Addr) : Sp := fun vs H Q _ => ∃ (r dx : Addr) (a b : Int), vs = [.ref r, .int a, .int b] ∧ H r = some (.ins C dx []) ∧ b ≠ 0 ∧ Sm b ∧
  ∀ H', H' r = some (.ins C dx (flds (Rat.divInt a b))) → (∀ c o, H c = some o → c ≠ r → H' c = some o) → Q .non H'
theorem sc_Ratio___init__ : FnScope ["self", "top", "bottom", "given", "shared"] ["self", "top", "bottom"] (defScope s_Ratio___init__) := ⟨rfl, rfl, rfl, by decide +kernel, rfl, by decide +kernel, by decide +kernel⟩
theorem ok_init {f : Addr} {fd : FuncData} {dvs : List V} (F : FunD K "__init__" "Ratio.__init__" (defArgs s_Ratio___init__) (defBody s_Ratio___init__) (defScope s_Ratio___init__) dvs [] f fd) (T : TxR K mg C) (c_whole : WholeC P w K mg base) : FnOk P w K mg base CX0 4 f fd ["self", "top", "bottom"] (spInit C) := by
  refine F.ok sc_Ratio___init__ (fun vs H Q E h => ?_) (fun cdv A outer s H vs Q E hr h => ?_)
  · obtain ⟨r, dx, a, b, rfl, _⟩ := h
    rfl
  · obtain ⟨r, dx, a, b, rfl, hr0, hb, sb, k⟩ := h
    suffices hh : ∃ t, PSs (cxOf CX0 P w K mg base ["self", "top", "bottom", "given", "shared"] "Ratio.__init__" (defScope s_Ratio___init__) f cdv A outer s H E).nox (defBody s_Ratio___init__) t ∧ t { nx := fun _ H' => Q .non H', rt := Q } (start ["self", "top", "bottom", "given", "shared"] [.ref r, .int a, .int b]) H by
      obtain ⟨t, h1, h2⟩ := hh
      exact ⟨t, h1.nox, h2⟩
    refine ⟨_, (pss_cons (ps_for PassesOwn.never rfl (pi_tup (pe_tup (pa_cons (pv 1) (pa_cons (pv 2) pa_nil)))) (pg_name (i := 3) sc_Ratio___init__.nd rfl (Or.inl rfl))
  (pss_one (ps_if (pt_not (pt_val (pe_cf c_whole hr (by decide) rfl (pa_cons (pv 3) pa_nil)))) (pss_one ps_never)
  pss_nil)))
  (pss_cons (ps_if (pt_cmpR op_eq (pv 2) pe_int (nomark _)) (pss_one ps_never)
  pss_nil)
  (pss_cons (ps_set (i := 4) sc_Ratio___init__.nd rfl (Or.inl rfl) (pe_callBfun cr_gcd rfl T.g_gcd (pa_cons (pv 1) (pa_cons (pv 2) pa_nil))))
  (pss_cons (ps_cut (ps_if (pt_cmpR op_lt (pv 2) pe_int (nomark _)) (pss_one (ps_set (i := 4) sc_Ratio___init__.nd rfl (Or.inl rfl) (pe_un un_neg (pv 4))))
  pss_nil))
  (pss_cons (ps_fld (pv 0) (pe_op op_fdivZ (pv 1) (pv 4)) rfl)
  (pss_one (ps_fld (pv 0) (pe_op op_fdivZ (pv 2) (pv 4)) rfl))))))), ?_⟩
    -- for given in (top, bottom)
    refine ⟨_, rfl, _, rfl, by show 2 ≤ sizeLine; decide, fun t ht => ⟨t, rfl, ⟨_, SqT.of upd_same⟩, ?_⟩⟩
    have s1 : Same H (upd H t (.tup [.int a, .int b])) := MG.Same.new (Same.refl H) ht
    refine for_tup (K := K) (a := t) (xs := [.int a, .int b]) (fun i σ H' => H' = upd H t (.tup [.int a, .int b]) ∧ ∃ v : Option V, σ = [some (.ref r), some (.int a), some (.int b), v, none]) ⟨rfl, none, rfl⟩ ?_ ?_ ?_
    · rintro i σ H' _ ⟨rfl, _⟩
      exact SqT.of upd_same
    · rintro i x σ H' hx ⟨rfl, v, rfl⟩
      obtain ⟨z, rfl⟩ : ∃ z, x = V.int z := by
        match i, hx with
        | 0, hx => exact ⟨a, (Option.some.inj hx).symm⟩
        | 1, hx => exact ⟨b, (Option.some.inj hx).symm⟩
      refine ⟨_, rfl, _, _, true, false, rfl, tyx_int z, kit_ty (by decide +kernel), kit_ty (by decide +kernel), _, rfl, ?_⟩
      exact ⟨rfl, _, rfl⟩
    · rintro σ H' ⟨rfl, v, rfl⟩
      -- if bottom == 0
      refine ⟨_, rfl, rfl, _, rfl, ?_⟩
      refine ite2 (fun z => ?_) (fun _ => ?_)
      · exact absurd (V.int.inj (of_decide_eq_true z)) hb
      -- shared = gcd(top, bottom); if bottom < 0: shared = -shared
      refine ⟨_, rfl, _, rfl, a, b, rfl, ?_⟩
      refine ⟨fun σ H' => H' = upd H t (.tup [.int a, .int b]) ∧ σ = [some (.ref r), some (.int a), some (.int b), v, some (.int (gd a b))], ?_, ?_⟩
      · refine ⟨_, rfl, _, _, rfl, rfl, _, rfl, ?_⟩
        refine ite2 (fun z => ?_) (fun z => ?_)
        · refine ⟨_, rfl, _, rfl, rfl, ?_⟩
          have hz : b < 0 := of_decide_eq_true z
          unfold gd
          rw [if_neg (by omega)]
          rfl
        · refine ⟨rfl, ?_⟩
          have hz : ¬ b < 0 := fun q => z (decide_eq_true q)
          unfold gd
          rw [if_pos (by omega)]
          rfl
      rintro σ H' ⟨rfl, rfl⟩
      have ds := sm_div (gd_sm (a := a) hb sb) (gd_ne hb)
      have hr1 := s1 _ _ hr0
      -- self._top = top // shared; self._bottom = bottom // shared
      refine ⟨_, rfl, _, rfl, _, _, rfl, rfl, ds, _, rfl, r, C, dx, _, rfl, hr1, T.cl, T.nT, (by show 0 < 1000; decide), ?_⟩
      refine ⟨_, rfl, _, rfl, _, _, rfl, rfl, ds, _, rfl, r, C, dx, _, rfl, upd_same, T.cl, T.nB, (by show 1 < 1000; decide), ?_⟩
      refine k _ ?_ fun c o hc hne => ?_
      · rw [upd_same, flds_put, lo_num hb, lo_den hb]
        rfl
      · rw [upd_ne hne, upd_ne hne]
        exact s1 _ _ hc
abbrev Rat2C (P : Program) (w : World) (K : PySem.W.Frag) (mg : Str → Option Value) (base : Heap) (C : Addr) : Prop := MakF P w K mg base 4 "Ratio" C (spInit C) []
abbrev Rat1C (P : Program) (w : World) (K : PySem.W.Frag) (mg : Str → Option Value) (base : Heap) (C : Addr) : Prop := MakF P w K mg base 4 "Ratio" C (spInit C) [.int 1]
/-- the reading of Ratio(a, b) -/
theorem make_rat {H : Hp} {a b : Int} {Q : VK} (hb : b ≠ 0) (sb : Sm b) (k : ∀ r H', H r = none → Same H H' → RatAt C H' r (Rat.divInt a b) → Q (.ref r) H') :
    ∀ x dx, H x = none → H dx = none → dx ≠ x → spInit C [.ref x, .int a, .int b] (upd (upd H dx (.own x)) x (.ins C dx [])) (fun v H2 => v = .non ∧ Q (.ref x) H2) E0 := by
  intro x dx hx hdx hne
  refine ⟨x, dx, a, b, rfl, upd_same, hb, sb, fun H' e kp => ⟨rfl, k x H' hx (fun c o hc => ?_) ⟨dx, e⟩⟩⟩
  have n1 := ne_of_none hc hx
  have n2 := ne_of_none hc hdx
  exact kp c o (by rw [upd_ne n1, upd_ne n2]; exact hc) n1
/-! ### to_ratio -/
/-- a number: a Ratio, or an int -/
def NumAt (C : Addr) (H : Hp) (y : V) (q : Rat) : Prop := (∃ r, y = .ref r ∧ RatAt C H r q) ∨ ∃ z : Int, y = .int z ∧ q = Rat.divInt z 1
theorem NumAt.same {H H' : Hp} {y : V} {q : Rat} (h : NumAt C H y q) (s : Same H H') : NumAt C H' y q := by
  rcases h with ⟨r, e, h⟩ | h
  · exact .inl ⟨r, e, h.same s⟩
  · exact .inr h
theorem NumAt.is {H : Hp} {y : V} {q : Rat} (T : TxR K mg C) (h : NumAt C H y q) : ∃ t b1 b2 b3, TyX K H y t ∧ PySem.W.kitOne K t (.type "int") = some b1 ∧ PySem.W.kitOne K t (.type "bool") = some b2 ∧
    PySem.W.kitOne K t (.ref C) = some b3 ∧ ((b1 && !b2) || b3) = true := by
  rcases h with ⟨r, rfl, h⟩ | ⟨z, rfl, _⟩
  · exact ⟨_, _, _, _, h.tyx T, T.kI, T.kB, T.kC, rfl⟩
  · exact ⟨_, true, false, _, tyx_int z, kit_ty (by decide +kernel), kit_ty (by decide +kernel), T.iC, rfl⟩
def spTo (C : Addr) : Sp := fun vs H Q _ => ∃ (y : V) (q : Rat), vs = [y] ∧ NumAt C H y q ∧ ∀ r H', Same H H' → RatAt C H' r q → Q (.ref r) H'
theorem sc_to_ratio : FnScope ["number"] ["number"] (defScope s_to_ratio) := ⟨rfl, rfl, rfl, by decide +kernel, rfl, by decide +kernel, by decide +kernel⟩
theorem ok_to {f : Addr} {fd : FuncData} (F : Fun K "to_ratio" "to_ratio" s_to_ratio f fd) (T : TxR K mg C) (m_rat1 : Rat1C P w K mg base C) : FnOk P w K mg base CX0 6 f fd ["number"] (spTo C) := by
  refine F.ok sc_to_ratio (fun vs H Q E h => ?_) (fun cdv A outer s H vs Q E hr h => ?_)
  · obtain ⟨y, q, rfl, _⟩ := h
    rfl
  · obtain ⟨y, q, rfl, hy, k⟩ := h
    refine ⟨_, (pss_cons (ps_if (pt_val (pe_callB (id := "isinstance") (call_isiK (K := K)) (by rfl) T.b_isinstance (by decide +kernel) (pa_cons (pv 0) (pa_cons (pe_glob (v := V.ref C) rfl T.g_Ratio rfl) pa_nil)))) (pss_one (ps_ret (pv 0)))
  pss_nil)
  (pss_one (ps_ret (pe_mkf m_rat1 hr (by decide) rfl (pa_cons (pv 0) pa_nil))))), ?_⟩
    rcases hy with ⟨r, rfl, h⟩ | ⟨z, rfl, rfl⟩
    · refine ⟨_, rfl, _, _, _, _, _, rfl, .own C, h.tyx T, T.kC, _, rfl, ?_⟩
      refine iteT ?_
      exact ⟨_, rfl, k r H (Same.refl H) h⟩
    · refine ⟨_, rfl, _, _, _, _, _, rfl, .own C, tyx_int z, T.iC, _, rfl, ?_⟩
      refine iteF ?_
      refine ⟨_, rfl, ?_⟩
      exact make_rat (by decide) (sm_lt (k := 1) (by decide) (by decide) (by decide)) fun r H' _ s h => k r H' s h
abbrev ToC (P : Program) (w : World) (K : PySem.W.Frag) (mg : Str → Option Value) (base : Heap) (C : Addr) : Prop := CalF P w K mg base 6 "to_ratio" (spTo C) []

/-! ### the operators -/
def spBin (C : Addr) (g : Rat → Rat → Rat) : Sp := fun vs H Q _ => ∃ (r : Addr) (y : V) (p q : Rat), vs = [.ref r, y] ∧ RatAt C H r p ∧ NumAt C H y q ∧ Bd p 150 ∧ Bd q 150 ∧
  ∀ r' H', Same H H' → RatAt C H' r' (g p q) → Q (.ref r') H'
theorem sc_Ratio___add__ : FnScope ["self", "other", "more", "top"] ["self", "other"] (defScope s_Ratio___add__) := ⟨rfl, rfl, rfl, by decide +kernel, rfl, by decide +kernel, by decide +kernel⟩
theorem ok_add {f : Addr} {fd : FuncData} (F : Fun K "__add__" "Ratio.__add__" s_Ratio___add__ f fd) (T : TxR K mg C) (c_number : NumberC P w K mg base C) (c_to : ToC P w K mg base C) (m_rat2 : Rat2C P w K mg base C) : FnOk P w K mg base CX0 8 f fd ["self", "other"] (spBin C fun p q => p + q) := by
  refine F.ok sc_Ratio___add__ (fun vs H Q E h => ?_) (fun cdv A outer s H vs Q E hr h => ?_)
  · obtain ⟨r, y, p, q, rfl, _⟩ := h
    rfl
  · obtain ⟨r, y, p, q, rfl, hp, hy, bp, bq, k⟩ := h
    refine ⟨_, (pss_cons (ps_if (pt_not (pt_val (pe_cf c_number hr (by decide) rfl (pa_cons (pv 1) pa_nil)))) (pss_one ps_never)
  pss_nil)
  (pss_cons (ps_set (i := 2) sc_Ratio___add__.nd rfl (Or.inl rfl) (pe_cf c_to hr (by decide) rfl (pa_cons (pv 1) pa_nil)))
  (pss_cons (ps_set (i := 3) sc_Ratio___add__.nd rfl (Or.inl rfl) (pe_op op_add (pe_op op_mulW (pe_fld (pv 0) rfl) (pe_fld (pv 2) rfl)) (pe_op op_mulW (pe_fld (pv 2) rfl) (pe_fld (pv 0) rfl))))
  (pss_one (ps_ret (pe_mkf m_rat2 hr (by decide) rfl (pa_cons (pv 3) (pa_cons (pe_op op_mulW (pe_fld (pv 0) rfl) (pe_fld (pv 2) rfl)) pa_nil)))))))), ?_⟩
    obtain ⟨ty, b1, b2, b3, h1, h2, h3, h4, h5⟩ := hy.is T
    refine ⟨_, rfl, y, ty, b1, b2, b3, rfl, h1, h2, h3, h4, _, rfl, ?_⟩
    rw [h5]
    refine iteF ?_
    refine ⟨_, rfl, y, q, rfl, hy, fun r2 H1 s1 h2 => ?_⟩
    obtain ⟨d1, e1⟩ := hp.same s1
    obtain ⟨d2, e2⟩ := id h2
    refine ⟨_, rfl, r, C, d1, _, _, rfl, e1, T.cl, T.nT, flds_top p, _, rfl, r2, C, d2, _, _, rfl, e2, T.cl, T.nB, flds_bottom q, _, _, rfl, rfl, sm_mul (bp.num (by decide)) (bq.den (by decide)), ?_⟩
    refine ⟨_, rfl, r2, C, d2, _, _, rfl, e2, T.cl, T.nT, flds_top q, _, rfl, r, C, d1, _, _, rfl, e1, T.cl, T.nB, flds_bottom p, _, _, rfl, rfl, sm_mul (bq.num (by decide)) (bp.den (by decide)), _, _, rfl, rfl, ?_⟩
    refine ⟨_, rfl, _, rfl, r, C, d1, _, _, rfl, e1, T.cl, T.nB, flds_bottom p, _, rfl, r2, C, d2, _, _, rfl, e2, T.cl, T.nB, flds_bottom q, _, _, rfl, rfl, sm_mul (bp.den (by decide)) (bq.den (by decide)), ?_⟩
    refine make_rat (den_ne p q) (sm_den2 bp bq (by decide)) fun r' H' _ s h => k r' H' (s1.trans s) ?_
    show RatAt C H' r' (p + q)
    rw [add_eq]
    exact h
theorem sc_Ratio___sub__ : FnScope ["self", "other", "less", "top"] ["self", "other"] (defScope s_Ratio___sub__) := ⟨rfl, rfl, rfl, by decide +kernel, rfl, by decide +kernel, by decide +kernel⟩
theorem ok_sub {f : Addr} {fd : FuncData} (F : Fun K "__sub__" "Ratio.__sub__" s_Ratio___sub__ f fd) (T : TxR K mg C) (c_number : NumberC P w K mg base C) (c_to : ToC P w K mg base C) (m_rat2 : Rat2C P w K mg base C) : FnOk P w K mg base CX0 8 f fd ["self", "other"] (spBin C fun p q => p - q) := by
  refine F.ok sc_Ratio___sub__ (fun vs H Q E h => ?_) (fun cdv A outer s H vs Q E hr h => ?_)
  · obtain ⟨r, y, p, q, rfl, _⟩ := h
    rfl
  · obtain ⟨r, y, p, q, rfl, hp, hy, bp, bq, k⟩ := h
    refine ⟨_, (pss_cons (ps_if (pt_not (pt_val (pe_cf c_number hr (by decide) rfl (pa_cons (pv 1) pa_nil)))) (pss_one ps_never)
  pss_nil)
  (pss_cons (ps_set (i := 2) sc_Ratio___sub__.nd rfl (Or.inl rfl) (pe_cf c_to hr (by decide) rfl (pa_cons (pv 1) pa_nil)))
  (pss_cons (ps_set (i := 3) sc_Ratio___sub__.nd rfl (Or.inl rfl) (pe_op op_sub (pe_op op_mulW (pe_fld (pv 0) rfl) (pe_fld (pv 2) rfl)) (pe_op op_mulW (pe_fld (pv 2) rfl) (pe_fld (pv 0) rfl))))
  (pss_one (ps_ret (pe_mkf m_rat2 hr (by decide) rfl (pa_cons (pv 3) (pa_cons (pe_op op_mulW (pe_fld (pv 0) rfl) (pe_fld (pv 2) rfl)) pa_nil)))))))), ?_⟩
    obtain ⟨ty, b1, b2, b3, h1, h2, h3, h4, h5⟩ := hy.is T
    refine ⟨_, rfl, y, ty, b1, b2, b3, rfl, h1, h2, h3, h4, _, rfl, ?_⟩
    rw [h5]
    refine iteF ?_
    refine ⟨_, rfl, y, q, rfl, hy, fun r2 H1 s1 h2 => ?_⟩
    obtain ⟨d1, e1⟩ := hp.same s1
    obtain ⟨d2, e2⟩ := id h2
    refine ⟨_, rfl, r, C, d1, _, _, rfl, e1, T.cl, T.nT, flds_top p, _, rfl, r2, C, d2, _, _, rfl, e2, T.cl, T.nB, flds_bottom q, _, _, rfl, rfl, sm_mul (bp.num (by decide)) (bq.den (by decide)), ?_⟩
    refine ⟨_, rfl, r2, C, d2, _, _, rfl, e2, T.cl, T.nT, flds_top q, _, rfl, r, C, d1, _, _, rfl, e1, T.cl, T.nB, flds_bottom p, _, _, rfl, rfl, sm_mul (bq.num (by decide)) (bp.den (by decide)), _, _, rfl, rfl, ?_⟩
    refine ⟨_, rfl, _, rfl, r, C, d1, _, _, rfl, e1, T.cl, T.nB, flds_bottom p, _, rfl, r2, C, d2, _, _, rfl, e2, T.cl, T.nB, flds_bottom q, _, _, rfl, rfl, sm_mul (bp.den (by decide)) (bq.den (by decide)), ?_⟩
    refine make_rat (den_ne p q) (sm_den2 bp bq (by decide)) fun r' H' _ s h => k r' H' (s1.trans s) ?_
    show RatAt C H' r' (p - q)
    rw [sub_eq]
    exact h
theorem sc_Ratio___mul__ : FnScope ["self", "other", "factor"] ["self", "other"] (defScope s_Ratio___mul__) := ⟨rfl, rfl, rfl, by decide +kernel, rfl, by decide +kernel, by decide +kernel⟩
theorem ok_mul {f : Addr} {fd : FuncData} (F : Fun K "__mul__" "Ratio.__mul__" s_Ratio___mul__ f fd) (T : TxR K mg C) (c_number : NumberC P w K mg base C) (c_to : ToC P w K mg base C) (m_rat2 : Rat2C P w K mg base C) : FnOk P w K mg base CX0 8 f fd ["self", "other"] (spBin C fun p q => p * q) := by
  refine F.ok sc_Ratio___mul__ (fun vs H Q E h => ?_) (fun cdv A outer s H vs Q E hr h => ?_)
  · obtain ⟨r, y, p, q, rfl, _⟩ := h
    rfl
  · obtain ⟨r, y, p, q, rfl, hp, hy, bp, bq, k⟩ := h
    refine ⟨_, (pss_cons (ps_if (pt_not (pt_val (pe_cf c_number hr (by decide) rfl (pa_cons (pv 1) pa_nil)))) (pss_one ps_never)
  pss_nil)
  (pss_cons (ps_set (i := 2) sc_Ratio___mul__.nd rfl (Or.inl rfl) (pe_cf c_to hr (by decide) rfl (pa_cons (pv 1) pa_nil)))
  (pss_one (ps_ret (pe_mkf m_rat2 hr (by decide) rfl (pa_cons (pe_op op_mulW (pe_fld (pv 0) rfl) (pe_fld (pv 2) rfl)) (pa_cons (pe_op op_mulW (pe_fld (pv 0) rfl) (pe_fld (pv 2) rfl)) pa_nil))))))), ?_⟩
    obtain ⟨ty, b1, b2, b3, h1, h2, h3, h4, h5⟩ := hy.is T
    refine ⟨_, rfl, y, ty, b1, b2, b3, rfl, h1, h2, h3, h4, _, rfl, ?_⟩
    rw [h5]
    refine iteF ?_
    refine ⟨_, rfl, y, q, rfl, hy, fun r2 H1 s1 h2 => ?_⟩
    obtain ⟨d1, e1⟩ := hp.same s1
    obtain ⟨d2, e2⟩ := id h2
    refine ⟨_, rfl, r, C, d1, _, _, rfl, e1, T.cl, T.nT, flds_top p, _, rfl, r2, C, d2, _, _, rfl, e2, T.cl, T.nT, flds_top q, _, _, rfl, rfl, sm_mul (bp.num (by decide)) (bq.num (by decide)), ?_⟩
    refine ⟨_, rfl, r, C, d1, _, _, rfl, e1, T.cl, T.nB, flds_bottom p, _, rfl, r2, C, d2, _, _, rfl, e2, T.cl, T.nB, flds_bottom q, _, _, rfl, rfl, sm_mul (bp.den (by decide)) (bq.den (by decide)), ?_⟩
    refine make_rat (den_ne p q) (sm_den2 bp bq (by decide)) fun r' H' _ s h => k r' H' (s1.trans s) ?_
    show RatAt C H' r' (p * q)
    rw [mul_eq]
    exact h
def spNeg (C : Addr) : Sp := fun vs H Q _ => ∃ (r : Addr) (p : Rat), vs = [.ref r] ∧ RatAt C H r p ∧ Bd p 390 ∧ ∀ r' H', Same H H' → RatAt C H' r' (-p) → Q (.ref r') H'
theorem sc_Ratio___neg__ : FnScope ["self"] ["self"] (defScope s_Ratio___neg__) := ⟨rfl, rfl, rfl, by decide +kernel, rfl, by decide +kernel, by decide +kernel⟩
theorem ok_neg {f : Addr} {fd : FuncData} (F : Fun K "__neg__" "Ratio.__neg__" s_Ratio___neg__ f fd) (T : TxR K mg C) (m_rat2 : Rat2C P w K mg base C) : FnOk P w K mg base CX0 8 f fd ["self"] (spNeg C) := by
  refine F.ok sc_Ratio___neg__ (fun vs H Q E h => ?_) (fun cdv A outer s H vs Q E hr h => ?_)
  · obtain ⟨r, p, rfl, _⟩ := h
    rfl
  · obtain ⟨r, p, rfl, hp, bp, k⟩ := h
    refine ⟨_, (pss_one (ps_ret (pe_mkf m_rat2 hr (by decide) rfl (pa_cons (pe_un un_neg (pe_fld (pv 0) rfl)) (pa_cons (pe_fld (pv 0) rfl) pa_nil))))), ?_⟩
    obtain ⟨d1, e1⟩ := id hp
    refine ⟨_, rfl, r, C, d1, _, _, rfl, e1, T.cl, T.nT, flds_top p, _, rfl, _, rfl, r, C, d1, _, _, rfl, e1, T.cl, T.nB, flds_bottom p, ?_⟩
    refine make_rat (by have := p.den_nz; omega) (bp.den (by decide)) fun r' H' _ s h => k r' H' s ?_
    rw [neg_eq]
    exact h
def spEqR (K : PySem.W.Frag) (C : Addr) : Sp := fun vs H Q _ => ∃ (r : Addr) (p : Rat) (y : V), vs = [.ref r, y] ∧ RatAt C H r p ∧
  ((∃ r2 q, y = .ref r2 ∧ RatAt C H r2 q ∧ Q (.bl (decide (p = q))) H) ∨ ∃ t, TyX K H y t ∧ PySem.W.kitOne K t (.ref C) = some false ∧ Q (.bl false) H)
theorem sc_Ratio___eq__ : FnScope ["self", "other"] ["self", "other"] (defScope s_Ratio___eq__) := ⟨rfl, rfl, rfl, by decide +kernel, rfl, by decide +kernel, by decide +kernel⟩
theorem ok_eq {f : Addr} {fd : FuncData} (F : Fun K "__eq__" "Ratio.__eq__" s_Ratio___eq__ f fd) (T : TxR K mg C) : FnOk P w K mg base CX0 2 f fd ["self", "other"] (spEqR K C) := by
  refine F.ok sc_Ratio___eq__ (fun vs H Q E h => ?_) (fun cdv A outer s H vs Q E hr h => ?_)
  · obtain ⟨r, p, y, rfl, _⟩ := h
    rfl
  · obtain ⟨r, p, y, rfl, hp, h⟩ := h
    refine ⟨_, (pss_one (ps_ret (pe_and (pe_callB (id := "isinstance") (call_isiK (K := K)) (by rfl) T.b_isinstance (by decide +kernel) (pa_cons (pv 1) (pa_cons (pe_glob (v := V.ref C) rfl T.g_Ratio rfl) pa_nil))) (pe_and (pe_cmpR op_eq (pe_fld (pv 0) rfl) (pe_fld (pv 1) rfl) (nomark _)) (pe_one (pe_cmpR op_eq (pe_fld (pv 0) rfl) (pe_fld (pv 1) rfl) (nomark _))))))), ?_⟩
    obtain ⟨d1, e1⟩ := id hp
    rcases h with ⟨r2, q, rfl, hq, k⟩ | ⟨t, ty, ki, k⟩
    · obtain ⟨d2, e2⟩ := id hq
      refine ⟨_, rfl, _, _, _, _, _, rfl, .own C, hq.tyx T, T.kC, _, rfl, ?_⟩
      refine iteT ?_
      refine ⟨_, rfl, r, C, d1, _, _, rfl, e1, T.cl, T.nT, flds_top p, _, rfl, r2, C, d2, _, _, rfl, e2, T.cl, T.nT, flds_top q, rfl, _, rfl, ?_⟩
      rw [rat_dec] at k
      have en : decide (V.int p.num = V.int q.num) = decide (p.num = q.num) := by simp
      have ed : decide (V.int p.den = V.int q.den) = decide ((p.den : Int) = q.den) := by simp
      rw [en]
      cases e : decide (p.num = q.num) with
      | false =>
        rw [e] at k
        exact iteF k
      | true =>
        rw [e, Bool.true_and] at k
        refine iteT ?_
        refine ⟨_, rfl, r, C, d1, _, _, rfl, e1, T.cl, T.nB, flds_bottom p, _, rfl, r2, C, d2, _, _, rfl, e2, T.cl, T.nB, flds_bottom q, rfl, ?_⟩
        rw [ed]
        exact k
    · refine ⟨_, rfl, _, _, _, _, _, rfl, .own C, ty, ki, _, rfl, ?_⟩
      exact iteF k
def spTop (C : Addr) : Sp := fun vs H Q _ => ∃ (r : Addr) (p : Rat), vs = [.ref r] ∧ RatAt C H r p ∧ Q (.int p.num) H
def spBottom (C : Addr) : Sp := fun vs H Q _ => ∃ (r : Addr) (p : Rat), vs = [.ref r] ∧ RatAt C H r p ∧ Q (.int p.den) H
theorem sc_Ratio_top : FnScope ["self"] ["self"] (defScope s_Ratio_top) := ⟨rfl, rfl, rfl, by decide +kernel, rfl, by decide +kernel, by decide +kernel⟩
theorem ok_top {f : Addr} {fd : FuncData} (F : Fun K "top" "Ratio.top" s_Ratio_top f fd) (T : TxR K mg C) : FnOk P w K mg base CX0 2 f fd ["self"] (spTop C) := by
  refine F.ok sc_Ratio_top (fun vs H Q E h => ?_) (fun cdv A outer s H vs Q E hr h => ?_)
  · obtain ⟨r, p, rfl, _⟩ := h
    rfl
  · obtain ⟨r, p, rfl, ⟨d1, e1⟩, k⟩ := h
    exact ⟨_, (pss_one (ps_ret (pe_fld (pv 0) rfl))), _, rfl, r, C, d1, _, _, rfl, e1, T.cl, T.nT, flds_top p, k⟩
theorem sc_Ratio_bottom : FnScope ["self"] ["self"] (defScope s_Ratio_bottom) := ⟨rfl, rfl, rfl, by decide +kernel, rfl, by decide +kernel, by decide +kernel⟩
theorem ok_bottom {f : Addr} {fd : FuncData} (F : Fun K "bottom" "Ratio.bottom" s_Ratio_bottom f fd) (T : TxR K mg C) : FnOk P w K mg base CX0 2 f fd ["self"] (spBottom C) := by
  refine F.ok sc_Ratio_bottom (fun vs H Q E h => ?_) (fun cdv A outer s H vs Q E hr h => ?_)
  · obtain ⟨r, p, rfl, _⟩ := h
    rfl
  · obtain ⟨r, p, rfl, ⟨d1, e1⟩, k⟩ := h
    exact ⟨_, (pss_one (ps_ret (pe_fld (pv 0) rfl))), _, rfl, r, C, d1, _, _, rfl, e1, T.cl, T.nB, flds_bottom p, k⟩
def spOver (C : Addr) : Sp := fun vs H Q _ => ∃ (r : Addr) (y : V) (p q : Rat), vs = [.ref r, y] ∧ RatAt C H r p ∧ NumAt C H y q ∧ q.num ≠ 0 ∧ Bd p 150 ∧ Bd q 150 ∧
  ∀ r' H', Same H H' → RatAt C H' r' (p / q) → Q (.ref r') H'
theorem sc_Ratio_over : FnScope ["self", "other", "divisor"] ["self", "other"] (defScope s_Ratio_over) := ⟨rfl, rfl, rfl, by decide +kernel, rfl, by decide +kernel, by decide +kernel⟩
theorem ok_over {f : Addr} {fd : FuncData} (F : Fun K "over" "Ratio.over" s_Ratio_over f fd) (T : TxR K mg C) (c_number : NumberC P w K mg base C) (c_to : ToC P w K mg base C) (m_rat2 : Rat2C P w K mg base C) : FnOk P w K mg base CX0 8 f fd ["self", "other"] (spOver C) := by
  refine F.ok sc_Ratio_over (fun vs H Q E h => ?_) (fun cdv A outer s H vs Q E hr h => ?_)
  · obtain ⟨r, y, p, q, rfl, _⟩ := h
    rfl
  · obtain ⟨r, y, p, q, rfl, hp, hy, q0, bp, bq, k⟩ := h
    refine ⟨_, (pss_cons (ps_if (pt_not (pt_val (pe_cf c_number hr (by decide) rfl (pa_cons (pv 1) pa_nil)))) (pss_one ps_never)
  pss_nil)
  (pss_cons (ps_set (i := 2) sc_Ratio_over.nd rfl (Or.inl rfl) (pe_cf c_to hr (by decide) rfl (pa_cons (pv 1) pa_nil)))
  (pss_cons (ps_if (pt_cmpR op_eq (pe_fld (pv 2) rfl) pe_int (nomark _)) (pss_one ps_never)
  pss_nil)
  (pss_one (ps_ret (pe_mkf m_rat2 hr (by decide) rfl (pa_cons (pe_op op_mulW (pe_fld (pv 0) rfl) (pe_fld (pv 2) rfl)) (pa_cons (pe_op op_mulW (pe_fld (pv 0) rfl) (pe_fld (pv 2) rfl)) pa_nil)))))))), ?_⟩
    obtain ⟨ty, b1, b2, b3, h1, h2, h3, h4, h5⟩ := hy.is T
    refine ⟨_, rfl, y, ty, b1, b2, b3, rfl, h1, h2, h3, h4, _, rfl, ?_⟩
    rw [h5]
    refine iteF ?_
    refine ⟨_, rfl, y, q, rfl, hy, fun r2 H1 s1 h2 => ?_⟩
    obtain ⟨d1, e1⟩ := hp.same s1
    obtain ⟨d2, e2⟩ := id h2
    refine ⟨_, rfl, r2, C, d2, _, _, rfl, e2, T.cl, T.nT, flds_top q, rfl, _, rfl, ?_⟩
    refine ite2 (fun z => ?_) (fun _ => ?_)
    · exact absurd (V.int.inj (of_decide_eq_true z)) q0
    refine ⟨_, rfl, r, C, d1, _, _, rfl, e1, T.cl, T.nT, flds_top p, _, rfl, r2, C, d2, _, _, rfl, e2, T.cl, T.nB, flds_bottom q, _, _, rfl, rfl, sm_mul (bp.num (by decide)) (bq.den (by decide)), ?_⟩
    refine ⟨_, rfl, r, C, d1, _, _, rfl, e1, T.cl, T.nB, flds_bottom p, _, rfl, r2, C, d2, _, _, rfl, e2, T.cl, T.nT, flds_top q, _, _, rfl, rfl, sm_mul (bp.den (by decide)) (bq.num (by decide)), ?_⟩
    have hne : (p.den : Int) * q.num ≠ 0 := Int.mul_ne_zero (by have := p.den_nz; omega) q0
    refine make_rat hne (sm_dn bp bq (by decide)) fun r' H' _ s h => k r' H' (s1.trans s) ?_
    rw [over_eq]
    exact h
end
end Lw

namespace Lw
open PySem PySem.Spec PyProof.Rows L2 MG
abbrev s__law_near : Stmt := top 18
abbrev s__law_sum : Stmt := top 19
abbrev s__law_told : Stmt := top 20
abbrev s__law_right : Stmt := top 21
abbrev s_law : Stmt := top 22
section
variable {P : Program} {w : World} {K : PySem.W.Frag} {mg : Str → Option Value} {base : Heap} {C : Addr}
abbrev LowC (P : Program) (w : World) (K : PySem.W.Frag) (mg : Str → Option Value) (base : Heap) : Prop := CalG P w K mg base 4 "_law_lowest" spLowest []
abbrev GreatC (P : Program) (w : World) (K : PySem.W.Frag) (mg : Str → Option Value) (base : Heap) : Prop := CalG P w K mg base 4 "_law_great" spGreat []
abbrev FromC (P : Program) (w : World) (K : PySem.W.Frag) (mg : Str → Option Value) (base : Heap) : Prop := CalG P w K mg base 4 "_law_from" (spFrom K) []
/-- the pair of a fraction -/
def pr (p : Rat) : List V := [.int p.num, .int p.den]
def spNear : Sp := fun vs H Q _ => ∃ (q : Addr) (n : Nat), vs = [.ref q] ∧ QAt H q n ∧ n + 6 ≤ 100000 ∧
  ∀ (t : Addr) (x : Rat) (H' : Hp), Bd x 22 → Keep q H H' → H' t = some (.tup (pr x)) → QAt H' q (n + 6) → Q (.ref t) H'
def nears : List Int := [4, 12, 1000, 10 ^ Int.toNat 10, 10 ^ Int.toNat 19]
theorem nears_ok : ∀ z ∈ nears, 4 ≤ z ∧ z ≤ 10 ^ 19 := by decide +kernel
theorem sc__law_near : FnScope ["_law_q", "_law_far", "_law_high"] ["_law_q"] (defScope s__law_near) := ⟨rfl, rfl, rfl, by decide +kernel, rfl, by decide +kernel, by decide +kernel⟩
theorem ok_near {f : Addr} {fd : FuncData} (F : Fun K "_law_near" "_law_near" s__law_near f fd) (c_draw : DrawC P w K mg base) (c_lowest : LowC P w K mg base) : FnG P w K mg base CX0 6 f fd ["_law_q"] spNear := by
  refine fun_okG F sc__law_near (fun vs H Q E h => ?_) (fun cdv A outer s H vs Q E bare hr h => ?_)
  · obtain ⟨q, n, rfl, _⟩ := h
    rfl
  · obtain ⟨q, n, rfl, hq, hn, k⟩ := h
    refine ⟨_, (pss_cons (ps_set (i := 1) sc__law_near.nd rfl (Or.inl rfl) (pe_ix (ix_listK (K := K)) (pe_lst (pa_cons pe_int (pa_cons pe_int (pa_cons pe_int (pa_cons (pe_op op_pow pe_int pe_int) (pa_cons (pe_op op_pow pe_int pe_int) pa_nil)))))) (pe_cg c_draw bare hr (by decide) rfl (pa_cons (pv 0) (pa_cons pe_int pa_nil))) (fun _ _ => rfl)))
  (pss_cons (ps_set (i := 2) sc__law_near.nd rfl (Or.inl rfl) (pe_op op_mulW (pe_ix (ix_listK (K := K)) (pe_lst (pa_cons pe_int (pa_cons (pe_un un_neg pe_int) pa_nil))) (pe_cg c_draw bare hr (by decide) rfl (pa_cons (pv 0) (pa_cons pe_int pa_nil))) (fun _ _ => rfl)) (pe_op op_add (pe_op op_mulW (pe_cg c_draw bare hr (by decide) rfl (pa_cons (pv 0) (pa_cons pe_int pa_nil))) (pe_op op_add (pe_op op_fdivZ (pv 1) pe_int) pe_int)) (pe_cg c_draw bare hr (by decide) rfl (pa_cons (pv 0) (pa_cons pe_int pa_nil))))))
  (pss_one (ps_ret (pe_cg c_lowest bare hr (by decide) rfl (pa_cons (pv 2) (pa_cons (pe_op op_add (pe_op op_add pe_int (pe_op op_mulW (pe_cg c_draw bare hr (by decide) rfl (pa_cons (pv 0) (pa_cons pe_int pa_nil))) (pe_op op_add (pe_op op_fdivZ (pv 1) pe_int) pe_int))) (pe_cg c_draw bare hr (by decide) rfl (pa_cons (pv 0) (pa_cons pe_int pa_nil)))) pa_nil))))))), ?_⟩
    refine ⟨_, _, rfl, rfl, ⟨by decide, by decide, by decide⟩, _, _, rfl, rfl, ⟨by decide, by decide, by decide⟩, by show 5 ≤ sizeLine; decide, fun p hp => ?_⟩
    refine ⟨_, rfl, q, 5, n, rfl, hq.new hp, by omega, by decide, by decide, fun r H1 r0 r1 k1 q1 => ?_⟩
    obtain ⟨y, hy, ey⟩ := at_ints (l := nears) r0 (by show r < 5; exact r1)
    obtain ⟨y0, y1⟩ := nears_ok y hy
    refine ⟨p, _, _, _, rfl, rfl, SqL.of (k1 _ _ upd_same (hq.ne hp)), ey, ?_⟩
    refine ⟨_, rfl, by show 2 ≤ sizeLine; decide, fun p2 hp2 => ?_⟩
    refine ⟨_, rfl, q, 2, n + 1, rfl, q1.new hp2, by omega, by decide, by decide, fun r2 H2 r20 r21 k2 q2 => ?_⟩
    obtain ⟨e, he, ee⟩ := at_ints (l := [1, -1]) r20 (by show r2 < 2; exact r21)
    have he' := signs_ok e he
    refine ⟨p2, _, _, _, rfl, rfl, SqL.of (k2 _ _ upd_same (q1.ne hp2)), ee, ?_⟩
    have d0 := fdiv_ge (x := y) (m := 60) (by omega) (by decide)
    have d1 := fdiv_le (x := y) (m := 60) (by omega) (by decide)
    have st : ∀ z : Int, 0 ≤ z → z ≤ 10 ^ 21 → Sm z := fun z h0 h1 => sm_lt (k := 22) (by decide) (by omega) (by omega)
    refine ⟨_, rfl, q, 60, n + 2, rfl, q2, by omega, by decide, by decide, fun r3 H3 r30 r31 k3 q3 => ?_⟩
    have p0 : 0 ≤ r3 * (y.fdiv 60 + 1) := Int.mul_nonneg r30 (by omega)
    have p1 : r3 * (y.fdiv 60 + 1) ≤ 60 * (10 ^ 19 + 1) := Int.mul_le_mul (by omega) (by omega) (by omega) (by omega)
    refine ⟨_, rfl, _, _, rfl, rfl, ⟨by decide, by decide⟩, _, _, rfl, rfl, _, _, rfl, rfl, sm_mul (st _ (by omega) (by omega)) (st _ (by omega) (by omega)), ?_⟩
    refine ⟨_, rfl, q, 60, n + 3, rfl, q3, by omega, by decide, by decide, fun r4 H4 r40 r41 k4 q4 => ?_⟩
    refine ⟨_, _, rfl, rfl, _, _, rfl, rfl, sm_mul (sm_lt (k := 3) (by decide) (by omega) (by omega)) (st _ (by omega) (by omega)), ?_⟩
    -- return lowest(high, 1 + draw(30) * (far // 60 + 1) + draw(4))
    refine ⟨_, rfl, _, rfl, q, 30, n + 4, rfl, q4, by omega, by decide, by decide, fun r5 H5 r50 r51 k5 q5 => ?_⟩
    have g0 : 0 ≤ r5 * (y.fdiv 60 + 1) := Int.mul_nonneg r50 (by omega)
    have g1 : r5 * (y.fdiv 60 + 1) ≤ 30 * (10 ^ 19 + 1) := Int.mul_le_mul (by omega) (by omega) (by omega) (by omega)
    refine ⟨_, rfl, _, _, rfl, rfl, ⟨by decide, by decide⟩, _, _, rfl, rfl, _, _, rfl, rfl, sm_mul (st _ (by omega) (by omega)) (st _ (by omega) (by omega)), _, _, rfl, rfl, ?_⟩
    refine ⟨_, rfl, q, 4, n + 5, rfl, q5, by omega, by decide, by decide, fun r6 H6 r60 r61 k6 q6 => ?_⟩
    refine ⟨_, _, rfl, rfl, ?_⟩
    have kk : Keep q H H6 := ((Keep.refl.new hp).trans k1).trans (((Keep.refl.new hp2).trans k2).trans (k3.trans (k4.trans (k5.trans k6))))
    generalize r3 * (y.fdiv 60 + 1) = g at *
    generalize r5 * (y.fdiv 60 + 1) = h at *
    refine ⟨_, _, rfl, by omega, st _ (by omega) (by omega), fun t ht => ?_⟩
    refine k t (Rat.divInt (e * (g + r4)) (1 + h + r6)) _ ?_ (kk.new ht) upd_same (q6.new ht)
    refine bd_div (by omega) ?_ (by omega)
    rcases he' with rfl | rfl <;> omega
abbrev NearC (P : Program) (w : World) (K : PySem.W.Frag) (mg : Str → Option Value) (base : Heap) : Prop := CalG P w K mg base 6 "_law_near" spNear []
def spSum (K : PySem.W.Frag) : Sp := fun vs H Q _ => ∃ (a b : Addr) (p q r : Rat) (s : Int), vs = [.ref a, .ref b, .int s] ∧ SqT K H a (pr p) ∧ SqT K H b (pr q) ∧ Bd p 100 ∧ Bd q 100 ∧
  ((s = 1 ∧ r = p + q) ∨ (s = -1 ∧ r = p - q)) ∧ ∀ t, H t = none → Q (.ref t) (upd H t (.tup (pr r)))
theorem sc__law_sum : FnScope ["_law_one", "_law_two", "_law_sign"] ["_law_one", "_law_two", "_law_sign"] (defScope s__law_sum) := ⟨rfl, rfl, rfl, by decide +kernel, rfl, by decide +kernel, by decide +kernel⟩
theorem ok_sum {f : Addr} {fd : FuncData} (F : Fun K "_law_sum" "_law_sum" s__law_sum f fd) (c_lowest : LowC P w K mg base) : FnG P w K mg base CX0 6 f fd ["_law_one", "_law_two", "_law_sign"] (spSum K) := by
  refine fun_okG F sc__law_sum (fun vs H Q E h => ?_) (fun cdv A outer s H vs Q E bare hr h => ?_)
  · obtain ⟨a, b, p, q, r, s, rfl, _⟩ := h
    rfl
  · obtain ⟨a, b, p, q, r, sg, rfl, ha, hb, bp, bq, hr', k⟩ := h
    refine ⟨_, (pss_one (ps_ret (pe_cg c_lowest bare hr (by decide) rfl (pa_cons (pe_op op_add (pe_op op_mulW (pe_ix (ix_tupK (K := K)) (pv 0) pe_int (fun _ _ => rfl)) (pe_ix (ix_tupK (K := K)) (pv 1) pe_int (fun _ _ => rfl))) (pe_op op_mulW (pe_op op_mulW (pv 2) (pe_ix (ix_tupK (K := K)) (pv 1) pe_int (fun _ _ => rfl))) (pe_ix (ix_tupK (K := K)) (pv 0) pe_int (fun _ _ => rfl)))) (pa_cons (pe_op op_mulW (pe_ix (ix_tupK (K := K)) (pv 0) pe_int (fun _ _ => rfl)) (pe_ix (ix_tupK (K := K)) (pv 1) pe_int (fun _ _ => rfl))) pa_nil))))), ?_⟩
    have ssg : Sm sg := by rcases hr' with ⟨rfl, _⟩ | ⟨rfl, _⟩ <;> exact sm_lt (k := 1) (by decide) (by decide) (by decide)
    have sq : Sm (sg * q.num) := by
      rcases hr' with ⟨rfl, _⟩ | ⟨rfl, _⟩
      · rw [Int.one_mul]
        exact bq.num (by decide)
      · rw [Int.neg_one_mul]
        have h := bq.num (by decide)
        exact ⟨by have := h.2; generalize (10 : Int) ^ 400 = t at *; omega, by have := h.1; generalize (10 : Int) ^ 400 = t at *; omega⟩
    refine ⟨_, rfl, a, _, _, _, rfl, rfl, ha, rfl, _, rfl, b, _, _, _, rfl, rfl, hb, rfl, _, _, rfl, rfl, sm_mul (bp.num (by decide)) (bq.den (by decide)), ?_⟩
    refine ⟨_, rfl, _, rfl, b, _, _, _, rfl, rfl, hb, rfl, _, _, rfl, rfl, sm_mul ssg (bq.num (by decide)), ?_⟩
    refine ⟨_, rfl, a, _, _, _, rfl, rfl, ha, rfl, _, _, rfl, rfl, sm_mul sq (bp.den (by decide)), _, _, rfl, rfl, ?_⟩
    refine ⟨_, rfl, a, _, _, _, rfl, rfl, ha, rfl, _, rfl, b, _, _, _, rfl, rfl, hb, rfl, _, _, rfl, rfl, sm_mul (bp.den (by decide)) (bq.den (by decide)), ?_⟩
    refine ⟨_, _, rfl, den_ne p q, sm_den2 bp bq (by decide), fun t ht => ?_⟩
    have kk := k t ht
    have e : r = Rat.divInt (p.num * q.den + sg * q.num * p.den) (p.den * q.den) := by
      rcases hr' with ⟨rfl, rfl⟩ | ⟨rfl, rfl⟩
      · rw [Int.one_mul, add_eq]
      · rw [Int.neg_one_mul, Int.neg_mul, ← Int.sub_eq_add_neg, sub_eq]
    rw [e] at kk
    exact kk
abbrev SumC (P : Program) (w : World) (K : PySem.W.Frag) (mg : Str → Option Value) (base : Heap) : Prop := CalG P w K mg base 6 "_law_sum" (spSum K) []
abbrev TopP (P : Program) (w : World) (K : PySem.W.Frag) (mg : Str → Option Value) (base : Heap) (C : Addr) : Prop := PropF P w K mg base 2 C "top" (spTop C)
abbrev BottomP (P : Program) (w : World) (K : PySem.W.Frag) (mg : Str → Option Value) (base : Heap) (C : Addr) : Prop := PropF P w K mg base 2 C "bottom" (spBottom C)
/-- repr of the pair of a fraction -/
def sh (p : Rat) : Str := shw p.num p.den
def spTold (C : Addr) : Sp := fun vs H Q _ => ∃ (r : Addr) (p : Rat), vs = [.ref r] ∧ RatAt C H r p ∧ Bd p 390 ∧ ∀ H', Same H H' → Q (.str (sh p)) H'
theorem sc__law_told : FnScope ["_law_one"] ["_law_one"] (defScope s__law_told) := ⟨rfl, rfl, rfl, by decide +kernel, rfl, by decide +kernel, by decide +kernel⟩
theorem ok_told {f : Addr} {fd : FuncData} (F : Fun K "_law_told" "_law_told" s__law_told f fd) (T : TxR K mg C) (p_top : TopP P w K mg base C) (p_bottom : BottomP P w K mg base C) : FnG P w K mg base CX0 4 f fd ["_law_one"] (spTold C) := by
  refine fun_okG F sc__law_told (fun vs H Q E h => ?_) (fun cdv A outer s H vs Q E bare hr h => ?_)
  · obtain ⟨r, p, rfl, _⟩ := h
    rfl
  · obtain ⟨r, p, rfl, hp, bp, k⟩ := h
    have hu64 : (A.deeper (envOfC "_law_told" (defScope s__law_told) s.heap.objs.size f cdv)).units + 64 < cLine := Nat.lt_trans (by omega) hr.un
    refine ⟨_, (pss_cons (ps_if (pt_not (pt_val (pe_callB (id := "isinstance") (call_isiK (K := K)) (by rfl) T.b_isinstance (by decide +kernel) (pa_cons (pv 0) (pa_cons (pe_glob (v := V.ref C) rfl T.g_Ratio rfl) pa_nil))))) (pss_one (ps_ret pe_str))
  pss_nil)
  (pss_one (ps_ret (pe_callB (id := "repr") (call_reprK (K := K) bare hu64) (by rfl) T.b_repr (by decide +kernel) (pa_cons (pe_tup (pa_cons (pe_pf p_top T.cl hr (by decide) (pv 0) rfl) (pa_cons (pe_pf p_bottom T.cl hr (by decide) (pv 0) rfl) pa_nil))) pa_nil))))), ?_⟩
    obtain ⟨dx, e1⟩ := id hp
    refine ⟨_, rfl, _, _, _, _, _, rfl, .own C, hp.tyx T, T.kC, _, rfl, ?_⟩
    refine ⟨_, rfl, r, dx, _, rfl, e1, r, p, rfl, hp, ?_⟩
    refine ⟨_, rfl, r, dx, _, rfl, e1, r, p, rfl, hp, ?_⟩
    refine ⟨by show 2 ≤ sizeLine; decide, fun t ht => ?_⟩
    exact repr_pair (SqT.of upd_same) (bp.num (by decide)) (bp.den (by decide)) (k _ (MG.Same.new (Same.refl H) ht))
abbrev ToldC (P : Program) (w : World) (K : PySem.W.Frag) (mg : Str → Option Value) (base : Heap) (C : Addr) : Prop := CalG P w K mg base 4 "_law_told" (spTold C) []
end
end Lw

namespace Lw
open PySem PySem.Spec PyProof.Rows L2 MG
section
variable {P : Program} {w : World} {K : PySem.W.Frag} {mg : Str → Option Value} {base : Heap} {C : Addr} {H : Hp}
/-! ### readings in short -/
theorem ifF {b : Bool} {A B : Prop} (e : b = false) (h : B) : if b = true then A else B := by rw [e]; exact iteF h
theorem ifT {b : Bool} {A B : Prop} (e : b = true) (h : A) : if b = true then A else B := by rw [e]; exact iteT h
theorem rd_bin {g : Rat → Rat → Rat} {r : Addr} {y : V} {p q : Rat} {Q : VK} (hp : RatAt C H r p) (hy : NumAt C H y q) (bp : Bd p 150) (bq : Bd q 150)
    (k : ∀ r' H', Same H H' → RatAt C H' r' (g p q) → Q (.ref r') H') : rOwn C (spBin C g) E0 (.ref r) y H Q := by
  obtain ⟨dx, e⟩ := id hp
  refine ⟨r, dx, _, rfl, e, ?_, r, y, p, q, rfl, hp, hy, bp, bq, k⟩
  rcases hy with ⟨r2, rfl, d2, e2⟩ | ⟨z, rfl, _⟩
  · exact .inl ⟨_, _, _, rfl, e2⟩
  · exact .inr ⟨_, rfl⟩
theorem rd_neg {r : Addr} {p : Rat} {Q : VK} (hp : RatAt C H r p) (bp : Bd p 390) (k : ∀ r' H', Same H H' → RatAt C H' r' (-p) → Q (.ref r') H') : rNegO C (spNeg C) E0 (.ref r) H Q := by
  obtain ⟨dx, e⟩ := id hp
  exact ⟨r, dx, _, rfl, e, r, p, rfl, hp, bp, k⟩
theorem rd_ne {r r2 : Addr} {p q : Rat} {Q : VK} (hp : RatAt C H r p) (hq : RatAt C H r2 q) (e : p = q) (k : Q (.bl false) H) : rNeO C (spEqR K C) E0 (.ref r) (.ref r2) H Q := by
  obtain ⟨d1, e1⟩ := id hp
  obtain ⟨d2, e2⟩ := id hq
  refine ⟨r, d1, _, r2, d2, _, rfl, e1, rfl, e2, r, p, .ref r2, rfl, hp, .inl ⟨r2, q, rfl, hq, _, rfl, ?_⟩⟩
  rw [decide_eq_true e]
  exact k
theorem made_same {H' : Hp} {x dx : Addr} (hx : H x = none) (hdx : H dx = none) (kp : ∀ c o, (upd (upd H dx (.own x)) x (.ins C dx [])) c = some o → c ≠ x → H' c = some o) : Same H H' := fun c o hc => by
  have n1 := ne_of_none hc hx
  have n2 := ne_of_none hc hdx
  exact kp c o (by rw [upd_ne n1, upd_ne n2]; exact hc) n1
theorem nm {r : Addr} {p : Rat} (h : RatAt C H r p) : NumAt C H (.ref r) p := .inl ⟨r, rfl, h⟩
theorem int_num (k : Int) : (Rat.divInt k 1).num = k := by simp [Rat.num_divInt]
theorem int_den (k : Int) : (Rat.divInt k 1).den = 1 := by simp [Rat.den_divInt]
/-! ### a comprehension over a list of Ratios, of pairs -/
def Rats (C : Addr) (H : Hp) : List V → List Rat → Prop
  | [], [] => True
  | x :: xs, p :: ps => (∃ r, x = .ref r ∧ RatAt C H r p) ∧ Rats C H xs ps
  | _, _ => False
def Pairs (K : PySem.W.Frag) (H : Hp) : List V → List Rat → Prop
  | [], [] => True
  | x :: xs, p :: ps => (∃ t, x = .ref t ∧ SqT K H t (pr p)) ∧ Pairs K H xs ps
  | _, _ => False
theorem Rats.get : ∀ {xs : List V} {ps : List Rat}, Rats C H xs ps → xs.length = ps.length ∧ ∀ (i : Nat) (x : V), xs[i]? = some x → ∃ p r, ps[i]? = some p ∧ x = .ref r ∧ RatAt C H r p
  | [], [], _ => ⟨rfl, fun i x h => by simp at h⟩
  | x :: xs, p :: ps, ⟨⟨r, e, h⟩, t⟩ => by
    obtain ⟨l, g⟩ := Rats.get t
    refine ⟨by rw [List.length_cons, List.length_cons, l], fun i y hy => ?_⟩
    cases i with
    | zero => exact ⟨p, r, rfl, (Option.some.inj hy).symm.trans e, h⟩
    | succ i => exact g i y hy
theorem Pairs.get : ∀ {xs : List V} {ps : List Rat}, Pairs K H xs ps → xs.length = ps.length ∧ ∀ (i : Nat) (x : V), xs[i]? = some x → ∃ p t, ps[i]? = some p ∧ x = .ref t ∧ SqT K H t (pr p)
  | [], [], _ => ⟨rfl, fun i x h => by simp at h⟩
  | x :: xs, p :: ps, ⟨⟨r, e, h⟩, t⟩ => by
    obtain ⟨l, g⟩ := Pairs.get t
    refine ⟨by rw [List.length_cons, List.length_cons, l], fun i y hy => ?_⟩
    cases i with
    | zero => exact ⟨p, r, rfl, (Option.some.inj hy).symm.trans e, h⟩
    | succ i => exact g i y hy
theorem Rats.same' {H' : Hp} (s : Same H H') : ∀ {xs : List V} {ps : List Rat}, Rats C H xs ps → Rats C H' xs ps
  | [], [], _ => True.intro
  | _ :: _, _ :: _, ⟨⟨r, e, h⟩, t⟩ => ⟨⟨r, e, h.same s⟩, Rats.same' s t⟩
theorem seqt_same {a : Addr} {xs : List V} {H' : Hp} (h : SqT K H a xs) (s : Same H H') : SqT K H' a xs := by
  rcases h with (h | ⟨o, h⟩) | h
  · exact .inl (.inl (s _ _ h))
  · exact .inl (.inr ⟨o, s _ _ h⟩)
  · exact .inr h
theorem Pairs.same' {H' : Hp} (s : Same H H') : ∀ {xs : List V} {ps : List Rat}, Pairs K H xs ps → Pairs K H' xs ps
  | [], [], _ => True.intro
  | _ :: _, _ :: _, ⟨⟨r, e, h⟩, t⟩ => ⟨⟨r, e, seqt_same h s⟩, Pairs.same' s t⟩
theorem Rats.same {H' : Hp} {xs : List V} {ps : List Rat} (h : Rats C H xs ps) (s : Same H H') : Rats C H' xs ps := h.same' s
theorem Pairs.same {H' : Hp} {xs : List V} {ps : List Rat} (h : Pairs K H xs ps) (s : Same H H') : Pairs K H' xs ps := h.same' s
/-- the texts of these fractions' pairs -/
def shs (ps : List Rat) : List V := (ps.map sh).map V.str
theorem shs_get {ps : List Rat} {i : Nat} {y : V} {p : Rat} (hp : ps[i]? = some p) (hy : (shs ps)[i]? = some y) : y = .str (sh p) := by
  unfold shs at hy
  rw [List.getElem?_map, List.getElem?_map, hp] at hy
  exact (Option.some.inj hy).symm
theorem told_item {xs : List V} {ps : List Rat} {i : Nat} {x y : V} (R : Rats C H xs ps) (hx : xs[i]? = some x) (hy : (shs ps)[i]? = some y) : ∃ r p, x = .ref r ∧ y = .str (sh p) ∧ RatAt C H r p ∧ p ∈ ps := by
  obtain ⟨p, r, hp, e, h⟩ := R.get.2 i x hx
  exact ⟨r, p, e, shs_get hp hy, h, List.mem_of_getElem? hp⟩
theorem pair_item {xs : List V} {ps : List Rat} {i : Nat} {x y : V} (R : Pairs K H xs ps) (hx : xs[i]? = some x) (hy : (shs ps)[i]? = some y) : ∃ t p, x = .ref t ∧ y = .str (sh p) ∧ SqT K H t (pr p) ∧ p ∈ ps := by
  obtain ⟨p, r, hp, e, h⟩ := R.get.2 i x hx
  exact ⟨r, p, e, shs_get hp hy, h, List.mem_of_getElem? hp⟩
theorem shs_len {ps : List Rat} : (shs ps).length = ps.length := by simp [shs]
theorem ok_shs {ps : List Rat} : ∀ s ∈ ps.map sh, PyData.strOk s = true := fun s hs => by
  obtain ⟨p, _, rfl⟩ := List.mem_map.mp hs
  exact ok_shw _ _
/-- != of two such lists -/
theorem ne_shs {a b : Addr} {ps : List Rat} (ha : SqL K H a (shs ps)) (hb : SqL K H b (shs ps)) : ∃ d e, Dp K H (.ref a) d ∧ Dp K H (.ref b) e ∧ SeqAt.shaped d = true ∧ SeqAt.shaped e = true ∧ (!PyData.eqv d e) = false := by
  obtain ⟨d, e, c1, c2, c3, c4, c5⟩ := ne_strs (Q := fun v _ => v = .bl false) (K := K) ha hb ok_shs rfl
  exact ⟨d, e, c1, c2, c3, c4, V.bl.inj c5⟩
theorem eq_shs {a b : Addr} {ps : List Rat} (ha : SqL K H a (shs ps)) (hb : SqL K H b (shs ps)) : ∃ d e, Dp K H (.ref a) d ∧ Dp K H (.ref b) e ∧ SeqAt.shaped d = true ∧ SeqAt.shaped e = true ∧ PyData.eqv d e = true := by
  obtain ⟨d, e, c1, c2, c3, c4, c5⟩ := eq_strs (Q := fun v _ => v = .bl true) (K := K) ha hb ok_shs rfl
  exact ⟨d, e, c1, c2, c3, c4, V.bl.inj c5⟩
end
end Lw

namespace Lw
open PySem PySem.Spec PyProof.Rows L2 MG
section
variable {P : Program} {w : World} {K : PySem.W.Frag} {mg : Str → Option Value} {base : Heap} {C : Addr}
def spRight : Sp := fun vs H Q _ => ∃ (q : Addr), vs = [.ref q] ∧ QAt H q 0 ∧ ∀ H', Keep q H H' → Q (.bl true) H'
structure OpsR (P : Program) (w : World) (K : PySem.W.Frag) (mg : Str → Option Value) (base : Heap) (C : Addr) : Prop where
  o_add : OpF P w K mg base 8 C .Add (spBin C fun p q => p + q)
  o_sub : OpF P w K mg base 8 C .Sub (spBin C fun p q => p - q)
  o_mul : OpF P w K mg base 8 C .Mult (spBin C fun p q => p * q)
  o_neg : NegF P w K mg base 8 C (spNeg C)
  o_eq : EqF P w K mg base 2 C (spEqR K C)
  m_over : MetF P w K mg base 8 C "over" (spOver C) []
  m_overK : MetK P w K mg base 8 C "over" (spOver C) ["other"] one1
theorem tup_ne {H : Hp} {q t : Addr} {n : Nat} {xs : List V} (h : QAt H q n) (e : H t = some (.tup xs)) : t ≠ q := by
  obtain ⟨c, ns, i, r, u, hq, _⟩ := h
  exact ne_of e hq nofun
theorem bd_all {l : List Rat} {k : Nat} (hk : k ≤ 390) (h : ∀ p ∈ l, Bd p k) : ∀ p ∈ l, Bd p 390 := fun p hp => (h p hp).mono hk
theorem sc__law_right : FnScope ["_law_q", "_law_a", "_law_b", "_law_c", "_law_k", "_law_one", "_law_two", "_law_three", "_law_told_here", "_law_due", "_law_x"] ["_law_q"] (defScope s__law_right) := ⟨rfl, rfl, rfl, by decide +kernel, rfl, by decide +kernel, by decide +kernel⟩
theorem ok_right {f : Addr} {fd : FuncData} (F : Fun K "_law_right" "_law_right" s__law_right f fd) (T : TxR K mg C) (O : OpsR P w K mg base C) (c_near : NearC P w K mg base) (c_great : GreatC P w K mg base) (c_sum : SumC P w K mg base)
    (c_lowest : LowC P w K mg base) (c_told : ToldC P w K mg base C) (m_rat2 : Rat2C P w K mg base C) : FnG P w K mg base CX0 12 f fd ["_law_q"] spRight := by
  obtain ⟨o_add, o_sub, o_mul, o_neg, o_eq, m_over, m_overK⟩ := O
  refine fun_okG F sc__law_right (fun vs H Q E h => ?_) (fun cdv A outer s H vs Q E bare hr h => ?_)
  · obtain ⟨q, rfl, _⟩ := h
    rfl
  · obtain ⟨q, rfl, hq, k⟩ := h
    have hu64 : (A.deeper (envOfC "_law_right" (defScope s__law_right) s.heap.objs.size f cdv)).units + 64 < cLine := Nat.lt_trans (by omega) hr.un
    refine ⟨_, (pss_cons (ps_par3 (i := 1) (j := 2) (l := 3) (by rfl) sc__law_right.nd rfl rfl rfl (by decide) (by decide) (by decide) rfl rfl rfl (pa_cons (pe_cg c_near bare hr (by decide) rfl (pa_cons (pv 0) pa_nil)) (pa_cons (pe_cg c_near bare hr (by decide) rfl (pa_cons (pv 0) pa_nil)) (pa_cons (pe_cg c_near bare hr (by decide) rfl (pa_cons (pv 0) pa_nil)) pa_nil))) (by rfl))
  (pss_cons (ps_set (i := 4) sc__law_right.nd rfl (Or.inl rfl) (pe_cg c_great bare hr (by decide) rfl (pa_cons (pv 0) pa_nil)))
  (pss_cons (ps_cut (ps_par3 (i := 5) (j := 6) (l := 7) (by rfl) sc__law_right.nd rfl rfl rfl (by decide) (by decide) (by decide) rfl rfl rfl (pa_cons (pe_mkf m_rat2 hr (by decide) rfl (pa_cons (pe_ix (ix_tupK (K := K)) (pv 1) pe_int (fun _ _ => rfl)) (pa_cons (pe_ix (ix_tupK (K := K)) (pv 1) pe_int (fun _ _ => rfl)) pa_nil))) (pa_cons (pe_mkf m_rat2 hr (by decide) rfl (pa_cons (pe_ix (ix_tupK (K := K)) (pv 2) pe_int (fun _ _ => rfl)) (pa_cons (pe_ix (ix_tupK (K := K)) (pv 2) pe_int (fun _ _ => rfl)) pa_nil))) (pa_cons (pe_mkf m_rat2 hr (by decide) rfl (pa_cons (pe_ix (ix_tupK (K := K)) (pv 3) pe_int (fun _ _ => rfl)) (pa_cons (pe_ix (ix_tupK (K := K)) (pv 3) pe_int (fun _ _ => rfl)) pa_nil))) pa_nil))) (by rfl)))
  (pss_cons (ps_set (i := 8) sc__law_right.nd rfl (Or.inl rfl) (pe_lst (pa_cons (pe_op (op_f o_add hr (by decide)) (pv 5) (pv 6)) (pa_cons (pe_op (op_f o_sub hr (by decide)) (pv 5) (pv 6)) (pa_cons (pe_op (op_f o_mul hr (by decide)) (pv 5) (pv 6)) (pa_cons (pe_un (un_f o_neg hr (by decide)) (pv 5)) (pa_cons (pe_op (op_f o_add hr (by decide)) (pv 5) (pv 4)) (pa_cons (pe_op (op_f o_sub hr (by decide)) (pv 5) (pv 4)) (pa_cons (pe_op (op_f o_mul hr (by decide)) (pv 5) (pv 4)) (pa_cons (pe_op (op_f o_add hr (by decide)) (pv 6) (pv 6)) (pa_cons (pe_op (op_f o_sub hr (by decide)) (pv 6) (pv 6)) (pa_cons (pe_op (op_f o_mul hr (by decide)) (pv 6) (pv 6)) pa_nil))))))))))))
  (pss_cons (ps_set (i := 9) sc__law_right.nd rfl (Or.inl rfl) (pe_lst (pa_cons (pe_cg c_sum bare hr (by decide) rfl (pa_cons (pv 1) (pa_cons (pv 2) (pa_cons pe_int pa_nil)))) (pa_cons (pe_cg c_sum bare hr (by decide) rfl (pa_cons (pv 1) (pa_cons (pv 2) (pa_cons (pe_un un_neg pe_int) pa_nil)))) (pa_cons (pe_cg c_lowest bare hr (by decide) rfl (pa_cons (pe_op op_mulW (pe_ix (ix_tupK (K := K)) (pv 1) pe_int (fun _ _ => rfl)) (pe_ix (ix_tupK (K := K)) (pv 2) pe_int (fun _ _ => rfl))) (pa_cons (pe_op op_mulW (pe_ix (ix_tupK (K := K)) (pv 1) pe_int (fun _ _ => rfl)) (pe_ix (ix_tupK (K := K)) (pv 2) pe_int (fun _ _ => rfl))) pa_nil))) (pa_cons (pe_tup (pa_cons (pe_un un_neg (pe_ix (ix_tupK (K := K)) (pv 1) pe_int (fun _ _ => rfl))) (pa_cons (pe_ix (ix_tupK (K := K)) (pv 1) pe_int (fun _ _ => rfl)) pa_nil))) pa_nil))))))
  (pss_cons (ps_set (i := 9) sc__law_right.nd rfl (Or.inl rfl) (pe_op op_cat (pv 9) (pe_lst (pa_cons (pe_cg c_sum bare hr (by decide) rfl (pa_cons (pv 1) (pa_cons (pe_tup (pa_cons (pv 4) (pa_cons pe_int pa_nil))) (pa_cons pe_int pa_nil)))) (pa_cons (pe_cg c_sum bare hr (by decide) rfl (pa_cons (pv 1) (pa_cons (pe_tup (pa_cons (pv 4) (pa_cons pe_int pa_nil))) (pa_cons (pe_un un_neg pe_int) pa_nil)))) (pa_cons (pe_cg c_lowest bare hr (by decide) rfl (pa_cons (pe_op op_mulW (pe_ix (ix_tupK (K := K)) (pv 1) pe_int (fun _ _ => rfl)) (pv 4)) (pa_cons (pe_ix (ix_tupK (K := K)) (pv 1) pe_int (fun _ _ => rfl)) pa_nil))) pa_nil))))))
  (pss_cons (ps_cut (ps_set (i := 9) sc__law_right.nd rfl (Or.inl rfl) (pe_op op_cat (pv 9) (pe_lst (pa_cons (pe_cg c_sum bare hr (by decide) rfl (pa_cons (pv 2) (pa_cons (pv 2) (pa_cons pe_int pa_nil)))) (pa_cons (pe_tup (pa_cons pe_int (pa_cons pe_int pa_nil))) (pa_cons (pe_cg c_lowest bare hr (by decide) rfl (pa_cons (pe_op op_mulW (pe_ix (ix_tupK (K := K)) (pv 2) pe_int (fun _ _ => rfl)) (pe_ix (ix_tupK (K := K)) (pv 2) pe_int (fun _ _ => rfl))) (pa_cons (pe_op op_mulW (pe_ix (ix_tupK (K := K)) (pv 2) pe_int (fun _ _ => rfl)) (pe_ix (ix_tupK (K := K)) (pv 2) pe_int (fun _ _ => rfl))) pa_nil))) pa_nil)))))))
  (pss_cons (ps_cut (ps_if (pt_cmpR (op_neD hu64) (pe_map (K := K) (j := 10) (pe_lc (own := [("_law_x", 10)]) (g := gName 10) (tt := tYes) rfl sc__law_right.nd (pi_list (pe_cut (pv 8))) (blkOk_by (N := ["_law_q", "_law_a", "_law_b", "_law_c", "_law_k", "_law_one", "_law_two", "_law_three", "_law_told_here", "_law_due", "_law_x"]) (sc := defScope s__law_right) (by decide +kernel)) (fun _ _ _ _ _ => (pg_name (i := 10) sc__law_right.nd rfl (Or.inl rfl))) (fun _ _ _ _ _ => pts_nil) (fun _ _ _ _ _ => (pe_cut (pe_cg c_told bare hr (by decide) rfl (pa_cons (pv 10) pa_nil)))))) (pe_map (K := K) (j := 10) (pe_lc (own := [("_law_x", 10)]) (g := gName 10) (tt := tYes) rfl sc__law_right.nd (pi_list (pe_cut (pv 9))) (blkOk_by (N := ["_law_q", "_law_a", "_law_b", "_law_c", "_law_k", "_law_one", "_law_two", "_law_three", "_law_told_here", "_law_due", "_law_x"]) (sc := defScope s__law_right) (by decide +kernel)) (fun _ _ _ _ _ => (pg_name (i := 10) sc__law_right.nd rfl (Or.inl rfl))) (fun _ _ _ _ _ => pts_nil) (fun _ _ _ _ _ => (pe_cut (pe_callB (id := "repr") (call_reprK (K := K) bare hu64) (by rfl) T.b_repr (by decide +kernel) (pa_cons (pv 10) pa_nil)))))) (nomark _)) (pss_one (ps_ret pe_bl))
  pss_nil))
  (pss_cons (ps_cut (ps_if (pt_cmpR op_ne (pe_ix (ix_tupK (K := K)) (pv 2) pe_int (fun _ _ => rfl)) pe_int (nomark _)) (pss_cons (ps_map (K := K) (j := 10) (i := 8) (ps_setLc (i := 8) (own := [("_law_x", 10)]) (g := gName 10) (tt := tYes) rfl sc__law_right.nd rfl rfl (sw_true rfl rfl rfl (by decide +kernel)) (pi_list (pe_cut (pe_lst (pa_cons (pe_mf m_over T.cl hr (by decide) (pv 5) (pa_cons (pv 6) pa_nil)) (pa_cons (pe_mk_ m_overK T.cl hr (by decide) (pv 5) (pk_cons (pv 6) pk_nil)) (pa_cons (pe_mf m_over T.cl hr (by decide) (pv 6) (pa_cons (pv 6) pa_nil)) pa_nil)))))) (blkOk_by (N := ["_law_q", "_law_a", "_law_b", "_law_c", "_law_k", "_law_one", "_law_two", "_law_three", "_law_told_here", "_law_due", "_law_x"]) (sc := defScope s__law_right) (by decide +kernel)) (fun _ _ _ _ _ => (pg_name (i := 10) sc__law_right.nd rfl (Or.inl rfl))) (fun _ _ _ _ _ => pts_nil) (fun _ _ _ _ _ => (pe_cut (pe_cg c_told bare hr (by decide) rfl (pa_cons (pv 10) pa_nil))))))
  (pss_one (ps_if (pt_cmpR (op_neD hu64) (pv 8) (pe_op op_cat (pe_op op_rep (pe_lst (pa_cons (pe_callB (id := "repr") (call_reprK (K := K) bare hu64) (by rfl) T.b_repr (by decide +kernel) (pa_cons (pe_cg c_lowest bare hr (by decide) rfl (pa_cons (pe_op op_mulW (pe_ix (ix_tupK (K := K)) (pv 1) pe_int (fun _ _ => rfl)) (pe_ix (ix_tupK (K := K)) (pv 2) pe_int (fun _ _ => rfl))) (pa_cons (pe_op op_mulW (pe_ix (ix_tupK (K := K)) (pv 1) pe_int (fun _ _ => rfl)) (pe_ix (ix_tupK (K := K)) (pv 2) pe_int (fun _ _ => rfl))) pa_nil))) pa_nil)) pa_nil)) pe_int) (pe_lst (pa_cons pe_str pa_nil))) (nomark _)) (pss_one (ps_ret pe_bl))
  pss_nil)))
  pss_nil))
  (pss_cons (ps_cut (ps_if (PW.pt (pw_and (pt_cmpR op_ne (pv 4) pe_int (nomark _)) (pw_and1 (pt_cmpR op_ne (pe_cg c_told bare hr (by decide) rfl (pa_cons (pe_mf m_over T.cl hr (by decide) (pv 5) (pa_cons (pv 4) pa_nil)) pa_nil)) (pe_callB (id := "repr") (call_reprK (K := K) bare hu64) (by rfl) T.b_repr (by decide +kernel) (pa_cons (pe_cg c_lowest bare hr (by decide) rfl (pa_cons (pe_ix (ix_tupK (K := K)) (pv 1) pe_int (fun _ _ => rfl)) (pa_cons (pe_op op_mulW (pe_ix (ix_tupK (K := K)) (pv 1) pe_int (fun _ _ => rfl)) (pv 4)) pa_nil))) pa_nil)) (nomark _))))) (pss_one (ps_ret pe_bl))
  pss_nil))
  (pss_cons (ps_if (PW.pt (pw_or (pt_cmpR (ne_f o_eq hr (by decide)) (pe_op (op_f o_sub hr (by decide)) (pe_op (op_f o_add hr (by decide)) (pv 5) (pv 6)) (pv 6)) (pv 5) (nomark _)) (pw_or1 (pt_cmpR (ne_f o_eq hr (by decide)) (pe_op (op_f o_mul hr (by decide)) (pe_op (op_f o_add hr (by decide)) (pv 5) (pv 6)) (pv 7)) (pe_op (op_f o_add hr (by decide)) (pe_op (op_f o_mul hr (by decide)) (pv 5) (pv 7)) (pe_op (op_f o_mul hr (by decide)) (pv 6) (pv 7))) (nomark _))))) (pss_one (ps_ret pe_bl))
  pss_nil)
  (pss_cons (ps_if (PW.pt (pw_or (pt_cmpR (ne_f o_eq hr (by decide)) (pe_op (op_f o_add hr (by decide)) (pv 5) (pe_op (op_f o_add hr (by decide)) (pv 6) (pv 7))) (pe_op (op_f o_add hr (by decide)) (pe_op (op_f o_add hr (by decide)) (pv 5) (pv 6)) (pv 7)) (nomark _)) (pw_or1 (pt_cmpR (ne_f o_eq hr (by decide)) (pe_op (op_f o_sub hr (by decide)) (pv 5) (pv 6)) (pe_un (un_f o_neg hr (by decide)) (pe_op (op_f o_sub hr (by decide)) (pv 6) (pv 5))) (nomark _))))) (pss_one (ps_ret pe_bl))
  pss_nil)
  (pss_cons (ps_if (PW.pt (pw_or (pt_cmpR (ne_f o_eq hr (by decide)) (pe_op (op_f o_mul hr (by decide)) (pv 5) (pv 6)) (pe_op (op_f o_mul hr (by decide)) (pv 6) (pv 5)) (nomark _)) (pw_or1 (pt_cmpR (ne_f o_eq hr (by decide)) (pe_op (op_f o_add hr (by decide)) (pv 5) (pv 6)) (pe_op (op_f o_add hr (by decide)) (pv 5) (pv 6)) (nomark _))))) (pss_one (ps_ret pe_bl))
  pss_nil)
  (pss_one (ps_ret (pe_cmpR (op_eqD hu64) (pe_map (K := K) (j := 10) (pe_lc (own := [("_law_x", 10)]) (g := gName 10) (tt := tYes) rfl sc__law_right.nd (pi_list (pe_cut (pe_lst (pa_cons (pv 5) (pa_cons (pv 6) (pa_cons (pv 7) pa_nil)))))) (blkOk_by (N := ["_law_q", "_law_a", "_law_b", "_law_c", "_law_k", "_law_one", "_law_two", "_law_three", "_law_told_here", "_law_due", "_law_x"]) (sc := defScope s__law_right) (by decide +kernel)) (fun _ _ _ _ _ => (pg_name (i := 10) sc__law_right.nd rfl (Or.inl rfl))) (fun _ _ _ _ _ => pts_nil) (fun _ _ _ _ _ => (pe_cut (pe_cg c_told bare hr (by decide) rfl (pa_cons (pv 10) pa_nil)))))) (pe_map (K := K) (j := 10) (pe_lc (own := [("_law_x", 10)]) (g := gName 10) (tt := tYes) rfl sc__law_right.nd (pi_list (pe_cut (pe_lst (pa_cons (pv 1) (pa_cons (pv 2) (pa_cons (pv 3) pa_nil)))))) (blkOk_by (N := ["_law_q", "_law_a", "_law_b", "_law_c", "_law_k", "_law_one", "_law_two", "_law_three", "_law_told_here", "_law_due", "_law_x"]) (sc := defScope s__law_right) (by decide +kernel)) (fun _ _ _ _ _ => (pg_name (i := 10) sc__law_right.nd rfl (Or.inl rfl))) (fun _ _ _ _ _ => pts_nil) (fun _ _ _ _ _ => (pe_cut (pe_callB (id := "repr") (call_reprK (K := K) bare hu64) (by rfl) T.b_repr (by decide +kernel) (pa_cons (pv 10) pa_nil)))))) (nomark _))))))))))))))))), ?_⟩
    -- a, b, c = near, near, near
    refine ⟨_, rfl, q, 0, rfl, hq, by omega, fun ta p1 H1 b1 k1 e1 q1 => ?_⟩
    refine ⟨_, rfl, q, _, rfl, q1, by omega, fun tb p2 H2 b2 k2 e2 q2 => ?_⟩
    refine ⟨_, rfl, q, _, rfl, q2, by omega, fun tc p3 H3 b3 k3 e3 q3 => ?_⟩
    refine ⟨_, _, _, rfl, ?_⟩
    -- k = great
    refine ⟨_, rfl, q, _, rfl, q3, by omega, fun z H4 z0 z1 k4 q4 => ?_⟩
    have na := tup_ne q1 e1
    have nb := tup_ne q2 e2
    have nc := tup_ne q3 e3
    have ea : H4 ta = some (.tup (pr p1)) := k4 _ _ (k3 _ _ (k2 _ _ e1 na) na) na
    have eb : H4 tb = some (.tup (pr p2)) := k4 _ _ (k3 _ _ e2 nb) nb
    have ec : H4 tc = some (.tup (pr p3)) := k4 _ _ e3 nc
    have kq : Keep q H H4 := k1.trans (k2.trans (k3.trans k4))
    clear k1 k2 k3 k4 e1 e2 e3 q1 q2 q3
    have dz : ∀ {p : Rat}, (p.den : Int) ≠ 0 := fun {p} => by have := p.den_nz; omega
    -- one, two, three
    refine ⟨fun σ' H' => ∃ r1 r2 r3, σ' = [some (.ref q), some (.ref ta), some (.ref tb), some (.ref tc), some (.int z), some (.ref r1), some (.ref r2), some (.ref r3), none, none, none] ∧ Same H4 H' ∧ RatAt C H' r1 p1 ∧ RatAt C H' r2 p2 ∧ RatAt C H' r3 p3, ?_, ?_⟩
    · refine ⟨_, rfl, ta, _, _, _, rfl, rfl, SqT.of ea, rfl, _, rfl, ta, _, _, _, rfl, rfl, SqT.of ea, rfl, ?_⟩
      refine fun r1 d1 hx1 hd1 _ => ⟨r1, d1, _, _, rfl, upd_same, dz, b1.den (by decide), fun H5 e1 kp1 => ⟨rfl, ?_⟩⟩
      rw [Rat.num_divInt_den] at e1
      have s5 : Same H4 H5 := made_same hx1 hd1 kp1
      refine ⟨_, rfl, tb, _, _, _, rfl, rfl, SqT.of (s5 _ _ eb), rfl, _, rfl, tb, _, _, _, rfl, rfl, SqT.of (s5 _ _ eb), rfl, ?_⟩
      refine fun r2 d2 hx2 hd2 _ => ⟨r2, d2, _, _, rfl, upd_same, dz, b2.den (by decide), fun H6 e2 kp2 => ⟨rfl, ?_⟩⟩
      rw [Rat.num_divInt_den] at e2
      have s6 : Same H5 H6 := made_same hx2 hd2 kp2
      refine ⟨_, rfl, tc, _, _, _, rfl, rfl, SqT.of (s6 _ _ (s5 _ _ ec)), rfl, _, rfl, tc, _, _, _, rfl, rfl, SqT.of (s6 _ _ (s5 _ _ ec)), rfl, ?_⟩
      refine fun r3 d3 hx3 hd3 _ => ⟨r3, d3, _, _, rfl, upd_same, dz, b3.den (by decide), fun H7 e3 kp3 => ⟨rfl, ?_⟩⟩
      rw [Rat.num_divInt_den] at e3
      have s7 : Same H6 H7 := made_same hx3 hd3 kp3
      exact ⟨_, _, _, rfl, r1, r2, r3, rfl, s5.trans (s6.trans s7), ⟨d1, s7 _ _ (s6 _ _ e1)⟩, ⟨d2, s7 _ _ e2⟩, ⟨d3, e3⟩⟩
    rintro _ H7 ⟨r1, r2, r3, rfl, s47, f1, f2, f3⟩
    replace ea := s47 _ _ ea
    replace eb := s47 _ _ eb
    replace ec := s47 _ _ ec
    replace kq := kq.same s47
    clear s47 q4 hq na nb nc
    -- the int as a number
    have nz : ∀ {Hx : Hp}, NumAt C Hx (.int z) (Rat.divInt z 1) := fun {Hx} => .inr ⟨z, rfl, rfl⟩
    have bz : Bd (Rat.divInt z 1) 43 := bd_div (by decide) (by omega) (by decide)
    have B1 : Bd p1 150 := b1.mono (by decide)
    have B2 : Bd p2 150 := b2.mono (by decide)
    have B3 : Bd p3 150 := b3.mono (by decide)
    have BZ : Bd (Rat.divInt z 1) 150 := bz.mono (by decide)
    -- told_here = [..]
    refine ⟨_, rfl, _, rfl, ?_⟩
    refine rd_bin f1 (nm f2) B1 B2 fun t1 G1 s1 g1 => ?_
    replace f1 := f1.same s1
    replace f2 := f2.same s1
    replace f3 := f3.same s1
    replace ea := s1 _ _ ea
    replace eb := s1 _ _ eb
    replace ec := s1 _ _ ec
    replace kq := kq.same s1
    refine ⟨_, rfl, _, rfl, ?_⟩
    refine rd_bin f1 (nm f2) B1 B2 fun t2 G2 s2 g2 => ?_
    replace f1 := f1.same s2
    replace f2 := f2.same s2
    replace f3 := f3.same s2
    replace g1 := g1.same s2
    replace ea := s2 _ _ ea
    replace eb := s2 _ _ eb
    replace ec := s2 _ _ ec
    replace kq := kq.same s2
    refine ⟨_, rfl, _, rfl, ?_⟩
    refine rd_bin f1 (nm f2) B1 B2 fun t3 G3 s3 g3 => ?_
    replace f1 := f1.same s3
    replace f2 := f2.same s3
    replace f3 := f3.same s3
    replace g1 := g1.same s3
    replace g2 := g2.same s3
    replace ea := s3 _ _ ea
    replace eb := s3 _ _ eb
    replace ec := s3 _ _ ec
    replace kq := kq.same s3
    refine ⟨_, rfl, ?_⟩
    refine rd_neg f1 (b1.mono (by decide)) fun t4 G4 s4 g4 => ?_
    replace f1 := f1.same s4
    replace f2 := f2.same s4
    replace f3 := f3.same s4
    replace g1 := g1.same s4
    replace g2 := g2.same s4
    replace g3 := g3.same s4
    replace ea := s4 _ _ ea
    replace eb := s4 _ _ eb
    replace ec := s4 _ _ ec
    replace kq := kq.same s4
    refine ⟨_, rfl, _, rfl, ?_⟩
    refine rd_bin f1 nz B1 BZ fun t5 G5 s5 g5 => ?_
    replace f1 := f1.same s5
    replace f2 := f2.same s5
    replace f3 := f3.same s5
    replace g1 := g1.same s5
    replace g2 := g2.same s5
    replace g3 := g3.same s5
    replace g4 := g4.same s5
    replace ea := s5 _ _ ea
    replace eb := s5 _ _ eb
    replace ec := s5 _ _ ec
    replace kq := kq.same s5
    refine ⟨_, rfl, _, rfl, ?_⟩
    refine rd_bin f1 nz B1 BZ fun t6 G6 s6 g6 => ?_
    replace f1 := f1.same s6
    replace f2 := f2.same s6
    replace f3 := f3.same s6
    replace g1 := g1.same s6
    replace g2 := g2.same s6
    replace g3 := g3.same s6
    replace g4 := g4.same s6
    replace g5 := g5.same s6
    replace ea := s6 _ _ ea
    replace eb := s6 _ _ eb
    replace ec := s6 _ _ ec
    replace kq := kq.same s6
    refine ⟨_, rfl, _, rfl, ?_⟩
    refine rd_bin f1 nz B1 BZ fun t7 G7 s7 g7 => ?_
    replace f1 := f1.same s7
    replace f2 := f2.same s7
    replace f3 := f3.same s7
    replace g1 := g1.same s7
    replace g2 := g2.same s7
    replace g3 := g3.same s7
    replace g4 := g4.same s7
    replace g5 := g5.same s7
    replace g6 := g6.same s7
    replace ea := s7 _ _ ea
    replace eb := s7 _ _ eb
    replace ec := s7 _ _ ec
    replace kq := kq.same s7
    refine ⟨_, rfl, _, rfl, ?_⟩
    refine rd_bin f2 (nm f2) B2 B2 fun t8 G8 s8 g8 => ?_
    replace f1 := f1.same s8
    replace f2 := f2.same s8
    replace f3 := f3.same s8
    replace g1 := g1.same s8
    replace g2 := g2.same s8
    replace g3 := g3.same s8
    replace g4 := g4.same s8
    replace g5 := g5.same s8
    replace g6 := g6.same s8
    replace g7 := g7.same s8
    replace ea := s8 _ _ ea
    replace eb := s8 _ _ eb
    replace ec := s8 _ _ ec
    replace kq := kq.same s8
    refine ⟨_, rfl, _, rfl, ?_⟩
    refine rd_bin f2 (nm f2) B2 B2 fun t9 G9 s9 g9 => ?_
    replace f1 := f1.same s9
    replace f2 := f2.same s9
    replace f3 := f3.same s9
    replace g1 := g1.same s9
    replace g2 := g2.same s9
    replace g3 := g3.same s9
    replace g4 := g4.same s9
    replace g5 := g5.same s9
    replace g6 := g6.same s9
    replace g7 := g7.same s9
    replace g8 := g8.same s9
    replace ea := s9 _ _ ea
    replace eb := s9 _ _ eb
    replace ec := s9 _ _ ec
    replace kq := kq.same s9
    refine ⟨_, rfl, _, rfl, ?_⟩
    refine rd_bin f2 (nm f2) B2 B2 fun t10 G10 s10 g10 => ?_
    replace f1 := f1.same s10
    replace f2 := f2.same s10
    replace f3 := f3.same s10
    replace g1 := g1.same s10
    replace g2 := g2.same s10
    replace g3 := g3.same s10
    replace g4 := g4.same s10
    replace g5 := g5.same s10
    replace g6 := g6.same s10
    replace g7 := g7.same s10
    replace g8 := g8.same s10
    replace g9 := g9.same s10
    replace ea := s10 _ _ ea
    replace eb := s10 _ _ eb
    replace ec := s10 _ _ ec
    replace kq := kq.same s10
    refine ⟨by show 10 ≤ sizeLine; decide, fun l1 hl1 => ?_⟩
    have u1 : Same G10 (upd G10 l1 (.lst [.ref t1, .ref t2, .ref t3, .ref t4, .ref t5, .ref t6, .ref t7, .ref t8, .ref t9, .ref t10])) := MG.Same.new (Same.refl G10) hl1
    have e1 : (upd G10 l1 (.lst [.ref t1, .ref t2, .ref t3, .ref t4, .ref t5, .ref t6, .ref t7, .ref t8, .ref t9, .ref t10])) l1 = some (.lst [.ref t1, .ref t2, .ref t3, .ref t4, .ref t5, .ref t6, .ref t7, .ref t8, .ref t9, .ref t10]) := upd_same
    generalize upd G10 l1 (.lst [.ref t1, .ref t2, .ref t3, .ref t4, .ref t5, .ref t6, .ref t7, .ref t8, .ref t9, .ref t10]) = J0 at *
    have R0 : Rats C J0 [.ref t1, .ref t2, .ref t3, .ref t4, .ref t5, .ref t6, .ref t7, .ref t8, .ref t9, .ref t10] [p1 + p2, p1 - p2, p1 * p2, -p1, p1 + Rat.divInt z 1, p1 - Rat.divInt z 1, p1 * Rat.divInt z 1, p2 + p2, p2 - p2, p2 * p2] := ⟨⟨_, rfl, g1.same u1⟩, ⟨_, rfl, g2.same u1⟩, ⟨_, rfl, g3.same u1⟩, ⟨_, rfl, g4.same u1⟩, ⟨_, rfl, g5.same u1⟩, ⟨_, rfl, g6.same u1⟩, ⟨_, rfl, g7.same u1⟩, ⟨_, rfl, g8.same u1⟩, ⟨_, rfl, g9.same u1⟩, ⟨_, rfl, g10.same u1⟩, True.intro⟩
    replace f1 := f1.same u1
    replace f2 := f2.same u1
    replace f3 := f3.same u1
    replace ea := u1 _ _ ea
    replace eb := u1 _ _ eb
    replace ec := u1 _ _ ec
    replace kq := kq.same u1
    clear u1 g1 g2 g3 g4 g5 g6 g7 g8 g9 g10 s1 s2 s3 s4 s5 s6 s7 s8 s9 s10 hl1
    -- due = [..]
    have hz1 : (Rat.divInt z 1).num = z := int_num z
    have hz2 : (Rat.divInt z 1).den = 1 := int_den z
    refine ⟨_, rfl, _, rfl, ta, tb, p1, p2, p1 + p2, 1, rfl, SqT.of ea, SqT.of eb, b1.mono (by decide), b2.mono (by decide), .inl ⟨rfl, rfl⟩, fun d1 h1 => ?_⟩
    have u1 : Same J0 (upd J0 d1 (.tup (pr (p1 + p2)))) := MG.Same.new (Same.refl J0) h1
    have x1 : (upd J0 d1 (.tup (pr (p1 + p2)))) d1 = some (.tup (pr (p1 + p2))) := upd_same
    generalize upd J0 d1 (.tup (pr (p1 + p2))) = J1 at *
    replace f1 := f1.same u1
    replace f2 := f2.same u1
    replace f3 := f3.same u1
    replace ea := u1 _ _ ea
    replace eb := u1 _ _ eb
    replace ec := u1 _ _ ec
    replace e1 := u1 _ _ e1
    replace R0 := R0.same u1
    replace kq := kq.same u1
    clear u1
    refine ⟨_, rfl, _, rfl, _, rfl, ta, tb, p1, p2, p1 - p2, -1, rfl, SqT.of ea, SqT.of eb, b1.mono (by decide), b2.mono (by decide), .inr ⟨rfl, rfl⟩, fun d2 h2 => ?_⟩
    have u2 : Same J1 (upd J1 d2 (.tup (pr (p1 - p2)))) := MG.Same.new (Same.refl J1) h2
    have x2 : (upd J1 d2 (.tup (pr (p1 - p2)))) d2 = some (.tup (pr (p1 - p2))) := upd_same
    generalize upd J1 d2 (.tup (pr (p1 - p2))) = J2 at *
    replace f1 := f1.same u2
    replace f2 := f2.same u2
    replace f3 := f3.same u2
    replace ea := u2 _ _ ea
    replace eb := u2 _ _ eb
    replace ec := u2 _ _ ec
    replace e1 := u2 _ _ e1
    replace x1 := u2 _ _ x1
    replace R0 := R0.same u2
    replace kq := kq.same u2
    clear u2
    refine ⟨_, rfl, ta, _, _, _, rfl, rfl, SqT.of ea, rfl, _, rfl, tb, _, _, _, rfl, rfl, SqT.of eb, rfl, _, _, rfl, rfl, sm_mul (b1.num (by decide)) (b2.num (by decide)), ?_⟩
    refine ⟨_, rfl, ta, _, _, _, rfl, rfl, SqT.of ea, rfl, _, rfl, tb, _, _, _, rfl, rfl, SqT.of eb, rfl, _, _, rfl, rfl, sm_mul (b1.den (by decide)) (b2.den (by decide)), _, _, rfl, den_ne p1 p2, sm_den2 b1 b2 (by decide), fun d3 h3 => ?_⟩
    rw [← mul_eq]
    have u3 : Same J2 (upd J2 d3 (.tup [.int (p1 * p2).num, .int (p1 * p2).den])) := MG.Same.new (Same.refl J2) h3
    have x3 : (upd J2 d3 (.tup [.int (p1 * p2).num, .int (p1 * p2).den])) d3 = some (.tup (pr (p1 * p2))) := upd_same
    generalize upd J2 d3 (.tup [.int (p1 * p2).num, .int (p1 * p2).den]) = J3 at *
    replace f1 := f1.same u3
    replace f2 := f2.same u3
    replace f3 := f3.same u3
    replace ea := u3 _ _ ea
    replace eb := u3 _ _ eb
    replace ec := u3 _ _ ec
    replace e1 := u3 _ _ e1
    replace x1 := u3 _ _ x1
    replace x2 := u3 _ _ x2
    replace R0 := R0.same u3
    replace kq := kq.same u3
    clear u3
    refine ⟨_, rfl, ta, _, _, _, rfl, rfl, SqT.of ea, rfl, _, rfl, _, rfl, ta, _, _, _, rfl, rfl, SqT.of ea, rfl, by show 2 ≤ sizeLine; decide, fun d4 h4 => ?_⟩
    have u4 : Same J3 (upd J3 d4 (.tup [(fun i : Int => V.int (-i)) p1.num, .int p1.den])) := MG.Same.new (Same.refl J3) h4
    have x4 : (upd J3 d4 (.tup [(fun i : Int => V.int (-i)) p1.num, .int p1.den])) d4 = some (.tup (pr (-p1))) := upd_same
    generalize upd J3 d4 (.tup [(fun i : Int => V.int (-i)) p1.num, .int p1.den]) = J4 at *
    replace f1 := f1.same u4
    replace f2 := f2.same u4
    replace f3 := f3.same u4
    replace ea := u4 _ _ ea
    replace eb := u4 _ _ eb
    replace ec := u4 _ _ ec
    replace e1 := u4 _ _ e1
    replace x1 := u4 _ _ x1
    replace x2 := u4 _ _ x2
    replace x3 := u4 _ _ x3
    replace R0 := R0.same u4
    replace kq := kq.same u4
    clear u4
    refine ⟨by show 4 ≤ sizeLine; decide, fun l2 hl2 => ?_⟩
    have v2 : Same J4 (upd J4 l2 (.lst [.ref d1, .ref d2, .ref d3, .ref d4])) := MG.Same.new (Same.refl J4) hl2
    have y2 : (upd J4 l2 (.lst [.ref d1, .ref d2, .ref d3, .ref d4])) l2 = some (.lst [.ref d1, .ref d2, .ref d3, .ref d4]) := upd_same
    generalize upd J4 l2 (.lst [.ref d1, .ref d2, .ref d3, .ref d4]) = Lh2 at *
    replace f1 := f1.same v2
    replace f2 := f2.same v2
    replace f3 := f3.same v2
    replace ea := v2 _ _ ea
    replace eb := v2 _ _ eb
    replace ec := v2 _ _ ec
    replace e1 := v2 _ _ e1
    replace x1 := v2 _ _ x1
    replace x2 := v2 _ _ x2
    replace x3 := v2 _ _ x3
    replace x4 := v2 _ _ x4
    replace R0 := R0.same v2
    replace kq := kq.same v2
    clear v2
    refine ⟨_, rfl, _, rfl, _, rfl, by show 2 ≤ sizeLine; decide, fun c1 hc1 => ?_⟩
    have wa : Same Lh2 (upd Lh2 c1 (.tup [.int z, .int 1])) := MG.Same.new (Same.refl Lh2) hc1
    have za : (upd Lh2 c1 (.tup [.int z, .int 1])) c1 = some (.tup (pr (Rat.divInt z 1))) := by rw [upd_same]; unfold pr; rw [hz1, hz2]; rfl
    generalize upd Lh2 c1 (.tup [.int z, .int 1]) = Ma at *
    replace f1 := f1.same wa
    replace f2 := f2.same wa
    replace f3 := f3.same wa
    replace ea := wa _ _ ea
    replace eb := wa _ _ eb
    replace ec := wa _ _ ec
    replace e1 := wa _ _ e1
    replace x1 := wa _ _ x1
    replace x2 := wa _ _ x2
    replace x3 := wa _ _ x3
    replace x4 := wa _ _ x4
    replace y2 := wa _ _ y2
    replace R0 := R0.same wa
    replace kq := kq.same wa
    clear wa
    refine ⟨ta, c1, p1, _, p1 + Rat.divInt z 1, 1, rfl, SqT.of ea, SqT.of za, b1.mono (by decide), bz.mono (by decide), .inl ⟨rfl, rfl⟩, fun d5 h5 => ?_⟩
    have u5 : Same Ma (upd Ma d5 (.tup (pr (p1 + Rat.divInt z 1)))) := MG.Same.new (Same.refl Ma) h5
    have x5 : (upd Ma d5 (.tup (pr (p1 + Rat.divInt z 1)))) d5 = some (.tup (pr (p1 + Rat.divInt z 1))) := upd_same
    generalize upd Ma d5 (.tup (pr (p1 + Rat.divInt z 1))) = J5 at *
    replace f1 := f1.same u5
    replace f2 := f2.same u5
    replace f3 := f3.same u5
    replace ea := u5 _ _ ea
    replace eb := u5 _ _ eb
    replace ec := u5 _ _ ec
    replace e1 := u5 _ _ e1
    replace x1 := u5 _ _ x1
    replace x2 := u5 _ _ x2
    replace x3 := u5 _ _ x3
    replace x4 := u5 _ _ x4
    replace y2 := u5 _ _ y2
    replace R0 := R0.same u5
    replace kq := kq.same u5
    clear u5
    refine ⟨_, rfl, _, rfl, by show 2 ≤ sizeLine; decide, fun c2 hc2 => ?_⟩
    have wb : Same J5 (upd J5 c2 (.tup [.int z, .int 1])) := MG.Same.new (Same.refl J5) hc2
    have zb : (upd J5 c2 (.tup [.int z, .int 1])) c2 = some (.tup (pr (Rat.divInt z 1))) := by rw [upd_same]; unfold pr; rw [hz1, hz2]; rfl
    generalize upd J5 c2 (.tup [.int z, .int 1]) = Mb at *
    replace f1 := f1.same wb
    replace f2 := f2.same wb
    replace f3 := f3.same wb
    replace ea := wb _ _ ea
    replace eb := wb _ _ eb
    replace ec := wb _ _ ec
    replace e1 := wb _ _ e1
    replace x1 := wb _ _ x1
    replace x2 := wb _ _ x2
    replace x3 := wb _ _ x3
    replace x4 := wb _ _ x4
    replace y2 := wb _ _ y2
    replace x5 := wb _ _ x5
    replace R0 := R0.same wb
    replace kq := kq.same wb
    clear wb
    refine ⟨_, rfl, ta, c2, p1, _, p1 - Rat.divInt z 1, -1, rfl, SqT.of ea, SqT.of zb, b1.mono (by decide), bz.mono (by decide), .inr ⟨rfl, rfl⟩, fun d6 h6 => ?_⟩
    have u6 : Same Mb (upd Mb d6 (.tup (pr (p1 - Rat.divInt z 1)))) := MG.Same.new (Same.refl Mb) h6
    have x6 : (upd Mb d6 (.tup (pr (p1 - Rat.divInt z 1)))) d6 = some (.tup (pr (p1 - Rat.divInt z 1))) := upd_same
    generalize upd Mb d6 (.tup (pr (p1 - Rat.divInt z 1))) = J6 at *
    replace f1 := f1.same u6
    replace f2 := f2.same u6
    replace f3 := f3.same u6
    replace ea := u6 _ _ ea
    replace eb := u6 _ _ eb
    replace ec := u6 _ _ ec
    replace e1 := u6 _ _ e1
    replace x1 := u6 _ _ x1
    replace x2 := u6 _ _ x2
    replace x3 := u6 _ _ x3
    replace x4 := u6 _ _ x4
    replace y2 := u6 _ _ y2
    replace x5 := u6 _ _ x5
    replace R0 := R0.same u6
    replace kq := kq.same u6
    clear u6
    have smz : Sm z := by have h := bz.num (by decide); rw [hz1] at h; exact h
    refine ⟨_, rfl, ta, _, _, _, rfl, rfl, SqT.of ea, rfl, _, rfl, _, _, rfl, rfl, sm_mul (b1.num (by decide)) smz, _, rfl, ta, _, _, _, rfl, rfl, SqT.of ea, rfl, _, _, rfl, dz, b1.den (by decide), fun d7 h7 => ?_⟩
    have ez : Rat.divInt (p1.num * z) p1.den = p1 * Rat.divInt z 1 := by rw [mul_eq, hz1, hz2, Int.natCast_one, Int.mul_one]
    rw [ez]
    have u7 : Same J6 (upd J6 d7 (.tup [.int (p1 * Rat.divInt z 1).num, .int (p1 * Rat.divInt z 1).den])) := MG.Same.new (Same.refl J6) h7
    have x7 : (upd J6 d7 (.tup [.int (p1 * Rat.divInt z 1).num, .int (p1 * Rat.divInt z 1).den])) d7 = some (.tup (pr (p1 * Rat.divInt z 1))) := upd_same
    generalize upd J6 d7 (.tup [.int (p1 * Rat.divInt z 1).num, .int (p1 * Rat.divInt z 1).den]) = J7 at *
    replace f1 := f1.same u7
    replace f2 := f2.same u7
    replace f3 := f3.same u7
    replace ea := u7 _ _ ea
    replace eb := u7 _ _ eb
    replace ec := u7 _ _ ec
    replace e1 := u7 _ _ e1
    replace x1 := u7 _ _ x1
    replace x2 := u7 _ _ x2
    replace x3 := u7 _ _ x3
    replace x4 := u7 _ _ x4
    replace y2 := u7 _ _ y2
    replace x5 := u7 _ _ x5
    replace x6 := u7 _ _ x6
    replace R0 := R0.same u7
    replace kq := kq.same u7
    clear u7
    refine ⟨by show 3 ≤ sizeLine; decide, fun l3 hl3 => ?_⟩
    have v3 : Same J7 (upd J7 l3 (.lst [.ref d5, .ref d6, .ref d7])) := MG.Same.new (Same.refl J7) hl3
    have y3 : (upd J7 l3 (.lst [.ref d5, .ref d6, .ref d7])) l3 = some (.lst [.ref d5, .ref d6, .ref d7]) := upd_same
    generalize upd J7 l3 (.lst [.ref d5, .ref d6, .ref d7]) = Lh3 at *
    replace f1 := f1.same v3
    replace f2 := f2.same v3
    replace f3 := f3.same v3
    replace ea := v3 _ _ ea
    replace eb := v3 _ _ eb
    replace ec := v3 _ _ ec
    replace e1 := v3 _ _ e1
    replace x1 := v3 _ _ x1
    replace x2 := v3 _ _ x2
    replace x3 := v3 _ _ x3
    replace x4 := v3 _ _ x4
    replace y2 := v3 _ _ y2
    replace x5 := v3 _ _ x5
    replace x6 := v3 _ _ x6
    replace x7 := v3 _ _ x7
    replace R0 := R0.same v3
    replace kq := kq.same v3
    clear v3
    refine ⟨l2, l3, _, _, rfl, rfl, y2, y3, by show 7 ≤ sizeLine; decide, fun l4 hl4 => ?_⟩
    simp only [List.cons_append, List.nil_append]
    have v4 : Same Lh3 (upd Lh3 l4 (.lst [.ref d1, .ref d2, .ref d3, .ref d4, .ref d5, .ref d6, .ref d7])) := MG.Same.new (Same.refl Lh3) hl4
    have y4 : (upd Lh3 l4 (.lst [.ref d1, .ref d2, .ref d3, .ref d4, .ref d5, .ref d6, .ref d7])) l4 = some (.lst [.ref d1, .ref d2, .ref d3, .ref d4, .ref d5, .ref d6, .ref d7]) := upd_same
    generalize upd Lh3 l4 (.lst [.ref d1, .ref d2, .ref d3, .ref d4, .ref d5, .ref d6, .ref d7]) = Lh4 at *
    replace f1 := f1.same v4
    replace f2 := f2.same v4
    replace f3 := f3.same v4
    replace ea := v4 _ _ ea
    replace eb := v4 _ _ eb
    replace ec := v4 _ _ ec
    replace e1 := v4 _ _ e1
    replace x1 := v4 _ _ x1
    replace x2 := v4 _ _ x2
    replace x3 := v4 _ _ x3
    replace x4 := v4 _ _ x4
    replace y2 := v4 _ _ y2
    replace x5 := v4 _ _ x5
    replace x6 := v4 _ _ x6
    replace x7 := v4 _ _ x7
    replace y3 := v4 _ _ y3
    replace R0 := R0.same v4
    replace kq := kq.same v4
    clear v4
    refine ⟨fun σ' H' => ∃ l1 l6 xs ys, σ' = [some (.ref q), some (.ref ta), some (.ref tb), some (.ref tc), some (.int z), some (.ref r1), some (.ref r2), some (.ref r3), some (.ref l1), some (.ref l6), none] ∧ Same Lh4 H' ∧ H' l1 = some (.lst xs) ∧ H' l6 = some (.lst ys) ∧ Rats C H' xs [p1 + p2, p1 - p2, p1 * p2, -p1, p1 + Rat.divInt z 1, p1 - Rat.divInt z 1, p1 * Rat.divInt z 1, p2 + p2, p2 - p2, p2 * p2] ∧ Pairs K H' ys [p1 + p2, p1 - p2, p1 * p2, -p1, p1 + Rat.divInt z 1, p1 - Rat.divInt z 1, p1 * Rat.divInt z 1, p2 + p2, p2 - p2, p2 * p2], ?_, ?_⟩
    have sX : Same Lh4 Lh4 := Same.refl _
    refine ⟨_, rfl, _, rfl, _, rfl, tb, tb, p2, p2, p2 + p2, 1, rfl, SqT.of eb, SqT.of eb, b2.mono (by decide), b2.mono (by decide), .inl ⟨rfl, rfl⟩, fun d8 h8 => ?_⟩
    have u8 : Same Lh4 (upd Lh4 d8 (.tup (pr (p2 + p2)))) := MG.Same.new (Same.refl Lh4) h8
    have x8 : (upd Lh4 d8 (.tup (pr (p2 + p2)))) d8 = some (.tup (pr (p2 + p2))) := upd_same
    generalize upd Lh4 d8 (.tup (pr (p2 + p2))) = J8 at *
    replace f1 := f1.same u8
    replace f2 := f2.same u8
    replace f3 := f3.same u8
    replace ea := u8 _ _ ea
    replace eb := u8 _ _ eb
    replace ec := u8 _ _ ec
    replace e1 := u8 _ _ e1
    replace x1 := u8 _ _ x1
    replace x2 := u8 _ _ x2
    replace x3 := u8 _ _ x3
    replace x4 := u8 _ _ x4
    replace y2 := u8 _ _ y2
    replace x5 := u8 _ _ x5
    replace x6 := u8 _ _ x6
    replace x7 := u8 _ _ x7
    replace y3 := u8 _ _ y3
    replace y4 := u8 _ _ y4
    replace R0 := R0.same u8
    replace kq := kq.same u8
    replace sX := sX.trans u8
    clear u8
    refine ⟨by show 2 ≤ sizeLine; decide, fun d9 h9 => ?_⟩
    have e00 : ([.int 0, .int 1] : List V) = pr (p2 - p2) := by rw [Rat.sub_self]; rfl
    rw [e00]
    have u9 : Same J8 (upd J8 d9 (.tup (pr (p2 - p2)))) := MG.Same.new (Same.refl J8) h9
    have x9 : (upd J8 d9 (.tup (pr (p2 - p2)))) d9 = some (.tup (pr (p2 - p2))) := upd_same
    generalize upd J8 d9 (.tup (pr (p2 - p2))) = J9 at *
    replace f1 := f1.same u9
    replace f2 := f2.same u9
    replace f3 := f3.same u9
    replace ea := u9 _ _ ea
    replace eb := u9 _ _ eb
    replace ec := u9 _ _ ec
    replace e1 := u9 _ _ e1
    replace x1 := u9 _ _ x1
    replace x2 := u9 _ _ x2
    replace x3 := u9 _ _ x3
    replace x4 := u9 _ _ x4
    replace y2 := u9 _ _ y2
    replace x5 := u9 _ _ x5
    replace x6 := u9 _ _ x6
    replace x7 := u9 _ _ x7
    replace y3 := u9 _ _ y3
    replace y4 := u9 _ _ y4
    replace x8 := u9 _ _ x8
    replace R0 := R0.same u9
    replace kq := kq.same u9
    replace sX := sX.trans u9
    clear u9
    refine ⟨_, rfl, tb, _, _, _, rfl, rfl, SqT.of eb, rfl, _, rfl, tb, _, _, _, rfl, rfl, SqT.of eb, rfl, _, _, rfl, rfl, sm_mul (b2.num (by decide)) (b2.num (by decide)), ?_⟩
    refine ⟨_, rfl, tb, _, _, _, rfl, rfl, SqT.of eb, rfl, _, rfl, tb, _, _, _, rfl, rfl, SqT.of eb, rfl, _, _, rfl, rfl, sm_mul (b2.den (by decide)) (b2.den (by decide)), _, _, rfl, den_ne p2 p2, sm_den2 b2 b2 (by decide), fun d10 h10 => ?_⟩
    rw [← mul_eq]
    have u10 : Same J9 (upd J9 d10 (.tup [.int (p2 * p2).num, .int (p2 * p2).den])) := MG.Same.new (Same.refl J9) h10
    have x10 : (upd J9 d10 (.tup [.int (p2 * p2).num, .int (p2 * p2).den])) d10 = some (.tup (pr (p2 * p2))) := upd_same
    generalize upd J9 d10 (.tup [.int (p2 * p2).num, .int (p2 * p2).den]) = J10 at *
    replace f1 := f1.same u10
    replace f2 := f2.same u10
    replace f3 := f3.same u10
    replace ea := u10 _ _ ea
    replace eb := u10 _ _ eb
    replace ec := u10 _ _ ec
    replace e1 := u10 _ _ e1
    replace x1 := u10 _ _ x1
    replace x2 := u10 _ _ x2
    replace x3 := u10 _ _ x3
    replace x4 := u10 _ _ x4
    replace y2 := u10 _ _ y2
    replace x5 := u10 _ _ x5
    replace x6 := u10 _ _ x6
    replace x7 := u10 _ _ x7
    replace y3 := u10 _ _ y3
    replace y4 := u10 _ _ y4
    replace x8 := u10 _ _ x8
    replace x9 := u10 _ _ x9
    replace R0 := R0.same u10
    replace kq := kq.same u10
    replace sX := sX.trans u10
    clear u10
    refine ⟨by show 3 ≤ sizeLine; decide, fun l5 hl5 => ?_⟩
    have v5 : Same J10 (upd J10 l5 (.lst [.ref d8, .ref d9, .ref d10])) := MG.Same.new (Same.refl J10) hl5
    have y5 : (upd J10 l5 (.lst [.ref d8, .ref d9, .ref d10])) l5 = some (.lst [.ref d8, .ref d9, .ref d10]) := upd_same
    generalize upd J10 l5 (.lst [.ref d8, .ref d9, .ref d10]) = Lh5 at *
    replace f1 := f1.same v5
    replace f2 := f2.same v5
    replace f3 := f3.same v5
    replace ea := v5 _ _ ea
    replace eb := v5 _ _ eb
    replace ec := v5 _ _ ec
    replace e1 := v5 _ _ e1
    replace x1 := v5 _ _ x1
    replace x2 := v5 _ _ x2
    replace x3 := v5 _ _ x3
    replace x4 := v5 _ _ x4
    replace y2 := v5 _ _ y2
    replace x5 := v5 _ _ x5
    replace x6 := v5 _ _ x6
    replace x7 := v5 _ _ x7
    replace y3 := v5 _ _ y3
    replace y4 := v5 _ _ y4
    replace x8 := v5 _ _ x8
    replace x9 := v5 _ _ x9
    replace x10 := v5 _ _ x10
    replace R0 := R0.same v5
    replace kq := kq.same v5
    replace sX := sX.trans v5
    clear v5
    refine ⟨l4, l5, _, _, rfl, rfl, y4, y5, by show 10 ≤ sizeLine; decide, fun l6 hl6 => ?_⟩
    simp only [List.cons_append, List.nil_append]
    have v6 : Same Lh5 (upd Lh5 l6 (.lst [.ref d1, .ref d2, .ref d3, .ref d4, .ref d5, .ref d6, .ref d7, .ref d8, .ref d9, .ref d10])) := MG.Same.new (Same.refl Lh5) hl6
    have y6 : (upd Lh5 l6 (.lst [.ref d1, .ref d2, .ref d3, .ref d4, .ref d5, .ref d6, .ref d7, .ref d8, .ref d9, .ref d10])) l6 = some (.lst [.ref d1, .ref d2, .ref d3, .ref d4, .ref d5, .ref d6, .ref d7, .ref d8, .ref d9, .ref d10]) := upd_same
    generalize upd Lh5 l6 (.lst [.ref d1, .ref d2, .ref d3, .ref d4, .ref d5, .ref d6, .ref d7, .ref d8, .ref d9, .ref d10]) = Lh6 at *
    replace f1 := f1.same v6
    replace f2 := f2.same v6
    replace f3 := f3.same v6
    replace ea := v6 _ _ ea
    replace eb := v6 _ _ eb
    replace ec := v6 _ _ ec
    replace e1 := v6 _ _ e1
    replace x1 := v6 _ _ x1
    replace x2 := v6 _ _ x2
    replace x3 := v6 _ _ x3
    replace x4 := v6 _ _ x4
    replace y2 := v6 _ _ y2
    replace x5 := v6 _ _ x5
    replace x6 := v6 _ _ x6
    replace x7 := v6 _ _ x7
    replace y3 := v6 _ _ y3
    replace y4 := v6 _ _ y4
    replace x8 := v6 _ _ x8
    replace x9 := v6 _ _ x9
    replace x10 := v6 _ _ x10
    replace y5 := v6 _ _ y5
    replace R0 := R0.same v6
    replace kq := kq.same v6
    replace sX := sX.trans v6
    clear v6
    have P0 : Pairs K Lh6 [.ref d1, .ref d2, .ref d3, .ref d4, .ref d5, .ref d6, .ref d7, .ref d8, .ref d9, .ref d10] [p1 + p2, p1 - p2, p1 * p2, -p1, p1 + Rat.divInt z 1, p1 - Rat.divInt z 1, p1 * Rat.divInt z 1, p2 + p2, p2 - p2, p2 * p2] := ⟨⟨_, rfl, SqT.of x1⟩, ⟨_, rfl, SqT.of x2⟩, ⟨_, rfl, SqT.of x3⟩, ⟨_, rfl, SqT.of x4⟩, ⟨_, rfl, SqT.of x5⟩, ⟨_, rfl, SqT.of x6⟩, ⟨_, rfl, SqT.of x7⟩, ⟨_, rfl, SqT.of x8⟩, ⟨_, rfl, SqT.of x9⟩, ⟨_, rfl, SqT.of x10⟩, True.intro⟩
    exact ⟨l1, l6, _, _, rfl, sX, e1, y6, R0, P0⟩
    rintro _ K0 ⟨la, lb, xs, ys, rfl, sY, ga, gb, Ra, Pa⟩
    replace f1 := f1.same sY
    replace f2 := f2.same sY
    replace f3 := f3.same sY
    replace ea := sY _ _ ea
    replace eb := sY _ _ eb
    replace ec := sY _ _ ec
    replace kq := kq.same sY
    clear sY R0 e1 x1 x2 x3 x4 x5 x6 x7 h1 h2 h3 h4 h5 h6 h7 y2 y3 y4 za zb hc1 hc2 hl2 hl3 hl4
    have BL : ∀ p ∈ [p1 + p2, p1 - p2, p1 * p2, -p1, p1 + Rat.divInt z 1, p1 - Rat.divInt z 1, p1 * Rat.divInt z 1, p2 + p2, p2 - p2, p2 * p2], Bd p 390 := by
      intro p hp
      simp only [List.mem_cons, List.not_mem_nil, or_false] at hp
      rcases hp with rfl | rfl | rfl | rfl | rfl | rfl | rfl | rfl | rfl | rfl
      · exact (bd_add b1 b2).mono (by decide)
      · exact (bd_sub b1 b2).mono (by decide)
      · exact (bd_mul b1 b2).mono (by decide)
      · exact (bd_neg b1).mono (by decide)
      · exact (bd_add b1 bz).mono (by decide)
      · exact (bd_sub b1 bz).mono (by decide)
      · exact (bd_mul b1 bz).mono (by decide)
      · exact (bd_add b2 b2).mono (by decide)
      · exact (bd_sub b2 b2).mono (by decide)
      · exact (bd_mul b2 b2).mono (by decide)
    -- if [told(x) for x in told_here] != [repr(x) for x in due]
    have lenx : xs.length = 10 := Ra.get.1
    have leny : ys.length = 10 := Pa.get.1
    refine ⟨fun σ' H' => σ' = [some (.ref q), some (.ref ta), some (.ref tb), some (.ref tc), some (.int z), some (.ref r1), some (.ref r2), some (.ref r3), some (.ref la), some (.ref lb), none] ∧ Same K0 H', ?_, ?_⟩
    refine ⟨_, rfl, la, _, shs [p1 + p2, p1 - p2, p1 * p2, -p1, p1 + Rat.divInt z 1, p1 - Rat.divInt z 1, p1 * Rat.divInt z 1, p2 + p2, p2 - p2, p2 * p2], rfl, SqL.of ga, lenx.symm, by omega, fun i x y H' hx hy s' => ?_, fun D1 N1 n1 _ m1 => ?_⟩
    · obtain ⟨r, p, rfl, rfl, h1, h2⟩ := told_item Ra hx hy
      exact ⟨_, rfl, r, p, rfl, h1.same s', BL p h2, fun H2 s2 => ⟨rfl, s2⟩⟩
    refine ⟨_, rfl, lb, _, shs [p1 + p2, p1 - p2, p1 * p2, -p1, p1 + Rat.divInt z 1, p1 - Rat.divInt z 1, p1 * Rat.divInt z 1, p2 + p2, p2 - p2, p2 * p2], rfl, SqL.of (n1 _ _ gb), leny.symm, by omega, fun i x y H' hx hy s' => ?_, fun D2 N2 n2 _ m2 => ?_⟩
    · obtain ⟨t, p, rfl, rfl, h1, h2⟩ := pair_item (Pa.same n1) hx hy
      obtain ⟨a1, a2, a3, a4, a5⟩ := pair_ok (seqt_same h1 s') ((BL p h2).num (by decide)) ((BL p h2).den (by decide))
      exact ⟨_, rfl, .ref t, _, rfl, a1, a2, a3, a4, a5, rfl, Same.refl _⟩
    obtain ⟨_, _, c1', c2', c3', c4', c5'⟩ := ne_shs (SqL.of (n2 _ _ m1)) (SqL.of m2)
    refine ⟨_, _, c1', c2', c3', c4', _, rfl, ?_⟩
    refine ifF c5' ?_
    exact ⟨rfl, n1.trans n2⟩
    rintro _ N2 ⟨rfl, n12⟩
    replace f1 := f1.same n12
    replace f2 := f2.same n12
    replace f3 := f3.same n12
    replace ea := n12 _ _ ea
    replace eb := n12 _ _ eb
    replace ec := n12 _ _ ec
    replace kq := kq.same n12
    clear n12 Ra Pa ga gb BL lenx leny
    -- if b[0] != 0: ..
    have clo : ∀ {Hx Hy : Hp}, Keep q H Hx → Same Hx Hy → Keep q H Hy := fun a b => a.same b
    refine ⟨fun σ' H' => Same N2 H' ∧ ∃ v8 v9, σ' = [some (.ref q), some (.ref ta), some (.ref tb), some (.ref tc), some (.int z), some (.ref r1), some (.ref r2), some (.ref r3), v8, v9, none], ?_, ?_⟩
    · refine ⟨_, rfl, tb, _, _, _, rfl, rfl, SqT.of eb, rfl, rfl, _, rfl, ?_⟩
      by_cases hb0 : p2.num = 0
      · have ez : (!decide (V.int p2.num = V.int 0)) = false := by rw [hb0]; rfl
        refine ifF ez ?_
        exact ⟨Same.refl N2, _, _, rfl⟩
      · have ez : (!decide (V.int p2.num = V.int 0)) = true := by simp [hb0]
        refine ifT ez ?_
        have bo : ∀ {p q : Rat} {i j : Nat}, Bd p i → Bd q j → q.num ≠ 0 → Bd (p / q) (i + j) := fun {p q i j} hp hq h0 => by
          rw [over_eq]
          refine bd_div (Int.mul_ne_zero (by have := p.den_nz; omega) h0) ?_ ?_
          · have e : (p.num * q.den).natAbs = p.num.natAbs * q.den := by rw [Int.natAbs_mul]; rfl
            rw [e]
            exact lt_mul hp.1 hq.2
          · have e : ((p.den : Int) * q.num).natAbs = p.den * q.num.natAbs := by rw [Int.natAbs_mul]; rfl
            rw [e]
            exact lt_mul hp.2 hq.1
        obtain ⟨dx1, ex1⟩ := id f1
        refine ⟨_, rfl, r1, dx1, _, rfl, ex1, flds_no p1 (by decide +kernel) (by decide +kernel), _, rfl, r1, .ref r2, p1, p2, rfl, f1, nm f2, hb0, B1, B2, fun o1 V1 v1 w1 => ?_⟩
        obtain ⟨dx1, ex1⟩ := f1.same v1
        refine ⟨_, rfl, r1, dx1, _, rfl, ex1, flds_no p1 (by decide +kernel) (by decide +kernel), _, rfl, r1, .ref r2, p1, p2, rfl, f1.same v1, nm (f2.same v1), hb0, B1, B2, fun o2 V2 v2 w2 => ?_⟩
        have v12 := v1.trans v2
        obtain ⟨dx2, ex2⟩ := f2.same v12
        refine ⟨_, rfl, r2, dx2, _, rfl, ex2, flds_no p2 (by decide +kernel) (by decide +kernel), _, rfl, r2, .ref r2, p2, p2, rfl, f2.same v12, nm (f2.same v12), hb0, B2, B2, fun o3 V3 v3 w3 => ?_⟩
        have v13 := v12.trans v3
        refine ⟨by show 3 ≤ sizeLine; decide, fun l7 hl7 => ?_⟩
        have v4 := MG.Same.new (o := .lst [.ref o1, .ref o2, .ref o3]) (Same.refl V3) hl7
        have RO : Rats C (upd V3 l7 (.lst [.ref o1, .ref o2, .ref o3])) [.ref o1, .ref o2, .ref o3] [p1 / p2, p1 / p2, p2 / p2] := ⟨⟨_, rfl, w1.same (v2.trans (v3.trans v4))⟩, ⟨_, rfl, w2.same (v3.trans v4)⟩, ⟨_, rfl, w3.same v4⟩, True.intro⟩
        have BO : ∀ p ∈ [p1 / p2, p1 / p2, p2 / p2], Bd p 390 := by
          intro p hp
          simp only [List.mem_cons, List.not_mem_nil, or_false] at hp
          rcases hp with rfl | rfl | rfl
          · exact (bo b1 b2 hb0).mono (by decide)
          · exact (bo b1 b2 hb0).mono (by decide)
          · exact (bo b2 b2 hb0).mono (by decide)
        refine ⟨l7, _, shs [p1 / p2, p1 / p2, p2 / p2], rfl, SqL.of upd_same, rfl, by show 3 ≤ 100000; decide, fun i x y H' hx hy s' => ?_, fun D3 N3 n3 _ m3 => ?_⟩
        · obtain ⟨r, p, rfl, rfl, h1, h2⟩ := told_item RO hx hy
          exact ⟨_, rfl, r, p, rfl, h1.same s', BO p h2, fun H2 s2 => ⟨rfl, s2⟩⟩
        have v5 := v13.trans (v4.trans n3)
        replace ea := v5 _ _ ea
        replace eb := v5 _ _ eb
        -- if told_here != [repr(lowest(..))] * 2 + ['(1, 1)']
        refine ⟨_, rfl, _, rfl, ta, _, _, _, rfl, rfl, SqT.of ea, rfl, _, rfl, tb, _, _, _, rfl, rfl, SqT.of eb, rfl, _, _, rfl, rfl, sm_mul (b1.num (by decide)) (b2.den (by decide)), ?_⟩
        have hdn : (p1.den : Int) * p2.num ≠ 0 := Int.mul_ne_zero dz hb0
        refine ⟨_, rfl, ta, _, _, _, rfl, rfl, SqT.of ea, rfl, _, rfl, tb, _, _, _, rfl, rfl, SqT.of eb, rfl, _, _, rfl, rfl, sm_mul (b1.den (by decide)) (b2.num (by decide)), _, _, rfl, hdn, sm_dn b1 b2 (by decide), fun l8 hl8 => ?_⟩
        rw [← over_eq]
        have bo12 := bo b1 b2 hb0
        obtain ⟨dd, a1, a2, a3, a4, a5, a6⟩ := pair_ex (K := K) (SqT.of (upd_same (H := N3) (a := l8) (o := .tup (pr (p1 / p2))))) (bo12.num (by decide)) (bo12.den (by decide))
        refine ⟨.ref l8, _, rfl, a1, a2, a3, a4, a5, by show 1 ≤ sizeLine; decide, fun l9 hl9 => ?_⟩
        refine ⟨l9, 2, _, rfl, rfl, upd_same, by decide, by decide, by show 2 ≤ sizeLine; decide, fun l10 hl10 => ?_⟩
        refine ⟨by show 1 ≤ sizeLine; decide, fun l11 hl11 => ?_⟩
        have n1011 := ne_of_none (upd_same) hl11
        refine ⟨l10, l11, _, _, rfl, rfl, by rw [upd_ne n1011]; exact upd_same, upd_same, by show 3 ≤ sizeLine; decide, fun l12 hl12 => ?_⟩
        have ns : ∀ {Hx : Hp} {a : Addr} {o : HO}, Hx a = none → Same Hx (upd Hx a o) := fun h => MG.Same.new (Same.refl _) h
        have q12 : Same N3 (upd (upd (upd (upd (upd N3 l8 (.tup (pr (p1 / p2)))) l9 (.lst [.str dd.shown])) l10 (.lst [.str dd.shown, .str dd.shown])) l11 (.lst [.str "(1, 1)"])) l12 (.lst [.str dd.shown, .str dd.shown, .str "(1, 1)"])) := (ns hl8).trans ((ns hl9).trans ((ns hl10).trans ((ns hl11).trans (ns hl12))))
        have one1 : p2 / p2 = 1 := by
          rw [Rat.div_def]
          exact Rat.mul_inv_cancel _ (fun e => hb0 (by rw [e]; rfl))
        have sh1 : sh 1 = ("(1, 1)" : Str) := by decide +kernel
        obtain ⟨_, _, c1', c2', c3', c4', c5'⟩ := ne_shs (K := K) (ps := [p1 / p2, p1 / p2, p2 / p2]) (SqL.of (q12 _ _ m3)) (SqL.of (a := l12) (xs := shs [p1 / p2, p1 / p2, p2 / p2]) (by rw [upd_same, a6, one1]; unfold shs; simp only [List.map_cons, List.map_nil, sh1]; rfl))
        refine ⟨_, _, c1', c2', c3', c4', _, rfl, ?_⟩
        refine ifF c5' ?_
        exact ⟨v5.trans q12, _, _, rfl⟩
    rintro σ' H' ⟨s9, v8, v9, rfl⟩
    replace f1 := f1.same s9
    replace f2 := f2.same s9
    replace f3 := f3.same s9
    replace ea := s9 _ _ ea
    replace eb := s9 _ _ eb
    replace ec := s9 _ _ ec
    replace kq := kq.same s9
    have nu : ∀ {Hx Hy : Hp} {r : Addr} {p : Rat}, RatAt C Hx r p → Same Hx Hy → RatAt C Hy r p := fun h s => h.same s
    -- if k != 0 and ..
    refine ⟨fun σ'' H'' => σ'' = [some (.ref q), some (.ref ta), some (.ref tb), some (.ref tc), some (.int z), some (.ref r1), some (.ref r2), some (.ref r3), v8, v9, none] ∧ Same H' H'', ?_, ?_⟩
    refine ⟨_, rfl, rfl, _, rfl, ?_⟩
    by_cases hz0 : z = 0
    · refine ifF (by rw [hz0]; rfl) ?_
      exact ⟨rfl, Same.refl _⟩
    · refine ifT (by simp [hz0]) ?_
      have kz : (Rat.divInt z 1).num ≠ 0 := by rw [hz1]; exact hz0
      obtain ⟨dx1, ex1⟩ := id f1
      refine ⟨_, rfl, r1, dx1, _, rfl, ex1, flds_no p1 (by decide +kernel) (by decide +kernel), _, rfl, r1, .int z, p1, Rat.divInt z 1, rfl, f1, nz, kz, B1, BZ, fun o1 V1 v1 w1 => ?_⟩
      have bo1 : Bd (p1 / Rat.divInt z 1) 65 := by
        rw [over_eq]
        refine bd_div (Int.mul_ne_zero dz kz) ?_ ?_
        · rw [Int.natAbs_mul]
          exact lt_mul b1.1 bz.2
        · rw [Int.natAbs_mul]
          exact lt_mul b1.2 bz.1
      refine ⟨o1, _, rfl, w1, bo1.mono (by decide), fun V2 v2 => ?_⟩
      replace ea := v2 _ _ (v1 _ _ ea)
      have hne : (p1.den : Int) * z ≠ 0 := Int.mul_ne_zero dz hz0
      have smd : Sm ((p1.den : Int) * z) := by have h := sm_dn b1 bz (by decide); rw [hz1] at h; exact h
      refine ⟨_, rfl, ta, _, _, _, rfl, rfl, SqT.of ea, rfl, _, rfl, ta, _, _, _, rfl, rfl, SqT.of ea, rfl, _, rfl, _, _, rfl, rfl, sm_mul (b1.den (by decide)) smz, _, _, rfl, hne, smd, fun l8 hl8 => ?_⟩
      have eo : Rat.divInt p1.num (p1.den * z) = p1 / Rat.divInt z 1 := by rw [over_eq, hz1, hz2, Int.natCast_one, Int.mul_one]
      obtain ⟨dd, a1, a2, a3, a4, a5, a6⟩ := pair_ex (K := K) (a := (Rat.divInt p1.num (p1.den * z)).num) (b := (Rat.divInt p1.num (p1.den * z)).den) (SqT.of (upd_same (H := V2) (a := l8) (o := .tup [.int (Rat.divInt p1.num (p1.den * z)).num, .int (Rat.divInt p1.num (p1.den * z)).den]))) (by rw [eo]; exact bo1.num (by decide)) (by rw [eo]; exact bo1.den (by decide))
      refine ⟨.ref l8, dd, rfl, a1, a2, a3, a4, a5, rfl, _, rfl, ?_⟩
      have e6 : sh (p1 / Rat.divInt z 1) = dd.shown := by rw [a6, eo]; rfl
      refine ifF (by rw [e6]; simp) ?_
      exact ⟨rfl, (v1.trans v2).trans (MG.Same.new (Same.refl _) hl8)⟩
    rintro _ X0 ⟨rfl, x0⟩
    replace f1 := nu f1 x0
    replace f2 := nu f2 x0
    replace f3 := nu f3 x0
    replace ea := x0 _ _ ea
    replace eb := x0 _ _ eb
    replace ec := x0 _ _ ec
    replace kq := kq.same x0
    have m45 : ∀ {p : Rat} {i : Nat}, i ≤ 150 → Bd p i → Bd p 150 := fun h b => b.mono h
    refine ⟨_, rfl, _, rfl, ?_⟩
    refine rd_bin f1 (nm f2) (m45 (by decide) (b1)) (m45 (by decide) (b2)) fun q1 X1 x1 k1 => ?_
    replace f1 := nu f1 x1
    replace f2 := nu f2 x1
    replace f3 := nu f3 x1
    replace ea := x1 _ _ ea
    replace eb := x1 _ _ eb
    replace ec := x1 _ _ ec
    replace kq := kq.same x1
    refine ⟨_, rfl, ?_⟩
    refine rd_bin k1 (nm f2) (m45 (by decide) (bd_add b1 b2)) (m45 (by decide) (b2)) fun q2 X2 x2 k2 => ?_
    replace f1 := nu f1 x2
    replace f2 := nu f2 x2
    replace f3 := nu f3 x2
    replace k1 := nu k1 x2
    replace ea := x2 _ _ ea
    replace eb := x2 _ _ eb
    replace ec := x2 _ _ ec
    replace kq := kq.same x2
    refine ⟨_, rfl, ?_⟩
    refine rd_ne k2 f1 (by grind) ⟨_, rfl, ?_⟩
    refine iteF ?_
    refine ⟨_, rfl, _, rfl, ?_⟩
    refine rd_bin f1 (nm f2) (m45 (by decide) (b1)) (m45 (by decide) (b2)) fun q3 X3 x3 k3 => ?_
    replace f1 := nu f1 x3
    replace f2 := nu f2 x3
    replace f3 := nu f3 x3
    replace k1 := nu k1 x3
    replace k2 := nu k2 x3
    replace ea := x3 _ _ ea
    replace eb := x3 _ _ eb
    replace ec := x3 _ _ ec
    replace kq := kq.same x3
    refine ⟨_, rfl, ?_⟩
    refine rd_bin k3 (nm f3) (m45 (by decide) (bd_add b1 b2)) (m45 (by decide) (b3)) fun q4 X4 x4 k4 => ?_
    replace f1 := nu f1 x4
    replace f2 := nu f2 x4
    replace f3 := nu f3 x4
    replace k1 := nu k1 x4
    replace k2 := nu k2 x4
    replace k3 := nu k3 x4
    replace ea := x4 _ _ ea
    replace eb := x4 _ _ eb
    replace ec := x4 _ _ ec
    replace kq := kq.same x4
    refine ⟨_, rfl, _, rfl, ?_⟩
    refine rd_bin f1 (nm f3) (m45 (by decide) (b1)) (m45 (by decide) (b3)) fun q5 X5 x5 k5 => ?_
    replace f1 := nu f1 x5
    replace f2 := nu f2 x5
    replace f3 := nu f3 x5
    replace k1 := nu k1 x5
    replace k2 := nu k2 x5
    replace k3 := nu k3 x5
    replace k4 := nu k4 x5
    replace ea := x5 _ _ ea
    replace eb := x5 _ _ eb
    replace ec := x5 _ _ ec
    replace kq := kq.same x5
    refine ⟨_, rfl, _, rfl, ?_⟩
    refine rd_bin f2 (nm f3) (m45 (by decide) (b2)) (m45 (by decide) (b3)) fun q6 X6 x6 k6 => ?_
    replace f1 := nu f1 x6
    replace f2 := nu f2 x6
    replace f3 := nu f3 x6
    replace k1 := nu k1 x6
    replace k2 := nu k2 x6
    replace k3 := nu k3 x6
    replace k4 := nu k4 x6
    replace k5 := nu k5 x6
    replace ea := x6 _ _ ea
    replace eb := x6 _ _ eb
    replace ec := x6 _ _ ec
    replace kq := kq.same x6
    refine rd_bin k5 (nm k6) (m45 (by decide) (bd_mul b1 b3)) (m45 (by decide) (bd_mul b2 b3)) fun q7 X7 x7 k7 => ?_
    replace f1 := nu f1 x7
    replace f2 := nu f2 x7
    replace f3 := nu f3 x7
    replace k1 := nu k1 x7
    replace k2 := nu k2 x7
    replace k3 := nu k3 x7
    replace k4 := nu k4 x7
    replace k5 := nu k5 x7
    replace k6 := nu k6 x7
    replace ea := x7 _ _ ea
    replace eb := x7 _ _ eb
    replace ec := x7 _ _ ec
    replace kq := kq.same x7
    refine rd_ne k4 k7 (by grind) ⟨_, rfl, ?_⟩
    refine iteF ?_
    refine ⟨_, rfl, _, rfl, _, rfl, ?_⟩
    refine rd_bin f2 (nm f3) (m45 (by decide) (b2)) (m45 (by decide) (b3)) fun q8 X8 x8 k8 => ?_
    replace f1 := nu f1 x8
    replace f2 := nu f2 x8
    replace f3 := nu f3 x8
    replace k1 := nu k1 x8
    replace k2 := nu k2 x8
    replace k3 := nu k3 x8
    replace k4 := nu k4 x8
    replace k5 := nu k5 x8
    replace k6 := nu k6 x8
    replace k7 := nu k7 x8
    replace ea := x8 _ _ ea
    replace eb := x8 _ _ eb
    replace ec := x8 _ _ ec
    replace kq := kq.same x8
    refine rd_bin f1 (nm k8) (m45 (by decide) (b1)) (m45 (by decide) (bd_add b2 b3)) fun q9 X9 x9 k9 => ?_
    replace f1 := nu f1 x9
    replace f2 := nu f2 x9
    replace f3 := nu f3 x9
    replace k1 := nu k1 x9
    replace k2 := nu k2 x9
    replace k3 := nu k3 x9
    replace k4 := nu k4 x9
    replace k5 := nu k5 x9
    replace k6 := nu k6 x9
    replace k7 := nu k7 x9
    replace k8 := nu k8 x9
    replace ea := x9 _ _ ea
    replace eb := x9 _ _ eb
    replace ec := x9 _ _ ec
    replace kq := kq.same x9
    refine ⟨_, rfl, _, rfl, ?_⟩
    refine rd_bin f1 (nm f2) (m45 (by decide) (b1)) (m45 (by decide) (b2)) fun q10 X10 x10 k10 => ?_
    replace f1 := nu f1 x10
    replace f2 := nu f2 x10
    replace f3 := nu f3 x10
    replace k1 := nu k1 x10
    replace k2 := nu k2 x10
    replace k3 := nu k3 x10
    replace k4 := nu k4 x10
    replace k5 := nu k5 x10
    replace k6 := nu k6 x10
    replace k7 := nu k7 x10
    replace k8 := nu k8 x10
    replace k9 := nu k9 x10
    replace ea := x10 _ _ ea
    replace eb := x10 _ _ eb
    replace ec := x10 _ _ ec
    replace kq := kq.same x10
    refine ⟨_, rfl, ?_⟩
    refine rd_bin k10 (nm f3) (m45 (by decide) (bd_add b1 b2)) (m45 (by decide) (b3)) fun q11 X11 x11 k11 => ?_
    replace f1 := nu f1 x11
    replace f2 := nu f2 x11
    replace f3 := nu f3 x11
    replace k1 := nu k1 x11
    replace k2 := nu k2 x11
    replace k3 := nu k3 x11
    replace k4 := nu k4 x11
    replace k5 := nu k5 x11
    replace k6 := nu k6 x11
    replace k7 := nu k7 x11
    replace k8 := nu k8 x11
    replace k9 := nu k9 x11
    replace k10 := nu k10 x11
    replace ea := x11 _ _ ea
    replace eb := x11 _ _ eb
    replace ec := x11 _ _ ec
    replace kq := kq.same x11
    refine rd_ne k9 k11 (by grind) ⟨_, rfl, ?_⟩
    refine iteF ?_
    refine ⟨_, rfl, _, rfl, ?_⟩
    refine rd_bin f1 (nm f2) (m45 (by decide) (b1)) (m45 (by decide) (b2)) fun q12 X12 x12 k12 => ?_
    replace f1 := nu f1 x12
    replace f2 := nu f2 x12
    replace f3 := nu f3 x12
    replace k1 := nu k1 x12
    replace k2 := nu k2 x12
    replace k3 := nu k3 x12
    replace k4 := nu k4 x12
    replace k5 := nu k5 x12
    replace k6 := nu k6 x12
    replace k7 := nu k7 x12
    replace k8 := nu k8 x12
    replace k9 := nu k9 x12
    replace k10 := nu k10 x12
    replace k11 := nu k11 x12
    replace ea := x12 _ _ ea
    replace eb := x12 _ _ eb
    replace ec := x12 _ _ ec
    replace kq := kq.same x12
    refine ⟨_, rfl, _, rfl, ?_⟩
    refine rd_bin f2 (nm f1) (m45 (by decide) (b2)) (m45 (by decide) (b1)) fun q13 X13 x13 k13 => ?_
    replace f1 := nu f1 x13
    replace f2 := nu f2 x13
    replace f3 := nu f3 x13
    replace k1 := nu k1 x13
    replace k2 := nu k2 x13
    replace k3 := nu k3 x13
    replace k4 := nu k4 x13
    replace k5 := nu k5 x13
    replace k6 := nu k6 x13
    replace k7 := nu k7 x13
    replace k8 := nu k8 x13
    replace k9 := nu k9 x13
    replace k10 := nu k10 x13
    replace k11 := nu k11 x13
    replace k12 := nu k12 x13
    replace ea := x13 _ _ ea
    replace eb := x13 _ _ eb
    replace ec := x13 _ _ ec
    replace kq := kq.same x13
    refine rd_neg k13 ((bd_sub b2 b1).mono (by decide)) fun q14 X14 x14 k14 => ?_
    replace f1 := nu f1 x14
    replace f2 := nu f2 x14
    replace f3 := nu f3 x14
    replace k1 := nu k1 x14
    replace k2 := nu k2 x14
    replace k3 := nu k3 x14
    replace k4 := nu k4 x14
    replace k5 := nu k5 x14
    replace k6 := nu k6 x14
    replace k7 := nu k7 x14
    replace k8 := nu k8 x14
    replace k9 := nu k9 x14
    replace k10 := nu k10 x14
    replace k11 := nu k11 x14
    replace k12 := nu k12 x14
    replace k13 := nu k13 x14
    replace ea := x14 _ _ ea
    replace eb := x14 _ _ eb
    replace ec := x14 _ _ ec
    replace kq := kq.same x14
    refine rd_ne k12 k14 (by grind) ⟨_, rfl, ?_⟩
    refine iteF ?_
    refine ⟨_, rfl, _, rfl, ?_⟩
    refine rd_bin f1 (nm f2) (m45 (by decide) (b1)) (m45 (by decide) (b2)) fun q15 X15 x15 k15 => ?_
    replace f1 := nu f1 x15
    replace f2 := nu f2 x15
    replace f3 := nu f3 x15
    replace ea := x15 _ _ ea
    replace eb := x15 _ _ eb
    replace ec := x15 _ _ ec
    replace kq := kq.same x15
    refine ⟨_, rfl, _, rfl, ?_⟩
    refine rd_bin f2 (nm f1) (m45 (by decide) (b2)) (m45 (by decide) (b1)) fun q16 X16 x16 k16 => ?_
    replace f1 := nu f1 x16
    replace f2 := nu f2 x16
    replace f3 := nu f3 x16
    replace k15 := nu k15 x16
    replace ea := x16 _ _ ea
    replace eb := x16 _ _ eb
    replace ec := x16 _ _ ec
    replace kq := kq.same x16
    refine rd_ne k15 k16 (by grind) ⟨_, rfl, ?_⟩
    refine iteF ?_
    refine ⟨_, rfl, _, rfl, ?_⟩
    refine rd_bin f1 (nm f2) (m45 (by decide) (b1)) (m45 (by decide) (b2)) fun q17 X17 x17 k17 => ?_
    replace f1 := nu f1 x17
    replace f2 := nu f2 x17
    replace f3 := nu f3 x17
    replace k15 := nu k15 x17
    replace k16 := nu k16 x17
    replace ea := x17 _ _ ea
    replace eb := x17 _ _ eb
    replace ec := x17 _ _ ec
    replace kq := kq.same x17
    refine ⟨_, rfl, _, rfl, ?_⟩
    refine rd_bin f1 (nm f2) (m45 (by decide) (b1)) (m45 (by decide) (b2)) fun q18 X18 x18 k18 => ?_
    replace f1 := nu f1 x18
    replace f2 := nu f2 x18
    replace f3 := nu f3 x18
    replace k15 := nu k15 x18
    replace k16 := nu k16 x18
    replace k17 := nu k17 x18
    replace ea := x18 _ _ ea
    replace eb := x18 _ _ eb
    replace ec := x18 _ _ ec
    replace kq := kq.same x18
    refine rd_ne k17 k18 rfl ⟨_, rfl, ?_⟩
    refine iteF ?_
    -- return [told(x) for x in [one, two, three]] == [repr(x) for x in [a, b, c]]
    have BE : ∀ p ∈ [p1, p2, p3], Bd p 390 := by
      intro p hp
      simp only [List.mem_cons, List.not_mem_nil, or_false] at hp
      rcases hp with rfl | rfl | rfl
      · exact b1.mono (by decide)
      · exact b2.mono (by decide)
      · exact b3.mono (by decide)
    refine ⟨_, rfl, _, rfl, _, rfl, by show 3 ≤ sizeLine; decide, fun l1 hl1 => ?_⟩
    have y1 := MG.Same.new (o := .lst [.ref r1, .ref r2, .ref r3]) (Same.refl _) hl1
    have RR : Rats C (upd X18 l1 (.lst [.ref r1, .ref r2, .ref r3])) [.ref r1, .ref r2, .ref r3] [p1, p2, p3] := ⟨⟨_, rfl, nu f1 y1⟩, ⟨_, rfl, nu f2 y1⟩, ⟨_, rfl, nu f3 y1⟩, True.intro⟩
    refine ⟨l1, _, shs [p1, p2, p3], rfl, SqL.of upd_same, rfl, by show 3 ≤ 100000; decide, fun i x y H2 hx hy s' => ?_, fun D1 N1 n1 _ m1 => ?_⟩
    · obtain ⟨r, p, rfl, rfl, h1, h2⟩ := told_item RR hx hy
      exact ⟨_, rfl, r, p, rfl, h1.same s', BE p h2, fun H2 s2 => ⟨rfl, s2⟩⟩
    have y2 := y1.trans n1
    refine ⟨_, rfl, _, rfl, _, rfl, by show 3 ≤ sizeLine; decide, fun l2 hl2 => ?_⟩
    have y3 := y2.trans (MG.Same.new (o := .lst [.ref ta, .ref tb, .ref tc]) (Same.refl _) hl2)
    have PP : Pairs K (upd N1 l2 (.lst [.ref ta, .ref tb, .ref tc])) [.ref ta, .ref tb, .ref tc] [p1, p2, p3] := ⟨⟨_, rfl, SqT.of (y3 _ _ ea)⟩, ⟨_, rfl, SqT.of (y3 _ _ eb)⟩, ⟨_, rfl, SqT.of (y3 _ _ ec)⟩, True.intro⟩
    refine ⟨l2, _, shs [p1, p2, p3], rfl, SqL.of upd_same, rfl, by show 3 ≤ 100000; decide, fun i x y H2 hx hy s' => ?_, fun D2 N2' n2 _ m2 => ?_⟩
    · obtain ⟨t, p, rfl, rfl, h1, h2⟩ := pair_item PP hx hy
      obtain ⟨a1, a2, a3, a4, a5⟩ := pair_ok (seqt_same h1 s') ((BE p h2).num (by decide)) ((BE p h2).den (by decide))
      exact ⟨_, rfl, .ref t, _, rfl, a1, a2, a3, a4, a5, rfl, Same.refl _⟩
    obtain ⟨_, _, c1', c2', c3', c4', c5'⟩ := eq_shs (K := K) (ps := [p1, p2, p3]) (SqL.of (n2 _ _ (MG.Same.new (Same.refl _) hl2 _ _ m1))) (SqL.of m2)
    refine ⟨_, _, c1', c2', c3', c4', ?_⟩
    rw [c5']
    exact k _ (kq.same (y3.trans n2))
end
end Lw

namespace Lw
open PySem PySem.Spec PyProof.Rows L2 MG
section
variable {P : Program} {w : World} {K : PySem.W.Frag} {mg : Str → Option Value} {base : Heap} {C : Addr}
abbrev RightC (P : Program) (w : World) (K : PySem.W.Frag) (mg : Str → Option Value) (base : Heap) : Prop := CalG P w K mg base 12 "_law_right" spRight []
def spLaw (K : PySem.W.Frag) : Sp := fun vs H Q _ => ∃ (a : Addr) (ns : List Int), vs = [.ref a] ∧ SqL K H a (ns.map V.int) ∧ ns.length ≤ 63 ∧ ∀ H', Q (.bl true) H'
theorem rep_get {α : Type} {n i : Nat} {a y : α} (h : (List.replicate n a)[i]? = some y) : y = a := by
  rw [List.getElem?_replicate] at h
  split at h
  · exact (Option.some.inj h).symm
  · cases h
theorem sc_law : FnScope ["_law_script", "_law_k"] ["_law_script"] (defScope s_law) := ⟨rfl, rfl, rfl, by decide +kernel, rfl, by decide +kernel, by decide +kernel⟩
theorem ok_law {f : Addr} {fd : FuncData} (F : Fun K "law" "law" s_law f fd) (T : Blt mg) (c_right : RightC P w K mg base) (c_from : FromC P w K mg base) : FnG P w K mg base CX0 14 f fd ["_law_script"] (spLaw K) := by
  refine fun_okG F sc_law (fun vs H Q E h => ?_) (fun cdv A outer s H vs Q E bare hr h => ?_)
  · obtain ⟨a, ns, rfl, _⟩ := h
    rfl
  · obtain ⟨a, ns, rfl, hS, hl, k⟩ := h
    refine ⟨_, (pss_one (ps_ret (pe_callB (id := "all") (cr_all rfl) (by rfl) T.b_all (by decide +kernel) (pa_cons (pe_mapR (j := 1) (fun σ H Q Q' hq ⟨v, e, p, ys, e1, o, i, j, e2, i2, j2, e3, q⟩ => ⟨v, e, p, ys, e1, o, i, j, e2, i2, j2, e3, hq _ _ q⟩) (pe_lc (own := [("_law_k", 1)]) (g := gName 1) (tt := tYes) rfl sc_law.nd (pi_range1 (by rfl) T.b_range (pa_cons (pe_callB (id := "max") (call_max2 rfl) (by rfl) T.b_max (by decide +kernel) (pa_cons pe_int (pa_cons (pe_callB (id := "min") (call_min2 rfl) (by rfl) T.b_min (by decide +kernel) (pa_cons (pe_callB (id := "len") call_len_seq (by rfl) T.b_len (by decide +kernel) (pa_cons (pv 0) pa_nil)) (pa_cons pe_int pa_nil))) pa_nil))) pa_nil)) (blkOk_by (N := ["_law_script", "_law_k"]) (sc := defScope s_law) (by decide +kernel)) (fun _ _ _ _ _ => (pg_name (i := 1) sc_law.nd rfl (Or.inl rfl))) (fun _ _ _ _ _ => pts_nil) (fun _ _ _ _ _ => (pe_cut (pe_cg c_right bare hr (by decide) rfl (pa_cons (pe_cg c_from bare hr (by decide) rfl (pa_cons (pv 0) (pa_cons (pv 1) pa_nil))) pa_nil)))))) pa_nil)))), ?_⟩
    have hm : ∃ m : Nat, (m : Int) = (if (if (6 : Int) < ((ns.map V.int).length : Int) then 6 else ((ns.map V.int).length : Int)) > 1 then (if (6 : Int) < ((ns.map V.int).length : Int) then 6 else ((ns.map V.int).length : Int)) else 1) ∧ m ≤ 63 := by
      rw [List.length_map]
      refine ⟨(if (if (6 : Int) < (ns.length : Int) then 6 else (ns.length : Int)) > 1 then (if (6 : Int) < (ns.length : Int) then 6 else (ns.length : Int)) else 1).toNat, ?_, ?_⟩
      · split <;> (try split) <;> omega
      · split <;> (try split) <;> omega
    obtain ⟨m, em, hm⟩ := hm
    refine ⟨_, rfl, a, _, rfl, Or.inl hS, _, _, rfl, _, _, rfl, _, List.replicate m (.bl true), rfl, ?_, ?_, ?_, fun i y H' hy s' => ?_, fun D H' s' _ e => ?_⟩
    · rw [← em]; omega
    · rw [← em]; omega
    · rw [← em, List.length_replicate]
    · obtain rfl := rep_get hy
      refine ⟨_, rfl, _, rfl, a, ns, _, rfl, s'.seq hS, by omega, fun q H1 hq s1 q0 => ⟨q, rfl, q0, fun H2 k2 => ⟨rfl, fun b o hb => ?_⟩⟩⟩
      exact k2 _ _ (s1 _ _ hb) (ne_of_none hb hq)
    · refine ⟨D, List.replicate m true, rfl, SqL.of (by rw [e, List.map_replicate]), ?_⟩
      have e2 : (List.replicate m true).all id = true := by simp
      rw [e2]
      exact k _
end
end Lw

namespace Lw
open PySem PySem.Spec PyProof.Rows L2 MG
theorem all_mk {l : PySem.W.OpenLaw} {w : World} {K : PySem.W.Frag} {h : Heap} {mg : Str → Option Value} {fa fD0 fD1 fD2 fD3 fD4 fD5 fD6 fD7 fD8 fD9 fD10 fD11 fD12 fD13 C fM0 fM1 fM2 fM3 fM4 fM5 fP0 pP0 fP1 pP1 fI tI : Addr} (X : K.In h) (G : h.Ns mainGlobals mg) (hfa : mg "law" = some (.ref fa))
    {odD0 anD0 : Option Addr} {slD0 : Array (Option Value)} {ocD0 kVD0 dcD0 pmD0 cdD0 ctD0 : Value}
    {odD1 anD1 : Option Addr} {slD1 : Array (Option Value)} {ocD1 kVD1 dcD1 pmD1 cdD1 ctD1 : Value}
    {odD2 anD2 : Option Addr} {slD2 : Array (Option Value)} {ocD2 kVD2 dcD2 pmD2 cdD2 ctD2 : Value}
    {odD3 anD3 : Option Addr} {slD3 : Array (Option Value)} {ocD3 kVD3 dcD3 pmD3 cdD3 ctD3 : Value}
    {odD4 anD4 : Option Addr} {slD4 : Array (Option Value)} {ocD4 kVD4 dcD4 pmD4 cdD4 ctD4 : Value}
    {odD5 anD5 : Option Addr} {slD5 : Array (Option Value)} {ocD5 kVD5 dcD5 pmD5 cdD5 ctD5 : Value}
    {odD6 anD6 : Option Addr} {slD6 : Array (Option Value)} {ocD6 kVD6 dcD6 pmD6 cdD6 ctD6 : Value}
    {odD7 anD7 : Option Addr} {slD7 : Array (Option Value)} {ocD7 kVD7 dcD7 pmD7 cdD7 ctD7 : Value}
    {odD8 anD8 : Option Addr} {slD8 : Array (Option Value)} {ocD8 kVD8 dcD8 pmD8 cdD8 ctD8 : Value}
    {odD9 anD9 : Option Addr} {slD9 : Array (Option Value)} {ocD9 kVD9 dcD9 pmD9 cdD9 ctD9 : Value}
    {odD10 anD10 : Option Addr} {slD10 : Array (Option Value)} {ocD10 kVD10 dcD10 pmD10 cdD10 ctD10 : Value}
    {odD11 anD11 : Option Addr} {slD11 : Array (Option Value)} {ocD11 kVD11 dcD11 pmD11 cdD11 ctD11 : Value}
    {odD12 anD12 : Option Addr} {slD12 : Array (Option Value)} {ocD12 kVD12 dcD12 pmD12 cdD12 ctD12 : Value}
    {odD13 anD13 : Option Addr} {slD13 : Array (Option Value)} {ocD13 kVD13 dcD13 pmD13 cdD13 ctD13 : Value}
    {odM0 anM0 : Option Addr} {slM0 : Array (Option Value)} {ocM0 kVM0 dcM0 pmM0 cdM0 ctM0 : Value}
    {odM1 anM1 : Option Addr} {slM1 : Array (Option Value)} {ocM1 kVM1 dcM1 pmM1 cdM1 ctM1 : Value}
    {odM2 anM2 : Option Addr} {slM2 : Array (Option Value)} {ocM2 kVM2 dcM2 pmM2 cdM2 ctM2 : Value}
    {odM3 anM3 : Option Addr} {slM3 : Array (Option Value)} {ocM3 kVM3 dcM3 pmM3 cdM3 ctM3 : Value}
    {odM4 anM4 : Option Addr} {slM4 : Array (Option Value)} {ocM4 kVM4 dcM4 pmM4 cdM4 ctM4 : Value}
    {odM5 anM5 : Option Addr} {slM5 : Array (Option Value)} {ocM5 kVM5 dcM5 pmM5 cdM5 ctM5 : Value}
    {reP0 : List Value}
    {odP0 anP0 : Option Addr} {slP0 : Array (Option Value)} {ocP0 kVP0 dcP0 pmP0 cdP0 ctP0 : Value}
    {reP1 : List Value}
    {odP1 anP1 : Option Addr} {slP1 : Array (Option Value)} {ocP1 kVP1 dcP1 pmP1 cdP1 ctP1 : Value}
    {odI anI : Option Addr} {slI : Array (Option Value)} {ocI kVI dcI pmI cdI ctI : Value}
    {oT : Obj} {nT : Nat} {kT : Tok}
    {v_add u_add : Option Value}
    {v_sub u_sub : Option Value}
    {v_mul u_mul : Option Value}
    (aD0 : PySem.W.nsIn K mainGlobals "is_whole" = some (some (.ref fD0)))
    (lD0 : K.lookup fD0 = some ⟨ocD0, odD0, .func (PySem.W.fnOf "is_whole" "is_whole" (defArgs s_is_whole) (defBody s_is_whole) (defScope s_is_whole) .none kVD0 dcD0 pmD0 anD0 cdD0 ctD0), slD0⟩)
    (cD0 : PySem.W.codeIn K cdD0 "is_whole" = true)
    (kD0 : PySem.W.keepIn K (.ref fD0) = true)
    (aD1 : PySem.W.nsIn K mainGlobals "is_number" = some (some (.ref fD1)))
    (lD1 : K.lookup fD1 = some ⟨ocD1, odD1, .func (PySem.W.fnOf "is_number" "is_number" (defArgs s_is_number) (defBody s_is_number) (defScope s_is_number) .none kVD1 dcD1 pmD1 anD1 cdD1 ctD1), slD1⟩)
    (cD1 : PySem.W.codeIn K cdD1 "is_number" = true)
    (kD1 : PySem.W.keepIn K (.ref fD1) = true)
    (aD2 : PySem.W.nsIn K mainGlobals "to_ratio" = some (some (.ref fD2)))
    (lD2 : K.lookup fD2 = some ⟨ocD2, odD2, .func (PySem.W.fnOf "to_ratio" "to_ratio" (defArgs s_to_ratio) (defBody s_to_ratio) (defScope s_to_ratio) .none kVD2 dcD2 pmD2 anD2 cdD2 ctD2), slD2⟩)
    (cD2 : PySem.W.codeIn K cdD2 "to_ratio" = true)
    (kD2 : PySem.W.keepIn K (.ref fD2) = true)
    (aD3 : PySem.W.nsIn K mainGlobals "_law_purse" = some (some (.ref fD3)))
    (lD3 : K.lookup fD3 = some ⟨ocD3, odD3, .func (PySem.W.fnOf "_law_purse" "_law_purse" (defArgs s__law_purse) (defBody s__law_purse) (defScope s__law_purse) .none kVD3 dcD3 pmD3 anD3 cdD3 ctD3), slD3⟩)
    (cD3 : PySem.W.codeIn K cdD3 "_law_purse" = true)
    (kD3 : PySem.W.keepIn K (.ref fD3) = true)
    (aD4 : PySem.W.nsIn K mainGlobals "_law_draw" = some (some (.ref fD4)))
    (lD4 : K.lookup fD4 = some ⟨ocD4, odD4, .func (PySem.W.fnOf "_law_draw" "_law_draw" (defArgs s__law_draw) (defBody s__law_draw) (defScope s__law_draw) .none kVD4 dcD4 pmD4 anD4 cdD4 ctD4), slD4⟩)
    (cD4 : PySem.W.codeIn K cdD4 "_law_draw" = true)
    (kD4 : PySem.W.keepIn K (.ref fD4) = true)
    (aD5 : PySem.W.nsIn K mainGlobals "_law_great" = some (some (.ref fD5)))
    (lD5 : K.lookup fD5 = some ⟨ocD5, odD5, .func (PySem.W.fnOf "_law_great" "_law_great" (defArgs s__law_great) (defBody s__law_great) (defScope s__law_great) .none kVD5 dcD5 pmD5 anD5 cdD5 ctD5), slD5⟩)
    (cD5 : PySem.W.codeIn K cdD5 "_law_great" = true)
    (kD5 : PySem.W.keepIn K (.ref fD5) = true)
    (aD6 : PySem.W.nsIn K mainGlobals "_law_common" = some (some (.ref fD6)))
    (lD6 : K.lookup fD6 = some ⟨ocD6, odD6, .func (PySem.W.fnOf "_law_common" "_law_common" (defArgs s__law_common) (defBody s__law_common) (defScope s__law_common) .none kVD6 dcD6 pmD6 anD6 cdD6 ctD6), slD6⟩)
    (cD6 : PySem.W.codeIn K cdD6 "_law_common" = true)
    (kD6 : PySem.W.keepIn K (.ref fD6) = true)
    (aD7 : PySem.W.nsIn K mainGlobals "_law_lowest" = some (some (.ref fD7)))
    (lD7 : K.lookup fD7 = some ⟨ocD7, odD7, .func (PySem.W.fnOf "_law_lowest" "_law_lowest" (defArgs s__law_lowest) (defBody s__law_lowest) (defScope s__law_lowest) .none kVD7 dcD7 pmD7 anD7 cdD7 ctD7), slD7⟩)
    (cD7 : PySem.W.codeIn K cdD7 "_law_lowest" = true)
    (kD7 : PySem.W.keepIn K (.ref fD7) = true)
    (aD8 : PySem.W.nsIn K mainGlobals "_law_from" = some (some (.ref fD8)))
    (lD8 : K.lookup fD8 = some ⟨ocD8, odD8, .func (PySem.W.fnOf "_law_from" "_law_from" (defArgs s__law_from) (defBody s__law_from) (defScope s__law_from) .none kVD8 dcD8 pmD8 anD8 cdD8 ctD8), slD8⟩)
    (cD8 : PySem.W.codeIn K cdD8 "_law_from" = true)
    (kD8 : PySem.W.keepIn K (.ref fD8) = true)
    (aD9 : PySem.W.nsIn K mainGlobals "_law_near" = some (some (.ref fD9)))
    (lD9 : K.lookup fD9 = some ⟨ocD9, odD9, .func (PySem.W.fnOf "_law_near" "_law_near" (defArgs s__law_near) (defBody s__law_near) (defScope s__law_near) .none kVD9 dcD9 pmD9 anD9 cdD9 ctD9), slD9⟩)
    (cD9 : PySem.W.codeIn K cdD9 "_law_near" = true)
    (kD9 : PySem.W.keepIn K (.ref fD9) = true)
    (aD10 : PySem.W.nsIn K mainGlobals "_law_sum" = some (some (.ref fD10)))
    (lD10 : K.lookup fD10 = some ⟨ocD10, odD10, .func (PySem.W.fnOf "_law_sum" "_law_sum" (defArgs s__law_sum) (defBody s__law_sum) (defScope s__law_sum) .none kVD10 dcD10 pmD10 anD10 cdD10 ctD10), slD10⟩)
    (cD10 : PySem.W.codeIn K cdD10 "_law_sum" = true)
    (kD10 : PySem.W.keepIn K (.ref fD10) = true)
    (aD11 : PySem.W.nsIn K mainGlobals "_law_told" = some (some (.ref fD11)))
    (lD11 : K.lookup fD11 = some ⟨ocD11, odD11, .func (PySem.W.fnOf "_law_told" "_law_told" (defArgs s__law_told) (defBody s__law_told) (defScope s__law_told) .none kVD11 dcD11 pmD11 anD11 cdD11 ctD11), slD11⟩)
    (cD11 : PySem.W.codeIn K cdD11 "_law_told" = true)
    (kD11 : PySem.W.keepIn K (.ref fD11) = true)
    (aD12 : PySem.W.nsIn K mainGlobals "_law_right" = some (some (.ref fD12)))
    (lD12 : K.lookup fD12 = some ⟨ocD12, odD12, .func (PySem.W.fnOf "_law_right" "_law_right" (defArgs s__law_right) (defBody s__law_right) (defScope s__law_right) .none kVD12 dcD12 pmD12 anD12 cdD12 ctD12), slD12⟩)
    (cD12 : PySem.W.codeIn K cdD12 "_law_right" = true)
    (kD12 : PySem.W.keepIn K (.ref fD12) = true)
    (aD13 : PySem.W.nsIn K mainGlobals "law" = some (some (.ref fD13)))
    (lD13 : K.lookup fD13 = some ⟨ocD13, odD13, .func (PySem.W.fnOf "law" "law" (defArgs s_law) (defBody s_law) (defScope s_law) .none kVD13 dcD13 pmD13 anD13 cdD13 ctD13), slD13⟩)
    (cD13 : PySem.W.codeIn K cdD13 "law" = true)
    (kD13 : PySem.W.keepIn K (.ref fD13) = true)
    (aM0 : PySem.W.findIn K (.ref C) "over" = some (some (.ref fM0)))
    (iM0 : PySem.W.isFn K (.ref fM0) = true)
    (lM0 : K.lookup fM0 = some ⟨ocM0, odM0, .func (PySem.W.fnOf "over" "Ratio.over" (defArgs s_Ratio_over) (defBody s_Ratio_over) (defScope s_Ratio_over) .none kVM0 dcM0 pmM0 anM0 cdM0 ctM0), slM0⟩)
    (cM0 : PySem.W.codeIn K cdM0 "Ratio.over" = true)
    (kM0 : PySem.W.keepIn K (.ref fM0) = true)
    (aM1 : PySem.W.findIn K (.ref C) "__add__" = some (some (.ref fM1)))
    (iM1 : PySem.W.isFn K (.ref fM1) = true)
    (lM1 : K.lookup fM1 = some ⟨ocM1, odM1, .func (PySem.W.fnOf "__add__" "Ratio.__add__" (defArgs s_Ratio___add__) (defBody s_Ratio___add__) (defScope s_Ratio___add__) .none kVM1 dcM1 pmM1 anM1 cdM1 ctM1), slM1⟩)
    (cM1 : PySem.W.codeIn K cdM1 "Ratio.__add__" = true)
    (kM1 : PySem.W.keepIn K (.ref fM1) = true)
    (aM2 : PySem.W.findIn K (.ref C) "__sub__" = some (some (.ref fM2)))
    (iM2 : PySem.W.isFn K (.ref fM2) = true)
    (lM2 : K.lookup fM2 = some ⟨ocM2, odM2, .func (PySem.W.fnOf "__sub__" "Ratio.__sub__" (defArgs s_Ratio___sub__) (defBody s_Ratio___sub__) (defScope s_Ratio___sub__) .none kVM2 dcM2 pmM2 anM2 cdM2 ctM2), slM2⟩)
    (cM2 : PySem.W.codeIn K cdM2 "Ratio.__sub__" = true)
    (kM2 : PySem.W.keepIn K (.ref fM2) = true)
    (aM3 : PySem.W.findIn K (.ref C) "__mul__" = some (some (.ref fM3)))
    (iM3 : PySem.W.isFn K (.ref fM3) = true)
    (lM3 : K.lookup fM3 = some ⟨ocM3, odM3, .func (PySem.W.fnOf "__mul__" "Ratio.__mul__" (defArgs s_Ratio___mul__) (defBody s_Ratio___mul__) (defScope s_Ratio___mul__) .none kVM3 dcM3 pmM3 anM3 cdM3 ctM3), slM3⟩)
    (cM3 : PySem.W.codeIn K cdM3 "Ratio.__mul__" = true)
    (kM3 : PySem.W.keepIn K (.ref fM3) = true)
    (aM4 : PySem.W.findIn K (.ref C) "__neg__" = some (some (.ref fM4)))
    (iM4 : PySem.W.isFn K (.ref fM4) = true)
    (lM4 : K.lookup fM4 = some ⟨ocM4, odM4, .func (PySem.W.fnOf "__neg__" "Ratio.__neg__" (defArgs s_Ratio___neg__) (defBody s_Ratio___neg__) (defScope s_Ratio___neg__) .none kVM4 dcM4 pmM4 anM4 cdM4 ctM4), slM4⟩)
    (cM4 : PySem.W.codeIn K cdM4 "Ratio.__neg__" = true)
    (kM4 : PySem.W.keepIn K (.ref fM4) = true)
    (aM5 : PySem.W.findIn K (.ref C) "__eq__" = some (some (.ref fM5)))
    (iM5 : PySem.W.isFn K (.ref fM5) = true)
    (lM5 : K.lookup fM5 = some ⟨ocM5, odM5, .func (PySem.W.fnOf "__eq__" "Ratio.__eq__" (defArgs s_Ratio___eq__) (defBody s_Ratio___eq__) (defScope s_Ratio___eq__) .none kVM5 dcM5 pmM5 anM5 cdM5 ctM5), slM5⟩)
    (cM5 : PySem.W.codeIn K cdM5 "Ratio.__eq__" = true)
    (kM5 : PySem.W.keepIn K (.ref fM5) = true)
    (aP0 : PySem.W.findIn K (.ref C) "top" = some (some (.ref pP0)))
    (gP0 : PySem.W.specialIn K (.ref pP0) "__get__" = some (some (.builtin "property.__get__")))
    (tP0 : PySem.W.takesIn K (.ref pP0) = some true)
    (rP0 : PySem.W.recIn K pP0 "property" = some (.ref fP0 :: reP0))
    (lP0 : K.lookup fP0 = some ⟨ocP0, odP0, .func (PySem.W.fnOf "top" "Ratio.top" (defArgs s_Ratio_top) (defBody s_Ratio_top) (defScope s_Ratio_top) .none kVP0 dcP0 pmP0 anP0 cdP0 ctP0), slP0⟩)
    (cP0 : PySem.W.codeIn K cdP0 "Ratio.top" = true)
    (kP0 : PySem.W.keepIn K (.ref fP0) = true)
    (aP1 : PySem.W.findIn K (.ref C) "bottom" = some (some (.ref pP1)))
    (gP1 : PySem.W.specialIn K (.ref pP1) "__get__" = some (some (.builtin "property.__get__")))
    (tP1 : PySem.W.takesIn K (.ref pP1) = some true)
    (rP1 : PySem.W.recIn K pP1 "property" = some (.ref fP1 :: reP1))
    (lP1 : K.lookup fP1 = some ⟨ocP1, odP1, .func (PySem.W.fnOf "bottom" "Ratio.bottom" (defArgs s_Ratio_bottom) (defBody s_Ratio_bottom) (defScope s_Ratio_bottom) .none kVP1 dcP1 pmP1 anP1 cdP1 ctP1), slP1⟩)
    (cP1 : PySem.W.codeIn K cdP1 "Ratio.bottom" = true)
    (kP1 : PySem.W.keepIn K (.ref fP1) = true)
    (aI : PySem.W.findIn K (.ref C) "__init__" = some (some (.ref fI)))
    (iI : PySem.W.isFn K (.ref fI) = true)
    (lI : K.lookup fI = some ⟨ocI, odI, .func (PySem.W.fnOf "__init__" "Ratio.__init__" (defArgs s_Ratio___init__) (defBody s_Ratio___init__) (defScope s_Ratio___init__) (.ref tI) kVI dcI pmI anI cdI ctI), slI⟩)
    (cI : PySem.W.codeIn K cdI "Ratio.__init__" = true)
    (kI : PySem.W.keepIn K (.ref fI) = true)
    (lT : K.lookup tI = some oT)
    (dT : oT.data = .seq #[.int 1 kT] nT)
    (z_int : PySem.W.nsIn K mainGlobals "int" = some none)
    (z_len : PySem.W.nsIn K mainGlobals "len" = some none)
    (z_abs : PySem.W.nsIn K mainGlobals "abs" = some none)
    (z_range : PySem.W.nsIn K mainGlobals "range" = some none)
    (z_max : PySem.W.nsIn K mainGlobals "max" = some none)
    (z_min : PySem.W.nsIn K mainGlobals "min" = some none)
    (z_all : PySem.W.nsIn K mainGlobals "all" = some none)
    (z_repr : PySem.W.nsIn K mainGlobals "repr" = some none)
    (z_isinstance : PySem.W.nsIn K mainGlobals "isinstance" = some none)
    (z_bool : PySem.W.nsIn K mainGlobals "bool" = some none)
    (pg : PySem.W.plainGet K C Str.empty = true)
    (hd : PySem.W.hasDictIn K C = true)
    (po : PySem.W.plainOver K C = true)
    (sa : PySem.W.findIn K (.ref C) "__setattr__" = some (some (.builtin "object.__setattr__")))
    (mk : PySem.W.makesIn K C = true)
    (kcC : PySem.W.keepIn K (.ref C) = true)
    (nT' : PySem.W.findIn K (.ref C) "_top" = some none)
    (nB' : PySem.W.findIn K (.ref C) "_bottom" = some none)
    (aR : PySem.W.nsIn K mainGlobals "Ratio" = some (some (.ref C)))
    (aG : PySem.W.nsIn K mainGlobals "gcd" = some (some (.builtin "math.gcd")))
    (ca : PySem.W.findIn K (.ref C) "__class__" = some (some (.builtin "object.__class__")))
    (cn : PySem.W.specialIn K (.builtin "object.__class__") "__get__" = some (some (.builtin "getset_descriptor.__get__")))
    (ct' : PySem.W.takesIn K (.builtin "object.__class__") = some true)
    (cm : PySem.W.mroIn K C (.type "object") = some true)
    (sI : PySem.W.subIn K (.ref C) (.type "int") = some false)
    (sB : PySem.W.subIn K (.ref C) (.type "bool") = some false)
    (tyC : PySem.W.typeIn K (.ref C) = some (.type "type"))
    (isC : PySem.W.isClsIn K C = true)
    (sf : PySem.W.selfFirst K C = true)
    (sb : PySem.W.subIn K (.type "int") (.ref C) = some false)
    (so : PySem.W.subIn K (.ref C) (.type "object") = some true)
    (ne : PySem.W.findIn K (.ref C) "__ne__" = some (some (.builtin "object.__ne__")))
    (r_add : PySem.W.findIn K (.ref C) "__radd__" = some none)
    (x_add : PySem.W.findIn K (.type "int") "__add__" = some v_add)
    (y_add : PySem.W.findIn K (.type "int") "__radd__" = some u_add)
    (r_sub : PySem.W.findIn K (.ref C) "__rsub__" = some none)
    (x_sub : PySem.W.findIn K (.type "int") "__sub__" = some v_sub)
    (y_sub : PySem.W.findIn K (.type "int") "__rsub__" = some u_sub)
    (r_mul : PySem.W.findIn K (.ref C) "__rmul__" = some none)
    (x_mul : PySem.W.findIn K (.type "int") "__mul__" = some v_mul)
    (y_mul : PySem.W.findIn K (.type "int") "__rmul__" = some u_mul)
    : ∃ fd : FuncData, (∀ (s : Shared) (v : Value), BindsTo s fd ⟨[v], []⟩ [("_law_script", v)]) ∧ ∀ base : Heap, K.In base → base.Ns mainGlobals mg → FnG l.prog w K mg base CX0 14 fa fd ["_law_script"] (spLaw K) := by
  have e := hfa.symm.trans (PySem.W.mg_of X G aD13)
  cases e
  have FD0 := fun_mk (st := s_is_whole) lD0 cD0 kD0
  have bD0 := FD0.binds (ps := ["value"]) fun _ _ _ _ _ _ us hl => match us, hl with | [_], _ => rfl
  have gD0 := PySem.W.mg_of X G aD0
  have FD1 := fun_mk (st := s_is_number) lD1 cD1 kD1
  have bD1 := FD1.binds (ps := ["value"]) fun _ _ _ _ _ _ us hl => match us, hl with | [_], _ => rfl
  have gD1 := PySem.W.mg_of X G aD1
  have FD2 := fun_mk (st := s_to_ratio) lD2 cD2 kD2
  have bD2 := FD2.binds (ps := ["number"]) fun _ _ _ _ _ _ us hl => match us, hl with | [_], _ => rfl
  have gD2 := PySem.W.mg_of X G aD2
  have FD3 := fun_mk (st := s__law_purse) lD3 cD3 kD3
  have bD3 := FD3.binds (ps := ["_law_script"]) fun _ _ _ _ _ _ us hl => match us, hl with | [_], _ => rfl
  have gD3 := PySem.W.mg_of X G aD3
  have FD4 := fun_mk (st := s__law_draw) lD4 cD4 kD4
  have bD4 := FD4.binds (ps := ["_law_q", "_law_many"]) fun _ _ _ _ _ _ us hl => match us, hl with | [_, _], _ => rfl
  have gD4 := PySem.W.mg_of X G aD4
  have FD5 := fun_mk (st := s__law_great) lD5 cD5 kD5
  have bD5 := FD5.binds (ps := ["_law_q"]) fun _ _ _ _ _ _ us hl => match us, hl with | [_], _ => rfl
  have gD5 := PySem.W.mg_of X G aD5
  have FD6 := fun_mk (st := s__law_common) lD6 cD6 kD6
  have bD6 := FD6.binds (ps := ["_law_one", "_law_two"]) fun _ _ _ _ _ _ us hl => match us, hl with | [_, _], _ => rfl
  have gD6 := PySem.W.mg_of X G aD6
  have FD7 := fun_mk (st := s__law_lowest) lD7 cD7 kD7
  have bD7 := FD7.binds (ps := ["_law_high", "_law_under"]) fun _ _ _ _ _ _ us hl => match us, hl with | [_, _], _ => rfl
  have gD7 := PySem.W.mg_of X G aD7
  have FD8 := fun_mk (st := s__law_from) lD8 cD8 kD8
  have bD8 := FD8.binds (ps := ["_law_script", "_law_k"]) fun _ _ _ _ _ _ us hl => match us, hl with | [_, _], _ => rfl
  have gD8 := PySem.W.mg_of X G aD8
  have FD9 := fun_mk (st := s__law_near) lD9 cD9 kD9
  have bD9 := FD9.binds (ps := ["_law_q"]) fun _ _ _ _ _ _ us hl => match us, hl with | [_], _ => rfl
  have gD9 := PySem.W.mg_of X G aD9
  have FD10 := fun_mk (st := s__law_sum) lD10 cD10 kD10
  have bD10 := FD10.binds (ps := ["_law_one", "_law_two", "_law_sign"]) fun _ _ _ _ _ _ us hl => match us, hl with | [_, _, _], _ => rfl
  have gD10 := PySem.W.mg_of X G aD10
  have FD11 := fun_mk (st := s__law_told) lD11 cD11 kD11
  have bD11 := FD11.binds (ps := ["_law_one"]) fun _ _ _ _ _ _ us hl => match us, hl with | [_], _ => rfl
  have gD11 := PySem.W.mg_of X G aD11
  have FD12 := fun_mk (st := s__law_right) lD12 cD12 kD12
  have bD12 := FD12.binds (ps := ["_law_q"]) fun _ _ _ _ _ _ us hl => match us, hl with | [_], _ => rfl
  have gD12 := PySem.W.mg_of X G aD12
  have FD13 := fun_mk (st := s_law) lD13 cD13 kD13
  have gD13 := PySem.W.mg_of X G aD13
  have FM0 := fun_mk (st := s_Ratio_over) lM0 cM0 kM0
  have bM0 := FM0.binds (ps := ["self", "other"]) fun _ _ _ _ _ _ us hl => match us, hl with | [_, _], _ => rfl
  have FM1 := fun_mk (st := s_Ratio___add__) lM1 cM1 kM1
  have bM1 := FM1.binds (ps := ["self", "other"]) fun _ _ _ _ _ _ us hl => match us, hl with | [_, _], _ => rfl
  have FM2 := fun_mk (st := s_Ratio___sub__) lM2 cM2 kM2
  have bM2 := FM2.binds (ps := ["self", "other"]) fun _ _ _ _ _ _ us hl => match us, hl with | [_, _], _ => rfl
  have FM3 := fun_mk (st := s_Ratio___mul__) lM3 cM3 kM3
  have bM3 := FM3.binds (ps := ["self", "other"]) fun _ _ _ _ _ _ us hl => match us, hl with | [_, _], _ => rfl
  have FM4 := fun_mk (st := s_Ratio___neg__) lM4 cM4 kM4
  have bM4 := FM4.binds (ps := ["self"]) fun _ _ _ _ _ _ us hl => match us, hl with | [_], _ => rfl
  have FM5 := fun_mk (st := s_Ratio___eq__) lM5 cM5 kM5
  have bM5 := FM5.binds (ps := ["self", "other"]) fun _ _ _ _ _ _ us hl => match us, hl with | [_, _], _ => rfl
  have FP0 := fun_mk (st := s_Ratio_top) lP0 cP0 kP0
  have bP0 := FP0.binds (ps := ["self"]) fun _ _ _ _ _ _ us hl => match us, hl with | [_], _ => rfl
  have pP0' : PropOf K C "top" pP0 fP0 := ⟨aP0, gP0, tP0, _, rP0⟩
  have FP1 := fun_mk (st := s_Ratio_bottom) lP1 cP1 kP1
  have bP1 := FP1.binds (ps := ["self"]) fun _ _ _ _ _ _ us hl => match us, hl with | [_], _ => rfl
  have pP1' : PropOf K C "bottom" pP1 fP1 := ⟨aP1, gP1, tP1, _, rP1⟩
  have FI : FunD K "__init__" "Ratio.__init__" (defArgs s_Ratio___init__) (defBody s_Ratio___init__) (defScope s_Ratio___init__) [.int 1] [] fI _ := ⟨⟨_, _, _, _, _, _, _, _, _, _, rfl, lI, cI, .inr ⟨nofun, tI, oT, [.int 1 kT], nT, rfl, lT, dT, .cons ⟨_, rfl⟩ .nil⟩, .inl rfl⟩, kI⟩
  obtain ⟨ds2, v2, bI2⟩ := FI.binds1 (ps := ["self", "top", "bottom"]) 3 1 nofun rfl fun T kV doc pm an cdv ct us its h1 h2 => match us, its, h1, h2 with | [_, _, _], [_], _, _ => ⟨_, rfl, rfl⟩
  obtain ⟨ds1, v1, bI1⟩ := FI.binds1 (ps := ["self", "top", "bottom"]) 2 0 nofun rfl fun T kV doc pm an cdv ct us its h1 h2 => match us, its, h1, h2 with | [_, _], [_], _, _ => ⟨_, rfl, rfl⟩
  refine ⟨PySem.W.fnOf "law" "law" (defArgs s_law) (defBody s_law) (defScope s_law) .none kVD13 dcD13 pmD13 anD13 cdD13 ctD13, fun s v => .of_eq rfl, fun base _ _ => ?_⟩
  have B : Blt mg := ⟨PySem.W.mg_none_of X G z_int, PySem.W.mg_none_of X G z_len, PySem.W.mg_none_of X G z_abs, PySem.W.mg_none_of X G z_range, PySem.W.mg_none_of X G z_max, PySem.W.mg_none_of X G z_min, PySem.W.mg_none_of X G z_all, PySem.W.mg_none_of X G z_repr, PySem.W.mg_none_of X G z_isinstance, PySem.W.mg_none_of X G z_bool⟩
  have R : TxR K mg C := { toBlt := B, cl := ⟨pg, hd, po, sa⟩, nT := nT', nB := nB', g_Ratio := PySem.W.mg_of X G aR, g_gcd := PySem.W.mg_of X G aG, ca := ca, cn := cn, ct := ct', cm := cm, kI := kit_rt (by decide +kernel) sI, kB := kit_rt (by decide +kernel) sB, kC := kit_rr, iC := kit_tr isC tyC sb }
  have c_whole : CalF l.prog w K mg base _ "is_whole" _ [] := ⟨fD0, _, _, [], ok_whole FD0 B, gD0, kD0, bD0, .nil⟩
  have c_number : CalF l.prog w K mg base _ "is_number" _ [] := ⟨fD1, _, _, [], ok_number FD1 R c_whole, gD1, kD1, bD1, .nil⟩
  have M : Mk K C fI := ⟨mk, aI, iI, kcC⟩
  have m_rat2 : Rat2C l.prog w K mg base C := ⟨fI, _, _, ds2, M, ok_init FI R c_whole, PySem.W.mg_of X G aR, bI2, v2⟩
  have m_rat1 : Rat1C l.prog w K mg base C := ⟨fI, _, _, ds1, M, ok_init FI R c_whole, PySem.W.mg_of X G aR, bI1, v1⟩
  have c_to : CalF l.prog w K mg base _ "to_ratio" _ [] := ⟨fD2, _, _, [], ok_to FD2 R m_rat1, gD2, kD2, bD2, .nil⟩
  have o_add : OpF l.prog w K mg base 8 C .Add _ := ⟨fM1, _, _, ⟨sf, aM1, iM1, r_add⟩, ⟨⟨_, x_add⟩, ⟨_, y_add⟩, sb⟩, ok_add FM1 R c_number c_to m_rat2, bM1⟩
  have o_sub : OpF l.prog w K mg base 8 C .Sub _ := ⟨fM2, _, _, ⟨sf, aM2, iM2, r_sub⟩, ⟨⟨_, x_sub⟩, ⟨_, y_sub⟩, sb⟩, ok_sub FM2 R c_number c_to m_rat2, bM2⟩
  have o_mul : OpF l.prog w K mg base 8 C .Mult _ := ⟨fM3, _, _, ⟨sf, aM3, iM3, r_mul⟩, ⟨⟨_, x_mul⟩, ⟨_, y_mul⟩, sb⟩, ok_mul FM3 R c_number c_to m_rat2, bM3⟩
  have o_neg : NegF l.prog w K mg base 8 C _ := ⟨fM4, _, _, aM4, iM4, ok_neg FM4 R m_rat2, bM4⟩
  have o_eq : EqF l.prog w K mg base 2 C _ := ⟨fM5, _, _, ⟨ne, aM5, iM5, so⟩, ok_eq FM5 R, bM5⟩
  have m_over : MetF l.prog w K mg base 8 C "over" _ [] := ⟨fM0, _, _, [], ⟨aM0, iM0, kM0⟩, ok_over FM0 R c_number c_to m_rat2, bM0, .nil⟩
  have m_overK : MetK l.prog w K mg base 8 C "over" _ ["other"] one1 := ⟨fM0, _, _, one1, ⟨aM0, iM0, kM0⟩, ok_over FM0 R c_number c_to m_rat2, ⟨fun s us ws X hl => match us, ws, hl with | [_], [_], _ => .of_eq rfl, fun {vs us zs ws} r1 r2 => ?_⟩⟩
  rotate_left
  · match vs, us, zs, ws, r1, r2 with
    | [_], [_], [_], [_], .cons a .nil, .cons b .nil => exact .cons a (.cons b .nil)
    | [], [], _, _, .nil, _ => exact .nil
    | _ :: _ :: _, _ :: _ :: _, _, _, .cons _ (.cons _ _), _ => exact .nil
    | [_], [_], [], [], _, .nil => exact .nil
    | [_], [_], _ :: _ :: _, _ :: _ :: _, _, .cons _ (.cons _ _) => exact .nil
  have p_top : PropF l.prog w K mg base 2 C "top" _ := ⟨pP0, fP0, _, _, pP0', ok_top FP0 R, bP0⟩
  have p_bottom : PropF l.prog w K mg base 2 C "bottom" _ := ⟨pP1, fP1, _, _, pP1', ok_bottom FP1 R, bP1⟩
  have c_draw : CalG l.prog w K mg base _ "_law_draw" _ [] := ⟨fD4, _, _, [], ok_draw FD4 B, gD4, kD4, bD4, .nil⟩
  have c_great : CalG l.prog w K mg base _ "_law_great" _ [] := ⟨fD5, _, _, [], ok_great FD5 B c_draw, gD5, kD5, bD5, .nil⟩
  have c_common : CalG l.prog w K mg base _ "_law_common" _ [] := ⟨fD6, _, _, [], ok_common FD6 B, gD6, kD6, bD6, .nil⟩
  have c_lowest : CalG l.prog w K mg base _ "_law_lowest" _ [] := ⟨fD7, _, _, [], ok_lowest FD7 c_common, gD7, kD7, bD7, .nil⟩
  have c_purse : CalG l.prog w K mg base _ "_law_purse" _ [] := ⟨fD3, _, _, [], ok_purse FD3 B, gD3, kD3, bD3, .nil⟩
  have c_from : CalG l.prog w K mg base _ "_law_from" _ [] := ⟨fD8, _, _, [], ok_from FD8 c_purse, gD8, kD8, bD8, .nil⟩
  have c_near : CalG l.prog w K mg base _ "_law_near" _ [] := ⟨fD9, _, _, [], ok_near FD9 c_draw c_lowest, gD9, kD9, bD9, .nil⟩
  have c_sum : CalG l.prog w K mg base _ "_law_sum" _ [] := ⟨fD10, _, _, [], ok_sum FD10 c_lowest, gD10, kD10, bD10, .nil⟩
  have c_told : CalG l.prog w K mg base _ "_law_told" _ [] := ⟨fD11, _, _, [], ok_told FD11 R p_top p_bottom, gD11, kD11, bD11, .nil⟩
  have c_right : CalG l.prog w K mg base _ "_law_right" _ [] := ⟨fD12, _, _, [], ok_right FD12 R ⟨o_add, o_sub, o_mul, o_neg, o_eq, m_over, m_overK⟩ c_near c_great c_sum c_lowest c_told m_rat2, gD12, kD12, bD12, .nil⟩
  exact ok_law FD13 B c_right c_from
theorem walk {l : PySem.W.OpenLaw} {q : Program} {loose : List Str} {XP : (Str → Option Value) → Heap → Prop} {YP : World → Heap → Prop} {d : DefRec} {K : Params → PySem.W.Frag} (hn : l.most = some 63) (hdf : d.params.defaults = [])
    (hY : ∀ (w : World) (h : Heap), YP w h → (K w.params).In h)
    (F : ∀ (w : World) (mg : Str → Option Value) (fa : Addr) (h : Heap), (K w.params).In h → h.Ns mainGlobals mg → mg d.name = some (.ref fa) →
      ∃ fd : FuncData, (∀ (s : Shared) (u : Value), BindsTo s fd ⟨[u], []⟩ [("_law_script", u)]) ∧ ∀ base : Heap, (K w.params).In base → base.Ns mainGlobals mg → FnG l.prog w (K w.params) mg base CX0 14 fa fd ["_law_script"] (spLaw (K w.params))) :
    PySem.W.WalkO q loose XP YP l.row.toRowW d [] (fun f vs => PySem.call f vs) :=
  walkG (n := 63) (k := 14) (x := "_law_script") (sp := fun w => spLaw (K w.params)) hn (by decide) hdf ⟨rfl, by decide, by decide⟩ hY F (fun _ _ a ns hl _ hS => ⟨a, ns, rfl, hS, hl, fun _ => rfl⟩)
end Lw

open PySem PySem.W PyProof.Rows
set_option maxRecDepth 100000 in
set_option maxHeartbeats 0 in
theorem PySem.Challenge.cw_matrixforms_k03_ratio_operators_holds : PySem.Challenge.rw_matrixforms_k03_ratio_operators.Holds := by
  w_on; o_law; k_head; (case hw => w_witness2)
  k_fill
  refine Lw.walk (l := PySem.Challenge.rw_matrixforms_k03_ratio_operators) rfl rfl (fun w h Y => PySem.W.kIn_of Y) ?F
  case F =>
    intro w mg fa h KX G hmg
    refine' Lw.all_mk KX G hmg ?aD0 ?lD0 ?cD0 ?kD0 ?aD1 ?lD1 ?cD1 ?kD1 ?aD2 ?lD2 ?cD2 ?kD2 ?aD3 ?lD3 ?cD3 ?kD3 ?aD4 ?lD4 ?cD4 ?kD4 ?aD5 ?lD5 ?cD5 ?kD5 ?aD6 ?lD6 ?cD6 ?kD6 ?aD7 ?lD7 ?cD7 ?kD7 ?aD8 ?lD8 ?cD8 ?kD8 ?aD9 ?lD9 ?cD9 ?kD9 ?aD10 ?lD10 ?cD10 ?kD10 ?aD11 ?lD11 ?cD11 ?kD11 ?aD12 ?lD12 ?cD12 ?kD12 ?aD13 ?lD13 ?cD13 ?kD13 ?aM0 ?iM0 ?lM0 ?cM0 ?kM0 ?aM1 ?iM1 ?lM1 ?cM1 ?kM1 ?aM2 ?iM2 ?lM2 ?cM2 ?kM2 ?aM3 ?iM3 ?lM3 ?cM3 ?kM3 ?aM4 ?iM4 ?lM4 ?cM4 ?kM4 ?aM5 ?iM5 ?lM5 ?cM5 ?kM5 ?aP0 ?gP0 ?tP0 ?rP0 ?lP0 ?cP0 ?kP0 ?aP1 ?gP1 ?tP1 ?rP1 ?lP1 ?cP1 ?kP1 ?aI ?iI ?lI ?cI ?kI ?lT ?dT ?z_int ?z_len ?z_abs ?z_range ?z_max ?z_min ?z_all ?z_repr ?z_isinstance ?z_bool ?pg ?hd ?po ?sa ?mk ?kcC ?nT' ?nB' ?aR ?aG ?ca ?cn ?ct' ?cm ?sI ?sB ?tyC ?isC ?sf ?sb ?so ?ne ?r_add ?x_add ?y_add ?r_sub ?x_sub ?y_sub ?r_mul ?x_mul ?y_mul
    (case aR => k_is)
    (case aD0 => k_is)
    (case lD0 => k_is)
    (case cD0 => k_is)
    (case kD0 => k_is)
    (case aD1 => k_is)
    (case lD1 => k_is)
    (case cD1 => k_is)
    (case kD1 => k_is)
    (case aD2 => k_is)
    (case lD2 => k_is)
    (case cD2 => k_is)
    (case kD2 => k_is)
    (case aD3 => k_is)
    (case lD3 => k_is)
    (case cD3 => k_is)
    (case kD3 => k_is)
    (case aD4 => k_is)
    (case lD4 => k_is)
    (case cD4 => k_is)
    (case kD4 => k_is)
    (case aD5 => k_is)
    (case lD5 => k_is)
    (case cD5 => k_is)
    (case kD5 => k_is)
    (case aD6 => k_is)
    (case lD6 => k_is)
    (case cD6 => k_is)
    (case kD6 => k_is)
    (case aD7 => k_is)
    (case lD7 => k_is)
    (case cD7 => k_is)
    (case kD7 => k_is)
    (case aD8 => k_is)
    (case lD8 => k_is)
    (case cD8 => k_is)
    (case kD8 => k_is)
    (case aD9 => k_is)
    (case lD9 => k_is)
    (case cD9 => k_is)
    (case kD9 => k_is)
    (case aD10 => k_is)
    (case lD10 => k_is)
    (case cD10 => k_is)
    (case kD10 => k_is)
    (case aD11 => k_is)
    (case lD11 => k_is)
    (case cD11 => k_is)
    (case kD11 => k_is)
    (case aD12 => k_is)
    (case lD12 => k_is)
    (case cD12 => k_is)
    (case kD12 => k_is)
    (case aD13 => k_is)
    (case lD13 => k_is)
    (case cD13 => k_is)
    (case kD13 => k_is)
    (case aM0 => k_is)
    (case iM0 => k_is)
    (case lM0 => k_is)
    (case cM0 => k_is)
    (case kM0 => k_is)
    (case aM1 => k_is)
    (case iM1 => k_is)
    (case lM1 => k_is)
    (case cM1 => k_is)
    (case kM1 => k_is)
    (case aM2 => k_is)
    (case iM2 => k_is)
    (case lM2 => k_is)
    (case cM2 => k_is)
    (case kM2 => k_is)
    (case aM3 => k_is)
    (case iM3 => k_is)
    (case lM3 => k_is)
    (case cM3 => k_is)
    (case kM3 => k_is)
    (case aM4 => k_is)
    (case iM4 => k_is)
    (case lM4 => k_is)
    (case cM4 => k_is)
    (case kM4 => k_is)
    (case aM5 => k_is)
    (case iM5 => k_is)
    (case lM5 => k_is)
    (case cM5 => k_is)
    (case kM5 => k_is)
    (case aP0 => k_is)
    (case gP0 => k_is)
    (case tP0 => k_is)
    (case rP0 => k_is)
    (case lP0 => k_is)
    (case cP0 => k_is)
    (case kP0 => k_is)
    (case aP1 => k_is)
    (case gP1 => k_is)
    (case tP1 => k_is)
    (case rP1 => k_is)
    (case lP1 => k_is)
    (case cP1 => k_is)
    (case kP1 => k_is)
    (case aI => k_is)
    (case iI => k_is)
    (case lI => k_is)
    (case cI => k_is)
    (case kI => k_is)
    (case lT => k_is)
    (case dT => rfl)
    (case z_int => k_is)
    (case z_len => k_is)
    (case z_abs => k_is)
    (case z_range => k_is)
    (case z_max => k_is)
    (case z_min => k_is)
    (case z_all => k_is)
    (case z_repr => k_is)
    (case z_isinstance => k_is)
    (case z_bool => k_is)
    (case pg => k_is)
    (case hd => k_is)
    (case po => k_is)
    (case sa => k_is)
    (case mk => k_is)
    (case kcC => k_is)
    (case nT' => k_is)
    (case nB' => k_is)
    (case aG => k_is)
    (case ca => k_is)
    (case cn => k_is)
    (case ct' => k_is)
    (case cm => k_is)
    (case sI => k_is)
    (case sB => k_is)
    (case tyC => k_is)
    (case isC => k_is)
    (case sf => k_is)
    (case sb => k_is)
    (case so => k_is)
    (case ne => k_is)
    (case r_add => k_is)
    (case x_add => k_is)
    (case y_add => k_is)
    (case r_sub => k_is)
    (case x_sub => k_is)
    (case y_sub => k_is)
    (case r_mul => k_is)
    (case x_mul => k_is)
    (case y_mul => k_is)


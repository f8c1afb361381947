import PyProof.Rows.All
import Wide.All
import OpenK.AllK
import Wide.FinOn
import PySem.Challenge.RW_duskisles_k02_names_and_words
import HandS.ForMost
import HandS.IsInst
import HandS.Defaults
import HandS.DeepEq
import HandS.Deep
import PyProof.ReprRoads
import HandS.Walk
import HandS.TupAny
import HandS.Strs
import HandS.SetKeys
import HandS.SetFor
set_option Elab.async false
set_option linter.all false
set_option maxRecDepth 100000
/-! Defs whose callers hold no guard (repr of what is being shown): the promise, its rule, calls. -/
namespace DL
open PySem PySem.Spec PyProof.Rows L2

/-- a def's promise where no guard is held -/
structure FnG (P : Program) (w : World) (K : PySem.W.Frag) (mg : Str → Option Value) (base : Heap)
    (CX : CXT) (k : Nat) (f : Addr) (fd : FuncData) (ps : List Str) (sp : Sp) : Prop where
  len : ∀ vs H Q E, sp vs H Q E → vs.length = ps.length
  run : ∀ (A : Around) (outer : List Env) (s : Shared) (H : Hp) (args : Args) (us : List Value) (vs : List V) (Q : VK) (E : XK),
    Room k A → A.guards = some [] → Env0 P w K mg base A outer s H → BindsTo s fd args (ps.zip us) → Vals vs us → sp vs H Q E →
      codeAny (model P w) A (.call (.ref f) args) (CR CX outer P w H s Q E) s

section
variable {P : Program} {w : World} {K : PySem.W.Frag} {mg : Str → Option Value} {base : Heap} {CX : CXT} {k j : Nat} {f : Addr} {fd : FuncData} {ps : List Str} {sp sp' : Sp}
theorem FnG.of (F : FnOk P w K mg base CX k f fd ps sp) : FnG P w K mg base CX k f fd ps sp :=
  ⟨F.len, fun A outer s H args us vs Q E r _ e b v q => F.run A outer s H args us vs Q E r e b v q⟩
theorem FnG.mono (F : FnG P w K mg base CX j f fd ps sp) (h : j ≤ k) : FnG P w K mg base CX k f fd ps sp :=
  ⟨F.len, fun A outer s H args us vs Q E r => F.run A outer s H args us vs Q E (r.mono h)⟩
theorem FnG.imp (F : FnG P w K mg base CX k f fd ps sp) (h : ∀ vs H Q E, sp' vs H Q E → sp vs H Q E) : FnG P w K mg base CX k f fd ps sp' :=
  ⟨fun vs H Q E q => F.len vs H Q E (h vs H Q E q), fun A outer s H args us vs Q E r g e b v q => F.run A outer s H args us vs Q E r g e b v (h vs H Q E q)⟩

theorem fnG_of {name qual : Str} {params : Arguments} {body : List Stmt} {scope : Scope} {dV kV doc pm cdv ct oc : Value} {an od : Option Addr} {osl : Array (Option Value)} {N : List Str}
    (lk : K.lookup f = some ⟨oc, od, .func (PySem.W.fnOf name qual params body scope dV kV doc pm an cdv ct), osl⟩)
    (hcd : PySem.W.codeIn K cdv qual = true) (S : FnScope N ps scope) (len : ∀ vs H Q E, sp vs H Q E → vs.length = ps.length)
    (hbody : ∀ (A : Around) (outer : List Env) (s : Shared) (H : Hp) (vs : List V) (Q : VK) (E : XK), Room k (A.deeper (envOfC qual scope s.heap.objs.size f cdv)) → (A.deeper (envOfC qual scope s.heap.objs.size f cdv)).guards = some [] →
      sp vs H Q E → ∃ t, PSs (cxOf CX P w K mg base N qual scope f cdv A outer s H E) body t ∧ t { nx := fun _ H' => Q .non H', rt := Q } (start N vs) H) :
    FnG P w K mg base CX (k + 1) f (PySem.W.fnOf name qual params body scope dV kV doc pm an cdv ct) ps sp := by
  constructor
  · exact len
  intro A outer s H args us vs Q E room hgu e0 hb r hsp
  have kept : ∀ b o, base.get? b = some o → s.heap.get? b = some o := fun b o e => (e0.bs b o e).1
  have KX : K.In s.heap := e0.mod.kin.keeps kept
  have kinds : ∀ y ∈ ps.zip us, scope.names.lookup y.1 = some .local ∨
      (scope.names.lookup y.1 = some .cell ∧ ((cellsFrom (s.heap.objs.size + 1) scope.names []).lookup y.1).isSome = true) := by
    rintro ⟨n, v⟩ hy
    rcases S.par n (List.of_mem_zip hy).1 with q | q
    · exact .inl q
    · exact .inr ⟨q, PySem.W.cellsFrom_some _ _ _ (.inl q)⟩
  refine codeAny_call_function room.depth (KX _ _ lk) rfl S.co S.gen rfl
    (PySem.W.codeRec_of KX hcd) (hb _ _ _ _ ?_)
  refine wpAny_newFunctionEnv_cells S.kind kinds fun env he s1 x => ?_
  subst he
  refine ⟨(e0.mod.nolimit.keeps kept).keeps x.toInCall.keep, codeAny_func ?_⟩
  obtain ⟨t, ht, hq⟩ := hbody A outer s H vs Q E (room.deeper _) hgu hsp
  have I := inv_start (CX := CX) (E := E) S room.hd e0 (len _ _ _ _ hsp) r x
  refine wpAny_mono (ht.run [] s1 (start N vs) H _ I hq) ?_ fun e s' hs => hs
  intro fl s' hs
  cases fl with
  | ret u => exact let ⟨v, _, H', J, rv, q⟩ := hs; ⟨v, H', J.os, J.bare, J.base, J.hok, rv, q⟩
  | next => exact let ⟨_, H', J, q⟩ := hs; ⟨V.non, H', J.os, J.bare, J.base, J.hok, rfl, q⟩
  | brk => exact let ⟨_, _, _, q⟩ := hs; q.elim
  | cont => exact let ⟨_, _, _, q⟩ := hs; q.elim
theorem okG {x qual : Str} {st : Stmt} {N : List Str} (F : Fun K x qual st f fd) (S : FnScope N ps (defScope st)) (len : ∀ vs H Q E, sp vs H Q E → vs.length = ps.length)
    (hbody : ∀ (cdv : Value) (A : Around) (outer : List Env) (s : Shared) (H : Hp) (vs : List V) (Q : VK) (E : XK), Room k (A.deeper (envOfC qual (defScope st) s.heap.objs.size f cdv)) →
      (A.deeper (envOfC qual (defScope st) s.heap.objs.size f cdv)).guards = some [] → sp vs H Q E →
      ∃ t, PSs (cxOf CX0 P w K mg base N qual (defScope st) f cdv A outer s H E).nox (defBody st) t ∧ t { nx := fun _ H' => Q .non H', rt := Q } (start N vs) H) :
    FnG P w K mg base CX0 (k + 1) f fd ps sp := by
  obtain ⟨oc, od, kV, doc, pm, an, cdv, ct, osl, rfl, lk, hcd⟩ := F.ex
  refine fnG_of lk hcd S len ?_
  intro A outer s H vs Q E r g q
  obtain ⟨t, h, z⟩ := hbody cdv A outer s H vs Q E r g q
  exact ⟨t, h.nox, z⟩
end

section
variable {X : Cx} {CX : CXT} {k : Nat} {f : Addr} {fd : FuncData} {ps ks : List Str} {sp : Sp} {dvs : List V} {ds : List Value} {E : XK} {x : Str} {p pos : Pos} {e : Expr} {es : List Expr} {kws : List Keyword} {t tk : TA}
theorem runG {pins : List (Addr × Obj)} {σ : L2.St} {H : Hp} {s : Shared} {Q : VK} {us : List Value} {vs : List V} (F : FnG X.prog X.w X.K X.mg X.base CX k f fd ps sp) (hr : Room k X.A) (hgu : X.A.guards = some []) (hb : Binds X.K fd ps ds)
    (hd : Vals dvs ds) (hx : Passes CX X E) (I : Inv X pins σ H s) (r : Vals vs us) (h : sp (vs ++ dvs) H Q E) : wpAny (model X.prog X.w) X.A (call (.ref f) us) (EP X pins σ Q) X.xe s := by
  have r2 := r.append hd
  have hl : (us ++ ds).length = ps.length := r2.length.symm.trans (F.len _ _ _ _ h)
  apply wpAny_call
  refine codeAny_mono (F.run X.A X.stack s H ⟨us, []⟩ (us ++ ds) (vs ++ dvs) Q E hr hgu I.env0 (hb s us I.kIn hl) r2 h) ?_
  intro r s' hq
  cases r with
  | error e => exact hx pins σ H s e s' I hq
  | ok fl =>
    cases fl with
    | ret u => exact I.after hq
    | next => exact hq.elim
    | brk => exact hq.elim
    | cont => exact hq.elim
theorem pe_callG (F : FnG X.prog X.w X.K X.mg X.base CX k f fd ps sp) (hr : Room k X.A) (hgu : X.A.guards = some []) (hg : Gl X x) (hm : X.mg x = some (.ref f)) (hk : PySem.W.keepIn X.K (.ref f) = true)
    (hb : Binds X.K fd ps ds) (hd : Vals dvs ds) (hx : Passes CX X E) (ha : PA X (e :: es) t) (hdb : (x == ("__debug__" : Str)) = false := by decide)
    (he : starEach (e :: es) X.env = (false, eval e X.env) :: starEach es X.env := by rfl)
    (hpl : (backTo pos (starEach es X.env)).any (·.1) = false := by rfl) :
    PE X (.Call (.Name x p) (e :: es) [] pos) (tCall sp dvs E t) := by
  constructor
  intro pins s σ H Q I h
  refine wpAny_Call_Name_kw (ld_glob I hg hm (PySem.W.callWith_K (h₀ := X.base) I.ok.mod.kin hk ?_ he hpl) hdb)
  exact thn (ha.run pos pins s σ H _ I h) fun us s1 ⟨vs, H1, I1, r, q⟩ => ⟨I1.kIn, runG F hr hgu hb hd hx I1 r q⟩
theorem runGk {pins : List (Addr × Obj)} {σ : L2.St} {H : Hp} {s : Shared} {Q : VK} {us ws : List Value} {vs zs : List V} {g : List Value → List Value → List Value} {gV : List V → List V → List V} (F : FnG X.prog X.w X.K X.mg X.base CX k f fd ps sp) (hr : Room k X.A)
    (hgu : X.A.guards = some []) (hb : KBinds X.K fd ps ks g gV) (hx : Passes CX X E) (I : Inv X pins σ H s) (r : Vals vs us) (rz : Vals zs ws) (h : sp (gV vs zs) H Q E) :
    wpAny (model X.prog X.w) X.A (call (.ref f) us (ks.zip ws)) (EP X pins σ Q) X.xe s := by
  have r2 := hb.rel r rz
  have hl : (g us ws).length = ps.length := r2.length.symm.trans (F.len _ _ _ _ h)
  apply wpAny_call
  refine codeAny_mono (F.run X.A X.stack s H ⟨us, ks.zip ws⟩ (g us ws) (gV vs zs) Q E hr hgu I.env0 (hb.to s us ws I.kIn hl) r2 h) ?_
  intro r s' hq
  cases r with
  | error e => exact hx pins σ H s e s' I hq
  | ok fl =>
    cases fl with
    | ret u => exact I.after hq
    | next => exact hq.elim
    | brk => exact hq.elim
    | cont => exact hq.elim
/-- f(k = v, ..), nothing by position -/
theorem pe_callKG {g : List Value → List Value → List Value} {gV : List V → List V → List V} (F : FnG X.prog X.w X.K X.mg X.base CX k f fd ps sp) (hr : Room k X.A) (hgu : X.A.guards = some []) (hg : Gl X x) (hm : X.mg x = some (.ref f))
    (hk : PySem.W.keepIn X.K (.ref f) = true) (hb : KBinds X.K fd ps ks g gV) (hx : Passes CX X E) (hkw : PK X kws tk) (hall : (backToKw pos (keywordEach kws X.env)).all (·.1.isSome) = true := by rfl)
    (hks : (backToKw pos (keywordEach kws X.env)).filterMap (·.1) = ks := by rfl) (hdb : (x == ("__debug__" : Str)) = false := by decide)
    (hpl : ((backTo pos (starEach [] X.env)).any (·.1) || (backToKw pos (keywordEach kws X.env)).any (·.1.isNone)) = false := by rfl) :
    PE X (.Call (.Name x p) [] kws pos) (tCallK sp gV E tNil tk) := by
  constructor
  intro pins s σ H Q I h
  refine wpAny_Call_Name_kw (ld_glob I hg hm (PySem.W.callWith_KW0 (h₀ := X.base) I.ok.mod.kin hk hall ?_ hpl) hdb)
  refine thn (hkw.run pos pins s σ H _ I h) ?_
  intro ws s2 ⟨zs, H2, I2, rz, q2⟩
  rw [hks]
  exact ⟨I2.kIn, runGk (us := []) (vs := []) F hr hgu hb hx I2 .nil rz q2⟩
end

/-! ### the head of a law -/
theorem law_callG {P : Program} {w : World} {K : PySem.W.Frag} {mg mb : Str → Option Value} {CX : CXT} {k : Nat} {fa a : Addr} {fd : FuncData} {x : Str} {sp : Sp} {s1 : Shared} {vs : List Value} {ns : List Int}
    (KX : K.In s1.heap) (hns : s1.heap.Ns mainGlobals mg) (hb : s1.heap.Ns builtinsNs mb) (hbb : ∀ x : Str, x ≠ "__name__" → mb x = bootBuiltins x) (hlim : s1.heap.NoLimit) (hg : s1.gens = #[])
    (ha : s1.heap.get? a = some { cls := .type "list", data := .seq vs.toArray }) (hi : IntsAre vs ns) (hl : ns.length ≤ sizeLine) (hr : Room k callerA)
    (F : ∀ base : Heap, K.In base → base.Ns mainGlobals mg → FnG P w K mg base CX k fa fd [x] sp)
    (hbind : ∀ (s : Shared) (u : Value), BindsTo s fd ⟨[u], []⟩ [(x, u)])
    (hsp : ∀ H : Hp, Only H → SqL K H a (ns.map V.int) → sp [.ref a] H (fun v _ => v = .bl true) fun _ _ _ => False)
    (hCX : ∀ H e s', CX [] H s1 (fun _ _ _ => False) e s' → False) :
    codeAny (model P w) callerA (.call (.ref fa) ⟨[.ref a], []⟩)
      (fun r s' => r = .ok (.ret (.bool true)) ∧ OldK s1.heap s'.heap ∧ s'.os = s1.os ∧ AllBare s'.gens) s1 := by
  have core : ∀ H : Hp, Only H → SqL K H a (ns.map V.int) → HOk P w H s1.heap →
      (∀ b, H b ≠ none → b = a) → (H a ≠ none → K.lookup a = none) →
      codeAny (model P w) callerA (.call (.ref fa) ⟨[.ref a], []⟩)
        (fun r s' => r = .ok (.ret (.bool true)) ∧ OldK s1.heap s'.heap ∧ s'.os = s1.os ∧ AllBare s'.gens) s1 := by
    intro H hO hS hok hA hK
    have only : ∀ {b : Addr}, b ≠ a → H b = none := fun {b} n => by
      cases q : H b with
      | none => rfl
      | some u => exact absurd (hA b (by rw [q]; simp)) n
    have nsK : ∀ {b : Addr} {m : Str → Option Value}, s1.heap.Ns b m → (hidT s1.heap H).Ns b m := by
      rintro b m ⟨o, es, ep, e, d, r⟩
      refine ⟨o, es, ep, hidT_get e (only ?_), d, r⟩
      rintro rfl
      rw [ha] at e
      cases e
      exact nomatch d
    have hKb : K.In (hidT s1.heap H) := by
      intro b o e
      refine hidT_get (KX b o e) ?_
      by_cases n : b = a
      · subst n
        cases q : H b with
        | none => rfl
        | some u => rw [hK (by rw [q]; simp)] at e; cases e
      · exact only n
    have hM : Mod K mg (hidT s1.heap H) := ⟨hKb, nsK hns, ⟨mb, nsK hb, hbb⟩, let ⟨mc, h1, h2⟩ := hlim; ⟨mc, nsK h1, h2⟩⟩
    have none_in : ∀ b : Addr, b ∉ frs ([] : List Env) := fun b z => by cases z
    have e0 : Env0 P w K mg (hidT s1.heap H) callerA [] s1 H :=
      ⟨rfl, hM, fun b o e => of_hidT e, Nat.le_of_eq (hidT_size _ _), trivial, fun b z => (none_in b z).elim, hok, .of_eq hg⟩
    refine codeAny_mono ((F _ hKb (nsK hns)).run callerA [] s1 H ⟨[.ref a], []⟩ [.ref a] [.ref a] _ _ hr rfl e0 (hbind s1 (.ref a)) (.cons rfl .nil) (hsp H hO hS)) ?_
    intro r s' h
    cases r with
    | error e => exact (hCX H e s' h).elim
    | ok fl =>
      cases fl with
      | next => exact h.elim
      | brk => exact h.elim
      | cont => exact h.elim
      | ret u =>
        obtain ⟨v, H', os, bare, un, hok', r', rfl⟩ := h
        obtain rfl : u = Value.bool true := r'
        refine ⟨rfl, OldK.of_keep ?_, os, bare⟩
        intro b o e
        cases q : H b with
        | none => exact un.keep b o e q (none_in b) (by simp)
        | some u =>
          rcases hO b with z | ⟨ob, xs, z⟩
          · rw [q] at z; cases z
          · have e2 := (hok' b _ (un.frzs b _ _ z)).1
            have e1 := (hok b _ z).1
            rw [e] at e1
            cases e1
            exact e2
  have rv := vals_ints hi
  cases hk : K.lookup a with
  | some o =>
    have e := KX a o hk
    rw [ha] at e
    cases e
    refine core (fun _ => none) (fun _ => .inl rfl) (.inr ⟨_, vs.toArray, _, hk, rfl, rfl, rfl, ?_, by simpa using rv⟩) (fun b u z => (nomatch z)) (fun b z => absurd rfl z) fun z => absurd rfl z
    rw [List.size_toArray, hi.length]; exact hl
  | none =>
    have at_a : ∀ {b : Addr} {u : HO}, (if b = a then some (HO.frz { cls := .type "list", data := .seq vs.toArray } (.lst (ns.map V.int))) else none) = some u → b = a ∧ u = .frz { cls := .type "list", data := .seq vs.toArray } (.lst (ns.map V.int)) := fun {b u} z => by
      by_cases n : b = a
      · rw [if_pos n] at z; exact ⟨n, (Option.some.inj z).symm⟩
      · rw [if_neg n] at z; cases z
    refine core (fun b => if b = a then some (.frz { cls := .type "list", data := .seq vs.toArray } (.lst (ns.map V.int))) else none) ?_ (.inl (.inr ⟨_, if_pos rfl⟩)) ?_ ?_ fun _ => hk
    · intro b
      by_cases n : b = a
      · exact .inr ⟨_, _, if_pos n⟩
      · exact .inl (if_neg n)
    · intro b u z
      obtain ⟨rfl, rfl⟩ := at_a z
      exact ⟨ha, by rw [List.length_map]; exact hl, vs, _, rv, ha⟩
    · intro b z
      by_cases n : b = a
      · exact n
      · exact absurd (if_neg n) z

theorem walk_ofG {l : PySem.W.OpenLaw} {n k : Nat} {q : Program} {loose : List Str} {XP : (Str → Option Value) → Heap → Prop} {YP : World → Heap → Prop} {d : DefRec} {K : Params → PySem.W.Frag} {x : Str} {sp : PySem.W.Frag → Sp}
    (hn : l.most = some n) (hn2 : n ≤ sizeLine) (hdf : d.params.defaults = []) (hr : Room k callerA) (hY : ∀ (w : World) (h : Heap), YP w h → (K w.params).In h)
    (F : ∀ (w : World) (mg : Str → Option Value) (fa : Addr) (h : Heap), (K w.params).In h → h.Ns mainGlobals mg → mg d.name = some (.ref fa) →
      ∃ fd : FuncData, (∀ (s : Shared) (u : Value), BindsTo s fd ⟨[u], []⟩ [(x, u)]) ∧
        ∀ base : Heap, (K w.params).In base → base.Ns mainGlobals mg → FnG l.prog w (K w.params) mg base CX0 k fa fd [x] (sp (K w.params)))
    (hsp : ∀ (K : PySem.W.Frag) (H : Hp) (a : Addr) (ns : List Int), ns.length ≤ n → Only H → SqL K H a (ns.map V.int) → sp K [.ref a] H (fun v _ => v = .bl true) fun _ _ _ => False) :
    PySem.W.WalkO q loose XP YP l.row.toRowW d [] (fun f vs => PySem.call f vs) := by
  refine Att.attach_call hn hdf ?_
  intro w s0 s1 mg mb fa o pm cd doc a vs ns G Y ho hd hcd hmg hobj hints hlen hg
  obtain ⟨fd, hb, hF⟩ := F w mg fa _ (hY w _ Y) G.T.g hmg
  exact law_callG (hY w _ Y) G.T.g G.T.b G.T.builtins G.T.nolimit hg hobj hints (Nat.le_trans hlen hn2) hr hF hb (fun H hO hS => hsp _ H a ns hlen hO hS) fun H e s' z => z
end DL

/-! Data level over the hand layer: what slots hold is data; expressions and statements are read as transformers of data. -/
namespace DL
open PySem PySem.Spec PyProof.Rows L2

inductive Dt where
  | non | bl (b : Bool) | int (i : Int) | str (x : Str)
  | lst (ds : List Dt) | tup (ds : List Dt) | dct (a : Addr) (kvs : List (Key × Dt)) | ty (n : String)

mutual
inductive DX (K : PySem.W.Frag) (H : Hp) : V → Dt → Prop
  | non : DX K H .non .non
  | bl (b : Bool) : DX K H (.bl b) (.bl b)
  | int (i : Int) : DX K H (.int i) (.int i)
  | str (x : Str) : DX K H (.str x) (.str x)
  | ty (n : String) : DX K H (.ty n) (.ty n)
  | lst {a : Addr} {xs : List V} {ds : List Dt} : SqL K H a xs → DXs K H xs ds → DX K H (.ref a) (.lst ds)
  | tup {a : Addr} {xs : List V} {ds : List Dt} : SqT K H a xs → DXs K H xs ds → DX K H (.ref a) (.tup ds)
  | dct {a : Addr} {kvs : List (Key × V)} {ds : List (Key × Dt)} : H a = some (.dK kvs) → DXk K H kvs ds → DX K H (.ref a) (.dct a ds)
inductive DXs (K : PySem.W.Frag) (H : Hp) : List V → List Dt → Prop
  | nil : DXs K H [] []
  | cons {v : V} {vs : List V} {d : Dt} {ds : List Dt} : DX K H v d → DXs K H vs ds → DXs K H (v :: vs) (d :: ds)
inductive DXk (K : PySem.W.Frag) (H : Hp) : List (Key × V) → List (Key × Dt) → Prop
  | nil : DXk K H [] []
  | cons {k : Key} {v : V} {vs : List (Key × V)} {d : Dt} {ds : List (Key × Dt)} : DX K H v d → DXk K H vs ds → DXk K H ((k, v) :: vs) ((k, d) :: ds)
end

section
variable {K : PySem.W.Frag} {H H' : Hp}
theorem same_T {a : Addr} {xs : List V} (e : Same H H') (h : SqT K H a xs) : SqT K H' a xs := by
  rcases h with (h | ⟨o, h⟩) | h
  · exact .inl (.inl (e _ _ h))
  · exact .inl (.inr ⟨o, e _ _ h⟩)
  · exact .inr h
mutual
theorem DX.mono (e : Same H H') : ∀ {d : Dt} {v : V}, DX K H v d → DX K H' v d
  | .non, _, h => by cases h; exact .non
  | .bl _, _, h => by cases h; exact .bl _
  | .int _, _, h => by cases h; exact .int _
  | .str _, _, h => by cases h; exact .str _
  | .ty _, _, h => by cases h; exact .ty _
  | .lst ds, _, h => by
    cases h with
    | lst hs ha => exact .lst (e.seq hs) (DXs.mono e (ds := ds) ha)
  | .tup ds, _, h => by
    cases h with
    | tup hs ha => exact .tup (same_T e hs) (DXs.mono e (ds := ds) ha)
  | .dct _ ds, _, h => by
    cases h with
    | dct hs ha => exact .dct (e _ _ hs) (DXk.mono e (ds := ds) ha)
theorem DXs.mono (e : Same H H') : ∀ {ds : List Dt} {vs : List V}, DXs K H vs ds → DXs K H' vs ds
  | [], _, h => by cases h; exact .nil
  | d :: ds, _, h => by
    cases h with
    | cons h1 h2 => exact .cons (DX.mono e (d := d) h1) (DXs.mono e (ds := ds) h2)
theorem DXk.mono (e : Same H H') : ∀ {ds : List (Key × Dt)} {vs : List (Key × V)}, DXk K H vs ds → DXk K H' vs ds
  | [], _, h => by cases h; exact .nil
  | (k, d) :: ds, _, h => by
    cases h with
    | cons h1 h2 => exact .cons (DX.mono e (d := d) h1) (DXk.mono e (ds := ds) h2)
end
theorem DXs.len : ∀ {ds : List Dt} {vs : List V}, DXs K H vs ds → vs.length = ds.length
  | [], _, h => by cases h; rfl
  | d :: ds, _, h => by
    cases h with
    | cons h1 h2 => show _ + 1 = _ + 1; rw [DXs.len h2]
theorem DXs.get : ∀ {ds : List Dt} {vs : List V} {i : Nat} {v : V}, DXs K H vs ds → vs[i]? = some v → ∃ d, ds[i]? = some d ∧ DX K H v d
  | [], _, i, v, h, e => by cases h; simp at e
  | d :: ds, _, 0, v, h, e => by
    cases h with
    | cons h1 h2 => simp at e; subst e; exact ⟨d, rfl, h1⟩
  | d :: ds, _, i + 1, v, h, e => by
    cases h with
    | cons h1 h2 =>
      obtain ⟨d', e', k⟩ := DXs.get (i := i) h2 (by simpa using e)
      exact ⟨d', by simpa using e', k⟩
theorem DXs.getd : ∀ {ds : List Dt} {vs : List V} {i : Nat} {d : Dt}, DXs K H vs ds → ds[i]? = some d → ∃ v, vs[i]? = some v ∧ DX K H v d
  | [], _, i, v, h, e => by simp at e
  | d :: ds, _, 0, v, h, e => by
    cases h with
    | cons h1 h2 => simp at e; subst e; exact ⟨_, rfl, h1⟩
  | d :: ds, _, i + 1, v, h, e => by
    cases h with
    | cons h1 h2 =>
      obtain ⟨d', e', k⟩ := DXs.getd (i := i) h2 (by simpa using e)
      exact ⟨d', by simpa using e', k⟩
theorem DXs.append : ∀ {ds es : List Dt} {vs ws : List V}, DXs K H vs ds → DXs K H ws es → DXs K H (vs ++ ws) (ds ++ es)
  | [], _, _, _, h, k => by cases h; exact k
  | d :: ds, es, _, _, h, k => by
    cases h with
    | cons h1 h2 => exact .cons h1 (DXs.append h2 k)
theorem DXs.one {v : V} {d : Dt} (h : DX K H v d) : DXs K H [v] [d] := .cons h .nil
theorem DXs.take : ∀ {ds : List Dt} {vs : List V} (n : Nat), DXs K H vs ds → DXs K H (vs.take n) (ds.take n)
  | _, _, 0, _ => .nil
  | [], _, n + 1, h => by cases h; exact .nil
  | d :: ds, _, n + 1, h => by
    cases h with
    | cons h1 h2 => exact .cons h1 (DXs.take n h2)
theorem DXs.drop : ∀ {ds : List Dt} {vs : List V} (n : Nat), DXs K H vs ds → DXs K H (vs.drop n) (ds.drop n)
  | _, _, 0, h => h
  | [], _, n + 1, h => by cases h; exact .nil
  | d :: ds, _, n + 1, h => by
    cases h with
    | cons h1 h2 => exact DXs.drop n h2
theorem DXs.set {v : V} {d : Dt} (k : DX K H v d) : ∀ {ds : List Dt} {vs : List V} (i : Nat), DXs K H vs ds → DXs K H (vs.set i v) (ds.set i d)
  | [], _, i, h => by cases h; exact .nil
  | d :: ds, _, 0, h => by
    cases h with
    | cons h1 h2 => exact .cons k h2
  | d :: ds, _, i + 1, h => by
    cases h with
    | cons h1 h2 => exact .cons h1 (DXs.set k i h2)
/-- scalars: their value is told by the datum -/
theorem DX.int_eq {v : V} {i : Int} (h : DX K H v (.int i)) : v = .int i := by cases h; rfl
theorem DX.bl_eq {v : V} {b : Bool} (h : DX K H v (.bl b)) : v = .bl b := by cases h; rfl
theorem DX.str_eq {v : V} {x : Str} (h : DX K H v (.str x)) : v = .str x := by cases h; rfl
theorem DX.non_eq {v : V} (h : DX K H v .non) : v = .non := by cases h; rfl
theorem DXs.ints : ∀ {ns : List Int} {vs : List V}, DXs K H vs (ns.map Dt.int) → vs = ns.map V.int
  | [], _, h => by cases h; rfl
  | n :: ns, _, h => by
    cases h with
    | cons h1 h2 => rw [h1.int_eq, DXs.ints h2]; rfl
theorem DXs.bls : ∀ {ns : List Bool} {vs : List V}, DXs K H vs (ns.map Dt.bl) → vs = ns.map V.bl
  | [], _, h => by cases h; rfl
  | n :: ns, _, h => by
    cases h with
    | cons h1 h2 => rw [h1.bl_eq, DXs.bls h2]; rfl
theorem DXs.strs : ∀ {ns : List Str} {vs : List V}, DXs K H vs (ns.map Dt.str) → vs = ns.map V.str
  | [], _, h => by cases h; rfl
  | n :: ns, _, h => by
    cases h with
    | cons h1 h2 => rw [h1.str_eq, DXs.strs h2]; rfl
end

/-! ### what is mutable: the pen, lists of the callers', lists of one's own by slot -/
structure Md where
  p : Option Addr
  F : List Addr
  O : List (Option Addr)
def Md.has (M : Md) (a : Addr) : Prop := M.p = some a ∨ a ∈ M.F ∨ some a ∈ M.O
instance (M : Md) (a : Addr) : Decidable (M.has a) := by unfold Md.has; infer_instance
/-- the heap without what is mutable -/
def cut (M : Md) (H : Hp) : Hp := fun a => if M.has a then none else H a
theorem cut_of {M : Md} {H : Hp} {a : Addr} {o : HO} (h : cut M H a = some o) : ¬ M.has a ∧ H a = some o := by
  unfold cut at h
  by_cases c : M.has a
  · rw [if_pos c] at h; cases h
  · rw [if_neg c] at h; exact ⟨c, h⟩
theorem cut_at {M : Md} {H : Hp} {a : Addr} {o : HO} (c : ¬ M.has a) (h : H a = some o) : cut M H a = some o := by
  unfold cut; rw [if_neg c]; exact h
theorem cut_same (M : Md) {H H' : Hp} (e : Same H H') : Same (cut M H) (cut M H') := fun a o h =>
  let ⟨c, q⟩ := cut_of h
  cut_at c (e a o q)
theorem cut_sub (M : Md) (H : Hp) : Same (cut M H) H := fun a o h => (cut_of h).2
theorem cut_le {M M' : Md} {H : Hp} (h : ∀ a, M'.has a → M.has a) : Same (cut M H) (cut M' H) := fun a o q =>
  let ⟨c, z⟩ := cut_of q
  cut_at (fun y => c (h a y)) z

structure MOk (M : Md) (H : Hp) : Prop where
  live : ∀ a, M.has a → ∃ o, H a = some o
  pF : ∀ a, M.p = some a → a ∉ M.F ∧ some a ∉ M.O
  FO : ∀ a, a ∈ M.F → some a ∉ M.O
  nd : ∀ (i j : Nat) (a : Addr), M.O[i]? = some (some a) → M.O[j]? = some (some a) → i = j
theorem MOk.same {M : Md} {H H' : Hp} (m : MOk M H) (e : Same H H') : MOk M H' :=
  ⟨fun a h => let ⟨o, q⟩ := m.live a h; ⟨o, e a o q⟩, m.pF, m.FO, m.nd⟩
theorem MOk.new {M : Md} {H : Hp} (m : MOk M H) {q : Addr} (h : H q = none) : ¬ M.has q := fun y => by
  obtain ⟨o, z⟩ := m.live q y
  rw [h] at z; cases z

/-- one step: all but the pen and one's own lists stands -/
structure Stp (M : Md) (H : Hp) (M' : Md) (H' : Hp) : Prop where
  p : M'.p = M.p
  F : M'.F = M.F
  keep : ∀ a o, H a = some o → M.p ≠ some a → some a ∉ M.O → H' a = some o ∧ some a ∉ M'.O
theorem Stp.refl (M : Md) (H : Hp) : Stp M H M H := ⟨rfl, rfl, fun _ _ h _ q => ⟨h, q⟩⟩
theorem Stp.same (M : Md) {H H' : Hp} (e : Same H H') : Stp M H M H' := ⟨rfl, rfl, fun _ _ h _ q => ⟨e _ _ h, q⟩⟩
theorem Stp.trans {M M1 M2 : Md} {H H1 H2 : Hp} (a : Stp M H M1 H1) (b : Stp M1 H1 M2 H2) : Stp M H M2 H2 :=
  ⟨b.p.trans a.p, b.F.trans a.F, fun x o h c d =>
    let ⟨h1, c1⟩ := a.keep x o h c d
    b.keep x o h1 (by rw [a.p]; exact c) c1⟩
theorem Stp.dx {M M' : Md} {H H' : Hp} (s : Stp M H M' H') : Same (cut M H) (cut M' H') := fun a o h => by
  obtain ⟨c, q⟩ := cut_of h
  obtain ⟨h1, c1⟩ := s.keep a o q (fun e => c (.inl e)) (fun e => c (.inr (.inr e)))
  refine cut_at (fun z => ?_) h1
  rcases z with z | z | z
  · exact c (.inl (by rw [← s.p]; exact z))
  · exact c (.inr (.inl (by rw [← s.F]; exact z)))
  · exact c1 z

/-! ### the slots -/
inductive Sl where
  | any
  | dat (d : Dt)
  | own (ds : List Dt)
  | pen (n : Nat)
  | pown (ds : List Dt)

/-- the pen: what is drawn from, how many were drawn (at most n), what is left of a great one -/
def Pen (K : PySem.W.Frag) (M : Md) (H : Hp) (p : Addr) (n : Nat) : Prop :=
  ∃ (l : Addr) (ns : List Int) (c : Nat) (g : Int), H p = some (.lst [.ref l, .int c, .int g]) ∧ SqL K (cut M H) l (ns.map V.int) ∧ c ≤ n ∧ 0 ≤ g ∧ ns.length ≤ 63

def SlOk (K : PySem.W.Frag) (M : Md) (H : Hp) (i : Nat) (o : Option V) : Sl → Prop
  | .any => True
  | .dat d => ∃ v, o = some v ∧ DX K (cut M H) v d
  | .own ds => ∃ l vs, o = some (.ref l) ∧ M.O[i]? = some (some l) ∧ H l = some (.lst vs) ∧ DXs K (cut M H) vs ds
  | .pen n => ∃ p, o = some (.ref p) ∧ M.p = some p ∧ Pen K M H p n
  | .pown ds => ∃ p vs, o = some (.ref p) ∧ M.p = some p ∧ H p = some (.lst vs) ∧ DXs K (cut M H) vs ds

structure Sd (K : PySem.W.Frag) (M : Md) (H : Hp) (σ : L2.St) (ρ : List Sl) : Prop where
  len : σ.length = ρ.length
  olen : M.O.length = ρ.length
  mok : MOk M H
  ok : ∀ (i : Nat) (s : Sl), ρ[i]? = some s → ∃ o, σ[i]? = some o ∧ SlOk K M H i o s

section
variable {K : PySem.W.Frag} {M : Md} {H H' : Hp} {σ : L2.St} {ρ : List Sl}
theorem Pen.same {p : Addr} {n : Nat} (h : Pen K M H p n) (e : Same H H') : Pen K M H' p n := by
  obtain ⟨l, ns, c, g, h1, h2, h3, h4⟩ := h
  exact ⟨l, ns, c, g, e _ _ h1, (cut_same M e).seq h2, h3, h4⟩
theorem SlOk.same {i : Nat} {o : Option V} {s : Sl} (h : SlOk K M H i o s) (e : Same H H') : SlOk K M H' i o s := by
  cases s with
  | any => trivial
  | dat d => obtain ⟨v, h1, h2⟩ := h; exact ⟨v, h1, h2.mono (cut_same M e)⟩
  | own ds => obtain ⟨l, vs, h1, h2, h3, h4⟩ := h; exact ⟨l, vs, h1, h2, e _ _ h3, h4.mono (cut_same M e)⟩
  | pen n => obtain ⟨p, h1, h2, h3⟩ := h; exact ⟨p, h1, h2, h3.same e⟩
  | pown ds => obtain ⟨p, vs, h1, h2, h3, h4⟩ := h; exact ⟨p, vs, h1, h2, e _ _ h3, h4.mono (cut_same M e)⟩
theorem Sd.same (S : Sd K M H σ ρ) (e : Same H H') : Sd K M H' σ ρ :=
  ⟨S.len, S.olen, S.mok.same e, fun i s h => let ⟨o, q, k⟩ := S.ok i s h; ⟨o, q, k.same e⟩⟩
theorem same_new {q : Addr} {o : HO} (h : H q = none) : Same H (upd H q o) := fun a u e => by
  rw [upd_ne (ne_of_none e h)]; exact e
end

/-! ### data-level readings (f: it draws nothing, it makes new things at most) -/
structure Tr (f : Bool) (M : Md) (H H' : Hp) : Prop where
  st : Stp M H M H'
  sm : f = true → Same H H'
theorem Tr.refl (f : Bool) (M : Md) (H : Hp) : Tr f M H H := ⟨Stp.refl M H, fun _ => Same.refl H⟩
theorem Tr.same (f : Bool) (M : Md) {H H' : Hp} (e : Same H H') : Tr f M H H' := ⟨Stp.same M e, fun _ => e⟩
theorem Tr.trans {f : Bool} {M : Md} {H H1 H2 : Hp} (a : Tr f M H H1) (b : Tr f M H1 H2) : Tr f M H H2 := ⟨a.st.trans b.st, fun h => (a.sm h).trans (b.sm h)⟩
theorem Tr.dx {f : Bool} {M : Md} {H H' : Hp} (a : Tr f M H H') : Same (cut M H) (cut M H') := a.st.dx
def Wp (K : PySem.W.Frag) (f : Bool) (te : TE) (ρ : List Sl) (Φ : Dt → List Sl → Prop) : Prop :=
  ∀ (M : Md) (σ : L2.St) (H : Hp), Sd K M H σ ρ → ∀ Q : VK, (∀ v H2 d ρ', Tr f M H H2 → Sd K M H2 σ ρ' → DX K (cut M H2) v d → Φ d ρ' → Q v H2) → te σ H Q
def Wt (K : PySem.W.Frag) (f : Bool) (tt : TT) (ρ : List Sl) (Φ : Bool → List Sl → Prop) : Prop :=
  ∀ (M : Md) (σ : L2.St) (H : Hp), Sd K M H σ ρ → ∀ Q : Bool → Hp → Prop, (∀ b H2 ρ', Tr f M H H2 → Sd K M H2 σ ρ' → Φ b ρ' → Q b H2) → tt σ H Q
def Wa (K : PySem.W.Frag) (f : Bool) (ta : TA) (ρ : List Sl) (Φ : List Dt → List Sl → Prop) : Prop :=
  ∀ (M : Md) (σ : L2.St) (H : Hp), Sd K M H σ ρ → ∀ Q : List V → Hp → Prop, (∀ vs H2 ds ρ', Tr f M H H2 → Sd K M H2 σ ρ' → DXs K (cut M H2) vs ds → Φ ds ρ' → Q vs H2) → ta σ H Q
/-- an operation on two values, a call on values: it makes new things at most -/
def OD (K : PySem.W.Frag) (r : R2) (d1 d2 : Dt) (Ψ : Dt → Prop) : Prop :=
  ∀ (M : Md) (H : Hp) (x y : V), MOk M H → DX K (cut M H) x d1 → DX K (cut M H) y d2 → ∀ Q : VK, (∀ v H2 d, Same H H2 → DX K (cut M H2) v d → Ψ d → Q v H2) → r x y H Q
def RD (K : PySem.W.Frag) (r : List V → Hp → VK → Prop) (ds : List Dt) (Ψ : Dt → Prop) : Prop :=
  ∀ (M : Md) (H : Hp) (vs : List V), MOk M H → DXs K (cut M H) vs ds → ∀ Q : VK, (∀ v H2 d, Same H H2 → DX K (cut M H2) v d → Ψ d → Q v H2) → r vs H Q
def UD (K : PySem.W.Frag) (r : V → Hp → VK → Prop) (d1 : Dt) (Ψ : Dt → Prop) : Prop :=
  ∀ (M : Md) (H : Hp) (x : V), MOk M H → DX K (cut M H) x d1 → ∀ Q : VK, (∀ v H2 d, Same H H2 → DX K (cut M H2) v d → Ψ d → Q v H2) → r x H Q

section
variable {K : PySem.W.Frag} {pf : Bool} {ρ : List Sl} {ta tb tc te : TE} {tt tu : TT} {tr : TA} {r r' : R2} {Φ Φ' : Dt → List Sl → Prop} {Θ : Bool → List Sl → Prop} {Ξ : List Dt → List Sl → Prop}
theorem Wp.imp (h : Wp K pf te ρ Φ) (k : ∀ d ρ', Φ d ρ' → Φ' d ρ') : Wp K pf te ρ Φ' := fun M σ H S Q q => h M σ H S Q fun v H2 d ρ' s S2 x f => q v H2 d ρ' s S2 x (k d ρ' f)
theorem Wt.imp {Θ' : Bool → List Sl → Prop} (h : Wt K pf tt ρ Θ) (k : ∀ b ρ', Θ b ρ' → Θ' b ρ') : Wt K pf tt ρ Θ' := fun M σ H S Q q => h M σ H S Q fun b H2 ρ' s S2 f => q b H2 ρ' s S2 (k b ρ' f)
theorem w_var {i : Nat} {d : Dt} (e : ρ[i]? = some (.dat d)) (f : Φ d ρ) : Wp K pf (tVar i) ρ Φ := fun M σ H S Q q => by
  obtain ⟨o, h1, v, h2, h3⟩ := S.ok i _ e
  subst h2
  exact ⟨v, h1, q v H d ρ (Tr.refl pf M H) S h3 f⟩
theorem w_c {v : V} {d : Dt} (k : ∀ H, DX K H v d) (f : Φ d ρ) : Wp K pf (tC v) ρ Φ := fun M σ H S Q q => q v H d ρ (Tr.refl pf M H) S (k _) f
theorem w_op (h : Wp K pf ta ρ fun d1 ρ1 => Wp K pf tb ρ1 fun d2 ρ2 => OD K r d1 d2 fun d => Φ d ρ2) : Wp K pf (tOp r ta tb) ρ Φ := fun M σ H S Q q =>
  h M σ H S _ fun v1 H1 d1 ρ1 s1 S1 x1 k1 => k1 M σ H1 S1 _ fun v2 H2 d2 ρ2 s2 S2 x2 k2 =>
    k2 M H2 v1 v2 S2.mok (x1.mono s2.dx) x2 _ fun v H3 d e x f => q v H3 d ρ2 ((s1.trans s2).trans (Tr.same pf M e)) (S2.same e) x f
theorem w_un {r : V → Hp → VK → Prop} (h : Wp K pf ta ρ fun d1 ρ1 => UD K r d1 fun d => Φ d ρ1) : Wp K pf (tUn r ta) ρ Φ := fun M σ H S Q q =>
  h M σ H S _ fun v1 H1 d1 ρ1 s1 S1 x1 k1 => k1 M H1 v1 S1.mok x1 _ fun v H3 d e x f => q v H3 d ρ1 (s1.trans (Tr.same pf M e)) (S1.same e) x f
theorem w_chain (h : Wp K pf ta ρ fun d1 ρ1 => Wp K pf tb ρ1 fun d2 ρ2 => OD K r d1 d2 fun z => ∃ b, z = .bl b ∧ if b = true then Wp K pf tc ρ2 (fun d3 ρ3 => OD K r' d2 d3 fun d => Φ d ρ3) else Φ (.bl false) ρ2) :
    Wp K pf (tChain r r' ta tb tc) ρ Φ := fun M σ H S Q q =>
  h M σ H S _ fun v1 H1 d1 ρ1 s1 S1 x1 k1 => k1 M σ H1 S1 _ fun v2 H2 d2 ρ2 s2 S2 x2 k2 =>
    k2 M H2 v1 v2 S2.mok (x1.mono s2.dx) x2 _ fun z H3 d e x f => by
      obtain ⟨b, rfl, f⟩ := f
      have x2' := x2.mono (cut_same M e)
      refine ⟨b, x.bl_eq, ?_⟩
      cases b with
      | true =>
        rw [if_pos rfl] at f ⊢
        exact f M σ H3 (S2.same e) _ fun v3 H4 d3 ρ3 s3 S3 x3 k3 => k3 M H4 v2 v3 S3.mok (x2'.mono s3.dx) x3 _ fun v H5 d e5 x5 f5 =>
          q v H5 d ρ3 ((((s1.trans s2).trans (Tr.same pf M e)).trans s3).trans (Tr.same pf M e5)) (S3.same e5) x5 f5
      | false =>
        rw [if_neg Bool.false_ne_true] at f ⊢
        exact q _ H3 (.bl false) ρ2 ((s1.trans s2).trans (Tr.same pf M e)) (S2.same e) (.bl _) f
theorem w_andV (h : Wp K pf ta ρ fun d1 ρ1 => ∃ b, d1 = .bl b ∧ if b = true then Wp K pf tb ρ1 Φ else Φ (.bl false) ρ1) : Wp K pf (tAndV ta tb) ρ Φ := fun M σ H S Q q =>
  h M σ H S _ fun v1 H1 d1 ρ1 s1 S1 x1 ⟨b, e, f⟩ => by
    subst e
    refine ⟨b, x1.bl_eq, ?_⟩
    cases b with
    | true =>
      rw [if_pos rfl] at f ⊢
      exact f M σ H1 S1 _ fun v H2 d ρ2 s2 S2 x f2 => q v H2 d ρ2 (s1.trans s2) S2 x f2
    | false =>
      rw [if_neg Bool.false_ne_true] at f ⊢
      exact q _ H1 _ ρ1 s1 S1 (.bl _) f
theorem w_orV (h : Wp K pf ta ρ fun d1 ρ1 => ∃ b, d1 = .bl b ∧ if b = true then Φ (.bl true) ρ1 else Wp K pf tb ρ1 Φ) : Wp K pf (tOrV ta tb) ρ Φ := fun M σ H S Q q =>
  h M σ H S _ fun v1 H1 d1 ρ1 s1 S1 x1 ⟨b, e, f⟩ => by
    subst e
    refine ⟨b, x1.bl_eq, ?_⟩
    cases b with
    | false =>
      rw [if_neg Bool.false_ne_true] at f ⊢
      exact f M σ H1 S1 _ fun v H2 d ρ2 s2 S2 x f2 => q v H2 d ρ2 (s1.trans s2) S2 x f2
    | true =>
      rw [if_pos rfl] at f ⊢
      exact q _ H1 _ ρ1 s1 S1 (.bl _) f
theorem w_notV (h : Wp K pf ta ρ fun d1 ρ1 => ∃ b, d1 = .bl b ∧ Φ (.bl (!b)) ρ1) : Wp K pf (tNotV ta) ρ Φ := fun M σ H S Q q =>
  h M σ H S _ fun v1 H1 d1 ρ1 s1 S1 x1 ⟨b, e, f⟩ => by
    subst e
    exact ⟨b, x1.bl_eq, q _ H1 _ ρ1 s1 S1 (.bl _) f⟩
theorem w_if (h : Wt K pf tt ρ fun b ρ1 => if b = true then Wp K pf ta ρ1 Φ else Wp K pf tb ρ1 Φ) : Wp K pf (tIf tt ta tb) ρ Φ := fun M σ H S Q q =>
  h M σ H S _ fun b H1 ρ1 s1 S1 f => by
    cases b with
    | true =>
      rw [if_pos rfl] at f
      show ta σ H1 Q
      exact f M σ H1 S1 _ fun v H2 d ρ2 s2 S2 x f2 => q v H2 d ρ2 (s1.trans s2) S2 x f2
    | false =>
      rw [if_neg Bool.false_ne_true] at f
      show tb σ H1 Q
      exact f M σ H1 S1 _ fun v H2 d ρ2 s2 S2 x f2 => q v H2 d ρ2 (s1.trans s2) S2 x f2
/-! tests -/
theorem wt_test (h : Wp K pf te ρ fun d ρ1 => ∃ b, d = .bl b ∧ Θ b ρ1) : Wt K pf (tTest te) ρ Θ := fun M σ H S Q q =>
  h M σ H S _ fun v1 H1 d1 ρ1 s1 S1 x1 ⟨b, e, f⟩ => by
    subst e
    exact ⟨b, x1.bl_eq, q b H1 ρ1 s1 S1 f⟩
theorem wt_B (h : Wp K pf te ρ fun d ρ1 => ∃ b, d = .bl b ∧ Θ b ρ1) : Wt K pf (tB te) ρ Θ := fun M σ H S Q q =>
  h M σ H S _ fun v1 H1 d1 ρ1 s1 S1 x1 ⟨b, e, f⟩ => by
    subst e
    exact ⟨b, x1.bl_eq, q b H1 ρ1 s1 S1 f⟩
theorem wt_and (h : Wt K pf tt ρ fun b ρ1 => if b = true then Wt K pf tu ρ1 Θ else Θ false ρ1) : Wt K pf (tAnd tt tu) ρ Θ := fun M σ H S Q q =>
  h M σ H S _ fun b H1 ρ1 s1 S1 f => by
    cases b with
    | true =>
      rw [if_pos rfl] at f
      show tu σ H1 Q
      exact f M σ H1 S1 _ fun b H2 ρ2 s2 S2 f2 => q b H2 ρ2 (s1.trans s2) S2 f2
    | false =>
      rw [if_neg Bool.false_ne_true] at f
      show Q false H1
      exact q _ H1 ρ1 s1 S1 f
theorem wt_or (h : Wt K pf tt ρ fun b ρ1 => if b = true then Θ true ρ1 else Wt K pf tu ρ1 Θ) : Wt K pf (tOr tt tu) ρ Θ := fun M σ H S Q q =>
  h M σ H S _ fun b H1 ρ1 s1 S1 f => by
    cases b with
    | false =>
      rw [if_neg Bool.false_ne_true] at f
      show tu σ H1 Q
      exact f M σ H1 S1 _ fun b H2 ρ2 s2 S2 f2 => q b H2 ρ2 (s1.trans s2) S2 f2
    | true =>
      rw [if_pos rfl] at f
      show Q true H1
      exact q _ H1 ρ1 s1 S1 f
theorem wt_not (h : Wt K pf tt ρ fun b ρ1 => Θ (!b) ρ1) : Wt K pf (tNot tt) ρ Θ := fun M σ H S Q q =>
  h M σ H S _ fun b H1 ρ1 s1 S1 f => q (!b) H1 ρ1 s1 S1 f
theorem wt_yes (h : Θ true ρ) : Wt K pf tYes ρ Θ := fun M σ H S Q q => q true H ρ (Tr.refl pf M H) S h
/-! arguments, displays, calls -/
theorem wa_nil (h : Ξ [] ρ) : Wa K pf tNil ρ Ξ := fun M σ H S Q q => q [] H [] ρ (Tr.refl pf M H) S .nil h
theorem wa_cons (h : Wp K pf ta ρ fun d ρ1 => Wa K pf tr ρ1 fun ds ρ2 => Ξ (d :: ds) ρ2) : Wa K pf (tCons ta tr) ρ Ξ := fun M σ H S Q q =>
  h M σ H S _ fun v1 H1 d1 ρ1 s1 S1 x1 f => f M σ H1 S1 _ fun vs H2 ds ρ2 s2 S2 x2 f2 => q (v1 :: vs) H2 (d1 :: ds) ρ2 (s1.trans s2) S2 (.cons (x1.mono s2.dx) x2) f2
theorem dx_new_t {M : Md} {H : Hp} {q : Addr} {vs : List V} {ds : List Dt} (m : MOk M H) (h : H q = none) (x : DXs K (cut M H) vs ds) : DX K (cut M (upd H q (.tup vs))) (.ref q) (.tup ds) :=
  .tup (.inl (.inl (cut_at (m.new h) upd_same))) (x.mono (cut_same M (same_new h)))
theorem dx_new_l {M : Md} {H : Hp} {q : Addr} {vs : List V} {ds : List Dt} (m : MOk M H) (h : H q = none) (x : DXs K (cut M H) vs ds) : DX K (cut M (upd H q (.lst vs))) (.ref q) (.lst ds) :=
  .lst (.inl (.inl (cut_at (m.new h) upd_same))) (x.mono (cut_same M (same_new h)))
theorem w_tup (h : Wa K pf tr ρ fun ds ρ1 => ds.length ≤ 100000 ∧ Φ (.tup ds) ρ1) : Wp K pf (tTup tr) ρ Φ := fun M σ H S Q q =>
  h M σ H S _ fun vs H1 ds ρ1 s1 S1 x1 ⟨hl, f⟩ => ⟨by rw [x1.len]; exact Nat.le_trans hl (by decide), fun p hp =>
    q _ _ (.tup ds) ρ1 (s1.trans (Tr.same pf M (same_new hp))) (S1.same (same_new hp)) (dx_new_t S1.mok hp x1) f⟩
theorem w_lst (h : Wa K pf tr ρ fun ds ρ1 => ds.length ≤ 100000 ∧ Φ (.lst ds) ρ1) : Wp K pf (tLst tr) ρ Φ := fun M σ H S Q q =>
  h M σ H S _ fun vs H1 ds ρ1 s1 S1 x1 ⟨hl, f⟩ => ⟨by rw [x1.len]; exact Nat.le_trans hl (by decide), fun p hp =>
    q _ _ (.lst ds) ρ1 (s1.trans (Tr.same pf M (same_new hp))) (S1.same (same_new hp)) (dx_new_l S1.mok hp x1) f⟩
theorem w_cb {r : List V → Hp → VK → Prop} (h : Wa K pf tr ρ fun ds ρ1 => RD K r ds fun d => Φ d ρ1) : Wp K pf (tCB r tr) ρ Φ := fun M σ H S Q q =>
  h M σ H S _ fun vs H1 ds ρ1 s1 S1 x1 k => k M H1 vs S1.mok x1 _ fun v H2 d e x f => q v H2 d ρ1 (s1.trans (Tr.same pf M e)) (S1.same e) x f
end
end DL

/-! Data level: calls by promises, statements, loops, comprehensions. -/
namespace DL
open PySem PySem.Spec PyProof.Rows L2

theorem Wp.up {K : PySem.W.Frag} {te : TE} {ρ : List Sl} {Φ : Dt → List Sl → Prop} (h : Wp K true te ρ Φ) : Wp K false te ρ Φ := fun M σ H S Q q =>
  h M σ H S Q fun v H2 d ρ' s S2 x f => q v H2 d ρ' ⟨s.st, fun z => nomatch z⟩ S2 x f
theorem Wt.up {K : PySem.W.Frag} {te : TT} {ρ : List Sl} {Φ : Bool → List Sl → Prop} (h : Wt K true te ρ Φ) : Wt K false te ρ Φ := fun M σ H S Q q =>
  h M σ H S Q fun b H2 ρ' s S2 f => q b H2 ρ' ⟨s.st, fun z => nomatch z⟩ S2 f

/-! ### promises -/
/-- what a callee is told of what is mutable: nothing of it is its own -/
def Md.call (M : Md) : Md := ⟨M.p, M.F ++ M.O.filterMap id, []⟩
def Md.callP (M : Md) : Md := ⟨none, M.p.toList ++ (M.F ++ M.O.filterMap id), []⟩
theorem mem_somes {O : List (Option Addr)} {a : Addr} : a ∈ O.filterMap id ↔ some a ∈ O := by
  rw [List.mem_filterMap]
  constructor
  · rintro ⟨o, h, e⟩
    have e' : o = some a := e
    rw [← e']; exact h
  · intro h; exact ⟨some a, h, rfl⟩
theorem Md.call_has (M : Md) (a : Addr) : M.call.has a ↔ M.has a := by
  unfold Md.has Md.call
  simp only [List.mem_append, mem_somes, List.not_mem_nil, or_false]
theorem Md.callP_has (M : Md) (a : Addr) : M.callP.has a ↔ M.has a := by
  unfold Md.has Md.callP
  simp only [List.mem_append, mem_somes, List.not_mem_nil, or_false, Option.mem_toList]
  constructor
  · rintro (h | h)
    · cases h
    · rcases h with h | h
      · exact .inl h
      · exact .inr h
  · rintro (h | h)
    · exact .inr (.inl h)
    · exact .inr (.inr h)
theorem cut_congr {M M' : Md} (h : ∀ a, M'.has a ↔ M.has a) (H : Hp) : cut M' H = cut M H := by
  funext a
  unfold cut
  by_cases c : M.has a
  · rw [if_pos c, if_pos ((h a).mpr c)]
  · rw [if_neg c, if_neg fun z => c ((h a).mp z)]
theorem MOk.call {M : Md} {H : Hp} (m : MOk M H) : MOk M.call H := by
  refine ⟨fun a h => m.live a ((M.call_has a).mp h), fun a h => ⟨fun z => ?_, fun z => (nomatch z)⟩, fun _ _ z => (nomatch z), fun i j a h => ?_⟩
  · rcases List.mem_append.mp z with z | z
    · exact (m.pF a h).1 z
    · exact (m.pF a h).2 (mem_somes.mp z)
  · have h : ([] : List (Option Addr))[i]? = some (some a) := h
    simp at h
theorem MOk.callP {M : Md} {H : Hp} (m : MOk M H) : MOk M.callP H := by
  refine ⟨fun a h => m.live a ((M.callP_has a).mp h), fun a h => (nomatch h), fun _ _ z => (nomatch z), fun i j a h => ?_⟩
  have h : ([] : List (Option Addr))[i]? = some (some a) := h
  simp at h
/-- .. and the callee's own: no list of its own yet, a place for each slot -/
def Md.body (M : Md) (n : Nat) : Md := ⟨M.p, M.F, List.replicate n none⟩
theorem no_rep {n : Nat} {a : Addr} : some a ∉ List.replicate n (none : Option Addr) := fun h => by
  have := List.eq_of_mem_replicate h
  cases this
theorem Md.body_has {M : Md} (h : M.O = []) (n : Nat) (a : Addr) : (M.body n).has a ↔ M.has a := by
  unfold Md.has Md.body
  rw [h]
  constructor
  · rintro (z | z | z)
    · exact .inl z
    · exact .inr (.inl z)
    · exact (no_rep z).elim
  · rintro (z | z | z)
    · exact .inl z
    · exact .inr (.inl z)
    · cases z
theorem MOk.body {M : Md} {H : Hp} (m : MOk M H) (h : M.O = []) (n : Nat) : MOk (M.body n) H := by
  refine ⟨fun a z => m.live a ((Md.body_has h n a).mp z), fun a z => ⟨(m.pF a z).1, no_rep⟩, fun _ _ => no_rep, fun i j a z => ?_⟩
  have z : (List.replicate n (none : Option Addr))[i]? = some (some a) := z
  rw [List.getElem?_replicate] at z
  split at z <;> cases z

/-- a promise: from data to data; nothing that stands is changed -/
def spP (K : PySem.W.Frag) (W : List Dt → (Dt → Prop) → Prop) : Sp := fun vs H Q _ => ∃ (M : Md) (ds : List Dt) (Φ : Dt → Prop),
  M.p = none ∧ M.O = [] ∧ MOk M H ∧ DXs K (cut M H) vs ds ∧ W ds Φ ∧ ∀ v H2 d, Same H H2 → DX K (cut M H2) v d → Φ d → Q v H2
/-- a promise of a def that draws: its first argument is the pen -/
def spN (K : PySem.W.Frag) (W : Nat → List Dt → (Dt → Nat → Prop) → Prop) : Sp := fun vs H Q _ => ∃ (M : Md) (p : Addr) (n : Nat) (ws : List V) (ds : List Dt) (Φ : Dt → Nat → Prop),
  vs = .ref p :: ws ∧ M.p = some p ∧ M.O = [] ∧ MOk M H ∧ Pen K M H p n ∧ DXs K (cut M H) ws ds ∧ W n ds Φ ∧
    ∀ v H2 d n', (∀ a o, H a = some o → a ≠ p → H2 a = some o) → Pen K M H2 p n' → DX K (cut M H2) v d → Φ d n' → Q v H2
def pens (n : Nat) (ρ : List Sl) : List Sl := ρ.map fun s => match s with
  | .pen _ => .pen n
  | .pown _ => .pen n
  | s => s

section
variable {K : PySem.W.Frag} {pf : Bool} {ρ : List Sl} {te : TE} {tr : TA} {Φ : Dt → List Sl → Prop}
theorem w_call {W : List Dt → (Dt → Prop) → Prop} {dvs : List V} {des : List Dt} {E : XK} (hd : ∀ H, DXs K H dvs des) (h : Wa K pf tr ρ fun ds ρ1 => W (ds ++ des) fun d => Φ d ρ1) : Wp K pf (tCall (spP K W) dvs E tr) ρ Φ := fun M σ H S Q q =>
  h M σ H S _ fun vs H1 ds ρ1 s1 S1 x1 k => by
    have ec : ∀ H', cut M.callP H' = cut M H' := cut_congr M.callP_has
    refine ⟨M.callP, ds ++ des, _, rfl, rfl, S1.mok.callP, ?_, k, fun v H2 d e x f => q v H2 d ρ1 (s1.trans (Tr.same pf M e)) (S1.same e) ?_ f⟩
    · rw [ec]; exact x1.append (hd _)
    · rw [ec] at x; exact x
theorem w_call0 {W : List Dt → (Dt → Prop) → Prop} {E : XK} (h : Wa K pf tr ρ fun ds ρ1 => W ds fun d => Φ d ρ1) : Wp K pf (tCall (spP K W) [] E tr) ρ Φ :=
  w_call (des := []) (fun _ => .nil) fun M σ H S Q q => h M σ H S Q fun vs H2 ds ρ' s S2 x f => q vs H2 ds ρ' s S2 x (by show W (ds ++ []) _; rw [List.append_nil]; exact f)
theorem Sd.pens {M : Md} {H H2 : Hp} {σ : L2.St} {p : Addr} {n' : Nat} (S : Sd K M H σ ρ) (hp : M.p = some p) (k : ∀ a o, H a = some o → a ≠ p → H2 a = some o) (P : Pen K M H2 p n') : Sd K M H2 σ (pens n' ρ) := by
  have sc : Same (cut M H) (cut M H2) := fun a o e => by
    obtain ⟨c, z⟩ := cut_of e
    exact cut_at c (k a o z fun y => c (.inl (by rw [y]; exact hp)))
  refine ⟨by unfold DL.pens; rw [List.length_map]; exact S.len, by unfold DL.pens; rw [List.length_map]; exact S.olen, ⟨fun a h => ?_, S.mok.pF, S.mok.FO, S.mok.nd⟩, fun i s h => ?_⟩
  · obtain ⟨o, z⟩ := S.mok.live a h
    by_cases e : a = p
    · obtain ⟨l, ns, c, g, h1, _⟩ := P
      exact ⟨_, by rw [e]; exact h1⟩
    · exact ⟨o, k a o z e⟩
  · unfold DL.pens at h
    rw [List.getElem?_map] at h
    cases e : ρ[i]? with
    | none => rw [e] at h; cases h
    | some s0 =>
      rw [e] at h
      obtain ⟨o, h1, h2⟩ := S.ok i s0 e
      refine ⟨o, h1, ?_⟩
      have h := Option.some.inj h
      cases s0 with
      | any => subst h; trivial
      | dat d => subst h; obtain ⟨v, a1, a2⟩ := h2; exact ⟨v, a1, a2.mono sc⟩
      | own ds =>
        subst h
        obtain ⟨l, vs, a1, a2, a3, a4⟩ := h2
        exact ⟨l, vs, a1, a2, k _ _ a3 (fun y => (S.mok.pF p hp).2 (by rw [← y]; exact List.mem_of_getElem? a2)), a4.mono sc⟩
      | pen m =>
        subst h
        obtain ⟨p', a1, a2, _⟩ := h2
        have e : p' = p := Option.some.inj (a2.symm.trans hp)
        subst e
        exact ⟨p', a1, a2, P⟩
      | pown es =>
        subst h
        obtain ⟨p', ws, a1, a2, _⟩ := h2
        have e : p' = p := Option.some.inj (a2.symm.trans hp)
        subst e
        exact ⟨p', a1, a2, P⟩
theorem w_callN {W : Nat → List Dt → (Dt → Nat → Prop) → Prop} {E : XK} {i n0 : Nat} (e : ρ[i]? = some (.pen n0)) (h : Wa K false tr ρ fun ds ρ1 => ∃ n, ρ1[i]? = some (.pen n) ∧ W n ds fun d n' => Φ d (pens n' ρ1)) :
    Wp K false (tCall (spN K W) [] E (tCons (tVar i) tr)) ρ Φ := fun M σ H S Q q => by
  obtain ⟨o, h1, p, rfl, hp, _⟩ := S.ok i _ e
  refine ⟨.ref p, h1, h M σ H S _ fun vs H1 ds ρ1 s1 S1 x1 ⟨n, e1, k⟩ => ?_⟩
  obtain ⟨o', g1, p', g2, g3, P⟩ := S1.ok i _ e1
  have ep : p' = p := Option.some.inj (g3.symm.trans hp)
  subst ep
  have ec : ∀ H', cut M.call H' = cut M H' := cut_congr M.call_has
  have penc : ∀ {H' : Hp} {m : Nat}, Pen K M.call H' p' m ↔ Pen K M H' p' m := fun {H' m} => by unfold Pen; rw [ec]
  refine ⟨M.call, p', n, vs, ds, _, by rw [List.append_nil], hp, rfl, S1.mok.call, penc.mpr P, by rw [ec]; exact x1, k, fun v H2 d n' kp P2 x f => ?_⟩
  rw [ec] at x
  refine q v H2 d (pens n' ρ1) (s1.trans ⟨⟨rfl, rfl, fun a o z c d => ⟨kp a o z fun y => c (by rw [y]; exact hp), d⟩⟩, fun z => nomatch z⟩) (S1.pens hp kp (penc.mp P2)) x f
end

/-! ### statements -/
structure DE where
  nx : List Sl → Prop
  rt : Dt → List Sl → Prop
  bk : List Sl → Prop := fun _ => False
  ct : List Sl → Prop := fun _ => False
structure EOk (K : PySem.W.Frag) (M : Md) (H : Hp) (E : Ends) (D : DE) : Prop where
  nx : ∀ M' σ' H' ρ', Stp M H M' H' → Sd K M' H' σ' ρ' → D.nx ρ' → E.nx σ' H'
  rt : ∀ M' v H' d ρ' σ', Stp M H M' H' → Sd K M' H' σ' ρ' → DX K (cut M' H') v d → D.rt d ρ' → E.rt v H'
  bk : ∀ M' σ' H' ρ', Stp M H M' H' → Sd K M' H' σ' ρ' → D.bk ρ' → E.bk σ' H'
  ct : ∀ M' σ' H' ρ', Stp M H M' H' → Sd K M' H' σ' ρ' → D.ct ρ' → E.ct σ' H'
theorem EOk.step {K : PySem.W.Frag} {M M1 : Md} {H H1 : Hp} {E : Ends} {D : DE} (k : EOk K M H E D) (s : Stp M H M1 H1) : EOk K M1 H1 E D :=
  ⟨fun M' σ' H' ρ' t S z => k.nx M' σ' H' ρ' (s.trans t) S z, fun M' v H' d ρ' σ' t S x z => k.rt M' v H' d ρ' σ' (s.trans t) S x z,
    fun M' σ' H' ρ' t S z => k.bk M' σ' H' ρ' (s.trans t) S z, fun M' σ' H' ρ' t S z => k.ct M' σ' H' ρ' (s.trans t) S z⟩
def Ws (K : PySem.W.Frag) (ts : TS) (ρ : List Sl) (D : DE) : Prop :=
  ∀ (M : Md) (σ : L2.St) (H : Hp), Sd K M H σ ρ → ∀ E : Ends, EOk K M H E D → ts E σ H

section
variable {K : PySem.W.Frag} {ρ : List Sl} {te ti : TE} {tt : TT} {tr : TA} {t u : TS} {D : DE} {i : Nat}
theorem Sd.put {M : Md} {H : Hp} {σ : L2.St} (S : Sd K M H σ ρ) {v : V} {d : Dt} (x : DX K (cut M H) v d) (i : Nat) : Sd K M H (σ.set i (some v)) (ρ.set i (.dat d)) := by
  refine ⟨by rw [List.length_set, List.length_set]; exact S.len, by rw [List.length_set]; exact S.olen, S.mok, fun j s h => ?_⟩
  by_cases e : i = j
  · subst e
    by_cases hi : i < ρ.length
    · rw [List.getElem?_set_self hi] at h
      have h := Option.some.inj h
      subst h
      exact ⟨some v, by rw [List.getElem?_set_self (by rw [S.len]; exact hi)], v, rfl, x⟩
    · rw [List.getElem?_eq_none (by rw [List.length_set]; omega)] at h; cases h
  · rw [List.getElem?_set_ne e] at h ⊢
    exact S.ok j s h
theorem ws_seq (h : Ws K t ρ { D with nx := fun ρ' => Ws K u ρ' D }) : Ws K (tSeq t u) ρ D := fun M σ H S E k =>
  h M σ H S { E with nx := u E } ⟨fun M' σ' H' ρ' s S' z => z M' σ' H' S' E (k.step s), k.rt, k.bk, k.ct⟩
theorem ws_next (h : D.nx ρ) : Ws K tNext ρ D := fun M σ H S E k => k.nx M σ H ρ (Stp.refl M H) S h
theorem ws_brk (h : D.bk ρ) : Ws K tBreak ρ D := fun M σ H S E k => k.bk M σ H ρ (Stp.refl M H) S h
theorem ws_cont (h : D.ct ρ) : Ws K tCont ρ D := fun M σ H S E k => k.ct M σ H ρ (Stp.refl M H) S h
theorem ws_asg {pf : Bool} (h : Wp K pf te ρ fun d ρ' => D.nx (ρ'.set i (.dat d))) : Ws K (tAsg te (gName i)) ρ D := fun M σ H S E k =>
  h M σ H S _ fun v H1 d ρ1 s1 S1 x1 f => k.nx M _ H1 _ s1.st (S1.put x1 i) f
theorem ws_drop {pf : Bool} (h : Wp K pf te ρ fun d ρ' => D.nx ρ') : Ws K (tDrop te) ρ D := fun M σ H S E k =>
  h M σ H S _ fun v H1 d ρ1 s1 S1 x1 f => k.nx M _ H1 _ s1.st S1 f
theorem ws_ret {pf : Bool} (h : Wp K pf te ρ fun d ρ' => D.rt d ρ') : Ws K (tRet te) ρ D := fun M σ H S E k =>
  h M σ H S _ fun v H1 d ρ1 s1 S1 x1 f => k.rt M v H1 d ρ1 σ s1.st S1 x1 f
theorem ws_retN (h : D.rt .non ρ) : Ws K tRetN ρ D := fun M σ H S E k => k.rt M .non H .non ρ σ (Stp.refl M H) S .non h
theorem ws_if {pf : Bool} (h : Wt K pf tt ρ fun b ρ1 => if b = true then Ws K t ρ1 D else Ws K u ρ1 D) : Ws K (tIfS tt t u) ρ D := fun M σ H S E k =>
  h M σ H S _ fun b H1 ρ1 s1 S1 f => by
    cases b with
    | true =>
      rw [if_pos rfl] at f
      show t E σ H1
      exact f M σ H1 S1 E (k.step s1.st)
    | false =>
      rw [if_neg Bool.false_ne_true] at f
      show u E σ H1
      exact f M σ H1 S1 E (k.step s1.st)

/-! one's own lists -/
theorem Sd.slot {M : Md} {H : Hp} {σ : L2.St} (S : Sd K M H σ ρ) {s : Sl} (h : ρ[i]? = some s) : i < σ.length := by
  rw [S.len]; exact (List.getElem?_eq_some_iff.mp h).1
/-- a new list at q becomes slot i's own -/
theorem Sd.own {M : Md} {H : Hp} {σ : L2.St} {q : Addr} {vs : List V} {ds : List Dt} (S : Sd K M H σ ρ) (hi : i < ρ.length) (hq : ¬ M.has q) (hH : H q = some (.lst vs))
    (x : DXs K (cut { M with F := q :: M.F } H) vs ds) (hS : Sd K { M with F := q :: M.F } H σ ρ) : Sd K { M with O := M.O.set i (some q) } H (σ.set i (some (.ref q))) (ρ.set i (.own ds)) := by
  have hO : ∀ a, some a ∈ M.O.set i (some q) → a = q ∨ some a ∈ M.O := fun a h => by
    rcases List.mem_or_eq_of_mem_set h with z | z
    · exact .inr z
    · exact .inl (Option.some.inj z)
  have has : ∀ a, ({ M with O := M.O.set i (some q) } : Md).has a → ({ M with F := q :: M.F } : Md).has a := fun a h => by
    rcases h with h | h | h
    · exact .inl h
    · exact .inr (.inl (List.mem_cons_of_mem _ h))
    · rcases hO a h with z | z
      · exact .inr (.inl (by rw [z]; exact List.mem_cons_self))
      · exact .inr (.inr z)
  have sc : Same (cut { M with F := q :: M.F } H) (cut { M with O := M.O.set i (some q) } H) := cut_le has
  have hset : ∀ (j : Nat) (a : Addr), (M.O.set i (some q))[j]? = some (some a) → (i = j ∧ a = q) ∨ (i ≠ j ∧ M.O[j]? = some (some a)) := fun j a h => by
    by_cases e : i = j
    · subst e
      rw [List.getElem?_set_self (by rw [S.olen]; exact hi)] at h
      exact .inl ⟨rfl, (Option.some.inj (Option.some.inj h)).symm⟩
    · rw [List.getElem?_set_ne e] at h
      exact .inr ⟨e, h⟩
  refine ⟨by rw [List.length_set, List.length_set]; exact S.len, by show (M.O.set i (some q)).length = _; rw [List.length_set, List.length_set]; exact S.olen, ⟨fun a h => hS.mok.live a (has a h), fun a h => ⟨(S.mok.pF a h).1, fun z => ?_⟩, fun a h z => ?_, fun j k a h1 h2 => ?_⟩, fun j s h => ?_⟩
  · rcases hO a z with z | z
    · exact hq (.inl (by rw [← z]; exact h))
    · exact (S.mok.pF a h).2 z
  · rcases hO a z with z | z
    · exact hq (.inr (.inl (by rw [← z]; exact h)))
    · exact S.mok.FO a h z
  · rcases hset j a h1 with ⟨e1, z1⟩ | ⟨e1, z1⟩
    · rcases hset k a h2 with ⟨e2, z2⟩ | ⟨e2, z2⟩
      · rw [← e1, ← e2]
      · exact (hq (.inr (.inr (by rw [← z1]; exact List.mem_of_getElem? z2)))).elim
    · rcases hset k a h2 with ⟨e2, z2⟩ | ⟨e2, z2⟩
      · exact (hq (.inr (.inr (by rw [← z2]; exact List.mem_of_getElem? z1)))).elim
      · exact S.mok.nd j k a z1 z2
  · by_cases e : i = j
    · subst e
      rw [List.getElem?_set_self hi] at h
      have h := Option.some.inj h
      subst h
      exact ⟨_, List.getElem?_set_self (by rw [S.len]; exact hi), q, vs, rfl, List.getElem?_set_self (by rw [S.olen]; exact hi), hH, x.mono sc⟩
    · rw [List.getElem?_set_ne e] at h
      obtain ⟨o, h1, h2⟩ := hS.ok j s h
      refine ⟨o, by rw [List.getElem?_set_ne e]; exact h1, ?_⟩
      cases s with
      | any => trivial
      | dat d => obtain ⟨v, a1, a2⟩ := h2; exact ⟨v, a1, a2.mono sc⟩
      | own es =>
        obtain ⟨l, ws, a1, a2, a3, a4⟩ := h2
        exact ⟨l, ws, a1, by show (M.O.set i (some q))[j]? = _; rw [List.getElem?_set_ne e]; exact a2, a3, a4.mono sc⟩
      | pen m =>
        obtain ⟨p', a1, a2, l, ns, c, g, b1, b2, b3⟩ := h2
        exact ⟨p', a1, a2, l, ns, c, g, b1, sc.seq b2, b3⟩
      | pown es => obtain ⟨p', ws, a1, a2, a3, a4⟩ := h2; exact ⟨p', ws, a1, a2, a3, a4.mono sc⟩
/-- a new address set aside -/
theorem Sd.aside {M : Md} {H H' : Hp} {σ : L2.St} {q : Addr} {o : HO} (S : Sd K M H σ ρ) (hq : H q = none) (e : Same H H') (ho : H' q = some o) : Sd K { M with F := q :: M.F } H' σ ρ := by
  have nq := S.mok.new hq
  have has : ∀ a, a ≠ q → ({ M with F := q :: M.F } : Md).has a → M.has a := fun a n h => by
    rcases h with h | h | h
    · exact .inl h
    · rcases List.mem_cons.mp h with z | z
      · exact (n z).elim
      · exact .inr (.inl z)
    · exact .inr (.inr h)
  have sc : Same (cut M H) (cut { M with F := q :: M.F } H') := fun a u z => by
    obtain ⟨c, y⟩ := cut_of z
    exact cut_at (fun h => c (has a (ne_of_none y hq) h)) (e a u y)
  refine ⟨S.len, S.olen, ⟨fun a h => ?_, fun a h => ⟨fun z => ?_, (S.mok.pF a h).2⟩, fun a h => ?_, S.mok.nd⟩, fun j s h => ?_⟩
  · by_cases n : a = q
    · exact ⟨o, by rw [n]; exact ho⟩
    · obtain ⟨u, z⟩ := S.mok.live a (has a n h)
      exact ⟨u, e a u z⟩
  · rcases List.mem_cons.mp z with z | z
    · exact nq (.inl (by rw [← z]; exact h))
    · exact (S.mok.pF a h).1 z
  · rcases List.mem_cons.mp h with z | z
    · intro y; exact nq (.inr (.inr (by rw [← z]; exact y)))
    · exact S.mok.FO a z
  · obtain ⟨u, h1, h2⟩ := S.ok j s h
    refine ⟨u, h1, ?_⟩
    cases s with
    | any => trivial
    | dat d => obtain ⟨v, a1, a2⟩ := h2; exact ⟨v, a1, a2.mono sc⟩
    | own es => obtain ⟨l, ws, a1, a2, a3, a4⟩ := h2; exact ⟨l, ws, a1, a2, e _ _ a3, a4.mono sc⟩
    | pen m =>
      obtain ⟨p', a1, a2, l, ns, c, g, b1, b2, b3⟩ := h2
      exact ⟨p', a1, a2, l, ns, c, g, e _ _ b1, sc.seq b2, b3⟩
    | pown es => obtain ⟨p', ws, a1, a2, a3, a4⟩ := h2; exact ⟨p', ws, a1, a2, e _ _ a3, a4.mono sc⟩
theorem Stp.own {M : Md} {H H' : Hp} {i : Nat} {q : Addr} (hq : H q = none) (e : Same H H') : Stp M H { M with O := M.O.set i (some q) } H' :=
  ⟨rfl, rfl, fun a o z c d => ⟨e a o z, fun y => by
    rcases List.mem_or_eq_of_mem_set y with y | y
    · exact d y
    · exact ne_of_none z hq (Option.some.inj y)⟩⟩
theorem ws_newlist (hi : i < ρ.length) (h : D.nx (ρ.set i (.own []))) : Ws K (tAsg (tLst tNil) (gName i)) ρ D := fun M σ H S E k =>
  ⟨Nat.zero_le _, fun q hq => k.nx _ _ _ _ (Stp.own hq (same_new hq)) ((S.same (same_new hq)).own hi (S.mok.new hq) upd_same .nil (S.aside hq (same_new hq) upd_same)) h⟩
/-- a list of one's own, written at its address -/
theorem Sd.write {M : Md} {H : Hp} {σ : L2.St} {l : Addr} {vs ws : List V} {ds es : List Dt} (S : Sd K M H σ ρ) (hs : ρ[i]? = some (.own ds)) (hl : M.O[i]? = some (some l)) (x : DXs K (cut M H) ws es) :
    Sd K M (upd H l (.lst ws)) σ (ρ.set i (.own es)) ∧ Stp M H M (upd H l (.lst ws)) := by
  have hm : some l ∈ M.O := List.mem_of_getElem? hl
  have sc : Same (cut M H) (cut M (upd H l (.lst ws))) := fun a u z => by
    obtain ⟨c, y⟩ := cut_of z
    exact cut_at c (by rw [upd_ne fun n => c (.inr (.inr (by rw [n]; exact hm)))]; exact y)
  obtain ⟨o0, h0, l0, vs0, e0, e1, e2, e3⟩ := S.ok i _ hs
  have el : l0 = l := Option.some.inj (Option.some.inj (e1.symm.trans hl))
  subst el
  refine ⟨⟨by rw [List.length_set]; exact S.len, by rw [List.length_set]; exact S.olen, ⟨fun a h => ?_, S.mok.pF, S.mok.FO, S.mok.nd⟩, fun j s h => ?_⟩, ⟨rfl, rfl, fun a o z c d => ⟨?_, d⟩⟩⟩
  · by_cases n : a = l0
    · exact ⟨_, by rw [n]; exact upd_same⟩
    · obtain ⟨u, z⟩ := S.mok.live a h
      exact ⟨u, by rw [upd_ne n]; exact z⟩
  · by_cases e : i = j
    · subst e
      rw [List.getElem?_set_self (by rw [← S.len]; exact S.slot hs)] at h
      have h := Option.some.inj h
      subst h
      exact ⟨o0, h0, l0, ws, e0, e1, upd_same, x.mono sc⟩
    · rw [List.getElem?_set_ne e] at h
      obtain ⟨o, h1, h2⟩ := S.ok j s h
      refine ⟨o, h1, ?_⟩
      cases s with
      | any => trivial
      | dat d => obtain ⟨v, a1, a2⟩ := h2; exact ⟨v, a1, a2.mono sc⟩
      | own es =>
        obtain ⟨l', ws', a1, a2, a3, a4⟩ := h2
        exact ⟨l', ws', a1, a2, by rw [upd_ne fun n => e (S.mok.nd i j l0 e1 (by rw [← n]; exact a2))]; exact a3, a4.mono sc⟩
      | pen m =>
        obtain ⟨p', a1, a2, l', ns, c, g, b1, b2, b3⟩ := h2
        exact ⟨p', a1, a2, l', ns, c, g, by rw [upd_ne fun n => (S.mok.pF p' a2).2 (by rw [n]; exact hm)]; exact b1, sc.seq b2, b3⟩
      | pown es => obtain ⟨p', ws', a1, a2, a3, a4⟩ := h2; exact ⟨p', ws', a1, a2, by rw [upd_ne fun n => (S.mok.pF p' a2).2 (by rw [n]; exact hm)]; exact a3, a4.mono sc⟩
  · rw [upd_ne fun n => d (by rw [n]; exact hm)]; exact z
theorem ws_append {pf : Bool} (h : Wp K pf te ρ fun d ρ' => ∃ ds, ρ'[i]? = some (.own ds) ∧ ds.length < 100000 ∧ D.nx (ρ'.set i (.own (ds ++ [d])))) {ds0 : List Dt} (e0 : ρ[i]? = some (.own ds0)) :
    Ws K (tDrop (tBM K "list" rAppend (tVar i) (tCons te tNil))) ρ D := fun M σ H S E k => by
  obtain ⟨o, h1, l, vs0, e1, e2, e3, e4⟩ := S.ok i _ e0
  subst e1
  refine ⟨.ref l, h1, .inl ⟨rfl, _, .inl (.inl e3)⟩, h M σ H S _ fun v H1 d ρ1 s1 S1 x1 ⟨ds, g1, g2, g3⟩ => ?_⟩
  obtain ⟨o', z1, l', vs, y1, y2, y3, y4⟩ := S1.ok i _ g1
  have el : l' = l := Option.some.inj (Option.some.inj (y2.symm.trans e2))
  subst el
  refine ⟨l', vs, v, rfl, rfl, y3, by rw [y4.len]; exact Nat.lt_of_lt_of_le g2 (by decide), ?_⟩
  obtain ⟨S2, s2⟩ := S1.write (vs := vs) g1 y2 (y4.append (.one x1))
  exact k.nx M σ _ _ (s1.st.trans s2) S2 g3
theorem ws_setitem {pf : Bool} (h : Wp K pf te ρ fun d ρ1 => Wp K pf ti ρ1 fun dj ρ2 => ∃ (ds : List Dt) (j : Nat), ρ2[i]? = some (.own ds) ∧ dj = .int j ∧ j < ds.length ∧ D.nx (ρ2.set i (.own (ds.set j d)))) {ds0 : List Dt} (e0 : ρ[i]? = some (.own ds0)) : Ws K (tAsg te (gSub (tVar i) ti rSetL)) ρ D := fun M σ H S E k => by
  obtain ⟨o, h1, l, vs0, e1, e2, e3, e4⟩ := S.ok i _ e0
  subst e1
  refine h M σ H S _ fun v H1 d ρ1 s1 S1 x1 h2 => ?_
  refine ⟨.ref l, h1, h2 M σ H1 S1 _ fun w H2 dj ρ2 s2 S2 x2 ⟨ds, j, g1, g2, g3, g4⟩ => ?_⟩
  subst g2
  obtain ⟨o', z1, l', vs, y1, y2, y3, y4⟩ := S2.ok i _ g1
  have el : l' = l := Option.some.inj (Option.some.inj (y2.symm.trans e2))
  subst el
  refine ⟨l', vs, j, j, rfl, x2.int_eq, y3, ?_, ?_⟩
  · unfold ixN
    rw [if_pos (Int.natCast_nonneg j), if_pos (by rw [y4.len]; exact Int.ofNat_lt.mpr g3)]
    rfl
  · obtain ⟨S3, s3⟩ := S2.write (vs := vs) g1 y2 (y4.set (x1.mono s2.dx) j)
    exact k.nx M σ _ _ ((s1.st.trans s2.st).trans s3) S3 g4
/-- a list of one's own given out of hand: from here on it is data -/
theorem Sd.freeze {M : Md} {H : Hp} {σ : L2.St} {ds : List Dt} (S : Sd K M H σ ρ) (hs : ρ[i]? = some (.own ds)) :
    Sd K { M with O := M.O.set i none } H σ (ρ.set i (.dat (.lst ds))) ∧ Stp M H { M with O := M.O.set i none } H := by
  have hO : ∀ a, some a ∈ M.O.set i none → some a ∈ M.O := fun a h => by
    rcases List.mem_or_eq_of_mem_set h with z | z
    · exact z
    · cases z
  have has : ∀ a, ({ M with O := M.O.set i none } : Md).has a → M.has a := fun a h => by
    rcases h with h | h | h
    · exact .inl h
    · exact .inr (.inl h)
    · exact .inr (.inr (hO a h))
  have sc : Same (cut M H) (cut { M with O := M.O.set i none } H) := cut_le has
  obtain ⟨o0, h0, l, vs, e0, e1, e2, e3⟩ := S.ok i _ hs
  have hset : ∀ (j : Nat) (a : Addr), (M.O.set i none)[j]? = some (some a) → i ≠ j ∧ M.O[j]? = some (some a) := fun j a h => by
    by_cases e : i = j
    · subst e
      rw [List.getElem?_set_self (List.getElem?_eq_some_iff.mp e1).1] at h
      cases Option.some.inj h
    · rw [List.getElem?_set_ne e] at h
      exact ⟨e, h⟩
  have nl : ¬ ({ M with O := M.O.set i none } : Md).has l := fun z => by
    have hm := List.mem_of_getElem? e1
    rcases z with z | z | z
    · exact (S.mok.pF l z).2 hm
    · exact S.mok.FO l z hm
    · obtain ⟨j, hj⟩ := List.getElem?_of_mem z
      obtain ⟨n, h2⟩ := hset j l hj
      exact n (S.mok.nd i j l e1 h2)
  refine ⟨⟨by rw [List.length_set]; exact S.len, by show (M.O.set i none).length = _; rw [List.length_set, List.length_set]; exact S.olen, ⟨fun a h => S.mok.live a (has a h), fun a h => ⟨(S.mok.pF a h).1, fun z => (S.mok.pF a h).2 (hO a z)⟩, fun a h z => S.mok.FO a h (hO a z), fun j k a h1 h2 => S.mok.nd j k a (hset j a h1).2 (hset k a h2).2⟩, fun j s h => ?_⟩, ⟨rfl, rfl, fun a o z c d => ⟨z, fun y => d (hO a y)⟩⟩⟩
  by_cases e : i = j
  · subst e
    rw [List.getElem?_set_self (by rw [← S.len]; exact S.slot hs)] at h
    have h := Option.some.inj h
    subst h
    exact ⟨o0, h0, .ref l, e0, .lst (.inl (.inl (cut_at nl e2))) (e3.mono sc)⟩
  · rw [List.getElem?_set_ne e] at h
    obtain ⟨o, h1, h2⟩ := S.ok j s h
    refine ⟨o, h1, ?_⟩
    cases s with
    | any => trivial
    | dat d => obtain ⟨v, a1, a2⟩ := h2; exact ⟨v, a1, a2.mono sc⟩
    | own es =>
      obtain ⟨l', ws', a1, a2, a3, a4⟩ := h2
      exact ⟨l', ws', a1, by show (M.O.set i none)[j]? = _; rw [List.getElem?_set_ne e]; exact a2, a3, a4.mono sc⟩
    | pen m =>
      obtain ⟨p', a1, a2, l', ns, c, g, b1, b2, b3⟩ := h2
      exact ⟨p', a1, a2, l', ns, c, g, b1, sc.seq b2, b3⟩
    | pown es => obtain ⟨p', ws', a1, a2, a3, a4⟩ := h2; exact ⟨p', ws', a1, a2, a3, a4.mono sc⟩
theorem ws_freeze {ds : List Dt} (hs : ρ[i]? = some (.own ds)) (h : Ws K t (ρ.set i (.dat (.lst ds))) D) : Ws K t ρ D := fun M σ H S E k =>
  let ⟨S2, s2⟩ := S.freeze hs
  h _ σ H S2 E (k.step s2)
/-- a datum that stands nowhere -/
def flatD : Dt → Bool
  | .non | .bl _ | .int _ | .str _ => true
  | _ => false
theorem flat_any {d : Dt} (f : flatD d = true) {H H' : Hp} {v : V} (x : DX K H v d) : DX K H' v d := by
  cases d with
  | non => cases x; exact .non
  | bl b => cases x; exact .bl b
  | int i => cases x; exact .int i
  | str z => cases x; exact .str z
  | _ => cases f
theorem wp_thaw {ds : List Dt} {Φ : Dt → List Sl → Prop} {pf : Bool} (hs : ρ[i]? = some (.own ds)) (h : Wp K true te (ρ.set i (.dat (.lst ds))) fun d _ => flatD d = true ∧ Φ d ρ) : Wp K pf te ρ Φ := fun M σ H S Q q =>
  let ⟨S2, _⟩ := S.freeze hs
  h _ σ H S2 Q fun v H2 d ρ' s S3 x ⟨f, z⟩ => q v H2 d ρ (Tr.same pf M (s.sm rfl)) (S.same (s.sm rfl)) (flat_any f x) z
theorem wt_thaw {ds : List Dt} {Φ : Bool → List Sl → Prop} {pf : Bool} (hs : ρ[i]? = some (.own ds)) (h : Wt K true tt (ρ.set i (.dat (.lst ds))) fun b _ => Φ b ρ) : Wt K pf tt ρ Φ := fun M σ H S Q q =>
  let ⟨S2, _⟩ := S.freeze hs
  h _ σ H S2 Q fun b H2 ρ' s S3 z => q b H2 ρ (Tr.same pf M (s.sm rfl)) (S.same (s.sm rfl)) z
end
end DL

/-! Data level: what is walked, for, comprehensions. -/
namespace DL
open PySem PySem.Spec PyProof.Rows L2

/-- a walk over data -/
structure WkOk (K : PySem.W.Frag) (M : Md) (H1 : Hp) (J : It) (ds : List Dt) : Prop where
  ex : ∃ n G Y, Walk J n G Y ∧ n = ds.length ∧ (∀ M' H', Same (cut M H1) (cut M' H') → G H') ∧
    ∀ M' H' i x H'', Same (cut M H1) (cut M' H') → MOk M' H' → i < n → Y i H' x H'' → Same H' H'' ∧ ∃ d, ds[i]? = some d ∧ DX K (cut M' H'') x d
def WI (K : PySem.W.Frag) (f : Bool) (wi : TI) (ρ : List Sl) (Ψ : List Dt → List Sl → Prop) : Prop :=
  ∀ (M : Md) (σ : L2.St) (H : Hp), Sd K M H σ ρ → ∀ R : It → Hp → Prop, (∀ J H1 ds ρ1, Tr f M H H1 → Sd K M H1 σ ρ1 → WkOk K M H1 J ds → Ψ ds ρ1 → R J H1) → wi σ H R
/-- a target; js: the slots that it sets -/
def WG (K : PySem.W.Frag) (g : TG) (js : List Nat) (d : Dt) (ρ : List Sl) (Θ : List Sl → Prop) : Prop :=
  ∀ (M : Md) (σ : L2.St) (H : Hp) (v : V), Sd K M H σ ρ → DX K (cut M H) v d → ∀ Q : L2.St → Hp → Prop,
    (∀ σ' ρ', (∀ vs : List Nat, (∀ j ∈ js, j ∈ vs) → wipe σ' vs = wipe σ vs) → Sd K M H σ' ρ' → Θ ρ' → Q σ' H) → g v σ H Q
theorem wipe_set {σ : L2.St} {j : Nat} {o : Option V} : ∀ {vs : List Nat}, j ∈ vs → wipe (σ.set j o) vs = wipe σ vs
  | [], h => nomatch h
  | v :: vs, h => by
    show (wipe (σ.set j o) vs).set v none = (wipe σ vs).set v none
    by_cases e : j ∈ vs
    · rw [wipe_set e]
    · have e2 : j = v := by
        rcases List.mem_cons.mp h with z | z
        · exact z
        · exact (e z).elim
      subst e2
      have out : ∀ (us : List Nat), j ∉ us → ∀ τ : L2.St, wipe (τ.set j o) us = (wipe τ us).set j o := by
        intro us
        induction us with
        | nil => intro _ τ; rfl
        | cons u us ih =>
          intro hn τ
          show (wipe (τ.set j o) us).set u none = ((wipe τ us).set u none).set j o
          rw [ih (fun z => hn (List.mem_cons_of_mem _ z)) τ, List.set_comm _ _ (fun z => hn (by rw [z]; exact List.mem_cons_self))]
      rw [out vs e, List.set_set]
theorem wipe_wipe (σ : L2.St) (vs : List Nat) : wipe (wipe σ vs) vs = wipe σ vs := by
  have one : ∀ (us : List Nat) (τ : L2.St), (∀ u ∈ us, u ∈ vs) → wipe (wipe τ us) vs = wipe τ vs := by
    intro us
    induction us with
    | nil => intro τ _; rfl
    | cons u us ih =>
      intro τ h
      show wipe ((wipe τ us).set u none) vs = _
      rw [wipe_set (h u List.mem_cons_self), ih τ fun x hx => h x (List.mem_cons_of_mem _ hx)]
  exact one vs σ fun _ h => h

section
variable {K : PySem.W.Frag} {ρ : List Sl} {te ti : TE} {tt : TT} {tr : TA} {t u : TS} {D : DE} {i j : Nat} {pf : Bool} {wi : TI} {g : TG} {Ψ : List Dt → List Sl → Prop} {js : List Nat} {Φ : Dt → List Sl → Prop}
theorem wg_name {d : Dt} {Θ : List Sl → Prop} (h : Θ (ρ.set j (.dat d))) : WG K (gName j) [j] d ρ Θ := fun M σ H v S x Q q =>
  q _ _ (fun vs hv => wipe_set (hv j List.mem_cons_self)) (S.put x j) h
/-- several names -/
def WGs (K : PySem.W.Frag) (g : TGs) (js : List Nat) (ds : List Dt) (ρ : List Sl) (Θ : List Sl → Prop) : Prop :=
  ∀ (M : Md) (σ : L2.St) (H : Hp) (vs : List V), Sd K M H σ ρ → DXs K (cut M H) vs ds → ∀ Q : L2.St → Hp → Prop,
    (∀ σ' ρ', (∀ vs : List Nat, (∀ j ∈ js, j ∈ vs) → wipe σ' vs = wipe σ vs) → Sd K M H σ' ρ' → Θ ρ' → Q σ' H) → g vs σ H Q
theorem wgs_nil {Θ : List Sl → Prop} (h : Θ ρ) : WGs K gNil [] [] ρ Θ := fun M σ H vs S x Q q => by
  cases x
  exact ⟨rfl, q σ ρ (fun _ _ => rfl) S h⟩
theorem wgs_cons {g : TG} {gs : TGs} {js ks : List Nat} {d : Dt} {ds : List Dt} {Θ : List Sl → Prop} (h : WG K g js d ρ fun ρ1 => WGs K gs ks ds ρ1 Θ) : WGs K (gCons g gs) (js ++ ks) (d :: ds) ρ Θ := fun M σ H vs S x Q q => by
  cases x with
  | cons x1 x2 =>
    refine ⟨_, _, rfl, h M σ H _ S x1 _ fun σ1 ρ1 w1 S1 f1 => ?_⟩
    exact f1 M σ1 H _ S1 x2 _ fun σ2 ρ2 w2 S2 f2 => q σ2 ρ2 (fun vs hv => (w2 vs fun j hj => hv j (List.mem_append_right _ hj)).trans (w1 vs fun j hj => hv j (List.mem_append_left _ hj))) S2 f2
theorem wg_tup {gs : TGs} {n : Nat} {ds : List Dt} {Θ : List Sl → Prop} (hn : ds.length = n) (h : WGs K gs js ds ρ Θ) : WG K (gTup K n gs) js (.tup ds) ρ Θ := fun M σ H v S x Q q => by
  cases x with
  | tup hs ha => exact ⟨_, _, rfl, same_T (cut_sub M H) hs, by rw [ha.len]; exact hn, h M σ H _ S ha Q q⟩

/-! what is walked -/
theorem wi_list (h : Wp K pf te ρ fun d ρ1 => ∃ ds, d = .lst ds ∧ Ψ ds ρ1) : WI K pf (iList K te) ρ Ψ := fun M σ H S R q =>
  h M σ H S _ fun v H1 d ρ1 s1 S1 x1 ⟨ds, e, f⟩ => by
    subst e
    cases x1 with
    | lst hs ha =>
      refine ⟨_, rfl, ⟨_, (cut_sub M H1).seq hs⟩, q _ H1 ds ρ1 s1 S1 ⟨_, _, _, walk_list, ha.len, fun M' H' s => (cut_sub M' H').seq (s.seq hs), fun M' H' i x H'' s m hi y => ?_⟩ f⟩
      obtain ⟨e1, e2⟩ := y
      subst e1
      obtain ⟨d, g1, g2⟩ := ha.get e2
      exact ⟨Same.refl _, d, g1, g2.mono s⟩
theorem wi_tup (h : Wp K pf te ρ fun d ρ1 => ∃ ds, d = .tup ds ∧ Ψ ds ρ1) : WI K pf (iTup K te) ρ Ψ := fun M σ H S R q =>
  h M σ H S _ fun v H1 d ρ1 s1 S1 x1 ⟨ds, e, f⟩ => by
    subst e
    cases x1 with
    | tup hs ha =>
      refine ⟨_, rfl, ⟨_, same_T (cut_sub M H1) hs⟩, q _ H1 ds ρ1 s1 S1 ⟨_, _, _, walk_tup, ha.len, fun M' H' s => same_T (cut_sub M' H') (same_T s hs), fun M' H' i x H'' s m hi y => ?_⟩ f⟩
      obtain ⟨e1, e2⟩ := y
      subst e1
      obtain ⟨d, g1, g2⟩ := ha.get e2
      exact ⟨Same.refl _, d, g1, g2.mono s⟩
def rangeD (lo : Int) (n : Nat) : List Dt := (List.range n).map fun i => .int (lo + (i : Nat))
theorem rangeD_len (lo : Int) (n : Nat) : (rangeD lo n).length = n := by unfold rangeD; rw [List.length_map, List.length_range]
theorem rangeD_at {lo : Int} {n i : Nat} (h : i < n) : (rangeD lo n)[i]? = some (.int (lo + (i : Nat))) := by
  unfold rangeD
  rw [List.getElem?_map, List.getElem?_range h]
  rfl
theorem wi_rng1 (h : Wa K pf tr ρ fun ds ρ1 => ∃ n : Int, ds = [.int n] ∧ -(2 ^ 62) ≤ n ∧ n < 2 ^ 62 ∧ Ψ (rangeD 0 n.toNat) ρ1) : WI K pf (iRng1 tr) ρ Ψ := fun M σ H S R q =>
  h M σ H S _ fun vs H1 ds ρ1 s1 S1 x1 ⟨n, e, h1, h2, f⟩ => by
    subst e
    have ev : vs = [.int n] := DXs.ints (ns := [n]) x1
    refine ⟨n, ev, h1, h2, q _ H1 _ ρ1 s1 S1 ⟨_, _, _, walk_range, (rangeD_len 0 n.toNat).symm, fun _ _ _ => trivial, fun M' H' i x H'' s m hi y => ?_⟩ f⟩
    obtain ⟨e1, e2⟩ := y
    subst e1 e2
    exact ⟨Same.refl _, _, rangeD_at hi, .int _⟩
theorem wi_rng2 (h : Wa K pf tr ρ fun ds ρ1 => ∃ lo n : Int, ds = [.int lo, .int n] ∧ (-(2 ^ 62) ≤ lo ∧ lo < 2 ^ 62 ∧ -(2 ^ 62) ≤ n ∧ n < 2 ^ 62) ∧ Ψ (rangeD lo (n - lo).toNat) ρ1) : WI K pf (iRng2 tr) ρ Ψ := fun M σ H S R q =>
  h M σ H S _ fun vs H1 ds ρ1 s1 S1 x1 ⟨lo, n, e, h1, f⟩ => by
    subst e
    have ev : vs = [.int lo, .int n] := DXs.ints (ns := [lo, n]) x1
    refine ⟨lo, n, ev, h1, q _ H1 _ ρ1 s1 S1 ⟨_, _, _, walk_range, (rangeD_len lo (n - lo).toNat).symm, fun _ _ _ => trivial, fun M' H' i x H'' s m hi y => ?_⟩ f⟩
    obtain ⟨e1, e2⟩ := y
    subst e1 e2
    exact ⟨Same.refl _, _, rangeD_at hi, .int _⟩
def signs (z : Str) : List Dt := z.cps.toList.map fun c => .str ⟨#[c]⟩
theorem wi_str (h : Wp K pf te ρ fun d ρ1 => ∃ z, d = .str z ∧ Ψ (signs z) ρ1) : WI K pf (iStr te) ρ Ψ := fun M σ H S R q =>
  h M σ H S _ fun v H1 d ρ1 s1 S1 x1 ⟨z, e, f⟩ => by
    subst e
    refine ⟨z, x1.str_eq, q _ H1 _ ρ1 s1 S1 ⟨_, _, _, walk_str, by unfold signs; rw [List.length_map, Array.length_toList], fun _ _ _ => trivial, fun M' H' i x H'' s m hi y => ?_⟩ f⟩
    obtain ⟨e1, c, e2, e3⟩ := y
    subst e1 e3
    refine ⟨Same.refl _, _, ?_, .str _⟩
    unfold signs
    rw [List.getElem?_map, Array.getElem?_toList, e2]
    rfl

/-! for -/
theorem ws_for (I : List Dt → Nat → List Sl → Prop) (h : WI K pf wi ρ fun ds ρ1 => I ds 0 ρ1 ∧ (∀ i d ρ2, ds[i]? = some d → I ds i ρ2 → WG K g js d ρ2 fun ρ3 => Ws K t ρ3 { D with nx := I ds (i + 1), ct := I ds (i + 1), bk := D.nx }) ∧
    ∀ ρ2, I ds ds.length ρ2 → D.nx ρ2) : Ws K (tFor wi g t) ρ D := fun M σ H S E k =>
  h M σ H S _ fun J H1 ds ρ1 s1 S1 ⟨n, G, Y, w, hn, hG, hY⟩ ⟨i0, turn, fin⟩ => by
    subst hn
    refine for_it w (fun i σ' H' => ∃ M' ρ', Stp M H1 M' H' ∧ Sd K M' H' σ' ρ' ∧ I ds i ρ') ⟨M, ρ1, Stp.refl M H1, S1, i0⟩ (fun i σ' H' _ ⟨M', ρ', s, _, _⟩ => hG M' H' s.dx) (fun i x σ' H' H'' hi ⟨M', ρ', s, S', f⟩ y => ?_) (fun σ' H' ⟨M', ρ', s, S', f⟩ => k.nx M' σ' H' ρ' (s1.st.trans s) S' (fin ρ' f))
    obtain ⟨e, d, hd, xd⟩ := hY M' H' i x H'' s.dx S'.mok hi y
    refine turn i d ρ' hd f M' σ' H'' x (S'.same e) xd _ fun σ2 ρ2 _ S2 f2 => ?_
    have s2 : Stp M H1 M' H'' := s.trans (Stp.same M' e)
    have k2 := k.step (s1.st.trans s2)
    exact f2 M' σ2 H'' S2 _ ⟨fun M3 σ3 H3 ρ3 s3 S3 z => ⟨M3, ρ3, s2.trans s3, S3, z⟩, k2.rt, fun M3 σ3 H3 ρ3 s3 S3 z => k2.nx M3 σ3 H3 ρ3 s3 S3 z, fun M3 σ3 H3 ρ3 s3 S3 z => ⟨M3, ρ3, s2.trans s3, S3, z⟩⟩

/-! comprehensions -/
def wipeS (ρ : List Sl) : List Nat → List Sl
  | [] => ρ
  | v :: vs => (wipeS ρ vs).set v .any
theorem wipeS_len (ρ : List Sl) : ∀ vs : List Nat, (wipeS ρ vs).length = ρ.length
  | [] => rfl
  | v :: vs => by unfold wipeS; rw [List.length_set, wipeS_len ρ vs]
theorem wipeS_at {ρ : List Sl} {s : Sl} : ∀ {vs : List Nat} {i : Nat}, (wipeS ρ vs)[i]? = some s → s = .any ∨ (i ∉ vs ∧ ρ[i]? = some s)
  | [], i, h => .inr ⟨(fun z => nomatch z), h⟩
  | v :: vs, i, h => by
    have h : ((wipeS ρ vs).set v .any)[i]? = some s := h
    by_cases e : v = i
    · subst e
      by_cases hv : v < (wipeS ρ vs).length
      · rw [List.getElem?_set_self hv] at h
        exact .inl (Option.some.inj h).symm
      · rw [List.getElem?_eq_none (by rw [List.length_set]; omega)] at h; cases h
    · rw [List.getElem?_set_ne e] at h
      rcases wipeS_at h with z | ⟨z, y⟩
      · exact .inl z
      · refine .inr ⟨fun m => ?_, y⟩
        rcases List.mem_cons.mp m with m | m
        · exact e m.symm
        · exact z m
theorem wipe_at {σ : L2.St} : ∀ {vs : List Nat} {i : Nat}, i ∉ vs → (wipe σ vs)[i]? = σ[i]?
  | [], _, _ => rfl
  | v :: vs, i, h => by
    show ((wipe σ vs).set v none)[i]? = _
    rw [List.getElem?_set_ne (fun e => h (by rw [e]; exact List.mem_cons_self)), wipe_at fun z => h (List.mem_cons_of_mem _ z)]
theorem Sd.wipe {M : Md} {H : Hp} {σ : L2.St} (S : Sd K M H σ ρ) (vs : List Nat) : Sd K M H (L2.wipe σ vs) (wipeS ρ vs) := by
  refine ⟨by rw [wipe_length, wipeS_len]; exact S.len, by rw [wipeS_len]; exact S.olen, S.mok, fun i s h => ?_⟩
  rcases wipeS_at h with e | ⟨e, h⟩
  · subst e
    have hi : i < (L2.wipe σ vs).length := by rw [wipe_length, S.len, ← wipeS_len ρ vs]; exact (List.getElem?_eq_some_iff.mp h).1
    exact ⟨_, List.getElem?_eq_getElem hi, trivial⟩
  · obtain ⟨o, h1, h2⟩ := S.ok i s h
    exact ⟨o, by rw [wipe_at e]; exact h1, h2⟩
theorem Sd.unwipe {M : Md} {H : Hp} {σ : L2.St} {vs : List Nat} {ρ0 : List Sl} (S : Sd K M H (L2.wipe σ vs) (wipeS ρ0 vs)) : Sd K M H σ (wipeS ρ0 vs) := by
  refine ⟨by rw [← wipe_length σ vs]; exact S.len, S.olen, S.mok, fun i s h => ?_⟩
  rcases wipeS_at h with e | ⟨e, _⟩
  · subst e
    have hi : i < σ.length := by rw [← wipe_length σ vs, S.len]; exact (List.getElem?_eq_some_iff.mp h).1
    exact ⟨_, List.getElem?_eq_getElem hi, trivial⟩
  · obtain ⟨o, h1, h2⟩ := S.ok i s h
    exact ⟨o, by rw [← wipe_at (σ := σ) e]; exact h1, h2⟩
theorem Sd.back {M : Md} {H : Hp} {σ : L2.St} {q : Addr} (S : Sd K { M with F := q :: M.F } H σ ρ) : Sd K M H σ ρ := by
  have has : ∀ a, M.has a → ({ M with F := q :: M.F } : Md).has a := fun a h => by
    rcases h with h | h | h
    · exact .inl h
    · exact .inr (.inl (List.mem_cons_of_mem _ h))
    · exact .inr (.inr h)
  have sc : Same (cut { M with F := q :: M.F } H) (cut M H) := cut_le has
  refine ⟨S.len, S.olen, ⟨fun a h => S.mok.live a (has a h), fun a h => ⟨fun z => (S.mok.pF a h).1 (List.mem_cons_of_mem _ z), (S.mok.pF a h).2⟩, fun a h => S.mok.FO a (List.mem_cons_of_mem _ h), S.mok.nd⟩, fun j s h => ?_⟩
  obtain ⟨o, h1, h2⟩ := S.ok j s h
  refine ⟨o, h1, ?_⟩
  cases s with
  | any => trivial
  | dat d => obtain ⟨v, a1, a2⟩ := h2; exact ⟨v, a1, a2.mono sc⟩
  | own es => obtain ⟨l', ws', a1, a2, a3, a4⟩ := h2; exact ⟨l', ws', a1, a2, a3, a4.mono sc⟩
  | pen m => obtain ⟨p', a1, a2, l', ns, c, g, b1, b2, b3⟩ := h2; exact ⟨p', a1, a2, l', ns, c, g, b1, sc.seq b2, b3⟩
  | pown es => obtain ⟨p', ws', a1, a2, a3, a4⟩ := h2; exact ⟨p', ws', a1, a2, a3, a4.mono sc⟩
/-- the heap at q may be written while q is set aside -/
theorem Sd.poke {M : Md} {H : Hp} {σ : L2.St} {q : Addr} {o : HO} (S : Sd K { M with F := q :: M.F } H σ ρ) : Sd K { M with F := q :: M.F } (upd H q o) σ ρ := by
  have hq : ({ M with F := q :: M.F } : Md).has q := .inr (.inl List.mem_cons_self)
  have sc : Same (cut { M with F := q :: M.F } H) (cut { M with F := q :: M.F } (upd H q o)) := fun a u z => by
    obtain ⟨c, y⟩ := cut_of z
    exact cut_at c (by rw [upd_ne fun n => c (by rw [n]; exact hq)]; exact y)
  refine ⟨S.len, S.olen, ⟨fun a h => ?_, S.mok.pF, S.mok.FO, S.mok.nd⟩, fun j s h => ?_⟩
  · by_cases n : a = q
    · exact ⟨_, by rw [n]; exact upd_same⟩
    · obtain ⟨u, z⟩ := S.mok.live a h
      exact ⟨u, by rw [upd_ne n]; exact z⟩
  · obtain ⟨u, h1, h2⟩ := S.ok j s h
    refine ⟨u, h1, ?_⟩
    cases s with
    | any => trivial
    | dat d => obtain ⟨v, a1, a2⟩ := h2; exact ⟨v, a1, a2.mono sc⟩
    | own es =>
      obtain ⟨l', ws', a1, a2, a3, a4⟩ := h2
      exact ⟨l', ws', a1, a2, by rw [upd_ne fun n => S.mok.FO q List.mem_cons_self (by rw [← n]; exact List.mem_of_getElem? a2)]; exact a3, a4.mono sc⟩
    | pen m =>
      obtain ⟨p', a1, a2, l', ns, c, g, b1, b2, b3⟩ := h2
      exact ⟨p', a1, a2, l', ns, c, g, by rw [upd_ne fun n => (S.mok.pF p' a2).1 (by rw [n]; exact List.mem_cons_self)]; exact b1, sc.seq b2, b3⟩
    | pown es => obtain ⟨p', ws', a1, a2, a3, a4⟩ := h2; exact ⟨p', ws', a1, a2, by rw [upd_ne fun n => (S.mok.pF p' a2).1 (by rw [n]; exact List.mem_cons_self)]; exact a3, a4.mono sc⟩
/-- the comprehension itself: I by what is walked, the turn, what is made so far, the slots -/
structure LcI (K : PySem.W.Frag) (pf : Bool) (g : TG) (js : List Nat) (tt : TT) (te : TE) (vs : List Nat) (Φ : List Dt → List Sl → Prop) (ds : List Dt) (ρ1 : List Sl) : Prop where
  ex : ∃ I : Nat → List Dt → List Sl → Prop, I 0 [] (wipeS ρ1 vs) ∧ ds.length ≤ 50000 ∧
    (∀ i d acc ρ2, ds[i]? = some d → I i acc ρ2 → WG K g js d ρ2 fun ρ3 => Wt K pf tt ρ3 fun c ρ4 => if c = true then Wp K pf te ρ4 fun y ρ5 => I (i + 1) (acc ++ [y]) (wipeS ρ5 vs) else I (i + 1) acc (wipeS ρ4 vs)) ∧
    ∀ acc ρ2, I ds.length acc ρ2 → Φ acc ρ2
theorem lc_run {vs : List Nat} {Φ : List Dt → List Sl → Prop} (hjs : ∀ j ∈ js, j ∈ vs) (h : WI K pf wi ρ fun ds ρ1 => LcI K pf g js tt te vs Φ ds ρ1) (M : Md) (σ : L2.St) (H : Hp) (S : Sd K M H σ ρ) (Q : VK)
    (q : ∀ (q : Addr) (H2 : Hp) (acc : List V) (ads : List Dt) (ρ0 : List Sl), H q = none → Tr pf M H H2 → H2 q = some (.lst acc) → DXs K (cut { M with F := q :: M.F } H2) acc ads →
      Sd K { M with F := q :: M.F } H2 σ (wipeS ρ0 vs) → ¬ M.has q → Φ ads (wipeS ρ0 vs) → Q (.ref q) H2) : tLc wi g tt te vs σ H Q :=
  h M σ H S _ fun J H1 ds ρ1 s1 S1 ⟨n, G, Y, w, hn, hG, hY⟩ ⟨I, i0, hz, turn, fin⟩ => by
    intro q0 hq
    subst hn
    have nq := S1.mok.new hq
    have hq0 : H q0 = none := by
      cases e : H q0 with
      | none => rfl
      | some o =>
        obtain ⟨z, _⟩ := s1.st.keep q0 o e (fun y => nq (.inl y)) (fun y => nq (.inr (.inr y)))
        rw [hq] at z; cases z
    have comp : ∀ {H' H'' : Hp}, Tr pf M H1 H' → Tr pf { M with F := q0 :: M.F } H' H'' → Tr pf M H1 H'' := fun a b =>
      ⟨⟨rfl, rfl, fun x o e c d => let ⟨z, y⟩ := a.st.keep x o e c d; b.st.keep x o z c y⟩, fun y => (a.sm y).trans (b.sm y)⟩
    have put : ∀ {H' : Hp} {o : HO}, Tr pf M H1 H' → Tr pf M H1 (upd H' q0 o) := fun a =>
      ⟨⟨rfl, rfl, fun x o e c d => let ⟨z, y⟩ := a.st.keep x o e c d; ⟨by rw [upd_ne (ne_of_none e hq)]; exact z, y⟩⟩, fun y x o e => by rw [upd_ne (ne_of_none e hq)]; exact a.sm y x o e⟩
    have scut : ∀ {H' : Hp}, Tr pf M H1 H' → Same (cut M H1) (cut { M with F := q0 :: M.F } H') := fun a x o e => by
      obtain ⟨c, z⟩ := cut_of e
      obtain ⟨y, _⟩ := a.st.keep x o z (fun t => c (.inl t)) (fun t => c (.inr (.inr t)))
      refine cut_at (fun t => ?_) y
      rcases t with t | t | t
      · exact c (.inl t)
      · rcases List.mem_cons.mp t with t | t
        · exact ne_of_none z hq t
        · exact c (.inr (.inl t))
      · exact c (.inr (.inr t))
    refine lc_it w (fun i H' => ∃ acc ads ρ0, H' q0 = some (.lst acc) ∧ Tr pf M H1 H' ∧ Sd K { M with F := q0 :: M.F } H' (L2.wipe σ vs) (wipeS ρ0 vs) ∧ DXs K (cut { M with F := q0 :: M.F } H') acc ads ∧ I i ads (wipeS ρ0 vs) ∧ ads.length ≤ i) ?_ ?_ ?_ ?_
    · exact ⟨[], [], ρ1, upd_same, put (Tr.refl pf M H1), (S1.aside hq (same_new hq) upd_same).wipe vs, .nil, i0, Nat.zero_le _⟩
    · rintro i H' _ ⟨acc, ads, ρ0, _, tr, _⟩
      exact hG _ H' (scut tr)
    · rintro i x H' H'' hi ⟨acc, ads, ρ0, hD, tr, S', xa, f, hl⟩ y
      obtain ⟨e, d, hd, xd⟩ := hY _ H' i x H'' (scut tr) S'.mok hi y
      refine turn i d ads _ hd f _ _ H'' x (S'.same e) xd _ fun σ2 ρ2 w2 S2 f2 => ⟨by rw [w2 vs hjs, wipe_wipe], ?_⟩
      have tr2 : Tr pf M H1 H'' := comp tr (Tr.same pf _ e)
      have w3 : L2.wipe σ2 vs = L2.wipe σ vs := by rw [w2 vs hjs, wipe_wipe]
      refine f2 _ σ2 H'' S2 _ fun b H3 ρ3 s3 S3 f3 => ?_
      have tr3 := comp tr2 s3
      cases b with
      | true =>
        rw [if_pos rfl] at f3 ⊢
        refine f3 _ σ2 H3 S3 _ fun v H4 d4 ρ4 s4 S4 x4 f4 => ?_
        have tr4 := comp tr3 s4
        have kq : ∀ {Ha Hb : Hp} {o : HO}, Tr pf { M with F := q0 :: M.F } Ha Hb → Ha q0 = some o → Hb q0 = some o := fun a z => (a.st.keep q0 _ z (fun t => nq (.inl t)) (fun t => nq (.inr (.inr t)))).1
        refine ⟨acc, kq s4 (kq s3 (e _ _ hD)), ?_, acc ++ [v], ads ++ [d4], ρ4, upd_same, put tr4, ?_, ?_, f4, ?_⟩
        · rw [xa.len]; exact Nat.lt_of_le_of_lt hl (Nat.lt_of_lt_of_le hi (Nat.le_trans hz (by decide)))
        · rw [← w3]; exact (S4.wipe vs).poke
        · have pk : Same (cut { M with F := q0 :: M.F } H4) (cut { M with F := q0 :: M.F } (upd H4 q0 (.lst (acc ++ [v])))) := fun a u z => by
            obtain ⟨c, y⟩ := cut_of z
            exact cut_at c (by rw [upd_ne fun n => c (.inr (.inl (by rw [n]; exact List.mem_cons_self)))]; exact y)
          exact (((xa.mono (cut_same _ e)).mono s3.dx).mono s4.dx |>.append (.one x4)).mono pk
        · rw [List.length_append, List.length_singleton]; omega
      | false =>
        rw [if_neg Bool.false_ne_true] at f3 ⊢
        have kq : ∀ {Ha Hb : Hp} {o : HO}, Tr pf { M with F := q0 :: M.F } Ha Hb → Ha q0 = some o → Hb q0 = some o := fun a z => (a.st.keep q0 _ z (fun t => nq (.inl t)) (fun t => nq (.inr (.inr t)))).1
        exact ⟨acc, ads, ρ3, kq s3 (e _ _ hD), tr3, by rw [← w3]; exact S3.wipe vs, (xa.mono (cut_same _ e)).mono s3.dx, f3, Nat.le_succ_of_le hl⟩
    · rintro H' ⟨acc, ads, ρ0, hD, tr, S', xa, f, hl⟩
      exact q q0 H' acc ads ρ0 hq0 (s1.trans tr) hD xa S'.unwipe nq (fin ads _ f)
theorem has_aside {M : Md} {q : Addr} : ∀ a, M.has a → ({ M with F := q :: M.F } : Md).has a := fun a h => by
  rcases h with h | h | h
  · exact .inl h
  · exact .inr (.inl (List.mem_cons_of_mem _ h))
  · exact .inr (.inr h)
theorem w_lc {vs : List Nat} (hjs : ∀ j ∈ js, j ∈ vs) (h : WI K pf wi ρ fun ds ρ1 => LcI K pf g js tt te vs (fun es ρ' => Φ (.lst es) ρ') ds ρ1) : Wp K pf (tLc wi g tt te vs) ρ Φ := fun M σ H S Q q =>
  lc_run hjs h M σ H S Q fun q0 H2 acc ads ρ0 h0 tr hD xa S2 nq f => q (.ref q0) H2 (.lst ads) _ tr S2.back (.lst (.inl (.inl (cut_at nq hD))) (xa.mono (cut_le has_aside))) f
theorem ws_ownlc {vs : List Nat} (hjs : ∀ j ∈ js, j ∈ vs) (hi : i < ρ.length) (h : WI K pf wi ρ fun ds ρ1 => LcI K pf g js tt te vs (fun es ρ' => i < ρ'.length ∧ D.nx (ρ'.set i (.own es))) ds ρ1) : Ws K (tAsg (tLc wi g tt te vs) (gName i)) ρ D := fun M σ H S E k =>
  lc_run hjs h M σ H S _ fun q0 H2 acc ads ρ0 h0 tr hD xa S2 nq ⟨hl, f⟩ => by
    refine k.nx { M with O := M.O.set i (some q0) } _ H2 _ ⟨rfl, rfl, fun a o z c d => ?_⟩ (S2.back.own hl nq hD xa S2) f
    obtain ⟨z1, z2⟩ := tr.st.keep a o z c d
    refine ⟨z1, fun y => ?_⟩
    rcases List.mem_or_eq_of_mem_set y with y | y
    · exact d y
    · exact ne_of_none z h0 (Option.some.inj y)
end
end DL

/-! Data level: operators, subscripts, slices, built-ins. -/
namespace DL
open PySem PySem.Spec PyProof.Rows L2

section
variable {K : PySem.W.Frag} {Ψ : Dt → Prop} {d1 d2 : Dt} {i j : Int} {x y : Str} {a b : Bool}
/-! numbers -/
theorem od_I0i {g : Int → Int → Int} (h : Ψ (.int (g i j))) : OD K (rI0 fun i j => .int (g i j)) (.int i) (.int j) Ψ := fun M H u v m h1 h2 Q q =>
  ⟨i, j, h1.int_eq, h2.int_eq, q _ H _ (Same.refl H) (.int _) h⟩
theorem od_I0b {g : Int → Int → Bool} (h : Ψ (.bl (g i j))) : OD K (rI0 fun i j => .bl (g i j)) (.int i) (.int j) Ψ := fun M H u v m h1 h2 Q q =>
  ⟨i, j, h1.int_eq, h2.int_eq, q _ H _ (Same.refl H) (.bl _) h⟩
theorem od_I {C : Int → Int → Prop} {g : Int → Int → Int} (c : C i j) (h : Ψ (.int (g i j))) : OD K (rI C fun i j => .int (g i j)) (.int i) (.int j) Ψ := fun M H u v m h1 h2 Q q =>
  ⟨i, j, h1.int_eq, h2.int_eq, c, q _ H _ (Same.refl H) (.int _) h⟩
theorem ud_U {g : Int → Int} (h : Ψ (.int (g i))) : UD K (rU fun i => .int (g i)) (.int i) Ψ := fun M H u m h1 Q q => ⟨i, h1.int_eq, q _ H _ (Same.refl H) (.int _) h⟩
/-! texts -/
theorem od_SSb {g : Str → Str → Bool} (h : Ψ (.bl (g x y))) : OD K (fun u v H Q => ∃ i j, u = .str i ∧ v = .str j ∧ Q (.bl (g i j)) H) (.str x) (.str y) Ψ := fun M H u v m h1 h2 Q q =>
  ⟨x, y, h1.str_eq, h2.str_eq, q _ H _ (Same.refl H) (.bl _) h⟩
theorem od_cat_str (hl : x.length + y.length ≤ sizeLine) (h : Ψ (.str (x ++ y))) : OD K (fun u v H Q => ∃ i j, u = .str i ∧ v = .str j ∧ i.length + j.length ≤ sizeLine ∧ Q (.str (i ++ j)) H) (.str x) (.str y) Ψ := fun M H u v m h1 h2 Q q =>
  ⟨x, y, h1.str_eq, h2.str_eq, hl, q _ H _ (Same.refl H) (.str _) h⟩
/-! == and != of scalars -/
theorem od_eqi (h : Ψ (.bl (decide (i = j)))) : OD K rEq (.int i) (.int j) Ψ := fun M H u v m h1 h2 Q q => by
  rw [h1.int_eq, h2.int_eq]
  have e : decide (V.int i = V.int j) = decide (i = j) := decide_eq_decide.mpr ⟨fun z => V.int.inj z, fun z => by rw [z]⟩
  exact ⟨rfl, by rw [e]; exact q _ H _ (Same.refl H) (.bl _) h⟩
theorem od_nei (h : Ψ (.bl (!decide (i = j)))) : OD K rNe (.int i) (.int j) Ψ := fun M H u v m h1 h2 Q q => by
  rw [h1.int_eq, h2.int_eq]
  have e : decide (V.int i = V.int j) = decide (i = j) := decide_eq_decide.mpr ⟨fun z => V.int.inj z, fun z => by rw [z]⟩
  exact ⟨rfl, by rw [e]; exact q _ H _ (Same.refl H) (.bl _) h⟩
theorem od_eqs (h : Ψ (.bl (decide (x = y)))) : OD K rEq (.str x) (.str y) Ψ := fun M H u v m h1 h2 Q q => by
  rw [h1.str_eq, h2.str_eq]
  have e : decide (V.str x = V.str y) = decide (x = y) := decide_eq_decide.mpr ⟨fun z => V.str.inj z, fun z => by rw [z]⟩
  exact ⟨rfl, by rw [e]; exact q _ H _ (Same.refl H) (.bl _) h⟩
theorem od_nes (h : Ψ (.bl (!decide (x = y)))) : OD K rNe (.str x) (.str y) Ψ := fun M H u v m h1 h2 Q q => by
  rw [h1.str_eq, h2.str_eq]
  have e : decide (V.str x = V.str y) = decide (x = y) := decide_eq_decide.mpr ⟨fun z => V.str.inj z, fun z => by rw [z]⟩
  exact ⟨rfl, by rw [e]; exact q _ H _ (Same.refl H) (.bl _) h⟩
theorem od_eqb (h : Ψ (.bl (decide (a = b)))) : OD K rEq (.bl a) (.bl b) Ψ := fun M H u v m h1 h2 Q q => by
  rw [h1.bl_eq, h2.bl_eq]
  have e : decide (V.bl a = V.bl b) = decide (a = b) := decide_eq_decide.mpr ⟨fun z => V.bl.inj z, fun z => by rw [z]⟩
  exact ⟨rfl, by rw [e]; exact q _ H _ (Same.refl H) (.bl _) h⟩
/-! is None -/
def isNon : Dt → Bool
  | .non => true
  | _ => false
theorem isNon_of {M : Hp} {v : V} {d : Dt} (h : DX K M v d) : decide (v = V.non) = isNon d := by
  cases h <;> rfl
theorem od_isN (h : Ψ (.bl (isNon d1))) : OD K (fun x y H Q => y = .non ∧ Q (.bl (decide (x = .non))) H) d1 .non Ψ := fun M H u v m h1 h2 Q q =>
  ⟨h2.non_eq, by rw [isNon_of h1]; exact q _ H _ (Same.refl H) (.bl _) h⟩
theorem od_notN (h : Ψ (.bl (!isNon d1))) : OD K (fun x y H Q => y = .non ∧ Q (.bl (!decide (x = .non))) H) d1 .non Ψ := fun M H u v m h1 h2 Q q =>
  ⟨h2.non_eq, by rw [isNon_of h1]; exact q _ H _ (Same.refl H) (.bl _) h⟩
end

/-! ### subscripts -/
section
variable {K : PySem.W.Frag} {Ψ : Dt → Prop} {d : Dt} {ds es : List Dt} {i : Int} {z : Str}
theorem DXs.atI {H : Hp} {vs : List V} (h : DXs K H vs ds) (e : L2.atI ds i = some d) : ∃ v, L2.atI vs i = some v ∧ DX K H v d := by
  unfold L2.atI at e ⊢
  rw [h.len]
  cases c : ixN ds.length i with
  | none => rw [c] at e; cases e
  | some j =>
    rw [c] at e
    exact h.getd e
theorem od_ixL (e : L2.atI ds i = some d) (h : Ψ d) : OD K (rIxL K) (.lst ds) (.int i) Ψ := fun M H u v m h1 h2 Q q => by
  cases h1 with
  | lst hs ha =>
    obtain ⟨w, e1, x⟩ := ha.atI e
    exact ⟨_, _, i, w, rfl, h2.int_eq, (cut_sub M H).seq hs, e1, q w H d (Same.refl H) x h⟩
theorem od_ixT (e : L2.atI ds i = some d) (h : Ψ d) : OD K (rIxT K) (.tup ds) (.int i) Ψ := fun M H u v m h1 h2 Q q => by
  cases h1 with
  | tup hs ha =>
    obtain ⟨w, e1, x⟩ := ha.atI e
    exact ⟨_, _, i, w, rfl, h2.int_eq, same_T (cut_sub M H) hs, e1, q w H d (Same.refl H) x h⟩
theorem od_ixS {c : Nat} (hz : z.length ≤ sizeLine) (e : L2.atI z.cps.toList i = some c) (h : Ψ (.str ⟨#[c]⟩)) : OD K rIxS (.str z) (.int i) Ψ := fun M H u v m h1 h2 Q q =>
  ⟨z, i, c, h1.str_eq, h2.int_eq, hz, e, q _ H _ (Same.refl H) (.str _) h⟩
/-- whatever kind of sequence -/
def seqD : Dt → Option (List Dt)
  | .lst ds => some ds
  | .tup ds => some ds
  | _ => none
theorem od_ix {d0 : Dt} (hs : seqD d0 = some ds) (e : L2.atI ds i = some d) (h : Ψ d) : OD K (rIx K) d0 (.int i) Ψ := fun M H u v m h1 h2 Q q => by
  cases d0 with
  | lst es => cases hs; exact .inl (od_ixL e h M H u v m h1 h2 Q q)
  | tup es => cases hs; exact .inr (.inl (od_ixT e h M H u v m h1 h2 Q q))
  | _ => cases hs
theorem od_ixs {c : Nat} (hz : z.length ≤ sizeLine) (e : L2.atI z.cps.toList i = some c) (h : Ψ (.str ⟨#[c]⟩)) : OD K (rIx K) (.str z) (.int i) Ψ := fun M H u v m h1 h2 Q q =>
  .inr (.inr (od_ixS hz e h M H u v m h1 h2 Q q))
theorem atI_nat' {α : Type} {xs : List α} {j : Nat} {v : α} (h : xs[j]? = some v) : L2.atI xs (j : Int) = some v := atI_nat h

/-! ### slices -/
def Wo (K : PySem.W.Frag) (f : Bool) (to : TO) (ρ : List Sl) (Φ : Option Int → List Sl → Prop) : Prop :=
  ∀ (M : Md) (σ : L2.St) (H : Hp), Sd K M H σ ρ → ∀ Q : Option Int → Hp → Prop, (∀ o H2 ρ', Tr f M H H2 → Sd K M H2 σ ρ' → Φ o ρ' → Q o H2) → to σ H Q
variable {pf : Bool} {ρ : List Sl} {Φ : Dt → List Sl → Prop} {te tx : TE} {tl th : TO}
theorem wo_none {Ω : Option Int → List Sl → Prop} (h : Ω none ρ) : Wo K pf tNoPart ρ Ω := fun M σ H S Q q => q none H ρ (Tr.refl pf M H) S h
theorem wo_some {Ω : Option Int → List Sl → Prop} (h : Wp K pf te ρ fun d ρ1 => ∃ i, d = .int i ∧ Ω (some i) ρ1) : Wo K pf (tPart te) ρ Ω := fun M σ H S Q q =>
  h M σ H S _ fun v H1 d ρ1 s1 S1 x1 ⟨i, e, f⟩ => by subst e; exact ⟨i, x1.int_eq, q (some i) H1 ρ1 s1 S1 f⟩
def SlD (K : PySem.W.Frag) (r : V → Option Int → Option Int → Hp → VK → Prop) (d : Dt) (lo hi : Option Int) (Ψ : Dt → Prop) : Prop :=
  ∀ (M : Md) (H : Hp) (x : V), MOk M H → DX K (cut M H) x d → ∀ Q : VK, (∀ v H2 d, Same H H2 → DX K (cut M H2) v d → Ψ d → Q v H2) → r x lo hi H Q
theorem w_sl {r : V → Option Int → Option Int → Hp → VK → Prop} (h : Wp K pf tx ρ fun d ρ1 => Wo K pf tl ρ1 fun lo ρ2 => Wo K pf th ρ2 fun hi ρ3 => SlD K r d lo hi fun e => Φ e ρ3) : Wp K pf (tSl r tx tl th) ρ Φ := fun M σ H S Q q =>
  h M σ H S _ fun v1 H1 d1 ρ1 s1 S1 x1 k1 => k1 M σ H1 S1 _ fun lo H2 ρ2 s2 S2 k2 => k2 M σ H2 S2 _ fun hi H3 ρ3 s3 S3 k3 =>
    k3 M H3 v1 S3.mok ((x1.mono s2.dx).mono s3.dx) _ fun v H4 d e x f => q v H4 d ρ3 (((s1.trans s2).trans s3).trans (Tr.same pf M e)) (S3.same e) x f
def cutD (ds : List Dt) (lo hi : Option Int) : List Dt := (ds.drop (HT.sIx ds.length 0 lo)).take (HT.sIx ds.length ds.length hi - HT.sIx ds.length 0 lo)
theorem DXs.cutV {H : Hp} {vs : List V} (h : DXs K H vs ds) (lo hi : Option Int) : DXs K H (L2.cutV vs lo hi) (cutD ds lo hi) := by
  unfold L2.cutV cutD
  rw [h.len]
  exact (h.drop _).take _
theorem sd_list {lo hi : Option Int} (h : Ψ (.lst (cutD ds lo hi))) : SlD K (rSlL K) (.lst ds) lo hi Ψ := fun M H x m h1 Q q => by
  cases h1 with
  | lst hs ha => exact ⟨_, _, rfl, (cut_sub M H).seq hs, fun p hp => q _ _ _ (same_new hp) (dx_new_l m hp (ha.cutV lo hi)) h⟩
theorem sd_tup {lo hi : Option Int} (h : Ψ (.tup (cutD ds lo hi))) : SlD K (rSlA K) (.tup ds) lo hi Ψ := fun M H x m h1 Q q => by
  cases h1 with
  | tup hs ha =>
    refine ⟨_, _, rfl, same_T (cut_sub M H) hs, fun hw => ?_, fun hw p hp => q _ _ _ (same_new hp) (dx_new_t m hp (ha.cutV lo hi)) h⟩
    have e : cutD ds lo hi = ds := by
      rw [ha.len] at hw
      unfold cutD
      rw [hw.1, hw.2]
      simp
    rw [e] at h
    exact q _ H _ (Same.refl H) (.tup hs ha) h
theorem sd_str {lo hi : Option Int} (hz : z.length ≤ sizeLine) (h : Ψ (.str (cutS z lo hi))) : SlD K rSlS (.str z) lo hi Ψ := fun M H x m h1 Q q =>
  ⟨z, h1.str_eq, hz, q _ H _ (Same.refl H) (.str _) h⟩
theorem cutD_to {n : Nat} (k : Nat) (h : n = k) : cutD ds none (some (n : Int)) = ds.take k := by
  subst h
  unfold cutD
  rw [HT.sIx_none, HT.sIx_nat, List.drop_zero, Nat.sub_zero]
  by_cases c : n ≤ ds.length
  · rw [Nat.min_eq_left c]
  · rw [Nat.min_eq_right (by omega), List.take_of_length_le (Nat.le_refl _), List.take_of_length_le (by omega)]
end

/-! ### built-ins -/
section
variable {K : PySem.W.Frag} {Ψ : Dt → Prop} {d : Dt} {ds es : List Dt} {i : Int} {z : Str}
theorem one_v {H : Hp} {vs : List V} (h : DXs K H vs [d]) : ∃ v, vs = [v] ∧ DX K H v d := by
  cases h with
  | cons h1 h2 => cases h2; exact ⟨_, rfl, h1⟩
theorem two_v {H : Hp} {vs : List V} {e : Dt} (h : DXs K H vs [d, e]) : ∃ v w, vs = [v, w] ∧ DX K H v d ∧ DX K H w e := by
  cases h with
  | cons h1 h2 => cases h2 with
    | cons h3 h4 => cases h4; exact ⟨_, _, rfl, h1, h3⟩
theorem rd_abs (h : Ψ (.int (if i < 0 then -i else i))) : RD K (fun xs H Q => ∃ i, xs = [.int i] ∧ Q (.int (if i < 0 then -i else i)) H) [.int i] Ψ := fun M H vs m xx Q q => by
  obtain ⟨v, rfl, x⟩ := one_v xx
  exact ⟨i, by rw [x.int_eq], q _ H _ (Same.refl H) (.int _) h⟩
theorem rd_int (h : Ψ (.int i)) : RD K (fun xs H Q => (∃ i, xs = [.int i] ∧ Q (.int i) H) ∨ ∃ k, xs = [.bl k] ∧ Q (.int (if k then 1 else 0)) H) [.int i] Ψ := fun M H vs m xx Q q => by
  obtain ⟨v, rfl, x⟩ := one_v xx
  exact .inl ⟨i, by rw [x.int_eq], q _ H _ (Same.refl H) (.int _) h⟩
theorem rd_intb {b : Bool} (h : Ψ (.int (if b then 1 else 0))) : RD K (fun xs H Q => (∃ i, xs = [.int i] ∧ Q (.int i) H) ∨ ∃ k, xs = [.bl k] ∧ Q (.int (if k then 1 else 0)) H) [.bl b] Ψ := fun M H vs m xx Q q => by
  obtain ⟨v, rfl, x⟩ := one_v xx
  exact .inr ⟨b, by rw [x.bl_eq], q _ H _ (Same.refl H) (.int _) h⟩
def lenD : Dt → Option Nat
  | .lst ds => some ds.length
  | .tup ds => some ds.length
  | .str z => if z.length ≤ sizeLine then some z.length else none
  | _ => none
theorem rd_len {n : Nat} (hn : lenD d = some n) (h : Ψ (.int n)) : RD K (fun xs H Q => ∃ x n, xs = [x] ∧ LenV K x H n ∧ Q (.int n) H) [d] Ψ := fun M H vs m xx Q q => by
  obtain ⟨v, rfl, x⟩ := one_v xx
  refine ⟨v, n, rfl, ?_, q _ H _ (Same.refl H) (.int _) h⟩
  cases x with
  | lst hs ha => exact .inl ⟨_, (cut_sub M H).seq hs, by rw [ha.len]; exact (Option.some.inj hn).symm⟩
  | tup hs ha => exact .inr ⟨_, same_T (cut_sub M H) hs, by rw [ha.len]; exact (Option.some.inj hn).symm⟩
  | str z =>
    have hn : (if z.length ≤ sizeLine then some z.length else none) = some n := hn
    by_cases c : z.length ≤ sizeLine
    · rw [if_pos c] at hn
      exact ⟨c, (Option.some.inj hn).symm⟩
    · rw [if_neg c] at hn; cases hn
  | _ => cases hn
theorem rd_list (hs : seqD d = some ds) (h : Ψ (.lst ds)) : RD K (fun xs H Q => ∃ p ys, xs = [.ref p] ∧ (SqL K H p ys ∨ SqT K H p ys) ∧ ∀ l, H l = none → Q (.ref l) (upd H l (.lst ys))) [d] Ψ := fun M H vs m xx Q q => by
  obtain ⟨v, rfl, x⟩ := one_v xx
  cases x with
  | lst hs' ha => cases hs; exact ⟨_, _, rfl, .inl ((cut_sub M H).seq hs'), fun l hl => q _ _ _ (same_new hl) (dx_new_l m hl ha) h⟩
  | tup hs' ha => cases hs; exact ⟨_, _, rfl, .inr (same_T (cut_sub M H) hs'), fun l hl => q _ _ _ (same_new hl) (dx_new_l m hl ha) h⟩
  | _ => cases hs
theorem rd_tuple (hs : seqD d = some ds) (h : Ψ (.tup ds)) : RD K (fun xs H Q => ∃ p ys, xs = [.ref p] ∧ ((SqL K H p ys ∧ ∀ l, H l = none → Q (.ref l) (upd H l (.tup ys))) ∨ (SqT K H p ys ∧ Q (.ref p) H))) [d] Ψ := fun M H vs m xx Q q => by
  obtain ⟨v, rfl, x⟩ := one_v xx
  cases x with
  | lst hs' ha => cases hs; exact ⟨_, _, rfl, .inl ⟨(cut_sub M H).seq hs', fun l hl => q _ _ _ (same_new hl) (dx_new_t m hl ha) h⟩⟩
  | tup hs' ha => cases hs; exact ⟨_, _, rfl, .inr ⟨same_T (cut_sub M H) hs', q _ H _ (Same.refl H) (.tup hs' ha) h⟩⟩
  | _ => cases hs
theorem rd_all {bs : List Bool} (h : Ψ (.bl (bs.all id))) : RD K (rAll K) [.lst (bs.map Dt.bl)] Ψ := fun M H vs m xx Q q => by
  obtain ⟨v, rfl, x⟩ := one_v xx
  cases x with
  | lst hs ha => rw [ha.bls] at hs; exact ⟨_, bs, rfl, (cut_sub M H).seq hs, q _ H _ (Same.refl H) (.bl _) h⟩
theorem rd_any {bs : List Bool} (h : Ψ (.bl (bs.any id))) : RD K (rAny K) [.lst (bs.map Dt.bl)] Ψ := fun M H vs m xx Q q => by
  obtain ⟨v, rfl, x⟩ := one_v xx
  cases x with
  | lst hs ha => rw [ha.bls] at hs; exact ⟨_, bs, rfl, (cut_sub M H).seq hs, q _ H _ (Same.refl H) (.bl _) h⟩
/-- isinstance of a datum against a built-in class -/
def tyD : Dt → String
  | .non => "NoneType" | .bl _ => "bool" | .int _ => "int" | .str _ => "str" | .lst _ => "list" | .tup _ => "tuple" | .dct _ _ => "dict" | .ty _ => "type"
theorem tyX_of {M : Md} {H : Hp} {v : V} (x : DX K (cut M H) v d) (h : ∀ n, d ≠ .ty n) : TyX K H v (.type (tyD d)) := by
  cases x with
  | non => exact .base .non
  | bl b => exact .base (.bl b)
  | int i => exact .base (.int i)
  | str z => exact .base (.str z)
  | ty n => exact absurd rfl (h n)
  | lst hs ha =>
    rcases (cut_sub M H).seq hs with (e | ⟨o, e⟩) | ⟨o, _, _, e, c, _⟩
    · exact .base (.lst e)
    · exact .base (.frz e)
    · exact .kList e c
  | tup hs ha =>
    rcases same_T (cut_sub M H) hs with (e | ⟨o, e⟩) | ⟨o, _, _, e, c, _⟩
    · exact .base (.tup e)
    · exact .fTuple e
    · exact .kTuple e c
  | dct hs ha => exact .base (.dK (cut_of hs).2)
theorem rd_isi {c : String} {b : Bool} (hd : ∀ n, d ≠ .ty n) (e : kitB (tyD d) c = some b) (h : Ψ (.bl b)) : RD K (rIsi K) [d, .ty c] Ψ := fun M H vs m xx Q q => by
  obtain ⟨v, w, rfl, x1, x2⟩ := two_v xx
  cases x2
  exact ⟨v, .ty c, _, _, b, rfl, .ty c, tyX_of x1 hd, kit_ty e, q _ H _ (Same.refl H) (.bl _) h⟩
end
end DL

/-! Data level: repr, == of data, in, sets of texts. -/
namespace DL
open PySem PySem.Spec PyProof.Rows L2

/-! ### as the library's data -/
mutual
def Dt.py : Dt → PyData
  | .non => .none
  | .bl b => .bool b
  | .int i => .int i
  | .str x => .str x
  | .lst ds => .list (pys ds)
  | .tup ds => .tuple (pys ds)
  | .dct _ kvs => .dict (pyk kvs)
  | .ty n => .none
def pys : List Dt → List PyData
  | [] => []
  | d :: ds => d.py :: pys ds
def pyk : List (Key × Dt) → List (PyData × PyData)
  | [] => []
  | (k, d) :: r => ((match k with | .inl i => PyData.int i | .inr x => .str x), d.py) :: pyk r
end
mutual
/-- data all through: no class in it -/
def Dt.pure : Dt → Bool
  | .non | .bl _ | .int _ | .str _ => true
  | .lst ds => pures ds
  | .tup ds => pures ds
  | .dct _ kvs => purek kvs
  | .ty _ => false
def pures : List Dt → Bool
  | [] => true
  | d :: ds => d.pure && pures ds
def purek : List (Key × Dt) → Bool
  | [] => true
  | (_, d) :: r => d.pure && purek r
end
mutual
/-- .. and no dict -/
def Dt.seqs : Dt → Bool
  | .non | .bl _ | .int _ | .str _ => true
  | .lst ds => seqss ds
  | .tup ds => seqss ds
  | .dct _ _ => false
  | .ty _ => false
def seqss : List Dt → Bool
  | [] => true
  | d :: ds => d.seqs && seqss ds
end
section
variable {K : PySem.W.Frag} {H : Hp}
mutual
theorem DX.dp : ∀ {d : Dt} {v : V}, DX K H v d → d.seqs = true → Dp K H v d.py
  | .non, _, h, _ => by cases h; simp only [Dt.py]; exact .non
  | .bl b, _, h, _ => by cases h; simp only [Dt.py]; exact .bl _
  | .int i, _, h, _ => by cases h; simp only [Dt.py]; exact .int _
  | .str x, _, h, _ => by cases h; simp only [Dt.py]; exact .str _
  | .lst ds, _, h, p => by
    cases h with
    | lst hs ha => simp only [Dt.py]; exact .lst hs (DXs.dp (ds := ds) ha (by simpa only [Dt.seqs] using p))
  | .tup ds, _, h, p => by
    cases h with
    | tup hs ha => simp only [Dt.py]; exact .tup hs (DXs.dp (ds := ds) ha (by simpa only [Dt.seqs] using p))
  | .dct _ _, _, _, p => by simp only [Dt.seqs] at p; cases p
  | .ty _, _, _, p => by simp only [Dt.seqs] at p; cases p
theorem DXs.dp : ∀ {ds : List Dt} {vs : List V}, DXs K H vs ds → seqss ds = true → DpAll K H vs (pys ds)
  | [], _, h, _ => by cases h; simp only [pys]; exact .nil
  | d :: ds, _, h, p => by
    simp only [seqss, Bool.and_eq_true] at p
    cases h with
    | cons h1 h2 => simp only [pys]; exact .cons (DX.dp h1 p.1) (DXs.dp h2 p.2)
end
end

/-! ### reading, dicts too: no dict is that of the modules -/
mutual
inductive Rds (h : Heap) : Value → PyData → Prop
  | none : Rds h .none .none
  | bool (b : Bool) : Rds h (.bool b) (.bool b)
  | int (i : Int) (t : Tok) : Rds h (.int i t) (.int i)
  | str (x : Str) (t : Tok) : Rds h (.str x t) (.str x)
  | list {a : Addr} {o : Obj} {vs : Array Value} {n : Nat} {xs : List PyData} : h.get? a = some o → o.cls = .type "list" → o.data = .seq vs n → RdsAll h vs.toList xs → Rds h (.ref a) (.list xs)
  | tuple {a : Addr} {o : Obj} {vs : Array Value} {n : Nat} {xs : List PyData} : h.get? a = some o → o.cls = .type "tuple" → o.data = .seq vs n → RdsAll h vs.toList xs → Rds h (.ref a) (.tuple xs)
  | dict {a : Addr} {o : Obj} {es : Array DictEntry} {n : Nat} {kvs : List (PyData × PyData)} : h.get? a = some o → o.cls = .type "dict" → o.data = .dict es n → (a == sysModules) = false →
      RdsAll h (es.toList.map (·.key)) (kvs.map (·.1)) → RdsAll h (es.toList.map (·.val)) (kvs.map (·.2)) → Rds h (.ref a) (.dict kvs)
inductive RdsAll (h : Heap) : List Value → List PyData → Prop
  | nil : RdsAll h [] []
  | cons {v : Value} {vs : List Value} {d : PyData} {ds : List PyData} : Rds h v d → RdsAll h vs ds → RdsAll h (v :: vs) (d :: ds)
end
section
variable {h : Heap}
mutual
theorem Rds.reads : ∀ {v : Value} {d : PyData}, Rds h v d → ∃ as, Reads h v d as
  | _, _, .none => ⟨_, .none⟩
  | _, _, .bool b => ⟨_, .bool b⟩
  | _, _, .int i t => ⟨_, .int i t⟩
  | _, _, .str x t => ⟨_, .str x t⟩
  | _, _, .list h1 h2 h3 h4 => let ⟨_, q⟩ := RdsAll.reads h4; ⟨_, .list h1 h2 h3 q⟩
  | _, _, .tuple h1 h2 h3 h4 => let ⟨_, q⟩ := RdsAll.reads h4; ⟨_, .tuple h1 h2 h3 q⟩
  | _, _, .dict h1 h2 h3 _ h4 h5 => let ⟨_, q⟩ := RdsAll.reads h4; let ⟨_, r⟩ := RdsAll.reads h5; ⟨_, .dict h1 h2 h3 q r⟩
theorem RdsAll.reads : ∀ {v : List Value} {d : List PyData}, RdsAll h v d → ∃ as, ReadsAll h v d as
  | _, _, .nil => ⟨_, .nil⟩
  | _, _, .cons h1 h2 => let ⟨_, q⟩ := Rds.reads h1; let ⟨_, r⟩ := RdsAll.reads h2; ⟨_, .cons q r⟩
end
variable {prog : Program} {w : World}
mutual
theorem Rds.reprK : ∀ {v : Value} {d : PyData}, Rds h v d → d.showable = true → d.shown.length ≤ sizeLine → ∃ bs, ReadAtMost h d.depth bs ∧ ReprK prog w bs h d.depth v d.shown
  | _, _, .none, _, _ => ⟨[], (fun _ z => nomatch z), by simp only [PyData.shown]; exact .of_is ReprIs.none _ _ _⟩
  | _, _, .bool b, _, _ => ⟨[], (fun _ z => nomatch z), by simp only [PyData.shown]; exact .of_is (ReprIs.bool b) _ _ _⟩
  | _, _, .int i t, hs, _ => ⟨[], (fun _ z => nomatch z), by simp only [PyData.shown]; exact .of_is (ReprIs.int t (of_decide_eq_true (by simpa only [PyData.showable] using hs))) _ _ _⟩
  | _, _, .str x t, _, hz => ⟨[], (fun _ z => nomatch z), by simp only [PyData.shown] at hz ⊢; exact .of_is (ReprIs.str x t hz) _ _ _⟩
  | _, _, .list (a := a) (vs := vs) (xs := xs) h1 h2 h3 h4, hs, hz => by
    simp only [PyData.shown] at hz
    simp only [PyData.showable] at hs
    obtain ⟨bs, hb, hk⟩ := RdsAll.reprK h4 hs fun t ht => Nat.le_trans (listText_mem_le ht) hz
    obtain ⟨as, hr⟩ := RdsAll.reads h4
    have r : Reads h (.ref a) (.list xs) _ := .list h1 h2 h3 hr
    have lt : PyData.depthAll xs < (PyData.list xs).depth := by simp only [PyData.depth]; omega
    refine ⟨a :: bs, .cons r (Nat.le_of_lt lt) hb, ?_⟩
    simp only [PyData.depth, PyData.shown]
    obtain ⟨l⟩ := vs
    cases l with
    | cons x l => exact .list h1 h2 h3 (not_mem_of_deeper r lt hb) (by simpa using hk.length_eq) fun i y e => hk.item i y (by simpa using e)
    | nil =>
      have hr' : ReadsAll h [] xs _ := hr
      cases hr'
      simp only [PyData.shownAll, listText_nil]
      exact .listEmpty h1 h2 h3
  | _, _, .tuple (a := a) (xs := xs) h1 h2 h3 h4, hs, hz => by
    simp only [PyData.shown] at hz
    simp only [PyData.showable] at hs
    obtain ⟨bs, hb, hk⟩ := RdsAll.reprK h4 hs fun t ht => Nat.le_trans (tupleText_mem_le ht) hz
    obtain ⟨as, hr⟩ := RdsAll.reads h4
    have r : Reads h (.ref a) (.tuple xs) _ := .tuple h1 h2 h3 hr
    have lt : PyData.depthAll xs < (PyData.tuple xs).depth := by simp only [PyData.depth]; omega
    refine ⟨a :: bs, .cons r (Nat.le_of_lt lt) hb, ?_⟩
    simp only [PyData.depth, PyData.shown]
    exact .tuple h1 h2 h3 (not_mem_of_deeper r lt hb) hk
  | _, _, .dict (a := a) (es := es) (kvs := kvs) h1 h2 h3 h0 h4 h5, hs, hz => by
    simp only [PyData.shown] at hz
    simp only [PyData.showable] at hs
    obtain ⟨s1, s2⟩ := PyData.showableKv_split kvs hs
    have big : ∀ {t : Str} {p : Str}, p ∈ PyData.shownKv kvs → t.length ≤ p.length → t.length ≤ sizeLine := fun hp hl => Nat.le_trans hl (Nat.le_trans (dictText_mem_le hp) hz)
    obtain ⟨b1, q1, k1⟩ := RdsAll.reprK h4 s1 fun t ht => let ⟨_, hp, hl⟩ := PyData.shownKv_key_le kvs t ht; big hp hl
    obtain ⟨b2, q2, k2⟩ := RdsAll.reprK h5 s2 fun t ht => let ⟨_, hp, hl⟩ := PyData.shownKv_val_le kvs t ht; big hp hl
    obtain ⟨as, r1⟩ := RdsAll.reads h4
    obtain ⟨cs, r2⟩ := RdsAll.reads h5
    have r : Reads h (.ref a) (.dict kvs) _ := .dict h1 h2 h3 r1 r2
    have lt : PyData.depthKv kvs < (PyData.dict kvs).depth := by simp only [PyData.depth]; omega
    have hb : ReadAtMost h (PyData.depthKv kvs) (b1 ++ b2) := (q1.mono (PyData.depthAll_keys_le kvs)).append (q2.mono (PyData.depthAll_vals_le kvs))
    refine ⟨a :: (b1 ++ b2), .cons r (Nat.le_of_lt lt) hb, ?_⟩
    simp only [PyData.depth, PyData.shown, PyData.shownKv_eq]
    exact .dict h1 h2 h3 h0 (not_mem_of_deeper r lt hb) (.of_two es.toList _ _ (k1.more_le (fun b m => List.mem_append_left _ m) (PyData.depthAll_keys_le kvs)) (k2.more_le (fun b m => List.mem_append_right _ m) (PyData.depthAll_vals_le kvs)))
theorem RdsAll.reprK : ∀ {vs : List Value} {ds : List PyData}, RdsAll h vs ds → PyData.showableAll ds = true → (∀ t ∈ PyData.shownAll ds, t.length ≤ sizeLine) →
    ∃ bs, ReadAtMost h (PyData.depthAll ds) bs ∧ ReprAllK prog w bs h (PyData.depthAll ds) vs (PyData.shownAll ds)
  | _, _, .nil, _, _ => ⟨[], (fun _ z => nomatch z), by simp only [PyData.shownAll]; exact .nil⟩
  | _, _, .cons (d := d) (ds := ds) r rs, hs, hz => by
    simp only [PyData.showableAll, Bool.and_eq_true] at hs
    simp only [PyData.shownAll, List.mem_cons] at hz
    obtain ⟨b1, q1, k1⟩ := Rds.reprK r hs.1 (hz _ (.inl rfl))
    obtain ⟨b2, q2, k2⟩ := RdsAll.reprK rs hs.2 fun t ht => hz t (.inr ht)
    have e : PyData.depthAll (d :: ds) = max d.depth (PyData.depthAll ds) := by simp only [PyData.depthAll]
    rw [e]
    refine ⟨b1 ++ b2, (q1.mono (Nat.le_max_left _ _)).append (q2.mono (Nat.le_max_right _ _)), ?_⟩
    simp only [PyData.shownAll]
    exact .cons ((k1.more fun b m => List.mem_append_left _ m).level_le (Nat.le_max_left _ _)) (k2.more_le (fun b m => List.mem_append_right _ m) (Nat.le_max_right _ _))
end
/-- repr(v) -/
theorem repr_run {v : Value} {d : PyData} {A : Around} {E : Value → Shared → Prop} {s : Shared} {Q : Value → Shared → Prop} (r : Rds s.heap v d) (hs : d.showable = true) (hg : A.guards = some []) (hu : A.units + (d.depth + 1) < cLine)
    (hz : d.shown.length ≤ sizeLine) (hQ : ∀ h' u tk, (∀ b o, s.heap.get? b = some o → h'.get? b = some o) → Q (.str d.shown u) { s with heap := h', toks := tk }) : wpAny (model prog w) A (call (.builtin "repr") [v]) Q E s := by
  have triv : ∀ b o, s.heap.get? b = some o → s.heap.get? b = some o := fun _ _ z => z
  cases r with
  | none => simp only [PyData.shown] at hQ; exact PySem.P.repr_of_none (hQ _ _ _ triv)
  | bool b => simp only [PyData.shown] at hQ; exact PySem.P.repr_of_bool (hQ _ _ _ triv)
  | int i t => simp only [PyData.shown] at hQ; exact PySem.P.repr_of_int (of_decide_eq_true (by simpa only [PyData.showable] using hs)) (hQ _ _ _ triv)
  | str x t => simp only [PyData.shown] at hQ hz; exact PySem.P.repr_of_str (hQ _ _ _ triv) hz
  | @list a o vs n xs h1 h2 h3 h4 =>
    simp only [PyData.shown] at hQ hz
    simp only [PyData.showable] at hs
    simp only [PyData.depth] at hu
    obtain ⟨bs, hb, hk⟩ := RdsAll.reprK (prog := prog) (w := w) h4 hs fun t ht => Nat.le_trans (listText_mem_le ht) hz
    obtain ⟨as, hr⟩ := RdsAll.reads h4
    have na : a ∉ bs := not_mem_of_deeper (.list h1 h2 h3 hr) (by simp only [PyData.depth]; omega) hb
    refine call_repr_slot (by omega) ⟨o, h1, h2⟩ F.slot_list_repr.toG ?_
    obtain ⟨l⟩ := vs
    cases l with
    | nil =>
      have hr' : ReadsAll s.heap [] xs _ := hr
      cases hr'
      simp only [PyData.shownAll, listText_nil] at hQ
      exact call_list_repr_empty ⟨o, h1, h2⟩ h1 h3 ⟨_, _, rfl, hQ _ _ _ triv⟩
    | cons x l => exact call_list_reprK h1 h2 h3 na (by simpa using hk.length_eq) (fun i y e => hk.item i y (by simpa using e)) (A := A.in1) hg (fun b _ => Clear.nil b) (by show A.units + 1 + _ < cLine; omega) triv (fun h' u tk k => ⟨_, _, rfl, hQ h' u tk k⟩) hz
  | @tuple a o vs n xs h1 h2 h3 h4 =>
    simp only [PyData.shown] at hQ hz
    simp only [PyData.showable] at hs
    simp only [PyData.depth] at hu
    obtain ⟨bs, hb, hk⟩ := RdsAll.reprK (prog := prog) (w := w) h4 hs fun t ht => Nat.le_trans (tupleText_mem_le ht) hz
    obtain ⟨as, hr⟩ := RdsAll.reads h4
    have na : a ∉ bs := not_mem_of_deeper (.tuple h1 h2 h3 hr) (by simp only [PyData.depth]; omega) hb
    refine call_repr_slot (by omega) ⟨o, h1, h2⟩ F.slot_tuple_repr ?_
    exact call_tuple_reprK h1 h2 h3 na hk (A := A.in1) hg (fun b _ => Clear.nil b) (by show A.units + 1 + _ < cLine; omega) triv (fun h' u tk k => ⟨_, _, rfl, hQ h' u tk k⟩) hz
  | @dict a o es n kvs h1 h2 h3 h0 h4 h5 =>
    simp only [PyData.shown] at hQ hz
    simp only [PyData.showable] at hs
    simp only [PyData.depth] at hu
    obtain ⟨s1, s2⟩ := PyData.showableKv_split kvs hs
    have big : ∀ {t : Str} {p : Str}, p ∈ PyData.shownKv kvs → t.length ≤ p.length → t.length ≤ sizeLine := fun hp hl => Nat.le_trans hl (Nat.le_trans (dictText_mem_le hp) hz)
    obtain ⟨b1, q1, k1⟩ := RdsAll.reprK (prog := prog) (w := w) h4 s1 fun t ht => let ⟨_, hp, hl⟩ := PyData.shownKv_key_le kvs t ht; big hp hl
    obtain ⟨b2, q2, k2⟩ := RdsAll.reprK (prog := prog) (w := w) h5 s2 fun t ht => let ⟨_, hp, hl⟩ := PyData.shownKv_val_le kvs t ht; big hp hl
    obtain ⟨as, r1⟩ := RdsAll.reads h4
    obtain ⟨cs, r2⟩ := RdsAll.reads h5
    have hb : ReadAtMost s.heap (PyData.depthKv kvs) (b1 ++ b2) := (q1.mono (PyData.depthAll_keys_le kvs)).append (q2.mono (PyData.depthAll_vals_le kvs))
    have na : a ∉ b1 ++ b2 := not_mem_of_deeper (.dict h1 h2 h3 r1 r2) (by simp only [PyData.depth]; omega) hb
    refine call_repr_slot (by omega) ⟨o, h1, h2⟩ F.slot_dict_repr ?_
    rw [PyData.shownKv_eq] at hQ hz
    exact call_dict_reprK h1 h2 h3 h0 na (.of_two es.toList _ _ (k1.more_le (fun b m => List.mem_append_left _ m) (PyData.depthAll_keys_le kvs)) (k2.more_le (fun b m => List.mem_append_right _ m) (PyData.depthAll_vals_le kvs)))
      (A := A.in1) hg (fun b _ => Clear.nil b) (by show A.units + 1 + _ < cLine; omega) triv (fun h' u tk k => ⟨_, _, rfl, hQ h' u tk k⟩) hz
end
section
variable {X : Cx} {pins : List (Addr × Obj)} {σ : L2.St} {H : Hp} {s : Shared}
mutual
theorem DX.rds (I : Inv X pins σ H s) : ∀ {d : Dt} {v : V} {u : Value}, DX X.K H v d → RelV v u → d.pure = true → Rds s.heap u d.py
  | .non, _, _, h, r, _ => by cases h; cases r; simp only [Dt.py]; exact .none
  | .bl b, _, _, h, r, _ => by cases h; cases r; simp only [Dt.py]; exact .bool b
  | .int i, _, _, h, r, _ => by cases h; obtain ⟨t, rfl⟩ := r; simp only [Dt.py]; exact .int i t
  | .str x, _, _, h, r, _ => by cases h; obtain ⟨t, rfl⟩ := r; simp only [Dt.py]; exact .str x t
  | .lst ds, _, _, h, r, p => by
    cases h with
    | lst hs ha =>
      cases r
      obtain ⟨its, rv, ⟨o, n, ho, hc, hdn, hd⟩, _⟩ := I.list hs
      simp only [Dt.py]
      exact .list ho hc hd (DXs.rds I (ds := ds) ha rv (by simpa only [Dt.pure] using p))
  | .tup ds, _, _, h, r, p => by
    cases h with
    | tup hs ha =>
      cases r
      obtain ⟨its, rv, ⟨o, ho, hc, n, hd⟩, _⟩ := I.tuple hs
      simp only [Dt.py]
      exact .tuple ho hc hd (DXs.rds I (ds := ds) ha rv (by simpa only [Dt.pure] using p))
  | .dct _ ds, _, _, h, r, p => by
    cases h with
    | @dct a kvs _ hs ha =>
      cases r
      obtain ⟨_, ne, vs, rel, o, es, ep, ho, hex, hd, _, pr, _⟩ := I.hok _ _ hs
      have two := DXk.rds I (ds := ds) ha rel pr (by simpa only [Dt.pure] using p)
      simp only [Dt.py]
      exact .dict ho hex.1 hd ne two.1 two.2
  | .ty _, _, _, _, _, p => by simp only [Dt.pure] at p; cases p
theorem DXs.rds (I : Inv X pins σ H s) : ∀ {ds : List Dt} {vs : List V} {us : List Value}, DXs X.K H vs ds → Vals vs us → pures ds = true → RdsAll s.heap us (pys ds)
  | [], _, _, h, r, _ => by cases h; cases r; simp only [pys]; exact .nil
  | d :: ds, _, _, h, r, p => by
    simp only [pures, Bool.and_eq_true] at p
    cases h with
    | cons h1 h2 =>
      cases r with
      | cons r1 r2 => simp only [pys]; exact .cons (DX.rds I h1 r1 p.1) (DXs.rds I h2 r2 p.2)
theorem DXk.rds (I : Inv X pins σ H s) : ∀ {ds : List (Key × Dt)} {kvs : List (Key × V)} {vs : List (Key × Value)} {es : List DictEntry}, DXk X.K H kvs ds → KV kvs vs → Pairs (mixKind X.prog X.w) es vs → purek ds = true →
    RdsAll s.heap (es.map (·.key)) ((pyk ds).map (·.1)) ∧ RdsAll s.heap (es.map (·.val)) ((pyk ds).map (·.2))
  | [], _, _, _, h, r, pr, _ => by
    cases h
    cases r
    cases pr
    simp only [pyk, List.map_nil]
    exact ⟨.nil, .nil⟩
  | (k, d) :: ds, _, _, _, h, r, pr, p => by
    simp only [purek, Bool.and_eq_true] at p
    cases h with
    | cons h1 h2 =>
      cases r with
      | cons r1 r2 =>
        cases pr with
        | cons p1 p2 p3 =>
          have ih := DXk.rds I h2 r2 p3 p.2
          have e1 : k = _ := r1.1
          have hk := p1
          rw [← e1, mixKind_is] at hk
          simp only [pyk, List.map_cons]
          refine ⟨.cons ?_ ih.1, .cons (by rw [p2]; exact DX.rds I h1 r1.2 p.1) ih.2⟩
          rcases keyIs_shape hk with ⟨i, t, rfl, e⟩ | ⟨x, t, rfl, e⟩
          · rw [e]; exact .int i t
          · rw [e]; exact .str x t
end
def rRepr (K : PySem.W.Frag) : List V → Hp → VK → Prop := fun xs H Q => ∃ x d, xs = [x] ∧ DX K H x d ∧ d.pure = true ∧ d.py.showable = true ∧ d.py.depth ≤ 60 ∧ d.py.shown.length ≤ sizeLine ∧ Q (.str d.py.shown) H
theorem call_reprX (hg : X.A.guards = some []) (hu : X.A.units + 64 < cLine) : CallR X (.builtin "repr") (rRepr X.K) := by
  intro pins s σ H xs us Q I r h
  obtain ⟨x, d, rfl, dx, dp, ds, dd, dz, q⟩ := h
  obtain ⟨u, rfl, ru⟩ := r.one
  exact repr_run (DX.rds I dx ru dp) ds hg (by omega) dz fun h' u tk k => ⟨.str d.py.shown, H, I.kept k, ⟨u, rfl⟩, q⟩
end
section
variable {K : PySem.W.Frag} {Ψ : Dt → Prop} {d : Dt}
/-- fit to be shown -/
structure Fit (d : Dt) : Prop where
  pure : d.pure = true
  sh : d.py.showable = true
  dep : d.py.depth ≤ 60
  sz : d.py.shown.length ≤ sizeLine
theorem rd_repr (f : Fit d) (h : Ψ (.str d.py.shown)) : RD K (rRepr K) [d] Ψ := fun M H vs m xx Q q => by
  obtain ⟨v, rfl, x⟩ := one_v xx
  exact ⟨v, d, rfl, x.mono (cut_sub M H), f.pure, f.sh, f.dep, f.sz, q _ H _ (Same.refl H) (.str _) h⟩
end
end DL

/-! Data level: == against the empty list, in, sets of texts, displays of dicts, join. -/
namespace DL
open PySem PySem.Spec PyProof.Rows L2

/-! ### == of a dict and a text -/
section
variable {A : Around} {s : Shared}
theorem dict_eq_declines {prog : Program} {w : World} {E : Value → Shared → Prop} {l : Addr} {b : Str} {u : Tok} {Q : Value → Shared → Prop} (hl : s.TypeIs (.ref l) "dict") (h : Q .notImplemented s) :
    wpAny (model prog w) A (call (.builtin "dict.__eq__") [.ref l, .str b u]) Q E s := by
  refine wpAny_call_entry PySem.F.slot_dict_eq hl PySem.F.entry_dict_eq ?_ (PySem.F.args_dict_eq_2 _ _)
  show wpAny _ _ (Builtin.Dict.dictSlotArgs "__eq__" ⟨[.ref l, .str b u], []⟩ >>= _) _ _ s
  apply wpAny_bind
  unfold Builtin.Dict.dictSlotArgs
  refine wpAny_bind (wpAny_notOrdered_dict hl (wpAny_pure (wpAny_bind (wpAny_isInstance (T := "str") (typeIs_str s b u) PySem.F.sub_str_dict ?_))))
  simp only [Bool.not_false, if_true]
  exact wpAny_bind (wpAny_rule (wpAny_pure ⟨_, rfl, h⟩))
theorem str_eq_declines (b : Str) (u : Tok) (l : Addr) (c : Value) (dd : Option Addr) (es : Array DictEntry) (n : Nat) (sl : Array (Option Value)) :
    Meets (Builtin.«str.__eq__» ⟨[.str b u, .ref l], []⟩) (fun _ R s => s.heap.get? l = some { cls := c, dict := dd, data := .dict es n, slots := sl } ∧ R (.ok (.ret .notImplemented)) s) :=
  .of_wp fun prog w A R s h => by
    obtain ⟨hp, g, d, tk, os⟩ := s
    obtain ⟨hl, h⟩ := h
    wp_walk using wpAny_load hl
    exact ⟨_, rfl, h⟩
theorem rc_dict_str {l : Addr} {dd : Option Addr} {es : Array DictEntry} {n : Nat} {sl : Array (Option Value)} (b : Str) (u : Tok) (ho : s.heap.get? l = some { cls := .type "dict", dict := dd, data := .dict es n, slots := sl }) (hu : A.units < cLine) : SeqAt.RcAt A s (.ref l) (.str b u) false := fun prog w E Q h =>
  SeqAt.rc_eq_decline_or (k := false) ⟨_, ho, rfl⟩ (typeIs_str s b u) (by decide) PySem.F.sub_str_dict PySem.F.slot_dict_eq PySem.F.slot_str_eq_refl
    (fun _ hq => dict_eq_declines ⟨_, ho, rfl⟩ hq)
    (fun _ hq => call_meets PySem.F.slot_str_eq_refl (typeIs_str s b u) PySem.F.entry_str_eq (PySem.F.args_str_eq_2 _ _) (str_eq_declines b u l _ _ _ _ _) ⟨ho, hq⟩)
    (fun _ hq => wpAny_of_eq (rfl : isSame (.ref l) (.str b u) = pure false) hq) (.inr hu) h
theorem rc_str_dict {l : Addr} {dd : Option Addr} {es : Array DictEntry} {n : Nat} {sl : Array (Option Value)} (b : Str) (u : Tok) (ho : s.heap.get? l = some { cls := .type "dict", dict := dd, data := .dict es n, slots := sl }) (hu : A.units < cLine) : SeqAt.RcAt A s (.str b u) (.ref l) false := fun prog w E Q h =>
  SeqAt.rc_eq_decline_or (k := false) (typeIs_str s b u) ⟨_, ho, rfl⟩ (by decide) PySem.F.sub_dict_str PySem.F.slot_str_eq PySem.F.slot_dict_eq
    (fun _ hq => call_meets PySem.F.slot_str_eq (typeIs_str s b u) PySem.F.entry_str_eq (PySem.F.args_str_eq_2 _ _) (str_eq_declines b u l _ _ _ _ _) ⟨ho, hq⟩)
    (fun _ hq => dict_eq_declines ⟨_, ho, rfl⟩ hq)
    (fun _ hq => wpAny_of_eq (rfl : isSame (.str b u) (.ref l) = pure false) hq) (.inr hu) h
theorem eq_dict_str {l : Addr} {o : Obj} {es : Array DictEntry} {n : Nat} (b : Str) (u : Tok) (ho : s.heap.get? l = some o) (hc : o.cls = .type "dict") (hd : o.data = .dict es n) (hu : A.units < cLine) : SeqAt.EqAt A s (.ref l) (.str b u) false := fun prog w E Q h => by
  obtain ⟨c, dd, dt, sl⟩ := o
  simp only at hc hd
  subst hc hd
  unfold eqBool
  refine wpAny_holding (wpAny_ite_split (fun z => absurd (eq_of_beq z) nofun) fun _ => ?_)
  exact wpAny_bind (rc_dict_str b u ho hu prog w E _ (wpAny_truthy_bool h))
theorem eq_str_dict {l : Addr} {o : Obj} {es : Array DictEntry} {n : Nat} (b : Str) (u : Tok) (ho : s.heap.get? l = some o) (hc : o.cls = .type "dict") (hd : o.data = .dict es n) (hu : A.units < cLine) : SeqAt.EqAt A s (.str b u) (.ref l) false := fun prog w E Q h => by
  obtain ⟨c, dd, dt, sl⟩ := o
  simp only at hc hd
  subst hc hd
  unfold eqBool
  refine wpAny_holding (wpAny_ite_split (fun z => absurd (eq_of_beq z) nofun) fun _ => ?_)
  exact wpAny_bind (rc_str_dict b u ho hu prog w E _ (wpAny_truthy_bool h))
end

/-! ### in a list, not in: some answer -/
/-- two data that == tells apart, or not -/
inductive Cmp : Dt → Dt → Prop
  | seq {d e : Dt} (h1 : d.seqs = true) (h2 : e.seqs = true) (l1 : d.py.canLay0 = true) (l2 : e.py.canLay0 = true) (z : d.py.depth ≤ 30) : Cmp d e
  | ds {a : Addr} {kvs : List (Key × Dt)} {x : Str} : Cmp (.dct a kvs) (.str x)
  | sd {a : Addr} {kvs : List (Key × Dt)} {x : Str} : Cmp (.str x) (.dct a kvs)
  | dd {a : Addr} {kvs kws : List (Key × Dt)} : Cmp (.dct a kvs) (.dct a kws)
def rInAny (K : PySem.W.Frag) : R2 := fun x y H Q => ∃ d ds, DX K H x d ∧ DX K H y (.lst ds) ∧ (∀ e ∈ ds, Cmp e d) ∧ ∀ b, Q (.bl b) H
section
variable {X : Cx}
theorem cmp_at {pins : List (Addr × Obj)} {σ : L2.St} {H : Hp} {s : Shared} (I : Inv X pins σ H s) {A : Around} (hu : A.units + 40 < cLine) {e d : Dt} {x y : V} {u v : Value} (c : Cmp e d) (hx : DX X.K H x e) (hy : DX X.K H y d) (rx : RelV x u) (ry : RelV y v) :
    ∃ b, SeqAt.EqAt A s u v b := by
  cases c with
  | seq h1 h2 l1 l2 z =>
    obtain ⟨as, r1⟩ := Dp.reads I _ _ _ (hx.dp h1) rx
    obtain ⟨bs, r2⟩ := Dp.reads I _ _ _ (hy.dp h2) ry
    have one : ReadsAll s.heap [u] [e.py] (as ++ []) := .cons r1 .nil
    have q := SeqAt.items_eqAt (A := A) (vs := #[u]) one r2 (by simp [PyData.canLayAll0, l1]) l2 (by simp only [PyData.depthAll]; omega) u (by simp)
    exact ⟨_, q.of_in1⟩
  | ds =>
    cases hx with
    | dct hs _ =>
      cases rx
      obtain ⟨t, rfl⟩ : ∃ t, v = Value.str _ t := by cases hy; exact ry
      obtain ⟨_, _, _, _, o, _, _, ho, hex, hdat, _⟩ := I.hok _ _ hs
      exact ⟨false, eq_dict_str _ t ho hex.1 hdat (by omega)⟩
  | sd =>
    cases hy with
    | dct hs _ =>
      cases ry
      obtain ⟨t, rfl⟩ : ∃ t, u = Value.str _ t := by cases hx; exact rx
      obtain ⟨_, _, _, _, o, _, _, ho, hex, hdat, _⟩ := I.hok _ _ hs
      exact ⟨false, eq_str_dict _ t ho hex.1 hdat (by omega)⟩
  | dd =>
    cases hx
    cases hy
    cases rx
    cases ry
    exact ⟨true, SeqAt.EqAt.same _⟩
theorem cmp_items {pins : List (Addr × Obj)} {σ : L2.St} {H : Hp} {s : Shared} (I : Inv X pins σ H s) {A : Around} (hu : A.units + 40 < cLine) {d : Dt} {y : V} {v : Value} (hy : DX X.K H y d) (ry : RelV y v) :
    ∀ {ds : List Dt} {xs : List V} {us : List Value}, (∀ e ∈ ds, Cmp e d) → DXs X.K H xs ds → Vals xs us → ∀ u ∈ us, ∃ b, SeqAt.EqAt A s u v b
  | [], _, _, _, h, r => by
    cases h
    cases r
    intro u hu'
    cases hu'
  | e :: ds, _, _, c, h, r => by
    cases h with
    | cons h1 h2 =>
      cases r with
      | cons r1 r2 =>
        intro u hm
        rcases List.mem_cons.mp hm with z | z
        · rw [z]; exact cmp_at I hu (c e List.mem_cons_self) h1 hy r1 ry
        · exact cmp_items I hu hy ry (fun e' he' => c e' (List.mem_cons_of_mem _ he')) h2 r2 u z
open Classical in
theorem pick_eq {A : Around} {s : Shared} {v : Value} {us : List Value} (h : ∀ u ∈ us, ∃ b, SeqAt.EqAt A s u v b) : ∃ e : Value → Bool, ∀ u ∈ us, SeqAt.EqAt A s u v (e u) :=
  ⟨fun u => if z : ∃ b, SeqAt.EqAt A s u v b then z.choose else false, fun u hu => by
    have z := h u hu
    show SeqAt.EqAt A s u v (dite _ _ _)
    rw [dif_pos z]
    exact z.choose_spec⟩
theorem op_inAny (hu : X.A.units + 64 < cLine) : OpR X (compareOp .In) (rInAny X.K) := by
  intro pins s σ H x y v u Q I rx ry h
  obtain ⟨d, ds, hx, hy, c, q⟩ := h
  cases hy with
  | lst hs ha =>
    cases ry
    obtain ⟨its, rv, hl, _⟩ := I.list hs
    obtain ⟨e, he⟩ := pick_eq (cmp_items I (A := X.A.in1) (by show X.A.units + 1 + 40 < cLine; omega) hx rx c ha rv)
    exact SeqAt.in_listAt e hl.isList (fun z hz => he z (by simpa using hz)) ⟨.bl _, H, I, rfl, q _⟩
theorem op_notInAny (hu : X.A.units + 64 < cLine) : OpR X (compareOp .NotIn) (rInAny X.K) := by
  intro pins s σ H x y v u Q I rx ry h
  obtain ⟨d, ds, hx, hy, c, q⟩ := h
  cases hy with
  | lst hs ha =>
    cases ry
    obtain ⟨its, rv, hl, _⟩ := I.list hs
    obtain ⟨e, he⟩ := pick_eq (cmp_items I (A := X.A.in1) (by show X.A.units + 1 + 40 < cLine; omega) hx rx c ha rv)
    exact SeqAt.notIn_listAt e hl.isList (fun z hz => he z (by simpa using hz)) ⟨.bl _, H, I, rfl, q _⟩
/-! ### == and != against the empty list, the empty tuple -/
def rEqNil (K : PySem.W.Frag) : R2 := fun x y H Q => ∃ a b xs, x = .ref a ∧ y = .ref b ∧ SqL K H a xs ∧ SqL K H b [] ∧ Q (.bl xs.isEmpty) H
def rNeNil (K : PySem.W.Frag) : R2 := fun x y H Q => ∃ a b xs, x = .ref a ∧ y = .ref b ∧ SqL K H a xs ∧ SqL K H b [] ∧ Q (.bl (!xs.isEmpty)) H
theorem op_eqNil (hu : X.A.units + 64 < cLine) : OpR X (compareOp .Eq) (rEqNil X.K) := by
  intro pins s σ H x y v u Q I rx ry h
  obtain ⟨a, b, xs, rfl, rfl, hs, ht, q⟩ := h
  cases rx
  cases ry
  obtain ⟨its, rv, hl, _⟩ := I.list hs
  obtain ⟨its2, rv2, hl2, _⟩ := I.list ht
  cases rv2
  cases rv with
  | nil => exact SeqAt.eq_listAt (e := fun _ => true) hl.isList hl2.isList rfl (by omega) (fun j h1 => absurd h1 (by simp)) ⟨.bl _, H, I, rfl, q⟩
  | cons r1 r2 => exact SeqAt.eq_list_lengthsAt hl.isList hl2.isList (by simp) (by omega) ⟨.bl _, H, I, rfl, q⟩
theorem op_neNil (hu : X.A.units + 64 < cLine) : OpR X (compareOp .NotEq) (rNeNil X.K) := by
  intro pins s σ H x y v u Q I rx ry h
  obtain ⟨a, b, xs, rfl, rfl, hs, ht, q⟩ := h
  cases rx
  cases ry
  obtain ⟨its, rv, hl, _⟩ := I.list hs
  obtain ⟨its2, rv2, hl2, _⟩ := I.list ht
  cases rv2
  cases rv with
  | nil => exact SeqAt.RcNeAt.lists (e := fun _ => true) hl.isList hl2.isList rfl (by omega) (fun j h1 => absurd h1 (by simp)) _ _ _ _ ⟨.bl _, H, I, rfl, q⟩
  | cons r1 r2 => exact SeqAt.RcNeAt.lists_lengths hl.isList hl2.isList (by simp) (by omega) _ _ _ _ ⟨.bl _, H, I, rfl, q⟩
def rEqTNil (K : PySem.W.Frag) : R2 := fun x y H Q => ∃ a b xs, x = .ref a ∧ y = .ref b ∧ SqT K H a xs ∧ SqT K H b [] ∧ Q (.bl xs.isEmpty) H
theorem op_eqTNil (hu : X.A.units + 64 < cLine) : OpR X (compareOp .Eq) (rEqTNil X.K) := by
  intro pins s σ H x y v u Q I rx ry h
  obtain ⟨a, b, xs, rfl, rfl, hs, ht, q⟩ := h
  cases rx
  cases ry
  obtain ⟨its, rv, hl, _⟩ := I.tuple hs
  obtain ⟨its2, rv2, hl2, _⟩ := I.tuple ht
  cases rv2
  refine SeqAt.eq_tupleAt (e := fun _ => true) hl hl2 (by omega) (fun j h1 h2 => absurd h2 (by simp)) ⟨.bl _, H, I, ?_, q⟩
  cases rv with
  | nil => rfl
  | cons r1 r2 => show _ = Value.bool _; simp
end
section
variable {K : PySem.W.Frag} {Ψ : Dt → Prop} {d : Dt} {ds es : List Dt}
theorem od_eqNil (h : Ψ (.bl ds.isEmpty)) : OD K (rEqNil K) (.lst ds) (.lst []) Ψ := fun M H u v m h1 h2 Q q => by
  cases h1 with
  | lst hs ha =>
    cases h2 with
    | lst ht hb =>
      cases hb
      have e := ha.len
      refine ⟨_, _, _, rfl, rfl, (cut_sub M H).seq hs, (cut_sub M H).seq ht, ?_⟩
      cases ha with
      | nil => exact q _ H _ (Same.refl H) (.bl _) h
      | cons _ _ => exact q _ H _ (Same.refl H) (.bl _) h
theorem od_neNil (h : Ψ (.bl (!ds.isEmpty))) : OD K (rNeNil K) (.lst ds) (.lst []) Ψ := fun M H u v m h1 h2 Q q => by
  cases h1 with
  | lst hs ha =>
    cases h2 with
    | lst ht hb =>
      cases hb
      refine ⟨_, _, _, rfl, rfl, (cut_sub M H).seq hs, (cut_sub M H).seq ht, ?_⟩
      cases ha with
      | nil => exact q _ H _ (Same.refl H) (.bl _) h
      | cons _ _ => exact q _ H _ (Same.refl H) (.bl _) h
theorem od_eqTNil (h : Ψ (.bl ds.isEmpty)) : OD K (rEqTNil K) (.tup ds) (.tup []) Ψ := fun M H u v m h1 h2 Q q => by
  cases h1 with
  | tup hs ha =>
    cases h2 with
    | tup ht hb =>
      cases hb
      refine ⟨_, _, _, rfl, rfl, same_T (cut_sub M H) hs, same_T (cut_sub M H) ht, ?_⟩
      cases ha with
      | nil => exact q _ H _ (Same.refl H) (.bl _) h
      | cons _ _ => exact q _ H _ (Same.refl H) (.bl _) h
theorem od_inAny (c : ∀ e ∈ ds, Cmp e d) (h : ∀ b, Ψ (.bl b)) : OD K (rInAny K) d (.lst ds) Ψ := fun M H u v m h1 h2 Q q =>
  ⟨d, ds, h1.mono (cut_sub M H), h2.mono (cut_sub M H), c, fun b => q _ H _ (Same.refl H) (.bl b) (h b)⟩
/-- a text among texts -/
theorem flat_strs' : ∀ xs : List Str, (xs.map V.str).all flatV = true
  | [] => rfl
  | _ :: xs => flat_strs' xs
theorem inV_strs (x : Str) : ∀ xs : List Str, inV (.str x) (xs.map V.str) = decide (x ∈ xs)
  | [] => rfl
  | y :: ys => by
    have ih := inV_strs x ys
    show (eqV (.str y) (.str x) || inV (.str x) (ys.map V.str)) = _
    rw [ih]
    show ((y == x) || _) = _
    by_cases e : y = x
    · subst e; simp
    · rw [beq_eq_false_iff_ne.mpr e, Bool.false_or]
      exact decide_eq_decide.mpr ⟨fun h => List.mem_cons_of_mem _ h, fun h => by
        rcases List.mem_cons.mp h with z | z
        · exact absurd z.symm e
        · exact z⟩
theorem od_inS {neg : Bool} {x : Str} {xs : List Str} {d : Dt} (hs : seqD d = some (xs.map Dt.str)) (h : Ψ (.bl (if neg then !decide (x ∈ xs) else decide (x ∈ xs)))) : OD K (rIn K neg) (.str x) d Ψ := fun M H u v m h1 h2 Q q => by
  rw [h1.str_eq]
  have fin : ∀ p, (SqL K H p (xs.map V.str) ∨ SqT K H p (xs.map V.str)) → rIn K neg (.str x) (.ref p) H Q := fun p hp =>
    ⟨p, _, rfl, hp, rfl, flat_strs' xs, by rw [inV_strs]; exact q _ H _ (Same.refl H) (.bl _) h⟩
  cases h2 with
  | lst hs' ha => cases hs; rw [ha.strs] at hs'; exact fin _ (.inl ((cut_sub M H).seq hs'))
  | tup hs' ha => cases hs; rw [ha.strs] at hs'; exact fin _ (.inr (same_T (cut_sub M H) hs'))
  | _ => cases hs
/-- any datum among texts, flat ones -/
theorem od_inF {neg : Bool} {vs : List V} {x : V} {xs : List Dt} {d e : Dt} (hs : seqD e = some xs) (hx : ∀ H, DX K H x d) (hxs : ∀ H ws, DXs K H ws xs → ws = vs) (f1 : flatV x = true) (f2 : vs.all flatV = true) (hd : ∀ H w, DX K H w d → w = x)
    (h : Ψ (.bl (if neg then !inV x vs else inV x vs))) : OD K (rIn K neg) d e Ψ := fun M H u v m h1 h2 Q q => by
  rw [hd _ _ h1]
  have fin : ∀ p, (SqL K H p vs ∨ SqT K H p vs) → rIn K neg x (.ref p) H Q := fun p hp => ⟨p, _, rfl, hp, f1, f2, q _ H _ (Same.refl H) (.bl _) h⟩
  cases h2 with
  | lst hs' ha => cases hs; rw [hxs _ _ ha] at hs'; exact fin _ (.inl ((cut_sub M H).seq hs'))
  | tup hs' ha => cases hs; rw [hxs _ _ ha] at hs'; exact fin _ (.inr (same_T (cut_sub M H) hs'))
  | _ => cases hs

/-! ### methods of texts with one argument; join -/
def MD (K : PySem.W.Frag) (r : V → List V → Hp → VK → Prop) (d e : Dt) (Ψ : Dt → Prop) : Prop :=
  ∀ (M : Md) (H : Hp) (x y : V), MOk M H → DX K (cut M H) x d → DX K (cut M H) y e → ∀ Q : VK, (∀ v H2 d, Same H H2 → DX K (cut M H2) v d → Ψ d → Q v H2) → r x [y] H Q
variable {pf : Bool} {ρ : List Sl} {ta te : TE} {Φ : Dt → List Sl → Prop}
theorem w_m1 {r : V → List V → Hp → VK → Prop} (h : Wp K pf ta ρ fun d ρ1 => (∃ z, d = .str z) ∧ Wp K pf te ρ1 fun e ρ2 => MD K r d e fun g => Φ g ρ2) : Wp K pf (tM1 r ta te) ρ Φ := fun M σ H S Q q =>
  h M σ H S _ fun v H1 d ρ1 s1 S1 x1 ⟨⟨z, ez⟩, k⟩ => by
    subst ez
    refine ⟨⟨z, x1.str_eq⟩, k M σ H1 S1 _ fun v2 H2 e ρ2 s2 S2 x2 k2 => ?_⟩
    exact k2 M H2 v v2 S2.mok (x1.mono s2.dx) x2 _ fun w H3 g e3 x3 f => q w H3 g ρ2 ((s1.trans s2).trans (Tr.same pf M e3)) (S2.same e3) x3 f
theorem md_join {z : Str} {xs : List Str} (hs : seqD d = some (xs.map Dt.str)) (hz : (xs.map (·.length)).sum + xs.length * z.length ≤ 16777216) (h : Ψ (.str (Txt.join z xs))) :
    MD K (fun x xs H Q => ∃ a p, ∃ ys : List Str, x = .str a ∧ xs = [.ref p] ∧ (SqL K H p (ys.map V.str) ∨ SqT K H p (ys.map V.str)) ∧ (ys.map (·.length)).sum + ys.length * a.length ≤ 16777216 ∧ Q (.str (Txt.join a ys)) H) (.str z) d Ψ := fun M H u v m h1 h2 Q q => by
  rw [h1.str_eq]
  cases h2 with
  | lst hs' ha => cases hs; rw [ha.strs] at hs'; exact ⟨z, _, xs, rfl, rfl, .inl ((cut_sub M H).seq hs'), hz, q _ H _ (Same.refl H) (.str _) h⟩
  | tup hs' ha => cases hs; rw [ha.strs] at hs'; exact ⟨z, _, xs, rfl, rfl, .inr (same_T (cut_sub M H) hs'), hz, q _ H _ (Same.refl H) (.str _) h⟩
  | _ => cases hs
/-! ### displays of dicts -/
theorem w_dnewK (h : ∀ a, Φ (.dct a []) ρ) : Wp K pf tDNewK ρ Φ := fun M σ H S Q q p hp =>
  q (.ref p) _ (.dct p []) ρ (Tr.same pf M (same_new hp)) (S.same (same_new hp)) (.dct (cut_at (S.mok.new hp) upd_same) .nil) (h p)
/-- one written pair of a text and a flat datum or a list .. that is told by Wp -/
theorem w_disp1 {k : Str} (h : Wp K true te ρ fun d ρ1 => ∀ a, Φ (.dct a [(.inr k, d)]) ρ) : Wp K pf (tDisp [(tC (.str k), te)]) ρ Φ := fun M σ H S Q q p hp => by
  have S1 := S.aside (o := .dK []) hp (same_new hp) upd_same
  refine h { M with F := p :: M.F } σ _ S1 _ fun v H2 d ρ' s S2 x f => ⟨s.sm rfl p _ upd_same, [(.inr k, v)], rfl, by show 1 ≤ 15; decide, ?_⟩
  have e : mergeK [] [((.inr k : Key), v)] = [((.inr k : Key), v)] := rfl
  rw [e]
  have all : Same H (upd H2 p (.dK [((.inr k : Key), v)])) := fun a u z => by
    rw [upd_ne (ne_of_none z hp)]
    exact s.sm rfl a u (by rw [upd_ne (ne_of_none z hp)]; exact z)
  have x' : DX K (cut M (upd H2 p (.dK [((.inr k : Key), v)]))) v d := x.mono fun a u z => by
    obtain ⟨c, y⟩ := cut_of z
    have na : a ≠ p := fun n => c (.inr (.inl (by rw [n]; exact List.mem_cons_self)))
    exact cut_at (fun t => c (has_aside a t)) (by rw [upd_ne na]; exact y)
  exact q (.ref p) _ (.dct p [(.inr k, d)]) ρ (Tr.same pf M all) (S.same all) (.dct (cut_at (S.mok.new hp) upd_same) (.cons x' .nil)) (f p)
end
end DL

/-! set(t) of a tuple of texts, its length. -/
namespace DL
open PySem PySem.Spec PyProof.Rows L2

/-- one text more, if it isn't there -/
def addU (acc : List Str) (x : Str) : List Str := if x ∈ acc then acc else acc ++ [x]
def uniq (xs : List Str) : List Str := xs.foldl addU []
theorem uniq_snoc (xs : List Str) (x : Str) : uniq (xs ++ [x]) = addU (uniq xs) x := by
  unfold uniq
  rw [List.foldl_append]
  rfl
theorem uniq_mem (xs : List Str) (y : Str) : y ∈ uniq xs ↔ y ∈ xs := by
  have go : ∀ (r acc : List Str), y ∈ r.foldl addU acc ↔ y ∈ acc ∨ y ∈ r := by
    intro r
    induction r with
    | nil => intro acc; simp
    | cons x r ih =>
      intro acc
      rw [List.foldl_cons, ih]
      unfold addU
      by_cases c : x ∈ acc
      · rw [if_pos c]
        constructor
        · rintro (h | h)
          · exact .inl h
          · exact .inr (List.mem_cons_of_mem _ h)
        · rintro (h | h)
          · exact .inl h
          · rcases List.mem_cons.mp h with e | h
            · exact .inl (by rw [e]; exact c)
            · exact .inr h
      · rw [if_neg c, List.mem_append, List.mem_singleton, List.mem_cons, or_assoc]
  rw [show uniq xs = xs.foldl addU [] from rfl, go xs []]
  simp
theorem uniq_le : ∀ (r acc : List Str), (r.foldl addU acc).length ≤ acc.length + r.length
  | [], acc => Nat.le_refl _
  | x :: r, acc => by
    rw [List.foldl_cons]
    have h := uniq_le r (addU acc x)
    have h2 : (addU acc x).length ≤ acc.length + 1 := by
      unfold addU
      split
      · omega
      · rw [List.length_append, List.length_singleton]; exact Nat.le_refl _
    rw [List.length_cons]
    omega
theorem uniq_len (xs : List Str) : (uniq xs).length ≤ xs.length := by
  have := uniq_le xs []
  simpa [uniq] using this
theorem uniq_nodup (xs : List Str) : (uniq xs).length = xs.length ↔ xs.Nodup := by
  have go : ∀ (r acc : List Str), (r.foldl addU acc).length = acc.length + r.length ↔ (∀ x ∈ r, x ∉ acc) ∧ r.Nodup := by
    intro r
    induction r with
    | nil => intro acc; simp
    | cons x r ih =>
      intro acc
      rw [List.foldl_cons, List.length_cons, List.nodup_cons]
      by_cases c : x ∈ acc
      · have e : addU acc x = acc := if_pos c
        rw [e]
        have h := uniq_le r acc
        constructor
        · intro z; omega
        · intro z; exact absurd c (z.1 x List.mem_cons_self)
      · have e : addU acc x = acc ++ [x] := if_neg c
        have h := ih (acc ++ [x])
        rw [List.length_append, List.length_singleton] at h
        rw [e, show acc.length + (r.length + 1) = acc.length + 1 + r.length by omega, h]
        constructor
        · rintro ⟨h1, h2⟩
          refine ⟨fun y hy => ?_, fun hx => h1 x hx (by simp), h2⟩
          rcases List.mem_cons.mp hy with e | hy
          · rw [e]; exact c
          · exact fun z => h1 y hy (List.mem_append_left _ z)
        · rintro ⟨h1, h2, h3⟩
          refine ⟨fun y hy z => ?_, h3⟩
          rcases List.mem_append.mp z with z | z
          · exact h1 y (List.mem_cons_of_mem _ hy) z
          · rw [List.mem_singleton.mp z] at hy; exact h2 hy
  have h := go xs []
  simpa [uniq] using h

section
variable {P : Program} {w : World} {A : Around} {E : Value → Shared → Prop} {s : Shared}
/-- the set at S holds just the texts of xs -/
abbrev SetS (P : Program) (w : World) (h : Heap) (S : Addr) (xs : List Str) : Prop := h.SetOf (PySem.strKind P w) S (fun j => decide (j ∈ xs)) (uniq xs).length
theorem SetS.at {h h' : Heap} {S : Addr} {xs : List Str} (q : SetS P w h S xs) (k : ∀ o, h.get? S = some o → h'.get? S = some o) : SetS P w h' S xs := by
  obtain ⟨o, es, ep, t, ho, r⟩ := q
  exact ⟨o, es, ep, t, k o ho, r⟩
theorem addS {h : Heap} {S : Addr} {xs : List Str} {x : Str} (q : h.SetOf (PySem.strKind P w) S (fun j => decide (j ∈ xs) || decide (j = x)) (if decide (x ∈ xs) = true then (uniq xs).length else (uniq xs).length + 1)) : SetS P w h S (xs ++ [x]) := by
  have e1 : (fun j : Str => decide (j ∈ xs) || decide (j = x)) = fun j => decide (j ∈ xs ++ [x]) := by
    funext j
    simp
  have e2 : (if decide (x ∈ xs) = true then (uniq xs).length else (uniq xs).length + 1) = (uniq (xs ++ [x])).length := by
    rw [uniq_snoc]
    unfold addU
    by_cases c : x ∈ xs
    · rw [if_pos (decide_eq_true c), if_pos ((uniq_mem xs x).mpr c)]
    · rw [if_neg (by rw [decide_eq_false c]; exact Bool.false_ne_true), if_neg fun z => c ((uniq_mem xs x).mp z), List.length_append, List.length_singleton]
  rw [e1, e2] at q
  exact q
theorem fillS {I : Addr} {fp wr : List Addr} {G : Array GenState → Array GenState → Prop} {n : Nat} {Pv : Nat → Value → Prop} {St : Nat → Shared → Prop} {R : Result → Shared → Prop}
    (W : WalksS P w A.in1 I fp wr G n Pv St) (S : Addr) (hSf : S ∉ fp) (xs : List Str) (hn : n = xs.length)
    (hb : xs.length + 1 < scanBound) (hval : ∀ i v, Pv i v → ∃ x t, xs[i]? = some x ∧ v = .str x t) :
    ∀ (m i : Nat) (s : Shared), n - i = m → i ≤ n → St i s → SetS P w s.heap S (xs.take i) →
      (∀ s', Moved (S :: wr) G s s' → SetS P w s'.heap S xs → R (.ok (.ret .none)) s') →
      codeAny (model P w) A (.builtin "set.update.loop" ⟨[.ref S, .ref I], []⟩) R s := by
  have out : S ∉ wr := fun z => hSf (W.sub _ z)
  have more : ∀ b ∈ wr, b ∈ S :: wr := fun b z => List.mem_cons_of_mem _ z
  intro m
  induction m with
  | zero =>
    intro i s hm hi st q k
    obtain rfl : i = n := by omega
    rw [List.take_of_length_le (by omega)] at q
    refine codeAny_builtin F.entry_set_update_loop ?_
    rw [Around.under_plainId F.plain_set_update_loop _]
    refine wpAny_bind (m := pyNext (.ref I)) (W.done s _ _ st fun s' mv => ?_)
    exact wpAny_pure (k s' (mv.mono more) (q.at fun o e => mv.heap S o out e))
  | succ m ih =>
    intro i s hm hi st q k
    have lt : i < n := by omega
    refine codeAny_builtin F.entry_set_update_loop ?_
    rw [Around.under_plainId F.plain_set_update_loop _]
    refine wpAny_bind (m := pyNext (.ref I)) (W.item i s _ _ lt st fun v s' hP st' mv => ?_)
    obtain ⟨x, t, hx, rfl⟩ := hval i v hP
    have q' := q.at (h' := s'.heap) fun o e => mv.heap S o out e
    refine wpAny_bind (m := holding [Value.str x t] (setAdd S (.str x t))) (wpAny_holding ?_)
    unfold setAdd
    refine wpAny_holding (wpAny_bind ((PySem.strKind P w).pyHash (k := x) (strKind_is _ _ _ _) ?_))
    have room : (uniq (xs.take i)).length + 1 < scanBound := by
      have := uniq_len (xs.take i)
      rw [List.length_take] at this
      omega
    refine wpAny_setAddHashed_of (knd := PySem.strKind P w) (s := { s' with toks := s'.toks + 1 }) (strKind_is _ _ _ _) rfl q' room fun h' sb q2 => ?_
    have q3 : SetS P w h' S (xs.take (i + 1)) := by
      rw [List.take_add_one, hx]
      exact addS q2
    have off : ∀ b ∈ fp, b ≠ S := fun b z e => hSf (by rw [← e]; exact z)
    refine wpAny_pure ⟨plainId_quiet F.plain_set_update_loop _, ih (i + 1) _ (by omega) lt (W.frame _ s' _ _ st' (Nat.le_succ _) ?_) q3 ?_⟩
    · intro b z o e
      rw [sb.2 b (off b z)]; exact e
    · intro s2 mv2 q4
      refine k s2 (Moved.trans W.gtrans ((mv.mono more).then_heap (Nat.le_succ _) fun b o z e => ?_) mv2) q4
      rw [sb.2 b fun y => z (by rw [y]; exact List.mem_cons_self)]; exact e
/-- an empty set, just made -/
def objS (w : World) : Obj := { cls := .type "set", dict := none, data := .set #[] 0 (.fresh 0 0 (!w.params.followText "set-order")) }
set_option maxHeartbeats 3200000 in
theorem call_setS {l : Addr} {items : Array Value} (xs : List Str) {Q : Value → Shared → Prop} (hh : A.handled = none) (hl : s.heap.IsTuple l items)
    (hit : ∀ (i : Nat) (v : Value), items[i]? = some v → ∃ x t, xs[i]? = some x ∧ v = Value.str x t) (hz : items.size = xs.length) (hb : xs.length + 1 < scanBound)
    (h : ∀ (h' : Heap) (tk : Nat), SetS P w h' s.heap.objs.size xs → (∀ b o, s.heap.get? b = some o → h'.get? b = some o) → Q (.ref s.heap.objs.size) { s with heap := h', toks := tk }) :
    wpAny (model P w) A (call (.type "set") [.ref l]) Q E s := by
  obtain ⟨c, tl, hmro⟩ := F.called_set.mro
  have made := F.called_set.made
  have sub := F.called_set.sub
  refine wpAny_call (codeAny_of_tree (wpAny_pure ⟨Code.quiet_builtin _ (by decide +kernel), codeAny_builtin F.entry_type_call ?_⟩))
  rw [Around.under_plain (weight_type_call_type "set" [.ref l] []) rfl]
  have n1 := F.called_set.notType
  have n2 := F.called_set.canCreate
  have n3 := F.typeCall_set_1 (.ref l)
  repeat (any_goals (first | assumption | wp_step))
  refine codeAny_mono (code_set_led1 (.ref l) (E := E) (Q₁ := fun obj s₁ => obj = .ref s.heap.objs.size ∧ s₁ = { s with heap := s.heap.push (objS w) }) ⟨rfl, rfl⟩) ?_
  intro r s₁ hr
  cases r with
  | error e => exact hr
  | ok fl =>
    cases fl with
    | next => exact hr.elim
    | brk => exact hr.elim
    | cont => exact hr.elim
    | ret obj =>
      obtain ⟨rfl, rfl⟩ := hr
      have hS : (s.heap.push (objS w)).get? s.heap.objs.size = some (objS w) := Heap.get?_push_size _ rfl
      have hT : Shared.TypeIs { s with heap := s.heap.push (objS w) } (.ref s.heap.objs.size) "set" := ⟨_, hS, rfl⟩
      have i1 := F.called_set.init.lookup
      have i2 := F.called_set.init.bind (.ref s.heap.objs.size)
      repeat (any_goals (first | assumption | wp_step))
      refine codeAny_mono (codeAny_call_builtin (R := wants (fun r s₂ => r = .none ∧ ∃ h' tk, s₂ = { s with heap := h', toks := tk } ∧ SetS P w h' s.heap.objs.size xs ∧
        (∀ b o, s.heap.get? b = some o → h'.get? b = some o)) E) F.called_set.init.plain F.entry_set_init (check_set_init_1 hT ?_)) ?_
      · obtain ⟨⟨oc, od, odt, osl⟩, hol, hcl, nl, hdl⟩ := hl
        simp only at hcl hdl
        subst hcl hdl
        have hol' := Heap.get?_push_of_some (objS w) hol
        have t1 := F.sub_tuple_set
        have t2 := F.sub_tuple_frozenset
        have t3 : (Value.type "tuple" == Value.type "dict") = false := by decide
        have hl1 : (s.heap.push (objS w)).IsTuple l items := ⟨_, hol', rfl, nl, rfl⟩
        unfold Builtin.«set.__init__» noKeywords Builtin.Frozenset.updateFrom
        generalize hPI : pyIter = PI
        wp_walk
        subst hPI
        refine wpAny_pyIter_tuple hl1 (wpAny_bind (wpAny_runValue ?_))
        have small := Heap.lt_size hol
        have far : l ≠ (s.heap.push (objS w)).objs.size := by rw [Heap.size_push]; exact Nat.ne_of_lt (Nat.lt_succ_of_lt small)
        have away : s.heap.objs.size ∉ [(s.heap.push (objS w)).objs.size, l] := by
          rw [Heap.size_push]
          simp only [List.mem_cons, List.not_mem_nil, or_false, not_or]
          exact ⟨Nat.ne_of_lt (Nat.lt_succ_self _), Nat.ne_of_gt small⟩
        have h3 : A.in1.in1.in1.handled = none := by simp [hh]
        refine fillS ((Walks.tuple h3 _ l far items).toS) s.heap.objs.size away xs hz hb hit (items.size - 0) 0 _ (by omega) (Nat.zero_le _) ⟨⟨_, Heap.get?_push_size _ rfl, rfl, rfl⟩, hl1.push _⟩ ?_ ?_
        · have hget := Heap.get?_push_of_some { cls := .type "tuple_iterator", data := .fields #[.ref l, .int 0 0] } hS
          have z := (setObjOf_fresh (knd := PySem.strKind P w) (!w.params.followText "set-order")).setOf hget (by unfold scanBound; omega)
          have e : (fun _ : Str => false) = fun j => decide (j ∈ xs.take 0) := by funext j; simp
          rw [e] at z
          exact z
        · rintro ⟨h', g2, d', tk', os'⟩ mv q
          obtain rfl : g2 = s.gens := mv.gens
          obtain rfl : d' = s.drawn := mv.drawn
          obtain rfl : os' = s.os := mv.os
          refine wpAny_pure ?_
          show wpAny _ _ (ret Value.none) _ _ _
          refine wpAny_pure ⟨rfl, h', tk', rfl, q, fun b o e => ?_⟩
          have b0 := Heap.lt_size e
          refine mv.heap b o ?_ (Heap.get?_push_of_some _ (Heap.get?_push_of_some _ e))
          simp only [List.mem_cons, List.not_mem_nil, or_false, not_or]
          refine ⟨Nat.ne_of_lt b0, ?_⟩
          rw [Heap.size_push]; exact Nat.ne_of_lt (Nat.lt_succ_of_lt b0)
      · intro r₂ s₂ hr₂
        cases r₂ with
        | error e => exact hr₂
        | ok fl₂ =>
          cases fl₂ with
          | next => exact hr₂.elim
          | brk => exact hr₂.elim
          | cont => exact hr₂.elim
          | ret r =>
            obtain ⟨rfl, h', tk, rfl, q, keep⟩ := hr₂
            repeat (any_goals (first | assumption | wp_step))
            exact h _ _ q keep
end
/-! ### len(set(t)) -/
def tLenS (K : PySem.W.Frag) (ta : TE) : TE := fun σ H Q => ta σ H fun x H1 => ∃ (l : Addr) (xs : List Str), x = .ref l ∧ SqT K H1 l (xs.map V.str) ∧ xs.length ≤ 1000 ∧ Q (.int ((uniq xs).length : Nat)) H1
theorem pe_lenS {X : Cx} {a : Expr} {ta : TE} {p p2 q pos : Pos} (hc : X.calm = true) (hg : Gl X "len") (hm : X.mg "len" = none) (hg2 : Gl X "set") (hm2 : X.mg "set" = none) (ha : PE X a ta)
    (na : starEach [a] X.env = (false, eval a X.env) :: starEach [] X.env := by rfl) :
    PE X (.Call (.Name "len" p) [.Call (.Name "set" p2) [a] [] q] [] pos) (tLenS X.K ta) := by
  constructor
  intro pins s σ H Q I h
  refine Call_ (ld_blt I hg hm boot_len (PyProof.Rows.callWith_builtin1 (PyProof.Rows.args_cons ?_ rfl) rfl rfl))
  refine Call_ (ld_blt I hg2 hm2 boot_set (PyProof.Rows.callWith_type1 (PyProof.Rows.args_cons ?_ na) na rfl))
  refine thn (ha.run pins s σ H _ I h) ?_
  intro v s1 ⟨x, H1, I1, r1, l, xs, ex, hq, hz, q1⟩
  subst ex
  cases r1
  refine PyProof.Rows.args_nil ?_
  obtain ⟨its, r, ht, _⟩ := I1.tuple hq
  have hl : its.toArray.size = xs.length := by rw [List.size_toArray, ← r.length, List.length_map]
  refine call_setS xs (I1.ok.hd hc) ht ?_ hl (by unfold scanBound; omega) ?_
  · intro i v e
    have e' : its[i]? = some v := by simpa using e
    have hi : i < xs.length := by rw [← hl]; exact (Array.getElem?_eq_some_iff.mp e).1
    obtain ⟨u, hu, t, hu'⟩ := r.get (i := i) (x := .str xs[i]) (by simp [hi])
    rw [e'] at hu
    exact ⟨xs[i], t, List.getElem?_eq_getElem hi, (Option.some.inj hu).trans hu'⟩
  · intro h' tk hS hk
    refine PyProof.Rows.args_nil ?_
    obtain ⟨o, es, ep, t, ho, hex, hd, _, _, _, hf, hn⟩ := hS
    have I2 : Inv X pins σ H1 { s1 with heap := h', toks := tk } := I1.kept hk
    have := uniq_len xs
    exact call_len_set ho hex hd hf (by rw [hn]; omega) ⟨.int (uniq xs).length, H1, I2.tok _, ⟨_, by rw [hn]⟩, q1⟩
section
variable {K : PySem.W.Frag} {pf : Bool} {ρ : List Sl} {te : TE} {Φ : Dt → List Sl → Prop}
theorem w_lenS (h : Wp K pf te ρ fun d ρ1 => ∃ xs : List Str, d = .tup (xs.map Dt.str) ∧ xs.length ≤ 1000 ∧ Φ (.int ((uniq xs).length : Nat)) ρ1) : Wp K pf (tLenS K te) ρ Φ := fun M σ H S Q q =>
  h M σ H S _ fun v H1 d ρ1 s1 S1 x1 ⟨xs, e, hz, f⟩ => by
    subst e
    cases x1 with
    | tup hs ha =>
      rw [ha.strs] at hs
      exact ⟨_, xs, rfl, same_T (cut_sub M H1) hs, hz, q _ H1 _ ρ1 s1 S1 (.int _) f⟩
end
end DL

/-! Data level: the pen opened, defs' promises from their bodies. -/
namespace DL
open PySem PySem.Spec PyProof.Rows L2

def powns (es : List Dt) (ρ : List Sl) : List Sl := ρ.map fun s => match s with
  | .pen _ => .pown es
  | .pown _ => .pown es
  | s => s
def pdats (es : List Dt) (ρ : List Sl) : List Sl := ρ.map fun s => match s with
  | .pen _ => .dat (.lst es)
  | .pown _ => .dat (.lst es)
  | s => s
section
variable {K : PySem.W.Frag} {pf : Bool} {ρ : List Sl} {te ti : TE} {tt : TT} {t : TS} {D : DE} {i : Nat} {Φ : Dt → List Sl → Prop}
theorem Sd.writeP {M : Md} {H : Hp} {σ : L2.St} {p : Addr} {ws : List V} {es : List Dt} {o0 : HO} (S : Sd K M H σ ρ) (hp : M.p = some p) (x : DXs K (cut M H) ws es) : Sd K M (upd H p (.lst ws)) σ (powns es ρ) ∧ Stp M H M (upd H p (.lst ws)) := by
  have has : M.has p := .inl hp
  have sc : Same (cut M H) (cut M (upd H p (.lst ws))) := fun a u z => by
    obtain ⟨c, y⟩ := cut_of z
    exact cut_at c (by rw [upd_ne fun n => c (by rw [n]; exact has)]; exact y)
  refine ⟨⟨by unfold powns; rw [List.length_map]; exact S.len, by unfold powns; rw [List.length_map]; exact S.olen, ⟨fun a h => ?_, S.mok.pF, S.mok.FO, S.mok.nd⟩, fun j s h => ?_⟩, ⟨rfl, rfl, fun a o z c d => ⟨by rw [upd_ne fun n => c (by rw [n]; exact hp)]; exact z, d⟩⟩⟩
  · by_cases n : a = p
    · exact ⟨_, by rw [n]; exact upd_same⟩
    · obtain ⟨u, z⟩ := S.mok.live a h
      exact ⟨u, by rw [upd_ne n]; exact z⟩
  · unfold powns at h
    rw [List.getElem?_map] at h
    cases e : ρ[j]? with
    | none => rw [e] at h; cases h
    | some s0 =>
      rw [e] at h
      obtain ⟨o, h1, h2⟩ := S.ok j s0 e
      refine ⟨o, h1, ?_⟩
      have h := Option.some.inj h
      cases s0 with
      | any => subst h; trivial
      | dat d => subst h; obtain ⟨v, a1, a2⟩ := h2; exact ⟨v, a1, a2.mono sc⟩
      | own es' =>
        subst h
        obtain ⟨l, vs, a1, a2, a3, a4⟩ := h2
        exact ⟨l, vs, a1, a2, by rw [upd_ne fun y => (S.mok.pF p hp).2 (by rw [← y]; exact List.mem_of_getElem? a2)]; exact a3, a4.mono sc⟩
      | pen m =>
        subst h
        obtain ⟨p', a1, a2, _⟩ := h2
        obtain rfl : p' = p := Option.some.inj (a2.symm.trans hp)
        exact ⟨p', ws, a1, a2, upd_same, x.mono sc⟩
      | pown es' =>
        subst h
        obtain ⟨p', _, a1, a2, _⟩ := h2
        obtain rfl : p' = p := Option.some.inj (a2.symm.trans hp)
        exact ⟨p', ws, a1, a2, upd_same, x.mono sc⟩
theorem ws_setpen {ds0 : List Dt} (e0 : ρ[i]? = some (.pown ds0)) (h : Wp K pf te ρ fun d ρ1 => Wp K pf ti ρ1 fun dj ρ2 => ∃ (ds : List Dt) (j : Nat), ρ2[i]? = some (.pown ds) ∧ dj = .int j ∧ j < ds.length ∧ D.nx (powns (ds.set j d) ρ2)) :
    Ws K (tAsg te (gSub (tVar i) ti rSetL)) ρ D := fun M σ H S E k => by
  obtain ⟨o, h1, p, vs0, e1, e2, e3, e4⟩ := S.ok i _ e0
  subst e1
  refine h M σ H S _ fun v H1 d ρ1 s1 S1 x1 h2 => ?_
  refine ⟨.ref p, h1, h2 M σ H1 S1 _ fun w H2 dj ρ2 s2 S2 x2 ⟨ds, j, g1, g2, g3, g4⟩ => ?_⟩
  subst g2
  obtain ⟨o', z1, p', vs, y1, y2, y3, y4⟩ := S2.ok i _ g1
  obtain rfl : p' = p := Option.some.inj (y2.symm.trans e2)
  refine ⟨p', vs, j, j, rfl, x2.int_eq, y3, ?_, ?_⟩
  · unfold ixN
    rw [if_pos (Int.natCast_nonneg j), if_pos (by rw [y4.len]; exact Int.ofNat_lt.mpr g3)]
    rfl
  · obtain ⟨S3, s3⟩ := S2.writeP (o0 := .lst vs) y2 (y4.set (x1.mono s2.dx) j)
    exact k.nx M σ _ _ ((s1.st.trans s2.st).trans s3) S3 g4
/-- the pen read: as long as nothing is written it is a list like any other -/
theorem Sd.freezeP {M : Md} {H : Hp} {σ : L2.St} {ds : List Dt} (S : Sd K M H σ ρ) (hs : ρ[i]? = some (.pown ds)) : Sd K { M with p := none } H σ (pdats ds ρ) := by
  obtain ⟨o0, h0, p, vs, e0, hp, e2, e3⟩ := S.ok i _ hs
  have has : ∀ a, ({ M with p := none } : Md).has a → M.has a := fun a h => by
    rcases h with h | h | h
    · cases h
    · exact .inr (.inl h)
    · exact .inr (.inr h)
  have sc : Same (cut M H) (cut { M with p := none } H) := cut_le has
  have np : ¬ ({ M with p := none } : Md).has p := fun z => by
    rcases z with z | z | z
    · cases z
    · exact (S.mok.pF p hp).1 z
    · exact (S.mok.pF p hp).2 z
  refine ⟨by unfold pdats; rw [List.length_map]; exact S.len, by unfold pdats; rw [List.length_map]; exact S.olen, ⟨fun a h => S.mok.live a (has a h), fun a h => (nomatch h), S.mok.FO, S.mok.nd⟩, fun j s h => ?_⟩
  unfold pdats at h
  rw [List.getElem?_map] at h
  cases e : ρ[j]? with
  | none => rw [e] at h; cases h
  | some s0 =>
    rw [e] at h
    obtain ⟨o, h1, h2⟩ := S.ok j s0 e
    refine ⟨o, h1, ?_⟩
    have h := Option.some.inj h
    cases s0 with
    | any => subst h; trivial
    | dat d => subst h; obtain ⟨v, a1, a2⟩ := h2; exact ⟨v, a1, a2.mono sc⟩
    | own es' => subst h; obtain ⟨l, vs', a1, a2, a3, a4⟩ := h2; exact ⟨l, vs', a1, a2, a3, a4.mono sc⟩
    | pen m =>
      subst h
      obtain ⟨p', a1, a2, _⟩ := h2
      obtain rfl : p' = p := Option.some.inj (a2.symm.trans hp)
      exact ⟨.ref p', a1, .lst (.inl (.inl (cut_at np e2))) (e3.mono sc)⟩
    | pown es' =>
      subst h
      obtain ⟨p', _, a1, a2, _⟩ := h2
      obtain rfl : p' = p := Option.some.inj (a2.symm.trans hp)
      exact ⟨.ref p', a1, .lst (.inl (.inl (cut_at np e2))) (e3.mono sc)⟩
theorem wp_pen {ds : List Dt} (hs : ρ[i]? = some (.pown ds)) (h : Wp K true te (pdats ds ρ) fun d _ => flatD d = true ∧ Φ d ρ) : Wp K pf te ρ Φ := fun M σ H S Q q =>
  h _ σ H (S.freezeP hs) Q fun v H2 d ρ' s S3 x ⟨f, z⟩ => q v H2 d ρ (Tr.same pf M (s.sm rfl)) (S.same (s.sm rfl)) (flat_any f x) z
theorem wt_pen {ds : List Dt} {Θ : Bool → List Sl → Prop} (hs : ρ[i]? = some (.pown ds)) (h : Wt K true tt (pdats ds ρ) fun b _ => Θ b ρ) : Wt K pf tt ρ Θ := fun M σ H S Q q =>
  h _ σ H (S.freezeP hs) Q fun b H2 ρ' s S3 z => q b H2 ρ (Tr.same pf M (s.sm rfl)) (S.same (s.sm rfl)) z
theorem Sd.openP {M : Md} {H : Hp} {σ : L2.St} {n : Nat} (S : Sd K M H σ ρ) (hs : ρ[i]? = some (.pen n)) : ∃ (ns : List Int) (c : Nat) (g : Int), c ≤ n ∧ 0 ≤ g ∧ ns.length ≤ 63 ∧ Sd K M H σ (powns [.lst (ns.map Dt.int), .int c, .int g] ρ) := by
  obtain ⟨o0, h0, p, e0, hp, l, ns, c, g, b1, b2, b3, b4, b5⟩ := S.ok i _ hs
  have asInts : ∀ ns : List Int, DXs K (cut M H) (ns.map V.int) (ns.map Dt.int) := fun ns => by
    induction ns with
    | nil => exact .nil
    | cons n r ih => exact .cons (.int n) ih
  have xs : DXs K (cut M H) [.ref l, .int c, .int g] [.lst (ns.map Dt.int), .int c, .int g] := .cons (.lst b2 (asInts ns)) (.cons (.int _) (.one (.int _)))
  refine ⟨ns, c, g, b3, b4, b5, by unfold powns; rw [List.length_map]; exact S.len, by unfold powns; rw [List.length_map]; exact S.olen, S.mok, fun j s h => ?_⟩
  unfold powns at h
  rw [List.getElem?_map] at h
  cases e : ρ[j]? with
  | none => rw [e] at h; cases h
  | some s0 =>
    rw [e] at h
    obtain ⟨o, h1, h2⟩ := S.ok j s0 e
    refine ⟨o, h1, ?_⟩
    have h := Option.some.inj h
    cases s0 with
    | any => subst h; trivial
    | dat d => subst h; exact h2
    | own es' => subst h; exact h2
    | pen m =>
      subst h
      obtain ⟨p', a1, a2, _⟩ := h2
      obtain rfl : p' = p := Option.some.inj (a2.symm.trans hp)
      exact ⟨p', _, a1, a2, b1, xs⟩
    | pown es' =>
      subst h
      obtain ⟨p', _, a1, a2, _⟩ := h2
      obtain rfl : p' = p := Option.some.inj (a2.symm.trans hp)
      exact ⟨p', _, a1, a2, b1, xs⟩
theorem ws_open {n : Nat} (hs : ρ[i]? = some (.pen n)) (h : ∀ (ns : List Int) (c : Nat) (g : Int), c ≤ n → 0 ≤ g → ns.length ≤ 63 → Ws K t (powns [.lst (ns.map Dt.int), .int c, .int g] ρ) D) : Ws K t ρ D := fun M σ H S E k =>
  let ⟨ns, c, g, h1, h2, h3, S2⟩ := S.openP hs
  h ns c g h1 h2 h3 M σ H S2 E k
/-- what is left of the pen in a slot -/
inductive PenS (n : Nat) : Sl → Prop
  | pen {m : Nat} (h : m ≤ n) : PenS n (.pen m)
  | pown {ns : List Int} {c : Nat} {g : Int} (h1 : c ≤ n) (h2 : 0 ≤ g) (h3 : ns.length ≤ 63) : PenS n (.pown [.lst (ns.map Dt.int), .int c, .int g])
theorem Pen.le {M : Md} {H : Hp} {p : Addr} {m n : Nat} (h : Pen K M H p m) (e : m ≤ n) : Pen K M H p n := by
  obtain ⟨l, ns, c, g, b1, b2, b3, b4⟩ := h
  exact ⟨l, ns, c, g, b1, b2, Nat.le_trans b3 e, b4⟩
theorem PenS.of {M : Md} {H : Hp} {j n : Nat} {o : Option V} {s : Sl} (h : PenS n s) (k : SlOk K M H j o s) : ∃ p, M.p = some p ∧ Pen K M H p n := by
  cases h with
  | pen h => obtain ⟨p, _, a2, a3⟩ := k; exact ⟨p, a2, a3.le h⟩
  | @pown ns c g h1 h2 h3 =>
    obtain ⟨p, vs, _, a2, a3, a4⟩ := k
    cases a4 with
    | cons x1 r1 =>
      cases r1 with
      | cons x2 r2 =>
        cases r2 with
        | cons x3 r3 =>
          cases r3
          rw [x2.int_eq, x3.int_eq] at a3
          cases x1 with
          | lst hs ha =>
            rw [ha.ints] at hs
            exact ⟨p, a2, _, ns, c, g, a3, hs, h1, h2, h3⟩
end

/-! ### a def's promise from its body -/
def slots (ds : List Dt) (m : Nat) : List Sl := ds.map Sl.dat ++ List.replicate m .any
section
variable {P : Program} {w : World} {K : PySem.W.Frag} {mg : Str → Option Value} {base : Heap} {t : TS}
theorem start_at {N : List Str} {vs : List V} {j : Nat} (h : j < vs.length) : (L2.start N vs)[j]? = vs[j]?.map some := by
  unfold L2.start
  rw [List.getElem?_append_left (by rw [List.length_map]; exact h), List.getElem?_map]
theorem sd_start {N : List Str} {M : Md} {H : Hp} {vs : List V} {ds : List Dt} (hO : M.O = []) (m : MOk M H) (x : DXs K (cut M H) vs ds) (hl : vs.length ≤ N.length) : Sd K (M.body N.length) H (L2.start N vs) (slots ds (N.length - ds.length)) := by
  have e := x.len
  have ec : cut (M.body N.length) H = cut M H := cut_congr (Md.body_has hO N.length) H
  refine ⟨?_, ?_, m.body hO _, fun j s h => ?_⟩
  · unfold L2.start slots
    rw [List.length_append, List.length_append, List.length_map, List.length_map, List.length_replicate, List.length_replicate, e]
  · unfold slots Md.body
    rw [List.length_append, List.length_map, List.length_replicate, List.length_replicate]
    omega
  · unfold slots at h
    by_cases hj : j < ds.length
    · rw [List.getElem?_append_left (by rw [List.length_map]; exact hj), List.getElem?_map] at h
      cases ed : ds[j]? with
      | none => rw [ed] at h; cases h
      | some d =>
        rw [ed] at h
        have h := Option.some.inj h
        subst h
        obtain ⟨v, h1, h2⟩ := x.getd ed
        refine ⟨some v, ?_, v, rfl, by rw [ec]; exact h2⟩
        rw [start_at (by rw [e]; exact hj), h1]
        rfl
    · rw [List.getElem?_append_right (by rw [List.length_map]; omega), List.getElem?_replicate] at h
      split at h
      · have h := Option.some.inj h
        subst h
        refine ⟨none, ?_, trivial⟩
        unfold L2.start
        rw [List.getElem?_append_right (by rw [List.length_map]; omega), List.getElem?_replicate, List.length_map]
        rw [if_pos (by rename_i hm; rw [List.length_map] at hm; omega)]
      · cases h
/-- a def that changes nothing -/
theorem read_P {N : List Str} {W : List Dt → (Dt → Prop) → Prop} {vs : List V} {H : Hp} {Q : VK} {E : XK} (h : spP K W vs H Q E) (hl : vs.length ≤ N.length)
    (b : ∀ ds Φ, ds.length = vs.length → W ds Φ → Ws K t (slots ds (N.length - ds.length)) { nx := fun _ => Φ .non, rt := fun d _ => Φ d }) : t { nx := fun _ H' => Q .non H', rt := Q } (L2.start N vs) H := by
  obtain ⟨M, ds, Φ, hp, hO, m, x, w, q⟩ := h
  have keep : ∀ {M' : Md} {H' : Hp}, Stp (M.body N.length) H M' H' → Same H H' := fun s a o z => (s.keep a o z (by show M.p ≠ _; rw [hp]; exact fun y => nomatch y) no_rep).1
  have sub : ∀ {M' : Md} {H' : Hp}, Stp (M.body N.length) H M' H' → Same (cut M' H') (cut M H') := fun {M' H'} s => cut_le fun a z => by
    rcases z with z | z | z
    · rw [hp] at z; cases z
    · exact .inr (.inl (by rw [s.F]; exact z))
    · rw [hO] at z; cases z
  refine b ds Φ x.len.symm w (M.body N.length) _ H (sd_start hO m x hl) _ ⟨fun M' σ' H' ρ' s S z => q .non H' .non (keep s) .non z, fun M' v H' d ρ' σ' s S x z => q v H' d (keep s) (x.mono (sub s)) z, fun M' σ' H' ρ' s S z => z, fun M' σ' H' ρ' s S z => z⟩
/-- a def that draws -/
theorem read_N {N : List Str} {W : Nat → List Dt → (Dt → Nat → Prop) → Prop} {vs : List V} {H : Hp} {Q : VK} {E : XK} (h : spN K W vs H Q E) (hl : vs.length ≤ N.length)
    (b : ∀ n ds Φ, ds.length + 1 = vs.length → W n ds Φ → Ws K t (.pen n :: slots ds (N.length - (ds.length + 1))) { nx := fun ρ => ∃ n' s, ρ[0]? = some s ∧ PenS n' s ∧ Φ .non n', rt := fun d ρ => ∃ n' s, ρ[0]? = some s ∧ PenS n' s ∧ Φ d n' }) :
    t { nx := fun _ H' => Q .non H', rt := Q } (L2.start N vs) H := by
  obtain ⟨M, p, n, ws, ds, Φ, rfl, hp, hO, m, P0, x, w, q⟩ := h
  have ec : ∀ H', cut (M.body N.length) H' = cut M H' := fun H' => cut_congr (Md.body_has hO N.length) H'
  have keep : ∀ {M' : Md} {H' : Hp}, Stp (M.body N.length) H M' H' → ∀ a o, H a = some o → a ≠ p → H' a = some o := fun s a o z c => (s.keep a o z (by show M.p ≠ _; rw [hp]; exact fun y => c (Option.some.inj y).symm) no_rep).1
  have sub : ∀ {M' : Md} {H' : Hp}, Stp (M.body N.length) H M' H' → Same (cut M' H') (cut M H') := fun {M' H'} s => cut_le fun a z => by
    rcases z with z | z | z
    · exact .inl (by rw [s.p]; exact z)
    · exact .inr (.inl (by rw [s.F]; exact z))
    · rw [hO] at z; cases z
  have pen : ∀ {M' : Md} {H' : Hp} {σ' : L2.St} {ρ' : List Sl} {n' : Nat} {sl : Sl}, Stp (M.body N.length) H M' H' → Sd K M' H' σ' ρ' → ρ'[0]? = some sl → PenS n' sl → Pen K M H' p n' := fun {M' H' σ' ρ' n' sl} s S e ps => by
    obtain ⟨o, _, k⟩ := S.ok 0 sl e
    obtain ⟨p', h1, l, ns, c, g, b1, b2, b3⟩ := ps.of k
    have e1 : M'.p = M.p := s.p
    obtain rfl : p' = p := Option.some.inj (h1.symm.trans (e1.trans hp))
    exact ⟨l, ns, c, g, b1, (sub s).seq b2, b3⟩
  have S0 : Sd K (M.body N.length) H (L2.start N (.ref p :: ws)) (.pen n :: slots ds (N.length - (ds.length + 1))) := by
    have hx : DXs K (cut M H) (V.int 0 :: ws) (Dt.int 0 :: ds) := .cons (.int 0) x
    have S1 := sd_start (N := N) hO m hx (by simpa using hl)
    refine ⟨?_, ?_, S1.mok, fun j s h => ?_⟩
    · have := S1.len
      unfold slots L2.start at this ⊢
      simp only [List.length_append, List.length_map, List.length_replicate, List.length_cons] at this ⊢
      omega
    · have := S1.olen
      unfold slots at this ⊢
      simp only [List.length_append, List.length_map, List.length_replicate, List.length_cons] at this ⊢
      omega
    · cases j with
      | zero =>
        have h := Option.some.inj (show some (Sl.pen n) = some s from h)
        subst h
        obtain ⟨l, ns, c, g, b1, b2, b3⟩ := P0
        exact ⟨some (.ref p), rfl, p, rfl, hp, l, ns, c, g, b1, by rw [ec]; exact b2, b3⟩
      | succ j =>
        obtain ⟨o, h1, h2⟩ := S1.ok (j + 1) s (by
          show (slots (Dt.int 0 :: ds) _)[j + 1]? = _
          unfold slots at h ⊢
          simpa using h)
        refine ⟨o, ?_, h2⟩
        unfold L2.start at h1 ⊢
        simpa using h1
  refine b n ds Φ (by rw [List.length_cons, x.len]) w (M.body N.length) _ H S0 _ ⟨fun M' σ' H' ρ' s S ⟨n', sl, e, ps, z⟩ => q .non H' .non n' (keep s) (pen s S e ps) .non z, fun M' v H' d ρ' σ' s S x ⟨n', sl, e, ps, z⟩ => q v H' d n' (keep s) (pen s S e ps) (x.mono (sub s)) z, fun M' σ' H' ρ' s S z => z, fun M' σ' H' ρ' s S z => z⟩
end
end DL

/-! Data level: defs by promises; comprehensions that filter and map; lists put together. -/
namespace DL
open PySem PySem.Spec PyProof.Rows L2

section
variable {P : Program} {w : World} {K : PySem.W.Frag} {mg : Str → Option Value} {base : Heap} {k : Nat} {f : Addr} {fd : FuncData} {ps N : List Str} {x qual : Str} {st : Stmt}
/-- a def that changes nothing, by its body -/
theorem defP {W : List Dt → (Dt → Prop) → Prop} (F : Fun K x qual st f fd) (S : FnScope N ps (defScope st)) (hW : ∀ ds Φ, W ds Φ → ds.length = ps.length) (hN : ps.length ≤ N.length)
    (hb : ∀ (cdv : Value) (A : Around) (outer : List Env) (s : Shared) (H : Hp) (E : XK), Room k (A.deeper (envOfC qual (defScope st) s.heap.objs.size f cdv)) →
      (A.deeper (envOfC qual (defScope st) s.heap.objs.size f cdv)).guards = some [] → ∃ t, PSs (cxOf CX0 P w K mg base N qual (defScope st) f cdv A outer s H E).nox (defBody st) t ∧
        ∀ ds Φ, W ds Φ → Ws K t (slots ds (N.length - ds.length)) { nx := fun _ => Φ .non, rt := fun d _ => Φ d }) : FnG P w K mg base CX0 (k + 1) f fd ps (spP K W) := by
  have len : ∀ vs H Q E, spP K W vs H Q E → vs.length = ps.length := fun vs H Q E ⟨M, ds, Φ, _, _, _, x, w, _⟩ => x.len.trans (hW ds Φ w)
  refine okG F S len fun cdv A outer s H vs Q E hr hg h => ?_
  obtain ⟨t, h1, h2⟩ := hb cdv A outer s H E hr hg
  exact ⟨t, h1, read_P (E := E) h (by rw [len _ _ _ _ h]; exact hN) fun ds Φ _ w => h2 ds Φ w⟩
/-- a def that draws, by its body -/
theorem defN {W : Nat → List Dt → (Dt → Nat → Prop) → Prop} (F : Fun K x qual st f fd) (S : FnScope N ps (defScope st)) (hW : ∀ n ds Φ, W n ds Φ → ds.length + 1 = ps.length) (hN : ps.length ≤ N.length)
    (hb : ∀ (cdv : Value) (A : Around) (outer : List Env) (s : Shared) (H : Hp) (E : XK), Room k (A.deeper (envOfC qual (defScope st) s.heap.objs.size f cdv)) →
      (A.deeper (envOfC qual (defScope st) s.heap.objs.size f cdv)).guards = some [] → ∃ t, PSs (cxOf CX0 P w K mg base N qual (defScope st) f cdv A outer s H E).nox (defBody st) t ∧
        ∀ n ds Φ, W n ds Φ → Ws K t (.pen n :: slots ds (N.length - (ds.length + 1))) { nx := fun ρ => ∃ n' s, ρ[0]? = some s ∧ PenS n' s ∧ Φ .non n', rt := fun d ρ => ∃ n' s, ρ[0]? = some s ∧ PenS n' s ∧ Φ d n' }) :
    FnG P w K mg base CX0 (k + 1) f fd ps (spN K W) := by
  have len : ∀ vs H Q E, spN K W vs H Q E → vs.length = ps.length := fun vs H Q E ⟨M, p, n, ws, ds, Φ, e, _, _, _, _, x, w, _⟩ => by
    rw [e, List.length_cons, x.len]; exact hW n ds Φ w
  refine okG F S len fun cdv A outer s H vs Q E hr hg h => ?_
  obtain ⟨t, h1, h2⟩ := hb cdv A outer s H E hr hg
  exact ⟨t, h1, read_N (E := E) h (by rw [len _ _ _ _ h]; exact hN) fun n ds Φ _ w => h2 n ds Φ w⟩
end

/-! ### lists put together -/
def rCatL (K : PySem.W.Frag) : R2 := fun x y H Q => ∃ l b xs zs, x = .ref l ∧ y = .ref b ∧ SqL K H l xs ∧ SqL K H b zs ∧ xs.length + zs.length ≤ sizeLine ∧ ∀ p, H p = none → Q (.ref p) (upd H p (.lst (xs ++ zs)))
theorem op_catL {X : Cx} : OpR X (binaryOp .Add) (rCatL X.K) := by
  intro pins s σ H x y v u Q I rx ry h
  obtain ⟨l, b, xs, zs, rfl, rfl, hH, hB, hz, q⟩ := h
  cases rx
  cases ry
  obtain ⟨its, r, ⟨⟨c1, dd1, d1, s1⟩, n, e, hc, _, hd⟩, _⟩ := I.list hH
  obtain ⟨its2, r2, ⟨⟨c2, dd2, d2, s2⟩, n2, e2, hc2, _, hd2⟩, _⟩ := I.list hB
  simp only at hc hd hc2 hd2
  subst hc hd hc2 hd2
  have l1 := r.length
  have l2 := r2.length
  refine concat_meets ⟨_, e, rfl⟩ ⟨_, e2, rfl⟩ noFill_list_add seq_list_add PySem.F.slot_list_add PySem.F.entry_list_add (PySem.F.args_list_add_2 _ _) (list_addW l b its.toArray its2.toArray n n2 dd1 dd2 s1 s2 (by rw [List.size_toArray, List.size_toArray]; omega)) ⟨e, e2, ?_⟩
  have ea : its.toArray ++ its2.toArray = (its ++ its2).toArray := by simp
  rw [ea]
  exact ⟨.ref _, _, I.lnew (t' := s.toks) (r.append r2) (by rw [List.length_append]; omega), rfl, q _ I.fresh⟩
section
variable {K : PySem.W.Frag} {pf : Bool} {ρ : List Sl} {te : TE} {tt : TT} {wi : TI} {j : Nat} {Φ : Dt → List Sl → Prop}
theorem set_any {ρ : List Sl} {j : Nat} {s : Sl} (e : ρ[j]? = some .any) : (ρ.set j s).set j .any = ρ := by
  rw [List.set_set]
  apply List.ext_getElem?
  intro i
  by_cases c : j = i
  · subst c
    rw [List.getElem?_set_self (List.getElem?_eq_some_iff.mp e).1, e]
  · rw [List.getElem?_set_ne c]
/-- [f(d) for d in .. if b(d)] -/
theorem w_lcF (b : Dt → Bool) (f : Dt → Dt) (e : ρ[j]? = some .any) (h : WI K pf wi ρ fun ds ρ1 => ρ1 = ρ ∧ ds.length ≤ 50000 ∧ (∀ d ∈ ds, Wt K pf tt (ρ.set j (.dat d)) fun c ρ2 => c = b d ∧ ρ2 = ρ.set j (.dat d)) ∧
      (∀ d ∈ ds, b d = true → Wp K pf te (ρ.set j (.dat d)) fun y ρ3 => y = f d ∧ ρ3 = ρ.set j (.dat d)) ∧ Φ (.lst ((ds.filter b).map f)) ρ) : Wp K pf (tLc wi (gName j) tt te [j]) ρ Φ := by
  refine w_lc (js := [j]) (fun _ z => z) fun M σ H S R q => h M σ H S R fun J H1 ds ρ1 s1 S1 w ⟨e1, hz, ht, he, z⟩ => q J H1 ds ρ1 s1 S1 w ?_
  subst e1
  have w0 : wipeS ρ1 [j] = ρ1 := by
    show ρ1.set j .any = ρ1
    have := set_any (s := .any) e
    rw [List.set_set] at this
    exact this
  have w1 : ∀ d, wipeS (ρ1.set j (.dat d)) [j] = ρ1 := fun d => set_any e
  refine ⟨⟨fun i acc ρ2 => ρ2 = ρ1 ∧ acc = ((ds.take i).filter b).map f, ⟨w0, rfl⟩, hz, fun i d acc ρ2 hd ⟨e2, ea⟩ => ?_, fun acc ρ2 ⟨e2, ea⟩ => ?_⟩⟩
  · subst e2 ea
    have hm := List.mem_of_getElem? hd
    have tk : ds.take (i + 1) = ds.take i ++ [d] := by rw [List.take_add_one, hd]; rfl
    refine wg_name ((ht d hm).imp fun c ρ4 ⟨ec, e4⟩ => ?_)
    subst e4
    cases c with
    | true =>
      rw [if_pos rfl]
      refine (he d hm ec.symm).imp fun y ρ5 ⟨ey, e5⟩ => ?_
      subst e5 ey
      refine ⟨w1 d, ?_⟩
      rw [tk, List.filter_append, List.map_append]
      show _ = _ ++ List.map f (List.filter b [d])
      rw [List.filter_cons, if_pos ec.symm]
      rfl
    | false =>
      rw [if_neg Bool.false_ne_true]
      refine ⟨w1 d, ?_⟩
      rw [tk, List.filter_append, List.map_append]
      show _ = _ ++ List.map f (List.filter b [d])
      rw [List.filter_cons, if_neg (by rw [← ec]; exact Bool.false_ne_true)]
      simp
  · subst e2 ea
    rw [List.take_length]
    exact z
/-- [f(d) for d in ..] -/
theorem w_lcM (f : Dt → Dt) (e : ρ[j]? = some .any) (h : WI K pf wi ρ fun ds ρ1 => ρ1 = ρ ∧ ds.length ≤ 50000 ∧
      (∀ d ∈ ds, Wp K pf te (ρ.set j (.dat d)) fun y ρ3 => y = f d ∧ ρ3 = ρ.set j (.dat d)) ∧ Φ (.lst (ds.map f)) ρ) : Wp K pf (tLc wi (gName j) tYes te [j]) ρ Φ :=
  w_lcF (fun _ => true) f e fun M σ H S R q => h M σ H S R fun J H1 ds ρ1 s1 S1 w ⟨e1, hz, he, z⟩ => q J H1 ds ρ1 s1 S1 w ⟨e1, hz, fun d _ => wt_yes ⟨rfl, rfl⟩, fun d hd _ => he d hd, by rw [List.filter_eq_self.mpr fun _ _ => rfl]; exact z⟩
theorem od_cat {ds es : List Dt} {Ψ : Dt → Prop} (hz : ds.length + es.length ≤ 100000) (h : Ψ (.lst (ds ++ es))) : OD K (rCatL K) (.lst ds) (.lst es) Ψ := fun M H u v m h1 h2 Q q => by
  cases h1 with
  | lst hs ha =>
    cases h2 with
    | lst ht hb =>
      exact ⟨_, _, _, _, rfl, rfl, (cut_sub M H).seq hs, (cut_sub M H).seq ht, by rw [ha.len, hb.len]; exact Nat.le_trans hz (by decide), fun p hp => q _ _ _ (same_new hp) (dx_new_l m hp (ha.append hb)) h⟩
end
end DL

namespace K02
open PySem PySem.Spec PyProof.Rows L2 DL
/-! ### the text -/
def topS (i : Nat) : Stmt := PySem.Challenge.pw_duskisles_k02_names_and_words.main.body.getD i (.Pass ⟨0, 0, 0, 0⟩)
abbrev sInt : Stmt := topS 3
abbrev sNam : Stmt := topS 4
abbrev sOwn : Stmt := topS 5
abbrev sRow : Stmt := topS 6
abbrev sLead : Stmt := topS 7
abbrev sWords : Stmt := topS 8
theorem scInt : FnScope ["value"] ["value"] (defScope sInt) := ⟨rfl, rfl, rfl, by decide +kernel, rfl, by decide +kernel, by decide +kernel⟩
theorem scNam : FnScope ["value", "letter"] ["value"] (defScope sNam) := ⟨rfl, rfl, rfl, by decide +kernel, rfl, by decide +kernel, by decide +kernel⟩
theorem scOwn : FnScope ["value"] ["value"] (defScope sOwn) := ⟨rfl, rfl, rfl, by decide +kernel, rfl, by decide +kernel, by decide +kernel⟩
theorem scRow : FnScope ["value", "most", "name"] ["value", "most"] (defScope sRow) := ⟨rfl, rfl, rfl, by decide +kernel, rfl, by decide +kernel, by decide +kernel⟩
theorem scLead : FnScope ["value"] ["value"] (defScope sLead) := ⟨rfl, rfl, rfl, by decide +kernel, rfl, by decide +kernel, by decide +kernel⟩
theorem scWords : FnScope ["value", "words", "word"] ["value", "words"] (defScope sWords) := ⟨rfl, rfl, rfl, by decide +kernel, rfl, by decide +kernel, by decide +kernel⟩
abbrev sDueN : Stmt := topS 15
abbrev sDueL : Stmt := topS 16
abbrev sDueW : Stmt := topS 17
theorem scDueN : FnScope ["_law_thing", "_law_sign"] ["_law_thing"] (defScope sDueN) := ⟨rfl, rfl, rfl, by decide +kernel, rfl, by decide +kernel, by decide +kernel⟩
theorem scDueL : FnScope ["_law_thing", "_law_one", "_law_k"] ["_law_thing"] (defScope sDueL) := ⟨rfl, rfl, rfl, by decide +kernel, rfl, by decide +kernel, by decide +kernel⟩
theorem scDueW : FnScope ["_law_thing", "_law_menu", "_law_one", "_law_k"] ["_law_thing", "_law_menu"] (defScope sDueW) := ⟨rfl, rfl, rfl, by decide +kernel, rfl, by decide +kernel, by decide +kernel⟩
/-! ### the built-ins that are meant -/
structure Bt (mg : Str → Option Value) : Prop where
  isi : mg "isinstance" = none
  int : mg "int" = none
  bool : mg "bool" = none
  str : mg "str" = none
  tuple : mg "tuple" = none
  list : mg "list" = none
  len : mg "len" = none
  all : mg "all" = none
  set : mg "set" = none
  range : mg "range" = none
  abs : mg "abs" = none
  repr : mg "repr" = none
/-! ### what is asked of a datum -/
def isInt : Dt → Bool
  | .int _ => true
  | _ => false
def isStr : Dt → Bool
  | .str _ => true
  | _ => false
def isTup : Dt → Bool
  | .tup _ => true
  | _ => false
def noTy : Dt → Bool
  | .ty _ => false
  | _ => true
theorem noTy_ne {d : Dt} (h : noTy d = true) : ∀ n, d ≠ .ty n := fun n e => by rw [e] at h; cases h
theorem kit_int {d : Dt} (h : noTy d = true) : ∃ b, kitB (tyD d) "int" = some b ∧ (b = true → ∀ c, kitB (tyD d) "bool" = some c → isInt d = !c) ∧ (b = false → isInt d = false) := by
  cases d with
  | ty n => cases h
  | int i => exact ⟨true, by (dsimp only [tyD, isStr, isTup]; decide +kernel), fun _ c e => by rw [show kitB (tyD (.int i)) "bool" = some false by (dsimp only [tyD, isStr, isTup]; decide +kernel)] at e; cases e; rfl, fun z => nomatch z⟩
  | bl i => exact ⟨true, by (dsimp only [tyD, isStr, isTup]; decide +kernel), fun _ c e => by rw [show kitB (tyD (.bl i)) "bool" = some true by (dsimp only [tyD, isStr, isTup]; decide +kernel)] at e; cases e; rfl, fun z => nomatch z⟩
  | _ => exact ⟨false, by (dsimp only [tyD, isStr, isTup]; decide +kernel), (fun z => nomatch z), fun _ => rfl⟩
theorem kit_bool {d : Dt} (h : noTy d = true) : ∃ b, kitB (tyD d) "bool" = some b := by
  cases d with
  | ty n => cases h
  | bl i => exact ⟨true, by (dsimp only [tyD, isStr, isTup]; decide +kernel)⟩
  | _ => exact ⟨false, by (dsimp only [tyD, isStr, isTup]; decide +kernel)⟩
theorem kit_str {d : Dt} (h : noTy d = true) : kitB (tyD d) "str" = some (isStr d) := by
  cases d with
  | ty n => cases h
  | _ => (dsimp only [tyD, isStr, isTup]; decide +kernel)
theorem kit_tup {d : Dt} (h : noTy d = true) : kitB (tyD d) "tuple" = some (isTup d) := by
  cases d with
  | ty n => cases h
  | _ => (dsimp only [tyD, isStr, isTup]; decide +kernel)
theorem isStr_of {d : Dt} (h : isStr d = true) : ∃ z, d = .str z := by
  cases d with
  | str z => exact ⟨z, rfl⟩
  | _ => cases h
theorem isTup_of {d : Dt} (h : isTup d = true) : ∃ z, d = .tup z := by
  cases d with
  | tup z => exact ⟨z, rfl⟩
  | _ => cases h
theorem ifT {p q : Prop} (h : p) : if true = true then p else q := by rw [if_pos rfl]; exact h
theorem ifF {p q : Prop} (h : q) : if false = true then p else q := by rw [if_neg Bool.false_ne_true]; exact h
/-- small letters; names -/
def low (x : Str) : Bool := !decide (x.cps.toList < ("a" : Str).cps.toList) && !decide (("z" : Str).cps.toList < x.cps.toList)
def lowD : Dt → Bool
  | .str x => low x
  | _ => false
def isName : Dt → Bool
  | .str z => decide (1 ≤ z.length) && decide (z.length ≤ 8) && (DL.signs z).all lowD
  | _ => false
def isOwn : Dt → Bool
  | .str z => isName (.str z) && !decide (z = ("shore" : Str))
  | _ => false
/-- a text that len can tell -/
def shortD : Dt → Bool
  | .str z => decide (z.length ≤ 1000)
  | .ty _ => false
  | _ => true
theorem shortD_no {d : Dt} (h : shortD d = true) : noTy d = true := by
  cases d with
  | ty n => cases h
  | _ => rfl
theorem len1000 {z : Str} (h : z.length ≤ 1000) : lenD (.str z) = some z.length := by
  show (if z.length ≤ sizeLine then some z.length else none) = _
  rw [if_pos (Nat.le_trans h (by decide))]
theorem signs_len (z : Str) : (DL.signs z).length = z.length := by unfold DL.signs; rw [List.length_map, Array.length_toList]; rfl
theorem signs_mem {z : Str} {d : Dt} (h : d ∈ DL.signs z) : ∃ c, d = .str ⟨#[c]⟩ := by
  unfold DL.signs at h
  obtain ⟨c, _, e⟩ := List.mem_map.mp h
  exact ⟨c, e.symm⟩
theorem map_bl (g : Dt → Bool) (ds : List Dt) : ds.map (fun d => Dt.bl (g d)) = (ds.map g).map Dt.bl := by rw [List.map_map]; rfl
theorem all_id (g : Dt → Bool) (ds : List Dt) : (ds.map g).all id = ds.all g := by rw [List.all_map]; rfl
theorem isName_str {d : Dt} (h : isName d = true) : ∃ z, d = .str z := by
  cases d with
  | str z => exact ⟨z, rfl⟩
  | _ => cases h
theorem isOwn_eq {z : Str} : isOwn (.str z) = (isName (.str z) && !decide (z = ("shore" : Str))) := rfl
theorem isOwn_no {d : Dt} (h : isName d = false) : isOwn d = false := by
  cases d with
  | str z => rw [isOwn_eq, h, Bool.false_and]
  | _ => rfl
theorem isOwn_str {d : Dt} (h : isOwn d = true) : ∃ z, d = .str z := by
  cases d with
  | str z => exact ⟨z, rfl⟩
  | _ => cases h
def strsOf : List Dt → List Str
  | [] => []
  | .str z :: ds => z :: strsOf ds
  | _ :: ds => strsOf ds
theorem strsOf_map : ∀ ss : List Str, strsOf (ss.map Dt.str) = ss
  | [] => rfl
  | z :: ss => by show z :: strsOf (ss.map Dt.str) = _; rw [strsOf_map ss]
theorem all_str {p : Dt → Bool} (hp : ∀ d, p d = true → ∃ z, d = .str z) : ∀ {ds : List Dt}, ds.all p = true → ∃ ss : List Str, ds = ss.map Dt.str
  | [], _ => ⟨[], rfl⟩
  | d :: ds, h => by
    rw [List.all_cons, Bool.and_eq_true] at h
    obtain ⟨z, rfl⟩ := hp d h.1
    obtain ⟨ss, rfl⟩ := all_str hp h.2
    exact ⟨z :: ss, rfl⟩
def rowIs (xs : List Dt) : Bool := xs.all isOwn && decide (strsOf xs).Nodup
def isRow : Dt → Int → Bool
  | .tup xs, m => decide ((xs.length : Int) ≤ m) && rowIs xs
  | _, _ => false
def wordOf (ms : List Str) : Dt → Bool
  | .str z => decide (z ∈ ms)
  | _ => false
theorem wordOf_str {ms : List Str} {d : Dt} (h : wordOf ms d = true) : ∃ z, d = .str z := by
  cases d with
  | str z => exact ⟨z, rfl⟩
  | _ => cases h
def isWords (ms : List Str) : Dt → Bool
  | .tup xs => !xs.isEmpty && (xs.all (wordOf ms) && decide (strsOf xs).Nodup)
  | _ => false
/-- a thing whose texts len can tell -/
def thingD : Dt → Bool
  | .tup xs => decide (xs.length ≤ 1000) && xs.all shortD
  | .ty _ => false
  | _ => true
theorem thingD_no {d : Dt} (h : thingD d = true) : noTy d = true := by
  cases d with
  | ty n => cases h
  | _ => rfl
theorem thingD_tup {xs : List Dt} (h : thingD (.tup xs) = true) : xs.length ≤ 1000 ∧ ∀ x ∈ xs, shortD x = true := by
  have h : (decide (xs.length ≤ 1000) && xs.all shortD) = true := h
  rw [Bool.and_eq_true] at h
  exact ⟨of_decide_eq_true h.1, List.all_eq_true.mp h.2⟩
theorem uniq_dec (ss : List Str) : decide (((uniq ss).length : Int) = (ss.length : Nat)) = decide ss.Nodup := decide_eq_decide.mpr ⟨fun h => (uniq_nodup ss).mp (Int.ofNat.inj h), fun h => by rw [(uniq_nodup ss).mpr h]⟩
theorem filter_isEmpty {α : Type} (p : α → Bool) : ∀ xs : List α, (xs.filter p).isEmpty = xs.all fun x => !p x
  | [] => rfl
  | x :: xs => by
    rw [List.filter_cons, List.all_cons]
    cases c : p x with
    | true => rfl
    | false => rw [if_neg Bool.false_ne_true, filter_isEmpty p xs]; rfl
theorem map_isEmpty {α β : Type} (f : α → β) (xs : List α) : (xs.map f).isEmpty = xs.isEmpty := by cases xs <;> rfl
/-- the k-th is not among those before it -/
def freshAt (ss : List Str) (k : Nat) : Bool := match ss[k]? with
  | some z => !decide (z ∈ ss.take k)
  | none => true
theorem fresh_nodup : ∀ (ss : List Str) (n : Nat), n ≤ ss.length → ((List.range n).all (freshAt ss) = true ↔ (ss.take n).Nodup)
  | ss, 0, _ => by simp
  | ss, n + 1, h => by
    have hn : ss[n]? = some ss[n] := List.getElem?_eq_getElem h
    have tk : ss.take (n + 1) = ss.take n ++ [ss[n]] := by rw [List.take_add_one, hn]; rfl
    have ih := fresh_nodup ss n (by omega)
    rw [List.range_succ, List.all_append, Bool.and_eq_true, ih, tk, List.nodup_append]
    have e : [n].all (freshAt ss) = !decide (ss[n] ∈ ss.take n) := by
      show (freshAt ss n && true) = _
      unfold freshAt
      rw [hn, Bool.and_true]
    rw [e]
    constructor
    · rintro ⟨h1, h2⟩
      have h2 : ss[n] ∉ ss.take n := by simpa using h2
      exact ⟨h1, by simp, fun a ha b hb => by
        have := List.mem_singleton.mp hb
        subst this
        exact fun z => h2 (z ▸ ha)⟩
    · rintro ⟨h1, _, h3⟩
      refine ⟨h1, ?_⟩
      have : ss[n] ∉ ss.take n := fun z => h3 _ z _ (by simp) rfl
      simpa using this
theorem fresh_all (ss : List Str) : (List.range ss.length).all (freshAt ss) = decide ss.Nodup := by
  have := fresh_nodup ss ss.length (Nat.le_refl _)
  rw [List.take_length] at this
  cases c : (List.range ss.length).all (freshAt ss) with
  | true => exact (decide_eq_true (this.mp c)).symm
  | false => exact (decide_eq_false fun z => by rw [this.mpr z] at c; cases c).symm
/-- k as a datum: whether it is a double -/
def dupD (ss : List Str) : Dt → Bool
  | .int i => !freshAt ss i.toNat
  | _ => false
theorem rangeD_dup (ss : List Str) : ((rangeD 0 (((ss.length : Nat) : Int)).toNat).filter (dupD ss)).isEmpty = decide ss.Nodup := by
  rw [filter_isEmpty, ← fresh_all]
  unfold rangeD
  rw [List.all_map, Int.toNat_natCast]
  congr 1
  funext a
  show (!dupD ss (.int (0 + (a : Nat)))) = _
  show (!(!freshAt ss (0 + (a : Int)).toNat)) = _
  rw [Bool.not_not, Int.zero_add, Int.toNat_natCast]
theorem rangeD_mem {n : Nat} {d : Dt} (h : d ∈ rangeD 0 n) : ∃ i : Nat, i < n ∧ d = .int i := by
  unfold rangeD at h
  obtain ⟨i, hi, e⟩ := List.mem_map.mp h
  exact ⟨i, List.mem_range.mp hi, by rw [← e, Int.zero_add]⟩
section
variable {K : PySem.W.Frag} {pf : Bool} {ρ : List Sl} {Φ : Dt → List Sl → Prop}
theorem w_isi {i : Nat} {c : String} {d : Dt} {b : Bool} (e : ρ[i]? = some (.dat d)) (hd : noTy d = true) (hk : kitB (tyD d) c = some b) (h : Φ (.bl b) ρ) : Wp K pf (tCB (rIsi K) (tCons (tVar i) (tCons (tC (.ty c)) tNil))) ρ Φ :=
  w_cb <| wa_cons <| w_var e <| wa_cons <| w_c (fun _ => .ty c) <| wa_nil <| rd_isi (noTy_ne hd) hk h
end
section
variable {K : PySem.W.Frag} {pf : Bool} {ρ : List Sl} {Φ : Dt → List Sl → Prop}
/-- [k for k in range(len(t)) if t[k] in t[:k]] == [] -/
theorem w_dups {i j : Nat} {ss : List Str} (e0 : ρ[i]? = some (.dat (.tup (ss.map Dt.str)))) (ej : ρ[j]? = some .any) (hij : j ≠ i) (hz : ss.length ≤ 1000) (h : Φ (.bl (decide ss.Nodup)) ρ) :
    Wp K pf (tOp (rEqNil K) (tLc (iRng1 (tCons (tCB (fun xs H Q => ∃ x n, xs = [x] ∧ LenV K x H n ∧ Q (.int n) H) (tCons (tVar i) tNil)) tNil)) (gName j)
      (tTest (tOp (rIn K false) (tOp (rIxT K) (tVar i) (tVar j)) (tSl (rSlA K) (tVar i) tNoPart (tPart (tVar j))))) (tVar j) [j]) (tLst tNil)) ρ Φ := by
  have hl : (ss.map Dt.str).length = ss.length := List.length_map _
  have a0 : ∀ s, (ρ.set j s)[i]? = some (.dat (.tup (ss.map Dt.str))) := fun s => by rw [List.getElem?_set_ne hij]; exact e0
  have aj : ∀ s, (ρ.set j s)[j]? = some s := fun s => List.getElem?_set_self (List.getElem?_eq_some_iff.mp ej).1
  refine w_op <| w_lcF (dupD ss) (fun d => d) ej <| wi_rng1 <| wa_cons <| w_cb <| wa_cons <| w_var e0 <| wa_nil <| rd_len rfl <| wa_nil ⟨_, rfl, by omega, by omega, rfl, by rw [rangeD_len]; omega, fun d hm => ?_, fun d hm _ => w_var (aj _) ⟨rfl, rfl⟩, ?_⟩
  · obtain ⟨n, hn, rfl⟩ := rangeD_mem hm
    have hn : n < ss.length := by omega
    have e1 : (ss.map Dt.str)[n]? = some (.str ss[n]) := by rw [List.getElem?_map, List.getElem?_eq_getElem hn]; rfl
    refine wt_test <| w_op <| w_op <| w_var (a0 _) <| w_var (aj _) <| od_ixT (atI_nat' e1) <| w_sl <| w_var (a0 _) <| wo_none <| wo_some <| w_var (aj _) ⟨_, rfl, sd_tup ?_⟩
    rw [cutD_to n rfl, ← List.map_take]
    refine od_inS (neg := false) (xs := ss.take n) rfl ⟨_, rfl, ?_, rfl⟩
    show decide _ = !freshAt ss ((n : Nat) : Int).toNat
    rw [Int.toNat_natCast]
    unfold freshAt
    rw [List.getElem?_eq_getElem hn]
    show _ = !!_
    rw [Bool.not_not]
  · refine w_lst <| wa_nil ⟨Nat.zero_le _, od_eqNil ?_⟩
    rw [map_isEmpty, hl, rangeD_dup]
    exact h
end
theorem in_seqK {X : Cx} (K : PySem.W.Frag) (h : X.K = K) : OpR X (compareOp .In) (rIn K false) := by subst h; exact op_in_seq
theorem notIn_seqK {X : Cx} (K : PySem.W.Frag) (h : X.K = K) : OpR X (compareOp .NotIn) (rIn K true) := by subst h; exact op_notIn_seq
theorem isiK {X : Cx} (K : PySem.W.Frag) (h : X.K = K) : CallR X (.builtin "isinstance") (rIsi K) := by subst h; exact call_isi
theorem ixK {X : Cx} (K : PySem.W.Frag) (h : X.K = K) : IxR X (rIx K) := by subst h; exact ix_seq
theorem ixTK {X : Cx} (K : PySem.W.Frag) (h : X.K = K) : IxR X (rIxT K) := by subst h; exact ix_tup
theorem slTK {X : Cx} (K : PySem.W.Frag) (h : X.K = K) : SlR X (rSlA K) := by subst h; exact sl_tupA
section
variable {P : Program} {w : World} {K : PySem.W.Frag} {mg : Str → Option Value} {base : Heap}
/-! ### is_integer -/
def WInt : List Dt → (Dt → Prop) → Prop := fun ds Φ => ∃ d, ds = [d] ∧ noTy d = true ∧ Φ (.bl (isInt d))
theorem ok_int {f : Addr} {fd : FuncData} (F : Fun K "is_integer" "is_integer" sInt f fd) (B : Bt mg) : FnG P w K mg base CX0 1 f fd ["value"] (spP K WInt) := by
  refine defP F scInt (fun ds Φ ⟨d, e, _⟩ => by rw [e]; rfl) (by decide) fun cdv A outer s H E hr hg => ?_
  refine ⟨_, pss_one (ps_ret (pe_and (pe_callB call_isi (by rfl) B.isi boot_isinstance (pa_cons (pv 0) (pa_cons (pe_bltn (v := .ty "int") (by rfl) B.int PyProof.Rows.boot_int rfl) pa_nil)))
    (pe_one (pe_not (pe_callB call_isi (by rfl) B.isi boot_isinstance (pa_cons (pv 0) (pa_cons (pe_bltn (v := .ty "bool") (by rfl) B.bool PyProof.Rows.boot_bool rfl) pa_nil))))))), ?_⟩
  rintro ds Φ ⟨d, rfl, hd, q⟩
  obtain ⟨b, k1, k2, k3⟩ := kit_int hd
  obtain ⟨c, k4⟩ := kit_bool hd
  refine ws_ret (pf := true) (w_andV (w_cb (wa_cons (w_var rfl (wa_cons (w_c (fun _ => .ty "int") (wa_nil (rd_isi (noTy_ne hd) k1 ⟨b, rfl, ?_⟩))))))))
  cases b with
  | true =>
    rw [if_pos rfl]
    refine w_notV (w_cb (wa_cons (w_var rfl (wa_cons (w_c (fun _ => .ty "bool") (wa_nil (rd_isi (noTy_ne hd) k4 ⟨c, rfl, ?_⟩)))))))
    rw [← k2 rfl c k4]
    exact q
  | false =>
    rw [if_neg Bool.false_ne_true, ← k3 rfl]
    exact q
/-! ### is_name -/
def WNam : List Dt → (Dt → Prop) → Prop := fun ds Φ => ∃ d, ds = [d] ∧ shortD d = true ∧ Φ (.bl (isName d))
theorem ok_nam {f : Addr} {fd : FuncData} {tk : Tok} (F : Fun K "is_name" "is_name" sNam f fd) (B : Bt mg) (hM : mg "MOST_LETTERS" = some (.int 8 tk)) : FnG P w K mg base CX0 1 f fd ["value"] (spP K WNam) := by
  refine defP F scNam (fun ds Φ ⟨d, e, _⟩ => by rw [e]; rfl) (by decide) fun cdv A outer s H E hr hg => ?_
  refine ⟨_, pss_cons (ps_if (PW.pt (pw_or (pt_not (pt_val (pe_callB call_isi (by rfl) B.isi boot_isinstance (pa_cons (pv 0) (pa_cons (pe_bltn (v := .ty "str") (by rfl) B.str PyProof.Rows.boot_str rfl) pa_nil)))))
      (pw_or1 (pt_not (pt_chain op_le op_le pe_int (pe_callB call_len (by rfl) B.len PySem.boot_len (pa_cons (pv 0) pa_nil)) (pe_glob (v := .int 8) (by rfl) hM ⟨_, rfl⟩))))))
      (pss_one (ps_ret pe_bl)) pss_nil)
    (pss_one (ps_ret (pe_callB (cr_all rfl) (by rfl) B.all boot_all (pa_cons (pe_lc (own := [("letter", 1)]) (g := gName 1) (tt := tYes) rfl scNam.nd (pi_str (pv 0)) (blkOk_by (N := ["value", "letter"]) (sc := defScope sNam) (by decide +kernel))
      (fun _ _ _ _ _ => pg_name (i := 1) scNam.nd rfl (Or.inl rfl)) (fun _ _ _ _ _ => pts_nil) (fun _ _ _ _ _ => pe_chain op_le_str op_le_str pe_str (pv 1) pe_str)) pa_nil)))), ?_⟩
  rintro ds Φ ⟨d, rfl, hd, q⟩
  refine ws_seq <| ws_if (pf := true) <| wt_or <| wt_not <| wt_B <| w_isi rfl (shortD_no hd) (kit_str (shortD_no hd)) ⟨_, rfl, ?_⟩
  cases c : isStr d with
  | false =>
    refine ifT (ifT (ws_ret (pf := true) (w_c (fun _ => .bl false) ?_)))
    have e : isName d = false := by
      cases d with
      | str z => cases c
      | _ => rfl
    rw [e] at q
    exact q
  | true =>
    obtain ⟨z, rfl⟩ := isStr_of c
    have hz : z.length ≤ 1000 := of_decide_eq_true hd
    refine ifF <| wt_not <| wt_test <| w_chain <| w_c (fun _ => .int 1) <| w_cb <| wa_cons <| w_var rfl <| wa_nil <| rd_len (len1000 hz) <| od_I0b ⟨_, rfl, ?_⟩
    by_cases c1 : (1 : Int) ≤ (z.length : Nat)
    · rw [decide_eq_true c1]
      refine ifT (w_c (fun _ => .int 8) (od_I0b ⟨_, rfl, ?_⟩))
      by_cases c2 : ((z.length : Nat) : Int) ≤ 8
      · rw [decide_eq_true c2]
        refine ifF (ws_next ?_)
        refine ws_ret (pf := true) (w_cb (wa_cons (w_lcM (fun d => .bl (lowD d)) rfl (wi_str (w_var rfl ⟨z, rfl, rfl, by rw [signs_len]; omega, fun d hm => ?_, wa_nil ?_⟩)))))
        · obtain ⟨x, rfl⟩ := signs_mem hm
          refine w_chain (w_c (fun _ => .str _) (w_var rfl (od_SSb ⟨_, rfl, ?_⟩)))
          cases c3 : decide ((⟨#[x]⟩ : Str).cps.toList < ("a" : Str).cps.toList) with
          | true => exact ifF ⟨by show _ = Dt.bl (low _); unfold low; rw [c3]; rfl, rfl⟩
          | false => exact ifT (w_c (fun _ => .str _) (od_SSb ⟨by show _ = Dt.bl (low _); unfold low; rw [c3]; rfl, rfl⟩))
        · rw [map_bl]
          refine rd_all ?_
          rw [all_id]
          have e : isName (.str z) = (DL.signs z).all lowD := by
            show (decide _ && decide _ && _) = _
            rw [decide_eq_true (show 1 ≤ z.length by omega), decide_eq_true (show z.length ≤ 8 by omega)]
            rfl
          rw [← e]
          exact q
      · rw [decide_eq_false c2]
        refine ifT (ws_ret (pf := true) (w_c (fun _ => .bl false) ?_))
        have e : isName (.str z) = false := by
          show (decide _ && decide _ && _) = _
          rw [decide_eq_false (show ¬ z.length ≤ 8 by omega), Bool.and_false, Bool.false_and]
        rw [← e]
        exact q
    · rw [decide_eq_false c1]
      refine ifF ⟨_, rfl, ifT (ws_ret (pf := true) (w_c (fun _ => .bl false) ?_))⟩
      have e : isName (.str z) = false := by
        show (decide _ && decide _ && _) = _
        rw [decide_eq_false (show ¬ 1 ≤ z.length by omega), Bool.false_and, Bool.false_and]
      rw [← e]
      exact q
/-! ### is_own_name -/
def WOwn : List Dt → (Dt → Prop) → Prop := fun ds Φ => ∃ d, ds = [d] ∧ shortD d = true ∧ Φ (.bl (isOwn d))
theorem ok_own {f fN : Addr} {fd fdN : FuncData} {k : Nat} (F : Fun K "is_own_name" "is_own_name" sOwn f fd) (FN : Fun K "is_name" "is_name" sNam fN fdN) (bN : Binds K fdN ["value"] []) (gN : mg "is_name" = some (.ref fN)) (G : FnG P w K mg base CX0 k fN fdN ["value"] (spP K WNam)) :
    FnG P w K mg base CX0 (k + 1) f fd ["value"] (spP K WOwn) := by
  refine defP F scOwn (fun ds Φ ⟨d, e, _⟩ => by rw [e]; rfl) (by decide) fun cdv A outer s H E hr hg => ?_
  refine ⟨_, pss_one (ps_ret (pe_and (pe_callG G hr hg (by rfl) gN FN.kp bN .nil pass0 (pa_cons (pv 0) pa_nil)) (pe_one (pe_cmpR op_ne (pv 0) pe_str (nomark _))))), ?_⟩
  rintro ds Φ ⟨d, rfl, hd, q⟩
  refine ws_ret (pf := true) <| w_andV <| w_call0 <| wa_cons <| w_var rfl <| wa_nil ⟨d, rfl, hd, _, rfl, ?_⟩
  cases c : isName d with
  | false => exact ifF (by rw [isOwn_no c] at q; exact q)
  | true =>
    obtain ⟨z, rfl⟩ := isName_str c
    rw [isOwn_eq, c, Bool.true_and] at q
    exact ifT <| w_op <| w_var rfl <| w_c (fun _ => .str _) <| od_nes q
/-! ### is_name_row -/
def WRow : List Dt → (Dt → Prop) → Prop := fun ds Φ => ∃ d m, ds = [d, .int m] ∧ thingD d = true ∧ Φ (.bl (isRow d m))
theorem ok_row {f fN : Addr} {fd fdN : FuncData} {k : Nat} (F : Fun K "is_name_row" "is_name_row" sRow f fd) (FN : Fun K "is_own_name" "is_own_name" sOwn fN fdN) (bN : Binds K fdN ["value"] []) (gN : mg "is_own_name" = some (.ref fN)) (B : Bt mg) (G : FnG P w K mg base CX0 k fN fdN ["value"] (spP K WOwn)) :
    FnG P w K mg base CX0 (k + 1) f fd ["value", "most"] (spP K WRow) := by
  refine defP F scRow (fun ds Φ ⟨d, m, e, _⟩ => by rw [e]; rfl) (by decide) fun cdv A outer s H E hr hg => ?_
  refine ⟨_, pss_cons (ps_if (PW.pt (pw_or (pt_not (pt_val (pe_callB call_isi (by rfl) B.isi boot_isinstance (pa_cons (pv 0) (pa_cons (pe_bltn (v := .ty "tuple") (by rfl) B.tuple PyProof.Rows.boot_tuple rfl) pa_nil)))))
      (pw_or1 (pt_cmpR op_gt (pe_callB call_len (by rfl) B.len PySem.boot_len (pa_cons (pv 0) pa_nil)) (pv 1) (nomark _)))))
      (pss_one (ps_ret pe_bl)) pss_nil)
    (pss_one (ps_ret (pe_and (pe_callB (cr_all rfl) (by rfl) B.all boot_all (pa_cons (pe_lc (own := [("name", 2)]) (g := gName 2) (tt := tYes) rfl scRow.nd (pi_tup (pv 0)) (blkOk_by (N := ["value", "most", "name"]) (sc := defScope sRow) (by decide +kernel))
      (fun _ _ _ _ _ => pg_name (i := 2) scRow.nd rfl (Or.inl rfl)) (fun _ _ _ _ _ => pts_nil) (fun _ _ _ _ _ => pe_callG G hr hg (by rfl) gN FN.kp bN .nil pass0 (pa_cons (pv 2) pa_nil))) pa_nil))
      (pe_one (pe_cmpR op_eq (pe_lenS rfl (by rfl) B.len (by rfl) B.set (pv 0)) (pe_callB call_len (by rfl) B.len PySem.boot_len (pa_cons (pv 0) pa_nil)) (nomark _)))))), ?_⟩
  rintro ds Φ ⟨d, m, rfl, hd, q⟩
  refine ws_seq <| ws_if (pf := true) <| wt_or <| wt_not <| wt_B <| w_isi rfl (thingD_no hd) (kit_tup (thingD_no hd)) ⟨_, rfl, ?_⟩
  cases c : isTup d with
  | false =>
    refine ifT <| ifT <| ws_ret (pf := true) <| w_c (fun _ => .bl false) ?_
    have e : isRow d m = false := by
      cases d with
      | tup z => cases c
      | _ => rfl
    rw [e] at q
    exact q
  | true =>
    obtain ⟨xs, rfl⟩ := isTup_of c
    obtain ⟨hz, hs⟩ := thingD_tup hd
    refine ifF <| wt_test <| w_op <| w_cb <| wa_cons <| w_var rfl <| wa_nil <| rd_len rfl <| w_var rfl <| od_I0b ⟨_, rfl, ?_⟩
    by_cases c1 : m < (xs.length : Nat)
    · rw [decide_eq_true c1]
      refine ifT <| ws_ret (pf := true) <| w_c (fun _ => .bl false) ?_
      have e : isRow (.tup xs) m = false := by
        show (decide _ && _) = _
        rw [decide_eq_false (show ¬ ((xs.length : Nat) : Int) ≤ m by omega), Bool.false_and]
      rw [e] at q
      exact q
    · rw [decide_eq_false c1]
      have e : isRow (.tup xs) m = rowIs xs := by
        show (decide _ && _) = _
        rw [decide_eq_true (show ((xs.length : Nat) : Int) ≤ m by omega), Bool.true_and]
      rw [e] at q
      refine ifF <| ws_next <| ws_ret (pf := true) <| w_andV <| w_cb <| wa_cons <| w_lcM (fun d => .bl (isOwn d)) rfl <| wi_tup <| w_var rfl ⟨xs, rfl, rfl, by omega, fun d hm => ?_, wa_nil ?_⟩
      · exact w_call0 <| wa_cons <| w_var rfl <| wa_nil ⟨d, rfl, hs d hm, rfl, rfl⟩
      · rw [map_bl]
        refine rd_all ⟨_, rfl, ?_⟩
        rw [all_id]
        cases ca : xs.all isOwn with
        | false =>
          refine ifF ?_
          unfold rowIs at q
          rw [ca, Bool.false_and] at q
          exact q
        | true =>
          obtain ⟨ss, rfl⟩ := all_str (fun _ => isOwn_str) ca
          unfold rowIs at q
          rw [ca, Bool.true_and, strsOf_map] at q
          rw [List.length_map] at hz
          refine ifT <| w_op <| w_lenS <| w_var rfl ⟨ss, rfl, hz, w_cb <| wa_cons <| w_var rfl <| wa_nil <| rd_len rfl <| od_eqi ?_⟩
          rw [List.length_map, uniq_dec]
          exact q
/-! ### is_lead -/
def WLead : List Dt → (Dt → Prop) → Prop := fun ds Φ => ∃ d, ds = [d] ∧ thingD d = true ∧ Φ (.bl (isRow d 4))
theorem ok_lead {f fN : Addr} {fd fdN : FuncData} {k : Nat} {tk : Tok} (F : Fun K "is_lead" "is_lead" sLead f fd) (FN : Fun K "is_name_row" "is_name_row" sRow fN fdN) (bN : Binds K fdN ["value", "most"] []) (gN : mg "is_name_row" = some (.ref fN)) (hM : mg "MOST_IN_LEAD" = some (.int 4 tk)) (G : FnG P w K mg base CX0 k fN fdN ["value", "most"] (spP K WRow)) :
    FnG P w K mg base CX0 (k + 1) f fd ["value"] (spP K WLead) := by
  refine defP F scLead (fun ds Φ ⟨d, e, _⟩ => by rw [e]; rfl) (by decide) fun cdv A outer s H E hr hg => ?_
  refine ⟨_, pss_one (ps_ret (pe_callG G hr hg (by rfl) gN FN.kp bN .nil pass0 (pa_cons (pv 0) (pa_cons (pe_glob (v := .int 4) (by rfl) hM ⟨_, rfl⟩) pa_nil)))), ?_⟩
  rintro ds Φ ⟨d, rfl, hd, q⟩
  exact ws_ret (pf := true) <| w_call0 <| wa_cons <| w_var rfl <| wa_cons <| w_c (fun _ => .int 4) <| wa_nil ⟨d, 4, rfl, hd, q⟩
/-! ### is_words -/
def WWords : List Dt → (Dt → Prop) → Prop := fun ds Φ => ∃ d ms, ds = [d, .tup (ms.map Dt.str)] ∧ thingD d = true ∧ Φ (.bl (isWords ms d))
theorem ok_words {f : Addr} {fd : FuncData} (F : Fun K "is_words" "is_words" sWords f fd) (B : Bt mg) : FnG P w K mg base CX0 1 f fd ["value", "words"] (spP K WWords) := by
  refine defP F scWords (fun ds Φ ⟨d, m, e, _⟩ => by rw [e]; rfl) (by decide) fun cdv A outer s H E hr hg => ?_
  refine ⟨_, pss_cons (ps_if (PW.pt (pw_or (pt_not (pt_val (pe_callB call_isi (by rfl) B.isi boot_isinstance (pa_cons (pv 0) (pa_cons (pe_bltn (v := .ty "tuple") (by rfl) B.tuple PyProof.Rows.boot_tuple rfl) pa_nil)))))
      (pw_or (pt_not (pt_val (pe_callB call_isi (by rfl) B.isi boot_isinstance (pa_cons (pv 1) (pa_cons (pe_bltn (v := .ty "tuple") (by rfl) B.tuple PyProof.Rows.boot_tuple rfl) pa_nil)))))
      (pw_or1 (pt_cmpR op_eq (pe_callB call_len (by rfl) B.len PySem.boot_len (pa_cons (pv 0) pa_nil)) pe_int (nomark _))))))
      (pss_one (ps_ret pe_bl)) pss_nil)
    (pss_cons (ps_if (pt_not (pt_val (pe_callB (cr_all rfl) (by rfl) B.all boot_all (pa_cons (pe_lc (own := [("word", 2)]) (g := gName 2) (tt := tYes) rfl scWords.nd (pi_tup (pv 0)) (blkOk_by (N := ["value", "words", "word"]) (sc := defScope sWords) (by decide +kernel))
      (fun _ _ _ _ _ => pg_name (i := 2) scWords.nd rfl (Or.inl rfl)) (fun _ _ _ _ _ => pts_nil) (fun _ _ _ _ _ => pe_and (pe_callB (isiK K rfl) (by rfl) B.isi boot_isinstance (pa_cons (pv 2) (pa_cons (pe_bltn (v := .ty "str") (by rfl) B.str PyProof.Rows.boot_str rfl) pa_nil)))
        (pe_one (pe_cmpR (in_seqK K rfl) (pv 2) (pv 1) (by rfl))))) pa_nil))))
      (pss_one (ps_ret pe_bl)) pss_nil)
    (pss_one (ps_ret (pe_cmpR op_eq (pe_lenS rfl (by rfl) B.len (by rfl) B.set (pv 0)) (pe_callB call_len (by rfl) B.len PySem.boot_len (pa_cons (pv 0) pa_nil)) (nomark _))))), ?_⟩
  rintro ds Φ ⟨d, ms, rfl, hd, q⟩
  refine ws_seq <| ws_if (pf := true) <| wt_or <| wt_not <| wt_B <| w_isi rfl (thingD_no hd) (kit_tup (thingD_no hd)) ⟨_, rfl, ?_⟩
  cases c : isTup d with
  | false =>
    refine ifT <| ifT <| ws_ret (pf := true) <| w_c (fun _ => .bl false) ?_
    have e : isWords ms d = false := by
      cases d with
      | tup z => cases c
      | _ => rfl
    rw [e] at q
    exact q
  | true =>
    obtain ⟨xs, rfl⟩ := isTup_of c
    obtain ⟨hz, hs⟩ := thingD_tup hd
    refine ifF <| wt_or <| wt_not <| wt_B <| w_isi (d := .tup (ms.map Dt.str)) rfl rfl (kit_tup rfl) ⟨_, rfl, ifF <| wt_test <| w_op <| w_cb <| wa_cons <| w_var rfl <| wa_nil <| rd_len rfl <| w_c (fun _ => .int 0) <| od_eqi ⟨_, rfl, ?_⟩⟩
    cases xs with
    | nil => exact ifT <| ws_ret (pf := true) <| w_c (fun _ => .bl false) q
    | cons x xs =>
      rw [decide_eq_false (show ¬ (((x :: xs).length : Nat) : Int) = 0 by rw [List.length_cons]; omega)]
      refine ifF <| ws_next <| ws_seq <| ws_if (pf := true) <| wt_not <| wt_B <| w_cb <| wa_cons <| w_lcM (fun d => .bl (wordOf ms d)) rfl <| wi_tup <| w_var rfl ⟨x :: xs, rfl, rfl, by omega, fun d hm => ?_, wa_nil ?_⟩
      · have hd' := shortD_no (hs d hm)
        refine w_andV <| w_isi rfl hd' (kit_str hd') ⟨_, rfl, ?_⟩
        cases c2 : isStr d with
        | false =>
          refine ifF ⟨?_, rfl⟩
          cases d with
          | str z => cases c2
          | _ => rfl
        | true =>
          obtain ⟨z, rfl⟩ := isStr_of c2
          exact ifT <| w_op <| w_var rfl <| w_var rfl <| od_inS (neg := false) (xs := ms) rfl ⟨rfl, rfl⟩
      · rw [map_bl]
        refine rd_all ⟨_, rfl, ?_⟩
        rw [all_id]
        have q : Φ (.bl (!(x :: xs).isEmpty && ((x :: xs).all (wordOf ms) && decide (strsOf (x :: xs)).Nodup))) := q
        cases ca : (x :: xs).all (wordOf ms) with
        | false =>
          rw [ca] at q
          exact ifT <| ws_ret (pf := true) <| w_c (fun _ => .bl false) q
        | true =>
          rw [ca] at q
          obtain ⟨ss, e⟩ := all_str (fun _ => wordOf_str) ca
          rw [e] at q hz ⊢
          rw [strsOf_map] at q
          rw [List.length_map] at hz
          refine ifF <| ws_next <| ws_ret (pf := true) <| w_op <| w_lenS <| w_var rfl ⟨ss, rfl, hz, w_cb <| wa_cons <| w_var rfl <| wa_nil <| rd_len rfl <| od_eqi ?_⟩
          rw [List.length_map, uniq_dec]
          have ne : (ss.map Dt.str).isEmpty = false := by rw [← e]; rfl
          rw [ne] at q
          exact q
/-! ### what is due: names -/
theorem ok_dueN {f : Addr} {fd : FuncData} (F : Fun K "_law_due_name" "_law_due_name" sDueN f fd) (B : Bt mg) : FnG P w K mg base CX0 1 f fd ["_law_thing"] (spP K WNam) := by
  refine defP F scDueN (fun ds Φ ⟨d, e, _⟩ => by rw [e]; rfl) (by decide) fun cdv A outer s H E hr hg => ?_
  refine ⟨_, pss_cons (ps_if (PW.pt (pw_or (pt_not (pt_val (pe_callB call_isi (by rfl) B.isi boot_isinstance (pa_cons (pv 0) (pa_cons (pe_bltn (v := .ty "str") (by rfl) B.str PyProof.Rows.boot_str rfl) pa_nil)))))
      (pw_or (pt_cmpR op_lt (pe_callB call_len (by rfl) B.len PySem.boot_len (pa_cons (pv 0) pa_nil)) pe_int (nomark _))
      (pw_or1 (pt_cmpR op_gt (pe_callB call_len (by rfl) B.len PySem.boot_len (pa_cons (pv 0) pa_nil)) pe_int (nomark _))))))
      (pss_one (ps_ret pe_bl)) pss_nil)
    (pss_one (ps_ret (pe_cmpR (op_eqNil hr.units) (pe_lc (own := [("_law_sign", 1)]) (g := gName 1) rfl scDueN.nd (pi_str (pv 0)) (blkOk_by (N := ["_law_thing", "_law_sign"]) (sc := defScope sDueN) (by decide +kernel))
      (fun _ _ _ _ _ => pg_name (i := 1) scDueN.nd rfl (Or.inl rfl)) (fun _ _ _ _ _ => pts_one (pt_not (pt_chain op_le_str op_le_str pe_str (pv 1) pe_str))) (fun _ _ _ _ _ => pv 1)) (pe_lst pa_nil) (nomark _)))), ?_⟩
  rintro ds Φ ⟨d, rfl, hd, q⟩
  refine ws_seq <| ws_if (pf := true) <| wt_or <| wt_not <| wt_B <| w_isi rfl (shortD_no hd) (kit_str (shortD_no hd)) ⟨_, rfl, ?_⟩
  cases c : isStr d with
  | false =>
    refine ifT <| ifT <| ws_ret (pf := true) <| w_c (fun _ => .bl false) ?_
    have e : isName d = false := by
      cases d with
      | str z => cases c
      | _ => rfl
    rw [e] at q
    exact q
  | true =>
    obtain ⟨z, rfl⟩ := isStr_of c
    have hz : z.length ≤ 1000 := of_decide_eq_true hd
    have qe : isName (.str z) = (decide (1 ≤ z.length) && decide (z.length ≤ 8) && (DL.signs z).all lowD) := rfl
    refine ifF <| wt_or <| wt_test <| w_op <| w_cb <| wa_cons <| w_var rfl <| wa_nil <| rd_len (len1000 hz) <| w_c (fun _ => .int 1) <| od_I0b ⟨_, rfl, ?_⟩
    by_cases c1 : ((z.length : Nat) : Int) < 1
    · rw [decide_eq_true c1]
      refine ifT <| ifT <| ws_ret (pf := true) <| w_c (fun _ => .bl false) ?_
      rw [qe, decide_eq_false (show ¬ 1 ≤ z.length by omega), Bool.false_and, Bool.false_and] at q
      exact q
    · rw [decide_eq_false c1]
      refine ifF <| wt_test <| w_op <| w_cb <| wa_cons <| w_var rfl <| wa_nil <| rd_len (len1000 hz) <| w_c (fun _ => .int 8) <| od_I0b ⟨_, rfl, ?_⟩
      by_cases c2 : (8 : Int) < (z.length : Nat)
      · rw [decide_eq_true c2]
        refine ifT <| ws_ret (pf := true) <| w_c (fun _ => .bl false) ?_
        rw [qe, decide_eq_false (show ¬ z.length ≤ 8 by omega), Bool.and_false, Bool.false_and] at q
        exact q
      · rw [decide_eq_false c2]
        rw [qe, decide_eq_true (show 1 ≤ z.length by omega), decide_eq_true (show z.length ≤ 8 by omega), Bool.true_and, Bool.true_and] at q
        refine ifF <| ws_next <| ws_ret (pf := true) <| w_op <| w_lcF (fun d => !lowD d) (fun d => d) rfl <| wi_str <| w_var rfl ⟨z, rfl, rfl, by rw [signs_len]; omega, fun d hm => ?_, fun d hm _ => w_var rfl ⟨rfl, rfl⟩, ?_⟩
        · obtain ⟨x, rfl⟩ := signs_mem hm
          refine wt_not <| wt_test <| w_chain <| w_c (fun _ => .str _) <| w_var rfl <| od_SSb ⟨_, rfl, ?_⟩
          cases c3 : decide ((⟨#[x]⟩ : Str).cps.toList < ("a" : Str).cps.toList) with
          | true => exact ifF ⟨_, rfl, by show _ = !low _; unfold low; rw [c3]; rfl, rfl⟩
          | false => exact ifT <| w_c (fun _ => .str _) <| od_SSb ⟨_, rfl, by show _ = !low _; unfold low; rw [c3]; rfl, rfl⟩
        · refine w_lst <| wa_nil ⟨Nat.zero_le _, od_eqNil ?_⟩
          rw [map_isEmpty, filter_isEmpty]
          have e : (DL.signs z).all (fun d => !!lowD d) = (DL.signs z).all lowD := by congr 1; funext a; exact Bool.not_not _
          rw [e]
          exact q
/-! ### what is due: leads -/
theorem ok_dueL {f fN : Addr} {fd fdN : FuncData} {k : Nat} (F : Fun K "_law_due_lead" "_law_due_lead" sDueL f fd) (FN : Fun K "_law_due_name" "_law_due_name" sDueN fN fdN) (bN : Binds K fdN ["_law_thing"] []) (gN : mg "_law_due_name" = some (.ref fN)) (B : Bt mg) (G : FnG P w K mg base CX0 k fN fdN ["_law_thing"] (spP K WNam)) :
    FnG P w K mg base CX0 (k + 1) f fd ["_law_thing"] (spP K WLead) := by
  refine defP F scDueL (fun ds Φ ⟨d, e, _⟩ => by rw [e]; rfl) (by decide) fun cdv A outer s H E hr hg => ?_
  refine ⟨_, pss_cons (ps_if (PW.pt (pw_or (pt_not (pt_val (pe_callB call_isi (by rfl) B.isi boot_isinstance (pa_cons (pv 0) (pa_cons (pe_bltn (v := .ty "tuple") (by rfl) B.tuple PyProof.Rows.boot_tuple rfl) pa_nil)))))
      (pw_or1 (pt_cmpR op_gt (pe_callB call_len (by rfl) B.len PySem.boot_len (pa_cons (pv 0) pa_nil)) pe_int (nomark _)))))
      (pss_one (ps_ret pe_bl)) pss_nil)
    (pss_cons (ps_if (pt_cmpR (op_neNil hr.units) (pe_lc (own := [("_law_one", 1)]) (g := gName 1) rfl scDueL.nd (pi_tup (pv 0)) (blkOk_by (N := ["_law_thing", "_law_one", "_law_k"]) (sc := defScope sDueL) (by decide +kernel))
      (fun _ _ _ _ _ => pg_name (i := 1) scDueL.nd rfl (Or.inl rfl)) (fun _ _ _ _ _ => pts_one (PW.pt (pw_or (pt_not (pt_val (pe_callG G hr hg (by rfl) gN FN.kp bN .nil pass0 (pa_cons (pv 1) pa_nil)))) (pw_or1 (pt_cmpR op_eq (pv 1) pe_str (nomark _)))))) (fun _ _ _ _ _ => pv 1)) (pe_lst pa_nil) (nomark _))
      (pss_one (ps_ret pe_bl)) pss_nil)
    (pss_one (ps_ret (pe_cmpR (op_eqNil hr.units) (pe_lc (own := [("_law_k", 2)]) (g := gName 2) rfl scDueL.nd (pi_range1 (by rfl) B.range (pa_cons (pe_callB call_len (by rfl) B.len PySem.boot_len (pa_cons (pv 0) pa_nil)) pa_nil)) (blkOk_by (N := ["_law_thing", "_law_one", "_law_k"]) (sc := defScope sDueL) (by decide +kernel))
      (fun _ _ _ _ _ => pg_name (i := 2) scDueL.nd rfl (Or.inl rfl)) (fun _ _ _ _ _ => pts_one (pt_cmpR (in_seqK K rfl) (pe_ix (ixTK K rfl) (pv 0) (pv 2) (fun _ _ => rfl)) (pe_slice (slTK K rfl) (pv 0) po_none (po_some (pv 2))) (by rfl))) (fun _ _ _ _ _ => pv 2)) (pe_lst pa_nil) (nomark _))))), ?_⟩
  rintro ds Φ ⟨d, rfl, hd, q⟩
  refine ws_seq <| ws_if (pf := true) <| wt_or <| wt_not <| wt_B <| w_isi rfl (thingD_no hd) (kit_tup (thingD_no hd)) ⟨_, rfl, ?_⟩
  cases c : isTup d with
  | false =>
    refine ifT <| ifT <| ws_ret (pf := true) <| w_c (fun _ => .bl false) ?_
    have e : isRow d 4 = false := by
      cases d with
      | tup z => cases c
      | _ => rfl
    rw [e] at q
    exact q
  | true =>
    obtain ⟨xs, rfl⟩ := isTup_of c
    obtain ⟨hz, hs⟩ := thingD_tup hd
    have qe : isRow (.tup xs) 4 = (decide ((xs.length : Int) ≤ 4) && rowIs xs) := rfl
    refine ifF <| wt_test <| w_op <| w_cb <| wa_cons <| w_var rfl <| wa_nil <| rd_len rfl <| w_c (fun _ => .int 4) <| od_I0b ⟨_, rfl, ?_⟩
    by_cases c1 : (4 : Int) < (xs.length : Nat)
    · rw [decide_eq_true c1]
      refine ifT <| ws_ret (pf := true) <| w_c (fun _ => .bl false) ?_
      rw [qe, decide_eq_false (show ¬ ((xs.length : Nat) : Int) ≤ 4 by omega), Bool.false_and] at q
      exact q
    · rw [decide_eq_false c1]
      rw [qe, decide_eq_true (show ((xs.length : Nat) : Int) ≤ 4 by omega), Bool.true_and] at q
      refine ifF <| ws_next <| ws_seq <| ws_if (pf := true) <| wt_test <| w_op <| w_lcF (fun d => !isOwn d) (fun d => d) rfl <| wi_tup <| w_var rfl ⟨xs, rfl, rfl, by omega, fun d hm => ?_, fun d hm _ => w_var rfl ⟨rfl, rfl⟩, ?_⟩
      · refine wt_or <| wt_not <| wt_B <| w_call0 <| wa_cons <| w_var rfl <| wa_nil ⟨d, rfl, hs d hm, _, rfl, ?_⟩
        cases c2 : isName d with
        | false => exact ifT ⟨by rw [isOwn_no c2]; rfl, rfl⟩
        | true =>
          obtain ⟨z, rfl⟩ := isName_str c2
          exact ifF <| wt_test <| w_op <| w_var rfl <| w_c (fun _ => .str _) <| od_eqs ⟨_, rfl, by rw [isOwn_eq, c2, Bool.true_and, Bool.not_not], rfl⟩
      · refine w_lst <| wa_nil ⟨Nat.zero_le _, od_neNil ⟨_, rfl, ?_⟩⟩
        have e : (List.map (fun d => d) (List.filter (fun d => !isOwn d) xs)).isEmpty = xs.all isOwn := by
          rw [map_isEmpty, filter_isEmpty]
          congr 1
          funext a
          exact Bool.not_not _
        rw [e]
        cases ca : xs.all isOwn with
        | false =>
          unfold rowIs at q
          rw [ca, Bool.false_and] at q
          exact ifT <| ws_ret (pf := true) <| w_c (fun _ => .bl false) q
        | true =>
          obtain ⟨ss, rfl⟩ := all_str (fun _ => isOwn_str) ca
          unfold rowIs at q
          rw [ca, Bool.true_and, strsOf_map] at q
          rw [List.length_map] at hz
          exact ifF <| ws_next <| ws_ret (pf := true) <| w_dups (i := 0) (j := 2) rfl rfl (by decide) hz q
/-! ### what is due: words -/
theorem ok_dueW {f : Addr} {fd : FuncData} (F : Fun K "_law_due_words" "_law_due_words" sDueW f fd) (B : Bt mg) : FnG P w K mg base CX0 1 f fd ["_law_thing", "_law_menu"] (spP K WWords) := by
  refine defP F scDueW (fun ds Φ ⟨d, m, e, _⟩ => by rw [e]; rfl) (by decide) fun cdv A outer s H E hr hg => ?_
  refine ⟨_, pss_cons (ps_if (PW.pt (pw_or (pt_not (pt_val (pe_callB call_isi (by rfl) B.isi boot_isinstance (pa_cons (pv 0) (pa_cons (pe_bltn (v := .ty "tuple") (by rfl) B.tuple PyProof.Rows.boot_tuple rfl) pa_nil)))))
      (pw_or1 (pt_cmpR (op_eqTNil hr.units) (pv 0) (pe_tup pa_nil) (nomark _)))))
      (pss_one (ps_ret pe_bl)) pss_nil)
    (pss_cons (ps_if (pt_cmpR (op_neNil hr.units) (pe_lc (own := [("_law_one", 2)]) (g := gName 2) rfl scDueW.nd (pi_tup (pv 0)) (blkOk_by (N := ["_law_thing", "_law_menu", "_law_one", "_law_k"]) (sc := defScope sDueW) (by decide +kernel))
      (fun _ _ _ _ _ => pg_name (i := 2) scDueW.nd rfl (Or.inl rfl)) (fun _ _ _ _ _ => pts_one (PW.pt (pw_or (pt_not (pt_val (pe_callB (isiK K rfl) (by rfl) B.isi boot_isinstance (pa_cons (pv 2) (pa_cons (pe_bltn (v := .ty "str") (by rfl) B.str PyProof.Rows.boot_str rfl) pa_nil)))))
        (pw_or1 (pt_cmpR (notIn_seqK K rfl) (pv 2) (pv 1) (by rfl)))))) (fun _ _ _ _ _ => pv 2)) (pe_lst pa_nil) (nomark _))
      (pss_one (ps_ret pe_bl)) pss_nil)
    (pss_one (ps_ret (pe_cmpR (op_eqNil hr.units) (pe_lc (own := [("_law_k", 3)]) (g := gName 3) rfl scDueW.nd (pi_range1 (by rfl) B.range (pa_cons (pe_callB call_len (by rfl) B.len PySem.boot_len (pa_cons (pv 0) pa_nil)) pa_nil)) (blkOk_by (N := ["_law_thing", "_law_menu", "_law_one", "_law_k"]) (sc := defScope sDueW) (by decide +kernel))
      (fun _ _ _ _ _ => pg_name (i := 3) scDueW.nd rfl (Or.inl rfl)) (fun _ _ _ _ _ => pts_one (pt_cmpR (in_seqK K rfl) (pe_ix (ixTK K rfl) (pv 0) (pv 3) (fun _ _ => rfl)) (pe_slice (slTK K rfl) (pv 0) po_none (po_some (pv 3))) (by rfl))) (fun _ _ _ _ _ => pv 3)) (pe_lst pa_nil) (nomark _))))), ?_⟩
  rintro ds Φ ⟨d, ms, rfl, hd, q⟩
  refine ws_seq <| ws_if (pf := true) <| wt_or <| wt_not <| wt_B <| w_isi rfl (thingD_no hd) (kit_tup (thingD_no hd)) ⟨_, rfl, ?_⟩
  cases c : isTup d with
  | false =>
    refine ifT <| ifT <| ws_ret (pf := true) <| w_c (fun _ => .bl false) ?_
    have e : isWords ms d = false := by
      cases d with
      | tup z => cases c
      | _ => rfl
    rw [e] at q
    exact q
  | true =>
    obtain ⟨xs, rfl⟩ := isTup_of c
    obtain ⟨hz, hs⟩ := thingD_tup hd
    have qe : isWords ms (.tup xs) = (!xs.isEmpty && (xs.all (wordOf ms) && decide (strsOf xs).Nodup)) := rfl
    refine ifF <| wt_test <| w_op <| w_var rfl <| w_tup <| wa_nil ⟨Nat.zero_le _, od_eqTNil ⟨_, rfl, ?_⟩⟩
    cases ce : xs.isEmpty with
    | true =>
      rw [qe, ce] at q
      exact ifT <| ws_ret (pf := true) <| w_c (fun _ => .bl false) q
    | false =>
      rw [qe, ce] at q
      refine ifF <| ws_next <| ws_seq <| ws_if (pf := true) <| wt_test <| w_op <| w_lcF (fun d => !wordOf ms d) (fun d => d) rfl <| wi_tup <| w_var rfl ⟨xs, rfl, rfl, by omega, fun d hm => ?_, fun d hm _ => w_var rfl ⟨rfl, rfl⟩, ?_⟩
      · have hd' := shortD_no (hs d hm)
        refine wt_or <| wt_not <| wt_B <| w_isi rfl hd' (kit_str hd') ⟨_, rfl, ?_⟩
        cases c2 : isStr d with
        | false =>
          refine ifT ⟨?_, rfl⟩
          cases d with
          | str z => cases c2
          | _ => rfl
        | true =>
          obtain ⟨z, rfl⟩ := isStr_of c2
          exact ifF <| wt_test <| w_op <| w_var rfl <| w_var rfl <| od_inS (neg := true) (xs := ms) rfl ⟨_, rfl, rfl, rfl⟩
      · refine w_lst <| wa_nil ⟨Nat.zero_le _, od_neNil ⟨_, rfl, ?_⟩⟩
        have e : (List.map (fun d => d) (List.filter (fun d => !wordOf ms d) xs)).isEmpty = xs.all (wordOf ms) := by
          rw [map_isEmpty, filter_isEmpty]
          congr 1
          funext a
          exact Bool.not_not _
        rw [e]
        cases ca : xs.all (wordOf ms) with
        | false =>
          rw [ca] at q
          exact ifT <| ws_ret (pf := true) <| w_c (fun _ => .bl false) q
        | true =>
          rw [ca] at q
          obtain ⟨ss, rfl⟩ := all_str (fun _ => wordOf_str) ca
          rw [strsOf_map] at q
          rw [List.length_map] at hz
          exact ifF <| ws_next <| ws_ret (pf := true) <| w_dups (i := 0) (j := 3) rfl rfl (by decide) hz q
end
end K02

namespace K02
open PySem PySem.Spec PyProof.Rows L2 DL
abbrev sPenOf : Stmt := topS 10
abbrev sDraw : Stmt := topS 11
abbrev sPick : Stmt := topS 12
abbrev sLetters : Stmt := topS 13
abbrev sOdd : Stmt := topS 14
theorem scPenOf : FnScope ["_law_script"] ["_law_script"] (defScope sPenOf) := ⟨rfl, rfl, rfl, by decide +kernel, rfl, by decide +kernel, by decide +kernel⟩
theorem scDraw : FnScope ["_law_pen", "_law_many", "_law_digit", "_law_at", "_law_cell", "_law_great", "_law_mixed"] ["_law_pen", "_law_many"] (defScope sDraw) := ⟨rfl, rfl, rfl, by decide +kernel, rfl, by decide +kernel, by decide +kernel⟩
section
variable {K : PySem.W.Frag} {ρ : List Sl} {t u : TS} {D : DE}
theorem ws_seqI (I : List Sl → Prop) (h : Ws K t ρ { D with nx := I }) (k : ∀ ρ', I ρ' → Ws K u ρ' D) : Ws K (tSeq t u) ρ D := fun M σ H S E k0 =>
  h M σ H S { E with nx := u E } ⟨fun M' σ' H' ρ' s S' z => k ρ' z M' σ' H' S' E (k0.step s), k0.rt, k0.bk, k0.ct⟩
end
section
variable {P : Program} {w : World} {K : PySem.W.Frag} {mg : Str → Option Value} {base : Heap}
/-! ### _law_draw -/
def WDraw : Nat → List Dt → (Dt → Nat → Prop) → Prop := fun n ds Φ => ∃ many : Int, ds = [.int many] ∧ 0 < many ∧ many < 1073741824 ∧ n < 1000000 ∧ ∀ r : Nat, (r : Int) < many → Φ (.int r) (n + 1)
theorem ok_draw {f : Addr} {fd : FuncData} (F : Fun K "_law_draw" "_law_draw" sDraw f fd) (B : Bt mg) : FnG P w K mg base CX0 1 f fd ["_law_pen", "_law_many"] (spN K WDraw) := by
  refine defN F scDraw (fun n ds Φ ⟨m, e, _⟩ => by rw [e]; rfl) (by decide) fun cdv A outer s H E hr hg => ?_
  refine ⟨_, pss_cons (ps_if (pt_cmpR op_gt (pe_ix ix_list (pv 0) pe_int (fun _ _ => rfl)) pe_int (nomark _))
      (pss_cons (ps_set (i := 2) scDraw.nd rfl (.inl rfl) (pe_op op_mod (pe_callTy call_int1 (by rfl) B.int PyProof.Rows.boot_int (pa_cons (pe_ix ix_list (pv 0) pe_int (fun _ _ => rfl)) pa_nil)) (pv 1)))
      (pss_cons (ps_asg (pe_op op_fdiv (pe_callTy call_int1 (by rfl) B.int PyProof.Rows.boot_int (pa_cons (pe_ix ix_list (pv 0) pe_int (fun _ _ => rfl)) pa_nil)) (pv 1)) (pg_sub (pv 0) pe_int set_list))
      (pss_one (ps_ret (pv 2))))) pss_nil)
    <| pss_cons (ps_set (i := 3) scDraw.nd rfl (.inl rfl) (pe_ix ix_list (pv 0) pe_int (fun _ _ => rfl)))
    <| pss_cons (ps_asg (pe_op op_add (pv 3) pe_int) (pg_sub (pv 0) pe_int set_list))
    <| pss_cons (ps_set (i := 4) scDraw.nd rfl (.inl rfl) (pe_op op_add (pe_op op_mul pe_int (pv 3)) pe_int))
    <| pss_cons (ps_if (pt_cmpR (op_neNil hr.units) (pe_ix ix_list (pv 0) pe_int (fun _ _ => rfl)) (pe_lst pa_nil) (nomark _))
      (pss_one (ps_set (i := 4) scDraw.nd rfl (.inl rfl) (pe_ix ix_list (pe_ix ix_list (pv 0) pe_int (fun _ _ => rfl))
        (pe_op op_mod (pe_callTy call_int1 (by rfl) B.int PyProof.Rows.boot_int (pa_cons (pv 3) pa_nil)) (pe_callB call_len (by rfl) B.len PySem.boot_len (pa_cons (pe_ix ix_list (pv 0) pe_int (fun _ _ => rfl)) pa_nil))) (fun _ _ => rfl)))) pss_nil)
    <| pss_cons (ps_if (PW.pt (pw_and (pt_cmpR op_lt (pv 3) (pe_callB call_len (by rfl) B.len PySem.boot_len (pa_cons (pe_ix ix_list (pv 0) pe_int (fun _ _ => rfl)) pa_nil)) (nomark _))
        (pw_and1 (pt_cmpR op_ge (pe_callB call_abs (by rfl) B.abs boot_abs (pa_cons (pv 4) pa_nil)) (pe_op op_pow pe_int pe_int) (nomark _)))))
      (pss_cons (ps_set (i := 5) scDraw.nd rfl (.inl rfl) (pe_op op_add (pe_op op_mul pe_int (pe_op op_sub (pe_callB call_abs (by rfl) B.abs boot_abs (pa_cons (pv 4) pa_nil)) (pe_op op_pow pe_int pe_int)))
        (pe_callTy call_int1 (by rfl) B.int PyProof.Rows.boot_int (pa_cons (pe_cmpR op_lt (pv 4) pe_int (nomark _)) pa_nil))))
      (pss_cons (ps_asg (pe_op op_fdiv (pe_callTy call_int1 (by rfl) B.int PyProof.Rows.boot_int (pa_cons (pv 5) pa_nil)) (pv 1)) (pg_sub (pv 0) pe_int set_list))
      (pss_one (ps_ret (pe_op op_mod (pe_callTy call_int1 (by rfl) B.int PyProof.Rows.boot_int (pa_cons (pv 5) pa_nil)) (pv 1)))))) pss_nil)
    <| pss_cons (ps_set (i := 6) scDraw.nd rfl (.inl rfl) (pe_op op_mod (pe_callTy call_int1 (by rfl) B.int PyProof.Rows.boot_int (pa_cons (pe_op op_pow (pe_op op_add (pe_op op_add (pe_op op_mod (pe_callTy call_int1 (by rfl) B.int PyProof.Rows.boot_int (pa_cons (pv 4) pa_nil)) pe_int) (pe_op op_mul pe_int (pv 3))) pe_int) pe_int) pa_nil)) pe_int))
    <| pss_cons (ps_set (i := 6) scDraw.nd rfl (.inl rfl) (pe_op op_mod (pe_callTy call_int1 (by rfl) B.int PyProof.Rows.boot_int (pa_cons (pe_op op_pow (pe_op op_add (pe_op op_add (pe_op op_mul (pv 6) (pe_op op_add (pe_op op_mul pe_int (pv 3)) pe_int)) (pe_op op_mul (pe_op op_mul pe_int (pv 3)) (pv 3))) pe_int) pe_int) pa_nil)) pe_int))
    <| pss_one (ps_ret (pe_op op_mod (pe_callTy call_int1 (by rfl) B.int PyProof.Rows.boot_int (pa_cons (pe_op op_fdiv (pv 6) pe_int) pa_nil)) (pv 1))), ?_⟩
  rintro n ds Φ ⟨m, rfl, hm, hm2, hn, q⟩
  have qx : ∀ x : Int, Φ (.int (x % m)) (n + 1) := fun x => by
    have h1 := Int.emod_nonneg x (by omega : m ≠ 0)
    have h2 := Int.emod_lt_of_pos x hm
    have := q (x % m).toNat (by rw [Int.toNat_of_nonneg h1]; exact h2)
    rw [Int.toNat_of_nonneg h1] at this
    exact this
  refine ws_open (i := 0) rfl fun ns c g h1 h2 h3 => ?_
  show Ws K _ [.pown [.lst (ns.map Dt.int), .int c, .int g], .dat (.int m), .any, .any, .any, .any, .any] _
  refine ws_seq <| ws_if (pf := true) <| wt_pen (i := 0) rfl <| wt_test <| w_op <| w_op <| w_var rfl <| w_c (fun _ => .int 2) <| od_ixL (atI_nat' (j := 2) rfl) <| w_c (fun _ => .int 0) <| od_I0b ⟨_, rfl, ?_⟩
  by_cases cg : (0 : Int) < g
  · rw [decide_eq_true cg]
    refine ifT <| ws_seq <| ws_asg (pf := true) <| wp_pen (i := 0) rfl <| w_op <| w_cb <| wa_cons <| w_op <| w_var rfl <| w_c (fun _ => .int 2) <| od_ixL (atI_nat' (j := 2) rfl) <| wa_nil <| rd_int <| w_var rfl <| od_I hm ⟨rfl, ?_⟩
    refine ws_seq <| ws_setpen (pf := true) (i := 0) rfl <| wp_pen (i := 0) rfl <| w_op <| w_cb <| wa_cons <| w_op <| w_var rfl <| w_c (fun _ => .int 2) <| od_ixL (atI_nat' (j := 2) rfl) <| wa_nil <| rd_int <| w_var rfl <| od_I ⟨hm, hm2⟩ ⟨rfl, w_c (fun _ => .int 2) ⟨_, 2, rfl, rfl, by show 2 < 3; decide, ?_⟩⟩
    refine ws_ret (pf := true) <| w_var (d := .int (g % m)) rfl ⟨n + 1, _, rfl, ?_, qx g⟩
    exact .pown (ns := ns) (c := c) (g := g / m) (by omega) (Int.ediv_nonneg h2 (by omega)) h3
  · rw [decide_eq_false cg]
    have e1 : ((c : Nat) : Int) + 1 = ((c + 1 : Nat) : Int) := by omega
    refine ifF <| ws_next <| ws_seq <| ws_asg (pf := true) <| wp_pen (i := 0) rfl <| w_op <| w_var rfl <| w_c (fun _ => .int 1) <| od_ixL (atI_nat' (j := 1) rfl) ⟨rfl, ?_⟩
    refine ws_seq <| ws_setpen (pf := true) (i := 0) rfl <| w_op <| w_var (d := .int c) rfl <| w_c (fun _ => .int 1) <| od_I0i <| w_c (fun _ => .int 1) ⟨_, 1, rfl, rfl, by show 1 < 3; decide, ?_⟩
    show Ws K _ [.pown [.lst (ns.map Dt.int), .int ((c : Nat) + 1), .int g], .dat (.int m), .any, .dat (.int c), .any, .any, .any] _
    rw [e1]
    refine ws_seq <| ws_asg (pf := true) <| w_op <| w_op <| w_c (fun _ => .int _) <| w_var (d := .int c) rfl <| od_I (.inl ⟨by decide, by decide⟩) <| w_c (fun _ => .int _) <| od_I0i ?_
    refine ws_seqI (fun ρ' => ∃ x : Int, ρ' = [.pown [.lst (ns.map Dt.int), .int ((c + 1 : Nat)), .int g], .dat (.int m), .any, .dat (.int c), .dat (.int x), .any, .any]) ?_ ?_
    · refine ws_if (pf := true) <| wt_pen (i := 0) rfl <| wt_test <| w_op <| w_op <| w_var rfl <| w_c (fun _ => .int 0) <| od_ixL (d := .lst (ns.map Dt.int)) (atI_nat' (j := 0) rfl) <| w_lst <| wa_nil ⟨Nat.zero_le _, od_neNil ⟨_, rfl, ?_⟩⟩
      rw [map_isEmpty]
      by_cases ce : ns.isEmpty = true
      · rw [ce]
        exact ifF <| ws_next ⟨_, rfl⟩
      · rw [Bool.not_eq_true] at ce
        rw [ce]
        have hl : 0 < ns.length := by
          cases ns with
          | nil => cases ce
          | cons _ _ => exact Nat.succ_pos _
        have hl' : (0 : Int) < ((ns.map Dt.int).length : Nat) := by rw [List.length_map]; omega
        have ei : ((c : Nat) : Int) % (((ns.map Dt.int).length : Nat) : Int) = ((c % ns.length : Nat) : Int) := by rw [List.length_map]; exact (Int.natCast_emod c ns.length).symm
        have eg : atI (ns.map Dt.int) (((c : Nat) : Int) % (((ns.map Dt.int).length : Nat) : Int)) = some (.int (ns[c % ns.length]'(Nat.mod_lt _ hl))) := by
          rw [ei]
          refine atI_nat' ?_
          rw [List.getElem?_map, List.getElem?_eq_getElem (Nat.mod_lt _ hl)]
          rfl
        refine ifT <| ws_asg (pf := true) <| wp_pen (i := 0) rfl <| w_op <| w_op <| w_var rfl <| w_c (fun _ => .int 0) <| od_ixL (d := .lst (ns.map Dt.int)) (atI_nat' (j := 0) rfl) <| w_op <| w_cb <| wa_cons <| w_var (d := .int c) rfl <| wa_nil <| rd_int <| w_cb <| wa_cons <| w_op <| w_var rfl <| w_c (fun _ => .int 0) <| od_ixL (d := .lst (ns.map Dt.int)) (atI_nat' (j := 0) rfl) <| wa_nil <| rd_len rfl <| od_I hl' <| od_ixL eg ⟨rfl, _, rfl⟩
    · rintro ρ' ⟨x, rfl⟩
      refine ws_seqI (fun ρ' => ρ' = [.pown [.lst (ns.map Dt.int), .int ((c + 1 : Nat)), .int g], .dat (.int m), .any, .dat (.int c), .dat (.int x), .any, .any]) ?_ ?_
      · refine ws_if (pf := true) <| wt_pen (i := 0) rfl <| wt_and <| wt_test <| w_op <| w_var (d := .int c) rfl <| w_cb <| wa_cons <| w_op <| w_var rfl <| w_c (fun _ => .int 0) <| od_ixL (d := .lst (ns.map Dt.int)) (atI_nat' (j := 0) rfl) <| wa_nil <| rd_len rfl <| od_I0b ⟨_, rfl, ?_⟩
        cases decide (((c : Nat) : Int) < (((ns.map Dt.int).length : Nat) : Int)) with
        | false => exact ifF <| ifF <| ws_next rfl
        | true =>
          refine ifT <| wt_test <| w_op <| w_cb <| wa_cons <| w_var (d := .int x) rfl <| wa_nil <| rd_abs <| w_op <| w_c (fun _ => .int 10) <| w_c (fun _ => .int 18) <| od_I ⟨by decide, by decide, by decide⟩ <| od_I0b ⟨_, rfl, ?_⟩
          by_cases cx : (10 : Int) ^ Int.toNat 18 ≤ (if x < 0 then -x else x)
          · rw [decide_eq_true cx]
            refine ifT <| ws_seq <| ws_asg (pf := true) <| w_op <| w_op <| w_c (fun _ => .int 2) <| w_op <| w_cb <| wa_cons <| w_var (d := .int x) rfl <| wa_nil <| rd_abs <| w_op <| w_c (fun _ => .int 10) <| w_c (fun _ => .int 18) <| od_I ⟨by decide, by decide, by decide⟩ <| od_I0i <| od_I (.inl ⟨by decide, by decide⟩) <| w_cb <| wa_cons <| w_op <| w_var (d := .int x) rfl <| w_c (fun _ => .int 0) <| od_I0b <| wa_nil <| rd_intb <| od_I0i ?_
            have hy : (0 : Int) ≤ 2 * ((if x < 0 then -x else x) - (10 : Int) ^ Int.toNat 18) + (if decide (x < 0) = true then 1 else 0) := by
              generalize (10 : Int) ^ Int.toNat 18 = t at cx ⊢
              split <;> omega
            generalize 2 * ((if x < 0 then -x else x) - (10 : Int) ^ Int.toNat 18) + (if decide (x < 0) = true then 1 else 0) = y at hy ⊢
            refine ws_seq <| ws_setpen (pf := true) (i := 0) rfl <| w_op <| w_cb <| wa_cons <| w_var (d := .int y) rfl <| wa_nil <| rd_int <| w_var (d := .int m) rfl <| od_I ⟨hm, hm2⟩ <| w_c (fun _ => .int 2) ⟨_, 2, rfl, rfl, by show 2 < 3; decide, ?_⟩
            refine ws_ret (pf := true) <| w_op <| w_cb <| wa_cons <| w_var (d := .int y) rfl <| wa_nil <| rd_int <| w_var (d := .int m) rfl <| od_I hm ⟨n + 1, _, rfl, ?_, qx y⟩
            exact .pown (ns := ns) (c := c + 1) (g := y / m) (by omega) (Int.ediv_nonneg hy (by omega)) h3
          · rw [decide_eq_false cx]
            exact ifF <| ws_next rfl
      · rintro ρ' rfl
        refine ws_seq <| ws_asg (pf := true) <| w_op <| w_cb <| wa_cons <| w_op <| w_op <| w_op <| w_op <| w_cb <| wa_cons <| w_var (d := .int x) rfl <| wa_nil <| rd_int <| w_c (fun _ => .int _) <| od_I (by show (0 : Int) < _; decide) <| w_op <| w_c (fun _ => .int _) <| w_var (d := .int c) rfl <| od_I (.inl ⟨by decide, by decide⟩) <| od_I0i <| w_c (fun _ => .int _) <| od_I0i <| w_c (fun _ => .int _) <| od_I ⟨by decide, by decide, ?_⟩ <| wa_nil <| rd_int <| w_c (fun _ => .int _) <| od_I (by show (0 : Int) < _; decide) ?_
        · omega
        generalize hy0 : (_ : Int) % (2147483647 : Int) = y
        have hy1 : 0 ≤ y := by rw [← hy0]; exact Int.emod_nonneg _ (by decide)
        have hy2 : y < 2147483647 := by rw [← hy0]; exact Int.emod_lt_of_pos _ (by decide)
        refine ws_seq <| ws_asg (pf := true) <| w_op <| w_cb <| wa_cons <| w_op <| w_op <| w_op <| w_op <| w_var (d := .int y) rfl <| w_op <| w_op <| w_c (fun _ => .int _) <| w_var (d := .int c) rfl <| od_I (.inl ⟨by decide, by decide⟩) <| w_c (fun _ => .int _) <| od_I0i <| od_I (.inl ⟨by omega, by omega⟩) <| w_op <| w_op <| w_c (fun _ => .int _) <| w_var (d := .int c) rfl <| od_I (.inl ⟨by decide, by decide⟩) <| w_var (d := .int c) rfl <| od_I (.inr ⟨by omega, by omega⟩) <| od_I0i <| w_c (fun _ => .int _) <| od_I0i <| w_c (fun _ => .int _) <| od_I ⟨by decide, by decide, ?_⟩ <| wa_nil <| rd_int <| w_c (fun _ => .int _) <| od_I (by show (0 : Int) < _; decide) ?_
        · have a1 : y * (2 * ((c : Nat) : Int) + 31) ≤ 2147483647 * 2000031 := Int.mul_le_mul (by omega) (by omega) (by omega) (by decide)
          have a2 : 0 ≤ y * (2 * ((c : Nat) : Int) + 31) := Int.mul_nonneg hy1 (by omega)
          have a3 : 60169 * ((c : Nat) : Int) * ((c : Nat) : Int) ≤ (60169 * 1000000) * 1000000 := Int.mul_le_mul (by omega) (by omega) (by omega) (by decide)
          have a4 : 0 ≤ 60169 * ((c : Nat) : Int) * ((c : Nat) : Int) := Int.mul_nonneg (by omega) (by omega)
          generalize y * (2 * ((c : Nat) : Int) + 31) = u1 at a1 a2 ⊢
          generalize 60169 * ((c : Nat) : Int) * ((c : Nat) : Int) = u2 at a3 a4 ⊢
          omega
        generalize (_ : Int) % (2147483563 : Int) = z
        refine ws_ret (pf := true) <| w_op <| w_cb <| wa_cons <| w_op <| w_var (d := .int z) rfl <| w_c (fun _ => .int _) <| od_I ⟨by decide, by decide⟩ <| wa_nil <| rd_int <| w_var (d := .int m) rfl <| od_I hm ⟨n + 1, _, rfl, ?_, qx _⟩
        exact .pown (ns := ns) (c := c + 1) (g := g) (by omega) h2 h3
end
end K02

namespace K02
open PySem PySem.Spec PyProof.Rows L2 DL
theorem scPick : FnScope ["_law_pen", "_law_some"] ["_law_pen", "_law_some"] (defScope sPick) := ⟨rfl, rfl, rfl, by decide +kernel, rfl, by decide +kernel, by decide +kernel⟩
theorem scLetters : FnScope ["_law_pen", "_law_many", "_law_some", "_law_signs", "_law_k"] ["_law_pen", "_law_many"] (defScope sLetters) := ⟨rfl, rfl, rfl, by decide +kernel, rfl, by decide +kernel, by decide +kernel⟩
theorem scOdd : FnScope ["_law_pen", "_law_some"] ["_law_pen"] (defScope sOdd) := ⟨rfl, rfl, rfl, by decide +kernel, rfl, by decide +kernel, by decide +kernel⟩
theorem lenD_seq {d : Dt} {xs : List Dt} (h : seqD d = some xs) : lenD d = some xs.length := by
  cases d with
  | lst ds => cases h; rfl
  | tup ds => cases h; rfl
  | _ => cases h
/-- short, of small signs -/
def okT (z : Str) : Bool := decide (z.length ≤ 11) && z.cps.toList.all fun c => decide (c < 256)
def one256 (z : Str) : Prop := z.length = 1 ∧ (z.cps.toList.all fun c => decide (c < 256)) = true
theorem join_256 : ∀ {ss : List Str}, (∀ s ∈ ss, one256 s) → ((Str.join ("" : Str) ss).cps.toList.all fun c => decide (c < 256)) = true
  | [], _ => rfl
  | [x], h => (h x List.mem_cons_self).2
  | x :: y :: r, h => by
    have ih := join_256 (ss := y :: r) fun s hs => h s (List.mem_cons_of_mem _ hs)
    have hx := (h x List.mem_cons_self).2
    show ((x ++ ("" : Str) ++ Str.join ("" : Str) (y :: r)).cps.toList.all fun c => decide (c < 256)) = true
    have e : (x ++ ("" : Str) ++ Str.join ("" : Str) (y :: r)).cps = x.cps ++ (("" : Str).cps ++ (Str.join ("" : Str) (y :: r)).cps) := by
      show x.cps ++ ("" : Str).cps ++ _ = _
      rw [Array.append_assoc]
    rw [e, Array.toList_append, Array.toList_append, List.all_append, List.all_append, hx, ih]
    rfl
theorem join_len {ss : List Str} (h : ∀ s ∈ ss, s.length = 1) : (Txt.join ("" : Str) ss).length ≤ ss.length ∧ (ss.map (·.length)).sum = ss.length := by
  have e : (ss.map (·.length)).sum = ss.length := by
    induction ss with
    | nil => rfl
    | cons s r ih =>
      rw [List.map_cons, List.sum_cons, h s List.mem_cons_self, ih fun x hx => h x (List.mem_cons_of_mem _ hx), List.length_cons]
      omega
  refine ⟨?_, e⟩
  have := StrLaws.join_length_le ("" : Str) ss
  have e2 : Txt.join ("" : Str) ss = Str.join ("" : Str) ss := StrLaws.glued_eq_join _ _
  rw [e2]
  rw [e] at this
  have e0 : ("" : Str).length = 0 := rfl
  rw [e0] at this
  omega
def abc : Str := "abcdefghijklmnopqrstuvwxyz"
theorem abc_len : abc.cps.toList.length = 26 := by decide +kernel
theorem abc_256 : (abc.cps.toList.all fun c => decide (c < 256)) = true := by decide +kernel
theorem abc_line : abc.length ≤ sizeLine := by decide +kernel
section
variable {P : Program} {w : World} {K : PySem.W.Frag} {mg : Str → Option Value} {base : Heap}
/-! ### _law_pick -/
def WPick : Nat → List Dt → (Dt → Nat → Prop) → Prop := fun n ds Φ => ∃ d xs, ds = [d] ∧ seqD d = some xs ∧ 0 < xs.length ∧ xs.length ≤ 1000 ∧ n < 1000000 ∧ ∀ x ∈ xs, Φ x (n + 1)
theorem ok_pick {f fD : Addr} {fd fdD : FuncData} {k : Nat} (F : Fun K "_law_pick" "_law_pick" sPick f fd) (FD : Fun K "_law_draw" "_law_draw" sDraw fD fdD) (bD : Binds K fdD ["_law_pen", "_law_many"] []) (gD : mg "_law_draw" = some (.ref fD)) (B : Bt mg)
    (G : FnG P w K mg base CX0 k fD fdD ["_law_pen", "_law_many"] (spN K WDraw)) : FnG P w K mg base CX0 (k + 1) f fd ["_law_pen", "_law_some"] (spN K WPick) := by
  refine defN F scPick (fun n ds Φ ⟨m, _, e, _⟩ => by rw [e]; rfl) (by decide) fun cdv A outer s H E hr hg => ?_
  refine ⟨_, pss_one (ps_ret (pe_ix ix_seq (pv 1) (pe_callG G hr hg (by rfl) gD FD.kp bD .nil pass0 (pa_cons (pv 0) (pa_cons (pe_callB call_len (by rfl) B.len PySem.boot_len (pa_cons (pv 1) pa_nil)) pa_nil))) (fun _ _ => rfl))), ?_⟩
  rintro n ds Φ ⟨d, xs, rfl, hs, h1, h2, hn, q⟩
  refine ws_ret (pf := false) <| w_op <| w_var rfl <| w_callN (i := 0) rfl <| wa_cons <| w_cb <| wa_cons <| w_var rfl <| wa_nil <| rd_len (lenD_seq hs) <| wa_nil ⟨n, rfl, xs.length, rfl, by omega, by omega, hn, fun r hr => ?_⟩
  have hr : r < xs.length := by omega
  exact od_ix hs (atI_nat' (List.getElem?_eq_getElem hr)) ⟨n + 1, _, rfl, .pen (Nat.le_refl _), q _ (List.getElem_mem hr)⟩
/-! ### _law_letters -/
def WLetters : Nat → List Dt → (Dt → Nat → Prop) → Prop := fun n ds Φ => ∃ many : Int, ds = [.int many] ∧ 0 ≤ many ∧ many ≤ 11 ∧ n < 900000 ∧ ∀ z : Str, okT z = true → Φ (.str z) (n + 20)
def marks : List Dt := [.str "A", .str "Z", .str "0", .str "_", .str "-", .str " ", .str "\n", .str ".", .str "~"]
theorem marks_one {d : Dt} (h : d ∈ marks) : ∃ z : Str, d = .str z ∧ one256 z := by
  simp only [marks, List.mem_cons, List.not_mem_nil, or_false] at h
  rcases h with h | h | h | h | h | h | h | h | h <;> exact ⟨_, h, rfl, by decide +kernel⟩
theorem ok_letters {f fD fP : Addr} {fd fdD fdP : FuncData} {k : Nat} (F : Fun K "_law_letters" "_law_letters" sLetters f fd) (FD : Fun K "_law_draw" "_law_draw" sDraw fD fdD) (bD : Binds K fdD ["_law_pen", "_law_many"] []) (gD : mg "_law_draw" = some (.ref fD))
    (FP : Fun K "_law_pick" "_law_pick" sPick fP fdP) (bP : Binds K fdP ["_law_pen", "_law_some"] []) (gP : mg "_law_pick" = some (.ref fP)) (B : Bt mg)
    (G : FnG P w K mg base CX0 k fD fdD ["_law_pen", "_law_many"] (spN K WDraw)) (GP : FnG P w K mg base CX0 k fP fdP ["_law_pen", "_law_some"] (spN K WPick)) : FnG P w K mg base CX0 (k + 1) f fd ["_law_pen", "_law_many"] (spN K WLetters) := by
  refine defN F scLetters (fun n ds Φ ⟨m, e, _⟩ => by rw [e]; rfl) (by decide) fun cdv A outer s H E hr hg => ?_
  refine ⟨_, pss_cons (ps_set (i := 2) scLetters.nd rfl (Or.inr rfl) pe_str)
    <| pss_cons (ps_setLc (i := 3) (own := [("_law_k", 4)]) (g := gName 4) (tt := tYes) rfl scLetters.nd rfl rfl (sw_true rfl rfl rfl (by decide +kernel)) (pi_range1 (by rfl) B.range (pa_cons (pv 1) pa_nil)) (blkOk_by (N := ["_law_pen", "_law_many", "_law_some", "_law_signs", "_law_k"]) (sc := defScope sLetters) (by decide +kernel))
      (fun _ _ _ _ _ => pg_name (i := 4) scLetters.nd rfl (Or.inl rfl)) (fun _ _ _ _ _ => pts_nil) (fun _ _ _ _ _ => pe_ix ix_str (pv 2) (pe_callG G hr hg (by rfl) gD FD.kp bD .nil pass0 (pa_cons (pv 0) (pa_cons pe_int pa_nil))) (fun _ _ => rfl)))
    <| pss_cons (ps_if (PW.pt (pw_and (pt_cmpR (op_neNil hr.units) (pv 3) (pe_lst pa_nil) (nomark _)) (pw_and1 (pt_cmpR op_eq (pe_callG G hr hg (by rfl) gD FD.kp bD .nil pass0 (pa_cons (pv 0) (pa_cons pe_int pa_nil))) pe_int (nomark _)))))
      (pss_one (ps_asg (pe_callG GP hr hg (by rfl) gP FP.kp bP .nil pass0 (pa_cons (pv 0) (pa_cons (pe_lst (pa_cons pe_str (pa_cons pe_str (pa_cons pe_str (pa_cons pe_str (pa_cons pe_str (pa_cons pe_str (pa_cons pe_str (pa_cons pe_str (pa_cons pe_str pa_nil)))))))))) pa_nil)))
        (pg_sub (pv 3) (pe_callG G hr hg (by rfl) gD FD.kp bD .nil pass0 (pa_cons (pv 0) (pa_cons (pe_callB call_len (by rfl) B.len PySem.boot_len (pa_cons (pv 3) pa_nil)) pa_nil))) set_list))) pss_nil)
    <| pss_one (ps_ret (pe_join pe_str (pv 3))), ?_⟩
  rintro n ds Φ ⟨m, rfl, h1, h2, hn, q⟩
  refine ws_seq <| ws_asg (pf := false) <| w_c (fun _ => .str _) ?_
  show Ws K _ [.pen n, .dat (.int m), .dat (.str abc), .any, .any] _
  refine ws_seqI (fun ρ' => ∃ (ss : List Str) (n' : Nat), ρ' = [.pen n', .dat (.int m), .dat (.str abc), .own (ss.map Dt.str), .any] ∧ n' ≤ n + 11 ∧ ss.length ≤ 11 ∧ ∀ s ∈ ss, one256 s) ?_ ?_
  · refine ws_ownlc (pf := false) (i := 3) (js := [4]) (vs := [4]) (fun _ z => z) (by show 3 < 5; decide) <| wi_rng1 <| wa_cons <| w_var rfl <| wa_nil ⟨m, rfl, by omega, by omega, ?_⟩
    have hl : (rangeD 0 m.toNat).length = m.toNat := rangeD_len _ _
    refine ⟨fun i acc ρ2 => i ≤ 11 ∧ ∃ ss : List Str, acc = ss.map Dt.str ∧ ss.length = i ∧ (∀ s ∈ ss, one256 s) ∧ ∃ n', n' ≤ n + i ∧ ρ2 = [.pen n', .dat (.int m), .dat (.str abc), .any, .any], ⟨Nat.zero_le _, [], rfl, rfl, (fun _ z => nomatch z), n, Nat.le_refl _, rfl⟩, by omega, ?_, ?_⟩
    · rintro i d acc ρ2 hd ⟨hi, ss, rfl, hss, hone, n', hn', rfl⟩
      have hi2 : i < m.toNat := by rw [← hl]; exact (List.getElem?_eq_some_iff.mp hd).1
      refine wg_name <| wt_yes <| ifT <| w_op <| w_var rfl <| w_callN (i := 0) rfl <| wa_cons <| w_c (fun _ => .int 26) <| wa_nil ⟨n', rfl, 26, rfl, by decide, by decide, by omega, fun r hr => ?_⟩
      have hr : r < abc.cps.toList.length := by rw [abc_len]; omega
      refine od_ixS abc_line (atI_nat' (List.getElem?_eq_getElem hr)) ⟨by omega, ss ++ [⟨#[abc.cps.toList[r]]⟩], by rw [List.map_append]; rfl, by rw [List.length_append, hss]; rfl, ?_, n' + 1, by omega, rfl⟩
      intro s hs
      rcases List.mem_append.mp hs with z | z
      · exact hone s z
      · rw [List.mem_singleton.mp z]; exact ⟨rfl, List.all_eq_true.mpr fun c hc => by rw [List.mem_singleton.mp hc]; exact List.all_eq_true.mp abc_256 _ (List.getElem_mem hr)⟩
    · rintro acc ρ2 ⟨hi, ss, rfl, hss, hone, n', hn', rfl⟩
      exact ⟨by show 3 < 5; decide, ss, n', rfl, by omega, by omega, hone⟩
  · rintro ρ' ⟨ss, n', rfl, hn', hl, hone⟩
    refine ws_seqI (fun ρ' => ∃ (ss : List Str) (n' : Nat), ρ' = [.pen n', .dat (.int m), .dat (.str abc), .own (ss.map Dt.str), .any] ∧ n' ≤ n + 20 ∧ ss.length ≤ 11 ∧ ∀ s ∈ ss, one256 s) ?_ ?_
    · refine ws_if (pf := false) <| wt_and <| wt_thaw (i := 3) rfl <| wt_test <| w_op <| w_var rfl <| w_lst <| wa_nil ⟨Nat.zero_le _, od_neNil ⟨_, rfl, ?_⟩⟩
      rw [map_isEmpty]
      cases ce : ss.isEmpty with
      | true => exact ifF <| ifF <| ws_next ⟨ss, n', rfl, by omega, hl, hone⟩
      | false =>
        have hp : 0 < ss.length := by
          cases ss with
          | nil => cases ce
          | cons _ _ => exact Nat.succ_pos _
        refine ifT <| wt_test <| w_op <| w_callN (i := 0) rfl <| wa_cons <| w_c (fun _ => .int 4) <| wa_nil ⟨n', rfl, 4, rfl, by decide, by decide, by omega, fun r hr => w_c (fun _ => .int 0) <| od_eqi ⟨_, rfl, ?_⟩⟩
        cases decide ((r : Int) = 0) with
        | false => exact ifF <| ws_next ⟨ss, n' + 1, rfl, by omega, hl, hone⟩
        | true =>
          refine ifT <| ws_setitem (pf := false) (i := 3) ?_ rfl
          refine w_callN (i := 0) rfl <| wa_cons <| w_lst <| wa_cons <| w_c (fun _ => .str _) <| wa_cons <| w_c (fun _ => .str _) <| wa_cons <| w_c (fun _ => .str _) <| wa_cons <| w_c (fun _ => .str _) <| wa_cons <| w_c (fun _ => .str _) <| wa_cons <| w_c (fun _ => .str _) <| wa_cons <| w_c (fun _ => .str _) <| wa_cons <| w_c (fun _ => .str _) <| wa_cons <| w_c (fun _ => .str _) <| wa_nil ⟨by show 9 ≤ 100000; decide, wa_nil ⟨n' + 1, rfl, .lst marks, marks, rfl, rfl, by decide, by decide, by omega, fun x hx => ?_⟩⟩
          obtain ⟨z, rfl, hz⟩ := marks_one hx
          refine w_callN (i := 0) rfl <| wa_cons <| wp_thaw (i := 3) rfl <| w_cb <| wa_cons <| w_var rfl <| wa_nil <| rd_len rfl ⟨rfl, wa_nil ⟨n' + 1 + 1, rfl, ((ss.map Dt.str).length : Nat), rfl, by rw [List.length_map]; omega, by rw [List.length_map]; omega, by omega, fun j hj => ⟨ss.map Dt.str, j, rfl, rfl, by omega, ?_⟩⟩⟩
          rw [List.length_map] at hj
          refine ⟨ss.set j z, n' + 1 + 1 + 1, by rw [List.map_set]; rfl, by omega, by rw [List.length_set]; exact hl, fun s hs => ?_⟩
          rcases List.mem_or_eq_of_mem_set hs with c | c
          · exact hone s c
          · rw [c]; exact hz
    · rintro ρ' ⟨ss, n', rfl, hn', hl, hone⟩
      obtain ⟨j1, j2⟩ := join_len fun s hs => (hone s hs).1
      have j3 := join_256 hone
      rw [← StrLaws.glued_eq_join] at j3
      refine ws_ret (pf := false) <| wp_thaw (i := 3) rfl <| w_m1 <| w_c (fun _ => .str _) ⟨⟨_, rfl⟩, w_var rfl <| md_join (z := "") (xs := ss) rfl ?_ ⟨rfl, n + 20, _, rfl, .pen hn', q _ (by
        show (decide (_ ≤ 11) && _) = true
        rw [Bool.and_eq_true]
        exact ⟨decide_eq_true (Nat.le_trans j1 hl), j3⟩)⟩⟩
      rw [j2]
      have e0 : ("" : Str).length = 0 := rfl
      rw [e0]
      omega
/-! ### _law_odd -/
def odds (a b : Addr) : List Dt := [.non, .bl true, .bl false, .int 0, .int 1, .int (-1), .int ((10 : Int) ^ Int.toNat 59), .tup [], .lst [], .dct a [], .tup [.str "a"], .lst [.str "a"], .dct b [(.inr "a", .int 1)], .tup [.int 1, .int 2], .str "", .tup [.tup []]]
def WOdd : Nat → List Dt → (Dt → Nat → Prop) → Prop := fun n ds Φ => ds = [] ∧ n < 900000 ∧ ∀ a b, ∀ d ∈ odds a b, Φ d (n + 1)
theorem ok_odd {f fP : Addr} {fd fdP : FuncData} {k : Nat} (F : Fun K "_law_odd" "_law_odd" sOdd f fd) (FP : Fun K "_law_pick" "_law_pick" sPick fP fdP) (bP : Binds K fdP ["_law_pen", "_law_some"] []) (gP : mg "_law_pick" = some (.ref fP))
    (GP : FnG P w K mg base CX0 k fP fdP ["_law_pen", "_law_some"] (spN K WPick)) : FnG P w K mg base CX0 (k + 1) f fd ["_law_pen"] (spN K WOdd) := by
  refine defN F scOdd (fun n ds Φ ⟨e, _⟩ => by rw [e]; rfl) (by decide) fun cdv A outer s H E hr hg => ?_
  refine ⟨_, pss_cons (ps_set (i := 1) scOdd.nd rfl (Or.inl rfl) (pe_lst (pa_cons pe_non <| pa_cons pe_bl <| pa_cons pe_bl <| pa_cons pe_int <| pa_cons pe_int <| pa_cons (pe_un un_neg pe_int) <| pa_cons (pe_op op_pow pe_int pe_int) <| pa_cons (pe_tup pa_nil)
      <| pa_cons (pe_lst pa_nil) <| pa_cons pe_dnewK <| pa_cons (pe_tup (pa_cons pe_str pa_nil)) <| pa_cons (pe_lst (pa_cons pe_str pa_nil)) <| pa_cons (pe_disp (pps_cons pe_str pe_int pps_nil) rfl rfl (by simp) (by decide)) <| pa_cons (pe_tup (pa_cons pe_int (pa_cons pe_int pa_nil)))
      <| pa_cons pe_str <| pa_cons (pe_tup (pa_cons (pe_tup pa_nil) pa_nil)) pa_nil)))
    <| pss_one (ps_ret (pe_callG GP hr hg (by rfl) gP FP.kp bP .nil pass0 (pa_cons (pv 0) (pa_cons (pv 1) pa_nil)))), ?_⟩
  rintro n ds Φ ⟨rfl, hn, q⟩
  refine ws_seq <| ws_asg (pf := false) <| w_lst <| wa_cons <| w_c (fun _ => .non) <| wa_cons <| w_c (fun _ => .bl _) <| wa_cons <| w_c (fun _ => .bl _) <| wa_cons <| w_c (fun _ => .int _) <| wa_cons <| w_c (fun _ => .int _)
    <| wa_cons <| w_un <| w_c (fun _ => .int _) <| ud_U <| wa_cons <| w_op <| w_c (fun _ => .int _) <| w_c (fun _ => .int _) <| od_I ⟨by decide, by decide, by decide⟩
    <| wa_cons <| w_tup <| wa_nil ⟨Nat.zero_le _, wa_cons <| w_lst <| wa_nil ⟨Nat.zero_le _, wa_cons <| w_dnewK fun a => wa_cons <| w_tup <| wa_cons <| w_c (fun _ => .str _) <| wa_nil ⟨by show 1 ≤ 100000; decide, wa_cons <| w_lst <| wa_cons <| w_c (fun _ => .str _) <| wa_nil ⟨by show 1 ≤ 100000; decide,
      wa_cons <| w_disp1 <| w_c (fun _ => .int _) fun b => wa_cons <| w_tup <| wa_cons <| w_c (fun _ => .int _) <| wa_cons <| w_c (fun _ => .int _) <| wa_nil ⟨by show 2 ≤ 100000; decide, wa_cons <| w_c (fun _ => .str _) <| wa_cons <| w_tup <| wa_cons <| w_tup <| wa_nil ⟨Nat.zero_le _, wa_nil ⟨by show 1 ≤ 100000; decide, wa_nil ⟨by show 16 ≤ 100000; decide, ?_⟩⟩⟩⟩⟩⟩⟩⟩
  refine ws_ret (pf := false) <| w_callN (i := 0) rfl <| wa_cons <| w_var (d := .lst (odds a b)) rfl <| wa_nil ⟨n, rfl, .lst (odds a b), odds a b, rfl, rfl, by show 0 < 16; decide, by show 16 ≤ 1000; decide, by omega, fun x hx => ⟨n + 1, _, rfl, .pen (Nat.le_refl _), q a b x hx⟩⟩
/-! ### _law_row -/
end
abbrev sRowL : Stmt := topS 18
theorem scRowL : FnScope ["_law_pen", "_law_some", "_law_found", "_law_k", "_law_one"] ["_law_pen", "_law_some"] (defScope sRowL) := ⟨rfl, rfl, rfl, by decide +kernel, rfl, by decide +kernel, by decide +kernel⟩
section
variable {P : Program} {w : World} {K : PySem.W.Frag} {mg : Str → Option Value} {base : Heap}
def WRowL : Nat → List Dt → (Dt → Nat → Prop) → Prop := fun n ds Φ => ∃ xs, ds = [.lst xs] ∧ 0 < xs.length ∧ xs.length ≤ 1000 ∧ n < 900000 ∧ (∀ x ∈ xs, ∀ y ∈ xs, Cmp x y) ∧ ∀ (d : Dt) (ys : List Dt), d = .lst ys ∨ d = .tup ys → ys.length ≤ 7 → (∀ y ∈ ys, y ∈ xs) → Φ d (n + 30)
theorem ok_rowL {f fD fP : Addr} {fd fdD fdP : FuncData} {k : Nat} (F : Fun K "_law_row" "_law_row" sRowL f fd) (FD : Fun K "_law_draw" "_law_draw" sDraw fD fdD) (bD : Binds K fdD ["_law_pen", "_law_many"] []) (gD : mg "_law_draw" = some (.ref fD))
    (FP : Fun K "_law_pick" "_law_pick" sPick fP fdP) (bP : Binds K fdP ["_law_pen", "_law_some"] []) (gP : mg "_law_pick" = some (.ref fP)) (B : Bt mg)
    (G : FnG P w K mg base CX0 k fD fdD ["_law_pen", "_law_many"] (spN K WDraw)) (GP : FnG P w K mg base CX0 k fP fdP ["_law_pen", "_law_some"] (spN K WPick)) : FnG P w K mg base CX0 (k + 1) f fd ["_law_pen", "_law_some"] (spN K WRowL) := by
  refine defN F scRowL (fun n ds Φ ⟨m, e, _⟩ => by rw [e]; rfl) (by decide) fun cdv A outer s H E hr hg => ?_
  refine ⟨_, pss_cons (ps_set (i := 2) scRowL.nd rfl (Or.inl rfl) (pe_lst pa_nil))
    <| pss_cons (ps_for PassesOwn.never rfl (pi_range1 (by rfl) B.range (pa_cons (pe_callG G hr hg (by rfl) gD FD.kp bD .nil pass0 (pa_cons (pv 0) (pa_cons pe_int pa_nil))) pa_nil)) (pg_name (i := 3) scRowL.nd rfl (Or.inl rfl))
      (pss_cons (ps_set (i := 4) scRowL.nd rfl (Or.inl rfl) (pe_callG GP hr hg (by rfl) gP FP.kp bP .nil pass0 (pa_cons (pv 0) (pa_cons (pv 1) pa_nil))))
      <| pss_one (ps_if (PW.pt (pw_or (pt_cmpR (op_notInAny hr.units) (pv 4) (pv 2) (by rfl)) (pw_or1 (pt_cmpR op_eq (pe_callG G hr hg (by rfl) gD FD.kp bD .nil pass0 (pa_cons (pv 0) (pa_cons pe_int pa_nil))) pe_int (nomark _)))))
        (pss_one (ps_expr (pe_bm PySem.F.plainAttrs_list PySem.F.slot_list_append PySem.F.type_list_append mt_append (pv 2) (pa_cons (pv 4) pa_nil)))) pss_nil)))
    <| pss_one (ps_ret (pe_ifExp (pt_cmpR op_eq (pe_callG G hr hg (by rfl) gD FD.kp bD .nil pass0 (pa_cons (pv 0) (pa_cons pe_int pa_nil))) pe_int (nomark _)) (pv 2) (pe_callTy call_tuple_of (by rfl) B.tuple PyProof.Rows.boot_tuple (pa_cons (pv 2) pa_nil)))), ?_⟩
  rintro n ds Φ ⟨xs, rfl, h1, h2, hn, hc, q⟩
  refine ws_seq <| ws_newlist (i := 2) (by show 2 < 5; decide) ?_
  show Ws K _ [.pen n, .dat (.lst xs), .own [], .any, .any] _
  refine ws_seqI (fun ρ' => ∃ ys n' s3 s4, ρ' = [.pen n', .dat (.lst xs), .own ys, s3, s4] ∧ n' ≤ n + 25 ∧ ys.length ≤ 7 ∧ ∀ y ∈ ys, y ∈ xs) ?_ ?_
  · refine ws_for (js := [3]) (fun ds i ρ' => i ≤ 7 ∧ ds.length ≤ 7 ∧ ∃ ys n' s3 s4, ρ' = [.pen n', .dat (.lst xs), .own ys, s3, s4] ∧ n' ≤ n + 1 + 3 * i ∧ ys.length ≤ i ∧ ∀ y ∈ ys, y ∈ xs) <| wi_rng1 (pf := false) <| wa_cons <| w_callN (i := 0) rfl <| wa_cons <| w_c (fun _ => .int 7) <| wa_nil ⟨n, rfl, 7, rfl, by decide, by decide, by omega, fun r hr => wa_nil ⟨r, rfl, by omega, by omega, ?_⟩⟩
    have hl : (rangeD 0 (r : Int).toNat).length = r := by rw [rangeD_len, Int.toNat_natCast]
    refine ⟨⟨by omega, by omega, [], n + 1, .any, .any, rfl, by omega, Nat.le_refl _, (fun _ z => nomatch z)⟩, ?_, ?_⟩
    · rintro i d ρ2 hd ⟨hi, hd7, ys, n', s3, s4, rfl, hn', hl', hy⟩
      have hi2 : i < r := by rw [← hl]; exact (List.getElem?_eq_some_iff.mp hd).1
      have hi7 : i < 7 := by omega
      refine wg_name <| ws_seq <| ws_asg (pf := false) <| w_callN (i := 0) rfl <| wa_cons <| w_var (d := .lst xs) rfl <| wa_nil ⟨n', rfl, .lst xs, xs, rfl, rfl, h1, h2, by omega, fun x hx => ?_⟩
      show Ws K _ [.pen (n' + 1), .dat (.lst xs), .own ys, .dat d, .dat x] _
      refine ws_if (pf := false) <| wt_or <| wt_thaw (i := 2) rfl <| wt_test <| w_op <| w_var (d := x) rfl <| w_var (d := .lst ys) rfl <| od_inAny (fun e he => hc e (hy e he) x hx) fun b => ⟨_, rfl, ?_⟩
      have hy2 : ∀ y ∈ ys ++ [x], y ∈ xs := fun y hm => by
        rcases List.mem_append.mp hm with z | z
        · exact hy y z
        · rw [List.mem_singleton.mp z]; exact hx
      have hl2 : (ys ++ [x]).length ≤ i + 1 := by rw [List.length_append]; show _ + 1 ≤ _; omega
      cases b with
      | true => exact ifT <| ifT <| ws_append (pf := false) (i := 2) (w_var (d := x) rfl ⟨ys, rfl, by omega, by omega, hd7, ys ++ [x], n' + 1, _, _, rfl, by omega, hl2, hy2⟩) rfl
      | false =>
        refine ifF <| wt_test <| w_op <| w_callN (i := 0) rfl <| wa_cons <| w_c (fun _ => .int 5) <| wa_nil ⟨n' + 1, rfl, 5, rfl, by decide, by decide, by omega, fun r2 hr2 => w_c (fun _ => .int 0) <| od_eqi ⟨_, rfl, ?_⟩⟩
        cases decide ((r2 : Int) = 0) with
        | true => exact ifT <| ws_append (pf := false) (i := 2) (w_var (d := x) rfl ⟨ys, rfl, by omega, by omega, hd7, ys ++ [x], n' + 1 + 1, _, _, rfl, by omega, hl2, hy2⟩) rfl
        | false => exact ifF <| ws_next ⟨by omega, hd7, ys, n' + 1 + 1, _, _, rfl, by omega, by omega, hy⟩
    · rintro ρ2 ⟨hi, hd7, ys, n', s3, s4, rfl, hn', hl', hy⟩
      exact ⟨ys, n', s3, s4, rfl, by omega, by omega, hy⟩
  · rintro ρ' ⟨ys, n', s3, s4, rfl, hn', hl', hy⟩
    have q1 := q (.lst ys) ys (.inl rfl) hl' hy
    have q2 := q (.tup ys) ys (.inr rfl) hl' hy
    refine ws_freeze (i := 2) rfl <| ws_ret (pf := false) <| w_if <| wt_test <| w_op <| w_callN (i := 0) rfl <| wa_cons <| w_c (fun _ => .int 6) <| wa_nil ⟨n', rfl, 6, rfl, by decide, by decide, by omega, fun r hr => w_c (fun _ => .int 0) <| od_eqi ⟨_, rfl, ?_⟩⟩
    cases decide ((r : Int) = 0) with
    | true => exact ifT <| w_var (d := .lst ys) rfl ⟨n + 30, _, rfl, .pen (by omega), q1⟩
    | false => exact ifF <| w_cb <| wa_cons <| w_var (d := .lst ys) rfl <| wa_nil <| rd_tuple rfl ⟨n + 30, _, rfl, .pen (by omega), q2⟩
end
end K02

namespace K02
open PySem PySem.Spec PyProof.Rows L2 DL
/-! ### things -/
def oddsPy : List PyData := [.none, .bool true, .bool false, .int 0, .int 1, .int (-1), .int ((10 : Int) ^ Int.toNat 59), .tuple [], .list [], .dict [], .tuple [.str "a"], .list [.str "a"], .dict [(.str "a", .int 1)], .tuple [.int 1, .int 2], .str "", .tuple [.tuple []]]
theorem odds_py (a b : Addr) : (odds a b).map Dt.py = oddsPy := rfl
theorem odds_pure (a b : Addr) : (odds a b).all Dt.pure = true := rfl
theorem oddsPy_ok : (oddsPy.all fun p => p.showable && decide (p.depth ≤ 2) && p.leavesShort 64 && decide (p.weight ≤ 300)) = true := by decide +kernel
inductive Lf : Dt → Prop
  | str {z : Str} (h : okT z = true) : Lf (.str z)
  | odd {a b : Addr} {d : Dt} (h : d ∈ odds a b) : Lf d
theorem okT_len {z : Str} (h : okT z = true) : z.length ≤ 11 := by
  unfold okT at h
  rw [Bool.and_eq_true] at h
  exact of_decide_eq_true h.1
theorem okT_256 {z : Str} (h : okT z = true) : ∀ c ∈ z.cps.toList, c < 256 := by
  unfold okT at h
  rw [Bool.and_eq_true] at h
  exact fun c hc => of_decide_eq_true (List.all_eq_true.mp h.2 c hc)
theorem odds_short (a b : Addr) : (odds a b).all shortD = true := rfl
theorem odds_thing (a b : Addr) : (odds a b).all thingD = true := rfl
theorem Lf.short {d : Dt} (h : Lf d) : shortD d = true := by
  cases h with
  | str h => exact decide_eq_true (Nat.le_trans (okT_len h) (by decide))
  | odd h => exact List.all_eq_true.mp (odds_short _ _) _ h
theorem Lf.thing {d : Dt} (h : Lf d) : thingD d = true := by
  cases h with
  | str h => rfl
  | odd h => exact List.all_eq_true.mp (odds_thing _ _) _ h
structure PyOk (p : PyData) : Prop where
  sh : p.showable = true
  dep : p.depth ≤ 2
  lv : p.leavesShort 64 = true
  wt : p.weight ≤ 300
theorem Lf.py {d : Dt} (h : Lf d) : d.pure = true ∧ PyOk d.py := by
  cases h with
  | @str z h =>
    refine ⟨rfl, by simp only [Dt.py, PyData.showable], by simp only [Dt.py, PyData.depth]; omega, ?_, ?_⟩
    · simp only [Dt.py, PyData.leavesShort, List.all_eq_true, decide_eq_true_eq]
      exact fun c hc => Nat.lt_of_lt_of_le (okT_256 h c hc) (by decide)
    · have e : z.length = z.cps.size := rfl
      have := okT_len h
      simp only [Dt.py, PyData.weight]
      omega
  | @odd a b d h =>
    refine ⟨List.all_eq_true.mp (odds_pure a b) _ h, ?_⟩
    have hm : d.py ∈ oddsPy := by rw [← odds_py a b]; exact List.mem_map_of_mem h
    have := List.all_eq_true.mp oddsPy_ok _ hm
    simp only [Bool.and_eq_true, decide_eq_true_eq] at this
    exact ⟨this.1.1.1, this.1.1.2, this.1.2, this.2⟩
theorem fit_of {d : Dt} (hp : d.pure = true) (sh : d.py.showable = true) (dep : d.py.depth ≤ 60) (lv : d.py.leavesShort 64 = true) (wt : d.py.weight ≤ 10000) : Fit d := by
  refine ⟨hp, sh, dep, ?_⟩
  have h := PyData.shown_le 64 (by decide) d.py lv
  have h2 : (64 + 2) * d.py.weight ≤ 66 * 10000 := Nat.mul_le_mul (by omega) wt
  rw [sizeLine_eq]
  omega
/-- things that are told: leaves, rows of leaves -/
inductive Th : Dt → Prop
  | lf {d : Dt} (h : Lf d) : Th d
  | row {d : Dt} {ys : List Dt} (e : d = .lst ys ∨ d = .tup ys) (hl : ys.length ≤ 7) (h : ∀ y ∈ ys, Lf y) : Th d
theorem rows_py : ∀ {ys : List Dt}, (∀ y ∈ ys, Lf y) → pures ys = true ∧ PyData.showableAll (pys ys) = true ∧ PyData.depthAll (pys ys) ≤ 2 ∧ PyData.leavesShortAll 64 (pys ys) = true ∧ PyData.weightAll (pys ys) ≤ 301 * ys.length
  | [], _ => by simp [pures, pys, PyData.showableAll, PyData.depthAll, PyData.leavesShortAll, PyData.weightAll]
  | y :: ys, h => by
    obtain ⟨a1, a2⟩ := (h y List.mem_cons_self).py
    obtain ⟨b1, b2, b3, b4, b5⟩ := rows_py (ys := ys) fun x hx => h x (List.mem_cons_of_mem _ hx)
    have := a2.wt
    have := a2.dep
    simp only [pures, pys, PyData.showableAll, PyData.depthAll, PyData.leavesShortAll, PyData.weightAll, a1, b1, a2.sh, b2, a2.lv, b4, Bool.and_true, List.length_cons, true_and, and_true]
    omega
theorem Th.fit {d : Dt} (h : Th d) : Fit d := by
  cases h with
  | lf h =>
    obtain ⟨a1, a2⟩ := h.py
    exact fit_of a1 a2.sh (Nat.le_trans a2.dep (by decide)) a2.lv (Nat.le_trans a2.wt (by decide))
  | @row ys e hl h =>
    obtain ⟨b1, b2, b3, b4, b5⟩ := rows_py h
    rcases e with rfl | rfl
    · exact fit_of (by simp only [Dt.pure]; exact b1) (by simp only [Dt.py, PyData.showable]; exact b2) (by simp only [Dt.py, PyData.depth]; omega) (by simp only [Dt.py, PyData.leavesShort]; exact b4) (by simp only [Dt.py, PyData.weight]; omega)
    · exact fit_of (by simp only [Dt.pure]; exact b1) (by simp only [Dt.py, PyData.showable]; exact b2) (by simp only [Dt.py, PyData.depth]; omega) (by simp only [Dt.py, PyData.leavesShort]; exact b4) (by simp only [Dt.py, PyData.weight]; omega)
theorem Th.thing {d : Dt} (h : Th d) : thingD d = true := by
  cases h with
  | lf h => exact h.thing
  | @row ys e hl h =>
    rcases e with rfl | rfl
    · rfl
    · show (decide (ys.length ≤ 1000) && ys.all shortD) = true
      rw [Bool.and_eq_true]
      exact ⟨decide_eq_true (by omega), List.all_eq_true.mpr fun y hy => (h y hy).short⟩
theorem fit_bl (b : Bool) : Fit (.bl b) := fit_of rfl (by simp only [Dt.py, PyData.showable]) (by simp only [Dt.py, PyData.depth]; omega) (by simp only [Dt.py, PyData.leavesShort]) (by simp only [Dt.py, PyData.weight]; omega)
theorem fit_two (a b : Bool) : Fit (.lst [.bl a, .bl b]) := by
  have : Fit (.lst [.bl a, .bl b]) := by
    refine fit_of rfl ?_ ?_ ?_ ?_ <;> cases a <;> cases b <;> decide
  exact this
/-! ### what == tells of leaves -/
def seqOk (d : Dt) : Bool := d.seqs && d.py.canLay0 && decide (d.py.depth ≤ 30)
theorem okT_seq {z : Str} (h : okT z = true) : seqOk (.str z) = true := by
  have e : PyData.strOk z = true := by
    unfold PyData.strOk
    rw [← Array.all_toList]
    exact List.all_eq_true.mpr fun c hc => decide_eq_true (Nat.lt_of_lt_of_le (okT_256 h c hc) (by decide))
  show ((Dt.str z).seqs && PyData.canLay0 (Dt.str z).py && decide ((Dt.str z).py.depth ≤ 30)) = true
  simp only [Dt.py, PyData.canLay0, e, PyData.depth]
  rfl
theorem cmp_seq {d e : Dt} (h1 : seqOk d = true) (h2 : seqOk e = true) : Cmp d e := by
  unfold seqOk at h1 h2
  simp only [Bool.and_eq_true, decide_eq_true_eq] at h1 h2
  exact .seq h1.1.1 h2.1.1 h1.1.2 h2.1.2 h1.2
theorem odds_seq {a b : Addr} {d : Dt} (h : d ∈ odds a b) : seqOk d = true ∨ ∃ c kvs, d = .dct c kvs := by
  simp only [odds, List.mem_cons, List.not_mem_nil, or_false] at h
  rcases h with h | h | h | h | h | h | h | h | h | h | h | h | h | h | h | h <;> subst h <;> first | exact .inr ⟨_, _, rfl⟩ | exact .inl (by decide +kernel)
/-- texts, and one odd thing among them -/
def Few (o : Dt) (d : Dt) : Prop := (∃ z, d = .str z ∧ okT z = true) ∨ d = o
theorem few_cmp {a b : Addr} {o : Dt} (ho : o ∈ odds a b) {d e : Dt} (h1 : Few o d) (h2 : Few o e) : Cmp d e := by
  rcases h1 with ⟨z, rfl, hz⟩ | rfl
  · rcases h2 with ⟨y, rfl, hy⟩ | rfl
    · exact cmp_seq (okT_seq hz) (okT_seq hy)
    · rcases odds_seq ho with q | ⟨c, kvs, rfl⟩
      · exact cmp_seq (okT_seq hz) q
      · exact .sd
  · rcases odds_seq ho with q | ⟨c, kvs, rfl⟩
    · rcases h2 with ⟨y, rfl, hy⟩ | rfl
      · exact cmp_seq q (okT_seq hy)
      · exact cmp_seq q q
    · rcases h2 with ⟨y, rfl, hy⟩ | rfl
      · exact .ds
      · exact .dd
theorem few_lf {a b : Addr} {o : Dt} (ho : o ∈ odds a b) {d : Dt} (h : Few o d) : Lf d := by
  rcases h with ⟨z, rfl, hz⟩ | rfl
  · exact .str hz
  · exact .odd ho
end K02

namespace K02
open PySem PySem.Spec PyProof.Rows L2 DL
abbrev sLaw : Stmt := topS 19
abbrev NLaw : List Str := ["_law_script", "_law_pen", "_law_rows", "_law_lap", "_law_some", "_law_thing", "_law_told", "_law_due", "_law_few", "_law_before", "_law_menu"]
theorem scLaw : FnScope NLaw ["_law_script"] (defScope sLaw) := ⟨rfl, rfl, rfl, by decide +kernel, rfl, by decide +kernel, by decide +kernel⟩
section
variable {K : PySem.W.Frag} {pf : Bool} {ρ : List Sl} {tk : TA} {Φ : Dt → List Sl → Prop}
theorem w_callK {W : List Dt → (Dt → Prop) → Prop} {gV : List V → List V → List V} {E : XK} (hg : ∀ zs, gV [] zs = zs) (h : Wa K pf tk ρ fun ds ρ1 => W ds fun d => Φ d ρ1) : Wp K pf (tCallK (spP K W) gV E tNil tk) ρ Φ := fun M σ H S Q q => by
  have := w_call0 (E := E) h M σ H S Q q
  show tk σ H fun zs H2 => spP K W (gV [] zs) H2 Q E
  have e : (fun zs H2 => spP K W (gV [] zs) H2 Q E) = fun zs H2 => spP K W (zs ++ []) H2 Q E := by
    funext zs H2
    rw [hg, List.append_nil]
  rw [e]
  exact this
end
/-- two keywords, nothing by position -/
def gKw {α : Type} (us ws : List α) : List α := if us.isEmpty then ws else []
theorem gKw_nil {α : Type} (ws : List α) : gKw [] ws = ws := rfl
section
variable {P : Program} {w : World} {K : PySem.W.Frag} {mg : Str → Option Value} {base : Heap}
/-! ### _law_pen_of -/
def spPen (K : PySem.W.Frag) : Sp := fun vs H Q _ => ∃ (a : Addr) (ns : List Int), vs = [.ref a] ∧ SqL K H a (ns.map V.int) ∧
  ∀ H' p l, Same H H' → H p = none → H l = none → p ≠ l → H' p = some (.lst [.ref l, .int 0, .int 0]) → H' l = some (.lst ((ns.take 63).map V.int)) → Q (.ref p) H'
theorem cutV_to {xs : List V} (n : Nat) : cutV xs none (some (n : Int)) = xs.take n := by
  unfold cutV
  rw [HT.sIx_none, HT.sIx_nat, List.drop_zero, Nat.sub_zero]
  by_cases c : n ≤ xs.length
  · rw [Nat.min_eq_left c]
  · rw [Nat.min_eq_right (by omega), List.take_of_length_le (Nat.le_refl _), List.take_of_length_le (by omega)]
theorem ok_penOf {f : Addr} {fd : FuncData} (F : Fun K "_law_pen_of" "_law_pen_of" sPenOf f fd) (B : Bt mg) : FnG P w K mg base CX0 1 f fd ["_law_script"] (spPen K) := by
  refine okG F scPenOf (fun vs H Q E ⟨a, ns, e, _⟩ => by rw [e]; rfl) fun cdv A outer s H vs Q E hr hg h => ?_
  refine ⟨_, pss_one (ps_ret (pe_lst (pa_cons (pe_callTy call_list_of (by rfl) B.list PyProof.Rows.boot_list (pa_cons (pe_slice sl_list (pv 0) po_none (po_some pe_int)) pa_nil)) (pa_cons pe_int (pa_cons pe_int pa_nil))))), ?_⟩
  obtain ⟨a, ns, rfl, hS, q⟩ := h
  refine ⟨.ref a, rfl, 63, rfl, a, _, rfl, hS, fun c nc => ⟨c, _, rfl, .inl (.inl (.inl upd_same)), fun l nl => ⟨by show 3 ≤ sizeLine; decide, fun p np => ?_⟩⟩⟩
  have e1 := cutV_to (xs := ns.map V.int) 63
  have s1 : Same H (upd H c (.lst (cutV (ns.map V.int) none (some 63)))) := same_new nc
  have s2 := same_new (o := .lst (cutV (ns.map V.int) none (some 63))) nl
  have hl : H l = none := by
    cases z : H l with
    | none => rfl
    | some o => rw [s1 l o z] at nl; cases nl
  have hp : H p = none := by
    cases z : H p with
    | none => rfl
    | some o => rw [s2 p o (s1 p o z)] at np; cases np
  have npl : p ≠ l := fun z => by rw [z, upd_same] at np; cases np
  refine q _ p l ((s1.trans s2).trans (same_new np)) hp hl npl upd_same ?_
  rw [upd_ne npl.symm, upd_same, List.map_take, ← e1]
  rfl
end
end K02

namespace K02
open PySem PySem.Spec PyProof.Rows L2 DL
/-! ### what is no longer looked at -/
inductive Wk : List Sl → List Sl → Prop
  | nil : Wk [] []
  | keep {s : Sl} {r r' : List Sl} : Wk r r' → Wk (s :: r) (s :: r')
  | drop {s : Sl} {r r' : List Sl} : Wk r r' → Wk (s :: r) (.any :: r')
theorem Wk.len {r r' : List Sl} (h : Wk r r') : r.length = r'.length := by
  induction h with
  | nil => rfl
  | keep _ ih => show _ + 1 = _ + 1; rw [ih]
  | drop _ ih => show _ + 1 = _ + 1; rw [ih]
theorem Wk.at {r r' : List Sl} (h : Wk r r') : ∀ (i : Nat) (s : Sl), r'[i]? = some s → s = .any ∨ r[i]? = some s := by
  induction h with
  | nil => intro i s e; simp at e
  | @keep t r r' _ ih =>
    intro i s e
    cases i with
    | zero => exact .inr e
    | succ i => rw [List.getElem?_cons_succ] at e ⊢; exact ih i s e
  | @drop t r r' _ ih =>
    intro i s e
    cases i with
    | zero => exact .inl (Option.some.inj e).symm
    | succ i => rw [List.getElem?_cons_succ] at e ⊢; exact ih i s e
section
variable {K : PySem.W.Frag} {ρ ρ' : List Sl} {t : TS} {D : DE}
theorem Wk.sd {M : Md} {H : Hp} {σ : L2.St} (h : Wk ρ ρ') (S : Sd K M H σ ρ) : Sd K M H σ ρ' := by
  refine ⟨by rw [← h.len]; exact S.len, by rw [← h.len]; exact S.olen, S.mok, fun i s e => ?_⟩
  rcases h.at i s e with z | z
  · subst z
    have hi : i < σ.length := by rw [S.len, h.len]; exact (List.getElem?_eq_some_iff.mp e).1
    exact ⟨_, List.getElem?_eq_getElem hi, trivial⟩
  · exact S.ok i s z
theorem ws_wk (h : Ws K t ρ { D with nx := fun ρ1 => ∃ ρ2, Wk ρ1 ρ2 ∧ D.nx ρ2 }) : Ws K t ρ D := fun M σ H S E k =>
  h M σ H S E ⟨fun M' σ' H' ρ1 s S' ⟨ρ2, w, z⟩ => k.nx M' σ' H' ρ2 s (w.sd S') z, k.rt, k.bk, k.ct⟩
variable {pf : Bool} {Φ : Dt → List Sl → Prop}
theorem w_isInt {i : Nat} {d : Dt} (e : ρ[i]? = some (.dat d)) (hd : noTy d = true) (h : Φ (.bl (isInt d)) ρ) :
    Wp K pf (tAndV (tCB (rIsi K) (tCons (tVar i) (tCons (tC (.ty "int")) tNil))) (tNotV (tCB (rIsi K) (tCons (tVar i) (tCons (tC (.ty "bool")) tNil))))) ρ Φ := by
  obtain ⟨b, k1, k2, k3⟩ := kit_int hd
  obtain ⟨c, k4⟩ := kit_bool hd
  refine w_andV <| w_isi e hd k1 ⟨b, rfl, ?_⟩
  cases b with
  | true => exact ifT <| w_notV <| w_isi e hd k4 ⟨c, rfl, by rw [← k2 rfl c k4]; exact h⟩
  | false => exact ifF (by rw [← k3 rfl]; exact h)
end
/-- a def of the top: where it stands, how it is called -/
structure DF (K : PySem.W.Frag) (mg : Str → Option Value) (x : Str) (st : Stmt) (ps : List Str) where
  f : Addr
  fd : FuncData
  F : Fun K x x st f fd
  b : Binds K fd ps []
  g : mg x = some (.ref f)
def rowsS : List (List Str) := [["still", "shut", "save", "dark"], ["lit", "reset", "back", "open", "go"], ["a"], []]
def rowsD : List Dt := [.tup [.str "still", .str "shut", .str "save", .str "dark"], .tup [.str "lit", .str "reset", .str "back", .str "open", .str "go"], .tup [.str "a"], .tup []]
theorem rowsS_ok : (rowsS.all fun ms => decide (ms.length ≤ 5) && ms.all okT) = true := by decide +kernel
theorem rowsD_of {x : Dt} (h : x ∈ rowsD) : ∃ ms : List Str, x = .tup (ms.map Dt.str) ∧ ms.length ≤ 5 ∧ ∀ s ∈ ms, okT s = true := by
  have e : rowsD = rowsS.map fun ms => .tup (ms.map Dt.str) := rfl
  rw [e] at h
  obtain ⟨ms, hm, rfl⟩ := List.mem_map.mp h
  have := List.all_eq_true.mp rowsS_ok ms hm
  rw [Bool.and_eq_true] at this
  exact ⟨ms, rfl, of_decide_eq_true this.1, List.all_eq_true.mp this.2⟩
theorem str_cmp {xs : List Dt} (h : ∀ x ∈ xs, ∃ z, x = .str z ∧ okT z = true) : ∀ x ∈ xs, ∀ y ∈ xs, Cmp x y := fun x hx y hy => by
  obtain ⟨a, rfl, ha⟩ := h x hx
  obtain ⟨b, rfl, hb⟩ := h y hy
  exact cmp_seq (okT_seq ha) (okT_seq hb)
theorem th_of {xs ys : List Dt} {d : Dt} (h : ∀ x ∈ xs, Lf x) (e : d = .lst ys ∨ d = .tup ys) (hl : ys.length ≤ 7) (hm : ∀ y ∈ ys, y ∈ xs) : Th d := .row e hl fun y hy => h y (hm y hy)
theorem strs_lf {xs : List Dt} (h : ∀ x ∈ xs, ∃ z, x = .str z ∧ okT z = true) : ∀ x ∈ xs, Lf x := fun x hx => by
  obtain ⟨z, rfl, hz⟩ := h x hx
  exact .str hz
section
variable {P : Program} {w : World} {K : PySem.W.Frag} {mg : Str → Option Value} {base : Heap}
def spLaw (K : PySem.W.Frag) : Sp := fun vs H Q _ => ∃ (a : Addr) (ns : List Int), vs = [.ref a] ∧ SqL K H a (ns.map V.int) ∧ ns.length ≤ 63 ∧ ∀ H', Q (.bl true) H'
/-- the law's head: the pen is made -/
theorem pen_head {N : List Str} {k : Nat} {u : TS} {E0 : XK} {Q : VK} {a : Addr} {ns : List Int} {H : Hp} (hN : N.length = k + 2) (hS : SqL K H a (ns.map V.int)) (hlen : ns.length ≤ 63) (q : ∀ H', Q (.bl true) H')
    (h : Ws K u (.dat (.lst (ns.map Dt.int)) :: .pen 0 :: List.replicate k .any) { nx := fun _ => False, rt := fun d _ => d = .bl true }) :
    tSeq (tAsg (tCall (spPen K) [] E0 (tCons (tVar 0) tNil)) (gName 1)) u { nx := fun _ H' => Q .non H', rt := Q } (L2.start N [.ref a]) H := by
  refine ⟨.ref a, rfl, a, ns, rfl, hS, fun H' p l sm np nl npl ep el => ?_⟩
  have asInts : ∀ {H : Hp} (ns : List Int), DXs K H (ns.map V.int) (ns.map Dt.int) := fun {H} ns => by
    induction ns with
    | nil => exact .nil
    | cons n r ih => exact .cons (.int n) ih
  have has : ∀ x, (⟨some p, [], List.replicate (k + 2) none⟩ : Md).has x → x = p := fun x z => by
    rcases z with z | z | z
    · exact (Option.some.inj z).symm
    · cases z
    · exact (no_rep z).elim
  have sc : Same H (cut ⟨some p, [], List.replicate (k + 2) none⟩ H') := fun x o z => cut_at (fun c => by rw [has x c, np] at z; cases z) (sm x o z)
  have el' : cut ⟨some p, [], List.replicate (k + 2) none⟩ H' l = some (.lst ((ns.take 63).map V.int)) := cut_at (fun c => npl (has l c).symm) el
  refine h ⟨some p, [], List.replicate (k + 2) none⟩ _ H' ⟨?_, ?_, ⟨fun x z => by rw [has x z]; exact ⟨_, ep⟩, fun x _ => ⟨(fun z => nomatch z), no_rep⟩, fun x z => (nomatch z), fun i j x z => ?_⟩, fun i s z => ?_⟩ _ ⟨fun _ _ _ _ _ _ z => z.elim, fun M' v H2 d ρ' σ' _ _ x e => ?_, fun _ _ _ _ _ _ z => z.elim, fun _ _ _ _ _ _ z => z.elim⟩
  · unfold L2.start
    simp only [List.length_set, List.length_append, List.length_map, List.length_replicate, List.length_cons, List.length_nil]
    omega
  · show (List.replicate (k + 2) none).length = _
    simp only [List.length_replicate, List.length_cons]
  · have z : (List.replicate (k + 2) (none : Option Addr))[i]? = some (some x) := z
    rw [List.getElem?_replicate] at z
    split at z <;> cases z
  · cases i with
    | zero =>
      have z := Option.some.inj (show some (Sl.dat (.lst (ns.map Dt.int))) = some s from z)
      subst z
      exact ⟨some (.ref a), rfl, .ref a, rfl, .lst (sc.seq hS) (asInts ns)⟩
    | succ i =>
      cases i with
      | zero =>
        have z := Option.some.inj (show some (Sl.pen 0) = some s from z)
        subst z
        have e : ((L2.start N [.ref a]).set 1 (some (.ref p)))[1]? = some (some (.ref p)) := List.getElem?_set_self (by
          unfold L2.start
          simp only [List.length_append, List.length_map, List.length_replicate, List.length_cons, List.length_nil]
          omega)
        exact ⟨_, e, p, rfl, rfl, l, ns.take 63, 0, 0, ep, .inl (.inl el'), Nat.le_refl _, by decide, by rw [List.length_take]; omega⟩
      | succ i =>
        have z : (List.replicate k Sl.any)[i]? = some s := z
        have hi : i < k := by
          have := (List.getElem?_eq_some_iff.mp z).1
          rwa [List.length_replicate] at this
        have es : s = .any := by
          rw [List.getElem?_replicate, if_pos hi] at z
          exact (Option.some.inj z).symm
        subst es
        have hl : i + 1 + 1 < ((L2.start N [.ref a]).set 1 (some (.ref p))).length := by
          unfold L2.start
          simp only [List.length_set, List.length_append, List.length_map, List.length_replicate, List.length_cons, List.length_nil]
          omega
        exact ⟨_, List.getElem?_eq_getElem hl, trivial⟩
  · subst e
    show Q v H2
    rw [x.bl_eq]
    exact q H2
theorem ok_law {f : Addr} {fd : FuncData} (F : Fun K "law" "law" sLaw f fd) (B : Bt mg) (dInt : DF K mg "is_integer" sInt ["value"]) (dNam : DF K mg "is_name" sNam ["value"]) (dLead : DF K mg "is_lead" sLead ["value"]) (dWords : DF K mg "is_words" sWords ["value", "words"])
    (dPen : DF K mg "_law_pen_of" sPenOf ["_law_script"]) (dDraw : DF K mg "_law_draw" sDraw ["_law_pen", "_law_many"]) (dPick : DF K mg "_law_pick" sPick ["_law_pen", "_law_some"]) (dLet : DF K mg "_law_letters" sLetters ["_law_pen", "_law_many"]) (dOdd : DF K mg "_law_odd" sOdd ["_law_pen"])
    (dRow : DF K mg "_law_row" sRowL ["_law_pen", "_law_some"]) (dDueN : DF K mg "_law_due_name" sDueN ["_law_thing"]) (dDueL : DF K mg "_law_due_lead" sDueL ["_law_thing"]) (dDueW : DF K mg "_law_due_words" sDueW ["_law_thing", "_law_menu"])
    (kW : KBinds K dWords.fd ["value", "words"] ["value", "words"] gKw gKw)
    (gInt : FnG P w K mg base CX0 4 dInt.f dInt.fd ["value"] (spP K WInt)) (gNam : FnG P w K mg base CX0 4 dNam.f dNam.fd ["value"] (spP K WNam)) (gLead : FnG P w K mg base CX0 4 dLead.f dLead.fd ["value"] (spP K WLead)) (gWords : FnG P w K mg base CX0 4 dWords.f dWords.fd ["value", "words"] (spP K WWords))
    (gPen : FnG P w K mg base CX0 4 dPen.f dPen.fd ["_law_script"] (spPen K)) (gDraw : FnG P w K mg base CX0 4 dDraw.f dDraw.fd ["_law_pen", "_law_many"] (spN K WDraw)) (gPick : FnG P w K mg base CX0 4 dPick.f dPick.fd ["_law_pen", "_law_some"] (spN K WPick))
    (gLet : FnG P w K mg base CX0 4 dLet.f dLet.fd ["_law_pen", "_law_many"] (spN K WLetters)) (gOdd : FnG P w K mg base CX0 4 dOdd.f dOdd.fd ["_law_pen"] (spN K WOdd)) (gRow : FnG P w K mg base CX0 4 dRow.f dRow.fd ["_law_pen", "_law_some"] (spN K WRowL))
    (gDueN : FnG P w K mg base CX0 4 dDueN.f dDueN.fd ["_law_thing"] (spP K WNam)) (gDueL : FnG P w K mg base CX0 4 dDueL.f dDueL.fd ["_law_thing"] (spP K WLead)) (gDueW : FnG P w K mg base CX0 4 dDueW.f dDueW.fd ["_law_thing", "_law_menu"] (spP K WWords)) :
    FnG P w K mg base CX0 5 f fd ["_law_script"] (spLaw K) := by
  refine okG F scLaw (fun vs H Q E ⟨a, ns, e, _⟩ => by rw [e]; rfl) fun cdv A outer s H vs Q E hr hg h => ?_
  refine ⟨_, pss_cons (ps_set (i := 1) scLaw.nd rfl (.inl rfl) (pe_callG gPen hr hg (by rfl) dPen.g dPen.F.kp dPen.b .nil pass0 (pa_cons (pv 0) pa_nil)))
    <| pss_cons (ps_set (i := 2) scLaw.nd rfl (.inl rfl) (pe_lst (pa_cons (pe_tup (pa_cons pe_str (pa_cons pe_str (pa_cons pe_str (pa_cons pe_str pa_nil))))) (pa_cons (pe_tup (pa_cons pe_str (pa_cons pe_str (pa_cons pe_str (pa_cons pe_str (pa_cons pe_str pa_nil)))))) (pa_cons (pe_tup (pa_cons pe_str pa_nil)) (pa_cons (pe_tup pa_nil) pa_nil))))))
    <| pss_cons (ps_for PassesOwn.never rfl (pi_range1 (by rfl) B.range (pa_cons (pe_op op_add pe_int (pe_callB call_len (by rfl) B.len PySem.boot_len (pa_cons (pe_slice sl_list (pv 0) po_none (po_some pe_int)) pa_nil))) pa_nil)) (pg_name (i := 3) scLaw.nd rfl (Or.inl rfl))
      (pss_cons (ps_set (i := 4) scLaw.nd rfl (.inl rfl) (pe_lst (pa_cons (pe_callG gLet hr hg (by rfl) dLet.g dLet.F.kp dLet.b .nil pass0 (pa_cons (pv 1) (pa_cons (pe_callG gDraw hr hg (by rfl) dDraw.g dDraw.F.kp dDraw.b .nil pass0 (pa_cons (pv 1) (pa_cons pe_int pa_nil))) pa_nil)))
          (pa_cons (pe_callG gLet hr hg (by rfl) dLet.g dLet.F.kp dLet.b .nil pass0 (pa_cons (pv 1) (pa_cons pe_int pa_nil))) (pa_cons (pe_callG gLet hr hg (by rfl) dLet.g dLet.F.kp dLet.b .nil pass0 (pa_cons (pv 1) (pa_cons pe_int pa_nil))) pa_nil)))))
      <| pss_cons (ps_set (i := 4) scLaw.nd rfl (.inl rfl) (pe_op op_catL (pv 4) (pe_lst (pa_cons (pe_callG gOdd hr hg (by rfl) dOdd.g dOdd.F.kp dOdd.b .nil pass0 (pa_cons (pv 1) pa_nil)) (pa_cons pe_str (pa_cons pe_str pa_nil))))))
      <| pss_cons (ps_for PassesOwn.never rfl (pi_list (pv 4)) (pg_name (i := 5) scLaw.nd rfl (Or.inl rfl))
        (pss_cons (ps_set (i := 6) scLaw.nd rfl (.inl rfl) (pe_lst (pa_cons (pe_callG gInt hr hg (by rfl) dInt.g dInt.F.kp dInt.b .nil pass0 (pa_cons (pv 5) pa_nil)) (pa_cons (pe_callG gNam hr hg (by rfl) dNam.g dNam.F.kp dNam.b .nil pass0 (pa_cons (pv 5) pa_nil)) pa_nil))))
        <| pss_cons (ps_set (i := 7) scLaw.nd rfl (.inl rfl) (pe_lst (pa_cons (pe_and (pe_callB call_isi (by rfl) B.isi boot_isinstance (pa_cons (pv 5) (pa_cons (pe_bltn (v := .ty "int") (by rfl) B.int PyProof.Rows.boot_int rfl) pa_nil)))
            (pe_one (pe_not (pe_callB call_isi (by rfl) B.isi boot_isinstance (pa_cons (pv 5) (pa_cons (pe_bltn (v := .ty "bool") (by rfl) B.bool PyProof.Rows.boot_bool rfl) pa_nil))))))
            (pa_cons (pe_callG gDueN hr hg (by rfl) dDueN.g dDueN.F.kp dDueN.b .nil pass0 (pa_cons (pv 5) pa_nil)) pa_nil))))
        <| pss_one (ps_if (pt_cmpR op_ne (pe_callB (call_reprX hg hr.units) (by rfl) B.repr boot_repr (pa_cons (pv 6) pa_nil)) (pe_callB (call_reprX hg hr.units) (by rfl) B.repr boot_repr (pa_cons (pv 7) pa_nil)) (nomark _)) (pss_one (ps_ret pe_bl)) pss_nil)))
      <| pss_cons (ps_set (i := 8) scLaw.nd rfl (.inl rfl) (pe_lst (pa_cons (pe_callG gLet hr hg (by rfl) dLet.g dLet.F.kp dLet.b .nil pass0 (pa_cons (pv 1) (pa_cons (pe_op op_add pe_int (pe_callG gDraw hr hg (by rfl) dDraw.g dDraw.F.kp dDraw.b .nil pass0 (pa_cons (pv 1) (pa_cons pe_int pa_nil)))) pa_nil)))
          (pa_cons pe_str (pa_cons pe_str (pa_cons pe_str (pa_cons pe_str (pa_cons pe_str (pa_cons (pe_callG gOdd hr hg (by rfl) dOdd.g dOdd.F.kp dOdd.b .nil pass0 (pa_cons (pv 1) pa_nil)) pa_nil)))))))))
      <| pss_cons (ps_set (i := 8) scLaw.nd rfl (.inl rfl) (pe_slice sl_list (pv 8) po_none (po_some (pe_op op_add pe_int (pe_callG gDraw hr hg (by rfl) dDraw.g dDraw.F.kp dDraw.b .nil pass0 (pa_cons (pv 1) (pa_cons pe_int pa_nil)))))))
      <| pss_cons (ps_for PassesOwn.never rfl (pi_tup (pe_tup (pa_cons (pe_callG gRow hr hg (by rfl) dRow.g dRow.F.kp dRow.b .nil pass0 (pa_cons (pv 1) (pa_cons (pv 8) pa_nil)))
          (pa_cons (pe_callG gRow hr hg (by rfl) dRow.g dRow.F.kp dRow.b .nil pass0 (pa_cons (pv 1) (pa_cons (pe_slice sl_list (pv 8) po_none (po_some pe_int)) pa_nil)))
          (pa_cons (pe_callG gRow hr hg (by rfl) dRow.g dRow.F.kp dRow.b .nil pass0 (pa_cons (pv 1) (pa_cons (pe_slice sl_list (pv 8) po_none (po_some pe_int)) pa_nil)))
          (pa_cons (pe_callG gOdd hr hg (by rfl) dOdd.g dOdd.F.kp dOdd.b .nil pass0 (pa_cons (pv 1) pa_nil)) pa_nil)))))) (pg_name (i := 5) scLaw.nd rfl (Or.inl rfl))
        (pss_cons (ps_set (i := 9) scLaw.nd rfl (.inl rfl) (pe_callB (call_reprX hg hr.units) (by rfl) B.repr boot_repr (pa_cons (pv 5) pa_nil)))
        <| pss_one (ps_if (PW.pt (pw_or (pt_cmpR op_ne (pe_callB (call_reprX hg hr.units) (by rfl) B.repr boot_repr (pa_cons (pe_callG gLead hr hg (by rfl) dLead.g dLead.F.kp dLead.b .nil pass0 (pa_cons (pv 5) pa_nil)) pa_nil)) (pe_callB (call_reprX hg hr.units) (by rfl) B.repr boot_repr (pa_cons (pe_callG gDueL hr hg (by rfl) dDueL.g dDueL.F.kp dDueL.b .nil pass0 (pa_cons (pv 5) pa_nil)) pa_nil)) (nomark _))
            (pw_or1 (pt_cmpR op_ne (pe_callB (call_reprX hg hr.units) (by rfl) B.repr boot_repr (pa_cons (pv 5) pa_nil)) (pv 9) (nomark _))))) (pss_one (ps_ret pe_bl)) pss_nil)))
      <| pss_cons (ps_set (i := 10) scLaw.nd rfl (.inl rfl) (pe_callG gPick hr hg (by rfl) dPick.g dPick.F.kp dPick.b .nil pass0 (pa_cons (pv 1) (pa_cons (pv 2) pa_nil))))
      <| pss_cons (ps_set (i := 4) scLaw.nd rfl (.inl rfl) (pe_lst (pa_cons (pe_callG gRow hr hg (by rfl) dRow.g dRow.F.kp dRow.b .nil pass0 (pa_cons (pv 1) (pa_cons (pe_op op_catL (pe_callTy call_list_of (by rfl) B.list PyProof.Rows.boot_list (pa_cons (pv 10) pa_nil)) (pe_lst (pa_cons pe_str pa_nil))) pa_nil)))
          (pa_cons (pe_callG gRow hr hg (by rfl) dRow.g dRow.F.kp dRow.b .nil pass0 (pa_cons (pv 1) (pa_cons (pe_callTy call_list_of (by rfl) B.list PyProof.Rows.boot_list (pa_cons (pe_ix ix_list (pv 2) (pe_callG gDraw hr hg (by rfl) dDraw.g dDraw.F.kp dDraw.b .nil pass0 (pa_cons (pv 1) (pa_cons pe_int pa_nil))) (fun _ _ => rfl)) pa_nil)) pa_nil)))
          (pa_cons (pe_callG gOdd hr hg (by rfl) dOdd.g dOdd.F.kp dOdd.b .nil pass0 (pa_cons (pv 1) pa_nil)) pa_nil)))))
      <| pss_one (ps_for PassesOwn.never rfl (pi_list (pv 4)) (pg_name (i := 5) scLaw.nd rfl (Or.inl rfl))
        (pss_one (ps_if (pt_cmpR op_ne (pe_callB (call_reprX hg hr.units) (by rfl) B.repr boot_repr (pa_cons (pe_callKG gWords hr hg (by rfl) dWords.g dWords.F.kp kW pass0 (pk_cons (pv 5) (pk_cons (pv 10) pk_nil))) pa_nil)) (pe_callB (call_reprX hg hr.units) (by rfl) B.repr boot_repr (pa_cons (pe_callG gDueW hr hg (by rfl) dDueW.g dDueW.F.kp dDueW.b .nil pass0 (pa_cons (pv 5) (pa_cons (pv 10) pa_nil))) pa_nil)) (nomark _))
          (pss_one (ps_ret pe_bl)) pss_nil)))))
    <| pss_one (ps_ret (pe_and (pe_callG gNam hr hg (by rfl) dNam.g dNam.F.kp dNam.b .nil pass0 (pa_cons pe_str pa_nil)) (pe_and (pe_not (pe_callG gNam hr hg (by rfl) dNam.g dNam.F.kp dNam.b .nil pass0 (pa_cons pe_str pa_nil)))
      (pe_and (pe_callG gLead hr hg (by rfl) dLead.g dLead.F.kp dLead.b .nil pass0 (pa_cons (pe_tup pa_nil) pa_nil)) (pe_one (pe_not (pe_callG gWords hr hg (by rfl) dWords.g dWords.F.kp dWords.b .nil pass0 (pa_cons (pe_tup pa_nil) (pa_cons (pe_tup (pa_cons pe_str pa_nil)) pa_nil))))))))), ?_⟩
  obtain ⟨a, ns, rfl, hS, hlen, q⟩ := h
  refine pen_head (N := NLaw) (k := 9) rfl hS hlen q ?_
  · -- the law over data
    refine ws_seq <| ws_asg (pf := false) <| w_lst <| wa_cons <| w_tup <| wa_cons <| w_c (fun _ => .str _) <| wa_cons <| w_c (fun _ => .str _) <| wa_cons <| w_c (fun _ => .str _) <| wa_cons <| w_c (fun _ => .str _) <| wa_nil ⟨by show 4 ≤ 100000; decide,
      wa_cons <| w_tup <| wa_cons <| w_c (fun _ => .str _) <| wa_cons <| w_c (fun _ => .str _) <| wa_cons <| w_c (fun _ => .str _) <| wa_cons <| w_c (fun _ => .str _) <| wa_cons <| w_c (fun _ => .str _) <| wa_nil ⟨by show 5 ≤ 100000; decide,
      wa_cons <| w_tup <| wa_cons <| w_c (fun _ => .str _) <| wa_nil ⟨by show 1 ≤ 100000; decide, wa_cons <| w_tup <| wa_nil ⟨Nat.zero_le _, wa_nil ⟨by show 4 ≤ 100000; decide, ?_⟩⟩⟩⟩⟩
    show Ws K _ [.dat (.lst (ns.map Dt.int)), .pen 0, .dat (.lst rowsD), .any, .any, .any, .any, .any, .any, .any, .any] _
    refine ws_seqI (fun ρ' => ∃ n, ρ' = [.dat (.lst (ns.map Dt.int)), .pen n, .dat (.lst rowsD), .any, .any, .any, .any, .any, .any, .any, .any]) ?_ ?_
    · have e30 : cutD (ns.map Dt.int) none (some 30) = (ns.map Dt.int).take 30 := cutD_to 30 rfl
      have l30 : ((ns.map Dt.int).take 30).length ≤ 30 := by rw [List.length_take]; omega
      refine ws_for (js := [3]) (fun ds i ρ' => ds.length ≤ 33 ∧ i ≤ 33 ∧ ∃ n, n ≤ 1000 * i ∧ ρ' = [.dat (.lst (ns.map Dt.int)), .pen n, .dat (.lst rowsD), .any, .any, .any, .any, .any, .any, .any, .any]) <| wi_rng1 (pf := true) <| wa_cons <| w_op <| w_c (fun _ => .int 3) <| w_cb <| wa_cons <| w_sl <| w_var (d := .lst (ns.map Dt.int)) rfl <| wo_none <| wo_some <| w_c (fun _ => .int 30) ⟨30, rfl, sd_list <| wa_nil <| rd_len rfl <| od_I0i <| wa_nil ⟨_, rfl, by omega, ?_, ?_⟩⟩
      · rw [e30]; omega
      rw [e30]
      have hd33 : (rangeD 0 ((3 : Int) + (((ns.map Dt.int).take 30).length : Nat)).toNat).length ≤ 33 := by rw [rangeD_len]; omega
      refine ⟨⟨hd33, by omega, 0, by omega, rfl⟩, ?_, ?_⟩
      · rintro i d0 ρ2 hd ⟨_, _, n, hn, rfl⟩
        have hi : i < 33 := Nat.lt_of_lt_of_le (List.getElem?_eq_some_iff.mp hd).1 hd33
        refine wg_name ?_
        show Ws K _ [.dat (.lst (ns.map Dt.int)), .pen n, .dat (.lst rowsD), .dat d0, .any, .any, .any, .any, .any, .any, .any] _
        -- some = [letters, letters, letters]
        refine ws_seq <| ws_asg (pf := false) <| w_lst <| wa_cons <| w_callN (i := 1) rfl <| wa_cons <| w_callN (i := 1) rfl <| wa_cons <| w_c (fun _ => .int 11) <| wa_nil ⟨n, rfl, 11, rfl, by decide, by decide, by omega, fun r hr => wa_nil ⟨n + 1, rfl, r, rfl, by omega, by omega, by omega, fun z1 h1 =>
          wa_cons <| w_callN (i := 1) rfl <| wa_cons <| w_c (fun _ => .int 8) <| wa_nil ⟨n + 1 + 20, rfl, 8, rfl, by decide, by decide, by omega, fun z2 h2 => wa_cons <| w_callN (i := 1) rfl <| wa_cons <| w_c (fun _ => .int 9) <| wa_nil ⟨n + 1 + 20 + 20, rfl, 9, rfl, by decide, by decide, by omega, fun z3 h3 => wa_nil ⟨by show 3 ≤ 100000; decide, ?_⟩⟩⟩⟩⟩
        -- some = some + [odd, 'shore', 'z']
        refine ws_seq <| ws_asg (pf := false) <| w_op <| w_var (d := .lst [.str z1, .str z2, .str z3]) rfl <| w_lst <| wa_cons <| w_callN (i := 1) rfl <| wa_nil ⟨n + 1 + 20 + 20 + 20, rfl, rfl, by omega, fun a1 b1 o ho => wa_cons <| w_c (fun _ => .str _) <| wa_cons <| w_c (fun _ => .str _) <| wa_nil ⟨by show 3 ≤ 100000; decide, od_cat (by show 3 + 3 ≤ 100000; decide) ?_⟩⟩
        have hs1 : ∀ x ∈ ([.str z1, .str z2, .str z3, o, .str "shore", .str "z"] : List Dt), Lf x := by
          intro x hx
          simp only [List.mem_cons, List.not_mem_nil, or_false] at hx
          rcases hx with rfl | rfl | rfl | rfl | rfl | rfl
          · exact .str h1
          · exact .str h2
          · exact .str h3
          · exact .odd ho
          · exact .str (by decide +kernel)
          · exact .str (by decide +kernel)
        have hn5 : n + 1 + 20 + 20 + 20 + 1 ≤ 1000 * i + 100 := by omega
        generalize n + 1 + 20 + 20 + 20 + 1 = n5 at hn5 ⊢
        show Ws K _ [.dat (.lst (ns.map Dt.int)), .pen n5, .dat (.lst rowsD), .dat d0, .dat (.lst [.str z1, .str z2, .str z3, o, .str "shore", .str "z"]), .any, .any, .any, .any, .any, .any] _
        generalize ([.str z1, .str z2, .str z3, o, .str "shore", .str "z"] : List Dt) = ts at hs1 ⊢
        refine ws_seqI (fun ρ' => ρ' = [.dat (.lst (ns.map Dt.int)), .pen n5, .dat (.lst rowsD), .any, .any, .any, .any, .any, .any, .any, .any]) ?_ ?_
        · refine ws_wk <| ws_for (js := [5]) (fun ds i ρ' => ρ' = [.dat (.lst (ns.map Dt.int)), .pen n5, .dat (.lst rowsD), .dat d0, .dat (.lst ts), .any, .any, .any, .any, .any, .any]) <| wi_list (pf := true) <| w_var (d := .lst ts) rfl ⟨ts, rfl, rfl, ?_, ?_⟩
          · rintro j d ρ2 hd rfl
            have hl := hs1 d (List.mem_of_getElem? hd)
            refine wg_name <| ws_seq <| ws_asg (pf := true) <| w_lst <| wa_cons <| w_call0 <| wa_cons <| w_var (d := d) rfl <| wa_nil ⟨d, rfl, shortD_no hl.short, wa_cons <| w_call0 <| wa_cons <| w_var (d := d) rfl <| wa_nil ⟨d, rfl, hl.short, wa_nil ⟨by show 2 ≤ 100000; decide, ?_⟩⟩⟩
            refine ws_seq <| ws_asg (pf := true) <| w_lst <| wa_cons <| w_isInt (d := d) rfl (shortD_no hl.short) <| wa_cons <| w_call0 <| wa_cons <| w_var (d := d) rfl <| wa_nil ⟨d, rfl, hl.short, wa_nil ⟨by show 2 ≤ 100000; decide, ?_⟩⟩
            refine ws_wk <| ws_if (pf := true) <| wt_test <| w_op <| w_cb <| wa_cons <| w_var (d := .lst [.bl (isInt d), .bl (isName d)]) rfl <| wa_nil <| rd_repr (fit_two _ _) <| w_cb <| wa_cons <| w_var (d := .lst [.bl (isInt d), .bl (isName d)]) rfl <| wa_nil <| rd_repr (fit_two _ _) <| od_nes ⟨_, rfl, ?_⟩
            rw [decide_eq_true rfl]
            exact ifF <| ws_next ⟨_, by (repeat (first | exact Wk.nil | refine Wk.keep ?_ | refine Wk.drop ?_)), rfl⟩
          · rintro ρ2 rfl
            exact ⟨_, by (repeat (first | exact Wk.nil | refine Wk.keep ?_ | refine Wk.drop ?_)), rfl⟩
        · rintro ρ' rfl
          -- few = [letters, 'a', .., odd]
          refine ws_seq <| ws_asg (pf := false) <| w_lst <| wa_cons <| w_callN (i := 1) rfl <| wa_cons <| w_op <| w_c (fun _ => .int 1) <| w_callN (i := 1) rfl <| wa_cons <| w_c (fun _ => .int 3) <| wa_nil ⟨n5, rfl, 3, rfl, by decide, by decide, by omega, fun r2 hr2 => od_I0i <| wa_nil ⟨n5 + 1, rfl, _, rfl, by omega, by omega, by omega, fun z4 h4 =>
            wa_cons <| w_c (fun _ => .str _) <| wa_cons <| w_c (fun _ => .str _) <| wa_cons <| w_c (fun _ => .str _) <| wa_cons <| w_c (fun _ => .str _) <| wa_cons <| w_c (fun _ => .str _) <| wa_cons <| w_callN (i := 1) rfl <| wa_nil ⟨n5 + 1 + 20, rfl, rfl, by omega, fun a2 b2 o2 ho2 => wa_nil ⟨by show 7 ≤ 100000; decide, ?_⟩⟩⟩⟩
          have hs2 : ∀ x ∈ ([.str z4, .str "a", .str "b", .str "c", .str "d", .str "shore", o2] : List Dt), Few o2 x := by
            intro x hx
            simp only [List.mem_cons, List.not_mem_nil, or_false] at hx
            rcases hx with rfl | rfl | rfl | rfl | rfl | rfl | rfl
            · exact .inl ⟨_, rfl, h4⟩
            · exact .inl ⟨_, rfl, by decide +kernel⟩
            · exact .inl ⟨_, rfl, by decide +kernel⟩
            · exact .inl ⟨_, rfl, by decide +kernel⟩
            · exact .inl ⟨_, rfl, by decide +kernel⟩
            · exact .inl ⟨_, rfl, by decide +kernel⟩
            · exact .inr rfl
          have ln2 : ([.str z4, .str "a", .str "b", .str "c", .str "d", .str "shore", o2] : List Dt).length = 7 := rfl
          show Ws K _ [.dat (.lst (ns.map Dt.int)), .pen (n5 + 1 + 20 + 1), .dat (.lst rowsD), .any, .any, .any, .any, .any, .dat (.lst [.str z4, .str "a", .str "b", .str "c", .str "d", .str "shore", o2]), .any, .any] _
          generalize ([.str z4, .str "a", .str "b", .str "c", .str "d", .str "shore", o2] : List Dt) = fs0 at hs2 ln2 ⊢
          -- few = few[:5 + draw]
          refine ws_seq <| ws_asg (pf := false) <| w_sl <| w_var (d := .lst fs0) rfl <| wo_none <| wo_some <| w_op <| w_c (fun _ => .int 5) <| w_callN (i := 1) rfl <| wa_cons <| w_c (fun _ => .int 3) <| wa_nil ⟨n5 + 1 + 20 + 1, rfl, 3, rfl, by decide, by decide, by omega, fun r3 hr3 => od_I0i ⟨_, rfl, sd_list ?_⟩⟩
          have ec : (5 : Int) + (r3 : Nat) = ((5 + r3 : Nat) : Int) := by omega
          rw [ec, cutD_to (5 + r3) rfl]
          have hs3 : ∀ x ∈ fs0.take (5 + r3), Few o2 x := fun x hx => hs2 x (List.mem_of_mem_take hx)
          have ln3 : 5 ≤ (fs0.take (5 + r3)).length ∧ (fs0.take (5 + r3)).length ≤ 7 := by rw [List.length_take]; omega
          have hn6 : n5 + 1 + 20 + 1 + 1 ≤ 1000 * i + 200 := by omega
          show Ws K _ [.dat (.lst (ns.map Dt.int)), .pen (n5 + 1 + 20 + 1 + 1), .dat (.lst rowsD), .any, .any, .any, .any, .any, .dat (.lst (fs0.take (5 + r3))), .any, .any] _
          generalize n5 + 1 + 20 + 1 + 1 = n6 at hn6 ⊢
          generalize fs0.take (5 + r3) = fs at hs3 ln3 ⊢
          have hcmp : ∀ x ∈ fs, ∀ y ∈ fs, Cmp x y := fun x hx y hy => few_cmp ho2 (hs3 x hx) (hs3 y hy)
          have hlf : ∀ x ∈ fs, Lf x := fun x hx => few_lf ho2 (hs3 x hx)
          have e6 : cutD fs none (some 6) = fs.take 6 := cutD_to 6 rfl
          have e5 : cutD fs none (some 5) = fs.take 5 := cutD_to 5 rfl
          have m6 : ∀ x ∈ cutD fs none (some 6), x ∈ fs := fun x hx => by rw [e6] at hx; exact List.mem_of_mem_take hx
          have m5 : ∀ x ∈ cutD fs none (some 5), x ∈ fs := fun x hx => by rw [e5] at hx; exact List.mem_of_mem_take hx
          have k6 : 0 < (cutD fs none (some 6)).length ∧ (cutD fs none (some 6)).length ≤ 1000 := by rw [e6, List.length_take]; omega
          have k5 : 0 < (cutD fs none (some 5)).length ∧ (cutD fs none (some 5)).length ≤ 1000 := by rw [e5, List.length_take]; omega
          refine ws_seqI (fun ρ' => ρ' = [.dat (.lst (ns.map Dt.int)), .pen (n6 + 30 + 30 + 30 + 1), .dat (.lst rowsD), .any, .any, .any, .any, .any, .any, .any, .any]) ?_ ?_
          · refine ws_wk <| ws_for (js := [5]) (fun ds j ρ' => ρ' = [.dat (.lst (ns.map Dt.int)), .pen (n6 + 30 + 30 + 30 + 1), .dat (.lst rowsD), .any, .any, .any, .any, .any, .dat (.lst fs), .any, .any]) <| wi_tup (pf := false) <| w_tup <| wa_cons <| w_callN (i := 1) rfl <| wa_cons <| w_var (d := .lst fs) rfl <| wa_nil ⟨n6, rfl, fs, rfl, by omega, by omega, by omega, hcmp, fun d1 ys1 e1 l1 y1 =>
              wa_cons <| w_callN (i := 1) rfl <| wa_cons <| w_sl <| w_var (d := .lst fs) rfl <| wo_none <| wo_some <| w_c (fun _ => .int 6) ⟨6, rfl, sd_list <| wa_nil ⟨n6 + 30, rfl, _, rfl, k6.1, k6.2, by omega, fun x hx y hy => hcmp x (m6 x hx) y (m6 y hy), fun d2 ys2 e2 l2 y2 =>
              wa_cons <| w_callN (i := 1) rfl <| wa_cons <| w_sl <| w_var (d := .lst fs) rfl <| wo_none <| wo_some <| w_c (fun _ => .int 5) ⟨5, rfl, sd_list <| wa_nil ⟨n6 + 30 + 30, rfl, _, rfl, k5.1, k5.2, by omega, fun x hx y hy => hcmp x (m5 x hx) y (m5 y hy), fun d3 ys3 e3 l3 y3 =>
              wa_cons <| w_callN (i := 1) rfl <| wa_nil ⟨n6 + 30 + 30 + 30, rfl, rfl, by omega, fun a4 b4 d4 ho4 => wa_nil ⟨by show 4 ≤ 100000; decide, _, rfl, rfl, ?_, ?_⟩⟩⟩⟩⟩⟩⟩
            · rintro j d ρ2 hd rfl
              have ht : Th d := by
                have hm := List.mem_of_getElem? hd
                simp only [List.mem_cons, List.not_mem_nil, or_false] at hm
                rcases hm with rfl | rfl | rfl | rfl
                · exact th_of hlf e1 l1 y1
                · exact th_of hlf e2 l2 fun y hy => m6 y (y2 y hy)
                · exact th_of hlf e3 l3 fun y hy => m5 y (y3 y hy)
                · exact .lf (.odd ho4)
              refine wg_name <| ws_seq <| ws_asg (pf := true) <| w_cb <| wa_cons <| w_var (d := d) rfl <| wa_nil <| rd_repr ht.fit ?_
              refine ws_wk <| ws_if (pf := true) <| wt_or <| wt_test <| w_op <| w_cb <| wa_cons <| w_call0 <| wa_cons <| w_var (d := d) rfl <| wa_nil ⟨d, rfl, ht.thing, wa_nil <| rd_repr (fit_bl _) <| w_cb <| wa_cons <| w_call0 <| wa_cons <| w_var (d := d) rfl <| wa_nil ⟨d, rfl, ht.thing, wa_nil <| rd_repr (fit_bl _) <| od_nes ⟨_, rfl, ?_⟩⟩⟩
              rw [decide_eq_true rfl]
              refine ifF <| wt_test <| w_op <| w_cb <| wa_cons <| w_var (d := d) rfl <| wa_nil <| rd_repr ht.fit <| w_var (d := .str d.py.shown) rfl <| od_nes ⟨_, rfl, ?_⟩
              rw [decide_eq_true rfl]
              exact ifF <| ws_next ⟨_, by (repeat (first | exact Wk.nil | refine Wk.keep ?_ | refine Wk.drop ?_)), rfl⟩
            · rintro ρ2 rfl
              exact ⟨_, by (repeat (first | exact Wk.nil | refine Wk.keep ?_ | refine Wk.drop ?_)), rfl⟩
          · rintro ρ' rfl
            have hn7 : n6 + 30 + 30 + 30 + 1 ≤ 1000 * i + 300 := by omega
            generalize n6 + 30 + 30 + 30 + 1 = n7 at hn7 ⊢
            -- menu = pick(pen, rows)
            refine ws_seq <| ws_asg (pf := false) <| w_callN (i := 1) rfl <| wa_cons <| w_var (d := .lst rowsD) rfl <| wa_nil ⟨n7, rfl, .lst rowsD, rowsD, rfl, rfl, by decide, by decide, by omega, fun x hx => ?_⟩
            obtain ⟨ms, rfl, hml, hmo⟩ := rowsD_of hx
            show Ws K _ [.dat (.lst (ns.map Dt.int)), .pen (n7 + 1), .dat (.lst rowsD), .any, .any, .any, .any, .any, .any, .any, .dat (.tup (ms.map Dt.str))] _
            have mt : ∀ x ∈ ms.map Dt.str ++ [Dt.str "a"], ∃ z, x = .str z ∧ okT z = true := fun x hx => by
              rcases List.mem_append.mp hx with c | c
              · obtain ⟨z, hz, rfl⟩ := List.mem_map.mp c
                exact ⟨z, rfl, hmo z hz⟩
              · rw [List.mem_singleton.mp c]
                exact ⟨_, rfl, by decide +kernel⟩
            have ml : (ms.map Dt.str ++ [Dt.str "a"]).length ≤ 6 ∧ 0 < (ms.map Dt.str ++ [Dt.str "a"]).length := by rw [List.length_append, List.length_map]; show _ + 1 ≤ 6 ∧ 0 < _ + 1; omega
            -- some = [row, row, odd]
            refine ws_seq <| ws_asg (pf := false) <| w_lst <| wa_cons <| w_callN (i := 1) rfl <| wa_cons <| w_op <| w_cb <| wa_cons <| w_var (d := .tup (ms.map Dt.str)) rfl <| wa_nil <| rd_list rfl <| w_lst <| wa_cons <| w_c (fun _ => .str _) <| wa_nil ⟨by show 1 ≤ 100000; decide, od_cat (by rw [List.length_map]; show _ + 1 ≤ _; omega) <| wa_nil ⟨n7 + 1, rfl, _, rfl, ml.2, by omega, by omega, str_cmp mt, fun d1 ys1 e1 l1 y1 =>
              wa_cons <| w_callN (i := 1) rfl <| wa_cons <| w_cb <| wa_cons <| w_op <| w_var (d := .lst rowsD) rfl <| w_callN (i := 1) rfl <| wa_cons <| w_c (fun _ => .int 2) <| wa_nil ⟨n7 + 1 + 30, rfl, 2, rfl, by decide, by decide, by omega, fun r4 hr4 => ?_⟩⟩⟩
            obtain ⟨us, hu, hu0, hul, huo⟩ : ∃ us : List Str, rowsD[r4]? = some (.tup (us.map Dt.str)) ∧ 0 < us.length ∧ us.length ≤ 5 ∧ ∀ s ∈ us, okT s = true := by
              have hc : r4 = 0 ∨ r4 = 1 := by omega
              rcases hc with rfl | rfl
              · exact ⟨["still", "shut", "save", "dark"], rfl, by decide, by decide, by decide +kernel⟩
              · exact ⟨["lit", "reset", "back", "open", "go"], rfl, by decide, by decide, by decide +kernel⟩
            have ut : ∀ x ∈ us.map Dt.str, ∃ z, x = .str z ∧ okT z = true := fun x hx => by
              obtain ⟨z, hz, rfl⟩ := List.mem_map.mp hx
              exact ⟨z, rfl, huo z hz⟩
            refine od_ixL (atI_nat' hu) <| wa_nil <| rd_list rfl <| wa_nil ⟨n7 + 1 + 30 + 1, rfl, _, rfl, by rw [List.length_map]; omega, by rw [List.length_map]; omega, by omega, str_cmp ut, fun d2 ys2 e2 l2 y2 =>
              wa_cons <| w_callN (i := 1) rfl <| wa_nil ⟨n7 + 1 + 30 + 1 + 30, rfl, rfl, by omega, fun a5 b5 o5 ho5 => wa_nil ⟨by show 3 ≤ 100000; decide, ?_⟩⟩⟩
            have hth : ∀ x ∈ [d1, d2, o5], Th x := by
              intro x hx
              simp only [List.mem_cons, List.not_mem_nil, or_false] at hx
              rcases hx with rfl | rfl | rfl
              · exact th_of (strs_lf mt) e1 l1 y1
              · exact th_of (strs_lf ut) e2 l2 y2
              · exact .lf (.odd ho5)
            have hn8 : n7 + 1 + 30 + 1 + 30 + 1 ≤ 1000 * (i + 1) := by omega
            show Ws K _ [.dat (.lst (ns.map Dt.int)), .pen (n7 + 1 + 30 + 1 + 30 + 1), .dat (.lst rowsD), .any, .dat (.lst [d1, d2, o5]), .any, .any, .any, .any, .any, .dat (.tup (ms.map Dt.str))] _
            generalize n7 + 1 + 30 + 1 + 30 + 1 = n8 at hn8 ⊢
            generalize [d1, d2, o5] = ts3 at hth ⊢
            refine ws_wk <| ws_for (js := [5]) (fun ds j ρ' => ρ' = [.dat (.lst (ns.map Dt.int)), .pen n8, .dat (.lst rowsD), .any, .dat (.lst ts3), .any, .any, .any, .any, .any, .dat (.tup (ms.map Dt.str))]) <| wi_list (pf := true) <| w_var (d := .lst ts3) rfl ⟨ts3, rfl, rfl, ?_, ?_⟩
            · rintro j d ρ2 hd rfl
              have ht := hth d (List.mem_of_getElem? hd)
              refine wg_name <| ws_wk <| ws_if (pf := true) <| wt_test <| w_op <| w_cb <| wa_cons <| w_callK gKw_nil <| wa_cons <| w_var (d := d) rfl <| wa_cons <| w_var (d := .tup (ms.map Dt.str)) rfl <| wa_nil ⟨d, ms, rfl, ht.thing, wa_nil <| rd_repr (fit_bl _) <| w_cb <| wa_cons <| w_call0 <| wa_cons <| w_var (d := d) rfl <| wa_cons <| w_var (d := .tup (ms.map Dt.str)) rfl <| wa_nil ⟨d, ms, rfl, ht.thing, wa_nil <| rd_repr (fit_bl _) <| od_nes ⟨_, rfl, ?_⟩⟩⟩
              rw [decide_eq_true rfl]
              exact ifF <| ws_next ⟨_, by (repeat (first | exact Wk.nil | refine Wk.keep ?_ | refine Wk.drop ?_)), rfl⟩
            · rintro ρ2 rfl
              exact ⟨_, by (repeat (first | exact Wk.nil | refine Wk.keep ?_ | refine Wk.drop ?_)), hd33, by omega, n8, hn8, rfl⟩
      · rintro ρ2 ⟨_, _, n, hn, rfl⟩
        exact ⟨n, rfl⟩
    · rintro ρ' ⟨n, rfl⟩
      refine ws_ret (pf := true) <| w_andV <| w_call0 <| wa_cons <| w_c (fun _ => .str _) <| wa_nil ⟨_, rfl, by decide +kernel, true, ?_, ifT <| w_andV <| w_notV <| w_call0 <| wa_cons <| w_c (fun _ => .str _) <| wa_nil ⟨_, rfl, by decide +kernel, false, ?_, true, rfl, ifT <| w_andV <| w_call0 <| wa_cons <| w_tup <| wa_nil ⟨Nat.zero_le _, wa_nil ⟨.tup [], rfl, rfl, true, ?_, ifT <| w_notV <| w_call0 <| wa_cons <| w_tup <| wa_nil ⟨Nat.zero_le _, wa_cons <| w_tup <| wa_cons <| w_c (fun _ => .str _) <| wa_nil ⟨by show 1 ≤ 100000; decide, wa_nil ⟨.tup [], ["a"], rfl, rfl, false, ?_, rfl⟩⟩⟩⟩⟩⟩⟩
      · rw [show isName (.str "abcdefgh") = true by decide +kernel]
      · rw [show isName (.str "abcdefghi") = false by decide +kernel]
      · rfl
      · rfl
end
end K02

namespace K02
open PySem PySem.Spec PyProof.Rows L2 DL
/-! ### what the top has written; the law's own head -/
inductive Fac (K : PySem.W.Frag) (x : Str) (st : Stmt) : Prop
  | mk {f : Addr} {od an : Option Addr} {sl : Array (Option Value)} {oc kV dc pm cd ct : Value} (a : PySem.W.nsIn K mainGlobals x = some (some (.ref f)))
      (l : K.lookup f = some ⟨oc, od, .func (PySem.W.fnOf x x (defArgs st) (defBody st) (defScope st) .none kV dc pm an cd ct), sl⟩) (c : PySem.W.codeIn K cd x = true) (k : PySem.W.keepIn K (.ref f) = true) : Fac K x st
theorem Fac.df {K : PySem.W.Frag} {x : Str} {st : Stmt} {h : Heap} {mg : Str → Option Value} {ps : List Str} (F : Fac K x st) (X : K.In h) (G : h.Ns mainGlobals mg)
    (hb : ∀ (kV doc pm : Value) (an : Option Addr) (cdv ct : Value) (us : List Value), us.length = ps.length → bindArgs (PySem.W.fnOf x x (defArgs st) (defBody st) (defScope st) .none kV doc pm an cdv ct) ⟨us, []⟩ = pure (ps.zip us)) : Nonempty (DF K mg x st ps) := by
  cases F with
  | mk a l c k =>
    have F := fun_mk (st := st) l c k
    exact ⟨⟨_, _, F, F.binds hb, PySem.W.mg_of X G a⟩⟩
theorem words_kb {K : PySem.W.Frag} {f : Addr} {fd : FuncData} (F : Fun K "is_words" "is_words" sWords f fd) : KBinds K fd ["value", "words"] ["value", "words"] gKw gKw := by
  obtain ⟨oc, od, kV, doc, pm, an, cdv, ct, osl, rfl, lk, hcd⟩ := F.ex
  refine ⟨fun s us ws _ hl => ?_, fun r rz => ?_⟩
  · match us, ws, hl with
    | [], [_, _], _ => exact .of_eq rfl
  · cases r with
    | nil => exact rz
    | cons _ _ => exact .nil
section
variable {l : PySem.W.OpenLaw} {w : World} {K : PySem.W.Frag} {h : Heap} {mg : Str → Option Value} {fa : Addr} {t1 t2 : Tok}
theorem all_mk (X : K.In h) (G : h.Ns mainGlobals mg) (hfa : mg "law" = some (.ref fa))
    (m1 : PySem.W.nsIn K mainGlobals "MOST_LETTERS" = some (some (.int 8 t1))) (m2 : PySem.W.nsIn K mainGlobals "MOST_IN_LEAD" = some (some (.int 4 t2)))
    (z1 : PySem.W.nsIn K mainGlobals "isinstance" = some none) (z2 : PySem.W.nsIn K mainGlobals "int" = some none) (z3 : PySem.W.nsIn K mainGlobals "bool" = some none) (z4 : PySem.W.nsIn K mainGlobals "str" = some none)
    (z5 : PySem.W.nsIn K mainGlobals "tuple" = some none) (z6 : PySem.W.nsIn K mainGlobals "list" = some none) (z7 : PySem.W.nsIn K mainGlobals "len" = some none) (z8 : PySem.W.nsIn K mainGlobals "all" = some none)
    (z9 : PySem.W.nsIn K mainGlobals "set" = some none) (z10 : PySem.W.nsIn K mainGlobals "range" = some none) (z11 : PySem.W.nsIn K mainGlobals "abs" = some none) (z12 : PySem.W.nsIn K mainGlobals "repr" = some none)
    (f1 : Fac K "is_integer" sInt) (f2 : Fac K "is_name" sNam) (f3 : Fac K "is_own_name" sOwn) (f4 : Fac K "is_name_row" sRow) (f5 : Fac K "is_lead" sLead) (f6 : Fac K "is_words" sWords)
    (f7 : Fac K "_law_pen_of" sPenOf) (f8 : Fac K "_law_draw" sDraw) (f9 : Fac K "_law_pick" sPick) (f10 : Fac K "_law_letters" sLetters) (f11 : Fac K "_law_odd" sOdd) (f12 : Fac K "_law_row" sRowL)
    (f13 : Fac K "_law_due_name" sDueN) (f14 : Fac K "_law_due_lead" sDueL) (f15 : Fac K "_law_due_words" sDueW) (f16 : Fac K "law" sLaw) :
    ∃ fd : FuncData, (∀ (s : Shared) (v : Value), BindsTo s fd ⟨[v], []⟩ [("_law_script", v)]) ∧ ∀ base : Heap, K.In base → base.Ns mainGlobals mg → FnG l.prog w K mg base CX0 5 fa fd ["_law_script"] (spLaw K) := by
  obtain ⟨d1⟩ := f1.df (ps := ["value"]) X G fun _ _ _ _ _ _ us hl => match us, hl with | [_], _ => rfl
  obtain ⟨d2⟩ := f2.df (ps := ["value"]) X G fun _ _ _ _ _ _ us hl => match us, hl with | [_], _ => rfl
  obtain ⟨d3⟩ := f3.df (ps := ["value"]) X G fun _ _ _ _ _ _ us hl => match us, hl with | [_], _ => rfl
  obtain ⟨d4⟩ := f4.df (ps := ["value", "most"]) X G fun _ _ _ _ _ _ us hl => match us, hl with | [_, _], _ => rfl
  obtain ⟨d5⟩ := f5.df (ps := ["value"]) X G fun _ _ _ _ _ _ us hl => match us, hl with | [_], _ => rfl
  obtain ⟨d6⟩ := f6.df (ps := ["value", "words"]) X G fun _ _ _ _ _ _ us hl => match us, hl with | [_, _], _ => rfl
  obtain ⟨d7⟩ := f7.df (ps := ["_law_script"]) X G fun _ _ _ _ _ _ us hl => match us, hl with | [_], _ => rfl
  obtain ⟨d8⟩ := f8.df (ps := ["_law_pen", "_law_many"]) X G fun _ _ _ _ _ _ us hl => match us, hl with | [_, _], _ => rfl
  obtain ⟨d9⟩ := f9.df (ps := ["_law_pen", "_law_some"]) X G fun _ _ _ _ _ _ us hl => match us, hl with | [_, _], _ => rfl
  obtain ⟨d10⟩ := f10.df (ps := ["_law_pen", "_law_many"]) X G fun _ _ _ _ _ _ us hl => match us, hl with | [_, _], _ => rfl
  obtain ⟨d11⟩ := f11.df (ps := ["_law_pen"]) X G fun _ _ _ _ _ _ us hl => match us, hl with | [_], _ => rfl
  obtain ⟨d12⟩ := f12.df (ps := ["_law_pen", "_law_some"]) X G fun _ _ _ _ _ _ us hl => match us, hl with | [_, _], _ => rfl
  obtain ⟨d13⟩ := f13.df (ps := ["_law_thing"]) X G fun _ _ _ _ _ _ us hl => match us, hl with | [_], _ => rfl
  obtain ⟨d14⟩ := f14.df (ps := ["_law_thing"]) X G fun _ _ _ _ _ _ us hl => match us, hl with | [_], _ => rfl
  obtain ⟨d15⟩ := f15.df (ps := ["_law_thing", "_law_menu"]) X G fun _ _ _ _ _ _ us hl => match us, hl with | [_, _], _ => rfl
  cases f16 with
  | @mk f od an sl oc kV dc pm cd ct a16 l16 c16 k16 =>
    have e := hfa.symm.trans (PySem.W.mg_of X G a16)
    cases e
    have F16 := fun_mk (st := sLaw) l16 c16 k16
    have B : Bt mg := ⟨PySem.W.mg_none_of X G z1, PySem.W.mg_none_of X G z2, PySem.W.mg_none_of X G z3, PySem.W.mg_none_of X G z4, PySem.W.mg_none_of X G z5, PySem.W.mg_none_of X G z6, PySem.W.mg_none_of X G z7, PySem.W.mg_none_of X G z8, PySem.W.mg_none_of X G z9, PySem.W.mg_none_of X G z10, PySem.W.mg_none_of X G z11, PySem.W.mg_none_of X G z12⟩
    refine ⟨PySem.W.fnOf "law" "law" (defArgs sLaw) (defBody sLaw) (defScope sLaw) .none kV dc pm an cd ct, fun s v => .of_eq rfl, fun base _ _ => ?_⟩
    have g1 := ok_int (P := l.prog) (w := w) (base := base) d1.F B
    have g2 := ok_nam (P := l.prog) (w := w) (base := base) d2.F B (PySem.W.mg_of X G m1)
    have g3 := ok_own d3.F d2.F d2.b d2.g g2
    have g4 := ok_row d4.F d3.F d3.b d3.g B g3
    have g5 := ok_lead d5.F d4.F d4.b d4.g (PySem.W.mg_of X G m2) g4
    have g6 := ok_words (P := l.prog) (w := w) (base := base) d6.F B
    have g7 := ok_penOf (P := l.prog) (w := w) (base := base) d7.F B
    have g8 := ok_draw (P := l.prog) (w := w) (base := base) d8.F B
    have g9 := ok_pick d9.F d8.F d8.b d8.g B g8
    have g10 := ok_letters d10.F d8.F d8.b d8.g d9.F d9.b d9.g B (g8.mono (by decide)) g9
    have g11 := ok_odd d11.F d9.F d9.b d9.g g9
    have g12 := ok_rowL d12.F d8.F d8.b d8.g d9.F d9.b d9.g B (g8.mono (by decide)) g9
    have g13 := ok_dueN (P := l.prog) (w := w) (base := base) d13.F B
    have g14 := ok_dueL d14.F d13.F d13.b d13.g B g13
    have g15 := ok_dueW (P := l.prog) (w := w) (base := base) d15.F B
    exact ok_law F16 B d1 d2 d5 d6 d7 d8 d9 d10 d11 d12 d13 d14 d15 (words_kb d6.F) (g1.mono (by decide)) (g2.mono (by decide)) (g5.mono (by decide)) (g6.mono (by decide)) (g7.mono (by decide)) (g8.mono (by decide)) (g9.mono (by decide)) (g10.mono (by decide)) (g11.mono (by decide)) (g12.mono (by decide)) (g13.mono (by decide)) (g14.mono (by decide)) (g15.mono (by decide))
end
end K02

open PySem PySem.W PyProof.Rows
set_option maxHeartbeats 0 in
theorem PySem.Challenge.cw_duskisles_k02_names_and_words_holds : PySem.Challenge.rw_duskisles_k02_names_and_words.Holds := by
  w_on; o_law; k_head; (case hw => w_witness2)
  k_fill
  refine DL.walk_ofG (l := PySem.Challenge.rw_duskisles_k02_names_and_words) (n := 63) (k := 5) (x := "_law_script") (sp := fun K => K02.spLaw K) rfl (by decide) rfl ⟨rfl, by decide, by decide⟩ (fun w h Y => PySem.W.kIn_of Y) ?F (fun K H a ns hl _ hS => ⟨a, ns, rfl, hS, hl, fun _ => rfl⟩)
  case F =>
    intro w mg fa h KX G hmg
    refine' K02.all_mk KX G hmg ?m1 ?m2 ?z1 ?z2 ?z3 ?z4 ?z5 ?z6 ?z7 ?z8 ?z9 ?z10 ?z11 ?z12 ?f1 ?f2 ?f3 ?f4 ?f5 ?f6 ?f7 ?f8 ?f9 ?f10 ?f11 ?f12 ?f13 ?f14 ?f15 ?f16
    (case m1 => k_is); (case m2 => k_is)
    (case z1 => k_is); (case z2 => k_is); (case z3 => k_is); (case z4 => k_is); (case z5 => k_is); (case z6 => k_is); (case z7 => k_is); (case z8 => k_is); (case z9 => k_is); (case z10 => k_is); (case z11 => k_is); (case z12 => k_is)
    all_goals (refine' K02.Fac.mk ?a ?l ?c ?k; (case a => k_is); (case l => k_is); (case c => k_is); (case k => k_is))


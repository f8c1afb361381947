import PyProof.Rows.All
import Wide.All
import OpenK.AllK
import Wide.FinOn
import PySem.Challenge.RW_duskisles_k01_errors
import HandS.ForMost
import HandS.IsInst
import HandS.Defaults
import HandS.DeepEq
import HandS.Deep
import PyProof.ReprRoads
import HandS.Lambda
import HandS.Walk
import HandS.TupAny
import HandS.Strs
import HandS.SetKeys
import HandS.SetFor
import PyProof.ListNew
import HandS.MakeKwOnly
import HandS.Property
import HandS.ForDict
import PyProof.Rows.SortShellAny
import HandS.Exc
import HandS.ExcValue
import KE.KExcPX
import HandS.ExcField
import HandS.ExcIs
import KE.KExcIs
import HandS.ExcInit
import HandS.WordsExc
import KE.KExcInit
import PyProof.ExcBaseAll.LookupError
import PyProof.ExcBaseAll.RuntimeError
import PyProof.ExcBaseAll.OverflowError
import HandS.Style
import HandS.ExcOwn
import HandS.EndTab
import HandS.NestedK
set_option Elab.async false
set_option linter.all false
set_option maxRecDepth 100000
/-! Defs whose callers hold no guard (repr of what is being shown): the promise, its rule, calls. -/
namespace DL
open PySem PySem.Spec PyProof.Rows L2

/-- a def's promise where no guard is held -/
structure FnG (P : Program) (w : World) (K : PySem.W.Frag) (mg : Str → Option Value) (base : Heap)
    (CX : CXT) (k : Nat) (f : Addr) (fd : FuncData) (ps : List Str) (sp : Sp) : Prop where
  len : ∀ vs H Q E, sp vs H Q E → vs.length = ps.length
  run : ∀ (A : Around) (outer : List Env) (s : Shared) (H : Hp) (args : Args) (us : List Value) (vs : List V) (Q : VK) (E : XK),
    Room k A → A.guards = some [] → Env0 P w K mg base A outer s H → BindsTo s fd args (ps.zip us) → Vals vs us → sp vs H Q E →
      codeAny (model P w) A (.call (.ref f) args) (CR CX outer P w H s Q E) s

section
variable {P : Program} {w : World} {K : PySem.W.Frag} {mg : Str → Option Value} {base : Heap} {CX : CXT} {k j : Nat} {f : Addr} {fd : FuncData} {ps : List Str} {sp sp' : Sp}
theorem FnG.of (F : FnOk P w K mg base CX k f fd ps sp) : FnG P w K mg base CX k f fd ps sp :=
  ⟨F.len, fun A outer s H args us vs Q E r _ e b v q => F.run A outer s H args us vs Q E r e b v q⟩
theorem FnG.mono (F : FnG P w K mg base CX j f fd ps sp) (h : j ≤ k) : FnG P w K mg base CX k f fd ps sp :=
  ⟨F.len, fun A outer s H args us vs Q E r => F.run A outer s H args us vs Q E (r.mono h)⟩
theorem FnG.imp (F : FnG P w K mg base CX k f fd ps sp) (h : ∀ vs H Q E, sp' vs H Q E → sp vs H Q E) : FnG P w K mg base CX k f fd ps sp' :=
  ⟨fun vs H Q E q => F.len vs H Q E (h vs H Q E q), fun A outer s H args us vs Q E r g e b v q => F.run A outer s H args us vs Q E r g e b v (h vs H Q E q)⟩

theorem fnG_of {name qual : Str} {params : Arguments} {body : List Stmt} {scope : Scope} {dV kV doc pm cdv ct oc : Value} {an od : Option Addr} {osl : Array (Option Value)} {N : List Str}
    (lk : K.lookup f = some ⟨oc, od, .func (PySem.W.fnOf name qual params body scope dV kV doc pm an cdv ct), osl⟩)
    (hcd : PySem.W.codeIn K cdv qual = true) (S : FnScope N ps scope) (len : ∀ vs H Q E, sp vs H Q E → vs.length = ps.length)
    (hbody : ∀ (A : Around) (outer : List Env) (s : Shared) (H : Hp) (vs : List V) (Q : VK) (E : XK), Room k (A.deeper (envOfC qual scope s.heap.objs.size f cdv)) → (A.deeper (envOfC qual scope s.heap.objs.size f cdv)).guards = some [] →
      sp vs H Q E → ∃ t, PSs (cxOf CX P w K mg base N qual scope f cdv A outer s H E) body t ∧ t { nx := fun _ H' => Q .non H', rt := Q } (start N vs) H) :
    FnG P w K mg base CX (k + 1) f (PySem.W.fnOf name qual params body scope dV kV doc pm an cdv ct) ps sp :=
  ⟨len, fun A outer s H args us vs Q E room g e0 bd r h => LamX.run_ofS lk hcd S room e0 bd r (len _ _ _ _ h) fun room' => hbody A outer s H vs Q E room' g h⟩
theorem okG {x qual : Str} {st : Stmt} {N : List Str} (F : Fun K x qual st f fd) (S : FnScope N ps (defScope st)) (len : ∀ vs H Q E, sp vs H Q E → vs.length = ps.length)
    (hbody : ∀ (cdv : Value) (A : Around) (outer : List Env) (s : Shared) (H : Hp) (vs : List V) (Q : VK) (E : XK), Room k (A.deeper (envOfC qual (defScope st) s.heap.objs.size f cdv)) →
      (A.deeper (envOfC qual (defScope st) s.heap.objs.size f cdv)).guards = some [] → sp vs H Q E →
      ∃ t, PSs (cxOf CX0 P w K mg base N qual (defScope st) f cdv A outer s H E).nox (defBody st) t ∧ t { nx := fun _ H' => Q .non H', rt := Q } (start N vs) H) :
    FnG P w K mg base CX0 (k + 1) f fd ps sp := by
  obtain ⟨oc, od, kV, doc, pm, an, cdv, ct, osl, rfl, lk, hcd⟩ := F.ex
  refine fnG_of lk hcd S len ?_
  intro A outer s H vs Q E r g q
  obtain ⟨t, h, z⟩ := hbody cdv A outer s H vs Q E r g q
  exact ⟨t, h.nox, z⟩
end

section
variable {X : Cx} {CX : CXT} {k : Nat} {f : Addr} {fd : FuncData} {ps ks : List Str} {sp : Sp} {dvs : List V} {ds : List Value} {E : XK} {x : Str} {p pos : Pos} {e : Expr} {es : List Expr} {kws : List Keyword} {t tk : TA}
/-- what a call leaves, seen from its caller -/
theorem back_of {pins : List (Addr × Obj)} {σ : L2.St} {H : Hp} {s : Shared} {Q : VK} (hx : ∀ e s', CX X.stack H s E e s' → X.xe e s') (I : Inv X pins σ H s) : ∀ r s', CR CX X.stack X.prog X.w H s Q E r s' → (match r with | .ok (.ret u) => EP X pins σ Q u s' | .ok _ => False | .error e => X.xe e s') := by
  rintro (e | f) s' z
  · exact hx e s' z
  cases f with
  | ret u => exact I.after z
  | _ => exact z
theorem runG {pins : List (Addr × Obj)} {σ : L2.St} {H : Hp} {s : Shared} {Q : VK} {us : List Value} {vs : List V} (F : FnG X.prog X.w X.K X.mg X.base CX k f fd ps sp) (hr : Room k X.A) (hgu : X.A.guards = some []) (hb : Binds X.K fd ps ds)
    (hd : Vals dvs ds) (hx : Passes CX X E) (I : Inv X pins σ H s) (r : Vals vs us) (h : sp (vs ++ dvs) H Q E) : wpAny (model X.prog X.w) X.A (call (.ref f) us) (EP X pins σ Q) X.xe s := by
  have r2 := r.append hd
  have hl : (us ++ ds).length = ps.length := r2.length.symm.trans (F.len _ _ _ _ h)
  exact wpAny_call (codeAny_mono (F.run X.A X.stack s H ⟨us, []⟩ (us ++ ds) (vs ++ dvs) Q E hr hgu I.env0 (hb s us I.kIn hl) r2 h) (back_of (fun e s' z => hx pins σ H s e s' I z) I))
theorem pe_callG (F : FnG X.prog X.w X.K X.mg X.base CX k f fd ps sp) (hr : Room k X.A) (hgu : X.A.guards = some []) (hg : Gl X x) (hm : X.mg x = some (.ref f)) (hk : PySem.W.keepIn X.K (.ref f) = true)
    (hb : Binds X.K fd ps ds) (hd : Vals dvs ds) (hx : Passes CX X E) (ha : PA X (e :: es) t) (hdb : (x == ("__debug__" : Str)) = false := by decide)
    (he : starEach (e :: es) X.env = (false, eval e X.env) :: starEach es X.env := by rfl)
    (hpl : (backTo pos (starEach es X.env)).any (·.1) = false := by rfl) :
    PE X (.Call (.Name x p) (e :: es) [] pos) (tCall sp dvs E t) := by
  constructor
  intro pins s σ H Q I h
  refine wpAny_Call_Name_kw (ld_glob I hg hm (PySem.W.callWith_K (h₀ := X.base) I.ok.mod.kin hk ?_ he hpl) hdb)
  exact thn (ha.run pos pins s σ H _ I h) fun us s1 ⟨vs, H1, I1, r, q⟩ => ⟨I1.kIn, runG F hr hgu hb hd hx I1 r q⟩
theorem runGk {pins : List (Addr × Obj)} {σ : L2.St} {H : Hp} {s : Shared} {Q : VK} {us ws : List Value} {vs zs : List V} {g : List Value → List Value → List Value} {gV : List V → List V → List V} (F : FnG X.prog X.w X.K X.mg X.base CX k f fd ps sp) (hr : Room k X.A)
    (hgu : X.A.guards = some []) (hb : KBinds X.K fd ps ks g gV) (hx : Passes CX X E) (I : Inv X pins σ H s) (r : Vals vs us) (rz : Vals zs ws) (h : sp (gV vs zs) H Q E) :
    wpAny (model X.prog X.w) X.A (call (.ref f) us (ks.zip ws)) (EP X pins σ Q) X.xe s := by
  have r2 := hb.rel r rz
  have hl : (g us ws).length = ps.length := r2.length.symm.trans (F.len _ _ _ _ h)
  exact wpAny_call (codeAny_mono (F.run X.A X.stack s H ⟨us, ks.zip ws⟩ (g us ws) (gV vs zs) Q E hr hgu I.env0 (hb.to s us ws I.kIn hl) r2 h) (back_of (fun e s' z => hx pins σ H s e s' I z) I))
/-- f(k = v, ..), nothing by position -/
theorem pe_callKG {g : List Value → List Value → List Value} {gV : List V → List V → List V} (F : FnG X.prog X.w X.K X.mg X.base CX k f fd ps sp) (hr : Room k X.A) (hgu : X.A.guards = some []) (hg : Gl X x) (hm : X.mg x = some (.ref f))
    (hk : PySem.W.keepIn X.K (.ref f) = true) (hb : KBinds X.K fd ps ks g gV) (hx : Passes CX X E) (hkw : PK X kws tk) (hall : (backToKw pos (keywordEach kws X.env)).all (·.1.isSome) = true := by rfl)
    (hks : (backToKw pos (keywordEach kws X.env)).filterMap (·.1) = ks := by rfl) (hdb : (x == ("__debug__" : Str)) = false := by decide)
    (hpl : ((backTo pos (starEach [] X.env)).any (·.1) || (backToKw pos (keywordEach kws X.env)).any (·.1.isNone)) = false := by rfl) :
    PE X (.Call (.Name x p) [] kws pos) (tCallK sp gV E tNil tk) := by
  constructor
  intro pins s σ H Q I h
  refine wpAny_Call_Name_kw (ld_glob I hg hm (PySem.W.callWith_KW0 (h₀ := X.base) I.ok.mod.kin hk hall ?_ hpl) hdb)
  refine thn (hkw.run pos pins s σ H _ I h) ?_
  intro ws s2 ⟨zs, H2, I2, rz, q2⟩
  rw [hks]
  exact ⟨I2.kIn, runGk (us := []) (vs := []) F hr hgu hb hx I2 .nil rz q2⟩
end

end DL

/-! Data level over the hand layer: what slots hold is data; expressions and statements are read as transformers of data. -/
namespace DL
open PySem PySem.Spec PyProof.Rows L2

inductive Dt where
  | non | bl (b : Bool) | int (i : Int) | str (x : Str)
  | lst (ds : List Dt) | tup (ds : List Dt) | dct (a : Addr) (kvs : List (Key × Dt)) | ty (n : String)
  /-- an instance of the class at C, its fields by names -/
  | ins (C a : Addr) (ns : List Str) (ds : List Dt)
  /-- a class of the program's own (or any thing of which nothing but its place is told) -/
  | cls (C : Addr)
  /-- an exception of the class at C, its fields by names -/
  | exc (C a : Addr) (ns : List Str) (ds : List Dt)

/-- at a: an exception of this class, its dict -/
def exh (a : Addr) (cls : Value) (d : Option Addr) : HO := .ext fun h => ∃ (oe : Obj) (vs : Array Value), h.get? a = some oe ∧ (oe.cls = cls ∧ oe.dict = d) ∧ oe.data = .fields vs
mutual
inductive DX (K : PySem.W.Frag) (H : Hp) : V → Dt → Prop
  | non : DX K H .non .non
  | bl (b : Bool) : DX K H (.bl b) (.bl b)
  | int (i : Int) : DX K H (.int i) (.int i)
  | str (x : Str) : DX K H (.str x) (.str x)
  | ty (n : String) : DX K H (.ty n) (.ty n)
  | lst {a : Addr} {xs : List V} {ds : List Dt} : SqL K H a xs → DXs K H xs ds → DX K H (.ref a) (.lst ds)
  | tup {a : Addr} {xs : List V} {ds : List Dt} : SqT K H a xs → DXs K H xs ds → DX K H (.ref a) (.tup ds)
  | dct {a : Addr} {kvs : List (Key × V)} {ds : List (Key × Dt)} : Rd H a (.dK kvs) → DXk K H kvs ds → DX K H (.ref a) (.dct a ds)
  | ins {C a dx : Addr} {ns : List Str} {vs : List V} {ds : List Dt} : H a = some (.ins C dx (ns.zip vs)) → ns.length = vs.length → DXs K H vs ds → DX K H (.ref a) (.ins C a ns ds)
  | cls (C : Addr) : DX K H (.ref C) (.cls C)
  | exc {C a dd : Addr} {ns : List Str} {vs : List V} {ds : List Dt} : H a = some (exh a (.ref C) (some dd)) → H dd = some (.xd (ns.zip vs)) → ns.length = vs.length → DXs K H vs ds → DX K H (.ref a) (.exc C a ns ds)
  | exc0 {C a : Addr} : H a = some (exh a (.ref C) none) → DX K H (.ref a) (.exc C a [] [])
inductive DXs (K : PySem.W.Frag) (H : Hp) : List V → List Dt → Prop
  | nil : DXs K H [] []
  | cons {v : V} {vs : List V} {d : Dt} {ds : List Dt} : DX K H v d → DXs K H vs ds → DXs K H (v :: vs) (d :: ds)
inductive DXk (K : PySem.W.Frag) (H : Hp) : List (Key × V) → List (Key × Dt) → Prop
  | nil : DXk K H [] []
  | cons {k : Key} {v : V} {vs : List (Key × V)} {d : Dt} {ds : List (Key × Dt)} : DX K H v d → DXk K H vs ds → DXk K H ((k, v) :: vs) ((k, d) :: ds)
end

section
variable {K : PySem.W.Frag} {H H' : Hp}
theorem same_T {a : Addr} {xs : List V} (e : Same H H') (h : SqT K H a xs) : SqT K H' a xs := by
  rcases h with (h | ⟨o, h⟩) | h
  · exact .inl (.inl (e _ _ h))
  · exact .inl (.inr ⟨o, e _ _ h⟩)
  · exact .inr h
theorem same_Rd {a : Addr} {u : HO} (e : Same H H') (h : Rd H a u) : Rd H' a u := h.elim (fun z => .inl (e _ _ z)) fun ⟨o, z⟩ => .inr ⟨o, e _ _ z⟩
mutual
theorem DX.mono (e : Same H H') : ∀ {d : Dt} {v : V}, DX K H v d → DX K H' v d
  | .non, _, h => by cases h; exact .non
  | .bl _, _, h => by cases h; exact .bl _
  | .int _, _, h => by cases h; exact .int _
  | .str _, _, h => by cases h; exact .str _
  | .ty _, _, h => by cases h; exact .ty _
  | .lst ds, _, h => by
    cases h with
    | lst hs ha => exact .lst (e.seq hs) (DXs.mono e (ds := ds) ha)
  | .tup ds, _, h => by
    cases h with
    | tup hs ha => exact .tup (same_T e hs) (DXs.mono e (ds := ds) ha)
  | .dct _ ds, _, h => by
    cases h with
    | dct hs ha => exact .dct (same_Rd e hs) (DXk.mono e (ds := ds) ha)
  | .ins _ _ _ ds, _, h => by
    cases h with
    | ins hs hl ha => exact .ins (e _ _ hs) hl (DXs.mono e (ds := ds) ha)
  | .cls _, _, h => by cases h; exact .cls _
  | .exc _ _ _ ds, _, h => by
    cases h with
    | exc hs hd hl ha => exact .exc (e _ _ hs) (e _ _ hd) hl (DXs.mono e (ds := ds) ha)
    | exc0 hs => exact .exc0 (e _ _ hs)
theorem DXs.mono (e : Same H H') : ∀ {ds : List Dt} {vs : List V}, DXs K H vs ds → DXs K H' vs ds
  | [], _, h => by cases h; exact .nil
  | d :: ds, _, h => by
    cases h with
    | cons h1 h2 => exact .cons (DX.mono e (d := d) h1) (DXs.mono e (ds := ds) h2)
theorem DXk.mono (e : Same H H') : ∀ {ds : List (Key × Dt)} {vs : List (Key × V)}, DXk K H vs ds → DXk K H' vs ds
  | [], _, h => by cases h; exact .nil
  | (k, d) :: ds, _, h => by
    cases h with
    | cons h1 h2 => exact .cons (DX.mono e (d := d) h1) (DXk.mono e (ds := ds) h2)
end
theorem DXs.len : ∀ {ds : List Dt} {vs : List V}, DXs K H vs ds → vs.length = ds.length
  | [], _, h => by cases h; rfl
  | d :: ds, _, h => by
    cases h with
    | cons h1 h2 => show _ + 1 = _ + 1; rw [DXs.len h2]
theorem DXs.get : ∀ {ds : List Dt} {vs : List V} {i : Nat} {v : V}, DXs K H vs ds → vs[i]? = some v → ∃ d, ds[i]? = some d ∧ DX K H v d
  | [], _, i, v, h, e => by cases h; simp at e
  | d :: ds, _, 0, v, h, e => by
    cases h with
    | cons h1 h2 => simp at e; subst e; exact ⟨d, rfl, h1⟩
  | d :: ds, _, i + 1, v, h, e => by
    cases h with
    | cons h1 h2 =>
      obtain ⟨d', e', k⟩ := DXs.get (i := i) h2 (by simpa using e)
      exact ⟨d', by simpa using e', k⟩
theorem DXs.getd : ∀ {ds : List Dt} {vs : List V} {i : Nat} {d : Dt}, DXs K H vs ds → ds[i]? = some d → ∃ v, vs[i]? = some v ∧ DX K H v d
  | [], _, i, v, h, e => by simp at e
  | d :: ds, _, 0, v, h, e => by
    cases h with
    | cons h1 h2 => simp at e; subst e; exact ⟨_, rfl, h1⟩
  | d :: ds, _, i + 1, v, h, e => by
    cases h with
    | cons h1 h2 =>
      obtain ⟨d', e', k⟩ := DXs.getd (i := i) h2 (by simpa using e)
      exact ⟨d', by simpa using e', k⟩
theorem DXs.append : ∀ {ds es : List Dt} {vs ws : List V}, DXs K H vs ds → DXs K H ws es → DXs K H (vs ++ ws) (ds ++ es)
  | [], _, _, _, h, k => by cases h; exact k
  | d :: ds, es, _, _, h, k => by
    cases h with
    | cons h1 h2 => exact .cons h1 (DXs.append h2 k)
theorem DXs.one {v : V} {d : Dt} (h : DX K H v d) : DXs K H [v] [d] := .cons h .nil
theorem DXs.take : ∀ {ds : List Dt} {vs : List V} (n : Nat), DXs K H vs ds → DXs K H (vs.take n) (ds.take n)
  | _, _, 0, _ => .nil
  | [], _, n + 1, h => by cases h; exact .nil
  | d :: ds, _, n + 1, h => by
    cases h with
    | cons h1 h2 => exact .cons h1 (DXs.take n h2)
theorem DXs.drop : ∀ {ds : List Dt} {vs : List V} (n : Nat), DXs K H vs ds → DXs K H (vs.drop n) (ds.drop n)
  | _, _, 0, h => h
  | [], _, n + 1, h => by cases h; exact .nil
  | d :: ds, _, n + 1, h => by
    cases h with
    | cons h1 h2 => exact DXs.drop n h2
theorem DXs.set {v : V} {d : Dt} (k : DX K H v d) : ∀ {ds : List Dt} {vs : List V} (i : Nat), DXs K H vs ds → DXs K H (vs.set i v) (ds.set i d)
  | [], _, i, h => by cases h; exact .nil
  | d :: ds, _, 0, h => by
    cases h with
    | cons h1 h2 => exact .cons k h2
  | d :: ds, _, i + 1, h => by
    cases h with
    | cons h1 h2 => exact .cons h1 (DXs.set k i h2)
/-- scalars: their value is told by the datum -/
theorem DX.int_eq {v : V} {i : Int} (h : DX K H v (.int i)) : v = .int i := by cases h; rfl
theorem DX.bl_eq {v : V} {b : Bool} (h : DX K H v (.bl b)) : v = .bl b := by cases h; rfl
theorem DX.str_eq {v : V} {x : Str} (h : DX K H v (.str x)) : v = .str x := by cases h; rfl
theorem DX.non_eq {v : V} (h : DX K H v .non) : v = .non := by cases h; rfl
theorem DXs.ints : ∀ {ns : List Int} {vs : List V}, DXs K H vs (ns.map Dt.int) → vs = ns.map V.int
  | [], _, h => by cases h; rfl
  | n :: ns, _, h => by
    cases h with
    | cons h1 h2 => rw [h1.int_eq, DXs.ints h2]; rfl
theorem DXs.bls : ∀ {ns : List Bool} {vs : List V}, DXs K H vs (ns.map Dt.bl) → vs = ns.map V.bl
  | [], _, h => by cases h; rfl
  | n :: ns, _, h => by
    cases h with
    | cons h1 h2 => rw [h1.bl_eq, DXs.bls h2]; rfl
theorem DXs.strs : ∀ {ns : List Str} {vs : List V}, DXs K H vs (ns.map Dt.str) → vs = ns.map V.str
  | [], _, h => by cases h; rfl
  | n :: ns, _, h => by
    cases h with
    | cons h1 h2 => rw [h1.str_eq, DXs.strs h2]; rfl
end

/-! ### what is mutable: the pen, lists of the callers', lists of one's own by slot -/
structure Md where
  p : Option Addr
  F : List Addr
  O : List (Option Addr)
/-- tables of code objects, with the name that all in them bear: they change with the pen alone -/
class Tb where
  T : List (Addr × Str)
variable [Tb]
def Md.ts (M : Md) : List (Addr × Str) := match M.p with
  | none => []
  | some _ => Tb.T
def Md.inP (M : Md) (a : Addr) : Prop := M.p = some a ∨ ∃ t ∈ M.ts, t.1 = a
instance (M : Md) (a : Addr) : Decidable (M.inP a) := by unfold Md.inP; infer_instance
def Md.has (M : Md) (a : Addr) : Prop := M.inP a ∨ a ∈ M.F ∨ some a ∈ M.O
instance (M : Md) (a : Addr) : Decidable (M.has a) := by unfold Md.has; infer_instance
theorem Md.ts0 {M : Md} (h : M.p = none) : M.ts = [] := by unfold Md.ts; rw [h]
theorem Md.ts_some {M : Md} {p : Addr} (h : M.p = some p) : M.ts = Tb.T := by unfold Md.ts; rw [h]
theorem Md.inP0 {M : Md} (h : M.p = none) (a : Addr) : ¬ M.inP a := fun z => by
  rcases z with z | ⟨t, ht, _⟩
  · rw [h] at z; cases z
  · rw [Md.ts0 h] at ht; cases ht
theorem Md.inP_p {M : Md} {a : Addr} (h : M.p = some a) : M.inP a := .inl h
theorem Md.inP_congr {M M' : Md} (hp : M'.p = M.p) (a : Addr) : M'.inP a ↔ M.inP a := by
  unfold Md.inP Md.ts; rw [hp]
/-- the heap without what is mutable -/
def cut (M : Md) (H : Hp) : Hp := fun a => if M.has a then none else H a
theorem cut_of {M : Md} {H : Hp} {a : Addr} {o : HO} (h : cut M H a = some o) : ¬ M.has a ∧ H a = some o := by
  unfold cut at h
  by_cases c : M.has a
  · rw [if_pos c] at h; cases h
  · rw [if_neg c] at h; exact ⟨c, h⟩
theorem cut_at {M : Md} {H : Hp} {a : Addr} {o : HO} (c : ¬ M.has a) (h : H a = some o) : cut M H a = some o := by
  unfold cut; rw [if_neg c]; exact h
theorem cut_Rd {M : Md} {H : Hp} {a : Addr} {u : HO} (h : Rd (cut M H) a u) : ¬ M.has a ∧ Rd H a u := h.elim (fun z => ⟨(cut_of z).1, .inl (cut_of z).2⟩) fun ⟨o, z⟩ => ⟨(cut_of z).1, .inr ⟨o, (cut_of z).2⟩⟩
theorem cut_same (M : Md) {H H' : Hp} (e : Same H H') : Same (cut M H) (cut M H') := fun a o h =>
  let ⟨c, q⟩ := cut_of h
  cut_at c (e a o q)
theorem cut_sub (M : Md) (H : Hp) : Same (cut M H) H := fun a o h => (cut_of h).2
theorem cut_le {M M' : Md} {H : Hp} (h : ∀ a, M'.has a → M.has a) : Same (cut M H) (cut M' H) := fun a o q =>
  let ⟨c, z⟩ := cut_of q
  cut_at (fun y => c (h a y)) z

/-- the table at P: each code object that it tells bears the name q -/
def TabM (M : Md) (H : Hp) (P : Addr) (q : Str) : Prop := ∃ ps : Array Value, H P = some (.tbl ps) ∧ PySem.TriplesOk ps.toList ∧ ∀ (pos : Pos) (cv : Value), codeAmong pos ps.toList = some cv → ∃ c, cv = .ref c ∧ cut M H c = some (LamX.CodeO c q)
def TabsM (M : Md) (H : Hp) : Prop := ∀ t ∈ M.ts, TabM M H t.1 t.2
theorem TabM.step {M M' : Md} {H H' : Hp} {P : Addr} {q : Str} (t : TabM M H P q) (e : ∀ ps, H P = some (.tbl ps) → H' P = some (.tbl ps)) (sc : Same (cut M H) (cut M' H')) : TabM M' H' P q := by
  obtain ⟨ps, h1, h2, h3⟩ := t
  refine ⟨ps, e _ h1, h2, fun pos cv hc => ?_⟩
  obtain ⟨c, e1, e2⟩ := h3 pos cv hc
  exact ⟨c, e1, sc _ _ e2⟩
structure MOk (M : Md) (H : Hp) : Prop where
  live : ∀ a, M.has a → ∃ o, H a = some o
  pF : ∀ a, M.inP a → a ∉ M.F ∧ some a ∉ M.O
  FO : ∀ a, a ∈ M.F → some a ∉ M.O
  nd : ∀ (i j : Nat) (a : Addr), M.O[i]? = some (some a) → M.O[j]? = some (some a) → i = j
  tb : TabsM M H
theorem MOk.same {M : Md} {H H' : Hp} (m : MOk M H) (e : Same H H') : MOk M H' :=
  ⟨fun a h => let ⟨o, q⟩ := m.live a h; ⟨o, e a o q⟩, m.pF, m.FO, m.nd, fun t ht => (m.tb t ht).step (fun _ => e _ _) (cut_same M e)⟩
theorem MOk.pp {M : Md} {H : Hp} (m : MOk M H) {a : Addr} (h : M.p = some a) : a ∉ M.F ∧ some a ∉ M.O := m.pF a (.inl h)
/-- the tables where one thing that is no table is written, and what is mutable is told otherwise -/
theorem MOk.tbU {M M' : Md} {H H' : Hp} (m : MOk M H) (hts : M'.ts = M.ts) (e : ∀ a, M.inP a → ∀ ps, H a = some (.tbl ps) → H' a = some (.tbl ps)) (sc : Same (cut M H) (cut M' H')) : TabsM M' H' := fun t ht => by
  rw [hts] at ht
  exact (m.tb t ht).step (e _ (.inr ⟨t, ht, rfl⟩)) sc
theorem MOk.new {M : Md} {H : Hp} (m : MOk M H) {q : Addr} (h : H q = none) : ¬ M.has q := fun y => by
  obtain ⟨o, z⟩ := m.live q y
  rw [h] at z; cases z

/-- one step: all but the pen and one's own lists stands -/
structure Stp (M : Md) (H : Hp) (M' : Md) (H' : Hp) : Prop where
  p : M'.p = M.p
  F : M'.F = M.F
  keep : ∀ a o, H a = some o → ¬ M.inP a → some a ∉ M.O → H' a = some o ∧ some a ∉ M'.O
theorem Stp.refl (M : Md) (H : Hp) : Stp M H M H := ⟨rfl, rfl, fun _ _ h _ q => ⟨h, q⟩⟩
theorem Stp.same (M : Md) {H H' : Hp} (e : Same H H') : Stp M H M H' := ⟨rfl, rfl, fun _ _ h _ q => ⟨e _ _ h, q⟩⟩
theorem Stp.inP {M M' : Md} {H H' : Hp} (s : Stp M H M' H') (a : Addr) : M'.inP a ↔ M.inP a := Md.inP_congr s.p a
theorem Stp.ts {M M' : Md} {H H' : Hp} (s : Stp M H M' H') : M'.ts = M.ts := by unfold Md.ts; rw [s.p]
theorem Stp.trans {M M1 M2 : Md} {H H1 H2 : Hp} (a : Stp M H M1 H1) (b : Stp M1 H1 M2 H2) : Stp M H M2 H2 :=
  ⟨b.p.trans a.p, b.F.trans a.F, fun x o h c d =>
    let ⟨h1, c1⟩ := a.keep x o h c d
    b.keep x o h1 (fun z => c ((a.inP x).mp z)) c1⟩
theorem Stp.dx {M M' : Md} {H H' : Hp} (s : Stp M H M' H') : Same (cut M H) (cut M' H') := fun a o h => by
  obtain ⟨c, q⟩ := cut_of h
  obtain ⟨h1, c1⟩ := s.keep a o q (fun e => c (.inl e)) (fun e => c (.inr (.inr e)))
  refine cut_at (fun z => ?_) h1
  rcases z with z | z | z
  · exact c (.inl ((s.inP a).mp z))
  · exact c (.inr (.inl (by rw [← s.F]; exact z)))
  · exact c1 z

/-! ### the slots -/
inductive Sl where
  | any
  | dat (d : Dt)
  /-- a datum whose value is kept in mind -/
  | val (v : V) (d : Dt)
  | own (ds : List Dt)
  | ownd (kvs : List (Key × Dt))
  /-- an own instance, its fields by names -/
  | obj (C a : Addr) (ns : List Str) (ds : List Dt)
  | pen (n : Nat)
  | pown (ds : List Dt)

/-- the pen: what is drawn from, how many were drawn (at most n), what is left of a great one -/
def Pen (K : PySem.W.Frag) (M : Md) (H : Hp) (p : Addr) (n : Nat) : Prop :=
  ∃ (l : Addr) (ns : List Int) (c : Nat) (g : Int), H p = some (.lst [.ref l, .int c, .int g]) ∧ SqL K (cut M H) l (ns.map V.int) ∧ c ≤ n ∧ 0 ≤ g ∧ ns.length ≤ 63

def SlOk (K : PySem.W.Frag) (M : Md) (H : Hp) (i : Nat) (o : Option V) : Sl → Prop
  | .any => True
  | .dat d => ∃ v, o = some v ∧ DX K (cut M H) v d
  | .val v d => o = some v ∧ DX K (cut M H) v d
  | .own ds => ∃ l vs, o = some (.ref l) ∧ M.O[i]? = some (some l) ∧ H l = some (.lst vs) ∧ DXs K (cut M H) vs ds
  | .obj C a ns ds => ∃ l dx vs, o = some (.ref l) ∧ M.O[i]? = some (some l) ∧ H l = some (.ins C dx (ns.zip vs)) ∧ (ns.length = vs.length ∧ l = a) ∧ DXs K (cut M H) vs ds
  | .ownd ds => ∃ l vs, o = some (.ref l) ∧ M.O[i]? = some (some l) ∧ H l = some (.dK vs) ∧ DXk K (cut M H) vs ds
  | .pen n => ∃ p, o = some (.ref p) ∧ M.p = some p ∧ Pen K M H p n
  | .pown ds => ∃ p vs, o = some (.ref p) ∧ M.p = some p ∧ H p = some (.lst vs) ∧ DXs K (cut M H) vs ds

structure Sd (K : PySem.W.Frag) (M : Md) (H : Hp) (σ : L2.St) (ρ : List Sl) : Prop where
  len : σ.length = ρ.length
  olen : M.O.length = ρ.length
  mok : MOk M H
  ok : ∀ (i : Nat) (s : Sl), ρ[i]? = some s → ∃ o, σ[i]? = some o ∧ SlOk K M H i o s

section
variable {K : PySem.W.Frag} {M : Md} {H H' : Hp} {σ : L2.St} {ρ : List Sl}
theorem Pen.same {p : Addr} {n : Nat} (h : Pen K M H p n) (e : Same H H') : Pen K M H' p n := by
  obtain ⟨l, ns, c, g, h1, h2, h3, h4⟩ := h
  exact ⟨l, ns, c, g, e _ _ h1, (cut_same M e).seq h2, h3, h4⟩
theorem SlOk.same {i : Nat} {o : Option V} {s : Sl} (h : SlOk K M H i o s) (e : Same H H') : SlOk K M H' i o s := by
  cases s with
  | any => trivial
  | dat d => obtain ⟨v, h1, h2⟩ := h; exact ⟨v, h1, h2.mono (cut_same M e)⟩
  | val u d => obtain ⟨h1, h2⟩ := h; exact ⟨h1, h2.mono (cut_same M e)⟩
  | own ds => obtain ⟨l, vs, h1, h2, h3, h4⟩ := h; exact ⟨l, vs, h1, h2, e _ _ h3, h4.mono (cut_same M e)⟩
  | obj C0 b0 ns0 ds => obtain ⟨l, dx0, vs, h1, h2, h3, a5, h4⟩ := h; exact ⟨l, dx0, vs, h1, h2, e _ _ h3, a5, h4.mono (cut_same M e)⟩
  | ownd ds => obtain ⟨l, vs, h1, h2, h3, h4⟩ := h; exact ⟨l, vs, h1, h2, e _ _ h3, h4.mono (cut_same M e)⟩
  | pen n => obtain ⟨p, h1, h2, h3⟩ := h; exact ⟨p, h1, h2, h3.same e⟩
  | pown ds => obtain ⟨p, vs, h1, h2, h3, h4⟩ := h; exact ⟨p, vs, h1, h2, e _ _ h3, h4.mono (cut_same M e)⟩
theorem Sd.same (S : Sd K M H σ ρ) (e : Same H H') : Sd K M H' σ ρ :=
  ⟨S.len, S.olen, S.mok.same e, fun i s h => let ⟨o, q, k⟩ := S.ok i s h; ⟨o, q, k.same e⟩⟩
theorem same_new {q : Addr} {o : HO} (h : H q = none) : Same H (upd H q o) := fun a u e => by
  rw [upd_ne (ne_of_none e h)]; exact e
end

/-! ### data-level readings (f: it draws nothing, it makes new things at most) -/
structure Tr (f : Bool) (M : Md) (H H' : Hp) : Prop where
  st : Stp M H M H'
  sm : f = true → Same H H'
theorem Tr.refl (f : Bool) (M : Md) (H : Hp) : Tr f M H H := ⟨Stp.refl M H, fun _ => Same.refl H⟩
theorem Tr.same (f : Bool) (M : Md) {H H' : Hp} (e : Same H H') : Tr f M H H' := ⟨Stp.same M e, fun _ => e⟩
theorem Tr.trans {f : Bool} {M : Md} {H H1 H2 : Hp} (a : Tr f M H H1) (b : Tr f M H1 H2) : Tr f M H H2 := ⟨a.st.trans b.st, fun h => (a.sm h).trans (b.sm h)⟩
theorem Tr.dx {f : Bool} {M : Md} {H H' : Hp} (a : Tr f M H H') : Same (cut M H) (cut M H') := a.st.dx
def Wp (K : PySem.W.Frag) (f : Bool) (te : TE) (ρ : List Sl) (Φ : Dt → List Sl → Prop) : Prop :=
  ∀ (M : Md) (σ : L2.St) (H : Hp), Sd K M H σ ρ → ∀ Q : VK, (∀ v H2 d ρ', Tr f M H H2 → Sd K M H2 σ ρ' → DX K (cut M H2) v d → Φ d ρ' → Q v H2) → te σ H Q
def Wt (K : PySem.W.Frag) (f : Bool) (tt : TT) (ρ : List Sl) (Φ : Bool → List Sl → Prop) : Prop :=
  ∀ (M : Md) (σ : L2.St) (H : Hp), Sd K M H σ ρ → ∀ Q : Bool → Hp → Prop, (∀ b H2 ρ', Tr f M H H2 → Sd K M H2 σ ρ' → Φ b ρ' → Q b H2) → tt σ H Q
def Wa (K : PySem.W.Frag) (f : Bool) (ta : TA) (ρ : List Sl) (Φ : List Dt → List Sl → Prop) : Prop :=
  ∀ (M : Md) (σ : L2.St) (H : Hp), Sd K M H σ ρ → ∀ Q : List V → Hp → Prop, (∀ vs H2 ds ρ', Tr f M H H2 → Sd K M H2 σ ρ' → DXs K (cut M H2) vs ds → Φ ds ρ' → Q vs H2) → ta σ H Q
/-- an operation on two values, a call on values: it makes new things at most -/
def OD (K : PySem.W.Frag) (r : R2) (d1 d2 : Dt) (Ψ : Dt → Prop) : Prop :=
  ∀ (M : Md) (H : Hp) (x y : V), MOk M H → DX K (cut M H) x d1 → DX K (cut M H) y d2 → ∀ Q : VK, (∀ v H2 d, Same H H2 → DX K (cut M H2) v d → Ψ d → Q v H2) → r x y H Q
def RD (K : PySem.W.Frag) (r : List V → Hp → VK → Prop) (ds : List Dt) (Ψ : Dt → Prop) : Prop :=
  ∀ (M : Md) (H : Hp) (vs : List V), MOk M H → DXs K (cut M H) vs ds → ∀ Q : VK, (∀ v H2 d, Same H H2 → DX K (cut M H2) v d → Ψ d → Q v H2) → r vs H Q
def UD (K : PySem.W.Frag) (r : V → Hp → VK → Prop) (d1 : Dt) (Ψ : Dt → Prop) : Prop :=
  ∀ (M : Md) (H : Hp) (x : V), MOk M H → DX K (cut M H) x d1 → ∀ Q : VK, (∀ v H2 d, Same H H2 → DX K (cut M H2) v d → Ψ d → Q v H2) → r x H Q

section
variable {K : PySem.W.Frag} {pf : Bool} {ρ : List Sl} {ta tb tc te : TE} {tt tu : TT} {tr : TA} {r r' : R2} {Φ Φ' : Dt → List Sl → Prop} {Θ : Bool → List Sl → Prop} {Ξ : List Dt → List Sl → Prop}
theorem Wp.imp (h : Wp K pf te ρ Φ) (k : ∀ d ρ', Φ d ρ' → Φ' d ρ') : Wp K pf te ρ Φ' := fun M σ H S Q q => h M σ H S Q fun v H2 d ρ' s S2 x f => q v H2 d ρ' s S2 x (k d ρ' f)
theorem Wt.imp {Θ' : Bool → List Sl → Prop} (h : Wt K pf tt ρ Θ) (k : ∀ b ρ', Θ b ρ' → Θ' b ρ') : Wt K pf tt ρ Θ' := fun M σ H S Q q => h M σ H S Q fun b H2 ρ' s S2 f => q b H2 ρ' s S2 (k b ρ' f)
theorem w_var {i : Nat} {d : Dt} (e : ρ[i]? = some (.dat d)) (f : Φ d ρ) : Wp K pf (tVar i) ρ Φ := fun M σ H S Q q => by
  obtain ⟨o, h1, v, h2, h3⟩ := S.ok i _ e
  subst h2
  exact ⟨v, h1, q v H d ρ (Tr.refl pf M H) S h3 f⟩
theorem w_c {v : V} {d : Dt} (k : ∀ H, DX K H v d) (f : Φ d ρ) : Wp K pf (tC v) ρ Φ := fun M σ H S Q q => q v H d ρ (Tr.refl pf M H) S (k _) f
theorem w_op (h : Wp K pf ta ρ fun d1 ρ1 => Wp K pf tb ρ1 fun d2 ρ2 => OD K r d1 d2 fun d => Φ d ρ2) : Wp K pf (tOp r ta tb) ρ Φ := fun M σ H S Q q =>
  h M σ H S _ fun v1 H1 d1 ρ1 s1 S1 x1 k1 => k1 M σ H1 S1 _ fun v2 H2 d2 ρ2 s2 S2 x2 k2 =>
    k2 M H2 v1 v2 S2.mok (x1.mono s2.dx) x2 _ fun v H3 d e x f => q v H3 d ρ2 ((s1.trans s2).trans (Tr.same pf M e)) (S2.same e) x f
theorem w_un {r : V → Hp → VK → Prop} (h : Wp K pf ta ρ fun d1 ρ1 => UD K r d1 fun d => Φ d ρ1) : Wp K pf (tUn r ta) ρ Φ := fun M σ H S Q q =>
  h M σ H S _ fun v1 H1 d1 ρ1 s1 S1 x1 k1 => k1 M H1 v1 S1.mok x1 _ fun v H3 d e x f => q v H3 d ρ1 (s1.trans (Tr.same pf M e)) (S1.same e) x f
theorem w_chain (h : Wp K pf ta ρ fun d1 ρ1 => Wp K pf tb ρ1 fun d2 ρ2 => OD K r d1 d2 fun z => ∃ b, z = .bl b ∧ if b = true then Wp K pf tc ρ2 (fun d3 ρ3 => OD K r' d2 d3 fun d => Φ d ρ3) else Φ (.bl false) ρ2) :
    Wp K pf (tChain r r' ta tb tc) ρ Φ := fun M σ H S Q q =>
  h M σ H S _ fun v1 H1 d1 ρ1 s1 S1 x1 k1 => k1 M σ H1 S1 _ fun v2 H2 d2 ρ2 s2 S2 x2 k2 =>
    k2 M H2 v1 v2 S2.mok (x1.mono s2.dx) x2 _ fun z H3 d e x f => by
      obtain ⟨b, rfl, f⟩ := f
      have x2' := x2.mono (cut_same M e)
      refine ⟨b, x.bl_eq, ?_⟩
      cases b with
      | true =>
        rw [if_pos rfl] at f ⊢
        exact f M σ H3 (S2.same e) _ fun v3 H4 d3 ρ3 s3 S3 x3 k3 => k3 M H4 v2 v3 S3.mok (x2'.mono s3.dx) x3 _ fun v H5 d e5 x5 f5 =>
          q v H5 d ρ3 ((((s1.trans s2).trans (Tr.same pf M e)).trans s3).trans (Tr.same pf M e5)) (S3.same e5) x5 f5
      | false =>
        rw [if_neg Bool.false_ne_true] at f ⊢
        exact q _ H3 (.bl false) ρ2 ((s1.trans s2).trans (Tr.same pf M e)) (S2.same e) (.bl _) f
theorem w_andV (h : Wp K pf ta ρ fun d1 ρ1 => ∃ b, d1 = .bl b ∧ if b = true then Wp K pf tb ρ1 Φ else Φ (.bl false) ρ1) : Wp K pf (tAndV ta tb) ρ Φ := fun M σ H S Q q =>
  h M σ H S _ fun v1 H1 d1 ρ1 s1 S1 x1 ⟨b, e, f⟩ => by
    subst e
    refine ⟨b, x1.bl_eq, ?_⟩
    cases b with
    | true =>
      rw [if_pos rfl] at f ⊢
      exact f M σ H1 S1 _ fun v H2 d ρ2 s2 S2 x f2 => q v H2 d ρ2 (s1.trans s2) S2 x f2
    | false =>
      rw [if_neg Bool.false_ne_true] at f ⊢
      exact q _ H1 _ ρ1 s1 S1 (.bl _) f
theorem w_orV (h : Wp K pf ta ρ fun d1 ρ1 => ∃ b, d1 = .bl b ∧ if b = true then Φ (.bl true) ρ1 else Wp K pf tb ρ1 Φ) : Wp K pf (tOrV ta tb) ρ Φ := fun M σ H S Q q =>
  h M σ H S _ fun v1 H1 d1 ρ1 s1 S1 x1 ⟨b, e, f⟩ => by
    subst e
    refine ⟨b, x1.bl_eq, ?_⟩
    cases b with
    | false =>
      rw [if_neg Bool.false_ne_true] at f ⊢
      exact f M σ H1 S1 _ fun v H2 d ρ2 s2 S2 x f2 => q v H2 d ρ2 (s1.trans s2) S2 x f2
    | true =>
      rw [if_pos rfl] at f ⊢
      exact q _ H1 _ ρ1 s1 S1 (.bl _) f
theorem w_notV (h : Wp K pf ta ρ fun d1 ρ1 => ∃ b, d1 = .bl b ∧ Φ (.bl (!b)) ρ1) : Wp K pf (tNotV ta) ρ Φ := fun M σ H S Q q =>
  h M σ H S _ fun v1 H1 d1 ρ1 s1 S1 x1 ⟨b, e, f⟩ => by
    subst e
    exact ⟨b, x1.bl_eq, q _ H1 _ ρ1 s1 S1 (.bl _) f⟩
theorem w_if (h : Wt K pf tt ρ fun b ρ1 => if b = true then Wp K pf ta ρ1 Φ else Wp K pf tb ρ1 Φ) : Wp K pf (tIf tt ta tb) ρ Φ := fun M σ H S Q q =>
  h M σ H S _ fun b H1 ρ1 s1 S1 f => by
    cases b with
    | true =>
      rw [if_pos rfl] at f
      show ta σ H1 Q
      exact f M σ H1 S1 _ fun v H2 d ρ2 s2 S2 x f2 => q v H2 d ρ2 (s1.trans s2) S2 x f2
    | false =>
      rw [if_neg Bool.false_ne_true] at f
      show tb σ H1 Q
      exact f M σ H1 S1 _ fun v H2 d ρ2 s2 S2 x f2 => q v H2 d ρ2 (s1.trans s2) S2 x f2
/-! tests -/
theorem wt_test (h : Wp K pf te ρ fun d ρ1 => ∃ b, d = .bl b ∧ Θ b ρ1) : Wt K pf (tTest te) ρ Θ := fun M σ H S Q q =>
  h M σ H S _ fun v1 H1 d1 ρ1 s1 S1 x1 ⟨b, e, f⟩ => by
    subst e
    exact ⟨b, x1.bl_eq, q b H1 ρ1 s1 S1 f⟩
theorem wt_B (h : Wp K pf te ρ fun d ρ1 => ∃ b, d = .bl b ∧ Θ b ρ1) : Wt K pf (tB te) ρ Θ := fun M σ H S Q q =>
  h M σ H S _ fun v1 H1 d1 ρ1 s1 S1 x1 ⟨b, e, f⟩ => by
    subst e
    exact ⟨b, x1.bl_eq, q b H1 ρ1 s1 S1 f⟩
theorem wt_and (h : Wt K pf tt ρ fun b ρ1 => if b = true then Wt K pf tu ρ1 Θ else Θ false ρ1) : Wt K pf (tAnd tt tu) ρ Θ := fun M σ H S Q q =>
  h M σ H S _ fun b H1 ρ1 s1 S1 f => by
    cases b with
    | true =>
      rw [if_pos rfl] at f
      show tu σ H1 Q
      exact f M σ H1 S1 _ fun b H2 ρ2 s2 S2 f2 => q b H2 ρ2 (s1.trans s2) S2 f2
    | false =>
      rw [if_neg Bool.false_ne_true] at f
      show Q false H1
      exact q _ H1 ρ1 s1 S1 f
theorem wt_or (h : Wt K pf tt ρ fun b ρ1 => if b = true then Θ true ρ1 else Wt K pf tu ρ1 Θ) : Wt K pf (tOr tt tu) ρ Θ := fun M σ H S Q q =>
  h M σ H S _ fun b H1 ρ1 s1 S1 f => by
    cases b with
    | false =>
      rw [if_neg Bool.false_ne_true] at f
      show tu σ H1 Q
      exact f M σ H1 S1 _ fun b H2 ρ2 s2 S2 f2 => q b H2 ρ2 (s1.trans s2) S2 f2
    | true =>
      rw [if_pos rfl] at f
      show Q true H1
      exact q _ H1 ρ1 s1 S1 f
theorem wt_not (h : Wt K pf tt ρ fun b ρ1 => Θ (!b) ρ1) : Wt K pf (tNot tt) ρ Θ := fun M σ H S Q q =>
  h M σ H S _ fun b H1 ρ1 s1 S1 f => q (!b) H1 ρ1 s1 S1 f
theorem wt_yes (h : Θ true ρ) : Wt K pf tYes ρ Θ := fun M σ H S Q q => q true H ρ (Tr.refl pf M H) S h
/-! arguments, displays, calls -/
theorem wa_nil (h : Ξ [] ρ) : Wa K pf tNil ρ Ξ := fun M σ H S Q q => q [] H [] ρ (Tr.refl pf M H) S .nil h
theorem wa_cons (h : Wp K pf ta ρ fun d ρ1 => Wa K pf tr ρ1 fun ds ρ2 => Ξ (d :: ds) ρ2) : Wa K pf (tCons ta tr) ρ Ξ := fun M σ H S Q q =>
  h M σ H S _ fun v1 H1 d1 ρ1 s1 S1 x1 f => f M σ H1 S1 _ fun vs H2 ds ρ2 s2 S2 x2 f2 => q (v1 :: vs) H2 (d1 :: ds) ρ2 (s1.trans s2) S2 (.cons (x1.mono s2.dx) x2) f2
theorem dx_new_t {M : Md} {H : Hp} {q : Addr} {vs : List V} {ds : List Dt} (m : MOk M H) (h : H q = none) (x : DXs K (cut M H) vs ds) : DX K (cut M (upd H q (.tup vs))) (.ref q) (.tup ds) :=
  .tup (.inl (.inl (cut_at (m.new h) upd_same))) (x.mono (cut_same M (same_new h)))
theorem dx_new_l {M : Md} {H : Hp} {q : Addr} {vs : List V} {ds : List Dt} (m : MOk M H) (h : H q = none) (x : DXs K (cut M H) vs ds) : DX K (cut M (upd H q (.lst vs))) (.ref q) (.lst ds) :=
  .lst (.inl (.inl (cut_at (m.new h) upd_same))) (x.mono (cut_same M (same_new h)))
theorem w_tup (h : Wa K pf tr ρ fun ds ρ1 => ds.length ≤ 100000 ∧ Φ (.tup ds) ρ1) : Wp K pf (tTup tr) ρ Φ := fun M σ H S Q q =>
  h M σ H S _ fun vs H1 ds ρ1 s1 S1 x1 ⟨hl, f⟩ => ⟨by rw [x1.len]; exact Nat.le_trans hl (by decide), fun p hp =>
    q _ _ (.tup ds) ρ1 (s1.trans (Tr.same pf M (same_new hp))) (S1.same (same_new hp)) (dx_new_t S1.mok hp x1) f⟩
theorem w_lst (h : Wa K pf tr ρ fun ds ρ1 => ds.length ≤ 100000 ∧ Φ (.lst ds) ρ1) : Wp K pf (tLst tr) ρ Φ := fun M σ H S Q q =>
  h M σ H S _ fun vs H1 ds ρ1 s1 S1 x1 ⟨hl, f⟩ => ⟨by rw [x1.len]; exact Nat.le_trans hl (by decide), fun p hp =>
    q _ _ (.lst ds) ρ1 (s1.trans (Tr.same pf M (same_new hp))) (S1.same (same_new hp)) (dx_new_l S1.mok hp x1) f⟩
theorem w_cb {r : List V → Hp → VK → Prop} (h : Wa K pf tr ρ fun ds ρ1 => RD K r ds fun d => Φ d ρ1) : Wp K pf (tCB r tr) ρ Φ := fun M σ H S Q q =>
  h M σ H S _ fun vs H1 ds ρ1 s1 S1 x1 k => k M H1 vs S1.mok x1 _ fun v H2 d e x f => q v H2 d ρ1 (s1.trans (Tr.same pf M e)) (S1.same e) x f
end
end DL

/-! Data level: calls by promises, statements, loops, comprehensions. -/
namespace DL
open PySem PySem.Spec PyProof.Rows L2
variable [Tb]

theorem Wp.up {K : PySem.W.Frag} {te : TE} {ρ : List Sl} {Φ : Dt → List Sl → Prop} (h : Wp K true te ρ Φ) : Wp K false te ρ Φ := fun M σ H S Q q =>
  h M σ H S Q fun v H2 d ρ' s S2 x f => q v H2 d ρ' ⟨s.st, fun z => nomatch z⟩ S2 x f
theorem Wt.up {K : PySem.W.Frag} {te : TT} {ρ : List Sl} {Φ : Bool → List Sl → Prop} (h : Wt K true te ρ Φ) : Wt K false te ρ Φ := fun M σ H S Q q =>
  h M σ H S Q fun b H2 ρ' s S2 f => q b H2 ρ' ⟨s.st, fun z => nomatch z⟩ S2 f

/-! ### promises -/
/-- what a callee is told of what is mutable: nothing of it is its own -/
def Md.call (M : Md) : Md := ⟨M.p, M.F ++ M.O.filterMap id, []⟩
def Md.callP (M : Md) : Md := ⟨none, (M.p.toList ++ M.ts.map (·.1)) ++ (M.F ++ M.O.filterMap id), []⟩
theorem Md.mem_p {M : Md} {a : Addr} : a ∈ M.p.toList ++ M.ts.map (·.1) ↔ M.inP a := by
  unfold Md.inP
  rw [List.mem_append, Option.mem_toList, List.mem_map]
theorem mem_somes {O : List (Option Addr)} {a : Addr} : a ∈ O.filterMap id ↔ some a ∈ O := by
  rw [List.mem_filterMap]
  constructor
  · rintro ⟨o, h, e⟩
    have e' : o = some a := e
    rw [← e']; exact h
  · intro h; exact ⟨some a, h, rfl⟩
theorem Md.call_has (M : Md) (a : Addr) : M.call.has a ↔ M.has a := by
  unfold Md.has Md.call
  simp only [List.mem_append, mem_somes, List.not_mem_nil, or_false]
  rfl
theorem Md.callP_has (M : Md) (a : Addr) : M.callP.has a ↔ M.has a := by
  unfold Md.has
  constructor
  · rintro (h | h | h)
    · exact (Md.inP0 rfl a h).elim
    · rcases List.mem_append.mp h with h | h
      · exact .inl (Md.mem_p.mp h)
      · rcases List.mem_append.mp h with h | h
        · exact .inr (.inl h)
        · exact .inr (.inr (mem_somes.mp h))
    · cases h
  · rintro (h | h | h)
    · exact .inr (.inl (List.mem_append_left _ (Md.mem_p.mpr h)))
    · exact .inr (.inl (List.mem_append_right _ (List.mem_append_left _ h)))
    · exact .inr (.inl (List.mem_append_right _ (List.mem_append_right _ (mem_somes.mpr h))))
theorem cut_congr {M M' : Md} (h : ∀ a, M'.has a ↔ M.has a) (H : Hp) : cut M' H = cut M H := by
  funext a
  unfold cut
  by_cases c : M.has a
  · rw [if_pos c, if_pos ((h a).mpr c)]
  · rw [if_neg c, if_neg fun z => c ((h a).mp z)]
theorem MOk.call {M : Md} {H : Hp} (m : MOk M H) : MOk M.call H := by
  refine ⟨fun a h => m.live a ((M.call_has a).mp h), fun a h => ⟨fun z => ?_, fun z => (nomatch z)⟩, fun _ _ z => (nomatch z), fun i j a h => ?_, m.tbU rfl (fun _ _ _ z => z) (by rw [cut_congr M.call_has]; exact Same.refl _)⟩
  · rcases List.mem_append.mp z with z | z
    · exact (m.pF a h).1 z
    · exact (m.pF a h).2 (mem_somes.mp z)
  · have h : ([] : List (Option Addr))[i]? = some (some a) := h
    simp at h
theorem MOk.callP {M : Md} {H : Hp} (m : MOk M H) : MOk M.callP H := by
  refine ⟨fun a h => m.live a ((M.callP_has a).mp h), fun a h => (Md.inP0 rfl a h).elim, fun _ _ z => (nomatch z), fun i j a h => ?_, fun t ht => (nomatch ht)⟩
  have h : ([] : List (Option Addr))[i]? = some (some a) := h
  simp at h
/-- .. and the callee's own: no list of its own yet, a place for each slot -/
def Md.body (M : Md) (n : Nat) : Md := ⟨M.p, M.F, List.replicate n none⟩
theorem no_rep {n : Nat} {a : Addr} : some a ∉ List.replicate n (none : Option Addr) := fun h => by
  have := List.eq_of_mem_replicate h
  cases this
theorem Md.body_has {M : Md} (h : M.O = []) (n : Nat) (a : Addr) : (M.body n).has a ↔ M.has a := by
  unfold Md.has Md.body
  rw [h]
  constructor
  · rintro (z | z | z)
    · exact .inl z
    · exact .inr (.inl z)
    · exact (no_rep z).elim
  · rintro (z | z | z)
    · exact .inl z
    · exact .inr (.inl z)
    · cases z
theorem MOk.body {M : Md} {H : Hp} (m : MOk M H) (h : M.O = []) (n : Nat) : MOk (M.body n) H := by
  refine ⟨fun a z => m.live a ((Md.body_has h n a).mp z), fun a z => ⟨(m.pF a z).1, no_rep⟩, fun _ _ => no_rep, fun i j a z => ?_, m.tbU rfl (fun _ _ _ z => z) (by rw [cut_congr (Md.body_has h n)]; exact Same.refl _)⟩
  have z : (List.replicate n (none : Option Addr))[i]? = some (some a) := z
  rw [List.getElem?_replicate] at z
  split at z <;> cases z

/-- a promise: from data to data; nothing that stands is changed -/
def spP (K : PySem.W.Frag) (W : List Dt → (Dt → Prop) → Prop) : Sp := fun vs H Q _ => ∃ (M : Md) (ds : List Dt) (Φ : Dt → Prop),
  M.p = none ∧ M.O = [] ∧ MOk M H ∧ DXs K (cut M H) vs ds ∧ W ds Φ ∧ ∀ v H2 d, Same H H2 → DX K (cut M H2) v d → Φ d → Q v H2
/-- what a def that draws leaves: all but the pen and the tables, and these as they are meant -/
structure FrmP (M : Md) (H H2 : Hp) : Prop where
  k : ∀ a o, H a = some o → ¬ M.inP a → H2 a = some o
  t : TabsM M H2
/-- a promise of a def that draws: its first argument is the pen -/
def spN (K : PySem.W.Frag) (W : Nat → List Dt → (Dt → Nat → Prop) → Prop) : Sp := fun vs H Q _ => ∃ (M : Md) (p : Addr) (n : Nat) (ws : List V) (ds : List Dt) (Φ : Dt → Nat → Prop),
  vs = .ref p :: ws ∧ M.p = some p ∧ M.O = [] ∧ MOk M H ∧ Pen K M H p n ∧ DXs K (cut M H) ws ds ∧ W n ds Φ ∧
    ∀ v H2 d n', FrmP M H H2 → Pen K M H2 p n' → DX K (cut M H2) v d → Φ d n' → Q v H2
def pens (n : Nat) (ρ : List Sl) : List Sl := ρ.map fun s => match s with
  | .pen _ => .pen n
  | .pown _ => .pen n
  | s => s

section
variable {K : PySem.W.Frag} {pf : Bool} {ρ : List Sl} {te : TE} {tr : TA} {Φ : Dt → List Sl → Prop}
theorem w_call {W : List Dt → (Dt → Prop) → Prop} {dvs : List V} {des : List Dt} {E : XK} (hd : ∀ H, DXs K H dvs des) (h : Wa K pf tr ρ fun ds ρ1 => W (ds ++ des) fun d => Φ d ρ1) : Wp K pf (tCall (spP K W) dvs E tr) ρ Φ := fun M σ H S Q q =>
  h M σ H S _ fun vs H1 ds ρ1 s1 S1 x1 k => by
    have ec : ∀ H', cut M.callP H' = cut M H' := cut_congr M.callP_has
    refine ⟨M.callP, ds ++ des, _, rfl, rfl, S1.mok.callP, ?_, k, fun v H2 d e x f => q v H2 d ρ1 (s1.trans (Tr.same pf M e)) (S1.same e) ?_ f⟩
    · rw [ec]; exact x1.append (hd _)
    · rw [ec] at x; exact x
theorem w_call0 {W : List Dt → (Dt → Prop) → Prop} {E : XK} (h : Wa K pf tr ρ fun ds ρ1 => W ds fun d => Φ d ρ1) : Wp K pf (tCall (spP K W) [] E tr) ρ Φ :=
  w_call (des := []) (fun _ => .nil) fun M σ H S Q q => h M σ H S Q fun vs H2 ds ρ' s S2 x f => q vs H2 ds ρ' s S2 x (by show W (ds ++ []) _; rw [List.append_nil]; exact f)
theorem Sd.pens {M : Md} {H H2 : Hp} {σ : L2.St} {p : Addr} {n' : Nat} (S : Sd K M H σ ρ) (hp : M.p = some p) (fr : FrmP M H H2) (P : Pen K M H2 p n') : Sd K M H2 σ (pens n' ρ) := by
  have k := fr.k
  have sc : Same (cut M H) (cut M H2) := fun a o e => by
    obtain ⟨c, z⟩ := cut_of e
    exact cut_at c (k a o z fun y => c (.inl y))
  refine ⟨by unfold DL.pens; rw [List.length_map]; exact S.len, by unfold DL.pens; rw [List.length_map]; exact S.olen, ⟨fun a h => ?_, S.mok.pF, S.mok.FO, S.mok.nd, fr.t⟩, fun i s h => ?_⟩
  · obtain ⟨o, z⟩ := S.mok.live a h
    by_cases e : M.inP a
    · rcases e with e | ⟨t, ht, e⟩
      · obtain ⟨l, ns, c, g, h1, _⟩ := P
        have ea : p = a := Option.some.inj (hp.symm.trans e)
        exact ⟨_, by rw [← ea]; exact h1⟩
      · obtain ⟨ps, h1, _⟩ := fr.t t ht
        exact ⟨_, by rw [← e]; exact h1⟩
    · exact ⟨o, k a o z e⟩
  · unfold DL.pens at h
    rw [List.getElem?_map] at h
    cases e : ρ[i]? with
    | none => rw [e] at h; cases h
    | some s0 =>
      rw [e] at h
      obtain ⟨o, h1, h2⟩ := S.ok i s0 e
      refine ⟨o, h1, ?_⟩
      have h := Option.some.inj h
      cases s0 with
      | any => subst h; trivial
      | dat d => subst h; obtain ⟨v, a1, a2⟩ := h2; exact ⟨v, a1, a2.mono sc⟩
      | val u d => subst h; obtain ⟨a1, a2⟩ := h2; exact ⟨a1, a2.mono sc⟩
      | own ds =>
        subst h
        obtain ⟨l, vs, a1, a2, a3, a4⟩ := h2
        exact ⟨l, vs, a1, a2, k _ _ a3 (fun y => (S.mok.pF _ y).2 (List.mem_of_getElem? a2)), a4.mono sc⟩
      | obj C0 b0 ns0 ds =>
        subst h
        obtain ⟨l, dx0, vs, a1, a2, a3, a5, a4⟩ := h2
        exact ⟨l, dx0, vs, a1, a2, k _ _ a3 (fun y => (S.mok.pF _ y).2 (List.mem_of_getElem? a2)), a5, a4.mono sc⟩
      | ownd ds =>
        subst h
        obtain ⟨l, vs, a1, a2, a3, a4⟩ := h2
        exact ⟨l, vs, a1, a2, k _ _ a3 (fun y => (S.mok.pF _ y).2 (List.mem_of_getElem? a2)), a4.mono sc⟩
      | pen m =>
        subst h
        obtain ⟨p', a1, a2, _⟩ := h2
        have e : p' = p := Option.some.inj (a2.symm.trans hp)
        subst e
        exact ⟨p', a1, a2, P⟩
      | pown es =>
        subst h
        obtain ⟨p', ws, a1, a2, _⟩ := h2
        have e : p' = p := Option.some.inj (a2.symm.trans hp)
        subst e
        exact ⟨p', a1, a2, P⟩
theorem w_callN {W : Nat → List Dt → (Dt → Nat → Prop) → Prop} {E : XK} {i n0 : Nat} (e : ρ[i]? = some (.pen n0)) (h : Wa K false tr ρ fun ds ρ1 => ∃ n, ρ1[i]? = some (.pen n) ∧ W n ds fun d n' => Φ d (pens n' ρ1)) :
    Wp K false (tCall (spN K W) [] E (tCons (tVar i) tr)) ρ Φ := fun M σ H S Q q => by
  obtain ⟨o, h1, p, rfl, hp, _⟩ := S.ok i _ e
  refine ⟨.ref p, h1, h M σ H S _ fun vs H1 ds ρ1 s1 S1 x1 ⟨n, e1, k⟩ => ?_⟩
  obtain ⟨o', g1, p', g2, g3, P⟩ := S1.ok i _ e1
  have ep : p' = p := Option.some.inj (g3.symm.trans hp)
  subst ep
  have ec : ∀ H', cut M.call H' = cut M H' := cut_congr M.call_has
  have penc : ∀ {H' : Hp} {m : Nat}, Pen K M.call H' p' m ↔ Pen K M H' p' m := fun {H' m} => by unfold Pen; rw [ec]
  refine ⟨M.call, p', n, vs, ds, _, by rw [List.append_nil], hp, rfl, S1.mok.call, penc.mpr P, by rw [ec]; exact x1, k, fun v H2 d n' kp P2 x f => ?_⟩
  rw [ec] at x
  refine q v H2 d (pens n' ρ1) (s1.trans ⟨⟨rfl, rfl, fun a o z c d => ⟨kp.k a o z c, d⟩⟩, fun z => nomatch z⟩) (S1.pens hp ⟨kp.k, fun t ht => (kp.t t ht).step (fun _ z => z) (by rw [ec]; exact Same.refl _)⟩ (penc.mp P2)) x f
end

/-! ### statements -/
structure DE where
  nx : List Sl → Prop
  rt : Dt → List Sl → Prop
  bk : List Sl → Prop := fun _ => False
  ct : List Sl → Prop := fun _ => False
  /-- what is wished where an exception leaves the def; which ones may -/
  xk : XK := fun _ _ _ => False
  xd : Addr → List Str → List Dt → Prop := fun _ _ _ => False
structure EOk (K : PySem.W.Frag) (M : Md) (H : Hp) (E : Ends) (D : DE) : Prop where
  nx : ∀ M' σ' H' ρ', Stp M H M' H' → Sd K M' H' σ' ρ' → D.nx ρ' → E.nx σ' H'
  rt : ∀ M' v H' d ρ' σ', Stp M H M' H' → Sd K M' H' σ' ρ' → DX K (cut M' H') v d → D.rt d ρ' → E.rt v H'
  bk : ∀ M' σ' H' ρ', Stp M H M' H' → Sd K M' H' σ' ρ' → D.bk ρ' → E.bk σ' H'
  ct : ∀ M' σ' H' ρ', Stp M H M' H' → Sd K M' H' σ' ρ' → D.ct ρ' → E.ct σ' H'
  ex : ∀ M' H' C dd ns us es, Stp M H M' H' → H' dd = some (.xd (ns.zip us)) → ns.length = us.length → ¬ M'.has dd → DXs K (cut M' H') us es → D.xd C ns es → D.xk (.ref C) (some dd) H'
theorem EOk.step {K : PySem.W.Frag} {M M1 : Md} {H H1 : Hp} {E : Ends} {D : DE} (k : EOk K M H E D) (s : Stp M H M1 H1) : EOk K M1 H1 E D :=
  ⟨fun M' σ' H' ρ' t S z => k.nx M' σ' H' ρ' (s.trans t) S z, fun M' v H' d ρ' σ' t S x z => k.rt M' v H' d ρ' σ' (s.trans t) S x z,
    fun M' σ' H' ρ' t S z => k.bk M' σ' H' ρ' (s.trans t) S z, fun M' σ' H' ρ' t S z => k.ct M' σ' H' ρ' (s.trans t) S z, fun M' H' C dd ns us es t a b nd c e => k.ex M' H' C dd ns us es (s.trans t) a b nd c e⟩
def Ws (K : PySem.W.Frag) (ts : TS) (ρ : List Sl) (D : DE) : Prop :=
  ∀ (M : Md) (σ : L2.St) (H : Hp), Sd K M H σ ρ → ∀ E : Ends, EOk K M H E D → ts E σ H

section
variable {K : PySem.W.Frag} {ρ : List Sl} {te ti : TE} {tt : TT} {tr : TA} {t u : TS} {D : DE} {i : Nat}
theorem Sd.put {M : Md} {H : Hp} {σ : L2.St} (S : Sd K M H σ ρ) {v : V} {d : Dt} (x : DX K (cut M H) v d) (i : Nat) : Sd K M H (σ.set i (some v)) (ρ.set i (.dat d)) := by
  refine ⟨by rw [List.length_set, List.length_set]; exact S.len, by rw [List.length_set]; exact S.olen, S.mok, fun j s h => ?_⟩
  by_cases e : i = j
  · subst e
    by_cases hi : i < ρ.length
    · rw [List.getElem?_set_self hi] at h
      have h := Option.some.inj h
      subst h
      exact ⟨some v, by rw [List.getElem?_set_self (by rw [S.len]; exact hi)], v, rfl, x⟩
    · rw [List.getElem?_eq_none (by rw [List.length_set]; omega)] at h; cases h
  · rw [List.getElem?_set_ne e] at h ⊢
    exact S.ok j s h
theorem ws_seq (h : Ws K t ρ { D with nx := fun ρ' => Ws K u ρ' D }) : Ws K (tSeq t u) ρ D := fun M σ H S E k =>
  h M σ H S { E with nx := u E } ⟨fun M' σ' H' ρ' s S' z => z M' σ' H' S' E (k.step s), k.rt, k.bk, k.ct, k.ex⟩
theorem ws_next (h : D.nx ρ) : Ws K tNext ρ D := fun M σ H S E k => k.nx M σ H ρ (Stp.refl M H) S h
theorem ws_brk (h : D.bk ρ) : Ws K tBreak ρ D := fun M σ H S E k => k.bk M σ H ρ (Stp.refl M H) S h
theorem ws_cont (h : D.ct ρ) : Ws K tCont ρ D := fun M σ H S E k => k.ct M σ H ρ (Stp.refl M H) S h
theorem ws_asg {pf : Bool} (h : Wp K pf te ρ fun d ρ' => D.nx (ρ'.set i (.dat d))) : Ws K (tAsg te (gName i)) ρ D := fun M σ H S E k =>
  h M σ H S _ fun v H1 d ρ1 s1 S1 x1 f => k.nx M _ H1 _ s1.st (S1.put x1 i) f
theorem ws_drop {pf : Bool} (h : Wp K pf te ρ fun d ρ' => D.nx ρ') : Ws K (tDrop te) ρ D := fun M σ H S E k =>
  h M σ H S _ fun v H1 d ρ1 s1 S1 x1 f => k.nx M _ H1 _ s1.st S1 f
theorem ws_ret {pf : Bool} (h : Wp K pf te ρ fun d ρ' => D.rt d ρ') : Ws K (tRet te) ρ D := fun M σ H S E k =>
  h M σ H S _ fun v H1 d ρ1 s1 S1 x1 f => k.rt M v H1 d ρ1 σ s1.st S1 x1 f
theorem ws_retN (h : D.rt .non ρ) : Ws K tRetN ρ D := fun M σ H S E k => k.rt M .non H .non ρ σ (Stp.refl M H) S .non h
theorem ws_if {pf : Bool} (h : Wt K pf tt ρ fun b ρ1 => if b = true then Ws K t ρ1 D else Ws K u ρ1 D) : Ws K (tIfS tt t u) ρ D := fun M σ H S E k =>
  h M σ H S _ fun b H1 ρ1 s1 S1 f => by
    cases b with
    | true =>
      rw [if_pos rfl] at f
      show t E σ H1
      exact f M σ H1 S1 E (k.step s1.st)
    | false =>
      rw [if_neg Bool.false_ne_true] at f
      show u E σ H1
      exact f M σ H1 S1 E (k.step s1.st)

/-! one's own lists -/
theorem Sd.slot {M : Md} {H : Hp} {σ : L2.St} (S : Sd K M H σ ρ) {s : Sl} (h : ρ[i]? = some s) : i < σ.length := by
  rw [S.len]; exact (List.getElem?_eq_some_iff.mp h).1
/-- a new list at q becomes slot i's own -/
theorem Sd.own {M : Md} {H : Hp} {σ : L2.St} {q : Addr} {vs : List V} {ds : List Dt} (S : Sd K M H σ ρ) (hi : i < ρ.length) (hq : ¬ M.has q) (hH : H q = some (.lst vs))
    (x : DXs K (cut { M with F := q :: M.F } H) vs ds) (hS : Sd K { M with F := q :: M.F } H σ ρ) : Sd K { M with O := M.O.set i (some q) } H (σ.set i (some (.ref q))) (ρ.set i (.own ds)) := by
  have hO : ∀ a, some a ∈ M.O.set i (some q) → a = q ∨ some a ∈ M.O := fun a h => by
    rcases List.mem_or_eq_of_mem_set h with z | z
    · exact .inr z
    · exact .inl (Option.some.inj z)
  have has : ∀ a, ({ M with O := M.O.set i (some q) } : Md).has a → ({ M with F := q :: M.F } : Md).has a := fun a h => by
    rcases h with h | h | h
    · exact .inl h
    · exact .inr (.inl (List.mem_cons_of_mem _ h))
    · rcases hO a h with z | z
      · exact .inr (.inl (by rw [z]; exact List.mem_cons_self))
      · exact .inr (.inr z)
  have sc : Same (cut { M with F := q :: M.F } H) (cut { M with O := M.O.set i (some q) } H) := cut_le has
  have hset : ∀ (j : Nat) (a : Addr), (M.O.set i (some q))[j]? = some (some a) → (i = j ∧ a = q) ∨ (i ≠ j ∧ M.O[j]? = some (some a)) := fun j a h => by
    by_cases e : i = j
    · subst e
      rw [List.getElem?_set_self (by rw [S.olen]; exact hi)] at h
      exact .inl ⟨rfl, (Option.some.inj (Option.some.inj h)).symm⟩
    · rw [List.getElem?_set_ne e] at h
      exact .inr ⟨e, h⟩
  refine ⟨by rw [List.length_set, List.length_set]; exact S.len, by show (M.O.set i (some q)).length = _; rw [List.length_set, List.length_set]; exact S.olen, ⟨fun a h => hS.mok.live a (has a h), fun a h => ⟨(S.mok.pF a h).1, fun z => ?_⟩, fun a h z => ?_, fun j k a h1 h2 => ?_, hS.mok.tbU rfl (fun _ _ _ z => z) sc⟩, fun j s h => ?_⟩
  · rcases hO a z with z | z
    · exact hq (.inl (by rw [← z]; exact h))
    · exact (S.mok.pF a h).2 z
  · rcases hO a z with z | z
    · exact hq (.inr (.inl (by rw [← z]; exact h)))
    · exact S.mok.FO a h z
  · rcases hset j a h1 with ⟨e1, z1⟩ | ⟨e1, z1⟩
    · rcases hset k a h2 with ⟨e2, z2⟩ | ⟨e2, z2⟩
      · rw [← e1, ← e2]
      · exact (hq (.inr (.inr (by rw [← z1]; exact List.mem_of_getElem? z2)))).elim
    · rcases hset k a h2 with ⟨e2, z2⟩ | ⟨e2, z2⟩
      · exact (hq (.inr (.inr (by rw [← z2]; exact List.mem_of_getElem? z1)))).elim
      · exact S.mok.nd j k a z1 z2
  · by_cases e : i = j
    · subst e
      rw [List.getElem?_set_self hi] at h
      have h := Option.some.inj h
      subst h
      exact ⟨_, List.getElem?_set_self (by rw [S.len]; exact hi), q, vs, rfl, List.getElem?_set_self (by rw [S.olen]; exact hi), hH, x.mono sc⟩
    · rw [List.getElem?_set_ne e] at h
      obtain ⟨o, h1, h2⟩ := hS.ok j s h
      refine ⟨o, by rw [List.getElem?_set_ne e]; exact h1, ?_⟩
      cases s with
      | any => trivial
      | dat d => obtain ⟨v, a1, a2⟩ := h2; exact ⟨v, a1, a2.mono sc⟩
      | val u d => obtain ⟨a1, a2⟩ := h2; exact ⟨a1, a2.mono sc⟩
      | own es =>
        obtain ⟨l, ws, a1, a2, a3, a4⟩ := h2
        exact ⟨l, ws, a1, by show (M.O.set i (some q))[j]? = _; rw [List.getElem?_set_ne e]; exact a2, a3, a4.mono sc⟩
      | obj C0 b0 ns0 es =>
        obtain ⟨l, dx0, ws, a1, a2, a3, a5, a4⟩ := h2
        exact ⟨l, dx0, ws, a1, by show (M.O.set i (some q))[j]? = _; rw [List.getElem?_set_ne e]; exact a2, a3, a5, a4.mono sc⟩
      | ownd es =>
        obtain ⟨l, ws, a1, a2, a3, a4⟩ := h2
        exact ⟨l, ws, a1, by show (M.O.set i (some q))[j]? = _; rw [List.getElem?_set_ne e]; exact a2, a3, a4.mono sc⟩
      | pen m =>
        obtain ⟨p', a1, a2, l, ns, c, g, b1, b2, b3⟩ := h2
        exact ⟨p', a1, a2, l, ns, c, g, b1, sc.seq b2, b3⟩
      | pown es => obtain ⟨p', ws, a1, a2, a3, a4⟩ := h2; exact ⟨p', ws, a1, a2, a3, a4.mono sc⟩
/-- a new address set aside -/
theorem Sd.aside {M : Md} {H H' : Hp} {σ : L2.St} {q : Addr} {o : HO} (S : Sd K M H σ ρ) (hq : H q = none) (e : Same H H') (ho : H' q = some o) : Sd K { M with F := q :: M.F } H' σ ρ := by
  have nq := S.mok.new hq
  have has : ∀ a, a ≠ q → ({ M with F := q :: M.F } : Md).has a → M.has a := fun a n h => by
    rcases h with h | h | h
    · exact .inl h
    · rcases List.mem_cons.mp h with z | z
      · exact (n z).elim
      · exact .inr (.inl z)
    · exact .inr (.inr h)
  have sc : Same (cut M H) (cut { M with F := q :: M.F } H') := fun a u z => by
    obtain ⟨c, y⟩ := cut_of z
    exact cut_at (fun h => c (has a (ne_of_none y hq) h)) (e a u y)
  refine ⟨S.len, S.olen, ⟨fun a h => ?_, fun a h => ⟨fun z => ?_, (S.mok.pF a h).2⟩, fun a h => ?_, S.mok.nd, S.mok.tbU rfl (fun _ _ _ z => e _ _ z) sc⟩, fun j s h => ?_⟩
  · by_cases n : a = q
    · exact ⟨o, by rw [n]; exact ho⟩
    · obtain ⟨u, z⟩ := S.mok.live a (has a n h)
      exact ⟨u, e a u z⟩
  · rcases List.mem_cons.mp z with z | z
    · exact nq (.inl (by rw [← z]; exact h))
    · exact (S.mok.pF a h).1 z
  · rcases List.mem_cons.mp h with z | z
    · intro y; exact nq (.inr (.inr (by rw [← z]; exact y)))
    · exact S.mok.FO a z
  · obtain ⟨u, h1, h2⟩ := S.ok j s h
    refine ⟨u, h1, ?_⟩
    cases s with
    | any => trivial
    | dat d => obtain ⟨v, a1, a2⟩ := h2; exact ⟨v, a1, a2.mono sc⟩
    | val u d => obtain ⟨a1, a2⟩ := h2; exact ⟨a1, a2.mono sc⟩
    | own es => obtain ⟨l, ws, a1, a2, a3, a4⟩ := h2; exact ⟨l, ws, a1, a2, e _ _ a3, a4.mono sc⟩
    | obj C0 b0 ns0 es => obtain ⟨l, dx0, ws, a1, a2, a3, a5, a4⟩ := h2; exact ⟨l, dx0, ws, a1, a2, e _ _ a3, a5, a4.mono sc⟩
    | ownd es => obtain ⟨l, ws, a1, a2, a3, a4⟩ := h2; exact ⟨l, ws, a1, a2, e _ _ a3, a4.mono sc⟩
    | pen m =>
      obtain ⟨p', a1, a2, l, ns, c, g, b1, b2, b3⟩ := h2
      exact ⟨p', a1, a2, l, ns, c, g, e _ _ b1, sc.seq b2, b3⟩
    | pown es => obtain ⟨p', ws, a1, a2, a3, a4⟩ := h2; exact ⟨p', ws, a1, a2, e _ _ a3, a4.mono sc⟩
theorem Stp.own {M : Md} {H H' : Hp} {i : Nat} {q : Addr} (hq : H q = none) (e : Same H H') : Stp M H { M with O := M.O.set i (some q) } H' :=
  ⟨rfl, rfl, fun a o z c d => ⟨e a o z, fun y => by
    rcases List.mem_or_eq_of_mem_set y with y | y
    · exact d y
    · exact ne_of_none z hq (Option.some.inj y)⟩⟩
theorem ws_newlist (hi : i < ρ.length) (h : D.nx (ρ.set i (.own []))) : Ws K (tAsg (tLst tNil) (gName i)) ρ D := fun M σ H S E k =>
  ⟨Nat.zero_le _, fun q hq => k.nx _ _ _ _ (Stp.own hq (same_new hq)) ((S.same (same_new hq)).own hi (S.mok.new hq) upd_same .nil (S.aside hq (same_new hq) upd_same)) h⟩
/-- a list of one's own, written at its address -/
theorem Sd.write {M : Md} {H : Hp} {σ : L2.St} {l : Addr} {vs ws : List V} {ds es : List Dt} (S : Sd K M H σ ρ) (hs : ρ[i]? = some (.own ds)) (hl : M.O[i]? = some (some l)) (x : DXs K (cut M H) ws es) :
    Sd K M (upd H l (.lst ws)) σ (ρ.set i (.own es)) ∧ Stp M H M (upd H l (.lst ws)) := by
  have hm : some l ∈ M.O := List.mem_of_getElem? hl
  have sc : Same (cut M H) (cut M (upd H l (.lst ws))) := fun a u z => by
    obtain ⟨c, y⟩ := cut_of z
    exact cut_at c (by rw [upd_ne fun n => c (.inr (.inr (by rw [n]; exact hm)))]; exact y)
  obtain ⟨o0, h0, l0, vs0, e0, e1, e2, e3⟩ := S.ok i _ hs
  have el : l0 = l := Option.some.inj (Option.some.inj (e1.symm.trans hl))
  subst el
  refine ⟨⟨by rw [List.length_set]; exact S.len, by rw [List.length_set]; exact S.olen, ⟨fun a h => ?_, S.mok.pF, S.mok.FO, S.mok.nd, S.mok.tbU rfl (fun a ha _ z => by rw [upd_ne fun n => (S.mok.pF a ha).2 (by rw [n]; exact hm)]; exact z) sc⟩, fun j s h => ?_⟩, ⟨rfl, rfl, fun a o z c d => ⟨?_, d⟩⟩⟩
  · by_cases n : a = l0
    · exact ⟨_, by rw [n]; exact upd_same⟩
    · obtain ⟨u, z⟩ := S.mok.live a h
      exact ⟨u, by rw [upd_ne n]; exact z⟩
  · by_cases e : i = j
    · subst e
      rw [List.getElem?_set_self (by rw [← S.len]; exact S.slot hs)] at h
      have h := Option.some.inj h
      subst h
      exact ⟨o0, h0, l0, ws, e0, e1, upd_same, x.mono sc⟩
    · rw [List.getElem?_set_ne e] at h
      obtain ⟨o, h1, h2⟩ := S.ok j s h
      refine ⟨o, h1, ?_⟩
      cases s with
      | any => trivial
      | dat d => obtain ⟨v, a1, a2⟩ := h2; exact ⟨v, a1, a2.mono sc⟩
      | val u d => obtain ⟨a1, a2⟩ := h2; exact ⟨a1, a2.mono sc⟩
      | own es =>
        obtain ⟨l', ws', a1, a2, a3, a4⟩ := h2
        exact ⟨l', ws', a1, a2, by rw [upd_ne fun n => e (S.mok.nd i j l0 e1 (by rw [← n]; exact a2))]; exact a3, a4.mono sc⟩
      | obj C0 b0 ns0 es =>
        obtain ⟨l', dx0, ws', a1, a2, a3, a5, a4⟩ := h2
        exact ⟨l', dx0, ws', a1, a2, by rw [upd_ne fun n => e (S.mok.nd i j l0 e1 (by rw [← n]; exact a2))]; exact a3, a5, a4.mono sc⟩
      | ownd es =>
        obtain ⟨l', ws', a1, a2, a3, a4⟩ := h2
        exact ⟨l', ws', a1, a2, by rw [upd_ne fun n => e (S.mok.nd i j l0 e1 (by rw [← n]; exact a2))]; exact a3, a4.mono sc⟩
      | pen m =>
        obtain ⟨p', a1, a2, l', ns, c, g, b1, b2, b3⟩ := h2
        exact ⟨p', a1, a2, l', ns, c, g, by rw [upd_ne fun n => (S.mok.pp a2).2 (by rw [n]; exact hm)]; exact b1, sc.seq b2, b3⟩
      | pown es => obtain ⟨p', ws', a1, a2, a3, a4⟩ := h2; exact ⟨p', ws', a1, a2, by rw [upd_ne fun n => (S.mok.pp a2).2 (by rw [n]; exact hm)]; exact a3, a4.mono sc⟩
  · rw [upd_ne fun n => d (by rw [n]; exact hm)]; exact z
theorem ws_append {pf : Bool} (h : Wp K pf te ρ fun d ρ' => ∃ ds, ρ'[i]? = some (.own ds) ∧ ds.length < 100000 ∧ D.nx (ρ'.set i (.own (ds ++ [d])))) {ds0 : List Dt} (e0 : ρ[i]? = some (.own ds0)) :
    Ws K (tDrop (tBM K "list" rAppend (tVar i) (tCons te tNil))) ρ D := fun M σ H S E k => by
  obtain ⟨o, h1, l, vs0, e1, e2, e3, e4⟩ := S.ok i _ e0
  subst e1
  refine ⟨.ref l, h1, .inl ⟨rfl, _, .inl (.inl e3)⟩, h M σ H S _ fun v H1 d ρ1 s1 S1 x1 ⟨ds, g1, g2, g3⟩ => ?_⟩
  obtain ⟨o', z1, l', vs, y1, y2, y3, y4⟩ := S1.ok i _ g1
  have el : l' = l := Option.some.inj (Option.some.inj (y2.symm.trans e2))
  subst el
  refine ⟨l', vs, v, rfl, rfl, y3, by rw [y4.len]; exact Nat.lt_of_lt_of_le g2 (by decide), ?_⟩
  obtain ⟨S2, s2⟩ := S1.write (vs := vs) g1 y2 (y4.append (.one x1))
  exact k.nx M σ _ _ (s1.st.trans s2) S2 g3
theorem ws_setitem {pf : Bool} (h : Wp K pf te ρ fun d ρ1 => Wp K pf ti ρ1 fun dj ρ2 => ∃ (ds : List Dt) (j : Nat), ρ2[i]? = some (.own ds) ∧ dj = .int j ∧ j < ds.length ∧ D.nx (ρ2.set i (.own (ds.set j d)))) {ds0 : List Dt} (e0 : ρ[i]? = some (.own ds0)) : Ws K (tAsg te (gSub (tVar i) ti rSetL)) ρ D := fun M σ H S E k => by
  obtain ⟨o, h1, l, vs0, e1, e2, e3, e4⟩ := S.ok i _ e0
  subst e1
  refine h M σ H S _ fun v H1 d ρ1 s1 S1 x1 h2 => ?_
  refine ⟨.ref l, h1, h2 M σ H1 S1 _ fun w H2 dj ρ2 s2 S2 x2 ⟨ds, j, g1, g2, g3, g4⟩ => ?_⟩
  subst g2
  obtain ⟨o', z1, l', vs, y1, y2, y3, y4⟩ := S2.ok i _ g1
  have el : l' = l := Option.some.inj (Option.some.inj (y2.symm.trans e2))
  subst el
  refine ⟨l', vs, j, j, rfl, x2.int_eq, y3, ?_, ?_⟩
  · unfold ixN
    rw [if_pos (Int.natCast_nonneg j), if_pos (by rw [y4.len]; exact Int.ofNat_lt.mpr g3)]
    rfl
  · obtain ⟨S3, s3⟩ := S2.write (vs := vs) g1 y2 (y4.set (x1.mono s2.dx) j)
    exact k.nx M σ _ _ ((s1.st.trans s2.st).trans s3) S3 g4
/-- a list of one's own given out of hand: from here on it is data -/
theorem Sd.freeze {M : Md} {H : Hp} {σ : L2.St} {ds : List Dt} (S : Sd K M H σ ρ) (hs : ρ[i]? = some (.own ds)) :
    Sd K { M with O := M.O.set i none } H σ (ρ.set i (.dat (.lst ds))) ∧ Stp M H { M with O := M.O.set i none } H := by
  have hO : ∀ a, some a ∈ M.O.set i none → some a ∈ M.O := fun a h => by
    rcases List.mem_or_eq_of_mem_set h with z | z
    · exact z
    · cases z
  have has : ∀ a, ({ M with O := M.O.set i none } : Md).has a → M.has a := fun a h => by
    rcases h with h | h | h
    · exact .inl h
    · exact .inr (.inl h)
    · exact .inr (.inr (hO a h))
  have sc : Same (cut M H) (cut { M with O := M.O.set i none } H) := cut_le has
  obtain ⟨o0, h0, l, vs, e0, e1, e2, e3⟩ := S.ok i _ hs
  have hset : ∀ (j : Nat) (a : Addr), (M.O.set i none)[j]? = some (some a) → i ≠ j ∧ M.O[j]? = some (some a) := fun j a h => by
    by_cases e : i = j
    · subst e
      rw [List.getElem?_set_self (List.getElem?_eq_some_iff.mp e1).1] at h
      cases Option.some.inj h
    · rw [List.getElem?_set_ne e] at h
      exact ⟨e, h⟩
  have nl : ¬ ({ M with O := M.O.set i none } : Md).has l := fun z => by
    have hm := List.mem_of_getElem? e1
    rcases z with z | z | z
    · exact (S.mok.pF l z).2 hm
    · exact S.mok.FO l z hm
    · obtain ⟨j, hj⟩ := List.getElem?_of_mem z
      obtain ⟨n, h2⟩ := hset j l hj
      exact n (S.mok.nd i j l e1 h2)
  refine ⟨⟨by rw [List.length_set]; exact S.len, by show (M.O.set i none).length = _; rw [List.length_set, List.length_set]; exact S.olen, ⟨fun a h => S.mok.live a (has a h), fun a h => ⟨(S.mok.pF a h).1, fun z => (S.mok.pF a h).2 (hO a z)⟩, fun a h z => S.mok.FO a h (hO a z), fun j k a h1 h2 => S.mok.nd j k a (hset j a h1).2 (hset k a h2).2, S.mok.tbU rfl (fun _ _ _ z => z) sc⟩, fun j s h => ?_⟩, ⟨rfl, rfl, fun a o z c d => ⟨z, fun y => d (hO a y)⟩⟩⟩
  by_cases e : i = j
  · subst e
    rw [List.getElem?_set_self (by rw [← S.len]; exact S.slot hs)] at h
    have h := Option.some.inj h
    subst h
    exact ⟨o0, h0, .ref l, e0, .lst (.inl (.inl (cut_at nl e2))) (e3.mono sc)⟩
  · rw [List.getElem?_set_ne e] at h
    obtain ⟨o, h1, h2⟩ := S.ok j s h
    refine ⟨o, h1, ?_⟩
    cases s with
    | any => trivial
    | dat d => obtain ⟨v, a1, a2⟩ := h2; exact ⟨v, a1, a2.mono sc⟩
    | val u d => obtain ⟨a1, a2⟩ := h2; exact ⟨a1, a2.mono sc⟩
    | own es =>
      obtain ⟨l', ws', a1, a2, a3, a4⟩ := h2
      exact ⟨l', ws', a1, by show (M.O.set i none)[j]? = _; rw [List.getElem?_set_ne e]; exact a2, a3, a4.mono sc⟩
    | obj C0 b0 ns0 es =>
      obtain ⟨l', dx0, ws', a1, a2, a3, a5, a4⟩ := h2
      exact ⟨l', dx0, ws', a1, by show (M.O.set i none)[j]? = _; rw [List.getElem?_set_ne e]; exact a2, a3, a5, a4.mono sc⟩
    | ownd es =>
      obtain ⟨l', ws', a1, a2, a3, a4⟩ := h2
      exact ⟨l', ws', a1, by show (M.O.set i none)[j]? = _; rw [List.getElem?_set_ne e]; exact a2, a3, a4.mono sc⟩
    | pen m =>
      obtain ⟨p', a1, a2, l', ns, c, g, b1, b2, b3⟩ := h2
      exact ⟨p', a1, a2, l', ns, c, g, b1, sc.seq b2, b3⟩
    | pown es => obtain ⟨p', ws', a1, a2, a3, a4⟩ := h2; exact ⟨p', ws', a1, a2, a3, a4.mono sc⟩
theorem ws_freeze {ds : List Dt} (hs : ρ[i]? = some (.own ds)) (h : Ws K t (ρ.set i (.dat (.lst ds))) D) : Ws K t ρ D := fun M σ H S E k =>
  let ⟨S2, s2⟩ := S.freeze hs
  h _ σ H S2 E (k.step s2)
/-- a datum that stands nowhere -/
def flatD : Dt → Bool
  | .non | .bl _ | .int _ | .str _ => true
  | _ => false
theorem flat_any {d : Dt} (f : flatD d = true) {H H' : Hp} {v : V} (x : DX K H v d) : DX K H' v d := by
  cases d with
  | non => cases x; exact .non
  | bl b => cases x; exact .bl b
  | int i => cases x; exact .int i
  | str z => cases x; exact .str z
  | _ => cases f
theorem wp_thaw {ds : List Dt} {Φ : Dt → List Sl → Prop} {pf : Bool} (hs : ρ[i]? = some (.own ds)) (h : Wp K true te (ρ.set i (.dat (.lst ds))) fun d _ => flatD d = true ∧ Φ d ρ) : Wp K pf te ρ Φ := fun M σ H S Q q =>
  let ⟨S2, _⟩ := S.freeze hs
  h _ σ H S2 Q fun v H2 d ρ' s S3 x ⟨f, z⟩ => q v H2 d ρ (Tr.same pf M (s.sm rfl)) (S.same (s.sm rfl)) (flat_any f x) z
theorem wt_thaw {ds : List Dt} {Φ : Bool → List Sl → Prop} {pf : Bool} (hs : ρ[i]? = some (.own ds)) (h : Wt K true tt (ρ.set i (.dat (.lst ds))) fun b _ => Φ b ρ) : Wt K pf tt ρ Φ := fun M σ H S Q q =>
  let ⟨S2, _⟩ := S.freeze hs
  h _ σ H S2 Q fun b H2 ρ' s S3 z => q b H2 ρ (Tr.same pf M (s.sm rfl)) (S.same (s.sm rfl)) z
/-! dicts of one's own -/
theorem Sd.ownd {M : Md} {H : Hp} {σ : L2.St} {q : Addr} {vs : List (Key × V)} {ds : List (Key × Dt)} (S : Sd K M H σ ρ) (hi : i < ρ.length) (hq : ¬ M.has q) (hH : H q = some (.dK vs))
    (x : DXk K (cut { M with F := q :: M.F } H) vs ds) (hS : Sd K { M with F := q :: M.F } H σ ρ) : Sd K { M with O := M.O.set i (some q) } H (σ.set i (some (.ref q))) (ρ.set i (.ownd ds)) := by
  have hO : ∀ a, some a ∈ M.O.set i (some q) → a = q ∨ some a ∈ M.O := fun a h => by
    rcases List.mem_or_eq_of_mem_set h with z | z
    · exact .inr z
    · exact .inl (Option.some.inj z)
  have has : ∀ a, ({ M with O := M.O.set i (some q) } : Md).has a → ({ M with F := q :: M.F } : Md).has a := fun a h => by
    rcases h with h | h | h
    · exact .inl h
    · exact .inr (.inl (List.mem_cons_of_mem _ h))
    · rcases hO a h with z | z
      · exact .inr (.inl (by rw [z]; exact List.mem_cons_self))
      · exact .inr (.inr z)
  have sc : Same (cut { M with F := q :: M.F } H) (cut { M with O := M.O.set i (some q) } H) := cut_le has
  have hset : ∀ (j : Nat) (a : Addr), (M.O.set i (some q))[j]? = some (some a) → (i = j ∧ a = q) ∨ (i ≠ j ∧ M.O[j]? = some (some a)) := fun j a h => by
    by_cases e : i = j
    · subst e
      rw [List.getElem?_set_self (by rw [S.olen]; exact hi)] at h
      exact .inl ⟨rfl, (Option.some.inj (Option.some.inj h)).symm⟩
    · rw [List.getElem?_set_ne e] at h
      exact .inr ⟨e, h⟩
  refine ⟨by rw [List.length_set, List.length_set]; exact S.len, by show (M.O.set i (some q)).length = _; rw [List.length_set, List.length_set]; exact S.olen, ⟨fun a h => hS.mok.live a (has a h), fun a h => ⟨(S.mok.pF a h).1, fun z => ?_⟩, fun a h z => ?_, fun j k a h1 h2 => ?_, hS.mok.tbU rfl (fun _ _ _ z => z) sc⟩, fun j s h => ?_⟩
  · rcases hO a z with z | z
    · exact hq (.inl (by rw [← z]; exact h))
    · exact (S.mok.pF a h).2 z
  · rcases hO a z with z | z
    · exact hq (.inr (.inl (by rw [← z]; exact h)))
    · exact S.mok.FO a h z
  · rcases hset j a h1 with ⟨e1, z1⟩ | ⟨e1, z1⟩
    · rcases hset k a h2 with ⟨e2, z2⟩ | ⟨e2, z2⟩
      · rw [← e1, ← e2]
      · exact (hq (.inr (.inr (by rw [← z1]; exact List.mem_of_getElem? z2)))).elim
    · rcases hset k a h2 with ⟨e2, z2⟩ | ⟨e2, z2⟩
      · exact (hq (.inr (.inr (by rw [← z2]; exact List.mem_of_getElem? z1)))).elim
      · exact S.mok.nd j k a z1 z2
  · by_cases e : i = j
    · subst e
      rw [List.getElem?_set_self hi] at h
      have h := Option.some.inj h
      subst h
      exact ⟨_, List.getElem?_set_self (by rw [S.len]; exact hi), q, vs, rfl, List.getElem?_set_self (by rw [S.olen]; exact hi), hH, x.mono sc⟩
    · rw [List.getElem?_set_ne e] at h
      obtain ⟨o, h1, h2⟩ := hS.ok j s h
      refine ⟨o, by rw [List.getElem?_set_ne e]; exact h1, ?_⟩
      cases s with
      | any => trivial
      | dat d => obtain ⟨v, a1, a2⟩ := h2; exact ⟨v, a1, a2.mono sc⟩
      | val u d => obtain ⟨a1, a2⟩ := h2; exact ⟨a1, a2.mono sc⟩
      | own es =>
        obtain ⟨l, ws, a1, a2, a3, a4⟩ := h2
        exact ⟨l, ws, a1, by show (M.O.set i (some q))[j]? = _; rw [List.getElem?_set_ne e]; exact a2, a3, a4.mono sc⟩
      | obj C0 b0 ns0 es =>
        obtain ⟨l, dx0, ws, a1, a2, a3, a5, a4⟩ := h2
        exact ⟨l, dx0, ws, a1, by show (M.O.set i (some q))[j]? = _; rw [List.getElem?_set_ne e]; exact a2, a3, a5, a4.mono sc⟩
      | ownd es =>
        obtain ⟨l, ws, a1, a2, a3, a4⟩ := h2
        exact ⟨l, ws, a1, by show (M.O.set i (some q))[j]? = _; rw [List.getElem?_set_ne e]; exact a2, a3, a4.mono sc⟩
      | pen m =>
        obtain ⟨p', a1, a2, l, ns, c, g, b1, b2, b3⟩ := h2
        exact ⟨p', a1, a2, l, ns, c, g, b1, sc.seq b2, b3⟩
      | pown es => obtain ⟨p', ws, a1, a2, a3, a4⟩ := h2; exact ⟨p', ws, a1, a2, a3, a4.mono sc⟩
theorem Sd.writed {M : Md} {H : Hp} {σ : L2.St} {l : Addr} {vs ws : List (Key × V)} {ds es : List (Key × Dt)} (S : Sd K M H σ ρ) (hs : ρ[i]? = some (.ownd ds)) (hl : M.O[i]? = some (some l)) (x : DXk K (cut M H) ws es) :
    Sd K M (upd H l (.dK ws)) σ (ρ.set i (.ownd es)) ∧ Stp M H M (upd H l (.dK ws)) := by
  have hm : some l ∈ M.O := List.mem_of_getElem? hl
  have sc : Same (cut M H) (cut M (upd H l (.dK ws))) := fun a u z => by
    obtain ⟨c, y⟩ := cut_of z
    exact cut_at c (by rw [upd_ne fun n => c (.inr (.inr (by rw [n]; exact hm)))]; exact y)
  obtain ⟨o0, h0, l0, vs0, e0, e1, e2, e3⟩ := S.ok i _ hs
  have el : l0 = l := Option.some.inj (Option.some.inj (e1.symm.trans hl))
  subst el
  refine ⟨⟨by rw [List.length_set]; exact S.len, by rw [List.length_set]; exact S.olen, ⟨fun a h => ?_, S.mok.pF, S.mok.FO, S.mok.nd, S.mok.tbU rfl (fun a ha _ z => by rw [upd_ne fun n => (S.mok.pF a ha).2 (by rw [n]; exact hm)]; exact z) sc⟩, fun j s h => ?_⟩, ⟨rfl, rfl, fun a o z c d => ⟨?_, d⟩⟩⟩
  · by_cases n : a = l0
    · exact ⟨_, by rw [n]; exact upd_same⟩
    · obtain ⟨u, z⟩ := S.mok.live a h
      exact ⟨u, by rw [upd_ne n]; exact z⟩
  · by_cases e : i = j
    · subst e
      rw [List.getElem?_set_self (by rw [← S.len]; exact S.slot hs)] at h
      have h := Option.some.inj h
      subst h
      exact ⟨o0, h0, l0, ws, e0, e1, upd_same, x.mono sc⟩
    · rw [List.getElem?_set_ne e] at h
      obtain ⟨o, h1, h2⟩ := S.ok j s h
      refine ⟨o, h1, ?_⟩
      cases s with
      | any => trivial
      | dat d => obtain ⟨v, a1, a2⟩ := h2; exact ⟨v, a1, a2.mono sc⟩
      | val u d => obtain ⟨a1, a2⟩ := h2; exact ⟨a1, a2.mono sc⟩
      | own es =>
        obtain ⟨l', ws', a1, a2, a3, a4⟩ := h2
        exact ⟨l', ws', a1, a2, by rw [upd_ne fun n => e (S.mok.nd i j l0 e1 (by rw [← n]; exact a2))]; exact a3, a4.mono sc⟩
      | obj C0 b0 ns0 es =>
        obtain ⟨l', dx0, ws', a1, a2, a3, a5, a4⟩ := h2
        exact ⟨l', dx0, ws', a1, a2, by rw [upd_ne fun n => e (S.mok.nd i j l0 e1 (by rw [← n]; exact a2))]; exact a3, a5, a4.mono sc⟩
      | ownd es =>
        obtain ⟨l', ws', a1, a2, a3, a4⟩ := h2
        exact ⟨l', ws', a1, a2, by rw [upd_ne fun n => e (S.mok.nd i j l0 e1 (by rw [← n]; exact a2))]; exact a3, a4.mono sc⟩
      | pen m =>
        obtain ⟨p', a1, a2, l', ns, c, g, b1, b2, b3⟩ := h2
        exact ⟨p', a1, a2, l', ns, c, g, by rw [upd_ne fun n => (S.mok.pp a2).2 (by rw [n]; exact hm)]; exact b1, sc.seq b2, b3⟩
      | pown es => obtain ⟨p', ws', a1, a2, a3, a4⟩ := h2; exact ⟨p', ws', a1, a2, by rw [upd_ne fun n => (S.mok.pp a2).2 (by rw [n]; exact hm)]; exact a3, a4.mono sc⟩
  · rw [upd_ne fun n => d (by rw [n]; exact hm)]; exact z
end
end DL

/-! Data level: what is walked, for, comprehensions. -/
namespace DL
open PySem PySem.Spec PyProof.Rows L2
variable [Tb]

/-- a walk over data -/
structure WkOk (K : PySem.W.Frag) (M : Md) (H1 : Hp) (J : It) (ds : List Dt) : Prop where
  ex : ∃ n G Y, Walk J n G Y ∧ n = ds.length ∧ (∀ M' H', Same (cut M H1) (cut M' H') → G H') ∧
    ∀ M' H' i x H'', Same (cut M H1) (cut M' H') → MOk M' H' → i < n → Y i H' x H'' → Same H' H'' ∧ ∃ d, ds[i]? = some d ∧ DX K (cut M' H'') x d
def WI (K : PySem.W.Frag) (f : Bool) (wi : TI) (ρ : List Sl) (Ψ : List Dt → List Sl → Prop) : Prop :=
  ∀ (M : Md) (σ : L2.St) (H : Hp), Sd K M H σ ρ → ∀ R : It → Hp → Prop, (∀ J H1 ds ρ1, Tr f M H H1 → Sd K M H1 σ ρ1 → WkOk K M H1 J ds → Ψ ds ρ1 → R J H1) → wi σ H R
/-- a target; js: the slots that it sets -/
def WG (K : PySem.W.Frag) (g : TG) (js : List Nat) (d : Dt) (ρ : List Sl) (Θ : List Sl → Prop) : Prop :=
  ∀ (M : Md) (σ : L2.St) (H : Hp) (v : V), Sd K M H σ ρ → DX K (cut M H) v d → ∀ Q : L2.St → Hp → Prop,
    (∀ σ' ρ', (∀ vs : List Nat, (∀ j ∈ js, j ∈ vs) → wipe σ' vs = wipe σ vs) → Sd K M H σ' ρ' → Θ ρ' → Q σ' H) → g v σ H Q
theorem wipe_set {σ : L2.St} {j : Nat} {o : Option V} : ∀ {vs : List Nat}, j ∈ vs → wipe (σ.set j o) vs = wipe σ vs
  | [], h => nomatch h
  | v :: vs, h => by
    show (wipe (σ.set j o) vs).set v none = (wipe σ vs).set v none
    by_cases e : j ∈ vs
    · rw [wipe_set e]
    · have e2 : j = v := by
        rcases List.mem_cons.mp h with z | z
        · exact z
        · exact (e z).elim
      subst e2
      have out : ∀ (us : List Nat), j ∉ us → ∀ τ : L2.St, wipe (τ.set j o) us = (wipe τ us).set j o := by
        intro us
        induction us with
        | nil => intro _ τ; rfl
        | cons u us ih =>
          intro hn τ
          show (wipe (τ.set j o) us).set u none = ((wipe τ us).set u none).set j o
          rw [ih (fun z => hn (List.mem_cons_of_mem _ z)) τ, List.set_comm _ _ (fun z => hn (by rw [z]; exact List.mem_cons_self))]
      rw [out vs e, List.set_set]
theorem wipe_wipe (σ : L2.St) (vs : List Nat) : wipe (wipe σ vs) vs = wipe σ vs := by
  have one : ∀ (us : List Nat) (τ : L2.St), (∀ u ∈ us, u ∈ vs) → wipe (wipe τ us) vs = wipe τ vs := by
    intro us
    induction us with
    | nil => intro τ _; rfl
    | cons u us ih =>
      intro τ h
      show wipe ((wipe τ us).set u none) vs = _
      rw [wipe_set (h u List.mem_cons_self), ih τ fun x hx => h x (List.mem_cons_of_mem _ hx)]
  exact one vs σ fun _ h => h

section
variable {K : PySem.W.Frag} {ρ : List Sl} {te ti : TE} {tt : TT} {tr : TA} {t u : TS} {D : DE} {i j : Nat} {pf : Bool} {wi : TI} {g : TG} {Ψ : List Dt → List Sl → Prop} {js : List Nat} {Φ : Dt → List Sl → Prop}
theorem wg_name {d : Dt} {Θ : List Sl → Prop} (h : Θ (ρ.set j (.dat d))) : WG K (gName j) [j] d ρ Θ := fun M σ H v S x Q q =>
  q _ _ (fun vs hv => wipe_set (hv j List.mem_cons_self)) (S.put x j) h
/-- several names -/
def WGs (K : PySem.W.Frag) (g : TGs) (js : List Nat) (ds : List Dt) (ρ : List Sl) (Θ : List Sl → Prop) : Prop :=
  ∀ (M : Md) (σ : L2.St) (H : Hp) (vs : List V), Sd K M H σ ρ → DXs K (cut M H) vs ds → ∀ Q : L2.St → Hp → Prop,
    (∀ σ' ρ', (∀ vs : List Nat, (∀ j ∈ js, j ∈ vs) → wipe σ' vs = wipe σ vs) → Sd K M H σ' ρ' → Θ ρ' → Q σ' H) → g vs σ H Q
theorem wgs_nil {Θ : List Sl → Prop} (h : Θ ρ) : WGs K gNil [] [] ρ Θ := fun M σ H vs S x Q q => by
  cases x
  exact ⟨rfl, q σ ρ (fun _ _ => rfl) S h⟩
theorem wgs_cons {g : TG} {gs : TGs} {js ks : List Nat} {d : Dt} {ds : List Dt} {Θ : List Sl → Prop} (h : WG K g js d ρ fun ρ1 => WGs K gs ks ds ρ1 Θ) : WGs K (gCons g gs) (js ++ ks) (d :: ds) ρ Θ := fun M σ H vs S x Q q => by
  cases x with
  | cons x1 x2 =>
    refine ⟨_, _, rfl, h M σ H _ S x1 _ fun σ1 ρ1 w1 S1 f1 => ?_⟩
    exact f1 M σ1 H _ S1 x2 _ fun σ2 ρ2 w2 S2 f2 => q σ2 ρ2 (fun vs hv => (w2 vs fun j hj => hv j (List.mem_append_right _ hj)).trans (w1 vs fun j hj => hv j (List.mem_append_left _ hj))) S2 f2
theorem wg_tup {gs : TGs} {n : Nat} {ds : List Dt} {Θ : List Sl → Prop} (hn : ds.length = n) (h : WGs K gs js ds ρ Θ) : WG K (gTup K n gs) js (.tup ds) ρ Θ := fun M σ H v S x Q q => by
  cases x with
  | tup hs ha => exact ⟨_, _, rfl, same_T (cut_sub M H) hs, by rw [ha.len]; exact hn, h M σ H _ S ha Q q⟩

/-! what is walked -/
theorem wi_list (h : Wp K pf te ρ fun d ρ1 => ∃ ds, d = .lst ds ∧ Ψ ds ρ1) : WI K pf (iList K te) ρ Ψ := fun M σ H S R q =>
  h M σ H S _ fun v H1 d ρ1 s1 S1 x1 ⟨ds, e, f⟩ => by
    subst e
    cases x1 with
    | lst hs ha =>
      refine ⟨_, rfl, ⟨_, (cut_sub M H1).seq hs⟩, q _ H1 ds ρ1 s1 S1 ⟨_, _, _, walk_list, ha.len, fun M' H' s => (cut_sub M' H').seq (s.seq hs), fun M' H' i x H'' s m hi y => ?_⟩ f⟩
      obtain ⟨e1, e2⟩ := y
      subst e1
      obtain ⟨d, g1, g2⟩ := ha.get e2
      exact ⟨Same.refl _, d, g1, g2.mono s⟩
theorem wi_tup (h : Wp K pf te ρ fun d ρ1 => ∃ ds, d = .tup ds ∧ Ψ ds ρ1) : WI K pf (iTup K te) ρ Ψ := fun M σ H S R q =>
  h M σ H S _ fun v H1 d ρ1 s1 S1 x1 ⟨ds, e, f⟩ => by
    subst e
    cases x1 with
    | tup hs ha =>
      refine ⟨_, rfl, ⟨_, same_T (cut_sub M H1) hs⟩, q _ H1 ds ρ1 s1 S1 ⟨_, _, _, walk_tup, ha.len, fun M' H' s => same_T (cut_sub M' H') (same_T s hs), fun M' H' i x H'' s m hi y => ?_⟩ f⟩
      obtain ⟨e1, e2⟩ := y
      subst e1
      obtain ⟨d, g1, g2⟩ := ha.get e2
      exact ⟨Same.refl _, d, g1, g2.mono s⟩
def rangeD (lo : Int) (n : Nat) : List Dt := (List.range n).map fun i => .int (lo + (i : Nat))
theorem rangeD_len (lo : Int) (n : Nat) : (rangeD lo n).length = n := by unfold rangeD; rw [List.length_map, List.length_range]
theorem rangeD_at {lo : Int} {n i : Nat} (h : i < n) : (rangeD lo n)[i]? = some (.int (lo + (i : Nat))) := by
  unfold rangeD
  rw [List.getElem?_map, List.getElem?_range h]
  rfl
theorem wi_rng1 (h : Wa K pf tr ρ fun ds ρ1 => ∃ n : Int, ds = [.int n] ∧ -(2 ^ 62) ≤ n ∧ n < 2 ^ 62 ∧ Ψ (rangeD 0 n.toNat) ρ1) : WI K pf (iRng1 tr) ρ Ψ := fun M σ H S R q =>
  h M σ H S _ fun vs H1 ds ρ1 s1 S1 x1 ⟨n, e, h1, h2, f⟩ => by
    subst e
    have ev : vs = [.int n] := DXs.ints (ns := [n]) x1
    refine ⟨n, ev, h1, h2, q _ H1 _ ρ1 s1 S1 ⟨_, _, _, walk_range, (rangeD_len 0 n.toNat).symm, fun _ _ _ => trivial, fun M' H' i x H'' s m hi y => ?_⟩ f⟩
    obtain ⟨e1, e2⟩ := y
    subst e1 e2
    exact ⟨Same.refl _, _, rangeD_at hi, .int _⟩
theorem wi_rng2 (h : Wa K pf tr ρ fun ds ρ1 => ∃ lo n : Int, ds = [.int lo, .int n] ∧ (-(2 ^ 62) ≤ lo ∧ lo < 2 ^ 62 ∧ -(2 ^ 62) ≤ n ∧ n < 2 ^ 62) ∧ Ψ (rangeD lo (n - lo).toNat) ρ1) : WI K pf (iRng2 tr) ρ Ψ := fun M σ H S R q =>
  h M σ H S _ fun vs H1 ds ρ1 s1 S1 x1 ⟨lo, n, e, h1, f⟩ => by
    subst e
    have ev : vs = [.int lo, .int n] := DXs.ints (ns := [lo, n]) x1
    refine ⟨lo, n, ev, h1, q _ H1 _ ρ1 s1 S1 ⟨_, _, _, walk_range, (rangeD_len lo (n - lo).toNat).symm, fun _ _ _ => trivial, fun M' H' i x H'' s m hi y => ?_⟩ f⟩
    obtain ⟨e1, e2⟩ := y
    subst e1 e2
    exact ⟨Same.refl _, _, rangeD_at hi, .int _⟩
def signs (z : Str) : List Dt := z.cps.toList.map fun c => .str ⟨#[c]⟩
theorem wi_str (h : Wp K pf te ρ fun d ρ1 => ∃ z, d = .str z ∧ Ψ (signs z) ρ1) : WI K pf (iStr te) ρ Ψ := fun M σ H S R q =>
  h M σ H S _ fun v H1 d ρ1 s1 S1 x1 ⟨z, e, f⟩ => by
    subst e
    refine ⟨z, x1.str_eq, q _ H1 _ ρ1 s1 S1 ⟨_, _, _, walk_str, by unfold signs; rw [List.length_map, Array.length_toList], fun _ _ _ => trivial, fun M' H' i x H'' s m hi y => ?_⟩ f⟩
    obtain ⟨e1, c, e2, e3⟩ := y
    subst e1 e3
    refine ⟨Same.refl _, _, ?_, .str _⟩
    unfold signs
    rw [List.getElem?_map, Array.getElem?_toList, e2]
    rfl

/-! for -/
theorem for_at (I : List Dt → Nat → List Sl → Prop) (M : Md) (σ : L2.St) (H : Hp) (h : ∀ R : It → Hp → Prop, (∀ J H1 ds ρ1, Tr pf M H H1 → Sd K M H1 σ ρ1 → WkOk K M H1 J ds → (I ds 0 ρ1 ∧ (∀ i d ρ2, ds[i]? = some d → I ds i ρ2 → WG K g js d ρ2 fun ρ3 => Ws K t ρ3 { D with nx := I ds (i + 1), ct := I ds (i + 1), bk := D.nx }) ∧
    ∀ ρ2, I ds ds.length ρ2 → D.nx ρ2) → R J H1) → wi σ H R) (E : Ends) (k : EOk K M H E D) : tFor wi g t E σ H :=
  h _ fun J H1 ds ρ1 s1 S1 ⟨n, G, Y, w, hn, hG, hY⟩ ⟨i0, turn, fin⟩ => by
    subst hn
    refine for_it w (fun i σ' H' => ∃ M' ρ', Stp M H1 M' H' ∧ Sd K M' H' σ' ρ' ∧ I ds i ρ') ⟨M, ρ1, Stp.refl M H1, S1, i0⟩ (fun i σ' H' _ ⟨M', ρ', s, _, _⟩ => hG M' H' s.dx) (fun i x σ' H' H'' hi ⟨M', ρ', s, S', f⟩ y => ?_) (fun σ' H' ⟨M', ρ', s, S', f⟩ => k.nx M' σ' H' ρ' (s1.st.trans s) S' (fin ρ' f))
    obtain ⟨e, d, hd, xd⟩ := hY M' H' i x H'' s.dx S'.mok hi y
    refine turn i d ρ' hd f M' σ' H'' x (S'.same e) xd _ fun σ2 ρ2 _ S2 f2 => ?_
    have s2 : Stp M H1 M' H'' := s.trans (Stp.same M' e)
    have k2 := k.step (s1.st.trans s2)
    exact f2 M' σ2 H'' S2 _ ⟨fun M3 σ3 H3 ρ3 s3 S3 z => ⟨M3, ρ3, s2.trans s3, S3, z⟩, k2.rt, fun M3 σ3 H3 ρ3 s3 S3 z => k2.nx M3 σ3 H3 ρ3 s3 S3 z, fun M3 σ3 H3 ρ3 s3 S3 z => ⟨M3, ρ3, s2.trans s3, S3, z⟩, k2.ex⟩

theorem ws_for (I : List Dt → Nat → List Sl → Prop) (h : WI K pf wi ρ fun ds ρ1 => I ds 0 ρ1 ∧ (∀ i d ρ2, ds[i]? = some d → I ds i ρ2 → WG K g js d ρ2 fun ρ3 => Ws K t ρ3 { D with nx := I ds (i + 1), ct := I ds (i + 1), bk := D.nx }) ∧
    ∀ ρ2, I ds ds.length ρ2 → D.nx ρ2) : Ws K (tFor wi g t) ρ D := fun M σ H S E k => for_at I M σ H (h M σ H S) E k

/-! comprehensions -/
def wipeS (ρ : List Sl) : List Nat → List Sl
  | [] => ρ
  | v :: vs => (wipeS ρ vs).set v .any
theorem wipeS_len (ρ : List Sl) : ∀ vs : List Nat, (wipeS ρ vs).length = ρ.length
  | [] => rfl
  | v :: vs => by unfold wipeS; rw [List.length_set, wipeS_len ρ vs]
theorem wipeS_at {ρ : List Sl} {s : Sl} : ∀ {vs : List Nat} {i : Nat}, (wipeS ρ vs)[i]? = some s → s = .any ∨ (i ∉ vs ∧ ρ[i]? = some s)
  | [], i, h => .inr ⟨(fun z => nomatch z), h⟩
  | v :: vs, i, h => by
    have h : ((wipeS ρ vs).set v .any)[i]? = some s := h
    by_cases e : v = i
    · subst e
      by_cases hv : v < (wipeS ρ vs).length
      · rw [List.getElem?_set_self hv] at h
        exact .inl (Option.some.inj h).symm
      · rw [List.getElem?_eq_none (by rw [List.length_set]; omega)] at h; cases h
    · rw [List.getElem?_set_ne e] at h
      rcases wipeS_at h with z | ⟨z, y⟩
      · exact .inl z
      · refine .inr ⟨fun m => ?_, y⟩
        rcases List.mem_cons.mp m with m | m
        · exact e m.symm
        · exact z m
theorem wipe_at {σ : L2.St} : ∀ {vs : List Nat} {i : Nat}, i ∉ vs → (wipe σ vs)[i]? = σ[i]?
  | [], _, _ => rfl
  | v :: vs, i, h => by
    show ((wipe σ vs).set v none)[i]? = _
    rw [List.getElem?_set_ne (fun e => h (by rw [e]; exact List.mem_cons_self)), wipe_at fun z => h (List.mem_cons_of_mem _ z)]
theorem Sd.wipe {M : Md} {H : Hp} {σ : L2.St} (S : Sd K M H σ ρ) (vs : List Nat) : Sd K M H (L2.wipe σ vs) (wipeS ρ vs) := by
  refine ⟨by rw [wipe_length, wipeS_len]; exact S.len, by rw [wipeS_len]; exact S.olen, S.mok, fun i s h => ?_⟩
  rcases wipeS_at h with e | ⟨e, h⟩
  · subst e
    have hi : i < (L2.wipe σ vs).length := by rw [wipe_length, S.len, ← wipeS_len ρ vs]; exact (List.getElem?_eq_some_iff.mp h).1
    exact ⟨_, List.getElem?_eq_getElem hi, trivial⟩
  · obtain ⟨o, h1, h2⟩ := S.ok i s h
    exact ⟨o, by rw [wipe_at e]; exact h1, h2⟩
theorem Sd.unwipe {M : Md} {H : Hp} {σ : L2.St} {vs : List Nat} {ρ0 : List Sl} (S : Sd K M H (L2.wipe σ vs) (wipeS ρ0 vs)) : Sd K M H σ (wipeS ρ0 vs) := by
  refine ⟨by rw [← wipe_length σ vs]; exact S.len, S.olen, S.mok, fun i s h => ?_⟩
  rcases wipeS_at h with e | ⟨e, _⟩
  · subst e
    have hi : i < σ.length := by rw [← wipe_length σ vs, S.len]; exact (List.getElem?_eq_some_iff.mp h).1
    exact ⟨_, List.getElem?_eq_getElem hi, trivial⟩
  · obtain ⟨o, h1, h2⟩ := S.ok i s h
    exact ⟨o, by rw [← wipe_at (σ := σ) e]; exact h1, h2⟩
theorem Sd.back {M : Md} {H : Hp} {σ : L2.St} {q : Addr} (S : Sd K { M with F := q :: M.F } H σ ρ) : Sd K M H σ ρ := by
  have has : ∀ a, M.has a → ({ M with F := q :: M.F } : Md).has a := fun a h => by
    rcases h with h | h | h
    · exact .inl h
    · exact .inr (.inl (List.mem_cons_of_mem _ h))
    · exact .inr (.inr h)
  have sc : Same (cut { M with F := q :: M.F } H) (cut M H) := cut_le has
  refine ⟨S.len, S.olen, ⟨fun a h => S.mok.live a (has a h), fun a h => ⟨fun z => (S.mok.pF a h).1 (List.mem_cons_of_mem _ z), (S.mok.pF a h).2⟩, fun a h => S.mok.FO a (List.mem_cons_of_mem _ h), S.mok.nd, S.mok.tbU rfl (fun _ _ _ z => z) sc⟩, fun j s h => ?_⟩
  obtain ⟨o, h1, h2⟩ := S.ok j s h
  refine ⟨o, h1, ?_⟩
  cases s with
  | any => trivial
  | dat d => obtain ⟨v, a1, a2⟩ := h2; exact ⟨v, a1, a2.mono sc⟩
  | val u d => obtain ⟨a1, a2⟩ := h2; exact ⟨a1, a2.mono sc⟩
  | own es => obtain ⟨l', ws', a1, a2, a3, a4⟩ := h2; exact ⟨l', ws', a1, a2, a3, a4.mono sc⟩
  | obj C0 b0 ns0 es => obtain ⟨l', dx0, ws', a1, a2, a3, a5, a4⟩ := h2; exact ⟨l', dx0, ws', a1, a2, a3, a5, a4.mono sc⟩
  | ownd es => obtain ⟨l', ws', a1, a2, a3, a4⟩ := h2; exact ⟨l', ws', a1, a2, a3, a4.mono sc⟩
  | pen m => obtain ⟨p', a1, a2, l', ns, c, g, b1, b2, b3⟩ := h2; exact ⟨p', a1, a2, l', ns, c, g, b1, sc.seq b2, b3⟩
  | pown es => obtain ⟨p', ws', a1, a2, a3, a4⟩ := h2; exact ⟨p', ws', a1, a2, a3, a4.mono sc⟩
/-- the heap at q may be written while q is set aside -/
theorem Sd.poke {M : Md} {H : Hp} {σ : L2.St} {q : Addr} {o : HO} (S : Sd K { M with F := q :: M.F } H σ ρ) : Sd K { M with F := q :: M.F } (upd H q o) σ ρ := by
  have hq : ({ M with F := q :: M.F } : Md).has q := .inr (.inl List.mem_cons_self)
  have sc : Same (cut { M with F := q :: M.F } H) (cut { M with F := q :: M.F } (upd H q o)) := fun a u z => by
    obtain ⟨c, y⟩ := cut_of z
    exact cut_at c (by rw [upd_ne fun n => c (by rw [n]; exact hq)]; exact y)
  refine ⟨S.len, S.olen, ⟨fun a h => ?_, S.mok.pF, S.mok.FO, S.mok.nd, S.mok.tbU rfl (fun a ha _ z => by rw [upd_ne fun n => (S.mok.pF a ha).1 (by rw [n]; exact List.mem_cons_self)]; exact z) sc⟩, fun j s h => ?_⟩
  · by_cases n : a = q
    · exact ⟨_, by rw [n]; exact upd_same⟩
    · obtain ⟨u, z⟩ := S.mok.live a h
      exact ⟨u, by rw [upd_ne n]; exact z⟩
  · obtain ⟨u, h1, h2⟩ := S.ok j s h
    refine ⟨u, h1, ?_⟩
    cases s with
    | any => trivial
    | dat d => obtain ⟨v, a1, a2⟩ := h2; exact ⟨v, a1, a2.mono sc⟩
    | val u d => obtain ⟨a1, a2⟩ := h2; exact ⟨a1, a2.mono sc⟩
    | own es =>
      obtain ⟨l', ws', a1, a2, a3, a4⟩ := h2
      exact ⟨l', ws', a1, a2, by rw [upd_ne fun n => S.mok.FO q List.mem_cons_self (by rw [← n]; exact List.mem_of_getElem? a2)]; exact a3, a4.mono sc⟩
    | obj C0 b0 ns0 es =>
      obtain ⟨l', dx0, ws', a1, a2, a3, a5, a4⟩ := h2
      exact ⟨l', dx0, ws', a1, a2, by rw [upd_ne fun n => S.mok.FO q List.mem_cons_self (by rw [← n]; exact List.mem_of_getElem? a2)]; exact a3, a5, a4.mono sc⟩
    | ownd es =>
      obtain ⟨l', ws', a1, a2, a3, a4⟩ := h2
      exact ⟨l', ws', a1, a2, by rw [upd_ne fun n => S.mok.FO q List.mem_cons_self (by rw [← n]; exact List.mem_of_getElem? a2)]; exact a3, a4.mono sc⟩
    | pen m =>
      obtain ⟨p', a1, a2, l', ns, c, g, b1, b2, b3⟩ := h2
      exact ⟨p', a1, a2, l', ns, c, g, by rw [upd_ne fun n => (S.mok.pp a2).1 (by rw [n]; exact List.mem_cons_self)]; exact b1, sc.seq b2, b3⟩
    | pown es => obtain ⟨p', ws', a1, a2, a3, a4⟩ := h2; exact ⟨p', ws', a1, a2, by rw [upd_ne fun n => (S.mok.pp a2).1 (by rw [n]; exact List.mem_cons_self)]; exact a3, a4.mono sc⟩
/-- the comprehension itself: I by what is walked, the turn, what is made so far, the slots -/
structure LcI (K : PySem.W.Frag) (pf : Bool) (g : TG) (js : List Nat) (tt : TT) (te : TE) (vs : List Nat) (Φ : List Dt → List Sl → Prop) (ds : List Dt) (ρ1 : List Sl) : Prop where
  ex : ∃ I : Nat → List Dt → List Sl → Prop, I 0 [] (wipeS ρ1 vs) ∧ ds.length ≤ 50000 ∧
    (∀ i d acc ρ2, ds[i]? = some d → I i acc ρ2 → WG K g js d ρ2 fun ρ3 => Wt K pf tt ρ3 fun c ρ4 => if c = true then Wp K pf te ρ4 fun y ρ5 => I (i + 1) (acc ++ [y]) (wipeS ρ5 vs) else I (i + 1) acc (wipeS ρ4 vs)) ∧
    ∀ acc ρ2, I ds.length acc ρ2 → Φ acc ρ2
theorem lc_at {vs : List Nat} {Φ : List Dt → List Sl → Prop} (hjs : ∀ j ∈ js, j ∈ vs) (M : Md) (σ : L2.St) (H : Hp) (h : ∀ R : It → Hp → Prop, (∀ J H1 ds ρ1, Tr pf M H H1 → Sd K M H1 σ ρ1 → WkOk K M H1 J ds → LcI K pf g js tt te vs Φ ds ρ1 → R J H1) → wi σ H R) (Q : VK)
    (q : ∀ (q : Addr) (H2 : Hp) (acc : List V) (ads : List Dt) (ρ0 : List Sl), H q = none → Tr pf M H H2 → H2 q = some (.lst acc) → DXs K (cut { M with F := q :: M.F } H2) acc ads →
      Sd K { M with F := q :: M.F } H2 σ (wipeS ρ0 vs) → ¬ M.has q → Φ ads (wipeS ρ0 vs) → Q (.ref q) H2) : tLc wi g tt te vs σ H Q :=
  h _ fun J H1 ds ρ1 s1 S1 ⟨n, G, Y, w, hn, hG, hY⟩ ⟨I, i0, hz, turn, fin⟩ => by
    intro q0 hq
    subst hn
    have nq := S1.mok.new hq
    have hq0 : H q0 = none := by
      cases e : H q0 with
      | none => rfl
      | some o =>
        obtain ⟨z, _⟩ := s1.st.keep q0 o e (fun y => nq (.inl y)) (fun y => nq (.inr (.inr y)))
        rw [hq] at z; cases z
    have comp : ∀ {H' H'' : Hp}, Tr pf M H1 H' → Tr pf { M with F := q0 :: M.F } H' H'' → Tr pf M H1 H'' := fun a b =>
      ⟨⟨rfl, rfl, fun x o e c d => let ⟨z, y⟩ := a.st.keep x o e c d; b.st.keep x o z c y⟩, fun y => (a.sm y).trans (b.sm y)⟩
    have put : ∀ {H' : Hp} {o : HO}, Tr pf M H1 H' → Tr pf M H1 (upd H' q0 o) := fun a =>
      ⟨⟨rfl, rfl, fun x o e c d => let ⟨z, y⟩ := a.st.keep x o e c d; ⟨by rw [upd_ne (ne_of_none e hq)]; exact z, y⟩⟩, fun y x o e => by rw [upd_ne (ne_of_none e hq)]; exact a.sm y x o e⟩
    have scut : ∀ {H' : Hp}, Tr pf M H1 H' → Same (cut M H1) (cut { M with F := q0 :: M.F } H') := fun a x o e => by
      obtain ⟨c, z⟩ := cut_of e
      obtain ⟨y, _⟩ := a.st.keep x o z (fun t => c (.inl t)) (fun t => c (.inr (.inr t)))
      refine cut_at (fun t => ?_) y
      rcases t with t | t | t
      · exact c (.inl t)
      · rcases List.mem_cons.mp t with t | t
        · exact ne_of_none z hq t
        · exact c (.inr (.inl t))
      · exact c (.inr (.inr t))
    refine lc_it w (fun i H' => ∃ acc ads ρ0, H' q0 = some (.lst acc) ∧ Tr pf M H1 H' ∧ Sd K { M with F := q0 :: M.F } H' (L2.wipe σ vs) (wipeS ρ0 vs) ∧ DXs K (cut { M with F := q0 :: M.F } H') acc ads ∧ I i ads (wipeS ρ0 vs) ∧ ads.length ≤ i) ?_ ?_ ?_ ?_
    · exact ⟨[], [], ρ1, upd_same, put (Tr.refl pf M H1), (S1.aside hq (same_new hq) upd_same).wipe vs, .nil, i0, Nat.zero_le _⟩
    · rintro i H' _ ⟨acc, ads, ρ0, _, tr, _⟩
      exact hG _ H' (scut tr)
    · rintro i x H' H'' hi ⟨acc, ads, ρ0, hD, tr, S', xa, f, hl⟩ y
      obtain ⟨e, d, hd, xd⟩ := hY _ H' i x H'' (scut tr) S'.mok hi y
      refine turn i d ads _ hd f _ _ H'' x (S'.same e) xd _ fun σ2 ρ2 w2 S2 f2 => ⟨by rw [w2 vs hjs, wipe_wipe], ?_⟩
      have tr2 : Tr pf M H1 H'' := comp tr (Tr.same pf _ e)
      have w3 : L2.wipe σ2 vs = L2.wipe σ vs := by rw [w2 vs hjs, wipe_wipe]
      refine f2 _ σ2 H'' S2 _ fun b H3 ρ3 s3 S3 f3 => ?_
      have tr3 := comp tr2 s3
      cases b with
      | true =>
        rw [if_pos rfl] at f3 ⊢
        refine f3 _ σ2 H3 S3 _ fun v H4 d4 ρ4 s4 S4 x4 f4 => ?_
        have tr4 := comp tr3 s4
        have kq : ∀ {Ha Hb : Hp} {o : HO}, Tr pf { M with F := q0 :: M.F } Ha Hb → Ha q0 = some o → Hb q0 = some o := fun a z => (a.st.keep q0 _ z (fun t => nq (.inl t)) (fun t => nq (.inr (.inr t)))).1
        refine ⟨acc, kq s4 (kq s3 (e _ _ hD)), ?_, acc ++ [v], ads ++ [d4], ρ4, upd_same, put tr4, ?_, ?_, f4, ?_⟩
        · rw [xa.len]; exact Nat.lt_of_le_of_lt hl (Nat.lt_of_lt_of_le hi (Nat.le_trans hz (by decide)))
        · rw [← w3]; exact (S4.wipe vs).poke
        · have pk : Same (cut { M with F := q0 :: M.F } H4) (cut { M with F := q0 :: M.F } (upd H4 q0 (.lst (acc ++ [v])))) := fun a u z => by
            obtain ⟨c, y⟩ := cut_of z
            exact cut_at c (by rw [upd_ne fun n => c (.inr (.inl (by rw [n]; exact List.mem_cons_self)))]; exact y)
          exact (((xa.mono (cut_same _ e)).mono s3.dx).mono s4.dx |>.append (.one x4)).mono pk
        · rw [List.length_append, List.length_singleton]; omega
      | false =>
        rw [if_neg Bool.false_ne_true] at f3 ⊢
        have kq : ∀ {Ha Hb : Hp} {o : HO}, Tr pf { M with F := q0 :: M.F } Ha Hb → Ha q0 = some o → Hb q0 = some o := fun a z => (a.st.keep q0 _ z (fun t => nq (.inl t)) (fun t => nq (.inr (.inr t)))).1
        exact ⟨acc, ads, ρ3, kq s3 (e _ _ hD), tr3, by rw [← w3]; exact S3.wipe vs, (xa.mono (cut_same _ e)).mono s3.dx, f3, Nat.le_succ_of_le hl⟩
    · rintro H' ⟨acc, ads, ρ0, hD, tr, S', xa, f, hl⟩
      exact q q0 H' acc ads ρ0 hq0 (s1.trans tr) hD xa S'.unwipe nq (fin ads _ f)
theorem lc_run {vs : List Nat} {Φ : List Dt → List Sl → Prop} (hjs : ∀ j ∈ js, j ∈ vs) (h : WI K pf wi ρ fun ds ρ1 => LcI K pf g js tt te vs Φ ds ρ1) (M : Md) (σ : L2.St) (H : Hp) (S : Sd K M H σ ρ) (Q : VK)
    (q : ∀ (q : Addr) (H2 : Hp) (acc : List V) (ads : List Dt) (ρ0 : List Sl), H q = none → Tr pf M H H2 → H2 q = some (.lst acc) → DXs K (cut { M with F := q :: M.F } H2) acc ads →
      Sd K { M with F := q :: M.F } H2 σ (wipeS ρ0 vs) → ¬ M.has q → Φ ads (wipeS ρ0 vs) → Q (.ref q) H2) : tLc wi g tt te vs σ H Q := lc_at hjs M σ H (h M σ H S) Q q
theorem has_aside {M : Md} {q : Addr} : ∀ a, M.has a → ({ M with F := q :: M.F } : Md).has a := fun a h => by
  rcases h with h | h | h
  · exact .inl h
  · exact .inr (.inl (List.mem_cons_of_mem _ h))
  · exact .inr (.inr h)
theorem w_lc {vs : List Nat} (hjs : ∀ j ∈ js, j ∈ vs) (h : WI K pf wi ρ fun ds ρ1 => LcI K pf g js tt te vs (fun es ρ' => Φ (.lst es) ρ') ds ρ1) : Wp K pf (tLc wi g tt te vs) ρ Φ := fun M σ H S Q q =>
  lc_run hjs h M σ H S Q fun q0 H2 acc ads ρ0 h0 tr hD xa S2 nq f => q (.ref q0) H2 (.lst ads) _ tr S2.back (.lst (.inl (.inl (cut_at nq hD))) (xa.mono (cut_le has_aside))) f
theorem ws_ownlc {vs : List Nat} (hjs : ∀ j ∈ js, j ∈ vs) (hi : i < ρ.length) (h : WI K pf wi ρ fun ds ρ1 => LcI K pf g js tt te vs (fun es ρ' => i < ρ'.length ∧ D.nx (ρ'.set i (.own es))) ds ρ1) : Ws K (tAsg (tLc wi g tt te vs) (gName i)) ρ D := fun M σ H S E k =>
  lc_run hjs h M σ H S _ fun q0 H2 acc ads ρ0 h0 tr hD xa S2 nq ⟨hl, f⟩ => by
    refine k.nx { M with O := M.O.set i (some q0) } _ H2 _ ⟨rfl, rfl, fun a o z c d => ?_⟩ (S2.back.own hl nq hD xa S2) f
    obtain ⟨z1, z2⟩ := tr.st.keep a o z c d
    refine ⟨z1, fun y => ?_⟩
    rcases List.mem_or_eq_of_mem_set y with y | y
    · exact d y
    · exact ne_of_none z h0 (Option.some.inj y)
end
end DL

/-! Data level: operators, subscripts, slices, built-ins. -/
namespace DL
open PySem PySem.Spec PyProof.Rows L2
variable [Tb]

section
variable {K : PySem.W.Frag} {Ψ : Dt → Prop} {d1 d2 : Dt} {i j : Int} {x y : Str} {a b : Bool}
/-! numbers -/
theorem od_I0i {g : Int → Int → Int} (h : Ψ (.int (g i j))) : OD K (rI0 fun i j => .int (g i j)) (.int i) (.int j) Ψ := fun M H u v m h1 h2 Q q =>
  ⟨i, j, h1.int_eq, h2.int_eq, q _ H _ (Same.refl H) (.int _) h⟩
theorem od_I0b {g : Int → Int → Bool} (h : Ψ (.bl (g i j))) : OD K (rI0 fun i j => .bl (g i j)) (.int i) (.int j) Ψ := fun M H u v m h1 h2 Q q =>
  ⟨i, j, h1.int_eq, h2.int_eq, q _ H _ (Same.refl H) (.bl _) h⟩
theorem od_I {C : Int → Int → Prop} {g : Int → Int → Int} (c : C i j) (h : Ψ (.int (g i j))) : OD K (rI C fun i j => .int (g i j)) (.int i) (.int j) Ψ := fun M H u v m h1 h2 Q q =>
  ⟨i, j, h1.int_eq, h2.int_eq, c, q _ H _ (Same.refl H) (.int _) h⟩
theorem ud_U {g : Int → Int} (h : Ψ (.int (g i))) : UD K (rU fun i => .int (g i)) (.int i) Ψ := fun M H u m h1 Q q => ⟨i, h1.int_eq, q _ H _ (Same.refl H) (.int _) h⟩
/-! texts -/
theorem od_SSb {g : Str → Str → Bool} (h : Ψ (.bl (g x y))) : OD K (fun u v H Q => ∃ i j, u = .str i ∧ v = .str j ∧ Q (.bl (g i j)) H) (.str x) (.str y) Ψ := fun M H u v m h1 h2 Q q =>
  ⟨x, y, h1.str_eq, h2.str_eq, q _ H _ (Same.refl H) (.bl _) h⟩
theorem od_cat_str (hl : x.length + y.length ≤ sizeLine) (h : Ψ (.str (x ++ y))) : OD K (fun u v H Q => ∃ i j, u = .str i ∧ v = .str j ∧ i.length + j.length ≤ sizeLine ∧ Q (.str (i ++ j)) H) (.str x) (.str y) Ψ := fun M H u v m h1 h2 Q q =>
  ⟨x, y, h1.str_eq, h2.str_eq, hl, q _ H _ (Same.refl H) (.str _) h⟩
/-! == and != of scalars -/
theorem od_eqi (h : Ψ (.bl (decide (i = j)))) : OD K rEq (.int i) (.int j) Ψ := fun M H u v m h1 h2 Q q => by
  rw [h1.int_eq, h2.int_eq]
  have e : decide (V.int i = V.int j) = decide (i = j) := decide_eq_decide.mpr ⟨fun z => V.int.inj z, fun z => by rw [z]⟩
  exact ⟨rfl, by rw [e]; exact q _ H _ (Same.refl H) (.bl _) h⟩
theorem od_nei (h : Ψ (.bl (!decide (i = j)))) : OD K rNe (.int i) (.int j) Ψ := fun M H u v m h1 h2 Q q => by
  rw [h1.int_eq, h2.int_eq]
  have e : decide (V.int i = V.int j) = decide (i = j) := decide_eq_decide.mpr ⟨fun z => V.int.inj z, fun z => by rw [z]⟩
  exact ⟨rfl, by rw [e]; exact q _ H _ (Same.refl H) (.bl _) h⟩
theorem od_eqs (h : Ψ (.bl (decide (x = y)))) : OD K rEq (.str x) (.str y) Ψ := fun M H u v m h1 h2 Q q => by
  rw [h1.str_eq, h2.str_eq]
  have e : decide (V.str x = V.str y) = decide (x = y) := decide_eq_decide.mpr ⟨fun z => V.str.inj z, fun z => by rw [z]⟩
  exact ⟨rfl, by rw [e]; exact q _ H _ (Same.refl H) (.bl _) h⟩
theorem od_nes (h : Ψ (.bl (!decide (x = y)))) : OD K rNe (.str x) (.str y) Ψ := fun M H u v m h1 h2 Q q => by
  rw [h1.str_eq, h2.str_eq]
  have e : decide (V.str x = V.str y) = decide (x = y) := decide_eq_decide.mpr ⟨fun z => V.str.inj z, fun z => by rw [z]⟩
  exact ⟨rfl, by rw [e]; exact q _ H _ (Same.refl H) (.bl _) h⟩
theorem od_eqb (h : Ψ (.bl (decide (a = b)))) : OD K rEq (.bl a) (.bl b) Ψ := fun M H u v m h1 h2 Q q => by
  rw [h1.bl_eq, h2.bl_eq]
  have e : decide (V.bl a = V.bl b) = decide (a = b) := decide_eq_decide.mpr ⟨fun z => V.bl.inj z, fun z => by rw [z]⟩
  exact ⟨rfl, by rw [e]; exact q _ H _ (Same.refl H) (.bl _) h⟩
/-! is None -/
def isNon : Dt → Bool
  | .non => true
  | _ => false
theorem isNon_of {M : Hp} {v : V} {d : Dt} (h : DX K M v d) : decide (v = V.non) = isNon d := by
  cases h <;> rfl
theorem od_isN (h : Ψ (.bl (isNon d1))) : OD K (fun x y H Q => y = .non ∧ Q (.bl (decide (x = .non))) H) d1 .non Ψ := fun M H u v m h1 h2 Q q =>
  ⟨h2.non_eq, by rw [isNon_of h1]; exact q _ H _ (Same.refl H) (.bl _) h⟩
theorem od_notN (h : Ψ (.bl (!isNon d1))) : OD K (fun x y H Q => y = .non ∧ Q (.bl (!decide (x = .non))) H) d1 .non Ψ := fun M H u v m h1 h2 Q q =>
  ⟨h2.non_eq, by rw [isNon_of h1]; exact q _ H _ (Same.refl H) (.bl _) h⟩
end

/-! ### subscripts -/
section
variable {K : PySem.W.Frag} {Ψ : Dt → Prop} {d : Dt} {ds es : List Dt} {i : Int} {z : Str}
theorem DXs.atI {H : Hp} {vs : List V} (h : DXs K H vs ds) (e : L2.atI ds i = some d) : ∃ v, L2.atI vs i = some v ∧ DX K H v d := by
  unfold L2.atI at e ⊢
  rw [h.len]
  cases c : ixN ds.length i with
  | none => rw [c] at e; cases e
  | some j =>
    rw [c] at e
    exact h.getd e
theorem od_ixL (e : L2.atI ds i = some d) (h : Ψ d) : OD K (rIxL K) (.lst ds) (.int i) Ψ := fun M H u v m h1 h2 Q q => by
  cases h1 with
  | lst hs ha =>
    obtain ⟨w, e1, x⟩ := ha.atI e
    exact ⟨_, _, i, w, rfl, h2.int_eq, (cut_sub M H).seq hs, e1, q w H d (Same.refl H) x h⟩
theorem od_ixT (e : L2.atI ds i = some d) (h : Ψ d) : OD K (rIxT K) (.tup ds) (.int i) Ψ := fun M H u v m h1 h2 Q q => by
  cases h1 with
  | tup hs ha =>
    obtain ⟨w, e1, x⟩ := ha.atI e
    exact ⟨_, _, i, w, rfl, h2.int_eq, same_T (cut_sub M H) hs, e1, q w H d (Same.refl H) x h⟩
theorem od_ixS {c : Nat} (hz : z.length ≤ sizeLine) (e : L2.atI z.cps.toList i = some c) (h : Ψ (.str ⟨#[c]⟩)) : OD K rIxS (.str z) (.int i) Ψ := fun M H u v m h1 h2 Q q =>
  ⟨z, i, c, h1.str_eq, h2.int_eq, hz, e, q _ H _ (Same.refl H) (.str _) h⟩
/-- whatever kind of sequence -/
def seqD : Dt → Option (List Dt)
  | .lst ds => some ds
  | .tup ds => some ds
  | _ => none
theorem od_ix {d0 : Dt} (hs : seqD d0 = some ds) (e : L2.atI ds i = some d) (h : Ψ d) : OD K (rIx K) d0 (.int i) Ψ := fun M H u v m h1 h2 Q q => by
  cases d0 with
  | lst es => cases hs; exact .inl (od_ixL e h M H u v m h1 h2 Q q)
  | tup es => cases hs; exact .inr (.inl (od_ixT e h M H u v m h1 h2 Q q))
  | _ => cases hs
theorem od_ixs {c : Nat} (hz : z.length ≤ sizeLine) (e : L2.atI z.cps.toList i = some c) (h : Ψ (.str ⟨#[c]⟩)) : OD K (rIx K) (.str z) (.int i) Ψ := fun M H u v m h1 h2 Q q =>
  .inr (.inr (od_ixS hz e h M H u v m h1 h2 Q q))
theorem atI_nat' {α : Type} {xs : List α} {j : Nat} {v : α} (h : xs[j]? = some v) : L2.atI xs (j : Int) = some v := atI_nat h

/-! ### slices -/
def Wo (K : PySem.W.Frag) (f : Bool) (to : TO) (ρ : List Sl) (Φ : Option Int → List Sl → Prop) : Prop :=
  ∀ (M : Md) (σ : L2.St) (H : Hp), Sd K M H σ ρ → ∀ Q : Option Int → Hp → Prop, (∀ o H2 ρ', Tr f M H H2 → Sd K M H2 σ ρ' → Φ o ρ' → Q o H2) → to σ H Q
variable {pf : Bool} {ρ : List Sl} {Φ : Dt → List Sl → Prop} {te tx : TE} {tl th : TO}
theorem wo_none {Ω : Option Int → List Sl → Prop} (h : Ω none ρ) : Wo K pf tNoPart ρ Ω := fun M σ H S Q q => q none H ρ (Tr.refl pf M H) S h
theorem wo_some {Ω : Option Int → List Sl → Prop} (h : Wp K pf te ρ fun d ρ1 => ∃ i, d = .int i ∧ Ω (some i) ρ1) : Wo K pf (tPart te) ρ Ω := fun M σ H S Q q =>
  h M σ H S _ fun v H1 d ρ1 s1 S1 x1 ⟨i, e, f⟩ => by subst e; exact ⟨i, x1.int_eq, q (some i) H1 ρ1 s1 S1 f⟩
def SlD (K : PySem.W.Frag) (r : V → Option Int → Option Int → Hp → VK → Prop) (d : Dt) (lo hi : Option Int) (Ψ : Dt → Prop) : Prop :=
  ∀ (M : Md) (H : Hp) (x : V), MOk M H → DX K (cut M H) x d → ∀ Q : VK, (∀ v H2 d, Same H H2 → DX K (cut M H2) v d → Ψ d → Q v H2) → r x lo hi H Q
theorem w_sl {r : V → Option Int → Option Int → Hp → VK → Prop} (h : Wp K pf tx ρ fun d ρ1 => Wo K pf tl ρ1 fun lo ρ2 => Wo K pf th ρ2 fun hi ρ3 => SlD K r d lo hi fun e => Φ e ρ3) : Wp K pf (tSl r tx tl th) ρ Φ := fun M σ H S Q q =>
  h M σ H S _ fun v1 H1 d1 ρ1 s1 S1 x1 k1 => k1 M σ H1 S1 _ fun lo H2 ρ2 s2 S2 k2 => k2 M σ H2 S2 _ fun hi H3 ρ3 s3 S3 k3 =>
    k3 M H3 v1 S3.mok ((x1.mono s2.dx).mono s3.dx) _ fun v H4 d e x f => q v H4 d ρ3 (((s1.trans s2).trans s3).trans (Tr.same pf M e)) (S3.same e) x f
def cutD (ds : List Dt) (lo hi : Option Int) : List Dt := (ds.drop (HT.sIx ds.length 0 lo)).take (HT.sIx ds.length ds.length hi - HT.sIx ds.length 0 lo)
theorem DXs.cutV {H : Hp} {vs : List V} (h : DXs K H vs ds) (lo hi : Option Int) : DXs K H (L2.cutV vs lo hi) (cutD ds lo hi) := by
  unfold L2.cutV cutD
  rw [h.len]
  exact (h.drop _).take _
theorem sd_list {lo hi : Option Int} (h : Ψ (.lst (cutD ds lo hi))) : SlD K (rSlL K) (.lst ds) lo hi Ψ := fun M H x m h1 Q q => by
  cases h1 with
  | lst hs ha => exact ⟨_, _, rfl, (cut_sub M H).seq hs, fun p hp => q _ _ _ (same_new hp) (dx_new_l m hp (ha.cutV lo hi)) h⟩
theorem sd_tup {lo hi : Option Int} (h : Ψ (.tup (cutD ds lo hi))) : SlD K (rSlA K) (.tup ds) lo hi Ψ := fun M H x m h1 Q q => by
  cases h1 with
  | tup hs ha =>
    refine ⟨_, _, rfl, same_T (cut_sub M H) hs, fun hw => ?_, fun hw p hp => q _ _ _ (same_new hp) (dx_new_t m hp (ha.cutV lo hi)) h⟩
    have e : cutD ds lo hi = ds := by
      rw [ha.len] at hw
      unfold cutD
      rw [hw.1, hw.2]
      simp
    rw [e] at h
    exact q _ H _ (Same.refl H) (.tup hs ha) h
theorem sd_str {lo hi : Option Int} (hz : z.length ≤ sizeLine) (h : Ψ (.str (cutS z lo hi))) : SlD K rSlS (.str z) lo hi Ψ := fun M H x m h1 Q q =>
  ⟨z, h1.str_eq, hz, q _ H _ (Same.refl H) (.str _) h⟩
theorem cutD_to {n : Nat} (k : Nat) (h : n = k) : cutD ds none (some (n : Int)) = ds.take k := by
  subst h
  unfold cutD
  rw [HT.sIx_none, HT.sIx_nat, List.drop_zero, Nat.sub_zero]
  by_cases c : n ≤ ds.length
  · rw [Nat.min_eq_left c]
  · rw [Nat.min_eq_right (by omega), List.take_of_length_le (Nat.le_refl _), List.take_of_length_le (by omega)]
end

/-! ### built-ins -/
section
variable {K : PySem.W.Frag} {Ψ : Dt → Prop} {d : Dt} {ds es : List Dt} {i : Int} {z : Str}
theorem one_v {H : Hp} {vs : List V} (h : DXs K H vs [d]) : ∃ v, vs = [v] ∧ DX K H v d := by
  cases h with
  | cons h1 h2 => cases h2; exact ⟨_, rfl, h1⟩
theorem two_v {H : Hp} {vs : List V} {e : Dt} (h : DXs K H vs [d, e]) : ∃ v w, vs = [v, w] ∧ DX K H v d ∧ DX K H w e := by
  cases h with
  | cons h1 h2 => cases h2 with
    | cons h3 h4 => cases h4; exact ⟨_, _, rfl, h1, h3⟩
theorem rd_abs (h : Ψ (.int (if i < 0 then -i else i))) : RD K (fun xs H Q => ∃ i, xs = [.int i] ∧ Q (.int (if i < 0 then -i else i)) H) [.int i] Ψ := fun M H vs m xx Q q => by
  obtain ⟨v, rfl, x⟩ := one_v xx
  exact ⟨i, by rw [x.int_eq], q _ H _ (Same.refl H) (.int _) h⟩
theorem rd_int (h : Ψ (.int i)) : RD K (fun xs H Q => (∃ i, xs = [.int i] ∧ Q (.int i) H) ∨ ∃ k, xs = [.bl k] ∧ Q (.int (if k then 1 else 0)) H) [.int i] Ψ := fun M H vs m xx Q q => by
  obtain ⟨v, rfl, x⟩ := one_v xx
  exact .inl ⟨i, by rw [x.int_eq], q _ H _ (Same.refl H) (.int _) h⟩
theorem rd_intb {b : Bool} (h : Ψ (.int (if b then 1 else 0))) : RD K (fun xs H Q => (∃ i, xs = [.int i] ∧ Q (.int i) H) ∨ ∃ k, xs = [.bl k] ∧ Q (.int (if k then 1 else 0)) H) [.bl b] Ψ := fun M H vs m xx Q q => by
  obtain ⟨v, rfl, x⟩ := one_v xx
  exact .inr ⟨b, by rw [x.bl_eq], q _ H _ (Same.refl H) (.int _) h⟩
def lenD : Dt → Option Nat
  | .lst ds => some ds.length
  | .tup ds => some ds.length
  | .str z => if z.length ≤ sizeLine then some z.length else none
  | _ => none
theorem rd_len {n : Nat} (hn : lenD d = some n) (h : Ψ (.int n)) : RD K (fun xs H Q => ∃ x n, xs = [x] ∧ LenV K x H n ∧ Q (.int n) H) [d] Ψ := fun M H vs m xx Q q => by
  obtain ⟨v, rfl, x⟩ := one_v xx
  refine ⟨v, n, rfl, ?_, q _ H _ (Same.refl H) (.int _) h⟩
  cases x with
  | lst hs ha => exact .inl ⟨_, (cut_sub M H).seq hs, by rw [ha.len]; exact (Option.some.inj hn).symm⟩
  | tup hs ha => exact .inr ⟨_, same_T (cut_sub M H) hs, by rw [ha.len]; exact (Option.some.inj hn).symm⟩
  | str z =>
    have hn : (if z.length ≤ sizeLine then some z.length else none) = some n := hn
    by_cases c : z.length ≤ sizeLine
    · rw [if_pos c] at hn
      exact ⟨c, (Option.some.inj hn).symm⟩
    · rw [if_neg c] at hn; cases hn
  | _ => cases hn
theorem rd_list (hs : seqD d = some ds) (h : Ψ (.lst ds)) : RD K (fun xs H Q => ∃ p ys, xs = [.ref p] ∧ (SqL K H p ys ∨ SqT K H p ys) ∧ ∀ l, H l = none → Q (.ref l) (upd H l (.lst ys))) [d] Ψ := fun M H vs m xx Q q => by
  obtain ⟨v, rfl, x⟩ := one_v xx
  cases x with
  | lst hs' ha => cases hs; exact ⟨_, _, rfl, .inl ((cut_sub M H).seq hs'), fun l hl => q _ _ _ (same_new hl) (dx_new_l m hl ha) h⟩
  | tup hs' ha => cases hs; exact ⟨_, _, rfl, .inr (same_T (cut_sub M H) hs'), fun l hl => q _ _ _ (same_new hl) (dx_new_l m hl ha) h⟩
  | _ => cases hs
theorem rd_tuple (hs : seqD d = some ds) (h : Ψ (.tup ds)) : RD K (fun xs H Q => ∃ p ys, xs = [.ref p] ∧ ((SqL K H p ys ∧ ∀ l, H l = none → Q (.ref l) (upd H l (.tup ys))) ∨ (SqT K H p ys ∧ Q (.ref p) H))) [d] Ψ := fun M H vs m xx Q q => by
  obtain ⟨v, rfl, x⟩ := one_v xx
  cases x with
  | lst hs' ha => cases hs; exact ⟨_, _, rfl, .inl ⟨(cut_sub M H).seq hs', fun l hl => q _ _ _ (same_new hl) (dx_new_t m hl ha) h⟩⟩
  | tup hs' ha => cases hs; exact ⟨_, _, rfl, .inr ⟨same_T (cut_sub M H) hs', q _ H _ (Same.refl H) (.tup hs' ha) h⟩⟩
  | _ => cases hs
theorem rd_all {bs : List Bool} (h : Ψ (.bl (bs.all id))) : RD K (rAll K) [.lst (bs.map Dt.bl)] Ψ := fun M H vs m xx Q q => by
  obtain ⟨v, rfl, x⟩ := one_v xx
  cases x with
  | lst hs ha => rw [ha.bls] at hs; exact ⟨_, bs, rfl, (cut_sub M H).seq hs, q _ H _ (Same.refl H) (.bl _) h⟩
theorem rd_any {bs : List Bool} (h : Ψ (.bl (bs.any id))) : RD K (rAny K) [.lst (bs.map Dt.bl)] Ψ := fun M H vs m xx Q q => by
  obtain ⟨v, rfl, x⟩ := one_v xx
  cases x with
  | lst hs ha => rw [ha.bls] at hs; exact ⟨_, bs, rfl, (cut_sub M H).seq hs, q _ H _ (Same.refl H) (.bl _) h⟩
/-- isinstance of a datum against a built-in class -/
def tyD : Dt → String
  | .non => "NoneType" | .bl _ => "bool" | .int _ => "int" | .str _ => "str" | .lst _ => "list" | .tup _ => "tuple" | .dct _ _ => "dict" | .ty _ => "type" | .ins _ _ _ _ => "object" | .cls _ => "type" | .exc _ _ _ _ => "object"
/-- of a built-in class, no class itself -/
def kitD : Dt → Bool
  | .ty _ | .ins _ _ _ _ | .cls _ | .exc _ _ _ _ => false
  | _ => true
theorem tyX_of {M : Md} {H : Hp} {v : V} (x : DX K (cut M H) v d) (h : kitD d = true) : TyX K H v (.type (tyD d)) := by
  cases x with
  | non => exact .base .non
  | bl b => exact .base (.bl b)
  | int i => exact .base (.int i)
  | str z => exact .base (.str z)
  | ty n => cases h
  | ins _ _ _ => cases h
  | cls _ => cases h
  | exc _ _ _ _ => cases h
  | exc0 _ => cases h
  | lst hs ha =>
    rcases (cut_sub M H).seq hs with (e | ⟨o, e⟩) | ⟨o, _, _, e, c, _⟩
    · exact .base (.lst e)
    · exact .base (.frz e)
    · exact .kList e c
  | tup hs ha =>
    rcases same_T (cut_sub M H) hs with (e | ⟨o, e⟩) | ⟨o, _, _, e, c, _⟩
    · exact .base (.tup e)
    · exact .fTuple e
    · exact .kTuple e c
  | dct hs ha =>
    rcases (cut_Rd hs).2 with e | ⟨o, e⟩
    · exact .base (.dK e)
    · exact .fDict e
theorem rd_isi {c : String} {b : Bool} (hd : kitD d = true) (e : kitB (tyD d) c = some b) (h : Ψ (.bl b)) : RD K (rIsi K) [d, .ty c] Ψ := fun M H vs m xx Q q => by
  obtain ⟨v, w, rfl, x1, x2⟩ := two_v xx
  cases x2
  exact ⟨v, .ty c, _, _, b, rfl, .ty c, tyX_of x1 hd, kit_ty e, q _ H _ (Same.refl H) (.bl _) h⟩
end
end DL

/-! Data level: repr, == of data, in, sets of texts. -/
namespace DL
open PySem PySem.Spec PyProof.Rows L2
variable [Tb]

/-! ### as the library's data -/
mutual
def Dt.py : Dt → PyData
  | .non => .none
  | .bl b => .bool b
  | .int i => .int i
  | .str x => .str x
  | .lst ds => .list (pys ds)
  | .tup ds => .tuple (pys ds)
  | .dct _ kvs => .dict (pyk kvs)
  | .ty n => .none
  | .ins _ _ _ _ => .none
  | .cls _ => .none
  | .exc _ _ _ _ => .none
def pys : List Dt → List PyData
  | [] => []
  | d :: ds => d.py :: pys ds
def pyk : List (Key × Dt) → List (PyData × PyData)
  | [] => []
  | (k, d) :: r => ((match k with | .inl i => PyData.int i | .inr x => .str x), d.py) :: pyk r
end
mutual
/-- data all through: no class in it -/
def Dt.pure : Dt → Bool
  | .non | .bl _ | .int _ | .str _ => true
  | .lst ds => pures ds
  | .tup ds => pures ds
  | .dct _ kvs => purek kvs
  | .ty _ => false
  | .ins _ _ _ _ => false
  | .cls _ => false
  | .exc _ _ _ _ => false
def pures : List Dt → Bool
  | [] => true
  | d :: ds => d.pure && pures ds
def purek : List (Key × Dt) → Bool
  | [] => true
  | (_, d) :: r => d.pure && purek r
end
mutual
/-- .. and no dict -/
def Dt.seqs : Dt → Bool
  | .non | .bl _ | .int _ | .str _ => true
  | .lst ds => seqss ds
  | .tup ds => seqss ds
  | .dct _ _ => false
  | .ty _ => false
  | .ins _ _ _ _ => false
  | .cls _ => false
  | .exc _ _ _ _ => false
def seqss : List Dt → Bool
  | [] => true
  | d :: ds => d.seqs && seqss ds
end
section
variable {K : PySem.W.Frag} {H : Hp}
mutual
theorem DX.dp : ∀ {d : Dt} {v : V}, DX K H v d → d.seqs = true → Dp K H v d.py
  | .non, _, h, _ => by cases h; simp only [Dt.py]; exact .non
  | .bl b, _, h, _ => by cases h; simp only [Dt.py]; exact .bl _
  | .int i, _, h, _ => by cases h; simp only [Dt.py]; exact .int _
  | .str x, _, h, _ => by cases h; simp only [Dt.py]; exact .str _
  | .lst ds, _, h, p => by
    cases h with
    | lst hs ha => simp only [Dt.py]; exact .lst hs (DXs.dp (ds := ds) ha (by simpa only [Dt.seqs] using p))
  | .tup ds, _, h, p => by
    cases h with
    | tup hs ha => simp only [Dt.py]; exact .tup hs (DXs.dp (ds := ds) ha (by simpa only [Dt.seqs] using p))
  | .dct _ _, _, _, p => by simp only [Dt.seqs] at p; cases p
  | .ty _, _, _, p => by simp only [Dt.seqs] at p; cases p
theorem DXs.dp : ∀ {ds : List Dt} {vs : List V}, DXs K H vs ds → seqss ds = true → DpAll K H vs (pys ds)
  | [], _, h, _ => by cases h; simp only [pys]; exact .nil
  | d :: ds, _, h, p => by
    simp only [seqss, Bool.and_eq_true] at p
    cases h with
    | cons h1 h2 => simp only [pys]; exact .cons (DX.dp h1 p.1) (DXs.dp h2 p.2)
end
end

/-! ### reading, dicts too: no dict is that of the modules -/
mutual
inductive Rds (h : Heap) : Value → PyData → Prop
  | none : Rds h .none .none
  | bool (b : Bool) : Rds h (.bool b) (.bool b)
  | int (i : Int) (t : Tok) : Rds h (.int i t) (.int i)
  | str (x : Str) (t : Tok) : Rds h (.str x t) (.str x)
  | list {a : Addr} {o : Obj} {vs : Array Value} {n : Nat} {xs : List PyData} : h.get? a = some o → o.cls = .type "list" → o.data = .seq vs n → RdsAll h vs.toList xs → Rds h (.ref a) (.list xs)
  | tuple {a : Addr} {o : Obj} {vs : Array Value} {n : Nat} {xs : List PyData} : h.get? a = some o → o.cls = .type "tuple" → o.data = .seq vs n → RdsAll h vs.toList xs → Rds h (.ref a) (.tuple xs)
  | dict {a : Addr} {o : Obj} {es : Array DictEntry} {n : Nat} {kvs : List (PyData × PyData)} : h.get? a = some o → o.cls = .type "dict" → o.data = .dict es n → (a == sysModules) = false →
      RdsAll h (es.toList.map (·.key)) (kvs.map (·.1)) → RdsAll h (es.toList.map (·.val)) (kvs.map (·.2)) → Rds h (.ref a) (.dict kvs)
inductive RdsAll (h : Heap) : List Value → List PyData → Prop
  | nil : RdsAll h [] []
  | cons {v : Value} {vs : List Value} {d : PyData} {ds : List PyData} : Rds h v d → RdsAll h vs ds → RdsAll h (v :: vs) (d :: ds)
end
section
variable {h : Heap}
mutual
theorem Rds.reads : ∀ {v : Value} {d : PyData}, Rds h v d → ∃ as, Reads h v d as
  | _, _, .none => ⟨_, .none⟩
  | _, _, .bool b => ⟨_, .bool b⟩
  | _, _, .int i t => ⟨_, .int i t⟩
  | _, _, .str x t => ⟨_, .str x t⟩
  | _, _, .list h1 h2 h3 h4 => let ⟨_, q⟩ := RdsAll.reads h4; ⟨_, .list h1 h2 h3 q⟩
  | _, _, .tuple h1 h2 h3 h4 => let ⟨_, q⟩ := RdsAll.reads h4; ⟨_, .tuple h1 h2 h3 q⟩
  | _, _, .dict h1 h2 h3 _ h4 h5 => let ⟨_, q⟩ := RdsAll.reads h4; let ⟨_, r⟩ := RdsAll.reads h5; ⟨_, .dict h1 h2 h3 q r⟩
theorem RdsAll.reads : ∀ {v : List Value} {d : List PyData}, RdsAll h v d → ∃ as, ReadsAll h v d as
  | _, _, .nil => ⟨_, .nil⟩
  | _, _, .cons h1 h2 => let ⟨_, q⟩ := Rds.reads h1; let ⟨_, r⟩ := RdsAll.reads h2; ⟨_, .cons q r⟩
end
variable {prog : Program} {w : World}
mutual
theorem Rds.reprK : ∀ {v : Value} {d : PyData}, Rds h v d → d.showable = true → d.shown.length ≤ sizeLine → ∃ bs, ReadAtMost h d.depth bs ∧ ReprK prog w bs h d.depth v d.shown
  | _, _, .none, _, _ => ⟨[], (fun _ z => nomatch z), by simp only [PyData.shown]; exact .of_is ReprIs.none _ _ _⟩
  | _, _, .bool b, _, _ => ⟨[], (fun _ z => nomatch z), by simp only [PyData.shown]; exact .of_is (ReprIs.bool b) _ _ _⟩
  | _, _, .int i t, hs, _ => ⟨[], (fun _ z => nomatch z), by simp only [PyData.shown]; exact .of_is (ReprIs.int t (of_decide_eq_true (by simpa only [PyData.showable] using hs))) _ _ _⟩
  | _, _, .str x t, _, hz => ⟨[], (fun _ z => nomatch z), by simp only [PyData.shown] at hz ⊢; exact .of_is (ReprIs.str x t hz) _ _ _⟩
  | _, _, .list (a := a) (vs := vs) (xs := xs) h1 h2 h3 h4, hs, hz => by
    simp only [PyData.shown] at hz
    simp only [PyData.showable] at hs
    obtain ⟨bs, hb, hk⟩ := RdsAll.reprK h4 hs fun t ht => Nat.le_trans (listText_mem_le ht) hz
    obtain ⟨as, hr⟩ := RdsAll.reads h4
    have r : Reads h (.ref a) (.list xs) _ := .list h1 h2 h3 hr
    have lt : PyData.depthAll xs < (PyData.list xs).depth := by simp only [PyData.depth]; omega
    refine ⟨a :: bs, .cons r (Nat.le_of_lt lt) hb, ?_⟩
    simp only [PyData.depth, PyData.shown]
    obtain ⟨l⟩ := vs
    cases l with
    | cons x l => exact .list h1 h2 h3 (not_mem_of_deeper r lt hb) (by simpa using hk.length_eq) fun i y e => hk.item i y (by simpa using e)
    | nil =>
      have hr' : ReadsAll h [] xs _ := hr
      cases hr'
      simp only [PyData.shownAll, listText_nil]
      exact .listEmpty h1 h2 h3
  | _, _, .tuple (a := a) (xs := xs) h1 h2 h3 h4, hs, hz => by
    simp only [PyData.shown] at hz
    simp only [PyData.showable] at hs
    obtain ⟨bs, hb, hk⟩ := RdsAll.reprK h4 hs fun t ht => Nat.le_trans (tupleText_mem_le ht) hz
    obtain ⟨as, hr⟩ := RdsAll.reads h4
    have r : Reads h (.ref a) (.tuple xs) _ := .tuple h1 h2 h3 hr
    have lt : PyData.depthAll xs < (PyData.tuple xs).depth := by simp only [PyData.depth]; omega
    refine ⟨a :: bs, .cons r (Nat.le_of_lt lt) hb, ?_⟩
    simp only [PyData.depth, PyData.shown]
    exact .tuple h1 h2 h3 (not_mem_of_deeper r lt hb) hk
  | _, _, .dict (a := a) (es := es) (kvs := kvs) h1 h2 h3 h0 h4 h5, hs, hz => by
    simp only [PyData.shown] at hz
    simp only [PyData.showable] at hs
    obtain ⟨s1, s2⟩ := PyData.showableKv_split kvs hs
    have big : ∀ {t : Str} {p : Str}, p ∈ PyData.shownKv kvs → t.length ≤ p.length → t.length ≤ sizeLine := fun hp hl => Nat.le_trans hl (Nat.le_trans (dictText_mem_le hp) hz)
    obtain ⟨b1, q1, k1⟩ := RdsAll.reprK h4 s1 fun t ht => let ⟨_, hp, hl⟩ := PyData.shownKv_key_le kvs t ht; big hp hl
    obtain ⟨b2, q2, k2⟩ := RdsAll.reprK h5 s2 fun t ht => let ⟨_, hp, hl⟩ := PyData.shownKv_val_le kvs t ht; big hp hl
    obtain ⟨as, r1⟩ := RdsAll.reads h4
    obtain ⟨cs, r2⟩ := RdsAll.reads h5
    have r : Reads h (.ref a) (.dict kvs) _ := .dict h1 h2 h3 r1 r2
    have lt : PyData.depthKv kvs < (PyData.dict kvs).depth := by simp only [PyData.depth]; omega
    have hb : ReadAtMost h (PyData.depthKv kvs) (b1 ++ b2) := (q1.mono (PyData.depthAll_keys_le kvs)).append (q2.mono (PyData.depthAll_vals_le kvs))
    refine ⟨a :: (b1 ++ b2), .cons r (Nat.le_of_lt lt) hb, ?_⟩
    simp only [PyData.depth, PyData.shown, PyData.shownKv_eq]
    exact .dict h1 h2 h3 h0 (not_mem_of_deeper r lt hb) (.of_two es.toList _ _ (k1.more_le (fun b m => List.mem_append_left _ m) (PyData.depthAll_keys_le kvs)) (k2.more_le (fun b m => List.mem_append_right _ m) (PyData.depthAll_vals_le kvs)))
theorem RdsAll.reprK : ∀ {vs : List Value} {ds : List PyData}, RdsAll h vs ds → PyData.showableAll ds = true → (∀ t ∈ PyData.shownAll ds, t.length ≤ sizeLine) →
    ∃ bs, ReadAtMost h (PyData.depthAll ds) bs ∧ ReprAllK prog w bs h (PyData.depthAll ds) vs (PyData.shownAll ds)
  | _, _, .nil, _, _ => ⟨[], (fun _ z => nomatch z), by simp only [PyData.shownAll]; exact .nil⟩
  | _, _, .cons (d := d) (ds := ds) r rs, hs, hz => by
    simp only [PyData.showableAll, Bool.and_eq_true] at hs
    simp only [PyData.shownAll, List.mem_cons] at hz
    obtain ⟨b1, q1, k1⟩ := Rds.reprK r hs.1 (hz _ (.inl rfl))
    obtain ⟨b2, q2, k2⟩ := RdsAll.reprK rs hs.2 fun t ht => hz t (.inr ht)
    have e : PyData.depthAll (d :: ds) = max d.depth (PyData.depthAll ds) := by simp only [PyData.depthAll]
    rw [e]
    refine ⟨b1 ++ b2, (q1.mono (Nat.le_max_left _ _)).append (q2.mono (Nat.le_max_right _ _)), ?_⟩
    simp only [PyData.shownAll]
    exact .cons ((k1.more fun b m => List.mem_append_left _ m).level_le (Nat.le_max_left _ _)) (k2.more_le (fun b m => List.mem_append_right _ m) (Nat.le_max_right _ _))
end
/-- repr(v) -/
theorem repr_run {v : Value} {d : PyData} {A : Around} {E : Value → Shared → Prop} {s : Shared} {Q : Value → Shared → Prop} (r : Rds s.heap v d) (hs : d.showable = true) (hg : A.guards = some []) (hu : A.units + (d.depth + 1) < cLine)
    (hz : d.shown.length ≤ sizeLine) (hQ : ∀ h' u tk, (∀ b o, s.heap.get? b = some o → h'.get? b = some o) → Q (.str d.shown u) { s with heap := h', toks := tk }) : wpAny (model prog w) A (call (.builtin "repr") [v]) Q E s := by
  have triv : ∀ b o, s.heap.get? b = some o → s.heap.get? b = some o := fun _ _ z => z
  cases r with
  | none => simp only [PyData.shown] at hQ; exact PySem.P.repr_of_none (hQ _ _ _ triv)
  | bool b => simp only [PyData.shown] at hQ; exact PySem.P.repr_of_bool (hQ _ _ _ triv)
  | int i t => simp only [PyData.shown] at hQ; exact PySem.P.repr_of_int (of_decide_eq_true (by simpa only [PyData.showable] using hs)) (hQ _ _ _ triv)
  | str x t => simp only [PyData.shown] at hQ hz; exact PySem.P.repr_of_str (hQ _ _ _ triv) hz
  | @list a o vs n xs h1 h2 h3 h4 =>
    simp only [PyData.shown] at hQ hz
    simp only [PyData.showable] at hs
    simp only [PyData.depth] at hu
    obtain ⟨bs, hb, hk⟩ := RdsAll.reprK (prog := prog) (w := w) h4 hs fun t ht => Nat.le_trans (listText_mem_le ht) hz
    obtain ⟨as, hr⟩ := RdsAll.reads h4
    have na : a ∉ bs := not_mem_of_deeper (.list h1 h2 h3 hr) (by simp only [PyData.depth]; omega) hb
    refine call_repr_slot (by omega) ⟨o, h1, h2⟩ F.slot_list_repr.toG ?_
    obtain ⟨l⟩ := vs
    cases l with
    | nil =>
      have hr' : ReadsAll s.heap [] xs _ := hr
      cases hr'
      simp only [PyData.shownAll, listText_nil] at hQ
      exact call_list_repr_empty ⟨o, h1, h2⟩ h1 h3 ⟨_, _, rfl, hQ _ _ _ triv⟩
    | cons x l => exact call_list_reprK h1 h2 h3 na (by simpa using hk.length_eq) (fun i y e => hk.item i y (by simpa using e)) (A := A.in1) hg (fun b _ => Clear.nil b) (by show A.units + 1 + _ < cLine; omega) triv (fun h' u tk k => ⟨_, _, rfl, hQ h' u tk k⟩) hz
  | @tuple a o vs n xs h1 h2 h3 h4 =>
    simp only [PyData.shown] at hQ hz
    simp only [PyData.showable] at hs
    simp only [PyData.depth] at hu
    obtain ⟨bs, hb, hk⟩ := RdsAll.reprK (prog := prog) (w := w) h4 hs fun t ht => Nat.le_trans (tupleText_mem_le ht) hz
    obtain ⟨as, hr⟩ := RdsAll.reads h4
    have na : a ∉ bs := not_mem_of_deeper (.tuple h1 h2 h3 hr) (by simp only [PyData.depth]; omega) hb
    refine call_repr_slot (by omega) ⟨o, h1, h2⟩ F.slot_tuple_repr ?_
    exact call_tuple_reprK h1 h2 h3 na hk (A := A.in1) hg (fun b _ => Clear.nil b) (by show A.units + 1 + _ < cLine; omega) triv (fun h' u tk k => ⟨_, _, rfl, hQ h' u tk k⟩) hz
  | @dict a o es n kvs h1 h2 h3 h0 h4 h5 =>
    simp only [PyData.shown] at hQ hz
    simp only [PyData.showable] at hs
    simp only [PyData.depth] at hu
    obtain ⟨s1, s2⟩ := PyData.showableKv_split kvs hs
    have big : ∀ {t : Str} {p : Str}, p ∈ PyData.shownKv kvs → t.length ≤ p.length → t.length ≤ sizeLine := fun hp hl => Nat.le_trans hl (Nat.le_trans (dictText_mem_le hp) hz)
    obtain ⟨b1, q1, k1⟩ := RdsAll.reprK (prog := prog) (w := w) h4 s1 fun t ht => let ⟨_, hp, hl⟩ := PyData.shownKv_key_le kvs t ht; big hp hl
    obtain ⟨b2, q2, k2⟩ := RdsAll.reprK (prog := prog) (w := w) h5 s2 fun t ht => let ⟨_, hp, hl⟩ := PyData.shownKv_val_le kvs t ht; big hp hl
    obtain ⟨as, r1⟩ := RdsAll.reads h4
    obtain ⟨cs, r2⟩ := RdsAll.reads h5
    have hb : ReadAtMost s.heap (PyData.depthKv kvs) (b1 ++ b2) := (q1.mono (PyData.depthAll_keys_le kvs)).append (q2.mono (PyData.depthAll_vals_le kvs))
    have na : a ∉ b1 ++ b2 := not_mem_of_deeper (.dict h1 h2 h3 r1 r2) (by simp only [PyData.depth]; omega) hb
    refine call_repr_slot (by omega) ⟨o, h1, h2⟩ F.slot_dict_repr ?_
    rw [PyData.shownKv_eq] at hQ hz
    exact call_dict_reprK h1 h2 h3 h0 na (.of_two es.toList _ _ (k1.more_le (fun b m => List.mem_append_left _ m) (PyData.depthAll_keys_le kvs)) (k2.more_le (fun b m => List.mem_append_right _ m) (PyData.depthAll_vals_le kvs)))
      (A := A.in1) hg (fun b _ => Clear.nil b) (by show A.units + 1 + _ < cLine; omega) triv (fun h' u tk k => ⟨_, _, rfl, hQ h' u tk k⟩) hz
end
section
variable {X : Cx} {pins : List (Addr × Obj)} {σ : L2.St} {H : Hp} {s : Shared}
mutual
theorem rd_ok {a : Addr} {u : HO} (I : Inv X pins σ H s) (h : Rd H a u) : ObjOk X.prog X.w H s.heap a u := h.elim (fun z => I.hok _ _ z) fun ⟨o, z⟩ => (I.hok _ _ z).2
theorem DX.rds (I : Inv X pins σ H s) : ∀ {d : Dt} {v : V} {u : Value}, DX X.K H v d → RelV v u → d.pure = true → Rds s.heap u d.py
  | .non, _, _, h, r, _ => by cases h; cases r; simp only [Dt.py]; exact .none
  | .bl b, _, _, h, r, _ => by cases h; cases r; simp only [Dt.py]; exact .bool b
  | .int i, _, _, h, r, _ => by cases h; obtain ⟨t, rfl⟩ := r; simp only [Dt.py]; exact .int i t
  | .str x, _, _, h, r, _ => by cases h; obtain ⟨t, rfl⟩ := r; simp only [Dt.py]; exact .str x t
  | .lst ds, _, _, h, r, p => by
    cases h with
    | lst hs ha =>
      cases r
      obtain ⟨its, rv, ⟨o, n, ho, hc, hdn, hd⟩, _⟩ := I.list hs
      simp only [Dt.py]
      exact .list ho hc hd (DXs.rds I (ds := ds) ha rv (by simpa only [Dt.pure] using p))
  | .tup ds, _, _, h, r, p => by
    cases h with
    | tup hs ha =>
      cases r
      obtain ⟨its, rv, ⟨o, ho, hc, n, hd⟩, _⟩ := I.tuple hs
      simp only [Dt.py]
      exact .tuple ho hc hd (DXs.rds I (ds := ds) ha rv (by simpa only [Dt.pure] using p))
  | .dct _ ds, _, _, h, r, p => by
    cases h with
    | @dct a kvs _ hs ha =>
      cases r
      obtain ⟨_, ne, vs, rel, o, es, ep, ho, hex, hd, _, pr, _⟩ := rd_ok I hs
      have two := DXk.rds I (ds := ds) ha rel pr (by simpa only [Dt.pure] using p)
      simp only [Dt.py]
      exact .dict ho hex.1 hd ne two.1 two.2
  | .ty _, _, _, _, _, p => by simp only [Dt.pure] at p; cases p
theorem DXs.rds (I : Inv X pins σ H s) : ∀ {ds : List Dt} {vs : List V} {us : List Value}, DXs X.K H vs ds → Vals vs us → pures ds = true → RdsAll s.heap us (pys ds)
  | [], _, _, h, r, _ => by cases h; cases r; simp only [pys]; exact .nil
  | d :: ds, _, _, h, r, p => by
    simp only [pures, Bool.and_eq_true] at p
    cases h with
    | cons h1 h2 =>
      cases r with
      | cons r1 r2 => simp only [pys]; exact .cons (DX.rds I h1 r1 p.1) (DXs.rds I h2 r2 p.2)
theorem DXk.rds (I : Inv X pins σ H s) : ∀ {ds : List (Key × Dt)} {kvs : List (Key × V)} {vs : List (Key × Value)} {es : List DictEntry}, DXk X.K H kvs ds → KV kvs vs → Pairs (mixKind X.prog X.w) es vs → purek ds = true →
    RdsAll s.heap (es.map (·.key)) ((pyk ds).map (·.1)) ∧ RdsAll s.heap (es.map (·.val)) ((pyk ds).map (·.2))
  | [], _, _, _, h, r, pr, _ => by
    cases h
    cases r
    cases pr
    simp only [pyk, List.map_nil]
    exact ⟨.nil, .nil⟩
  | (k, d) :: ds, _, _, _, h, r, pr, p => by
    simp only [purek, Bool.and_eq_true] at p
    cases h with
    | cons h1 h2 =>
      cases r with
      | cons r1 r2 =>
        cases pr with
        | cons p1 p2 p3 =>
          have ih := DXk.rds I h2 r2 p3 p.2
          have e1 : k = _ := r1.1
          have hk := p1
          rw [← e1, mixKind_is] at hk
          simp only [pyk, List.map_cons]
          refine ⟨.cons ?_ ih.1, .cons (by rw [p2]; exact DX.rds I h1 r1.2 p.1) ih.2⟩
          rcases keyIs_shape hk with ⟨i, t, rfl, e⟩ | ⟨x, t, rfl, e⟩
          · rw [e]; exact .int i t
          · rw [e]; exact .str x t
end
def rRepr (K : PySem.W.Frag) : List V → Hp → VK → Prop := fun xs H Q => ∃ x d, xs = [x] ∧ DX K H x d ∧ d.pure = true ∧ d.py.showable = true ∧ d.py.depth ≤ 60 ∧ d.py.shown.length ≤ sizeLine ∧ Q (.str d.py.shown) H
theorem call_reprX (hg : X.A.guards = some []) (hu : X.A.units + 64 < cLine) : CallR X (.builtin "repr") (rRepr X.K) := by
  intro pins s σ H xs us Q I r h
  obtain ⟨x, d, rfl, dx, dp, ds, dd, dz, q⟩ := h
  obtain ⟨u, rfl, ru⟩ := r.one
  exact repr_run (DX.rds I dx ru dp) ds hg (by omega) dz fun h' u tk k => ⟨.str d.py.shown, H, I.kept k, ⟨u, rfl⟩, q⟩
end
section
variable {K : PySem.W.Frag} {Ψ : Dt → Prop} {d : Dt}
/-- fit to be shown -/
structure Fit (d : Dt) : Prop where
  pure : d.pure = true
  sh : d.py.showable = true
  dep : d.py.depth ≤ 60
  sz : d.py.shown.length ≤ sizeLine
theorem rd_repr (f : Fit d) (h : Ψ (.str d.py.shown)) : RD K (rRepr K) [d] Ψ := fun M H vs m xx Q q => by
  obtain ⟨v, rfl, x⟩ := one_v xx
  exact ⟨v, d, rfl, x.mono (cut_sub M H), f.pure, f.sh, f.dep, f.sz, q _ H _ (Same.refl H) (.str _) h⟩
end
end DL

/-! Data level: == against the empty list, in, sets of texts, displays of dicts, join. -/
namespace DL
open PySem PySem.Spec PyProof.Rows L2
variable [Tb]

/-! ### == of a dict and a text -/
section
variable {A : Around} {s : Shared}
theorem dict_eq_declines {prog : Program} {w : World} {E : Value → Shared → Prop} {l : Addr} {b : Str} {u : Tok} {Q : Value → Shared → Prop} (hl : s.TypeIs (.ref l) "dict") (h : Q .notImplemented s) :
    wpAny (model prog w) A (call (.builtin "dict.__eq__") [.ref l, .str b u]) Q E s := by
  refine wpAny_call_entry PySem.F.slot_dict_eq hl PySem.F.entry_dict_eq ?_ (PySem.F.args_dict_eq_2 _ _)
  show wpAny _ _ (Builtin.Dict.dictSlotArgs "__eq__" ⟨[.ref l, .str b u], []⟩ >>= _) _ _ s
  apply wpAny_bind
  unfold Builtin.Dict.dictSlotArgs
  refine wpAny_bind (wpAny_notOrdered_dict hl (wpAny_pure (wpAny_bind (wpAny_isInstance (T := "str") (typeIs_str s b u) PySem.F.sub_str_dict ?_))))
  simp only [Bool.not_false, if_true]
  exact wpAny_bind (wpAny_rule (wpAny_pure ⟨_, rfl, h⟩))
theorem str_eq_declines (b : Str) (u : Tok) (l : Addr) (c : Value) (dd : Option Addr) (es : Array DictEntry) (n : Nat) (sl : Array (Option Value)) :
    Meets (Builtin.«str.__eq__» ⟨[.str b u, .ref l], []⟩) (fun _ R s => s.heap.get? l = some { cls := c, dict := dd, data := .dict es n, slots := sl } ∧ R (.ok (.ret .notImplemented)) s) :=
  .of_wp fun prog w A R s h => by
    obtain ⟨hp, g, d, tk, os⟩ := s
    obtain ⟨hl, h⟩ := h
    wp_walk using wpAny_load hl
    exact ⟨_, rfl, h⟩
theorem rc_dict_str {l : Addr} {dd : Option Addr} {es : Array DictEntry} {n : Nat} {sl : Array (Option Value)} (b : Str) (u : Tok) (ho : s.heap.get? l = some { cls := .type "dict", dict := dd, data := .dict es n, slots := sl }) (hu : A.units < cLine) : SeqAt.RcAt A s (.ref l) (.str b u) false := fun prog w E Q h =>
  SeqAt.rc_eq_decline_or (k := false) ⟨_, ho, rfl⟩ (typeIs_str s b u) (by decide) PySem.F.sub_str_dict PySem.F.slot_dict_eq PySem.F.slot_str_eq_refl
    (fun _ hq => dict_eq_declines ⟨_, ho, rfl⟩ hq)
    (fun _ hq => call_meets PySem.F.slot_str_eq_refl (typeIs_str s b u) PySem.F.entry_str_eq (PySem.F.args_str_eq_2 _ _) (str_eq_declines b u l _ _ _ _ _) ⟨ho, hq⟩)
    (fun _ hq => wpAny_of_eq (rfl : isSame (.ref l) (.str b u) = pure false) hq) (.inr hu) h
theorem rc_str_dict {l : Addr} {dd : Option Addr} {es : Array DictEntry} {n : Nat} {sl : Array (Option Value)} (b : Str) (u : Tok) (ho : s.heap.get? l = some { cls := .type "dict", dict := dd, data := .dict es n, slots := sl }) (hu : A.units < cLine) : SeqAt.RcAt A s (.str b u) (.ref l) false := fun prog w E Q h =>
  SeqAt.rc_eq_decline_or (k := false) (typeIs_str s b u) ⟨_, ho, rfl⟩ (by decide) PySem.F.sub_dict_str PySem.F.slot_str_eq PySem.F.slot_dict_eq
    (fun _ hq => call_meets PySem.F.slot_str_eq (typeIs_str s b u) PySem.F.entry_str_eq (PySem.F.args_str_eq_2 _ _) (str_eq_declines b u l _ _ _ _ _) ⟨ho, hq⟩)
    (fun _ hq => dict_eq_declines ⟨_, ho, rfl⟩ hq)
    (fun _ hq => wpAny_of_eq (rfl : isSame (.str b u) (.ref l) = pure false) hq) (.inr hu) h
theorem eq_dict_str {l : Addr} {o : Obj} {es : Array DictEntry} {n : Nat} (b : Str) (u : Tok) (ho : s.heap.get? l = some o) (hc : o.cls = .type "dict") (hd : o.data = .dict es n) (hu : A.units < cLine) : SeqAt.EqAt A s (.ref l) (.str b u) false := fun prog w E Q h => by
  obtain ⟨c, dd, dt, sl⟩ := o
  simp only at hc hd
  subst hc hd
  unfold eqBool
  refine wpAny_holding (wpAny_ite_split (fun z => absurd (eq_of_beq z) nofun) fun _ => ?_)
  exact wpAny_bind (rc_dict_str b u ho hu prog w E _ (wpAny_truthy_bool h))
theorem eq_str_dict {l : Addr} {o : Obj} {es : Array DictEntry} {n : Nat} (b : Str) (u : Tok) (ho : s.heap.get? l = some o) (hc : o.cls = .type "dict") (hd : o.data = .dict es n) (hu : A.units < cLine) : SeqAt.EqAt A s (.str b u) (.ref l) false := fun prog w E Q h => by
  obtain ⟨c, dd, dt, sl⟩ := o
  simp only at hc hd
  subst hc hd
  unfold eqBool
  refine wpAny_holding (wpAny_ite_split (fun z => absurd (eq_of_beq z) nofun) fun _ => ?_)
  exact wpAny_bind (rc_str_dict b u ho hu prog w E _ (wpAny_truthy_bool h))
end

/-! ### in a list, not in: some answer -/
/-- two data that == tells apart, or not -/
inductive Cmp : Dt → Dt → Prop
  | seq {d e : Dt} (h1 : d.seqs = true) (h2 : e.seqs = true) (l1 : d.py.canLay0 = true) (l2 : e.py.canLay0 = true) (z : d.py.depth ≤ 30) : Cmp d e
  | ds {a : Addr} {kvs : List (Key × Dt)} {x : Str} : Cmp (.dct a kvs) (.str x)
  | sd {a : Addr} {kvs : List (Key × Dt)} {x : Str} : Cmp (.str x) (.dct a kvs)
  | dd {a : Addr} {kvs kws : List (Key × Dt)} : Cmp (.dct a kvs) (.dct a kws)
def rInAny (K : PySem.W.Frag) : R2 := fun x y H Q => ∃ d ds, DX K H x d ∧ DX K H y (.lst ds) ∧ (∀ e ∈ ds, Cmp e d) ∧ ∀ b, Q (.bl b) H
section
variable {X : Cx}
theorem cmp_at {pins : List (Addr × Obj)} {σ : L2.St} {H : Hp} {s : Shared} (I : Inv X pins σ H s) {A : Around} (hu : A.units + 40 < cLine) {e d : Dt} {x y : V} {u v : Value} (c : Cmp e d) (hx : DX X.K H x e) (hy : DX X.K H y d) (rx : RelV x u) (ry : RelV y v) :
    ∃ b, SeqAt.EqAt A s u v b := by
  cases c with
  | seq h1 h2 l1 l2 z =>
    obtain ⟨as, r1⟩ := Dp.reads I _ _ _ (hx.dp h1) rx
    obtain ⟨bs, r2⟩ := Dp.reads I _ _ _ (hy.dp h2) ry
    have one : ReadsAll s.heap [u] [e.py] (as ++ []) := .cons r1 .nil
    have q := SeqAt.items_eqAt (A := A) (vs := #[u]) one r2 (by simp [PyData.canLayAll0, l1]) l2 (by simp only [PyData.depthAll]; omega) u (by simp)
    exact ⟨_, q.of_in1⟩
  | ds =>
    cases hx with
    | dct hs _ =>
      cases rx
      obtain ⟨t, rfl⟩ : ∃ t, v = Value.str _ t := by cases hy; exact ry
      obtain ⟨_, _, _, _, o, _, _, ho, hex, hdat, _⟩ := rd_ok I hs
      exact ⟨false, eq_dict_str _ t ho hex.1 hdat (by omega)⟩
  | sd =>
    cases hy with
    | dct hs _ =>
      cases ry
      obtain ⟨t, rfl⟩ : ∃ t, u = Value.str _ t := by cases hx; exact rx
      obtain ⟨_, _, _, _, o, _, _, ho, hex, hdat, _⟩ := rd_ok I hs
      exact ⟨false, eq_str_dict _ t ho hex.1 hdat (by omega)⟩
  | dd =>
    cases hx
    cases hy
    cases rx
    cases ry
    exact ⟨true, SeqAt.EqAt.same _⟩
theorem cmp_items {pins : List (Addr × Obj)} {σ : L2.St} {H : Hp} {s : Shared} (I : Inv X pins σ H s) {A : Around} (hu : A.units + 40 < cLine) {d : Dt} {y : V} {v : Value} (hy : DX X.K H y d) (ry : RelV y v) :
    ∀ {ds : List Dt} {xs : List V} {us : List Value}, (∀ e ∈ ds, Cmp e d) → DXs X.K H xs ds → Vals xs us → ∀ u ∈ us, ∃ b, SeqAt.EqAt A s u v b
  | [], _, _, _, h, r => by
    cases h
    cases r
    intro u hu'
    cases hu'
  | e :: ds, _, _, c, h, r => by
    cases h with
    | cons h1 h2 =>
      cases r with
      | cons r1 r2 =>
        intro u hm
        rcases List.mem_cons.mp hm with z | z
        · rw [z]; exact cmp_at I hu (c e List.mem_cons_self) h1 hy r1 ry
        · exact cmp_items I hu hy ry (fun e' he' => c e' (List.mem_cons_of_mem _ he')) h2 r2 u z
open Classical in
theorem pick_eq {A : Around} {s : Shared} {v : Value} {us : List Value} (h : ∀ u ∈ us, ∃ b, SeqAt.EqAt A s u v b) : ∃ e : Value → Bool, ∀ u ∈ us, SeqAt.EqAt A s u v (e u) :=
  ⟨fun u => if z : ∃ b, SeqAt.EqAt A s u v b then z.choose else false, fun u hu => by
    have z := h u hu
    show SeqAt.EqAt A s u v (dite _ _ _)
    rw [dif_pos z]
    exact z.choose_spec⟩
theorem op_inAny (hu : X.A.units + 64 < cLine) : OpR X (compareOp .In) (rInAny X.K) := by
  intro pins s σ H x y v u Q I rx ry h
  obtain ⟨d, ds, hx, hy, c, q⟩ := h
  cases hy with
  | lst hs ha =>
    cases ry
    obtain ⟨its, rv, hl, _⟩ := I.list hs
    obtain ⟨e, he⟩ := pick_eq (cmp_items I (A := X.A.in1) (by show X.A.units + 1 + 40 < cLine; omega) hx rx c ha rv)
    exact SeqAt.in_listAt e hl.isList (fun z hz => he z (by simpa using hz)) ⟨.bl _, H, I, rfl, q _⟩
theorem op_notInAny (hu : X.A.units + 64 < cLine) : OpR X (compareOp .NotIn) (rInAny X.K) := by
  intro pins s σ H x y v u Q I rx ry h
  obtain ⟨d, ds, hx, hy, c, q⟩ := h
  cases hy with
  | lst hs ha =>
    cases ry
    obtain ⟨its, rv, hl, _⟩ := I.list hs
    obtain ⟨e, he⟩ := pick_eq (cmp_items I (A := X.A.in1) (by show X.A.units + 1 + 40 < cLine; omega) hx rx c ha rv)
    exact SeqAt.notIn_listAt e hl.isList (fun z hz => he z (by simpa using hz)) ⟨.bl _, H, I, rfl, q _⟩
/-! ### == and != against the empty list, the empty tuple -/
def rEqNil (K : PySem.W.Frag) : R2 := fun x y H Q => ∃ a b xs, x = .ref a ∧ y = .ref b ∧ SqL K H a xs ∧ SqL K H b [] ∧ Q (.bl xs.isEmpty) H
def rNeNil (K : PySem.W.Frag) : R2 := fun x y H Q => ∃ a b xs, x = .ref a ∧ y = .ref b ∧ SqL K H a xs ∧ SqL K H b [] ∧ Q (.bl (!xs.isEmpty)) H
theorem op_eqNil (hu : X.A.units + 64 < cLine) : OpR X (compareOp .Eq) (rEqNil X.K) := by
  intro pins s σ H x y v u Q I rx ry h
  obtain ⟨a, b, xs, rfl, rfl, hs, ht, q⟩ := h
  cases rx
  cases ry
  obtain ⟨its, rv, hl, _⟩ := I.list hs
  obtain ⟨its2, rv2, hl2, _⟩ := I.list ht
  cases rv2
  cases rv with
  | nil => exact SeqAt.eq_listAt (e := fun _ => true) hl.isList hl2.isList rfl (by omega) (fun j h1 => absurd h1 (by simp)) ⟨.bl _, H, I, rfl, q⟩
  | cons r1 r2 => exact SeqAt.eq_list_lengthsAt hl.isList hl2.isList (by simp) (by omega) ⟨.bl _, H, I, rfl, q⟩
theorem op_neNil (hu : X.A.units + 64 < cLine) : OpR X (compareOp .NotEq) (rNeNil X.K) := by
  intro pins s σ H x y v u Q I rx ry h
  obtain ⟨a, b, xs, rfl, rfl, hs, ht, q⟩ := h
  cases rx
  cases ry
  obtain ⟨its, rv, hl, _⟩ := I.list hs
  obtain ⟨its2, rv2, hl2, _⟩ := I.list ht
  cases rv2
  cases rv with
  | nil => exact SeqAt.RcNeAt.lists (e := fun _ => true) hl.isList hl2.isList rfl (by omega) (fun j h1 => absurd h1 (by simp)) _ _ _ _ ⟨.bl _, H, I, rfl, q⟩
  | cons r1 r2 => exact SeqAt.RcNeAt.lists_lengths hl.isList hl2.isList (by simp) (by omega) _ _ _ _ ⟨.bl _, H, I, rfl, q⟩
def rEqTNil (K : PySem.W.Frag) : R2 := fun x y H Q => ∃ a b xs, x = .ref a ∧ y = .ref b ∧ SqT K H a xs ∧ SqT K H b [] ∧ Q (.bl xs.isEmpty) H
theorem op_eqTNil (hu : X.A.units + 64 < cLine) : OpR X (compareOp .Eq) (rEqTNil X.K) := by
  intro pins s σ H x y v u Q I rx ry h
  obtain ⟨a, b, xs, rfl, rfl, hs, ht, q⟩ := h
  cases rx
  cases ry
  obtain ⟨its, rv, hl, _⟩ := I.tuple hs
  obtain ⟨its2, rv2, hl2, _⟩ := I.tuple ht
  cases rv2
  refine SeqAt.eq_tupleAt (e := fun _ => true) hl hl2 (by omega) (fun j h1 h2 => absurd h2 (by simp)) ⟨.bl _, H, I, ?_, q⟩
  cases rv with
  | nil => rfl
  | cons r1 r2 => show _ = Value.bool _; simp
end
section
variable {K : PySem.W.Frag} {Ψ : Dt → Prop} {d : Dt} {ds es : List Dt}
theorem od_eqNil (h : Ψ (.bl ds.isEmpty)) : OD K (rEqNil K) (.lst ds) (.lst []) Ψ := fun M H u v m h1 h2 Q q => by
  cases h1 with
  | lst hs ha =>
    cases h2 with
    | lst ht hb =>
      cases hb
      have e := ha.len
      refine ⟨_, _, _, rfl, rfl, (cut_sub M H).seq hs, (cut_sub M H).seq ht, ?_⟩
      cases ha with
      | nil => exact q _ H _ (Same.refl H) (.bl _) h
      | cons _ _ => exact q _ H _ (Same.refl H) (.bl _) h
theorem od_neNil (h : Ψ (.bl (!ds.isEmpty))) : OD K (rNeNil K) (.lst ds) (.lst []) Ψ := fun M H u v m h1 h2 Q q => by
  cases h1 with
  | lst hs ha =>
    cases h2 with
    | lst ht hb =>
      cases hb
      refine ⟨_, _, _, rfl, rfl, (cut_sub M H).seq hs, (cut_sub M H).seq ht, ?_⟩
      cases ha with
      | nil => exact q _ H _ (Same.refl H) (.bl _) h
      | cons _ _ => exact q _ H _ (Same.refl H) (.bl _) h
theorem od_eqTNil (h : Ψ (.bl ds.isEmpty)) : OD K (rEqTNil K) (.tup ds) (.tup []) Ψ := fun M H u v m h1 h2 Q q => by
  cases h1 with
  | tup hs ha =>
    cases h2 with
    | tup ht hb =>
      cases hb
      refine ⟨_, _, _, rfl, rfl, same_T (cut_sub M H) hs, same_T (cut_sub M H) ht, ?_⟩
      cases ha with
      | nil => exact q _ H _ (Same.refl H) (.bl _) h
      | cons _ _ => exact q _ H _ (Same.refl H) (.bl _) h
theorem od_inAny (c : ∀ e ∈ ds, Cmp e d) (h : ∀ b, Ψ (.bl b)) : OD K (rInAny K) d (.lst ds) Ψ := fun M H u v m h1 h2 Q q =>
  ⟨d, ds, h1.mono (cut_sub M H), h2.mono (cut_sub M H), c, fun b => q _ H _ (Same.refl H) (.bl b) (h b)⟩
/-- a text among texts -/
theorem flat_strs' : ∀ xs : List Str, (xs.map V.str).all flatV = true
  | [] => rfl
  | _ :: xs => flat_strs' xs
theorem inV_strs (x : Str) : ∀ xs : List Str, inV (.str x) (xs.map V.str) = decide (x ∈ xs)
  | [] => rfl
  | y :: ys => by
    have ih := inV_strs x ys
    show (eqV (.str y) (.str x) || inV (.str x) (ys.map V.str)) = _
    rw [ih]
    show ((y == x) || _) = _
    by_cases e : y = x
    · subst e; simp
    · rw [beq_eq_false_iff_ne.mpr e, Bool.false_or]
      exact decide_eq_decide.mpr ⟨fun h => List.mem_cons_of_mem _ h, fun h => by
        rcases List.mem_cons.mp h with z | z
        · exact absurd z.symm e
        · exact z⟩
theorem od_inS {neg : Bool} {x : Str} {xs : List Str} {d : Dt} (hs : seqD d = some (xs.map Dt.str)) (h : Ψ (.bl (if neg then !decide (x ∈ xs) else decide (x ∈ xs)))) : OD K (rIn K neg) (.str x) d Ψ := fun M H u v m h1 h2 Q q => by
  rw [h1.str_eq]
  have fin : ∀ p, (SqL K H p (xs.map V.str) ∨ SqT K H p (xs.map V.str)) → rIn K neg (.str x) (.ref p) H Q := fun p hp =>
    ⟨p, _, rfl, hp, rfl, flat_strs' xs, by rw [inV_strs]; exact q _ H _ (Same.refl H) (.bl _) h⟩
  cases h2 with
  | lst hs' ha => cases hs; rw [ha.strs] at hs'; exact fin _ (.inl ((cut_sub M H).seq hs'))
  | tup hs' ha => cases hs; rw [ha.strs] at hs'; exact fin _ (.inr (same_T (cut_sub M H) hs'))
  | _ => cases hs
/-- any datum among texts, flat ones -/
theorem od_inF {neg : Bool} {vs : List V} {x : V} {xs : List Dt} {d e : Dt} (hs : seqD e = some xs) (hx : ∀ H, DX K H x d) (hxs : ∀ H ws, DXs K H ws xs → ws = vs) (f1 : flatV x = true) (f2 : vs.all flatV = true) (hd : ∀ H w, DX K H w d → w = x)
    (h : Ψ (.bl (if neg then !inV x vs else inV x vs))) : OD K (rIn K neg) d e Ψ := fun M H u v m h1 h2 Q q => by
  rw [hd _ _ h1]
  have fin : ∀ p, (SqL K H p vs ∨ SqT K H p vs) → rIn K neg x (.ref p) H Q := fun p hp => ⟨p, _, rfl, hp, f1, f2, q _ H _ (Same.refl H) (.bl _) h⟩
  cases h2 with
  | lst hs' ha => cases hs; rw [hxs _ _ ha] at hs'; exact fin _ (.inl ((cut_sub M H).seq hs'))
  | tup hs' ha => cases hs; rw [hxs _ _ ha] at hs'; exact fin _ (.inr (same_T (cut_sub M H) hs'))
  | _ => cases hs

/-! ### methods of texts with one argument; join -/
def MD (K : PySem.W.Frag) (r : V → List V → Hp → VK → Prop) (d e : Dt) (Ψ : Dt → Prop) : Prop :=
  ∀ (M : Md) (H : Hp) (x y : V), MOk M H → DX K (cut M H) x d → DX K (cut M H) y e → ∀ Q : VK, (∀ v H2 d, Same H H2 → DX K (cut M H2) v d → Ψ d → Q v H2) → r x [y] H Q
variable {pf : Bool} {ρ : List Sl} {ta te : TE} {Φ : Dt → List Sl → Prop}
theorem w_m1 {r : V → List V → Hp → VK → Prop} (h : Wp K pf ta ρ fun d ρ1 => (∃ z, d = .str z) ∧ Wp K pf te ρ1 fun e ρ2 => MD K r d e fun g => Φ g ρ2) : Wp K pf (tM1 r ta te) ρ Φ := fun M σ H S Q q =>
  h M σ H S _ fun v H1 d ρ1 s1 S1 x1 ⟨⟨z, ez⟩, k⟩ => by
    subst ez
    refine ⟨⟨z, x1.str_eq⟩, k M σ H1 S1 _ fun v2 H2 e ρ2 s2 S2 x2 k2 => ?_⟩
    exact k2 M H2 v v2 S2.mok (x1.mono s2.dx) x2 _ fun w H3 g e3 x3 f => q w H3 g ρ2 ((s1.trans s2).trans (Tr.same pf M e3)) (S2.same e3) x3 f
theorem md_join {z : Str} {xs : List Str} (hs : seqD d = some (xs.map Dt.str)) (hz : (xs.map (·.length)).sum + xs.length * z.length ≤ 16777216) (h : Ψ (.str (Txt.join z xs))) :
    MD K (fun x xs H Q => ∃ a p, ∃ ys : List Str, x = .str a ∧ xs = [.ref p] ∧ (SqL K H p (ys.map V.str) ∨ SqT K H p (ys.map V.str)) ∧ (ys.map (·.length)).sum + ys.length * a.length ≤ 16777216 ∧ Q (.str (Txt.join a ys)) H) (.str z) d Ψ := fun M H u v m h1 h2 Q q => by
  rw [h1.str_eq]
  cases h2 with
  | lst hs' ha => cases hs; rw [ha.strs] at hs'; exact ⟨z, _, xs, rfl, rfl, .inl ((cut_sub M H).seq hs'), hz, q _ H _ (Same.refl H) (.str _) h⟩
  | tup hs' ha => cases hs; rw [ha.strs] at hs'; exact ⟨z, _, xs, rfl, rfl, .inr (same_T (cut_sub M H) hs'), hz, q _ H _ (Same.refl H) (.str _) h⟩
  | _ => cases hs
/-! ### displays of dicts -/
theorem w_dnewK (h : ∀ a, Φ (.dct a []) ρ) : Wp K pf tDNewK ρ Φ := fun M σ H S Q q p hp =>
  q (.ref p) _ (.dct p []) ρ (Tr.same pf M (same_new hp)) (S.same (same_new hp)) (.dct (.inl (cut_at (S.mok.new hp) upd_same)) .nil) (h p)
/-- one written pair of a text and a flat datum or a list .. that is told by Wp -/
theorem w_disp1 {k : Str} (h : Wp K true te ρ fun d ρ1 => ∀ a, Φ (.dct a [(.inr k, d)]) ρ) : Wp K pf (tDisp [(tC (.str k), te)]) ρ Φ := fun M σ H S Q q p hp => by
  have S1 := S.aside (o := .dK []) hp (same_new hp) upd_same
  refine h { M with F := p :: M.F } σ _ S1 _ fun v H2 d ρ' s S2 x f => ⟨s.sm rfl p _ upd_same, [(.inr k, v)], rfl, by show 1 ≤ 15; decide, ?_⟩
  have e : mergeK [] [((.inr k : Key), v)] = [((.inr k : Key), v)] := rfl
  rw [e]
  have all : Same H (upd H2 p (.dK [((.inr k : Key), v)])) := fun a u z => by
    rw [upd_ne (ne_of_none z hp)]
    exact s.sm rfl a u (by rw [upd_ne (ne_of_none z hp)]; exact z)
  have x' : DX K (cut M (upd H2 p (.dK [((.inr k : Key), v)]))) v d := x.mono fun a u z => by
    obtain ⟨c, y⟩ := cut_of z
    have na : a ≠ p := fun n => c (.inr (.inl (by rw [n]; exact List.mem_cons_self)))
    exact cut_at (fun t => c (has_aside a t)) (by rw [upd_ne na]; exact y)
  exact q (.ref p) _ (.dct p [(.inr k, d)]) ρ (Tr.same pf M all) (S.same all) (.dct (.inl (cut_at (S.mok.new hp) upd_same)) (.cons x' .nil)) (f p)
end
end DL

/-! Data level: the pen opened, defs' promises from their bodies. -/
namespace DL
open PySem PySem.Spec PyProof.Rows L2
variable [Tb]

def powns (es : List Dt) (ρ : List Sl) : List Sl := ρ.map fun s => match s with
  | .pen _ => .pown es
  | .pown _ => .pown es
  | s => s
def pdats (es : List Dt) (ρ : List Sl) : List Sl := ρ.map fun s => match s with
  | .pen _ => .dat (.lst es)
  | .pown _ => .dat (.lst es)
  | s => s
section
variable {K : PySem.W.Frag} {pf : Bool} {ρ : List Sl} {te ti : TE} {tt : TT} {t : TS} {D : DE} {i : Nat} {Φ : Dt → List Sl → Prop}
theorem Sd.writeP {M : Md} {H : Hp} {σ : L2.St} {p : Addr} {ws : List V} {es : List Dt} {o0 : HO} (S : Sd K M H σ ρ) (hp : M.p = some p) (h00 : ∃ vs0, H p = some (.lst vs0)) (x : DXs K (cut M H) ws es) : Sd K M (upd H p (.lst ws)) σ (powns es ρ) ∧ Stp M H M (upd H p (.lst ws)) := by
  have has : M.has p := .inl (.inl hp)
  have sc : Same (cut M H) (cut M (upd H p (.lst ws))) := fun a u z => by
    obtain ⟨c, y⟩ := cut_of z
    exact cut_at c (by rw [upd_ne fun n => c (by rw [n]; exact has)]; exact y)
  refine ⟨⟨by unfold powns; rw [List.length_map]; exact S.len, by unfold powns; rw [List.length_map]; exact S.olen, ⟨fun a h => ?_, S.mok.pF, S.mok.FO, S.mok.nd, S.mok.tbU rfl (fun a ha ps z => by rw [upd_ne fun n => (by obtain ⟨vs0, h00⟩ := h00; rw [n, h00] at z; cases z)]; exact z) sc⟩, fun j s h => ?_⟩, ⟨rfl, rfl, fun a o z c d => ⟨by rw [upd_ne fun n => c (.inl (by rw [n]; exact hp))]; exact z, d⟩⟩⟩
  · by_cases n : a = p
    · exact ⟨_, by rw [n]; exact upd_same⟩
    · obtain ⟨u, z⟩ := S.mok.live a h
      exact ⟨u, by rw [upd_ne n]; exact z⟩
  · unfold powns at h
    rw [List.getElem?_map] at h
    cases e : ρ[j]? with
    | none => rw [e] at h; cases h
    | some s0 =>
      rw [e] at h
      obtain ⟨o, h1, h2⟩ := S.ok j s0 e
      refine ⟨o, h1, ?_⟩
      have h := Option.some.inj h
      cases s0 with
      | any => subst h; trivial
      | dat d => subst h; obtain ⟨v, a1, a2⟩ := h2; exact ⟨v, a1, a2.mono sc⟩
      | val u d => subst h; obtain ⟨a1, a2⟩ := h2; exact ⟨a1, a2.mono sc⟩
      | own es' =>
        subst h
        obtain ⟨l, vs, a1, a2, a3, a4⟩ := h2
        exact ⟨l, vs, a1, a2, by rw [upd_ne fun y => (S.mok.pp hp).2 (by rw [← y]; exact List.mem_of_getElem? a2)]; exact a3, a4.mono sc⟩
      | obj C0 b0 ns0 es' =>
        subst h
        obtain ⟨l, dx0, vs, a1, a2, a3, a5, a4⟩ := h2
        exact ⟨l, dx0, vs, a1, a2, by rw [upd_ne fun y => (S.mok.pp hp).2 (by rw [← y]; exact List.mem_of_getElem? a2)]; exact a3, a5, a4.mono sc⟩
      | ownd es' =>
        subst h
        obtain ⟨l, vs, a1, a2, a3, a4⟩ := h2
        exact ⟨l, vs, a1, a2, by rw [upd_ne fun y => (S.mok.pp hp).2 (by rw [← y]; exact List.mem_of_getElem? a2)]; exact a3, a4.mono sc⟩
      | pen m =>
        subst h
        obtain ⟨p', a1, a2, _⟩ := h2
        obtain rfl : p' = p := Option.some.inj (a2.symm.trans hp)
        exact ⟨p', ws, a1, a2, upd_same, x.mono sc⟩
      | pown es' =>
        subst h
        obtain ⟨p', _, a1, a2, _⟩ := h2
        obtain rfl : p' = p := Option.some.inj (a2.symm.trans hp)
        exact ⟨p', ws, a1, a2, upd_same, x.mono sc⟩
theorem ws_setpen {ds0 : List Dt} (e0 : ρ[i]? = some (.pown ds0)) (h : Wp K pf te ρ fun d ρ1 => Wp K pf ti ρ1 fun dj ρ2 => ∃ (ds : List Dt) (j : Nat), ρ2[i]? = some (.pown ds) ∧ dj = .int j ∧ j < ds.length ∧ D.nx (powns (ds.set j d) ρ2)) :
    Ws K (tAsg te (gSub (tVar i) ti rSetL)) ρ D := fun M σ H S E k => by
  obtain ⟨o, h1, p, vs0, e1, e2, e3, e4⟩ := S.ok i _ e0
  subst e1
  refine h M σ H S _ fun v H1 d ρ1 s1 S1 x1 h2 => ?_
  refine ⟨.ref p, h1, h2 M σ H1 S1 _ fun w H2 dj ρ2 s2 S2 x2 ⟨ds, j, g1, g2, g3, g4⟩ => ?_⟩
  subst g2
  obtain ⟨o', z1, p', vs, y1, y2, y3, y4⟩ := S2.ok i _ g1
  obtain rfl : p' = p := Option.some.inj (y2.symm.trans e2)
  refine ⟨p', vs, j, j, rfl, x2.int_eq, y3, ?_, ?_⟩
  · unfold ixN
    rw [if_pos (Int.natCast_nonneg j), if_pos (by rw [y4.len]; exact Int.ofNat_lt.mpr g3)]
    rfl
  · obtain ⟨S3, s3⟩ := S2.writeP (o0 := .lst vs) y2 ⟨vs, y3⟩ (y4.set (x1.mono s2.dx) j)
    exact k.nx M σ _ _ ((s1.st.trans s2.st).trans s3) S3 g4
/-- the pen read: as long as nothing is written it is a list like any other -/
theorem Sd.freezeP {M : Md} {H : Hp} {σ : L2.St} {ds : List Dt} (S : Sd K M H σ ρ) (hs : ρ[i]? = some (.pown ds)) : Sd K { M with p := none } H σ (pdats ds ρ) := by
  obtain ⟨o0, h0, p, vs, e0, hp, e2, e3⟩ := S.ok i _ hs
  have has : ∀ a, ({ M with p := none } : Md).has a → M.has a := fun a h => by
    rcases h with h | h | h
    · exact (Md.inP0 rfl a h).elim
    · exact .inr (.inl h)
    · exact .inr (.inr h)
  have sc : Same (cut M H) (cut { M with p := none } H) := cut_le has
  have np : ¬ ({ M with p := none } : Md).has p := fun z => by
    rcases z with z | z | z
    · exact (Md.inP0 rfl p z).elim
    · exact (S.mok.pp hp).1 z
    · exact (S.mok.pp hp).2 z
  refine ⟨by unfold pdats; rw [List.length_map]; exact S.len, by unfold pdats; rw [List.length_map]; exact S.olen, ⟨fun a h => S.mok.live a (has a h), fun a h => (Md.inP0 rfl a h).elim, S.mok.FO, S.mok.nd, fun t ht => (nomatch ht)⟩, fun j s h => ?_⟩
  unfold pdats at h
  rw [List.getElem?_map] at h
  cases e : ρ[j]? with
  | none => rw [e] at h; cases h
  | some s0 =>
    rw [e] at h
    obtain ⟨o, h1, h2⟩ := S.ok j s0 e
    refine ⟨o, h1, ?_⟩
    have h := Option.some.inj h
    cases s0 with
    | any => subst h; trivial
    | dat d => subst h; obtain ⟨v, a1, a2⟩ := h2; exact ⟨v, a1, a2.mono sc⟩
    | val u d => subst h; obtain ⟨a1, a2⟩ := h2; exact ⟨a1, a2.mono sc⟩
    | own es' => subst h; obtain ⟨l, vs', a1, a2, a3, a4⟩ := h2; exact ⟨l, vs', a1, a2, a3, a4.mono sc⟩
    | obj C0 b0 ns0 es' => subst h; obtain ⟨l, dx0, vs', a1, a2, a3, a5, a4⟩ := h2; exact ⟨l, dx0, vs', a1, a2, a3, a5, a4.mono sc⟩
    | ownd es' => subst h; obtain ⟨l, vs', a1, a2, a3, a4⟩ := h2; exact ⟨l, vs', a1, a2, a3, a4.mono sc⟩
    | pen m =>
      subst h
      obtain ⟨p', a1, a2, _⟩ := h2
      obtain rfl : p' = p := Option.some.inj (a2.symm.trans hp)
      exact ⟨.ref p', a1, .lst (.inl (.inl (cut_at np e2))) (e3.mono sc)⟩
    | pown es' =>
      subst h
      obtain ⟨p', _, a1, a2, _⟩ := h2
      obtain rfl : p' = p := Option.some.inj (a2.symm.trans hp)
      exact ⟨.ref p', a1, .lst (.inl (.inl (cut_at np e2))) (e3.mono sc)⟩
theorem wp_pen {ds : List Dt} (hs : ρ[i]? = some (.pown ds)) (h : Wp K true te (pdats ds ρ) fun d _ => flatD d = true ∧ Φ d ρ) : Wp K pf te ρ Φ := fun M σ H S Q q =>
  h _ σ H (S.freezeP hs) Q fun v H2 d ρ' s S3 x ⟨f, z⟩ => q v H2 d ρ (Tr.same pf M (s.sm rfl)) (S.same (s.sm rfl)) (flat_any f x) z
theorem wt_pen {ds : List Dt} {Θ : Bool → List Sl → Prop} (hs : ρ[i]? = some (.pown ds)) (h : Wt K true tt (pdats ds ρ) fun b _ => Θ b ρ) : Wt K pf tt ρ Θ := fun M σ H S Q q =>
  h _ σ H (S.freezeP hs) Q fun b H2 ρ' s S3 z => q b H2 ρ (Tr.same pf M (s.sm rfl)) (S.same (s.sm rfl)) z
theorem Sd.openP {M : Md} {H : Hp} {σ : L2.St} {n : Nat} (S : Sd K M H σ ρ) (hs : ρ[i]? = some (.pen n)) : ∃ (ns : List Int) (c : Nat) (g : Int), c ≤ n ∧ 0 ≤ g ∧ ns.length ≤ 63 ∧ Sd K M H σ (powns [.lst (ns.map Dt.int), .int c, .int g] ρ) := by
  obtain ⟨o0, h0, p, e0, hp, l, ns, c, g, b1, b2, b3, b4, b5⟩ := S.ok i _ hs
  have asInts : ∀ ns : List Int, DXs K (cut M H) (ns.map V.int) (ns.map Dt.int) := fun ns => by
    induction ns with
    | nil => exact .nil
    | cons n r ih => exact .cons (.int n) ih
  have xs : DXs K (cut M H) [.ref l, .int c, .int g] [.lst (ns.map Dt.int), .int c, .int g] := .cons (.lst b2 (asInts ns)) (.cons (.int _) (.one (.int _)))
  refine ⟨ns, c, g, b3, b4, b5, by unfold powns; rw [List.length_map]; exact S.len, by unfold powns; rw [List.length_map]; exact S.olen, S.mok, fun j s h => ?_⟩
  unfold powns at h
  rw [List.getElem?_map] at h
  cases e : ρ[j]? with
  | none => rw [e] at h; cases h
  | some s0 =>
    rw [e] at h
    obtain ⟨o, h1, h2⟩ := S.ok j s0 e
    refine ⟨o, h1, ?_⟩
    have h := Option.some.inj h
    cases s0 with
    | any => subst h; trivial
    | dat d => subst h; exact h2
    | val u d => subst h; exact h2
    | own es' => subst h; exact h2
    | obj C0 b0 ns0 es' => subst h; exact h2
    | ownd es' => subst h; exact h2
    | pen m =>
      subst h
      obtain ⟨p', a1, a2, _⟩ := h2
      obtain rfl : p' = p := Option.some.inj (a2.symm.trans hp)
      exact ⟨p', _, a1, a2, b1, xs⟩
    | pown es' =>
      subst h
      obtain ⟨p', _, a1, a2, _⟩ := h2
      obtain rfl : p' = p := Option.some.inj (a2.symm.trans hp)
      exact ⟨p', _, a1, a2, b1, xs⟩
theorem ws_open {n : Nat} (hs : ρ[i]? = some (.pen n)) (h : ∀ (ns : List Int) (c : Nat) (g : Int), c ≤ n → 0 ≤ g → ns.length ≤ 63 → Ws K t (powns [.lst (ns.map Dt.int), .int c, .int g] ρ) D) : Ws K t ρ D := fun M σ H S E k =>
  let ⟨ns, c, g, h1, h2, h3, S2⟩ := S.openP hs
  h ns c g h1 h2 h3 M σ H S2 E k
/-- what is left of the pen in a slot -/
inductive PenS (n : Nat) : Sl → Prop
  | pen {m : Nat} (h : m ≤ n) : PenS n (.pen m)
  | pown {ns : List Int} {c : Nat} {g : Int} (h1 : c ≤ n) (h2 : 0 ≤ g) (h3 : ns.length ≤ 63) : PenS n (.pown [.lst (ns.map Dt.int), .int c, .int g])
theorem Pen.le {M : Md} {H : Hp} {p : Addr} {m n : Nat} (h : Pen K M H p m) (e : m ≤ n) : Pen K M H p n := by
  obtain ⟨l, ns, c, g, b1, b2, b3, b4⟩ := h
  exact ⟨l, ns, c, g, b1, b2, Nat.le_trans b3 e, b4⟩
theorem PenS.of {M : Md} {H : Hp} {j n : Nat} {o : Option V} {s : Sl} (h : PenS n s) (k : SlOk K M H j o s) : ∃ p, M.p = some p ∧ Pen K M H p n := by
  cases h with
  | pen h => obtain ⟨p, _, a2, a3⟩ := k; exact ⟨p, a2, a3.le h⟩
  | @pown ns c g h1 h2 h3 =>
    obtain ⟨p, vs, _, a2, a3, a4⟩ := k
    cases a4 with
    | cons x1 r1 =>
      cases r1 with
      | cons x2 r2 =>
        cases r2 with
        | cons x3 r3 =>
          cases r3
          rw [x2.int_eq, x3.int_eq] at a3
          cases x1 with
          | lst hs ha =>
            rw [ha.ints] at hs
            exact ⟨p, a2, _, ns, c, g, a3, hs, h1, h2, h3⟩
end

/-! ### a def's promise from its body -/
def slots (ds : List Dt) (m : Nat) : List Sl := ds.map Sl.dat ++ List.replicate m .any
section
variable {P : Program} {w : World} {K : PySem.W.Frag} {mg : Str → Option Value} {base : Heap} {t : TS}
theorem start_at {N : List Str} {vs : List V} {j : Nat} (h : j < vs.length) : (L2.start N vs)[j]? = vs[j]?.map some := by
  unfold L2.start
  rw [List.getElem?_append_left (by rw [List.length_map]; exact h), List.getElem?_map]
theorem sd_start {N : List Str} {M : Md} {H : Hp} {vs : List V} {ds : List Dt} (hO : M.O = []) (m : MOk M H) (x : DXs K (cut M H) vs ds) (hl : vs.length ≤ N.length) : Sd K (M.body N.length) H (L2.start N vs) (slots ds (N.length - ds.length)) := by
  have e := x.len
  have ec : cut (M.body N.length) H = cut M H := cut_congr (Md.body_has hO N.length) H
  refine ⟨?_, ?_, m.body hO _, fun j s h => ?_⟩
  · unfold L2.start slots
    rw [List.length_append, List.length_append, List.length_map, List.length_map, List.length_replicate, List.length_replicate, e]
  · unfold slots Md.body
    rw [List.length_append, List.length_map, List.length_replicate, List.length_replicate]
    omega
  · unfold slots at h
    by_cases hj : j < ds.length
    · rw [List.getElem?_append_left (by rw [List.length_map]; exact hj), List.getElem?_map] at h
      cases ed : ds[j]? with
      | none => rw [ed] at h; cases h
      | some d =>
        rw [ed] at h
        have h := Option.some.inj h
        subst h
        obtain ⟨v, h1, h2⟩ := x.getd ed
        refine ⟨some v, ?_, v, rfl, by rw [ec]; exact h2⟩
        rw [start_at (by rw [e]; exact hj), h1]
        rfl
    · rw [List.getElem?_append_right (by rw [List.length_map]; omega), List.getElem?_replicate] at h
      split at h
      · have h := Option.some.inj h
        subst h
        refine ⟨none, ?_, trivial⟩
        unfold L2.start
        rw [List.getElem?_append_right (by rw [List.length_map]; omega), List.getElem?_replicate, List.length_map]
        rw [if_pos (by rename_i hm; rw [List.length_map] at hm; omega)]
      · cases h
/-- a def that changes nothing -/
theorem read_P {N : List Str} {W : List Dt → (Dt → Prop) → Prop} {vs : List V} {H : Hp} {Q : VK} {E : XK} (h : spP K W vs H Q E) (hl : vs.length ≤ N.length)
    (b : ∀ ds Φ, ds.length = vs.length → W ds Φ → Ws K t (slots ds (N.length - ds.length)) { nx := fun _ => Φ .non, rt := fun d _ => Φ d }) : t { nx := fun _ H' => Q .non H', rt := Q } (L2.start N vs) H := by
  obtain ⟨M, ds, Φ, hp, hO, m, x, w, q⟩ := h
  have keep : ∀ {M' : Md} {H' : Hp}, Stp (M.body N.length) H M' H' → Same H H' := fun s a o z => (s.keep a o z (Md.inP0 hp a) no_rep).1
  have sub : ∀ {M' : Md} {H' : Hp}, Stp (M.body N.length) H M' H' → Same (cut M' H') (cut M H') := fun {M' H'} s => cut_le fun a z => by
    rcases z with z | z | z
    · exact (Md.inP0 hp a z).elim
    · exact .inr (.inl (by rw [s.F]; exact z))
    · rw [hO] at z; cases z
  refine b ds Φ x.len.symm w (M.body N.length) _ H (sd_start hO m x hl) _ ⟨fun M' σ' H' ρ' s S z => q .non H' .non (keep s) .non z, fun M' v H' d ρ' σ' s S x z => q v H' d (keep s) (x.mono (sub s)) z, fun M' σ' H' ρ' s S z => z, fun M' σ' H' ρ' s S z => z, fun _ _ _ _ _ _ _ _ _ _ _ _ z => z⟩
/-- a def that draws -/
theorem read_N {N : List Str} {W : Nat → List Dt → (Dt → Nat → Prop) → Prop} {vs : List V} {H : Hp} {Q : VK} {E : XK} (h : spN K W vs H Q E) (hl : vs.length ≤ N.length)
    (b : ∀ n ds Φ, ds.length + 1 = vs.length → W n ds Φ → Ws K t (.pen n :: slots ds (N.length - (ds.length + 1))) { nx := fun ρ => ∃ n' s, ρ[0]? = some s ∧ PenS n' s ∧ Φ .non n', rt := fun d ρ => ∃ n' s, ρ[0]? = some s ∧ PenS n' s ∧ Φ d n' }) :
    t { nx := fun _ H' => Q .non H', rt := Q } (L2.start N vs) H := by
  obtain ⟨M, p, n, ws, ds, Φ, rfl, hp, hO, m, P0, x, w, q⟩ := h
  have ec : ∀ H', cut (M.body N.length) H' = cut M H' := fun H' => cut_congr (Md.body_has hO N.length) H'
  have keep : ∀ {M' : Md} {H' : Hp}, Stp (M.body N.length) H M' H' → ∀ a o, H a = some o → ¬ M.inP a → H' a = some o := fun s a o z c => (s.keep a o z c no_rep).1
  have sub : ∀ {M' : Md} {H' : Hp}, Stp (M.body N.length) H M' H' → Same (cut M' H') (cut M H') := fun {M' H'} s => cut_le fun a z => by
    rcases z with z | z | z
    · exact .inl ((s.inP a).mpr z)
    · exact .inr (.inl (by rw [s.F]; exact z))
    · rw [hO] at z; cases z
  have tabs : ∀ {M' : Md} {H' : Hp}, Stp (M.body N.length) H M' H' → MOk M' H' → TabsM M H' := fun {M' H'} s m t ht => (m.tb t (by rw [s.ts]; exact ht)).step (fun _ z => z) (sub s)
  have pen : ∀ {M' : Md} {H' : Hp} {σ' : L2.St} {ρ' : List Sl} {n' : Nat} {sl : Sl}, Stp (M.body N.length) H M' H' → Sd K M' H' σ' ρ' → ρ'[0]? = some sl → PenS n' sl → Pen K M H' p n' := fun {M' H' σ' ρ' n' sl} s S e ps => by
    obtain ⟨o, _, k⟩ := S.ok 0 sl e
    obtain ⟨p', h1, l, ns, c, g, b1, b2, b3⟩ := ps.of k
    have e1 : M'.p = M.p := s.p
    obtain rfl : p' = p := Option.some.inj (h1.symm.trans (e1.trans hp))
    exact ⟨l, ns, c, g, b1, (sub s).seq b2, b3⟩
  have S0 : Sd K (M.body N.length) H (L2.start N (.ref p :: ws)) (.pen n :: slots ds (N.length - (ds.length + 1))) := by
    have hx : DXs K (cut M H) (V.int 0 :: ws) (Dt.int 0 :: ds) := .cons (.int 0) x
    have S1 := sd_start (N := N) hO m hx (by simpa using hl)
    refine ⟨?_, ?_, S1.mok, fun j s h => ?_⟩
    · have := S1.len
      unfold slots L2.start at this ⊢
      simp only [List.length_append, List.length_map, List.length_replicate, List.length_cons] at this ⊢
      omega
    · have := S1.olen
      unfold slots at this ⊢
      simp only [List.length_append, List.length_map, List.length_replicate, List.length_cons] at this ⊢
      omega
    · cases j with
      | zero =>
        have h := Option.some.inj (show some (Sl.pen n) = some s from h)
        subst h
        obtain ⟨l, ns, c, g, b1, b2, b3⟩ := P0
        exact ⟨some (.ref p), rfl, p, rfl, hp, l, ns, c, g, b1, by rw [ec]; exact b2, b3⟩
      | succ j =>
        obtain ⟨o, h1, h2⟩ := S1.ok (j + 1) s (by
          show (slots (Dt.int 0 :: ds) _)[j + 1]? = _
          unfold slots at h ⊢
          simpa using h)
        refine ⟨o, ?_, h2⟩
        unfold L2.start at h1 ⊢
        simpa using h1
  refine b n ds Φ (by rw [List.length_cons, x.len]) w (M.body N.length) _ H S0 _ ⟨fun M' σ' H' ρ' s S ⟨n', sl, e, ps, z⟩ => q .non H' .non n' ⟨keep s, tabs s S.mok⟩ (pen s S e ps) .non z, fun M' v H' d ρ' σ' s S x ⟨n', sl, e, ps, z⟩ => q v H' d n' ⟨keep s, tabs s S.mok⟩ (pen s S e ps) (x.mono (sub s)) z, fun M' σ' H' ρ' s S z => z, fun M' σ' H' ρ' s S z => z, fun _ _ _ _ _ _ _ _ _ _ _ _ z => z⟩
end
end DL

/-! set(t) of a tuple, whatever its things are: J i tells what is known of the set when i of them are in it. -/
namespace DL
open PySem PySem.Spec PyProof.Rows L2
variable [Tb]

/-- what stands in h0 stands in h -/
abbrev Kp (h0 h : Heap) : Prop := ∀ b o, h0.get? b = some o → h.get? b = some o
theorem tup_kp {h0 h : Heap} {l : Addr} {items : Array Value} (t : h0.IsTuple l items) (k : Kp h0 h) : h.IsTuple l items := t.elim fun o z => ⟨o, k _ _ z.1, z.2⟩
/-- an empty set, just made -/
def objS (w : World) : Obj := { cls := .type "set", dict := none, data := .set #[] 0 (.fresh 0 0 (!w.params.followText "set-order")) }
/-- one more thing put in -/
def Fills (P : Program) (w : World) (A : Around) (h0 : Heap) (S : Addr) (items : Array Value) (J : Nat → Heap → Prop) : Prop :=
  ∀ (i : Nat) (v : Value) (s : Shared) (Q : Bool → Shared → Prop) (E : Value → Shared → Prop), items[i]? = some v → J i s.heap → Kp h0 s.heap →
    (∀ b h' tk, Heap.SameBut S s.heap h' → J (i + 1) h' → Q b { s with heap := h', toks := tk }) → wpAny (model P w) A (setAdd S v) Q E s
/-- what is known of the set hangs on its own object and on what stood before -/
structure Own1 (h0 : Heap) (S : Addr) (J : Nat → Heap → Prop) : Prop where
  at_ : ∀ i h h', J i h → h'.get? S = h.get? S → Kp h0 h' → J i h'
  there : ∀ i h, J i h → ∃ o, h.get? S = some o
section
variable {P : Program} {w : World} {A : Around} {E : Value → Shared → Prop} {h0 : Heap} {S I l : Addr} {items : Array Value} {J : Nat → Heap → Prop} {R : Result → Shared → Prop}
theorem kp_but {h h' : Heap} {b : Addr} (k : Kp h0 h) (n : h0.get? b = none) (x : ∀ c o, c ≠ b → h.get? c = some o → h'.get? c = some o) : Kp h0 h' := fun c o e => x c o (fun z => by rw [z, n] at e; cases e) (k c o e)
theorem fillG (hh : A.in1.handled = none) (hl : h0.IsTuple l items) (own : Own1 h0 S J) (put : Fills P w A.in1 h0 S items J) (nS : h0.get? S = none) (nI : h0.get? I = none) (ne : S ≠ I) :
    ∀ (m i : Nat) (h : Heap) (g : Array GenState) (d : Drawn) (tk : Nat) (os : OsState), i + m = items.size → h.IsTupleIter I l i → J i h → Kp h0 h →
      (∀ h' tk', J items.size h' → Kp h0 h' → R (.ok (.ret .none)) ⟨h', g, d, tk', os⟩) → codeAny (model P w) A (.builtin "set.update.loop" ⟨[.ref S, .ref I], []⟩) R ⟨h, g, d, tk, os⟩ := by
  intro m
  induction m with
  | zero =>
    intro i h g d tk os e it j kp k
    obtain ⟨o, ho⟩ := own.there i h j
    refine codeAny_builtin F.entry_set_update_loop ?_
    rw [Around.under_plainId F.plain_set_update_loop _]
    refine wpAny_bind (m := pyNext (.ref I)) (wpAny_pyNext_tuple_end hh it (tup_kp hl kp) (Array.getElem?_eq_none (by omega)) fun h' x => wpAny_pure ?_)
    have kp' := kp_but kp nI fun c o n q => x c o n q
    rw [← show i = items.size from e] at k
    exact k h' tk (own.at_ _ _ _ j ((x S o ne ho).trans ho.symm) kp') kp'
  | succ m ih =>
    intro i h g d tk os e it j kp k
    obtain ⟨o, ho⟩ := own.there i h j
    have at_ : items[i]? = some items[i] := Array.getElem?_eq_getElem (by omega)
    refine codeAny_builtin F.entry_set_update_loop ?_
    rw [Around.under_plainId F.plain_set_update_loop _]
    refine wpAny_bind (m := pyNext (.ref I)) (wpAny_pyNext_tuple_item it (tup_kp hl kp) at_ fun h1 it1 x1 => ?_)
    have kp1 := kp_but kp nI fun c o n q => (x1.2 c n).trans q
    refine wpAny_bind (m := holding [items[i]] (setAdd S items[i])) (wpAny_holding (put i _ ⟨h1, g, d, tk, os⟩ _ _ at_ (own.at_ _ _ _ j (x1.2 S ne) kp1) kp1 fun b h2 tk2 x2 j2 => ?_))
    have kp2 := kp_but kp1 nS fun c o n q => (x2.2 c n).trans q
    refine wpAny_pure ⟨plainId_quiet F.plain_set_update_loop _, ih (i + 1) h2 g d tk2 os (by omega) ?_ j2 kp2 k⟩
    obtain ⟨q, q1, q2⟩ := it1
    exact ⟨q, (x2.2 I (Ne.symm ne)).trans q1, q2⟩
/-- the class called with one thing: an empty set is laid, then its __init__ -/
theorem set_called {s : Shared} {a : Value} {Q : Value → Shared → Prop} (h : wpAny (model P w) A.in1.in1 (Builtin.«set.__init__» ⟨[.ref s.heap.objs.size, a], []⟩)
      (fun fin s' => match fin with | .done f => wants (fun r s₂ => r = .none ∧ Q (.ref s.heap.objs.size) s₂) E (.ok f) s' | .again c' => c'.quiet = true ∧ codeAny (model P w) A.in1 c' (wants (fun r s₂ => r = .none ∧ Q (.ref s.heap.objs.size) s₂) E) s')
      (fun e s' => wants (fun r s₂ => r = .none ∧ Q (.ref s.heap.objs.size) s₂) E (.error e) s') { s with heap := s.heap.push (objS w) }) :
    wpAny (model P w) A (call (.type "set") [a]) Q E s := by
  have C := F.called_set
  obtain ⟨c, tl, up⟩ := C.mro
  have m := C.made
  have u := C.sub
  have n1 := C.notType
  have n2 := C.canCreate
  have n3 := F.typeCall_set_1 a
  have i1 := C.init.lookup
  have i2 := C.init.bind (.ref s.heap.objs.size)
  have ty : Shared.TypeIs { s with heap := s.heap.push (objS w) } (.ref s.heap.objs.size) "set" := ⟨_, Heap.get?_push_size _ rfl, rfl⟩
  refine wpAny_call (codeAny_of_tree (wpAny_pure ⟨Code.quiet_builtin _ (by decide +kernel), codeAny_builtin F.entry_type_call ?_⟩))
  rw [Around.under_plain (weight_type_call_type "set" [a] []) rfl]
  repeat (any_goals (first | assumption | wp_step))
  refine codeAny_mono (code_set_led1 a (E := E) (Q₁ := fun v s₁ => v = .ref s.heap.objs.size ∧ s₁ = { s with heap := s.heap.push (objS w) }) ⟨rfl, rfl⟩) ?_
  rintro (e | f) s₁ z
  · exact z
  cases f with
  | ret v =>
    obtain ⟨rfl, rfl⟩ := z
    repeat (any_goals (first | assumption | wp_step))
    refine codeAny_mono (codeAny_call_builtin C.init.plain F.entry_set_init (check_set_init_1 ty h)) ?_
    rintro (e | f) s₂ z
    · exact z
    cases f with
    | ret v =>
      obtain ⟨rfl, z⟩ := z
      repeat (any_goals (first | assumption | wp_step))
    | _ => exact z.elim
  | _ => exact z.elim
/-- set(t) -/
theorem call_setG {s : Shared} {Q : Value → Shared → Prop} (hh : A.handled = none) (hl : s.heap.IsTuple l items) (own : Own1 s.heap s.heap.objs.size J) (start : ∀ h', h'.get? s.heap.objs.size = some (objS w) → Kp s.heap h' → J 0 h')
    (put : Fills P w A.in1.in1.in1 s.heap s.heap.objs.size items J) (k : ∀ h' tk, J items.size h' → Kp s.heap h' → Q (.ref s.heap.objs.size) { s with heap := h', toks := tk }) :
    wpAny (model P w) A (call (.type "set") [.ref l]) Q E s := by
  refine set_called ?_
  have gone : ∀ b, s.heap.objs.size ≤ b → s.heap.get? b = none := fun b hb => by
    cases e : s.heap.get? b with
    | none => rfl
    | some o => exact absurd (Heap.lt_size e) (Nat.not_lt.mpr hb)
  have one : Kp s.heap (s.heap.push (objS w)) := fun b o e => Heap.get?_push_of_some _ e
  have hl1 : (s.heap.push (objS w)).IsTuple l items := tup_kp hl one
  have ty : Shared.TypeIs { s with heap := s.heap.push (objS w) } (.ref s.heap.objs.size) "set" := ⟨_, Heap.get?_push_size _ rfl, rfl⟩
  have tyl : Shared.TypeIs { s with heap := s.heap.push (objS w) } (.ref l) "tuple" := hl1.typeIs
  have t1 := F.sub_tuple_set
  have t2 := F.sub_tuple_frozenset
  have t3 : (Value.type "tuple" == Value.type "dict") = false := by decide
  have setAt : (s.heap.push (objS w)).get? s.heap.objs.size = some (objS w) := Heap.get?_push_size _ rfl
  obtain ⟨⟨oc, od, odt, osl⟩, hol, hcl, nl, hdl⟩ := id hl1
  dsimp only at hcl hdl
  subst hcl hdl
  unfold Builtin.«set.__init__» noKeywords Builtin.Frozenset.updateFrom
  generalize hPI : pyIter = PI
  wp_walk
  subst hPI
  refine wpAny_pyIter_tuple hl1 (wpAny_bind (wpAny_runValue ?_))
  have two : Kp s.heap ((s.heap.push (objS w)).push { cls := .type "tuple_iterator", data := .fields #[.ref l, .int 0 0] }) := fun b o e => Heap.get?_push_of_some _ (one b o e)
  have dead : A.in1.in1.in1.handled = none := by simp [hh]
  have n1 : s.heap.get? (s.heap.push (objS w)).objs.size = none := gone _ (by rw [Heap.size_push]; exact Nat.le_succ _)
  have ne : s.heap.objs.size ≠ (s.heap.push (objS w)).objs.size := by rw [Heap.size_push]; exact Nat.ne_of_lt (Nat.lt_succ_self _)
  exact fillG dead hl own put (gone _ (Nat.le_refl _)) n1 ne items.size 0 _ _ _ _ _ (Nat.zero_add _) ⟨_, Heap.get?_push_size _ rfl, rfl, rfl⟩ (start _ (Heap.get?_push_of_some _ setAt) two) two
    fun h' tk' j kp => wpAny_pure (wpAny_pure ⟨rfl, k h' tk' j kp⟩)
end
end DL

/-! set(t) of a tuple of texts, its length. -/
namespace DL
open PySem PySem.Spec PyProof.Rows L2
variable [Tb]

/-- one text more, if it isn't there -/
def addU (acc : List Str) (x : Str) : List Str := if x ∈ acc then acc else acc ++ [x]
def uniq (xs : List Str) : List Str := xs.foldl addU []
theorem uniq_snoc (xs : List Str) (x : Str) : uniq (xs ++ [x]) = addU (uniq xs) x := by
  unfold uniq
  rw [List.foldl_append]
  rfl
theorem uniq_mem (xs : List Str) (y : Str) : y ∈ uniq xs ↔ y ∈ xs := by
  have go : ∀ (r acc : List Str), y ∈ r.foldl addU acc ↔ y ∈ acc ∨ y ∈ r := by
    intro r
    induction r with
    | nil => intro acc; simp
    | cons x r ih =>
      intro acc
      rw [List.foldl_cons, ih]
      unfold addU
      by_cases c : x ∈ acc
      · rw [if_pos c]
        constructor
        · rintro (h | h)
          · exact .inl h
          · exact .inr (List.mem_cons_of_mem _ h)
        · rintro (h | h)
          · exact .inl h
          · rcases List.mem_cons.mp h with e | h
            · exact .inl (by rw [e]; exact c)
            · exact .inr h
      · rw [if_neg c, List.mem_append, List.mem_singleton, List.mem_cons, or_assoc]
  rw [show uniq xs = xs.foldl addU [] from rfl, go xs []]
  simp
theorem uniq_le : ∀ (r acc : List Str), (r.foldl addU acc).length ≤ acc.length + r.length
  | [], acc => Nat.le_refl _
  | x :: r, acc => by
    rw [List.foldl_cons]
    have h := uniq_le r (addU acc x)
    have h2 : (addU acc x).length ≤ acc.length + 1 := by
      unfold addU
      split
      · omega
      · rw [List.length_append, List.length_singleton]; exact Nat.le_refl _
    rw [List.length_cons]
    omega
theorem uniq_len (xs : List Str) : (uniq xs).length ≤ xs.length := by
  have := uniq_le xs []
  simpa [uniq] using this
theorem uniq_nodup (xs : List Str) : (uniq xs).length = xs.length ↔ xs.Nodup := by
  have go : ∀ (r acc : List Str), (r.foldl addU acc).length = acc.length + r.length ↔ (∀ x ∈ r, x ∉ acc) ∧ r.Nodup := by
    intro r
    induction r with
    | nil => intro acc; simp
    | cons x r ih =>
      intro acc
      rw [List.foldl_cons, List.length_cons, List.nodup_cons]
      by_cases c : x ∈ acc
      · have e : addU acc x = acc := if_pos c
        rw [e]
        have h := uniq_le r acc
        constructor
        · intro z; omega
        · intro z; exact absurd c (z.1 x List.mem_cons_self)
      · have e : addU acc x = acc ++ [x] := if_neg c
        have h := ih (acc ++ [x])
        rw [List.length_append, List.length_singleton] at h
        rw [e, show acc.length + (r.length + 1) = acc.length + 1 + r.length by omega, h]
        constructor
        · rintro ⟨h1, h2⟩
          refine ⟨fun y hy => ?_, fun hx => h1 x hx (by simp), h2⟩
          rcases List.mem_cons.mp hy with e | hy
          · rw [e]; exact c
          · exact fun z => h1 y hy (List.mem_append_left _ z)
        · rintro ⟨h1, h2, h3⟩
          refine ⟨fun y hy z => ?_, h3⟩
          rcases List.mem_append.mp z with z | z
          · exact h1 y (List.mem_cons_of_mem _ hy) z
          · rw [List.mem_singleton.mp z] at hy; exact h2 hy
  have h := go xs []
  simpa [uniq] using h

section
variable {P : Program} {w : World} {A : Around} {E : Value → Shared → Prop} {s : Shared}
/-- the set at S holds just the texts of xs -/
abbrev SetS (P : Program) (w : World) (h : Heap) (S : Addr) (xs : List Str) : Prop := h.SetOf (PySem.strKind P w) S (fun j => decide (j ∈ xs)) (uniq xs).length
theorem SetS.at {h h' : Heap} {S : Addr} {xs : List Str} (q : SetS P w h S xs) (k : ∀ o, h.get? S = some o → h'.get? S = some o) : SetS P w h' S xs := by
  obtain ⟨o, es, ep, t, ho, r⟩ := q
  exact ⟨o, es, ep, t, k o ho, r⟩
theorem addS {h : Heap} {S : Addr} {xs : List Str} {x : Str} (q : h.SetOf (PySem.strKind P w) S (fun j => decide (j ∈ xs) || decide (j = x)) (if decide (x ∈ xs) = true then (uniq xs).length else (uniq xs).length + 1)) : SetS P w h S (xs ++ [x]) := by
  have e1 : (fun j : Str => decide (j ∈ xs) || decide (j = x)) = fun j => decide (j ∈ xs ++ [x]) := by
    funext j
    simp
  have e2 : (if decide (x ∈ xs) = true then (uniq xs).length else (uniq xs).length + 1) = (uniq (xs ++ [x])).length := by
    rw [uniq_snoc]
    unfold addU
    by_cases c : x ∈ xs
    · rw [if_pos (decide_eq_true c), if_pos ((uniq_mem xs x).mpr c)]
    · rw [if_neg (by rw [decide_eq_false c]; exact Bool.false_ne_true), if_neg fun z => c ((uniq_mem xs x).mp z), List.length_append, List.length_singleton]
  rw [e1, e2] at q
  exact q
/-- set(t), t a tuple of texts -/
theorem call_setS {l : Addr} {items : Array Value} (xs : List Str) {Q : Value → Shared → Prop} (hh : A.handled = none) (hl : s.heap.IsTuple l items)
    (hit : ∀ (i : Nat) (v : Value), items[i]? = some v → ∃ x t, xs[i]? = some x ∧ v = Value.str x t) (hz : items.size = xs.length) (hb : xs.length + 1 < scanBound)
    (h : ∀ (h' : Heap) (tk : Nat), SetS P w h' s.heap.objs.size xs → (∀ b o, s.heap.get? b = some o → h'.get? b = some o) → Q (.ref s.heap.objs.size) { s with heap := h', toks := tk }) :
    wpAny (model P w) A (call (.type "set") [.ref l]) Q E s := by
  refine call_setG (J := fun i h => SetS P w h s.heap.objs.size (xs.take i)) hh hl ⟨fun i h h' q e _ => q.at fun o z => e.trans z, fun i h q => ?_⟩ (fun h' e _ => ?_) (fun i v s1 Q1 E1 hv q _ k => ?_) fun h' tk q kp => h h' tk (by rw [hz, List.take_length] at q; exact q) kp
  · obtain ⟨o, _, _, _, ho, _⟩ := q
    exact ⟨o, ho⟩
  · have z := (setObjOf_fresh (knd := PySem.strKind P w) (!w.params.followText "set-order")).setOf e (by unfold scanBound; omega)
    rw [show (fun _ : Str => false) = fun j => decide (j ∈ xs.take 0) by funext j; simp] at z
    exact z
  · obtain ⟨x, t, hx, rfl⟩ := hit i v hv
    have room := uniq_len (xs.take i)
    rw [List.length_take] at room
    refine wpAny_holding (wpAny_bind ((PySem.strKind P w).pyHash (k := x) (strKind_is _ _ _ _) ?_))
    refine wpAny_setAddHashed_of (knd := PySem.strKind P w) (s := { s1 with toks := s1.toks + 1 }) (strKind_is _ _ _ _) rfl q (by omega) fun h' sb q2 => k _ h' _ sb ?_
    show SetS P w h' _ (xs.take (i + 1))
    rw [List.take_add_one, hx]
    exact addS q2
end
/-! ### len(set(t)) -/
def tLenS (K : PySem.W.Frag) (ta : TE) : TE := fun σ H Q => ta σ H fun x H1 => ∃ (l : Addr) (xs : List Str), x = .ref l ∧ SqT K H1 l (xs.map V.str) ∧ xs.length ≤ 1000 ∧ Q (.int ((uniq xs).length : Nat)) H1
theorem pe_lenS {X : Cx} {a : Expr} {ta : TE} {p p2 q pos : Pos} (hc : X.calm = true) (hg : Gl X "len") (hm : X.mg "len" = none) (hg2 : Gl X "set") (hm2 : X.mg "set" = none) (ha : PE X a ta)
    (na : starEach [a] X.env = (false, eval a X.env) :: starEach [] X.env := by rfl) :
    PE X (.Call (.Name "len" p) [.Call (.Name "set" p2) [a] [] q] [] pos) (tLenS X.K ta) := by
  constructor
  intro pins s σ H Q I h
  refine Call_ (ld_blt I hg hm boot_len (PyProof.Rows.callWith_builtin1 (PyProof.Rows.args_cons ?_ rfl) rfl rfl))
  refine Call_ (ld_blt I hg2 hm2 boot_set (PyProof.Rows.callWith_type1 (PyProof.Rows.args_cons ?_ na) na rfl))
  refine thn (ha.run pins s σ H _ I h) ?_
  intro v s1 ⟨x, H1, I1, r1, l, xs, ex, hq, hz, q1⟩
  subst ex
  cases r1
  refine PyProof.Rows.args_nil ?_
  obtain ⟨its, r, ht, _⟩ := I1.tuple hq
  have hl : its.toArray.size = xs.length := by rw [List.size_toArray, ← r.length, List.length_map]
  refine call_setS xs (I1.ok.hd hc) ht ?_ hl (by unfold scanBound; omega) ?_
  · intro i v e
    have e' : its[i]? = some v := by simpa using e
    have hi : i < xs.length := by rw [← hl]; exact (Array.getElem?_eq_some_iff.mp e).1
    obtain ⟨u, hu, t, hu'⟩ := r.get (i := i) (x := .str xs[i]) (by simp [hi])
    rw [e'] at hu
    exact ⟨xs[i], t, List.getElem?_eq_getElem hi, (Option.some.inj hu).trans hu'⟩
  · intro h' tk hS hk
    refine PyProof.Rows.args_nil ?_
    obtain ⟨o, es, ep, t, ho, hex, hd, _, _, _, hf, hn⟩ := hS
    have I2 : Inv X pins σ H1 { s1 with heap := h', toks := tk } := I1.kept hk
    have := uniq_len xs
    exact call_len_set ho hex hd hf (by rw [hn]; omega) ⟨.int (uniq xs).length, H1, I2.tok _, ⟨_, by rw [hn]⟩, q1⟩
section
variable {K : PySem.W.Frag} {pf : Bool} {ρ : List Sl} {te : TE} {Φ : Dt → List Sl → Prop}
theorem w_lenS (h : Wp K pf te ρ fun d ρ1 => ∃ xs : List Str, d = .tup (xs.map Dt.str) ∧ xs.length ≤ 1000 ∧ Φ (.int ((uniq xs).length : Nat)) ρ1) : Wp K pf (tLenS K te) ρ Φ := fun M σ H S Q q =>
  h M σ H S _ fun v H1 d ρ1 s1 S1 x1 ⟨xs, e, hz, f⟩ => by
    subst e
    cases x1 with
    | tup hs ha =>
      rw [ha.strs] at hs
      exact ⟨_, xs, rfl, same_T (cut_sub M H1) hs, hz, q _ H1 _ ρ1 s1 S1 (.int _) f⟩
end
end DL

/-! Data level: defs by promises; comprehensions that filter and map; lists put together. -/
namespace DL
open PySem PySem.Spec PyProof.Rows L2
variable [Tb]

section
variable {P : Program} {w : World} {K : PySem.W.Frag} {mg : Str → Option Value} {base : Heap} {k : Nat} {f : Addr} {fd : FuncData} {ps N : List Str} {x qual : Str} {st : Stmt}
/-- a def that changes nothing, by its body -/
theorem defP {W : List Dt → (Dt → Prop) → Prop} (F : Fun K x qual st f fd) (S : FnScope N ps (defScope st)) (hW : ∀ ds Φ, W ds Φ → ds.length = ps.length) (hN : ps.length ≤ N.length)
    (hb : ∀ (cdv : Value) (A : Around) (outer : List Env) (s : Shared) (H : Hp) (E : XK), Room k (A.deeper (envOfC qual (defScope st) s.heap.objs.size f cdv)) →
      (A.deeper (envOfC qual (defScope st) s.heap.objs.size f cdv)).guards = some [] → ∃ t, PSs (cxOf CX0 P w K mg base N qual (defScope st) f cdv A outer s H E).nox (defBody st) t ∧
        ∀ ds Φ, W ds Φ → Ws K t (slots ds (N.length - ds.length)) { nx := fun _ => Φ .non, rt := fun d _ => Φ d }) : FnG P w K mg base CX0 (k + 1) f fd ps (spP K W) := by
  have len : ∀ vs H Q E, spP K W vs H Q E → vs.length = ps.length := fun vs H Q E ⟨M, ds, Φ, _, _, _, x, w, _⟩ => x.len.trans (hW ds Φ w)
  refine okG F S len fun cdv A outer s H vs Q E hr hg h => ?_
  obtain ⟨t, h1, h2⟩ := hb cdv A outer s H E hr hg
  exact ⟨t, h1, read_P (E := E) h (by rw [len _ _ _ _ h]; exact hN) fun ds Φ _ w => h2 ds Φ w⟩
/-- .. that shows nothing: whatever is being shown around it -/
theorem defP0 {W : List Dt → (Dt → Prop) → Prop} (F : Fun K x qual st f fd) (S : FnScope N ps (defScope st)) (hW : ∀ ds Φ, W ds Φ → ds.length = ps.length) (hN : ps.length ≤ N.length)
    (hb : ∀ (cdv : Value) (A : Around) (outer : List Env) (s : Shared) (H : Hp) (E : XK), Room k (A.deeper (envOfC qual (defScope st) s.heap.objs.size f cdv)) →
      ∃ t, PSs (cxOf CX0 P w K mg base N qual (defScope st) f cdv A outer s H E).nox (defBody st) t ∧
        ∀ ds Φ, W ds Φ → Ws K t (slots ds (N.length - ds.length)) { nx := fun _ => Φ .non, rt := fun d _ => Φ d }) : FnOk P w K mg base CX0 (k + 1) f fd ps (spP K W) := by
  have len : ∀ vs H Q E, spP K W vs H Q E → vs.length = ps.length := fun vs H Q E ⟨M, ds, Φ, _, _, _, x, w, _⟩ => x.len.trans (hW ds Φ w)
  refine F.ok S len fun cdv A outer s H vs Q E hr h => ?_
  obtain ⟨t, h1, h2⟩ := hb cdv A outer s H E hr
  exact ⟨t, h1, read_P (E := E) h (by rw [len _ _ _ _ h]; exact hN) fun ds Φ _ w => h2 ds Φ w⟩
/-- a def that draws, by its body -/
theorem defN {W : Nat → List Dt → (Dt → Nat → Prop) → Prop} (F : Fun K x qual st f fd) (S : FnScope N ps (defScope st)) (hW : ∀ n ds Φ, W n ds Φ → ds.length + 1 = ps.length) (hN : ps.length ≤ N.length)
    (hb : ∀ (cdv : Value) (A : Around) (outer : List Env) (s : Shared) (H : Hp) (E : XK), Room k (A.deeper (envOfC qual (defScope st) s.heap.objs.size f cdv)) →
      (A.deeper (envOfC qual (defScope st) s.heap.objs.size f cdv)).guards = some [] → ∃ t, PSs (cxOf CX0 P w K mg base N qual (defScope st) f cdv A outer s H E).nox (defBody st) t ∧
        ∀ n ds Φ, W n ds Φ → Ws K t (.pen n :: slots ds (N.length - (ds.length + 1))) { nx := fun ρ => ∃ n' s, ρ[0]? = some s ∧ PenS n' s ∧ Φ .non n', rt := fun d ρ => ∃ n' s, ρ[0]? = some s ∧ PenS n' s ∧ Φ d n' }) :
    FnG P w K mg base CX0 (k + 1) f fd ps (spN K W) := by
  have len : ∀ vs H Q E, spN K W vs H Q E → vs.length = ps.length := fun vs H Q E ⟨M, p, n, ws, ds, Φ, e, _, _, _, _, x, w, _⟩ => by
    rw [e, List.length_cons, x.len]; exact hW n ds Φ w
  refine okG F S len fun cdv A outer s H vs Q E hr hg h => ?_
  obtain ⟨t, h1, h2⟩ := hb cdv A outer s H E hr hg
  exact ⟨t, h1, read_N (E := E) h (by rw [len _ _ _ _ h]; exact hN) fun n ds Φ _ w => h2 n ds Φ w⟩
end

/-! ### lists put together -/
def rCatL (K : PySem.W.Frag) : R2 := fun x y H Q => ∃ l b xs zs, x = .ref l ∧ y = .ref b ∧ SqL K H l xs ∧ SqL K H b zs ∧ xs.length + zs.length ≤ sizeLine ∧ ∀ p, H p = none → Q (.ref p) (upd H p (.lst (xs ++ zs)))
theorem op_catL {X : Cx} : OpR X (binaryOp .Add) (rCatL X.K) := by
  intro pins s σ H x y v u Q I rx ry h
  obtain ⟨l, b, xs, zs, rfl, rfl, hH, hB, hz, q⟩ := h
  cases rx
  cases ry
  obtain ⟨its, r, ⟨⟨c1, dd1, d1, s1⟩, n, e, hc, _, hd⟩, _⟩ := I.list hH
  obtain ⟨its2, r2, ⟨⟨c2, dd2, d2, s2⟩, n2, e2, hc2, _, hd2⟩, _⟩ := I.list hB
  simp only at hc hd hc2 hd2
  subst hc hd hc2 hd2
  have l1 := r.length
  have l2 := r2.length
  refine concat_meets ⟨_, e, rfl⟩ ⟨_, e2, rfl⟩ noFill_list_add seq_list_add PySem.F.slot_list_add PySem.F.entry_list_add (PySem.F.args_list_add_2 _ _) (list_addW l b its.toArray its2.toArray n n2 dd1 dd2 s1 s2 (by rw [List.size_toArray, List.size_toArray]; omega)) ⟨e, e2, ?_⟩
  have ea : its.toArray ++ its2.toArray = (its ++ its2).toArray := by simp
  rw [ea]
  exact ⟨.ref _, _, I.lnew (t' := s.toks) (r.append r2) (by rw [List.length_append]; omega), rfl, q _ I.fresh⟩
section
variable {K : PySem.W.Frag} {pf : Bool} {ρ : List Sl} {te : TE} {tt : TT} {wi : TI} {j : Nat} {Φ : Dt → List Sl → Prop}
theorem set_any {ρ : List Sl} {j : Nat} {s : Sl} (e : ρ[j]? = some .any) : (ρ.set j s).set j .any = ρ := by
  rw [List.set_set]
  apply List.ext_getElem?
  intro i
  by_cases c : j = i
  · subst c
    rw [List.getElem?_set_self (List.getElem?_eq_some_iff.mp e).1, e]
  · rw [List.getElem?_set_ne c]
/-- [f(d) for d in .. if b(d)] -/
theorem w_lcF (b : Dt → Bool) (f : Dt → Dt) (e : ρ[j]? = some .any) (h : WI K pf wi ρ fun ds ρ1 => ρ1 = ρ ∧ ds.length ≤ 50000 ∧ (∀ d ∈ ds, Wt K pf tt (ρ.set j (.dat d)) fun c ρ2 => c = b d ∧ ρ2 = ρ.set j (.dat d)) ∧
      (∀ d ∈ ds, b d = true → Wp K pf te (ρ.set j (.dat d)) fun y ρ3 => y = f d ∧ ρ3 = ρ.set j (.dat d)) ∧ Φ (.lst ((ds.filter b).map f)) ρ) : Wp K pf (tLc wi (gName j) tt te [j]) ρ Φ := by
  refine w_lc (js := [j]) (fun _ z => z) fun M σ H S R q => h M σ H S R fun J H1 ds ρ1 s1 S1 w ⟨e1, hz, ht, he, z⟩ => q J H1 ds ρ1 s1 S1 w ?_
  subst e1
  have w0 : wipeS ρ1 [j] = ρ1 := by
    show ρ1.set j .any = ρ1
    have := set_any (s := .any) e
    rw [List.set_set] at this
    exact this
  have w1 : ∀ d, wipeS (ρ1.set j (.dat d)) [j] = ρ1 := fun d => set_any e
  refine ⟨⟨fun i acc ρ2 => ρ2 = ρ1 ∧ acc = ((ds.take i).filter b).map f, ⟨w0, rfl⟩, hz, fun i d acc ρ2 hd ⟨e2, ea⟩ => ?_, fun acc ρ2 ⟨e2, ea⟩ => ?_⟩⟩
  · subst e2 ea
    have hm := List.mem_of_getElem? hd
    have tk : ds.take (i + 1) = ds.take i ++ [d] := by rw [List.take_add_one, hd]; rfl
    refine wg_name ((ht d hm).imp fun c ρ4 ⟨ec, e4⟩ => ?_)
    subst e4
    cases c with
    | true =>
      rw [if_pos rfl]
      refine (he d hm ec.symm).imp fun y ρ5 ⟨ey, e5⟩ => ?_
      subst e5 ey
      refine ⟨w1 d, ?_⟩
      rw [tk, List.filter_append, List.map_append]
      show _ = _ ++ List.map f (List.filter b [d])
      rw [List.filter_cons, if_pos ec.symm]
      rfl
    | false =>
      rw [if_neg Bool.false_ne_true]
      refine ⟨w1 d, ?_⟩
      rw [tk, List.filter_append, List.map_append]
      show _ = _ ++ List.map f (List.filter b [d])
      rw [List.filter_cons, if_neg (by rw [← ec]; exact Bool.false_ne_true)]
      simp
  · subst e2 ea
    rw [List.take_length]
    exact z
/-- [f(d) for d in ..] -/
theorem w_lcM (f : Dt → Dt) (e : ρ[j]? = some .any) (h : WI K pf wi ρ fun ds ρ1 => ρ1 = ρ ∧ ds.length ≤ 50000 ∧
      (∀ d ∈ ds, Wp K pf te (ρ.set j (.dat d)) fun y ρ3 => y = f d ∧ ρ3 = ρ.set j (.dat d)) ∧ Φ (.lst (ds.map f)) ρ) : Wp K pf (tLc wi (gName j) tYes te [j]) ρ Φ :=
  w_lcF (fun _ => true) f e fun M σ H S R q => h M σ H S R fun J H1 ds ρ1 s1 S1 w ⟨e1, hz, he, z⟩ => q J H1 ds ρ1 s1 S1 w ⟨e1, hz, fun d _ => wt_yes ⟨rfl, rfl⟩, fun d hd _ => he d hd, by rw [List.filter_eq_self.mpr fun _ _ => rfl]; exact z⟩
theorem od_cat {ds es : List Dt} {Ψ : Dt → Prop} (hz : ds.length + es.length ≤ 100000) (h : Ψ (.lst (ds ++ es))) : OD K (rCatL K) (.lst ds) (.lst es) Ψ := fun M H u v m h1 h2 Q q => by
  cases h1 with
  | lst hs ha =>
    cases h2 with
    | lst ht hb =>
      exact ⟨_, _, _, _, rfl, rfl, (cut_sub M H).seq hs, (cut_sub M H).seq ht, by rw [ha.len, hb.len]; exact Nat.le_trans hz (by decide), fun p hp => q _ _ _ (same_new hp) (dx_new_l m hp (ha.append hb)) h⟩
end
end DL

/-! Data level: what the laws share: names, rows, kinds; the pen's own statements; what is no longer looked at. -/
namespace DL
open PySem PySem.Spec PyProof.Rows L2
variable [Tb]
/-! ### the built-ins that are meant -/
structure Bt (mg : Str → Option Value) : Prop where
  isi : mg "isinstance" = none
  int : mg "int" = none
  bool : mg "bool" = none
  str : mg "str" = none
  tuple : mg "tuple" = none
  list : mg "list" = none
  len : mg "len" = none
  all : mg "all" = none
  set : mg "set" = none
  range : mg "range" = none
  abs : mg "abs" = none
  repr : mg "repr" = none
  enumerate : mg "enumerate" = none
  sorted : mg "sorted" = none
/-! ### what is asked of a datum -/
def isInt : Dt → Bool
  | .int _ => true
  | _ => false
def isStr : Dt → Bool
  | .str _ => true
  | _ => false
def isTup : Dt → Bool
  | .tup _ => true
  | _ => false
abbrev noTy : Dt → Bool := kitD
theorem noTy_ne {d : Dt} (h : noTy d = true) : kitD d = true := h
theorem kit_int {d : Dt} (h : noTy d = true) : ∃ b, kitB (tyD d) "int" = some b ∧ (b = true → ∀ c, kitB (tyD d) "bool" = some c → isInt d = !c) ∧ (b = false → isInt d = false) := by
  cases d with
  | ty n => cases h
  | ins _ _ _ _ => cases h
  | cls _ => cases h
  | exc _ _ _ _ => cases h
  | int i => exact ⟨true, by (dsimp only [tyD, isStr, isTup]; decide +kernel), fun _ c e => by rw [show kitB (tyD (.int i)) "bool" = some false by (dsimp only [tyD, isStr, isTup]; decide +kernel)] at e; cases e; rfl, fun z => nomatch z⟩
  | bl i => exact ⟨true, by (dsimp only [tyD, isStr, isTup]; decide +kernel), fun _ c e => by rw [show kitB (tyD (.bl i)) "bool" = some true by (dsimp only [tyD, isStr, isTup]; decide +kernel)] at e; cases e; rfl, fun z => nomatch z⟩
  | _ => exact ⟨false, by (dsimp only [tyD, isStr, isTup]; decide +kernel), (fun z => nomatch z), fun _ => rfl⟩
theorem kit_bool {d : Dt} (h : noTy d = true) : ∃ b, kitB (tyD d) "bool" = some b := by
  cases d with
  | ty n => cases h
  | ins _ _ _ _ => cases h
  | cls _ => cases h
  | exc _ _ _ _ => cases h
  | bl i => exact ⟨true, by (dsimp only [tyD, isStr, isTup]; decide +kernel)⟩
  | _ => exact ⟨false, by (dsimp only [tyD, isStr, isTup]; decide +kernel)⟩
theorem kit_str {d : Dt} (h : noTy d = true) : kitB (tyD d) "str" = some (isStr d) := by
  cases d with
  | ty n => cases h
  | ins _ _ _ _ => cases h
  | cls _ => cases h
  | exc _ _ _ _ => cases h
  | _ => (dsimp only [tyD, isStr, isTup]; decide +kernel)
theorem kit_tup {d : Dt} (h : noTy d = true) : kitB (tyD d) "tuple" = some (isTup d) := by
  cases d with
  | ty n => cases h
  | ins _ _ _ _ => cases h
  | cls _ => cases h
  | exc _ _ _ _ => cases h
  | _ => (dsimp only [tyD, isStr, isTup]; decide +kernel)
theorem isStr_of {d : Dt} (h : isStr d = true) : ∃ z, d = .str z := by
  cases d with
  | str z => exact ⟨z, rfl⟩
  | _ => cases h
theorem isTup_of {d : Dt} (h : isTup d = true) : ∃ z, d = .tup z := by
  cases d with
  | tup z => exact ⟨z, rfl⟩
  | _ => cases h
theorem ifT {p q : Prop} (h : p) : if true = true then p else q := by rw [if_pos rfl]; exact h
theorem ifF {p q : Prop} (h : q) : if false = true then p else q := by rw [if_neg Bool.false_ne_true]; exact h
/-- small letters; names -/
def low (x : Str) : Bool := !decide (x.cps.toList < ("a" : Str).cps.toList) && !decide (("z" : Str).cps.toList < x.cps.toList)
def lowD : Dt → Bool
  | .str x => low x
  | _ => false
def isName : Dt → Bool
  | .str z => decide (1 ≤ z.length) && decide (z.length ≤ 8) && (DL.signs z).all lowD
  | _ => false
def isOwn : Dt → Bool
  | .str z => isName (.str z) && !decide (z = ("shore" : Str))
  | _ => false
/-- a text that len can tell -/
def shortD : Dt → Bool
  | .str z => decide (z.length ≤ 1000)
  | .ty _ | .ins _ _ _ _ | .cls _ | .exc _ _ _ _ => false
  | _ => true
theorem shortD_no {d : Dt} (h : shortD d = true) : noTy d = true := by
  cases d with
  | ty n => cases h
  | ins _ _ _ _ => cases h
  | cls _ => cases h
  | exc _ _ _ _ => cases h
  | _ => rfl
theorem len1000 {z : Str} (h : z.length ≤ 1000) : lenD (.str z) = some z.length := by
  show (if z.length ≤ sizeLine then some z.length else none) = _
  rw [if_pos (Nat.le_trans h (by decide))]
theorem signs_len (z : Str) : (DL.signs z).length = z.length := by unfold DL.signs; rw [List.length_map, Array.length_toList]; rfl
theorem signs_mem {z : Str} {d : Dt} (h : d ∈ DL.signs z) : ∃ c, d = .str ⟨#[c]⟩ := by
  unfold DL.signs at h
  obtain ⟨c, _, e⟩ := List.mem_map.mp h
  exact ⟨c, e.symm⟩
theorem map_bl (g : Dt → Bool) (ds : List Dt) : ds.map (fun d => Dt.bl (g d)) = (ds.map g).map Dt.bl := by rw [List.map_map]; rfl
theorem all_id (g : Dt → Bool) (ds : List Dt) : (ds.map g).all id = ds.all g := by rw [List.all_map]; rfl
theorem isName_str {d : Dt} (h : isName d = true) : ∃ z, d = .str z := by
  cases d with
  | str z => exact ⟨z, rfl⟩
  | _ => cases h
theorem isOwn_eq {z : Str} : isOwn (.str z) = (isName (.str z) && !decide (z = ("shore" : Str))) := rfl
theorem isOwn_no {d : Dt} (h : isName d = false) : isOwn d = false := by
  cases d with
  | str z => rw [isOwn_eq, h, Bool.false_and]
  | _ => rfl
theorem isOwn_str {d : Dt} (h : isOwn d = true) : ∃ z, d = .str z := by
  cases d with
  | str z => exact ⟨z, rfl⟩
  | _ => cases h
def strsOf : List Dt → List Str
  | [] => []
  | .str z :: ds => z :: strsOf ds
  | _ :: ds => strsOf ds
theorem strsOf_map : ∀ ss : List Str, strsOf (ss.map Dt.str) = ss
  | [] => rfl
  | z :: ss => by show z :: strsOf (ss.map Dt.str) = _; rw [strsOf_map ss]
theorem all_str {p : Dt → Bool} (hp : ∀ d, p d = true → ∃ z, d = .str z) : ∀ {ds : List Dt}, ds.all p = true → ∃ ss : List Str, ds = ss.map Dt.str
  | [], _ => ⟨[], rfl⟩
  | d :: ds, h => by
    rw [List.all_cons, Bool.and_eq_true] at h
    obtain ⟨z, rfl⟩ := hp d h.1
    obtain ⟨ss, rfl⟩ := all_str hp h.2
    exact ⟨z :: ss, rfl⟩
def rowIs (xs : List Dt) : Bool := xs.all isOwn && decide (strsOf xs).Nodup
def isRow : Dt → Int → Bool
  | .tup xs, m => decide ((xs.length : Int) ≤ m) && rowIs xs
  | _, _ => false
def wordOf (ms : List Str) : Dt → Bool
  | .str z => decide (z ∈ ms)
  | _ => false
theorem wordOf_str {ms : List Str} {d : Dt} (h : wordOf ms d = true) : ∃ z, d = .str z := by
  cases d with
  | str z => exact ⟨z, rfl⟩
  | _ => cases h
def isWords (ms : List Str) : Dt → Bool
  | .tup xs => !xs.isEmpty && (xs.all (wordOf ms) && decide (strsOf xs).Nodup)
  | _ => false
/-- a thing whose texts len can tell -/
def thingD : Dt → Bool
  | .tup xs => decide (xs.length ≤ 1000) && xs.all shortD
  | .ty _ | .ins _ _ _ _ | .cls _ | .exc _ _ _ _ => false
  | _ => true
theorem thingD_no {d : Dt} (h : thingD d = true) : noTy d = true := by
  cases d with
  | ty n => cases h
  | ins _ _ _ _ => cases h
  | cls _ => cases h
  | exc _ _ _ _ => cases h
  | _ => rfl
theorem thingD_tup {xs : List Dt} (h : thingD (.tup xs) = true) : xs.length ≤ 1000 ∧ ∀ x ∈ xs, shortD x = true := by
  have h : (decide (xs.length ≤ 1000) && xs.all shortD) = true := h
  rw [Bool.and_eq_true] at h
  exact ⟨of_decide_eq_true h.1, List.all_eq_true.mp h.2⟩
theorem uniq_dec (ss : List Str) : decide (((uniq ss).length : Int) = (ss.length : Nat)) = decide ss.Nodup := decide_eq_decide.mpr ⟨fun h => (uniq_nodup ss).mp (Int.ofNat.inj h), fun h => by rw [(uniq_nodup ss).mpr h]⟩
theorem filter_isEmpty {α : Type} (p : α → Bool) : ∀ xs : List α, (xs.filter p).isEmpty = xs.all fun x => !p x
  | [] => rfl
  | x :: xs => by
    rw [List.filter_cons, List.all_cons]
    cases c : p x with
    | true => rfl
    | false => rw [if_neg Bool.false_ne_true, filter_isEmpty p xs]; rfl
theorem map_isEmpty {α β : Type} (f : α → β) (xs : List α) : (xs.map f).isEmpty = xs.isEmpty := by cases xs <;> rfl
/-- the k-th is not among those before it -/
def freshAt (ss : List Str) (k : Nat) : Bool := match ss[k]? with
  | some z => !decide (z ∈ ss.take k)
  | none => true
theorem fresh_nodup : ∀ (ss : List Str) (n : Nat), n ≤ ss.length → ((List.range n).all (freshAt ss) = true ↔ (ss.take n).Nodup)
  | ss, 0, _ => by simp
  | ss, n + 1, h => by
    have hn : ss[n]? = some ss[n] := List.getElem?_eq_getElem h
    have tk : ss.take (n + 1) = ss.take n ++ [ss[n]] := by rw [List.take_add_one, hn]; rfl
    have ih := fresh_nodup ss n (by omega)
    rw [List.range_succ, List.all_append, Bool.and_eq_true, ih, tk, List.nodup_append]
    have e : [n].all (freshAt ss) = !decide (ss[n] ∈ ss.take n) := by
      show (freshAt ss n && true) = _
      unfold freshAt
      rw [hn, Bool.and_true]
    rw [e]
    constructor
    · rintro ⟨h1, h2⟩
      have h2 : ss[n] ∉ ss.take n := by simpa using h2
      exact ⟨h1, by simp, fun a ha b hb => by
        have := List.mem_singleton.mp hb
        subst this
        exact fun z => h2 (z ▸ ha)⟩
    · rintro ⟨h1, _, h3⟩
      refine ⟨h1, ?_⟩
      have : ss[n] ∉ ss.take n := fun z => h3 _ z _ (by simp) rfl
      simpa using this
theorem fresh_all (ss : List Str) : (List.range ss.length).all (freshAt ss) = decide ss.Nodup := by
  have := fresh_nodup ss ss.length (Nat.le_refl _)
  rw [List.take_length] at this
  cases c : (List.range ss.length).all (freshAt ss) with
  | true => exact (decide_eq_true (this.mp c)).symm
  | false => exact (decide_eq_false fun z => by rw [this.mpr z] at c; cases c).symm
/-- k as a datum: whether it is a double -/
def dupD (ss : List Str) : Dt → Bool
  | .int i => !freshAt ss i.toNat
  | _ => false
theorem rangeD_dup (ss : List Str) : ((rangeD 0 (((ss.length : Nat) : Int)).toNat).filter (dupD ss)).isEmpty = decide ss.Nodup := by
  rw [filter_isEmpty, ← fresh_all]
  unfold rangeD
  rw [List.all_map, Int.toNat_natCast]
  congr 1
  funext a
  show (!dupD ss (.int (0 + (a : Nat)))) = _
  show (!(!freshAt ss (0 + (a : Int)).toNat)) = _
  rw [Bool.not_not, Int.zero_add, Int.toNat_natCast]
theorem rangeD_mem {n : Nat} {d : Dt} (h : d ∈ rangeD 0 n) : ∃ i : Nat, i < n ∧ d = .int i := by
  unfold rangeD at h
  obtain ⟨i, hi, e⟩ := List.mem_map.mp h
  exact ⟨i, List.mem_range.mp hi, by rw [← e, Int.zero_add]⟩
section
variable {K : PySem.W.Frag} {pf : Bool} {ρ : List Sl} {Φ : Dt → List Sl → Prop}
theorem w_isi {i : Nat} {c : String} {d : Dt} {b : Bool} (e : ρ[i]? = some (.dat d)) (hd : noTy d = true) (hk : kitB (tyD d) c = some b) (h : Φ (.bl b) ρ) : Wp K pf (tCB (rIsi K) (tCons (tVar i) (tCons (tC (.ty c)) tNil))) ρ Φ :=
  w_cb <| wa_cons <| w_var e <| wa_cons <| w_c (fun _ => .ty c) <| wa_nil <| rd_isi (noTy_ne hd) hk h
end
section
variable {K : PySem.W.Frag} {pf : Bool} {ρ : List Sl} {Φ : Dt → List Sl → Prop}
/-- [k for k in range(len(t)) if t[k] in t[:k]] == [] -/
theorem w_dups {i j : Nat} {ss : List Str} (e0 : ρ[i]? = some (.dat (.tup (ss.map Dt.str)))) (ej : ρ[j]? = some .any) (hij : j ≠ i) (hz : ss.length ≤ 1000) (h : Φ (.bl (decide ss.Nodup)) ρ) :
    Wp K pf (tOp (rEqNil K) (tLc (iRng1 (tCons (tCB (fun xs H Q => ∃ x n, xs = [x] ∧ LenV K x H n ∧ Q (.int n) H) (tCons (tVar i) tNil)) tNil)) (gName j)
      (tTest (tOp (rIn K false) (tOp (rIxT K) (tVar i) (tVar j)) (tSl (rSlA K) (tVar i) tNoPart (tPart (tVar j))))) (tVar j) [j]) (tLst tNil)) ρ Φ := by
  have hl : (ss.map Dt.str).length = ss.length := List.length_map _
  have a0 : ∀ s, (ρ.set j s)[i]? = some (.dat (.tup (ss.map Dt.str))) := fun s => by rw [List.getElem?_set_ne hij]; exact e0
  have aj : ∀ s, (ρ.set j s)[j]? = some s := fun s => List.getElem?_set_self (List.getElem?_eq_some_iff.mp ej).1
  refine w_op <| w_lcF (dupD ss) (fun d => d) ej <| wi_rng1 <| wa_cons <| w_cb <| wa_cons <| w_var e0 <| wa_nil <| rd_len rfl <| wa_nil ⟨_, rfl, by omega, by omega, rfl, by rw [rangeD_len]; omega, fun d hm => ?_, fun d hm _ => w_var (aj _) ⟨rfl, rfl⟩, ?_⟩
  · obtain ⟨n, hn, rfl⟩ := rangeD_mem hm
    have hn : n < ss.length := by omega
    have e1 : (ss.map Dt.str)[n]? = some (.str ss[n]) := by rw [List.getElem?_map, List.getElem?_eq_getElem hn]; rfl
    refine wt_test <| w_op <| w_op <| w_var (a0 _) <| w_var (aj _) <| od_ixT (atI_nat' e1) <| w_sl <| w_var (a0 _) <| wo_none <| wo_some <| w_var (aj _) ⟨_, rfl, sd_tup ?_⟩
    rw [cutD_to n rfl, ← List.map_take]
    refine od_inS (neg := false) (xs := ss.take n) rfl ⟨_, rfl, ?_, rfl⟩
    show decide _ = !freshAt ss ((n : Nat) : Int).toNat
    rw [Int.toNat_natCast]
    unfold freshAt
    rw [List.getElem?_eq_getElem hn]
    show _ = !!_
    rw [Bool.not_not]
  · refine w_lst <| wa_nil ⟨Nat.zero_le _, od_eqNil ?_⟩
    rw [map_isEmpty, hl, rangeD_dup]
    exact h
end
theorem in_seqK {X : Cx} (K : PySem.W.Frag) (h : X.K = K) : OpR X (compareOp .In) (rIn K false) := by subst h; exact op_in_seq
theorem notIn_seqK {X : Cx} (K : PySem.W.Frag) (h : X.K = K) : OpR X (compareOp .NotIn) (rIn K true) := by subst h; exact op_notIn_seq
theorem isiK {X : Cx} (K : PySem.W.Frag) (h : X.K = K) : CallR X (.builtin "isinstance") (rIsi K) := by subst h; exact call_isi
theorem ixK {X : Cx} (K : PySem.W.Frag) (h : X.K = K) : IxR X (rIx K) := by subst h; exact ix_seq
theorem ixTK {X : Cx} (K : PySem.W.Frag) (h : X.K = K) : IxR X (rIxT K) := by subst h; exact ix_tup
theorem slTK {X : Cx} (K : PySem.W.Frag) (h : X.K = K) : SlR X (rSlA K) := by subst h; exact sl_tupA
theorem lenK {X : Cx} (K : PySem.W.Frag) (h : X.K = K) : CallR X (.builtin "len") (fun xs H Q => ∃ x n, xs = [x] ∧ LenV K x H n ∧ Q (.int n) H) := by subst h; exact call_len
theorem allK {X : Cx} (K : PySem.W.Frag) (h : X.K = K) (hc : X.calm = true) : CallR X (.builtin "all") (rAll K) := by subst h; exact cr_all hc
theorem listK {X : Cx} (K : PySem.W.Frag) (h : X.K = K) : CallR X (.type "list") (fun xs H Q => ∃ p ys, xs = [.ref p] ∧ (SqL K H p ys ∨ SqT K H p ys) ∧ ∀ l, H l = none → Q (.ref l) (upd H l (.lst ys))) := by subst h; exact call_list_of
theorem tupleK {X : Cx} (K : PySem.W.Frag) (h : X.K = K) : CallR X (.type "tuple") (fun xs H Q => ∃ p ys, xs = [.ref p] ∧ ((SqL K H p ys ∧ ∀ l, H l = none → Q (.ref l) (upd H l (.tup ys))) ∨ (SqT K H p ys ∧ Q (.ref p) H))) := by subst h; exact call_tuple_of
theorem slK {X : Cx} (K : PySem.W.Frag) (h : X.K = K) : SlR X (rSlL K) := by subst h; exact sl_list
section
variable {K : PySem.W.Frag} {ρ : List Sl} {t u : TS} {D : DE}
theorem ws_seqI (I : List Sl → Prop) (h : Ws K t ρ { D with nx := I }) (k : ∀ ρ', I ρ' → Ws K u ρ' D) : Ws K (tSeq t u) ρ D := fun M σ H S E k0 =>
  h M σ H S { E with nx := u E } ⟨fun M' σ' H' ρ' s S' z => k ρ' z M' σ' H' S' E (k0.step s), k0.rt, k0.bk, k0.ct, k0.ex⟩
end
/-! ### what is no longer looked at -/
inductive Wk : List Sl → List Sl → Prop
  | nil : Wk [] []
  | keep {s : Sl} {r r' : List Sl} : Wk r r' → Wk (s :: r) (s :: r')
  | drop {s : Sl} {r r' : List Sl} : Wk r r' → Wk (s :: r) (.any :: r')
theorem Wk.len {r r' : List Sl} (h : Wk r r') : r.length = r'.length := by
  induction h with
  | nil => rfl
  | keep _ ih => show _ + 1 = _ + 1; rw [ih]
  | drop _ ih => show _ + 1 = _ + 1; rw [ih]
theorem Wk.at {r r' : List Sl} (h : Wk r r') : ∀ (i : Nat) (s : Sl), r'[i]? = some s → s = .any ∨ r[i]? = some s := by
  induction h with
  | nil => intro i s e; simp at e
  | @keep t r r' _ ih =>
    intro i s e
    cases i with
    | zero => exact .inr e
    | succ i => rw [List.getElem?_cons_succ] at e ⊢; exact ih i s e
  | @drop t r r' _ ih =>
    intro i s e
    cases i with
    | zero => exact .inl (Option.some.inj e).symm
    | succ i => rw [List.getElem?_cons_succ] at e ⊢; exact ih i s e
section
variable {K : PySem.W.Frag} {ρ ρ' : List Sl} {t : TS} {D : DE}
theorem Wk.sd {M : Md} {H : Hp} {σ : L2.St} (h : Wk ρ ρ') (S : Sd K M H σ ρ) : Sd K M H σ ρ' := by
  refine ⟨by rw [← h.len]; exact S.len, by rw [← h.len]; exact S.olen, S.mok, fun i s e => ?_⟩
  rcases h.at i s e with z | z
  · subst z
    have hi : i < σ.length := by rw [S.len, h.len]; exact (List.getElem?_eq_some_iff.mp e).1
    exact ⟨_, List.getElem?_eq_getElem hi, trivial⟩
  · exact S.ok i s z
theorem ws_wk (h : Ws K t ρ { D with nx := fun ρ1 => ∃ ρ2, Wk ρ1 ρ2 ∧ D.nx ρ2 }) : Ws K t ρ D := fun M σ H S E k =>
  h M σ H S E ⟨fun M' σ' H' ρ1 s S' ⟨ρ2, w, z⟩ => k.nx M' σ' H' ρ2 s (w.sd S') z, k.rt, k.bk, k.ct, k.ex⟩
variable {pf : Bool} {Φ : Dt → List Sl → Prop}
theorem w_isInt {i : Nat} {d : Dt} (e : ρ[i]? = some (.dat d)) (hd : noTy d = true) (h : Φ (.bl (isInt d)) ρ) :
    Wp K pf (tAndV (tCB (rIsi K) (tCons (tVar i) (tCons (tC (.ty "int")) tNil))) (tNotV (tCB (rIsi K) (tCons (tVar i) (tCons (tC (.ty "bool")) tNil))))) ρ Φ := by
  obtain ⟨b, k1, k2, k3⟩ := kit_int hd
  obtain ⟨c, k4⟩ := kit_bool hd
  refine w_andV <| w_isi e hd k1 ⟨b, rfl, ?_⟩
  cases b with
  | true => exact ifT <| w_notV <| w_isi e hd k4 ⟨c, rfl, by rw [← k2 rfl c k4]; exact h⟩
  | false => exact ifF (by rw [← k3 rfl]; exact h)
end
/-- a def of the top: where it stands, how it is called -/
structure DF (K : PySem.W.Frag) (mg : Str → Option Value) (x : Str) (st : Stmt) (ps : List Str) where
  f : Addr
  fd : FuncData
  F : Fun K x x st f fd
  b : Binds K fd ps []
  g : mg x = some (.ref f)
section
variable {K : PySem.W.Frag} {pf : Bool} {ρ : List Sl} {tk : TA} {Φ : Dt → List Sl → Prop}
theorem w_callK {W : List Dt → (Dt → Prop) → Prop} {gV : List V → List V → List V} {E : XK} (hg : ∀ zs, gV [] zs = zs) (h : Wa K pf tk ρ fun ds ρ1 => W ds fun d => Φ d ρ1) : Wp K pf (tCallK (spP K W) gV E tNil tk) ρ Φ := fun M σ H S Q q => by
  have := w_call0 (E := E) h M σ H S Q q
  show tk σ H fun zs H2 => spP K W (gV [] zs) H2 Q E
  have e : (fun zs H2 => spP K W (gV [] zs) H2 Q E) = fun zs H2 => spP K W (zs ++ []) H2 Q E := by
    funext zs H2
    rw [hg, List.append_nil]
  rw [e]
  exact this
end
/-- two keywords, nothing by position -/
def gKw {α : Type} (us ws : List α) : List α := if us.isEmpty then ws else []
theorem gKw_nil {α : Type} (ws : List α) : gKw [] ws = ws := rfl
section
variable {P : Program} {w : World} {K : PySem.W.Frag} {mg : Str → Option Value} {base : Heap}
def spPen (K : PySem.W.Frag) : Sp := fun vs H Q _ => ∃ (a : Addr) (ns : List Int), vs = [.ref a] ∧ SqL K H a (ns.map V.int) ∧
  ∀ H' p l, Same H H' → H p = none → H l = none → p ≠ l → H' p = some (.lst [.ref l, .int 0, .int 0]) → H' l = some (.lst ((ns.take 63).map V.int)) → Q (.ref p) H'
theorem cutV_to {xs : List V} (n : Nat) : cutV xs none (some (n : Int)) = xs.take n := by
  unfold cutV
  rw [HT.sIx_none, HT.sIx_nat, List.drop_zero, Nat.sub_zero]
  by_cases c : n ≤ xs.length
  · rw [Nat.min_eq_left c]
  · rw [Nat.min_eq_right (by omega), List.take_of_length_le (Nat.le_refl _), List.take_of_length_le (by omega)]
/-- the law's head: the pen is made -/
theorem pen_head {N : List Str} {k : Nat} {u : TS} {E0 : XK} {Q : VK} {a : Addr} {ns : List Int} {H : Hp} (hN : N.length = k + 2) (hT : ∀ t ∈ Tb.T, H t.1 = some (.tbl #[])) (hS : SqL K H a (ns.map V.int)) (hlen : ns.length ≤ 63) (q : ∀ H', Q (.bl true) H')
    (h : Ws K u (.dat (.lst (ns.map Dt.int)) :: .pen 0 :: List.replicate k .any) { nx := fun _ => False, rt := fun d _ => d = .bl true }) :
    tSeq (tAsg (tCall (spPen K) [] E0 (tCons (tVar 0) tNil)) (gName 1)) u { nx := fun _ H' => Q .non H', rt := Q } (L2.start N [.ref a]) H := by
  refine ⟨.ref a, rfl, a, ns, rfl, hS, fun H' p l sm np nl npl ep el => ?_⟩
  have asInts : ∀ {H : Hp} (ns : List Int), DXs K H (ns.map V.int) (ns.map Dt.int) := fun {H} ns => by
    induction ns with
    | nil => exact .nil
    | cons n r ih => exact .cons (.int n) ih
  have has : ∀ x, (⟨some p, [], List.replicate (k + 2) none⟩ : Md).has x → x = p ∨ ∃ t ∈ Tb.T, t.1 = x := fun x z => by
    rcases z with z | z | z
    · rcases z with z | ⟨t, ht, e⟩
      · exact .inl (Option.some.inj z).symm
      · exact .inr ⟨t, ht, e⟩
    · cases z
    · exact (no_rep z).elim
  have sc : ∀ x o, H x = some o → (∀ ps, o ≠ .tbl ps) → cut ⟨some p, [], List.replicate (k + 2) none⟩ H' x = some o := fun x o z n => cut_at (fun c => by
    rcases has x c with e | ⟨t, ht, e⟩
    · rw [e, np] at z; cases z
    · rw [← e, hT t ht] at z; exact n _ (Option.some.inj z).symm) (sm x o z)
  have el' : cut ⟨some p, [], List.replicate (k + 2) none⟩ H' l = some (.lst ((ns.take 63).map V.int)) := cut_at (fun c => by
    rcases has l c with e | ⟨t, ht, e⟩
    · exact npl e.symm
    · rw [← e, hT t ht] at nl; cases nl) el
  have hS' : SqL K (cut ⟨some p, [], List.replicate (k + 2) none⟩ H') a (ns.map V.int) := by
    rcases hS with (h | ⟨o, h⟩) | h
    · exact .inl (.inl (sc _ _ h fun ps z => by cases z))
    · exact .inl (.inr ⟨o, sc _ _ h fun ps z => by cases z⟩)
    · exact .inr h
  have tb0 : TabsM ⟨some p, [], List.replicate (k + 2) none⟩ H' := fun t ht => ⟨#[], sm _ _ (hT t ht), True.intro, fun pos cv hc => by
    have z : codeAmong pos [] = some cv := hc
    simp [codeAmong] at z⟩
  refine h ⟨some p, [], List.replicate (k + 2) none⟩ _ H' ⟨?_, ?_, ⟨fun x z => by
      rcases has x z with e | ⟨t, ht, e⟩
      · rw [e]; exact ⟨_, ep⟩
      · rw [← e]; exact ⟨_, sm _ _ (hT t ht)⟩, fun x _ => ⟨(fun z => nomatch z), no_rep⟩, fun x z => (nomatch z), fun i j x z => ?_, tb0⟩, fun i s z => ?_⟩ _ ⟨fun _ _ _ _ _ _ z => z.elim, fun M' v H2 d ρ' σ' _ _ x e => ?_, fun _ _ _ _ _ _ z => z.elim, fun _ _ _ _ _ _ z => z.elim, fun _ _ _ _ _ _ _ _ _ _ _ _ z => z.elim⟩
  · unfold L2.start
    simp only [List.length_set, List.length_append, List.length_map, List.length_replicate, List.length_cons, List.length_nil]
    omega
  · show (List.replicate (k + 2) none).length = _
    simp only [List.length_replicate, List.length_cons]
  · have z : (List.replicate (k + 2) (none : Option Addr))[i]? = some (some x) := z
    rw [List.getElem?_replicate] at z
    split at z <;> cases z
  · cases i with
    | zero =>
      have z := Option.some.inj (show some (Sl.dat (.lst (ns.map Dt.int))) = some s from z)
      subst z
      exact ⟨some (.ref a), rfl, .ref a, rfl, .lst hS' (asInts ns)⟩
    | succ i =>
      cases i with
      | zero =>
        have z := Option.some.inj (show some (Sl.pen 0) = some s from z)
        subst z
        have e : ((L2.start N [.ref a]).set 1 (some (.ref p)))[1]? = some (some (.ref p)) := List.getElem?_set_self (by
          unfold L2.start
          simp only [List.length_append, List.length_map, List.length_replicate, List.length_cons, List.length_nil]
          omega)
        exact ⟨_, e, p, rfl, rfl, l, ns.take 63, 0, 0, ep, .inl (.inl el'), Nat.le_refl _, by decide, by rw [List.length_take]; omega⟩
      | succ i =>
        have z : (List.replicate k Sl.any)[i]? = some s := z
        have hi : i < k := by
          have := (List.getElem?_eq_some_iff.mp z).1
          rwa [List.length_replicate] at this
        have es : s = .any := by
          rw [List.getElem?_replicate, if_pos hi] at z
          exact (Option.some.inj z).symm
        subst es
        have hl : i + 1 + 1 < ((L2.start N [.ref a]).set 1 (some (.ref p))).length := by
          unfold L2.start
          simp only [List.length_set, List.length_append, List.length_map, List.length_replicate, List.length_cons, List.length_nil]
          omega
        exact ⟨_, List.getElem?_eq_getElem hl, trivial⟩
  · subst e
    show Q v H2
    rw [x.bl_eq]
    exact q H2
end
inductive Fac (K : PySem.W.Frag) (x : Str) (st : Stmt) : Prop
  | mk {f : Addr} {od an : Option Addr} {sl : Array (Option Value)} {oc kV dc pm cd ct : Value} (a : PySem.W.nsIn K mainGlobals x = some (some (.ref f)))
      (l : K.lookup f = some ⟨oc, od, .func (PySem.W.fnOf x x (defArgs st) (defBody st) (defScope st) .none kV dc pm an cd ct), sl⟩) (c : PySem.W.codeIn K cd x = true) (k : PySem.W.keepIn K (.ref f) = true) : Fac K x st
theorem Fac.df {K : PySem.W.Frag} {x : Str} {st : Stmt} {h : Heap} {mg : Str → Option Value} {ps : List Str} (F : Fac K x st) (X : K.In h) (G : h.Ns mainGlobals mg)
    (hb : ∀ (kV doc pm : Value) (an : Option Addr) (cdv ct : Value) (us : List Value), us.length = ps.length → bindArgs (PySem.W.fnOf x x (defArgs st) (defBody st) (defScope st) .none kV doc pm an cdv ct) ⟨us, []⟩ = pure (ps.zip us)) : Nonempty (DF K mg x st ps) := by
  cases F with
  | mk a l c k =>
    have F := fun_mk (st := st) l c k
    exact ⟨⟨_, _, F, F.binds hb, PySem.W.mg_of X G a⟩⟩
end DL

/-! Data level: dicts of one's own. -/
namespace DL
open PySem PySem.Spec PyProof.Rows L2
variable [Tb]

def putD (kvs : List (Key × Dt)) (k : Key) (d : Dt) : List (Key × Dt) :=
  if (kvs.any fun kv => decide (kv.1 = k)) = true then kvs.map (fun kv => if kv.1 = k then (kv.1, d) else kv) else kvs ++ [(k, d)]
section
variable {K : PySem.W.Frag} {H : Hp}
theorem DXk.any {k : Key} : ∀ {kvs : List (Key × V)} {ds : List (Key × Dt)}, DXk K H kvs ds → (kvs.any fun kv => decide (kv.1 = k)) = ds.any fun kv => decide (kv.1 = k)
  | _, [], x => by cases x; rfl
  | _, _ :: ds, x => by
    cases x with
    | cons x1 x2 => rw [List.any_cons, List.any_cons, DXk.any (ds := ds) x2]
theorem DXk.upd1 {k : Key} {v : V} {d : Dt} (y : DX K H v d) : ∀ {kvs : List (Key × V)} {ds : List (Key × Dt)}, DXk K H kvs ds → DXk K H (kvs.map fun kv => if kv.1 = k then (kv.1, v) else kv) (ds.map fun kv => if kv.1 = k then (kv.1, d) else kv)
  | _, [], x => by cases x; exact .nil
  | _, (k1, d1) :: ds, x => by
    cases x with
    | @cons _ v1 vs _ _ x1 x2 =>
      rw [List.map_cons, List.map_cons]
      by_cases c : k1 = k
      · rw [if_pos c, if_pos c]; exact .cons y (DXk.upd1 y (ds := ds) x2)
      · rw [if_neg c, if_neg c]; exact .cons x1 (DXk.upd1 y (ds := ds) x2)
theorem DXk.snoc {k : Key} {v : V} {d : Dt} (y : DX K H v d) : ∀ {kvs : List (Key × V)} {ds : List (Key × Dt)}, DXk K H kvs ds → DXk K H (kvs ++ [(k, v)]) (ds ++ [(k, d)])
  | _, [], x => by cases x; exact .cons y .nil
  | _, (k1, d1) :: ds, x => by
    cases x with
    | cons x1 x2 => exact .cons x1 (DXk.snoc y (ds := ds) x2)
theorem DXk.put {k : Key} {v : V} {d : Dt} {kvs : List (Key × V)} {ds : List (Key × Dt)} (x : DXk K H kvs ds) (y : DX K H v d) : DXk K H (putK kvs k v) (putD ds k d) := by
  unfold putK putD
  rw [x.any]
  split
  · exact x.upd1 y
  · exact x.snoc y
theorem DXk.len : ∀ {ds : List (Key × Dt)} {kvs : List (Key × V)}, DXk K H kvs ds → kvs.length = ds.length
  | [], _, h => by cases h; rfl
  | _ :: ds, _, h => by
    cases h with
    | cons h1 h2 => show _ + 1 = _ + 1; rw [DXk.len (ds := ds) h2]
end
section
variable {K : PySem.W.Frag} {ρ : List Sl} {te ti tk : TE} {tt : TT} {t u : TS} {D : DE} {i : Nat} {pf : Bool} {kvs : List (Key × Dt)}
theorem ws_newdict (hi : i < ρ.length) (h : D.nx (ρ.set i (.ownd []))) : Ws K (tAsg tDNewK (gName i)) ρ D := fun M σ H S E k q hq =>
  k.nx _ _ _ _ (Stp.own hq (same_new hq)) ((S.same (same_new hq)).ownd hi (S.mok.new hq) upd_same .nil (S.aside hq (same_new hq) upd_same)) h
theorem ws_dput {x : Str} (e0 : ρ[i]? = some (.ownd kvs)) (h : Wp K pf te ρ fun d ρ1 => ∃ kvs1, ρ1[i]? = some (.ownd kvs1) ∧ kvs1.length < 100000 ∧ D.nx (ρ1.set i (.ownd (putD kvs1 (.inr x) d)))) : Ws K (sDPut (tVar i) (tC (.str x)) te) ρ D := fun M σ H S E k => by
  obtain ⟨o, h1, l, vs0, e1, e2, e3, e4⟩ := S.ok i _ e0
  subst e1
  refine h M σ H S _ fun v H1 d ρ1 s1 S1 x1 ⟨kvs1, g1, g2, g3⟩ => ?_
  obtain ⟨o', z1, l', vs, y1, y2, y3, y4⟩ := S1.ok i _ g1
  have el : l' = l := Option.some.inj (Option.some.inj (y2.symm.trans e2))
  subst el
  refine ⟨.ref l', h1, l', _, rfl, .inl ⟨vs, .inr x, y3, rfl, by rw [y4.len]; exact Nat.lt_of_lt_of_le g2 (by decide), rfl⟩, ?_⟩
  obtain ⟨S3, s3⟩ := S1.writed (vs := vs) g1 y2 (y4.put x1)
  exact k.nx M σ _ _ (s1.st.trans s3) S3 g3
/-- a dict of one's own given out of hand -/
theorem Sd.freezed {M : Md} {H : Hp} {σ : L2.St} (S : Sd K M H σ ρ) (hs : ρ[i]? = some (.ownd kvs)) :
    ∃ a, Sd K { M with O := M.O.set i none } H σ (ρ.set i (.dat (.dct a kvs))) ∧ Stp M H { M with O := M.O.set i none } H := by
  have hO : ∀ a, some a ∈ M.O.set i none → some a ∈ M.O := fun a h => by
    rcases List.mem_or_eq_of_mem_set h with z | z
    · exact z
    · cases z
  have has : ∀ a, ({ M with O := M.O.set i none } : Md).has a → M.has a := fun a h => by
    rcases h with h | h | h
    · exact .inl h
    · exact .inr (.inl h)
    · exact .inr (.inr (hO a h))
  have sc : Same (cut M H) (cut { M with O := M.O.set i none } H) := cut_le has
  obtain ⟨o0, h0, l, vs, e0, e1, e2, e3⟩ := S.ok i _ hs
  have hset : ∀ (j : Nat) (a : Addr), (M.O.set i none)[j]? = some (some a) → i ≠ j ∧ M.O[j]? = some (some a) := fun j a h => by
    by_cases e : i = j
    · subst e
      rw [List.getElem?_set_self (List.getElem?_eq_some_iff.mp e1).1] at h
      cases Option.some.inj h
    · rw [List.getElem?_set_ne e] at h
      exact ⟨e, h⟩
  have nl : ¬ ({ M with O := M.O.set i none } : Md).has l := fun z => by
    have hm := List.mem_of_getElem? e1
    rcases z with z | z | z
    · exact (S.mok.pF l z).2 hm
    · exact S.mok.FO l z hm
    · obtain ⟨j, hj⟩ := List.getElem?_of_mem z
      obtain ⟨n, h2⟩ := hset j l hj
      exact n (S.mok.nd i j l e1 h2)
  refine ⟨l, ⟨by rw [List.length_set]; exact S.len, by show (M.O.set i none).length = _; rw [List.length_set, List.length_set]; exact S.olen, ⟨fun a h => S.mok.live a (has a h), fun a h => ⟨(S.mok.pF a h).1, fun z => (S.mok.pF a h).2 (hO a z)⟩, fun a h z => S.mok.FO a h (hO a z), fun j k a h1 h2 => S.mok.nd j k a (hset j a h1).2 (hset k a h2).2, S.mok.tbU rfl (fun _ _ _ z => z) sc⟩, fun j s h => ?_⟩, ⟨rfl, rfl, fun a o z c d => ⟨z, fun y => d (hO a y)⟩⟩⟩
  by_cases e : i = j
  · subst e
    rw [List.getElem?_set_self (by rw [← S.len]; exact S.slot hs)] at h
    have h := Option.some.inj h
    subst h
    exact ⟨o0, h0, .ref l, e0, .dct (.inl (cut_at nl e2)) (e3.mono sc)⟩
  · rw [List.getElem?_set_ne e] at h
    obtain ⟨o, h1, h2⟩ := S.ok j s h
    refine ⟨o, h1, ?_⟩
    cases s with
    | any => trivial
    | dat d => obtain ⟨v, a1, a2⟩ := h2; exact ⟨v, a1, a2.mono sc⟩
    | val u d => obtain ⟨a1, a2⟩ := h2; exact ⟨a1, a2.mono sc⟩
    | own es =>
      obtain ⟨l', ws', a1, a2, a3, a4⟩ := h2
      exact ⟨l', ws', a1, by show (M.O.set i none)[j]? = _; rw [List.getElem?_set_ne e]; exact a2, a3, a4.mono sc⟩
    | obj C0 b0 ns0 es =>
      obtain ⟨l', dx0, ws', a1, a2, a3, a5, a4⟩ := h2
      exact ⟨l', dx0, ws', a1, by show (M.O.set i none)[j]? = _; rw [List.getElem?_set_ne e]; exact a2, a3, a5, a4.mono sc⟩
    | ownd es =>
      obtain ⟨l', ws', a1, a2, a3, a4⟩ := h2
      exact ⟨l', ws', a1, by show (M.O.set i none)[j]? = _; rw [List.getElem?_set_ne e]; exact a2, a3, a4.mono sc⟩
    | pen m =>
      obtain ⟨p', a1, a2, l', ns, c, g, b1, b2, b3⟩ := h2
      exact ⟨p', a1, a2, l', ns, c, g, b1, sc.seq b2, b3⟩
    | pown es => obtain ⟨p', ws', a1, a2, a3, a4⟩ := h2; exact ⟨p', ws', a1, a2, a3, a4.mono sc⟩
theorem ws_freezed (hs : ρ[i]? = some (.ownd kvs)) (h : ∀ a, Ws K t (ρ.set i (.dat (.dct a kvs))) D) : Ws K t ρ D := fun M σ H S E k =>
  let ⟨a, S2, s2⟩ := S.freezed hs
  h a _ σ H S2 E (k.step s2)
/-- .. behind the statement -/
theorem ws_frz (h : Ws K t ρ { D with nx := fun ρ1 => ∃ kvs, ρ1[i]? = some (.ownd kvs) ∧ ∀ a, D.nx (ρ1.set i (.dat (.dct a kvs))) }) : Ws K t ρ D := fun M σ H S E k =>
  h M σ H S E ⟨fun M' σ' H' ρ1 s S' ⟨kvs, e, z⟩ => let ⟨a, S2, s2⟩ := S'.freezed e; k.nx _ σ' H' _ (s.trans s2) S2 (z a), k.rt, k.bk, k.ct, k.ex⟩
theorem wp_thawd {Φ : Dt → List Sl → Prop} (hs : ρ[i]? = some (.ownd kvs)) (h : ∀ a, Wp K true te (ρ.set i (.dat (.dct a kvs))) fun d _ => flatD d = true ∧ Φ d ρ) : Wp K pf te ρ Φ := fun M σ H S Q q =>
  let ⟨a, S2, _⟩ := S.freezed hs
  h a _ σ H S2 Q fun v H2 d ρ' s S3 x ⟨f, z⟩ => q v H2 d ρ (Tr.same pf M (s.sm rfl)) (S.same (s.sm rfl)) (flat_any f x) z
theorem wt_thawd {Φ : Bool → List Sl → Prop} (hs : ρ[i]? = some (.ownd kvs)) (h : ∀ a, Wt K true tt (ρ.set i (.dat (.dct a kvs))) fun b _ => Φ b ρ) : Wt K pf tt ρ Φ := fun M σ H S Q q =>
  let ⟨a, S2, _⟩ := S.freezed hs
  h a _ σ H S2 Q fun b H2 ρ' s S3 z => q b H2 ρ (Tr.same pf M (s.sm rfl)) (S.same (s.sm rfl)) z
end
end DL

/-! Data level: instances of own classes: fields, properties, dict parts; sorted of texts; what is made by a class. -/
namespace DL
open PySem PySem.Spec PyProof.Rows L2
variable [Tb]

/-! ### sorted(texts) -/
def rSortedS (K : PySem.W.Frag) : List V → Hp → VK → Prop := fun vs H Q => ∃ (a : Addr) (ss : List Str), vs = [V.ref a] ∧ (SqL K H a (ss.map V.str) ∨ SqL K H a (ss.map V.str)) ∧
  ∀ (ss' : List Str) (p : Addr), ss'.Perm ss → sortedS ss' = true → H p = none → Q (.ref p) (upd H p (.lst (ss'.map V.str)))
theorem cr_sortedS {X : Cx} : CallR X (.builtin "sorted") (rSortedS X.K) := by
  intro pins s σ H vs us Q I r h
  obtain ⟨a, ss, rfl, hs, q⟩ := h
  have hs : SqL X.K H a (ss.map V.str) := by rcases hs with z | z <;> exact z
  obtain ⟨its, rv, hl, hz⟩ := I.list hs
  rw [Vals.ref1 r]
  refine PyProof.Rows.sorted_strsAny hl.isList rv.strs (by rw [← rv.length]; exact hz) fun out ss' h1 h2 h3 => ?_
  obtain ⟨ep, he'⟩ := PyProof.Rows.sortedAll_at s.heap its out
  have hlen : (ss'.map V.str).length ≤ sizeLine := by
    rw [List.length_map, h2.length_eq]
    rw [List.length_map] at hz
    exact hz
  exact ⟨.ref _, upd H (s.heap.objs.size + 1) (.lst (ss'.map V.str)), I.laid (t' := s.toks) (fun _ _ => PyProof.Rows.sortedAll_old) (Nat.le_succ _) ⟨hlen, out.toList, ep, vals_of_strs h1, he'⟩, rfl, q _ _ h2 h3 (I.hok.fresh (Nat.le_succ _))⟩
section
variable {K : PySem.W.Frag} {Ψ : Dt → Prop} {ss : List Str}
theorem dxs_strs {H : Hp} : ∀ ss : List Str, DXs K H (ss.map V.str) (ss.map Dt.str)
  | [] => .nil
  | s :: r => .cons (.str s) (dxs_strs r)
theorem rd_sortedS (h : ∀ ss', ss'.Perm ss → sortedS ss' = true → Ψ (.lst (ss'.map Dt.str))) : RD K (rSortedS K) [.lst (ss.map Dt.str)] Ψ := fun M H vs m xx Q q => by
  obtain ⟨v, rfl, x⟩ := one_v xx
  cases x with
  | lst hs ha =>
    rw [ha.strs] at hs
    exact ⟨_, ss, rfl, .inl ((cut_sub M H).seq hs), fun ss' p hp h2 np => q _ _ _ (same_new np) (dx_new_l m np (dxs_strs ss')) (h ss' hp h2)⟩
end

/-! ### fields of instances, parts of dicts -/
def look (ns : List Str) (ds : List Dt) (f : Str) : Option Dt := (ns.zip ds).lookup f
theorem DXs.look {K : PySem.W.Frag} {H : Hp} {f : Str} {d : Dt} : ∀ {ns : List Str} {vs : List V} {ds : List Dt}, DXs K H vs ds → DL.look ns ds f = some d → ∃ v, (ns.zip vs).lookup f = some v ∧ DX K H v d
  | [], _, _, _, h => by unfold DL.look at h; simp at h
  | n :: ns, [], _, x, h => by cases x; unfold DL.look at h; simp at h
  | n :: ns, v :: vs, _, x, h => by
    cases x with
    | @cons _ _ d1 ds x1 x2 =>
      unfold DL.look at h
      rw [List.zip_cons_cons, List.lookup_cons] at h ⊢
      cases c : f == n with
      | true =>
        rw [c] at h
        have h := Option.some.inj h
        subst h
        exact ⟨v, rfl, x1⟩
      | false =>
        rw [c] at h
        exact DXs.look (ns := ns) x2 h
def valD (kvs : List (Key × Dt)) (k : Key) : Option Dt := (kvs.find? fun kv => decide (kv.1 = k)).map (·.2)
theorem DXk.val {K : PySem.W.Frag} {H : Hp} {k : Key} {d : Dt} : ∀ {kvs : List (Key × V)} {ds : List (Key × Dt)}, DXk K H kvs ds → valD ds k = some d → ∃ v, valV kvs k = some v ∧ DX K H v d
  | _, [], x, h => by cases x; cases h
  | _, (k1, d1) :: ds, x, h => by
    cases x with
    | @cons _ v1 vs _ _ x1 x2 =>
      unfold valD at h
      unfold valV
      rw [List.find?_cons] at h ⊢
      cases c : decide (k1 = k) with
      | true =>
        have h : some d1 = some d := by simpa [c] using h
        have h := Option.some.inj h
        subst h
        exact ⟨v1, by simp [c], x1⟩
      | false =>
        have h : valD ds k = some d := by simpa [c, valD] using h
        obtain ⟨v, e1, e2⟩ := DXk.val (ds := ds) x2 h
        exact ⟨v, by simpa [c, valV] using e1, e2⟩
section
variable {K : PySem.W.Frag} {pf : Bool} {ρ : List Sl} {ta tb te : TE} {tr tk : TA} {Φ : Dt → List Sl → Prop} {C : Addr}
theorem w_fld {f : Str} (c : Cls K C) (nF : NoAttr K C f) (h : Wp K pf ta ρ fun d ρ1 => ∃ a ns ds e, d = .ins C a ns ds ∧ look ns ds f = some e ∧ Φ e ρ1) : Wp K pf (tFld K ta f) ρ Φ := fun M σ H S Q q =>
  h M σ H S _ fun v H1 d ρ1 s1 S1 x1 ⟨a, ns, ds, e, ed, l, z⟩ => by
    subst ed
    cases x1 with
    | @ins _ _ dx _ vs _ hs hl ha =>
      obtain ⟨u, h1, h2⟩ := ha.look l
      exact ⟨a, C, dx, _, u, rfl, (cut_of hs).2, c, nF, h1, q u H1 e ρ1 s1 S1 h2 z⟩
theorem dget_rd {H : Hp} {a : Addr} {kvs : List (Key × V)} {k : Key} (e : Rd H a (.dK kvs)) : DGet H a (kV k) (valV kvs k) := .inl ⟨kvs, k, e, rfl, rfl⟩
theorem w_dget {k : Str} (h : Wp K pf ta ρ fun d ρ1 => Wp K pf tb ρ1 fun y ρ2 => ∃ a kvs e, d = .dct a kvs ∧ y = .str k ∧ valD kvs (.inr k) = some e ∧ Φ e ρ2) : Wp K pf (tDGet ta tb) ρ Φ := fun M σ H S Q q =>
  h M σ H S _ fun v1 H1 d1 ρ1 s1 S1 x1 k1 => k1 M σ H1 S1 _ fun v2 H2 d2 ρ2 s2 S2 x2 ⟨a, kvs, e, e1, e2, l, z⟩ => by
    subst e1 e2
    have x1' := x1.mono s2.dx
    cases x1' with
    | @dct _ vkvs _ hs ha =>
      obtain ⟨u, h1, h2⟩ := ha.val l
      rw [x2.str_eq]
      refine ⟨a, u, rfl, ?_, q u H2 e ρ2 (s1.trans s2) S2 h2 z⟩
      rw [← h1]
      exact dget_rd (k := .inr k) (cut_Rd hs).2
theorem w_prop {W : List Dt → (Dt → Prop) → Prop} {E : XK} (h : Wp K pf ta ρ fun d ρ1 => (∃ a ns ds, d = .ins C a ns ds) ∧ W [d] fun e => Φ e ρ1) : Wp K pf (tProp C (spP K W) [] E ta) ρ Φ := fun M σ H S Q q =>
  h M σ H S _ fun v H1 d ρ1 s1 S1 x1 ⟨⟨a, ns, ds, ed⟩, w⟩ => by
    have ec : ∀ H', cut M.callP H' = cut M H' := cut_congr M.callP_has
    have key : spP K W [v] H1 Q E := ⟨M.callP, [d], _, rfl, rfl, S1.mok.callP, by rw [ec]; exact .one x1, w, fun v H2 d e x f => q v H2 d ρ1 (s1.trans (Tr.same pf M e)) (S1.same e) (by rw [ec] at x; exact x) f⟩
    subst ed
    cases x1 with
    | @ins _ _ dx _ vs _ hs hl ha => exact ⟨a, dx, _, rfl, (cut_of hs).2, key⟩
/-- the pairs of a display: keys are texts, values are told by slots or flat: nothing is made on the way -/
def Wd (K : PySem.W.Frag) (trs : List (TE × TE)) (ρ : List Sl) (kvs : List (Key × Dt)) : Prop :=
  ∀ (M : Md) (σ : L2.St) (H : Hp), Sd K M H σ ρ → ∀ Q : List (V × V) → Hp → Prop, (∀ ps, DXk K (cut M H) ps kvs → Q (ps.map fun kv => (kV kv.1, kv.2)) H) → tPairs trs σ H Q
theorem wd_nil : Wd K [] ρ [] := fun M σ H S Q q => q [] .nil
theorem wd_var {k : Str} {i : Nat} {d : Dt} {trs : List (TE × TE)} {kvs : List (Key × Dt)} (e : ρ[i]? = some (.dat d)) (h : Wd K trs ρ kvs) : Wd K ((tC (.str k), tVar i) :: trs) ρ ((.inr k, d) :: kvs) := fun M σ H S Q q => by
  obtain ⟨o, h1, v, h2, h3⟩ := S.ok i _ e
  subst h2
  exact ⟨v, h1, h M σ H S _ fun ps x => q ((.inr k, v) :: ps) (.cons h3 x)⟩
end
theorem putK_new {kvs : List (Key × V)} {k : Key} {v : V} (h : k ∉ kvs.map (·.1)) : putK kvs k v = kvs ++ [(k, v)] := by
  unfold putK
  rw [if_neg]
  intro c
  obtain ⟨x, hx, e⟩ := List.any_eq_true.mp c
  exact h (List.mem_map.mpr ⟨x, hx, of_decide_eq_true e⟩)
theorem mergeK_new : ∀ (ps acc : List (Key × V)), ((acc ++ ps).map (·.1)).Nodup → mergeK acc ps = acc ++ ps
  | [], acc, _ => by rw [List.append_nil]; rfl
  | (k, v) :: ps, acc, h => by
    show mergeK (putK acc k v) ps = _
    have nk : k ∉ acc.map (·.1) := by
      rw [List.map_append, List.nodup_append] at h
      intro z
      exact h.2.2 k z k (by simp) rfl
    rw [putK_new nk, mergeK_new ps (acc ++ [(k, v)]) (by rw [List.append_assoc]; exact h), List.append_assoc]
    rfl
theorem DXk.keys {K : PySem.W.Frag} {H : Hp} : ∀ {kvs : List (Key × V)} {ds : List (Key × Dt)}, DXk K H kvs ds → kvs.map (·.1) = ds.map (·.1)
  | _, [], x => by cases x; rfl
  | _, _ :: ds, x => by
    cases x with
    | cons x1 x2 => rw [List.map_cons, List.map_cons, DXk.keys (ds := ds) x2]
section
variable {K : PySem.W.Frag} {pf : Bool} {ρ : List Sl} {ta tb te : TE} {tr tk : TA} {Φ : Dt → List Sl → Prop} {C : Addr}
theorem w_dispW {trs : List (TE × TE)} {kvs : List (Key × Dt)} (h : Wd K trs ρ kvs) (hn : (kvs.map (·.1)).Nodup) (h15 : kvs.length ≤ 15) (z : ∀ a, Φ (.dct a kvs) ρ) : Wp K pf (tDisp trs) ρ Φ := fun M σ H S Q q p hp => by
  have S1 := S.aside (o := .dK []) hp (same_new hp) upd_same
  refine h { M with F := p :: M.F } σ _ S1 _ fun ps x => ⟨upd_same, ps, rfl, ?_, ?_⟩
  · have := congrArg List.length x.keys
    rw [List.length_map, List.length_map] at this
    omega
  · rw [mergeK_new ps [] (by rw [List.nil_append, x.keys]; exact hn), List.nil_append]
    have all : Same H (upd (upd H p (.dK [])) p (.dK ps)) := fun a u z => by
      rw [upd_ne (ne_of_none z hp), upd_ne (ne_of_none z hp)]; exact z
    refine q (.ref p) _ (.dct p kvs) ρ (Tr.same pf M all) (S.same all) (.dct (.inl (cut_at (S.mok.new hp) upd_same)) (x.mono fun a u z => ?_)) (z p)
    obtain ⟨c, y⟩ := cut_of z
    have na : a ≠ p := fun n => c (.inr (.inl (by rw [n]; exact List.mem_cons_self)))
    exact cut_at (fun t => c (has_aside a t)) (by rw [upd_ne na]; exact y)
theorem ws_owndisp {trs : List (TE × TE)} {kvs : List (Key × Dt)} {D : DE} {i : Nat} (hi : i < ρ.length) (h : Wd K trs ρ kvs) (hn : (kvs.map (·.1)).Nodup) (h15 : kvs.length ≤ 15) (z : D.nx (ρ.set i (.ownd kvs))) : Ws K (tAsg (tDisp trs) (gName i)) ρ D := fun M σ H S E k p hp => by
  have S1 := S.aside (o := .dK []) hp (same_new hp) upd_same
  refine h { M with F := p :: M.F } σ _ S1 _ fun ps x => ⟨upd_same, ps, rfl, ?_, ?_⟩
  · have := congrArg List.length x.keys
    rw [List.length_map, List.length_map] at this
    omega
  · rw [mergeK_new ps [] (by rw [List.nil_append, x.keys]; exact hn), List.nil_append]
    have all : Same H (upd (upd H p (.dK [])) p (.dK ps)) := fun a u z => by
      rw [upd_ne (ne_of_none z hp), upd_ne (ne_of_none z hp)]; exact z
    have S2 := S.aside (o := .dK ps) hp all upd_same
    have x2 : DXk K (cut { M with F := p :: M.F } (upd (upd H p (.dK [])) p (.dK ps))) ps kvs := x.mono fun a u z => by
      obtain ⟨c, y⟩ := cut_of z
      have na : a ≠ p := fun n => c (.inr (.inl (by rw [n]; exact List.mem_cons_self)))
      exact cut_at c (by rw [upd_ne na]; exact y)
    exact k.nx _ _ _ _ (Stp.own hp all) ((S.same all).ownd hi (S.mok.new hp) upd_same x2 S2) z
end
end DL

/-! Data level: how an instance is made: the stores of its fields, the promise of an __init__, the call of the class. -/
namespace DL
open PySem PySem.Spec PyProof.Rows L2
variable [Tb]

theorem putF_new {f : Str} {v : V} : ∀ {ns : List Str} {vs : List V}, f ∉ ns → ns.length = vs.length → putF f v (ns.zip vs) = (ns ++ [f]).zip (vs ++ [v])
  | [], [], _, _ => rfl
  | n :: ns, w :: vs, h, l => by
    rw [List.zip_cons_cons]
    show (if n = f then _ else (n, w) :: putF f v (ns.zip vs)) = _
    rw [if_neg fun e => h (by rw [e]; exact List.mem_cons_self), putF_new (fun z => h (List.mem_cons_of_mem _ z)) (by simpa using l)]
    rfl
/-- M with self set aside -/
abbrev Md.slf (M : Md) (self : Addr) : Md := { M with F := self :: M.F }
/-- stores of fields, one behind another, on the object that stands in slot 0 -/
def Fs (K : PySem.W.Frag) (C : Addr) (t : TS) (ρ : List Sl) (ns : List Str) (ds : List Dt) (Φ : List Str → List Dt → Prop) : Prop :=
  ∀ (M : Md) (self dx : Addr) (σ : L2.St) (H : Hp) (vs : List V), Sd K (M.slf self) H σ ρ → ρ[0]? = some (.dat (.cls self)) → M.p ≠ some self → some self ∉ M.O → H self = some (.ins C dx (ns.zip vs)) → ns.length = vs.length →
    DXs K (cut (M.slf self) H) vs ds → ∀ E : Ends, (∀ σ' H' ns' vs' ds', (∀ a o, H a = some o → a ≠ self → H' a = some o) → H' self = some (.ins C dx (ns'.zip vs')) → ns'.length = vs'.length →
      DXs K (cut (M.slf self) H') vs' ds' → Φ ns' ds' → E.nx σ' H') → t E σ H
section
variable {K : PySem.W.Frag} {C : Addr} {te : TE} {t : TS} {ρ : List Sl} {ns : List Str} {ds : List Dt} {Φ : List Str → List Dt → Prop} {f : Str}
theorem fs_step {M : Md} {self dx : Addr} {σ : L2.St} {H1 : Hp} {vs : List V} {v : V} {d : Dt} (S : Sd K (M.slf self) H1 σ ρ) (hs : H1 self = some (.ins C dx (ns.zip vs))) (hl : ns.length = vs.length) (hf : f ∉ ns)
    (x : DXs K (cut (M.slf self) H1) vs ds) (xv : DX K (cut (M.slf self) H1) v d) :
    Sd K (M.slf self) (upd H1 self (.ins C dx (putF f v (ns.zip vs)))) σ ρ ∧ (upd H1 self (.ins C dx (putF f v (ns.zip vs)))) self = some (.ins C dx ((ns ++ [f]).zip (vs ++ [v]))) ∧ (ns ++ [f]).length = (vs ++ [v]).length ∧
      DXs K (cut (M.slf self) (upd H1 self (.ins C dx (putF f v (ns.zip vs))))) (vs ++ [v]) (ds ++ [d]) := by
  refine ⟨S.poke, by rw [upd_same, putF_new hf hl], by rw [List.length_append, List.length_append, hl]; rfl, (x.append (.one xv)).mono fun a u z => ?_⟩
  obtain ⟨c, y⟩ := cut_of z
  exact cut_at c (by rw [upd_ne fun n => c (.inr (.inl (by rw [n]; exact List.mem_cons_self)))]; exact y)
theorem fs_cons (c : Cls K C) (nF : NoAttr K C f) (hf : f ∉ ns) (hn : ns.length < 900) (h : Wp K true te ρ fun d ρ1 => ρ1 = ρ ∧ Fs K C t ρ (ns ++ [f]) (ds ++ [d]) Φ) : Fs K C (tSeq (sFld K (tVar 0) te f) t) ρ ns ds Φ :=
  fun M self dx σ H vs S h0 np nO hs hl x E k => h _ σ H S _ fun v H1 d ρ1 s1 S1 xv ⟨e1, z⟩ => by
    subst e1
    have hs1 := s1.sm rfl _ _ hs
    obtain ⟨o, o1, v0, o2, o3⟩ := S1.ok 0 _ h0
    cases o3
    subst o2
    obtain ⟨T1, T2, T3, T4⟩ := fs_step (f := f) S1 hs1 hl hf (x.mono s1.dx) xv
    refine ⟨.ref self, o1, self, C, dx, _, rfl, hs1, c, nF, ?_, ?_⟩
    · rw [List.length_zip, ← hl, Nat.min_self]; omega
    · refine z M self dx σ _ (vs ++ [v]) T1 h0 np nO T2 T3 T4 E fun σ' H' ns' vs' ds' kp a1 a2 a3 a4 => k σ' H' ns' vs' ds' (fun a o e n => kp a o (by rw [upd_ne n]; exact s1.sm rfl _ _ e) n) a1 a2 a3 a4
theorem fs_one (c : Cls K C) (nF : NoAttr K C f) (hf : f ∉ ns) (hn : ns.length < 900) (h : Wp K true te ρ fun d ρ1 => ρ1 = ρ ∧ Φ (ns ++ [f]) (ds ++ [d])) : Fs K C (sFld K (tVar 0) te f) ρ ns ds Φ :=
  fun M self dx σ H vs S h0 np nO hs hl x E k => h _ σ H S _ fun v H1 d ρ1 s1 S1 xv ⟨e1, z⟩ => by
    subst e1
    have hs1 := s1.sm rfl _ _ hs
    obtain ⟨o, o1, v0, o2, o3⟩ := S1.ok 0 _ h0
    cases o3
    subst o2
    obtain ⟨T1, T2, T3, T4⟩ := fs_step (f := f) S1 hs1 hl hf (x.mono s1.dx) xv
    refine ⟨.ref self, o1, self, C, dx, _, rfl, hs1, c, nF, ?_, ?_⟩
    · rw [List.length_zip, ← hl, Nat.min_self]; omega
    · exact k σ _ _ _ _ (fun a o e n => by rw [upd_ne n]; exact s1.sm rfl _ _ e) T2 T3 T4 z
end

/-! ### the promise of an __init__ -/
/-- W: from the arguments' data to the fields' names and data -/
def spMk (K : PySem.W.Frag) (C : Addr) (W : List Dt → (List Str → List Dt → Prop) → Prop) : Sp := fun vs H Q _ => ∃ (M : Md) (self dx : Addr) (ws : List V) (ds : List Dt) (Φ : List Str → List Dt → Prop),
  vs = .ref self :: ws ∧ M.p = none ∧ M.O = [] ∧ H self = some (.ins C dx []) ∧ MOk (M.slf self) H ∧ DXs K (cut (M.slf self) H) ws ds ∧ W ds Φ ∧
    ∀ H2 ns us es, (∀ a o, H a = some o → a ≠ self → H2 a = some o) → H2 self = some (.ins C dx (ns.zip us)) → ns.length = us.length → DXs K (cut (M.slf self) H2) us es → Φ ns es → Q .non H2
section
variable {K : PySem.W.Frag} {C : Addr} {N : List Str} {W : List Dt → (List Str → List Dt → Prop) → Prop} {vs : List V} {H : Hp} {Q : VK} {E : XK} {tp tq : TS}
/-- its body: what comes ahead of the stores (tp), the stores (tq) -/
theorem read_I (h : spMk K C W vs H Q E) (hl : vs.length ≤ N.length)
    (b : ∀ self ds Φ, ds.length + 1 = vs.length → W ds Φ → Ws K tp (.dat (.cls self) :: slots ds (N.length - (ds.length + 1))) { nx := fun ρ => ρ[0]? = some (.dat (.cls self)) ∧ Fs K C tq ρ [] [] Φ, rt := fun _ _ => False }) :
    tp { nx := tq { nx := fun _ H' => Q .non H', rt := Q }, rt := Q } (L2.start N vs) H := by
  obtain ⟨M, self, dx, ws, ds, Φ, rfl, hp, hO, hs, m, x, w, q⟩ := h
  have hO' : (M.slf self).O = [] := hO
  have x0 : DXs K (cut (M.slf self) H) (.ref self :: ws) (.cls self :: ds) := .cons (.cls self) x
  have S0 := sd_start (N := N) hO' m x0 hl
  have e0 : slots (.cls self :: ds) (N.length - (Dt.cls self :: ds).length) = .dat (.cls self) :: slots ds (N.length - (ds.length + 1)) := rfl
  rw [e0] at S0
  refine b self ds Φ (by rw [List.length_cons, x.len]) w ((M.slf self).body N.length) _ H S0 _ ⟨fun M' σ' H' ρ' s S ⟨z0, z⟩ => ?_, fun _ _ _ _ _ _ _ _ _ z => z.elim, fun M' σ' H' ρ' s S z => z.elim, fun M' σ' H' ρ' s S z => z.elim, fun _ _ _ _ _ _ _ _ _ _ _ _ z => z.elim⟩
  have keep : ∀ a o, H a = some o → H' a = some o ∧ some a ∉ M'.O := fun a o e => s.keep a o e (Md.inP0 hp a) no_rep
  have eF : M'.F = self :: M.F := s.F
  have ep : M'.p = none := s.p.trans hp
  obtain ⟨p', F', O'⟩ := M'
  simp only at eF ep
  subst eF ep
  have hs' := keep self _ hs
  refine z ⟨none, M.F, O'⟩ self dx σ' H' [] S z0 (fun y => nomatch y) hs'.2 hs'.1 rfl .nil _ fun σ2 H2 ns us es kp a1 a2 a3 a4 => ?_
  have sub : Same (cut (Md.slf ⟨none, M.F, O'⟩ self) H2) (cut (M.slf self) H2) := cut_le fun a z => by
    rcases z with z | z | z
    · exact (Md.inP0 (M := M) hp a z).elim
    · exact .inr (.inl z)
    · have z : some a ∈ M.O := z
      rw [hO] at z; cases z
  exact q H2 ns us es (fun a o e n => kp a o (keep a o e).1 n) a1 a2 (a3.mono sub) a4
end

/-! ### the call of the class -/
section
variable {K : PySem.W.Frag} {C : Addr} {W : List Dt → (List Str → List Dt → Prop) → Prop} {ρ : List Sl} {pf : Bool} {tr tk : TA} {Φ : Dt → List Sl → Prop} {E : XK}
theorem make_ok {M : Md} {σ : L2.St} {H2 : Hp} {Q : VK} {ws : List V} {ds : List Dt} {x dx : Addr} (S : Sd K M H2 σ ρ) (hx : H2 x = none) (hdx : H2 dx = none) (ne : dx ≠ x) (xs : DXs K (cut M H2) ws ds)
    (w : W ds fun ns es => ∀ a, Φ (.ins C a ns es) ρ) (q : ∀ v H3 d ρ', Tr pf M H2 H3 → Sd K M H3 σ ρ' → DX K (cut M H3) v d → Φ d ρ' → Q v H3) :
    spMk K C W (.ref x :: ws) (upd (upd H2 dx (.own x)) x (.ins C dx [])) (fun v H3 => v = .non ∧ Q (.ref x) H3) E := by
  have s1 : Same H2 (upd (upd H2 dx (.own x)) x (.ins C dx [])) := fun a u z => by
    rw [upd_ne (ne_of_none z hx), upd_ne (ne_of_none z hdx)]; exact z
  have S1 := S.aside (q := x) hx s1 upd_same
  have nx := S.mok.new hx
  have ec : ∀ H', cut (M.callP.slf x) H' = cut (M.slf x) H' := fun H' => cut_congr (fun a => by
    constructor
    · rintro (z | z | z)
      · exact (Md.inP0 rfl a z).elim
      · rcases List.mem_cons.mp z with z | z
        · rw [z]; exact .inr (.inl List.mem_cons_self)
        · exact has_aside a ((M.callP_has a).mp (.inr (.inl z)))
      · first | exact (Md.inP0 rfl _ z).elim | cases z
    · rintro (z | z | z)
      · rcases (M.callP_has a).mpr (.inl z) with y | y | y
        · exact (Md.inP0 rfl a y).elim
        · exact .inr (.inl (List.mem_cons_of_mem _ y))
        · first | exact (Md.inP0 rfl _ y).elim | cases y
      · rcases List.mem_cons.mp z with z | z
        · rw [z]; exact .inr (.inl List.mem_cons_self)
        · rcases (M.callP_has a).mpr (.inr (.inl z)) with y | y | y
          · exact (Md.inP0 rfl a y).elim
          · exact .inr (.inl (List.mem_cons_of_mem _ y))
          · first | exact (Md.inP0 rfl _ y).elim | cases y
      · rcases (M.callP_has a).mpr (.inr (.inr z)) with y | y | y
        · exact (Md.inP0 rfl a y).elim
        · exact .inr (.inl (List.mem_cons_of_mem _ y))
        · cases y) H'
  have same_cut : Same (cut M H2) (cut (M.slf x) (upd (upd H2 dx (.own x)) x (.ins C dx []))) := fun a u z => by
    obtain ⟨c, y⟩ := cut_of z
    refine cut_at (fun t => ?_) (s1 a u y)
    rcases t with t | t | t
    · exact c (.inl t)
    · rcases List.mem_cons.mp t with t | t
      · rw [t, hx] at y; cases y
      · exact c (.inr (.inl t))
    · exact c (.inr (.inr t))
  refine ⟨M.callP, x, dx, ws, ds, _, rfl, rfl, rfl, upd_same, ?_, by rw [ec]; exact xs.mono same_cut, w, fun H3 ns us es kp e1 e2 e3 e4 => ⟨rfl, ?_⟩⟩
  · refine ⟨fun a z => ?_, fun a z => (Md.inP0 rfl a z).elim, fun a _ z => (nomatch z), fun i j a z => ?_, fun t ht => (nomatch ht)⟩
    · rcases z with z | z | z
      · first | exact (Md.inP0 rfl _ z).elim | cases z
      · rcases List.mem_cons.mp z with z | z
        · rw [z]; exact ⟨_, upd_same⟩
        · obtain ⟨o, e⟩ := S.mok.live a ((M.callP_has a).mp (.inr (.inl z)))
          exact ⟨o, s1 a o e⟩
      · first | exact (Md.inP0 rfl _ z).elim | cases z
    · have z : ([] : List (Option Addr))[i]? = some (some a) := z
      simp at z
  · have s3 : Same H2 H3 := fun a u z => kp a u (s1 a u z) (ne_of_none z hx)
    refine q (.ref x) H3 (.ins C x ns es) ρ (Tr.same pf M s3) (S.same s3) (.ins (cut_at nx e1) e2 ?_) (e4 x)
    rw [ec] at e3
    exact e3.mono (cut_le has_aside)
theorem w_make (h : Wa K pf tr ρ fun ds ρ1 => W ds fun ns es => ∀ a, Φ (.ins C a ns es) ρ1) : Wp K pf (tMake C (spMk K C W) [] E tr) ρ Φ := fun M σ H S Q q =>
  h M σ H S _ fun vs H1 ds ρ1 s1 S1 x1 w => fun x dx hx hdx ne => by
    rw [List.append_nil]
    exact make_ok S1 hx hdx ne x1 w fun v H3 d ρ' s S3 xd f => q v H3 d ρ' (s1.trans s) S3 xd f
/-- with keywords: g puts self, the written ones and the keywords' in their order, by values and by data alike -/
theorem w_makeK {n m : Nat} {gV : List V → List V → List V} {gD : List Dt → List Dt → List Dt} (hg : ∀ (x : Addr) (vs zs : List V) (ds es : List Dt) (H : Hp), vs.length = n → zs.length = m → DXs K H vs ds → DXs K H zs es → ∃ ws, gV (.ref x :: vs) zs = .ref x :: ws ∧ DXs K H ws (gD ds es))
    (h : Wa K pf tr ρ fun ds ρ1 => Wa K pf tk ρ1 fun es ρ2 => ds.length = n ∧ es.length = m ∧ W (gD ds es) fun ns fs => ∀ a, Φ (.ins C a ns fs) ρ2) : Wp K pf (tMakeK C n m (spMk K C W) gV E tr tk) ρ Φ := fun M σ H S Q q =>
  h M σ H S _ fun vs H1 ds ρ1 s1 S1 x1 k => k M σ H1 S1 _ fun zs H2 es ρ2 s2 S2 x2 ⟨l1, l2, w⟩ => by
    have h1 : vs.length = n := x1.len.trans l1
    have h2 : zs.length = m := x2.len.trans l2
    refine ⟨h1, h2, fun x dx hx hdx ne => ?_⟩
    obtain ⟨ws, e, xw⟩ := hg x vs zs ds es _ h1 h2 (x1.mono s2.dx) x2
    rw [e]
    exact make_ok S2 hx hdx ne xw w fun v H3 d ρ' s S3 xd f => q v H3 d ρ' ((s1.trans s2).trans s) S3 xd f
end
end DL

set_option maxHeartbeats 2000000
/-! An exception that a name keeps: it stays known behind its suite. -/
namespace DL
open PySem PySem.Spec PyProof.Rows L2
variable [Tb]

section
variable {X : Cx} {pins : List (Addr × Obj)} {σ : L2.St} {H : Hp} {s : Shared} {a : Addr} {oe : Obj} {cls : Value} {d : Option Addr}
theorem exh_ok {P : Program} {w : World} {h : Heap} {vs : Array Value} (e : h.get? a = some oe) (z : Zc cls d oe) (f : oe.data = .fields vs) : ObjOk P w H h a (exh a cls d) :=
  ⟨⟨oe, vs, e, z, f⟩, ⟨oe, e⟩, fun _ _ ⟨o, v, q, r⟩ k => ⟨o, v, k o q, r⟩⟩
/-- a pinned exception is told to the abstract heap -/
theorem note (I : Inv X ((a, oe) :: pins) σ H s) {vs : Array Value} (z : Zc cls d oe) (f : oe.data = .fields vs) (h0 : ∀ o, X.s_0.heap.get? a = some o → a ∈ X.ex) (hp : ∀ p ∈ X.pn ++ pins, p.1 ≠ a) :
    Inv X pins σ (upd H a (exh a cls d)) s := by
  obtain ⟨p1, p2, p3, p4, p5⟩ := I.pin (a, oe) (List.mem_append_right _ List.mem_cons_self)
  have na : ∀ {b : Addr} {u : HO}, H b = some u → b ≠ a := fun e n => by
    rw [n] at e
    exact nomatch p2.symm.trans e
  have sub : ∀ p ∈ X.pn ++ pins, p ∈ X.pn ++ ((a, oe) :: pins) := fun p h => by
    rcases List.mem_append.mp h with c | c
    · exact List.mem_append_left _ c
    · exact List.mem_append_right _ (List.mem_cons_of_mem _ c)
  refine ⟨I.ok, I.os, I.bare, ⟨I.base.keep, I.base.slot, fun b o e n x => ?_, I.base.there, fun b xs e => ?_, fun b o u e => ?_, fun b ps e => ?_⟩, I.loc, I.cell, ?_, fun x c e => ?_, fun p h => ?_, HOk.laidN I.hok (fun _ _ q => q) p2 (exh_ok p1 z f), I.len⟩
  · have nb : b ≠ a := fun m => x (by rw [m]; exact h0 o (by rw [← m]; exact e))
    rw [upd_ne nb]
    exact I.base.free b o e n x
  · have q := I.base.tups b xs e
    rw [upd_ne (na q)]; exact q
  · have q := I.base.frzs b o u e
    rw [upd_ne (na q)]; exact q
  · obtain ⟨more, q⟩ := I.base.tbls b ps e
    exact ⟨more, by rw [upd_ne (na q)]; exact q⟩
  · rw [upd_ne (Ne.symm p3)]; exact I.free
  · have nc : c ≠ a := fun m => by
      obtain ⟨v, o, ho, hd⟩ := I.cell x c e
      rw [m] at ho
      have eo : o = oe := Option.some.inj (ho.symm.trans p1)
      rw [eo] at hd
      exact p5 v hd
    rw [upd_ne nc]; exact I.freeC x c e
  · obtain ⟨q1, q2, q3, q4, q5⟩ := I.pin p (sub p h)
    exact ⟨q1, by rw [upd_ne (hp p h)]; exact q2, q3, q4, q5⟩
end
/-- what the clause wishes: at its suite's end the exception is told to the abstract heap -/
def keepE (a : Addr) (cls : Value) (d : Option Addr) (i : Nat) (D : Ends) : Ends :=
  { nx := fun σ H => H a = none → D.nx (σ.set i none) (upd H a (exh a cls d)), rt := fun v H => H a = none → D.rt v (upd H a (exh a cls d)), bk := fun σ H => H a = none → D.bk (σ.set i none) (upd H a (exh a cls d)), ct := fun σ H => H a = none → D.ct (σ.set i none) (upd H a (exh a cls d)) }
/-- several clauses «except X as n», one name for all -/
def wKeeps (K : PySem.W.Frag) (i : Nat) (Wout : WX) (D : Ends) : List (Value × (Addr → Value → Option Addr → TS)) → WX
  | [] => Wout
  | (c, ts) :: r => fun cls d σ H => ∃ b, PySem.W.exmOne K cls c = some b ∧ (b = true → ∀ a, H a = none → ts a cls d (keepE a cls d i D) (σ.set i (some (.ref a))) H) ∧ (b = false → wKeeps K i Wout D r cls d σ H)
/-- a suite, whatever exception its name holds -/
def SuiteOk (X : Cx) (suite : List Stmt) (ts : Addr → Value → Option Addr → TS) : Prop := ∀ (a : Addr) (oe : Obj) (cls : Value) (d : Option Addr) (pn : List (Addr × Obj)), Zc cls d oe → (∃ vs, oe.data = .fields vs) → PSs (X.suite a ((a, oe) :: pn)) suite (ts a cls d)
inductive HdsN (X : Cx) (n : Str) : List ExceptHandler → List (Value × (Addr → Value → Option Addr → TS)) → Prop
  | nil : HdsN X n [] []
  | cons {x : Str} {c : Value} {ts : Addr → Value → Option Addr → TS} {st0 : Stmt} {suite : List Stmt} {np pos' : Pos} {hds : List ExceptHandler} {l : List (Value × (Addr → Value → Option Addr → TS))} (hc : Names X x c)
      (hsu : SuiteOk X (st0 :: suite) ts) (r : HdsN X n hds l) : HdsN X n (.ExceptHandler (some (.Name x np)) (some n) (st0 :: suite) pos' :: hds) ((c, ts) :: l)
/-- the exception at a is caught in X, over the state sI that stood ahead of it -/
structure Caught (X : Cx) (pins : List (Addr × Obj)) (a : Addr) (B : Heap) (sI : Shared) (τ : L2.St) (G : Hp) (cls : Value) (d : Option Addr) (s : Shared) : Prop where
  inv : Inv X pins τ G sI
  low : ∀ b o, sI.heap.get? b = some o → b ∉ frs X.stack → B.get? b = some o
  up : sI.heap.UpToSlots s.heap
  fly : HandSPX.FlyingZ B (X.env :: X.outer) a (Zc cls d) s.heap
  new : G a = none
  os : s.os = sI.os
  bare : AllBare s.gens
section
variable {X : Cx} {pins : List (Addr × Obj)} {a : Addr} {B : Heap} {sI s : Shared} {τ : L2.St} {G : Hp} {cls : Value} {d : Option Addr}
theorem Caught.now (C : Caught X pins a B sI τ G cls d s) : Inv X pins τ G s := C.inv.landed C.low C.fly.1 C.up C.os C.bare
theorem Caught.next (C : Caught X pins a B sI τ G cls d s) {h : Heap} (f : HandSPX.FlyingZ B (X.env :: X.outer) a (Zc cls d) h) (u : s.heap.UpToSlots h) : Caught X pins a B sI τ G cls d { s with heap := h } :=
  ⟨C.inv, C.low, C.up.trans u, f, C.new, C.os, C.bare⟩
/-- it is no frame -/
theorem Caught.off (C : Caught X pins a B sI τ G cls d s) : a ∉ frs (X.env :: X.outer) := fun m => by
  obtain ⟨oe, vs, e, _, f⟩ := C.fly.there
  obtain ⟨_, o, e2, n⟩ := C.fly.2.2.1.mem m
  rw [e] at e2
  exact n vs (Option.some.inj e2 ▸ f)
theorem Caught.clear (C : Caught X pins a B sI τ G cls d s) (hs : X.stack = X.env :: X.outer) : sI.heap.get? a = none := by
  cases e : sI.heap.get? a with
  | none => rfl
  | some o =>
    have q := C.low a o e (hs ▸ C.off)
    rw [C.fly.2.1] at q
    cases q
theorem Caught.suite (C : Caught X pins a B sI τ G cls d s) (hf : X.env.frame = some X.env.locals) : ∃ oe, Zc cls d oe ∧ (∃ vs, oe.data = .fields vs) ∧ s.heap.get? a = some oe ∧ Inv (X.suite a ((a, oe) :: (X.pn ++ pins))) [] τ G s := by
  obtain ⟨oe, vs, e, z, f⟩ := C.fly.there
  have mine : ∀ b ∈ frs (X.env :: X.outer), a ≠ b := fun b m n => C.off (n ▸ m)
  refine ⟨oe, z, ⟨vs, f⟩, e, C.now.suite e f C.new (mine _ ?_) fun m => ?_⟩
  · exact List.mem_filterMap.mpr ⟨X.env, .head _, hf⟩
  · obtain ⟨env, m, q⟩ := List.mem_filterMap.mp m
    exact C.off (List.mem_filterMap.mpr ⟨env, .tail _ m, q⟩)
/-- the suite's end: the name goes, the exception is told to the abstract heap -/
theorem Caught.ends (C : Caught X pins a B sI τ G cls d s) (hs : X.stack = X.env :: X.outer) {i : Nat} {n : Str} {pos' : Pos} {D : Ends} {oe : Obj} {fl : Flow} {s6 : Shared} (hN : X.N.Nodup) (hi : X.N[i]? = some n) (hln : X.env.kindOf n = some .local) (z : Zc cls d oe) (f : ∃ vs, oe.data = .fields vs)
    (h : SP (X.suite a ((a, oe) :: (X.pn ++ pins))) [] (keepE a cls d i D) fl s6) : wpAny (model X.prog X.w) X.A (do bindName X.env n .none; unbindBehindTheSuite X.env n pos') (fun _ s7 => SP X pins D fl s7) X.xe s6 := by
  obtain ⟨vs, f⟩ := f
  have n0 := C.clear hs
  have here : ∀ {τ6 : L2.St} {G6 : Hp} {Q : Shared → Prop}, Inv (X.suite a ((a, oe) :: (X.pn ++ pins))) [] τ6 G6 s6 → (∀ s7, G6 a = none → Inv X pins (τ6.set i none) (upd G6 a (exh a cls d)) s7 → Q s7) →
      wpAny (model X.prog X.w) X.A (do bindName X.env n .none; unbindBehindTheSuite X.env n pos') (fun _ s7 => Q s7) X.xe s6 := fun {τ6 G6 Q} S k => by
    have p0 := S.pin (a, oe) (List.mem_append_left _ (.head _))
    have J := S.unsuite C.inv.ok
    have J2 : Inv X ((a, oe) :: pins) τ6 G6 s6 := J.pins_of fun p m => (List.mem_cons.mp m).elim (fun e => e ▸ p0) fun m => J.pin p (List.mem_append_right _ m)
    refine gone_ok J2 hN hi hln fun s7 J7 => k s7 p0.2.1 (note J7 z f (fun o e => ?_) fun p m e => ?_)
    · apply Classical.byContradiction
      intro q
      obtain ⟨o', e'⟩ := C.inv.base.there a o e q
      exact nomatch n0.symm.trans e'
    · have q := (C.inv.pin p m).1
      rw [e, n0] at q
      cases q
  cases fl with
  | ret u => exact h.elim fun v ⟨_, _, S, r, q⟩ => here S fun s7 nA J => ⟨v, _, _, J, r, q nA⟩
  | _ => exact h.elim fun _ ⟨_, S, q⟩ => here S fun s7 nA J => ⟨_, _, J, q nA⟩
end
theorem sp_ofTry {X : Cx} {pins : List (Addr × Obj)} {xe : Value → Shared → Prop} {D : Ends} {f : Flow} {s : Shared} (ok : X.Ok) (h : SP (X.tr (X.pn ++ pins) xe) [] D f s) : SP X pins D f s := by
  cases f with
  | ret u => exact h.elim fun v ⟨_, _, J, r⟩ => ⟨v, _, _, J.ofTry ok, r⟩
  | _ => exact h.elim fun _ ⟨_, J, r⟩ => ⟨_, _, J.ofTry ok, r⟩
section
variable {X : Cx} {n : Str} {i : Nat} {body : List Stmt} {pos : Pos} {tb : WX → TS} {Wout : WX} {h0 : ExceptHandler} {hds : List ExceptHandler} {l : List (Value × (Addr → Value → Option Addr → TS))}
theorem run_clauses {pins : List (Addr × Obj)} {a : Addr} {B : Heap} {sI s : Shared} {τ : L2.St} {G : Hp} {cls : Value} {d : Option Addr} {D : Ends} (hs : X.stack = X.env :: X.outer) (hf : X.env.frame = some X.env.locals) (hN : X.N.Nodup) (hi : X.N[i]? = some n) (hln : X.env.kindOf n = some .local) (tk : Takes X Wout)
    (C : Caught X pins a B sI τ G cls d s) (hk : HdsN X n hds l) : wKeeps X.K i Wout D l cls d τ G → wpAny (model X.prog X.w) X.A (handleBy (.ref a) X.env hds) (SP X pins D) X.xe s := by
  induction hk with
  | nil => exact fun w => PX.no_clauseZ hf C.fly fun h held u => tk _ _ ⟨a, B, sI, pins, τ, G, cls, d, rfl, C.inv, C.low, C.up.trans u, .inr (.inr (by rw [hs]; exact held)), C.new, C.os, C.bare, w⟩
  | @cons x c ts st0 suite np pos' hds l hc hsu r ih =>
    rintro ⟨b, hm, yes, no⟩
    obtain ⟨oe, z, f, e, S⟩ := C.suite hf
    have test : ∀ {Q E : Value → Shared → Prop}, Q c s → wpAny (model X.prog X.w) (X.A.mark (some (.ref a))) (eval (.Name x np) X.env) Q E s := fun {Q E} q => by
      obtain ⟨g, db, m | ⟨m, bt, nn⟩⟩ := hc
      · exact ld_glob (X := X.suite a ((a, oe) :: (X.pn ++ pins))) S g m q db
      · exact ld_blt (X := X.suite a ((a, oe) :: (X.pn ++ pins))) S g m bt q nn db
    cases b with
    | false => exact PX.clause_passZ C.now.kIn (fun o z => z.1) C.fly hm test (ih (no rfl))
    | true =>
      refine PX.clause_asZ C.now.kIn (fun o z => z.1) C.fly hm test fun h fly u => ?_
      have C2 := C.next fly u
      obtain ⟨o2, z2, f2, e2, S2⟩ := C2.suite hf
      refine store_ok (X := X.suite a ((a, o2) :: (X.pn ++ pins))) (v := .ref a) S2 hN hi (.inl hln) rfl (fun s5 S5 => ?_) (.inr hln)
      exact wpAny_mono ((hsu a o2 cls d (X.pn ++ pins) z2 f2).run [] s5 _ G (keepE a cls d i D) S5 (yes rfl a C.new)) (fun fl s6 h => C2.ends hs hN hi hln z2 f2 h) fun _ _ z => z.elim
theorem ps_try_keeps (hs : X.stack = X.env :: X.outer) (hf : X.env.frame = some X.env.locals) (hN : X.N.Nodup) (hi : X.N[i]? = some n) (hln : X.env.kindOf n = some .local) (tk : Takes X Wout)
    (hb : ∀ (W : WX) (pn : List (Addr × Obj)) (xe : Value → Shared → Prop), Takes (X.tr pn xe) W → PassesOwn (model X.prog X.w) X.A X.env xe → PSs (X.tr pn xe) body (tb W))
    (hh : HdsN X n (h0 :: hds) l) : PS X (.Try body (h0 :: hds) [] [] pos) (fun D σ H => tb (wKeeps X.K i Wout D l) D σ H) := by
  constructor
  intro pins s σ H D I w
  have ok := I.ok
  refine wpAny_Try_except (wpAny_mono ((hb (wKeeps X.K i Wout D l) (X.pn ++ pins) _ (fun u s1 z => ?_) PassesOwn.looking).run [] s σ H D (I.toTry _) w) (fun f s1 h => ?_) fun _ _ z => z)
  · obtain ⟨a, B, sI, pI, τ, G, cls, d, rfl, J, low, up, sky, new, os, bare, w⟩ := z
    exact Sky.land Zc.steady (ok.frames.trans (congrArg some hs)) hf (by rw [← hs]; exact sky) fun h fly u => run_clauses hs hf hN hi hln tk ⟨J.ofTry ok, low, up.trans u, fly, new, os, bare⟩ hh w
  · have h := sp_ofTry ok h
    cases f with
    | next => exact wpAny_execs_nil h
    | _ => exact h
/-- one clause -/
def wKeep (K : PySem.W.Frag) (c : Value) (i : Nat) (ts : Addr → Value → Option Addr → TS) (Wout : WX) (D : Ends) : WX := wKeeps K i Wout D [(c, ts)]
theorem ps_try_keep {x : Str} {c : Value} {st0 : Stmt} {suite : List Stmt} {np pos' : Pos} {ts : Addr → Value → Option Addr → TS} (hs : X.stack = X.env :: X.outer) (hf : X.env.frame = some X.env.locals) (hN : X.N.Nodup) (hi : X.N[i]? = some n) (hln : X.env.kindOf n = some .local) (hc : Names X x c) (tk : Takes X Wout)
    (hb : ∀ (W : WX) (pn : List (Addr × Obj)) (xe : Value → Shared → Prop), Takes (X.tr pn xe) W → PassesOwn (model X.prog X.w) X.A X.env xe → PSs (X.tr pn xe) body (tb W)) (hsu : SuiteOk X (st0 :: suite) ts) :
    PS X (.Try body [.ExceptHandler (some (.Name x np)) (some n) (st0 :: suite) pos'] [] [] pos) (fun D σ H => tb (wKeep X.K c i ts Wout D) D σ H) := ps_try_keeps hs hf hN hi hln tk hb (.cons hc hsu .nil)
end
end DL

/-! Data level: exceptions that stand behind their suites: their fields, isinstance. -/
namespace DL
open PySem PySem.Spec PyProof.Rows L2
variable [Tb]

section
variable {X : Cx} {pins : List (Addr × Obj)} {σ : L2.St} {H : Hp} {s : Shared} {a C d : Addr} {fs : List (Str × V)}
/-- such an exception as the library sees it -/
theorem exh_at (I : Inv X pins σ H s) (ha : H a = some (exh a (.ref C) (some d))) (hd : H d = some (.xd fs)) : ∃ (oe od : Obj) (mA : Str → Option Value), PySem.W.InstAt s.heap a oe C (some od) ∧ s.heap.get? d = some od ∧ s.heap.Ns1 d mA ∧ ∀ f, RelO (fs.lookup f) (mA f) := by
  obtain ⟨⟨oe, vs, e1, ⟨e2, e3⟩, e4⟩, _⟩ := (show ObjOk X.prog X.w H s.heap a (exh a (.ref C) (some d)) from I.hok a _ ha)
  obtain ⟨mA, n1, n2⟩ := (show ObjOk X.prog X.w H s.heap d (.xd fs) from I.hok d _ hd)
  obtain ⟨od, o1, o2⟩ := lookIn_ns n1
  exact ⟨oe, od, mA, ⟨e1, e2, by unfold PySem.W.notCls; rw [e4] <;> rfl, by rw [e3]; exact o1⟩, o1, n1, n2⟩
end
/-- e.f of such an exception -/
def tXfld (K : PySem.W.Frag) (ta : TE) (f : Str) : TE := fun σ H Q => ta σ H fun x H1 => ∃ (a C d : Addr) (fs : List (Str × V)) (v : V), x = .ref a ∧ H1 a = some (exh a (.ref C) (some d)) ∧ H1 d = some (.xd fs) ∧ XfC K C ∧ PySem.W.findIn K (.ref C) f = some none ∧ fs.lookup f = some v ∧ Q v H1
theorem pe_xfld {X : Cx} {e : Expr} {ta : TE} {f : Str} {pos : Pos} (he : PE X e ta) (hb : attributeBase e f X.env (eval e X.env) = eval e X.env := by rfl) : PE X (.Attribute e f pos) (tXfld X.K ta f) := by
  constructor
  intro pins s σ H Q I h
  refine attr_of hb (thn (he.run pins s σ H _ I h) ?_)
  rintro u s1 ⟨x, H1, I1, rx, a, C, d, fs, v, rfl, ha, hd, T, hno, l, q⟩
  obtain rfl : u = Value.ref a := rx
  obtain ⟨oe, od, mA, J, o1, n1, n2⟩ := exh_at I1 ha hd
  obtain ⟨ob, e, o2⟩ := lookIn_ns n1
  rw [o1] at e
  cases e
  obtain ⟨w, hw, rw1⟩ := RelO.some_of (v := v) (o := mA f) (by rw [← l]; exact n2 f)
  exact HandSPX.exc_get I1.kIn J T.ga T.gg T.exC (PySem.W.findObj_own T.hdC hno rfl (by rw [o2, hw])) (handed_of rw1) ⟨v, H1, I1.tok _, rw1, q⟩
/-- what isinstance asks of the class: the library's own list -/
abbrev IsxC (K : PySem.W.Frag) (C : Addr) : Prop := ExcC K C
theorem cls_some {K : PySem.W.Frag} {C : Addr} (h : PySem.W.hasDictIn K C = true) : (PySem.W.clsIn K C).isSome = true := by
  unfold PySem.W.hasDictIn at h
  cases e : PySem.W.clsIn K C with
  | none => rw [e] at h; cases h
  | some _ => rfl
/-- isinstance(e, c), e such an exception -/
def rIsX (K : PySem.W.Frag) : List V → Hp → VK → Prop := fun xs H Q => ∃ (a C : Addr) (c : V) (cv : Value) (b : Bool), xs = [.ref a, c] ∧ (H a = some (exh a (.ref C) none) ∨ ∃ (d : Addr) (fs : List (Str × V)), H a = some (exh a (.ref C) (some d)) ∧ H d = some (.xd fs)) ∧ IsxC K C ∧ (∀ u, RelV c u → u = cv) ∧ PySem.W.kitOne K (.ref C) cv = some b ∧ Q (.bl b) H
theorem call_isX {X : Cx} : CallR X (.builtin "isinstance") (rIsX X.K) := by
  intro pins s σ H xs us Q I r h
  obtain ⟨a, C, c, cv, b, rfl, hh, T, hcv, e, q⟩ := h
  obtain ⟨u1, u2, rfl, r1, r2⟩ := vals2 r
  obtain rfl : u1 = Value.ref a := r1
  obtain rfl := hcv _ r2
  obtain ⟨oe, od, J⟩ : ∃ (oe : Obj) (od : Option Obj), PySem.W.InstAt s.heap a oe C od := by
    rcases hh with ha | ⟨d, fs, ha, hd⟩
    · obtain ⟨⟨oe, vs, e1, ⟨e2, e3⟩, e4⟩, _⟩ := (show ObjOk X.prog X.w H s.heap a (exh a (.ref C) none) from I.hok a _ ha)
      exact ⟨oe, none, e1, e2, by unfold PySem.W.notCls; rw [e4] <;> rfl, by rw [e3]; trivial⟩
    · obtain ⟨oe, od, mA, J, _⟩ := exh_at I ha hd
      exact ⟨oe, _, J⟩
  exact PySem.W.kia_one (PySem.W.kitx_exc (cls_some T.hd) T.hg T.hk T.hs T.ha T.hn T.ht T.hm) I.kIn J e (fun z => nomatch z) fun tk => ⟨.bl b, H, I.tok tk, rfl, q⟩
section
variable {K : PySem.W.Frag} {pf : Bool} {ρ : List Sl} {ta : TE} {Φ : Dt → List Sl → Prop} {Ψ : Dt → Prop}
theorem w_xfld {f : Str} {C : Addr} (T : XfC K C) (hno : PySem.W.findIn K (.ref C) f = some none) (h : Wp K pf ta ρ fun d ρ1 => ∃ a ns ds e, d = .exc C a ns ds ∧ look ns ds f = some e ∧ Φ e ρ1) : Wp K pf (tXfld K ta f) ρ Φ := fun M σ H S Q q =>
  h M σ H S _ fun v H1 d ρ1 s1 S1 x1 ⟨a, ns, ds, e, ed, l, z⟩ => by
    subst ed
    cases x1 with
    | @exc _ _ dd _ vs _ hs hd hl ha =>
      obtain ⟨u, h1, h2⟩ := ha.look l
      exact ⟨a, C, dd, _, u, rfl, (cut_of hs).2, (cut_of hd).2, T, hno, h1, q u H1 e ρ1 s1 S1 h2 z⟩
    | exc0 hs => exact nomatch l
theorem isx_of {M : Md} {H : Hp} {C a : Addr} {ns : List Str} {ds : List Dt} {v : V} (x : DX K (cut M H) v (.exc C a ns ds)) : v = .ref a ∧ (H a = some (exh a (.ref C) none) ∨ ∃ (d : Addr) (fs : List (Str × V)), H a = some (exh a (.ref C) (some d)) ∧ H d = some (.xd fs)) := by
  cases x with
  | exc hs hd hl ha => exact ⟨rfl, .inr ⟨_, _, (cut_of hs).2, (cut_of hd).2⟩⟩
  | exc0 hs => exact ⟨rfl, .inl (cut_of hs).2⟩
theorem rd_isX {C D a : Addr} {ns : List Str} {ds : List Dt} {b : Bool} (T : IsxC K C) (e : PySem.W.kitOne K (.ref C) (.ref D) = some b) (h : Ψ (.bl b)) : RD K (rIsX K) [.exc C a ns ds, .cls D] Ψ := fun M H vs m xx Q q => by
  obtain ⟨v, w, rfl, x1, x2⟩ := two_v xx
  cases x2
  obtain ⟨rfl, hh⟩ := isx_of x1
  exact ⟨a, C, .ref D, .ref D, b, rfl, hh, T, fun u z => z, e, q _ H _ (Same.refl H) (.bl b) h⟩
/-- .. against a built-in class -/
theorem rd_isXT {C a : Addr} {n : String} {ns : List Str} {ds : List Dt} {b : Bool} (T : IsxC K C) (e : PySem.W.kitOne K (.ref C) (.type n) = some b) (h : Ψ (.bl b)) : RD K (rIsX K) [.exc C a ns ds, .ty n] Ψ := fun M H vs m xx Q q => by
  obtain ⟨v, w, rfl, x1, x2⟩ := two_v xx
  cases x2
  obtain ⟨rfl, hh⟩ := isx_of x1
  exact ⟨a, C, .ty n, .type n, b, rfl, hh, T, fun u z => z, e, q _ H _ (Same.refl H) (.bl b) h⟩
end
end DL

/-! Data level: defs that may raise; exceptions of own classes over ValueError with fields, made and raised. -/
namespace DL
open PySem PySem.Spec PyProof.Rows L2
variable [Tb]

/-- a promise: from data to data, or out by an exception with fields; nothing that stands is changed -/
def spX (K : PySem.W.Frag) (W : List Dt → (Dt → Prop) → (Addr → List Str → List Dt → Prop) → Prop) : Sp := fun vs H Q E => ∃ (M : Md) (ds : List Dt) (Φ : Dt → Prop) (Ξ : Addr → List Str → List Dt → Prop),
  M.p = none ∧ M.O = [] ∧ MOk M H ∧ DXs K (cut M H) vs ds ∧ W ds Φ Ξ ∧ (∀ v H2 d, Same H H2 → DX K (cut M H2) v d → Φ d → Q v H2) ∧
    ∀ H2 C dd ns us es, Same H H2 → H2 dd = some (.xd (ns.zip us)) → ns.length = us.length → ¬ M.has dd → DXs K (cut M H2) us es → Ξ C ns es → E (.ref C) (some dd) H2
section
variable {P : Program} {w : World} {K : PySem.W.Frag} {mg : Str → Option Value} {base : Heap} {k : Nat} {f : Addr} {fd : FuncData} {ps N : List Str} {x qual : Str} {st : Stmt} {t : TS}
theorem read_X {W : List Dt → (Dt → Prop) → (Addr → List Str → List Dt → Prop) → Prop} {vs : List V} {H : Hp} {Q : VK} {E : XK} (h : spX K W vs H Q E) (hl : vs.length ≤ N.length)
    (b : ∀ ds Φ Ξ, ds.length = vs.length → W ds Φ Ξ → Ws K t (slots ds (N.length - ds.length)) { nx := fun _ => Φ .non, rt := fun d _ => Φ d, xk := E, xd := Ξ }) : t { nx := fun _ H' => Q .non H', rt := Q } (L2.start N vs) H := by
  obtain ⟨M, ds, Φ, Ξ, hp, hO, m, x, w, q, qx⟩ := h
  have keep : ∀ {M' : Md} {H' : Hp}, Stp (M.body N.length) H M' H' → Same H H' := fun s a o z => (s.keep a o z (Md.inP0 hp a) no_rep).1
  have up : ∀ {M' : Md} {H' : Hp}, Stp (M.body N.length) H M' H' → ∀ a, M.has a → M'.has a := fun {M' H'} s a z => by
    rcases z with z | z | z
    · exact (Md.inP0 hp a z).elim
    · exact .inr (.inl (by rw [s.F]; exact z))
    · rw [hO] at z; cases z
  refine b ds Φ Ξ x.len.symm w (M.body N.length) _ H (sd_start hO m x hl) _ ⟨fun M' σ' H' ρ' s S z => q .non H' .non (keep s) .non z, fun M' v H' d ρ' σ' s S x z => q v H' d (keep s) (x.mono (cut_le (up s))) z, fun M' σ' H' ρ' s S z => z, fun M' σ' H' ρ' s S z => z,
    fun M' H' C dd ns us es s e1 e2 nd xs z => qx H' C dd ns us es (keep s) e1 e2 (fun y => nd (up s dd y)) (xs.mono (cut_le (up s))) z⟩
/-- a def that may raise, by its body -/
theorem defX {W : List Dt → (Dt → Prop) → (Addr → List Str → List Dt → Prop) → Prop} (F : Fun K x qual st f fd) (S : FnScope N ps (defScope st)) (hW : ∀ ds Φ Ξ, W ds Φ Ξ → ds.length = ps.length) (hN : ps.length ≤ N.length)
    (hb : ∀ (cdv : Value) (A : Around) (outer : List Env) (s : Shared) (H : Hp) (E : XK), Room k (A.deeper (envOfC qual (defScope st) s.heap.objs.size f cdv)) →
      ∃ t, PSs (cxOf (L2.CX P w) P w K mg base N qual (defScope st) f cdv A outer s H E) (defBody st) t ∧
        ∀ ds Φ Ξ, W ds Φ Ξ → Ws K t (slots ds (N.length - ds.length)) { nx := fun _ => Φ .non, rt := fun d _ => Φ d, xk := E, xd := Ξ }) : FnOk P w K mg base (L2.CX P w) (k + 1) f fd ps (spX K W) := by
  have len : ∀ vs H Q E, spX K W vs H Q E → vs.length = ps.length := fun vs H Q E ⟨M, ds, Φ, Ξ, _, _, _, x, w, _⟩ => x.len.trans (hW ds Φ Ξ w)
  refine F.okX S len fun cdv A outer s H vs Q E hr h => ?_
  obtain ⟨t, h1, h2⟩ := hb cdv A outer s H E hr
  exact ⟨t, h1, read_X h (by rw [len _ _ _ _ h]; exact hN) fun ds Φ Ξ _ w => h2 ds Φ Ξ w⟩
end

/-! ### expressions that may raise -/
def Wpx (K : PySem.W.Frag) (te : TE) (ρ : List Sl) (Φ : Dt → List Sl → Prop) (xk : XK) (xd : Addr → List Str → List Dt → Prop) : Prop :=
  ∀ (M : Md) (σ : L2.St) (H : Hp), Sd K M H σ ρ → ∀ Q : VK, (∀ v H2 d ρ', Stp M H M H2 → Sd K M H2 σ ρ' → DX K (cut M H2) v d → Φ d ρ' → Q v H2) →
    (∀ H2 C dd ns us es, Stp M H M H2 → H2 dd = some (.xd (ns.zip us)) → ns.length = us.length → ¬ M.has dd → DXs K (cut M H2) us es → xd C ns es → xk (.ref C) (some dd) H2) → te σ H Q
section
variable {K : PySem.W.Frag} {pf : Bool} {ρ : List Sl} {te : TE} {tr : TA} {Φ : Dt → List Sl → Prop} {D : DE} {i : Nat} {xk : XK} {xd : Addr → List Str → List Dt → Prop} {C : Addr}
theorem Wp.x (h : Wp K pf te ρ Φ) : Wpx K te ρ Φ xk xd := fun M σ H S Q q _ => h M σ H S Q fun v H2 d ρ' s S2 x f => q v H2 d ρ' s.st S2 x f
theorem ws_retX (h : Wpx K te ρ (fun d ρ' => D.rt d ρ') D.xk D.xd) : Ws K (tRet te) ρ D := fun M σ H S E k =>
  h M σ H S _ (fun v H1 d ρ1 s1 S1 x1 f => k.rt M v H1 d ρ1 σ s1 S1 x1 f) fun H2 C dd ns us es s e1 e2 nd xs z => k.ex M H2 C dd ns us es s e1 e2 nd xs z
theorem ws_asgX (h : Wpx K te ρ (fun d ρ' => D.nx (ρ'.set i (.dat d))) D.xk D.xd) : Ws K (tAsg te (gName i)) ρ D := fun M σ H S E k =>
  h M σ H S _ (fun v H1 d ρ1 s1 S1 x1 f => k.nx M _ H1 _ s1 (S1.put x1 i) f) fun H2 C dd ns us es s e1 e2 nd xs z => k.ex M H2 C dd ns us es s e1 e2 nd xs z
theorem wx_call {W : List Dt → (Dt → Prop) → (Addr → List Str → List Dt → Prop) → Prop} {E : L2.St → XK} (hE : ∀ σ c d H, xk c d H → E σ c d H) (h : Wa K pf tr ρ fun ds ρ1 => W ds (fun d => Φ d ρ1) xd) : Wpx K (tCallS (spX K W) E tr) ρ Φ xk xd := fun M σ H S Q q qx =>
  h M σ H S _ fun vs H1 ds ρ1 s1 S1 x1 k => by
    have ec : ∀ H', cut M.callP H' = cut M H' := cut_congr M.callP_has
    refine ⟨M.callP, ds, _, xd, rfl, rfl, S1.mok.callP, by rw [ec]; exact x1, k, fun v H2 d e x f => q v H2 d ρ1 (s1.st.trans (Stp.same M e)) (S1.same e) (by rw [ec] at x; exact x) f, fun H2 C dd ns us es e e1 e2 nd xs z => ?_⟩
    rw [ec] at xs
    exact hE σ _ _ _ (qx H2 C dd ns us es (s1.st.trans (Stp.same M e)) e1 e2 (fun y => nd ((M.callP_has dd).mpr y)) xs z)
end

/-! ### an exception's __init__, the raise -/
def spExI (K : PySem.W.Frag) (C : Addr) (W : List Dt → (List Str → List Dt → Prop) → Prop) : Sp := fun vs H Q _ => ∃ (M : Md) (self : Addr) (ws : List V) (ds : List Dt) (Φ : List Str → List Dt → Prop),
  vs = .ref self :: ws ∧ H self = some (exo self C none) ∧ DXs K (cut (M.slf self) H) ws ds ∧ W ds Φ ∧
    ∀ H2 dd ns us es, H dd = none → (∀ a o, H a = some o → a ≠ self → H2 a = some o) → H2 self = some (exo self C (some dd)) → H2 dd = some (exd dd (ns.zip us)) → ns.length = us.length → DXs K (cut ((M.slf self).slf dd) H2) us es → Φ ns es → Q .non H2
section
variable {K : PySem.W.Frag} {pf : Bool} {ρ : List Sl} {ta : TA} {D : DE} {C : Addr}
theorem ws_raise {W : List Dt → (List Str → List Dt → Prop) → Prop} (h : Wa K pf ta ρ fun ds ρ1 => ds.length ≤ 900 ∧ W ds fun ns es => D.xd C ns es) : Ws K (fun _ σ H => tMkO C (spExI K C W) [] ta σ H fun c d H' => D.xk c d H') ρ D := fun M σ H S E k =>
  h M σ H S _ fun vs H1 ds ρ1 s1 S1 x1 ⟨hl, w⟩ => by
    refine ⟨by rw [x1.len]; omega, fun a na => ?_⟩
    have sc1 : Same (cut M H1) (cut (M.slf a) (upd H1 a (exo a C none))) := fun b u z => by
      obtain ⟨c, y⟩ := cut_of z
      refine cut_at (fun t => ?_) (by rw [upd_ne (ne_of_none y na)]; exact y)
      rcases t with t | t | t
      · exact c (.inl t)
      · rcases List.mem_cons.mp t with t | t
        · rw [t, na] at y; cases y
        · exact c (.inr (.inl t))
      · exact c (.inr (.inr t))
    refine ⟨M, a, vs, ds, _, by rw [List.append_nil], upd_same, x1.mono sc1, w, fun H2 dd ns us es hd kp e1 e2 e3 xs z => ⟨rfl, dd, _, e1, e2, ?_, ?_⟩⟩
    · have nd : dd ≠ a := fun n => by rw [n, upd_same] at hd; cases hd
      rw [upd_ne nd] at hd; exact hd
    · have nd : dd ≠ a := fun n => by rw [n, upd_same] at hd; cases hd
      have hd1 : H1 dd = none := by rw [upd_ne nd] at hd; exact hd
      have all : ∀ b o, H1 b = some o → (upd (del H2 a) dd (.xd (ns.zip us))) b = some o := fun b o e => by
        have ba := ne_of_none e na
        rw [upd_ne (ne_of_none e hd1), del_ne ba]
        exact kp b o (by rw [upd_ne ba]; exact e) ba
      have nh : ¬ M.has dd := S1.mok.new hd1
      refine k.ex M _ C dd ns us es (s1.st.trans (Stp.same M all)) upd_same e3 nh (xs.mono fun b u z' => ?_) z
      obtain ⟨c, y⟩ := cut_of z'
      have b1 : b ≠ dd := fun n => c (.inr (.inl (by rw [n]; exact List.mem_cons_self)))
      have b2 : b ≠ a := fun n => c (.inr (.inl (by rw [n]; exact List.mem_cons_of_mem _ List.mem_cons_self)))
      exact cut_at (fun t => c (has_aside b (has_aside b t))) (by rw [upd_ne b1, del_ne b2]; exact y)
end
section
variable {P : Program} {w : World} {K : PySem.W.Frag} {mg : Str → Option Value} {base : Heap} {C : Addr} {f : Addr} {fd : FuncData} {qual : Str} {st : Stmt}
/-- def __init__(self, x): self.f = x -/
theorem ok_ex1 {fl x : Str} {p1 p2 p3 p4 : Pos} (F : Fun K "__init__" qual st f fd) (S : FnScope ["self", x] ["self", x] (defScope st)) (hb : defBody st = [.Assign [.Attribute (.Name "self" p1) fl p2] (.Name x p3) p4])
    (v1 : (defScope st).names.lookup ("self" : Str) = some NameKind.local) (v2 : (defScope st).names.lookup x = some NameKind.local) (hx : (x == ("__debug__" : Str)) = false) (hx2 : (x == ("__classdict__" : Str)) = false) (T : OexC K C) (hno : PySem.W.findIn K (.ref C) fl = some none) :
    FnOk P w K mg base CX0 1 f fd ["self", x] (spExI K C fun ds Φ => ∃ d, ds = [d] ∧ Φ [fl] [d]) := by
  refine F.ok S (fun vs H Q E ⟨M, self, ws, ds, Φ, e, _, xx, ⟨d, ed, _⟩, _⟩ => by rw [e, List.length_cons, xx.len, ed]; rfl) fun cdv A outer s H vs Q E hr h => ?_
  rw [hb]
  refine ⟨_, pss_one (ps_ost (pv 0 (hv := .inl v1)) (pv 1 (hv := .inl v2) (hd := hx) (hcd := hx2))), ?_⟩
  obtain ⟨M, self, ws, ds, Φ, rfl, hs, xx, ⟨d, rfl, q⟩, fin⟩ := h
  obtain ⟨y, rfl, xy⟩ := one_v xx
  refine ⟨y, rfl, .ref self, rfl, self, C, rfl, T, hno, .inl ⟨hs, fun dx ndx ne => ?_⟩⟩
  have keep : ∀ a o, H a = some o → a ≠ self → (upd (upd H dx (exd dx [(fl, y)])) self (exo self C (some dx))) a = some o := fun a o e n => by
    rw [upd_ne n, upd_ne (ne_of_none e ndx)]; exact e
  refine fin _ dx [fl] [y] [d] ndx keep upd_same (by rw [upd_ne ne, upd_same]; rfl) rfl ((DXs.one xy).mono fun b u z => ?_) q
  obtain ⟨c, e⟩ := cut_of z
  have b1 : b ≠ self := fun n => c (.inr (.inl (by rw [n]; exact List.mem_cons_self)))
  refine cut_at (fun t => ?_) (keep b u e b1)
  rcases t with t | t | t
  · exact c (.inl t)
  · rcases List.mem_cons.mp t with t | t
    · rw [t, ndx] at e; cases e
    · exact c (.inr (.inl t))
  · exact c (.inr (.inr t))
/-- def __init__(self, x, y): self.f = x; self.g = y -/
theorem ok_ex2 {fl gl x y : Str} {p1 p2 p3 p4 r1 r2 r3 r4 : Pos} (F : Fun K "__init__" qual st f fd) (S : FnScope ["self", x, y] ["self", x, y] (defScope st))
    (hb : defBody st = [.Assign [.Attribute (.Name "self" p1) fl p2] (.Name x p3) p4, .Assign [.Attribute (.Name "self" r1) gl r2] (.Name y r3) r4])
    (v1 : (defScope st).names.lookup ("self" : Str) = some NameKind.local) (v2 : (defScope st).names.lookup x = some NameKind.local) (v3 : (defScope st).names.lookup y = some NameKind.local) (hx : (x == ("__debug__" : Str)) = false) (hx2 : (x == ("__classdict__" : Str)) = false)
    (hy : (y == ("__debug__" : Str)) = false) (hy2 : (y == ("__classdict__" : Str)) = false) (T : OexC K C) (hno : PySem.W.findIn K (.ref C) fl = some none) (hno2 : PySem.W.findIn K (.ref C) gl = some none) :
    FnOk P w K mg base CX0 1 f fd ["self", x, y] (spExI K C fun ds Φ => ∃ d e, ds = [d, e] ∧ Φ [gl, fl] [e, d]) := by
  refine F.ok S (fun vs H Q E ⟨M, self, ws, ds, Φ, e, _, xx, ⟨d, d2, ed, _⟩, _⟩ => by rw [e, List.length_cons, xx.len, ed]; rfl) fun cdv A outer s H vs Q E hr h => ?_
  rw [hb]
  refine ⟨_, pss_cons (ps_ost (pv 0 (hv := .inl v1)) (pv 1 (hv := .inl v2) (hd := hx) (hcd := hx2))) (pss_one (ps_ost (pv 0 (hv := .inl v1)) (pv 2 (hv := .inl v3) (hd := hy) (hcd := hy2)))), ?_⟩
  obtain ⟨M, self, ws, ds, Φ, rfl, hs, xx, ⟨d, d2, rfl, q⟩, fin⟩ := h
  obtain ⟨u, u2, rfl, xu, xu2⟩ := two_v xx
  refine ⟨u, rfl, .ref self, rfl, self, C, rfl, T, hno, .inl ⟨hs, fun dx ndx ne => ?_⟩⟩
  have at_dx : (upd (upd H dx (exd dx [(fl, u)])) self (exo self C (some dx))) dx = some (exd dx [(fl, u)]) := by rw [upd_ne ne, upd_same]
  refine ⟨u2, rfl, .ref self, rfl, self, C, rfl, T, hno2, .inr ⟨dx, [(fl, u)], upd_same, at_dx, by show 1 ≤ 900; decide, ?_⟩⟩
  have keep : ∀ a o, H a = some o → a ≠ self → (upd (upd (upd H dx (exd dx [(fl, u)])) self (exo self C (some dx))) dx (exd dx [(gl, u2), (fl, u)])) a = some o := fun a o e n => by
    rw [upd_ne (ne_of_none e ndx), upd_ne n, upd_ne (ne_of_none e ndx)]; exact e
  refine fin _ dx [gl, fl] [u2, u] [d2, d] ndx keep (by rw [upd_ne (Ne.symm ne), upd_same]) (by rw [upd_same]; rfl) rfl ((DXs.cons xu2 (.one xu)).mono fun b z e' => ?_) q
  obtain ⟨c, e⟩ := cut_of e'
  have b1 : b ≠ self := fun n => c (.inr (.inl (by rw [n]; exact List.mem_cons_self)))
  refine cut_at (fun t => ?_) (keep b z e b1)
  rcases t with t | t | t
  · exact c (.inl t)
  · rcases List.mem_cons.mp t with t | t
    · rw [t, ndx] at e; cases e
    · exact c (.inr (.inl t))
  · exact c (.inr (.inr t))
end
/-! ### try: return f(..) except X as e: .. (the exception kept) -/
/-- what is told of an exception where its suite has ended -/
def kept (a C : Addr) (ns : List Str) (es : List Dt) (ρ : List Sl) : List Sl := ρ.map fun s => match s with
  | .dat (.cls b) => if b = a then .dat (.exc C a ns es) else s
  | s => s
section
variable {K : PySem.W.Frag} {ρ : List Sl} {tr : TA} {D : DE} {i : Nat} {ts : Addr → Value → Option Addr → TS} {c : Value} {Wout : WX}
theorem Sd.kept {M : Md} {H : Hp} {σ : L2.St} {a C dd : Addr} {ns : List Str} {us : List V} {es : List Dt} (S : Sd K M H σ ρ) (na : H a = none) (hd : H dd = some (.xd (ns.zip us))) (hl : ns.length = us.length) (nd : ¬ M.has dd) (xs : DXs K (cut M H) us es) :
    Sd K M (upd H a (exh a (.ref C) (some dd))) σ (DL.kept a C ns es ρ) := by
  have sm : Same H (upd H a (exh a (.ref C) (some dd))) := same_new na
  have S1 := S.same sm
  have ma : ¬ M.has a := S.mok.new na
  refine ⟨by unfold DL.kept; rw [List.length_map]; exact S.len, by unfold DL.kept; rw [List.length_map]; exact S.olen, S1.mok, fun j s h => ?_⟩
  unfold DL.kept at h
  rw [List.getElem?_map] at h
  cases e : ρ[j]? with
  | none => rw [e] at h; cases h
  | some s0 =>
    rw [e] at h
    obtain ⟨o, h1, h2⟩ := S1.ok j s0 e
    refine ⟨o, h1, ?_⟩
    have h := Option.some.inj h
    cases s0 with
    | dat d =>
      cases d with
      | cls b =>
        by_cases cb : b = a
        · subst cb
          have h : (if b = b then Sl.dat (.exc C b ns es) else _) = s := h
          rw [if_pos rfl] at h
          subst h
          obtain ⟨v, g1, g2⟩ := h2
          cases g2
          exact ⟨_, g1, .exc (cut_at ma upd_same) (cut_at nd (by rw [upd_ne (ne_of_none hd na)]; exact hd)) hl (xs.mono (cut_same M sm))⟩
        · have h : (if b = a then _ else Sl.dat (.cls b)) = s := h
          rw [if_neg cb] at h
          subst h
          exact h2
      | _ => subst h; exact h2
    | _ => subst h; exact h2
theorem ws_tryRet {pf : Bool} {W : List Dt → (Dt → Prop) → (Addr → List Str → List Dt → Prop) → Prop} (h : Wa K pf tr ρ fun ds ρ1 => W ds (fun d => D.rt d ρ1) fun C ns es => PySem.W.exmOne K (.ref C) c = some true ∧
      ∀ a dd, Ws K (ts a (.ref C) (some dd)) (ρ1.set i (.dat (.cls a))) { nx := fun ρ2 => D.nx (kept a C ns es (ρ2.set i .any)), rt := fun _ _ => False }) :
    Ws K (fun E σ H => tRet (tCallS (spX K W) (WE (wKeep K c i ts Wout E)) tr) E σ H) ρ D := fun M σ H S E k =>
  h M σ H S _ fun vs H1 ds ρ1 s1 S1 x1 w => by
    have ec : ∀ H', cut M.callP H' = cut M H' := cut_congr M.callP_has
    refine ⟨M.callP, ds, _, _, rfl, rfl, S1.mok.callP, by rw [ec]; exact x1, w, fun v H2 d e x f => k.rt M v H2 d ρ1 σ (s1.st.trans (Stp.same M e)) (S1.same e) (by rw [ec] at x; exact x) f, fun H2 C dd ns us es e e1 e2 nd xs ⟨hm, hsu⟩ => ?_⟩
    rw [ec] at xs
    have nd' : ¬ M.has dd := fun y => nd ((M.callP_has dd).mpr y)
    have st2 : Stp M H M H2 := s1.st.trans (Stp.same M e)
    refine ⟨true, hm, fun _ a na => ?_, fun z => nomatch z⟩
    have S2 : Sd K M H2 (σ.set i (some (.ref a))) (ρ1.set i (.dat (.cls a))) := (S1.same e).put (.cls a) i
    refine hsu a dd M _ H2 S2 (keepE a (.ref C) (some dd) i E) ⟨fun M' σ' H' ρ' s S' z na' => ?_, fun _ _ _ _ _ _ _ _ _ z => z.elim, fun _ _ _ _ _ _ z => z.elim, fun _ _ _ _ _ _ z => z.elim, fun _ _ _ _ _ _ _ _ _ _ _ _ z => z.elim⟩
    have hc2 : cut M H2 dd = some (.xd (ns.zip us)) := cut_at nd' e1
    obtain ⟨nd3, hd3⟩ := cut_of (s.dx dd _ hc2)
    have S3 : Sd K M' H' (σ'.set i none) (ρ'.set i .any) := by
      refine ⟨by rw [List.length_set, List.length_set]; exact S'.len, by rw [List.length_set]; exact S'.olen, S'.mok, fun j s0 e0 => ?_⟩
      by_cases cj : i = j
      · subst cj
        by_cases hi : i < ρ'.length
        · rw [List.getElem?_set_self hi] at e0
          have e0 := Option.some.inj e0
          subst e0
          exact ⟨none, by rw [List.getElem?_set_self (by rw [S'.len]; exact hi)], trivial⟩
        · rw [List.getElem?_eq_none (by rw [List.length_set]; omega)] at e0; cases e0
      · rw [List.getElem?_set_ne cj] at e0 ⊢
        exact S'.ok j s0 e0
    have S4 := S3.kept (a := a) (C := C) na' hd3 e2 nd3 (xs.mono s.dx)
    exact k.nx M' _ _ _ ((st2.trans s).trans (Stp.same M' (same_new na'))) S4 z
end
end DL

set_option maxHeartbeats 2000000
/-! Data level: own errors over any built-in class of errors; made as values, raised. -/
namespace DL
open PySem PySem.Spec PyProof.Rows L2 PySem.HandSPX
variable [Tb]

/-- a built-in class of errors under own ones: tl is its way up, in which no own class stands -/
structure ErrB (newId : String) (tl : List Value) : Prop where
  base : ∃ B initId, ExcBaseFacts B newId initId tl
  store : ∃ B, StoreFacts B tl "object.__setattr__" "object"
  pure : PySem.W.excTail tl tl = true
abbrev tlV : List Value := [.type "ValueError", .type "Exception", .type "BaseException", .type "object"]
abbrev tlL : List Value := [.type "LookupError", .type "Exception", .type "BaseException", .type "object"]
abbrev tlR : List Value := [.type "RuntimeError", .type "Exception", .type "BaseException", .type "object"]
abbrev tlO : List Value := [.type "OverflowError", .type "ArithmeticError", .type "Exception", .type "BaseException", .type "object"]
theorem errV : ErrB "ValueError.__new__" tlV := ⟨⟨_, _, F.excBase_ValueError⟩, ⟨_, F.store_ValueError⟩, by decide +kernel⟩
theorem errL : ErrB "LookupError.__new__" tlL := ⟨⟨_, _, F.excBase_LookupError⟩, ⟨_, F.store_LookupError⟩, by decide +kernel⟩
theorem errR : ErrB "RuntimeError.__new__" tlR := ⟨⟨_, _, F.excBase_RuntimeError⟩, ⟨_, F.store_RuntimeError⟩, by decide +kernel⟩
theorem errO : ErrB "OverflowError.__new__" tlO := ⟨⟨_, _, F.excBase_OverflowError⟩, ⟨_, F.store_OverflowError⟩, by decide +kernel⟩
theorem ErrB.obj {newId : String} {tl : List Value} (e : ErrB newId tl) : tl.contains (.type "object") = true := e.store.elim fun _ S => S.hasOwner
/-- own classes, then those -/
def over (rs : List Addr) (tl : List Value) : List Value := rs.map Value.ref ++ tl
theorem over_tail {tl : List Value} (h : PySem.W.excTail tl tl = true) (rs : List Addr) : PySem.W.excTail tl (over rs tl) = true := by
  induction rs with
  | nil => exact h
  | cons _ _ ih => exact ih
theorem over_has {tl : List Value} (Y : String) (rs : List Addr) : (over rs tl).contains (.type Y) = tl.contains (.type Y) :=
  Bool.eq_iff_iff.mpr (by simp [over])
theorem over_ref {tl : List Value} (D : Addr) (h : tl.contains (.ref D) = false) (rs : List Addr) : (over rs tl).contains (.ref D) = rs.contains D := by
  have h : Value.ref D ∉ tl := fun z => by simp [z] at h
  exact Bool.eq_iff_iff.mpr (by simp [over, h])

/-! ### an own class of errors -/
structure OexB (K : PySem.W.Frag) (C : Addr) (rs : List Addr) (newId : String) (tl : List Value) : Prop where
  eb : ErrB newId tl
  cls : ∃ nm q N bs sn sub ab col dd k0 k1 k2 k3 k5, K.lookup C = some (excClassObj nm q C N bs (over rs tl) true sn sub ab col dd k0 k1 k2 k3 k5 newId)
  sa : PySem.W.findIn K (.ref C) "__setattr__" = some (some (.builtin "object.__setattr__"))
  exC : PySem.W.subIn K (.ref C) (.type "BaseException") = some true
  tyC : PySem.W.typeIn K (.ref C) = some (.type "type")
  kC : PySem.W.keepIn K (.ref C) = true
section
variable {K : PySem.W.Frag} {C : Addr} {rs : List Addr} {newId : String} {tl : List Value}
theorem OexB.cd (T : OexB K C rs newId tl) : ∃ cd, PySem.W.clsIn K C = some cd ∧ cd.mro = over (C :: rs) tl ∧ cd.hasDict = true := by
  obtain ⟨nm, q, N, bs, sn, sub, ab, col, dd, k0, k1, k2, k3, k5, hC⟩ := T.cls
  exact ⟨{ name := nm, bases := bs, mro := .ref C :: over rs tl, ns := N, qualname := q, hasDict := true, slotNames := sn, subclasses := sub, abstract := ab, collection := col, hasDel := false }, by unfold PySem.W.clsIn; rw [hC] <;> rfl, rfl, rfl⟩
theorem OexB.sub (T : OexB K C rs newId tl) (x : Value) : PySem.W.subIn K (.ref C) x = some ((over (C :: rs) tl).contains x) := by
  obtain ⟨cd, h1, h2, _⟩ := T.cd
  show PySem.W.mroIn K C x = _
  unfold PySem.W.mroIn
  rw [h1, Option.bind_some, h2]
  rfl
/-- what the library asks of a class whose errors take fields -/
theorem OexB.up (T : OexB K C rs newId tl) : PySem.W.excOver K C tl = true := by
  obtain ⟨cd, h1, h2, _⟩ := T.cd
  unfold PySem.W.excOver
  rw [h1]
  show (match cd.mro with | .ref C' :: bm => C' == C && PySem.W.excTail tl bm | _ => false) = true
  rw [h2]
  show (C == C && PySem.W.excTail tl (over rs tl)) = true
  rw [over_tail T.eb.pure, beq_self_eq_true]; rfl
/-- isinstance of such an error against an own class -/
theorem OexB.kit (T : OexB K C rs newId tl) {D : Addr} (h1 : (PySem.W.clsIn K D).isSome = true) (h2 : PySem.W.typeIn K (.ref D) = some (.type "type")) (h3 : tl.contains (.ref D) = false) :
    PySem.W.kitOne K (.ref C) (.ref D) = some (decide (C = D) || rs.contains D) := by
  unfold PySem.W.kitOne
  by_cases e : C = D
  · subst e
    rw [if_pos (by simp), decide_eq_true rfl, Bool.true_or]
  · rw [if_neg (by simp [e]), decide_eq_false e, Bool.false_or]
    show (if ((PySem.W.clsIn K D).isSome && PySem.W.typeIn K (.ref D) == some (.type "type")) = true then _ else _) = _
    rw [h1, h2, if_pos (by simp), T.sub, over_ref D h3, List.contains_cons, show (D == C) = false by simpa using fun z => e z.symm, Bool.false_or]
theorem OexB.kitT (T : OexB K C rs newId tl) {n : String} (h : PySem.W.kitMeta n = true) : PySem.W.kitOne K (.ref C) (.type n) = some (tl.contains (.type n)) := by
  unfold PySem.W.kitOne
  rw [if_neg (by simp)]
  show (if PySem.W.kitMeta n = true then _ else _) = _
  rw [if_pos h, T.sub, over_has]
end
end DL

set_option maxHeartbeats 2000000
/-! Data level: own errors over any built-in class: the stores of their __init__, their making. -/
namespace DL
open PySem PySem.Spec PyProof.Rows L2
variable [Tb]

section
variable {X : Cx} {pins : List (Addr × Obj)} {σ : L2.St} {H : Hp} {s : Shared} {a C dx : Addr} {f : Str} {y : V} {u : Value} {fs : List (Str × V)} {Q : Unit → Shared → Prop} {E : Value → Shared → Prop} {A : Around} {rs : List Addr} {newId : String} {tl : List Value}
/-- a store into such an error: what is left is the store into its dict -/
theorem ostB (T : OexB X.K C rs newId tl) (kn : X.K.In s.heap) {ox : Obj} {od : Option Obj} (at_ : PySem.W.InstAt s.heap a ox C od) (hno : PySem.W.findIn X.K (.ref C) f = some none)
    (h : wpAny (model X.prog X.w) A.in1 (Builtin.ObjectAttr.ownDictForStores (.ref a)) (fun d s1 => ∃ dx, d = some dx ∧ wpAny (model X.prog X.w) A.in1 (Builtin.ObjectAttr.storeInDict dx (.str f s.toks) f u) (fun r s2 => r = .done (.ret .none) ∧ Q () s2) (fun _ _ => False) s1) (fun _ _ => False) { s with toks := s.toks + 1 }) :
    wpAny (model X.prog X.w) A (setAttr (.ref a) f u) Q E s := by
  obtain ⟨_, SF⟩ := T.eb.store
  refine PySem.W.set_plain kn at_ T.sa (PySem.W.osa_openX (s := { s with toks := s.toks + 1 }) SF kn at_ T.up (by unfold PySem.W.takerIn; rw [hno]; rfl) fun _ => ?_)
  refine wpAny_bind (wpAny_pure (wpAny_bind (wpAny_mono h (fun d s1 ⟨dx, e, q⟩ => ?_) fun _ _ z => z.elim)))
  subst e
  exact wpAny_mono q (fun r s2 ⟨e, z⟩ => by subst e; exact z) fun _ _ z => z.elim
theorem upd_back {n : Addr} {o1 o2 o3 : HO} (h : n ≠ a) : upd (upd (upd H n o1) a o2) n o3 = upd (upd H n o3) a o2 := funext fun b => by
  by_cases e : b = a
  · subst e
    rw [upd_ne (Ne.symm h), upd_same, upd_same]
  · by_cases e2 : b = n
    · subst e2
      rw [upd_same, upd_ne h, upd_same]
    · rw [upd_ne e2, upd_ne e, upd_ne e2, upd_ne e, upd_ne e2]
/-- the first field: the dict is laid, hung in, filled -/
theorem ost_newB (T : OexB X.K C rs newId tl) (I : Inv X pins σ H s) (e : H a = some (exo a C none)) (hno : PySem.W.findIn X.K (.ref C) f = some none) (ry : RelV y u)
    (h : ∀ dx s', H dx = none → dx ≠ a → Inv X pins σ (upd (upd H dx (exd dx [(f, y)])) a (exo a C (some dx))) s' → Q () s') : wpAny (model X.prog X.w) A (setAttr (.ref a) f u) Q E s := by
  obtain ⟨cd, c1, _, c3⟩ := T.cd
  obtain ⟨t1, ho⟩ := exo_at I.hok e
  have n0 : H s.heap.objs.size = none := I.hok.fresh (Nat.le_refl _)
  have na : s.heap.objs.size ≠ a := fun z => Nat.lt_irrefl _ (by have := Heap.lt_size ho; rw [← z] at this; exact this)
  have J1 := I.laid (t' := s.toks + 1) (a := s.heap.objs.size) (o := exd s.heap.objs.size []) (h' := s.heap.push (PySem.W.dictOf [] 0)) (fun b u z => Heap.get?_push_of_some _ z) (Nat.le_refl _)
    (exd_ok (mA := fun _ => none) (Heap.Ns1.of_empty ⟨_, #[], 0, Heap.get?_push_at rfl rfl, rfl, fun e he => by simp at he, fun _ => rfl⟩) fun _ => True.intro)
  have hx1 : (s.heap.push (PySem.W.dictOf [] 0)).get? a = some (PySem.W.excObj C t1 none .none) := Heap.get?_push_of_some _ ho
  have hx2 : ((s.heap.push (PySem.W.dictOf [] 0)).update a fun o => { o with dict := some s.heap.objs.size }).get? a = some (PySem.W.excObj C t1 (some s.heap.objs.size) .none) := Heap.get?_update_self _ hx1 rfl
  have J2 := J1.write (t' := s.toks + 1) (x := a) (e := a) (o := exo a C (some s.heap.objs.size)) (h' := (s.heap.push (PySem.W.dictOf [] 0)).update a fun o => { o with dict := some s.heap.objs.size }) (by rw [upd_ne (Ne.symm na), e]; exact True.intro) (.inl rfl)
    (fun b u nb z => (Heap.get?_update_ne _ _ _ _ nb).trans z) ⟨_, hx2⟩ (exo_ok hx2)
  refine ostB T I.kIn (ox := PySem.W.excObj C t1 none .none) (od := none) ⟨ho, rfl, rfl, trivial⟩ hno (PySem.W.instanceDict_exc (s := { s with toks := s.toks + 1 }) ho (PySem.W.looks_clsIn I.kIn c1) c3 ⟨_, rfl, ?_⟩)
  obtain ⟨mA, hns, _⟩ := exd_at J2.hok (show (upd (upd H s.heap.objs.size (exd s.heap.objs.size [])) a (exo a C (some s.heap.objs.size))) s.heap.objs.size = some (exd s.heap.objs.size []) by rw [upd_ne na, upd_same])
  obtain ⟨hp, g, d, t, os⟩ := s
  refine PySem.HandSPX.store_in_new ⟨_, #[], _, (Heap.get?_update_ne _ _ _ _ na).trans (Heap.get?_push_at rfl rfl), rfl, fun e he => by simp at he, fun _ => rfl⟩ fun h' tk' hn hs => ⟨rfl, h _ _ n0 na ?_⟩
  have J3 := J2.write (t' := tk') (x := hp.objs.size) (e := hp.objs.size) (o := exd hp.objs.size [(f, y)]) (h' := h') (by rw [upd_ne na, upd_same]; exact True.intro) (.inl rfl)
    (fun b u nb z => (hs.2 b nb).trans z) (by obtain ⟨o, _, _, z, _⟩ := hn; exact ⟨o, z⟩) (exd_ok hn (relO_put (fs := []) (mA := fun _ => none) ry fun _ => True.intro))
  rwa [upd_back na] at J3
/-- a further field -/
theorem ost_oldB (T : OexB X.K C rs newId tl) (I : Inv X pins σ H s) (e : H a = some (exo a C (some dx))) (ed : H dx = some (exd dx fs)) (hl : fs.length ≤ 900) (hno : PySem.W.findIn X.K (.ref C) f = some none) (ry : RelV y u)
    (h : ∀ s', Inv X pins σ (upd H dx (exd dx ((f, y) :: fs))) s' → Q () s') : wpAny (model X.prog X.w) A (setAttr (.ref a) f u) Q E s := by
  obtain ⟨cd, c1, _, c3⟩ := T.cd
  obtain ⟨t1, ho⟩ := exo_at I.hok e
  obtain ⟨mA, hns, rel⟩ := exd_at I.hok ed
  have hw := within_of rel
  obtain ⟨oD, _, _, hoD, _, _⟩ := hns.count hw
  refine ostB T I.kIn (ox := PySem.W.excObj C t1 (some dx) .none) (od := some oD) ⟨ho, rfl, rfl, hoD⟩ hno ?_
  obtain ⟨hp, g, d, t, os⟩ := s
  refine wpAny_bind (wpAny_loadPart ho (wpAny_bind ((PySem.W.looks_clsIn I.kIn c1).at ?_)))
  rw [c3]
  refine wpAny_pure (a := some dx) ⟨dx, rfl, PySem.OEX.store_in_old hns hw (by rw [List.length_map]; omega) fun h' tk' hn hs => ⟨rfl, h _ ?_⟩⟩
  exact I.write (t' := tk') (x := dx) (e := dx) (by rw [ed]; exact True.intro) (.inl rfl) (fun b u nb z => (hs.2 b nb).trans z) (by obtain ⟨o, _, _, z, _⟩ := hn; exact ⟨o, z⟩) (exd_ok hn (relO_put ry rel))
end
/-- self.f = e -/
def tOstB (K : PySem.W.Frag) (f : Str) (to te : TE) : TS := fun D σ H => te σ H fun y H1 => to σ H1 fun x H2 => ∃ (a C : Addr) (rs : List Addr) (newId : String) (tl : List Value), x = .ref a ∧ OexB K C rs newId tl ∧ PySem.W.findIn K (.ref C) f = some none ∧
  ((H2 a = some (exo a C none) ∧ ∀ dx, H2 dx = none → dx ≠ a → D.nx σ (upd (upd H2 dx (exd dx [(f, y)])) a (exo a C (some dx)))) ∨
    ∃ (dx : Addr) (fs : List (Str × V)), H2 a = some (exo a C (some dx)) ∧ H2 dx = some (exd dx fs) ∧ fs.length ≤ 900 ∧ D.nx σ (upd H2 dx (exd dx ((f, y) :: fs))))
theorem ps_ostB {X : Cx} {o e : Expr} {to te : TE} {f : Str} {p' pos : Pos} (ho : PE X o to) (he : PE X e te) (hs : swapsWith e (some (.Attribute o f p')) pos.line X.env = pure false := by rfl) : PS X (.Assign [.Attribute o f p'] e pos) (tOstB X.K f to te) := by
  constructor
  intro pins s σ H D I h
  refine plainObj_wpAny_Assign_Attribute (thn (he.run pins s σ H _ I h) fun v s1 ⟨y, H1, I1, r1, q1⟩ => thn (ho.run pins s1 σ H1 _ I1 q1) fun u s2 ⟨x, H2, I2, r2, a, C, rs, newId, tl, ex, T, hno, q⟩ => ?_) hs
  subst ex
  have r2 : u = Value.ref a := r2
  subst r2
  rcases q with ⟨ea, q⟩ | ⟨dx, fs, ea, ed, hl, q⟩
  · exact ost_newB T I2 ea hno r1 fun dx s' n ne J => ⟨σ, _, J, q dx n ne⟩
  · exact ost_oldB T I2 ea ed hl hno r1 fun s' J => ⟨σ, _, J, q⟩

/-! ### an __init__ of one or two fields -/
section
variable {P : Program} {w : World} {K : PySem.W.Frag} {mg : Str → Option Value} {base : Heap} {C : Addr} {f : Addr} {fd : FuncData} {qual : Str} {st : Stmt} {rs : List Addr} {newId : String} {tl : List Value}
theorem ok_ex1B {fl x : Str} {p1 p2 p3 p4 : Pos} (F : Fun K "__init__" qual st f fd) (S : FnScope ["self", x] ["self", x] (defScope st)) (hb : defBody st = [.Assign [.Attribute (.Name "self" p1) fl p2] (.Name x p3) p4])
    (v1 : (defScope st).names.lookup ("self" : Str) = some NameKind.local) (v2 : (defScope st).names.lookup x = some NameKind.local) (hx : (x == ("__debug__" : Str)) = false) (hx2 : (x == ("__classdict__" : Str)) = false) (T : OexB K C rs newId tl) (hno : PySem.W.findIn K (.ref C) fl = some none) :
    FnOk P w K mg base CX0 1 f fd ["self", x] (spExI K C fun ds Φ => ∃ d, ds = [d] ∧ Φ [fl] [d]) := by
  refine F.ok S (fun vs H Q E ⟨M, self, ws, ds, Φ, e, _, xx, ⟨d, ed, _⟩, _⟩ => by rw [e, List.length_cons, xx.len, ed]; rfl) fun cdv A outer s H vs Q E hr h => ?_
  rw [hb]
  refine ⟨_, pss_one (ps_ostB (pv 0 (hv := .inl v1)) (pv 1 (hv := .inl v2) (hd := hx) (hcd := hx2))), ?_⟩
  obtain ⟨M, self, ws, ds, Φ, rfl, hs, xx, ⟨d, rfl, q⟩, fin⟩ := h
  obtain ⟨y, rfl, xy⟩ := one_v xx
  refine ⟨y, rfl, .ref self, rfl, self, C, rs, newId, tl, rfl, T, hno, .inl ⟨hs, fun dx ndx ne => ?_⟩⟩
  have keep : ∀ a o, H a = some o → a ≠ self → (upd (upd H dx (exd dx [(fl, y)])) self (exo self C (some dx))) a = some o := fun a o e n => by
    rw [upd_ne n, upd_ne (ne_of_none e ndx)]; exact e
  refine fin _ dx [fl] [y] [d] ndx keep upd_same (by rw [upd_ne ne, upd_same]; rfl) rfl ((DXs.one xy).mono fun b u z => ?_) q
  obtain ⟨c, e⟩ := cut_of z
  have b1 : b ≠ self := fun n => c (.inr (.inl (by rw [n]; exact List.mem_cons_self)))
  refine cut_at (fun t => ?_) (keep b u e b1)
  rcases t with t | t | t
  · exact c (.inl t)
  · rcases List.mem_cons.mp t with t | t
    · rw [t, ndx] at e; cases e
    · exact c (.inr (.inl t))
  · exact c (.inr (.inr t))
theorem ok_ex2B {fl gl x y : Str} {p1 p2 p3 p4 r1 r2 r3 r4 : Pos} (F : Fun K "__init__" qual st f fd) (S : FnScope ["self", x, y] ["self", x, y] (defScope st))
    (hb : defBody st = [.Assign [.Attribute (.Name "self" p1) fl p2] (.Name x p3) p4, .Assign [.Attribute (.Name "self" r1) gl r2] (.Name y r3) r4])
    (v1 : (defScope st).names.lookup ("self" : Str) = some NameKind.local) (v2 : (defScope st).names.lookup x = some NameKind.local) (v3 : (defScope st).names.lookup y = some NameKind.local) (hx : (x == ("__debug__" : Str)) = false) (hx2 : (x == ("__classdict__" : Str)) = false)
    (hy : (y == ("__debug__" : Str)) = false) (hy2 : (y == ("__classdict__" : Str)) = false) (T : OexB K C rs newId tl) (hno : PySem.W.findIn K (.ref C) fl = some none) (hno2 : PySem.W.findIn K (.ref C) gl = some none) :
    FnOk P w K mg base CX0 1 f fd ["self", x, y] (spExI K C fun ds Φ => ∃ d e, ds = [d, e] ∧ Φ [gl, fl] [e, d]) := by
  refine F.ok S (fun vs H Q E ⟨M, self, ws, ds, Φ, e, _, xx, ⟨d, d2, ed, _⟩, _⟩ => by rw [e, List.length_cons, xx.len, ed]; rfl) fun cdv A outer s H vs Q E hr h => ?_
  rw [hb]
  refine ⟨_, pss_cons (ps_ostB (pv 0 (hv := .inl v1)) (pv 1 (hv := .inl v2) (hd := hx) (hcd := hx2))) (pss_one (ps_ostB (pv 0 (hv := .inl v1)) (pv 2 (hv := .inl v3) (hd := hy) (hcd := hy2)))), ?_⟩
  obtain ⟨M, self, ws, ds, Φ, rfl, hs, xx, ⟨d, d2, rfl, q⟩, fin⟩ := h
  obtain ⟨u, u2, rfl, xu, xu2⟩ := two_v xx
  refine ⟨u, rfl, .ref self, rfl, self, C, rs, newId, tl, rfl, T, hno, .inl ⟨hs, fun dx ndx ne => ?_⟩⟩
  have at_dx : (upd (upd H dx (exd dx [(fl, u)])) self (exo self C (some dx))) dx = some (exd dx [(fl, u)]) := by rw [upd_ne ne, upd_same]
  refine ⟨u2, rfl, .ref self, rfl, self, C, rs, newId, tl, rfl, T, hno2, .inr ⟨dx, [(fl, u)], upd_same, at_dx, by show 1 ≤ 900; decide, ?_⟩⟩
  have keep : ∀ a o, H a = some o → a ≠ self → (upd (upd (upd H dx (exd dx [(fl, u)])) self (exo self C (some dx))) dx (exd dx [(gl, u2), (fl, u)])) a = some o := fun a o e n => by
    rw [upd_ne (ne_of_none e ndx), upd_ne n, upd_ne (ne_of_none e ndx)]; exact e
  refine fin _ dx [gl, fl] [u2, u] [d2, d] ndx keep (by rw [upd_ne (Ne.symm ne), upd_same]) (by rw [upd_same]; rfl) rfl ((DXs.cons xu2 (.one xu)).mono fun b z e' => ?_) q
  obtain ⟨c, e⟩ := cut_of e'
  have b1 : b ≠ self := fun n => c (.inr (.inl (by rw [n]; exact List.mem_cons_self)))
  refine cut_at (fun t => ?_) (keep b z e b1)
  rcases t with t | t | t
  · exact c (.inl t)
  · rcases List.mem_cons.mp t with t | t
    · rw [t, ndx] at e; cases e
    · exact c (.inr (.inl t))
  · exact c (.inr (.inr t))
end

/-! ### the class called -/
section
variable {X : Cx} {e : Expr} {es : List Expr} {p pos : Pos} {ta : TA}
/-- the object of an error that is being made, and its args, laid behind all that stands -/
theorem oexB_laid {pins : List (Addr × Obj)} {hp : Heap} {g : Array GenState} {d : Drawn} {t : Nat} {os : OsState} {σ : L2.St} {H : Hp} {C : Addr} (I : Inv X pins σ H ⟨hp, g, d, t, os⟩) (us : List Value) :
    Inv X pins σ (upd H (hp.objs.size + 1) (exo (hp.objs.size + 1) C none)) ⟨(hp.push (PySem.W.kdv_tup us)).push (PySem.HandSPX.excO C hp.objs.size), g, d, t, os⟩ :=
  Inv.laid (t' := t) I (fun _ _ z => Heap.get?_push_of_some _ (Heap.get?_push_of_some _ z)) (Nat.le_succ _) (exo_ok (t1 := hp.objs.size) (by heap_get))
/-- C(e, ..), up to its end -/
theorem makeB {CX : CXT} {x : Str} {C fI : Addr} {k : Nat} {fd : FuncData} {ps : List Str} {sp : Sp} {ds : List Value} {dvs : List V} {rs : List Addr} {newId : String} {tl : List Value} (T : OexB X.K C rs newId tl) (iC : PySem.W.findIn X.K (.ref C) "__init__" = some (some (.ref fI)))
    (tI : PySem.W.typeIn X.K (.ref fI) = some (.type "function")) (F1 : FnOk X.prog X.w X.K X.mg X.base CX k fI fd ps sp) (hr : Room (k + 1) X.A) (hb : Binds X.K fd ps ds) (hd : Vals dvs ds) (hx : Passes CX X (fun _ _ _ => False)) (hg : Gl X x) (hm : X.mg x = some (.ref C)) (ha : PA X (e :: es) ta)
    {pins : List (Addr × Obj)} {s : Shared} {σ : L2.St} {H : Hp} (I : Inv X pins σ H s) {R : Addr → Addr → List (Str × V) → Hp → Hp → Prop} {Z : Value → Shared → Prop}
    (h : ta σ H fun vs H1 => vs.length ≤ 1000 ∧ ∀ a, H1 a = none → sp (.ref a :: (vs ++ dvs)) (upd H1 a (exo a C none)) (fun v H2 => v = .non ∧ ∃ (d : Addr) (fs : List (Str × V)), H2 a = some (exo a C (some d)) ∧ H2 d = some (exd d fs) ∧ H1 d = none ∧ R a d fs H1 H2) (fun _ _ _ => False))
    (fin : ∀ (a d : Addr) (fs : List (Str × V)) (H1 H2 : Hp) (hp hp2 h2 : Heap) (g1 g2 : Array GenState) (d1 d2 : Drawn) (t1 t2 : Nat) (os1 os2 : OsState), Inv X pins σ H1 ⟨hp, g1, d1, t1, os1⟩ → hp.objs.size ≤ a → (∀ b o, hp.get? b = some o → hp2.get? b = some o) →
      Un (frs X.stack) [] (upd H1 a (exo a C none)) H2 hp2 h2 → HOk X.prog X.w H2 h2 → os2 = os1 → AllBare g2 → H2 a = some (exo a C (some d)) → H2 d = some (exd d fs) → H1 d = none → R a d fs H1 H2 → Z (.ref a) ⟨h2, g2, d2, t2, os2⟩)
    (hdb : (x == ("__debug__" : Str)) = false := by decide) (he : starEach (e :: es) X.env = (false, eval e X.env) :: starEach es X.env := by rfl) (hpl : (backTo pos (starEach es X.env)).any (·.1) = false := by rfl) :
    wpAny (model X.prog X.w) X.A (eval (.Call (.Name x p) (e :: es) [] pos) X.env) Z X.xe s := by
  refine wpAny_Call_Name_kw (ld_glob I hg hm ?_ hdb)
  refine PySem.W.callWith_K I.ok.mod.kin T.kC (wpAny_mono (ha.run pos pins s σ H _ I h) (fun us s1 z => ?_) fun _ _ z => z) he hpl
  obtain ⟨vs, H1, J, r, hz, q⟩ := z
  refine ⟨J.kIn, ?_⟩
  obtain ⟨hp, g, dr, tk, os⟩ := s1
  have q := q _ (J.hok.fresh (Nat.le_succ hp.objs.size))
  obtain ⟨BB, initId, FB⟩ := T.eb.base
  obtain ⟨nm, qn, N, bs, sn, sub, ab, col, dd, k0, k1, k2, k3, k5, hC⟩ := T.cls
  have vals := Paired.cons (F := RelV) (show RelV (V.ref (hp.objs.size + 1)) (.ref (hp.objs.size + 1)) from rfl) (Vals.append r hd)
  have born := oexB_laid (C := C) J us
  refine wpAny_call (PySem.HandSPX.call_own FB (over_has · rs) (J.kIn _ _ hC) (PySem.W.looks_findIn J.kIn iC) (PySem.W.bind_fn J.kIn · tI) (by have := Paired.length r; rw [List.nil_append, sizeLine_eq]; omega) (codeAny_mono (F1.run _ _ _ _ _ _ _ _ _ (hr.make C us []) (born.env0.make C us []) (hb _ _ born.kIn ?_) vals q) ?_))
  · exact (Paired.length vals).symm.trans (F1.len _ _ _ _ q)
  rintro (er | fl) s2 back
  · exact hx _ _ _ _ er s2 born back
  · obtain ⟨h2, g2, d2, t2, o2⟩ := s2
    cases fl with
    | ret v =>
      obtain ⟨_, H2, b1, b2, b3, b4, rv, rfl, dx, fs, ea, ed, hn, last⟩ := back
      exact ⟨rv, fin _ dx fs H1 H2 hp _ h2 g g2 dr d2 tk t2 os o2 J (Nat.le_succ _) (fun b o z => Heap.get?_push_of_some _ (Heap.get?_push_of_some _ z)) b3 b4 b1 b2 ea ed hn last⟩
    | _ => exact back.elim
theorem pmk_oexB {CX : CXT} {x : Str} {C fI : Addr} {k : Nat} {fd : FuncData} {ps : List Str} {sp : Sp} {ds : List Value} {dvs : List V} {rs : List Addr} {newId : String} {tl : List Value} (T : OexB X.K C rs newId tl) (iC : PySem.W.findIn X.K (.ref C) "__init__" = some (some (.ref fI)))
    (tI : PySem.W.typeIn X.K (.ref fI) = some (.type "function")) (F1 : FnOk X.prog X.w X.K X.mg X.base CX k fI fd ps sp) (hr : Room (k + 1) X.A) (hb : Binds X.K fd ps ds) (hd : Vals dvs ds) (hx : Passes CX X (fun _ _ _ => False)) (hg : Gl X x) (hm : X.mg x = some (.ref C)) (ha : PA X (e :: es) ta)
    (hdb : (x == ("__debug__" : Str)) = false := by decide) (he : starEach (e :: es) X.env = (false, eval e X.env) :: starEach es X.env := by rfl) (hpl : (backTo pos (starEach es X.env)).any (·.1) = false := by rfl) :
    PMk X (.Call (.Name x p) (e :: es) [] pos) (tMkO C sp dvs ta) := by
  intro pins s σ H Q I h
  exact makeB (R := fun a d fs H1 H2 => Q (.ref C) (some d) (upd (del H2 a) d (.xd fs))) T iC tI F1 hr hb hd hx hg hm ha I h (fun a d fs H1 H2 hp hp2 h2 g1 g2 d1 d2 t1 t2 os1 os2 I1 ha k un hok ho hb ea ed hd1 q =>
    mk_end (raises_own T.exC T.tyC) I1 ha k un hok ho hb ea ed hd1 q) hdb he hpl
/-- such an error as a value: it stays known -/
def tMkV (C : Addr) (sp : Sp) (dvs : List V) (ta : TA) : TE := fun σ H Q => ta σ H fun vs H1 => vs.length ≤ 1000 ∧ ∀ a, H1 a = none → sp (.ref a :: (vs ++ dvs)) (upd H1 a (exo a C none))
  (fun v H2 => v = .non ∧ ∃ (d : Addr) (fs : List (Str × V)), H2 a = some (exo a C (some d)) ∧ H2 d = some (exd d fs) ∧ H1 d = none ∧ Q (.ref a) (upd (upd H2 a (exh a (.ref C) (some d))) d (.xd fs))) (fun _ _ _ => False)
theorem pe_mkB {CX : CXT} {x : Str} {C fI : Addr} {k : Nat} {fd : FuncData} {ps : List Str} {sp : Sp} {ds : List Value} {dvs : List V} {rs : List Addr} {newId : String} {tl : List Value} (T : OexB X.K C rs newId tl) (iC : PySem.W.findIn X.K (.ref C) "__init__" = some (some (.ref fI)))
    (tI : PySem.W.typeIn X.K (.ref fI) = some (.type "function")) (F1 : FnOk X.prog X.w X.K X.mg X.base CX k fI fd ps sp) (hr : Room (k + 1) X.A) (hb : Binds X.K fd ps ds) (hd : Vals dvs ds) (hx : Passes CX X (fun _ _ _ => False)) (hg : Gl X x) (hm : X.mg x = some (.ref C)) (ha : PA X (e :: es) ta)
    (hdb : (x == ("__debug__" : Str)) = false := by decide) (he : starEach (e :: es) X.env = (false, eval e X.env) :: starEach es X.env := by rfl) (hpl : (backTo pos (starEach es X.env)).any (·.1) = false := by rfl) :
    PE X (.Call (.Name x p) (e :: es) [] pos) (tMkV C sp dvs ta) := by
  constructor
  intro pins s σ H Q I h
  refine makeB (R := fun a d fs H1 H2 => Q (.ref a) (upd (upd H2 a (exh a (.ref C) (some d))) d (.xd fs))) T iC tI F1 hr hb hd hx hg hm ha I h (fun a d fs H1 H2 hp hp2 h2 g1 g2 d1 d2 t1 t2 os1 os2 I1 ha k un hok ho hb ea ed hd1 q => ?_) hdb he hpl
  obtain ⟨t0, G, J, kG, ge, hoe, na⟩ := mk_end0 (d2 := d2) (t2 := t2) I1 ha k un hok ho hb ea ed hd1
  have hda : d ≠ a := fun z => by rw [z, upd_same] at na; cases na
  have back : upd (upd (del H2 a) d (.xd fs)) a (exh a (.ref C) (some d)) = upd (upd H2 a (exh a (.ref C) (some d))) d (.xd fs) := funext fun b => by
    by_cases e : b = a
    · subst e; rw [upd_same, upd_ne (Ne.symm hda), upd_same]
    · rw [upd_ne e]
      by_cases e2 : b = d
      · subst e2; rw [upd_same, upd_same]
      · rw [upd_ne e2, upd_ne e2, del_ne e, upd_ne e]
  have J2 := J.laidN (t' := t2) (h' := h2) (a := a) (o := exh a (.ref C) (some d)) kG ge na (exh_ok hoe ⟨rfl, rfl⟩ rfl)
  rw [back] at J2
  exact ⟨.ref a, _, J2, rfl, q⟩
end

/-! ### over data -/
section
variable {K : PySem.W.Frag} {pf : Bool} {ρ : List Sl} {ta : TA} {C : Addr} {Φ : Dt → List Sl → Prop}
theorem w_mkV {W : List Dt → (List Str → List Dt → Prop) → Prop} (h : Wa K pf ta ρ fun ds ρ1 => ds.length ≤ 900 ∧ W ds fun ns es => ∀ a, Φ (.exc C a ns es) ρ1) : Wp K pf (tMkV C (spExI K C W) [] ta) ρ Φ := fun M σ H S Q q =>
  h M σ H S _ fun vs H1 ds ρ1 s1 S1 x1 ⟨hl, w⟩ => by
    refine ⟨by rw [x1.len]; omega, fun a na => ?_⟩
    have sc1 : Same (cut M H1) (cut (M.slf a) (upd H1 a (exo a C none))) := fun b u z => by
      obtain ⟨c, y⟩ := cut_of z
      refine cut_at (fun t => ?_) (by rw [upd_ne (ne_of_none y na)]; exact y)
      rcases t with t | t | t
      · exact c (.inl t)
      · rcases List.mem_cons.mp t with t | t
        · rw [t, na] at y; cases y
        · exact c (.inr (.inl t))
      · exact c (.inr (.inr t))
    refine ⟨M, a, vs, ds, _, by rw [List.append_nil], upd_same, x1.mono sc1, w, fun H2 dd ns us es hd kp e1 e2 e3 xs z => ⟨rfl, dd, _, e1, e2, ?_, ?_⟩⟩
    · have nd : dd ≠ a := fun n => by rw [n, upd_same] at hd; cases hd
      rw [upd_ne nd] at hd; exact hd
    · have nd : dd ≠ a := fun n => by rw [n, upd_same] at hd; cases hd
      have hd1 : H1 dd = none := by rw [upd_ne nd] at hd; exact hd
      have all : Same H1 (upd (upd H2 a (exh a (.ref C) (some dd))) dd (.xd (ns.zip us))) := fun b o e => by
        have ba := ne_of_none e na
        rw [upd_ne (ne_of_none e hd1), upd_ne ba]
        exact kp b o (by rw [upd_ne ba]; exact e) ba
      have nh : ¬ M.has dd := S1.mok.new hd1
      have ma : ¬ M.has a := S1.mok.new na
      refine q (.ref a) _ (.exc C a ns es) ρ1 (s1.trans (Tr.same pf M all)) (S1.same all) (.exc (cut_at ma (by rw [upd_ne (Ne.symm nd), upd_same])) (cut_at nh upd_same) e3 (xs.mono fun b u z' => ?_)) (z a)
      obtain ⟨c, y⟩ := cut_of z'
      have b1 : b ≠ dd := fun n => c (.inr (.inl (by rw [n]; exact List.mem_cons_self)))
      have b2 : b ≠ a := fun n => c (.inr (.inl (by rw [n]; exact List.mem_cons_of_mem _ List.mem_cons_self)))
      exact cut_at (fun t => c (has_aside b (has_aside b t))) (by rw [upd_ne b1, upd_ne b2]; exact y)
end
end DL

set_option maxHeartbeats 2000000
/-! Data level: own lists by displays and sums, stores side by side, errors caught and kept in own lists, errors without fields. -/
namespace DL
open PySem PySem.Spec PyProof.Rows L2
variable [Tb]

/-! ### an expression that makes a new list -/
def WpL (K : PySem.W.Frag) (f : Bool) (te : TE) (ρ : List Sl) (Ψ : List Dt → List Sl → Prop) : Prop :=
  ∀ (M : Md) (σ : L2.St) (H : Hp), Sd K M H σ ρ → ∀ Q : VK, (∀ q vs H2 ds ρ', Tr f M H H2 → Sd K M H2 σ ρ' → H2 q = none → DXs K (cut M H2) vs ds → Ψ ds ρ' → Q (.ref q) (upd H2 q (.lst vs))) → te σ H Q
section
variable {K : PySem.W.Frag} {pf : Bool} {ρ : List Sl} {te tb : TE} {ta : TA} {Ψ : List Dt → List Sl → Prop} {D : DE} {i j l : Nat}
theorem wl_lst (h : Wa K pf ta ρ fun ds ρ1 => ds.length ≤ 100000 ∧ Ψ ds ρ1) : WpL K pf (tLst ta) ρ Ψ := fun M σ H S Q q =>
  h M σ H S _ fun vs H1 ds ρ1 s1 S1 x1 ⟨hl, f⟩ => ⟨by rw [x1.len]; exact Nat.le_trans hl (by decide), fun p hp => q p vs H1 ds ρ1 s1 S1 hp x1 f⟩
theorem wl_cat (h : Wp K pf te ρ fun d1 ρ1 => Wp K pf tb ρ1 fun d2 ρ2 => ∃ xs ys, d1 = .lst xs ∧ d2 = .lst ys ∧ xs.length + ys.length ≤ 100000 ∧ Ψ (xs ++ ys) ρ2) : WpL K pf (tOp (rCatL K) te tb) ρ Ψ := fun M σ H S Q q =>
  h M σ H S _ fun v1 H1 d1 ρ1 s1 S1 x1 k1 => k1 M σ H1 S1 _ fun v2 H2 d2 ρ2 s2 S2 x2 ⟨xs, ys, e1, e2, hz, f⟩ => by
    subst e1 e2
    have x1' := x1.mono s2.dx
    cases x1' with
    | lst hs ha =>
      cases x2 with
      | lst ht hb =>
        exact ⟨_, _, _, _, rfl, rfl, (cut_sub M H2).seq hs, (cut_sub M H2).seq ht, by rw [ha.len, hb.len]; exact Nat.le_trans hz (by decide), fun p hp => q p _ H2 _ ρ2 (s1.trans s2) S2 hp (ha.append hb) f⟩
theorem ws_own (h : WpL K pf te ρ fun ds ρ' => i < ρ'.length ∧ D.nx (ρ'.set i (.own ds))) : Ws K (tAsg te (gName i)) ρ D := fun M σ H S E k =>
  h M σ H S _ fun q vs H2 ds ρ' s S2 hq x ⟨hi, z⟩ => by
    refine k.nx _ _ _ _ (s.st.trans (Stp.own hq (same_new hq))) ((S2.same (same_new hq)).own hi (S2.mok.new hq) upd_same (x.mono fun b u y => ?_) (S2.aside hq (same_new hq) upd_same)) z
    obtain ⟨c, y⟩ := cut_of y
    refine cut_at (fun t => ?_) (by rw [upd_ne (ne_of_none y hq)]; exact y)
    rcases t with t | t | t
    · exact c (.inl t)
    · rcases List.mem_cons.mp t with t | t
      · exact ne_of_none y hq t
      · exact c (.inr (.inl t))
    · exact c (.inr (.inr t))

/-! ### a, b = x, y -/
theorem ws_par (h : Wa K pf ta ρ fun ds ρ' => ∃ d e, ds = [d, e] ∧ D.nx ((ρ'.set i (.dat d)).set j (.dat e))) : Ws K (tPar i j ta) ρ D := fun M σ H S E k =>
  h M σ H S _ fun vs H1 ds ρ1 s1 S1 x1 ⟨d, e, ed, z⟩ => by
    subst ed
    obtain ⟨v, w, rfl, xv, xw⟩ := two_v x1
    exact ⟨v, w, rfl, k.nx M _ H1 _ s1.st ((S1.put xv i).put xw j) z⟩
theorem three_v {H : Hp} {vs : List V} {d e g : Dt} (h : DXs K H vs [d, e, g]) : ∃ v w u, vs = [v, w, u] ∧ DX K H v d ∧ DX K H w e ∧ DX K H u g := by
  cases h with
  | cons h1 h2 =>
    obtain ⟨w, u, rfl, h3, h4⟩ := two_v h2
    exact ⟨_, w, u, rfl, h1, h3, h4⟩
theorem ws_par3 (h : Wa K pf ta ρ fun ds ρ' => ∃ d e g, ds = [d, e, g] ∧ D.nx (((ρ'.set i (.dat d)).set j (.dat e)).set l (.dat g))) : Ws K (tPar3 i j l ta) ρ D := fun M σ H S E k =>
  h M σ H S _ fun vs H1 ds ρ1 s1 S1 x1 ⟨d, e, g, ed, z⟩ => by
    subst ed
    obtain ⟨v, w, u, rfl, xv, xw, xu⟩ := three_v x1
    exact ⟨v, w, u, rfl, k.nx M _ H1 _ s1.st (((S1.put xv i).put xw j).put xu l) z⟩
end

/-! ### an error caught: it stays known, in slots and in own lists -/
def keptD (a C : Addr) (ns : List Str) (es : List Dt) : Dt → Dt
  | .cls b => if b = a then .exc C a ns es else .cls b
  | d => d
def keptO (a C : Addr) (ns : List Str) (es : List Dt) (ρ : List Sl) : List Sl := ρ.map fun s => match s with
  | .dat d => .dat (keptD a C ns es d)
  | .own ds => .own (ds.map (keptD a C ns es))
  | s => s
section
variable {K : PySem.W.Frag} {ρ : List Sl} {tr : TA} {D : DE} {i : Nat} {ts : Addr → Value → Option Addr → TS} {c : Value} {Wout : WX} {pf : Bool}
theorem keptD_dx {H : Hp} {a C dd : Addr} {ns : List Str} {us : List V} {es : List Dt} (h1 : H a = some (exh a (.ref C) (some dd))) (h2 : H dd = some (.xd (ns.zip us))) (hl : ns.length = us.length) (xs : DXs K H us es) : ∀ {d : Dt} {v : V}, DX K H v d → DX K H v (keptD a C ns es d)
  | .cls b, v, x => by
    show DX K H v (if b = a then .exc C a ns es else .cls b)
    by_cases e : b = a
    · subst e
      rw [if_pos rfl]
      cases x
      exact .exc h1 h2 hl xs
    · rw [if_neg e]; exact x
  | .non, _, x | .bl _, _, x | .int _, _, x | .str _, _, x | .lst _, _, x | .tup _, _, x | .dct _ _, _, x | .ty _, _, x | .ins _ _ _ _, _, x | .exc _ _ _ _, _, x => x
theorem keptD_dxs {H : Hp} {a C dd : Addr} {ns : List Str} {us : List V} {es : List Dt} (h1 : H a = some (exh a (.ref C) (some dd))) (h2 : H dd = some (.xd (ns.zip us))) (hl : ns.length = us.length) (xs : DXs K H us es) : ∀ {ds : List Dt} {vs : List V}, DXs K H vs ds → DXs K H vs (ds.map (keptD a C ns es))
  | [], _, x => by cases x; exact .nil
  | d :: ds, _, x => by
    cases x with
    | cons x1 x2 => exact .cons (keptD_dx h1 h2 hl xs x1) (keptD_dxs h1 h2 hl xs x2)
theorem Sd.keptO {M : Md} {H : Hp} {σ : L2.St} {a C dd : Addr} {ns : List Str} {us : List V} {es : List Dt} (S : Sd K M H σ ρ) (na : H a = none) (hd : H dd = some (.xd (ns.zip us))) (hl : ns.length = us.length) (nd : ¬ M.has dd) (xs : DXs K (cut M H) us es) :
    Sd K M (upd H a (exh a (.ref C) (some dd))) σ (DL.keptO a C ns es ρ) := by
  have sm : Same H (upd H a (exh a (.ref C) (some dd))) := same_new na
  have S1 := S.same sm
  have ma : ¬ M.has a := S.mok.new na
  have c1 : cut M (upd H a (exh a (.ref C) (some dd))) a = some (exh a (.ref C) (some dd)) := cut_at ma upd_same
  have c2 : cut M (upd H a (exh a (.ref C) (some dd))) dd = some (.xd (ns.zip us)) := cut_at nd (by rw [upd_ne (ne_of_none hd na)]; exact hd)
  have xs' := xs.mono (cut_same M sm)
  refine ⟨by unfold DL.keptO; rw [List.length_map]; exact S.len, by unfold DL.keptO; rw [List.length_map]; exact S.olen, S1.mok, fun j s h => ?_⟩
  unfold DL.keptO at h
  rw [List.getElem?_map] at h
  cases e : ρ[j]? with
  | none => rw [e] at h; cases h
  | some s0 =>
    rw [e] at h
    obtain ⟨o, h1, h2⟩ := S1.ok j s0 e
    refine ⟨o, h1, ?_⟩
    have h := Option.some.inj h
    cases s0 with
    | dat d =>
      subst h
      obtain ⟨v, g1, g2⟩ := h2
      exact ⟨v, g1, keptD_dx c1 c2 hl xs' g2⟩
    | own ds =>
      subst h
      obtain ⟨q, vs, g1, g2, g3, g4⟩ := h2
      exact ⟨q, vs, g1, g2, g3, keptD_dxs c1 c2 hl xs' g4⟩
    | _ => subst h; exact h2
/-- the clause's suite, from where the error has come -/
theorem keep_run {M : Md} {H2 : Hp} {σ : L2.St} {ρ1 : List Sl} {E : Ends} {C dd : Addr} {ns : List Str} {us : List V} {es : List Dt} (k : EOk K M H2 E D) (S : Sd K M H2 σ ρ1) (hd : H2 dd = some (.xd (ns.zip us))) (hl : ns.length = us.length) (nd : ¬ M.has dd) (xs : DXs K (cut M H2) us es)
    (hm : PySem.W.exmOne K (.ref C) c = some true) (hsu : ∀ a dd, Ws K (ts a (.ref C) (some dd)) (ρ1.set i (.dat (.cls a))) { nx := fun ρ2 => D.nx (DL.keptO a C ns es (ρ2.set i .any)), rt := fun _ _ => False }) : wKeep K c i ts Wout E (.ref C) (some dd) σ H2 := by
  refine ⟨true, hm, fun _ a na => ?_, fun z => nomatch z⟩
  have S2 : Sd K M H2 (σ.set i (some (.ref a))) (ρ1.set i (.dat (.cls a))) := S.put (.cls a) i
  refine hsu a dd M _ H2 S2 (keepE a (.ref C) (some dd) i E) ⟨fun M' σ' H' ρ' s S' z na' => ?_, fun _ _ _ _ _ _ _ _ _ z => z.elim, fun _ _ _ _ _ _ z => z.elim, fun _ _ _ _ _ _ z => z.elim, fun _ _ _ _ _ _ _ _ _ _ _ _ z => z.elim⟩
  have hc2 : cut M H2 dd = some (.xd (ns.zip us)) := cut_at nd hd
  obtain ⟨nd3, hd3⟩ := cut_of (s.dx dd _ hc2)
  have S3 : Sd K M' H' (σ'.set i none) (ρ'.set i .any) := by
    refine ⟨by rw [List.length_set, List.length_set]; exact S'.len, by rw [List.length_set]; exact S'.olen, S'.mok, fun j s0 e0 => ?_⟩
    by_cases cj : i = j
    · subst cj
      by_cases hi : i < ρ'.length
      · rw [List.getElem?_set_self hi] at e0
        have e0 := Option.some.inj e0
        subst e0
        exact ⟨none, by rw [List.getElem?_set_self (by rw [S'.len]; exact hi)], trivial⟩
      · rw [List.getElem?_eq_none (by rw [List.length_set]; omega)] at e0; cases e0
    · rw [List.getElem?_set_ne cj] at e0 ⊢
      exact S'.ok j s0 e0
  exact k.nx M' _ _ _ (s.trans (Stp.same M' (same_new na'))) (S3.keptO (a := a) (C := C) na' hd3 hl nd3 (xs.mono s.dx)) z
/-- try: raise C(..) except X as e: suite -/
theorem ws_tryRaise {C : Addr} {W : List Dt → (List Str → List Dt → Prop) → Prop} (h : Wa K pf tr ρ fun ds ρ1 => ds.length ≤ 900 ∧ W ds fun ns es => PySem.W.exmOne K (.ref C) c = some true ∧
      ∀ a dd, Ws K (ts a (.ref C) (some dd)) (ρ1.set i (.dat (.cls a))) { nx := fun ρ2 => D.nx (DL.keptO a C ns es (ρ2.set i .any)), rt := fun _ _ => False }) :
    Ws K (fun E σ H => tMkO C (spExI K C W) [] tr σ H fun cls d H' => wKeep K c i ts Wout E cls d σ H') ρ D := fun M σ H S E k =>
  h M σ H S _ fun vs H1 ds ρ1 s1 S1 x1 ⟨hl, w⟩ => by
    refine ⟨by rw [x1.len]; omega, fun a na => ?_⟩
    have sc1 : Same (cut M H1) (cut (M.slf a) (upd H1 a (exo a C none))) := fun b u z => by
      obtain ⟨c, y⟩ := cut_of z
      refine cut_at (fun t => ?_) (by rw [upd_ne (ne_of_none y na)]; exact y)
      rcases t with t | t | t
      · exact c (.inl t)
      · rcases List.mem_cons.mp t with t | t
        · rw [t, na] at y; cases y
        · exact c (.inr (.inl t))
      · exact c (.inr (.inr t))
    refine ⟨M, a, vs, ds, _, by rw [List.append_nil], upd_same, x1.mono sc1, w, fun H2 dd ns us es hd kp e1 e2 e3 xs z => ⟨rfl, dd, _, e1, e2, ?_, ?_⟩⟩
    · have nd : dd ≠ a := fun n => by rw [n, upd_same] at hd; cases hd
      rw [upd_ne nd] at hd; exact hd
    · have nd : dd ≠ a := fun n => by rw [n, upd_same] at hd; cases hd
      have hd1 : H1 dd = none := by rw [upd_ne nd] at hd; exact hd
      have all : Same H1 (upd (del H2 a) dd (.xd (ns.zip us))) := fun b o e => by
        have ba := ne_of_none e na
        rw [upd_ne (ne_of_none e hd1), del_ne ba]
        exact kp b o (by rw [upd_ne ba]; exact e) ba
      have nh : ¬ M.has dd := S1.mok.new hd1
      refine keep_run (k.step (s1.st.trans (Stp.same M all))) (S1.same all) upd_same e3 nh (xs.mono fun b u z' => ?_) z.1 z.2
      obtain ⟨c, y⟩ := cut_of z'
      have b1 : b ≠ dd := fun n => c (.inr (.inl (by rw [n]; exact List.mem_cons_self)))
      have b2 : b ≠ a := fun n => c (.inr (.inl (by rw [n]; exact List.mem_cons_of_mem _ List.mem_cons_self)))
      exact cut_at (fun t => c (has_aside b (has_aside b t))) (by rw [upd_ne b1, del_ne b2]; exact y)
end

/-! ### C() of a class of errors without an own __init__ -/
def tExc0 (C : Addr) : TE := fun _ H Q => ∀ a, H a = none → Q (.ref a) (upd H a (exh a (.ref C) none))
theorem pe_exc0 {X : Cx} {C : Addr} {bmB : List Value} {B newId initId : String} {x : Str} {p pos : Pos} (F : ExcBaseFacts B newId initId bmB) (q : PySem.W.excIn X.K C bmB newId = true) (gC : X.mg x = some (.ref C)) (kC : PySem.W.keepIn X.K (.ref C) = true) (hg : Gl X x)
    (hdb : (x == ("__debug__" : Str)) = false := by decide) : PE X (.Call (.Name x p) [] [] pos) (tExc0 C) := by
  constructor
  intro pins s σ H Q I h
  refine wpAny_Call_Name_kw (ld_glob I hg gC ?_ hdb)
  refine PySem.W.callWith_K0 I.kIn kC ?_
  show wpAny _ _ (call (.ref C) []) _ _ _
  obtain ⟨bm, N, nm, qn, bs, hdct, sn, sub, ab, col, dd, k0, k1, k2, k3, k5, mN, hC, hN, hni, T⟩ := exc_obj I.kIn q
  refine wpAny_call_exc_subT F T hC hN hni (fun h' a hm => ?_) (Nat.zero_le _)
  have hn : H a = none := I.hok.gone hm.new
  obtain ⟨t, ht, _, _⟩ := hm.there
  exact ⟨.ref a, upd H a (exh a (.ref C) none), I.laidN hm.keeps hm.new hn (exh_ok ht ⟨rfl, rfl⟩ rfl), rfl, h a hn⟩
section
variable {K : PySem.W.Frag} {pf : Bool} {ρ : List Sl} {C : Addr} {Φ : Dt → List Sl → Prop} {Ψ : Dt → Prop}
theorem w_exc0 (h : ∀ a, Φ (.exc C a [] []) ρ) : Wp K pf (tExc0 C) ρ Φ := fun M σ H S Q q a na =>
  q _ _ (.exc C a [] []) ρ (Tr.same pf M (same_new na)) (S.same (same_new na)) (.exc0 (cut_at (S.mok.new na) upd_same)) (h a)

/-! ### a list's index of a bool -/
theorem DXs.bls' {H : Hp} {bs : List Bool} : ∀ {vs : List V}, DXs K H vs (bs.map Dt.bl) → vs = bs.map V.bl := fun h => h.bls
def tIdx (K : PySem.W.Frag) (ta : TE) (te : TE) : TE := tBM K "list" (rIndex K) ta (tCons te tNil)
theorem eqV_bl (a b : Bool) : eqV (.bl a) (.bl b) = decide (a = b) := by cases a <;> cases b <;> decide +kernel
theorem w_idx {ta te : TE} {bs : List Bool} {b : Bool} {j : Nat} (h : Wp K pf ta ρ fun d ρ1 => d = .lst (bs.map Dt.bl) ∧ Wp K pf te ρ1 fun e ρ2 => e = .bl b ∧ bs[j]? = some b ∧ (∀ m, m < j → bs[m]? = some (!b)) ∧ Φ (.int j) ρ2) : Wp K pf (tBM K "list" (rIndex K) ta (tCons te tNil)) ρ Φ := fun M σ H S Q q =>
  h M σ H S _ fun v1 H1 d1 ρ1 s1 S1 x1 ⟨e1, k1⟩ => by
    subst e1
    cases x1 with
    | @lst a xs _ hs ha =>
      refine ⟨.inl ⟨rfl, xs, (cut_sub M H1).seq hs⟩, k1 M σ H1 S1 _ fun v2 H2 d2 ρ2 s2 S2 x2 ⟨e2, hj, hm, z⟩ => ?_⟩
      subst e2
      have hs2 := (cut_sub M H2).seq (s2.dx.seq hs)
      rw [ha.bls] at hs2
      rw [x2.bl_eq]
      refine ⟨a, bs.map V.bl, .bl b, j, .bl b, rfl, rfl, hs2, rfl, ?_, by rw [List.getElem?_map, hj]; rfl, by rw [eqV_bl]; simp, fun m z' hmj e => ?_, q _ H2 _ ρ2 (s1.trans s2) S2 (.int _) z⟩
      · rw [List.all_map]; exact List.all_eq_true.mpr fun _ _ => rfl
      · rw [List.getElem?_map, hm m hmj] at e
        have e := Option.some.inj e
        subst e
        rw [eqV_bl]; cases b <;> rfl
end
end DL

namespace K01
open PySem PySem.Spec PyProof.Rows L2 DL
/-- no def of this law makes a lambda -/
instance noTb : DL.Tb := ⟨[]⟩
def topS (i : Nat) : Stmt := PySem.Challenge.pw_duskisles_k01_errors.main.body.getD i (.Pass ⟨0, 0, 0, 0⟩)
/-! ### the classes of the text -/
def bo : Nat → Nat
  | 22 => 3
  | 23 => 2
  | n => if n < 9 then 0 else if n < 16 then 1 else 2
def nidOf : Nat → String
  | 0 => "ValueError.__new__" | 1 => "LookupError.__new__" | 2 => "RuntimeError.__new__" | _ => "OverflowError.__new__"
def tlOf : Nat → List Value
  | 0 => tlV | 1 => tlL | 2 => tlR | _ => tlO
theorem ebOf : ∀ k, ErrB (nidOf k) (tlOf k)
  | 0 => errV | 1 => errL | 2 => errR | _ + 3 => errO
theorem tl_ref (D : Addr) : ∀ k, (tlOf k).contains (.ref D) = false
  | 0 => rfl | 1 => rfl | 2 => rfl | _ + 3 => rfl
theorem tl_base : ∀ k, (tlOf k).contains (.type "BaseException") = true
  | 0 => by decide +kernel | 1 => by decide +kernel | 2 => by decide +kernel | _ + 3 => by show tlO.contains _ = true; decide +kernel
/-- what is looked up of such a class -/
def exq (K : PySem.W.Frag) (C : Addr) (fl : List Str) : Bool :=
  PySem.W.findIn K (.ref C) "__setattr__" == some (some (.builtin "object.__setattr__")) && (PySem.W.findIn K (.ref C) "__getattribute__" == some (some (.builtin "BaseException.__getattribute__")) && (PySem.W.findIn K (.ref C) "__getattr__" == some none
    && (PySem.W.findIn K (.ref C) "__class__" == some (some (.builtin "object.__class__")) && (PySem.W.keepIn K (.ref C) && fl.all fun f => PySem.W.findIn K (.ref C) f == some none))))
def glq (K : PySem.W.Frag) : Bool := PySem.W.specialIn K (.builtin "object.__class__") "__get__" == some (some (.builtin "getset_descriptor.__get__")) && PySem.W.takesIn K (.builtin "object.__class__") == some true
/-- a class of errors as the top has left it -/
inductive CFac (K : PySem.W.Frag) (x : Str) (fl : List Str) (B : Addr) (nid : String) (tl : List Value) (C : Addr) : Prop
  | mk {nm q : Str} {N : Addr} {bs : List Value} {sn : List Str} {sub : List Value} {ab : Bool} {col : Option Bool} {dd : Option Addr} {k0 k1 k2 k3 k5 : Option Value} (a : PySem.W.nsIn K mainGlobals x = some (some (.ref C)))
      (l : K.lookup C = some (excClassObj nm q C N bs (.ref B :: tl) true sn sub ab col dd k0 k1 k2 k3 k5 nid)) (b : exq K C fl = true) : CFac K x fl B nid tl C
inductive IFac (K : PySem.W.Frag) (C : Addr) (qual : Str) (st : Stmt) : Prop
  | mk {f : Addr} {od an : Option Addr} {sl : Array (Option Value)} {kV dc pm cd ct : Value} (i : PySem.W.findIn K (.ref C) "__init__" = some (some (.ref f)))
      (l : K.lookup f = some ⟨.type "function", od, .func (PySem.W.fnOf "__init__" qual (defArgs st) (defBody st) (defScope st) .none kV dc pm an cd ct), sl⟩) (c : PySem.W.codeIn K cd qual = true) : IFac K C qual st
/-- .. and what is known of it -/
structure Er (K : PySem.W.Frag) (mg : Str → Option Value) (x : Str) (fl : List Str) (B : Addr) (nid : String) (tl : List Value) (C : Addr) : Prop where
  g : mg x = some (.ref C)
  T : OexB K C [B] nid tl
  X : XfC K C
  I : IsxC K C
  no : ∀ f ∈ fl, PySem.W.findIn K (.ref C) f = some none
  cl : (PySem.W.clsIn K C).isSome = true
theorem typeIn_ref {K : PySem.W.Frag} {a : Addr} : PySem.W.typeIn K (.ref a) = (K.lookup a).map (·.cls) := rfl
theorem keep_fn {K : PySem.W.Frag} {f : Addr} {oc : Value} {od : Option Addr} {g : FuncData} {sl : Array (Option Value)} (l : K.lookup f = some ⟨oc, od, .func g, sl⟩) : PySem.W.keepIn K (.ref f) = true := by
  unfold PySem.W.keepIn
  simp only [l]
theorem beq_some {α : Type} [BEq α] [LawfulBEq α] {a b : α} (h : (a == b) = true) : a = b := eq_of_beq h
theorem CFac.er {K : PySem.W.Frag} {x : Str} {fl : List Str} {B C : Addr} {k : Nat} {h : Heap} {mg : Str → Option Value} (F : CFac K x fl B (nidOf k) (tlOf k) C) (X : K.In h) (G : h.Ns mainGlobals mg) (gq : glq K = true) : Er K mg x fl B (nidOf k) (tlOf k) C := by
  cases F with
  | @mk nm q N bs sn sub ab col dd k0 k1 k2 k3 k5 a l b =>
    unfold exq at b
    simp only [Bool.and_eq_true] at b
    obtain ⟨b1, b2, b3, b4, b5, b6⟩ := b
    unfold glq at gq
    simp only [Bool.and_eq_true] at gq
    have hl : K.lookup C = some (excClassObj nm q C N bs (over [B] (tlOf k)) true sn sub ab col dd k0 k1 k2 k3 k5 (nidOf k)) := l
    have hcl : PySem.W.clsIn K C = some { name := nm, bases := bs, mro := .ref C :: over [B] (tlOf k), ns := N, qualname := q, hasDict := true, slotNames := sn, subclasses := sub, abstract := ab, collection := col, hasDel := false } := by unfold PySem.W.clsIn; rw [hl] <;> rfl
    have hsub : ∀ v : Value, PySem.W.subIn K (.ref C) v = some ((over (C :: [B]) (tlOf k)).contains v) := fun v => by
      show PySem.W.mroIn K C v = _
      unfold PySem.W.mroIn
      rw [hcl, Option.bind_some]
      rfl
    have hbe : PySem.W.subIn K (.ref C) (.type "BaseException") = some true := by rw [hsub, over_has, tl_base]
    have hty : PySem.W.typeIn K (.ref C) = some (.type "type") := by rw [typeIn_ref, hl]; rfl
    refine ⟨PySem.W.mg_of X G a, ⟨ebOf k, ⟨nm, q, N, bs, sn, sub, ab, col, dd, k0, k1, k2, k3, k5, hl⟩, beq_some b1, hbe, hty, b5⟩, ⟨beq_some b2, beq_some b3, hbe, by unfold PySem.W.hasDictIn; rw [hcl]; rfl⟩, ⟨beq_some b2, beq_some b3, hbe, by unfold PySem.W.hasDictIn; rw [hcl]; rfl, beq_some b4, beq_some gq.1, beq_some gq.2, ?_⟩, fun f hf => beq_some (List.all_eq_true.mp b6 f hf), by rw [hcl]; rfl⟩
    have h2 := hsub (.type "object")
    rw [over_has, (ebOf k).obj] at h2
    exact h2
/-- an __init__ that keeps its promise -/
structure Ini (K : PySem.W.Frag) (C : Addr) (n : Nat) (W : List Dt → (List Str → List Dt → Prop) → Prop) : Prop where
  ex : ∃ (fI : Addr) (fd : FuncData) (ps : List Str), PySem.W.findIn K (.ref C) "__init__" = some (some (.ref fI)) ∧ PySem.W.typeIn K (.ref fI) = some (.type "function") ∧ Binds K fd ps [] ∧ ∀ (P : Program) (w : World) (mg : Str → Option Value) (base : Heap), FnOk P w K mg base CX0 1 fI fd ps (spExI K C W)
def W1 (fl : Str) : List Dt → (List Str → List Dt → Prop) → Prop := fun ds Φ => ∃ d, ds = [d] ∧ Φ [fl] [d]
def W2 (fl gl : Str) : List Dt → (List Str → List Dt → Prop) → Prop := fun ds Φ => ∃ d e, ds = [d, e] ∧ Φ [gl, fl] [e, d]
section
variable {K : PySem.W.Frag} {mg : Str → Option Value} {x : Str} {fl : List Str} {B C : Addr} {nid : String} {tl : List Value} {n : Nat} {W : List Dt → (List Str → List Dt → Prop) → Prop} {X : Cx} {e : Expr} {es : List Expr} {p pos : Pos} {ta : TA}
theorem Er.pe (m : Er K mg x fl B nid tl C) (i : Ini K C n W) (hK : X.K = K) (hm : X.mg = mg) (hr : Room 2 X.A) (hg : Gl X x) (ha : PA X (e :: es) ta) (hdb : (x == ("__debug__" : Str)) = false := by decide)
    (he : starEach (e :: es) X.env = (false, eval e X.env) :: starEach es X.env := by rfl) (hpl : (backTo pos (starEach es X.env)).any (·.1) = false := by rfl) : PE X (.Call (.Name x p) (e :: es) [] pos) (tMkV C (spExI K C W) [] ta) := by
  subst hK hm
  obtain ⟨fI, fd, ps, i1, i2, b, F⟩ := i.ex
  exact pe_mkB m.T i1 i2 (F _ _ _ _) hr b .nil pass0 hg m.g ha hdb he hpl
theorem Er.pmk (m : Er K mg x fl B nid tl C) (i : Ini K C n W) (hK : X.K = K) (hm : X.mg = mg) (hr : Room 2 X.A) (hg : Gl X x) (ha : PA X (e :: es) ta) (hdb : (x == ("__debug__" : Str)) = false := by decide)
    (he : starEach (e :: es) X.env = (false, eval e X.env) :: starEach es X.env := by rfl) (hpl : (backTo pos (starEach es X.env)).any (·.1) = false := by rfl) : PMk X (.Call (.Name x p) (e :: es) [] pos) (tMkO C (spExI K C W) [] ta) := by
  subst hK hm
  obtain ⟨fI, fd, ps, i1, i2, b, F⟩ := i.ex
  exact pmk_oexB m.T i1 i2 (F _ _ _ _) hr b .nil pass0 hg m.g ha hdb he hpl
theorem isXK (K : PySem.W.Frag) (h : X.K = K) : CallR X (.builtin "isinstance") (rIsX K) := by subst h; exact call_isX
end

abbrev iInvalidName : Stmt := inClass (topS 5) 0
theorem scInvalidName : FnScope ["self", "value"] ["self", "value"] (defScope iInvalidName) := ⟨rfl, rfl, rfl, by decide +kernel, rfl, by decide +kernel, by decide +kernel⟩
abbrev iInvalidIsle : Stmt := inClass (topS 6) 0
theorem scInvalidIsle : FnScope ["self", "which", "part"] ["self", "which", "part"] (defScope iInvalidIsle) := ⟨rfl, rfl, rfl, by decide +kernel, rfl, by decide +kernel, by decide +kernel⟩
abbrev iInvalidStation : Stmt := inClass (topS 7) 0
theorem scInvalidStation : FnScope ["self", "part"] ["self", "part"] (defScope iInvalidStation) := ⟨rfl, rfl, rfl, by decide +kernel, rfl, by decide +kernel, by decide +kernel⟩
abbrev iInvalidWire : Stmt := inClass (topS 8) 0
theorem scInvalidWire : FnScope ["self", "which", "part"] ["self", "which", "part"] (defScope iInvalidWire) := ⟨rfl, rfl, rfl, by decide +kernel, rfl, by decide +kernel, by decide +kernel⟩
abbrev iInvalidChip : Stmt := inClass (topS 9) 0
theorem scInvalidChip : FnScope ["self", "part", "which"] ["self", "part", "which"] (defScope iInvalidChip) := ⟨rfl, rfl, rfl, by decide +kernel, rfl, by decide +kernel, by decide +kernel⟩
abbrev iInvalidEvent : Stmt := inClass (topS 10) 0
theorem scInvalidEvent : FnScope ["self", "index"] ["self", "index"] (defScope iInvalidEvent) := ⟨rfl, rfl, rfl, by decide +kernel, rfl, by decide +kernel, by decide +kernel⟩
abbrev iInvalidLogic : Stmt := inClass (topS 11) 0
theorem scInvalidLogic : FnScope ["self", "which"] ["self", "which"] (defScope iInvalidLogic) := ⟨rfl, rfl, rfl, by decide +kernel, rfl, by decide +kernel, by decide +kernel⟩
abbrev iInvalidText : Stmt := inClass (topS 12) 0
theorem scInvalidText : FnScope ["self", "row", "word"] ["self", "row", "word"] (defScope iInvalidText) := ⟨rfl, rfl, rfl, by decide +kernel, rfl, by decide +kernel, by decide +kernel⟩
abbrev iNoIsle : Stmt := inClass (topS 14) 0
theorem scNoIsle : FnScope ["self", "which"] ["self", "which"] (defScope iNoIsle) := ⟨rfl, rfl, rfl, by decide +kernel, rfl, by decide +kernel, by decide +kernel⟩
abbrev iNoWire : Stmt := inClass (topS 15) 0
theorem scNoWire : FnScope ["self", "which"] ["self", "which"] (defScope iNoWire) := ⟨rfl, rfl, rfl, by decide +kernel, rfl, by decide +kernel, by decide +kernel⟩
abbrev iNoPart : Stmt := inClass (topS 16) 0
theorem scNoPart : FnScope ["self", "which"] ["self", "which"] (defScope iNoPart) := ⟨rfl, rfl, rfl, by decide +kernel, rfl, by decide +kernel, by decide +kernel⟩
abbrev iNoQuestion : Stmt := inClass (topS 17) 0
theorem scNoQuestion : FnScope ["self", "value"] ["self", "value"] (defScope iNoQuestion) := ⟨rfl, rfl, rfl, by decide +kernel, rfl, by decide +kernel, by decide +kernel⟩
abbrev iNoSpot : Stmt := inClass (topS 18) 0
theorem scNoSpot : FnScope ["self", "value"] ["self", "value"] (defScope iNoSpot) := ⟨rfl, rfl, rfl, by decide +kernel, rfl, by decide +kernel, by decide +kernel⟩
abbrev iNoPair : Stmt := inClass (topS 19) 0
theorem scNoPair : FnScope ["self", "value"] ["self", "value"] (defScope iNoPair) := ⟨rfl, rfl, rfl, by decide +kernel, rfl, by decide +kernel, by decide +kernel⟩
abbrev iNoState : Stmt := inClass (topS 20) 0
theorem scNoState : FnScope ["self", "value"] ["self", "value"] (defScope iNoState) := ⟨rfl, rfl, rfl, by decide +kernel, rfl, by decide +kernel, by decide +kernel⟩
abbrev iNotNow : Stmt := inClass (topS 21) 0
theorem scNotNow : FnScope ["self", "index"] ["self", "index"] (defScope iNotNow) := ⟨rfl, rfl, rfl, by decide +kernel, rfl, by decide +kernel, by decide +kernel⟩
abbrev iNotLet : Stmt := inClass (topS 22) 0
theorem scNotLet : FnScope ["self", "event"] ["self", "event"] (defScope iNotLet) := ⟨rfl, rfl, rfl, by decide +kernel, rfl, by decide +kernel, by decide +kernel⟩
abbrev iCannotSleep : Stmt := inClass (topS 23) 0
theorem scCannotSleep : FnScope ["self", "which"] ["self", "which"] (defScope iCannotSleep) := ⟨rfl, rfl, rfl, by decide +kernel, rfl, by decide +kernel, by decide +kernel⟩
abbrev iNothingToUndo : Stmt := inClass (topS 24) 0
theorem scNothingToUndo : FnScope ["self", "count"] ["self", "count"] (defScope iNothingToUndo) := ⟨rfl, rfl, rfl, by decide +kernel, rfl, by decide +kernel, by decide +kernel⟩
abbrev iHasTurns : Stmt := inClass (topS 25) 0
theorem scHasTurns : FnScope ["self", "which"] ["self", "which"] (defScope iHasTurns) := ⟨rfl, rfl, rfl, by decide +kernel, rfl, by decide +kernel, by decide +kernel⟩
abbrev iNotSafe : Stmt := inClass (topS 27) 0
theorem scNotSafe : FnScope ["self", "question", "steps"] ["self", "question", "steps"] (defScope iNotSafe) := ⟨rfl, rfl, rfl, by decide +kernel, rfl, by decide +kernel, by decide +kernel⟩
abbrev iTooMany : Stmt := inClass (topS 28) 0
theorem scTooMany : FnScope ["self", "most"] ["self", "most"] (defScope iTooMany) := ⟨rfl, rfl, rfl, by decide +kernel, rfl, by decide +kernel, by decide +kernel⟩
abbrev iHoldsOwn : Stmt := inClass (topS 26) 0
theorem scHoldsOwn : FnScope ["self", "which"] ["self", "which"] (defScope iHoldsOwn) := ⟨rfl, rfl, rfl, by decide +kernel, rfl, by decide +kernel, by decide +kernel⟩
section
variable {K : PySem.W.Frag} {mg : Str → Option Value} {B C : Addr} {nid : String} {tl : List Value}
theorem iniInvalidName (m : Er K mg "InvalidName" ["value"] B nid tl C) (f : IFac K C "InvalidName.__init__" iInvalidName) : Ini K C 1 (W1 "value") := by
  cases f with
  | mk i l c =>
    have F := fun_mk (st := iInvalidName) l c (keep_fn l)
    exact ⟨_, _, _, i, by rw [typeIn_ref, l]; rfl, F.binds (fun _ _ _ _ _ _ us hl => match us, hl with | [_, _], _ => rfl), fun P w mg base => ok_ex1B F scInvalidName rfl rfl rfl rfl rfl m.T (m.no _ (by simp))⟩
theorem iniInvalidIsle (m : Er K mg "InvalidIsle" ["which", "part"] B nid tl C) (f : IFac K C "InvalidIsle.__init__" iInvalidIsle) : Ini K C 2 (W2 "which" "part") := by
  cases f with
  | mk i l c =>
    have F := fun_mk (st := iInvalidIsle) l c (keep_fn l)
    exact ⟨_, _, _, i, by rw [typeIn_ref, l]; rfl, F.binds (fun _ _ _ _ _ _ us hl => match us, hl with | [_, _, _], _ => rfl), fun P w mg base => ok_ex2B F scInvalidIsle rfl rfl rfl rfl rfl rfl rfl rfl m.T (m.no _ (by simp)) (m.no _ (by simp))⟩
theorem iniInvalidStation (m : Er K mg "InvalidStation" ["part"] B nid tl C) (f : IFac K C "InvalidStation.__init__" iInvalidStation) : Ini K C 1 (W1 "part") := by
  cases f with
  | mk i l c =>
    have F := fun_mk (st := iInvalidStation) l c (keep_fn l)
    exact ⟨_, _, _, i, by rw [typeIn_ref, l]; rfl, F.binds (fun _ _ _ _ _ _ us hl => match us, hl with | [_, _], _ => rfl), fun P w mg base => ok_ex1B F scInvalidStation rfl rfl rfl rfl rfl m.T (m.no _ (by simp))⟩
theorem iniInvalidWire (m : Er K mg "InvalidWire" ["which", "part"] B nid tl C) (f : IFac K C "InvalidWire.__init__" iInvalidWire) : Ini K C 2 (W2 "which" "part") := by
  cases f with
  | mk i l c =>
    have F := fun_mk (st := iInvalidWire) l c (keep_fn l)
    exact ⟨_, _, _, i, by rw [typeIn_ref, l]; rfl, F.binds (fun _ _ _ _ _ _ us hl => match us, hl with | [_, _, _], _ => rfl), fun P w mg base => ok_ex2B F scInvalidWire rfl rfl rfl rfl rfl rfl rfl rfl m.T (m.no _ (by simp)) (m.no _ (by simp))⟩
theorem iniInvalidChip (m : Er K mg "InvalidChip" ["part", "which"] B nid tl C) (f : IFac K C "InvalidChip.__init__" iInvalidChip) : Ini K C 2 (W2 "part" "which") := by
  cases f with
  | mk i l c =>
    have F := fun_mk (st := iInvalidChip) l c (keep_fn l)
    exact ⟨_, _, _, i, by rw [typeIn_ref, l]; rfl, F.binds (fun _ _ _ _ _ _ us hl => match us, hl with | [_, _, _], _ => rfl), fun P w mg base => ok_ex2B F scInvalidChip rfl rfl rfl rfl rfl rfl rfl rfl m.T (m.no _ (by simp)) (m.no _ (by simp))⟩
theorem iniInvalidEvent (m : Er K mg "InvalidEvent" ["index"] B nid tl C) (f : IFac K C "InvalidEvent.__init__" iInvalidEvent) : Ini K C 1 (W1 "index") := by
  cases f with
  | mk i l c =>
    have F := fun_mk (st := iInvalidEvent) l c (keep_fn l)
    exact ⟨_, _, _, i, by rw [typeIn_ref, l]; rfl, F.binds (fun _ _ _ _ _ _ us hl => match us, hl with | [_, _], _ => rfl), fun P w mg base => ok_ex1B F scInvalidEvent rfl rfl rfl rfl rfl m.T (m.no _ (by simp))⟩
theorem iniInvalidLogic (m : Er K mg "InvalidLogic" ["which"] B nid tl C) (f : IFac K C "InvalidLogic.__init__" iInvalidLogic) : Ini K C 1 (W1 "which") := by
  cases f with
  | mk i l c =>
    have F := fun_mk (st := iInvalidLogic) l c (keep_fn l)
    exact ⟨_, _, _, i, by rw [typeIn_ref, l]; rfl, F.binds (fun _ _ _ _ _ _ us hl => match us, hl with | [_, _], _ => rfl), fun P w mg base => ok_ex1B F scInvalidLogic rfl rfl rfl rfl rfl m.T (m.no _ (by simp))⟩
theorem iniInvalidText (m : Er K mg "InvalidText" ["row", "word"] B nid tl C) (f : IFac K C "InvalidText.__init__" iInvalidText) : Ini K C 2 (W2 "row" "word") := by
  cases f with
  | mk i l c =>
    have F := fun_mk (st := iInvalidText) l c (keep_fn l)
    exact ⟨_, _, _, i, by rw [typeIn_ref, l]; rfl, F.binds (fun _ _ _ _ _ _ us hl => match us, hl with | [_, _, _], _ => rfl), fun P w mg base => ok_ex2B F scInvalidText rfl rfl rfl rfl rfl rfl rfl rfl m.T (m.no _ (by simp)) (m.no _ (by simp))⟩
theorem iniNoIsle (m : Er K mg "NoIsle" ["which"] B nid tl C) (f : IFac K C "NoIsle.__init__" iNoIsle) : Ini K C 1 (W1 "which") := by
  cases f with
  | mk i l c =>
    have F := fun_mk (st := iNoIsle) l c (keep_fn l)
    exact ⟨_, _, _, i, by rw [typeIn_ref, l]; rfl, F.binds (fun _ _ _ _ _ _ us hl => match us, hl with | [_, _], _ => rfl), fun P w mg base => ok_ex1B F scNoIsle rfl rfl rfl rfl rfl m.T (m.no _ (by simp))⟩
theorem iniNoWire (m : Er K mg "NoWire" ["which"] B nid tl C) (f : IFac K C "NoWire.__init__" iNoWire) : Ini K C 1 (W1 "which") := by
  cases f with
  | mk i l c =>
    have F := fun_mk (st := iNoWire) l c (keep_fn l)
    exact ⟨_, _, _, i, by rw [typeIn_ref, l]; rfl, F.binds (fun _ _ _ _ _ _ us hl => match us, hl with | [_, _], _ => rfl), fun P w mg base => ok_ex1B F scNoWire rfl rfl rfl rfl rfl m.T (m.no _ (by simp))⟩
theorem iniNoPart (m : Er K mg "NoPart" ["which"] B nid tl C) (f : IFac K C "NoPart.__init__" iNoPart) : Ini K C 1 (W1 "which") := by
  cases f with
  | mk i l c =>
    have F := fun_mk (st := iNoPart) l c (keep_fn l)
    exact ⟨_, _, _, i, by rw [typeIn_ref, l]; rfl, F.binds (fun _ _ _ _ _ _ us hl => match us, hl with | [_, _], _ => rfl), fun P w mg base => ok_ex1B F scNoPart rfl rfl rfl rfl rfl m.T (m.no _ (by simp))⟩
theorem iniNoQuestion (m : Er K mg "NoQuestion" ["value"] B nid tl C) (f : IFac K C "NoQuestion.__init__" iNoQuestion) : Ini K C 1 (W1 "value") := by
  cases f with
  | mk i l c =>
    have F := fun_mk (st := iNoQuestion) l c (keep_fn l)
    exact ⟨_, _, _, i, by rw [typeIn_ref, l]; rfl, F.binds (fun _ _ _ _ _ _ us hl => match us, hl with | [_, _], _ => rfl), fun P w mg base => ok_ex1B F scNoQuestion rfl rfl rfl rfl rfl m.T (m.no _ (by simp))⟩
theorem iniNoSpot (m : Er K mg "NoSpot" ["value"] B nid tl C) (f : IFac K C "NoSpot.__init__" iNoSpot) : Ini K C 1 (W1 "value") := by
  cases f with
  | mk i l c =>
    have F := fun_mk (st := iNoSpot) l c (keep_fn l)
    exact ⟨_, _, _, i, by rw [typeIn_ref, l]; rfl, F.binds (fun _ _ _ _ _ _ us hl => match us, hl with | [_, _], _ => rfl), fun P w mg base => ok_ex1B F scNoSpot rfl rfl rfl rfl rfl m.T (m.no _ (by simp))⟩
theorem iniNoPair (m : Er K mg "NoPair" ["value"] B nid tl C) (f : IFac K C "NoPair.__init__" iNoPair) : Ini K C 1 (W1 "value") := by
  cases f with
  | mk i l c =>
    have F := fun_mk (st := iNoPair) l c (keep_fn l)
    exact ⟨_, _, _, i, by rw [typeIn_ref, l]; rfl, F.binds (fun _ _ _ _ _ _ us hl => match us, hl with | [_, _], _ => rfl), fun P w mg base => ok_ex1B F scNoPair rfl rfl rfl rfl rfl m.T (m.no _ (by simp))⟩
theorem iniNoState (m : Er K mg "NoState" ["value"] B nid tl C) (f : IFac K C "NoState.__init__" iNoState) : Ini K C 1 (W1 "value") := by
  cases f with
  | mk i l c =>
    have F := fun_mk (st := iNoState) l c (keep_fn l)
    exact ⟨_, _, _, i, by rw [typeIn_ref, l]; rfl, F.binds (fun _ _ _ _ _ _ us hl => match us, hl with | [_, _], _ => rfl), fun P w mg base => ok_ex1B F scNoState rfl rfl rfl rfl rfl m.T (m.no _ (by simp))⟩
theorem iniNotNow (m : Er K mg "NotNow" ["index"] B nid tl C) (f : IFac K C "NotNow.__init__" iNotNow) : Ini K C 1 (W1 "index") := by
  cases f with
  | mk i l c =>
    have F := fun_mk (st := iNotNow) l c (keep_fn l)
    exact ⟨_, _, _, i, by rw [typeIn_ref, l]; rfl, F.binds (fun _ _ _ _ _ _ us hl => match us, hl with | [_, _], _ => rfl), fun P w mg base => ok_ex1B F scNotNow rfl rfl rfl rfl rfl m.T (m.no _ (by simp))⟩
theorem iniNotLet (m : Er K mg "NotLet" ["event"] B nid tl C) (f : IFac K C "NotLet.__init__" iNotLet) : Ini K C 1 (W1 "event") := by
  cases f with
  | mk i l c =>
    have F := fun_mk (st := iNotLet) l c (keep_fn l)
    exact ⟨_, _, _, i, by rw [typeIn_ref, l]; rfl, F.binds (fun _ _ _ _ _ _ us hl => match us, hl with | [_, _], _ => rfl), fun P w mg base => ok_ex1B F scNotLet rfl rfl rfl rfl rfl m.T (m.no _ (by simp))⟩
theorem iniCannotSleep (m : Er K mg "CannotSleep" ["which"] B nid tl C) (f : IFac K C "CannotSleep.__init__" iCannotSleep) : Ini K C 1 (W1 "which") := by
  cases f with
  | mk i l c =>
    have F := fun_mk (st := iCannotSleep) l c (keep_fn l)
    exact ⟨_, _, _, i, by rw [typeIn_ref, l]; rfl, F.binds (fun _ _ _ _ _ _ us hl => match us, hl with | [_, _], _ => rfl), fun P w mg base => ok_ex1B F scCannotSleep rfl rfl rfl rfl rfl m.T (m.no _ (by simp))⟩
theorem iniNothingToUndo (m : Er K mg "NothingToUndo" ["count"] B nid tl C) (f : IFac K C "NothingToUndo.__init__" iNothingToUndo) : Ini K C 1 (W1 "count") := by
  cases f with
  | mk i l c =>
    have F := fun_mk (st := iNothingToUndo) l c (keep_fn l)
    exact ⟨_, _, _, i, by rw [typeIn_ref, l]; rfl, F.binds (fun _ _ _ _ _ _ us hl => match us, hl with | [_, _], _ => rfl), fun P w mg base => ok_ex1B F scNothingToUndo rfl rfl rfl rfl rfl m.T (m.no _ (by simp))⟩
theorem iniHasTurns (m : Er K mg "HasTurns" ["which"] B nid tl C) (f : IFac K C "HasTurns.__init__" iHasTurns) : Ini K C 1 (W1 "which") := by
  cases f with
  | mk i l c =>
    have F := fun_mk (st := iHasTurns) l c (keep_fn l)
    exact ⟨_, _, _, i, by rw [typeIn_ref, l]; rfl, F.binds (fun _ _ _ _ _ _ us hl => match us, hl with | [_, _], _ => rfl), fun P w mg base => ok_ex1B F scHasTurns rfl rfl rfl rfl rfl m.T (m.no _ (by simp))⟩
theorem iniNotSafe (m : Er K mg "NotSafe" ["question", "steps"] B nid tl C) (f : IFac K C "NotSafe.__init__" iNotSafe) : Ini K C 2 (W2 "question" "steps") := by
  cases f with
  | mk i l c =>
    have F := fun_mk (st := iNotSafe) l c (keep_fn l)
    exact ⟨_, _, _, i, by rw [typeIn_ref, l]; rfl, F.binds (fun _ _ _ _ _ _ us hl => match us, hl with | [_, _, _], _ => rfl), fun P w mg base => ok_ex2B F scNotSafe rfl rfl rfl rfl rfl rfl rfl rfl m.T (m.no _ (by simp)) (m.no _ (by simp))⟩
theorem iniTooMany (m : Er K mg "TooMany" ["most"] B nid tl C) (f : IFac K C "TooMany.__init__" iTooMany) : Ini K C 1 (W1 "most") := by
  cases f with
  | mk i l c =>
    have F := fun_mk (st := iTooMany) l c (keep_fn l)
    exact ⟨_, _, _, i, by rw [typeIn_ref, l]; rfl, F.binds (fun _ _ _ _ _ _ us hl => match us, hl with | [_, _], _ => rfl), fun P w mg base => ok_ex1B F scTooMany rfl rfl rfl rfl rfl m.T (m.no _ (by simp))⟩
theorem iniHoldsOwn (m : Er K mg "HoldsOwn" ["which"] B nid tl C) (f : IFac K C "HoldsOwn.__init__" iHoldsOwn) : Ini K C 1 (W1 "which") := by
  cases f with
  | mk i l c =>
    have F := fun_mk (st := iHoldsOwn) l c (keep_fn l)
    exact ⟨_, _, _, i, by rw [typeIn_ref, l]; rfl, F.binds (fun _ _ _ _ _ _ us hl => match us, hl with | [_, _], _ => rfl), fun P w mg base => ok_ex1B F scHoldsOwn rfl rfl rfl rfl rfl m.T (m.no _ (by simp))⟩
end
/-- all of them: c the classes by their places in the law's row, b the bases -/
structure Tab (K : PySem.W.Frag) (mg : Str → Option Value) (c b : Nat → Addr) : Prop where
  inj : ∀ i j, i < 24 → j < 24 → c i = c j → i = j
  dis : ∀ i j, i < 24 → j < 4 → c i ≠ b j
  binj : ∀ i j, i < 4 → j < 4 → b i = b j → i = j
  gb : ∀ j, j < 4 → (PySem.W.clsIn K (b j)).isSome = true ∧ PySem.W.typeIn K (.ref (b j)) = some (.type "type") ∧ PySem.W.subIn K (.ref (b j)) (.type "BaseException") = some true
  n0 : mg "DuskError" = some (.ref (b 0))
  n1 : mg "AbsentError" = some (.ref (b 1))
  n2 : mg "TurnError" = some (.ref (b 2))
  n3 : mg "SizeError" = some (.ref (b 3))
  e0 : Er K mg "InvalidName" ["value"] (b (bo 0)) (nidOf (bo 0)) (tlOf (bo 0)) (c 0)
  i0 : Ini K (c 0) 1 (W1 "value")
  e1 : Er K mg "InvalidIsle" ["which", "part"] (b (bo 1)) (nidOf (bo 1)) (tlOf (bo 1)) (c 1)
  i1 : Ini K (c 1) 2 (W2 "which" "part")
  e2 : Er K mg "InvalidStation" ["part"] (b (bo 2)) (nidOf (bo 2)) (tlOf (bo 2)) (c 2)
  i2 : Ini K (c 2) 1 (W1 "part")
  e3 : Er K mg "InvalidWire" ["which", "part"] (b (bo 3)) (nidOf (bo 3)) (tlOf (bo 3)) (c 3)
  i3 : Ini K (c 3) 2 (W2 "which" "part")
  e4 : Er K mg "InvalidChip" ["part", "which"] (b (bo 4)) (nidOf (bo 4)) (tlOf (bo 4)) (c 4)
  i4 : Ini K (c 4) 2 (W2 "part" "which")
  e5 : Er K mg "InvalidEvent" ["index"] (b (bo 5)) (nidOf (bo 5)) (tlOf (bo 5)) (c 5)
  i5 : Ini K (c 5) 1 (W1 "index")
  e6 : Er K mg "InvalidLogic" ["which"] (b (bo 6)) (nidOf (bo 6)) (tlOf (bo 6)) (c 6)
  i6 : Ini K (c 6) 1 (W1 "which")
  e7 : Er K mg "InvalidText" ["row", "word"] (b (bo 7)) (nidOf (bo 7)) (tlOf (bo 7)) (c 7)
  i7 : Ini K (c 7) 2 (W2 "row" "word")
  e8 : Er K mg "UnknownCommand" [] (b (bo 8)) (nidOf (bo 8)) (tlOf (bo 8)) (c 8)
  e9 : Er K mg "NoIsle" ["which"] (b (bo 9)) (nidOf (bo 9)) (tlOf (bo 9)) (c 9)
  i9 : Ini K (c 9) 1 (W1 "which")
  e10 : Er K mg "NoWire" ["which"] (b (bo 10)) (nidOf (bo 10)) (tlOf (bo 10)) (c 10)
  i10 : Ini K (c 10) 1 (W1 "which")
  e11 : Er K mg "NoPart" ["which"] (b (bo 11)) (nidOf (bo 11)) (tlOf (bo 11)) (c 11)
  i11 : Ini K (c 11) 1 (W1 "which")
  e12 : Er K mg "NoQuestion" ["value"] (b (bo 12)) (nidOf (bo 12)) (tlOf (bo 12)) (c 12)
  i12 : Ini K (c 12) 1 (W1 "value")
  e13 : Er K mg "NoSpot" ["value"] (b (bo 13)) (nidOf (bo 13)) (tlOf (bo 13)) (c 13)
  i13 : Ini K (c 13) 1 (W1 "value")
  e14 : Er K mg "NoPair" ["value"] (b (bo 14)) (nidOf (bo 14)) (tlOf (bo 14)) (c 14)
  i14 : Ini K (c 14) 1 (W1 "value")
  e15 : Er K mg "NoState" ["value"] (b (bo 15)) (nidOf (bo 15)) (tlOf (bo 15)) (c 15)
  i15 : Ini K (c 15) 1 (W1 "value")
  e16 : Er K mg "NotNow" ["index"] (b (bo 16)) (nidOf (bo 16)) (tlOf (bo 16)) (c 16)
  i16 : Ini K (c 16) 1 (W1 "index")
  e17 : Er K mg "NotLet" ["event"] (b (bo 17)) (nidOf (bo 17)) (tlOf (bo 17)) (c 17)
  i17 : Ini K (c 17) 1 (W1 "event")
  e18 : Er K mg "CannotSleep" ["which"] (b (bo 18)) (nidOf (bo 18)) (tlOf (bo 18)) (c 18)
  i18 : Ini K (c 18) 1 (W1 "which")
  e19 : Er K mg "NothingToUndo" ["count"] (b (bo 19)) (nidOf (bo 19)) (tlOf (bo 19)) (c 19)
  i19 : Ini K (c 19) 1 (W1 "count")
  e20 : Er K mg "HasTurns" ["which"] (b (bo 20)) (nidOf (bo 20)) (tlOf (bo 20)) (c 20)
  i20 : Ini K (c 20) 1 (W1 "which")
  e21 : Er K mg "NotSafe" ["question", "steps"] (b (bo 21)) (nidOf (bo 21)) (tlOf (bo 21)) (c 21)
  i21 : Ini K (c 21) 2 (W2 "question" "steps")
  e22 : Er K mg "TooMany" ["most"] (b (bo 22)) (nidOf (bo 22)) (tlOf (bo 22)) (c 22)
  i22 : Ini K (c 22) 1 (W1 "most")
  e23 : Er K mg "HoldsOwn" ["which"] (b (bo 23)) (nidOf (bo 23)) (tlOf (bo 23)) (c 23)
  i23 : Ini K (c 23) 1 (W1 "which")
  u8 : PySem.W.excIn K (c 8) tlV "ValueError.__new__" = true
section
variable {K : PySem.W.Frag} {mg : Str → Option Value} {c b : Nat → Addr}
theorem Tab.er (T : Tab K mg c b) : ∀ i, i < 24 → ∃ x fl, Er K mg x fl (b (bo i)) (nidOf (bo i)) (tlOf (bo i)) (c i)
  | 0, _ => ⟨_, _, T.e0⟩
  | 1, _ => ⟨_, _, T.e1⟩
  | 2, _ => ⟨_, _, T.e2⟩
  | 3, _ => ⟨_, _, T.e3⟩
  | 4, _ => ⟨_, _, T.e4⟩
  | 5, _ => ⟨_, _, T.e5⟩
  | 6, _ => ⟨_, _, T.e6⟩
  | 7, _ => ⟨_, _, T.e7⟩
  | 8, _ => ⟨_, _, T.e8⟩
  | 9, _ => ⟨_, _, T.e9⟩
  | 10, _ => ⟨_, _, T.e10⟩
  | 11, _ => ⟨_, _, T.e11⟩
  | 12, _ => ⟨_, _, T.e12⟩
  | 13, _ => ⟨_, _, T.e13⟩
  | 14, _ => ⟨_, _, T.e14⟩
  | 15, _ => ⟨_, _, T.e15⟩
  | 16, _ => ⟨_, _, T.e16⟩
  | 17, _ => ⟨_, _, T.e17⟩
  | 18, _ => ⟨_, _, T.e18⟩
  | 19, _ => ⟨_, _, T.e19⟩
  | 20, _ => ⟨_, _, T.e20⟩
  | 21, _ => ⟨_, _, T.e21⟩
  | 22, _ => ⟨_, _, T.e22⟩
  | 23, _ => ⟨_, _, T.e23⟩
  | n + 24, h => absurd h (by omega)
theorem Tab.kit (T : Tab K mg c b) {i j : Nat} (hi : i < 24) (hj : j < 24) (hb : bo i < 4) : PySem.W.kitOne K (.ref (c i)) (.ref (c j)) = some (decide (i = j)) := by
  obtain ⟨x, fl, m⟩ := T.er i hi
  obtain ⟨y, gl, n⟩ := T.er j hj
  rw [m.T.kit n.cl n.T.tyC (tl_ref _ _)]
  congr 1
  have h1 : [b (bo i)].contains (c j) = false := by
    have := T.dis j (bo i) hj hb
    simpa using this
  rw [h1, Bool.or_false]
  exact decide_eq_decide.mpr ⟨T.inj i j hi hj, fun e => by rw [e]⟩
theorem Tab.kitB (T : Tab K mg c b) {i j : Nat} (hi : i < 24) (hj : j < 4) (hb : bo i < 4) : PySem.W.kitOne K (.ref (c i)) (.ref (b j)) = some (decide (bo i = j)) := by
  obtain ⟨x, fl, m⟩ := T.er i hi
  rw [m.T.kit (T.gb j hj).1 (T.gb j hj).2.1 (tl_ref _ _)]
  congr 1
  rw [decide_eq_false (T.dis i j hi hj), Bool.false_or]
  have h1 : [b (bo i)].contains (b j) = decide (b j = b (bo i)) := by simp
  rw [h1]
  exact decide_eq_decide.mpr ⟨fun e => (T.binj j (bo i) hj hb e).symm, fun e => by rw [e]⟩
def bnm : Nat → String
  | 0 => "ValueError" | 1 => "LookupError" | 2 => "RuntimeError" | _ => "OverflowError"
theorem bnm_ok : (List.range 4).all (fun j => PySem.W.kitMeta (bnm j) && (List.range 4).all fun k => (tlOf k).contains (.type (bnm j)) == decide (k = j)) = true := by decide +kernel
theorem Tab.kitT (T : Tab K mg c b) {i j : Nat} (hi : i < 24) (hj : j < 4) (hb : bo i < 4) : PySem.W.kitOne K (.ref (c i)) (.type (bnm j)) = some (decide (bo i = j)) := by
  obtain ⟨x, fl, m⟩ := T.er i hi
  have h := List.all_eq_true.mp bnm_ok j (List.mem_range.mpr hj)
  rw [Bool.and_eq_true] at h
  have h2 := List.all_eq_true.mp h.2 (bo i) (List.mem_range.mpr hb)
  rw [m.T.kitT h.1, eq_of_beq h2]
theorem Tab.isx (T : Tab K mg c b) {i : Nat} (hi : i < 24) : IsxC K (c i) := let ⟨_, _, m⟩ := T.er i hi; m.I
theorem bo_lt (i : Nat) : bo i < 4 := by unfold bo; split <;> first | decide | (split <;> first | decide | (split <;> decide))
theorem Tab.exm (T : Tab K mg c b) {i j : Nat} (hi : i < 24) (hj : j < 4) (e : bo i = j) : PySem.W.exmOne K (.ref (c i)) (.ref (b j)) = some true := by
  obtain ⟨x, fl, m⟩ := T.er i hi
  obtain ⟨g1, g2, g3⟩ := T.gb j hj
  unfold PySem.W.exmOne
  rw [if_pos (by rw [g3]; rfl)]
  show (if ((PySem.W.clsIn K (b j)).isSome && PySem.W.typeIn K (.ref (b j)) == some (.type "type")) = true then _ else _) = _
  rw [g1, g2, if_pos (by simp), m.T.sub, e]
  have : (over (c i :: [b j]) (tlOf j)).contains (.ref (b j)) = true := by rw [over_ref _ (tl_ref _ _)]; simp
  rw [this]
variable {pf : Bool} {ρ : List Sl} {Φ : Dt → List Sl → Prop}
/-- isinstance of the error in slot s against the j-th class -/
theorem w_is (T : Tab K mg c b) {s i j : Nat} {a : Addr} {ns : List Str} {es : List Dt} (hi : i < 24) (e : ρ[s]? = some (.dat (.exc (c i) a ns es))) (hj : j < 24) (h : Φ (.bl (decide (i = j))) ρ) : Wp K pf (tCB (rIsX K) (tCons (tVar s) (tCons (tC (.ref (c j))) tNil))) ρ Φ :=
  w_cb <| wa_cons <| w_var e <| wa_cons <| w_c (fun _ => .cls _) <| wa_nil <| rd_isX (T.isx hi) (T.kit hi hj (bo_lt i)) h
theorem w_isB (T : Tab K mg c b) {s i j : Nat} {a : Addr} {ns : List Str} {es : List Dt} (hi : i < 24) (e : ρ[s]? = some (.dat (.exc (c i) a ns es))) (hj : j < 4) (h : Φ (.bl (decide (bo i = j))) ρ) : Wp K pf (tCB (rIsX K) (tCons (tVar s) (tCons (tC (.ref (b j))) tNil))) ρ Φ :=
  w_cb <| wa_cons <| w_var e <| wa_cons <| w_c (fun _ => .cls _) <| wa_nil <| rd_isX (T.isx hi) (T.kitB hi hj (bo_lt i)) h
theorem w_isT (T : Tab K mg c b) {s i j : Nat} {a : Addr} {ns : List Str} {es : List Dt} (hi : i < 24) (e : ρ[s]? = some (.dat (.exc (c i) a ns es))) (hj : j < 4) (h : Φ (.bl (decide (bo i = j))) ρ) : Wp K pf (tCB (rIsX K) (tCons (tVar s) (tCons (tC (.ty (bnm j))) tNil))) ρ Φ :=
  w_cb <| wa_cons <| w_var e <| wa_cons <| w_c (fun _ => .ty _) <| wa_nil <| rd_isXT (T.isx hi) (T.kitT hi hj (bo_lt i)) h
/-- x and y, both the same truth -/
theorem w_andSame {te tb : TE} {v : Bool} (h1 : ∀ Ψ : Dt → List Sl → Prop, Ψ (.bl v) ρ → Wp K pf te ρ Ψ) (h2 : ∀ Ψ : Dt → List Sl → Prop, Ψ (.bl v) ρ → Wp K pf tb ρ Ψ) (h : Φ (.bl v) ρ) : Wp K pf (tAndV te tb) ρ Φ := by
  refine w_andV (h1 _ ⟨v, rfl, ?_⟩)
  cases v with
  | true => rw [if_pos rfl]; exact h2 _ h
  | false => rw [if_neg Bool.false_ne_true]; exact h
end

end K01

namespace K01
open PySem PySem.Spec PyProof.Rows L2 DL

abbrev sPenOf : Stmt := topS 30
abbrev sDraw : Stmt := topS 31
theorem scPenOf : FnScope ["_law_script"] ["_law_script"] (defScope sPenOf) := ⟨rfl, rfl, rfl, by decide +kernel, rfl, by decide +kernel, by decide +kernel⟩
theorem scDraw : FnScope ["_law_pen", "_law_many", "_law_digit", "_law_at", "_law_cell", "_law_great", "_law_mixed"] ["_law_pen", "_law_many"] (defScope sDraw) := ⟨rfl, rfl, rfl, by decide +kernel, rfl, by decide +kernel, by decide +kernel⟩
section
variable {P : Program} {w : World} {K : PySem.W.Frag} {mg : Str → Option Value} {base : Heap}
theorem cutV_to {xs : List V} (n : Nat) : cutV xs none (some (n : Int)) = xs.take n := by
  unfold cutV
  rw [HT.sIx_none, HT.sIx_nat, List.drop_zero, Nat.sub_zero]
  by_cases c : n ≤ xs.length
  · rw [Nat.min_eq_left c]
  · rw [Nat.min_eq_right (by omega), List.take_of_length_le (Nat.le_refl _), List.take_of_length_le (by omega)]
theorem ok_penOf {f : Addr} {fd : FuncData} (F : Fun K "_law_pen_of" "_law_pen_of" sPenOf f fd) (B : Bt mg) : FnG P w K mg base CX0 1 f fd ["_law_script"] (spPen K) := by
  refine okG F scPenOf (fun vs H Q E ⟨a, ns, e, _⟩ => by rw [e]; rfl) fun cdv A outer s H vs Q E hr hg h => ?_
  refine ⟨_, pss_one (ps_ret (pe_lst (pa_cons (pe_callTy call_list_of (by rfl) B.list PyProof.Rows.boot_list (pa_cons (pe_slice sl_list (pv 0) po_none (po_some pe_int)) pa_nil)) (pa_cons pe_int (pa_cons pe_int pa_nil))))), ?_⟩
  obtain ⟨a, ns, rfl, hS, q⟩ := h
  refine ⟨.ref a, rfl, 63, rfl, a, _, rfl, hS, fun c nc => ⟨c, _, rfl, .inl (.inl (.inl upd_same)), fun l nl => ⟨by show 3 ≤ sizeLine; decide, fun p np => ?_⟩⟩⟩
  have e1 := cutV_to (xs := ns.map V.int) 63
  have s1 : Same H (upd H c (.lst (cutV (ns.map V.int) none (some 63)))) := same_new nc
  have s2 := same_new (o := .lst (cutV (ns.map V.int) none (some 63))) nl
  have hl : H l = none := by
    cases z : H l with
    | none => rfl
    | some o => rw [s1 l o z] at nl; cases nl
  have hp : H p = none := by
    cases z : H p with
    | none => rfl
    | some o => rw [s2 p o (s1 p o z)] at np; cases np
  have npl : p ≠ l := fun z => by rw [z, upd_same] at np; cases np
  refine q _ p l ((s1.trans s2).trans (same_new np)) hp hl npl upd_same ?_
  rw [upd_ne npl.symm, upd_same, List.map_take, ← e1]
  rfl
def WDraw : Nat → List Dt → (Dt → Nat → Prop) → Prop := fun n ds Φ => ∃ many : Int, ds = [.int many] ∧ 0 < many ∧ many < 1073741824 ∧ n < 1000000 ∧ ∀ r : Nat, (r : Int) < many → Φ (.int r) (n + 1)
theorem ok_draw {f : Addr} {fd : FuncData} (F : Fun K "_law_draw" "_law_draw" sDraw f fd) (B : Bt mg) : FnG P w K mg base CX0 1 f fd ["_law_pen", "_law_many"] (spN K WDraw) := by
  refine defN F scDraw (fun n ds Φ ⟨m, e, _⟩ => by rw [e]; rfl) (by decide) fun cdv A outer s H E hr hg => ?_
  refine ⟨_, pss_cons (ps_if (pt_cmpR op_gt (pe_ix ix_list (pv 0) pe_int (fun _ _ => rfl)) pe_int (nomark _))
      (pss_cons (ps_set (i := 2) scDraw.nd rfl (.inl rfl) (pe_op op_mod (pe_callTy call_int1 (by rfl) B.int PyProof.Rows.boot_int (pa_cons (pe_ix ix_list (pv 0) pe_int (fun _ _ => rfl)) pa_nil)) (pv 1)))
      (pss_cons (ps_asg (pe_op op_fdiv (pe_callTy call_int1 (by rfl) B.int PyProof.Rows.boot_int (pa_cons (pe_ix ix_list (pv 0) pe_int (fun _ _ => rfl)) pa_nil)) (pv 1)) (pg_sub (pv 0) pe_int set_list))
      (pss_one (ps_ret (pv 2))))) pss_nil)
    <| pss_cons (ps_set (i := 3) scDraw.nd rfl (.inl rfl) (pe_ix ix_list (pv 0) pe_int (fun _ _ => rfl)))
    <| pss_cons (ps_asg (pe_op op_add (pv 3) pe_int) (pg_sub (pv 0) pe_int set_list))
    <| pss_cons (ps_set (i := 4) scDraw.nd rfl (.inl rfl) (pe_op op_add (pe_op op_mul pe_int (pv 3)) pe_int))
    <| pss_cons (ps_if (pt_cmpR (op_neNil hr.units) (pe_ix ix_list (pv 0) pe_int (fun _ _ => rfl)) (pe_lst pa_nil) (nomark _))
      (pss_one (ps_set (i := 4) scDraw.nd rfl (.inl rfl) (pe_ix ix_list (pe_ix ix_list (pv 0) pe_int (fun _ _ => rfl)) (pe_op op_mod (pe_callTy call_int1 (by rfl) B.int PyProof.Rows.boot_int (pa_cons (pv 3) pa_nil)) (pe_callB call_len (by rfl) B.len PySem.boot_len (pa_cons (pe_ix ix_list (pv 0) pe_int (fun _ _ => rfl)) pa_nil))) (fun _ _ => rfl)))) pss_nil)
    <| pss_cons (ps_if (PW.pt (pw_and (pt_cmpR op_lt (pv 3) (pe_callB call_len (by rfl) B.len PySem.boot_len (pa_cons (pe_ix ix_list (pv 0) pe_int (fun _ _ => rfl)) pa_nil)) (nomark _)) (pw_and1 (pt_cmpR op_ge (pe_callB call_abs (by rfl) B.abs boot_abs (pa_cons (pv 4) pa_nil)) (pe_op op_pow pe_int pe_int) (nomark _)))))
      (pss_cons (ps_set (i := 5) scDraw.nd rfl (.inl rfl) (pe_op op_add (pe_op op_mul pe_int (pe_op op_sub (pe_callB call_abs (by rfl) B.abs boot_abs (pa_cons (pv 4) pa_nil)) (pe_op op_pow pe_int pe_int))) (pe_callTy call_int1 (by rfl) B.int PyProof.Rows.boot_int (pa_cons (pe_cmpR op_lt (pv 4) pe_int (nomark _)) pa_nil))))
      (pss_cons (ps_asg (pe_op op_fdiv (pe_callTy call_int1 (by rfl) B.int PyProof.Rows.boot_int (pa_cons (pv 5) pa_nil)) (pv 1)) (pg_sub (pv 0) pe_int set_list))
      (pss_one (ps_ret (pe_op op_mod (pe_callTy call_int1 (by rfl) B.int PyProof.Rows.boot_int (pa_cons (pv 5) pa_nil)) (pv 1)))))) pss_nil)
    <| pss_cons (ps_set (i := 6) scDraw.nd rfl (.inl rfl) (pe_op op_mod (pe_callTy call_int1 (by rfl) B.int PyProof.Rows.boot_int (pa_cons (pe_op op_pow (pe_op op_add (pe_op op_add (pe_op op_mod (pe_callTy call_int1 (by rfl) B.int PyProof.Rows.boot_int (pa_cons (pv 4) pa_nil)) pe_int) (pe_op op_mul pe_int (pv 3))) pe_int) pe_int) pa_nil)) pe_int))
    <| pss_cons (ps_set (i := 6) scDraw.nd rfl (.inl rfl) (pe_op op_mod (pe_callTy call_int1 (by rfl) B.int PyProof.Rows.boot_int (pa_cons (pe_op op_pow (pe_op op_add (pe_op op_add (pe_op op_mul (pv 6) (pe_op op_add (pe_op op_mul pe_int (pv 3)) pe_int)) (pe_op op_mul (pe_op op_mul pe_int (pv 3)) (pv 3))) pe_int) pe_int) pa_nil)) pe_int))
    <| pss_one (ps_ret (pe_op op_mod (pe_callTy call_int1 (by rfl) B.int PyProof.Rows.boot_int (pa_cons (pe_op op_fdiv (pv 6) pe_int) pa_nil)) (pv 1))), ?_⟩
  rintro n ds Φ ⟨m, rfl, hm, hm2, hn, q⟩
  have qx : ∀ x : Int, Φ (.int (x % m)) (n + 1) := fun x => by
    have h1 := Int.emod_nonneg x (by omega : m ≠ 0)
    have h2 := Int.emod_lt_of_pos x hm
    have := q (x % m).toNat (by rw [Int.toNat_of_nonneg h1]; exact h2)
    rw [Int.toNat_of_nonneg h1] at this
    exact this
  refine ws_open (i := 0) rfl fun ns c g h1 h2 h3 => ?_
  show Ws K _ [.pown [.lst (ns.map Dt.int), .int c, .int g], .dat (.int m), .any, .any, .any, .any, .any] _
  refine ws_seq <| ws_if (pf := true) <| wt_pen (i := 0) rfl <| wt_test <| w_op <| w_op <| w_var rfl <| w_c (fun _ => .int 2) <| od_ixL (atI_nat' (j := 2) rfl) <| w_c (fun _ => .int 0) <| od_I0b ⟨_, rfl, ?_⟩
  by_cases cg : (0 : Int) < g
  · rw [decide_eq_true cg]
    refine ifT <| ws_seq <| ws_asg (pf := true) <| wp_pen (i := 0) rfl <| w_op <| w_cb <| wa_cons <| w_op <| w_var rfl <| w_c (fun _ => .int 2) <| od_ixL (atI_nat' (j := 2) rfl) <| wa_nil <| rd_int <| w_var rfl <| od_I hm ⟨rfl, ?_⟩
    refine ws_seq <| ws_setpen (pf := true) (i := 0) rfl <| wp_pen (i := 0) rfl <| w_op <| w_cb <| wa_cons <| w_op <| w_var rfl <| w_c (fun _ => .int 2) <| od_ixL (atI_nat' (j := 2) rfl) <| wa_nil <| rd_int <| w_var rfl <| od_I ⟨hm, hm2⟩ ⟨rfl, w_c (fun _ => .int 2) ⟨_, 2, rfl, rfl, by show 2 < 3; decide, ?_⟩⟩
    refine ws_ret (pf := true) <| w_var (d := .int (g % m)) rfl ⟨n + 1, _, rfl, ?_, qx g⟩
    exact .pown (ns := ns) (c := c) (g := g / m) (by omega) (Int.ediv_nonneg h2 (by omega)) h3
  · rw [decide_eq_false cg]
    have e1 : ((c : Nat) : Int) + 1 = ((c + 1 : Nat) : Int) := by omega
    refine ifF <| ws_next <| ws_seq <| ws_asg (pf := true) <| wp_pen (i := 0) rfl <| w_op <| w_var rfl <| w_c (fun _ => .int 1) <| od_ixL (atI_nat' (j := 1) rfl) ⟨rfl, ?_⟩
    refine ws_seq <| ws_setpen (pf := true) (i := 0) rfl <| w_op <| w_var (d := .int c) rfl <| w_c (fun _ => .int 1) <| od_I0i <| w_c (fun _ => .int 1) ⟨_, 1, rfl, rfl, by show 1 < 3; decide, ?_⟩
    show Ws K _ [.pown [.lst (ns.map Dt.int), .int ((c : Nat) + 1), .int g], .dat (.int m), .any, .dat (.int c), .any, .any, .any] _
    rw [e1]
    refine ws_seq <| ws_asg (pf := true) <| w_op <| w_op <| w_c (fun _ => .int _) <| w_var (d := .int c) rfl <| od_I (.inl ⟨by decide, by decide⟩) <| w_c (fun _ => .int _) <| od_I0i ?_
    refine ws_seqI (fun ρ' => ∃ x : Int, ρ' = [.pown [.lst (ns.map Dt.int), .int ((c + 1 : Nat)), .int g], .dat (.int m), .any, .dat (.int c), .dat (.int x), .any, .any]) ?_ ?_
    · refine ws_if (pf := true) <| wt_pen (i := 0) rfl <| wt_test <| w_op <| w_op <| w_var rfl <| w_c (fun _ => .int 0) <| od_ixL (d := .lst (ns.map Dt.int)) (atI_nat' (j := 0) rfl) <| w_lst <| wa_nil ⟨Nat.zero_le _, od_neNil ⟨_, rfl, ?_⟩⟩
      rw [map_isEmpty]
      by_cases ce : ns.isEmpty = true
      · rw [ce]
        exact ifF <| ws_next ⟨_, rfl⟩
      · rw [Bool.not_eq_true] at ce
        rw [ce]
        have hl : 0 < ns.length := by
          cases ns with
          | nil => cases ce
          | cons _ _ => exact Nat.succ_pos _
        have hl' : (0 : Int) < ((ns.map Dt.int).length : Nat) := by rw [List.length_map]; omega
        have ei : ((c : Nat) : Int) % (((ns.map Dt.int).length : Nat) : Int) = ((c % ns.length : Nat) : Int) := by rw [List.length_map]; exact (Int.natCast_emod c ns.length).symm
        have eg : atI (ns.map Dt.int) (((c : Nat) : Int) % (((ns.map Dt.int).length : Nat) : Int)) = some (.int (ns[c % ns.length]'(Nat.mod_lt _ hl))) := by
          rw [ei]
          refine atI_nat' ?_
          rw [List.getElem?_map, List.getElem?_eq_getElem (Nat.mod_lt _ hl)]
          rfl
        refine ifT <| ws_asg (pf := true) <| wp_pen (i := 0) rfl <| w_op <| w_op <| w_var rfl <| w_c (fun _ => .int 0) <| od_ixL (d := .lst (ns.map Dt.int)) (atI_nat' (j := 0) rfl) <| w_op <| w_cb <| wa_cons <| w_var (d := .int c) rfl <| wa_nil <| rd_int <| w_cb <| wa_cons <| w_op <| w_var rfl <| w_c (fun _ => .int 0) <| od_ixL (d := .lst (ns.map Dt.int)) (atI_nat' (j := 0) rfl) <| wa_nil <| rd_len rfl <| od_I hl' <| od_ixL eg ⟨rfl, _, rfl⟩
    · rintro ρ' ⟨x, rfl⟩
      refine ws_seqI (fun ρ' => ρ' = [.pown [.lst (ns.map Dt.int), .int ((c + 1 : Nat)), .int g], .dat (.int m), .any, .dat (.int c), .dat (.int x), .any, .any]) ?_ ?_
      · refine ws_if (pf := true) <| wt_pen (i := 0) rfl <| wt_and <| wt_test <| w_op <| w_var (d := .int c) rfl <| w_cb <| wa_cons <| w_op <| w_var rfl <| w_c (fun _ => .int 0) <| od_ixL (d := .lst (ns.map Dt.int)) (atI_nat' (j := 0) rfl) <| wa_nil <| rd_len rfl <| od_I0b ⟨_, rfl, ?_⟩
        cases decide (((c : Nat) : Int) < (((ns.map Dt.int).length : Nat) : Int)) with
        | false => exact ifF <| ifF <| ws_next rfl
        | true =>
          refine ifT <| wt_test <| w_op <| w_cb <| wa_cons <| w_var (d := .int x) rfl <| wa_nil <| rd_abs <| w_op <| w_c (fun _ => .int 10) <| w_c (fun _ => .int 18) <| od_I ⟨by decide, by decide, by decide⟩ <| od_I0b ⟨_, rfl, ?_⟩
          by_cases cx : (10 : Int) ^ Int.toNat 18 ≤ (if x < 0 then -x else x)
          · rw [decide_eq_true cx]
            refine ifT <| ws_seq <| ws_asg (pf := true) <| w_op <| w_op <| w_c (fun _ => .int 2) <| w_op <| w_cb <| wa_cons <| w_var (d := .int x) rfl <| wa_nil <| rd_abs <| w_op <| w_c (fun _ => .int 10) <| w_c (fun _ => .int 18) <| od_I ⟨by decide, by decide, by decide⟩ <| od_I0i <| od_I (.inl ⟨by decide, by decide⟩) <| w_cb <| wa_cons <| w_op <| w_var (d := .int x) rfl <| w_c (fun _ => .int 0) <| od_I0b <| wa_nil <| rd_intb <| od_I0i ?_
            have hy : (0 : Int) ≤ 2 * ((if x < 0 then -x else x) - (10 : Int) ^ Int.toNat 18) + (if decide (x < 0) = true then 1 else 0) := by
              generalize (10 : Int) ^ Int.toNat 18 = t at cx ⊢
              split <;> omega
            generalize 2 * ((if x < 0 then -x else x) - (10 : Int) ^ Int.toNat 18) + (if decide (x < 0) = true then 1 else 0) = y at hy ⊢
            refine ws_seq <| ws_setpen (pf := true) (i := 0) rfl <| w_op <| w_cb <| wa_cons <| w_var (d := .int y) rfl <| wa_nil <| rd_int <| w_var (d := .int m) rfl <| od_I ⟨hm, hm2⟩ <| w_c (fun _ => .int 2) ⟨_, 2, rfl, rfl, by show 2 < 3; decide, ?_⟩
            refine ws_ret (pf := true) <| w_op <| w_cb <| wa_cons <| w_var (d := .int y) rfl <| wa_nil <| rd_int <| w_var (d := .int m) rfl <| od_I hm ⟨n + 1, _, rfl, ?_, qx y⟩
            exact .pown (ns := ns) (c := c + 1) (g := y / m) (by omega) (Int.ediv_nonneg hy (by omega)) h3
          · rw [decide_eq_false cx]
            exact ifF <| ws_next rfl
      · rintro ρ' rfl
        refine ws_seq <| ws_asg (pf := true) <| w_op <| w_cb <| wa_cons <| w_op <| w_op <| w_op <| w_op <| w_cb <| wa_cons <| w_var (d := .int x) rfl <| wa_nil <| rd_int <| w_c (fun _ => .int _) <| od_I (by show (0 : Int) < _; decide) <| w_op <| w_c (fun _ => .int _) <| w_var (d := .int c) rfl <| od_I (.inl ⟨by decide, by decide⟩) <| od_I0i <| w_c (fun _ => .int _) <| od_I0i <| w_c (fun _ => .int _) <| od_I ⟨by decide, by decide, ?_⟩ <| wa_nil <| rd_int <| w_c (fun _ => .int _) <| od_I (by show (0 : Int) < _; decide) ?_
        · omega
        generalize hy0 : (_ : Int) % (2147483647 : Int) = y
        have hy1 : 0 ≤ y := by rw [← hy0]; exact Int.emod_nonneg _ (by decide)
        have hy2 : y < 2147483647 := by rw [← hy0]; exact Int.emod_lt_of_pos _ (by decide)
        refine ws_seq <| ws_asg (pf := true) <| w_op <| w_cb <| wa_cons <| w_op <| w_op <| w_op <| w_op <| w_var (d := .int y) rfl <| w_op <| w_op <| w_c (fun _ => .int _) <| w_var (d := .int c) rfl <| od_I (.inl ⟨by decide, by decide⟩) <| w_c (fun _ => .int _) <| od_I0i <| od_I (.inl ⟨by omega, by omega⟩) <| w_op <| w_op <| w_c (fun _ => .int _) <| w_var (d := .int c) rfl <| od_I (.inl ⟨by decide, by decide⟩) <| w_var (d := .int c) rfl <| od_I (.inr ⟨by omega, by omega⟩) <| od_I0i <| w_c (fun _ => .int _) <| od_I0i <| w_c (fun _ => .int _) <| od_I ⟨by decide, by decide, ?_⟩ <| wa_nil <| rd_int <| w_c (fun _ => .int _) <| od_I (by show (0 : Int) < _; decide) ?_
        · have a1 : y * (2 * ((c : Nat) : Int) + 31) ≤ 2147483647 * 2000031 := Int.mul_le_mul (by omega) (by omega) (by omega) (by decide)
          have a2 : 0 ≤ y * (2 * ((c : Nat) : Int) + 31) := Int.mul_nonneg hy1 (by omega)
          have a3 : 60169 * ((c : Nat) : Int) * ((c : Nat) : Int) ≤ (60169 * 1000000) * 1000000 := Int.mul_le_mul (by omega) (by omega) (by omega) (by decide)
          have a4 : 0 ≤ 60169 * ((c : Nat) : Int) * ((c : Nat) : Int) := Int.mul_nonneg (by omega) (by omega)
          generalize y * (2 * ((c : Nat) : Int) + 31) = u1 at a1 a2 ⊢
          generalize 60169 * ((c : Nat) : Int) * ((c : Nat) : Int) = u2 at a3 a4 ⊢
          omega
        generalize (_ : Int) % (2147483563 : Int) = z
        refine ws_ret (pf := true) <| w_op <| w_cb <| wa_cons <| w_op <| w_var (d := .int z) rfl <| w_c (fun _ => .int _) <| od_I ⟨by decide, by decide⟩ <| wa_nil <| rd_int <| w_var (d := .int m) rfl <| od_I hm ⟨n + 1, _, rfl, ?_, qx _⟩
        exact .pown (ns := ns) (c := c + 1) (g := g) (by omega) h2 h3
end


structure Vt (mg : Str → Option Value) : Prop where
  v0 : mg "ValueError" = none
  v1 : mg "LookupError" = none
  v2 : mg "RuntimeError" = none
  v3 : mg "OverflowError" = none
abbrev sPick : Stmt := topS 32
theorem scPick : FnScope ["_law_pen", "_law_some"] ["_law_pen", "_law_some"] (defScope sPick) := ⟨rfl, rfl, rfl, by decide +kernel, rfl, by decide +kernel, by decide +kernel⟩
abbrev sAnyThing : Stmt := topS 33
theorem scAnyThing : FnScope ["_law_pen", "_law_some"] ["_law_pen"] (defScope sAnyThing) := ⟨rfl, rfl, rfl, by decide +kernel, rfl, by decide +kernel, by decide +kernel⟩
theorem lenD_seq {d : Dt} {xs : List Dt} (h : seqD d = some xs) : lenD d = some xs.length := by
  cases d with
  | lst ds => cases h; rfl
  | tup ds => cases h; rfl
  | _ => cases h
theorem neDK {X : Cx} (K : PySem.W.Frag) (h : X.K = K) (hu : X.A.units + 64 < cLine) : OpR X (compareOp .NotEq) (rNeD K) := by subst h; exact op_neD hu
theorem eqDK {X : Cx} (K : PySem.W.Frag) (h : X.K = K) (hu : X.A.units + 64 < cLine) : OpR X (compareOp .Eq) (rEqD K) := by subst h; exact op_eqD hu
theorem catLK {X : Cx} (K : PySem.W.Frag) (h : X.K = K) : OpR X (binaryOp .Add) (rCatL K) := by subst h; exact op_catL
theorem idxK {X : Cx} (K : PySem.W.Frag) (h : X.K = K) : MtR X "list.index" (rIndex K) := by subst h; exact mt_index
/-- lists of truths, lists of ints beside each other -/
theorem eqv_bls : ∀ xs ys : List Bool, PyData.eqvAll (pys (xs.map Dt.bl)) (pys (ys.map Dt.bl)) = decide (xs = ys)
  | [], [] => by simp [pys, PyData.eqvAll]
  | [], y :: ys => by simp [pys, PyData.eqvAll]
  | x :: xs, [] => by simp [pys, PyData.eqvAll]
  | x :: xs, y :: ys => by
    have ih := eqv_bls xs ys
    simp only [List.map_cons, pys, PyData.eqvAll, Dt.py, PyData.eqv, ih]
    by_cases h : x = y
    · subst h; simp
    · simp [h]
theorem eqv_ints : ∀ xs ys : List Int, PyData.eqvAll (pys (xs.map Dt.int)) (pys (ys.map Dt.int)) = decide (xs = ys)
  | [], [] => by simp [pys, PyData.eqvAll]
  | [], y :: ys => by simp [pys, PyData.eqvAll]
  | x :: xs, [] => by simp [pys, PyData.eqvAll]
  | x :: xs, y :: ys => by
    have ih := eqv_ints xs ys
    simp only [List.map_cons, pys, PyData.eqvAll, Dt.py, PyData.eqv, ih]
    by_cases h : x = y
    · subst h; simp
    · simp [h]
theorem shp_bls (xs : List Bool) : seqss (xs.map Dt.bl) = true ∧ SeqAt.shaped (Dt.lst (xs.map Dt.bl)).py = true := by
  have key : ∀ xs : List Bool, seqss (xs.map Dt.bl) = true ∧ PyData.canLayAll0 (pys (xs.map Dt.bl)) = true ∧ PyData.depthAll (pys (xs.map Dt.bl)) ≤ 1 := by
    intro xs
    induction xs with
    | nil => simp [seqss, pys, PyData.canLayAll0, PyData.depthAll]
    | cons x xs ih =>
      obtain ⟨h1, h2, h3⟩ := ih
      simp only [List.map_cons, seqss, Dt.seqs, pys, Dt.py, PyData.canLayAll0, PyData.canLay0, PyData.depthAll, PyData.depth, h1, h2, Bool.and_true, true_and]
      omega
  obtain ⟨h1, h2, h3⟩ := key xs
  refine ⟨h1, ?_⟩
  unfold SeqAt.shaped
  simp only [Dt.py, PyData.canLay0, PyData.depth, h2, Bool.true_and, decide_eq_true_eq]
  omega
theorem shp_ints (xs : List Int) : seqss (xs.map Dt.int) = true ∧ SeqAt.shaped (Dt.lst (xs.map Dt.int)).py = true := by
  have key : ∀ xs : List Int, seqss (xs.map Dt.int) = true ∧ PyData.canLayAll0 (pys (xs.map Dt.int)) = true ∧ PyData.depthAll (pys (xs.map Dt.int)) ≤ 1 := by
    intro xs
    induction xs with
    | nil => simp [seqss, pys, PyData.canLayAll0, PyData.depthAll]
    | cons x xs ih =>
      obtain ⟨h1, h2, h3⟩ := ih
      simp only [List.map_cons, seqss, Dt.seqs, pys, Dt.py, PyData.canLayAll0, PyData.canLay0, PyData.depthAll, PyData.depth, h1, h2, Bool.and_true, true_and]
      omega
  obtain ⟨h1, h2, h3⟩ := key xs
  refine ⟨h1, ?_⟩
  unfold SeqAt.shaped
  simp only [Dt.py, PyData.canLay0, PyData.depth, h2, Bool.true_and, decide_eq_true_eq]
  omega
section
variable {K : PySem.W.Frag} {Ψ : Dt → Prop}
theorem od_neBls {xs ys : List Bool} (h : Ψ (.bl (!decide (xs = ys)))) : OD K (rNeD K) (.lst (xs.map Dt.bl)) (.lst (ys.map Dt.bl)) Ψ := fun M H u v m h1 h2 Q q => by
  refine ⟨_, _, (h1.mono (cut_sub M H)).dp (by simp only [Dt.seqs]; exact (shp_bls xs).1), (h2.mono (cut_sub M H)).dp (by simp only [Dt.seqs]; exact (shp_bls ys).1), (shp_bls xs).2, (shp_bls ys).2, ?_⟩
  have e : PyData.eqv (Dt.lst (xs.map Dt.bl)).py (Dt.lst (ys.map Dt.bl)).py = decide (xs = ys) := by simp only [Dt.py, PyData.eqv]; exact eqv_bls xs ys
  rw [e]
  exact q _ H _ (Same.refl H) (.bl _) h
theorem od_eqInts {xs ys : List Int} (h : Ψ (.bl (decide (xs = ys)))) : OD K (rEqD K) (.lst (xs.map Dt.int)) (.lst (ys.map Dt.int)) Ψ := fun M H u v m h1 h2 Q q => by
  refine ⟨_, _, (h1.mono (cut_sub M H)).dp (by simp only [Dt.seqs]; exact (shp_ints xs).1), (h2.mono (cut_sub M H)).dp (by simp only [Dt.seqs]; exact (shp_ints ys).1), (shp_ints xs).2, (shp_ints ys).2, ?_⟩
  have e : PyData.eqv (Dt.lst (xs.map Dt.int)).py (Dt.lst (ys.map Dt.int)).py = decide (xs = ys) := by simp only [Dt.py, PyData.eqv]; exact eqv_ints xs ys
  rw [e]
  exact q _ H _ (Same.refl H) (.bl _) h
end
section
variable {K : PySem.W.Frag} {ρ : List Sl} {te : TE} {D : DE} {pf : Bool} {g : TG} {js : List Nat}
theorem ws_asgG (h : Wp K pf te ρ fun d ρ' => WG K g js d ρ' D.nx) : Ws K (tAsg te g) ρ D := fun M σ H S E k =>
  h M σ H S _ fun v H1 d ρ1 s1 S1 x1 f => f M σ H1 v S1 x1 _ fun σ' ρ' _ S' z => k.nx M σ' H1 ρ' s1.st S' z
end
section
variable {P : Program} {w : World} {K : PySem.W.Frag} {mg : Str → Option Value} {base : Heap} {c b : Nat → Addr}
def WPick : Nat → List Dt → (Dt → Nat → Prop) → Prop := fun n ds Φ => ∃ d xs, ds = [d] ∧ seqD d = some xs ∧ 0 < xs.length ∧ xs.length ≤ 1000 ∧ n < 1000000 ∧ ∀ x ∈ xs, Φ x (n + 1)
theorem ok_pick {f fD : Addr} {fd fdD : FuncData} {k : Nat} (F : Fun K "_law_pick" "_law_pick" sPick f fd) (FD : Fun K "_law_draw" "_law_draw" sDraw fD fdD) (bD : Binds K fdD ["_law_pen", "_law_many"] []) (gD : mg "_law_draw" = some (.ref fD)) (B : Bt mg)
    (G : FnG P w K mg base CX0 k fD fdD ["_law_pen", "_law_many"] (spN K WDraw)) : FnG P w K mg base CX0 (k + 1) f fd ["_law_pen", "_law_some"] (spN K WPick) := by
  refine defN F scPick (fun n ds Φ ⟨m, _, e, _⟩ => by rw [e]; rfl) (by decide) fun cdv A outer s H E hr hg => ?_
  refine ⟨_, pss_one (ps_ret (pe_ix ix_seq (pv 1) (pe_callG G hr hg (by rfl) gD FD.kp bD .nil pass0 (pa_cons (pv 0) (pa_cons (pe_callB call_len (by rfl) B.len PySem.boot_len (pa_cons (pv 1) pa_nil)) pa_nil))) (fun _ _ => rfl))), ?_⟩
  rintro n ds Φ ⟨d, xs, rfl, hs, h1, h2, hn, q⟩
  refine ws_ret (pf := false) <| w_op <| w_var rfl <| w_callN (i := 0) rfl <| wa_cons <| w_cb <| wa_cons <| w_var rfl <| wa_nil <| rd_len (lenD_seq hs) <| wa_nil ⟨n, rfl, xs.length, rfl, by omega, by omega, hn, fun r hr => ?_⟩
  have hr : r < xs.length := by omega
  exact od_ix hs (atI_nat' (List.getElem?_eq_getElem hr)) ⟨n + 1, _, rfl, .pen (Nat.le_refl _), q _ (List.getElem_mem hr)⟩
/-! ### things -/
def things (a b : Addr) : List Dt := [.non, .bl true, .int 0, .int 1, .int (-7), .str "", .str "a", .str "shore", .tup [], .tup [.str "a", .int 1], .lst [], .lst [.str "a", .non], .dct a [], .dct b [(.inr "a", .lst [.int 1])], .int ((10 : Int) ^ Int.toNat 59), .str "a b"]
def thingsPy : List PyData := [.none, .bool true, .int 0, .int 1, .int (-7), .str "", .str "a", .str "shore", .tuple [], .tuple [.str "a", .int 1], .list [], .list [.str "a", .none], .dict [], .dict [(.str "a", .list [.int 1])], .int ((10 : Int) ^ Int.toNat 59), .str "a b"]
theorem things_py (a b : Addr) : (things a b).map Dt.py = thingsPy := rfl
theorem things_pure (a b : Addr) : (things a b).all Dt.pure = true := rfl
theorem thingsPy_ok : (thingsPy.all fun p => p.showable && decide (p.depth ≤ 3) && p.leavesShort 64 && decide (p.weight ≤ 300)) = true := by decide +kernel
def Thg (d : Dt) : Prop := ∃ a b, d ∈ things a b
structure PyOk (p : PyData) : Prop where
  sh : p.showable = true
  dep : p.depth ≤ 3
  lv : p.leavesShort 64 = true
  wt : p.weight ≤ 300
theorem Thg.py {d : Dt} (h : Thg d) : d.pure = true ∧ PyOk d.py := by
  obtain ⟨a, b, h⟩ := h
  refine ⟨List.all_eq_true.mp (things_pure a b) _ h, ?_⟩
  have hm : d.py ∈ thingsPy := by rw [← things_py a b]; exact List.mem_map_of_mem h
  have := List.all_eq_true.mp thingsPy_ok _ hm
  simp only [Bool.and_eq_true, decide_eq_true_eq] at this
  exact ⟨this.1.1.1, this.1.1.2, this.1.2, this.2⟩
theorem fit_of {d : Dt} (hp : d.pure = true) (sh : d.py.showable = true) (dep : d.py.depth ≤ 60) (lv : d.py.leavesShort 64 = true) (wt : d.py.weight ≤ 10000) : Fit d := by
  refine ⟨hp, sh, dep, ?_⟩
  have h := PyData.shown_le 64 (by decide) d.py lv
  have h2 : (64 + 2) * d.py.weight ≤ 66 * 10000 := Nat.mul_le_mul (by omega) wt
  rw [sizeLine_eq]
  omega
theorem rows_py : ∀ {ys : List Dt}, (∀ y ∈ ys, Thg y) → pures ys = true ∧ PyData.showableAll (pys ys) = true ∧ PyData.depthAll (pys ys) ≤ 3 ∧ PyData.leavesShortAll 64 (pys ys) = true ∧ PyData.weightAll (pys ys) ≤ 301 * ys.length
  | [], _ => by simp [pures, pys, PyData.showableAll, PyData.depthAll, PyData.leavesShortAll, PyData.weightAll]
  | y :: ys, h => by
    obtain ⟨a1, a2⟩ := (h y List.mem_cons_self).py
    obtain ⟨b1, b2, b3, b4, b5⟩ := rows_py (ys := ys) fun x hx => h x (List.mem_cons_of_mem _ hx)
    have := a2.wt
    have := a2.dep
    simp only [pures, pys, PyData.showableAll, PyData.depthAll, PyData.leavesShortAll, PyData.weightAll, a1, b1, a2.sh, b2, a2.lv, b4, Bool.and_true, List.length_cons, true_and, and_true]
    omega
theorem fit_row {ys : List Dt} (hl : ys.length ≤ 7) (h : ∀ y ∈ ys, Thg y) : Fit (.lst ys) := by
  obtain ⟨b1, b2, b3, b4, b5⟩ := rows_py h
  exact fit_of (by simp only [Dt.pure]; exact b1) (by simp only [Dt.py, PyData.showable]; exact b2) (by simp only [Dt.py, PyData.depth]; omega) (by simp only [Dt.py, PyData.leavesShort]; exact b4) (by simp only [Dt.py, PyData.weight]; omega)
def WAny : Nat → List Dt → (Dt → Nat → Prop) → Prop := fun n ds Φ => ds = [] ∧ n < 900000 ∧ ∀ d, Thg d → Φ d (n + 1)
theorem ok_any {f : Addr} {fd : FuncData} {k : Nat} (F : Fun K "_law_any_thing" "_law_any_thing" sAnyThing f fd) (dPick : DF K mg "_law_pick" sPick ["_law_pen", "_law_some"])
    (gPick : FnG P w K mg base CX0 k dPick.f dPick.fd ["_law_pen", "_law_some"] (spN K WPick)) : FnG P w K mg base CX0 (k + 1) f fd ["_law_pen"] (spN K WAny) := by
  refine defN F scAnyThing (fun n ds Φ ⟨e, _⟩ => by rw [e]; rfl) (by decide) fun cdv A outer s H E hr hg => ?_
  refine ⟨_, pss_cons (ps_set (i := 1) scAnyThing.nd rfl (Or.inl rfl) (pe_lst (pa_cons pe_non (pa_cons pe_bl (pa_cons pe_int (pa_cons pe_int (pa_cons (pe_un un_neg pe_int) (pa_cons pe_str (pa_cons pe_str (pa_cons pe_str (pa_cons (pe_tup pa_nil) (pa_cons (pe_tup (pa_cons pe_str (pa_cons pe_int pa_nil))) (pa_cons (pe_lst pa_nil) (pa_cons (pe_lst (pa_cons pe_str (pa_cons pe_non pa_nil))) (pa_cons pe_dnewK (pa_cons (pe_disp (pps_cons pe_str (pe_lst (pa_cons pe_int pa_nil)) pps_nil) rfl rfl (by simp) (by decide)) (pa_cons (pe_op op_pow pe_int pe_int) (pa_cons pe_str pa_nil))))))))))))))))))
    <| pss_one (ps_ret (pe_callG gPick hr hg (by rfl) dPick.g dPick.F.kp dPick.b .nil pass0 (pa_cons (pv 0) (pa_cons (pv 1) pa_nil)))), ?_⟩
  rintro n ds Φ ⟨rfl, hn, q⟩
  refine ws_seq <| ws_asg (pf := false) <| w_lst <| wa_cons <| w_c (fun _ => .non) <| wa_cons <| w_c (fun _ => .bl _) <| wa_cons <| w_c (fun _ => .int _) <| wa_cons <| w_c (fun _ => .int _) <| wa_cons <| w_un <| w_c (fun _ => .int _) <| ud_U
    <| wa_cons <| w_c (fun _ => .str _) <| wa_cons <| w_c (fun _ => .str _) <| wa_cons <| w_c (fun _ => .str _) <| wa_cons <| w_tup <| wa_nil ⟨Nat.zero_le _, wa_cons <| w_tup <| wa_cons <| w_c (fun _ => .str _) <| wa_cons <| w_c (fun _ => .int _) <| wa_nil ⟨by show 2 ≤ 100000; decide,
      wa_cons <| w_lst <| wa_nil ⟨Nat.zero_le _, wa_cons <| w_lst <| wa_cons <| w_c (fun _ => .str _) <| wa_cons <| w_c (fun _ => .non) <| wa_nil ⟨by show 2 ≤ 100000; decide, wa_cons <| w_dnewK fun a => wa_cons <| w_disp1 <| w_lst <| wa_cons <| w_c (fun _ => .int _) <| wa_nil ⟨by show 1 ≤ 100000; decide, fun b =>
        wa_cons <| w_op <| w_c (fun _ => .int _) <| w_c (fun _ => .int _) <| od_I ⟨by decide, by decide, by decide⟩ <| wa_cons <| w_c (fun _ => .str _) <| wa_nil ⟨by show 16 ≤ 100000; decide, ?_⟩⟩⟩⟩⟩⟩
  refine ws_ret (pf := false) <| w_callN (i := 0) rfl <| wa_cons <| w_var (d := .lst (things a b)) rfl <| wa_nil ⟨n, rfl, .lst (things a b), things a b, rfl, rfl, by show 0 < 16; decide, by show 16 ≤ 1000; decide, by omega, fun x hx => ⟨n + 1, _, rfl, .pen (Nat.le_refl _), q x ⟨a, b, hx⟩⟩⟩

/-! ### _law_first_flags -/
end
abbrev sFirstFlags : Stmt := topS 34
theorem scFirstFlags : FnScope ["_law_caught", "_law_flags"] ["_law_caught"] (defScope sFirstFlags) := ⟨rfl, rfl, rfl, by decide +kernel, rfl, by decide +kernel, by decide +kernel⟩
section
variable {P : Program} {w : World} {K : PySem.W.Frag} {mg : Str → Option Value} {base : Heap} {c b : Nat → Addr}
def flags (i : Nat) : List Bool := (List.range 24).map fun j => decide (i = j)
def WFirst (c : Nat → Addr) : List Dt → (Dt → Prop) → Prop := fun ds Φ => ∃ i a ns es, ds = [.exc (c i) a ns es] ∧ i < 24 ∧ Φ (.lst ((flags i).map Dt.bl))
theorem ok_first {f : Addr} {fd : FuncData} (F : Fun K "_law_first_flags" "_law_first_flags" sFirstFlags f fd) (B : Bt mg) (T : Tab K mg c b) : FnG P w K mg base CX0 1 f fd ["_law_caught"] (spP K (WFirst c)) := by
  refine defP F scFirstFlags (fun ds Φ ⟨i, a, ns, es, e, _⟩ => by rw [e]; rfl) (by decide) fun cdv A outer s H E hr hg => ?_
  refine ⟨_, pss_cons (ps_set (i := 1) scFirstFlags.nd rfl (Or.inl rfl) (pe_lst (pa_cons (pe_callB (isXK K rfl) (by rfl) B.isi boot_isinstance (pa_cons (pv 0) (pa_cons (pe_glob (v := .ref (c 0)) (by rfl) T.e0.g rfl) pa_nil))) (pa_cons (pe_callB (isXK K rfl) (by rfl) B.isi boot_isinstance (pa_cons (pv 0) (pa_cons (pe_glob (v := .ref (c 1)) (by rfl) T.e1.g rfl) pa_nil))) (pa_cons (pe_callB (isXK K rfl) (by rfl) B.isi boot_isinstance (pa_cons (pv 0) (pa_cons (pe_glob (v := .ref (c 2)) (by rfl) T.e2.g rfl) pa_nil))) pa_nil)))))
    <| pss_cons (ps_set (i := 1) scFirstFlags.nd rfl (Or.inl rfl) (pe_op op_catL (pv 1) (pe_lst (pa_cons (pe_callB (isXK K rfl) (by rfl) B.isi boot_isinstance (pa_cons (pv 0) (pa_cons (pe_glob (v := .ref (c 3)) (by rfl) T.e3.g rfl) pa_nil))) (pa_cons (pe_callB (isXK K rfl) (by rfl) B.isi boot_isinstance (pa_cons (pv 0) (pa_cons (pe_glob (v := .ref (c 4)) (by rfl) T.e4.g rfl) pa_nil))) (pa_cons (pe_callB (isXK K rfl) (by rfl) B.isi boot_isinstance (pa_cons (pv 0) (pa_cons (pe_glob (v := .ref (c 5)) (by rfl) T.e5.g rfl) pa_nil))) pa_nil))))))
    <| pss_cons (ps_set (i := 1) scFirstFlags.nd rfl (Or.inl rfl) (pe_op op_catL (pv 1) (pe_lst (pa_cons (pe_callB (isXK K rfl) (by rfl) B.isi boot_isinstance (pa_cons (pv 0) (pa_cons (pe_glob (v := .ref (c 6)) (by rfl) T.e6.g rfl) pa_nil))) (pa_cons (pe_callB (isXK K rfl) (by rfl) B.isi boot_isinstance (pa_cons (pv 0) (pa_cons (pe_glob (v := .ref (c 7)) (by rfl) T.e7.g rfl) pa_nil))) pa_nil)))))
    <| pss_cons (ps_set (i := 1) scFirstFlags.nd rfl (Or.inl rfl) (pe_op op_catL (pv 1) (pe_lst (pa_cons (pe_callB (isXK K rfl) (by rfl) B.isi boot_isinstance (pa_cons (pv 0) (pa_cons (pe_glob (v := .ref (c 8)) (by rfl) T.e8.g rfl) pa_nil))) (pa_cons (pe_callB (isXK K rfl) (by rfl) B.isi boot_isinstance (pa_cons (pv 0) (pa_cons (pe_glob (v := .ref (c 9)) (by rfl) T.e9.g rfl) pa_nil))) (pa_cons (pe_callB (isXK K rfl) (by rfl) B.isi boot_isinstance (pa_cons (pv 0) (pa_cons (pe_glob (v := .ref (c 10)) (by rfl) T.e10.g rfl) pa_nil))) pa_nil))))))
    <| pss_cons (ps_set (i := 1) scFirstFlags.nd rfl (Or.inl rfl) (pe_op op_catL (pv 1) (pe_lst (pa_cons (pe_callB (isXK K rfl) (by rfl) B.isi boot_isinstance (pa_cons (pv 0) (pa_cons (pe_glob (v := .ref (c 11)) (by rfl) T.e11.g rfl) pa_nil))) (pa_cons (pe_callB (isXK K rfl) (by rfl) B.isi boot_isinstance (pa_cons (pv 0) (pa_cons (pe_glob (v := .ref (c 12)) (by rfl) T.e12.g rfl) pa_nil))) (pa_cons (pe_callB (isXK K rfl) (by rfl) B.isi boot_isinstance (pa_cons (pv 0) (pa_cons (pe_glob (v := .ref (c 13)) (by rfl) T.e13.g rfl) pa_nil))) pa_nil))))))
    <| pss_cons (ps_set (i := 1) scFirstFlags.nd rfl (Or.inl rfl) (pe_op op_catL (pv 1) (pe_lst (pa_cons (pe_callB (isXK K rfl) (by rfl) B.isi boot_isinstance (pa_cons (pv 0) (pa_cons (pe_glob (v := .ref (c 14)) (by rfl) T.e14.g rfl) pa_nil))) (pa_cons (pe_callB (isXK K rfl) (by rfl) B.isi boot_isinstance (pa_cons (pv 0) (pa_cons (pe_glob (v := .ref (c 15)) (by rfl) T.e15.g rfl) pa_nil))) (pa_cons (pe_callB (isXK K rfl) (by rfl) B.isi boot_isinstance (pa_cons (pv 0) (pa_cons (pe_glob (v := .ref (c 16)) (by rfl) T.e16.g rfl) pa_nil))) pa_nil))))))
    <| pss_cons (ps_set (i := 1) scFirstFlags.nd rfl (Or.inl rfl) (pe_op op_catL (pv 1) (pe_lst (pa_cons (pe_callB (isXK K rfl) (by rfl) B.isi boot_isinstance (pa_cons (pv 0) (pa_cons (pe_glob (v := .ref (c 17)) (by rfl) T.e17.g rfl) pa_nil))) (pa_cons (pe_callB (isXK K rfl) (by rfl) B.isi boot_isinstance (pa_cons (pv 0) (pa_cons (pe_glob (v := .ref (c 18)) (by rfl) T.e18.g rfl) pa_nil))) (pa_cons (pe_callB (isXK K rfl) (by rfl) B.isi boot_isinstance (pa_cons (pv 0) (pa_cons (pe_glob (v := .ref (c 19)) (by rfl) T.e19.g rfl) pa_nil))) pa_nil))))))
    <| pss_cons (ps_set (i := 1) scFirstFlags.nd rfl (Or.inl rfl) (pe_op op_catL (pv 1) (pe_lst (pa_cons (pe_callB (isXK K rfl) (by rfl) B.isi boot_isinstance (pa_cons (pv 0) (pa_cons (pe_glob (v := .ref (c 20)) (by rfl) T.e20.g rfl) pa_nil))) (pa_cons (pe_callB (isXK K rfl) (by rfl) B.isi boot_isinstance (pa_cons (pv 0) (pa_cons (pe_glob (v := .ref (c 21)) (by rfl) T.e21.g rfl) pa_nil))) (pa_cons (pe_callB (isXK K rfl) (by rfl) B.isi boot_isinstance (pa_cons (pv 0) (pa_cons (pe_glob (v := .ref (c 22)) (by rfl) T.e22.g rfl) pa_nil))) pa_nil))))))
    <| pss_one (ps_ret (pe_op op_catL (pv 1) (pe_lst (pa_cons (pe_callB (isXK K rfl) (by rfl) B.isi boot_isinstance (pa_cons (pv 0) (pa_cons (pe_glob (v := .ref (c 23)) (by rfl) T.e23.g rfl) pa_nil))) pa_nil)))), ?_⟩
  rintro ds Φ ⟨i, a, ns, es, rfl, hi, q⟩
  have q : Φ (.lst [.bl (decide (i = 0)), .bl (decide (i = 1)), .bl (decide (i = 2)), .bl (decide (i = 3)), .bl (decide (i = 4)), .bl (decide (i = 5)), .bl (decide (i = 6)), .bl (decide (i = 7)), .bl (decide (i = 8)), .bl (decide (i = 9)), .bl (decide (i = 10)), .bl (decide (i = 11)), .bl (decide (i = 12)), .bl (decide (i = 13)), .bl (decide (i = 14)), .bl (decide (i = 15)), .bl (decide (i = 16)), .bl (decide (i = 17)), .bl (decide (i = 18)), .bl (decide (i = 19)), .bl (decide (i = 20)), .bl (decide (i = 21)), .bl (decide (i = 22)), .bl (decide (i = 23))]) := q
  refine ws_seq <| ws_asg (pf := true) <| w_lst <| wa_cons <| w_is T hi rfl (j := 0) (by decide) <| wa_cons <| w_is T hi rfl (j := 1) (by decide) <| wa_cons <| w_is T hi rfl (j := 2) (by decide) <| wa_nil ⟨by show 3 ≤ 100000; decide, ?_⟩
  show Ws K _ [.dat (.exc (c i) a ns es), .dat (.lst [.bl (decide (i = 0)), .bl (decide (i = 1)), .bl (decide (i = 2))])] _
  refine ws_seq <| ws_asg (pf := true) <| w_op <| w_var (d := .lst [.bl (decide (i = 0)), .bl (decide (i = 1)), .bl (decide (i = 2))]) rfl <| w_lst <| wa_cons <| w_is T hi rfl (j := 3) (by decide) <| wa_cons <| w_is T hi rfl (j := 4) (by decide) <| wa_cons <| w_is T hi rfl (j := 5) (by decide) <| wa_nil ⟨by show 3 ≤ 100000; decide, od_cat (by show 3 + 3 ≤ 100000; decide) ?_⟩
  show Ws K _ [.dat (.exc (c i) a ns es), .dat (.lst [.bl (decide (i = 0)), .bl (decide (i = 1)), .bl (decide (i = 2)), .bl (decide (i = 3)), .bl (decide (i = 4)), .bl (decide (i = 5))])] _
  refine ws_seq <| ws_asg (pf := true) <| w_op <| w_var (d := .lst [.bl (decide (i = 0)), .bl (decide (i = 1)), .bl (decide (i = 2)), .bl (decide (i = 3)), .bl (decide (i = 4)), .bl (decide (i = 5))]) rfl <| w_lst <| wa_cons <| w_is T hi rfl (j := 6) (by decide) <| wa_cons <| w_is T hi rfl (j := 7) (by decide) <| wa_nil ⟨by show 2 ≤ 100000; decide, od_cat (by show 6 + 2 ≤ 100000; decide) ?_⟩
  show Ws K _ [.dat (.exc (c i) a ns es), .dat (.lst [.bl (decide (i = 0)), .bl (decide (i = 1)), .bl (decide (i = 2)), .bl (decide (i = 3)), .bl (decide (i = 4)), .bl (decide (i = 5)), .bl (decide (i = 6)), .bl (decide (i = 7))])] _
  refine ws_seq <| ws_asg (pf := true) <| w_op <| w_var (d := .lst [.bl (decide (i = 0)), .bl (decide (i = 1)), .bl (decide (i = 2)), .bl (decide (i = 3)), .bl (decide (i = 4)), .bl (decide (i = 5)), .bl (decide (i = 6)), .bl (decide (i = 7))]) rfl <| w_lst <| wa_cons <| w_is T hi rfl (j := 8) (by decide) <| wa_cons <| w_is T hi rfl (j := 9) (by decide) <| wa_cons <| w_is T hi rfl (j := 10) (by decide) <| wa_nil ⟨by show 3 ≤ 100000; decide, od_cat (by show 8 + 3 ≤ 100000; decide) ?_⟩
  show Ws K _ [.dat (.exc (c i) a ns es), .dat (.lst [.bl (decide (i = 0)), .bl (decide (i = 1)), .bl (decide (i = 2)), .bl (decide (i = 3)), .bl (decide (i = 4)), .bl (decide (i = 5)), .bl (decide (i = 6)), .bl (decide (i = 7)), .bl (decide (i = 8)), .bl (decide (i = 9)), .bl (decide (i = 10))])] _
  refine ws_seq <| ws_asg (pf := true) <| w_op <| w_var (d := .lst [.bl (decide (i = 0)), .bl (decide (i = 1)), .bl (decide (i = 2)), .bl (decide (i = 3)), .bl (decide (i = 4)), .bl (decide (i = 5)), .bl (decide (i = 6)), .bl (decide (i = 7)), .bl (decide (i = 8)), .bl (decide (i = 9)), .bl (decide (i = 10))]) rfl <| w_lst <| wa_cons <| w_is T hi rfl (j := 11) (by decide) <| wa_cons <| w_is T hi rfl (j := 12) (by decide) <| wa_cons <| w_is T hi rfl (j := 13) (by decide) <| wa_nil ⟨by show 3 ≤ 100000; decide, od_cat (by show 11 + 3 ≤ 100000; decide) ?_⟩
  show Ws K _ [.dat (.exc (c i) a ns es), .dat (.lst [.bl (decide (i = 0)), .bl (decide (i = 1)), .bl (decide (i = 2)), .bl (decide (i = 3)), .bl (decide (i = 4)), .bl (decide (i = 5)), .bl (decide (i = 6)), .bl (decide (i = 7)), .bl (decide (i = 8)), .bl (decide (i = 9)), .bl (decide (i = 10)), .bl (decide (i = 11)), .bl (decide (i = 12)), .bl (decide (i = 13))])] _
  refine ws_seq <| ws_asg (pf := true) <| w_op <| w_var (d := .lst [.bl (decide (i = 0)), .bl (decide (i = 1)), .bl (decide (i = 2)), .bl (decide (i = 3)), .bl (decide (i = 4)), .bl (decide (i = 5)), .bl (decide (i = 6)), .bl (decide (i = 7)), .bl (decide (i = 8)), .bl (decide (i = 9)), .bl (decide (i = 10)), .bl (decide (i = 11)), .bl (decide (i = 12)), .bl (decide (i = 13))]) rfl <| w_lst <| wa_cons <| w_is T hi rfl (j := 14) (by decide) <| wa_cons <| w_is T hi rfl (j := 15) (by decide) <| wa_cons <| w_is T hi rfl (j := 16) (by decide) <| wa_nil ⟨by show 3 ≤ 100000; decide, od_cat (by show 14 + 3 ≤ 100000; decide) ?_⟩
  show Ws K _ [.dat (.exc (c i) a ns es), .dat (.lst [.bl (decide (i = 0)), .bl (decide (i = 1)), .bl (decide (i = 2)), .bl (decide (i = 3)), .bl (decide (i = 4)), .bl (decide (i = 5)), .bl (decide (i = 6)), .bl (decide (i = 7)), .bl (decide (i = 8)), .bl (decide (i = 9)), .bl (decide (i = 10)), .bl (decide (i = 11)), .bl (decide (i = 12)), .bl (decide (i = 13)), .bl (decide (i = 14)), .bl (decide (i = 15)), .bl (decide (i = 16))])] _
  refine ws_seq <| ws_asg (pf := true) <| w_op <| w_var (d := .lst [.bl (decide (i = 0)), .bl (decide (i = 1)), .bl (decide (i = 2)), .bl (decide (i = 3)), .bl (decide (i = 4)), .bl (decide (i = 5)), .bl (decide (i = 6)), .bl (decide (i = 7)), .bl (decide (i = 8)), .bl (decide (i = 9)), .bl (decide (i = 10)), .bl (decide (i = 11)), .bl (decide (i = 12)), .bl (decide (i = 13)), .bl (decide (i = 14)), .bl (decide (i = 15)), .bl (decide (i = 16))]) rfl <| w_lst <| wa_cons <| w_is T hi rfl (j := 17) (by decide) <| wa_cons <| w_is T hi rfl (j := 18) (by decide) <| wa_cons <| w_is T hi rfl (j := 19) (by decide) <| wa_nil ⟨by show 3 ≤ 100000; decide, od_cat (by show 17 + 3 ≤ 100000; decide) ?_⟩
  show Ws K _ [.dat (.exc (c i) a ns es), .dat (.lst [.bl (decide (i = 0)), .bl (decide (i = 1)), .bl (decide (i = 2)), .bl (decide (i = 3)), .bl (decide (i = 4)), .bl (decide (i = 5)), .bl (decide (i = 6)), .bl (decide (i = 7)), .bl (decide (i = 8)), .bl (decide (i = 9)), .bl (decide (i = 10)), .bl (decide (i = 11)), .bl (decide (i = 12)), .bl (decide (i = 13)), .bl (decide (i = 14)), .bl (decide (i = 15)), .bl (decide (i = 16)), .bl (decide (i = 17)), .bl (decide (i = 18)), .bl (decide (i = 19))])] _
  refine ws_seq <| ws_asg (pf := true) <| w_op <| w_var (d := .lst [.bl (decide (i = 0)), .bl (decide (i = 1)), .bl (decide (i = 2)), .bl (decide (i = 3)), .bl (decide (i = 4)), .bl (decide (i = 5)), .bl (decide (i = 6)), .bl (decide (i = 7)), .bl (decide (i = 8)), .bl (decide (i = 9)), .bl (decide (i = 10)), .bl (decide (i = 11)), .bl (decide (i = 12)), .bl (decide (i = 13)), .bl (decide (i = 14)), .bl (decide (i = 15)), .bl (decide (i = 16)), .bl (decide (i = 17)), .bl (decide (i = 18)), .bl (decide (i = 19))]) rfl <| w_lst <| wa_cons <| w_is T hi rfl (j := 20) (by decide) <| wa_cons <| w_is T hi rfl (j := 21) (by decide) <| wa_cons <| w_is T hi rfl (j := 22) (by decide) <| wa_nil ⟨by show 3 ≤ 100000; decide, od_cat (by show 20 + 3 ≤ 100000; decide) ?_⟩
  show Ws K _ [.dat (.exc (c i) a ns es), .dat (.lst [.bl (decide (i = 0)), .bl (decide (i = 1)), .bl (decide (i = 2)), .bl (decide (i = 3)), .bl (decide (i = 4)), .bl (decide (i = 5)), .bl (decide (i = 6)), .bl (decide (i = 7)), .bl (decide (i = 8)), .bl (decide (i = 9)), .bl (decide (i = 10)), .bl (decide (i = 11)), .bl (decide (i = 12)), .bl (decide (i = 13)), .bl (decide (i = 14)), .bl (decide (i = 15)), .bl (decide (i = 16)), .bl (decide (i = 17)), .bl (decide (i = 18)), .bl (decide (i = 19)), .bl (decide (i = 20)), .bl (decide (i = 21)), .bl (decide (i = 22))])] _
  refine ws_ret (pf := true) <| w_op <| w_var (d := .lst [.bl (decide (i = 0)), .bl (decide (i = 1)), .bl (decide (i = 2)), .bl (decide (i = 3)), .bl (decide (i = 4)), .bl (decide (i = 5)), .bl (decide (i = 6)), .bl (decide (i = 7)), .bl (decide (i = 8)), .bl (decide (i = 9)), .bl (decide (i = 10)), .bl (decide (i = 11)), .bl (decide (i = 12)), .bl (decide (i = 13)), .bl (decide (i = 14)), .bl (decide (i = 15)), .bl (decide (i = 16)), .bl (decide (i = 17)), .bl (decide (i = 18)), .bl (decide (i = 19)), .bl (decide (i = 20)), .bl (decide (i = 21)), .bl (decide (i = 22))]) rfl <| w_lst <| wa_cons <| w_is T hi rfl (j := 23) (by decide) <| wa_nil ⟨by show 1 ≤ 100000; decide, od_cat (by show 23 + 1 ≤ 100000; decide) q⟩

/-! ### _law_base_flags -/
end
abbrev sBaseFlags : Stmt := topS 35
theorem scBaseFlags : FnScope ["_law_caught", "_law_flags"] ["_law_caught"] (defScope sBaseFlags) := ⟨rfl, rfl, rfl, by decide +kernel, rfl, by decide +kernel, by decide +kernel⟩
section
variable {P : Program} {w : World} {K : PySem.W.Frag} {mg : Str → Option Value} {base : Heap} {c b : Nat → Addr}
def bflags (i : Nat) : List Bool := (List.range 4).map fun j => decide (bo i = j)
def WBase (c : Nat → Addr) : List Dt → (Dt → Prop) → Prop := fun ds Φ => ∃ i a ns es, ds = [.exc (c i) a ns es] ∧ i < 24 ∧ Φ (.lst ((bflags i).map Dt.bl))
theorem ok_base {f : Addr} {fd : FuncData} (F : Fun K "_law_base_flags" "_law_base_flags" sBaseFlags f fd) (B : Bt mg) (V : Vt mg) (T : Tab K mg c b) : FnG P w K mg base CX0 1 f fd ["_law_caught"] (spP K (WBase c)) := by
  refine defP F scBaseFlags (fun ds Φ ⟨i, a, ns, es, e, _⟩ => by rw [e]; rfl) (by decide) fun cdv A outer s H E hr hg => ?_
  refine ⟨_, pss_cons (ps_set (i := 1) scBaseFlags.nd rfl (Or.inl rfl) (pe_lst (pa_cons (pe_and (pe_callB (isXK K rfl) (by rfl) B.isi boot_isinstance (pa_cons (pv 0) (pa_cons (pe_glob (v := .ref (b 0)) (by rfl) T.n0 rfl) pa_nil))) (pe_one (pe_callB (isXK K rfl) (by rfl) B.isi boot_isinstance (pa_cons (pv 0) (pa_cons (pe_bltn (v := .ty "ValueError") (by rfl) V.v0 PyProof.Rows.Boot.«ValueError» rfl) pa_nil))))) (pa_cons (pe_callB (isXK K rfl) (by rfl) B.isi boot_isinstance (pa_cons (pv 0) (pa_cons (pe_glob (v := .ref (b 1)) (by rfl) T.n1 rfl) pa_nil))) pa_nil))))
    <| pss_cons (ps_expr (pe_bm PySem.F.plainAttrs_list PySem.F.slot_list_append PySem.F.type_list_append mt_append (pv 1) (pa_cons (pe_and (pe_callB (isXK K rfl) (by rfl) B.isi boot_isinstance (pa_cons (pv 0) (pa_cons (pe_glob (v := .ref (b 2)) (by rfl) T.n2 rfl) pa_nil))) (pe_one (pe_callB (isXK K rfl) (by rfl) B.isi boot_isinstance (pa_cons (pv 0) (pa_cons (pe_bltn (v := .ty "RuntimeError") (by rfl) V.v2 PyProof.Rows.Boot.«RuntimeError» rfl) pa_nil))))) pa_nil)))
    <| pss_cons (ps_expr (pe_bm PySem.F.plainAttrs_list PySem.F.slot_list_append PySem.F.type_list_append mt_append (pv 1) (pa_cons (pe_and (pe_callB (isXK K rfl) (by rfl) B.isi boot_isinstance (pa_cons (pv 0) (pa_cons (pe_glob (v := .ref (b 3)) (by rfl) T.n3 rfl) pa_nil))) (pe_one (pe_callB (isXK K rfl) (by rfl) B.isi boot_isinstance (pa_cons (pv 0) (pa_cons (pe_bltn (v := .ty "OverflowError") (by rfl) V.v3 PyProof.Rows.Boot.«OverflowError» rfl) pa_nil))))) pa_nil)))
    <| pss_cons (ps_asg (pe_and (pe_ix (ixK K rfl) (pv 1) pe_int (fun _ _ => rfl)) (pe_one (pe_callB (isXK K rfl) (by rfl) B.isi boot_isinstance (pa_cons (pv 0) (pa_cons (pe_bltn (v := .ty "LookupError") (by rfl) V.v1 PyProof.Rows.Boot.«LookupError» rfl) pa_nil))))) (pg_sub (pv 1) pe_int set_list))
    <| pss_one (ps_ret (pv 1)), ?_⟩
  rintro ds Φ ⟨i, a, ns, es, rfl, hi, q⟩
  have q : Φ (.lst [.bl (decide (bo i = 0)), .bl (decide (bo i = 1)), .bl (decide (bo i = 2)), .bl (decide (bo i = 3))]) := q
  refine ws_seq <| ws_own (pf := true) <| wl_lst <| wa_cons <| w_andSame (v := decide (bo i = 0)) (fun Ψ h => w_isB T hi rfl (j := 0) (by decide) h) (fun Ψ h => w_isT T hi rfl (j := 0) (by decide) h) <| wa_cons <| w_isB T hi rfl (j := 1) (by decide) <| wa_nil ⟨by show 2 ≤ 100000; decide, by show 1 < 2; decide, ?_⟩
  show Ws K _ [.dat (.exc (c i) a ns es), .own [.bl (decide (bo i = 0)), .bl (decide (bo i = 1))]] _
  refine ws_seq <| ws_append (pf := true) (ds0 := [.bl (decide (bo i = 0)), .bl (decide (bo i = 1))]) (w_andSame (v := decide (bo i = 2)) (fun Ψ h => w_isB T hi rfl (j := 2) (by decide) h) (fun Ψ h => w_isT T hi rfl (j := 2) (by decide) h) ⟨_, rfl, by show 2 < 100000; decide, ?_⟩) rfl
  show Ws K _ [.dat (.exc (c i) a ns es), .own [.bl (decide (bo i = 0)), .bl (decide (bo i = 1)), .bl (decide (bo i = 2))]] _
  refine ws_seq <| ws_append (pf := true) (ds0 := [.bl (decide (bo i = 0)), .bl (decide (bo i = 1)), .bl (decide (bo i = 2))]) (w_andSame (v := decide (bo i = 3)) (fun Ψ h => w_isB T hi rfl (j := 3) (by decide) h) (fun Ψ h => w_isT T hi rfl (j := 3) (by decide) h) ⟨_, rfl, by show 3 < 100000; decide, ?_⟩) rfl
  show Ws K _ [.dat (.exc (c i) a ns es), .own [.bl (decide (bo i = 0)), .bl (decide (bo i = 1)), .bl (decide (bo i = 2)), .bl (decide (bo i = 3))]] _
  refine ws_seq <| ws_setitem (pf := true) (ds0 := [.bl (decide (bo i = 0)), .bl (decide (bo i = 1)), .bl (decide (bo i = 2)), .bl (decide (bo i = 3))]) (w_andSame (v := decide (bo i = 1)) (fun Ψ h => wp_thaw (i := 1) rfl <| w_op <| w_var (d := .lst [.bl (decide (bo i = 0)), .bl (decide (bo i = 1)), .bl (decide (bo i = 2)), .bl (decide (bo i = 3))]) rfl <| w_c (fun _ => .int 1) <| od_ix rfl rfl ⟨rfl, h⟩) (fun Ψ h => w_isT T hi rfl (j := 1) (by decide) h) <| w_c (fun _ => .int 1) ⟨_, 1, rfl, rfl, by show 1 < 4; decide, ?_⟩) rfl
  show Ws K _ [.dat (.exc (c i) a ns es), .own [.bl (decide (bo i = 0)), .bl (decide (bo i = 1)), .bl (decide (bo i = 2)), .bl (decide (bo i = 3))]] _
  refine ws_freeze (i := 1) rfl <| ws_ret (pf := true) <| w_var (d := .lst [.bl (decide (bo i = 0)), .bl (decide (bo i = 1)), .bl (decide (bo i = 2)), .bl (decide (bo i = 3))]) rfl q
end
end K01

namespace K01
open PySem PySem.Spec PyProof.Rows L2 DL
/-- a row of the law's list -/
def It (c : Nat → Addr) (k : Nat) (one two x : Dt) : Prop := ∃ (a : Addr) (ns : List Str) (es ts : List Dt), x = .tup [.exc (c k) a ns es, .int ((bo k : Nat) : Int), .lst ts, .lst ts] ∧ ts.length ≤ 2 ∧ ∀ t ∈ ts, t = one ∨ t = two
def Its (c : Nat → Addr) (lo m : Nat) (one two : Dt) (l : List Dt) : Prop := l.length = m ∧ ∀ k, k < m → ∃ x, l[k]? = some x ∧ It c (lo + k) one two x
def WMade (c : Nat → Addr) (lo m : Nat) : List Dt → (Dt → Prop) → Prop := fun ds Φ => ∃ one two, ds = [one, two] ∧ ∀ l, Its c lo m one two l → Φ (.lst l)

abbrev sMade : Stmt := topS 36
theorem scMade : FnScope ["_law_one", "_law_two", "_law_first", "_law_isle", "_law_station", "_law_some", "_law_cord", "_law_whole", "_law_event", "_law_rule", "_law_text"] ["_law_one", "_law_two"] (defScope sMade) := ⟨rfl, rfl, rfl, by decide +kernel, rfl, by decide +kernel, by decide +kernel⟩
section
variable {P : Program} {w : World} {K : PySem.W.Frag} {mg : Str → Option Value} {base : Heap} {c b : Nat → Addr}
theorem ok_Made {f : Addr} {fd : FuncData} (F : Fun K "_law_made" "_law_made" sMade f fd) (T : Tab K mg c b) : FnG P w K mg base CX0 3 f fd ["_law_one", "_law_two"] (spP K (WMade c 0 9)) := by
  refine defP F scMade (fun ds Φ ⟨one, two, e, _⟩ => by rw [e]; rfl) (by decide) fun cdv A outer s H E hr hg => ?_
  have hm2 := hr
  refine ⟨_, pss_cons (ps_par3 (i := 2) (j := 3) (l := 4) (by rfl) scMade.nd rfl rfl rfl (by decide) (by decide) (by decide) rfl rfl rfl (pa_cons (T.e0.pe T.i0 rfl rfl hm2 (by rfl) (pa_cons (pv 0) pa_nil)) (pa_cons (T.e1.pe T.i1 rfl rfl hm2 (by rfl) (pa_cons (pv 0) (pa_cons (pv 1) pa_nil))) (pa_cons (T.e2.pe T.i2 rfl rfl hm2 (by rfl) (pa_cons (pv 0) pa_nil)) pa_nil))) (by rfl))
    <| pss_cons (ps_set (i := 5) scMade.nd rfl (Or.inl rfl) (pe_lst (pa_cons (pe_tup (pa_cons (pv 2) (pa_cons pe_int (pa_cons (pe_lst (pa_cons (pe_xfld (pv 2)) pa_nil)) (pa_cons (pe_lst (pa_cons (pv 0) pa_nil)) pa_nil))))) (pa_cons (pe_tup (pa_cons (pv 3) (pa_cons pe_int (pa_cons (pe_lst (pa_cons (pe_xfld (pv 3)) (pa_cons (pe_xfld (pv 3)) pa_nil))) (pa_cons (pe_lst (pa_cons (pv 0) (pa_cons (pv 1) pa_nil))) pa_nil))))) pa_nil))))
    <| pss_cons (ps_expr (pe_bm PySem.F.plainAttrs_list PySem.F.slot_list_append PySem.F.type_list_append mt_append (pv 5) (pa_cons (pe_tup (pa_cons (pv 4) (pa_cons pe_int (pa_cons (pe_lst (pa_cons (pe_xfld (pv 4)) pa_nil)) (pa_cons (pe_lst (pa_cons (pv 0) pa_nil)) pa_nil))))) pa_nil)))
    <| pss_cons (ps_par3 (i := 6) (j := 7) (l := 8) (by rfl) scMade.nd rfl rfl rfl (by decide) (by decide) (by decide) rfl rfl rfl (pa_cons (T.e3.pe T.i3 rfl rfl hm2 (by rfl) (pa_cons (pv 0) (pa_cons (pv 1) pa_nil))) (pa_cons (T.e4.pe T.i4 rfl rfl hm2 (by rfl) (pa_cons (pv 0) (pa_cons (pv 1) pa_nil))) (pa_cons (T.e5.pe T.i5 rfl rfl hm2 (by rfl) (pa_cons (pv 0) pa_nil)) pa_nil))) (by rfl))
    <| pss_cons (ps_set (i := 5) scMade.nd rfl (Or.inl rfl) (pe_op op_catL (pv 5) (pe_lst (pa_cons (pe_tup (pa_cons (pv 6) (pa_cons pe_int (pa_cons (pe_lst (pa_cons (pe_xfld (pv 6)) (pa_cons (pe_xfld (pv 6)) pa_nil))) (pa_cons (pe_lst (pa_cons (pv 0) (pa_cons (pv 1) pa_nil))) pa_nil))))) (pa_cons (pe_tup (pa_cons (pv 7) (pa_cons pe_int (pa_cons (pe_lst (pa_cons (pe_xfld (pv 7)) (pa_cons (pe_xfld (pv 7)) pa_nil))) (pa_cons (pe_lst (pa_cons (pv 0) (pa_cons (pv 1) pa_nil))) pa_nil))))) pa_nil)))))
    <| pss_cons (ps_expr (pe_bm PySem.F.plainAttrs_list PySem.F.slot_list_append PySem.F.type_list_append mt_append (pv 5) (pa_cons (pe_tup (pa_cons (pv 8) (pa_cons pe_int (pa_cons (pe_lst (pa_cons (pe_xfld (pv 8)) pa_nil)) (pa_cons (pe_lst (pa_cons (pv 0) pa_nil)) pa_nil))))) pa_nil)))
    <| pss_cons (ps_par (i := 9) (j := 10) (by rfl) scMade.nd rfl rfl (by decide) rfl rfl (pa_cons (T.e6.pe T.i6 rfl rfl hm2 (by rfl) (pa_cons (pv 0) pa_nil)) (pa_cons (T.e7.pe T.i7 rfl rfl hm2 (by rfl) (pa_cons (pv 0) (pa_cons (pv 1) pa_nil))) pa_nil)) (by rfl))
    <| pss_cons (ps_set (i := 5) scMade.nd rfl (Or.inl rfl) (pe_op op_catL (pv 5) (pe_lst (pa_cons (pe_tup (pa_cons (pv 9) (pa_cons pe_int (pa_cons (pe_lst (pa_cons (pe_xfld (pv 9)) pa_nil)) (pa_cons (pe_lst (pa_cons (pv 0) pa_nil)) pa_nil))))) (pa_cons (pe_tup (pa_cons (pv 10) (pa_cons pe_int (pa_cons (pe_lst (pa_cons (pe_xfld (pv 10)) (pa_cons (pe_xfld (pv 10)) pa_nil))) (pa_cons (pe_lst (pa_cons (pv 0) (pa_cons (pv 1) pa_nil))) pa_nil))))) pa_nil)))))
    <| pss_cons (ps_expr (pe_bm PySem.F.plainAttrs_list PySem.F.slot_list_append PySem.F.type_list_append mt_append (pv 5) (pa_cons (pe_tup (pa_cons (pe_exc0 PySem.F.excBase_ValueError T.u8 T.e8.g T.e8.T.kC (by rfl)) (pa_cons pe_int (pa_cons (pe_lst pa_nil) (pa_cons (pe_lst pa_nil) pa_nil))))) pa_nil)))
    <| pss_one (ps_ret (pv 5)), ?_⟩
  rintro ds Φ ⟨one, two, rfl, q⟩
  show Ws K _ [.dat one, .dat two, .any, .any, .any, .any, .any, .any, .any, .any, .any] _
  refine ws_seq <| ws_par3 (pf := true) (wa_cons (w_mkV (wa_cons (w_var rfl (wa_nil ⟨by show 1 ≤ 900; decide, _, rfl, fun a0 => (wa_cons (w_mkV (wa_cons (w_var rfl (wa_cons (w_var rfl (wa_nil ⟨by show 2 ≤ 900; decide, _, _, rfl, fun a1 => (wa_cons (w_mkV (wa_cons (w_var rfl (wa_nil ⟨by show 1 ≤ 900; decide, _, rfl, fun a2 => (wa_nil ⟨_, _, _, rfl, ?_⟩)⟩)))))⟩)))))))⟩)))))
  show Ws K _ [.dat one, .dat two, .dat (.exc (c 0) a0 ["value"] [one]), .dat (.exc (c 1) a1 ["part", "which"] [two, one]), .dat (.exc (c 2) a2 ["part"] [one]), .any, .any, .any, .any, .any, .any] _
  refine ws_seq <| ws_own (pf := true) (wl_lst (wa_cons (w_tup (wa_cons (w_var rfl (wa_cons (w_c (fun _ => .int _) (wa_cons (w_lst (wa_cons (w_xfld T.e0.X (T.e0.no _ (by simp)) (w_var rfl ⟨_, _, _, _, rfl, by rfl, (wa_nil ⟨by show 1 ≤ 100000; decide, (wa_cons (w_lst (wa_cons (w_var rfl (wa_nil ⟨by show 1 ≤ 100000; decide, (wa_nil ⟨by show 4 ≤ 100000; decide, (wa_cons (w_tup (wa_cons (w_var rfl (wa_cons (w_c (fun _ => .int _) (wa_cons (w_lst (wa_cons (w_xfld T.e1.X (T.e1.no _ (by simp)) (w_var rfl ⟨_, _, _, _, rfl, by rfl, (wa_cons (w_xfld T.e1.X (T.e1.no _ (by simp)) (w_var rfl ⟨_, _, _, _, rfl, by rfl, (wa_nil ⟨by show 2 ≤ 100000; decide, (wa_cons (w_lst (wa_cons (w_var rfl (wa_cons (w_var rfl (wa_nil ⟨by show 2 ≤ 100000; decide, (wa_nil ⟨by show 4 ≤ 100000; decide, (wa_nil ⟨by show 2 ≤ 100000; decide, by show 5 < 11; decide, ?_⟩)⟩)⟩)))))))⟩)⟩)))⟩)))))))))))⟩)⟩)))))⟩)⟩))))))))))))
  show Ws K _ [.dat one, .dat two, .dat (.exc (c 0) a0 ["value"] [one]), .dat (.exc (c 1) a1 ["part", "which"] [two, one]), .dat (.exc (c 2) a2 ["part"] [one]), .own [.tup [.exc (c 0) a0 ["value"] [one], .int 0, .lst [one], .lst [one]], .tup [.exc (c 1) a1 ["part", "which"] [two, one], .int 0, .lst [one, two], .lst [one, two]]], .any, .any, .any, .any, .any] _
  refine ws_seq <| ws_append (pf := true) (ds0 := [.tup [.exc (c 0) a0 ["value"] [one], .int 0, .lst [one], .lst [one]], .tup [.exc (c 1) a1 ["part", "which"] [two, one], .int 0, .lst [one, two], .lst [one, two]]]) (w_tup (wa_cons (w_var rfl (wa_cons (w_c (fun _ => .int _) (wa_cons (w_lst (wa_cons (w_xfld T.e2.X (T.e2.no _ (by simp)) (w_var rfl ⟨_, _, _, _, rfl, by rfl, (wa_nil ⟨by show 1 ≤ 100000; decide, (wa_cons (w_lst (wa_cons (w_var rfl (wa_nil ⟨by show 1 ≤ 100000; decide, (wa_nil ⟨by show 4 ≤ 100000; decide, ⟨_, rfl, by show 2 < 100000; decide, ?_⟩⟩)⟩)))))⟩)⟩)))))))))) rfl
  show Ws K _ [.dat one, .dat two, .dat (.exc (c 0) a0 ["value"] [one]), .dat (.exc (c 1) a1 ["part", "which"] [two, one]), .dat (.exc (c 2) a2 ["part"] [one]), .own [.tup [.exc (c 0) a0 ["value"] [one], .int 0, .lst [one], .lst [one]], .tup [.exc (c 1) a1 ["part", "which"] [two, one], .int 0, .lst [one, two], .lst [one, two]], .tup [.exc (c 2) a2 ["part"] [one], .int 0, .lst [one], .lst [one]]], .any, .any, .any, .any, .any] _
  refine ws_freeze (i := 5) rfl <| ws_seq <| ws_par3 (pf := true) (wa_cons (w_mkV (wa_cons (w_var rfl (wa_cons (w_var rfl (wa_nil ⟨by show 2 ≤ 900; decide, _, _, rfl, fun a3 => (wa_cons (w_mkV (wa_cons (w_var rfl (wa_cons (w_var rfl (wa_nil ⟨by show 2 ≤ 900; decide, _, _, rfl, fun a4 => (wa_cons (w_mkV (wa_cons (w_var rfl (wa_nil ⟨by show 1 ≤ 900; decide, _, rfl, fun a5 => (wa_nil ⟨_, _, _, rfl, ?_⟩)⟩)))))⟩)))))))⟩)))))))
  show Ws K _ [.dat one, .dat two, .dat (.exc (c 0) a0 ["value"] [one]), .dat (.exc (c 1) a1 ["part", "which"] [two, one]), .dat (.exc (c 2) a2 ["part"] [one]), .dat (.lst [.tup [.exc (c 0) a0 ["value"] [one], .int 0, .lst [one], .lst [one]], .tup [.exc (c 1) a1 ["part", "which"] [two, one], .int 0, .lst [one, two], .lst [one, two]], .tup [.exc (c 2) a2 ["part"] [one], .int 0, .lst [one], .lst [one]]]), .dat (.exc (c 3) a3 ["part", "which"] [two, one]), .dat (.exc (c 4) a4 ["which", "part"] [two, one]), .dat (.exc (c 5) a5 ["index"] [one]), .any, .any] _
  refine ws_seq <| ws_own (pf := true) (wl_cat (w_var rfl (w_lst (wa_cons (w_tup (wa_cons (w_var rfl (wa_cons (w_c (fun _ => .int _) (wa_cons (w_lst (wa_cons (w_xfld T.e3.X (T.e3.no _ (by simp)) (w_var rfl ⟨_, _, _, _, rfl, by rfl, (wa_cons (w_xfld T.e3.X (T.e3.no _ (by simp)) (w_var rfl ⟨_, _, _, _, rfl, by rfl, (wa_nil ⟨by show 2 ≤ 100000; decide, (wa_cons (w_lst (wa_cons (w_var rfl (wa_cons (w_var rfl (wa_nil ⟨by show 2 ≤ 100000; decide, (wa_nil ⟨by show 4 ≤ 100000; decide, (wa_cons (w_tup (wa_cons (w_var rfl (wa_cons (w_c (fun _ => .int _) (wa_cons (w_lst (wa_cons (w_xfld T.e4.X (T.e4.no _ (by simp)) (w_var rfl ⟨_, _, _, _, rfl, by rfl, (wa_cons (w_xfld T.e4.X (T.e4.no _ (by simp)) (w_var rfl ⟨_, _, _, _, rfl, by rfl, (wa_nil ⟨by show 2 ≤ 100000; decide, (wa_cons (w_lst (wa_cons (w_var rfl (wa_cons (w_var rfl (wa_nil ⟨by show 2 ≤ 100000; decide, (wa_nil ⟨by show 4 ≤ 100000; decide, (wa_nil ⟨by show 2 ≤ 100000; decide, _, _, rfl, rfl, by show 3 + 2 ≤ 100000; decide, by show 5 < 11; decide, ?_⟩)⟩)⟩)))))))⟩)⟩)))⟩)))))))))))⟩)⟩)))))))⟩)⟩)))⟩))))))))))))))
  show Ws K _ [.dat one, .dat two, .dat (.exc (c 0) a0 ["value"] [one]), .dat (.exc (c 1) a1 ["part", "which"] [two, one]), .dat (.exc (c 2) a2 ["part"] [one]), .own [.tup [.exc (c 0) a0 ["value"] [one], .int 0, .lst [one], .lst [one]], .tup [.exc (c 1) a1 ["part", "which"] [two, one], .int 0, .lst [one, two], .lst [one, two]], .tup [.exc (c 2) a2 ["part"] [one], .int 0, .lst [one], .lst [one]], .tup [.exc (c 3) a3 ["part", "which"] [two, one], .int 0, .lst [one, two], .lst [one, two]], .tup [.exc (c 4) a4 ["which", "part"] [two, one], .int 0, .lst [one, two], .lst [one, two]]], .dat (.exc (c 3) a3 ["part", "which"] [two, one]), .dat (.exc (c 4) a4 ["which", "part"] [two, one]), .dat (.exc (c 5) a5 ["index"] [one]), .any, .any] _
  refine ws_seq <| ws_append (pf := true) (ds0 := [.tup [.exc (c 0) a0 ["value"] [one], .int 0, .lst [one], .lst [one]], .tup [.exc (c 1) a1 ["part", "which"] [two, one], .int 0, .lst [one, two], .lst [one, two]], .tup [.exc (c 2) a2 ["part"] [one], .int 0, .lst [one], .lst [one]], .tup [.exc (c 3) a3 ["part", "which"] [two, one], .int 0, .lst [one, two], .lst [one, two]], .tup [.exc (c 4) a4 ["which", "part"] [two, one], .int 0, .lst [one, two], .lst [one, two]]]) (w_tup (wa_cons (w_var rfl (wa_cons (w_c (fun _ => .int _) (wa_cons (w_lst (wa_cons (w_xfld T.e5.X (T.e5.no _ (by simp)) (w_var rfl ⟨_, _, _, _, rfl, by rfl, (wa_nil ⟨by show 1 ≤ 100000; decide, (wa_cons (w_lst (wa_cons (w_var rfl (wa_nil ⟨by show 1 ≤ 100000; decide, (wa_nil ⟨by show 4 ≤ 100000; decide, ⟨_, rfl, by show 5 < 100000; decide, ?_⟩⟩)⟩)))))⟩)⟩)))))))))) rfl
  show Ws K _ [.dat one, .dat two, .dat (.exc (c 0) a0 ["value"] [one]), .dat (.exc (c 1) a1 ["part", "which"] [two, one]), .dat (.exc (c 2) a2 ["part"] [one]), .own [.tup [.exc (c 0) a0 ["value"] [one], .int 0, .lst [one], .lst [one]], .tup [.exc (c 1) a1 ["part", "which"] [two, one], .int 0, .lst [one, two], .lst [one, two]], .tup [.exc (c 2) a2 ["part"] [one], .int 0, .lst [one], .lst [one]], .tup [.exc (c 3) a3 ["part", "which"] [two, one], .int 0, .lst [one, two], .lst [one, two]], .tup [.exc (c 4) a4 ["which", "part"] [two, one], .int 0, .lst [one, two], .lst [one, two]], .tup [.exc (c 5) a5 ["index"] [one], .int 0, .lst [one], .lst [one]]], .dat (.exc (c 3) a3 ["part", "which"] [two, one]), .dat (.exc (c 4) a4 ["which", "part"] [two, one]), .dat (.exc (c 5) a5 ["index"] [one]), .any, .any] _
  refine ws_freeze (i := 5) rfl <| ws_seq <| ws_par (pf := true) (wa_cons (w_mkV (wa_cons (w_var rfl (wa_nil ⟨by show 1 ≤ 900; decide, _, rfl, fun a6 => (wa_cons (w_mkV (wa_cons (w_var rfl (wa_cons (w_var rfl (wa_nil ⟨by show 2 ≤ 900; decide, _, _, rfl, fun a7 => (wa_nil ⟨_, _, rfl, ?_⟩)⟩)))))))⟩)))))
  show Ws K _ [.dat one, .dat two, .dat (.exc (c 0) a0 ["value"] [one]), .dat (.exc (c 1) a1 ["part", "which"] [two, one]), .dat (.exc (c 2) a2 ["part"] [one]), .dat (.lst [.tup [.exc (c 0) a0 ["value"] [one], .int 0, .lst [one], .lst [one]], .tup [.exc (c 1) a1 ["part", "which"] [two, one], .int 0, .lst [one, two], .lst [one, two]], .tup [.exc (c 2) a2 ["part"] [one], .int 0, .lst [one], .lst [one]], .tup [.exc (c 3) a3 ["part", "which"] [two, one], .int 0, .lst [one, two], .lst [one, two]], .tup [.exc (c 4) a4 ["which", "part"] [two, one], .int 0, .lst [one, two], .lst [one, two]], .tup [.exc (c 5) a5 ["index"] [one], .int 0, .lst [one], .lst [one]]]), .dat (.exc (c 3) a3 ["part", "which"] [two, one]), .dat (.exc (c 4) a4 ["which", "part"] [two, one]), .dat (.exc (c 5) a5 ["index"] [one]), .dat (.exc (c 6) a6 ["which"] [one]), .dat (.exc (c 7) a7 ["word", "row"] [two, one])] _
  refine ws_seq <| ws_own (pf := true) (wl_cat (w_var rfl (w_lst (wa_cons (w_tup (wa_cons (w_var rfl (wa_cons (w_c (fun _ => .int _) (wa_cons (w_lst (wa_cons (w_xfld T.e6.X (T.e6.no _ (by simp)) (w_var rfl ⟨_, _, _, _, rfl, by rfl, (wa_nil ⟨by show 1 ≤ 100000; decide, (wa_cons (w_lst (wa_cons (w_var rfl (wa_nil ⟨by show 1 ≤ 100000; decide, (wa_nil ⟨by show 4 ≤ 100000; decide, (wa_cons (w_tup (wa_cons (w_var rfl (wa_cons (w_c (fun _ => .int _) (wa_cons (w_lst (wa_cons (w_xfld T.e7.X (T.e7.no _ (by simp)) (w_var rfl ⟨_, _, _, _, rfl, by rfl, (wa_cons (w_xfld T.e7.X (T.e7.no _ (by simp)) (w_var rfl ⟨_, _, _, _, rfl, by rfl, (wa_nil ⟨by show 2 ≤ 100000; decide, (wa_cons (w_lst (wa_cons (w_var rfl (wa_cons (w_var rfl (wa_nil ⟨by show 2 ≤ 100000; decide, (wa_nil ⟨by show 4 ≤ 100000; decide, (wa_nil ⟨by show 2 ≤ 100000; decide, _, _, rfl, rfl, by show 6 + 2 ≤ 100000; decide, by show 5 < 11; decide, ?_⟩)⟩)⟩)))))))⟩)⟩)))⟩)))))))))))⟩)⟩)))))⟩)⟩))))))))))))))
  show Ws K _ [.dat one, .dat two, .dat (.exc (c 0) a0 ["value"] [one]), .dat (.exc (c 1) a1 ["part", "which"] [two, one]), .dat (.exc (c 2) a2 ["part"] [one]), .own [.tup [.exc (c 0) a0 ["value"] [one], .int 0, .lst [one], .lst [one]], .tup [.exc (c 1) a1 ["part", "which"] [two, one], .int 0, .lst [one, two], .lst [one, two]], .tup [.exc (c 2) a2 ["part"] [one], .int 0, .lst [one], .lst [one]], .tup [.exc (c 3) a3 ["part", "which"] [two, one], .int 0, .lst [one, two], .lst [one, two]], .tup [.exc (c 4) a4 ["which", "part"] [two, one], .int 0, .lst [one, two], .lst [one, two]], .tup [.exc (c 5) a5 ["index"] [one], .int 0, .lst [one], .lst [one]], .tup [.exc (c 6) a6 ["which"] [one], .int 0, .lst [one], .lst [one]], .tup [.exc (c 7) a7 ["word", "row"] [two, one], .int 0, .lst [one, two], .lst [one, two]]], .dat (.exc (c 3) a3 ["part", "which"] [two, one]), .dat (.exc (c 4) a4 ["which", "part"] [two, one]), .dat (.exc (c 5) a5 ["index"] [one]), .dat (.exc (c 6) a6 ["which"] [one]), .dat (.exc (c 7) a7 ["word", "row"] [two, one])] _
  refine ws_seq <| ws_append (pf := true) (ds0 := [.tup [.exc (c 0) a0 ["value"] [one], .int 0, .lst [one], .lst [one]], .tup [.exc (c 1) a1 ["part", "which"] [two, one], .int 0, .lst [one, two], .lst [one, two]], .tup [.exc (c 2) a2 ["part"] [one], .int 0, .lst [one], .lst [one]], .tup [.exc (c 3) a3 ["part", "which"] [two, one], .int 0, .lst [one, two], .lst [one, two]], .tup [.exc (c 4) a4 ["which", "part"] [two, one], .int 0, .lst [one, two], .lst [one, two]], .tup [.exc (c 5) a5 ["index"] [one], .int 0, .lst [one], .lst [one]], .tup [.exc (c 6) a6 ["which"] [one], .int 0, .lst [one], .lst [one]], .tup [.exc (c 7) a7 ["word", "row"] [two, one], .int 0, .lst [one, two], .lst [one, two]]]) (w_tup (wa_cons (w_exc0 fun a8 => (wa_cons (w_c (fun _ => .int _) (wa_cons (w_lst (wa_nil ⟨by show 0 ≤ 100000; decide, (wa_cons (w_lst (wa_nil ⟨by show 0 ≤ 100000; decide, (wa_nil ⟨by show 4 ≤ 100000; decide, ⟨_, rfl, by show 8 < 100000; decide, ?_⟩⟩)⟩)))⟩)))))))) rfl
  show Ws K _ [.dat one, .dat two, .dat (.exc (c 0) a0 ["value"] [one]), .dat (.exc (c 1) a1 ["part", "which"] [two, one]), .dat (.exc (c 2) a2 ["part"] [one]), .own [.tup [.exc (c 0) a0 ["value"] [one], .int 0, .lst [one], .lst [one]], .tup [.exc (c 1) a1 ["part", "which"] [two, one], .int 0, .lst [one, two], .lst [one, two]], .tup [.exc (c 2) a2 ["part"] [one], .int 0, .lst [one], .lst [one]], .tup [.exc (c 3) a3 ["part", "which"] [two, one], .int 0, .lst [one, two], .lst [one, two]], .tup [.exc (c 4) a4 ["which", "part"] [two, one], .int 0, .lst [one, two], .lst [one, two]], .tup [.exc (c 5) a5 ["index"] [one], .int 0, .lst [one], .lst [one]], .tup [.exc (c 6) a6 ["which"] [one], .int 0, .lst [one], .lst [one]], .tup [.exc (c 7) a7 ["word", "row"] [two, one], .int 0, .lst [one, two], .lst [one, two]], .tup [.exc (c 8) a8 [] [], .int 0, .lst [], .lst []]], .dat (.exc (c 3) a3 ["part", "which"] [two, one]), .dat (.exc (c 4) a4 ["which", "part"] [two, one]), .dat (.exc (c 5) a5 ["index"] [one]), .dat (.exc (c 6) a6 ["which"] [one]), .dat (.exc (c 7) a7 ["word", "row"] [two, one])] _
  refine ws_freeze (i := 5) rfl <| ws_ret (pf := true) (w_var rfl (q _ ?_))
  exact ⟨rfl, fun k hk => match k, hk with
    | 0, _ => ⟨_, rfl, _, _, _, [one], rfl, by show 1 ≤ 2; decide, by simp⟩
    | 1, _ => ⟨_, rfl, _, _, _, [one, two], rfl, by show 2 ≤ 2; decide, by simp⟩
    | 2, _ => ⟨_, rfl, _, _, _, [one], rfl, by show 1 ≤ 2; decide, by simp⟩
    | 3, _ => ⟨_, rfl, _, _, _, [one, two], rfl, by show 2 ≤ 2; decide, by simp⟩
    | 4, _ => ⟨_, rfl, _, _, _, [one, two], rfl, by show 2 ≤ 2; decide, by simp⟩
    | 5, _ => ⟨_, rfl, _, _, _, [one], rfl, by show 1 ≤ 2; decide, by simp⟩
    | 6, _ => ⟨_, rfl, _, _, _, [one], rfl, by show 1 ≤ 2; decide, by simp⟩
    | 7, _ => ⟨_, rfl, _, _, _, [one, two], rfl, by show 2 ≤ 2; decide, by simp⟩
    | 8, _ => ⟨_, rfl, _, _, _, [], rfl, by show 0 ≤ 2; decide, by simp⟩
    | n + 9, h => absurd h (by omega)⟩
end

abbrev sMadeLater : Stmt := topS 37
theorem scMadeLater : FnScope ["_law_one", "_law_two", "_law_none", "_law_cord", "_law_part", "_law_ask", "_law_some", "_law_spot", "_law_pair", "_law_mode", "_law_now", "_law_kept_back", "_law_tired", "_law_past", "_law_turned", "_law_bad", "_law_many", "_law_own"] ["_law_one", "_law_two"] (defScope sMadeLater) := ⟨rfl, rfl, rfl, by decide +kernel, rfl, by decide +kernel, by decide +kernel⟩
section
variable {P : Program} {w : World} {K : PySem.W.Frag} {mg : Str → Option Value} {base : Heap} {c b : Nat → Addr}
theorem ok_MadeLater {f : Addr} {fd : FuncData} (F : Fun K "_law_made_later" "_law_made_later" sMadeLater f fd) (T : Tab K mg c b) : FnG P w K mg base CX0 3 f fd ["_law_one", "_law_two"] (spP K (WMade c 9 15)) := by
  refine defP F scMadeLater (fun ds Φ ⟨one, two, e, _⟩ => by rw [e]; rfl) (by decide) fun cdv A outer s H E hr hg => ?_
  have hm2 := hr
  refine ⟨_, pss_cons (ps_asg (pe_tup (pa_cons (T.e9.pe T.i9 rfl rfl hm2 (by rfl) (pa_cons (pv 0) pa_nil)) (pa_cons (T.e10.pe T.i10 rfl rfl hm2 (by rfl) (pa_cons (pv 0) pa_nil)) (pa_cons (T.e11.pe T.i11 rfl rfl hm2 (by rfl) (pa_cons (pv 0) pa_nil)) (pa_cons (T.e12.pe T.i12 rfl rfl hm2 (by rfl) (pa_cons (pv 0) pa_nil)) pa_nil))))) (pg_tup rfl (pgs_cons (pg_name (i := 2) scMadeLater.nd rfl (Or.inl rfl)) (pgs_cons (pg_name (i := 3) scMadeLater.nd rfl (Or.inl rfl)) (pgs_cons (pg_name (i := 4) scMadeLater.nd rfl (Or.inl rfl)) (pgs_cons (pg_name (i := 5) scMadeLater.nd rfl (Or.inl rfl)) pgs_nil))))))
    <| pss_cons (ps_set (i := 6) scMadeLater.nd rfl (Or.inl rfl) (pe_lst (pa_cons (pe_tup (pa_cons (pv 2) (pa_cons pe_int (pa_cons (pe_lst (pa_cons (pe_xfld (pv 2)) pa_nil)) (pa_cons (pe_lst (pa_cons (pv 0) pa_nil)) pa_nil))))) (pa_cons (pe_tup (pa_cons (pv 3) (pa_cons pe_int (pa_cons (pe_lst (pa_cons (pe_xfld (pv 3)) pa_nil)) (pa_cons (pe_lst (pa_cons (pv 0) pa_nil)) pa_nil))))) (pa_cons (pe_tup (pa_cons (pv 4) (pa_cons pe_int (pa_cons (pe_lst (pa_cons (pe_xfld (pv 4)) pa_nil)) (pa_cons (pe_lst (pa_cons (pv 0) pa_nil)) pa_nil))))) pa_nil)))))
    <| pss_cons (ps_par3 (i := 7) (j := 8) (l := 9) (by rfl) scMadeLater.nd rfl rfl rfl (by decide) (by decide) (by decide) rfl rfl rfl (pa_cons (T.e13.pe T.i13 rfl rfl hm2 (by rfl) (pa_cons (pv 0) pa_nil)) (pa_cons (T.e14.pe T.i14 rfl rfl hm2 (by rfl) (pa_cons (pv 0) pa_nil)) (pa_cons (T.e15.pe T.i15 rfl rfl hm2 (by rfl) (pa_cons (pv 0) pa_nil)) pa_nil))) (by rfl))
    <| pss_cons (ps_set (i := 6) scMadeLater.nd rfl (Or.inl rfl) (pe_op op_catL (pv 6) (pe_lst (pa_cons (pe_tup (pa_cons (pv 5) (pa_cons pe_int (pa_cons (pe_lst (pa_cons (pe_xfld (pv 5)) pa_nil)) (pa_cons (pe_lst (pa_cons (pv 0) pa_nil)) pa_nil))))) (pa_cons (pe_tup (pa_cons (pv 7) (pa_cons pe_int (pa_cons (pe_lst (pa_cons (pe_xfld (pv 7)) pa_nil)) (pa_cons (pe_lst (pa_cons (pv 0) pa_nil)) pa_nil))))) (pa_cons (pe_tup (pa_cons (pv 8) (pa_cons pe_int (pa_cons (pe_lst (pa_cons (pe_xfld (pv 8)) pa_nil)) (pa_cons (pe_lst (pa_cons (pv 0) pa_nil)) pa_nil))))) pa_nil))))))
    <| pss_cons (ps_expr (pe_bm PySem.F.plainAttrs_list PySem.F.slot_list_append PySem.F.type_list_append mt_append (pv 6) (pa_cons (pe_tup (pa_cons (pv 9) (pa_cons pe_int (pa_cons (pe_lst (pa_cons (pe_xfld (pv 9)) pa_nil)) (pa_cons (pe_lst (pa_cons (pv 0) pa_nil)) pa_nil))))) pa_nil)))
    <| pss_cons (ps_asg (pe_tup (pa_cons (T.e16.pe T.i16 rfl rfl hm2 (by rfl) (pa_cons (pv 0) pa_nil)) (pa_cons (T.e17.pe T.i17 rfl rfl hm2 (by rfl) (pa_cons (pv 0) pa_nil)) (pa_cons (T.e18.pe T.i18 rfl rfl hm2 (by rfl) (pa_cons (pv 0) pa_nil)) (pa_cons (T.e19.pe T.i19 rfl rfl hm2 (by rfl) (pa_cons (pv 0) pa_nil)) pa_nil))))) (pg_tup rfl (pgs_cons (pg_name (i := 10) scMadeLater.nd rfl (Or.inl rfl)) (pgs_cons (pg_name (i := 11) scMadeLater.nd rfl (Or.inl rfl)) (pgs_cons (pg_name (i := 12) scMadeLater.nd rfl (Or.inl rfl)) (pgs_cons (pg_name (i := 13) scMadeLater.nd rfl (Or.inl rfl)) pgs_nil))))))
    <| pss_cons (ps_set (i := 6) scMadeLater.nd rfl (Or.inl rfl) (pe_op op_catL (pv 6) (pe_lst (pa_cons (pe_tup (pa_cons (pv 10) (pa_cons pe_int (pa_cons (pe_lst (pa_cons (pe_xfld (pv 10)) pa_nil)) (pa_cons (pe_lst (pa_cons (pv 0) pa_nil)) pa_nil))))) (pa_cons (pe_tup (pa_cons (pv 11) (pa_cons pe_int (pa_cons (pe_lst (pa_cons (pe_xfld (pv 11)) pa_nil)) (pa_cons (pe_lst (pa_cons (pv 0) pa_nil)) pa_nil))))) pa_nil)))))
    <| pss_cons (ps_set (i := 6) scMadeLater.nd rfl (Or.inl rfl) (pe_op op_catL (pv 6) (pe_lst (pa_cons (pe_tup (pa_cons (pv 12) (pa_cons pe_int (pa_cons (pe_lst (pa_cons (pe_xfld (pv 12)) pa_nil)) (pa_cons (pe_lst (pa_cons (pv 0) pa_nil)) pa_nil))))) (pa_cons (pe_tup (pa_cons (pv 13) (pa_cons pe_int (pa_cons (pe_lst (pa_cons (pe_xfld (pv 13)) pa_nil)) (pa_cons (pe_lst (pa_cons (pv 0) pa_nil)) pa_nil))))) pa_nil)))))
    <| pss_cons (ps_par3 (i := 14) (j := 15) (l := 16) (by rfl) scMadeLater.nd rfl rfl rfl (by decide) (by decide) (by decide) rfl rfl rfl (pa_cons (T.e20.pe T.i20 rfl rfl hm2 (by rfl) (pa_cons (pv 0) pa_nil)) (pa_cons (T.e21.pe T.i21 rfl rfl hm2 (by rfl) (pa_cons (pv 0) (pa_cons (pv 1) pa_nil))) (pa_cons (T.e22.pe T.i22 rfl rfl hm2 (by rfl) (pa_cons (pv 0) pa_nil)) pa_nil))) (by rfl))
    <| pss_cons (ps_set (i := 6) scMadeLater.nd rfl (Or.inl rfl) (pe_op op_catL (pv 6) (pe_lst (pa_cons (pe_tup (pa_cons (pv 14) (pa_cons pe_int (pa_cons (pe_lst (pa_cons (pe_xfld (pv 14)) pa_nil)) (pa_cons (pe_lst (pa_cons (pv 0) pa_nil)) pa_nil))))) (pa_cons (pe_tup (pa_cons (pv 15) (pa_cons pe_int (pa_cons (pe_lst (pa_cons (pe_xfld (pv 15)) (pa_cons (pe_xfld (pv 15)) pa_nil))) (pa_cons (pe_lst (pa_cons (pv 0) (pa_cons (pv 1) pa_nil))) pa_nil))))) pa_nil)))))
    <| pss_cons (ps_set (i := 17) scMadeLater.nd rfl (Or.inl rfl) (T.e23.pe T.i23 rfl rfl hm2 (by rfl) (pa_cons (pv 0) pa_nil)))
    <| pss_one (ps_ret (pe_op op_catL (pv 6) (pe_lst (pa_cons (pe_tup (pa_cons (pv 16) (pa_cons pe_int (pa_cons (pe_lst (pa_cons (pe_xfld (pv 16)) pa_nil)) (pa_cons (pe_lst (pa_cons (pv 0) pa_nil)) pa_nil))))) (pa_cons (pe_tup (pa_cons (pv 17) (pa_cons pe_int (pa_cons (pe_lst (pa_cons (pe_xfld (pv 17)) pa_nil)) (pa_cons (pe_lst (pa_cons (pv 0) pa_nil)) pa_nil))))) pa_nil))))), ?_⟩
  rintro ds Φ ⟨one, two, rfl, q⟩
  show Ws K _ [.dat one, .dat two, .any, .any, .any, .any, .any, .any, .any, .any, .any, .any, .any, .any, .any, .any, .any, .any] _
  refine ws_seq <| ws_asgG (pf := true) (w_tup (wa_cons (w_mkV (wa_cons (w_var rfl (wa_nil ⟨by show 1 ≤ 900; decide, _, rfl, fun a9 => (wa_cons (w_mkV (wa_cons (w_var rfl (wa_nil ⟨by show 1 ≤ 900; decide, _, rfl, fun a10 => (wa_cons (w_mkV (wa_cons (w_var rfl (wa_nil ⟨by show 1 ≤ 900; decide, _, rfl, fun a11 => (wa_cons (w_mkV (wa_cons (w_var rfl (wa_nil ⟨by show 1 ≤ 900; decide, _, rfl, fun a12 => (wa_nil ⟨by show 4 ≤ 100000; decide, (wg_tup rfl (wgs_cons (wg_name (wgs_cons (wg_name (wgs_cons (wg_name (wgs_cons (wg_name (wgs_nil ?_))))))))))⟩)⟩)))))⟩)))))⟩)))))⟩))))))
  show Ws K _ [.dat one, .dat two, .dat (.exc (c 9) a9 ["which"] [one]), .dat (.exc (c 10) a10 ["which"] [one]), .dat (.exc (c 11) a11 ["which"] [one]), .dat (.exc (c 12) a12 ["value"] [one]), .any, .any, .any, .any, .any, .any, .any, .any, .any, .any, .any, .any] _
  refine ws_seq <| ws_own (pf := true) (wl_lst (wa_cons (w_tup (wa_cons (w_var rfl (wa_cons (w_c (fun _ => .int _) (wa_cons (w_lst (wa_cons (w_xfld T.e9.X (T.e9.no _ (by simp)) (w_var rfl ⟨_, _, _, _, rfl, by rfl, (wa_nil ⟨by show 1 ≤ 100000; decide, (wa_cons (w_lst (wa_cons (w_var rfl (wa_nil ⟨by show 1 ≤ 100000; decide, (wa_nil ⟨by show 4 ≤ 100000; decide, (wa_cons (w_tup (wa_cons (w_var rfl (wa_cons (w_c (fun _ => .int _) (wa_cons (w_lst (wa_cons (w_xfld T.e10.X (T.e10.no _ (by simp)) (w_var rfl ⟨_, _, _, _, rfl, by rfl, (wa_nil ⟨by show 1 ≤ 100000; decide, (wa_cons (w_lst (wa_cons (w_var rfl (wa_nil ⟨by show 1 ≤ 100000; decide, (wa_nil ⟨by show 4 ≤ 100000; decide, (wa_cons (w_tup (wa_cons (w_var rfl (wa_cons (w_c (fun _ => .int _) (wa_cons (w_lst (wa_cons (w_xfld T.e11.X (T.e11.no _ (by simp)) (w_var rfl ⟨_, _, _, _, rfl, by rfl, (wa_nil ⟨by show 1 ≤ 100000; decide, (wa_cons (w_lst (wa_cons (w_var rfl (wa_nil ⟨by show 1 ≤ 100000; decide, (wa_nil ⟨by show 4 ≤ 100000; decide, (wa_nil ⟨by show 3 ≤ 100000; decide, by show 6 < 18; decide, ?_⟩)⟩)⟩)))))⟩)⟩)))))))))))⟩)⟩)))))⟩)⟩)))))))))))⟩)⟩)))))⟩)⟩))))))))))))
  show Ws K _ [.dat one, .dat two, .dat (.exc (c 9) a9 ["which"] [one]), .dat (.exc (c 10) a10 ["which"] [one]), .dat (.exc (c 11) a11 ["which"] [one]), .dat (.exc (c 12) a12 ["value"] [one]), .own [.tup [.exc (c 9) a9 ["which"] [one], .int 1, .lst [one], .lst [one]], .tup [.exc (c 10) a10 ["which"] [one], .int 1, .lst [one], .lst [one]], .tup [.exc (c 11) a11 ["which"] [one], .int 1, .lst [one], .lst [one]]], .any, .any, .any, .any, .any, .any, .any, .any, .any, .any, .any] _
  refine ws_freeze (i := 6) rfl <| ws_seq <| ws_par3 (pf := true) (wa_cons (w_mkV (wa_cons (w_var rfl (wa_nil ⟨by show 1 ≤ 900; decide, _, rfl, fun a13 => (wa_cons (w_mkV (wa_cons (w_var rfl (wa_nil ⟨by show 1 ≤ 900; decide, _, rfl, fun a14 => (wa_cons (w_mkV (wa_cons (w_var rfl (wa_nil ⟨by show 1 ≤ 900; decide, _, rfl, fun a15 => (wa_nil ⟨_, _, _, rfl, ?_⟩)⟩)))))⟩)))))⟩)))))
  show Ws K _ [.dat one, .dat two, .dat (.exc (c 9) a9 ["which"] [one]), .dat (.exc (c 10) a10 ["which"] [one]), .dat (.exc (c 11) a11 ["which"] [one]), .dat (.exc (c 12) a12 ["value"] [one]), .dat (.lst [.tup [.exc (c 9) a9 ["which"] [one], .int 1, .lst [one], .lst [one]], .tup [.exc (c 10) a10 ["which"] [one], .int 1, .lst [one], .lst [one]], .tup [.exc (c 11) a11 ["which"] [one], .int 1, .lst [one], .lst [one]]]), .dat (.exc (c 13) a13 ["value"] [one]), .dat (.exc (c 14) a14 ["value"] [one]), .dat (.exc (c 15) a15 ["value"] [one]), .any, .any, .any, .any, .any, .any, .any, .any] _
  refine ws_seq <| ws_own (pf := true) (wl_cat (w_var rfl (w_lst (wa_cons (w_tup (wa_cons (w_var rfl (wa_cons (w_c (fun _ => .int _) (wa_cons (w_lst (wa_cons (w_xfld T.e12.X (T.e12.no _ (by simp)) (w_var rfl ⟨_, _, _, _, rfl, by rfl, (wa_nil ⟨by show 1 ≤ 100000; decide, (wa_cons (w_lst (wa_cons (w_var rfl (wa_nil ⟨by show 1 ≤ 100000; decide, (wa_nil ⟨by show 4 ≤ 100000; decide, (wa_cons (w_tup (wa_cons (w_var rfl (wa_cons (w_c (fun _ => .int _) (wa_cons (w_lst (wa_cons (w_xfld T.e13.X (T.e13.no _ (by simp)) (w_var rfl ⟨_, _, _, _, rfl, by rfl, (wa_nil ⟨by show 1 ≤ 100000; decide, (wa_cons (w_lst (wa_cons (w_var rfl (wa_nil ⟨by show 1 ≤ 100000; decide, (wa_nil ⟨by show 4 ≤ 100000; decide, (wa_cons (w_tup (wa_cons (w_var rfl (wa_cons (w_c (fun _ => .int _) (wa_cons (w_lst (wa_cons (w_xfld T.e14.X (T.e14.no _ (by simp)) (w_var rfl ⟨_, _, _, _, rfl, by rfl, (wa_nil ⟨by show 1 ≤ 100000; decide, (wa_cons (w_lst (wa_cons (w_var rfl (wa_nil ⟨by show 1 ≤ 100000; decide, (wa_nil ⟨by show 4 ≤ 100000; decide, (wa_nil ⟨by show 3 ≤ 100000; decide, _, _, rfl, rfl, by show 3 + 3 ≤ 100000; decide, by show 6 < 18; decide, ?_⟩)⟩)⟩)))))⟩)⟩)))))))))))⟩)⟩)))))⟩)⟩)))))))))))⟩)⟩)))))⟩)⟩))))))))))))))
  show Ws K _ [.dat one, .dat two, .dat (.exc (c 9) a9 ["which"] [one]), .dat (.exc (c 10) a10 ["which"] [one]), .dat (.exc (c 11) a11 ["which"] [one]), .dat (.exc (c 12) a12 ["value"] [one]), .own [.tup [.exc (c 9) a9 ["which"] [one], .int 1, .lst [one], .lst [one]], .tup [.exc (c 10) a10 ["which"] [one], .int 1, .lst [one], .lst [one]], .tup [.exc (c 11) a11 ["which"] [one], .int 1, .lst [one], .lst [one]], .tup [.exc (c 12) a12 ["value"] [one], .int 1, .lst [one], .lst [one]], .tup [.exc (c 13) a13 ["value"] [one], .int 1, .lst [one], .lst [one]], .tup [.exc (c 14) a14 ["value"] [one], .int 1, .lst [one], .lst [one]]], .dat (.exc (c 13) a13 ["value"] [one]), .dat (.exc (c 14) a14 ["value"] [one]), .dat (.exc (c 15) a15 ["value"] [one]), .any, .any, .any, .any, .any, .any, .any, .any] _
  refine ws_seq <| ws_append (pf := true) (ds0 := [.tup [.exc (c 9) a9 ["which"] [one], .int 1, .lst [one], .lst [one]], .tup [.exc (c 10) a10 ["which"] [one], .int 1, .lst [one], .lst [one]], .tup [.exc (c 11) a11 ["which"] [one], .int 1, .lst [one], .lst [one]], .tup [.exc (c 12) a12 ["value"] [one], .int 1, .lst [one], .lst [one]], .tup [.exc (c 13) a13 ["value"] [one], .int 1, .lst [one], .lst [one]], .tup [.exc (c 14) a14 ["value"] [one], .int 1, .lst [one], .lst [one]]]) (w_tup (wa_cons (w_var rfl (wa_cons (w_c (fun _ => .int _) (wa_cons (w_lst (wa_cons (w_xfld T.e15.X (T.e15.no _ (by simp)) (w_var rfl ⟨_, _, _, _, rfl, by rfl, (wa_nil ⟨by show 1 ≤ 100000; decide, (wa_cons (w_lst (wa_cons (w_var rfl (wa_nil ⟨by show 1 ≤ 100000; decide, (wa_nil ⟨by show 4 ≤ 100000; decide, ⟨_, rfl, by show 6 < 100000; decide, ?_⟩⟩)⟩)))))⟩)⟩)))))))))) rfl
  show Ws K _ [.dat one, .dat two, .dat (.exc (c 9) a9 ["which"] [one]), .dat (.exc (c 10) a10 ["which"] [one]), .dat (.exc (c 11) a11 ["which"] [one]), .dat (.exc (c 12) a12 ["value"] [one]), .own [.tup [.exc (c 9) a9 ["which"] [one], .int 1, .lst [one], .lst [one]], .tup [.exc (c 10) a10 ["which"] [one], .int 1, .lst [one], .lst [one]], .tup [.exc (c 11) a11 ["which"] [one], .int 1, .lst [one], .lst [one]], .tup [.exc (c 12) a12 ["value"] [one], .int 1, .lst [one], .lst [one]], .tup [.exc (c 13) a13 ["value"] [one], .int 1, .lst [one], .lst [one]], .tup [.exc (c 14) a14 ["value"] [one], .int 1, .lst [one], .lst [one]], .tup [.exc (c 15) a15 ["value"] [one], .int 1, .lst [one], .lst [one]]], .dat (.exc (c 13) a13 ["value"] [one]), .dat (.exc (c 14) a14 ["value"] [one]), .dat (.exc (c 15) a15 ["value"] [one]), .any, .any, .any, .any, .any, .any, .any, .any] _
  refine ws_freeze (i := 6) rfl <| ws_seq <| ws_asgG (pf := true) (w_tup (wa_cons (w_mkV (wa_cons (w_var rfl (wa_nil ⟨by show 1 ≤ 900; decide, _, rfl, fun a16 => (wa_cons (w_mkV (wa_cons (w_var rfl (wa_nil ⟨by show 1 ≤ 900; decide, _, rfl, fun a17 => (wa_cons (w_mkV (wa_cons (w_var rfl (wa_nil ⟨by show 1 ≤ 900; decide, _, rfl, fun a18 => (wa_cons (w_mkV (wa_cons (w_var rfl (wa_nil ⟨by show 1 ≤ 900; decide, _, rfl, fun a19 => (wa_nil ⟨by show 4 ≤ 100000; decide, (wg_tup rfl (wgs_cons (wg_name (wgs_cons (wg_name (wgs_cons (wg_name (wgs_cons (wg_name (wgs_nil ?_))))))))))⟩)⟩)))))⟩)))))⟩)))))⟩))))))
  show Ws K _ [.dat one, .dat two, .dat (.exc (c 9) a9 ["which"] [one]), .dat (.exc (c 10) a10 ["which"] [one]), .dat (.exc (c 11) a11 ["which"] [one]), .dat (.exc (c 12) a12 ["value"] [one]), .dat (.lst [.tup [.exc (c 9) a9 ["which"] [one], .int 1, .lst [one], .lst [one]], .tup [.exc (c 10) a10 ["which"] [one], .int 1, .lst [one], .lst [one]], .tup [.exc (c 11) a11 ["which"] [one], .int 1, .lst [one], .lst [one]], .tup [.exc (c 12) a12 ["value"] [one], .int 1, .lst [one], .lst [one]], .tup [.exc (c 13) a13 ["value"] [one], .int 1, .lst [one], .lst [one]], .tup [.exc (c 14) a14 ["value"] [one], .int 1, .lst [one], .lst [one]], .tup [.exc (c 15) a15 ["value"] [one], .int 1, .lst [one], .lst [one]]]), .dat (.exc (c 13) a13 ["value"] [one]), .dat (.exc (c 14) a14 ["value"] [one]), .dat (.exc (c 15) a15 ["value"] [one]), .dat (.exc (c 16) a16 ["index"] [one]), .dat (.exc (c 17) a17 ["event"] [one]), .dat (.exc (c 18) a18 ["which"] [one]), .dat (.exc (c 19) a19 ["count"] [one]), .any, .any, .any, .any] _
  refine ws_seq <| ws_own (pf := true) (wl_cat (w_var rfl (w_lst (wa_cons (w_tup (wa_cons (w_var rfl (wa_cons (w_c (fun _ => .int _) (wa_cons (w_lst (wa_cons (w_xfld T.e16.X (T.e16.no _ (by simp)) (w_var rfl ⟨_, _, _, _, rfl, by rfl, (wa_nil ⟨by show 1 ≤ 100000; decide, (wa_cons (w_lst (wa_cons (w_var rfl (wa_nil ⟨by show 1 ≤ 100000; decide, (wa_nil ⟨by show 4 ≤ 100000; decide, (wa_cons (w_tup (wa_cons (w_var rfl (wa_cons (w_c (fun _ => .int _) (wa_cons (w_lst (wa_cons (w_xfld T.e17.X (T.e17.no _ (by simp)) (w_var rfl ⟨_, _, _, _, rfl, by rfl, (wa_nil ⟨by show 1 ≤ 100000; decide, (wa_cons (w_lst (wa_cons (w_var rfl (wa_nil ⟨by show 1 ≤ 100000; decide, (wa_nil ⟨by show 4 ≤ 100000; decide, (wa_nil ⟨by show 2 ≤ 100000; decide, _, _, rfl, rfl, by show 7 + 2 ≤ 100000; decide, by show 6 < 18; decide, ?_⟩)⟩)⟩)))))⟩)⟩)))))))))))⟩)⟩)))))⟩)⟩))))))))))))))
  show Ws K _ [.dat one, .dat two, .dat (.exc (c 9) a9 ["which"] [one]), .dat (.exc (c 10) a10 ["which"] [one]), .dat (.exc (c 11) a11 ["which"] [one]), .dat (.exc (c 12) a12 ["value"] [one]), .own [.tup [.exc (c 9) a9 ["which"] [one], .int 1, .lst [one], .lst [one]], .tup [.exc (c 10) a10 ["which"] [one], .int 1, .lst [one], .lst [one]], .tup [.exc (c 11) a11 ["which"] [one], .int 1, .lst [one], .lst [one]], .tup [.exc (c 12) a12 ["value"] [one], .int 1, .lst [one], .lst [one]], .tup [.exc (c 13) a13 ["value"] [one], .int 1, .lst [one], .lst [one]], .tup [.exc (c 14) a14 ["value"] [one], .int 1, .lst [one], .lst [one]], .tup [.exc (c 15) a15 ["value"] [one], .int 1, .lst [one], .lst [one]], .tup [.exc (c 16) a16 ["index"] [one], .int 2, .lst [one], .lst [one]], .tup [.exc (c 17) a17 ["event"] [one], .int 2, .lst [one], .lst [one]]], .dat (.exc (c 13) a13 ["value"] [one]), .dat (.exc (c 14) a14 ["value"] [one]), .dat (.exc (c 15) a15 ["value"] [one]), .dat (.exc (c 16) a16 ["index"] [one]), .dat (.exc (c 17) a17 ["event"] [one]), .dat (.exc (c 18) a18 ["which"] [one]), .dat (.exc (c 19) a19 ["count"] [one]), .any, .any, .any, .any] _
  refine ws_freeze (i := 6) rfl <| ws_seq <| ws_own (pf := true) (wl_cat (w_var rfl (w_lst (wa_cons (w_tup (wa_cons (w_var rfl (wa_cons (w_c (fun _ => .int _) (wa_cons (w_lst (wa_cons (w_xfld T.e18.X (T.e18.no _ (by simp)) (w_var rfl ⟨_, _, _, _, rfl, by rfl, (wa_nil ⟨by show 1 ≤ 100000; decide, (wa_cons (w_lst (wa_cons (w_var rfl (wa_nil ⟨by show 1 ≤ 100000; decide, (wa_nil ⟨by show 4 ≤ 100000; decide, (wa_cons (w_tup (wa_cons (w_var rfl (wa_cons (w_c (fun _ => .int _) (wa_cons (w_lst (wa_cons (w_xfld T.e19.X (T.e19.no _ (by simp)) (w_var rfl ⟨_, _, _, _, rfl, by rfl, (wa_nil ⟨by show 1 ≤ 100000; decide, (wa_cons (w_lst (wa_cons (w_var rfl (wa_nil ⟨by show 1 ≤ 100000; decide, (wa_nil ⟨by show 4 ≤ 100000; decide, (wa_nil ⟨by show 2 ≤ 100000; decide, _, _, rfl, rfl, by show 9 + 2 ≤ 100000; decide, by show 6 < 18; decide, ?_⟩)⟩)⟩)))))⟩)⟩)))))))))))⟩)⟩)))))⟩)⟩))))))))))))))
  show Ws K _ [.dat one, .dat two, .dat (.exc (c 9) a9 ["which"] [one]), .dat (.exc (c 10) a10 ["which"] [one]), .dat (.exc (c 11) a11 ["which"] [one]), .dat (.exc (c 12) a12 ["value"] [one]), .own [.tup [.exc (c 9) a9 ["which"] [one], .int 1, .lst [one], .lst [one]], .tup [.exc (c 10) a10 ["which"] [one], .int 1, .lst [one], .lst [one]], .tup [.exc (c 11) a11 ["which"] [one], .int 1, .lst [one], .lst [one]], .tup [.exc (c 12) a12 ["value"] [one], .int 1, .lst [one], .lst [one]], .tup [.exc (c 13) a13 ["value"] [one], .int 1, .lst [one], .lst [one]], .tup [.exc (c 14) a14 ["value"] [one], .int 1, .lst [one], .lst [one]], .tup [.exc (c 15) a15 ["value"] [one], .int 1, .lst [one], .lst [one]], .tup [.exc (c 16) a16 ["index"] [one], .int 2, .lst [one], .lst [one]], .tup [.exc (c 17) a17 ["event"] [one], .int 2, .lst [one], .lst [one]], .tup [.exc (c 18) a18 ["which"] [one], .int 2, .lst [one], .lst [one]], .tup [.exc (c 19) a19 ["count"] [one], .int 2, .lst [one], .lst [one]]], .dat (.exc (c 13) a13 ["value"] [one]), .dat (.exc (c 14) a14 ["value"] [one]), .dat (.exc (c 15) a15 ["value"] [one]), .dat (.exc (c 16) a16 ["index"] [one]), .dat (.exc (c 17) a17 ["event"] [one]), .dat (.exc (c 18) a18 ["which"] [one]), .dat (.exc (c 19) a19 ["count"] [one]), .any, .any, .any, .any] _
  refine ws_freeze (i := 6) rfl <| ws_seq <| ws_par3 (pf := true) (wa_cons (w_mkV (wa_cons (w_var rfl (wa_nil ⟨by show 1 ≤ 900; decide, _, rfl, fun a20 => (wa_cons (w_mkV (wa_cons (w_var rfl (wa_cons (w_var rfl (wa_nil ⟨by show 2 ≤ 900; decide, _, _, rfl, fun a21 => (wa_cons (w_mkV (wa_cons (w_var rfl (wa_nil ⟨by show 1 ≤ 900; decide, _, rfl, fun a22 => (wa_nil ⟨_, _, _, rfl, ?_⟩)⟩)))))⟩)))))))⟩)))))
  show Ws K _ [.dat one, .dat two, .dat (.exc (c 9) a9 ["which"] [one]), .dat (.exc (c 10) a10 ["which"] [one]), .dat (.exc (c 11) a11 ["which"] [one]), .dat (.exc (c 12) a12 ["value"] [one]), .dat (.lst [.tup [.exc (c 9) a9 ["which"] [one], .int 1, .lst [one], .lst [one]], .tup [.exc (c 10) a10 ["which"] [one], .int 1, .lst [one], .lst [one]], .tup [.exc (c 11) a11 ["which"] [one], .int 1, .lst [one], .lst [one]], .tup [.exc (c 12) a12 ["value"] [one], .int 1, .lst [one], .lst [one]], .tup [.exc (c 13) a13 ["value"] [one], .int 1, .lst [one], .lst [one]], .tup [.exc (c 14) a14 ["value"] [one], .int 1, .lst [one], .lst [one]], .tup [.exc (c 15) a15 ["value"] [one], .int 1, .lst [one], .lst [one]], .tup [.exc (c 16) a16 ["index"] [one], .int 2, .lst [one], .lst [one]], .tup [.exc (c 17) a17 ["event"] [one], .int 2, .lst [one], .lst [one]], .tup [.exc (c 18) a18 ["which"] [one], .int 2, .lst [one], .lst [one]], .tup [.exc (c 19) a19 ["count"] [one], .int 2, .lst [one], .lst [one]]]), .dat (.exc (c 13) a13 ["value"] [one]), .dat (.exc (c 14) a14 ["value"] [one]), .dat (.exc (c 15) a15 ["value"] [one]), .dat (.exc (c 16) a16 ["index"] [one]), .dat (.exc (c 17) a17 ["event"] [one]), .dat (.exc (c 18) a18 ["which"] [one]), .dat (.exc (c 19) a19 ["count"] [one]), .dat (.exc (c 20) a20 ["which"] [one]), .dat (.exc (c 21) a21 ["steps", "question"] [two, one]), .dat (.exc (c 22) a22 ["most"] [one]), .any] _
  refine ws_seq <| ws_own (pf := true) (wl_cat (w_var rfl (w_lst (wa_cons (w_tup (wa_cons (w_var rfl (wa_cons (w_c (fun _ => .int _) (wa_cons (w_lst (wa_cons (w_xfld T.e20.X (T.e20.no _ (by simp)) (w_var rfl ⟨_, _, _, _, rfl, by rfl, (wa_nil ⟨by show 1 ≤ 100000; decide, (wa_cons (w_lst (wa_cons (w_var rfl (wa_nil ⟨by show 1 ≤ 100000; decide, (wa_nil ⟨by show 4 ≤ 100000; decide, (wa_cons (w_tup (wa_cons (w_var rfl (wa_cons (w_c (fun _ => .int _) (wa_cons (w_lst (wa_cons (w_xfld T.e21.X (T.e21.no _ (by simp)) (w_var rfl ⟨_, _, _, _, rfl, by rfl, (wa_cons (w_xfld T.e21.X (T.e21.no _ (by simp)) (w_var rfl ⟨_, _, _, _, rfl, by rfl, (wa_nil ⟨by show 2 ≤ 100000; decide, (wa_cons (w_lst (wa_cons (w_var rfl (wa_cons (w_var rfl (wa_nil ⟨by show 2 ≤ 100000; decide, (wa_nil ⟨by show 4 ≤ 100000; decide, (wa_nil ⟨by show 2 ≤ 100000; decide, _, _, rfl, rfl, by show 11 + 2 ≤ 100000; decide, by show 6 < 18; decide, ?_⟩)⟩)⟩)))))))⟩)⟩)))⟩)))))))))))⟩)⟩)))))⟩)⟩))))))))))))))
  show Ws K _ [.dat one, .dat two, .dat (.exc (c 9) a9 ["which"] [one]), .dat (.exc (c 10) a10 ["which"] [one]), .dat (.exc (c 11) a11 ["which"] [one]), .dat (.exc (c 12) a12 ["value"] [one]), .own [.tup [.exc (c 9) a9 ["which"] [one], .int 1, .lst [one], .lst [one]], .tup [.exc (c 10) a10 ["which"] [one], .int 1, .lst [one], .lst [one]], .tup [.exc (c 11) a11 ["which"] [one], .int 1, .lst [one], .lst [one]], .tup [.exc (c 12) a12 ["value"] [one], .int 1, .lst [one], .lst [one]], .tup [.exc (c 13) a13 ["value"] [one], .int 1, .lst [one], .lst [one]], .tup [.exc (c 14) a14 ["value"] [one], .int 1, .lst [one], .lst [one]], .tup [.exc (c 15) a15 ["value"] [one], .int 1, .lst [one], .lst [one]], .tup [.exc (c 16) a16 ["index"] [one], .int 2, .lst [one], .lst [one]], .tup [.exc (c 17) a17 ["event"] [one], .int 2, .lst [one], .lst [one]], .tup [.exc (c 18) a18 ["which"] [one], .int 2, .lst [one], .lst [one]], .tup [.exc (c 19) a19 ["count"] [one], .int 2, .lst [one], .lst [one]], .tup [.exc (c 20) a20 ["which"] [one], .int 2, .lst [one], .lst [one]], .tup [.exc (c 21) a21 ["steps", "question"] [two, one], .int 2, .lst [one, two], .lst [one, two]]], .dat (.exc (c 13) a13 ["value"] [one]), .dat (.exc (c 14) a14 ["value"] [one]), .dat (.exc (c 15) a15 ["value"] [one]), .dat (.exc (c 16) a16 ["index"] [one]), .dat (.exc (c 17) a17 ["event"] [one]), .dat (.exc (c 18) a18 ["which"] [one]), .dat (.exc (c 19) a19 ["count"] [one]), .dat (.exc (c 20) a20 ["which"] [one]), .dat (.exc (c 21) a21 ["steps", "question"] [two, one]), .dat (.exc (c 22) a22 ["most"] [one]), .any] _
  refine ws_freeze (i := 6) rfl <| ws_seq <| ws_asg (pf := true) (w_mkV (wa_cons (w_var rfl (wa_nil ⟨by show 1 ≤ 900; decide, _, rfl, fun a23 => ?_⟩))))
  show Ws K _ [.dat one, .dat two, .dat (.exc (c 9) a9 ["which"] [one]), .dat (.exc (c 10) a10 ["which"] [one]), .dat (.exc (c 11) a11 ["which"] [one]), .dat (.exc (c 12) a12 ["value"] [one]), .dat (.lst [.tup [.exc (c 9) a9 ["which"] [one], .int 1, .lst [one], .lst [one]], .tup [.exc (c 10) a10 ["which"] [one], .int 1, .lst [one], .lst [one]], .tup [.exc (c 11) a11 ["which"] [one], .int 1, .lst [one], .lst [one]], .tup [.exc (c 12) a12 ["value"] [one], .int 1, .lst [one], .lst [one]], .tup [.exc (c 13) a13 ["value"] [one], .int 1, .lst [one], .lst [one]], .tup [.exc (c 14) a14 ["value"] [one], .int 1, .lst [one], .lst [one]], .tup [.exc (c 15) a15 ["value"] [one], .int 1, .lst [one], .lst [one]], .tup [.exc (c 16) a16 ["index"] [one], .int 2, .lst [one], .lst [one]], .tup [.exc (c 17) a17 ["event"] [one], .int 2, .lst [one], .lst [one]], .tup [.exc (c 18) a18 ["which"] [one], .int 2, .lst [one], .lst [one]], .tup [.exc (c 19) a19 ["count"] [one], .int 2, .lst [one], .lst [one]], .tup [.exc (c 20) a20 ["which"] [one], .int 2, .lst [one], .lst [one]], .tup [.exc (c 21) a21 ["steps", "question"] [two, one], .int 2, .lst [one, two], .lst [one, two]]]), .dat (.exc (c 13) a13 ["value"] [one]), .dat (.exc (c 14) a14 ["value"] [one]), .dat (.exc (c 15) a15 ["value"] [one]), .dat (.exc (c 16) a16 ["index"] [one]), .dat (.exc (c 17) a17 ["event"] [one]), .dat (.exc (c 18) a18 ["which"] [one]), .dat (.exc (c 19) a19 ["count"] [one]), .dat (.exc (c 20) a20 ["which"] [one]), .dat (.exc (c 21) a21 ["steps", "question"] [two, one]), .dat (.exc (c 22) a22 ["most"] [one]), .dat (.exc (c 23) a23 ["which"] [one])] _
  refine ws_ret (pf := true) (w_op (w_var rfl (w_lst (wa_cons (w_tup (wa_cons (w_var rfl (wa_cons (w_c (fun _ => .int _) (wa_cons (w_lst (wa_cons (w_xfld T.e22.X (T.e22.no _ (by simp)) (w_var rfl ⟨_, _, _, _, rfl, by rfl, (wa_nil ⟨by show 1 ≤ 100000; decide, (wa_cons (w_lst (wa_cons (w_var rfl (wa_nil ⟨by show 1 ≤ 100000; decide, (wa_nil ⟨by show 4 ≤ 100000; decide, (wa_cons (w_tup (wa_cons (w_var rfl (wa_cons (w_c (fun _ => .int _) (wa_cons (w_lst (wa_cons (w_xfld T.e23.X (T.e23.no _ (by simp)) (w_var rfl ⟨_, _, _, _, rfl, by rfl, (wa_nil ⟨by show 1 ≤ 100000; decide, (wa_cons (w_lst (wa_cons (w_var rfl (wa_nil ⟨by show 1 ≤ 100000; decide, (wa_nil ⟨by show 4 ≤ 100000; decide, (wa_nil ⟨by show 2 ≤ 100000; decide, od_cat (by show 13 + 2 ≤ 100000; decide) (q _ ?_)⟩)⟩)⟩)))))⟩)⟩)))))))))))⟩)⟩)))))⟩)⟩))))))))))))))
  exact ⟨rfl, fun k hk => match k, hk with
    | 0, _ => ⟨_, rfl, _, _, _, [one], rfl, by show 1 ≤ 2; decide, by simp⟩
    | 1, _ => ⟨_, rfl, _, _, _, [one], rfl, by show 1 ≤ 2; decide, by simp⟩
    | 2, _ => ⟨_, rfl, _, _, _, [one], rfl, by show 1 ≤ 2; decide, by simp⟩
    | 3, _ => ⟨_, rfl, _, _, _, [one], rfl, by show 1 ≤ 2; decide, by simp⟩
    | 4, _ => ⟨_, rfl, _, _, _, [one], rfl, by show 1 ≤ 2; decide, by simp⟩
    | 5, _ => ⟨_, rfl, _, _, _, [one], rfl, by show 1 ≤ 2; decide, by simp⟩
    | 6, _ => ⟨_, rfl, _, _, _, [one], rfl, by show 1 ≤ 2; decide, by simp⟩
    | 7, _ => ⟨_, rfl, _, _, _, [one], rfl, by show 1 ≤ 2; decide, by simp⟩
    | 8, _ => ⟨_, rfl, _, _, _, [one], rfl, by show 1 ≤ 2; decide, by simp⟩
    | 9, _ => ⟨_, rfl, _, _, _, [one], rfl, by show 1 ≤ 2; decide, by simp⟩
    | 10, _ => ⟨_, rfl, _, _, _, [one], rfl, by show 1 ≤ 2; decide, by simp⟩
    | 11, _ => ⟨_, rfl, _, _, _, [one], rfl, by show 1 ≤ 2; decide, by simp⟩
    | 12, _ => ⟨_, rfl, _, _, _, [one, two], rfl, by show 2 ≤ 2; decide, by simp⟩
    | 13, _ => ⟨_, rfl, _, _, _, [one], rfl, by show 1 ≤ 2; decide, by simp⟩
    | 14, _ => ⟨_, rfl, _, _, _, [one], rfl, by show 1 ≤ 2; decide, by simp⟩
    | n + 15, h => absurd h (by omega)⟩
end

end K01

namespace K01
open PySem PySem.Spec PyProof.Rows L2 DL
section
variable {X : Cx} {T : String} {name : Str} {id : String} {r : V → List V → Hp → VK → Prop} {o e : Expr} {es : List Expr} {to : TE} {t : TA} {apos cpos : Pos}
theorem pe_bmK (K : PySem.W.Frag) (hK : X.K = K) (pa : PlainAttrs T) (slot : Slot T name id) (hty : typeOf (.builtin id) = pure (.type "method_descriptor")) (hm : MtR X id r) (ho : PE X o to) (ha : PA X (e :: es) t) (hbase : attributeBase o name X.env (eval o X.env) = eval o X.env := by rfl)
    (hfew : ((backTo cpos (starEach (e :: es) X.env)).all (fun x => !x.1) && (backToKw cpos (keywordEach [] X.env)).all (fun x => x.1.isSome) && decide ((e :: es).length + ([] : List Keyword).length + (if ([] : List Keyword).isEmpty then 0 else 1) < 30)) = true := by rfl)
    (hline : (apos.endLine == cpos.line) = true := by rfl) (hs : starEach (e :: es) X.env = (false, eval e X.env) :: starEach es X.env := by rfl) (hplain : (backTo cpos (starEach es X.env)).any (·.1) = false := by rfl) : PE X (.Call (.Attribute o name apos) (e :: es) [] cpos) (tBM K T r to t) := by
  subst hK
  exact pe_bm pa slot hty hm ho ha hbase hfew hline hs hplain
end
theorem Thg.kept {d : Dt} (h : Thg d) (a C : Addr) (ns : List Str) (es : List Dt) : keptD a C ns es d = d := by
  obtain ⟨x, y, h⟩ := h
  simp only [things, List.mem_cons, List.not_mem_nil, or_false] at h
  rcases h with h | h | h | h | h | h | h | h | h | h | h | h | h | h | h | h <;> subst h <;> rfl
theorem kept_row {one two : Dt} (h1 : Thg one) (h2 : Thg two) {a C : Addr} {ns : List Str} {es l : List Dt} (hl : l.map (keptD a C ns es) = l) :
    keptO a C ns es [.dat one, .dat two, .own (l ++ [Dt.cls a]), .any, .any] = [.dat one, .dat two, .own (l ++ [.exc C a ns es]), .any, .any] := by
  have e : (l ++ [Dt.cls a]).map (keptD a C ns es) = l ++ [.exc C a ns es] := by
    rw [List.map_append, hl]
    show l ++ [if a = a then _ else _] = _
    rw [if_pos rfl]
  show [Sl.dat (keptD a C ns es one), .dat (keptD a C ns es two), .own ((l ++ [Dt.cls a]).map (keptD a C ns es)), .any, .any] = _
  rw [h1.kept, h2.kept, e]
section
variable {K : PySem.W.Frag} {pf : Bool} {ρ : List Sl} {te : TE} {wi : TI} {j : Nat} {Φ : Dt → List Sl → Prop}
/-- [f(d) for d in ..], by places -/
theorem w_lcZ (fs : List Dt) (e : ρ[j]? = some .any) (h : WI K pf wi ρ fun ds ρ1 => ρ1 = ρ ∧ ds.length ≤ 50000 ∧ ds.length = fs.length ∧ (∀ (k : Nat) (d y : Dt), ds[k]? = some d → fs[k]? = some y → Wp K pf te (ρ.set j (.dat d)) fun z ρ3 => z = y ∧ ρ3 = ρ.set j (.dat d)) ∧ Φ (.lst fs) ρ) :
    Wp K pf (tLc wi (gName j) tYes te [j]) ρ Φ := by
  refine w_lc (js := [j]) (fun _ z => z) fun M σ H S R q => h M σ H S R fun J H1 ds ρ1 s1 S1 w ⟨e1, hz, hl, he, z⟩ => q J H1 ds ρ1 s1 S1 w ?_
  subst e1
  have w0 : wipeS ρ1 [j] = ρ1 := by
    show ρ1.set j .any = ρ1
    have := set_any (s := .any) e
    rw [List.set_set] at this
    exact this
  have w1 : ∀ d, wipeS (ρ1.set j (.dat d)) [j] = ρ1 := fun d => set_any e
  refine ⟨⟨fun i acc ρ2 => ρ2 = ρ1 ∧ acc = fs.take i, ⟨w0, rfl⟩, hz, fun i d acc ρ2 hd ⟨e2, ea⟩ => ?_, fun acc ρ2 ⟨e2, ea⟩ => ?_⟩⟩
  · subst e2 ea
    have hi : i < fs.length := by rw [← hl]; exact (List.getElem?_eq_some_iff.mp hd).1
    have hy : fs[i]? = some fs[i] := List.getElem?_eq_getElem hi
    refine wg_name (wt_yes (ifT ((he i d _ hd hy).imp fun y ρ5 ⟨ey, e5⟩ => ?_)))
    subst e5 ey
    exact ⟨w1 d, by rw [List.take_add_one, hy]; rfl⟩
  · subst e2 ea
    rw [hl, List.take_length]
    exact z
end
abbrev sIsCaught : Stmt := topS 38
theorem scIsCaught : FnScope ["_law_one", "_law_two", "_law_told", "_law_caught", "_law_each"] ["_law_one", "_law_two"] (defScope sIsCaught) := ⟨rfl, rfl, rfl, by decide +kernel, rfl, by decide +kernel, by decide +kernel⟩

section
variable {P : Program} {w : World} {K : PySem.W.Frag} {mg : Str → Option Value} {base : Heap} {c b : Nat → Addr}
def WCaught : List Dt → (Dt → Prop) → Prop := fun ds Φ => ∃ one two, ds = [one, two] ∧ Thg one ∧ Thg two ∧ Φ (.bl true)
theorem ok_caught {f : Addr} {fd : FuncData} (F : Fun K "_law_is_caught" "_law_is_caught" sIsCaught f fd) (T : Tab K mg c b) (dF : DF K mg "_law_first_flags" sFirstFlags ["_law_caught"]) (gF : FnG P w K mg base CX0 2 dF.f dF.fd ["_law_caught"] (spP K (WFirst c))) :
    FnG P w K mg base CX0 3 f fd ["_law_one", "_law_two"] (spP K WCaught) := by
  refine defP F scIsCaught (fun ds Φ ⟨one, two, e, _⟩ => by rw [e]; rfl) (by decide) fun cdv A outer s H E hr hg => ?_
  have hm2 := hr
  refine ⟨_, pss_cons (ps_set (i := 2) scIsCaught.nd rfl (Or.inl rfl) (pe_lst pa_nil))
    <| pss_cons (ps_try_keep (i := 3) rfl rfl scIsCaught.nd rfl rfl ⟨by rfl, by decide, .inl T.n0⟩ takes0 (fun W pn xe tk _ => pss_one (ps_raise rfl tk (T.e7.pmk T.i7 rfl rfl hm2 (by rfl) (pa_cons (pv 0) (pa_cons (pv 1) pa_nil)))))
      (fun a oe cls d pn hz hf => pss_one (ps_expr (pe_bmK K rfl PySem.F.plainAttrs_list PySem.F.slot_list_append PySem.F.type_list_append mt_append (pv 2) (pa_cons (pv 3) pa_nil)))))
    <| pss_cons (ps_try_keep (i := 3) rfl rfl scIsCaught.nd rfl rfl ⟨by rfl, by decide, .inl T.n1⟩ takes0 (fun W pn xe tk _ => pss_one (ps_raise rfl tk (T.e15.pmk T.i15 rfl rfl hm2 (by rfl) (pa_cons (pv 0) pa_nil))))
      (fun a oe cls d pn hz hf => pss_one (ps_expr (pe_bmK K rfl PySem.F.plainAttrs_list PySem.F.slot_list_append PySem.F.type_list_append mt_append (pv 2) (pa_cons (pv 3) pa_nil)))))
    <| pss_cons (ps_try_keep (i := 3) rfl rfl scIsCaught.nd rfl rfl ⟨by rfl, by decide, .inl T.n2⟩ takes0 (fun W pn xe tk _ => pss_one (ps_raise rfl tk (T.e21.pmk T.i21 rfl rfl hm2 (by rfl) (pa_cons (pv 0) (pa_cons (pv 1) pa_nil)))))
      (fun a oe cls d pn hz hf => pss_one (ps_expr (pe_bmK K rfl PySem.F.plainAttrs_list PySem.F.slot_list_append PySem.F.type_list_append mt_append (pv 2) (pa_cons (pv 3) pa_nil)))))
    <| pss_cons (ps_try_keep (i := 3) rfl rfl scIsCaught.nd rfl rfl ⟨by rfl, by decide, .inl T.n3⟩ takes0 (fun W pn xe tk _ => pss_one (ps_raise rfl tk (T.e22.pmk T.i22 rfl rfl hm2 (by rfl) (pa_cons (pv 0) pa_nil))))
      (fun a oe cls d pn hz hf => pss_one (ps_expr (pe_bmK K rfl PySem.F.plainAttrs_list PySem.F.slot_list_append PySem.F.type_list_append mt_append (pv 2) (pa_cons (pv 3) pa_nil)))))
    <| pss_one (ps_ret (pe_cmpR (eqDK K rfl hr.units) (pe_lc (own := [("_law_each", 4)]) (g := gName 4) (tt := tYes) rfl scIsCaught.nd (pi_list (pv 2) ) (blkOk_by (N := ["_law_one", "_law_two", "_law_told", "_law_caught", "_law_each"]) (sc := defScope sIsCaught) (by decide +kernel)) (fun _ _ _ _ _ => pg_name (i := 4) scIsCaught.nd rfl (Or.inl rfl)) (fun _ _ _ _ _ => pts_nil) (fun _ _ _ _ _ => pe_bmK K rfl PySem.F.plainAttrs_list PySem.F.slot_list_index PySem.F.type_list_index (idxK K rfl) (pe_callG gF hr hg (by rfl) dF.g dF.F.kp dF.b .nil pass0 (pa_cons (pv 4) pa_nil)) (pa_cons pe_bl pa_nil))) (pe_lst (pa_cons pe_int (pa_cons pe_int (pa_cons pe_int (pa_cons pe_int pa_nil))))) (nomark _))), ?_⟩
  rintro ds Φ ⟨one, two, rfl, h1, h2, q⟩
  show Ws K _ [.dat one, .dat two, .any, .any, .any] _
  refine ws_seq <| ws_newlist (by show 2 < 5; decide) ?_
  show Ws K _ [.dat one, .dat two, .own [], .any, .any] _
  refine ws_seq <| ws_tryRaise (pf := true) (wa_cons (w_var rfl (wa_cons (w_var rfl (wa_nil ⟨by show 2 ≤ 900; decide, _, _, rfl, T.exm (i := 7) (j := 0) (by decide) (by decide) rfl, fun a7 dd => ?_⟩)))))
  refine ws_append (pf := true) (ds0 := []) (w_var (d := .cls a7) rfl ⟨_, rfl, by show 0 < 100000; decide, ?_⟩) rfl
  show Ws K _ (keptO a7 (c 7) _ _ [.dat one, .dat two, .own ([] ++ [Dt.cls a7]), .any, .any]) _
  rw [kept_row h1 h2 (l := []) (by simp [keptD])]
  show Ws K _ [.dat one, .dat two, .own [.exc (c 7) a7 ["word", "row"] [two, one]], .any, .any] _
  refine ws_seq <| ws_tryRaise (pf := true) (wa_cons (w_var rfl (wa_nil ⟨by show 1 ≤ 900; decide, _, rfl, T.exm (i := 15) (j := 1) (by decide) (by decide) rfl, fun a15 dd => ?_⟩)))
  refine ws_append (pf := true) (ds0 := [.exc (c 7) a7 ["word", "row"] [two, one]]) (w_var (d := .cls a15) rfl ⟨_, rfl, by show 1 < 100000; decide, ?_⟩) rfl
  show Ws K _ (keptO a15 (c 15) _ _ [.dat one, .dat two, .own ([.exc (c 7) a7 ["word", "row"] [two, one]] ++ [Dt.cls a15]), .any, .any]) _
  rw [kept_row h1 h2 (l := [.exc (c 7) a7 ["word", "row"] [two, one]]) (by simp [keptD])]
  show Ws K _ [.dat one, .dat two, .own [.exc (c 7) a7 ["word", "row"] [two, one], .exc (c 15) a15 ["value"] [one]], .any, .any] _
  refine ws_seq <| ws_tryRaise (pf := true) (wa_cons (w_var rfl (wa_cons (w_var rfl (wa_nil ⟨by show 2 ≤ 900; decide, _, _, rfl, T.exm (i := 21) (j := 2) (by decide) (by decide) rfl, fun a21 dd => ?_⟩)))))
  refine ws_append (pf := true) (ds0 := [.exc (c 7) a7 ["word", "row"] [two, one], .exc (c 15) a15 ["value"] [one]]) (w_var (d := .cls a21) rfl ⟨_, rfl, by show 2 < 100000; decide, ?_⟩) rfl
  show Ws K _ (keptO a21 (c 21) _ _ [.dat one, .dat two, .own ([.exc (c 7) a7 ["word", "row"] [two, one], .exc (c 15) a15 ["value"] [one]] ++ [Dt.cls a21]), .any, .any]) _
  rw [kept_row h1 h2 (l := [.exc (c 7) a7 ["word", "row"] [two, one], .exc (c 15) a15 ["value"] [one]]) (by simp [keptD])]
  show Ws K _ [.dat one, .dat two, .own [.exc (c 7) a7 ["word", "row"] [two, one], .exc (c 15) a15 ["value"] [one], .exc (c 21) a21 ["steps", "question"] [two, one]], .any, .any] _
  refine ws_seq <| ws_tryRaise (pf := true) (wa_cons (w_var rfl (wa_nil ⟨by show 1 ≤ 900; decide, _, rfl, T.exm (i := 22) (j := 3) (by decide) (by decide) rfl, fun a22 dd => ?_⟩)))
  refine ws_append (pf := true) (ds0 := [.exc (c 7) a7 ["word", "row"] [two, one], .exc (c 15) a15 ["value"] [one], .exc (c 21) a21 ["steps", "question"] [two, one]]) (w_var (d := .cls a22) rfl ⟨_, rfl, by show 3 < 100000; decide, ?_⟩) rfl
  show Ws K _ (keptO a22 (c 22) _ _ [.dat one, .dat two, .own ([.exc (c 7) a7 ["word", "row"] [two, one], .exc (c 15) a15 ["value"] [one], .exc (c 21) a21 ["steps", "question"] [two, one]] ++ [Dt.cls a22]), .any, .any]) _
  rw [kept_row h1 h2 (l := [.exc (c 7) a7 ["word", "row"] [two, one], .exc (c 15) a15 ["value"] [one], .exc (c 21) a21 ["steps", "question"] [two, one]]) (by simp [keptD])]
  show Ws K _ [.dat one, .dat two, .own [.exc (c 7) a7 ["word", "row"] [two, one], .exc (c 15) a15 ["value"] [one], .exc (c 21) a21 ["steps", "question"] [two, one], .exc (c 22) a22 ["most"] [one]], .any, .any] _
  refine ws_freeze (i := 2) rfl ?_
  show Ws K _ [.dat one, .dat two, .dat (.lst [.exc (c 7) a7 ["word", "row"] [two, one], .exc (c 15) a15 ["value"] [one], .exc (c 21) a21 ["steps", "question"] [two, one], .exc (c 22) a22 ["most"] [one]]), .any, .any] _
  refine ws_ret (pf := true) <| w_op <| w_lcZ (([7, 15, 21, 22] : List Int).map Dt.int) rfl <| wi_list <| w_var (d := .lst [.exc (c 7) a7 ["word", "row"] [two, one], .exc (c 15) a15 ["value"] [one], .exc (c 21) a21 ["steps", "question"] [two, one], .exc (c 22) a22 ["most"] [one]]) rfl ⟨_, rfl, rfl, by show 4 ≤ 50000; decide, rfl, ?_, w_lst <| wa_cons <| w_c (fun _ => .int 7) <| wa_cons <| w_c (fun _ => .int 15) <| wa_cons <| w_c (fun _ => .int 21) <| wa_cons <| w_c (fun _ => .int 22) <| wa_nil ⟨by show 4 ≤ 100000; decide, od_eqInts (xs := [7, 15, 21, 22]) (ys := [7, 15, 21, 22]) ?_⟩⟩
  · exact fun k d y hd hy => match k, d, y, hd, hy with
    | 0, _, _, hd, hy => by
      cases hd; cases hy
      exact w_idx <| w_call0 <| wa_cons <| w_var rfl <| wa_nil ⟨7, _, _, _, rfl, by decide, rfl, w_c (fun _ => .bl true) ⟨rfl, by decide, by decide, rfl, rfl⟩⟩
    | 1, _, _, hd, hy => by
      cases hd; cases hy
      exact w_idx <| w_call0 <| wa_cons <| w_var rfl <| wa_nil ⟨15, _, _, _, rfl, by decide, rfl, w_c (fun _ => .bl true) ⟨rfl, by decide, by decide, rfl, rfl⟩⟩
    | 2, _, _, hd, hy => by
      cases hd; cases hy
      exact w_idx <| w_call0 <| wa_cons <| w_var rfl <| wa_nil ⟨21, _, _, _, rfl, by decide, rfl, w_c (fun _ => .bl true) ⟨rfl, by decide, by decide, rfl, rfl⟩⟩
    | 3, _, _, hd, hy => by
      cases hd; cases hy
      exact w_idx <| w_call0 <| wa_cons <| w_var rfl <| wa_nil ⟨22, _, _, _, rfl, by decide, rfl, w_c (fun _ => .bl true) ⟨rfl, by decide, by decide, rfl, rfl⟩⟩
    | n + 4, _, _, hd, _ => nomatch hd
  · rw [decide_eq_true rfl]
    exact q
end

abbrev sLaw : Stmt := topS 39
theorem scLaw : FnScope ["_law_script", "_law_pen", "_law_lap", "_law_one", "_law_two", "_law_some", "_law_at", "_law_caught", "_law_base", "_law_told", "_law_due", "_law_other"] ["_law_script"] (defScope sLaw) := ⟨rfl, rfl, rfl, by decide +kernel, rfl, by decide +kernel, by decide +kernel⟩

section
variable {P : Program} {w : World} {K : PySem.W.Frag} {mg : Str → Option Value} {base : Heap} {c b : Nat → Addr}
def spLaw (K : PySem.W.Frag) : Sp := fun vs H Q _ => ∃ (a : Addr) (ns : List Int), vs = [.ref a] ∧ SqL K H a (ns.map V.int) ∧ ns.length ≤ 63 ∧ ∀ H', Q (.bl true) H'
def eqAt (k : Int) : Dt → Dt
  | .int o => .bl (decide (k = o))
  | _ => .non
theorem eqAt_row (k : Nat) (n : Nat) : (rangeD 0 n).map (eqAt k) = ((List.range n).map fun j => decide (k = j)).map Dt.bl := by
  unfold rangeD
  rw [List.map_map, List.map_map]
  refine List.map_congr_left fun j _ => ?_
  show Dt.bl (decide ((k : Int) = 0 + (j : Int))) = Dt.bl (decide (k = j))
  congr 1
  exact decide_eq_decide.mpr ⟨fun h => by omega, fun h => by omega⟩
theorem its_cat {c : Nat → Addr} {one two : Dt} {l1 l2 : List Dt} (h1 : Its c 0 9 one two l1) (h2 : Its c 9 15 one two l2) : Its c 0 24 one two (l1 ++ l2) := by
  refine ⟨by rw [List.length_append, h1.1, h2.1], fun k hk => ?_⟩
  by_cases h : k < 9
  · obtain ⟨x, e, i⟩ := h1.2 k h
    exact ⟨x, by rw [List.getElem?_append_left (by rw [h1.1]; exact h)]; exact e, i⟩
  · obtain ⟨x, e, i⟩ := h2.2 (k - 9) (by omega)
    refine ⟨x, by rw [List.getElem?_append_right (by rw [h1.1]; omega), h1.1]; exact e, ?_⟩
    have z : 9 + (k - 9) = 0 + k := by omega
    rw [z] at i
    exact i
theorem ok_law {f : Addr} {fd : FuncData} (F : Fun K "law" "law" sLaw f fd) (B : Bt mg) (dPenOf : DF K mg "_law_pen_of" sPenOf ["_law_script"]) (dAnyThing : DF K mg "_law_any_thing" sAnyThing ["_law_pen"]) (dMade : DF K mg "_law_made" sMade ["_law_one", "_law_two"]) (dMadeLater : DF K mg "_law_made_later" sMadeLater ["_law_one", "_law_two"])
    (dFirstFlags : DF K mg "_law_first_flags" sFirstFlags ["_law_caught"]) (dBaseFlags : DF K mg "_law_base_flags" sBaseFlags ["_law_caught"]) (dIsCaught : DF K mg "_law_is_caught" sIsCaught ["_law_one", "_law_two"])
    (gPenOf : FnG P w K mg base CX0 4 dPenOf.f dPenOf.fd ["_law_script"] (spPen K)) (gAnyThing : FnG P w K mg base CX0 4 dAnyThing.f dAnyThing.fd ["_law_pen"] (spN K WAny)) (gMade : FnG P w K mg base CX0 4 dMade.f dMade.fd ["_law_one", "_law_two"] (spP K (WMade c 0 9))) (gMadeLater : FnG P w K mg base CX0 4 dMadeLater.f dMadeLater.fd ["_law_one", "_law_two"] (spP K (WMade c 9 15)))
    (gFirstFlags : FnG P w K mg base CX0 4 dFirstFlags.f dFirstFlags.fd ["_law_caught"] (spP K (WFirst c))) (gBaseFlags : FnG P w K mg base CX0 4 dBaseFlags.f dBaseFlags.fd ["_law_caught"] (spP K (WBase c))) (gIsCaught : FnG P w K mg base CX0 4 dIsCaught.f dIsCaught.fd ["_law_one", "_law_two"] (spP K WCaught)) :
    FnG P w K mg base CX0 5 f fd ["_law_script"] (spLaw K) := by
  refine okG F scLaw (fun vs H Q E ⟨a, ns, e, _⟩ => by rw [e]; rfl) fun cdv A outer s H vs Q E hr hg h => ?_
  refine ⟨_, pss_cons (ps_set (i := 1) scLaw.nd rfl (Or.inl rfl) (pe_callG gPenOf hr hg (by rfl) dPenOf.g dPenOf.F.kp dPenOf.b .nil pass0 (pa_cons (pv 0) pa_nil)))
    <| pss_cons (ps_for PassesOwn.never rfl (pi_range1 (by rfl) B.range (pa_cons (pe_op op_add pe_int (pe_callB (lenK K rfl) (by rfl) B.len PySem.boot_len (pa_cons (pe_slice (slK K rfl) (pv 0) po_none (po_some pe_int)) pa_nil))) pa_nil)) (pg_name (i := 2) scLaw.nd rfl (Or.inl rfl))
    (pss_cons (ps_par (i := 3) (j := 4) (by rfl) scLaw.nd rfl rfl (by decide) rfl rfl (pa_cons (pe_callG gAnyThing hr hg (by rfl) dAnyThing.g dAnyThing.F.kp dAnyThing.b .nil pass0 (pa_cons (pv 1) pa_nil)) (pa_cons (pe_callG gAnyThing hr hg (by rfl) dAnyThing.g dAnyThing.F.kp dAnyThing.b .nil pass0 (pa_cons (pv 1) pa_nil)) pa_nil)) (by rfl))
      <| pss_cons (ps_set (i := 5) scLaw.nd rfl (Or.inl rfl) (pe_op (catLK K rfl) (pe_callG gMade hr hg (by rfl) dMade.g dMade.F.kp dMade.b .nil pass0 (pa_cons (pv 3) (pa_cons (pv 4) pa_nil))) (pe_callG gMadeLater hr hg (by rfl) dMadeLater.g dMadeLater.F.kp dMadeLater.b .nil pass0 (pa_cons (pv 3) (pa_cons (pv 4) pa_nil)))))
      <| pss_cons (ps_if (pt_cmpR op_ne (pe_callB (lenK K rfl) (by rfl) B.len PySem.boot_len (pa_cons (pv 5) pa_nil)) pe_int (nomark _))
      (pss_one (ps_ret pe_bl))
      pss_nil)
      <| pss_cons (ps_for PassesOwn.never rfl (pi_range1 (by rfl) B.range (pa_cons (pe_callB (lenK K rfl) (by rfl) B.len PySem.boot_len (pa_cons (pv 5) pa_nil)) pa_nil)) (pg_name (i := 6) scLaw.nd rfl (Or.inr rfl))
      (pss_cons (ps_asg (pe_ix (ixK K rfl) (pv 5) (pv 6) (fun _ _ => rfl)) (pg_tup rfl (pgs_cons (pg_name (i := 7) scLaw.nd rfl (Or.inl rfl)) (pgs_cons (pg_name (i := 8) scLaw.nd rfl (Or.inr rfl)) (pgs_cons (pg_name (i := 9) scLaw.nd rfl (Or.inl rfl)) (pgs_cons (pg_name (i := 10) scLaw.nd rfl (Or.inl rfl)) pgs_nil))))))
        <| pss_cons (ps_if (pt_cmpR (neDK K rfl hr.units) (pe_callG gFirstFlags hr hg (by rfl) dFirstFlags.g dFirstFlags.F.kp dFirstFlags.b .nil pass0 (pa_cons (pv 7) pa_nil)) (pe_lc (own := [("_law_other", 11)]) (g := gName 11) (tt := tYes) rfl scLaw.nd (pi_range1 (by rfl) B.range (pa_cons pe_int pa_nil)) (blkOk_by (N := ["_law_script", "_law_pen", "_law_lap", "_law_one", "_law_two", "_law_some", "_law_at", "_law_caught", "_law_base", "_law_told", "_law_due", "_law_other"]) (sc := defScope sLaw) (by decide +kernel)) (fun _ _ _ _ _ => pg_name (i := 11) scLaw.nd rfl (Or.inl rfl)) (fun _ _ _ _ _ => pts_nil) (fun _ _ _ _ _ => pe_cmpR op_eq (pv 6) (pv 11) (nomark _))) (nomark _))
        (pss_one (ps_ret pe_bl))
        pss_nil)
        <| pss_cons (ps_if (pt_cmpR (neDK K rfl hr.units) (pe_callG gBaseFlags hr hg (by rfl) dBaseFlags.g dBaseFlags.F.kp dBaseFlags.b .nil pass0 (pa_cons (pv 7) pa_nil)) (pe_lc (own := [("_law_other", 11)]) (g := gName 11) (tt := tYes) rfl scLaw.nd (pi_range1 (by rfl) B.range (pa_cons pe_int pa_nil)) (blkOk_by (N := ["_law_script", "_law_pen", "_law_lap", "_law_one", "_law_two", "_law_some", "_law_at", "_law_caught", "_law_base", "_law_told", "_law_due", "_law_other"]) (sc := defScope sLaw) (by decide +kernel)) (fun _ _ _ _ _ => pg_name (i := 11) scLaw.nd rfl (Or.inl rfl)) (fun _ _ _ _ _ => pts_nil) (fun _ _ _ _ _ => pe_cmpR op_eq (pv 8) (pv 11) (nomark _))) (nomark _))
        (pss_one (ps_ret pe_bl))
        pss_nil)
        <| pss_one (ps_if (pt_cmpR op_ne (pe_callB (call_reprX hg hr.units) (by rfl) B.repr boot_repr (pa_cons (pv 9) pa_nil)) (pe_callB (call_reprX hg hr.units) (by rfl) B.repr boot_repr (pa_cons (pv 10) pa_nil)) (nomark _))
        (pss_one (ps_ret pe_bl))
        pss_nil)))
      <| pss_one (ps_if (pt_not (pt_val (pe_callG gIsCaught hr hg (by rfl) dIsCaught.g dIsCaught.F.kp dIsCaught.b .nil pass0 (pa_cons (pv 3) (pa_cons (pv 4) pa_nil)))))
      (pss_one (ps_ret pe_bl))
      pss_nil)))
    <| pss_one (ps_ret pe_bl), ?_⟩
  obtain ⟨a, ns, rfl, hS, hlen, q⟩ := h
  refine pen_head (N := ["_law_script", "_law_pen", "_law_lap", "_law_one", "_law_two", "_law_some", "_law_at", "_law_caught", "_law_base", "_law_told", "_law_due", "_law_other"]) (k := 10) rfl (fun t ht => nomatch ht) hS hlen q ?_
  show Ws K _ [.dat (.lst (ns.map Dt.int)), .pen 0, .any, .any, .any, .any, .any, .any, .any, .any, .any, .any] _
  refine ws_seqI (fun _ => True) ?_ (fun ρ' _ => ws_ret (pf := true) <| w_c (fun _ => .bl true) rfl)
  have e20 : cutD (ns.map Dt.int) none (some 20) = (ns.map Dt.int).take 20 := cutD_to 20 rfl
  have l20 : ((ns.map Dt.int).take 20).length ≤ 20 := by rw [List.length_take]; omega
  refine ws_for (js := [2]) (fun ds i ρ' => ds.length ≤ 21 ∧ ∃ n, n ≤ 2 * i ∧ ρ' = [.dat (.lst (ns.map Dt.int)), .pen n, .any, .any, .any, .any, .any, .any, .any, .any, .any, .any]) <| wi_rng1 (pf := true) <| wa_cons <| w_op <| w_c (fun _ => .int 1) <| w_cb <| wa_cons <| w_sl <| w_var (d := .lst (ns.map Dt.int)) rfl <| wo_none <| wo_some <| w_c (fun _ => .int 20) ⟨20, rfl, sd_list <| wa_nil <| rd_len rfl <| od_I0i <| wa_nil ⟨_, rfl, by rw [e20]; omega, by rw [e20]; omega, ?_⟩⟩
  rw [e20]
  have hd21 : (rangeD 0 ((1 : Int) + (((ns.map Dt.int).take 20).length : Nat)).toNat).length ≤ 21 := by rw [rangeD_len]; omega
  refine ⟨⟨hd21, 0, by omega, rfl⟩, ?_, fun _ _ => trivial⟩
  rintro i d0 ρ2 hd ⟨_, n, hn, rfl⟩
  have hi : i < 21 := Nat.lt_of_lt_of_le (List.getElem?_eq_some_iff.mp hd).1 hd21
  refine wg_name ?_
  show Ws K _ [.dat (.lst (ns.map Dt.int)), .pen n, .dat d0, .any, .any, .any, .any, .any, .any, .any, .any, .any] _
  refine ws_seq <| ws_par (pf := false) <| wa_cons <| w_callN (i := 1) rfl <| wa_nil ⟨n, rfl, rfl, by omega, fun one h1 => wa_cons <| w_callN (i := 1) rfl <| wa_nil ⟨n + 1, rfl, rfl, by omega, fun two h2 => wa_nil ⟨one, two, rfl, ?_⟩⟩⟩
  have hn2 : n + 1 + 1 ≤ 2 * (i + 1) := by omega
  show Ws K _ [.dat (.lst (ns.map Dt.int)), .pen (n + 1 + 1), .dat d0, .dat one, .dat two, .any, .any, .any, .any, .any, .any, .any] _
  generalize n + 1 + 1 = n2 at hn2 ⊢
  refine ws_seq <| ws_asg (pf := true) <| w_op <| w_call0 <| wa_cons <| w_var (d := one) rfl <| wa_cons <| w_var (d := two) rfl <| wa_nil ⟨one, two, rfl, fun l1 g1 => w_call0 <| wa_cons <| w_var (d := one) rfl <| wa_cons <| w_var (d := two) rfl <| wa_nil ⟨one, two, rfl, fun l2 g2 => od_cat (by rw [g1.1, g2.1]; decide) ?_⟩⟩
  have hI := its_cat g1 g2
  show Ws K _ [.dat (.lst (ns.map Dt.int)), .pen n2, .dat d0, .dat one, .dat two, .dat (.lst (l1 ++ l2)), .any, .any, .any, .any, .any, .any] _
  generalize l1 ++ l2 = l at hI ⊢
  obtain ⟨hl, hI⟩ := hI
  refine ws_seq <| ws_if (pf := true) <| wt_test <| w_op <| w_cb <| wa_cons <| w_var (d := .lst l) rfl <| wa_nil <| rd_len rfl <| w_c (fun _ => .int 24) <| od_nei ⟨_, rfl, ?_⟩
  rw [hl, show decide (((24 : Nat) : Int) = 24) = true by decide]
  refine ifF <| ws_next ?_
  refine ws_seqI (fun ρ' => ρ' = [.dat (.lst (ns.map Dt.int)), .pen n2, .dat d0, .dat one, .dat two, .dat (.lst l), .any, .any, .any, .any, .any, .any]) ?_ ?_
  · refine ws_for (js := [6]) (fun ds k ρ' => ds = rangeD 0 24 ∧ ρ' = [.dat (.lst (ns.map Dt.int)), .pen n2, .dat d0, .dat one, .dat two, .dat (.lst l), .any, .any, .any, .any, .any, .any]) <| wi_rng1 (pf := true) <| wa_cons <| w_cb <| wa_cons <| w_var (d := .lst l) rfl <| wa_nil <| rd_len rfl <| wa_nil ⟨_, rfl, by rw [hl]; decide, by rw [hl]; decide, ?_⟩
    rw [hl]
    refine ⟨⟨rfl, rfl⟩, ?_, fun ρ3 ⟨_, e⟩ => e⟩
    rintro k d ρ3 hk ⟨_, rfl⟩
    have hk24 : k < 24 := by
      have := (List.getElem?_eq_some_iff.mp hk).1
      rw [rangeD_len] at this
      exact this
    have ed : d = .int ((0 : Int) + (k : Nat)) := by
      have := rangeD_at (lo := 0) (n := 24) hk24
      exact Option.some.inj (hk.symm.trans this)
    have e0 : (0 : Int) + (k : Nat) = ((k : Nat) : Int) := by omega
    rw [e0] at ed
    subst ed
    have hk0 := hI k hk24
    rw [Nat.zero_add] at hk0
    obtain ⟨x, hx, a, es, fs, ts, rfl, ht, hts⟩ := hk0
    have hfit : Fit (.lst ts) := fit_row (by omega) fun t h => by
      rcases hts t h with rfl | rfl
      · exact h1
      · exact h2
    refine wg_name ?_
    show Ws K _ [.dat (.lst (ns.map Dt.int)), .pen n2, .dat d0, .dat one, .dat two, .dat (.lst l), .dat (.int (k : Nat)), .any, .any, .any, .any, .any] _
    refine ws_seq <| ws_asgG (pf := true) <| w_op <| w_var (d := .lst l) rfl <| w_var (d := .int (k : Nat)) rfl <| od_ix rfl (atI_nat' hx) <| wg_tup rfl <| wgs_cons <| wg_name <| wgs_cons <| wg_name <| wgs_cons <| wg_name <| wgs_cons <| wg_name <| wgs_nil ?_
    show Ws K _ [.dat (.lst (ns.map Dt.int)), .pen n2, .dat d0, .dat one, .dat two, .dat (.lst l), .dat (.int (k : Nat)), .dat (.exc (c k) a es fs), .dat (.int ((bo k : Nat) : Int)), .dat (.lst ts), .dat (.lst ts), .any] _
    refine ws_seq <| ws_if (pf := true) <| wt_test <| w_op <| w_call0 <| wa_cons <| w_var (d := .exc (c k) a es fs) rfl <| wa_nil ⟨k, a, es, fs, rfl, hk24, w_lcM (eqAt (k : Nat)) rfl <| wi_rng1 <| wa_cons <| w_c (fun _ => .int 24) <| wa_nil ⟨24, rfl, by decide, by decide, rfl, by rw [rangeD_len]; decide, ?_, ?_⟩⟩
    · intro d hm
      obtain ⟨o, _, rfl⟩ := rangeD_mem hm
      exact w_op <| w_var (d := .int (k : Nat)) rfl <| w_var (d := .int (o : Nat)) rfl <| od_eqi ⟨rfl, rfl⟩
    · have er : (rangeD 0 (24 : Int).toNat).map (eqAt (k : Nat)) = (flags k).map Dt.bl := eqAt_row k 24
      rw [er]
      refine od_neBls ⟨_, rfl, ?_⟩
      rw [decide_eq_true rfl]
      refine ifF <| ws_next ?_
      refine ws_seq <| ws_if (pf := true) <| wt_test <| w_op <| w_call0 <| wa_cons <| w_var (d := .exc (c k) a es fs) rfl <| wa_nil ⟨k, a, es, fs, rfl, hk24, w_lcM (eqAt (bo k : Nat)) rfl <| wi_rng1 <| wa_cons <| w_c (fun _ => .int 4) <| wa_nil ⟨4, rfl, by decide, by decide, rfl, by rw [rangeD_len]; decide, ?_, ?_⟩⟩
      · intro d hm
        obtain ⟨o, _, rfl⟩ := rangeD_mem hm
        exact w_op <| w_var (d := .int ((bo k : Nat) : Int)) rfl <| w_var (d := .int (o : Nat)) rfl <| od_eqi ⟨rfl, rfl⟩
      · have er : (rangeD 0 (4 : Int).toNat).map (eqAt (bo k : Nat)) = (bflags k).map Dt.bl := eqAt_row (bo k) 4
        rw [er]
        refine od_neBls ⟨_, rfl, ?_⟩
        rw [decide_eq_true rfl]
        refine ifF <| ws_next ?_
        refine ws_wk <| ws_if (pf := true) <| wt_test <| w_op <| w_cb <| wa_cons <| w_var (d := .lst ts) rfl <| wa_nil <| rd_repr hfit <| w_cb <| wa_cons <| w_var (d := .lst ts) rfl <| wa_nil <| rd_repr hfit <| od_nes ⟨_, rfl, ?_⟩
        rw [decide_eq_true rfl]
        exact ifF <| ws_next ⟨_, by (repeat (first | exact Wk.nil | refine Wk.keep ?_ | refine Wk.drop ?_)), rfl, rfl⟩
  · rintro ρ' rfl
    refine ws_wk <| ws_if (pf := true) <| wt_not <| wt_test <| w_call0 <| wa_cons <| w_var (d := one) rfl <| wa_cons <| w_var (d := two) rfl <| wa_nil ⟨one, two, rfl, h1, h2, true, rfl, ?_⟩
    exact ifF <| ws_next ⟨_, by (repeat (first | exact Wk.nil | refine Wk.keep ?_ | refine Wk.drop ?_)), hd21, n2, hn2, rfl⟩
end
end K01

set_option maxHeartbeats 4000000
namespace K01
open PySem PySem.Spec PyProof.Rows L2 DL
inductive BFac (K : PySem.W.Frag) (x : Str) (C : Addr) : Prop
  | mk (a : PySem.W.nsIn K mainGlobals x = some (some (.ref C))) (b : PySem.W.isClsIn K C = true) (t : PySem.W.typeIn K (.ref C) = some (.type "type")) (s : PySem.W.subIn K (.ref C) (.type "BaseException") = some true) : BFac K x C
def at24 (l : List Addr) (i : Nat) : Addr := l.getD i 0
theorem at_inj {l : List Addr} (h : l.Nodup) {i j : Nat} (hi : i < l.length) (hj : j < l.length) (e : at24 l i = at24 l j) : i = j := by
  unfold at24 at e
  rw [List.getD_eq_getElem?_getD, List.getD_eq_getElem?_getD, List.getElem?_eq_getElem hi, List.getElem?_eq_getElem hj] at e
  exact (List.getElem_inj h).mp e
section
variable {K : PySem.W.Frag} {h : Heap} {mg : Str → Option Value} {C0 C1 C2 C3 C4 C5 C6 C7 C8 C9 C10 C11 C12 C13 C14 C15 C16 C17 C18 C19 C20 C21 C22 C23 B0 B1 B2 B3 : Addr}
theorem tab_mk (X : K.In h) (G : h.Ns mainGlobals mg) (gq : glq K = true) (nd : [C0, C1, C2, C3, C4, C5, C6, C7, C8, C9, C10, C11, C12, C13, C14, C15, C16, C17, C18, C19, C20, C21, C22, C23, B0, B1, B2, B3].Nodup)
    (b0 : BFac K "DuskError" B0)
    (b1 : BFac K "AbsentError" B1)
    (b2 : BFac K "TurnError" B2)
    (b3 : BFac K "SizeError" B3)
    (f0 : CFac K "InvalidName" ["value"] B0 "ValueError.__new__" tlV C0) (g0 : IFac K C0 "InvalidName.__init__" iInvalidName)
    (f1 : CFac K "InvalidIsle" ["which", "part"] B0 "ValueError.__new__" tlV C1) (g1 : IFac K C1 "InvalidIsle.__init__" iInvalidIsle)
    (f2 : CFac K "InvalidStation" ["part"] B0 "ValueError.__new__" tlV C2) (g2 : IFac K C2 "InvalidStation.__init__" iInvalidStation)
    (f3 : CFac K "InvalidWire" ["which", "part"] B0 "ValueError.__new__" tlV C3) (g3 : IFac K C3 "InvalidWire.__init__" iInvalidWire)
    (f4 : CFac K "InvalidChip" ["part", "which"] B0 "ValueError.__new__" tlV C4) (g4 : IFac K C4 "InvalidChip.__init__" iInvalidChip)
    (f5 : CFac K "InvalidEvent" ["index"] B0 "ValueError.__new__" tlV C5) (g5 : IFac K C5 "InvalidEvent.__init__" iInvalidEvent)
    (f6 : CFac K "InvalidLogic" ["which"] B0 "ValueError.__new__" tlV C6) (g6 : IFac K C6 "InvalidLogic.__init__" iInvalidLogic)
    (f7 : CFac K "InvalidText" ["row", "word"] B0 "ValueError.__new__" tlV C7) (g7 : IFac K C7 "InvalidText.__init__" iInvalidText)
    (f8 : CFac K "UnknownCommand" [] B0 "ValueError.__new__" tlV C8)
    (f9 : CFac K "NoIsle" ["which"] B1 "LookupError.__new__" tlL C9) (g9 : IFac K C9 "NoIsle.__init__" iNoIsle)
    (f10 : CFac K "NoWire" ["which"] B1 "LookupError.__new__" tlL C10) (g10 : IFac K C10 "NoWire.__init__" iNoWire)
    (f11 : CFac K "NoPart" ["which"] B1 "LookupError.__new__" tlL C11) (g11 : IFac K C11 "NoPart.__init__" iNoPart)
    (f12 : CFac K "NoQuestion" ["value"] B1 "LookupError.__new__" tlL C12) (g12 : IFac K C12 "NoQuestion.__init__" iNoQuestion)
    (f13 : CFac K "NoSpot" ["value"] B1 "LookupError.__new__" tlL C13) (g13 : IFac K C13 "NoSpot.__init__" iNoSpot)
    (f14 : CFac K "NoPair" ["value"] B1 "LookupError.__new__" tlL C14) (g14 : IFac K C14 "NoPair.__init__" iNoPair)
    (f15 : CFac K "NoState" ["value"] B1 "LookupError.__new__" tlL C15) (g15 : IFac K C15 "NoState.__init__" iNoState)
    (f16 : CFac K "NotNow" ["index"] B2 "RuntimeError.__new__" tlR C16) (g16 : IFac K C16 "NotNow.__init__" iNotNow)
    (f17 : CFac K "NotLet" ["event"] B2 "RuntimeError.__new__" tlR C17) (g17 : IFac K C17 "NotLet.__init__" iNotLet)
    (f18 : CFac K "CannotSleep" ["which"] B2 "RuntimeError.__new__" tlR C18) (g18 : IFac K C18 "CannotSleep.__init__" iCannotSleep)
    (f19 : CFac K "NothingToUndo" ["count"] B2 "RuntimeError.__new__" tlR C19) (g19 : IFac K C19 "NothingToUndo.__init__" iNothingToUndo)
    (f20 : CFac K "HasTurns" ["which"] B2 "RuntimeError.__new__" tlR C20) (g20 : IFac K C20 "HasTurns.__init__" iHasTurns)
    (f21 : CFac K "NotSafe" ["question", "steps"] B2 "RuntimeError.__new__" tlR C21) (g21 : IFac K C21 "NotSafe.__init__" iNotSafe)
    (f22 : CFac K "TooMany" ["most"] B3 "OverflowError.__new__" tlO C22) (g22 : IFac K C22 "TooMany.__init__" iTooMany)
    (f23 : CFac K "HoldsOwn" ["which"] B2 "RuntimeError.__new__" tlR C23) (g23 : IFac K C23 "HoldsOwn.__init__" iHoldsOwn)
    (u8 : PySem.W.excIn K C8 tlV "ValueError.__new__" = true) :
    Tab K mg (at24 [C0, C1, C2, C3, C4, C5, C6, C7, C8, C9, C10, C11, C12, C13, C14, C15, C16, C17, C18, C19, C20, C21, C22, C23]) (at24 [B0, B1, B2, B3]) := by
  have nd0 : [C0, C1, C2, C3, C4, C5, C6, C7, C8, C9, C10, C11, C12, C13, C14, C15, C16, C17, C18, C19, C20, C21, C22, C23].Nodup := (List.nodup_append.mp (show ([C0, C1, C2, C3, C4, C5, C6, C7, C8, C9, C10, C11, C12, C13, C14, C15, C16, C17, C18, C19, C20, C21, C22, C23] ++ [B0, B1, B2, B3]).Nodup from nd)).1
  have nd1 : [B0, B1, B2, B3].Nodup := (List.nodup_append.mp (show ([C0, C1, C2, C3, C4, C5, C6, C7, C8, C9, C10, C11, C12, C13, C14, C15, C16, C17, C18, C19, C20, C21, C22, C23] ++ [B0, B1, B2, B3]).Nodup from nd)).2.1
  have nd2 := (List.nodup_append.mp (show ([C0, C1, C2, C3, C4, C5, C6, C7, C8, C9, C10, C11, C12, C13, C14, C15, C16, C17, C18, C19, C20, C21, C22, C23] ++ [B0, B1, B2, B3]).Nodup from nd)).2.2
  have e0 := CFac.er (k := 0) f0 X G gq
  have e1 := CFac.er (k := 0) f1 X G gq
  have e2 := CFac.er (k := 0) f2 X G gq
  have e3 := CFac.er (k := 0) f3 X G gq
  have e4 := CFac.er (k := 0) f4 X G gq
  have e5 := CFac.er (k := 0) f5 X G gq
  have e6 := CFac.er (k := 0) f6 X G gq
  have e7 := CFac.er (k := 0) f7 X G gq
  have e8 := CFac.er (k := 0) f8 X G gq
  have e9 := CFac.er (k := 1) f9 X G gq
  have e10 := CFac.er (k := 1) f10 X G gq
  have e11 := CFac.er (k := 1) f11 X G gq
  have e12 := CFac.er (k := 1) f12 X G gq
  have e13 := CFac.er (k := 1) f13 X G gq
  have e14 := CFac.er (k := 1) f14 X G gq
  have e15 := CFac.er (k := 1) f15 X G gq
  have e16 := CFac.er (k := 2) f16 X G gq
  have e17 := CFac.er (k := 2) f17 X G gq
  have e18 := CFac.er (k := 2) f18 X G gq
  have e19 := CFac.er (k := 2) f19 X G gq
  have e20 := CFac.er (k := 2) f20 X G gq
  have e21 := CFac.er (k := 2) f21 X G gq
  have e22 := CFac.er (k := 3) f22 X G gq
  have e23 := CFac.er (k := 2) f23 X G gq
  refine ⟨fun i j hi hj e => at_inj nd0 hi hj e, fun i j hi hj e => ?_, fun i j hi hj e => at_inj nd1 hi hj e, fun j hj => ?_, ?_, ?_, ?_, ?_, e0, iniInvalidName e0 g0, e1, iniInvalidIsle e1 g1, e2, iniInvalidStation e2 g2, e3, iniInvalidWire e3 g3, e4, iniInvalidChip e4 g4, e5, iniInvalidEvent e5 g5, e6, iniInvalidLogic e6 g6, e7, iniInvalidText e7 g7, e8, e9, iniNoIsle e9 g9, e10, iniNoWire e10 g10, e11, iniNoPart e11 g11, e12, iniNoQuestion e12 g12, e13, iniNoSpot e13 g13, e14, iniNoPair e14 g14, e15, iniNoState e15 g15, e16, iniNotNow e16 g16, e17, iniNotLet e17 g17, e18, iniCannotSleep e18 g18, e19, iniNothingToUndo e19 g19, e20, iniHasTurns e20 g20, e21, iniNotSafe e21 g21, e22, iniTooMany e22 g22, e23, iniHoldsOwn e23 g23, u8⟩
  · unfold at24 at e
    rw [List.getD_eq_getElem?_getD, List.getD_eq_getElem?_getD, List.getElem?_eq_getElem (show i < 24 from hi), List.getElem?_eq_getElem (show j < 4 from hj)] at e
    exact nd2 _ (List.getElem_mem _) _ (List.getElem_mem _) e
  · match j, hj with
    | 0, _ => cases b0 with | mk a b t s => exact ⟨b, t, s⟩
    | 1, _ => cases b1 with | mk a b t s => exact ⟨b, t, s⟩
    | 2, _ => cases b2 with | mk a b t s => exact ⟨b, t, s⟩
    | 3, _ => cases b3 with | mk a b t s => exact ⟨b, t, s⟩
    | n + 4, h => exact absurd h (by omega)
  · cases b0 with | mk a b t s => exact PySem.W.mg_of X G a
  · cases b1 with | mk a b t s => exact PySem.W.mg_of X G a
  · cases b2 with | mk a b t s => exact PySem.W.mg_of X G a
  · cases b3 with | mk a b t s => exact PySem.W.mg_of X G a
end
section
variable {l : PySem.W.OpenLaw} {w : World} {K : PySem.W.Frag} {h : Heap} {mg : Str → Option Value} {fa : Addr} {c b : Nat → Addr}
theorem all_mk (X : K.In h) (G : h.Ns mainGlobals mg) (hfa : mg "law" = some (.ref fa)) (T : Tab K mg c b)
    (z0 : PySem.W.nsIn K mainGlobals "isinstance" = some none)
    (z1 : PySem.W.nsIn K mainGlobals "int" = some none)
    (z2 : PySem.W.nsIn K mainGlobals "bool" = some none)
    (z3 : PySem.W.nsIn K mainGlobals "str" = some none)
    (z4 : PySem.W.nsIn K mainGlobals "tuple" = some none)
    (z5 : PySem.W.nsIn K mainGlobals "list" = some none)
    (z6 : PySem.W.nsIn K mainGlobals "len" = some none)
    (z7 : PySem.W.nsIn K mainGlobals "all" = some none)
    (z8 : PySem.W.nsIn K mainGlobals "set" = some none)
    (z9 : PySem.W.nsIn K mainGlobals "range" = some none)
    (z10 : PySem.W.nsIn K mainGlobals "abs" = some none)
    (z11 : PySem.W.nsIn K mainGlobals "repr" = some none)
    (z12 : PySem.W.nsIn K mainGlobals "enumerate" = some none)
    (z13 : PySem.W.nsIn K mainGlobals "sorted" = some none)
    (y0 : PySem.W.nsIn K mainGlobals "ValueError" = some none)
    (y1 : PySem.W.nsIn K mainGlobals "LookupError" = some none)
    (y2 : PySem.W.nsIn K mainGlobals "RuntimeError" = some none)
    (y3 : PySem.W.nsIn K mainGlobals "OverflowError" = some none)
    (f0 : Fac K "_law_pen_of" sPenOf)
    (f1 : Fac K "_law_draw" sDraw)
    (f2 : Fac K "_law_pick" sPick)
    (f3 : Fac K "_law_any_thing" sAnyThing)
    (f4 : Fac K "_law_first_flags" sFirstFlags)
    (f5 : Fac K "_law_base_flags" sBaseFlags)
    (f6 : Fac K "_law_made" sMade)
    (f7 : Fac K "_law_made_later" sMadeLater)
    (f8 : Fac K "_law_is_caught" sIsCaught)
    (fL : Fac K "law" sLaw) :
    ∃ fd : FuncData, (∀ (s : Shared) (v : Value), BindsTo s fd ⟨[v], []⟩ [("_law_script", v)]) ∧ ∀ base : Heap, K.In base → base.Ns mainGlobals mg → FnG l.prog w K mg base CX0 5 fa fd ["_law_script"] (spLaw K) := by
  obtain ⟨d0⟩ := f0.df (ps := ["_law_script"]) X G fun _ _ _ _ _ _ us hl => match us, hl with | [_], _ => rfl
  obtain ⟨d1⟩ := f1.df (ps := ["_law_pen", "_law_many"]) X G fun _ _ _ _ _ _ us hl => match us, hl with | [_, _], _ => rfl
  obtain ⟨d2⟩ := f2.df (ps := ["_law_pen", "_law_some"]) X G fun _ _ _ _ _ _ us hl => match us, hl with | [_, _], _ => rfl
  obtain ⟨d3⟩ := f3.df (ps := ["_law_pen"]) X G fun _ _ _ _ _ _ us hl => match us, hl with | [_], _ => rfl
  obtain ⟨d4⟩ := f4.df (ps := ["_law_caught"]) X G fun _ _ _ _ _ _ us hl => match us, hl with | [_], _ => rfl
  obtain ⟨d5⟩ := f5.df (ps := ["_law_caught"]) X G fun _ _ _ _ _ _ us hl => match us, hl with | [_], _ => rfl
  obtain ⟨d6⟩ := f6.df (ps := ["_law_one", "_law_two"]) X G fun _ _ _ _ _ _ us hl => match us, hl with | [_, _], _ => rfl
  obtain ⟨d7⟩ := f7.df (ps := ["_law_one", "_law_two"]) X G fun _ _ _ _ _ _ us hl => match us, hl with | [_, _], _ => rfl
  obtain ⟨d8⟩ := f8.df (ps := ["_law_one", "_law_two"]) X G fun _ _ _ _ _ _ us hl => match us, hl with | [_, _], _ => rfl
  cases fL with
  | @mk f od an sl oc kV dc pm cd ct aL lL cL kL =>
    have e := hfa.symm.trans (PySem.W.mg_of X G aL)
    cases e
    have FL := fun_mk (st := sLaw) lL cL kL
    have B : Bt mg := ⟨PySem.W.mg_none_of X G z0, PySem.W.mg_none_of X G z1, PySem.W.mg_none_of X G z2, PySem.W.mg_none_of X G z3, PySem.W.mg_none_of X G z4, PySem.W.mg_none_of X G z5, PySem.W.mg_none_of X G z6, PySem.W.mg_none_of X G z7, PySem.W.mg_none_of X G z8, PySem.W.mg_none_of X G z9, PySem.W.mg_none_of X G z10, PySem.W.mg_none_of X G z11, PySem.W.mg_none_of X G z12, PySem.W.mg_none_of X G z13⟩
    have V : Vt mg := ⟨PySem.W.mg_none_of X G y0, PySem.W.mg_none_of X G y1, PySem.W.mg_none_of X G y2, PySem.W.mg_none_of X G y3⟩
    refine ⟨PySem.W.fnOf "law" "law" (defArgs sLaw) (defBody sLaw) (defScope sLaw) .none kV dc pm an cd ct, fun s v => .of_eq rfl, fun base _ _ => ?_⟩
    have g0 := ok_penOf (P := l.prog) (w := w) (base := base) d0.F B
    have g1 := ok_draw (P := l.prog) (w := w) (base := base) d1.F B
    have g2 := ok_pick d2.F d1.F d1.b d1.g B g1
    have g3 := ok_any d3.F d2 g2
    have g4 := ok_first (P := l.prog) (w := w) (base := base) d4.F B T
    have g5 := ok_base (P := l.prog) (w := w) (base := base) d5.F B V T
    have g6 := ok_Made (P := l.prog) (w := w) (base := base) d6.F T
    have g7 := ok_MadeLater (P := l.prog) (w := w) (base := base) d7.F T
    have g8 := ok_caught d8.F T d4 (g4.mono (by decide))
    exact ok_law FL B d0 d3 d6 d7 d4 d5 d8 (g0.mono (by decide)) (g3.mono (by decide)) (g6.mono (by decide)) (g7.mono (by decide)) (g4.mono (by decide)) (g5.mono (by decide)) (g8.mono (by decide))
end
end K01

/-! The head of a law, its defs called with no guard held: what is told of the heap there is the script, and the empty tables of code objects of the defs that make lambdas. -/
namespace DL
open PySem PySem.Spec PyProof.Rows L2 LamX
/-- where a law's call begins; cs: code objects and their tables -/
structure Start (K : PySem.W.Frag) (mg mb : Str → Option Value) (s : Shared) (cs : List (Addr × Addr)) (a : Addr) (vs : List Value) (ns : List Int) : Prop where
  kIn : K.In s.heap
  gl : s.heap.Ns mainGlobals mg
  bl : s.heap.Ns builtinsNs mb
  boot : ∀ x : Str, x ≠ "__name__" → mb x = bootBuiltins x
  lim : s.heap.NoLimit
  gens : s.gens = #[]
  main : ∃ (bm : Addr) (ob : Obj), mg "__builtins__" = some (.ref bm) ∧ bm ≠ builtinsNs ∧ s.heap.get? bm = some ob ∧ ob.cls = .type "module" ∧ ob.dict = some builtinsNs ∧ ob.data = .plain
  arg : s.heap.get? a = some { cls := .type "list", data := .seq vs.toArray }
  nums : IntsAre vs ns
  few : ns.length ≤ sizeLine
  tabs : ∀ q ∈ cs, s.heap.get? q.2 = some { cls := .none, data := .fields #[] } ∧ K.lookup q.2 = none ∧ PySem.W.codeHdIn K q.1 q.2 = true
/-- the script, frozen -/
def scriptO (vs : List Value) (ns : List Int) : HO := .frz { cls := .type "list", data := .seq vs.toArray } (.lst (ns.map V.int))
/-- what is told there: the tables, and the script where it is no object of the top -/
def startH (K : PySem.W.Frag) (cs : List (Addr × Addr)) (a : Addr) (vs : List Value) (ns : List Int) : Hp := fun b =>
  if b ∈ cs.map Prod.snd then some (.tbl #[]) else if (b == a && (K.lookup a).isNone) = true then some (scriptO vs ns) else none
section
variable {P : Program} {w : World} {K : PySem.W.Frag} {mg mb : Str → Option Value} {s : Shared} {cs : List (Addr × Addr)} {a : Addr} {vs : List Value} {ns : List Int}
theorem start_tab {q : Addr × Addr} (h : q ∈ cs) : startH K cs a vs ns q.2 = some (.tbl #[]) := if_pos (List.mem_map_of_mem h)
theorem start_cases {b : Addr} {u : HO} (e : startH K cs a vs ns b = some u) : (u = .tbl #[] ∧ ∃ q ∈ cs, q.2 = b) ∨ (u = scriptO vs ns ∧ b = a ∧ K.lookup a = none) := by
  unfold startH at e
  split at e
  · rename_i h
    exact .inl ⟨(Option.some.inj e).symm, List.mem_map.mp h⟩
  · split at e
    · rename_i h
      rw [Bool.and_eq_true, beq_iff_eq, Option.isNone_iff_eq_none] at h
      exact .inr ⟨(Option.some.inj e).symm, h⟩
    · cases e
/-- each thing told is there -/
theorem Start.ok (S : Start K mg mb s cs a vs ns) : HOk P w (startH K cs a vs ns) s.heap := fun b u e => by
  rcases start_cases e with ⟨rfl, q, hq, rfl⟩ | ⟨rfl, rfl, _⟩
  · exact (S.tabs q hq).1
  · exact ⟨S.arg, by rw [List.length_map]; exact S.few, vs, _, vals_ints S.nums, S.arg⟩
/-- what is neither a table nor a list is not told: it stays below -/
theorem Start.below (S : Start K mg mb s cs a vs ns) {b : Addr} {o : Obj} (e : s.heap.get? b = some o) (h1 : o.data ≠ .fields #[]) (h2 : o.data ≠ .seq vs.toArray) : (hidT s.heap (startH K cs a vs ns)).get? b = some o := by
  refine hidT_get e ?_
  cases c : startH K cs a vs ns b with
  | none => rfl
  | some u =>
    rcases start_cases c with ⟨_, q, hq, rfl⟩ | ⟨_, rfl, _⟩
    · rw [(S.tabs q hq).1] at e
      exact (h1 (Option.some.inj e ▸ rfl)).elim
    · rw [S.arg] at e
      exact (h2 (Option.some.inj e ▸ rfl)).elim
theorem Start.names (S : Start K mg mb s cs a vs ns) {b : Addr} {m : Str → Option Value} (h : s.heap.Ns b m) : (hidT s.heap (startH K cs a vs ns)).Ns b m :=
  h.elim fun o ⟨es, ep, e, d, r⟩ => ⟨o, es, ep, S.below e (by rw [d]; nofun) (by rw [d]; nofun), d, r⟩
theorem Start.top (S : Start K mg mb s cs a vs ns) : K.In (hidT s.heap (startH K cs a vs ns)) := fun b o e => by
  refine hidT_get (S.kIn b o e) ?_
  cases c : startH K cs a vs ns b with
  | none => rfl
  | some u =>
    rcases start_cases c with ⟨_, q, hq, rfl⟩ | ⟨_, rfl, n⟩
    · rw [(S.tabs q hq).2.1] at e; cases e
    · rw [n] at e; cases e
theorem Start.mod (S : Start K mg mb s cs a vs ns) : Mod K mg (hidT s.heap (startH K cs a vs ns)) :=
  ⟨S.top, S.names S.gl, ⟨mb, S.names S.bl, S.boot⟩, S.lim.elim fun mc h => ⟨mc, S.names h.1, h.2⟩⟩
theorem Start.env (S : Start K mg mb s cs a vs ns) : Env0 P w K mg (hidT s.heap (startH K cs a vs ns)) callerA [] s (startH K cs a vs ns) :=
  ⟨rfl, S.mod, fun _ _ => of_hidT, Nat.le_of_eq (hidT_size _ _), trivial, nofun, S.ok, .of_eq S.gens⟩
theorem Start.tabB (S : Start K mg mb s cs a vs ns) {q : Addr × Addr} (hq : q ∈ cs) : TabB (hidT s.heap (startH K cs a vs ns)) mg q.1 q.2 := by
  obtain ⟨t1, _, t3⟩ := S.tabs q hq
  obtain ⟨og, _, _, eg, dg, _⟩ := S.gl
  obtain ⟨bm, ob, b1, b2, b3, b4, b5, b6⟩ := S.main
  have ng : mainGlobals ≠ q.2 := fun z => by
    rw [z, t1] at eg
    rw [← Option.some.inj eg] at dg
    cases dg
  refine ⟨PySem.W.codeHd_of_K S.top t3, ⟨bm, ob, b1, b2, fun z => ?_, fun z => ?_, S.below b3 (by rw [b6]; nofun) (by rw [b6]; nofun), b4, b5, b6⟩, ng⟩
  · rw [z, eg] at b3
    rw [← Option.some.inj b3, dg] at b6
    cases b6
  · rw [z, t1] at b3
    rw [← Option.some.inj b3] at b6
    cases b6
/-- the script as the law sees it -/
theorem Start.script (S : Start K mg mb s cs a vs ns) : SqL K (startH K cs a vs ns) a (ns.map V.int) := by
  cases k : K.lookup a with
  | some o =>
    have e := S.kIn a o k
    rw [S.arg] at e
    cases e
    exact .inr ⟨_, vs.toArray, _, k, rfl, rfl, rfl, by rw [List.size_toArray, S.nums.length]; exact S.few, vals_ints S.nums⟩
  | none =>
    refine .inl (.inr ⟨{ cls := .type "list", data := .seq vs.toArray }, ?_⟩)
    unfold startH
    rw [if_neg fun h => ?_, if_pos (by rw [k, beq_self_eq_true]; rfl)]
    · rfl
    · obtain ⟨q, hq, rfl⟩ := List.mem_map.mp h
      have e := (S.tabs q hq).1
      rw [S.arg] at e
      exact nomatch congrArg Obj.data (Option.some.inj e)
/-- what stood there stands behind the call; the tables have grown -/
theorem Start.old (S : Start K mg mb s cs a vs ns) {H' : Hp} {h' : Heap} (un : Un (frs []) [] (startH K cs a vs ns) H' s.heap h') (ok : HOk P w H' h') : OldK s.heap h' := by
  have grown : ∀ q ∈ cs, ∃ xs : Array Value, h'.get? q.2 = some { cls := .none, data := .fields xs } := fun q hq => (un.tbls q.2 #[] (start_tab hq)).elim fun m e => ⟨_, ok q.2 _ e⟩
  have each : ∀ b o, s.heap.get? b = some o → h'.get? b = some o ∨ ∃ q ∈ cs, q.2 = b := fun b o e => by
    cases c : startH K cs a vs ns b with
    | none => exact .inl (un.keep b o e c nofun nofun)
    | some u =>
      rcases start_cases c with ⟨_, z⟩ | ⟨rfl, rfl, _⟩
      · exact .inr z
      · rw [S.arg] at e
        exact .inl (e ▸ (ok _ _ (un.frzs _ _ _ c)).1)
  refine ⟨fun b o e => ?_, fun b o e => ?_⟩ <;> rcases each b o e with z | ⟨q, hq, rfl⟩
  · exact .inl z
  · obtain ⟨xs, y⟩ := grown q hq
    obtain ⟨t1, _, t3⟩ := S.tabs q hq
    rw [t1] at e
    cases e
    exact .inr (.inl ⟨((PySem.W.codeHd_of_K S.kIn t3).tab t1).isCodeTable, rfl, #[], xs, rfl, by rw [Array.empty_append]; exact y⟩)
  · exact ⟨o, z⟩
  · exact (grown q hq).elim fun _ y => ⟨_, y⟩
/-- the law's def called -/
theorem Start.call (S : Start K mg mb s cs a vs ns) {k : Nat} {fa : Addr} {fd : FuncData} {x : Str} {sp : Sp} (hr : Room k callerA)
    (F : FnG P w K mg (hidT s.heap (startH K cs a vs ns)) CX0 k fa fd [x] sp) (bd : BindsTo s fd ⟨[.ref a], []⟩ [(x, .ref a)])
    (h : sp [.ref a] (startH K cs a vs ns) (fun v _ => v = .bl true) fun _ _ _ => False) :
    codeAny (model P w) callerA (.call (.ref fa) ⟨[.ref a], []⟩) (fun r s' => r = .ok (.ret (.bool true)) ∧ OldK s.heap s'.heap ∧ s'.os = s.os ∧ AllBare s'.gens) s := by
  refine codeAny_mono (F.run callerA [] s _ ⟨[.ref a], []⟩ [.ref a] [.ref a] _ _ hr rfl S.env bd (.cons rfl .nil) h) ?_
  rintro (e | f) s' z
  · exact z.elim
  cases f with
  | ret u =>
    obtain ⟨v, H', os, bare, un, ok, r, rfl⟩ := z
    cases r
    exact ⟨rfl, S.old un ok, os, bare⟩
  | _ => exact z.elim
end
/-- what the top tells of a def that makes lambdas: its code object, its table -/
structure LamAt (K : PySem.W.Frag) (mg : Str → Option Value) (dn : Str) (c P : Addr) : Prop where
  ex : ∃ (f : Addr) (o : Obj) (g : FuncData), mg dn = some (.ref f) ∧ K.lookup f = some o ∧ o.data = .func g ∧ g.code = .ref c
  hd : PySem.W.codeHdIn K c P = true
  out : K.lookup P = none
section
variable {l : PySem.W.OpenLaw} {n k : Nat} {q : Program} {loose : List Str} {XP : (Str → Option Value) → Heap → Prop} {YP : World → Heap → Prop} {d : DefRec} {K : Params → PySem.W.Frag} {x : Str}
theorem walk_ofG {sp : PySem.W.Frag → Sp} (hn : l.most = some n) (hn2 : n ≤ sizeLine) (hdf : d.params.defaults = []) (hr : Room k callerA) (hY : ∀ (w : World) (h : Heap), YP w h → (K w.params).In h)
    (F : ∀ (w : World) (mg : Str → Option Value) (fa : Addr) (h : Heap), (K w.params).In h → h.Ns mainGlobals mg → mg d.name = some (.ref fa) →
      ∃ fd : FuncData, (∀ (s : Shared) (u : Value), BindsTo s fd ⟨[u], []⟩ [(x, u)]) ∧
        ∀ base : Heap, (K w.params).In base → base.Ns mainGlobals mg → FnG l.prog w (K w.params) mg base CX0 k fa fd [x] (sp (K w.params)))
    (hsp : ∀ (K : PySem.W.Frag) (H : Hp) (a : Addr) (ns : List Int), ns.length ≤ n → Only H → SqL K H a (ns.map V.int) → sp K [.ref a] H (fun v _ => v = .bl true) fun _ _ _ => False) :
    PySem.W.WalkO q loose XP YP l.row.toRowW d [] (fun f vs => PySem.call f vs) := by
  refine Att.attach_call hn hdf fun w s0 s1 mg mb fa o pm cd doc a vs ns G Y ho hd hcd hmg hobj hints hlen hg => ?_
  have S : Start (K w.params) mg mb s1 [] a vs ns := ⟨hY w _ Y, G.T.g, G.T.b, G.T.builtins, G.T.nolimit, hg, G.T.bmain, hobj, hints, Nat.le_trans hlen hn2, nofun⟩
  obtain ⟨fd, bd, hF⟩ := F w mg fa _ S.kIn S.gl hmg
  refine S.call hr (hF _ S.top (S.names S.gl)) (bd s1 (.ref a)) (hsp _ _ a ns hlen (fun b => ?_) S.script)
  cases c : startH (K w.params) [] a vs ns b with
  | none => exact .inl rfl
  | some u =>
    rcases start_cases c with ⟨_, q, z, _⟩ | ⟨rfl, _⟩
    · cases z
    · exact .inr ⟨_, _, rfl⟩
theorem walk_ofGT {dn : Str} {sp : PySem.W.Frag → Addr → Sp}
    (hn : l.most = some n) (hn2 : n ≤ sizeLine) (hdf : d.params.defaults = []) (hr : Room k callerA) (hdn : ((recsOf q).any fun e => e.name == dn) = true) (hY : ∀ (w : World) (h : Heap), YP w h → (K w.params).In h)
    (F : ∀ (w : World) (mg : Str → Option Value) (fa : Addr) (h : Heap), (K w.params).In h → h.Ns mainGlobals mg → mg d.name = some (.ref fa) →
      ∃ (c P : Addr) (fd : FuncData), LamAt (K w.params) mg dn c P ∧ (∀ (s : Shared) (u : Value), BindsTo s fd ⟨[u], []⟩ [(x, u)]) ∧
        ∀ base : Heap, (K w.params).In base → base.Ns mainGlobals mg → TabB base mg c P → FnG l.prog w (K w.params) mg base CX0 k fa fd [x] (sp (K w.params) P))
    (hsp : ∀ (K : PySem.W.Frag) (P : Addr) (H : Hp) (a : Addr) (ns : List Int), ns.length ≤ n → H P = some (.tbl #[]) → SqL K H a (ns.map V.int) → sp K P [.ref a] H (fun v _ => v = .bl true) fun _ _ _ => False) :
    PySem.W.WalkO q loose XP YP l.row.toRowW d [] (fun f vs => PySem.call f vs) := by
  refine Att.attach_call hn hdf fun w s0 s1 mg mb fa o pm cd doc a vs ns G Y ho hd hcd hmg hobj hints hlen hg => ?_
  have KX := hY w _ Y
  obtain ⟨c, P, fd, ⟨⟨f, o2, g, k1, k2, k3, k4⟩, k5, k6⟩, bd, hF⟩ := F w mg fa _ KX G.T.g hmg
  have em : s1.heap.get? P = some { cls := .none, data := .fields #[] } := by
    obtain ⟨e, he, hne⟩ := List.any_eq_true.mp hdn
    obtain ⟨_, _, _, _, _, z1, z2, z3, z4, _, ⟨_, _, y1, _, y3, y4⟩, y5⟩ := G.T.tab e he
    rw [beq_iff_eq.mp hne, k1] at z1
    cases z1
    rw [KX _ _ k2] at z2
    cases z2
    rw [k3] at z3
    cases z3
    rw [k4] at z4
    cases z4
    obtain ⟨_, _, _, _, _, _, _, _, _, x1, _, x3, x4, _⟩ := PySem.W.codeHd_of_K KX k5
    rw [x1] at y1
    cases y1
    rw [x3] at y3
    cases y3
    rw [x4] at y4
    cases y4
    exact y5
  have S : Start (K w.params) mg mb s1 [(c, P)] a vs ns := ⟨KX, G.T.g, G.T.b, G.T.builtins, G.T.nolimit, hg, G.T.bmain, hobj, hints, Nat.le_trans hlen hn2, fun q hq => List.mem_singleton.mp hq ▸ ⟨em, k6, k5⟩⟩
  exact S.call hr (hF _ S.top (S.names S.gl) (S.tabB (.head _))) (bd s1 (.ref a)) (hsp _ P _ a ns hlen (start_tab (q := (c, P)) (.head _)) S.script)
end
end DL

open PySem PySem.W PyProof.Rows
set_option maxHeartbeats 0 in
theorem PySem.Challenge.cw_duskisles_k01_errors_holds : PySem.Challenge.rw_duskisles_k01_errors.Holds := by
  w_on; o_law; k_head; (case hw => w_witness2)
  k_fill
  refine DL.walk_ofG (l := PySem.Challenge.rw_duskisles_k01_errors) (n := 63) (k := 5) (x := "_law_script") (sp := fun K => K01.spLaw K) rfl (by decide) rfl ⟨rfl, by decide, by decide⟩ (fun w h Y => PySem.W.kIn_of Y) ?F (fun K H a ns hl _ hS => ⟨a, ns, rfl, hS, hl, fun _ => rfl⟩)
  case F =>
    intro w mg fa h KX G hmg
    obtain ⟨c, b, T⟩ : ∃ c b, K01.Tab _ mg c b := by
      refine' ⟨_, _, K01.tab_mk KX G ?egq ?end0 ?eb0 ?eb1 ?eb2 ?eb3 ?ef0 ?eg0 ?ef1 ?eg1 ?ef2 ?eg2 ?ef3 ?eg3 ?ef4 ?eg4 ?ef5 ?eg5 ?ef6 ?eg6 ?ef7 ?eg7 ?ef8 ?ef9 ?eg9 ?ef10 ?eg10 ?ef11 ?eg11 ?ef12 ?eg12 ?ef13 ?eg13 ?ef14 ?eg14 ?ef15 ?eg15 ?ef16 ?eg16 ?ef17 ?eg17 ?ef18 ?eg18 ?ef19 ?eg19 ?ef20 ?eg20 ?ef21 ?eg21 ?ef22 ?eg22 ?ef23 ?eg23 ?eu8⟩
      (case eb0 => (refine' K01.BFac.mk ?qa ?qb ?qt ?qs; (case qa => k_is); (case qb => k_is); (case qt => k_is); (case qs => k_is)))
      (case eb1 => (refine' K01.BFac.mk ?qa ?qb ?qt ?qs; (case qa => k_is); (case qb => k_is); (case qt => k_is); (case qs => k_is)))
      (case eb2 => (refine' K01.BFac.mk ?qa ?qb ?qt ?qs; (case qa => k_is); (case qb => k_is); (case qt => k_is); (case qs => k_is)))
      (case eb3 => (refine' K01.BFac.mk ?qa ?qb ?qt ?qs; (case qa => k_is); (case qb => k_is); (case qt => k_is); (case qs => k_is)))
      (case ef0 => (refine' K01.CFac.mk ?qa ?ql ?qb; (case qa => k_is); (case ql => k_is); (case qb => kernel_rfl)))
      (case eg0 => (refine' K01.IFac.mk ?qi ?ql ?qc; (case qi => k_is); (case ql => k_is); (case qc => k_is)))
      (case ef1 => (refine' K01.CFac.mk ?qa ?ql ?qb; (case qa => k_is); (case ql => k_is); (case qb => kernel_rfl)))
      (case eg1 => (refine' K01.IFac.mk ?qi ?ql ?qc; (case qi => k_is); (case ql => k_is); (case qc => k_is)))
      (case ef2 => (refine' K01.CFac.mk ?qa ?ql ?qb; (case qa => k_is); (case ql => k_is); (case qb => kernel_rfl)))
      (case eg2 => (refine' K01.IFac.mk ?qi ?ql ?qc; (case qi => k_is); (case ql => k_is); (case qc => k_is)))
      (case ef3 => (refine' K01.CFac.mk ?qa ?ql ?qb; (case qa => k_is); (case ql => k_is); (case qb => kernel_rfl)))
      (case eg3 => (refine' K01.IFac.mk ?qi ?ql ?qc; (case qi => k_is); (case ql => k_is); (case qc => k_is)))
      (case ef4 => (refine' K01.CFac.mk ?qa ?ql ?qb; (case qa => k_is); (case ql => k_is); (case qb => kernel_rfl)))
      (case eg4 => (refine' K01.IFac.mk ?qi ?ql ?qc; (case qi => k_is); (case ql => k_is); (case qc => k_is)))
      (case ef5 => (refine' K01.CFac.mk ?qa ?ql ?qb; (case qa => k_is); (case ql => k_is); (case qb => kernel_rfl)))
      (case eg5 => (refine' K01.IFac.mk ?qi ?ql ?qc; (case qi => k_is); (case ql => k_is); (case qc => k_is)))
      (case ef6 => (refine' K01.CFac.mk ?qa ?ql ?qb; (case qa => k_is); (case ql => k_is); (case qb => kernel_rfl)))
      (case eg6 => (refine' K01.IFac.mk ?qi ?ql ?qc; (case qi => k_is); (case ql => k_is); (case qc => k_is)))
      (case ef7 => (refine' K01.CFac.mk ?qa ?ql ?qb; (case qa => k_is); (case ql => k_is); (case qb => kernel_rfl)))
      (case eg7 => (refine' K01.IFac.mk ?qi ?ql ?qc; (case qi => k_is); (case ql => k_is); (case qc => k_is)))
      (case ef8 => (refine' K01.CFac.mk ?qa ?ql ?qb; (case qa => k_is); (case ql => k_is); (case qb => kernel_rfl)))
      (case ef9 => (refine' K01.CFac.mk ?qa ?ql ?qb; (case qa => k_is); (case ql => k_is); (case qb => kernel_rfl)))
      (case eg9 => (refine' K01.IFac.mk ?qi ?ql ?qc; (case qi => k_is); (case ql => k_is); (case qc => k_is)))
      (case ef10 => (refine' K01.CFac.mk ?qa ?ql ?qb; (case qa => k_is); (case ql => k_is); (case qb => kernel_rfl)))
      (case eg10 => (refine' K01.IFac.mk ?qi ?ql ?qc; (case qi => k_is); (case ql => k_is); (case qc => k_is)))
      (case ef11 => (refine' K01.CFac.mk ?qa ?ql ?qb; (case qa => k_is); (case ql => k_is); (case qb => kernel_rfl)))
      (case eg11 => (refine' K01.IFac.mk ?qi ?ql ?qc; (case qi => k_is); (case ql => k_is); (case qc => k_is)))
      (case ef12 => (refine' K01.CFac.mk ?qa ?ql ?qb; (case qa => k_is); (case ql => k_is); (case qb => kernel_rfl)))
      (case eg12 => (refine' K01.IFac.mk ?qi ?ql ?qc; (case qi => k_is); (case ql => k_is); (case qc => k_is)))
      (case ef13 => (refine' K01.CFac.mk ?qa ?ql ?qb; (case qa => k_is); (case ql => k_is); (case qb => kernel_rfl)))
      (case eg13 => (refine' K01.IFac.mk ?qi ?ql ?qc; (case qi => k_is); (case ql => k_is); (case qc => k_is)))
      (case ef14 => (refine' K01.CFac.mk ?qa ?ql ?qb; (case qa => k_is); (case ql => k_is); (case qb => kernel_rfl)))
      (case eg14 => (refine' K01.IFac.mk ?qi ?ql ?qc; (case qi => k_is); (case ql => k_is); (case qc => k_is)))
      (case ef15 => (refine' K01.CFac.mk ?qa ?ql ?qb; (case qa => k_is); (case ql => k_is); (case qb => kernel_rfl)))
      (case eg15 => (refine' K01.IFac.mk ?qi ?ql ?qc; (case qi => k_is); (case ql => k_is); (case qc => k_is)))
      (case ef16 => (refine' K01.CFac.mk ?qa ?ql ?qb; (case qa => k_is); (case ql => k_is); (case qb => kernel_rfl)))
      (case eg16 => (refine' K01.IFac.mk ?qi ?ql ?qc; (case qi => k_is); (case ql => k_is); (case qc => k_is)))
      (case ef17 => (refine' K01.CFac.mk ?qa ?ql ?qb; (case qa => k_is); (case ql => k_is); (case qb => kernel_rfl)))
      (case eg17 => (refine' K01.IFac.mk ?qi ?ql ?qc; (case qi => k_is); (case ql => k_is); (case qc => k_is)))
      (case ef18 => (refine' K01.CFac.mk ?qa ?ql ?qb; (case qa => k_is); (case ql => k_is); (case qb => kernel_rfl)))
      (case eg18 => (refine' K01.IFac.mk ?qi ?ql ?qc; (case qi => k_is); (case ql => k_is); (case qc => k_is)))
      (case ef19 => (refine' K01.CFac.mk ?qa ?ql ?qb; (case qa => k_is); (case ql => k_is); (case qb => kernel_rfl)))
      (case eg19 => (refine' K01.IFac.mk ?qi ?ql ?qc; (case qi => k_is); (case ql => k_is); (case qc => k_is)))
      (case ef20 => (refine' K01.CFac.mk ?qa ?ql ?qb; (case qa => k_is); (case ql => k_is); (case qb => kernel_rfl)))
      (case eg20 => (refine' K01.IFac.mk ?qi ?ql ?qc; (case qi => k_is); (case ql => k_is); (case qc => k_is)))
      (case ef21 => (refine' K01.CFac.mk ?qa ?ql ?qb; (case qa => k_is); (case ql => k_is); (case qb => kernel_rfl)))
      (case eg21 => (refine' K01.IFac.mk ?qi ?ql ?qc; (case qi => k_is); (case ql => k_is); (case qc => k_is)))
      (case ef22 => (refine' K01.CFac.mk ?qa ?ql ?qb; (case qa => k_is); (case ql => k_is); (case qb => kernel_rfl)))
      (case eg22 => (refine' K01.IFac.mk ?qi ?ql ?qc; (case qi => k_is); (case ql => k_is); (case qc => k_is)))
      (case ef23 => (refine' K01.CFac.mk ?qa ?ql ?qb; (case qa => k_is); (case ql => k_is); (case qb => kernel_rfl)))
      (case eg23 => (refine' K01.IFac.mk ?qi ?ql ?qc; (case qi => k_is); (case ql => k_is); (case qc => k_is)))
      (case eu8 => k_exc)
      (case egq => kernel_rfl)
      (case end0 => decide)
    refine' K01.all_mk KX G hmg T ?z0 ?z1 ?z2 ?z3 ?z4 ?z5 ?z6 ?z7 ?z8 ?z9 ?z10 ?z11 ?z12 ?z13 ?y0 ?y1 ?y2 ?y3 ?f0 ?f1 ?f2 ?f3 ?f4 ?f5 ?f6 ?f7 ?f8 ?fL
    (case z0 => k_is); (case z1 => k_is); (case z2 => k_is); (case z3 => k_is); (case z4 => k_is); (case z5 => k_is); (case z6 => k_is); (case z7 => k_is); (case z8 => k_is); (case z9 => k_is); (case z10 => k_is); (case z11 => k_is); (case z12 => k_is); (case z13 => k_is)
    (case y0 => k_is); (case y1 => k_is); (case y2 => k_is); (case y3 => k_is)
    all_goals (refine' DL.Fac.mk ?a ?l ?c ?k; (case a => k_is); (case l => k_is); (case c => k_is); (case k => k_is))


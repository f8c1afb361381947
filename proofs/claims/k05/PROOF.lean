import PyProof.Rows.All
import Wide.All
import OpenK.AllK
import Wide.FinOn
import PySem.Challenge.RW_duskisles_k05_stations_hand_on
import HandS.ForMost
import HandS.IsInst
import HandS.Defaults
import HandS.DeepEq
import HandS.Deep
import PyProof.ReprRoads
import HandS.Lambda
import HandS.Walk
import HandS.TupAny
import HandS.Strs
import HandS.SetKeys
import HandS.SetFor
import PyProof.ListNew
import HandS.MakeKwOnly
import HandS.Property
import HandS.ForDict
import PyProof.Rows.SortShellAny
import HandS.Exc
import HandS.ExcValue
import KE.KExcPX
import HandS.ExcField
import HandS.ExcIs
import KE.KExcIs
import HandS.ExcInit
import HandS.WordsExc
import KE.KExcInit
import PyProof.ExcBaseAll.LookupError
import PyProof.ExcBaseAll.RuntimeError
import PyProof.ExcBaseAll.OverflowError
import HandS.Style
import HandS.ExcOwn
import HandS.OwnEq
import PyProof.InstNe
import PyProof.FactsAll.object_2
import HandS.Zip0
import KE.GoesMore
import KE.GoesEnum
import KE.SortData
import KE.KTupSum
import KE.KDictList
import HandS.ListItems
import HandS.Star
import HandS.Wide
import HandS.Text
import HandS.FStr
import HandS.More
import HandS.StrMore
import PyProof.ReprLen
import HandS.EndTab
import HandS.NestedK
set_option Elab.async false
set_option linter.all false
set_option maxRecDepth 100000
/-! Defs whose callers hold no guard (repr of what is being shown): the promise, its rule, calls. -/
namespace DL
open PySem PySem.Spec PyProof.Rows L2

/-- a def's promise where no guard is held -/
structure FnG (P : Program) (w : World) (K : PySem.W.Frag) (mg : Str → Option Value) (base : Heap)
    (CX : CXT) (k : Nat) (f : Addr) (fd : FuncData) (ps : List Str) (sp : Sp) : Prop where
  len : ∀ vs H Q E, sp vs H Q E → vs.length = ps.length
  run : ∀ (A : Around) (outer : List Env) (s : Shared) (H : Hp) (args : Args) (us : List Value) (vs : List V) (Q : VK) (E : XK),
    Room k A → A.guards = some [] → Env0 P w K mg base A outer s H → BindsTo s fd args (ps.zip us) → Vals vs us → sp vs H Q E →
      codeAny (model P w) A (.call (.ref f) args) (CR CX outer P w H s Q E) s

section
variable {P : Program} {w : World} {K : PySem.W.Frag} {mg : Str → Option Value} {base : Heap} {CX : CXT} {k j : Nat} {f : Addr} {fd : FuncData} {ps : List Str} {sp sp' : Sp}
theorem FnG.of (F : FnOk P w K mg base CX k f fd ps sp) : FnG P w K mg base CX k f fd ps sp :=
  ⟨F.len, fun A outer s H args us vs Q E r _ e b v q => F.run A outer s H args us vs Q E r e b v q⟩
theorem FnG.mono (F : FnG P w K mg base CX j f fd ps sp) (h : j ≤ k) : FnG P w K mg base CX k f fd ps sp :=
  ⟨F.len, fun A outer s H args us vs Q E r => F.run A outer s H args us vs Q E (r.mono h)⟩
theorem FnG.imp (F : FnG P w K mg base CX k f fd ps sp) (h : ∀ vs H Q E, sp' vs H Q E → sp vs H Q E) : FnG P w K mg base CX k f fd ps sp' :=
  ⟨fun vs H Q E q => F.len vs H Q E (h vs H Q E q), fun A outer s H args us vs Q E r g e b v q => F.run A outer s H args us vs Q E r g e b v (h vs H Q E q)⟩

theorem fnG_of {name qual : Str} {params : Arguments} {body : List Stmt} {scope : Scope} {dV kV doc pm cdv ct oc : Value} {an od : Option Addr} {osl : Array (Option Value)} {N : List Str}
    (lk : K.lookup f = some ⟨oc, od, .func (PySem.W.fnOf name qual params body scope dV kV doc pm an cdv ct), osl⟩)
    (hcd : PySem.W.codeIn K cdv qual = true) (S : FnScope N ps scope) (len : ∀ vs H Q E, sp vs H Q E → vs.length = ps.length)
    (hbody : ∀ (A : Around) (outer : List Env) (s : Shared) (H : Hp) (vs : List V) (Q : VK) (E : XK), Room k (A.deeper (envOfC qual scope s.heap.objs.size f cdv)) → (A.deeper (envOfC qual scope s.heap.objs.size f cdv)).guards = some [] →
      sp vs H Q E → ∃ t, PSs (cxOf CX P w K mg base N qual scope f cdv A outer s H E) body t ∧ t { nx := fun _ H' => Q .non H', rt := Q } (start N vs) H) :
    FnG P w K mg base CX (k + 1) f (PySem.W.fnOf name qual params body scope dV kV doc pm an cdv ct) ps sp :=
  ⟨len, fun A outer s H args us vs Q E room g e0 bd r h => LamX.run_ofS lk hcd S room e0 bd r (len _ _ _ _ h) fun room' => hbody A outer s H vs Q E room' g h⟩
theorem okG {x qual : Str} {st : Stmt} {N : List Str} (F : Fun K x qual st f fd) (S : FnScope N ps (defScope st)) (len : ∀ vs H Q E, sp vs H Q E → vs.length = ps.length)
    (hbody : ∀ (cdv : Value) (A : Around) (outer : List Env) (s : Shared) (H : Hp) (vs : List V) (Q : VK) (E : XK), Room k (A.deeper (envOfC qual (defScope st) s.heap.objs.size f cdv)) →
      (A.deeper (envOfC qual (defScope st) s.heap.objs.size f cdv)).guards = some [] → sp vs H Q E →
      ∃ t, PSs (cxOf CX0 P w K mg base N qual (defScope st) f cdv A outer s H E).nox (defBody st) t ∧ t { nx := fun _ H' => Q .non H', rt := Q } (start N vs) H) :
    FnG P w K mg base CX0 (k + 1) f fd ps sp := by
  obtain ⟨oc, od, kV, doc, pm, an, cdv, ct, osl, rfl, lk, hcd⟩ := F.ex
  refine fnG_of lk hcd S len ?_
  intro A outer s H vs Q E r g q
  obtain ⟨t, h, z⟩ := hbody cdv A outer s H vs Q E r g q
  exact ⟨t, h.nox, z⟩
end

section
variable {X : Cx} {CX : CXT} {k : Nat} {f : Addr} {fd : FuncData} {ps ks : List Str} {sp : Sp} {dvs : List V} {ds : List Value} {E : XK} {x : Str} {p pos : Pos} {e : Expr} {es : List Expr} {kws : List Keyword} {t tk : TA}
/-- what a call leaves, seen from its caller -/
theorem back_of {pins : List (Addr × Obj)} {σ : L2.St} {H : Hp} {s : Shared} {Q : VK} (hx : ∀ e s', CX X.stack H s E e s' → X.xe e s') (I : Inv X pins σ H s) : ∀ r s', CR CX X.stack X.prog X.w H s Q E r s' → (match r with | .ok (.ret u) => EP X pins σ Q u s' | .ok _ => False | .error e => X.xe e s') := by
  rintro (e | f) s' z
  · exact hx e s' z
  cases f with
  | ret u => exact I.after z
  | _ => exact z
theorem runG {pins : List (Addr × Obj)} {σ : L2.St} {H : Hp} {s : Shared} {Q : VK} {us : List Value} {vs : List V} (F : FnG X.prog X.w X.K X.mg X.base CX k f fd ps sp) (hr : Room k X.A) (hgu : X.A.guards = some []) (hb : Binds X.K fd ps ds)
    (hd : Vals dvs ds) (hx : Passes CX X E) (I : Inv X pins σ H s) (r : Vals vs us) (h : sp (vs ++ dvs) H Q E) : wpAny (model X.prog X.w) X.A (call (.ref f) us) (EP X pins σ Q) X.xe s := by
  have r2 := r.append hd
  have hl : (us ++ ds).length = ps.length := r2.length.symm.trans (F.len _ _ _ _ h)
  exact wpAny_call (codeAny_mono (F.run X.A X.stack s H ⟨us, []⟩ (us ++ ds) (vs ++ dvs) Q E hr hgu I.env0 (hb s us I.kIn hl) r2 h) (back_of (fun e s' z => hx pins σ H s e s' I z) I))
theorem pe_callG (F : FnG X.prog X.w X.K X.mg X.base CX k f fd ps sp) (hr : Room k X.A) (hgu : X.A.guards = some []) (hg : Gl X x) (hm : X.mg x = some (.ref f)) (hk : PySem.W.keepIn X.K (.ref f) = true)
    (hb : Binds X.K fd ps ds) (hd : Vals dvs ds) (hx : Passes CX X E) (ha : PA X (e :: es) t) (hdb : (x == ("__debug__" : Str)) = false := by decide)
    (he : starEach (e :: es) X.env = (false, eval e X.env) :: starEach es X.env := by rfl)
    (hpl : (backTo pos (starEach es X.env)).any (·.1) = false := by rfl) :
    PE X (.Call (.Name x p) (e :: es) [] pos) (tCall sp dvs E t) := by
  constructor
  intro pins s σ H Q I h
  refine wpAny_Call_Name_kw (ld_glob I hg hm (PySem.W.callWith_K (h₀ := X.base) I.ok.mod.kin hk ?_ he hpl) hdb)
  exact thn (ha.run pos pins s σ H _ I h) fun us s1 ⟨vs, H1, I1, r, q⟩ => ⟨I1.kIn, runG F hr hgu hb hd hx I1 r q⟩
theorem runGk {pins : List (Addr × Obj)} {σ : L2.St} {H : Hp} {s : Shared} {Q : VK} {us ws : List Value} {vs zs : List V} {g : List Value → List Value → List Value} {gV : List V → List V → List V} (F : FnG X.prog X.w X.K X.mg X.base CX k f fd ps sp) (hr : Room k X.A)
    (hgu : X.A.guards = some []) (hb : KBinds X.K fd ps ks g gV) (hx : Passes CX X E) (I : Inv X pins σ H s) (r : Vals vs us) (rz : Vals zs ws) (h : sp (gV vs zs) H Q E) :
    wpAny (model X.prog X.w) X.A (call (.ref f) us (ks.zip ws)) (EP X pins σ Q) X.xe s := by
  have r2 := hb.rel r rz
  have hl : (g us ws).length = ps.length := r2.length.symm.trans (F.len _ _ _ _ h)
  exact wpAny_call (codeAny_mono (F.run X.A X.stack s H ⟨us, ks.zip ws⟩ (g us ws) (gV vs zs) Q E hr hgu I.env0 (hb.to s us ws I.kIn hl) r2 h) (back_of (fun e s' z => hx pins σ H s e s' I z) I))
/-- f(k = v, ..), nothing by position -/
theorem pe_callKG {g : List Value → List Value → List Value} {gV : List V → List V → List V} (F : FnG X.prog X.w X.K X.mg X.base CX k f fd ps sp) (hr : Room k X.A) (hgu : X.A.guards = some []) (hg : Gl X x) (hm : X.mg x = some (.ref f))
    (hk : PySem.W.keepIn X.K (.ref f) = true) (hb : KBinds X.K fd ps ks g gV) (hx : Passes CX X E) (hkw : PK X kws tk) (hall : (backToKw pos (keywordEach kws X.env)).all (·.1.isSome) = true := by rfl)
    (hks : (backToKw pos (keywordEach kws X.env)).filterMap (·.1) = ks := by rfl) (hdb : (x == ("__debug__" : Str)) = false := by decide)
    (hpl : ((backTo pos (starEach [] X.env)).any (·.1) || (backToKw pos (keywordEach kws X.env)).any (·.1.isNone)) = false := by rfl) :
    PE X (.Call (.Name x p) [] kws pos) (tCallK sp gV E tNil tk) := by
  constructor
  intro pins s σ H Q I h
  refine wpAny_Call_Name_kw (ld_glob I hg hm (PySem.W.callWith_KW0 (h₀ := X.base) I.ok.mod.kin hk hall ?_ hpl) hdb)
  refine thn (hkw.run pos pins s σ H _ I h) ?_
  intro ws s2 ⟨zs, H2, I2, rz, q2⟩
  rw [hks]
  exact ⟨I2.kIn, runGk (us := []) (vs := []) F hr hgu hb hx I2 .nil rz q2⟩
end

end DL

/-! Data level over the hand layer: what slots hold is data; expressions and statements are read as transformers of data. -/
namespace DL
open PySem PySem.Spec PyProof.Rows L2

inductive Dt where
  | non | bl (b : Bool) | int (i : Int) | str (x : Str)
  | lst (ds : List Dt) | tup (ds : List Dt) | dct (a : Addr) (kvs : List (Key × Dt)) | ty (n : String)
  /-- an instance of the class at C, its fields by names -/
  | ins (C a : Addr) (ns : List Str) (ds : List Dt)
  /-- a class of the program's own (or any thing of which nothing but its place is told) -/
  | cls (C : Addr)
  /-- an exception of the class at C, its fields by names -/
  | exc (C a : Addr) (ns : List Str) (ds : List Dt)

/-- at a: an exception of this class, its dict -/
def exh (a : Addr) (cls : Value) (d : Option Addr) : HO := .ext fun h => ∃ (oe : Obj) (vs : Array Value), h.get? a = some oe ∧ (oe.cls = cls ∧ oe.dict = d) ∧ oe.data = .fields vs
mutual
inductive DX (K : PySem.W.Frag) (H : Hp) : V → Dt → Prop
  | non : DX K H .non .non
  | bl (b : Bool) : DX K H (.bl b) (.bl b)
  | int (i : Int) : DX K H (.int i) (.int i)
  | str (x : Str) : DX K H (.str x) (.str x)
  | ty (n : String) : DX K H (.ty n) (.ty n)
  | lst {a : Addr} {xs : List V} {ds : List Dt} : SqL K H a xs → DXs K H xs ds → DX K H (.ref a) (.lst ds)
  | tup {a : Addr} {xs : List V} {ds : List Dt} : SqT K H a xs → DXs K H xs ds → DX K H (.ref a) (.tup ds)
  | dct {a : Addr} {kvs : List (Key × V)} {ds : List (Key × Dt)} : Rd H a (.dK kvs) → DXk K H kvs ds → DX K H (.ref a) (.dct a ds)
  | ins {C a dx : Addr} {ns : List Str} {vs : List V} {ds : List Dt} : H a = some (.ins C dx (ns.zip vs)) → ns.length = vs.length → DXs K H vs ds → DX K H (.ref a) (.ins C a ns ds)
  | cls (C : Addr) : DX K H (.ref C) (.cls C)
  | exc {C a dd : Addr} {ns : List Str} {vs : List V} {ds : List Dt} : H a = some (exh a (.ref C) (some dd)) → H dd = some (.xd (ns.zip vs)) → ns.length = vs.length → DXs K H vs ds → DX K H (.ref a) (.exc C a ns ds)
  | exc0 {C a : Addr} : H a = some (exh a (.ref C) none) → DX K H (.ref a) (.exc C a [] [])
inductive DXs (K : PySem.W.Frag) (H : Hp) : List V → List Dt → Prop
  | nil : DXs K H [] []
  | cons {v : V} {vs : List V} {d : Dt} {ds : List Dt} : DX K H v d → DXs K H vs ds → DXs K H (v :: vs) (d :: ds)
inductive DXk (K : PySem.W.Frag) (H : Hp) : List (Key × V) → List (Key × Dt) → Prop
  | nil : DXk K H [] []
  | cons {k : Key} {v : V} {vs : List (Key × V)} {d : Dt} {ds : List (Key × Dt)} : DX K H v d → DXk K H vs ds → DXk K H ((k, v) :: vs) ((k, d) :: ds)
end

section
variable {K : PySem.W.Frag} {H H' : Hp}
theorem same_T {a : Addr} {xs : List V} (e : Same H H') (h : SqT K H a xs) : SqT K H' a xs := by
  rcases h with (h | ⟨o, h⟩) | h
  · exact .inl (.inl (e _ _ h))
  · exact .inl (.inr ⟨o, e _ _ h⟩)
  · exact .inr h
theorem same_Rd {a : Addr} {u : HO} (e : Same H H') (h : Rd H a u) : Rd H' a u := h.elim (fun z => .inl (e _ _ z)) fun ⟨o, z⟩ => .inr ⟨o, e _ _ z⟩
mutual
theorem DX.mono (e : Same H H') : ∀ {d : Dt} {v : V}, DX K H v d → DX K H' v d
  | .non, _, h => by cases h; exact .non
  | .bl _, _, h => by cases h; exact .bl _
  | .int _, _, h => by cases h; exact .int _
  | .str _, _, h => by cases h; exact .str _
  | .ty _, _, h => by cases h; exact .ty _
  | .lst ds, _, h => by
    cases h with
    | lst hs ha => exact .lst (e.seq hs) (DXs.mono e (ds := ds) ha)
  | .tup ds, _, h => by
    cases h with
    | tup hs ha => exact .tup (same_T e hs) (DXs.mono e (ds := ds) ha)
  | .dct _ ds, _, h => by
    cases h with
    | dct hs ha => exact .dct (same_Rd e hs) (DXk.mono e (ds := ds) ha)
  | .ins _ _ _ ds, _, h => by
    cases h with
    | ins hs hl ha => exact .ins (e _ _ hs) hl (DXs.mono e (ds := ds) ha)
  | .cls _, _, h => by cases h; exact .cls _
  | .exc _ _ _ ds, _, h => by
    cases h with
    | exc hs hd hl ha => exact .exc (e _ _ hs) (e _ _ hd) hl (DXs.mono e (ds := ds) ha)
    | exc0 hs => exact .exc0 (e _ _ hs)
theorem DXs.mono (e : Same H H') : ∀ {ds : List Dt} {vs : List V}, DXs K H vs ds → DXs K H' vs ds
  | [], _, h => by cases h; exact .nil
  | d :: ds, _, h => by
    cases h with
    | cons h1 h2 => exact .cons (DX.mono e (d := d) h1) (DXs.mono e (ds := ds) h2)
theorem DXk.mono (e : Same H H') : ∀ {ds : List (Key × Dt)} {vs : List (Key × V)}, DXk K H vs ds → DXk K H' vs ds
  | [], _, h => by cases h; exact .nil
  | (k, d) :: ds, _, h => by
    cases h with
    | cons h1 h2 => exact .cons (DX.mono e (d := d) h1) (DXk.mono e (ds := ds) h2)
end
theorem DXs.len : ∀ {ds : List Dt} {vs : List V}, DXs K H vs ds → vs.length = ds.length
  | [], _, h => by cases h; rfl
  | d :: ds, _, h => by
    cases h with
    | cons h1 h2 => show _ + 1 = _ + 1; rw [DXs.len h2]
theorem DXs.get : ∀ {ds : List Dt} {vs : List V} {i : Nat} {v : V}, DXs K H vs ds → vs[i]? = some v → ∃ d, ds[i]? = some d ∧ DX K H v d
  | [], _, i, v, h, e => by cases h; simp at e
  | d :: ds, _, 0, v, h, e => by
    cases h with
    | cons h1 h2 => simp at e; subst e; exact ⟨d, rfl, h1⟩
  | d :: ds, _, i + 1, v, h, e => by
    cases h with
    | cons h1 h2 =>
      obtain ⟨d', e', k⟩ := DXs.get (i := i) h2 (by simpa using e)
      exact ⟨d', by simpa using e', k⟩
theorem DXs.getd : ∀ {ds : List Dt} {vs : List V} {i : Nat} {d : Dt}, DXs K H vs ds → ds[i]? = some d → ∃ v, vs[i]? = some v ∧ DX K H v d
  | [], _, i, v, h, e => by simp at e
  | d :: ds, _, 0, v, h, e => by
    cases h with
    | cons h1 h2 => simp at e; subst e; exact ⟨_, rfl, h1⟩
  | d :: ds, _, i + 1, v, h, e => by
    cases h with
    | cons h1 h2 =>
      obtain ⟨d', e', k⟩ := DXs.getd (i := i) h2 (by simpa using e)
      exact ⟨d', by simpa using e', k⟩
theorem DXs.append : ∀ {ds es : List Dt} {vs ws : List V}, DXs K H vs ds → DXs K H ws es → DXs K H (vs ++ ws) (ds ++ es)
  | [], _, _, _, h, k => by cases h; exact k
  | d :: ds, es, _, _, h, k => by
    cases h with
    | cons h1 h2 => exact .cons h1 (DXs.append h2 k)
theorem DXs.one {v : V} {d : Dt} (h : DX K H v d) : DXs K H [v] [d] := .cons h .nil
theorem DXs.take : ∀ {ds : List Dt} {vs : List V} (n : Nat), DXs K H vs ds → DXs K H (vs.take n) (ds.take n)
  | _, _, 0, _ => .nil
  | [], _, n + 1, h => by cases h; exact .nil
  | d :: ds, _, n + 1, h => by
    cases h with
    | cons h1 h2 => exact .cons h1 (DXs.take n h2)
theorem DXs.drop : ∀ {ds : List Dt} {vs : List V} (n : Nat), DXs K H vs ds → DXs K H (vs.drop n) (ds.drop n)
  | _, _, 0, h => h
  | [], _, n + 1, h => by cases h; exact .nil
  | d :: ds, _, n + 1, h => by
    cases h with
    | cons h1 h2 => exact DXs.drop n h2
theorem DXs.set {v : V} {d : Dt} (k : DX K H v d) : ∀ {ds : List Dt} {vs : List V} (i : Nat), DXs K H vs ds → DXs K H (vs.set i v) (ds.set i d)
  | [], _, i, h => by cases h; exact .nil
  | d :: ds, _, 0, h => by
    cases h with
    | cons h1 h2 => exact .cons k h2
  | d :: ds, _, i + 1, h => by
    cases h with
    | cons h1 h2 => exact .cons h1 (DXs.set k i h2)
/-- scalars: their value is told by the datum -/
theorem DX.int_eq {v : V} {i : Int} (h : DX K H v (.int i)) : v = .int i := by cases h; rfl
theorem DX.bl_eq {v : V} {b : Bool} (h : DX K H v (.bl b)) : v = .bl b := by cases h; rfl
theorem DX.str_eq {v : V} {x : Str} (h : DX K H v (.str x)) : v = .str x := by cases h; rfl
theorem DX.non_eq {v : V} (h : DX K H v .non) : v = .non := by cases h; rfl
theorem DXs.ints : ∀ {ns : List Int} {vs : List V}, DXs K H vs (ns.map Dt.int) → vs = ns.map V.int
  | [], _, h => by cases h; rfl
  | n :: ns, _, h => by
    cases h with
    | cons h1 h2 => rw [h1.int_eq, DXs.ints h2]; rfl
theorem DXs.bls : ∀ {ns : List Bool} {vs : List V}, DXs K H vs (ns.map Dt.bl) → vs = ns.map V.bl
  | [], _, h => by cases h; rfl
  | n :: ns, _, h => by
    cases h with
    | cons h1 h2 => rw [h1.bl_eq, DXs.bls h2]; rfl
theorem DXs.strs : ∀ {ns : List Str} {vs : List V}, DXs K H vs (ns.map Dt.str) → vs = ns.map V.str
  | [], _, h => by cases h; rfl
  | n :: ns, _, h => by
    cases h with
    | cons h1 h2 => rw [h1.str_eq, DXs.strs h2]; rfl
end

/-! ### what is mutable: the pen, lists of the callers', lists of one's own by slot -/
structure Md where
  p : Option Addr
  F : List Addr
  O : List (Option Addr)
/-- tables of code objects, with the name that all in them bear: they change with the pen alone -/
class Tb where
  T : List (Addr × Str)
variable [Tb]
def Md.ts (M : Md) : List (Addr × Str) := match M.p with
  | none => []
  | some _ => Tb.T
def Md.inP (M : Md) (a : Addr) : Prop := M.p = some a ∨ ∃ t ∈ M.ts, t.1 = a
instance (M : Md) (a : Addr) : Decidable (M.inP a) := by unfold Md.inP; infer_instance
def Md.has (M : Md) (a : Addr) : Prop := M.inP a ∨ a ∈ M.F ∨ some a ∈ M.O
instance (M : Md) (a : Addr) : Decidable (M.has a) := by unfold Md.has; infer_instance
theorem Md.ts0 {M : Md} (h : M.p = none) : M.ts = [] := by unfold Md.ts; rw [h]
theorem Md.ts_some {M : Md} {p : Addr} (h : M.p = some p) : M.ts = Tb.T := by unfold Md.ts; rw [h]
theorem Md.inP0 {M : Md} (h : M.p = none) (a : Addr) : ¬ M.inP a := fun z => by
  rcases z with z | ⟨t, ht, _⟩
  · rw [h] at z; cases z
  · rw [Md.ts0 h] at ht; cases ht
theorem Md.inP_p {M : Md} {a : Addr} (h : M.p = some a) : M.inP a := .inl h
theorem Md.inP_congr {M M' : Md} (hp : M'.p = M.p) (a : Addr) : M'.inP a ↔ M.inP a := by
  unfold Md.inP Md.ts; rw [hp]
/-- the heap without what is mutable -/
def cut (M : Md) (H : Hp) : Hp := fun a => if M.has a then none else H a
theorem cut_of {M : Md} {H : Hp} {a : Addr} {o : HO} (h : cut M H a = some o) : ¬ M.has a ∧ H a = some o := by
  unfold cut at h
  by_cases c : M.has a
  · rw [if_pos c] at h; cases h
  · rw [if_neg c] at h; exact ⟨c, h⟩
theorem cut_at {M : Md} {H : Hp} {a : Addr} {o : HO} (c : ¬ M.has a) (h : H a = some o) : cut M H a = some o := by
  unfold cut; rw [if_neg c]; exact h
theorem cut_Rd {M : Md} {H : Hp} {a : Addr} {u : HO} (h : Rd (cut M H) a u) : ¬ M.has a ∧ Rd H a u := h.elim (fun z => ⟨(cut_of z).1, .inl (cut_of z).2⟩) fun ⟨o, z⟩ => ⟨(cut_of z).1, .inr ⟨o, (cut_of z).2⟩⟩
theorem cut_same (M : Md) {H H' : Hp} (e : Same H H') : Same (cut M H) (cut M H') := fun a o h =>
  let ⟨c, q⟩ := cut_of h
  cut_at c (e a o q)
theorem cut_sub (M : Md) (H : Hp) : Same (cut M H) H := fun a o h => (cut_of h).2
theorem cut_le {M M' : Md} {H : Hp} (h : ∀ a, M'.has a → M.has a) : Same (cut M H) (cut M' H) := fun a o q =>
  let ⟨c, z⟩ := cut_of q
  cut_at (fun y => c (h a y)) z

/-- the table at P: each code object that it tells bears the name q -/
def TabM (M : Md) (H : Hp) (P : Addr) (q : Str) : Prop := ∃ ps : Array Value, H P = some (.tbl ps) ∧ PySem.TriplesOk ps.toList ∧ ∀ (pos : Pos) (cv : Value), codeAmong pos ps.toList = some cv → ∃ c, cv = .ref c ∧ cut M H c = some (LamX.CodeO c q)
def TabsM (M : Md) (H : Hp) : Prop := ∀ t ∈ M.ts, TabM M H t.1 t.2
theorem TabM.step {M M' : Md} {H H' : Hp} {P : Addr} {q : Str} (t : TabM M H P q) (e : ∀ ps, H P = some (.tbl ps) → H' P = some (.tbl ps)) (sc : Same (cut M H) (cut M' H')) : TabM M' H' P q := by
  obtain ⟨ps, h1, h2, h3⟩ := t
  refine ⟨ps, e _ h1, h2, fun pos cv hc => ?_⟩
  obtain ⟨c, e1, e2⟩ := h3 pos cv hc
  exact ⟨c, e1, sc _ _ e2⟩
structure MOk (M : Md) (H : Hp) : Prop where
  live : ∀ a, M.has a → ∃ o, H a = some o
  pF : ∀ a, M.inP a → a ∉ M.F ∧ some a ∉ M.O
  FO : ∀ a, a ∈ M.F → some a ∉ M.O
  nd : ∀ (i j : Nat) (a : Addr), M.O[i]? = some (some a) → M.O[j]? = some (some a) → i = j
  tb : TabsM M H
theorem MOk.same {M : Md} {H H' : Hp} (m : MOk M H) (e : Same H H') : MOk M H' :=
  ⟨fun a h => let ⟨o, q⟩ := m.live a h; ⟨o, e a o q⟩, m.pF, m.FO, m.nd, fun t ht => (m.tb t ht).step (fun _ => e _ _) (cut_same M e)⟩
theorem MOk.pp {M : Md} {H : Hp} (m : MOk M H) {a : Addr} (h : M.p = some a) : a ∉ M.F ∧ some a ∉ M.O := m.pF a (.inl h)
/-- the tables where one thing that is no table is written, and what is mutable is told otherwise -/
theorem MOk.tbU {M M' : Md} {H H' : Hp} (m : MOk M H) (hts : M'.ts = M.ts) (e : ∀ a, M.inP a → ∀ ps, H a = some (.tbl ps) → H' a = some (.tbl ps)) (sc : Same (cut M H) (cut M' H')) : TabsM M' H' := fun t ht => by
  rw [hts] at ht
  exact (m.tb t ht).step (e _ (.inr ⟨t, ht, rfl⟩)) sc
theorem MOk.new {M : Md} {H : Hp} (m : MOk M H) {q : Addr} (h : H q = none) : ¬ M.has q := fun y => by
  obtain ⟨o, z⟩ := m.live q y
  rw [h] at z; cases z

/-- one step: all but the pen and one's own lists stands -/
structure Stp (M : Md) (H : Hp) (M' : Md) (H' : Hp) : Prop where
  p : M'.p = M.p
  F : M'.F = M.F
  keep : ∀ a o, H a = some o → ¬ M.inP a → some a ∉ M.O → H' a = some o ∧ some a ∉ M'.O
theorem Stp.refl (M : Md) (H : Hp) : Stp M H M H := ⟨rfl, rfl, fun _ _ h _ q => ⟨h, q⟩⟩
theorem Stp.same (M : Md) {H H' : Hp} (e : Same H H') : Stp M H M H' := ⟨rfl, rfl, fun _ _ h _ q => ⟨e _ _ h, q⟩⟩
theorem Stp.inP {M M' : Md} {H H' : Hp} (s : Stp M H M' H') (a : Addr) : M'.inP a ↔ M.inP a := Md.inP_congr s.p a
theorem Stp.ts {M M' : Md} {H H' : Hp} (s : Stp M H M' H') : M'.ts = M.ts := by unfold Md.ts; rw [s.p]
theorem Stp.trans {M M1 M2 : Md} {H H1 H2 : Hp} (a : Stp M H M1 H1) (b : Stp M1 H1 M2 H2) : Stp M H M2 H2 :=
  ⟨b.p.trans a.p, b.F.trans a.F, fun x o h c d =>
    let ⟨h1, c1⟩ := a.keep x o h c d
    b.keep x o h1 (fun z => c ((a.inP x).mp z)) c1⟩
theorem Stp.dx {M M' : Md} {H H' : Hp} (s : Stp M H M' H') : Same (cut M H) (cut M' H') := fun a o h => by
  obtain ⟨c, q⟩ := cut_of h
  obtain ⟨h1, c1⟩ := s.keep a o q (fun e => c (.inl e)) (fun e => c (.inr (.inr e)))
  refine cut_at (fun z => ?_) h1
  rcases z with z | z | z
  · exact c (.inl ((s.inP a).mp z))
  · exact c (.inr (.inl (by rw [← s.F]; exact z)))
  · exact c1 z

/-! ### the slots -/
inductive Sl where
  | any
  | dat (d : Dt)
  /-- a datum whose value is kept in mind -/
  | val (v : V) (d : Dt)
  | own (ds : List Dt)
  | ownd (kvs : List (Key × Dt))
  /-- an own instance, its fields by names -/
  | obj (C a : Addr) (ns : List Str) (ds : List Dt)
  | pen (n : Nat)
  | pown (ds : List Dt)

/-- the pen: what is drawn from, how many were drawn (at most n), what is left of a great one -/
def Pen (K : PySem.W.Frag) (M : Md) (H : Hp) (p : Addr) (n : Nat) : Prop :=
  ∃ (l : Addr) (ns : List Int) (c : Nat) (g : Int), H p = some (.lst [.ref l, .int c, .int g]) ∧ SqL K (cut M H) l (ns.map V.int) ∧ c ≤ n ∧ 0 ≤ g ∧ ns.length ≤ 63

def SlOk (K : PySem.W.Frag) (M : Md) (H : Hp) (i : Nat) (o : Option V) : Sl → Prop
  | .any => True
  | .dat d => ∃ v, o = some v ∧ DX K (cut M H) v d
  | .val v d => o = some v ∧ DX K (cut M H) v d
  | .own ds => ∃ l vs, o = some (.ref l) ∧ M.O[i]? = some (some l) ∧ H l = some (.lst vs) ∧ DXs K (cut M H) vs ds
  | .obj C a ns ds => ∃ l dx vs, o = some (.ref l) ∧ M.O[i]? = some (some l) ∧ H l = some (.ins C dx (ns.zip vs)) ∧ (ns.length = vs.length ∧ l = a) ∧ DXs K (cut M H) vs ds
  | .ownd ds => ∃ l vs, o = some (.ref l) ∧ M.O[i]? = some (some l) ∧ H l = some (.dK vs) ∧ DXk K (cut M H) vs ds
  | .pen n => ∃ p, o = some (.ref p) ∧ M.p = some p ∧ Pen K M H p n
  | .pown ds => ∃ p vs, o = some (.ref p) ∧ M.p = some p ∧ H p = some (.lst vs) ∧ DXs K (cut M H) vs ds

structure Sd (K : PySem.W.Frag) (M : Md) (H : Hp) (σ : L2.St) (ρ : List Sl) : Prop where
  len : σ.length = ρ.length
  olen : M.O.length = ρ.length
  mok : MOk M H
  ok : ∀ (i : Nat) (s : Sl), ρ[i]? = some s → ∃ o, σ[i]? = some o ∧ SlOk K M H i o s

section
variable {K : PySem.W.Frag} {M : Md} {H H' : Hp} {σ : L2.St} {ρ : List Sl}
theorem Pen.same {p : Addr} {n : Nat} (h : Pen K M H p n) (e : Same H H') : Pen K M H' p n := by
  obtain ⟨l, ns, c, g, h1, h2, h3, h4⟩ := h
  exact ⟨l, ns, c, g, e _ _ h1, (cut_same M e).seq h2, h3, h4⟩
theorem SlOk.same {i : Nat} {o : Option V} {s : Sl} (h : SlOk K M H i o s) (e : Same H H') : SlOk K M H' i o s := by
  cases s with
  | any => trivial
  | dat d => obtain ⟨v, h1, h2⟩ := h; exact ⟨v, h1, h2.mono (cut_same M e)⟩
  | val u d => obtain ⟨h1, h2⟩ := h; exact ⟨h1, h2.mono (cut_same M e)⟩
  | own ds => obtain ⟨l, vs, h1, h2, h3, h4⟩ := h; exact ⟨l, vs, h1, h2, e _ _ h3, h4.mono (cut_same M e)⟩
  | obj C0 b0 ns0 ds => obtain ⟨l, dx0, vs, h1, h2, h3, a5, h4⟩ := h; exact ⟨l, dx0, vs, h1, h2, e _ _ h3, a5, h4.mono (cut_same M e)⟩
  | ownd ds => obtain ⟨l, vs, h1, h2, h3, h4⟩ := h; exact ⟨l, vs, h1, h2, e _ _ h3, h4.mono (cut_same M e)⟩
  | pen n => obtain ⟨p, h1, h2, h3⟩ := h; exact ⟨p, h1, h2, h3.same e⟩
  | pown ds => obtain ⟨p, vs, h1, h2, h3, h4⟩ := h; exact ⟨p, vs, h1, h2, e _ _ h3, h4.mono (cut_same M e)⟩
theorem Sd.same (S : Sd K M H σ ρ) (e : Same H H') : Sd K M H' σ ρ :=
  ⟨S.len, S.olen, S.mok.same e, fun i s h => let ⟨o, q, k⟩ := S.ok i s h; ⟨o, q, k.same e⟩⟩
theorem same_new {q : Addr} {o : HO} (h : H q = none) : Same H (upd H q o) := fun a u e => by
  rw [upd_ne (ne_of_none e h)]; exact e
end

/-! ### data-level readings (f: it draws nothing, it makes new things at most) -/
structure Tr (f : Bool) (M : Md) (H H' : Hp) : Prop where
  st : Stp M H M H'
  sm : f = true → Same H H'
theorem Tr.refl (f : Bool) (M : Md) (H : Hp) : Tr f M H H := ⟨Stp.refl M H, fun _ => Same.refl H⟩
theorem Tr.same (f : Bool) (M : Md) {H H' : Hp} (e : Same H H') : Tr f M H H' := ⟨Stp.same M e, fun _ => e⟩
theorem Tr.trans {f : Bool} {M : Md} {H H1 H2 : Hp} (a : Tr f M H H1) (b : Tr f M H1 H2) : Tr f M H H2 := ⟨a.st.trans b.st, fun h => (a.sm h).trans (b.sm h)⟩
theorem Tr.dx {f : Bool} {M : Md} {H H' : Hp} (a : Tr f M H H') : Same (cut M H) (cut M H') := a.st.dx
def Wp (K : PySem.W.Frag) (f : Bool) (te : TE) (ρ : List Sl) (Φ : Dt → List Sl → Prop) : Prop :=
  ∀ (M : Md) (σ : L2.St) (H : Hp), Sd K M H σ ρ → ∀ Q : VK, (∀ v H2 d ρ', Tr f M H H2 → Sd K M H2 σ ρ' → DX K (cut M H2) v d → Φ d ρ' → Q v H2) → te σ H Q
def Wt (K : PySem.W.Frag) (f : Bool) (tt : TT) (ρ : List Sl) (Φ : Bool → List Sl → Prop) : Prop :=
  ∀ (M : Md) (σ : L2.St) (H : Hp), Sd K M H σ ρ → ∀ Q : Bool → Hp → Prop, (∀ b H2 ρ', Tr f M H H2 → Sd K M H2 σ ρ' → Φ b ρ' → Q b H2) → tt σ H Q
def Wa (K : PySem.W.Frag) (f : Bool) (ta : TA) (ρ : List Sl) (Φ : List Dt → List Sl → Prop) : Prop :=
  ∀ (M : Md) (σ : L2.St) (H : Hp), Sd K M H σ ρ → ∀ Q : List V → Hp → Prop, (∀ vs H2 ds ρ', Tr f M H H2 → Sd K M H2 σ ρ' → DXs K (cut M H2) vs ds → Φ ds ρ' → Q vs H2) → ta σ H Q
/-- an operation on two values, a call on values: it makes new things at most -/
def OD (K : PySem.W.Frag) (r : R2) (d1 d2 : Dt) (Ψ : Dt → Prop) : Prop :=
  ∀ (M : Md) (H : Hp) (x y : V), MOk M H → DX K (cut M H) x d1 → DX K (cut M H) y d2 → ∀ Q : VK, (∀ v H2 d, Same H H2 → DX K (cut M H2) v d → Ψ d → Q v H2) → r x y H Q
def RD (K : PySem.W.Frag) (r : List V → Hp → VK → Prop) (ds : List Dt) (Ψ : Dt → Prop) : Prop :=
  ∀ (M : Md) (H : Hp) (vs : List V), MOk M H → DXs K (cut M H) vs ds → ∀ Q : VK, (∀ v H2 d, Same H H2 → DX K (cut M H2) v d → Ψ d → Q v H2) → r vs H Q
def UD (K : PySem.W.Frag) (r : V → Hp → VK → Prop) (d1 : Dt) (Ψ : Dt → Prop) : Prop :=
  ∀ (M : Md) (H : Hp) (x : V), MOk M H → DX K (cut M H) x d1 → ∀ Q : VK, (∀ v H2 d, Same H H2 → DX K (cut M H2) v d → Ψ d → Q v H2) → r x H Q

section
variable {K : PySem.W.Frag} {pf : Bool} {ρ : List Sl} {ta tb tc te : TE} {tt tu : TT} {tr : TA} {r r' : R2} {Φ Φ' : Dt → List Sl → Prop} {Θ : Bool → List Sl → Prop} {Ξ : List Dt → List Sl → Prop}
theorem Wp.imp (h : Wp K pf te ρ Φ) (k : ∀ d ρ', Φ d ρ' → Φ' d ρ') : Wp K pf te ρ Φ' := fun M σ H S Q q => h M σ H S Q fun v H2 d ρ' s S2 x f => q v H2 d ρ' s S2 x (k d ρ' f)
theorem Wt.imp {Θ' : Bool → List Sl → Prop} (h : Wt K pf tt ρ Θ) (k : ∀ b ρ', Θ b ρ' → Θ' b ρ') : Wt K pf tt ρ Θ' := fun M σ H S Q q => h M σ H S Q fun b H2 ρ' s S2 f => q b H2 ρ' s S2 (k b ρ' f)
theorem w_var {i : Nat} {d : Dt} (e : ρ[i]? = some (.dat d)) (f : Φ d ρ) : Wp K pf (tVar i) ρ Φ := fun M σ H S Q q => by
  obtain ⟨o, h1, v, h2, h3⟩ := S.ok i _ e
  subst h2
  exact ⟨v, h1, q v H d ρ (Tr.refl pf M H) S h3 f⟩
theorem w_c {v : V} {d : Dt} (k : ∀ H, DX K H v d) (f : Φ d ρ) : Wp K pf (tC v) ρ Φ := fun M σ H S Q q => q v H d ρ (Tr.refl pf M H) S (k _) f
theorem w_op (h : Wp K pf ta ρ fun d1 ρ1 => Wp K pf tb ρ1 fun d2 ρ2 => OD K r d1 d2 fun d => Φ d ρ2) : Wp K pf (tOp r ta tb) ρ Φ := fun M σ H S Q q =>
  h M σ H S _ fun v1 H1 d1 ρ1 s1 S1 x1 k1 => k1 M σ H1 S1 _ fun v2 H2 d2 ρ2 s2 S2 x2 k2 =>
    k2 M H2 v1 v2 S2.mok (x1.mono s2.dx) x2 _ fun v H3 d e x f => q v H3 d ρ2 ((s1.trans s2).trans (Tr.same pf M e)) (S2.same e) x f
theorem w_un {r : V → Hp → VK → Prop} (h : Wp K pf ta ρ fun d1 ρ1 => UD K r d1 fun d => Φ d ρ1) : Wp K pf (tUn r ta) ρ Φ := fun M σ H S Q q =>
  h M σ H S _ fun v1 H1 d1 ρ1 s1 S1 x1 k1 => k1 M H1 v1 S1.mok x1 _ fun v H3 d e x f => q v H3 d ρ1 (s1.trans (Tr.same pf M e)) (S1.same e) x f
theorem w_chain (h : Wp K pf ta ρ fun d1 ρ1 => Wp K pf tb ρ1 fun d2 ρ2 => OD K r d1 d2 fun z => ∃ b, z = .bl b ∧ if b = true then Wp K pf tc ρ2 (fun d3 ρ3 => OD K r' d2 d3 fun d => Φ d ρ3) else Φ (.bl false) ρ2) :
    Wp K pf (tChain r r' ta tb tc) ρ Φ := fun M σ H S Q q =>
  h M σ H S _ fun v1 H1 d1 ρ1 s1 S1 x1 k1 => k1 M σ H1 S1 _ fun v2 H2 d2 ρ2 s2 S2 x2 k2 =>
    k2 M H2 v1 v2 S2.mok (x1.mono s2.dx) x2 _ fun z H3 d e x f => by
      obtain ⟨b, rfl, f⟩ := f
      have x2' := x2.mono (cut_same M e)
      refine ⟨b, x.bl_eq, ?_⟩
      cases b with
      | true =>
        rw [if_pos rfl] at f ⊢
        exact f M σ H3 (S2.same e) _ fun v3 H4 d3 ρ3 s3 S3 x3 k3 => k3 M H4 v2 v3 S3.mok (x2'.mono s3.dx) x3 _ fun v H5 d e5 x5 f5 =>
          q v H5 d ρ3 ((((s1.trans s2).trans (Tr.same pf M e)).trans s3).trans (Tr.same pf M e5)) (S3.same e5) x5 f5
      | false =>
        rw [if_neg Bool.false_ne_true] at f ⊢
        exact q _ H3 (.bl false) ρ2 ((s1.trans s2).trans (Tr.same pf M e)) (S2.same e) (.bl _) f
theorem w_andV (h : Wp K pf ta ρ fun d1 ρ1 => ∃ b, d1 = .bl b ∧ if b = true then Wp K pf tb ρ1 Φ else Φ (.bl false) ρ1) : Wp K pf (tAndV ta tb) ρ Φ := fun M σ H S Q q =>
  h M σ H S _ fun v1 H1 d1 ρ1 s1 S1 x1 ⟨b, e, f⟩ => by
    subst e
    refine ⟨b, x1.bl_eq, ?_⟩
    cases b with
    | true =>
      rw [if_pos rfl] at f ⊢
      exact f M σ H1 S1 _ fun v H2 d ρ2 s2 S2 x f2 => q v H2 d ρ2 (s1.trans s2) S2 x f2
    | false =>
      rw [if_neg Bool.false_ne_true] at f ⊢
      exact q _ H1 _ ρ1 s1 S1 (.bl _) f
theorem w_orV (h : Wp K pf ta ρ fun d1 ρ1 => ∃ b, d1 = .bl b ∧ if b = true then Φ (.bl true) ρ1 else Wp K pf tb ρ1 Φ) : Wp K pf (tOrV ta tb) ρ Φ := fun M σ H S Q q =>
  h M σ H S _ fun v1 H1 d1 ρ1 s1 S1 x1 ⟨b, e, f⟩ => by
    subst e
    refine ⟨b, x1.bl_eq, ?_⟩
    cases b with
    | false =>
      rw [if_neg Bool.false_ne_true] at f ⊢
      exact f M σ H1 S1 _ fun v H2 d ρ2 s2 S2 x f2 => q v H2 d ρ2 (s1.trans s2) S2 x f2
    | true =>
      rw [if_pos rfl] at f ⊢
      exact q _ H1 _ ρ1 s1 S1 (.bl _) f
theorem w_notV (h : Wp K pf ta ρ fun d1 ρ1 => ∃ b, d1 = .bl b ∧ Φ (.bl (!b)) ρ1) : Wp K pf (tNotV ta) ρ Φ := fun M σ H S Q q =>
  h M σ H S _ fun v1 H1 d1 ρ1 s1 S1 x1 ⟨b, e, f⟩ => by
    subst e
    exact ⟨b, x1.bl_eq, q _ H1 _ ρ1 s1 S1 (.bl _) f⟩
theorem w_if (h : Wt K pf tt ρ fun b ρ1 => if b = true then Wp K pf ta ρ1 Φ else Wp K pf tb ρ1 Φ) : Wp K pf (tIf tt ta tb) ρ Φ := fun M σ H S Q q =>
  h M σ H S _ fun b H1 ρ1 s1 S1 f => by
    cases b with
    | true =>
      rw [if_pos rfl] at f
      show ta σ H1 Q
      exact f M σ H1 S1 _ fun v H2 d ρ2 s2 S2 x f2 => q v H2 d ρ2 (s1.trans s2) S2 x f2
    | false =>
      rw [if_neg Bool.false_ne_true] at f
      show tb σ H1 Q
      exact f M σ H1 S1 _ fun v H2 d ρ2 s2 S2 x f2 => q v H2 d ρ2 (s1.trans s2) S2 x f2
/-! tests -/
theorem wt_test (h : Wp K pf te ρ fun d ρ1 => ∃ b, d = .bl b ∧ Θ b ρ1) : Wt K pf (tTest te) ρ Θ := fun M σ H S Q q =>
  h M σ H S _ fun v1 H1 d1 ρ1 s1 S1 x1 ⟨b, e, f⟩ => by
    subst e
    exact ⟨b, x1.bl_eq, q b H1 ρ1 s1 S1 f⟩
theorem wt_B (h : Wp K pf te ρ fun d ρ1 => ∃ b, d = .bl b ∧ Θ b ρ1) : Wt K pf (tB te) ρ Θ := fun M σ H S Q q =>
  h M σ H S _ fun v1 H1 d1 ρ1 s1 S1 x1 ⟨b, e, f⟩ => by
    subst e
    exact ⟨b, x1.bl_eq, q b H1 ρ1 s1 S1 f⟩
theorem wt_and (h : Wt K pf tt ρ fun b ρ1 => if b = true then Wt K pf tu ρ1 Θ else Θ false ρ1) : Wt K pf (tAnd tt tu) ρ Θ := fun M σ H S Q q =>
  h M σ H S _ fun b H1 ρ1 s1 S1 f => by
    cases b with
    | true =>
      rw [if_pos rfl] at f
      show tu σ H1 Q
      exact f M σ H1 S1 _ fun b H2 ρ2 s2 S2 f2 => q b H2 ρ2 (s1.trans s2) S2 f2
    | false =>
      rw [if_neg Bool.false_ne_true] at f
      show Q false H1
      exact q _ H1 ρ1 s1 S1 f
theorem wt_or (h : Wt K pf tt ρ fun b ρ1 => if b = true then Θ true ρ1 else Wt K pf tu ρ1 Θ) : Wt K pf (tOr tt tu) ρ Θ := fun M σ H S Q q =>
  h M σ H S _ fun b H1 ρ1 s1 S1 f => by
    cases b with
    | false =>
      rw [if_neg Bool.false_ne_true] at f
      show tu σ H1 Q
      exact f M σ H1 S1 _ fun b H2 ρ2 s2 S2 f2 => q b H2 ρ2 (s1.trans s2) S2 f2
    | true =>
      rw [if_pos rfl] at f
      show Q true H1
      exact q _ H1 ρ1 s1 S1 f
theorem wt_not (h : Wt K pf tt ρ fun b ρ1 => Θ (!b) ρ1) : Wt K pf (tNot tt) ρ Θ := fun M σ H S Q q =>
  h M σ H S _ fun b H1 ρ1 s1 S1 f => q (!b) H1 ρ1 s1 S1 f
theorem wt_yes (h : Θ true ρ) : Wt K pf tYes ρ Θ := fun M σ H S Q q => q true H ρ (Tr.refl pf M H) S h
/-! arguments, displays, calls -/
theorem wa_nil (h : Ξ [] ρ) : Wa K pf tNil ρ Ξ := fun M σ H S Q q => q [] H [] ρ (Tr.refl pf M H) S .nil h
theorem wa_cons (h : Wp K pf ta ρ fun d ρ1 => Wa K pf tr ρ1 fun ds ρ2 => Ξ (d :: ds) ρ2) : Wa K pf (tCons ta tr) ρ Ξ := fun M σ H S Q q =>
  h M σ H S _ fun v1 H1 d1 ρ1 s1 S1 x1 f => f M σ H1 S1 _ fun vs H2 ds ρ2 s2 S2 x2 f2 => q (v1 :: vs) H2 (d1 :: ds) ρ2 (s1.trans s2) S2 (.cons (x1.mono s2.dx) x2) f2
theorem dx_new_t {M : Md} {H : Hp} {q : Addr} {vs : List V} {ds : List Dt} (m : MOk M H) (h : H q = none) (x : DXs K (cut M H) vs ds) : DX K (cut M (upd H q (.tup vs))) (.ref q) (.tup ds) :=
  .tup (.inl (.inl (cut_at (m.new h) upd_same))) (x.mono (cut_same M (same_new h)))
theorem dx_new_l {M : Md} {H : Hp} {q : Addr} {vs : List V} {ds : List Dt} (m : MOk M H) (h : H q = none) (x : DXs K (cut M H) vs ds) : DX K (cut M (upd H q (.lst vs))) (.ref q) (.lst ds) :=
  .lst (.inl (.inl (cut_at (m.new h) upd_same))) (x.mono (cut_same M (same_new h)))
theorem w_tup (h : Wa K pf tr ρ fun ds ρ1 => ds.length ≤ 100000 ∧ Φ (.tup ds) ρ1) : Wp K pf (tTup tr) ρ Φ := fun M σ H S Q q =>
  h M σ H S _ fun vs H1 ds ρ1 s1 S1 x1 ⟨hl, f⟩ => ⟨by rw [x1.len]; exact Nat.le_trans hl (by decide), fun p hp =>
    q _ _ (.tup ds) ρ1 (s1.trans (Tr.same pf M (same_new hp))) (S1.same (same_new hp)) (dx_new_t S1.mok hp x1) f⟩
theorem w_lst (h : Wa K pf tr ρ fun ds ρ1 => ds.length ≤ 100000 ∧ Φ (.lst ds) ρ1) : Wp K pf (tLst tr) ρ Φ := fun M σ H S Q q =>
  h M σ H S _ fun vs H1 ds ρ1 s1 S1 x1 ⟨hl, f⟩ => ⟨by rw [x1.len]; exact Nat.le_trans hl (by decide), fun p hp =>
    q _ _ (.lst ds) ρ1 (s1.trans (Tr.same pf M (same_new hp))) (S1.same (same_new hp)) (dx_new_l S1.mok hp x1) f⟩
theorem w_cb {r : List V → Hp → VK → Prop} (h : Wa K pf tr ρ fun ds ρ1 => RD K r ds fun d => Φ d ρ1) : Wp K pf (tCB r tr) ρ Φ := fun M σ H S Q q =>
  h M σ H S _ fun vs H1 ds ρ1 s1 S1 x1 k => k M H1 vs S1.mok x1 _ fun v H2 d e x f => q v H2 d ρ1 (s1.trans (Tr.same pf M e)) (S1.same e) x f
end
end DL

/-! Data level: calls by promises, statements, loops, comprehensions. -/
namespace DL
open PySem PySem.Spec PyProof.Rows L2
variable [Tb]

theorem Wp.up {K : PySem.W.Frag} {te : TE} {ρ : List Sl} {Φ : Dt → List Sl → Prop} (h : Wp K true te ρ Φ) : Wp K false te ρ Φ := fun M σ H S Q q =>
  h M σ H S Q fun v H2 d ρ' s S2 x f => q v H2 d ρ' ⟨s.st, fun z => nomatch z⟩ S2 x f
theorem Wt.up {K : PySem.W.Frag} {te : TT} {ρ : List Sl} {Φ : Bool → List Sl → Prop} (h : Wt K true te ρ Φ) : Wt K false te ρ Φ := fun M σ H S Q q =>
  h M σ H S Q fun b H2 ρ' s S2 f => q b H2 ρ' ⟨s.st, fun z => nomatch z⟩ S2 f

/-! ### promises -/
/-- what a callee is told of what is mutable: nothing of it is its own -/
def Md.call (M : Md) : Md := ⟨M.p, M.F ++ M.O.filterMap id, []⟩
def Md.callP (M : Md) : Md := ⟨none, (M.p.toList ++ M.ts.map (·.1)) ++ (M.F ++ M.O.filterMap id), []⟩
theorem Md.mem_p {M : Md} {a : Addr} : a ∈ M.p.toList ++ M.ts.map (·.1) ↔ M.inP a := by
  unfold Md.inP
  rw [List.mem_append, Option.mem_toList, List.mem_map]
theorem mem_somes {O : List (Option Addr)} {a : Addr} : a ∈ O.filterMap id ↔ some a ∈ O := by
  rw [List.mem_filterMap]
  constructor
  · rintro ⟨o, h, e⟩
    have e' : o = some a := e
    rw [← e']; exact h
  · intro h; exact ⟨some a, h, rfl⟩
theorem Md.call_has (M : Md) (a : Addr) : M.call.has a ↔ M.has a := by
  unfold Md.has Md.call
  simp only [List.mem_append, mem_somes, List.not_mem_nil, or_false]
  rfl
theorem Md.callP_has (M : Md) (a : Addr) : M.callP.has a ↔ M.has a := by
  unfold Md.has
  constructor
  · rintro (h | h | h)
    · exact (Md.inP0 rfl a h).elim
    · rcases List.mem_append.mp h with h | h
      · exact .inl (Md.mem_p.mp h)
      · rcases List.mem_append.mp h with h | h
        · exact .inr (.inl h)
        · exact .inr (.inr (mem_somes.mp h))
    · cases h
  · rintro (h | h | h)
    · exact .inr (.inl (List.mem_append_left _ (Md.mem_p.mpr h)))
    · exact .inr (.inl (List.mem_append_right _ (List.mem_append_left _ h)))
    · exact .inr (.inl (List.mem_append_right _ (List.mem_append_right _ (mem_somes.mpr h))))
theorem cut_congr {M M' : Md} (h : ∀ a, M'.has a ↔ M.has a) (H : Hp) : cut M' H = cut M H := by
  funext a
  unfold cut
  by_cases c : M.has a
  · rw [if_pos c, if_pos ((h a).mpr c)]
  · rw [if_neg c, if_neg fun z => c ((h a).mp z)]
theorem MOk.call {M : Md} {H : Hp} (m : MOk M H) : MOk M.call H := by
  refine ⟨fun a h => m.live a ((M.call_has a).mp h), fun a h => ⟨fun z => ?_, fun z => (nomatch z)⟩, fun _ _ z => (nomatch z), fun i j a h => ?_, m.tbU rfl (fun _ _ _ z => z) (by rw [cut_congr M.call_has]; exact Same.refl _)⟩
  · rcases List.mem_append.mp z with z | z
    · exact (m.pF a h).1 z
    · exact (m.pF a h).2 (mem_somes.mp z)
  · have h : ([] : List (Option Addr))[i]? = some (some a) := h
    simp at h
theorem MOk.callP {M : Md} {H : Hp} (m : MOk M H) : MOk M.callP H := by
  refine ⟨fun a h => m.live a ((M.callP_has a).mp h), fun a h => (Md.inP0 rfl a h).elim, fun _ _ z => (nomatch z), fun i j a h => ?_, fun t ht => (nomatch ht)⟩
  have h : ([] : List (Option Addr))[i]? = some (some a) := h
  simp at h
/-- .. and the callee's own: no list of its own yet, a place for each slot -/
def Md.body (M : Md) (n : Nat) : Md := ⟨M.p, M.F, List.replicate n none⟩
theorem no_rep {n : Nat} {a : Addr} : some a ∉ List.replicate n (none : Option Addr) := fun h => by
  have := List.eq_of_mem_replicate h
  cases this
theorem Md.body_has {M : Md} (h : M.O = []) (n : Nat) (a : Addr) : (M.body n).has a ↔ M.has a := by
  unfold Md.has Md.body
  rw [h]
  constructor
  · rintro (z | z | z)
    · exact .inl z
    · exact .inr (.inl z)
    · exact (no_rep z).elim
  · rintro (z | z | z)
    · exact .inl z
    · exact .inr (.inl z)
    · cases z
theorem MOk.body {M : Md} {H : Hp} (m : MOk M H) (h : M.O = []) (n : Nat) : MOk (M.body n) H := by
  refine ⟨fun a z => m.live a ((Md.body_has h n a).mp z), fun a z => ⟨(m.pF a z).1, no_rep⟩, fun _ _ => no_rep, fun i j a z => ?_, m.tbU rfl (fun _ _ _ z => z) (by rw [cut_congr (Md.body_has h n)]; exact Same.refl _)⟩
  have z : (List.replicate n (none : Option Addr))[i]? = some (some a) := z
  rw [List.getElem?_replicate] at z
  split at z <;> cases z

/-- a promise: from data to data; nothing that stands is changed -/
def spP (K : PySem.W.Frag) (W : List Dt → (Dt → Prop) → Prop) : Sp := fun vs H Q _ => ∃ (M : Md) (ds : List Dt) (Φ : Dt → Prop),
  M.p = none ∧ M.O = [] ∧ MOk M H ∧ DXs K (cut M H) vs ds ∧ W ds Φ ∧ ∀ v H2 d, Same H H2 → DX K (cut M H2) v d → Φ d → Q v H2
/-- what a def that draws leaves: all but the pen and the tables, and these as they are meant -/
structure FrmP (M : Md) (H H2 : Hp) : Prop where
  k : ∀ a o, H a = some o → ¬ M.inP a → H2 a = some o
  t : TabsM M H2
/-- a promise of a def that draws: its first argument is the pen -/
def spN (K : PySem.W.Frag) (W : Nat → List Dt → (Dt → Nat → Prop) → Prop) : Sp := fun vs H Q _ => ∃ (M : Md) (p : Addr) (n : Nat) (ws : List V) (ds : List Dt) (Φ : Dt → Nat → Prop),
  vs = .ref p :: ws ∧ M.p = some p ∧ M.O = [] ∧ MOk M H ∧ Pen K M H p n ∧ DXs K (cut M H) ws ds ∧ W n ds Φ ∧
    ∀ v H2 d n', FrmP M H H2 → Pen K M H2 p n' → DX K (cut M H2) v d → Φ d n' → Q v H2
def pens (n : Nat) (ρ : List Sl) : List Sl := ρ.map fun s => match s with
  | .pen _ => .pen n
  | .pown _ => .pen n
  | s => s

section
variable {K : PySem.W.Frag} {pf : Bool} {ρ : List Sl} {te : TE} {tr : TA} {Φ : Dt → List Sl → Prop}
theorem w_call {W : List Dt → (Dt → Prop) → Prop} {dvs : List V} {des : List Dt} {E : XK} (hd : ∀ H, DXs K H dvs des) (h : Wa K pf tr ρ fun ds ρ1 => W (ds ++ des) fun d => Φ d ρ1) : Wp K pf (tCall (spP K W) dvs E tr) ρ Φ := fun M σ H S Q q =>
  h M σ H S _ fun vs H1 ds ρ1 s1 S1 x1 k => by
    have ec : ∀ H', cut M.callP H' = cut M H' := cut_congr M.callP_has
    refine ⟨M.callP, ds ++ des, _, rfl, rfl, S1.mok.callP, ?_, k, fun v H2 d e x f => q v H2 d ρ1 (s1.trans (Tr.same pf M e)) (S1.same e) ?_ f⟩
    · rw [ec]; exact x1.append (hd _)
    · rw [ec] at x; exact x
theorem w_call0 {W : List Dt → (Dt → Prop) → Prop} {E : XK} (h : Wa K pf tr ρ fun ds ρ1 => W ds fun d => Φ d ρ1) : Wp K pf (tCall (spP K W) [] E tr) ρ Φ :=
  w_call (des := []) (fun _ => .nil) fun M σ H S Q q => h M σ H S Q fun vs H2 ds ρ' s S2 x f => q vs H2 ds ρ' s S2 x (by show W (ds ++ []) _; rw [List.append_nil]; exact f)
theorem Sd.pens {M : Md} {H H2 : Hp} {σ : L2.St} {p : Addr} {n' : Nat} (S : Sd K M H σ ρ) (hp : M.p = some p) (fr : FrmP M H H2) (P : Pen K M H2 p n') : Sd K M H2 σ (pens n' ρ) := by
  have k := fr.k
  have sc : Same (cut M H) (cut M H2) := fun a o e => by
    obtain ⟨c, z⟩ := cut_of e
    exact cut_at c (k a o z fun y => c (.inl y))
  refine ⟨by unfold DL.pens; rw [List.length_map]; exact S.len, by unfold DL.pens; rw [List.length_map]; exact S.olen, ⟨fun a h => ?_, S.mok.pF, S.mok.FO, S.mok.nd, fr.t⟩, fun i s h => ?_⟩
  · obtain ⟨o, z⟩ := S.mok.live a h
    by_cases e : M.inP a
    · rcases e with e | ⟨t, ht, e⟩
      · obtain ⟨l, ns, c, g, h1, _⟩ := P
        have ea : p = a := Option.some.inj (hp.symm.trans e)
        exact ⟨_, by rw [← ea]; exact h1⟩
      · obtain ⟨ps, h1, _⟩ := fr.t t ht
        exact ⟨_, by rw [← e]; exact h1⟩
    · exact ⟨o, k a o z e⟩
  · unfold DL.pens at h
    rw [List.getElem?_map] at h
    cases e : ρ[i]? with
    | none => rw [e] at h; cases h
    | some s0 =>
      rw [e] at h
      obtain ⟨o, h1, h2⟩ := S.ok i s0 e
      refine ⟨o, h1, ?_⟩
      have h := Option.some.inj h
      cases s0 with
      | any => subst h; trivial
      | dat d => subst h; obtain ⟨v, a1, a2⟩ := h2; exact ⟨v, a1, a2.mono sc⟩
      | val u d => subst h; obtain ⟨a1, a2⟩ := h2; exact ⟨a1, a2.mono sc⟩
      | own ds =>
        subst h
        obtain ⟨l, vs, a1, a2, a3, a4⟩ := h2
        exact ⟨l, vs, a1, a2, k _ _ a3 (fun y => (S.mok.pF _ y).2 (List.mem_of_getElem? a2)), a4.mono sc⟩
      | obj C0 b0 ns0 ds =>
        subst h
        obtain ⟨l, dx0, vs, a1, a2, a3, a5, a4⟩ := h2
        exact ⟨l, dx0, vs, a1, a2, k _ _ a3 (fun y => (S.mok.pF _ y).2 (List.mem_of_getElem? a2)), a5, a4.mono sc⟩
      | ownd ds =>
        subst h
        obtain ⟨l, vs, a1, a2, a3, a4⟩ := h2
        exact ⟨l, vs, a1, a2, k _ _ a3 (fun y => (S.mok.pF _ y).2 (List.mem_of_getElem? a2)), a4.mono sc⟩
      | pen m =>
        subst h
        obtain ⟨p', a1, a2, _⟩ := h2
        have e : p' = p := Option.some.inj (a2.symm.trans hp)
        subst e
        exact ⟨p', a1, a2, P⟩
      | pown es =>
        subst h
        obtain ⟨p', ws, a1, a2, _⟩ := h2
        have e : p' = p := Option.some.inj (a2.symm.trans hp)
        subst e
        exact ⟨p', a1, a2, P⟩
theorem w_callN {W : Nat → List Dt → (Dt → Nat → Prop) → Prop} {E : XK} {i n0 : Nat} (e : ρ[i]? = some (.pen n0)) (h : Wa K false tr ρ fun ds ρ1 => ∃ n, ρ1[i]? = some (.pen n) ∧ W n ds fun d n' => Φ d (pens n' ρ1)) :
    Wp K false (tCall (spN K W) [] E (tCons (tVar i) tr)) ρ Φ := fun M σ H S Q q => by
  obtain ⟨o, h1, p, rfl, hp, _⟩ := S.ok i _ e
  refine ⟨.ref p, h1, h M σ H S _ fun vs H1 ds ρ1 s1 S1 x1 ⟨n, e1, k⟩ => ?_⟩
  obtain ⟨o', g1, p', g2, g3, P⟩ := S1.ok i _ e1
  have ep : p' = p := Option.some.inj (g3.symm.trans hp)
  subst ep
  have ec : ∀ H', cut M.call H' = cut M H' := cut_congr M.call_has
  have penc : ∀ {H' : Hp} {m : Nat}, Pen K M.call H' p' m ↔ Pen K M H' p' m := fun {H' m} => by unfold Pen; rw [ec]
  refine ⟨M.call, p', n, vs, ds, _, by rw [List.append_nil], hp, rfl, S1.mok.call, penc.mpr P, by rw [ec]; exact x1, k, fun v H2 d n' kp P2 x f => ?_⟩
  rw [ec] at x
  refine q v H2 d (pens n' ρ1) (s1.trans ⟨⟨rfl, rfl, fun a o z c d => ⟨kp.k a o z c, d⟩⟩, fun z => nomatch z⟩) (S1.pens hp ⟨kp.k, fun t ht => (kp.t t ht).step (fun _ z => z) (by rw [ec]; exact Same.refl _)⟩ (penc.mp P2)) x f
end

/-! ### statements -/
structure DE where
  nx : List Sl → Prop
  rt : Dt → List Sl → Prop
  bk : List Sl → Prop := fun _ => False
  ct : List Sl → Prop := fun _ => False
  /-- what is wished where an exception leaves the def; which ones may -/
  xk : XK := fun _ _ _ => False
  xd : Addr → List Str → List Dt → Prop := fun _ _ _ => False
structure EOk (K : PySem.W.Frag) (M : Md) (H : Hp) (E : Ends) (D : DE) : Prop where
  nx : ∀ M' σ' H' ρ', Stp M H M' H' → Sd K M' H' σ' ρ' → D.nx ρ' → E.nx σ' H'
  rt : ∀ M' v H' d ρ' σ', Stp M H M' H' → Sd K M' H' σ' ρ' → DX K (cut M' H') v d → D.rt d ρ' → E.rt v H'
  bk : ∀ M' σ' H' ρ', Stp M H M' H' → Sd K M' H' σ' ρ' → D.bk ρ' → E.bk σ' H'
  ct : ∀ M' σ' H' ρ', Stp M H M' H' → Sd K M' H' σ' ρ' → D.ct ρ' → E.ct σ' H'
  ex : ∀ M' H' C dd ns us es, Stp M H M' H' → H' dd = some (.xd (ns.zip us)) → ns.length = us.length → ¬ M'.has dd → DXs K (cut M' H') us es → D.xd C ns es → D.xk (.ref C) (some dd) H'
theorem EOk.step {K : PySem.W.Frag} {M M1 : Md} {H H1 : Hp} {E : Ends} {D : DE} (k : EOk K M H E D) (s : Stp M H M1 H1) : EOk K M1 H1 E D :=
  ⟨fun M' σ' H' ρ' t S z => k.nx M' σ' H' ρ' (s.trans t) S z, fun M' v H' d ρ' σ' t S x z => k.rt M' v H' d ρ' σ' (s.trans t) S x z,
    fun M' σ' H' ρ' t S z => k.bk M' σ' H' ρ' (s.trans t) S z, fun M' σ' H' ρ' t S z => k.ct M' σ' H' ρ' (s.trans t) S z, fun M' H' C dd ns us es t a b nd c e => k.ex M' H' C dd ns us es (s.trans t) a b nd c e⟩
def Ws (K : PySem.W.Frag) (ts : TS) (ρ : List Sl) (D : DE) : Prop :=
  ∀ (M : Md) (σ : L2.St) (H : Hp), Sd K M H σ ρ → ∀ E : Ends, EOk K M H E D → ts E σ H

section
variable {K : PySem.W.Frag} {ρ : List Sl} {te ti : TE} {tt : TT} {tr : TA} {t u : TS} {D : DE} {i : Nat}
theorem Sd.put {M : Md} {H : Hp} {σ : L2.St} (S : Sd K M H σ ρ) {v : V} {d : Dt} (x : DX K (cut M H) v d) (i : Nat) : Sd K M H (σ.set i (some v)) (ρ.set i (.dat d)) := by
  refine ⟨by rw [List.length_set, List.length_set]; exact S.len, by rw [List.length_set]; exact S.olen, S.mok, fun j s h => ?_⟩
  by_cases e : i = j
  · subst e
    by_cases hi : i < ρ.length
    · rw [List.getElem?_set_self hi] at h
      have h := Option.some.inj h
      subst h
      exact ⟨some v, by rw [List.getElem?_set_self (by rw [S.len]; exact hi)], v, rfl, x⟩
    · rw [List.getElem?_eq_none (by rw [List.length_set]; omega)] at h; cases h
  · rw [List.getElem?_set_ne e] at h ⊢
    exact S.ok j s h
theorem ws_seq (h : Ws K t ρ { D with nx := fun ρ' => Ws K u ρ' D }) : Ws K (tSeq t u) ρ D := fun M σ H S E k =>
  h M σ H S { E with nx := u E } ⟨fun M' σ' H' ρ' s S' z => z M' σ' H' S' E (k.step s), k.rt, k.bk, k.ct, k.ex⟩
theorem ws_next (h : D.nx ρ) : Ws K tNext ρ D := fun M σ H S E k => k.nx M σ H ρ (Stp.refl M H) S h
theorem ws_brk (h : D.bk ρ) : Ws K tBreak ρ D := fun M σ H S E k => k.bk M σ H ρ (Stp.refl M H) S h
theorem ws_cont (h : D.ct ρ) : Ws K tCont ρ D := fun M σ H S E k => k.ct M σ H ρ (Stp.refl M H) S h
theorem ws_asg {pf : Bool} (h : Wp K pf te ρ fun d ρ' => D.nx (ρ'.set i (.dat d))) : Ws K (tAsg te (gName i)) ρ D := fun M σ H S E k =>
  h M σ H S _ fun v H1 d ρ1 s1 S1 x1 f => k.nx M _ H1 _ s1.st (S1.put x1 i) f
theorem ws_drop {pf : Bool} (h : Wp K pf te ρ fun d ρ' => D.nx ρ') : Ws K (tDrop te) ρ D := fun M σ H S E k =>
  h M σ H S _ fun v H1 d ρ1 s1 S1 x1 f => k.nx M _ H1 _ s1.st S1 f
theorem ws_ret {pf : Bool} (h : Wp K pf te ρ fun d ρ' => D.rt d ρ') : Ws K (tRet te) ρ D := fun M σ H S E k =>
  h M σ H S _ fun v H1 d ρ1 s1 S1 x1 f => k.rt M v H1 d ρ1 σ s1.st S1 x1 f
theorem ws_retN (h : D.rt .non ρ) : Ws K tRetN ρ D := fun M σ H S E k => k.rt M .non H .non ρ σ (Stp.refl M H) S .non h
theorem ws_if {pf : Bool} (h : Wt K pf tt ρ fun b ρ1 => if b = true then Ws K t ρ1 D else Ws K u ρ1 D) : Ws K (tIfS tt t u) ρ D := fun M σ H S E k =>
  h M σ H S _ fun b H1 ρ1 s1 S1 f => by
    cases b with
    | true =>
      rw [if_pos rfl] at f
      show t E σ H1
      exact f M σ H1 S1 E (k.step s1.st)
    | false =>
      rw [if_neg Bool.false_ne_true] at f
      show u E σ H1
      exact f M σ H1 S1 E (k.step s1.st)

/-! one's own lists -/
theorem Sd.slot {M : Md} {H : Hp} {σ : L2.St} (S : Sd K M H σ ρ) {s : Sl} (h : ρ[i]? = some s) : i < σ.length := by
  rw [S.len]; exact (List.getElem?_eq_some_iff.mp h).1
/-- a new list at q becomes slot i's own -/
theorem Sd.own {M : Md} {H : Hp} {σ : L2.St} {q : Addr} {vs : List V} {ds : List Dt} (S : Sd K M H σ ρ) (hi : i < ρ.length) (hq : ¬ M.has q) (hH : H q = some (.lst vs))
    (x : DXs K (cut { M with F := q :: M.F } H) vs ds) (hS : Sd K { M with F := q :: M.F } H σ ρ) : Sd K { M with O := M.O.set i (some q) } H (σ.set i (some (.ref q))) (ρ.set i (.own ds)) := by
  have hO : ∀ a, some a ∈ M.O.set i (some q) → a = q ∨ some a ∈ M.O := fun a h => by
    rcases List.mem_or_eq_of_mem_set h with z | z
    · exact .inr z
    · exact .inl (Option.some.inj z)
  have has : ∀ a, ({ M with O := M.O.set i (some q) } : Md).has a → ({ M with F := q :: M.F } : Md).has a := fun a h => by
    rcases h with h | h | h
    · exact .inl h
    · exact .inr (.inl (List.mem_cons_of_mem _ h))
    · rcases hO a h with z | z
      · exact .inr (.inl (by rw [z]; exact List.mem_cons_self))
      · exact .inr (.inr z)
  have sc : Same (cut { M with F := q :: M.F } H) (cut { M with O := M.O.set i (some q) } H) := cut_le has
  have hset : ∀ (j : Nat) (a : Addr), (M.O.set i (some q))[j]? = some (some a) → (i = j ∧ a = q) ∨ (i ≠ j ∧ M.O[j]? = some (some a)) := fun j a h => by
    by_cases e : i = j
    · subst e
      rw [List.getElem?_set_self (by rw [S.olen]; exact hi)] at h
      exact .inl ⟨rfl, (Option.some.inj (Option.some.inj h)).symm⟩
    · rw [List.getElem?_set_ne e] at h
      exact .inr ⟨e, h⟩
  refine ⟨by rw [List.length_set, List.length_set]; exact S.len, by show (M.O.set i (some q)).length = _; rw [List.length_set, List.length_set]; exact S.olen, ⟨fun a h => hS.mok.live a (has a h), fun a h => ⟨(S.mok.pF a h).1, fun z => ?_⟩, fun a h z => ?_, fun j k a h1 h2 => ?_, hS.mok.tbU rfl (fun _ _ _ z => z) sc⟩, fun j s h => ?_⟩
  · rcases hO a z with z | z
    · exact hq (.inl (by rw [← z]; exact h))
    · exact (S.mok.pF a h).2 z
  · rcases hO a z with z | z
    · exact hq (.inr (.inl (by rw [← z]; exact h)))
    · exact S.mok.FO a h z
  · rcases hset j a h1 with ⟨e1, z1⟩ | ⟨e1, z1⟩
    · rcases hset k a h2 with ⟨e2, z2⟩ | ⟨e2, z2⟩
      · rw [← e1, ← e2]
      · exact (hq (.inr (.inr (by rw [← z1]; exact List.mem_of_getElem? z2)))).elim
    · rcases hset k a h2 with ⟨e2, z2⟩ | ⟨e2, z2⟩
      · exact (hq (.inr (.inr (by rw [← z2]; exact List.mem_of_getElem? z1)))).elim
      · exact S.mok.nd j k a z1 z2
  · by_cases e : i = j
    · subst e
      rw [List.getElem?_set_self hi] at h
      have h := Option.some.inj h
      subst h
      exact ⟨_, List.getElem?_set_self (by rw [S.len]; exact hi), q, vs, rfl, List.getElem?_set_self (by rw [S.olen]; exact hi), hH, x.mono sc⟩
    · rw [List.getElem?_set_ne e] at h
      obtain ⟨o, h1, h2⟩ := hS.ok j s h
      refine ⟨o, by rw [List.getElem?_set_ne e]; exact h1, ?_⟩
      cases s with
      | any => trivial
      | dat d => obtain ⟨v, a1, a2⟩ := h2; exact ⟨v, a1, a2.mono sc⟩
      | val u d => obtain ⟨a1, a2⟩ := h2; exact ⟨a1, a2.mono sc⟩
      | own es =>
        obtain ⟨l, ws, a1, a2, a3, a4⟩ := h2
        exact ⟨l, ws, a1, by show (M.O.set i (some q))[j]? = _; rw [List.getElem?_set_ne e]; exact a2, a3, a4.mono sc⟩
      | obj C0 b0 ns0 es =>
        obtain ⟨l, dx0, ws, a1, a2, a3, a5, a4⟩ := h2
        exact ⟨l, dx0, ws, a1, by show (M.O.set i (some q))[j]? = _; rw [List.getElem?_set_ne e]; exact a2, a3, a5, a4.mono sc⟩
      | ownd es =>
        obtain ⟨l, ws, a1, a2, a3, a4⟩ := h2
        exact ⟨l, ws, a1, by show (M.O.set i (some q))[j]? = _; rw [List.getElem?_set_ne e]; exact a2, a3, a4.mono sc⟩
      | pen m =>
        obtain ⟨p', a1, a2, l, ns, c, g, b1, b2, b3⟩ := h2
        exact ⟨p', a1, a2, l, ns, c, g, b1, sc.seq b2, b3⟩
      | pown es => obtain ⟨p', ws, a1, a2, a3, a4⟩ := h2; exact ⟨p', ws, a1, a2, a3, a4.mono sc⟩
/-- a new address set aside -/
theorem Sd.aside {M : Md} {H H' : Hp} {σ : L2.St} {q : Addr} {o : HO} (S : Sd K M H σ ρ) (hq : H q = none) (e : Same H H') (ho : H' q = some o) : Sd K { M with F := q :: M.F } H' σ ρ := by
  have nq := S.mok.new hq
  have has : ∀ a, a ≠ q → ({ M with F := q :: M.F } : Md).has a → M.has a := fun a n h => by
    rcases h with h | h | h
    · exact .inl h
    · rcases List.mem_cons.mp h with z | z
      · exact (n z).elim
      · exact .inr (.inl z)
    · exact .inr (.inr h)
  have sc : Same (cut M H) (cut { M with F := q :: M.F } H') := fun a u z => by
    obtain ⟨c, y⟩ := cut_of z
    exact cut_at (fun h => c (has a (ne_of_none y hq) h)) (e a u y)
  refine ⟨S.len, S.olen, ⟨fun a h => ?_, fun a h => ⟨fun z => ?_, (S.mok.pF a h).2⟩, fun a h => ?_, S.mok.nd, S.mok.tbU rfl (fun _ _ _ z => e _ _ z) sc⟩, fun j s h => ?_⟩
  · by_cases n : a = q
    · exact ⟨o, by rw [n]; exact ho⟩
    · obtain ⟨u, z⟩ := S.mok.live a (has a n h)
      exact ⟨u, e a u z⟩
  · rcases List.mem_cons.mp z with z | z
    · exact nq (.inl (by rw [← z]; exact h))
    · exact (S.mok.pF a h).1 z
  · rcases List.mem_cons.mp h with z | z
    · intro y; exact nq (.inr (.inr (by rw [← z]; exact y)))
    · exact S.mok.FO a z
  · obtain ⟨u, h1, h2⟩ := S.ok j s h
    refine ⟨u, h1, ?_⟩
    cases s with
    | any => trivial
    | dat d => obtain ⟨v, a1, a2⟩ := h2; exact ⟨v, a1, a2.mono sc⟩
    | val u d => obtain ⟨a1, a2⟩ := h2; exact ⟨a1, a2.mono sc⟩
    | own es => obtain ⟨l, ws, a1, a2, a3, a4⟩ := h2; exact ⟨l, ws, a1, a2, e _ _ a3, a4.mono sc⟩
    | obj C0 b0 ns0 es => obtain ⟨l, dx0, ws, a1, a2, a3, a5, a4⟩ := h2; exact ⟨l, dx0, ws, a1, a2, e _ _ a3, a5, a4.mono sc⟩
    | ownd es => obtain ⟨l, ws, a1, a2, a3, a4⟩ := h2; exact ⟨l, ws, a1, a2, e _ _ a3, a4.mono sc⟩
    | pen m =>
      obtain ⟨p', a1, a2, l, ns, c, g, b1, b2, b3⟩ := h2
      exact ⟨p', a1, a2, l, ns, c, g, e _ _ b1, sc.seq b2, b3⟩
    | pown es => obtain ⟨p', ws, a1, a2, a3, a4⟩ := h2; exact ⟨p', ws, a1, a2, e _ _ a3, a4.mono sc⟩
theorem Stp.own {M : Md} {H H' : Hp} {i : Nat} {q : Addr} (hq : H q = none) (e : Same H H') : Stp M H { M with O := M.O.set i (some q) } H' :=
  ⟨rfl, rfl, fun a o z c d => ⟨e a o z, fun y => by
    rcases List.mem_or_eq_of_mem_set y with y | y
    · exact d y
    · exact ne_of_none z hq (Option.some.inj y)⟩⟩
theorem ws_newlist (hi : i < ρ.length) (h : D.nx (ρ.set i (.own []))) : Ws K (tAsg (tLst tNil) (gName i)) ρ D := fun M σ H S E k =>
  ⟨Nat.zero_le _, fun q hq => k.nx _ _ _ _ (Stp.own hq (same_new hq)) ((S.same (same_new hq)).own hi (S.mok.new hq) upd_same .nil (S.aside hq (same_new hq) upd_same)) h⟩
/-- a list of one's own, written at its address -/
theorem Sd.write {M : Md} {H : Hp} {σ : L2.St} {l : Addr} {vs ws : List V} {ds es : List Dt} (S : Sd K M H σ ρ) (hs : ρ[i]? = some (.own ds)) (hl : M.O[i]? = some (some l)) (x : DXs K (cut M H) ws es) :
    Sd K M (upd H l (.lst ws)) σ (ρ.set i (.own es)) ∧ Stp M H M (upd H l (.lst ws)) := by
  have hm : some l ∈ M.O := List.mem_of_getElem? hl
  have sc : Same (cut M H) (cut M (upd H l (.lst ws))) := fun a u z => by
    obtain ⟨c, y⟩ := cut_of z
    exact cut_at c (by rw [upd_ne fun n => c (.inr (.inr (by rw [n]; exact hm)))]; exact y)
  obtain ⟨o0, h0, l0, vs0, e0, e1, e2, e3⟩ := S.ok i _ hs
  have el : l0 = l := Option.some.inj (Option.some.inj (e1.symm.trans hl))
  subst el
  refine ⟨⟨by rw [List.length_set]; exact S.len, by rw [List.length_set]; exact S.olen, ⟨fun a h => ?_, S.mok.pF, S.mok.FO, S.mok.nd, S.mok.tbU rfl (fun a ha _ z => by rw [upd_ne fun n => (S.mok.pF a ha).2 (by rw [n]; exact hm)]; exact z) sc⟩, fun j s h => ?_⟩, ⟨rfl, rfl, fun a o z c d => ⟨?_, d⟩⟩⟩
  · by_cases n : a = l0
    · exact ⟨_, by rw [n]; exact upd_same⟩
    · obtain ⟨u, z⟩ := S.mok.live a h
      exact ⟨u, by rw [upd_ne n]; exact z⟩
  · by_cases e : i = j
    · subst e
      rw [List.getElem?_set_self (by rw [← S.len]; exact S.slot hs)] at h
      have h := Option.some.inj h
      subst h
      exact ⟨o0, h0, l0, ws, e0, e1, upd_same, x.mono sc⟩
    · rw [List.getElem?_set_ne e] at h
      obtain ⟨o, h1, h2⟩ := S.ok j s h
      refine ⟨o, h1, ?_⟩
      cases s with
      | any => trivial
      | dat d => obtain ⟨v, a1, a2⟩ := h2; exact ⟨v, a1, a2.mono sc⟩
      | val u d => obtain ⟨a1, a2⟩ := h2; exact ⟨a1, a2.mono sc⟩
      | own es =>
        obtain ⟨l', ws', a1, a2, a3, a4⟩ := h2
        exact ⟨l', ws', a1, a2, by rw [upd_ne fun n => e (S.mok.nd i j l0 e1 (by rw [← n]; exact a2))]; exact a3, a4.mono sc⟩
      | obj C0 b0 ns0 es =>
        obtain ⟨l', dx0, ws', a1, a2, a3, a5, a4⟩ := h2
        exact ⟨l', dx0, ws', a1, a2, by rw [upd_ne fun n => e (S.mok.nd i j l0 e1 (by rw [← n]; exact a2))]; exact a3, a5, a4.mono sc⟩
      | ownd es =>
        obtain ⟨l', ws', a1, a2, a3, a4⟩ := h2
        exact ⟨l', ws', a1, a2, by rw [upd_ne fun n => e (S.mok.nd i j l0 e1 (by rw [← n]; exact a2))]; exact a3, a4.mono sc⟩
      | pen m =>
        obtain ⟨p', a1, a2, l', ns, c, g, b1, b2, b3⟩ := h2
        exact ⟨p', a1, a2, l', ns, c, g, by rw [upd_ne fun n => (S.mok.pp a2).2 (by rw [n]; exact hm)]; exact b1, sc.seq b2, b3⟩
      | pown es => obtain ⟨p', ws', a1, a2, a3, a4⟩ := h2; exact ⟨p', ws', a1, a2, by rw [upd_ne fun n => (S.mok.pp a2).2 (by rw [n]; exact hm)]; exact a3, a4.mono sc⟩
  · rw [upd_ne fun n => d (by rw [n]; exact hm)]; exact z
theorem ws_append {pf : Bool} (h : Wp K pf te ρ fun d ρ' => ∃ ds, ρ'[i]? = some (.own ds) ∧ ds.length < 100000 ∧ D.nx (ρ'.set i (.own (ds ++ [d])))) {ds0 : List Dt} (e0 : ρ[i]? = some (.own ds0)) :
    Ws K (tDrop (tBM K "list" rAppend (tVar i) (tCons te tNil))) ρ D := fun M σ H S E k => by
  obtain ⟨o, h1, l, vs0, e1, e2, e3, e4⟩ := S.ok i _ e0
  subst e1
  refine ⟨.ref l, h1, .inl ⟨rfl, _, .inl (.inl e3)⟩, h M σ H S _ fun v H1 d ρ1 s1 S1 x1 ⟨ds, g1, g2, g3⟩ => ?_⟩
  obtain ⟨o', z1, l', vs, y1, y2, y3, y4⟩ := S1.ok i _ g1
  have el : l' = l := Option.some.inj (Option.some.inj (y2.symm.trans e2))
  subst el
  refine ⟨l', vs, v, rfl, rfl, y3, by rw [y4.len]; exact Nat.lt_of_lt_of_le g2 (by decide), ?_⟩
  obtain ⟨S2, s2⟩ := S1.write (vs := vs) g1 y2 (y4.append (.one x1))
  exact k.nx M σ _ _ (s1.st.trans s2) S2 g3
theorem ws_setitem {pf : Bool} (h : Wp K pf te ρ fun d ρ1 => Wp K pf ti ρ1 fun dj ρ2 => ∃ (ds : List Dt) (j : Nat), ρ2[i]? = some (.own ds) ∧ dj = .int j ∧ j < ds.length ∧ D.nx (ρ2.set i (.own (ds.set j d)))) {ds0 : List Dt} (e0 : ρ[i]? = some (.own ds0)) : Ws K (tAsg te (gSub (tVar i) ti rSetL)) ρ D := fun M σ H S E k => by
  obtain ⟨o, h1, l, vs0, e1, e2, e3, e4⟩ := S.ok i _ e0
  subst e1
  refine h M σ H S _ fun v H1 d ρ1 s1 S1 x1 h2 => ?_
  refine ⟨.ref l, h1, h2 M σ H1 S1 _ fun w H2 dj ρ2 s2 S2 x2 ⟨ds, j, g1, g2, g3, g4⟩ => ?_⟩
  subst g2
  obtain ⟨o', z1, l', vs, y1, y2, y3, y4⟩ := S2.ok i _ g1
  have el : l' = l := Option.some.inj (Option.some.inj (y2.symm.trans e2))
  subst el
  refine ⟨l', vs, j, j, rfl, x2.int_eq, y3, ?_, ?_⟩
  · unfold ixN
    rw [if_pos (Int.natCast_nonneg j), if_pos (by rw [y4.len]; exact Int.ofNat_lt.mpr g3)]
    rfl
  · obtain ⟨S3, s3⟩ := S2.write (vs := vs) g1 y2 (y4.set (x1.mono s2.dx) j)
    exact k.nx M σ _ _ ((s1.st.trans s2.st).trans s3) S3 g4
/-- a list of one's own given out of hand: from here on it is data -/
theorem Sd.freeze {M : Md} {H : Hp} {σ : L2.St} {ds : List Dt} (S : Sd K M H σ ρ) (hs : ρ[i]? = some (.own ds)) :
    Sd K { M with O := M.O.set i none } H σ (ρ.set i (.dat (.lst ds))) ∧ Stp M H { M with O := M.O.set i none } H := by
  have hO : ∀ a, some a ∈ M.O.set i none → some a ∈ M.O := fun a h => by
    rcases List.mem_or_eq_of_mem_set h with z | z
    · exact z
    · cases z
  have has : ∀ a, ({ M with O := M.O.set i none } : Md).has a → M.has a := fun a h => by
    rcases h with h | h | h
    · exact .inl h
    · exact .inr (.inl h)
    · exact .inr (.inr (hO a h))
  have sc : Same (cut M H) (cut { M with O := M.O.set i none } H) := cut_le has
  obtain ⟨o0, h0, l, vs, e0, e1, e2, e3⟩ := S.ok i _ hs
  have hset : ∀ (j : Nat) (a : Addr), (M.O.set i none)[j]? = some (some a) → i ≠ j ∧ M.O[j]? = some (some a) := fun j a h => by
    by_cases e : i = j
    · subst e
      rw [List.getElem?_set_self (List.getElem?_eq_some_iff.mp e1).1] at h
      cases Option.some.inj h
    · rw [List.getElem?_set_ne e] at h
      exact ⟨e, h⟩
  have nl : ¬ ({ M with O := M.O.set i none } : Md).has l := fun z => by
    have hm := List.mem_of_getElem? e1
    rcases z with z | z | z
    · exact (S.mok.pF l z).2 hm
    · exact S.mok.FO l z hm
    · obtain ⟨j, hj⟩ := List.getElem?_of_mem z
      obtain ⟨n, h2⟩ := hset j l hj
      exact n (S.mok.nd i j l e1 h2)
  refine ⟨⟨by rw [List.length_set]; exact S.len, by show (M.O.set i none).length = _; rw [List.length_set, List.length_set]; exact S.olen, ⟨fun a h => S.mok.live a (has a h), fun a h => ⟨(S.mok.pF a h).1, fun z => (S.mok.pF a h).2 (hO a z)⟩, fun a h z => S.mok.FO a h (hO a z), fun j k a h1 h2 => S.mok.nd j k a (hset j a h1).2 (hset k a h2).2, S.mok.tbU rfl (fun _ _ _ z => z) sc⟩, fun j s h => ?_⟩, ⟨rfl, rfl, fun a o z c d => ⟨z, fun y => d (hO a y)⟩⟩⟩
  by_cases e : i = j
  · subst e
    rw [List.getElem?_set_self (by rw [← S.len]; exact S.slot hs)] at h
    have h := Option.some.inj h
    subst h
    exact ⟨o0, h0, .ref l, e0, .lst (.inl (.inl (cut_at nl e2))) (e3.mono sc)⟩
  · rw [List.getElem?_set_ne e] at h
    obtain ⟨o, h1, h2⟩ := S.ok j s h
    refine ⟨o, h1, ?_⟩
    cases s with
    | any => trivial
    | dat d => obtain ⟨v, a1, a2⟩ := h2; exact ⟨v, a1, a2.mono sc⟩
    | val u d => obtain ⟨a1, a2⟩ := h2; exact ⟨a1, a2.mono sc⟩
    | own es =>
      obtain ⟨l', ws', a1, a2, a3, a4⟩ := h2
      exact ⟨l', ws', a1, by show (M.O.set i none)[j]? = _; rw [List.getElem?_set_ne e]; exact a2, a3, a4.mono sc⟩
    | obj C0 b0 ns0 es =>
      obtain ⟨l', dx0, ws', a1, a2, a3, a5, a4⟩ := h2
      exact ⟨l', dx0, ws', a1, by show (M.O.set i none)[j]? = _; rw [List.getElem?_set_ne e]; exact a2, a3, a5, a4.mono sc⟩
    | ownd es =>
      obtain ⟨l', ws', a1, a2, a3, a4⟩ := h2
      exact ⟨l', ws', a1, by show (M.O.set i none)[j]? = _; rw [List.getElem?_set_ne e]; exact a2, a3, a4.mono sc⟩
    | pen m =>
      obtain ⟨p', a1, a2, l', ns, c, g, b1, b2, b3⟩ := h2
      exact ⟨p', a1, a2, l', ns, c, g, b1, sc.seq b2, b3⟩
    | pown es => obtain ⟨p', ws', a1, a2, a3, a4⟩ := h2; exact ⟨p', ws', a1, a2, a3, a4.mono sc⟩
theorem ws_freeze {ds : List Dt} (hs : ρ[i]? = some (.own ds)) (h : Ws K t (ρ.set i (.dat (.lst ds))) D) : Ws K t ρ D := fun M σ H S E k =>
  let ⟨S2, s2⟩ := S.freeze hs
  h _ σ H S2 E (k.step s2)
/-- a datum that stands nowhere -/
def flatD : Dt → Bool
  | .non | .bl _ | .int _ | .str _ => true
  | _ => false
theorem flat_any {d : Dt} (f : flatD d = true) {H H' : Hp} {v : V} (x : DX K H v d) : DX K H' v d := by
  cases d with
  | non => cases x; exact .non
  | bl b => cases x; exact .bl b
  | int i => cases x; exact .int i
  | str z => cases x; exact .str z
  | _ => cases f
theorem wp_thaw {ds : List Dt} {Φ : Dt → List Sl → Prop} {pf : Bool} (hs : ρ[i]? = some (.own ds)) (h : Wp K true te (ρ.set i (.dat (.lst ds))) fun d _ => flatD d = true ∧ Φ d ρ) : Wp K pf te ρ Φ := fun M σ H S Q q =>
  let ⟨S2, _⟩ := S.freeze hs
  h _ σ H S2 Q fun v H2 d ρ' s S3 x ⟨f, z⟩ => q v H2 d ρ (Tr.same pf M (s.sm rfl)) (S.same (s.sm rfl)) (flat_any f x) z
theorem wt_thaw {ds : List Dt} {Φ : Bool → List Sl → Prop} {pf : Bool} (hs : ρ[i]? = some (.own ds)) (h : Wt K true tt (ρ.set i (.dat (.lst ds))) fun b _ => Φ b ρ) : Wt K pf tt ρ Φ := fun M σ H S Q q =>
  let ⟨S2, _⟩ := S.freeze hs
  h _ σ H S2 Q fun b H2 ρ' s S3 z => q b H2 ρ (Tr.same pf M (s.sm rfl)) (S.same (s.sm rfl)) z
/-! dicts of one's own -/
theorem Sd.ownd {M : Md} {H : Hp} {σ : L2.St} {q : Addr} {vs : List (Key × V)} {ds : List (Key × Dt)} (S : Sd K M H σ ρ) (hi : i < ρ.length) (hq : ¬ M.has q) (hH : H q = some (.dK vs))
    (x : DXk K (cut { M with F := q :: M.F } H) vs ds) (hS : Sd K { M with F := q :: M.F } H σ ρ) : Sd K { M with O := M.O.set i (some q) } H (σ.set i (some (.ref q))) (ρ.set i (.ownd ds)) := by
  have hO : ∀ a, some a ∈ M.O.set i (some q) → a = q ∨ some a ∈ M.O := fun a h => by
    rcases List.mem_or_eq_of_mem_set h with z | z
    · exact .inr z
    · exact .inl (Option.some.inj z)
  have has : ∀ a, ({ M with O := M.O.set i (some q) } : Md).has a → ({ M with F := q :: M.F } : Md).has a := fun a h => by
    rcases h with h | h | h
    · exact .inl h
    · exact .inr (.inl (List.mem_cons_of_mem _ h))
    · rcases hO a h with z | z
      · exact .inr (.inl (by rw [z]; exact List.mem_cons_self))
      · exact .inr (.inr z)
  have sc : Same (cut { M with F := q :: M.F } H) (cut { M with O := M.O.set i (some q) } H) := cut_le has
  have hset : ∀ (j : Nat) (a : Addr), (M.O.set i (some q))[j]? = some (some a) → (i = j ∧ a = q) ∨ (i ≠ j ∧ M.O[j]? = some (some a)) := fun j a h => by
    by_cases e : i = j
    · subst e
      rw [List.getElem?_set_self (by rw [S.olen]; exact hi)] at h
      exact .inl ⟨rfl, (Option.some.inj (Option.some.inj h)).symm⟩
    · rw [List.getElem?_set_ne e] at h
      exact .inr ⟨e, h⟩
  refine ⟨by rw [List.length_set, List.length_set]; exact S.len, by show (M.O.set i (some q)).length = _; rw [List.length_set, List.length_set]; exact S.olen, ⟨fun a h => hS.mok.live a (has a h), fun a h => ⟨(S.mok.pF a h).1, fun z => ?_⟩, fun a h z => ?_, fun j k a h1 h2 => ?_, hS.mok.tbU rfl (fun _ _ _ z => z) sc⟩, fun j s h => ?_⟩
  · rcases hO a z with z | z
    · exact hq (.inl (by rw [← z]; exact h))
    · exact (S.mok.pF a h).2 z
  · rcases hO a z with z | z
    · exact hq (.inr (.inl (by rw [← z]; exact h)))
    · exact S.mok.FO a h z
  · rcases hset j a h1 with ⟨e1, z1⟩ | ⟨e1, z1⟩
    · rcases hset k a h2 with ⟨e2, z2⟩ | ⟨e2, z2⟩
      · rw [← e1, ← e2]
      · exact (hq (.inr (.inr (by rw [← z1]; exact List.mem_of_getElem? z2)))).elim
    · rcases hset k a h2 with ⟨e2, z2⟩ | ⟨e2, z2⟩
      · exact (hq (.inr (.inr (by rw [← z2]; exact List.mem_of_getElem? z1)))).elim
      · exact S.mok.nd j k a z1 z2
  · by_cases e : i = j
    · subst e
      rw [List.getElem?_set_self hi] at h
      have h := Option.some.inj h
      subst h
      exact ⟨_, List.getElem?_set_self (by rw [S.len]; exact hi), q, vs, rfl, List.getElem?_set_self (by rw [S.olen]; exact hi), hH, x.mono sc⟩
    · rw [List.getElem?_set_ne e] at h
      obtain ⟨o, h1, h2⟩ := hS.ok j s h
      refine ⟨o, by rw [List.getElem?_set_ne e]; exact h1, ?_⟩
      cases s with
      | any => trivial
      | dat d => obtain ⟨v, a1, a2⟩ := h2; exact ⟨v, a1, a2.mono sc⟩
      | val u d => obtain ⟨a1, a2⟩ := h2; exact ⟨a1, a2.mono sc⟩
      | own es =>
        obtain ⟨l, ws, a1, a2, a3, a4⟩ := h2
        exact ⟨l, ws, a1, by show (M.O.set i (some q))[j]? = _; rw [List.getElem?_set_ne e]; exact a2, a3, a4.mono sc⟩
      | obj C0 b0 ns0 es =>
        obtain ⟨l, dx0, ws, a1, a2, a3, a5, a4⟩ := h2
        exact ⟨l, dx0, ws, a1, by show (M.O.set i (some q))[j]? = _; rw [List.getElem?_set_ne e]; exact a2, a3, a5, a4.mono sc⟩
      | ownd es =>
        obtain ⟨l, ws, a1, a2, a3, a4⟩ := h2
        exact ⟨l, ws, a1, by show (M.O.set i (some q))[j]? = _; rw [List.getElem?_set_ne e]; exact a2, a3, a4.mono sc⟩
      | pen m =>
        obtain ⟨p', a1, a2, l, ns, c, g, b1, b2, b3⟩ := h2
        exact ⟨p', a1, a2, l, ns, c, g, b1, sc.seq b2, b3⟩
      | pown es => obtain ⟨p', ws, a1, a2, a3, a4⟩ := h2; exact ⟨p', ws, a1, a2, a3, a4.mono sc⟩
theorem Sd.writed {M : Md} {H : Hp} {σ : L2.St} {l : Addr} {vs ws : List (Key × V)} {ds es : List (Key × Dt)} (S : Sd K M H σ ρ) (hs : ρ[i]? = some (.ownd ds)) (hl : M.O[i]? = some (some l)) (x : DXk K (cut M H) ws es) :
    Sd K M (upd H l (.dK ws)) σ (ρ.set i (.ownd es)) ∧ Stp M H M (upd H l (.dK ws)) := by
  have hm : some l ∈ M.O := List.mem_of_getElem? hl
  have sc : Same (cut M H) (cut M (upd H l (.dK ws))) := fun a u z => by
    obtain ⟨c, y⟩ := cut_of z
    exact cut_at c (by rw [upd_ne fun n => c (.inr (.inr (by rw [n]; exact hm)))]; exact y)
  obtain ⟨o0, h0, l0, vs0, e0, e1, e2, e3⟩ := S.ok i _ hs
  have el : l0 = l := Option.some.inj (Option.some.inj (e1.symm.trans hl))
  subst el
  refine ⟨⟨by rw [List.length_set]; exact S.len, by rw [List.length_set]; exact S.olen, ⟨fun a h => ?_, S.mok.pF, S.mok.FO, S.mok.nd, S.mok.tbU rfl (fun a ha _ z => by rw [upd_ne fun n => (S.mok.pF a ha).2 (by rw [n]; exact hm)]; exact z) sc⟩, fun j s h => ?_⟩, ⟨rfl, rfl, fun a o z c d => ⟨?_, d⟩⟩⟩
  · by_cases n : a = l0
    · exact ⟨_, by rw [n]; exact upd_same⟩
    · obtain ⟨u, z⟩ := S.mok.live a h
      exact ⟨u, by rw [upd_ne n]; exact z⟩
  · by_cases e : i = j
    · subst e
      rw [List.getElem?_set_self (by rw [← S.len]; exact S.slot hs)] at h
      have h := Option.some.inj h
      subst h
      exact ⟨o0, h0, l0, ws, e0, e1, upd_same, x.mono sc⟩
    · rw [List.getElem?_set_ne e] at h
      obtain ⟨o, h1, h2⟩ := S.ok j s h
      refine ⟨o, h1, ?_⟩
      cases s with
      | any => trivial
      | dat d => obtain ⟨v, a1, a2⟩ := h2; exact ⟨v, a1, a2.mono sc⟩
      | val u d => obtain ⟨a1, a2⟩ := h2; exact ⟨a1, a2.mono sc⟩
      | own es =>
        obtain ⟨l', ws', a1, a2, a3, a4⟩ := h2
        exact ⟨l', ws', a1, a2, by rw [upd_ne fun n => e (S.mok.nd i j l0 e1 (by rw [← n]; exact a2))]; exact a3, a4.mono sc⟩
      | obj C0 b0 ns0 es =>
        obtain ⟨l', dx0, ws', a1, a2, a3, a5, a4⟩ := h2
        exact ⟨l', dx0, ws', a1, a2, by rw [upd_ne fun n => e (S.mok.nd i j l0 e1 (by rw [← n]; exact a2))]; exact a3, a5, a4.mono sc⟩
      | ownd es =>
        obtain ⟨l', ws', a1, a2, a3, a4⟩ := h2
        exact ⟨l', ws', a1, a2, by rw [upd_ne fun n => e (S.mok.nd i j l0 e1 (by rw [← n]; exact a2))]; exact a3, a4.mono sc⟩
      | pen m =>
        obtain ⟨p', a1, a2, l', ns, c, g, b1, b2, b3⟩ := h2
        exact ⟨p', a1, a2, l', ns, c, g, by rw [upd_ne fun n => (S.mok.pp a2).2 (by rw [n]; exact hm)]; exact b1, sc.seq b2, b3⟩
      | pown es => obtain ⟨p', ws', a1, a2, a3, a4⟩ := h2; exact ⟨p', ws', a1, a2, by rw [upd_ne fun n => (S.mok.pp a2).2 (by rw [n]; exact hm)]; exact a3, a4.mono sc⟩
  · rw [upd_ne fun n => d (by rw [n]; exact hm)]; exact z
end
end DL

/-! Data level: what is walked, for, comprehensions. -/
namespace DL
open PySem PySem.Spec PyProof.Rows L2
variable [Tb]

/-- a walk over data -/
structure WkOk (K : PySem.W.Frag) (M : Md) (H1 : Hp) (J : It) (ds : List Dt) : Prop where
  ex : ∃ n G Y, Walk J n G Y ∧ n = ds.length ∧ (∀ M' H', Same (cut M H1) (cut M' H') → G H') ∧
    ∀ M' H' i x H'', Same (cut M H1) (cut M' H') → MOk M' H' → i < n → Y i H' x H'' → Same H' H'' ∧ ∃ d, ds[i]? = some d ∧ DX K (cut M' H'') x d
def WI (K : PySem.W.Frag) (f : Bool) (wi : TI) (ρ : List Sl) (Ψ : List Dt → List Sl → Prop) : Prop :=
  ∀ (M : Md) (σ : L2.St) (H : Hp), Sd K M H σ ρ → ∀ R : It → Hp → Prop, (∀ J H1 ds ρ1, Tr f M H H1 → Sd K M H1 σ ρ1 → WkOk K M H1 J ds → Ψ ds ρ1 → R J H1) → wi σ H R
/-- a target; js: the slots that it sets -/
def WG (K : PySem.W.Frag) (g : TG) (js : List Nat) (d : Dt) (ρ : List Sl) (Θ : List Sl → Prop) : Prop :=
  ∀ (M : Md) (σ : L2.St) (H : Hp) (v : V), Sd K M H σ ρ → DX K (cut M H) v d → ∀ Q : L2.St → Hp → Prop,
    (∀ σ' ρ', (∀ vs : List Nat, (∀ j ∈ js, j ∈ vs) → wipe σ' vs = wipe σ vs) → Sd K M H σ' ρ' → Θ ρ' → Q σ' H) → g v σ H Q
theorem wipe_set {σ : L2.St} {j : Nat} {o : Option V} : ∀ {vs : List Nat}, j ∈ vs → wipe (σ.set j o) vs = wipe σ vs
  | [], h => nomatch h
  | v :: vs, h => by
    show (wipe (σ.set j o) vs).set v none = (wipe σ vs).set v none
    by_cases e : j ∈ vs
    · rw [wipe_set e]
    · have e2 : j = v := by
        rcases List.mem_cons.mp h with z | z
        · exact z
        · exact (e z).elim
      subst e2
      have out : ∀ (us : List Nat), j ∉ us → ∀ τ : L2.St, wipe (τ.set j o) us = (wipe τ us).set j o := by
        intro us
        induction us with
        | nil => intro _ τ; rfl
        | cons u us ih =>
          intro hn τ
          show (wipe (τ.set j o) us).set u none = ((wipe τ us).set u none).set j o
          rw [ih (fun z => hn (List.mem_cons_of_mem _ z)) τ, List.set_comm _ _ (fun z => hn (by rw [z]; exact List.mem_cons_self))]
      rw [out vs e, List.set_set]
theorem wipe_wipe (σ : L2.St) (vs : List Nat) : wipe (wipe σ vs) vs = wipe σ vs := by
  have one : ∀ (us : List Nat) (τ : L2.St), (∀ u ∈ us, u ∈ vs) → wipe (wipe τ us) vs = wipe τ vs := by
    intro us
    induction us with
    | nil => intro τ _; rfl
    | cons u us ih =>
      intro τ h
      show wipe ((wipe τ us).set u none) vs = _
      rw [wipe_set (h u List.mem_cons_self), ih τ fun x hx => h x (List.mem_cons_of_mem _ hx)]
  exact one vs σ fun _ h => h

section
variable {K : PySem.W.Frag} {ρ : List Sl} {te ti : TE} {tt : TT} {tr : TA} {t u : TS} {D : DE} {i j : Nat} {pf : Bool} {wi : TI} {g : TG} {Ψ : List Dt → List Sl → Prop} {js : List Nat} {Φ : Dt → List Sl → Prop}
theorem wg_name {d : Dt} {Θ : List Sl → Prop} (h : Θ (ρ.set j (.dat d))) : WG K (gName j) [j] d ρ Θ := fun M σ H v S x Q q =>
  q _ _ (fun vs hv => wipe_set (hv j List.mem_cons_self)) (S.put x j) h
/-- several names -/
def WGs (K : PySem.W.Frag) (g : TGs) (js : List Nat) (ds : List Dt) (ρ : List Sl) (Θ : List Sl → Prop) : Prop :=
  ∀ (M : Md) (σ : L2.St) (H : Hp) (vs : List V), Sd K M H σ ρ → DXs K (cut M H) vs ds → ∀ Q : L2.St → Hp → Prop,
    (∀ σ' ρ', (∀ vs : List Nat, (∀ j ∈ js, j ∈ vs) → wipe σ' vs = wipe σ vs) → Sd K M H σ' ρ' → Θ ρ' → Q σ' H) → g vs σ H Q
theorem wgs_nil {Θ : List Sl → Prop} (h : Θ ρ) : WGs K gNil [] [] ρ Θ := fun M σ H vs S x Q q => by
  cases x
  exact ⟨rfl, q σ ρ (fun _ _ => rfl) S h⟩
theorem wgs_cons {g : TG} {gs : TGs} {js ks : List Nat} {d : Dt} {ds : List Dt} {Θ : List Sl → Prop} (h : WG K g js d ρ fun ρ1 => WGs K gs ks ds ρ1 Θ) : WGs K (gCons g gs) (js ++ ks) (d :: ds) ρ Θ := fun M σ H vs S x Q q => by
  cases x with
  | cons x1 x2 =>
    refine ⟨_, _, rfl, h M σ H _ S x1 _ fun σ1 ρ1 w1 S1 f1 => ?_⟩
    exact f1 M σ1 H _ S1 x2 _ fun σ2 ρ2 w2 S2 f2 => q σ2 ρ2 (fun vs hv => (w2 vs fun j hj => hv j (List.mem_append_right _ hj)).trans (w1 vs fun j hj => hv j (List.mem_append_left _ hj))) S2 f2
theorem wg_tup {gs : TGs} {n : Nat} {ds : List Dt} {Θ : List Sl → Prop} (hn : ds.length = n) (h : WGs K gs js ds ρ Θ) : WG K (gTup K n gs) js (.tup ds) ρ Θ := fun M σ H v S x Q q => by
  cases x with
  | tup hs ha => exact ⟨_, _, rfl, same_T (cut_sub M H) hs, by rw [ha.len]; exact hn, h M σ H _ S ha Q q⟩

/-! what is walked -/
theorem wi_list (h : Wp K pf te ρ fun d ρ1 => ∃ ds, d = .lst ds ∧ Ψ ds ρ1) : WI K pf (iList K te) ρ Ψ := fun M σ H S R q =>
  h M σ H S _ fun v H1 d ρ1 s1 S1 x1 ⟨ds, e, f⟩ => by
    subst e
    cases x1 with
    | lst hs ha =>
      refine ⟨_, rfl, ⟨_, (cut_sub M H1).seq hs⟩, q _ H1 ds ρ1 s1 S1 ⟨_, _, _, walk_list, ha.len, fun M' H' s => (cut_sub M' H').seq (s.seq hs), fun M' H' i x H'' s m hi y => ?_⟩ f⟩
      obtain ⟨e1, e2⟩ := y
      subst e1
      obtain ⟨d, g1, g2⟩ := ha.get e2
      exact ⟨Same.refl _, d, g1, g2.mono s⟩
theorem wi_tup (h : Wp K pf te ρ fun d ρ1 => ∃ ds, d = .tup ds ∧ Ψ ds ρ1) : WI K pf (iTup K te) ρ Ψ := fun M σ H S R q =>
  h M σ H S _ fun v H1 d ρ1 s1 S1 x1 ⟨ds, e, f⟩ => by
    subst e
    cases x1 with
    | tup hs ha =>
      refine ⟨_, rfl, ⟨_, same_T (cut_sub M H1) hs⟩, q _ H1 ds ρ1 s1 S1 ⟨_, _, _, walk_tup, ha.len, fun M' H' s => same_T (cut_sub M' H') (same_T s hs), fun M' H' i x H'' s m hi y => ?_⟩ f⟩
      obtain ⟨e1, e2⟩ := y
      subst e1
      obtain ⟨d, g1, g2⟩ := ha.get e2
      exact ⟨Same.refl _, d, g1, g2.mono s⟩
def rangeD (lo : Int) (n : Nat) : List Dt := (List.range n).map fun i => .int (lo + (i : Nat))
theorem rangeD_len (lo : Int) (n : Nat) : (rangeD lo n).length = n := by unfold rangeD; rw [List.length_map, List.length_range]
theorem rangeD_at {lo : Int} {n i : Nat} (h : i < n) : (rangeD lo n)[i]? = some (.int (lo + (i : Nat))) := by
  unfold rangeD
  rw [List.getElem?_map, List.getElem?_range h]
  rfl
theorem wi_rng1 (h : Wa K pf tr ρ fun ds ρ1 => ∃ n : Int, ds = [.int n] ∧ -(2 ^ 62) ≤ n ∧ n < 2 ^ 62 ∧ Ψ (rangeD 0 n.toNat) ρ1) : WI K pf (iRng1 tr) ρ Ψ := fun M σ H S R q =>
  h M σ H S _ fun vs H1 ds ρ1 s1 S1 x1 ⟨n, e, h1, h2, f⟩ => by
    subst e
    have ev : vs = [.int n] := DXs.ints (ns := [n]) x1
    refine ⟨n, ev, h1, h2, q _ H1 _ ρ1 s1 S1 ⟨_, _, _, walk_range, (rangeD_len 0 n.toNat).symm, fun _ _ _ => trivial, fun M' H' i x H'' s m hi y => ?_⟩ f⟩
    obtain ⟨e1, e2⟩ := y
    subst e1 e2
    exact ⟨Same.refl _, _, rangeD_at hi, .int _⟩
theorem wi_rng2 (h : Wa K pf tr ρ fun ds ρ1 => ∃ lo n : Int, ds = [.int lo, .int n] ∧ (-(2 ^ 62) ≤ lo ∧ lo < 2 ^ 62 ∧ -(2 ^ 62) ≤ n ∧ n < 2 ^ 62) ∧ Ψ (rangeD lo (n - lo).toNat) ρ1) : WI K pf (iRng2 tr) ρ Ψ := fun M σ H S R q =>
  h M σ H S _ fun vs H1 ds ρ1 s1 S1 x1 ⟨lo, n, e, h1, f⟩ => by
    subst e
    have ev : vs = [.int lo, .int n] := DXs.ints (ns := [lo, n]) x1
    refine ⟨lo, n, ev, h1, q _ H1 _ ρ1 s1 S1 ⟨_, _, _, walk_range, (rangeD_len lo (n - lo).toNat).symm, fun _ _ _ => trivial, fun M' H' i x H'' s m hi y => ?_⟩ f⟩
    obtain ⟨e1, e2⟩ := y
    subst e1 e2
    exact ⟨Same.refl _, _, rangeD_at hi, .int _⟩
def signs (z : Str) : List Dt := z.cps.toList.map fun c => .str ⟨#[c]⟩
theorem wi_str (h : Wp K pf te ρ fun d ρ1 => ∃ z, d = .str z ∧ Ψ (signs z) ρ1) : WI K pf (iStr te) ρ Ψ := fun M σ H S R q =>
  h M σ H S _ fun v H1 d ρ1 s1 S1 x1 ⟨z, e, f⟩ => by
    subst e
    refine ⟨z, x1.str_eq, q _ H1 _ ρ1 s1 S1 ⟨_, _, _, walk_str, by unfold signs; rw [List.length_map, Array.length_toList], fun _ _ _ => trivial, fun M' H' i x H'' s m hi y => ?_⟩ f⟩
    obtain ⟨e1, c, e2, e3⟩ := y
    subst e1 e3
    refine ⟨Same.refl _, _, ?_, .str _⟩
    unfold signs
    rw [List.getElem?_map, Array.getElem?_toList, e2]
    rfl

/-! for -/
theorem for_at (I : List Dt → Nat → List Sl → Prop) (M : Md) (σ : L2.St) (H : Hp) (h : ∀ R : It → Hp → Prop, (∀ J H1 ds ρ1, Tr pf M H H1 → Sd K M H1 σ ρ1 → WkOk K M H1 J ds → (I ds 0 ρ1 ∧ (∀ i d ρ2, ds[i]? = some d → I ds i ρ2 → WG K g js d ρ2 fun ρ3 => Ws K t ρ3 { D with nx := I ds (i + 1), ct := I ds (i + 1), bk := D.nx }) ∧
    ∀ ρ2, I ds ds.length ρ2 → D.nx ρ2) → R J H1) → wi σ H R) (E : Ends) (k : EOk K M H E D) : tFor wi g t E σ H :=
  h _ fun J H1 ds ρ1 s1 S1 ⟨n, G, Y, w, hn, hG, hY⟩ ⟨i0, turn, fin⟩ => by
    subst hn
    refine for_it w (fun i σ' H' => ∃ M' ρ', Stp M H1 M' H' ∧ Sd K M' H' σ' ρ' ∧ I ds i ρ') ⟨M, ρ1, Stp.refl M H1, S1, i0⟩ (fun i σ' H' _ ⟨M', ρ', s, _, _⟩ => hG M' H' s.dx) (fun i x σ' H' H'' hi ⟨M', ρ', s, S', f⟩ y => ?_) (fun σ' H' ⟨M', ρ', s, S', f⟩ => k.nx M' σ' H' ρ' (s1.st.trans s) S' (fin ρ' f))
    obtain ⟨e, d, hd, xd⟩ := hY M' H' i x H'' s.dx S'.mok hi y
    refine turn i d ρ' hd f M' σ' H'' x (S'.same e) xd _ fun σ2 ρ2 _ S2 f2 => ?_
    have s2 : Stp M H1 M' H'' := s.trans (Stp.same M' e)
    have k2 := k.step (s1.st.trans s2)
    exact f2 M' σ2 H'' S2 _ ⟨fun M3 σ3 H3 ρ3 s3 S3 z => ⟨M3, ρ3, s2.trans s3, S3, z⟩, k2.rt, fun M3 σ3 H3 ρ3 s3 S3 z => k2.nx M3 σ3 H3 ρ3 s3 S3 z, fun M3 σ3 H3 ρ3 s3 S3 z => ⟨M3, ρ3, s2.trans s3, S3, z⟩, k2.ex⟩

theorem ws_for (I : List Dt → Nat → List Sl → Prop) (h : WI K pf wi ρ fun ds ρ1 => I ds 0 ρ1 ∧ (∀ i d ρ2, ds[i]? = some d → I ds i ρ2 → WG K g js d ρ2 fun ρ3 => Ws K t ρ3 { D with nx := I ds (i + 1), ct := I ds (i + 1), bk := D.nx }) ∧
    ∀ ρ2, I ds ds.length ρ2 → D.nx ρ2) : Ws K (tFor wi g t) ρ D := fun M σ H S E k => for_at I M σ H (h M σ H S) E k

/-! comprehensions -/
def wipeS (ρ : List Sl) : List Nat → List Sl
  | [] => ρ
  | v :: vs => (wipeS ρ vs).set v .any
theorem wipeS_len (ρ : List Sl) : ∀ vs : List Nat, (wipeS ρ vs).length = ρ.length
  | [] => rfl
  | v :: vs => by unfold wipeS; rw [List.length_set, wipeS_len ρ vs]
theorem wipeS_at {ρ : List Sl} {s : Sl} : ∀ {vs : List Nat} {i : Nat}, (wipeS ρ vs)[i]? = some s → s = .any ∨ (i ∉ vs ∧ ρ[i]? = some s)
  | [], i, h => .inr ⟨(fun z => nomatch z), h⟩
  | v :: vs, i, h => by
    have h : ((wipeS ρ vs).set v .any)[i]? = some s := h
    by_cases e : v = i
    · subst e
      by_cases hv : v < (wipeS ρ vs).length
      · rw [List.getElem?_set_self hv] at h
        exact .inl (Option.some.inj h).symm
      · rw [List.getElem?_eq_none (by rw [List.length_set]; omega)] at h; cases h
    · rw [List.getElem?_set_ne e] at h
      rcases wipeS_at h with z | ⟨z, y⟩
      · exact .inl z
      · refine .inr ⟨fun m => ?_, y⟩
        rcases List.mem_cons.mp m with m | m
        · exact e m.symm
        · exact z m
theorem wipe_at {σ : L2.St} : ∀ {vs : List Nat} {i : Nat}, i ∉ vs → (wipe σ vs)[i]? = σ[i]?
  | [], _, _ => rfl
  | v :: vs, i, h => by
    show ((wipe σ vs).set v none)[i]? = _
    rw [List.getElem?_set_ne (fun e => h (by rw [e]; exact List.mem_cons_self)), wipe_at fun z => h (List.mem_cons_of_mem _ z)]
theorem Sd.wipe {M : Md} {H : Hp} {σ : L2.St} (S : Sd K M H σ ρ) (vs : List Nat) : Sd K M H (L2.wipe σ vs) (wipeS ρ vs) := by
  refine ⟨by rw [wipe_length, wipeS_len]; exact S.len, by rw [wipeS_len]; exact S.olen, S.mok, fun i s h => ?_⟩
  rcases wipeS_at h with e | ⟨e, h⟩
  · subst e
    have hi : i < (L2.wipe σ vs).length := by rw [wipe_length, S.len, ← wipeS_len ρ vs]; exact (List.getElem?_eq_some_iff.mp h).1
    exact ⟨_, List.getElem?_eq_getElem hi, trivial⟩
  · obtain ⟨o, h1, h2⟩ := S.ok i s h
    exact ⟨o, by rw [wipe_at e]; exact h1, h2⟩
theorem Sd.unwipe {M : Md} {H : Hp} {σ : L2.St} {vs : List Nat} {ρ0 : List Sl} (S : Sd K M H (L2.wipe σ vs) (wipeS ρ0 vs)) : Sd K M H σ (wipeS ρ0 vs) := by
  refine ⟨by rw [← wipe_length σ vs]; exact S.len, S.olen, S.mok, fun i s h => ?_⟩
  rcases wipeS_at h with e | ⟨e, _⟩
  · subst e
    have hi : i < σ.length := by rw [← wipe_length σ vs, S.len]; exact (List.getElem?_eq_some_iff.mp h).1
    exact ⟨_, List.getElem?_eq_getElem hi, trivial⟩
  · obtain ⟨o, h1, h2⟩ := S.ok i s h
    exact ⟨o, by rw [← wipe_at (σ := σ) e]; exact h1, h2⟩
theorem Sd.back {M : Md} {H : Hp} {σ : L2.St} {q : Addr} (S : Sd K { M with F := q :: M.F } H σ ρ) : Sd K M H σ ρ := by
  have has : ∀ a, M.has a → ({ M with F := q :: M.F } : Md).has a := fun a h => by
    rcases h with h | h | h
    · exact .inl h
    · exact .inr (.inl (List.mem_cons_of_mem _ h))
    · exact .inr (.inr h)
  have sc : Same (cut { M with F := q :: M.F } H) (cut M H) := cut_le has
  refine ⟨S.len, S.olen, ⟨fun a h => S.mok.live a (has a h), fun a h => ⟨fun z => (S.mok.pF a h).1 (List.mem_cons_of_mem _ z), (S.mok.pF a h).2⟩, fun a h => S.mok.FO a (List.mem_cons_of_mem _ h), S.mok.nd, S.mok.tbU rfl (fun _ _ _ z => z) sc⟩, fun j s h => ?_⟩
  obtain ⟨o, h1, h2⟩ := S.ok j s h
  refine ⟨o, h1, ?_⟩
  cases s with
  | any => trivial
  | dat d => obtain ⟨v, a1, a2⟩ := h2; exact ⟨v, a1, a2.mono sc⟩
  | val u d => obtain ⟨a1, a2⟩ := h2; exact ⟨a1, a2.mono sc⟩
  | own es => obtain ⟨l', ws', a1, a2, a3, a4⟩ := h2; exact ⟨l', ws', a1, a2, a3, a4.mono sc⟩
  | obj C0 b0 ns0 es => obtain ⟨l', dx0, ws', a1, a2, a3, a5, a4⟩ := h2; exact ⟨l', dx0, ws', a1, a2, a3, a5, a4.mono sc⟩
  | ownd es => obtain ⟨l', ws', a1, a2, a3, a4⟩ := h2; exact ⟨l', ws', a1, a2, a3, a4.mono sc⟩
  | pen m => obtain ⟨p', a1, a2, l', ns, c, g, b1, b2, b3⟩ := h2; exact ⟨p', a1, a2, l', ns, c, g, b1, sc.seq b2, b3⟩
  | pown es => obtain ⟨p', ws', a1, a2, a3, a4⟩ := h2; exact ⟨p', ws', a1, a2, a3, a4.mono sc⟩
/-- the heap at q may be written while q is set aside -/
theorem Sd.poke {M : Md} {H : Hp} {σ : L2.St} {q : Addr} {o : HO} (S : Sd K { M with F := q :: M.F } H σ ρ) : Sd K { M with F := q :: M.F } (upd H q o) σ ρ := by
  have hq : ({ M with F := q :: M.F } : Md).has q := .inr (.inl List.mem_cons_self)
  have sc : Same (cut { M with F := q :: M.F } H) (cut { M with F := q :: M.F } (upd H q o)) := fun a u z => by
    obtain ⟨c, y⟩ := cut_of z
    exact cut_at c (by rw [upd_ne fun n => c (by rw [n]; exact hq)]; exact y)
  refine ⟨S.len, S.olen, ⟨fun a h => ?_, S.mok.pF, S.mok.FO, S.mok.nd, S.mok.tbU rfl (fun a ha _ z => by rw [upd_ne fun n => (S.mok.pF a ha).1 (by rw [n]; exact List.mem_cons_self)]; exact z) sc⟩, fun j s h => ?_⟩
  · by_cases n : a = q
    · exact ⟨_, by rw [n]; exact upd_same⟩
    · obtain ⟨u, z⟩ := S.mok.live a h
      exact ⟨u, by rw [upd_ne n]; exact z⟩
  · obtain ⟨u, h1, h2⟩ := S.ok j s h
    refine ⟨u, h1, ?_⟩
    cases s with
    | any => trivial
    | dat d => obtain ⟨v, a1, a2⟩ := h2; exact ⟨v, a1, a2.mono sc⟩
    | val u d => obtain ⟨a1, a2⟩ := h2; exact ⟨a1, a2.mono sc⟩
    | own es =>
      obtain ⟨l', ws', a1, a2, a3, a4⟩ := h2
      exact ⟨l', ws', a1, a2, by rw [upd_ne fun n => S.mok.FO q List.mem_cons_self (by rw [← n]; exact List.mem_of_getElem? a2)]; exact a3, a4.mono sc⟩
    | obj C0 b0 ns0 es =>
      obtain ⟨l', dx0, ws', a1, a2, a3, a5, a4⟩ := h2
      exact ⟨l', dx0, ws', a1, a2, by rw [upd_ne fun n => S.mok.FO q List.mem_cons_self (by rw [← n]; exact List.mem_of_getElem? a2)]; exact a3, a5, a4.mono sc⟩
    | ownd es =>
      obtain ⟨l', ws', a1, a2, a3, a4⟩ := h2
      exact ⟨l', ws', a1, a2, by rw [upd_ne fun n => S.mok.FO q List.mem_cons_self (by rw [← n]; exact List.mem_of_getElem? a2)]; exact a3, a4.mono sc⟩
    | pen m =>
      obtain ⟨p', a1, a2, l', ns, c, g, b1, b2, b3⟩ := h2
      exact ⟨p', a1, a2, l', ns, c, g, by rw [upd_ne fun n => (S.mok.pp a2).1 (by rw [n]; exact List.mem_cons_self)]; exact b1, sc.seq b2, b3⟩
    | pown es => obtain ⟨p', ws', a1, a2, a3, a4⟩ := h2; exact ⟨p', ws', a1, a2, by rw [upd_ne fun n => (S.mok.pp a2).1 (by rw [n]; exact List.mem_cons_self)]; exact a3, a4.mono sc⟩
/-- the comprehension itself: I by what is walked, the turn, what is made so far, the slots -/
structure LcI (K : PySem.W.Frag) (pf : Bool) (g : TG) (js : List Nat) (tt : TT) (te : TE) (vs : List Nat) (Φ : List Dt → List Sl → Prop) (ds : List Dt) (ρ1 : List Sl) : Prop where
  ex : ∃ I : Nat → List Dt → List Sl → Prop, I 0 [] (wipeS ρ1 vs) ∧ ds.length ≤ 50000 ∧
    (∀ i d acc ρ2, ds[i]? = some d → I i acc ρ2 → WG K g js d ρ2 fun ρ3 => Wt K pf tt ρ3 fun c ρ4 => if c = true then Wp K pf te ρ4 fun y ρ5 => I (i + 1) (acc ++ [y]) (wipeS ρ5 vs) else I (i + 1) acc (wipeS ρ4 vs)) ∧
    ∀ acc ρ2, I ds.length acc ρ2 → Φ acc ρ2
theorem lc_at {vs : List Nat} {Φ : List Dt → List Sl → Prop} (hjs : ∀ j ∈ js, j ∈ vs) (M : Md) (σ : L2.St) (H : Hp) (h : ∀ R : It → Hp → Prop, (∀ J H1 ds ρ1, Tr pf M H H1 → Sd K M H1 σ ρ1 → WkOk K M H1 J ds → LcI K pf g js tt te vs Φ ds ρ1 → R J H1) → wi σ H R) (Q : VK)
    (q : ∀ (q : Addr) (H2 : Hp) (acc : List V) (ads : List Dt) (ρ0 : List Sl), H q = none → Tr pf M H H2 → H2 q = some (.lst acc) → DXs K (cut { M with F := q :: M.F } H2) acc ads →
      Sd K { M with F := q :: M.F } H2 σ (wipeS ρ0 vs) → ¬ M.has q → Φ ads (wipeS ρ0 vs) → Q (.ref q) H2) : tLc wi g tt te vs σ H Q :=
  h _ fun J H1 ds ρ1 s1 S1 ⟨n, G, Y, w, hn, hG, hY⟩ ⟨I, i0, hz, turn, fin⟩ => by
    intro q0 hq
    subst hn
    have nq := S1.mok.new hq
    have hq0 : H q0 = none := by
      cases e : H q0 with
      | none => rfl
      | some o =>
        obtain ⟨z, _⟩ := s1.st.keep q0 o e (fun y => nq (.inl y)) (fun y => nq (.inr (.inr y)))
        rw [hq] at z; cases z
    have comp : ∀ {H' H'' : Hp}, Tr pf M H1 H' → Tr pf { M with F := q0 :: M.F } H' H'' → Tr pf M H1 H'' := fun a b =>
      ⟨⟨rfl, rfl, fun x o e c d => let ⟨z, y⟩ := a.st.keep x o e c d; b.st.keep x o z c y⟩, fun y => (a.sm y).trans (b.sm y)⟩
    have put : ∀ {H' : Hp} {o : HO}, Tr pf M H1 H' → Tr pf M H1 (upd H' q0 o) := fun a =>
      ⟨⟨rfl, rfl, fun x o e c d => let ⟨z, y⟩ := a.st.keep x o e c d; ⟨by rw [upd_ne (ne_of_none e hq)]; exact z, y⟩⟩, fun y x o e => by rw [upd_ne (ne_of_none e hq)]; exact a.sm y x o e⟩
    have scut : ∀ {H' : Hp}, Tr pf M H1 H' → Same (cut M H1) (cut { M with F := q0 :: M.F } H') := fun a x o e => by
      obtain ⟨c, z⟩ := cut_of e
      obtain ⟨y, _⟩ := a.st.keep x o z (fun t => c (.inl t)) (fun t => c (.inr (.inr t)))
      refine cut_at (fun t => ?_) y
      rcases t with t | t | t
      · exact c (.inl t)
      · rcases List.mem_cons.mp t with t | t
        · exact ne_of_none z hq t
        · exact c (.inr (.inl t))
      · exact c (.inr (.inr t))
    refine lc_it w (fun i H' => ∃ acc ads ρ0, H' q0 = some (.lst acc) ∧ Tr pf M H1 H' ∧ Sd K { M with F := q0 :: M.F } H' (L2.wipe σ vs) (wipeS ρ0 vs) ∧ DXs K (cut { M with F := q0 :: M.F } H') acc ads ∧ I i ads (wipeS ρ0 vs) ∧ ads.length ≤ i) ?_ ?_ ?_ ?_
    · exact ⟨[], [], ρ1, upd_same, put (Tr.refl pf M H1), (S1.aside hq (same_new hq) upd_same).wipe vs, .nil, i0, Nat.zero_le _⟩
    · rintro i H' _ ⟨acc, ads, ρ0, _, tr, _⟩
      exact hG _ H' (scut tr)
    · rintro i x H' H'' hi ⟨acc, ads, ρ0, hD, tr, S', xa, f, hl⟩ y
      obtain ⟨e, d, hd, xd⟩ := hY _ H' i x H'' (scut tr) S'.mok hi y
      refine turn i d ads _ hd f _ _ H'' x (S'.same e) xd _ fun σ2 ρ2 w2 S2 f2 => ⟨by rw [w2 vs hjs, wipe_wipe], ?_⟩
      have tr2 : Tr pf M H1 H'' := comp tr (Tr.same pf _ e)
      have w3 : L2.wipe σ2 vs = L2.wipe σ vs := by rw [w2 vs hjs, wipe_wipe]
      refine f2 _ σ2 H'' S2 _ fun b H3 ρ3 s3 S3 f3 => ?_
      have tr3 := comp tr2 s3
      cases b with
      | true =>
        rw [if_pos rfl] at f3 ⊢
        refine f3 _ σ2 H3 S3 _ fun v H4 d4 ρ4 s4 S4 x4 f4 => ?_
        have tr4 := comp tr3 s4
        have kq : ∀ {Ha Hb : Hp} {o : HO}, Tr pf { M with F := q0 :: M.F } Ha Hb → Ha q0 = some o → Hb q0 = some o := fun a z => (a.st.keep q0 _ z (fun t => nq (.inl t)) (fun t => nq (.inr (.inr t)))).1
        refine ⟨acc, kq s4 (kq s3 (e _ _ hD)), ?_, acc ++ [v], ads ++ [d4], ρ4, upd_same, put tr4, ?_, ?_, f4, ?_⟩
        · rw [xa.len]; exact Nat.lt_of_le_of_lt hl (Nat.lt_of_lt_of_le hi (Nat.le_trans hz (by decide)))
        · rw [← w3]; exact (S4.wipe vs).poke
        · have pk : Same (cut { M with F := q0 :: M.F } H4) (cut { M with F := q0 :: M.F } (upd H4 q0 (.lst (acc ++ [v])))) := fun a u z => by
            obtain ⟨c, y⟩ := cut_of z
            exact cut_at c (by rw [upd_ne fun n => c (.inr (.inl (by rw [n]; exact List.mem_cons_self)))]; exact y)
          exact (((xa.mono (cut_same _ e)).mono s3.dx).mono s4.dx |>.append (.one x4)).mono pk
        · rw [List.length_append, List.length_singleton]; omega
      | false =>
        rw [if_neg Bool.false_ne_true] at f3 ⊢
        have kq : ∀ {Ha Hb : Hp} {o : HO}, Tr pf { M with F := q0 :: M.F } Ha Hb → Ha q0 = some o → Hb q0 = some o := fun a z => (a.st.keep q0 _ z (fun t => nq (.inl t)) (fun t => nq (.inr (.inr t)))).1
        exact ⟨acc, ads, ρ3, kq s3 (e _ _ hD), tr3, by rw [← w3]; exact S3.wipe vs, (xa.mono (cut_same _ e)).mono s3.dx, f3, Nat.le_succ_of_le hl⟩
    · rintro H' ⟨acc, ads, ρ0, hD, tr, S', xa, f, hl⟩
      exact q q0 H' acc ads ρ0 hq0 (s1.trans tr) hD xa S'.unwipe nq (fin ads _ f)
theorem lc_run {vs : List Nat} {Φ : List Dt → List Sl → Prop} (hjs : ∀ j ∈ js, j ∈ vs) (h : WI K pf wi ρ fun ds ρ1 => LcI K pf g js tt te vs Φ ds ρ1) (M : Md) (σ : L2.St) (H : Hp) (S : Sd K M H σ ρ) (Q : VK)
    (q : ∀ (q : Addr) (H2 : Hp) (acc : List V) (ads : List Dt) (ρ0 : List Sl), H q = none → Tr pf M H H2 → H2 q = some (.lst acc) → DXs K (cut { M with F := q :: M.F } H2) acc ads →
      Sd K { M with F := q :: M.F } H2 σ (wipeS ρ0 vs) → ¬ M.has q → Φ ads (wipeS ρ0 vs) → Q (.ref q) H2) : tLc wi g tt te vs σ H Q := lc_at hjs M σ H (h M σ H S) Q q
theorem has_aside {M : Md} {q : Addr} : ∀ a, M.has a → ({ M with F := q :: M.F } : Md).has a := fun a h => by
  rcases h with h | h | h
  · exact .inl h
  · exact .inr (.inl (List.mem_cons_of_mem _ h))
  · exact .inr (.inr h)
theorem w_lc {vs : List Nat} (hjs : ∀ j ∈ js, j ∈ vs) (h : WI K pf wi ρ fun ds ρ1 => LcI K pf g js tt te vs (fun es ρ' => Φ (.lst es) ρ') ds ρ1) : Wp K pf (tLc wi g tt te vs) ρ Φ := fun M σ H S Q q =>
  lc_run hjs h M σ H S Q fun q0 H2 acc ads ρ0 h0 tr hD xa S2 nq f => q (.ref q0) H2 (.lst ads) _ tr S2.back (.lst (.inl (.inl (cut_at nq hD))) (xa.mono (cut_le has_aside))) f
theorem ws_ownlc {vs : List Nat} (hjs : ∀ j ∈ js, j ∈ vs) (hi : i < ρ.length) (h : WI K pf wi ρ fun ds ρ1 => LcI K pf g js tt te vs (fun es ρ' => i < ρ'.length ∧ D.nx (ρ'.set i (.own es))) ds ρ1) : Ws K (tAsg (tLc wi g tt te vs) (gName i)) ρ D := fun M σ H S E k =>
  lc_run hjs h M σ H S _ fun q0 H2 acc ads ρ0 h0 tr hD xa S2 nq ⟨hl, f⟩ => by
    refine k.nx { M with O := M.O.set i (some q0) } _ H2 _ ⟨rfl, rfl, fun a o z c d => ?_⟩ (S2.back.own hl nq hD xa S2) f
    obtain ⟨z1, z2⟩ := tr.st.keep a o z c d
    refine ⟨z1, fun y => ?_⟩
    rcases List.mem_or_eq_of_mem_set y with y | y
    · exact d y
    · exact ne_of_none z h0 (Option.some.inj y)
end
end DL

/-! Data level: operators, subscripts, slices, built-ins. -/
namespace DL
open PySem PySem.Spec PyProof.Rows L2
variable [Tb]

section
variable {K : PySem.W.Frag} {Ψ : Dt → Prop} {d1 d2 : Dt} {i j : Int} {x y : Str} {a b : Bool}
/-! numbers -/
theorem od_I0i {g : Int → Int → Int} (h : Ψ (.int (g i j))) : OD K (rI0 fun i j => .int (g i j)) (.int i) (.int j) Ψ := fun M H u v m h1 h2 Q q =>
  ⟨i, j, h1.int_eq, h2.int_eq, q _ H _ (Same.refl H) (.int _) h⟩
theorem od_I0b {g : Int → Int → Bool} (h : Ψ (.bl (g i j))) : OD K (rI0 fun i j => .bl (g i j)) (.int i) (.int j) Ψ := fun M H u v m h1 h2 Q q =>
  ⟨i, j, h1.int_eq, h2.int_eq, q _ H _ (Same.refl H) (.bl _) h⟩
theorem od_I {C : Int → Int → Prop} {g : Int → Int → Int} (c : C i j) (h : Ψ (.int (g i j))) : OD K (rI C fun i j => .int (g i j)) (.int i) (.int j) Ψ := fun M H u v m h1 h2 Q q =>
  ⟨i, j, h1.int_eq, h2.int_eq, c, q _ H _ (Same.refl H) (.int _) h⟩
theorem ud_U {g : Int → Int} (h : Ψ (.int (g i))) : UD K (rU fun i => .int (g i)) (.int i) Ψ := fun M H u m h1 Q q => ⟨i, h1.int_eq, q _ H _ (Same.refl H) (.int _) h⟩
/-! texts -/
theorem od_SSb {g : Str → Str → Bool} (h : Ψ (.bl (g x y))) : OD K (fun u v H Q => ∃ i j, u = .str i ∧ v = .str j ∧ Q (.bl (g i j)) H) (.str x) (.str y) Ψ := fun M H u v m h1 h2 Q q =>
  ⟨x, y, h1.str_eq, h2.str_eq, q _ H _ (Same.refl H) (.bl _) h⟩
theorem od_cat_str (hl : x.length + y.length ≤ sizeLine) (h : Ψ (.str (x ++ y))) : OD K (fun u v H Q => ∃ i j, u = .str i ∧ v = .str j ∧ i.length + j.length ≤ sizeLine ∧ Q (.str (i ++ j)) H) (.str x) (.str y) Ψ := fun M H u v m h1 h2 Q q =>
  ⟨x, y, h1.str_eq, h2.str_eq, hl, q _ H _ (Same.refl H) (.str _) h⟩
/-! == and != of scalars -/
theorem od_eqi (h : Ψ (.bl (decide (i = j)))) : OD K rEq (.int i) (.int j) Ψ := fun M H u v m h1 h2 Q q => by
  rw [h1.int_eq, h2.int_eq]
  have e : decide (V.int i = V.int j) = decide (i = j) := decide_eq_decide.mpr ⟨fun z => V.int.inj z, fun z => by rw [z]⟩
  exact ⟨rfl, by rw [e]; exact q _ H _ (Same.refl H) (.bl _) h⟩
theorem od_nei (h : Ψ (.bl (!decide (i = j)))) : OD K rNe (.int i) (.int j) Ψ := fun M H u v m h1 h2 Q q => by
  rw [h1.int_eq, h2.int_eq]
  have e : decide (V.int i = V.int j) = decide (i = j) := decide_eq_decide.mpr ⟨fun z => V.int.inj z, fun z => by rw [z]⟩
  exact ⟨rfl, by rw [e]; exact q _ H _ (Same.refl H) (.bl _) h⟩
theorem od_eqs (h : Ψ (.bl (decide (x = y)))) : OD K rEq (.str x) (.str y) Ψ := fun M H u v m h1 h2 Q q => by
  rw [h1.str_eq, h2.str_eq]
  have e : decide (V.str x = V.str y) = decide (x = y) := decide_eq_decide.mpr ⟨fun z => V.str.inj z, fun z => by rw [z]⟩
  exact ⟨rfl, by rw [e]; exact q _ H _ (Same.refl H) (.bl _) h⟩
theorem od_nes (h : Ψ (.bl (!decide (x = y)))) : OD K rNe (.str x) (.str y) Ψ := fun M H u v m h1 h2 Q q => by
  rw [h1.str_eq, h2.str_eq]
  have e : decide (V.str x = V.str y) = decide (x = y) := decide_eq_decide.mpr ⟨fun z => V.str.inj z, fun z => by rw [z]⟩
  exact ⟨rfl, by rw [e]; exact q _ H _ (Same.refl H) (.bl _) h⟩
theorem od_eqb (h : Ψ (.bl (decide (a = b)))) : OD K rEq (.bl a) (.bl b) Ψ := fun M H u v m h1 h2 Q q => by
  rw [h1.bl_eq, h2.bl_eq]
  have e : decide (V.bl a = V.bl b) = decide (a = b) := decide_eq_decide.mpr ⟨fun z => V.bl.inj z, fun z => by rw [z]⟩
  exact ⟨rfl, by rw [e]; exact q _ H _ (Same.refl H) (.bl _) h⟩
/-! is None -/
def isNon : Dt → Bool
  | .non => true
  | _ => false
theorem isNon_of {M : Hp} {v : V} {d : Dt} (h : DX K M v d) : decide (v = V.non) = isNon d := by
  cases h <;> rfl
theorem od_isN (h : Ψ (.bl (isNon d1))) : OD K (fun x y H Q => y = .non ∧ Q (.bl (decide (x = .non))) H) d1 .non Ψ := fun M H u v m h1 h2 Q q =>
  ⟨h2.non_eq, by rw [isNon_of h1]; exact q _ H _ (Same.refl H) (.bl _) h⟩
theorem od_notN (h : Ψ (.bl (!isNon d1))) : OD K (fun x y H Q => y = .non ∧ Q (.bl (!decide (x = .non))) H) d1 .non Ψ := fun M H u v m h1 h2 Q q =>
  ⟨h2.non_eq, by rw [isNon_of h1]; exact q _ H _ (Same.refl H) (.bl _) h⟩
end

/-! ### subscripts -/
section
variable {K : PySem.W.Frag} {Ψ : Dt → Prop} {d : Dt} {ds es : List Dt} {i : Int} {z : Str}
theorem DXs.atI {H : Hp} {vs : List V} (h : DXs K H vs ds) (e : L2.atI ds i = some d) : ∃ v, L2.atI vs i = some v ∧ DX K H v d := by
  unfold L2.atI at e ⊢
  rw [h.len]
  cases c : ixN ds.length i with
  | none => rw [c] at e; cases e
  | some j =>
    rw [c] at e
    exact h.getd e
theorem od_ixL (e : L2.atI ds i = some d) (h : Ψ d) : OD K (rIxL K) (.lst ds) (.int i) Ψ := fun M H u v m h1 h2 Q q => by
  cases h1 with
  | lst hs ha =>
    obtain ⟨w, e1, x⟩ := ha.atI e
    exact ⟨_, _, i, w, rfl, h2.int_eq, (cut_sub M H).seq hs, e1, q w H d (Same.refl H) x h⟩
theorem od_ixT (e : L2.atI ds i = some d) (h : Ψ d) : OD K (rIxT K) (.tup ds) (.int i) Ψ := fun M H u v m h1 h2 Q q => by
  cases h1 with
  | tup hs ha =>
    obtain ⟨w, e1, x⟩ := ha.atI e
    exact ⟨_, _, i, w, rfl, h2.int_eq, same_T (cut_sub M H) hs, e1, q w H d (Same.refl H) x h⟩
theorem od_ixS {c : Nat} (hz : z.length ≤ sizeLine) (e : L2.atI z.cps.toList i = some c) (h : Ψ (.str ⟨#[c]⟩)) : OD K rIxS (.str z) (.int i) Ψ := fun M H u v m h1 h2 Q q =>
  ⟨z, i, c, h1.str_eq, h2.int_eq, hz, e, q _ H _ (Same.refl H) (.str _) h⟩
/-- whatever kind of sequence -/
def seqD : Dt → Option (List Dt)
  | .lst ds => some ds
  | .tup ds => some ds
  | _ => none
theorem od_ix {d0 : Dt} (hs : seqD d0 = some ds) (e : L2.atI ds i = some d) (h : Ψ d) : OD K (rIx K) d0 (.int i) Ψ := fun M H u v m h1 h2 Q q => by
  cases d0 with
  | lst es => cases hs; exact .inl (od_ixL e h M H u v m h1 h2 Q q)
  | tup es => cases hs; exact .inr (.inl (od_ixT e h M H u v m h1 h2 Q q))
  | _ => cases hs
theorem od_ixs {c : Nat} (hz : z.length ≤ sizeLine) (e : L2.atI z.cps.toList i = some c) (h : Ψ (.str ⟨#[c]⟩)) : OD K (rIx K) (.str z) (.int i) Ψ := fun M H u v m h1 h2 Q q =>
  .inr (.inr (od_ixS hz e h M H u v m h1 h2 Q q))
theorem atI_nat' {α : Type} {xs : List α} {j : Nat} {v : α} (h : xs[j]? = some v) : L2.atI xs (j : Int) = some v := atI_nat h

/-! ### slices -/
def Wo (K : PySem.W.Frag) (f : Bool) (to : TO) (ρ : List Sl) (Φ : Option Int → List Sl → Prop) : Prop :=
  ∀ (M : Md) (σ : L2.St) (H : Hp), Sd K M H σ ρ → ∀ Q : Option Int → Hp → Prop, (∀ o H2 ρ', Tr f M H H2 → Sd K M H2 σ ρ' → Φ o ρ' → Q o H2) → to σ H Q
variable {pf : Bool} {ρ : List Sl} {Φ : Dt → List Sl → Prop} {te tx : TE} {tl th : TO}
theorem wo_none {Ω : Option Int → List Sl → Prop} (h : Ω none ρ) : Wo K pf tNoPart ρ Ω := fun M σ H S Q q => q none H ρ (Tr.refl pf M H) S h
theorem wo_some {Ω : Option Int → List Sl → Prop} (h : Wp K pf te ρ fun d ρ1 => ∃ i, d = .int i ∧ Ω (some i) ρ1) : Wo K pf (tPart te) ρ Ω := fun M σ H S Q q =>
  h M σ H S _ fun v H1 d ρ1 s1 S1 x1 ⟨i, e, f⟩ => by subst e; exact ⟨i, x1.int_eq, q (some i) H1 ρ1 s1 S1 f⟩
def SlD (K : PySem.W.Frag) (r : V → Option Int → Option Int → Hp → VK → Prop) (d : Dt) (lo hi : Option Int) (Ψ : Dt → Prop) : Prop :=
  ∀ (M : Md) (H : Hp) (x : V), MOk M H → DX K (cut M H) x d → ∀ Q : VK, (∀ v H2 d, Same H H2 → DX K (cut M H2) v d → Ψ d → Q v H2) → r x lo hi H Q
theorem w_sl {r : V → Option Int → Option Int → Hp → VK → Prop} (h : Wp K pf tx ρ fun d ρ1 => Wo K pf tl ρ1 fun lo ρ2 => Wo K pf th ρ2 fun hi ρ3 => SlD K r d lo hi fun e => Φ e ρ3) : Wp K pf (tSl r tx tl th) ρ Φ := fun M σ H S Q q =>
  h M σ H S _ fun v1 H1 d1 ρ1 s1 S1 x1 k1 => k1 M σ H1 S1 _ fun lo H2 ρ2 s2 S2 k2 => k2 M σ H2 S2 _ fun hi H3 ρ3 s3 S3 k3 =>
    k3 M H3 v1 S3.mok ((x1.mono s2.dx).mono s3.dx) _ fun v H4 d e x f => q v H4 d ρ3 (((s1.trans s2).trans s3).trans (Tr.same pf M e)) (S3.same e) x f
def cutD (ds : List Dt) (lo hi : Option Int) : List Dt := (ds.drop (HT.sIx ds.length 0 lo)).take (HT.sIx ds.length ds.length hi - HT.sIx ds.length 0 lo)
theorem DXs.cutV {H : Hp} {vs : List V} (h : DXs K H vs ds) (lo hi : Option Int) : DXs K H (L2.cutV vs lo hi) (cutD ds lo hi) := by
  unfold L2.cutV cutD
  rw [h.len]
  exact (h.drop _).take _
theorem sd_list {lo hi : Option Int} (h : Ψ (.lst (cutD ds lo hi))) : SlD K (rSlL K) (.lst ds) lo hi Ψ := fun M H x m h1 Q q => by
  cases h1 with
  | lst hs ha => exact ⟨_, _, rfl, (cut_sub M H).seq hs, fun p hp => q _ _ _ (same_new hp) (dx_new_l m hp (ha.cutV lo hi)) h⟩
theorem sd_tup {lo hi : Option Int} (h : Ψ (.tup (cutD ds lo hi))) : SlD K (rSlA K) (.tup ds) lo hi Ψ := fun M H x m h1 Q q => by
  cases h1 with
  | tup hs ha =>
    refine ⟨_, _, rfl, same_T (cut_sub M H) hs, fun hw => ?_, fun hw p hp => q _ _ _ (same_new hp) (dx_new_t m hp (ha.cutV lo hi)) h⟩
    have e : cutD ds lo hi = ds := by
      rw [ha.len] at hw
      unfold cutD
      rw [hw.1, hw.2]
      simp
    rw [e] at h
    exact q _ H _ (Same.refl H) (.tup hs ha) h
theorem sd_str {lo hi : Option Int} (hz : z.length ≤ sizeLine) (h : Ψ (.str (cutS z lo hi))) : SlD K rSlS (.str z) lo hi Ψ := fun M H x m h1 Q q =>
  ⟨z, h1.str_eq, hz, q _ H _ (Same.refl H) (.str _) h⟩
theorem cutD_to {n : Nat} (k : Nat) (h : n = k) : cutD ds none (some (n : Int)) = ds.take k := by
  subst h
  unfold cutD
  rw [HT.sIx_none, HT.sIx_nat, List.drop_zero, Nat.sub_zero]
  by_cases c : n ≤ ds.length
  · rw [Nat.min_eq_left c]
  · rw [Nat.min_eq_right (by omega), List.take_of_length_le (Nat.le_refl _), List.take_of_length_le (by omega)]
end

/-! ### built-ins -/
section
variable {K : PySem.W.Frag} {Ψ : Dt → Prop} {d : Dt} {ds es : List Dt} {i : Int} {z : Str}
theorem one_v {H : Hp} {vs : List V} (h : DXs K H vs [d]) : ∃ v, vs = [v] ∧ DX K H v d := by
  cases h with
  | cons h1 h2 => cases h2; exact ⟨_, rfl, h1⟩
theorem two_v {H : Hp} {vs : List V} {e : Dt} (h : DXs K H vs [d, e]) : ∃ v w, vs = [v, w] ∧ DX K H v d ∧ DX K H w e := by
  cases h with
  | cons h1 h2 => cases h2 with
    | cons h3 h4 => cases h4; exact ⟨_, _, rfl, h1, h3⟩
theorem rd_abs (h : Ψ (.int (if i < 0 then -i else i))) : RD K (fun xs H Q => ∃ i, xs = [.int i] ∧ Q (.int (if i < 0 then -i else i)) H) [.int i] Ψ := fun M H vs m xx Q q => by
  obtain ⟨v, rfl, x⟩ := one_v xx
  exact ⟨i, by rw [x.int_eq], q _ H _ (Same.refl H) (.int _) h⟩
theorem rd_int (h : Ψ (.int i)) : RD K (fun xs H Q => (∃ i, xs = [.int i] ∧ Q (.int i) H) ∨ ∃ k, xs = [.bl k] ∧ Q (.int (if k then 1 else 0)) H) [.int i] Ψ := fun M H vs m xx Q q => by
  obtain ⟨v, rfl, x⟩ := one_v xx
  exact .inl ⟨i, by rw [x.int_eq], q _ H _ (Same.refl H) (.int _) h⟩
theorem rd_intb {b : Bool} (h : Ψ (.int (if b then 1 else 0))) : RD K (fun xs H Q => (∃ i, xs = [.int i] ∧ Q (.int i) H) ∨ ∃ k, xs = [.bl k] ∧ Q (.int (if k then 1 else 0)) H) [.bl b] Ψ := fun M H vs m xx Q q => by
  obtain ⟨v, rfl, x⟩ := one_v xx
  exact .inr ⟨b, by rw [x.bl_eq], q _ H _ (Same.refl H) (.int _) h⟩
def lenD : Dt → Option Nat
  | .lst ds => some ds.length
  | .tup ds => some ds.length
  | .str z => if z.length ≤ sizeLine then some z.length else none
  | _ => none
theorem rd_len {n : Nat} (hn : lenD d = some n) (h : Ψ (.int n)) : RD K (fun xs H Q => ∃ x n, xs = [x] ∧ LenV K x H n ∧ Q (.int n) H) [d] Ψ := fun M H vs m xx Q q => by
  obtain ⟨v, rfl, x⟩ := one_v xx
  refine ⟨v, n, rfl, ?_, q _ H _ (Same.refl H) (.int _) h⟩
  cases x with
  | lst hs ha => exact .inl ⟨_, (cut_sub M H).seq hs, by rw [ha.len]; exact (Option.some.inj hn).symm⟩
  | tup hs ha => exact .inr ⟨_, same_T (cut_sub M H) hs, by rw [ha.len]; exact (Option.some.inj hn).symm⟩
  | str z =>
    have hn : (if z.length ≤ sizeLine then some z.length else none) = some n := hn
    by_cases c : z.length ≤ sizeLine
    · rw [if_pos c] at hn
      exact ⟨c, (Option.some.inj hn).symm⟩
    · rw [if_neg c] at hn; cases hn
  | _ => cases hn
theorem rd_list (hs : seqD d = some ds) (h : Ψ (.lst ds)) : RD K (fun xs H Q => ∃ p ys, xs = [.ref p] ∧ (SqL K H p ys ∨ SqT K H p ys) ∧ ∀ l, H l = none → Q (.ref l) (upd H l (.lst ys))) [d] Ψ := fun M H vs m xx Q q => by
  obtain ⟨v, rfl, x⟩ := one_v xx
  cases x with
  | lst hs' ha => cases hs; exact ⟨_, _, rfl, .inl ((cut_sub M H).seq hs'), fun l hl => q _ _ _ (same_new hl) (dx_new_l m hl ha) h⟩
  | tup hs' ha => cases hs; exact ⟨_, _, rfl, .inr (same_T (cut_sub M H) hs'), fun l hl => q _ _ _ (same_new hl) (dx_new_l m hl ha) h⟩
  | _ => cases hs
theorem rd_tuple (hs : seqD d = some ds) (h : Ψ (.tup ds)) : RD K (fun xs H Q => ∃ p ys, xs = [.ref p] ∧ ((SqL K H p ys ∧ ∀ l, H l = none → Q (.ref l) (upd H l (.tup ys))) ∨ (SqT K H p ys ∧ Q (.ref p) H))) [d] Ψ := fun M H vs m xx Q q => by
  obtain ⟨v, rfl, x⟩ := one_v xx
  cases x with
  | lst hs' ha => cases hs; exact ⟨_, _, rfl, .inl ⟨(cut_sub M H).seq hs', fun l hl => q _ _ _ (same_new hl) (dx_new_t m hl ha) h⟩⟩
  | tup hs' ha => cases hs; exact ⟨_, _, rfl, .inr ⟨same_T (cut_sub M H) hs', q _ H _ (Same.refl H) (.tup hs' ha) h⟩⟩
  | _ => cases hs
theorem rd_all {bs : List Bool} (h : Ψ (.bl (bs.all id))) : RD K (rAll K) [.lst (bs.map Dt.bl)] Ψ := fun M H vs m xx Q q => by
  obtain ⟨v, rfl, x⟩ := one_v xx
  cases x with
  | lst hs ha => rw [ha.bls] at hs; exact ⟨_, bs, rfl, (cut_sub M H).seq hs, q _ H _ (Same.refl H) (.bl _) h⟩
theorem rd_any {bs : List Bool} (h : Ψ (.bl (bs.any id))) : RD K (rAny K) [.lst (bs.map Dt.bl)] Ψ := fun M H vs m xx Q q => by
  obtain ⟨v, rfl, x⟩ := one_v xx
  cases x with
  | lst hs ha => rw [ha.bls] at hs; exact ⟨_, bs, rfl, (cut_sub M H).seq hs, q _ H _ (Same.refl H) (.bl _) h⟩
/-- isinstance of a datum against a built-in class -/
def tyD : Dt → String
  | .non => "NoneType" | .bl _ => "bool" | .int _ => "int" | .str _ => "str" | .lst _ => "list" | .tup _ => "tuple" | .dct _ _ => "dict" | .ty _ => "type" | .ins _ _ _ _ => "object" | .cls _ => "type" | .exc _ _ _ _ => "object"
/-- of a built-in class, no class itself -/
def kitD : Dt → Bool
  | .ty _ | .ins _ _ _ _ | .cls _ | .exc _ _ _ _ => false
  | _ => true
theorem tyX_of {M : Md} {H : Hp} {v : V} (x : DX K (cut M H) v d) (h : kitD d = true) : TyX K H v (.type (tyD d)) := by
  cases x with
  | non => exact .base .non
  | bl b => exact .base (.bl b)
  | int i => exact .base (.int i)
  | str z => exact .base (.str z)
  | ty n => cases h
  | ins _ _ _ => cases h
  | cls _ => cases h
  | exc _ _ _ _ => cases h
  | exc0 _ => cases h
  | lst hs ha =>
    rcases (cut_sub M H).seq hs with (e | ⟨o, e⟩) | ⟨o, _, _, e, c, _⟩
    · exact .base (.lst e)
    · exact .base (.frz e)
    · exact .kList e c
  | tup hs ha =>
    rcases same_T (cut_sub M H) hs with (e | ⟨o, e⟩) | ⟨o, _, _, e, c, _⟩
    · exact .base (.tup e)
    · exact .fTuple e
    · exact .kTuple e c
  | dct hs ha =>
    rcases (cut_Rd hs).2 with e | ⟨o, e⟩
    · exact .base (.dK e)
    · exact .fDict e
theorem rd_isi {c : String} {b : Bool} (hd : kitD d = true) (e : kitB (tyD d) c = some b) (h : Ψ (.bl b)) : RD K (rIsi K) [d, .ty c] Ψ := fun M H vs m xx Q q => by
  obtain ⟨v, w, rfl, x1, x2⟩ := two_v xx
  cases x2
  exact ⟨v, .ty c, _, _, b, rfl, .ty c, tyX_of x1 hd, kit_ty e, q _ H _ (Same.refl H) (.bl _) h⟩
end
end DL

/-! Data level: repr, == of data, in, sets of texts. -/
namespace DL
open PySem PySem.Spec PyProof.Rows L2
variable [Tb]

/-! ### as the library's data -/
mutual
def Dt.py : Dt → PyData
  | .non => .none
  | .bl b => .bool b
  | .int i => .int i
  | .str x => .str x
  | .lst ds => .list (pys ds)
  | .tup ds => .tuple (pys ds)
  | .dct _ kvs => .dict (pyk kvs)
  | .ty n => .none
  | .ins _ _ _ _ => .none
  | .cls _ => .none
  | .exc _ _ _ _ => .none
def pys : List Dt → List PyData
  | [] => []
  | d :: ds => d.py :: pys ds
def pyk : List (Key × Dt) → List (PyData × PyData)
  | [] => []
  | (k, d) :: r => ((match k with | .inl i => PyData.int i | .inr x => .str x), d.py) :: pyk r
end
mutual
/-- data all through: no class in it -/
def Dt.pure : Dt → Bool
  | .non | .bl _ | .int _ | .str _ => true
  | .lst ds => pures ds
  | .tup ds => pures ds
  | .dct _ kvs => purek kvs
  | .ty _ => false
  | .ins _ _ _ _ => false
  | .cls _ => false
  | .exc _ _ _ _ => false
def pures : List Dt → Bool
  | [] => true
  | d :: ds => d.pure && pures ds
def purek : List (Key × Dt) → Bool
  | [] => true
  | (_, d) :: r => d.pure && purek r
end
mutual
/-- .. and no dict -/
def Dt.seqs : Dt → Bool
  | .non | .bl _ | .int _ | .str _ => true
  | .lst ds => seqss ds
  | .tup ds => seqss ds
  | .dct _ _ => false
  | .ty _ => false
  | .ins _ _ _ _ => false
  | .cls _ => false
  | .exc _ _ _ _ => false
def seqss : List Dt → Bool
  | [] => true
  | d :: ds => d.seqs && seqss ds
end
section
variable {K : PySem.W.Frag} {H : Hp}
mutual
theorem DX.dp : ∀ {d : Dt} {v : V}, DX K H v d → d.seqs = true → Dp K H v d.py
  | .non, _, h, _ => by cases h; simp only [Dt.py]; exact .non
  | .bl b, _, h, _ => by cases h; simp only [Dt.py]; exact .bl _
  | .int i, _, h, _ => by cases h; simp only [Dt.py]; exact .int _
  | .str x, _, h, _ => by cases h; simp only [Dt.py]; exact .str _
  | .lst ds, _, h, p => by
    cases h with
    | lst hs ha => simp only [Dt.py]; exact .lst hs (DXs.dp (ds := ds) ha (by simpa only [Dt.seqs] using p))
  | .tup ds, _, h, p => by
    cases h with
    | tup hs ha => simp only [Dt.py]; exact .tup hs (DXs.dp (ds := ds) ha (by simpa only [Dt.seqs] using p))
  | .dct _ _, _, _, p => by simp only [Dt.seqs] at p; cases p
  | .ty _, _, _, p => by simp only [Dt.seqs] at p; cases p
theorem DXs.dp : ∀ {ds : List Dt} {vs : List V}, DXs K H vs ds → seqss ds = true → DpAll K H vs (pys ds)
  | [], _, h, _ => by cases h; simp only [pys]; exact .nil
  | d :: ds, _, h, p => by
    simp only [seqss, Bool.and_eq_true] at p
    cases h with
    | cons h1 h2 => simp only [pys]; exact .cons (DX.dp h1 p.1) (DXs.dp h2 p.2)
end
end

/-! ### reading, dicts too: no dict is that of the modules -/
mutual
inductive Rds (h : Heap) : Value → PyData → Prop
  | none : Rds h .none .none
  | bool (b : Bool) : Rds h (.bool b) (.bool b)
  | int (i : Int) (t : Tok) : Rds h (.int i t) (.int i)
  | str (x : Str) (t : Tok) : Rds h (.str x t) (.str x)
  | list {a : Addr} {o : Obj} {vs : Array Value} {n : Nat} {xs : List PyData} : h.get? a = some o → o.cls = .type "list" → o.data = .seq vs n → RdsAll h vs.toList xs → Rds h (.ref a) (.list xs)
  | tuple {a : Addr} {o : Obj} {vs : Array Value} {n : Nat} {xs : List PyData} : h.get? a = some o → o.cls = .type "tuple" → o.data = .seq vs n → RdsAll h vs.toList xs → Rds h (.ref a) (.tuple xs)
  | dict {a : Addr} {o : Obj} {es : Array DictEntry} {n : Nat} {kvs : List (PyData × PyData)} : h.get? a = some o → o.cls = .type "dict" → o.data = .dict es n → (a == sysModules) = false →
      RdsAll h (es.toList.map (·.key)) (kvs.map (·.1)) → RdsAll h (es.toList.map (·.val)) (kvs.map (·.2)) → Rds h (.ref a) (.dict kvs)
inductive RdsAll (h : Heap) : List Value → List PyData → Prop
  | nil : RdsAll h [] []
  | cons {v : Value} {vs : List Value} {d : PyData} {ds : List PyData} : Rds h v d → RdsAll h vs ds → RdsAll h (v :: vs) (d :: ds)
end
section
variable {h : Heap}
mutual
theorem Rds.reads : ∀ {v : Value} {d : PyData}, Rds h v d → ∃ as, Reads h v d as
  | _, _, .none => ⟨_, .none⟩
  | _, _, .bool b => ⟨_, .bool b⟩
  | _, _, .int i t => ⟨_, .int i t⟩
  | _, _, .str x t => ⟨_, .str x t⟩
  | _, _, .list h1 h2 h3 h4 => let ⟨_, q⟩ := RdsAll.reads h4; ⟨_, .list h1 h2 h3 q⟩
  | _, _, .tuple h1 h2 h3 h4 => let ⟨_, q⟩ := RdsAll.reads h4; ⟨_, .tuple h1 h2 h3 q⟩
  | _, _, .dict h1 h2 h3 _ h4 h5 => let ⟨_, q⟩ := RdsAll.reads h4; let ⟨_, r⟩ := RdsAll.reads h5; ⟨_, .dict h1 h2 h3 q r⟩
theorem RdsAll.reads : ∀ {v : List Value} {d : List PyData}, RdsAll h v d → ∃ as, ReadsAll h v d as
  | _, _, .nil => ⟨_, .nil⟩
  | _, _, .cons h1 h2 => let ⟨_, q⟩ := Rds.reads h1; let ⟨_, r⟩ := RdsAll.reads h2; ⟨_, .cons q r⟩
end
variable {prog : Program} {w : World}
mutual
theorem Rds.reprK : ∀ {v : Value} {d : PyData}, Rds h v d → d.showable = true → d.shown.length ≤ sizeLine → ∃ bs, ReadAtMost h d.depth bs ∧ ReprK prog w bs h d.depth v d.shown
  | _, _, .none, _, _ => ⟨[], (fun _ z => nomatch z), by simp only [PyData.shown]; exact .of_is ReprIs.none _ _ _⟩
  | _, _, .bool b, _, _ => ⟨[], (fun _ z => nomatch z), by simp only [PyData.shown]; exact .of_is (ReprIs.bool b) _ _ _⟩
  | _, _, .int i t, hs, _ => ⟨[], (fun _ z => nomatch z), by simp only [PyData.shown]; exact .of_is (ReprIs.int t (of_decide_eq_true (by simpa only [PyData.showable] using hs))) _ _ _⟩
  | _, _, .str x t, _, hz => ⟨[], (fun _ z => nomatch z), by simp only [PyData.shown] at hz ⊢; exact .of_is (ReprIs.str x t hz) _ _ _⟩
  | _, _, .list (a := a) (vs := vs) (xs := xs) h1 h2 h3 h4, hs, hz => by
    simp only [PyData.shown] at hz
    simp only [PyData.showable] at hs
    obtain ⟨bs, hb, hk⟩ := RdsAll.reprK h4 hs fun t ht => Nat.le_trans (listText_mem_le ht) hz
    obtain ⟨as, hr⟩ := RdsAll.reads h4
    have r : Reads h (.ref a) (.list xs) _ := .list h1 h2 h3 hr
    have lt : PyData.depthAll xs < (PyData.list xs).depth := by simp only [PyData.depth]; omega
    refine ⟨a :: bs, .cons r (Nat.le_of_lt lt) hb, ?_⟩
    simp only [PyData.depth, PyData.shown]
    obtain ⟨l⟩ := vs
    cases l with
    | cons x l => exact .list h1 h2 h3 (not_mem_of_deeper r lt hb) (by simpa using hk.length_eq) fun i y e => hk.item i y (by simpa using e)
    | nil =>
      have hr' : ReadsAll h [] xs _ := hr
      cases hr'
      simp only [PyData.shownAll, listText_nil]
      exact .listEmpty h1 h2 h3
  | _, _, .tuple (a := a) (xs := xs) h1 h2 h3 h4, hs, hz => by
    simp only [PyData.shown] at hz
    simp only [PyData.showable] at hs
    obtain ⟨bs, hb, hk⟩ := RdsAll.reprK h4 hs fun t ht => Nat.le_trans (tupleText_mem_le ht) hz
    obtain ⟨as, hr⟩ := RdsAll.reads h4
    have r : Reads h (.ref a) (.tuple xs) _ := .tuple h1 h2 h3 hr
    have lt : PyData.depthAll xs < (PyData.tuple xs).depth := by simp only [PyData.depth]; omega
    refine ⟨a :: bs, .cons r (Nat.le_of_lt lt) hb, ?_⟩
    simp only [PyData.depth, PyData.shown]
    exact .tuple h1 h2 h3 (not_mem_of_deeper r lt hb) hk
  | _, _, .dict (a := a) (es := es) (kvs := kvs) h1 h2 h3 h0 h4 h5, hs, hz => by
    simp only [PyData.shown] at hz
    simp only [PyData.showable] at hs
    obtain ⟨s1, s2⟩ := PyData.showableKv_split kvs hs
    have big : ∀ {t : Str} {p : Str}, p ∈ PyData.shownKv kvs → t.length ≤ p.length → t.length ≤ sizeLine := fun hp hl => Nat.le_trans hl (Nat.le_trans (dictText_mem_le hp) hz)
    obtain ⟨b1, q1, k1⟩ := RdsAll.reprK h4 s1 fun t ht => let ⟨_, hp, hl⟩ := PyData.shownKv_key_le kvs t ht; big hp hl
    obtain ⟨b2, q2, k2⟩ := RdsAll.reprK h5 s2 fun t ht => let ⟨_, hp, hl⟩ := PyData.shownKv_val_le kvs t ht; big hp hl
    obtain ⟨as, r1⟩ := RdsAll.reads h4
    obtain ⟨cs, r2⟩ := RdsAll.reads h5
    have r : Reads h (.ref a) (.dict kvs) _ := .dict h1 h2 h3 r1 r2
    have lt : PyData.depthKv kvs < (PyData.dict kvs).depth := by simp only [PyData.depth]; omega
    have hb : ReadAtMost h (PyData.depthKv kvs) (b1 ++ b2) := (q1.mono (PyData.depthAll_keys_le kvs)).append (q2.mono (PyData.depthAll_vals_le kvs))
    refine ⟨a :: (b1 ++ b2), .cons r (Nat.le_of_lt lt) hb, ?_⟩
    simp only [PyData.depth, PyData.shown, PyData.shownKv_eq]
    exact .dict h1 h2 h3 h0 (not_mem_of_deeper r lt hb) (.of_two es.toList _ _ (k1.more_le (fun b m => List.mem_append_left _ m) (PyData.depthAll_keys_le kvs)) (k2.more_le (fun b m => List.mem_append_right _ m) (PyData.depthAll_vals_le kvs)))
theorem RdsAll.reprK : ∀ {vs : List Value} {ds : List PyData}, RdsAll h vs ds → PyData.showableAll ds = true → (∀ t ∈ PyData.shownAll ds, t.length ≤ sizeLine) →
    ∃ bs, ReadAtMost h (PyData.depthAll ds) bs ∧ ReprAllK prog w bs h (PyData.depthAll ds) vs (PyData.shownAll ds)
  | _, _, .nil, _, _ => ⟨[], (fun _ z => nomatch z), by simp only [PyData.shownAll]; exact .nil⟩
  | _, _, .cons (d := d) (ds := ds) r rs, hs, hz => by
    simp only [PyData.showableAll, Bool.and_eq_true] at hs
    simp only [PyData.shownAll, List.mem_cons] at hz
    obtain ⟨b1, q1, k1⟩ := Rds.reprK r hs.1 (hz _ (.inl rfl))
    obtain ⟨b2, q2, k2⟩ := RdsAll.reprK rs hs.2 fun t ht => hz t (.inr ht)
    have e : PyData.depthAll (d :: ds) = max d.depth (PyData.depthAll ds) := by simp only [PyData.depthAll]
    rw [e]
    refine ⟨b1 ++ b2, (q1.mono (Nat.le_max_left _ _)).append (q2.mono (Nat.le_max_right _ _)), ?_⟩
    simp only [PyData.shownAll]
    exact .cons ((k1.more fun b m => List.mem_append_left _ m).level_le (Nat.le_max_left _ _)) (k2.more_le (fun b m => List.mem_append_right _ m) (Nat.le_max_right _ _))
end
/-- repr(v) -/
theorem repr_run {v : Value} {d : PyData} {A : Around} {E : Value → Shared → Prop} {s : Shared} {Q : Value → Shared → Prop} (r : Rds s.heap v d) (hs : d.showable = true) (hg : A.guards = some []) (hu : A.units + (d.depth + 1) < cLine)
    (hz : d.shown.length ≤ sizeLine) (hQ : ∀ h' u tk, (∀ b o, s.heap.get? b = some o → h'.get? b = some o) → Q (.str d.shown u) { s with heap := h', toks := tk }) : wpAny (model prog w) A (call (.builtin "repr") [v]) Q E s := by
  have triv : ∀ b o, s.heap.get? b = some o → s.heap.get? b = some o := fun _ _ z => z
  cases r with
  | none => simp only [PyData.shown] at hQ; exact PySem.P.repr_of_none (hQ _ _ _ triv)
  | bool b => simp only [PyData.shown] at hQ; exact PySem.P.repr_of_bool (hQ _ _ _ triv)
  | int i t => simp only [PyData.shown] at hQ; exact PySem.P.repr_of_int (of_decide_eq_true (by simpa only [PyData.showable] using hs)) (hQ _ _ _ triv)
  | str x t => simp only [PyData.shown] at hQ hz; exact PySem.P.repr_of_str (hQ _ _ _ triv) hz
  | @list a o vs n xs h1 h2 h3 h4 =>
    simp only [PyData.shown] at hQ hz
    simp only [PyData.showable] at hs
    simp only [PyData.depth] at hu
    obtain ⟨bs, hb, hk⟩ := RdsAll.reprK (prog := prog) (w := w) h4 hs fun t ht => Nat.le_trans (listText_mem_le ht) hz
    obtain ⟨as, hr⟩ := RdsAll.reads h4
    have na : a ∉ bs := not_mem_of_deeper (.list h1 h2 h3 hr) (by simp only [PyData.depth]; omega) hb
    refine call_repr_slot (by omega) ⟨o, h1, h2⟩ F.slot_list_repr.toG ?_
    obtain ⟨l⟩ := vs
    cases l with
    | nil =>
      have hr' : ReadsAll s.heap [] xs _ := hr
      cases hr'
      simp only [PyData.shownAll, listText_nil] at hQ
      exact call_list_repr_empty ⟨o, h1, h2⟩ h1 h3 ⟨_, _, rfl, hQ _ _ _ triv⟩
    | cons x l => exact call_list_reprK h1 h2 h3 na (by simpa using hk.length_eq) (fun i y e => hk.item i y (by simpa using e)) (A := A.in1) hg (fun b _ => Clear.nil b) (by show A.units + 1 + _ < cLine; omega) triv (fun h' u tk k => ⟨_, _, rfl, hQ h' u tk k⟩) hz
  | @tuple a o vs n xs h1 h2 h3 h4 =>
    simp only [PyData.shown] at hQ hz
    simp only [PyData.showable] at hs
    simp only [PyData.depth] at hu
    obtain ⟨bs, hb, hk⟩ := RdsAll.reprK (prog := prog) (w := w) h4 hs fun t ht => Nat.le_trans (tupleText_mem_le ht) hz
    obtain ⟨as, hr⟩ := RdsAll.reads h4
    have na : a ∉ bs := not_mem_of_deeper (.tuple h1 h2 h3 hr) (by simp only [PyData.depth]; omega) hb
    refine call_repr_slot (by omega) ⟨o, h1, h2⟩ F.slot_tuple_repr ?_
    exact call_tuple_reprK h1 h2 h3 na hk (A := A.in1) hg (fun b _ => Clear.nil b) (by show A.units + 1 + _ < cLine; omega) triv (fun h' u tk k => ⟨_, _, rfl, hQ h' u tk k⟩) hz
  | @dict a o es n kvs h1 h2 h3 h0 h4 h5 =>
    simp only [PyData.shown] at hQ hz
    simp only [PyData.showable] at hs
    simp only [PyData.depth] at hu
    obtain ⟨s1, s2⟩ := PyData.showableKv_split kvs hs
    have big : ∀ {t : Str} {p : Str}, p ∈ PyData.shownKv kvs → t.length ≤ p.length → t.length ≤ sizeLine := fun hp hl => Nat.le_trans hl (Nat.le_trans (dictText_mem_le hp) hz)
    obtain ⟨b1, q1, k1⟩ := RdsAll.reprK (prog := prog) (w := w) h4 s1 fun t ht => let ⟨_, hp, hl⟩ := PyData.shownKv_key_le kvs t ht; big hp hl
    obtain ⟨b2, q2, k2⟩ := RdsAll.reprK (prog := prog) (w := w) h5 s2 fun t ht => let ⟨_, hp, hl⟩ := PyData.shownKv_val_le kvs t ht; big hp hl
    obtain ⟨as, r1⟩ := RdsAll.reads h4
    obtain ⟨cs, r2⟩ := RdsAll.reads h5
    have hb : ReadAtMost s.heap (PyData.depthKv kvs) (b1 ++ b2) := (q1.mono (PyData.depthAll_keys_le kvs)).append (q2.mono (PyData.depthAll_vals_le kvs))
    have na : a ∉ b1 ++ b2 := not_mem_of_deeper (.dict h1 h2 h3 r1 r2) (by simp only [PyData.depth]; omega) hb
    refine call_repr_slot (by omega) ⟨o, h1, h2⟩ F.slot_dict_repr ?_
    rw [PyData.shownKv_eq] at hQ hz
    exact call_dict_reprK h1 h2 h3 h0 na (.of_two es.toList _ _ (k1.more_le (fun b m => List.mem_append_left _ m) (PyData.depthAll_keys_le kvs)) (k2.more_le (fun b m => List.mem_append_right _ m) (PyData.depthAll_vals_le kvs)))
      (A := A.in1) hg (fun b _ => Clear.nil b) (by show A.units + 1 + _ < cLine; omega) triv (fun h' u tk k => ⟨_, _, rfl, hQ h' u tk k⟩) hz
end
section
variable {X : Cx} {pins : List (Addr × Obj)} {σ : L2.St} {H : Hp} {s : Shared}
mutual
theorem rd_ok {a : Addr} {u : HO} (I : Inv X pins σ H s) (h : Rd H a u) : ObjOk X.prog X.w H s.heap a u := h.elim (fun z => I.hok _ _ z) fun ⟨o, z⟩ => (I.hok _ _ z).2
theorem DX.rds (I : Inv X pins σ H s) : ∀ {d : Dt} {v : V} {u : Value}, DX X.K H v d → RelV v u → d.pure = true → Rds s.heap u d.py
  | .non, _, _, h, r, _ => by cases h; cases r; simp only [Dt.py]; exact .none
  | .bl b, _, _, h, r, _ => by cases h; cases r; simp only [Dt.py]; exact .bool b
  | .int i, _, _, h, r, _ => by cases h; obtain ⟨t, rfl⟩ := r; simp only [Dt.py]; exact .int i t
  | .str x, _, _, h, r, _ => by cases h; obtain ⟨t, rfl⟩ := r; simp only [Dt.py]; exact .str x t
  | .lst ds, _, _, h, r, p => by
    cases h with
    | lst hs ha =>
      cases r
      obtain ⟨its, rv, ⟨o, n, ho, hc, hdn, hd⟩, _⟩ := I.list hs
      simp only [Dt.py]
      exact .list ho hc hd (DXs.rds I (ds := ds) ha rv (by simpa only [Dt.pure] using p))
  | .tup ds, _, _, h, r, p => by
    cases h with
    | tup hs ha =>
      cases r
      obtain ⟨its, rv, ⟨o, ho, hc, n, hd⟩, _⟩ := I.tuple hs
      simp only [Dt.py]
      exact .tuple ho hc hd (DXs.rds I (ds := ds) ha rv (by simpa only [Dt.pure] using p))
  | .dct _ ds, _, _, h, r, p => by
    cases h with
    | @dct a kvs _ hs ha =>
      cases r
      obtain ⟨_, ne, vs, rel, o, es, ep, ho, hex, hd, _, pr, _⟩ := rd_ok I hs
      have two := DXk.rds I (ds := ds) ha rel pr (by simpa only [Dt.pure] using p)
      simp only [Dt.py]
      exact .dict ho hex.1 hd ne two.1 two.2
  | .ty _, _, _, _, _, p => by simp only [Dt.pure] at p; cases p
theorem DXs.rds (I : Inv X pins σ H s) : ∀ {ds : List Dt} {vs : List V} {us : List Value}, DXs X.K H vs ds → Vals vs us → pures ds = true → RdsAll s.heap us (pys ds)
  | [], _, _, h, r, _ => by cases h; cases r; simp only [pys]; exact .nil
  | d :: ds, _, _, h, r, p => by
    simp only [pures, Bool.and_eq_true] at p
    cases h with
    | cons h1 h2 =>
      cases r with
      | cons r1 r2 => simp only [pys]; exact .cons (DX.rds I h1 r1 p.1) (DXs.rds I h2 r2 p.2)
theorem DXk.rds (I : Inv X pins σ H s) : ∀ {ds : List (Key × Dt)} {kvs : List (Key × V)} {vs : List (Key × Value)} {es : List DictEntry}, DXk X.K H kvs ds → KV kvs vs → Pairs (mixKind X.prog X.w) es vs → purek ds = true →
    RdsAll s.heap (es.map (·.key)) ((pyk ds).map (·.1)) ∧ RdsAll s.heap (es.map (·.val)) ((pyk ds).map (·.2))
  | [], _, _, _, h, r, pr, _ => by
    cases h
    cases r
    cases pr
    simp only [pyk, List.map_nil]
    exact ⟨.nil, .nil⟩
  | (k, d) :: ds, _, _, _, h, r, pr, p => by
    simp only [purek, Bool.and_eq_true] at p
    cases h with
    | cons h1 h2 =>
      cases r with
      | cons r1 r2 =>
        cases pr with
        | cons p1 p2 p3 =>
          have ih := DXk.rds I h2 r2 p3 p.2
          have e1 : k = _ := r1.1
          have hk := p1
          rw [← e1, mixKind_is] at hk
          simp only [pyk, List.map_cons]
          refine ⟨.cons ?_ ih.1, .cons (by rw [p2]; exact DX.rds I h1 r1.2 p.1) ih.2⟩
          rcases keyIs_shape hk with ⟨i, t, rfl, e⟩ | ⟨x, t, rfl, e⟩
          · rw [e]; exact .int i t
          · rw [e]; exact .str x t
end
def rRepr (K : PySem.W.Frag) : List V → Hp → VK → Prop := fun xs H Q => ∃ x d, xs = [x] ∧ DX K H x d ∧ d.pure = true ∧ d.py.showable = true ∧ d.py.depth ≤ 60 ∧ d.py.shown.length ≤ sizeLine ∧ Q (.str d.py.shown) H
theorem call_reprX (hg : X.A.guards = some []) (hu : X.A.units + 64 < cLine) : CallR X (.builtin "repr") (rRepr X.K) := by
  intro pins s σ H xs us Q I r h
  obtain ⟨x, d, rfl, dx, dp, ds, dd, dz, q⟩ := h
  obtain ⟨u, rfl, ru⟩ := r.one
  exact repr_run (DX.rds I dx ru dp) ds hg (by omega) dz fun h' u tk k => ⟨.str d.py.shown, H, I.kept k, ⟨u, rfl⟩, q⟩
end
section
variable {K : PySem.W.Frag} {Ψ : Dt → Prop} {d : Dt}
/-- fit to be shown -/
structure Fit (d : Dt) : Prop where
  pure : d.pure = true
  sh : d.py.showable = true
  dep : d.py.depth ≤ 60
  sz : d.py.shown.length ≤ sizeLine
theorem rd_repr (f : Fit d) (h : Ψ (.str d.py.shown)) : RD K (rRepr K) [d] Ψ := fun M H vs m xx Q q => by
  obtain ⟨v, rfl, x⟩ := one_v xx
  exact ⟨v, d, rfl, x.mono (cut_sub M H), f.pure, f.sh, f.dep, f.sz, q _ H _ (Same.refl H) (.str _) h⟩
end
end DL

/-! Data level: == against the empty list, in, sets of texts, displays of dicts, join. -/
namespace DL
open PySem PySem.Spec PyProof.Rows L2
variable [Tb]

/-! ### == of a dict and a text -/
section
variable {A : Around} {s : Shared}
theorem dict_eq_declines {prog : Program} {w : World} {E : Value → Shared → Prop} {l : Addr} {b : Str} {u : Tok} {Q : Value → Shared → Prop} (hl : s.TypeIs (.ref l) "dict") (h : Q .notImplemented s) :
    wpAny (model prog w) A (call (.builtin "dict.__eq__") [.ref l, .str b u]) Q E s := by
  refine wpAny_call_entry PySem.F.slot_dict_eq hl PySem.F.entry_dict_eq ?_ (PySem.F.args_dict_eq_2 _ _)
  show wpAny _ _ (Builtin.Dict.dictSlotArgs "__eq__" ⟨[.ref l, .str b u], []⟩ >>= _) _ _ s
  apply wpAny_bind
  unfold Builtin.Dict.dictSlotArgs
  refine wpAny_bind (wpAny_notOrdered_dict hl (wpAny_pure (wpAny_bind (wpAny_isInstance (T := "str") (typeIs_str s b u) PySem.F.sub_str_dict ?_))))
  simp only [Bool.not_false, if_true]
  exact wpAny_bind (wpAny_rule (wpAny_pure ⟨_, rfl, h⟩))
theorem str_eq_declines (b : Str) (u : Tok) (l : Addr) (c : Value) (dd : Option Addr) (es : Array DictEntry) (n : Nat) (sl : Array (Option Value)) :
    Meets (Builtin.«str.__eq__» ⟨[.str b u, .ref l], []⟩) (fun _ R s => s.heap.get? l = some { cls := c, dict := dd, data := .dict es n, slots := sl } ∧ R (.ok (.ret .notImplemented)) s) :=
  .of_wp fun prog w A R s h => by
    obtain ⟨hp, g, d, tk, os⟩ := s
    obtain ⟨hl, h⟩ := h
    wp_walk using wpAny_load hl
    exact ⟨_, rfl, h⟩
theorem rc_dict_str {l : Addr} {dd : Option Addr} {es : Array DictEntry} {n : Nat} {sl : Array (Option Value)} (b : Str) (u : Tok) (ho : s.heap.get? l = some { cls := .type "dict", dict := dd, data := .dict es n, slots := sl }) (hu : A.units < cLine) : SeqAt.RcAt A s (.ref l) (.str b u) false := fun prog w E Q h =>
  SeqAt.rc_eq_decline_or (k := false) ⟨_, ho, rfl⟩ (typeIs_str s b u) (by decide) PySem.F.sub_str_dict PySem.F.slot_dict_eq PySem.F.slot_str_eq_refl
    (fun _ hq => dict_eq_declines ⟨_, ho, rfl⟩ hq)
    (fun _ hq => call_meets PySem.F.slot_str_eq_refl (typeIs_str s b u) PySem.F.entry_str_eq (PySem.F.args_str_eq_2 _ _) (str_eq_declines b u l _ _ _ _ _) ⟨ho, hq⟩)
    (fun _ hq => wpAny_of_eq (rfl : isSame (.ref l) (.str b u) = pure false) hq) (.inr hu) h
theorem rc_str_dict {l : Addr} {dd : Option Addr} {es : Array DictEntry} {n : Nat} {sl : Array (Option Value)} (b : Str) (u : Tok) (ho : s.heap.get? l = some { cls := .type "dict", dict := dd, data := .dict es n, slots := sl }) (hu : A.units < cLine) : SeqAt.RcAt A s (.str b u) (.ref l) false := fun prog w E Q h =>
  SeqAt.rc_eq_decline_or (k := false) (typeIs_str s b u) ⟨_, ho, rfl⟩ (by decide) PySem.F.sub_dict_str PySem.F.slot_str_eq PySem.F.slot_dict_eq
    (fun _ hq => call_meets PySem.F.slot_str_eq (typeIs_str s b u) PySem.F.entry_str_eq (PySem.F.args_str_eq_2 _ _) (str_eq_declines b u l _ _ _ _ _) ⟨ho, hq⟩)
    (fun _ hq => dict_eq_declines ⟨_, ho, rfl⟩ hq)
    (fun _ hq => wpAny_of_eq (rfl : isSame (.str b u) (.ref l) = pure false) hq) (.inr hu) h
theorem eq_dict_str {l : Addr} {o : Obj} {es : Array DictEntry} {n : Nat} (b : Str) (u : Tok) (ho : s.heap.get? l = some o) (hc : o.cls = .type "dict") (hd : o.data = .dict es n) (hu : A.units < cLine) : SeqAt.EqAt A s (.ref l) (.str b u) false := fun prog w E Q h => by
  obtain ⟨c, dd, dt, sl⟩ := o
  simp only at hc hd
  subst hc hd
  unfold eqBool
  refine wpAny_holding (wpAny_ite_split (fun z => absurd (eq_of_beq z) nofun) fun _ => ?_)
  exact wpAny_bind (rc_dict_str b u ho hu prog w E _ (wpAny_truthy_bool h))
theorem eq_str_dict {l : Addr} {o : Obj} {es : Array DictEntry} {n : Nat} (b : Str) (u : Tok) (ho : s.heap.get? l = some o) (hc : o.cls = .type "dict") (hd : o.data = .dict es n) (hu : A.units < cLine) : SeqAt.EqAt A s (.str b u) (.ref l) false := fun prog w E Q h => by
  obtain ⟨c, dd, dt, sl⟩ := o
  simp only at hc hd
  subst hc hd
  unfold eqBool
  refine wpAny_holding (wpAny_ite_split (fun z => absurd (eq_of_beq z) nofun) fun _ => ?_)
  exact wpAny_bind (rc_str_dict b u ho hu prog w E _ (wpAny_truthy_bool h))
end

/-! ### in a list, not in: some answer -/
/-- two data that == tells apart, or not -/
inductive Cmp : Dt → Dt → Prop
  | seq {d e : Dt} (h1 : d.seqs = true) (h2 : e.seqs = true) (l1 : d.py.canLay0 = true) (l2 : e.py.canLay0 = true) (z : d.py.depth ≤ 30) : Cmp d e
  | ds {a : Addr} {kvs : List (Key × Dt)} {x : Str} : Cmp (.dct a kvs) (.str x)
  | sd {a : Addr} {kvs : List (Key × Dt)} {x : Str} : Cmp (.str x) (.dct a kvs)
  | dd {a : Addr} {kvs kws : List (Key × Dt)} : Cmp (.dct a kvs) (.dct a kws)
def rInAny (K : PySem.W.Frag) : R2 := fun x y H Q => ∃ d ds, DX K H x d ∧ DX K H y (.lst ds) ∧ (∀ e ∈ ds, Cmp e d) ∧ ∀ b, Q (.bl b) H
section
variable {X : Cx}
theorem cmp_at {pins : List (Addr × Obj)} {σ : L2.St} {H : Hp} {s : Shared} (I : Inv X pins σ H s) {A : Around} (hu : A.units + 40 < cLine) {e d : Dt} {x y : V} {u v : Value} (c : Cmp e d) (hx : DX X.K H x e) (hy : DX X.K H y d) (rx : RelV x u) (ry : RelV y v) :
    ∃ b, SeqAt.EqAt A s u v b := by
  cases c with
  | seq h1 h2 l1 l2 z =>
    obtain ⟨as, r1⟩ := Dp.reads I _ _ _ (hx.dp h1) rx
    obtain ⟨bs, r2⟩ := Dp.reads I _ _ _ (hy.dp h2) ry
    have one : ReadsAll s.heap [u] [e.py] (as ++ []) := .cons r1 .nil
    have q := SeqAt.items_eqAt (A := A) (vs := #[u]) one r2 (by simp [PyData.canLayAll0, l1]) l2 (by simp only [PyData.depthAll]; omega) u (by simp)
    exact ⟨_, q.of_in1⟩
  | ds =>
    cases hx with
    | dct hs _ =>
      cases rx
      obtain ⟨t, rfl⟩ : ∃ t, v = Value.str _ t := by cases hy; exact ry
      obtain ⟨_, _, _, _, o, _, _, ho, hex, hdat, _⟩ := rd_ok I hs
      exact ⟨false, eq_dict_str _ t ho hex.1 hdat (by omega)⟩
  | sd =>
    cases hy with
    | dct hs _ =>
      cases ry
      obtain ⟨t, rfl⟩ : ∃ t, u = Value.str _ t := by cases hx; exact rx
      obtain ⟨_, _, _, _, o, _, _, ho, hex, hdat, _⟩ := rd_ok I hs
      exact ⟨false, eq_str_dict _ t ho hex.1 hdat (by omega)⟩
  | dd =>
    cases hx
    cases hy
    cases rx
    cases ry
    exact ⟨true, SeqAt.EqAt.same _⟩
theorem cmp_items {pins : List (Addr × Obj)} {σ : L2.St} {H : Hp} {s : Shared} (I : Inv X pins σ H s) {A : Around} (hu : A.units + 40 < cLine) {d : Dt} {y : V} {v : Value} (hy : DX X.K H y d) (ry : RelV y v) :
    ∀ {ds : List Dt} {xs : List V} {us : List Value}, (∀ e ∈ ds, Cmp e d) → DXs X.K H xs ds → Vals xs us → ∀ u ∈ us, ∃ b, SeqAt.EqAt A s u v b
  | [], _, _, _, h, r => by
    cases h
    cases r
    intro u hu'
    cases hu'
  | e :: ds, _, _, c, h, r => by
    cases h with
    | cons h1 h2 =>
      cases r with
      | cons r1 r2 =>
        intro u hm
        rcases List.mem_cons.mp hm with z | z
        · rw [z]; exact cmp_at I hu (c e List.mem_cons_self) h1 hy r1 ry
        · exact cmp_items I hu hy ry (fun e' he' => c e' (List.mem_cons_of_mem _ he')) h2 r2 u z
open Classical in
theorem pick_eq {A : Around} {s : Shared} {v : Value} {us : List Value} (h : ∀ u ∈ us, ∃ b, SeqAt.EqAt A s u v b) : ∃ e : Value → Bool, ∀ u ∈ us, SeqAt.EqAt A s u v (e u) :=
  ⟨fun u => if z : ∃ b, SeqAt.EqAt A s u v b then z.choose else false, fun u hu => by
    have z := h u hu
    show SeqAt.EqAt A s u v (dite _ _ _)
    rw [dif_pos z]
    exact z.choose_spec⟩
theorem op_inAny (hu : X.A.units + 64 < cLine) : OpR X (compareOp .In) (rInAny X.K) := by
  intro pins s σ H x y v u Q I rx ry h
  obtain ⟨d, ds, hx, hy, c, q⟩ := h
  cases hy with
  | lst hs ha =>
    cases ry
    obtain ⟨its, rv, hl, _⟩ := I.list hs
    obtain ⟨e, he⟩ := pick_eq (cmp_items I (A := X.A.in1) (by show X.A.units + 1 + 40 < cLine; omega) hx rx c ha rv)
    exact SeqAt.in_listAt e hl.isList (fun z hz => he z (by simpa using hz)) ⟨.bl _, H, I, rfl, q _⟩
theorem op_notInAny (hu : X.A.units + 64 < cLine) : OpR X (compareOp .NotIn) (rInAny X.K) := by
  intro pins s σ H x y v u Q I rx ry h
  obtain ⟨d, ds, hx, hy, c, q⟩ := h
  cases hy with
  | lst hs ha =>
    cases ry
    obtain ⟨its, rv, hl, _⟩ := I.list hs
    obtain ⟨e, he⟩ := pick_eq (cmp_items I (A := X.A.in1) (by show X.A.units + 1 + 40 < cLine; omega) hx rx c ha rv)
    exact SeqAt.notIn_listAt e hl.isList (fun z hz => he z (by simpa using hz)) ⟨.bl _, H, I, rfl, q _⟩
/-! ### == and != against the empty list, the empty tuple -/
def rEqNil (K : PySem.W.Frag) : R2 := fun x y H Q => ∃ a b xs, x = .ref a ∧ y = .ref b ∧ SqL K H a xs ∧ SqL K H b [] ∧ Q (.bl xs.isEmpty) H
def rNeNil (K : PySem.W.Frag) : R2 := fun x y H Q => ∃ a b xs, x = .ref a ∧ y = .ref b ∧ SqL K H a xs ∧ SqL K H b [] ∧ Q (.bl (!xs.isEmpty)) H
theorem op_eqNil (hu : X.A.units + 64 < cLine) : OpR X (compareOp .Eq) (rEqNil X.K) := by
  intro pins s σ H x y v u Q I rx ry h
  obtain ⟨a, b, xs, rfl, rfl, hs, ht, q⟩ := h
  cases rx
  cases ry
  obtain ⟨its, rv, hl, _⟩ := I.list hs
  obtain ⟨its2, rv2, hl2, _⟩ := I.list ht
  cases rv2
  cases rv with
  | nil => exact SeqAt.eq_listAt (e := fun _ => true) hl.isList hl2.isList rfl (by omega) (fun j h1 => absurd h1 (by simp)) ⟨.bl _, H, I, rfl, q⟩
  | cons r1 r2 => exact SeqAt.eq_list_lengthsAt hl.isList hl2.isList (by simp) (by omega) ⟨.bl _, H, I, rfl, q⟩
theorem op_neNil (hu : X.A.units + 64 < cLine) : OpR X (compareOp .NotEq) (rNeNil X.K) := by
  intro pins s σ H x y v u Q I rx ry h
  obtain ⟨a, b, xs, rfl, rfl, hs, ht, q⟩ := h
  cases rx
  cases ry
  obtain ⟨its, rv, hl, _⟩ := I.list hs
  obtain ⟨its2, rv2, hl2, _⟩ := I.list ht
  cases rv2
  cases rv with
  | nil => exact SeqAt.RcNeAt.lists (e := fun _ => true) hl.isList hl2.isList rfl (by omega) (fun j h1 => absurd h1 (by simp)) _ _ _ _ ⟨.bl _, H, I, rfl, q⟩
  | cons r1 r2 => exact SeqAt.RcNeAt.lists_lengths hl.isList hl2.isList (by simp) (by omega) _ _ _ _ ⟨.bl _, H, I, rfl, q⟩
def rEqTNil (K : PySem.W.Frag) : R2 := fun x y H Q => ∃ a b xs, x = .ref a ∧ y = .ref b ∧ SqT K H a xs ∧ SqT K H b [] ∧ Q (.bl xs.isEmpty) H
theorem op_eqTNil (hu : X.A.units + 64 < cLine) : OpR X (compareOp .Eq) (rEqTNil X.K) := by
  intro pins s σ H x y v u Q I rx ry h
  obtain ⟨a, b, xs, rfl, rfl, hs, ht, q⟩ := h
  cases rx
  cases ry
  obtain ⟨its, rv, hl, _⟩ := I.tuple hs
  obtain ⟨its2, rv2, hl2, _⟩ := I.tuple ht
  cases rv2
  refine SeqAt.eq_tupleAt (e := fun _ => true) hl hl2 (by omega) (fun j h1 h2 => absurd h2 (by simp)) ⟨.bl _, H, I, ?_, q⟩
  cases rv with
  | nil => rfl
  | cons r1 r2 => show _ = Value.bool _; simp
end
section
variable {K : PySem.W.Frag} {Ψ : Dt → Prop} {d : Dt} {ds es : List Dt}
theorem od_eqNil (h : Ψ (.bl ds.isEmpty)) : OD K (rEqNil K) (.lst ds) (.lst []) Ψ := fun M H u v m h1 h2 Q q => by
  cases h1 with
  | lst hs ha =>
    cases h2 with
    | lst ht hb =>
      cases hb
      have e := ha.len
      refine ⟨_, _, _, rfl, rfl, (cut_sub M H).seq hs, (cut_sub M H).seq ht, ?_⟩
      cases ha with
      | nil => exact q _ H _ (Same.refl H) (.bl _) h
      | cons _ _ => exact q _ H _ (Same.refl H) (.bl _) h
theorem od_neNil (h : Ψ (.bl (!ds.isEmpty))) : OD K (rNeNil K) (.lst ds) (.lst []) Ψ := fun M H u v m h1 h2 Q q => by
  cases h1 with
  | lst hs ha =>
    cases h2 with
    | lst ht hb =>
      cases hb
      refine ⟨_, _, _, rfl, rfl, (cut_sub M H).seq hs, (cut_sub M H).seq ht, ?_⟩
      cases ha with
      | nil => exact q _ H _ (Same.refl H) (.bl _) h
      | cons _ _ => exact q _ H _ (Same.refl H) (.bl _) h
theorem od_eqTNil (h : Ψ (.bl ds.isEmpty)) : OD K (rEqTNil K) (.tup ds) (.tup []) Ψ := fun M H u v m h1 h2 Q q => by
  cases h1 with
  | tup hs ha =>
    cases h2 with
    | tup ht hb =>
      cases hb
      refine ⟨_, _, _, rfl, rfl, same_T (cut_sub M H) hs, same_T (cut_sub M H) ht, ?_⟩
      cases ha with
      | nil => exact q _ H _ (Same.refl H) (.bl _) h
      | cons _ _ => exact q _ H _ (Same.refl H) (.bl _) h
theorem od_inAny (c : ∀ e ∈ ds, Cmp e d) (h : ∀ b, Ψ (.bl b)) : OD K (rInAny K) d (.lst ds) Ψ := fun M H u v m h1 h2 Q q =>
  ⟨d, ds, h1.mono (cut_sub M H), h2.mono (cut_sub M H), c, fun b => q _ H _ (Same.refl H) (.bl b) (h b)⟩
/-- a text among texts -/
theorem flat_strs' : ∀ xs : List Str, (xs.map V.str).all flatV = true
  | [] => rfl
  | _ :: xs => flat_strs' xs
theorem inV_strs (x : Str) : ∀ xs : List Str, inV (.str x) (xs.map V.str) = decide (x ∈ xs)
  | [] => rfl
  | y :: ys => by
    have ih := inV_strs x ys
    show (eqV (.str y) (.str x) || inV (.str x) (ys.map V.str)) = _
    rw [ih]
    show ((y == x) || _) = _
    by_cases e : y = x
    · subst e; simp
    · rw [beq_eq_false_iff_ne.mpr e, Bool.false_or]
      exact decide_eq_decide.mpr ⟨fun h => List.mem_cons_of_mem _ h, fun h => by
        rcases List.mem_cons.mp h with z | z
        · exact absurd z.symm e
        · exact z⟩
theorem od_inS {neg : Bool} {x : Str} {xs : List Str} {d : Dt} (hs : seqD d = some (xs.map Dt.str)) (h : Ψ (.bl (if neg then !decide (x ∈ xs) else decide (x ∈ xs)))) : OD K (rIn K neg) (.str x) d Ψ := fun M H u v m h1 h2 Q q => by
  rw [h1.str_eq]
  have fin : ∀ p, (SqL K H p (xs.map V.str) ∨ SqT K H p (xs.map V.str)) → rIn K neg (.str x) (.ref p) H Q := fun p hp =>
    ⟨p, _, rfl, hp, rfl, flat_strs' xs, by rw [inV_strs]; exact q _ H _ (Same.refl H) (.bl _) h⟩
  cases h2 with
  | lst hs' ha => cases hs; rw [ha.strs] at hs'; exact fin _ (.inl ((cut_sub M H).seq hs'))
  | tup hs' ha => cases hs; rw [ha.strs] at hs'; exact fin _ (.inr (same_T (cut_sub M H) hs'))
  | _ => cases hs
/-- any datum among texts, flat ones -/
theorem od_inF {neg : Bool} {vs : List V} {x : V} {xs : List Dt} {d e : Dt} (hs : seqD e = some xs) (hx : ∀ H, DX K H x d) (hxs : ∀ H ws, DXs K H ws xs → ws = vs) (f1 : flatV x = true) (f2 : vs.all flatV = true) (hd : ∀ H w, DX K H w d → w = x)
    (h : Ψ (.bl (if neg then !inV x vs else inV x vs))) : OD K (rIn K neg) d e Ψ := fun M H u v m h1 h2 Q q => by
  rw [hd _ _ h1]
  have fin : ∀ p, (SqL K H p vs ∨ SqT K H p vs) → rIn K neg x (.ref p) H Q := fun p hp => ⟨p, _, rfl, hp, f1, f2, q _ H _ (Same.refl H) (.bl _) h⟩
  cases h2 with
  | lst hs' ha => cases hs; rw [hxs _ _ ha] at hs'; exact fin _ (.inl ((cut_sub M H).seq hs'))
  | tup hs' ha => cases hs; rw [hxs _ _ ha] at hs'; exact fin _ (.inr (same_T (cut_sub M H) hs'))
  | _ => cases hs

/-! ### methods of texts with one argument; join -/
def MD (K : PySem.W.Frag) (r : V → List V → Hp → VK → Prop) (d e : Dt) (Ψ : Dt → Prop) : Prop :=
  ∀ (M : Md) (H : Hp) (x y : V), MOk M H → DX K (cut M H) x d → DX K (cut M H) y e → ∀ Q : VK, (∀ v H2 d, Same H H2 → DX K (cut M H2) v d → Ψ d → Q v H2) → r x [y] H Q
variable {pf : Bool} {ρ : List Sl} {ta te : TE} {Φ : Dt → List Sl → Prop}
theorem w_m1 {r : V → List V → Hp → VK → Prop} (h : Wp K pf ta ρ fun d ρ1 => (∃ z, d = .str z) ∧ Wp K pf te ρ1 fun e ρ2 => MD K r d e fun g => Φ g ρ2) : Wp K pf (tM1 r ta te) ρ Φ := fun M σ H S Q q =>
  h M σ H S _ fun v H1 d ρ1 s1 S1 x1 ⟨⟨z, ez⟩, k⟩ => by
    subst ez
    refine ⟨⟨z, x1.str_eq⟩, k M σ H1 S1 _ fun v2 H2 e ρ2 s2 S2 x2 k2 => ?_⟩
    exact k2 M H2 v v2 S2.mok (x1.mono s2.dx) x2 _ fun w H3 g e3 x3 f => q w H3 g ρ2 ((s1.trans s2).trans (Tr.same pf M e3)) (S2.same e3) x3 f
theorem md_join {z : Str} {xs : List Str} (hs : seqD d = some (xs.map Dt.str)) (hz : (xs.map (·.length)).sum + xs.length * z.length ≤ 16777216) (h : Ψ (.str (Txt.join z xs))) :
    MD K (fun x xs H Q => ∃ a p, ∃ ys : List Str, x = .str a ∧ xs = [.ref p] ∧ (SqL K H p (ys.map V.str) ∨ SqT K H p (ys.map V.str)) ∧ (ys.map (·.length)).sum + ys.length * a.length ≤ 16777216 ∧ Q (.str (Txt.join a ys)) H) (.str z) d Ψ := fun M H u v m h1 h2 Q q => by
  rw [h1.str_eq]
  cases h2 with
  | lst hs' ha => cases hs; rw [ha.strs] at hs'; exact ⟨z, _, xs, rfl, rfl, .inl ((cut_sub M H).seq hs'), hz, q _ H _ (Same.refl H) (.str _) h⟩
  | tup hs' ha => cases hs; rw [ha.strs] at hs'; exact ⟨z, _, xs, rfl, rfl, .inr (same_T (cut_sub M H) hs'), hz, q _ H _ (Same.refl H) (.str _) h⟩
  | _ => cases hs
/-! ### displays of dicts -/
theorem w_dnewK (h : ∀ a, Φ (.dct a []) ρ) : Wp K pf tDNewK ρ Φ := fun M σ H S Q q p hp =>
  q (.ref p) _ (.dct p []) ρ (Tr.same pf M (same_new hp)) (S.same (same_new hp)) (.dct (.inl (cut_at (S.mok.new hp) upd_same)) .nil) (h p)
/-- one written pair of a text and a flat datum or a list .. that is told by Wp -/
theorem w_disp1 {k : Str} (h : Wp K true te ρ fun d ρ1 => ∀ a, Φ (.dct a [(.inr k, d)]) ρ) : Wp K pf (tDisp [(tC (.str k), te)]) ρ Φ := fun M σ H S Q q p hp => by
  have S1 := S.aside (o := .dK []) hp (same_new hp) upd_same
  refine h { M with F := p :: M.F } σ _ S1 _ fun v H2 d ρ' s S2 x f => ⟨s.sm rfl p _ upd_same, [(.inr k, v)], rfl, by show 1 ≤ 15; decide, ?_⟩
  have e : mergeK [] [((.inr k : Key), v)] = [((.inr k : Key), v)] := rfl
  rw [e]
  have all : Same H (upd H2 p (.dK [((.inr k : Key), v)])) := fun a u z => by
    rw [upd_ne (ne_of_none z hp)]
    exact s.sm rfl a u (by rw [upd_ne (ne_of_none z hp)]; exact z)
  have x' : DX K (cut M (upd H2 p (.dK [((.inr k : Key), v)]))) v d := x.mono fun a u z => by
    obtain ⟨c, y⟩ := cut_of z
    have na : a ≠ p := fun n => c (.inr (.inl (by rw [n]; exact List.mem_cons_self)))
    exact cut_at (fun t => c (has_aside a t)) (by rw [upd_ne na]; exact y)
  exact q (.ref p) _ (.dct p [(.inr k, d)]) ρ (Tr.same pf M all) (S.same all) (.dct (.inl (cut_at (S.mok.new hp) upd_same)) (.cons x' .nil)) (f p)
end
end DL

/-! Data level: the pen opened, defs' promises from their bodies. -/
namespace DL
open PySem PySem.Spec PyProof.Rows L2
variable [Tb]

def powns (es : List Dt) (ρ : List Sl) : List Sl := ρ.map fun s => match s with
  | .pen _ => .pown es
  | .pown _ => .pown es
  | s => s
def pdats (es : List Dt) (ρ : List Sl) : List Sl := ρ.map fun s => match s with
  | .pen _ => .dat (.lst es)
  | .pown _ => .dat (.lst es)
  | s => s
section
variable {K : PySem.W.Frag} {pf : Bool} {ρ : List Sl} {te ti : TE} {tt : TT} {t : TS} {D : DE} {i : Nat} {Φ : Dt → List Sl → Prop}
theorem Sd.writeP {M : Md} {H : Hp} {σ : L2.St} {p : Addr} {ws : List V} {es : List Dt} {o0 : HO} (S : Sd K M H σ ρ) (hp : M.p = some p) (h00 : ∃ vs0, H p = some (.lst vs0)) (x : DXs K (cut M H) ws es) : Sd K M (upd H p (.lst ws)) σ (powns es ρ) ∧ Stp M H M (upd H p (.lst ws)) := by
  have has : M.has p := .inl (.inl hp)
  have sc : Same (cut M H) (cut M (upd H p (.lst ws))) := fun a u z => by
    obtain ⟨c, y⟩ := cut_of z
    exact cut_at c (by rw [upd_ne fun n => c (by rw [n]; exact has)]; exact y)
  refine ⟨⟨by unfold powns; rw [List.length_map]; exact S.len, by unfold powns; rw [List.length_map]; exact S.olen, ⟨fun a h => ?_, S.mok.pF, S.mok.FO, S.mok.nd, S.mok.tbU rfl (fun a ha ps z => by rw [upd_ne fun n => (by obtain ⟨vs0, h00⟩ := h00; rw [n, h00] at z; cases z)]; exact z) sc⟩, fun j s h => ?_⟩, ⟨rfl, rfl, fun a o z c d => ⟨by rw [upd_ne fun n => c (.inl (by rw [n]; exact hp))]; exact z, d⟩⟩⟩
  · by_cases n : a = p
    · exact ⟨_, by rw [n]; exact upd_same⟩
    · obtain ⟨u, z⟩ := S.mok.live a h
      exact ⟨u, by rw [upd_ne n]; exact z⟩
  · unfold powns at h
    rw [List.getElem?_map] at h
    cases e : ρ[j]? with
    | none => rw [e] at h; cases h
    | some s0 =>
      rw [e] at h
      obtain ⟨o, h1, h2⟩ := S.ok j s0 e
      refine ⟨o, h1, ?_⟩
      have h := Option.some.inj h
      cases s0 with
      | any => subst h; trivial
      | dat d => subst h; obtain ⟨v, a1, a2⟩ := h2; exact ⟨v, a1, a2.mono sc⟩
      | val u d => subst h; obtain ⟨a1, a2⟩ := h2; exact ⟨a1, a2.mono sc⟩
      | own es' =>
        subst h
        obtain ⟨l, vs, a1, a2, a3, a4⟩ := h2
        exact ⟨l, vs, a1, a2, by rw [upd_ne fun y => (S.mok.pp hp).2 (by rw [← y]; exact List.mem_of_getElem? a2)]; exact a3, a4.mono sc⟩
      | obj C0 b0 ns0 es' =>
        subst h
        obtain ⟨l, dx0, vs, a1, a2, a3, a5, a4⟩ := h2
        exact ⟨l, dx0, vs, a1, a2, by rw [upd_ne fun y => (S.mok.pp hp).2 (by rw [← y]; exact List.mem_of_getElem? a2)]; exact a3, a5, a4.mono sc⟩
      | ownd es' =>
        subst h
        obtain ⟨l, vs, a1, a2, a3, a4⟩ := h2
        exact ⟨l, vs, a1, a2, by rw [upd_ne fun y => (S.mok.pp hp).2 (by rw [← y]; exact List.mem_of_getElem? a2)]; exact a3, a4.mono sc⟩
      | pen m =>
        subst h
        obtain ⟨p', a1, a2, _⟩ := h2
        obtain rfl : p' = p := Option.some.inj (a2.symm.trans hp)
        exact ⟨p', ws, a1, a2, upd_same, x.mono sc⟩
      | pown es' =>
        subst h
        obtain ⟨p', _, a1, a2, _⟩ := h2
        obtain rfl : p' = p := Option.some.inj (a2.symm.trans hp)
        exact ⟨p', ws, a1, a2, upd_same, x.mono sc⟩
theorem ws_setpen {ds0 : List Dt} (e0 : ρ[i]? = some (.pown ds0)) (h : Wp K pf te ρ fun d ρ1 => Wp K pf ti ρ1 fun dj ρ2 => ∃ (ds : List Dt) (j : Nat), ρ2[i]? = some (.pown ds) ∧ dj = .int j ∧ j < ds.length ∧ D.nx (powns (ds.set j d) ρ2)) :
    Ws K (tAsg te (gSub (tVar i) ti rSetL)) ρ D := fun M σ H S E k => by
  obtain ⟨o, h1, p, vs0, e1, e2, e3, e4⟩ := S.ok i _ e0
  subst e1
  refine h M σ H S _ fun v H1 d ρ1 s1 S1 x1 h2 => ?_
  refine ⟨.ref p, h1, h2 M σ H1 S1 _ fun w H2 dj ρ2 s2 S2 x2 ⟨ds, j, g1, g2, g3, g4⟩ => ?_⟩
  subst g2
  obtain ⟨o', z1, p', vs, y1, y2, y3, y4⟩ := S2.ok i _ g1
  obtain rfl : p' = p := Option.some.inj (y2.symm.trans e2)
  refine ⟨p', vs, j, j, rfl, x2.int_eq, y3, ?_, ?_⟩
  · unfold ixN
    rw [if_pos (Int.natCast_nonneg j), if_pos (by rw [y4.len]; exact Int.ofNat_lt.mpr g3)]
    rfl
  · obtain ⟨S3, s3⟩ := S2.writeP (o0 := .lst vs) y2 ⟨vs, y3⟩ (y4.set (x1.mono s2.dx) j)
    exact k.nx M σ _ _ ((s1.st.trans s2.st).trans s3) S3 g4
/-- the pen read: as long as nothing is written it is a list like any other -/
theorem Sd.freezeP {M : Md} {H : Hp} {σ : L2.St} {ds : List Dt} (S : Sd K M H σ ρ) (hs : ρ[i]? = some (.pown ds)) : Sd K { M with p := none } H σ (pdats ds ρ) := by
  obtain ⟨o0, h0, p, vs, e0, hp, e2, e3⟩ := S.ok i _ hs
  have has : ∀ a, ({ M with p := none } : Md).has a → M.has a := fun a h => by
    rcases h with h | h | h
    · exact (Md.inP0 rfl a h).elim
    · exact .inr (.inl h)
    · exact .inr (.inr h)
  have sc : Same (cut M H) (cut { M with p := none } H) := cut_le has
  have np : ¬ ({ M with p := none } : Md).has p := fun z => by
    rcases z with z | z | z
    · exact (Md.inP0 rfl p z).elim
    · exact (S.mok.pp hp).1 z
    · exact (S.mok.pp hp).2 z
  refine ⟨by unfold pdats; rw [List.length_map]; exact S.len, by unfold pdats; rw [List.length_map]; exact S.olen, ⟨fun a h => S.mok.live a (has a h), fun a h => (Md.inP0 rfl a h).elim, S.mok.FO, S.mok.nd, fun t ht => (nomatch ht)⟩, fun j s h => ?_⟩
  unfold pdats at h
  rw [List.getElem?_map] at h
  cases e : ρ[j]? with
  | none => rw [e] at h; cases h
  | some s0 =>
    rw [e] at h
    obtain ⟨o, h1, h2⟩ := S.ok j s0 e
    refine ⟨o, h1, ?_⟩
    have h := Option.some.inj h
    cases s0 with
    | any => subst h; trivial
    | dat d => subst h; obtain ⟨v, a1, a2⟩ := h2; exact ⟨v, a1, a2.mono sc⟩
    | val u d => subst h; obtain ⟨a1, a2⟩ := h2; exact ⟨a1, a2.mono sc⟩
    | own es' => subst h; obtain ⟨l, vs', a1, a2, a3, a4⟩ := h2; exact ⟨l, vs', a1, a2, a3, a4.mono sc⟩
    | obj C0 b0 ns0 es' => subst h; obtain ⟨l, dx0, vs', a1, a2, a3, a5, a4⟩ := h2; exact ⟨l, dx0, vs', a1, a2, a3, a5, a4.mono sc⟩
    | ownd es' => subst h; obtain ⟨l, vs', a1, a2, a3, a4⟩ := h2; exact ⟨l, vs', a1, a2, a3, a4.mono sc⟩
    | pen m =>
      subst h
      obtain ⟨p', a1, a2, _⟩ := h2
      obtain rfl : p' = p := Option.some.inj (a2.symm.trans hp)
      exact ⟨.ref p', a1, .lst (.inl (.inl (cut_at np e2))) (e3.mono sc)⟩
    | pown es' =>
      subst h
      obtain ⟨p', _, a1, a2, _⟩ := h2
      obtain rfl : p' = p := Option.some.inj (a2.symm.trans hp)
      exact ⟨.ref p', a1, .lst (.inl (.inl (cut_at np e2))) (e3.mono sc)⟩
theorem wp_pen {ds : List Dt} (hs : ρ[i]? = some (.pown ds)) (h : Wp K true te (pdats ds ρ) fun d _ => flatD d = true ∧ Φ d ρ) : Wp K pf te ρ Φ := fun M σ H S Q q =>
  h _ σ H (S.freezeP hs) Q fun v H2 d ρ' s S3 x ⟨f, z⟩ => q v H2 d ρ (Tr.same pf M (s.sm rfl)) (S.same (s.sm rfl)) (flat_any f x) z
theorem wt_pen {ds : List Dt} {Θ : Bool → List Sl → Prop} (hs : ρ[i]? = some (.pown ds)) (h : Wt K true tt (pdats ds ρ) fun b _ => Θ b ρ) : Wt K pf tt ρ Θ := fun M σ H S Q q =>
  h _ σ H (S.freezeP hs) Q fun b H2 ρ' s S3 z => q b H2 ρ (Tr.same pf M (s.sm rfl)) (S.same (s.sm rfl)) z
theorem Sd.openP {M : Md} {H : Hp} {σ : L2.St} {n : Nat} (S : Sd K M H σ ρ) (hs : ρ[i]? = some (.pen n)) : ∃ (ns : List Int) (c : Nat) (g : Int), c ≤ n ∧ 0 ≤ g ∧ ns.length ≤ 63 ∧ Sd K M H σ (powns [.lst (ns.map Dt.int), .int c, .int g] ρ) := by
  obtain ⟨o0, h0, p, e0, hp, l, ns, c, g, b1, b2, b3, b4, b5⟩ := S.ok i _ hs
  have asInts : ∀ ns : List Int, DXs K (cut M H) (ns.map V.int) (ns.map Dt.int) := fun ns => by
    induction ns with
    | nil => exact .nil
    | cons n r ih => exact .cons (.int n) ih
  have xs : DXs K (cut M H) [.ref l, .int c, .int g] [.lst (ns.map Dt.int), .int c, .int g] := .cons (.lst b2 (asInts ns)) (.cons (.int _) (.one (.int _)))
  refine ⟨ns, c, g, b3, b4, b5, by unfold powns; rw [List.length_map]; exact S.len, by unfold powns; rw [List.length_map]; exact S.olen, S.mok, fun j s h => ?_⟩
  unfold powns at h
  rw [List.getElem?_map] at h
  cases e : ρ[j]? with
  | none => rw [e] at h; cases h
  | some s0 =>
    rw [e] at h
    obtain ⟨o, h1, h2⟩ := S.ok j s0 e
    refine ⟨o, h1, ?_⟩
    have h := Option.some.inj h
    cases s0 with
    | any => subst h; trivial
    | dat d => subst h; exact h2
    | val u d => subst h; exact h2
    | own es' => subst h; exact h2
    | obj C0 b0 ns0 es' => subst h; exact h2
    | ownd es' => subst h; exact h2
    | pen m =>
      subst h
      obtain ⟨p', a1, a2, _⟩ := h2
      obtain rfl : p' = p := Option.some.inj (a2.symm.trans hp)
      exact ⟨p', _, a1, a2, b1, xs⟩
    | pown es' =>
      subst h
      obtain ⟨p', _, a1, a2, _⟩ := h2
      obtain rfl : p' = p := Option.some.inj (a2.symm.trans hp)
      exact ⟨p', _, a1, a2, b1, xs⟩
theorem ws_open {n : Nat} (hs : ρ[i]? = some (.pen n)) (h : ∀ (ns : List Int) (c : Nat) (g : Int), c ≤ n → 0 ≤ g → ns.length ≤ 63 → Ws K t (powns [.lst (ns.map Dt.int), .int c, .int g] ρ) D) : Ws K t ρ D := fun M σ H S E k =>
  let ⟨ns, c, g, h1, h2, h3, S2⟩ := S.openP hs
  h ns c g h1 h2 h3 M σ H S2 E k
/-- what is left of the pen in a slot -/
inductive PenS (n : Nat) : Sl → Prop
  | pen {m : Nat} (h : m ≤ n) : PenS n (.pen m)
  | pown {ns : List Int} {c : Nat} {g : Int} (h1 : c ≤ n) (h2 : 0 ≤ g) (h3 : ns.length ≤ 63) : PenS n (.pown [.lst (ns.map Dt.int), .int c, .int g])
theorem Pen.le {M : Md} {H : Hp} {p : Addr} {m n : Nat} (h : Pen K M H p m) (e : m ≤ n) : Pen K M H p n := by
  obtain ⟨l, ns, c, g, b1, b2, b3, b4⟩ := h
  exact ⟨l, ns, c, g, b1, b2, Nat.le_trans b3 e, b4⟩
theorem PenS.of {M : Md} {H : Hp} {j n : Nat} {o : Option V} {s : Sl} (h : PenS n s) (k : SlOk K M H j o s) : ∃ p, M.p = some p ∧ Pen K M H p n := by
  cases h with
  | pen h => obtain ⟨p, _, a2, a3⟩ := k; exact ⟨p, a2, a3.le h⟩
  | @pown ns c g h1 h2 h3 =>
    obtain ⟨p, vs, _, a2, a3, a4⟩ := k
    cases a4 with
    | cons x1 r1 =>
      cases r1 with
      | cons x2 r2 =>
        cases r2 with
        | cons x3 r3 =>
          cases r3
          rw [x2.int_eq, x3.int_eq] at a3
          cases x1 with
          | lst hs ha =>
            rw [ha.ints] at hs
            exact ⟨p, a2, _, ns, c, g, a3, hs, h1, h2, h3⟩
end

/-! ### a def's promise from its body -/
def slots (ds : List Dt) (m : Nat) : List Sl := ds.map Sl.dat ++ List.replicate m .any
section
variable {P : Program} {w : World} {K : PySem.W.Frag} {mg : Str → Option Value} {base : Heap} {t : TS}
theorem start_at {N : List Str} {vs : List V} {j : Nat} (h : j < vs.length) : (L2.start N vs)[j]? = vs[j]?.map some := by
  unfold L2.start
  rw [List.getElem?_append_left (by rw [List.length_map]; exact h), List.getElem?_map]
theorem sd_start {N : List Str} {M : Md} {H : Hp} {vs : List V} {ds : List Dt} (hO : M.O = []) (m : MOk M H) (x : DXs K (cut M H) vs ds) (hl : vs.length ≤ N.length) : Sd K (M.body N.length) H (L2.start N vs) (slots ds (N.length - ds.length)) := by
  have e := x.len
  have ec : cut (M.body N.length) H = cut M H := cut_congr (Md.body_has hO N.length) H
  refine ⟨?_, ?_, m.body hO _, fun j s h => ?_⟩
  · unfold L2.start slots
    rw [List.length_append, List.length_append, List.length_map, List.length_map, List.length_replicate, List.length_replicate, e]
  · unfold slots Md.body
    rw [List.length_append, List.length_map, List.length_replicate, List.length_replicate]
    omega
  · unfold slots at h
    by_cases hj : j < ds.length
    · rw [List.getElem?_append_left (by rw [List.length_map]; exact hj), List.getElem?_map] at h
      cases ed : ds[j]? with
      | none => rw [ed] at h; cases h
      | some d =>
        rw [ed] at h
        have h := Option.some.inj h
        subst h
        obtain ⟨v, h1, h2⟩ := x.getd ed
        refine ⟨some v, ?_, v, rfl, by rw [ec]; exact h2⟩
        rw [start_at (by rw [e]; exact hj), h1]
        rfl
    · rw [List.getElem?_append_right (by rw [List.length_map]; omega), List.getElem?_replicate] at h
      split at h
      · have h := Option.some.inj h
        subst h
        refine ⟨none, ?_, trivial⟩
        unfold L2.start
        rw [List.getElem?_append_right (by rw [List.length_map]; omega), List.getElem?_replicate, List.length_map]
        rw [if_pos (by rename_i hm; rw [List.length_map] at hm; omega)]
      · cases h
/-- a def that changes nothing -/
theorem read_P {N : List Str} {W : List Dt → (Dt → Prop) → Prop} {vs : List V} {H : Hp} {Q : VK} {E : XK} (h : spP K W vs H Q E) (hl : vs.length ≤ N.length)
    (b : ∀ ds Φ, ds.length = vs.length → W ds Φ → Ws K t (slots ds (N.length - ds.length)) { nx := fun _ => Φ .non, rt := fun d _ => Φ d }) : t { nx := fun _ H' => Q .non H', rt := Q } (L2.start N vs) H := by
  obtain ⟨M, ds, Φ, hp, hO, m, x, w, q⟩ := h
  have keep : ∀ {M' : Md} {H' : Hp}, Stp (M.body N.length) H M' H' → Same H H' := fun s a o z => (s.keep a o z (Md.inP0 hp a) no_rep).1
  have sub : ∀ {M' : Md} {H' : Hp}, Stp (M.body N.length) H M' H' → Same (cut M' H') (cut M H') := fun {M' H'} s => cut_le fun a z => by
    rcases z with z | z | z
    · exact (Md.inP0 hp a z).elim
    · exact .inr (.inl (by rw [s.F]; exact z))
    · rw [hO] at z; cases z
  refine b ds Φ x.len.symm w (M.body N.length) _ H (sd_start hO m x hl) _ ⟨fun M' σ' H' ρ' s S z => q .non H' .non (keep s) .non z, fun M' v H' d ρ' σ' s S x z => q v H' d (keep s) (x.mono (sub s)) z, fun M' σ' H' ρ' s S z => z, fun M' σ' H' ρ' s S z => z, fun _ _ _ _ _ _ _ _ _ _ _ _ z => z⟩
/-- a def that draws -/
theorem read_N {N : List Str} {W : Nat → List Dt → (Dt → Nat → Prop) → Prop} {vs : List V} {H : Hp} {Q : VK} {E : XK} (h : spN K W vs H Q E) (hl : vs.length ≤ N.length)
    (b : ∀ n ds Φ, ds.length + 1 = vs.length → W n ds Φ → Ws K t (.pen n :: slots ds (N.length - (ds.length + 1))) { nx := fun ρ => ∃ n' s, ρ[0]? = some s ∧ PenS n' s ∧ Φ .non n', rt := fun d ρ => ∃ n' s, ρ[0]? = some s ∧ PenS n' s ∧ Φ d n' }) :
    t { nx := fun _ H' => Q .non H', rt := Q } (L2.start N vs) H := by
  obtain ⟨M, p, n, ws, ds, Φ, rfl, hp, hO, m, P0, x, w, q⟩ := h
  have ec : ∀ H', cut (M.body N.length) H' = cut M H' := fun H' => cut_congr (Md.body_has hO N.length) H'
  have keep : ∀ {M' : Md} {H' : Hp}, Stp (M.body N.length) H M' H' → ∀ a o, H a = some o → ¬ M.inP a → H' a = some o := fun s a o z c => (s.keep a o z c no_rep).1
  have sub : ∀ {M' : Md} {H' : Hp}, Stp (M.body N.length) H M' H' → Same (cut M' H') (cut M H') := fun {M' H'} s => cut_le fun a z => by
    rcases z with z | z | z
    · exact .inl ((s.inP a).mpr z)
    · exact .inr (.inl (by rw [s.F]; exact z))
    · rw [hO] at z; cases z
  have tabs : ∀ {M' : Md} {H' : Hp}, Stp (M.body N.length) H M' H' → MOk M' H' → TabsM M H' := fun {M' H'} s m t ht => (m.tb t (by rw [s.ts]; exact ht)).step (fun _ z => z) (sub s)
  have pen : ∀ {M' : Md} {H' : Hp} {σ' : L2.St} {ρ' : List Sl} {n' : Nat} {sl : Sl}, Stp (M.body N.length) H M' H' → Sd K M' H' σ' ρ' → ρ'[0]? = some sl → PenS n' sl → Pen K M H' p n' := fun {M' H' σ' ρ' n' sl} s S e ps => by
    obtain ⟨o, _, k⟩ := S.ok 0 sl e
    obtain ⟨p', h1, l, ns, c, g, b1, b2, b3⟩ := ps.of k
    have e1 : M'.p = M.p := s.p
    obtain rfl : p' = p := Option.some.inj (h1.symm.trans (e1.trans hp))
    exact ⟨l, ns, c, g, b1, (sub s).seq b2, b3⟩
  have S0 : Sd K (M.body N.length) H (L2.start N (.ref p :: ws)) (.pen n :: slots ds (N.length - (ds.length + 1))) := by
    have hx : DXs K (cut M H) (V.int 0 :: ws) (Dt.int 0 :: ds) := .cons (.int 0) x
    have S1 := sd_start (N := N) hO m hx (by simpa using hl)
    refine ⟨?_, ?_, S1.mok, fun j s h => ?_⟩
    · have := S1.len
      unfold slots L2.start at this ⊢
      simp only [List.length_append, List.length_map, List.length_replicate, List.length_cons] at this ⊢
      omega
    · have := S1.olen
      unfold slots at this ⊢
      simp only [List.length_append, List.length_map, List.length_replicate, List.length_cons] at this ⊢
      omega
    · cases j with
      | zero =>
        have h := Option.some.inj (show some (Sl.pen n) = some s from h)
        subst h
        obtain ⟨l, ns, c, g, b1, b2, b3⟩ := P0
        exact ⟨some (.ref p), rfl, p, rfl, hp, l, ns, c, g, b1, by rw [ec]; exact b2, b3⟩
      | succ j =>
        obtain ⟨o, h1, h2⟩ := S1.ok (j + 1) s (by
          show (slots (Dt.int 0 :: ds) _)[j + 1]? = _
          unfold slots at h ⊢
          simpa using h)
        refine ⟨o, ?_, h2⟩
        unfold L2.start at h1 ⊢
        simpa using h1
  refine b n ds Φ (by rw [List.length_cons, x.len]) w (M.body N.length) _ H S0 _ ⟨fun M' σ' H' ρ' s S ⟨n', sl, e, ps, z⟩ => q .non H' .non n' ⟨keep s, tabs s S.mok⟩ (pen s S e ps) .non z, fun M' v H' d ρ' σ' s S x ⟨n', sl, e, ps, z⟩ => q v H' d n' ⟨keep s, tabs s S.mok⟩ (pen s S e ps) (x.mono (sub s)) z, fun M' σ' H' ρ' s S z => z, fun M' σ' H' ρ' s S z => z, fun _ _ _ _ _ _ _ _ _ _ _ _ z => z⟩
end
end DL

/-! set(t) of a tuple, whatever its things are: J i tells what is known of the set when i of them are in it. -/
namespace DL
open PySem PySem.Spec PyProof.Rows L2
variable [Tb]

/-- what stands in h0 stands in h -/
abbrev Kp (h0 h : Heap) : Prop := ∀ b o, h0.get? b = some o → h.get? b = some o
theorem tup_kp {h0 h : Heap} {l : Addr} {items : Array Value} (t : h0.IsTuple l items) (k : Kp h0 h) : h.IsTuple l items := t.elim fun o z => ⟨o, k _ _ z.1, z.2⟩
/-- an empty set, just made -/
def objS (w : World) : Obj := { cls := .type "set", dict := none, data := .set #[] 0 (.fresh 0 0 (!w.params.followText "set-order")) }
/-- one more thing put in -/
def Fills (P : Program) (w : World) (A : Around) (h0 : Heap) (S : Addr) (items : Array Value) (J : Nat → Heap → Prop) : Prop :=
  ∀ (i : Nat) (v : Value) (s : Shared) (Q : Bool → Shared → Prop) (E : Value → Shared → Prop), items[i]? = some v → J i s.heap → Kp h0 s.heap →
    (∀ b h' tk, Heap.SameBut S s.heap h' → J (i + 1) h' → Q b { s with heap := h', toks := tk }) → wpAny (model P w) A (setAdd S v) Q E s
/-- what is known of the set hangs on its own object and on what stood before -/
structure Own1 (h0 : Heap) (S : Addr) (J : Nat → Heap → Prop) : Prop where
  at_ : ∀ i h h', J i h → h'.get? S = h.get? S → Kp h0 h' → J i h'
  there : ∀ i h, J i h → ∃ o, h.get? S = some o
section
variable {P : Program} {w : World} {A : Around} {E : Value → Shared → Prop} {h0 : Heap} {S I l : Addr} {items : Array Value} {J : Nat → Heap → Prop} {R : Result → Shared → Prop}
theorem kp_but {h h' : Heap} {b : Addr} (k : Kp h0 h) (n : h0.get? b = none) (x : ∀ c o, c ≠ b → h.get? c = some o → h'.get? c = some o) : Kp h0 h' := fun c o e => x c o (fun z => by rw [z, n] at e; cases e) (k c o e)
theorem fillG (hh : A.in1.handled = none) (hl : h0.IsTuple l items) (own : Own1 h0 S J) (put : Fills P w A.in1 h0 S items J) (nS : h0.get? S = none) (nI : h0.get? I = none) (ne : S ≠ I) :
    ∀ (m i : Nat) (h : Heap) (g : Array GenState) (d : Drawn) (tk : Nat) (os : OsState), i + m = items.size → h.IsTupleIter I l i → J i h → Kp h0 h →
      (∀ h' tk', J items.size h' → Kp h0 h' → R (.ok (.ret .none)) ⟨h', g, d, tk', os⟩) → codeAny (model P w) A (.builtin "set.update.loop" ⟨[.ref S, .ref I], []⟩) R ⟨h, g, d, tk, os⟩ := by
  intro m
  induction m with
  | zero =>
    intro i h g d tk os e it j kp k
    obtain ⟨o, ho⟩ := own.there i h j
    refine codeAny_builtin F.entry_set_update_loop ?_
    rw [Around.under_plainId F.plain_set_update_loop _]
    refine wpAny_bind (m := pyNext (.ref I)) (wpAny_pyNext_tuple_end hh it (tup_kp hl kp) (Array.getElem?_eq_none (by omega)) fun h' x => wpAny_pure ?_)
    have kp' := kp_but kp nI fun c o n q => x c o n q
    rw [← show i = items.size from e] at k
    exact k h' tk (own.at_ _ _ _ j ((x S o ne ho).trans ho.symm) kp') kp'
  | succ m ih =>
    intro i h g d tk os e it j kp k
    obtain ⟨o, ho⟩ := own.there i h j
    have at_ : items[i]? = some items[i] := Array.getElem?_eq_getElem (by omega)
    refine codeAny_builtin F.entry_set_update_loop ?_
    rw [Around.under_plainId F.plain_set_update_loop _]
    refine wpAny_bind (m := pyNext (.ref I)) (wpAny_pyNext_tuple_item it (tup_kp hl kp) at_ fun h1 it1 x1 => ?_)
    have kp1 := kp_but kp nI fun c o n q => (x1.2 c n).trans q
    refine wpAny_bind (m := holding [items[i]] (setAdd S items[i])) (wpAny_holding (put i _ ⟨h1, g, d, tk, os⟩ _ _ at_ (own.at_ _ _ _ j (x1.2 S ne) kp1) kp1 fun b h2 tk2 x2 j2 => ?_))
    have kp2 := kp_but kp1 nS fun c o n q => (x2.2 c n).trans q
    refine wpAny_pure ⟨plainId_quiet F.plain_set_update_loop _, ih (i + 1) h2 g d tk2 os (by omega) ?_ j2 kp2 k⟩
    obtain ⟨q, q1, q2⟩ := it1
    exact ⟨q, (x2.2 I (Ne.symm ne)).trans q1, q2⟩
/-- the class called with one thing: an empty set is laid, then its __init__ -/
theorem set_called {s : Shared} {a : Value} {Q : Value → Shared → Prop} (h : wpAny (model P w) A.in1.in1 (Builtin.«set.__init__» ⟨[.ref s.heap.objs.size, a], []⟩)
      (fun fin s' => match fin with | .done f => wants (fun r s₂ => r = .none ∧ Q (.ref s.heap.objs.size) s₂) E (.ok f) s' | .again c' => c'.quiet = true ∧ codeAny (model P w) A.in1 c' (wants (fun r s₂ => r = .none ∧ Q (.ref s.heap.objs.size) s₂) E) s')
      (fun e s' => wants (fun r s₂ => r = .none ∧ Q (.ref s.heap.objs.size) s₂) E (.error e) s') { s with heap := s.heap.push (objS w) }) :
    wpAny (model P w) A (call (.type "set") [a]) Q E s := by
  have C := F.called_set
  obtain ⟨c, tl, up⟩ := C.mro
  have m := C.made
  have u := C.sub
  have n1 := C.notType
  have n2 := C.canCreate
  have n3 := F.typeCall_set_1 a
  have i1 := C.init.lookup
  have i2 := C.init.bind (.ref s.heap.objs.size)
  have ty : Shared.TypeIs { s with heap := s.heap.push (objS w) } (.ref s.heap.objs.size) "set" := ⟨_, Heap.get?_push_size _ rfl, rfl⟩
  refine wpAny_call (codeAny_of_tree (wpAny_pure ⟨Code.quiet_builtin _ (by decide +kernel), codeAny_builtin F.entry_type_call ?_⟩))
  rw [Around.under_plain (weight_type_call_type "set" [a] []) rfl]
  repeat (any_goals (first | assumption | wp_step))
  refine codeAny_mono (code_set_led1 a (E := E) (Q₁ := fun v s₁ => v = .ref s.heap.objs.size ∧ s₁ = { s with heap := s.heap.push (objS w) }) ⟨rfl, rfl⟩) ?_
  rintro (e | f) s₁ z
  · exact z
  cases f with
  | ret v =>
    obtain ⟨rfl, rfl⟩ := z
    repeat (any_goals (first | assumption | wp_step))
    refine codeAny_mono (codeAny_call_builtin C.init.plain F.entry_set_init (check_set_init_1 ty h)) ?_
    rintro (e | f) s₂ z
    · exact z
    cases f with
    | ret v =>
      obtain ⟨rfl, z⟩ := z
      repeat (any_goals (first | assumption | wp_step))
    | _ => exact z.elim
  | _ => exact z.elim
/-- set(t) -/
theorem call_setG {s : Shared} {Q : Value → Shared → Prop} (hh : A.handled = none) (hl : s.heap.IsTuple l items) (own : Own1 s.heap s.heap.objs.size J) (start : ∀ h', h'.get? s.heap.objs.size = some (objS w) → Kp s.heap h' → J 0 h')
    (put : Fills P w A.in1.in1.in1 s.heap s.heap.objs.size items J) (k : ∀ h' tk, J items.size h' → Kp s.heap h' → Q (.ref s.heap.objs.size) { s with heap := h', toks := tk }) :
    wpAny (model P w) A (call (.type "set") [.ref l]) Q E s := by
  refine set_called ?_
  have gone : ∀ b, s.heap.objs.size ≤ b → s.heap.get? b = none := fun b hb => by
    cases e : s.heap.get? b with
    | none => rfl
    | some o => exact absurd (Heap.lt_size e) (Nat.not_lt.mpr hb)
  have one : Kp s.heap (s.heap.push (objS w)) := fun b o e => Heap.get?_push_of_some _ e
  have hl1 : (s.heap.push (objS w)).IsTuple l items := tup_kp hl one
  have ty : Shared.TypeIs { s with heap := s.heap.push (objS w) } (.ref s.heap.objs.size) "set" := ⟨_, Heap.get?_push_size _ rfl, rfl⟩
  have tyl : Shared.TypeIs { s with heap := s.heap.push (objS w) } (.ref l) "tuple" := hl1.typeIs
  have t1 := F.sub_tuple_set
  have t2 := F.sub_tuple_frozenset
  have t3 : (Value.type "tuple" == Value.type "dict") = false := by decide
  have setAt : (s.heap.push (objS w)).get? s.heap.objs.size = some (objS w) := Heap.get?_push_size _ rfl
  obtain ⟨⟨oc, od, odt, osl⟩, hol, hcl, nl, hdl⟩ := id hl1
  dsimp only at hcl hdl
  subst hcl hdl
  unfold Builtin.«set.__init__» noKeywords Builtin.Frozenset.updateFrom
  generalize hPI : pyIter = PI
  wp_walk
  subst hPI
  refine wpAny_pyIter_tuple hl1 (wpAny_bind (wpAny_runValue ?_))
  have two : Kp s.heap ((s.heap.push (objS w)).push { cls := .type "tuple_iterator", data := .fields #[.ref l, .int 0 0] }) := fun b o e => Heap.get?_push_of_some _ (one b o e)
  have dead : A.in1.in1.in1.handled = none := by simp [hh]
  have n1 : s.heap.get? (s.heap.push (objS w)).objs.size = none := gone _ (by rw [Heap.size_push]; exact Nat.le_succ _)
  have ne : s.heap.objs.size ≠ (s.heap.push (objS w)).objs.size := by rw [Heap.size_push]; exact Nat.ne_of_lt (Nat.lt_succ_self _)
  exact fillG dead hl own put (gone _ (Nat.le_refl _)) n1 ne items.size 0 _ _ _ _ _ (Nat.zero_add _) ⟨_, Heap.get?_push_size _ rfl, rfl, rfl⟩ (start _ (Heap.get?_push_of_some _ setAt) two) two
    fun h' tk' j kp => wpAny_pure (wpAny_pure ⟨rfl, k h' tk' j kp⟩)
end
end DL

/-! set(t) of a tuple of texts, its length. -/
namespace DL
open PySem PySem.Spec PyProof.Rows L2
variable [Tb]

/-- one text more, if it isn't there -/
def addU (acc : List Str) (x : Str) : List Str := if x ∈ acc then acc else acc ++ [x]
def uniq (xs : List Str) : List Str := xs.foldl addU []
theorem uniq_snoc (xs : List Str) (x : Str) : uniq (xs ++ [x]) = addU (uniq xs) x := by
  unfold uniq
  rw [List.foldl_append]
  rfl
theorem uniq_mem (xs : List Str) (y : Str) : y ∈ uniq xs ↔ y ∈ xs := by
  have go : ∀ (r acc : List Str), y ∈ r.foldl addU acc ↔ y ∈ acc ∨ y ∈ r := by
    intro r
    induction r with
    | nil => intro acc; simp
    | cons x r ih =>
      intro acc
      rw [List.foldl_cons, ih]
      unfold addU
      by_cases c : x ∈ acc
      · rw [if_pos c]
        constructor
        · rintro (h | h)
          · exact .inl h
          · exact .inr (List.mem_cons_of_mem _ h)
        · rintro (h | h)
          · exact .inl h
          · rcases List.mem_cons.mp h with e | h
            · exact .inl (by rw [e]; exact c)
            · exact .inr h
      · rw [if_neg c, List.mem_append, List.mem_singleton, List.mem_cons, or_assoc]
  rw [show uniq xs = xs.foldl addU [] from rfl, go xs []]
  simp
theorem uniq_le : ∀ (r acc : List Str), (r.foldl addU acc).length ≤ acc.length + r.length
  | [], acc => Nat.le_refl _
  | x :: r, acc => by
    rw [List.foldl_cons]
    have h := uniq_le r (addU acc x)
    have h2 : (addU acc x).length ≤ acc.length + 1 := by
      unfold addU
      split
      · omega
      · rw [List.length_append, List.length_singleton]; exact Nat.le_refl _
    rw [List.length_cons]
    omega
theorem uniq_len (xs : List Str) : (uniq xs).length ≤ xs.length := by
  have := uniq_le xs []
  simpa [uniq] using this
theorem uniq_nodup (xs : List Str) : (uniq xs).length = xs.length ↔ xs.Nodup := by
  have go : ∀ (r acc : List Str), (r.foldl addU acc).length = acc.length + r.length ↔ (∀ x ∈ r, x ∉ acc) ∧ r.Nodup := by
    intro r
    induction r with
    | nil => intro acc; simp
    | cons x r ih =>
      intro acc
      rw [List.foldl_cons, List.length_cons, List.nodup_cons]
      by_cases c : x ∈ acc
      · have e : addU acc x = acc := if_pos c
        rw [e]
        have h := uniq_le r acc
        constructor
        · intro z; omega
        · intro z; exact absurd c (z.1 x List.mem_cons_self)
      · have e : addU acc x = acc ++ [x] := if_neg c
        have h := ih (acc ++ [x])
        rw [List.length_append, List.length_singleton] at h
        rw [e, show acc.length + (r.length + 1) = acc.length + 1 + r.length by omega, h]
        constructor
        · rintro ⟨h1, h2⟩
          refine ⟨fun y hy => ?_, fun hx => h1 x hx (by simp), h2⟩
          rcases List.mem_cons.mp hy with e | hy
          · rw [e]; exact c
          · exact fun z => h1 y hy (List.mem_append_left _ z)
        · rintro ⟨h1, h2, h3⟩
          refine ⟨fun y hy z => ?_, h3⟩
          rcases List.mem_append.mp z with z | z
          · exact h1 y (List.mem_cons_of_mem _ hy) z
          · rw [List.mem_singleton.mp z] at hy; exact h2 hy
  have h := go xs []
  simpa [uniq] using h

section
variable {P : Program} {w : World} {A : Around} {E : Value → Shared → Prop} {s : Shared}
/-- the set at S holds just the texts of xs -/
abbrev SetS (P : Program) (w : World) (h : Heap) (S : Addr) (xs : List Str) : Prop := h.SetOf (PySem.strKind P w) S (fun j => decide (j ∈ xs)) (uniq xs).length
theorem SetS.at {h h' : Heap} {S : Addr} {xs : List Str} (q : SetS P w h S xs) (k : ∀ o, h.get? S = some o → h'.get? S = some o) : SetS P w h' S xs := by
  obtain ⟨o, es, ep, t, ho, r⟩ := q
  exact ⟨o, es, ep, t, k o ho, r⟩
theorem addS {h : Heap} {S : Addr} {xs : List Str} {x : Str} (q : h.SetOf (PySem.strKind P w) S (fun j => decide (j ∈ xs) || decide (j = x)) (if decide (x ∈ xs) = true then (uniq xs).length else (uniq xs).length + 1)) : SetS P w h S (xs ++ [x]) := by
  have e1 : (fun j : Str => decide (j ∈ xs) || decide (j = x)) = fun j => decide (j ∈ xs ++ [x]) := by
    funext j
    simp
  have e2 : (if decide (x ∈ xs) = true then (uniq xs).length else (uniq xs).length + 1) = (uniq (xs ++ [x])).length := by
    rw [uniq_snoc]
    unfold addU
    by_cases c : x ∈ xs
    · rw [if_pos (decide_eq_true c), if_pos ((uniq_mem xs x).mpr c)]
    · rw [if_neg (by rw [decide_eq_false c]; exact Bool.false_ne_true), if_neg fun z => c ((uniq_mem xs x).mp z), List.length_append, List.length_singleton]
  rw [e1, e2] at q
  exact q
/-- set(t), t a tuple of texts -/
theorem call_setS {l : Addr} {items : Array Value} (xs : List Str) {Q : Value → Shared → Prop} (hh : A.handled = none) (hl : s.heap.IsTuple l items)
    (hit : ∀ (i : Nat) (v : Value), items[i]? = some v → ∃ x t, xs[i]? = some x ∧ v = Value.str x t) (hz : items.size = xs.length) (hb : xs.length + 1 < scanBound)
    (h : ∀ (h' : Heap) (tk : Nat), SetS P w h' s.heap.objs.size xs → (∀ b o, s.heap.get? b = some o → h'.get? b = some o) → Q (.ref s.heap.objs.size) { s with heap := h', toks := tk }) :
    wpAny (model P w) A (call (.type "set") [.ref l]) Q E s := by
  refine call_setG (J := fun i h => SetS P w h s.heap.objs.size (xs.take i)) hh hl ⟨fun i h h' q e _ => q.at fun o z => e.trans z, fun i h q => ?_⟩ (fun h' e _ => ?_) (fun i v s1 Q1 E1 hv q _ k => ?_) fun h' tk q kp => h h' tk (by rw [hz, List.take_length] at q; exact q) kp
  · obtain ⟨o, _, _, _, ho, _⟩ := q
    exact ⟨o, ho⟩
  · have z := (setObjOf_fresh (knd := PySem.strKind P w) (!w.params.followText "set-order")).setOf e (by unfold scanBound; omega)
    rw [show (fun _ : Str => false) = fun j => decide (j ∈ xs.take 0) by funext j; simp] at z
    exact z
  · obtain ⟨x, t, hx, rfl⟩ := hit i v hv
    have room := uniq_len (xs.take i)
    rw [List.length_take] at room
    refine wpAny_holding (wpAny_bind ((PySem.strKind P w).pyHash (k := x) (strKind_is _ _ _ _) ?_))
    refine wpAny_setAddHashed_of (knd := PySem.strKind P w) (s := { s1 with toks := s1.toks + 1 }) (strKind_is _ _ _ _) rfl q (by omega) fun h' sb q2 => k _ h' _ sb ?_
    show SetS P w h' _ (xs.take (i + 1))
    rw [List.take_add_one, hx]
    exact addS q2
end
/-! ### len(set(t)) -/
def tLenS (K : PySem.W.Frag) (ta : TE) : TE := fun σ H Q => ta σ H fun x H1 => ∃ (l : Addr) (xs : List Str), x = .ref l ∧ SqT K H1 l (xs.map V.str) ∧ xs.length ≤ 1000 ∧ Q (.int ((uniq xs).length : Nat)) H1
theorem pe_lenS {X : Cx} {a : Expr} {ta : TE} {p p2 q pos : Pos} (hc : X.calm = true) (hg : Gl X "len") (hm : X.mg "len" = none) (hg2 : Gl X "set") (hm2 : X.mg "set" = none) (ha : PE X a ta)
    (na : starEach [a] X.env = (false, eval a X.env) :: starEach [] X.env := by rfl) :
    PE X (.Call (.Name "len" p) [.Call (.Name "set" p2) [a] [] q] [] pos) (tLenS X.K ta) := by
  constructor
  intro pins s σ H Q I h
  refine Call_ (ld_blt I hg hm boot_len (PyProof.Rows.callWith_builtin1 (PyProof.Rows.args_cons ?_ rfl) rfl rfl))
  refine Call_ (ld_blt I hg2 hm2 boot_set (PyProof.Rows.callWith_type1 (PyProof.Rows.args_cons ?_ na) na rfl))
  refine thn (ha.run pins s σ H _ I h) ?_
  intro v s1 ⟨x, H1, I1, r1, l, xs, ex, hq, hz, q1⟩
  subst ex
  cases r1
  refine PyProof.Rows.args_nil ?_
  obtain ⟨its, r, ht, _⟩ := I1.tuple hq
  have hl : its.toArray.size = xs.length := by rw [List.size_toArray, ← r.length, List.length_map]
  refine call_setS xs (I1.ok.hd hc) ht ?_ hl (by unfold scanBound; omega) ?_
  · intro i v e
    have e' : its[i]? = some v := by simpa using e
    have hi : i < xs.length := by rw [← hl]; exact (Array.getElem?_eq_some_iff.mp e).1
    obtain ⟨u, hu, t, hu'⟩ := r.get (i := i) (x := .str xs[i]) (by simp [hi])
    rw [e'] at hu
    exact ⟨xs[i], t, List.getElem?_eq_getElem hi, (Option.some.inj hu).trans hu'⟩
  · intro h' tk hS hk
    refine PyProof.Rows.args_nil ?_
    obtain ⟨o, es, ep, t, ho, hex, hd, _, _, _, hf, hn⟩ := hS
    have I2 : Inv X pins σ H1 { s1 with heap := h', toks := tk } := I1.kept hk
    have := uniq_len xs
    exact call_len_set ho hex hd hf (by rw [hn]; omega) ⟨.int (uniq xs).length, H1, I2.tok _, ⟨_, by rw [hn]⟩, q1⟩
section
variable {K : PySem.W.Frag} {pf : Bool} {ρ : List Sl} {te : TE} {Φ : Dt → List Sl → Prop}
theorem w_lenS (h : Wp K pf te ρ fun d ρ1 => ∃ xs : List Str, d = .tup (xs.map Dt.str) ∧ xs.length ≤ 1000 ∧ Φ (.int ((uniq xs).length : Nat)) ρ1) : Wp K pf (tLenS K te) ρ Φ := fun M σ H S Q q =>
  h M σ H S _ fun v H1 d ρ1 s1 S1 x1 ⟨xs, e, hz, f⟩ => by
    subst e
    cases x1 with
    | tup hs ha =>
      rw [ha.strs] at hs
      exact ⟨_, xs, rfl, same_T (cut_sub M H1) hs, hz, q _ H1 _ ρ1 s1 S1 (.int _) f⟩
end
end DL

/-! Data level: defs by promises; comprehensions that filter and map; lists put together. -/
namespace DL
open PySem PySem.Spec PyProof.Rows L2
variable [Tb]

section
variable {P : Program} {w : World} {K : PySem.W.Frag} {mg : Str → Option Value} {base : Heap} {k : Nat} {f : Addr} {fd : FuncData} {ps N : List Str} {x qual : Str} {st : Stmt}
/-- a def that changes nothing, by its body -/
theorem defP {W : List Dt → (Dt → Prop) → Prop} (F : Fun K x qual st f fd) (S : FnScope N ps (defScope st)) (hW : ∀ ds Φ, W ds Φ → ds.length = ps.length) (hN : ps.length ≤ N.length)
    (hb : ∀ (cdv : Value) (A : Around) (outer : List Env) (s : Shared) (H : Hp) (E : XK), Room k (A.deeper (envOfC qual (defScope st) s.heap.objs.size f cdv)) →
      (A.deeper (envOfC qual (defScope st) s.heap.objs.size f cdv)).guards = some [] → ∃ t, PSs (cxOf CX0 P w K mg base N qual (defScope st) f cdv A outer s H E).nox (defBody st) t ∧
        ∀ ds Φ, W ds Φ → Ws K t (slots ds (N.length - ds.length)) { nx := fun _ => Φ .non, rt := fun d _ => Φ d }) : FnG P w K mg base CX0 (k + 1) f fd ps (spP K W) := by
  have len : ∀ vs H Q E, spP K W vs H Q E → vs.length = ps.length := fun vs H Q E ⟨M, ds, Φ, _, _, _, x, w, _⟩ => x.len.trans (hW ds Φ w)
  refine okG F S len fun cdv A outer s H vs Q E hr hg h => ?_
  obtain ⟨t, h1, h2⟩ := hb cdv A outer s H E hr hg
  exact ⟨t, h1, read_P (E := E) h (by rw [len _ _ _ _ h]; exact hN) fun ds Φ _ w => h2 ds Φ w⟩
/-- .. that shows nothing: whatever is being shown around it -/
theorem defP0 {W : List Dt → (Dt → Prop) → Prop} (F : Fun K x qual st f fd) (S : FnScope N ps (defScope st)) (hW : ∀ ds Φ, W ds Φ → ds.length = ps.length) (hN : ps.length ≤ N.length)
    (hb : ∀ (cdv : Value) (A : Around) (outer : List Env) (s : Shared) (H : Hp) (E : XK), Room k (A.deeper (envOfC qual (defScope st) s.heap.objs.size f cdv)) →
      ∃ t, PSs (cxOf CX0 P w K mg base N qual (defScope st) f cdv A outer s H E).nox (defBody st) t ∧
        ∀ ds Φ, W ds Φ → Ws K t (slots ds (N.length - ds.length)) { nx := fun _ => Φ .non, rt := fun d _ => Φ d }) : FnOk P w K mg base CX0 (k + 1) f fd ps (spP K W) := by
  have len : ∀ vs H Q E, spP K W vs H Q E → vs.length = ps.length := fun vs H Q E ⟨M, ds, Φ, _, _, _, x, w, _⟩ => x.len.trans (hW ds Φ w)
  refine F.ok S len fun cdv A outer s H vs Q E hr h => ?_
  obtain ⟨t, h1, h2⟩ := hb cdv A outer s H E hr
  exact ⟨t, h1, read_P (E := E) h (by rw [len _ _ _ _ h]; exact hN) fun ds Φ _ w => h2 ds Φ w⟩
/-- a def that draws, by its body -/
theorem defN {W : Nat → List Dt → (Dt → Nat → Prop) → Prop} (F : Fun K x qual st f fd) (S : FnScope N ps (defScope st)) (hW : ∀ n ds Φ, W n ds Φ → ds.length + 1 = ps.length) (hN : ps.length ≤ N.length)
    (hb : ∀ (cdv : Value) (A : Around) (outer : List Env) (s : Shared) (H : Hp) (E : XK), Room k (A.deeper (envOfC qual (defScope st) s.heap.objs.size f cdv)) →
      (A.deeper (envOfC qual (defScope st) s.heap.objs.size f cdv)).guards = some [] → ∃ t, PSs (cxOf CX0 P w K mg base N qual (defScope st) f cdv A outer s H E).nox (defBody st) t ∧
        ∀ n ds Φ, W n ds Φ → Ws K t (.pen n :: slots ds (N.length - (ds.length + 1))) { nx := fun ρ => ∃ n' s, ρ[0]? = some s ∧ PenS n' s ∧ Φ .non n', rt := fun d ρ => ∃ n' s, ρ[0]? = some s ∧ PenS n' s ∧ Φ d n' }) :
    FnG P w K mg base CX0 (k + 1) f fd ps (spN K W) := by
  have len : ∀ vs H Q E, spN K W vs H Q E → vs.length = ps.length := fun vs H Q E ⟨M, p, n, ws, ds, Φ, e, _, _, _, _, x, w, _⟩ => by
    rw [e, List.length_cons, x.len]; exact hW n ds Φ w
  refine okG F S len fun cdv A outer s H vs Q E hr hg h => ?_
  obtain ⟨t, h1, h2⟩ := hb cdv A outer s H E hr hg
  exact ⟨t, h1, read_N (E := E) h (by rw [len _ _ _ _ h]; exact hN) fun n ds Φ _ w => h2 n ds Φ w⟩
end

/-! ### lists put together -/
def rCatL (K : PySem.W.Frag) : R2 := fun x y H Q => ∃ l b xs zs, x = .ref l ∧ y = .ref b ∧ SqL K H l xs ∧ SqL K H b zs ∧ xs.length + zs.length ≤ sizeLine ∧ ∀ p, H p = none → Q (.ref p) (upd H p (.lst (xs ++ zs)))
theorem op_catL {X : Cx} : OpR X (binaryOp .Add) (rCatL X.K) := by
  intro pins s σ H x y v u Q I rx ry h
  obtain ⟨l, b, xs, zs, rfl, rfl, hH, hB, hz, q⟩ := h
  cases rx
  cases ry
  obtain ⟨its, r, ⟨⟨c1, dd1, d1, s1⟩, n, e, hc, _, hd⟩, _⟩ := I.list hH
  obtain ⟨its2, r2, ⟨⟨c2, dd2, d2, s2⟩, n2, e2, hc2, _, hd2⟩, _⟩ := I.list hB
  simp only at hc hd hc2 hd2
  subst hc hd hc2 hd2
  have l1 := r.length
  have l2 := r2.length
  refine concat_meets ⟨_, e, rfl⟩ ⟨_, e2, rfl⟩ noFill_list_add seq_list_add PySem.F.slot_list_add PySem.F.entry_list_add (PySem.F.args_list_add_2 _ _) (list_addW l b its.toArray its2.toArray n n2 dd1 dd2 s1 s2 (by rw [List.size_toArray, List.size_toArray]; omega)) ⟨e, e2, ?_⟩
  have ea : its.toArray ++ its2.toArray = (its ++ its2).toArray := by simp
  rw [ea]
  exact ⟨.ref _, _, I.lnew (t' := s.toks) (r.append r2) (by rw [List.length_append]; omega), rfl, q _ I.fresh⟩
section
variable {K : PySem.W.Frag} {pf : Bool} {ρ : List Sl} {te : TE} {tt : TT} {wi : TI} {j : Nat} {Φ : Dt → List Sl → Prop}
theorem set_any {ρ : List Sl} {j : Nat} {s : Sl} (e : ρ[j]? = some .any) : (ρ.set j s).set j .any = ρ := by
  rw [List.set_set]
  apply List.ext_getElem?
  intro i
  by_cases c : j = i
  · subst c
    rw [List.getElem?_set_self (List.getElem?_eq_some_iff.mp e).1, e]
  · rw [List.getElem?_set_ne c]
/-- [f(d) for d in .. if b(d)] -/
theorem w_lcF (b : Dt → Bool) (f : Dt → Dt) (e : ρ[j]? = some .any) (h : WI K pf wi ρ fun ds ρ1 => ρ1 = ρ ∧ ds.length ≤ 50000 ∧ (∀ d ∈ ds, Wt K pf tt (ρ.set j (.dat d)) fun c ρ2 => c = b d ∧ ρ2 = ρ.set j (.dat d)) ∧
      (∀ d ∈ ds, b d = true → Wp K pf te (ρ.set j (.dat d)) fun y ρ3 => y = f d ∧ ρ3 = ρ.set j (.dat d)) ∧ Φ (.lst ((ds.filter b).map f)) ρ) : Wp K pf (tLc wi (gName j) tt te [j]) ρ Φ := by
  refine w_lc (js := [j]) (fun _ z => z) fun M σ H S R q => h M σ H S R fun J H1 ds ρ1 s1 S1 w ⟨e1, hz, ht, he, z⟩ => q J H1 ds ρ1 s1 S1 w ?_
  subst e1
  have w0 : wipeS ρ1 [j] = ρ1 := by
    show ρ1.set j .any = ρ1
    have := set_any (s := .any) e
    rw [List.set_set] at this
    exact this
  have w1 : ∀ d, wipeS (ρ1.set j (.dat d)) [j] = ρ1 := fun d => set_any e
  refine ⟨⟨fun i acc ρ2 => ρ2 = ρ1 ∧ acc = ((ds.take i).filter b).map f, ⟨w0, rfl⟩, hz, fun i d acc ρ2 hd ⟨e2, ea⟩ => ?_, fun acc ρ2 ⟨e2, ea⟩ => ?_⟩⟩
  · subst e2 ea
    have hm := List.mem_of_getElem? hd
    have tk : ds.take (i + 1) = ds.take i ++ [d] := by rw [List.take_add_one, hd]; rfl
    refine wg_name ((ht d hm).imp fun c ρ4 ⟨ec, e4⟩ => ?_)
    subst e4
    cases c with
    | true =>
      rw [if_pos rfl]
      refine (he d hm ec.symm).imp fun y ρ5 ⟨ey, e5⟩ => ?_
      subst e5 ey
      refine ⟨w1 d, ?_⟩
      rw [tk, List.filter_append, List.map_append]
      show _ = _ ++ List.map f (List.filter b [d])
      rw [List.filter_cons, if_pos ec.symm]
      rfl
    | false =>
      rw [if_neg Bool.false_ne_true]
      refine ⟨w1 d, ?_⟩
      rw [tk, List.filter_append, List.map_append]
      show _ = _ ++ List.map f (List.filter b [d])
      rw [List.filter_cons, if_neg (by rw [← ec]; exact Bool.false_ne_true)]
      simp
  · subst e2 ea
    rw [List.take_length]
    exact z
/-- [f(d) for d in ..] -/
theorem w_lcM (f : Dt → Dt) (e : ρ[j]? = some .any) (h : WI K pf wi ρ fun ds ρ1 => ρ1 = ρ ∧ ds.length ≤ 50000 ∧
      (∀ d ∈ ds, Wp K pf te (ρ.set j (.dat d)) fun y ρ3 => y = f d ∧ ρ3 = ρ.set j (.dat d)) ∧ Φ (.lst (ds.map f)) ρ) : Wp K pf (tLc wi (gName j) tYes te [j]) ρ Φ :=
  w_lcF (fun _ => true) f e fun M σ H S R q => h M σ H S R fun J H1 ds ρ1 s1 S1 w ⟨e1, hz, he, z⟩ => q J H1 ds ρ1 s1 S1 w ⟨e1, hz, fun d _ => wt_yes ⟨rfl, rfl⟩, fun d hd _ => he d hd, by rw [List.filter_eq_self.mpr fun _ _ => rfl]; exact z⟩
theorem od_cat {ds es : List Dt} {Ψ : Dt → Prop} (hz : ds.length + es.length ≤ 100000) (h : Ψ (.lst (ds ++ es))) : OD K (rCatL K) (.lst ds) (.lst es) Ψ := fun M H u v m h1 h2 Q q => by
  cases h1 with
  | lst hs ha =>
    cases h2 with
    | lst ht hb =>
      exact ⟨_, _, _, _, rfl, rfl, (cut_sub M H).seq hs, (cut_sub M H).seq ht, by rw [ha.len, hb.len]; exact Nat.le_trans hz (by decide), fun p hp => q _ _ _ (same_new hp) (dx_new_l m hp (ha.append hb)) h⟩
end
end DL

/-! Data level: what the laws share: names, rows, kinds; the pen's own statements; what is no longer looked at. -/
namespace DL
open PySem PySem.Spec PyProof.Rows L2
variable [Tb]
/-! ### the built-ins that are meant -/
structure Bt (mg : Str → Option Value) : Prop where
  isi : mg "isinstance" = none
  int : mg "int" = none
  bool : mg "bool" = none
  str : mg "str" = none
  tuple : mg "tuple" = none
  list : mg "list" = none
  len : mg "len" = none
  all : mg "all" = none
  set : mg "set" = none
  range : mg "range" = none
  abs : mg "abs" = none
  repr : mg "repr" = none
  enumerate : mg "enumerate" = none
  sorted : mg "sorted" = none
/-! ### what is asked of a datum -/
def isInt : Dt → Bool
  | .int _ => true
  | _ => false
def isStr : Dt → Bool
  | .str _ => true
  | _ => false
def isTup : Dt → Bool
  | .tup _ => true
  | _ => false
abbrev noTy : Dt → Bool := kitD
theorem noTy_ne {d : Dt} (h : noTy d = true) : kitD d = true := h
theorem kit_int {d : Dt} (h : noTy d = true) : ∃ b, kitB (tyD d) "int" = some b ∧ (b = true → ∀ c, kitB (tyD d) "bool" = some c → isInt d = !c) ∧ (b = false → isInt d = false) := by
  cases d with
  | ty n => cases h
  | ins _ _ _ _ => cases h
  | cls _ => cases h
  | exc _ _ _ _ => cases h
  | int i => exact ⟨true, by (dsimp only [tyD, isStr, isTup]; decide +kernel), fun _ c e => by rw [show kitB (tyD (.int i)) "bool" = some false by (dsimp only [tyD, isStr, isTup]; decide +kernel)] at e; cases e; rfl, fun z => nomatch z⟩
  | bl i => exact ⟨true, by (dsimp only [tyD, isStr, isTup]; decide +kernel), fun _ c e => by rw [show kitB (tyD (.bl i)) "bool" = some true by (dsimp only [tyD, isStr, isTup]; decide +kernel)] at e; cases e; rfl, fun z => nomatch z⟩
  | _ => exact ⟨false, by (dsimp only [tyD, isStr, isTup]; decide +kernel), (fun z => nomatch z), fun _ => rfl⟩
theorem kit_bool {d : Dt} (h : noTy d = true) : ∃ b, kitB (tyD d) "bool" = some b := by
  cases d with
  | ty n => cases h
  | ins _ _ _ _ => cases h
  | cls _ => cases h
  | exc _ _ _ _ => cases h
  | bl i => exact ⟨true, by (dsimp only [tyD, isStr, isTup]; decide +kernel)⟩
  | _ => exact ⟨false, by (dsimp only [tyD, isStr, isTup]; decide +kernel)⟩
theorem kit_str {d : Dt} (h : noTy d = true) : kitB (tyD d) "str" = some (isStr d) := by
  cases d with
  | ty n => cases h
  | ins _ _ _ _ => cases h
  | cls _ => cases h
  | exc _ _ _ _ => cases h
  | _ => (dsimp only [tyD, isStr, isTup]; decide +kernel)
theorem kit_tup {d : Dt} (h : noTy d = true) : kitB (tyD d) "tuple" = some (isTup d) := by
  cases d with
  | ty n => cases h
  | ins _ _ _ _ => cases h
  | cls _ => cases h
  | exc _ _ _ _ => cases h
  | _ => (dsimp only [tyD, isStr, isTup]; decide +kernel)
theorem isStr_of {d : Dt} (h : isStr d = true) : ∃ z, d = .str z := by
  cases d with
  | str z => exact ⟨z, rfl⟩
  | _ => cases h
theorem isTup_of {d : Dt} (h : isTup d = true) : ∃ z, d = .tup z := by
  cases d with
  | tup z => exact ⟨z, rfl⟩
  | _ => cases h
theorem ifT {p q : Prop} (h : p) : if true = true then p else q := by rw [if_pos rfl]; exact h
theorem ifF {p q : Prop} (h : q) : if false = true then p else q := by rw [if_neg Bool.false_ne_true]; exact h
/-- small letters; names -/
def low (x : Str) : Bool := !decide (x.cps.toList < ("a" : Str).cps.toList) && !decide (("z" : Str).cps.toList < x.cps.toList)
def lowD : Dt → Bool
  | .str x => low x
  | _ => false
def isName : Dt → Bool
  | .str z => decide (1 ≤ z.length) && decide (z.length ≤ 8) && (DL.signs z).all lowD
  | _ => false
def isOwn : Dt → Bool
  | .str z => isName (.str z) && !decide (z = ("shore" : Str))
  | _ => false
/-- a text that len can tell -/
def shortD : Dt → Bool
  | .str z => decide (z.length ≤ 1000)
  | .ty _ | .ins _ _ _ _ | .cls _ | .exc _ _ _ _ => false
  | _ => true
theorem shortD_no {d : Dt} (h : shortD d = true) : noTy d = true := by
  cases d with
  | ty n => cases h
  | ins _ _ _ _ => cases h
  | cls _ => cases h
  | exc _ _ _ _ => cases h
  | _ => rfl
theorem len1000 {z : Str} (h : z.length ≤ 1000) : lenD (.str z) = some z.length := by
  show (if z.length ≤ sizeLine then some z.length else none) = _
  rw [if_pos (Nat.le_trans h (by decide))]
theorem signs_len (z : Str) : (DL.signs z).length = z.length := by unfold DL.signs; rw [List.length_map, Array.length_toList]; rfl
theorem signs_mem {z : Str} {d : Dt} (h : d ∈ DL.signs z) : ∃ c, d = .str ⟨#[c]⟩ := by
  unfold DL.signs at h
  obtain ⟨c, _, e⟩ := List.mem_map.mp h
  exact ⟨c, e.symm⟩
theorem map_bl (g : Dt → Bool) (ds : List Dt) : ds.map (fun d => Dt.bl (g d)) = (ds.map g).map Dt.bl := by rw [List.map_map]; rfl
theorem all_id (g : Dt → Bool) (ds : List Dt) : (ds.map g).all id = ds.all g := by rw [List.all_map]; rfl
theorem isName_str {d : Dt} (h : isName d = true) : ∃ z, d = .str z := by
  cases d with
  | str z => exact ⟨z, rfl⟩
  | _ => cases h
theorem isOwn_eq {z : Str} : isOwn (.str z) = (isName (.str z) && !decide (z = ("shore" : Str))) := rfl
theorem isOwn_no {d : Dt} (h : isName d = false) : isOwn d = false := by
  cases d with
  | str z => rw [isOwn_eq, h, Bool.false_and]
  | _ => rfl
theorem isOwn_str {d : Dt} (h : isOwn d = true) : ∃ z, d = .str z := by
  cases d with
  | str z => exact ⟨z, rfl⟩
  | _ => cases h
def strsOf : List Dt → List Str
  | [] => []
  | .str z :: ds => z :: strsOf ds
  | _ :: ds => strsOf ds
theorem strsOf_map : ∀ ss : List Str, strsOf (ss.map Dt.str) = ss
  | [] => rfl
  | z :: ss => by show z :: strsOf (ss.map Dt.str) = _; rw [strsOf_map ss]
theorem all_str {p : Dt → Bool} (hp : ∀ d, p d = true → ∃ z, d = .str z) : ∀ {ds : List Dt}, ds.all p = true → ∃ ss : List Str, ds = ss.map Dt.str
  | [], _ => ⟨[], rfl⟩
  | d :: ds, h => by
    rw [List.all_cons, Bool.and_eq_true] at h
    obtain ⟨z, rfl⟩ := hp d h.1
    obtain ⟨ss, rfl⟩ := all_str hp h.2
    exact ⟨z :: ss, rfl⟩
def rowIs (xs : List Dt) : Bool := xs.all isOwn && decide (strsOf xs).Nodup
def isRow : Dt → Int → Bool
  | .tup xs, m => decide ((xs.length : Int) ≤ m) && rowIs xs
  | _, _ => false
def wordOf (ms : List Str) : Dt → Bool
  | .str z => decide (z ∈ ms)
  | _ => false
theorem wordOf_str {ms : List Str} {d : Dt} (h : wordOf ms d = true) : ∃ z, d = .str z := by
  cases d with
  | str z => exact ⟨z, rfl⟩
  | _ => cases h
def isWords (ms : List Str) : Dt → Bool
  | .tup xs => !xs.isEmpty && (xs.all (wordOf ms) && decide (strsOf xs).Nodup)
  | _ => false
/-- a thing whose texts len can tell -/
def thingD : Dt → Bool
  | .tup xs => decide (xs.length ≤ 1000) && xs.all shortD
  | .ty _ | .ins _ _ _ _ | .cls _ | .exc _ _ _ _ => false
  | _ => true
theorem thingD_no {d : Dt} (h : thingD d = true) : noTy d = true := by
  cases d with
  | ty n => cases h
  | ins _ _ _ _ => cases h
  | cls _ => cases h
  | exc _ _ _ _ => cases h
  | _ => rfl
theorem thingD_tup {xs : List Dt} (h : thingD (.tup xs) = true) : xs.length ≤ 1000 ∧ ∀ x ∈ xs, shortD x = true := by
  have h : (decide (xs.length ≤ 1000) && xs.all shortD) = true := h
  rw [Bool.and_eq_true] at h
  exact ⟨of_decide_eq_true h.1, List.all_eq_true.mp h.2⟩
theorem uniq_dec (ss : List Str) : decide (((uniq ss).length : Int) = (ss.length : Nat)) = decide ss.Nodup := decide_eq_decide.mpr ⟨fun h => (uniq_nodup ss).mp (Int.ofNat.inj h), fun h => by rw [(uniq_nodup ss).mpr h]⟩
theorem filter_isEmpty {α : Type} (p : α → Bool) : ∀ xs : List α, (xs.filter p).isEmpty = xs.all fun x => !p x
  | [] => rfl
  | x :: xs => by
    rw [List.filter_cons, List.all_cons]
    cases c : p x with
    | true => rfl
    | false => rw [if_neg Bool.false_ne_true, filter_isEmpty p xs]; rfl
theorem map_isEmpty {α β : Type} (f : α → β) (xs : List α) : (xs.map f).isEmpty = xs.isEmpty := by cases xs <;> rfl
/-- the k-th is not among those before it -/
def freshAt (ss : List Str) (k : Nat) : Bool := match ss[k]? with
  | some z => !decide (z ∈ ss.take k)
  | none => true
theorem fresh_nodup : ∀ (ss : List Str) (n : Nat), n ≤ ss.length → ((List.range n).all (freshAt ss) = true ↔ (ss.take n).Nodup)
  | ss, 0, _ => by simp
  | ss, n + 1, h => by
    have hn : ss[n]? = some ss[n] := List.getElem?_eq_getElem h
    have tk : ss.take (n + 1) = ss.take n ++ [ss[n]] := by rw [List.take_add_one, hn]; rfl
    have ih := fresh_nodup ss n (by omega)
    rw [List.range_succ, List.all_append, Bool.and_eq_true, ih, tk, List.nodup_append]
    have e : [n].all (freshAt ss) = !decide (ss[n] ∈ ss.take n) := by
      show (freshAt ss n && true) = _
      unfold freshAt
      rw [hn, Bool.and_true]
    rw [e]
    constructor
    · rintro ⟨h1, h2⟩
      have h2 : ss[n] ∉ ss.take n := by simpa using h2
      exact ⟨h1, by simp, fun a ha b hb => by
        have := List.mem_singleton.mp hb
        subst this
        exact fun z => h2 (z ▸ ha)⟩
    · rintro ⟨h1, _, h3⟩
      refine ⟨h1, ?_⟩
      have : ss[n] ∉ ss.take n := fun z => h3 _ z _ (by simp) rfl
      simpa using this
theorem fresh_all (ss : List Str) : (List.range ss.length).all (freshAt ss) = decide ss.Nodup := by
  have := fresh_nodup ss ss.length (Nat.le_refl _)
  rw [List.take_length] at this
  cases c : (List.range ss.length).all (freshAt ss) with
  | true => exact (decide_eq_true (this.mp c)).symm
  | false => exact (decide_eq_false fun z => by rw [this.mpr z] at c; cases c).symm
/-- k as a datum: whether it is a double -/
def dupD (ss : List Str) : Dt → Bool
  | .int i => !freshAt ss i.toNat
  | _ => false
theorem rangeD_dup (ss : List Str) : ((rangeD 0 (((ss.length : Nat) : Int)).toNat).filter (dupD ss)).isEmpty = decide ss.Nodup := by
  rw [filter_isEmpty, ← fresh_all]
  unfold rangeD
  rw [List.all_map, Int.toNat_natCast]
  congr 1
  funext a
  show (!dupD ss (.int (0 + (a : Nat)))) = _
  show (!(!freshAt ss (0 + (a : Int)).toNat)) = _
  rw [Bool.not_not, Int.zero_add, Int.toNat_natCast]
theorem rangeD_mem {n : Nat} {d : Dt} (h : d ∈ rangeD 0 n) : ∃ i : Nat, i < n ∧ d = .int i := by
  unfold rangeD at h
  obtain ⟨i, hi, e⟩ := List.mem_map.mp h
  exact ⟨i, List.mem_range.mp hi, by rw [← e, Int.zero_add]⟩
section
variable {K : PySem.W.Frag} {pf : Bool} {ρ : List Sl} {Φ : Dt → List Sl → Prop}
theorem w_isi {i : Nat} {c : String} {d : Dt} {b : Bool} (e : ρ[i]? = some (.dat d)) (hd : noTy d = true) (hk : kitB (tyD d) c = some b) (h : Φ (.bl b) ρ) : Wp K pf (tCB (rIsi K) (tCons (tVar i) (tCons (tC (.ty c)) tNil))) ρ Φ :=
  w_cb <| wa_cons <| w_var e <| wa_cons <| w_c (fun _ => .ty c) <| wa_nil <| rd_isi (noTy_ne hd) hk h
end
section
variable {K : PySem.W.Frag} {pf : Bool} {ρ : List Sl} {Φ : Dt → List Sl → Prop}
/-- [k for k in range(len(t)) if t[k] in t[:k]] == [] -/
theorem w_dups {i j : Nat} {ss : List Str} (e0 : ρ[i]? = some (.dat (.tup (ss.map Dt.str)))) (ej : ρ[j]? = some .any) (hij : j ≠ i) (hz : ss.length ≤ 1000) (h : Φ (.bl (decide ss.Nodup)) ρ) :
    Wp K pf (tOp (rEqNil K) (tLc (iRng1 (tCons (tCB (fun xs H Q => ∃ x n, xs = [x] ∧ LenV K x H n ∧ Q (.int n) H) (tCons (tVar i) tNil)) tNil)) (gName j)
      (tTest (tOp (rIn K false) (tOp (rIxT K) (tVar i) (tVar j)) (tSl (rSlA K) (tVar i) tNoPart (tPart (tVar j))))) (tVar j) [j]) (tLst tNil)) ρ Φ := by
  have hl : (ss.map Dt.str).length = ss.length := List.length_map _
  have a0 : ∀ s, (ρ.set j s)[i]? = some (.dat (.tup (ss.map Dt.str))) := fun s => by rw [List.getElem?_set_ne hij]; exact e0
  have aj : ∀ s, (ρ.set j s)[j]? = some s := fun s => List.getElem?_set_self (List.getElem?_eq_some_iff.mp ej).1
  refine w_op <| w_lcF (dupD ss) (fun d => d) ej <| wi_rng1 <| wa_cons <| w_cb <| wa_cons <| w_var e0 <| wa_nil <| rd_len rfl <| wa_nil ⟨_, rfl, by omega, by omega, rfl, by rw [rangeD_len]; omega, fun d hm => ?_, fun d hm _ => w_var (aj _) ⟨rfl, rfl⟩, ?_⟩
  · obtain ⟨n, hn, rfl⟩ := rangeD_mem hm
    have hn : n < ss.length := by omega
    have e1 : (ss.map Dt.str)[n]? = some (.str ss[n]) := by rw [List.getElem?_map, List.getElem?_eq_getElem hn]; rfl
    refine wt_test <| w_op <| w_op <| w_var (a0 _) <| w_var (aj _) <| od_ixT (atI_nat' e1) <| w_sl <| w_var (a0 _) <| wo_none <| wo_some <| w_var (aj _) ⟨_, rfl, sd_tup ?_⟩
    rw [cutD_to n rfl, ← List.map_take]
    refine od_inS (neg := false) (xs := ss.take n) rfl ⟨_, rfl, ?_, rfl⟩
    show decide _ = !freshAt ss ((n : Nat) : Int).toNat
    rw [Int.toNat_natCast]
    unfold freshAt
    rw [List.getElem?_eq_getElem hn]
    show _ = !!_
    rw [Bool.not_not]
  · refine w_lst <| wa_nil ⟨Nat.zero_le _, od_eqNil ?_⟩
    rw [map_isEmpty, hl, rangeD_dup]
    exact h
end
theorem in_seqK {X : Cx} (K : PySem.W.Frag) (h : X.K = K) : OpR X (compareOp .In) (rIn K false) := by subst h; exact op_in_seq
theorem notIn_seqK {X : Cx} (K : PySem.W.Frag) (h : X.K = K) : OpR X (compareOp .NotIn) (rIn K true) := by subst h; exact op_notIn_seq
theorem isiK {X : Cx} (K : PySem.W.Frag) (h : X.K = K) : CallR X (.builtin "isinstance") (rIsi K) := by subst h; exact call_isi
theorem ixK {X : Cx} (K : PySem.W.Frag) (h : X.K = K) : IxR X (rIx K) := by subst h; exact ix_seq
theorem ixTK {X : Cx} (K : PySem.W.Frag) (h : X.K = K) : IxR X (rIxT K) := by subst h; exact ix_tup
theorem slTK {X : Cx} (K : PySem.W.Frag) (h : X.K = K) : SlR X (rSlA K) := by subst h; exact sl_tupA
theorem lenK {X : Cx} (K : PySem.W.Frag) (h : X.K = K) : CallR X (.builtin "len") (fun xs H Q => ∃ x n, xs = [x] ∧ LenV K x H n ∧ Q (.int n) H) := by subst h; exact call_len
theorem allK {X : Cx} (K : PySem.W.Frag) (h : X.K = K) (hc : X.calm = true) : CallR X (.builtin "all") (rAll K) := by subst h; exact cr_all hc
theorem listK {X : Cx} (K : PySem.W.Frag) (h : X.K = K) : CallR X (.type "list") (fun xs H Q => ∃ p ys, xs = [.ref p] ∧ (SqL K H p ys ∨ SqT K H p ys) ∧ ∀ l, H l = none → Q (.ref l) (upd H l (.lst ys))) := by subst h; exact call_list_of
theorem tupleK {X : Cx} (K : PySem.W.Frag) (h : X.K = K) : CallR X (.type "tuple") (fun xs H Q => ∃ p ys, xs = [.ref p] ∧ ((SqL K H p ys ∧ ∀ l, H l = none → Q (.ref l) (upd H l (.tup ys))) ∨ (SqT K H p ys ∧ Q (.ref p) H))) := by subst h; exact call_tuple_of
theorem slK {X : Cx} (K : PySem.W.Frag) (h : X.K = K) : SlR X (rSlL K) := by subst h; exact sl_list
section
variable {K : PySem.W.Frag} {ρ : List Sl} {t u : TS} {D : DE}
theorem ws_seqI (I : List Sl → Prop) (h : Ws K t ρ { D with nx := I }) (k : ∀ ρ', I ρ' → Ws K u ρ' D) : Ws K (tSeq t u) ρ D := fun M σ H S E k0 =>
  h M σ H S { E with nx := u E } ⟨fun M' σ' H' ρ' s S' z => k ρ' z M' σ' H' S' E (k0.step s), k0.rt, k0.bk, k0.ct, k0.ex⟩
end
/-! ### what is no longer looked at -/
inductive Wk : List Sl → List Sl → Prop
  | nil : Wk [] []
  | keep {s : Sl} {r r' : List Sl} : Wk r r' → Wk (s :: r) (s :: r')
  | drop {s : Sl} {r r' : List Sl} : Wk r r' → Wk (s :: r) (.any :: r')
theorem Wk.len {r r' : List Sl} (h : Wk r r') : r.length = r'.length := by
  induction h with
  | nil => rfl
  | keep _ ih => show _ + 1 = _ + 1; rw [ih]
  | drop _ ih => show _ + 1 = _ + 1; rw [ih]
theorem Wk.at {r r' : List Sl} (h : Wk r r') : ∀ (i : Nat) (s : Sl), r'[i]? = some s → s = .any ∨ r[i]? = some s := by
  induction h with
  | nil => intro i s e; simp at e
  | @keep t r r' _ ih =>
    intro i s e
    cases i with
    | zero => exact .inr e
    | succ i => rw [List.getElem?_cons_succ] at e ⊢; exact ih i s e
  | @drop t r r' _ ih =>
    intro i s e
    cases i with
    | zero => exact .inl (Option.some.inj e).symm
    | succ i => rw [List.getElem?_cons_succ] at e ⊢; exact ih i s e
section
variable {K : PySem.W.Frag} {ρ ρ' : List Sl} {t : TS} {D : DE}
theorem Wk.sd {M : Md} {H : Hp} {σ : L2.St} (h : Wk ρ ρ') (S : Sd K M H σ ρ) : Sd K M H σ ρ' := by
  refine ⟨by rw [← h.len]; exact S.len, by rw [← h.len]; exact S.olen, S.mok, fun i s e => ?_⟩
  rcases h.at i s e with z | z
  · subst z
    have hi : i < σ.length := by rw [S.len, h.len]; exact (List.getElem?_eq_some_iff.mp e).1
    exact ⟨_, List.getElem?_eq_getElem hi, trivial⟩
  · exact S.ok i s z
theorem ws_wk (h : Ws K t ρ { D with nx := fun ρ1 => ∃ ρ2, Wk ρ1 ρ2 ∧ D.nx ρ2 }) : Ws K t ρ D := fun M σ H S E k =>
  h M σ H S E ⟨fun M' σ' H' ρ1 s S' ⟨ρ2, w, z⟩ => k.nx M' σ' H' ρ2 s (w.sd S') z, k.rt, k.bk, k.ct, k.ex⟩
variable {pf : Bool} {Φ : Dt → List Sl → Prop}
theorem w_isInt {i : Nat} {d : Dt} (e : ρ[i]? = some (.dat d)) (hd : noTy d = true) (h : Φ (.bl (isInt d)) ρ) :
    Wp K pf (tAndV (tCB (rIsi K) (tCons (tVar i) (tCons (tC (.ty "int")) tNil))) (tNotV (tCB (rIsi K) (tCons (tVar i) (tCons (tC (.ty "bool")) tNil))))) ρ Φ := by
  obtain ⟨b, k1, k2, k3⟩ := kit_int hd
  obtain ⟨c, k4⟩ := kit_bool hd
  refine w_andV <| w_isi e hd k1 ⟨b, rfl, ?_⟩
  cases b with
  | true => exact ifT <| w_notV <| w_isi e hd k4 ⟨c, rfl, by rw [← k2 rfl c k4]; exact h⟩
  | false => exact ifF (by rw [← k3 rfl]; exact h)
end
/-- a def of the top: where it stands, how it is called -/
structure DF (K : PySem.W.Frag) (mg : Str → Option Value) (x : Str) (st : Stmt) (ps : List Str) where
  f : Addr
  fd : FuncData
  F : Fun K x x st f fd
  b : Binds K fd ps []
  g : mg x = some (.ref f)
section
variable {K : PySem.W.Frag} {pf : Bool} {ρ : List Sl} {tk : TA} {Φ : Dt → List Sl → Prop}
theorem w_callK {W : List Dt → (Dt → Prop) → Prop} {gV : List V → List V → List V} {E : XK} (hg : ∀ zs, gV [] zs = zs) (h : Wa K pf tk ρ fun ds ρ1 => W ds fun d => Φ d ρ1) : Wp K pf (tCallK (spP K W) gV E tNil tk) ρ Φ := fun M σ H S Q q => by
  have := w_call0 (E := E) h M σ H S Q q
  show tk σ H fun zs H2 => spP K W (gV [] zs) H2 Q E
  have e : (fun zs H2 => spP K W (gV [] zs) H2 Q E) = fun zs H2 => spP K W (zs ++ []) H2 Q E := by
    funext zs H2
    rw [hg, List.append_nil]
  rw [e]
  exact this
end
/-- two keywords, nothing by position -/
def gKw {α : Type} (us ws : List α) : List α := if us.isEmpty then ws else []
theorem gKw_nil {α : Type} (ws : List α) : gKw [] ws = ws := rfl
section
variable {P : Program} {w : World} {K : PySem.W.Frag} {mg : Str → Option Value} {base : Heap}
def spPen (K : PySem.W.Frag) : Sp := fun vs H Q _ => ∃ (a : Addr) (ns : List Int), vs = [.ref a] ∧ SqL K H a (ns.map V.int) ∧
  ∀ H' p l, Same H H' → H p = none → H l = none → p ≠ l → H' p = some (.lst [.ref l, .int 0, .int 0]) → H' l = some (.lst ((ns.take 63).map V.int)) → Q (.ref p) H'
theorem cutV_to {xs : List V} (n : Nat) : cutV xs none (some (n : Int)) = xs.take n := by
  unfold cutV
  rw [HT.sIx_none, HT.sIx_nat, List.drop_zero, Nat.sub_zero]
  by_cases c : n ≤ xs.length
  · rw [Nat.min_eq_left c]
  · rw [Nat.min_eq_right (by omega), List.take_of_length_le (Nat.le_refl _), List.take_of_length_le (by omega)]
/-- the law's head: the pen is made -/
theorem pen_head {N : List Str} {k : Nat} {u : TS} {E0 : XK} {Q : VK} {a : Addr} {ns : List Int} {H : Hp} (hN : N.length = k + 2) (hT : ∀ t ∈ Tb.T, H t.1 = some (.tbl #[])) (hS : SqL K H a (ns.map V.int)) (hlen : ns.length ≤ 63) (q : ∀ H', Q (.bl true) H')
    (h : Ws K u (.dat (.lst (ns.map Dt.int)) :: .pen 0 :: List.replicate k .any) { nx := fun _ => False, rt := fun d _ => d = .bl true }) :
    tSeq (tAsg (tCall (spPen K) [] E0 (tCons (tVar 0) tNil)) (gName 1)) u { nx := fun _ H' => Q .non H', rt := Q } (L2.start N [.ref a]) H := by
  refine ⟨.ref a, rfl, a, ns, rfl, hS, fun H' p l sm np nl npl ep el => ?_⟩
  have asInts : ∀ {H : Hp} (ns : List Int), DXs K H (ns.map V.int) (ns.map Dt.int) := fun {H} ns => by
    induction ns with
    | nil => exact .nil
    | cons n r ih => exact .cons (.int n) ih
  have has : ∀ x, (⟨some p, [], List.replicate (k + 2) none⟩ : Md).has x → x = p ∨ ∃ t ∈ Tb.T, t.1 = x := fun x z => by
    rcases z with z | z | z
    · rcases z with z | ⟨t, ht, e⟩
      · exact .inl (Option.some.inj z).symm
      · exact .inr ⟨t, ht, e⟩
    · cases z
    · exact (no_rep z).elim
  have sc : ∀ x o, H x = some o → (∀ ps, o ≠ .tbl ps) → cut ⟨some p, [], List.replicate (k + 2) none⟩ H' x = some o := fun x o z n => cut_at (fun c => by
    rcases has x c with e | ⟨t, ht, e⟩
    · rw [e, np] at z; cases z
    · rw [← e, hT t ht] at z; exact n _ (Option.some.inj z).symm) (sm x o z)
  have el' : cut ⟨some p, [], List.replicate (k + 2) none⟩ H' l = some (.lst ((ns.take 63).map V.int)) := cut_at (fun c => by
    rcases has l c with e | ⟨t, ht, e⟩
    · exact npl e.symm
    · rw [← e, hT t ht] at nl; cases nl) el
  have hS' : SqL K (cut ⟨some p, [], List.replicate (k + 2) none⟩ H') a (ns.map V.int) := by
    rcases hS with (h | ⟨o, h⟩) | h
    · exact .inl (.inl (sc _ _ h fun ps z => by cases z))
    · exact .inl (.inr ⟨o, sc _ _ h fun ps z => by cases z⟩)
    · exact .inr h
  have tb0 : TabsM ⟨some p, [], List.replicate (k + 2) none⟩ H' := fun t ht => ⟨#[], sm _ _ (hT t ht), True.intro, fun pos cv hc => by
    have z : codeAmong pos [] = some cv := hc
    simp [codeAmong] at z⟩
  refine h ⟨some p, [], List.replicate (k + 2) none⟩ _ H' ⟨?_, ?_, ⟨fun x z => by
      rcases has x z with e | ⟨t, ht, e⟩
      · rw [e]; exact ⟨_, ep⟩
      · rw [← e]; exact ⟨_, sm _ _ (hT t ht)⟩, fun x _ => ⟨(fun z => nomatch z), no_rep⟩, fun x z => (nomatch z), fun i j x z => ?_, tb0⟩, fun i s z => ?_⟩ _ ⟨fun _ _ _ _ _ _ z => z.elim, fun M' v H2 d ρ' σ' _ _ x e => ?_, fun _ _ _ _ _ _ z => z.elim, fun _ _ _ _ _ _ z => z.elim, fun _ _ _ _ _ _ _ _ _ _ _ _ z => z.elim⟩
  · unfold L2.start
    simp only [List.length_set, List.length_append, List.length_map, List.length_replicate, List.length_cons, List.length_nil]
    omega
  · show (List.replicate (k + 2) none).length = _
    simp only [List.length_replicate, List.length_cons]
  · have z : (List.replicate (k + 2) (none : Option Addr))[i]? = some (some x) := z
    rw [List.getElem?_replicate] at z
    split at z <;> cases z
  · cases i with
    | zero =>
      have z := Option.some.inj (show some (Sl.dat (.lst (ns.map Dt.int))) = some s from z)
      subst z
      exact ⟨some (.ref a), rfl, .ref a, rfl, .lst hS' (asInts ns)⟩
    | succ i =>
      cases i with
      | zero =>
        have z := Option.some.inj (show some (Sl.pen 0) = some s from z)
        subst z
        have e : ((L2.start N [.ref a]).set 1 (some (.ref p)))[1]? = some (some (.ref p)) := List.getElem?_set_self (by
          unfold L2.start
          simp only [List.length_append, List.length_map, List.length_replicate, List.length_cons, List.length_nil]
          omega)
        exact ⟨_, e, p, rfl, rfl, l, ns.take 63, 0, 0, ep, .inl (.inl el'), Nat.le_refl _, by decide, by rw [List.length_take]; omega⟩
      | succ i =>
        have z : (List.replicate k Sl.any)[i]? = some s := z
        have hi : i < k := by
          have := (List.getElem?_eq_some_iff.mp z).1
          rwa [List.length_replicate] at this
        have es : s = .any := by
          rw [List.getElem?_replicate, if_pos hi] at z
          exact (Option.some.inj z).symm
        subst es
        have hl : i + 1 + 1 < ((L2.start N [.ref a]).set 1 (some (.ref p))).length := by
          unfold L2.start
          simp only [List.length_set, List.length_append, List.length_map, List.length_replicate, List.length_cons, List.length_nil]
          omega
        exact ⟨_, List.getElem?_eq_getElem hl, trivial⟩
  · subst e
    show Q v H2
    rw [x.bl_eq]
    exact q H2
end
inductive Fac (K : PySem.W.Frag) (x : Str) (st : Stmt) : Prop
  | mk {f : Addr} {od an : Option Addr} {sl : Array (Option Value)} {oc kV dc pm cd ct : Value} (a : PySem.W.nsIn K mainGlobals x = some (some (.ref f)))
      (l : K.lookup f = some ⟨oc, od, .func (PySem.W.fnOf x x (defArgs st) (defBody st) (defScope st) .none kV dc pm an cd ct), sl⟩) (c : PySem.W.codeIn K cd x = true) (k : PySem.W.keepIn K (.ref f) = true) : Fac K x st
theorem Fac.df {K : PySem.W.Frag} {x : Str} {st : Stmt} {h : Heap} {mg : Str → Option Value} {ps : List Str} (F : Fac K x st) (X : K.In h) (G : h.Ns mainGlobals mg)
    (hb : ∀ (kV doc pm : Value) (an : Option Addr) (cdv ct : Value) (us : List Value), us.length = ps.length → bindArgs (PySem.W.fnOf x x (defArgs st) (defBody st) (defScope st) .none kV doc pm an cdv ct) ⟨us, []⟩ = pure (ps.zip us)) : Nonempty (DF K mg x st ps) := by
  cases F with
  | mk a l c k =>
    have F := fun_mk (st := st) l c k
    exact ⟨⟨_, _, F, F.binds hb, PySem.W.mg_of X G a⟩⟩
end DL

/-! Data level: dicts of one's own. -/
namespace DL
open PySem PySem.Spec PyProof.Rows L2
variable [Tb]

def putD (kvs : List (Key × Dt)) (k : Key) (d : Dt) : List (Key × Dt) :=
  if (kvs.any fun kv => decide (kv.1 = k)) = true then kvs.map (fun kv => if kv.1 = k then (kv.1, d) else kv) else kvs ++ [(k, d)]
section
variable {K : PySem.W.Frag} {H : Hp}
theorem DXk.any {k : Key} : ∀ {kvs : List (Key × V)} {ds : List (Key × Dt)}, DXk K H kvs ds → (kvs.any fun kv => decide (kv.1 = k)) = ds.any fun kv => decide (kv.1 = k)
  | _, [], x => by cases x; rfl
  | _, _ :: ds, x => by
    cases x with
    | cons x1 x2 => rw [List.any_cons, List.any_cons, DXk.any (ds := ds) x2]
theorem DXk.upd1 {k : Key} {v : V} {d : Dt} (y : DX K H v d) : ∀ {kvs : List (Key × V)} {ds : List (Key × Dt)}, DXk K H kvs ds → DXk K H (kvs.map fun kv => if kv.1 = k then (kv.1, v) else kv) (ds.map fun kv => if kv.1 = k then (kv.1, d) else kv)
  | _, [], x => by cases x; exact .nil
  | _, (k1, d1) :: ds, x => by
    cases x with
    | @cons _ v1 vs _ _ x1 x2 =>
      rw [List.map_cons, List.map_cons]
      by_cases c : k1 = k
      · rw [if_pos c, if_pos c]; exact .cons y (DXk.upd1 y (ds := ds) x2)
      · rw [if_neg c, if_neg c]; exact .cons x1 (DXk.upd1 y (ds := ds) x2)
theorem DXk.snoc {k : Key} {v : V} {d : Dt} (y : DX K H v d) : ∀ {kvs : List (Key × V)} {ds : List (Key × Dt)}, DXk K H kvs ds → DXk K H (kvs ++ [(k, v)]) (ds ++ [(k, d)])
  | _, [], x => by cases x; exact .cons y .nil
  | _, (k1, d1) :: ds, x => by
    cases x with
    | cons x1 x2 => exact .cons x1 (DXk.snoc y (ds := ds) x2)
theorem DXk.put {k : Key} {v : V} {d : Dt} {kvs : List (Key × V)} {ds : List (Key × Dt)} (x : DXk K H kvs ds) (y : DX K H v d) : DXk K H (putK kvs k v) (putD ds k d) := by
  unfold putK putD
  rw [x.any]
  split
  · exact x.upd1 y
  · exact x.snoc y
theorem DXk.len : ∀ {ds : List (Key × Dt)} {kvs : List (Key × V)}, DXk K H kvs ds → kvs.length = ds.length
  | [], _, h => by cases h; rfl
  | _ :: ds, _, h => by
    cases h with
    | cons h1 h2 => show _ + 1 = _ + 1; rw [DXk.len (ds := ds) h2]
end
section
variable {K : PySem.W.Frag} {ρ : List Sl} {te ti tk : TE} {tt : TT} {t u : TS} {D : DE} {i : Nat} {pf : Bool} {kvs : List (Key × Dt)}
theorem ws_newdict (hi : i < ρ.length) (h : D.nx (ρ.set i (.ownd []))) : Ws K (tAsg tDNewK (gName i)) ρ D := fun M σ H S E k q hq =>
  k.nx _ _ _ _ (Stp.own hq (same_new hq)) ((S.same (same_new hq)).ownd hi (S.mok.new hq) upd_same .nil (S.aside hq (same_new hq) upd_same)) h
theorem ws_dput {x : Str} (e0 : ρ[i]? = some (.ownd kvs)) (h : Wp K pf te ρ fun d ρ1 => ∃ kvs1, ρ1[i]? = some (.ownd kvs1) ∧ kvs1.length < 100000 ∧ D.nx (ρ1.set i (.ownd (putD kvs1 (.inr x) d)))) : Ws K (sDPut (tVar i) (tC (.str x)) te) ρ D := fun M σ H S E k => by
  obtain ⟨o, h1, l, vs0, e1, e2, e3, e4⟩ := S.ok i _ e0
  subst e1
  refine h M σ H S _ fun v H1 d ρ1 s1 S1 x1 ⟨kvs1, g1, g2, g3⟩ => ?_
  obtain ⟨o', z1, l', vs, y1, y2, y3, y4⟩ := S1.ok i _ g1
  have el : l' = l := Option.some.inj (Option.some.inj (y2.symm.trans e2))
  subst el
  refine ⟨.ref l', h1, l', _, rfl, .inl ⟨vs, .inr x, y3, rfl, by rw [y4.len]; exact Nat.lt_of_lt_of_le g2 (by decide), rfl⟩, ?_⟩
  obtain ⟨S3, s3⟩ := S1.writed (vs := vs) g1 y2 (y4.put x1)
  exact k.nx M σ _ _ (s1.st.trans s3) S3 g3
/-- a dict of one's own given out of hand -/
theorem Sd.freezed {M : Md} {H : Hp} {σ : L2.St} (S : Sd K M H σ ρ) (hs : ρ[i]? = some (.ownd kvs)) :
    ∃ a, Sd K { M with O := M.O.set i none } H σ (ρ.set i (.dat (.dct a kvs))) ∧ Stp M H { M with O := M.O.set i none } H := by
  have hO : ∀ a, some a ∈ M.O.set i none → some a ∈ M.O := fun a h => by
    rcases List.mem_or_eq_of_mem_set h with z | z
    · exact z
    · cases z
  have has : ∀ a, ({ M with O := M.O.set i none } : Md).has a → M.has a := fun a h => by
    rcases h with h | h | h
    · exact .inl h
    · exact .inr (.inl h)
    · exact .inr (.inr (hO a h))
  have sc : Same (cut M H) (cut { M with O := M.O.set i none } H) := cut_le has
  obtain ⟨o0, h0, l, vs, e0, e1, e2, e3⟩ := S.ok i _ hs
  have hset : ∀ (j : Nat) (a : Addr), (M.O.set i none)[j]? = some (some a) → i ≠ j ∧ M.O[j]? = some (some a) := fun j a h => by
    by_cases e : i = j
    · subst e
      rw [List.getElem?_set_self (List.getElem?_eq_some_iff.mp e1).1] at h
      cases Option.some.inj h
    · rw [List.getElem?_set_ne e] at h
      exact ⟨e, h⟩
  have nl : ¬ ({ M with O := M.O.set i none } : Md).has l := fun z => by
    have hm := List.mem_of_getElem? e1
    rcases z with z | z | z
    · exact (S.mok.pF l z).2 hm
    · exact S.mok.FO l z hm
    · obtain ⟨j, hj⟩ := List.getElem?_of_mem z
      obtain ⟨n, h2⟩ := hset j l hj
      exact n (S.mok.nd i j l e1 h2)
  refine ⟨l, ⟨by rw [List.length_set]; exact S.len, by show (M.O.set i none).length = _; rw [List.length_set, List.length_set]; exact S.olen, ⟨fun a h => S.mok.live a (has a h), fun a h => ⟨(S.mok.pF a h).1, fun z => (S.mok.pF a h).2 (hO a z)⟩, fun a h z => S.mok.FO a h (hO a z), fun j k a h1 h2 => S.mok.nd j k a (hset j a h1).2 (hset k a h2).2, S.mok.tbU rfl (fun _ _ _ z => z) sc⟩, fun j s h => ?_⟩, ⟨rfl, rfl, fun a o z c d => ⟨z, fun y => d (hO a y)⟩⟩⟩
  by_cases e : i = j
  · subst e
    rw [List.getElem?_set_self (by rw [← S.len]; exact S.slot hs)] at h
    have h := Option.some.inj h
    subst h
    exact ⟨o0, h0, .ref l, e0, .dct (.inl (cut_at nl e2)) (e3.mono sc)⟩
  · rw [List.getElem?_set_ne e] at h
    obtain ⟨o, h1, h2⟩ := S.ok j s h
    refine ⟨o, h1, ?_⟩
    cases s with
    | any => trivial
    | dat d => obtain ⟨v, a1, a2⟩ := h2; exact ⟨v, a1, a2.mono sc⟩
    | val u d => obtain ⟨a1, a2⟩ := h2; exact ⟨a1, a2.mono sc⟩
    | own es =>
      obtain ⟨l', ws', a1, a2, a3, a4⟩ := h2
      exact ⟨l', ws', a1, by show (M.O.set i none)[j]? = _; rw [List.getElem?_set_ne e]; exact a2, a3, a4.mono sc⟩
    | obj C0 b0 ns0 es =>
      obtain ⟨l', dx0, ws', a1, a2, a3, a5, a4⟩ := h2
      exact ⟨l', dx0, ws', a1, by show (M.O.set i none)[j]? = _; rw [List.getElem?_set_ne e]; exact a2, a3, a5, a4.mono sc⟩
    | ownd es =>
      obtain ⟨l', ws', a1, a2, a3, a4⟩ := h2
      exact ⟨l', ws', a1, by show (M.O.set i none)[j]? = _; rw [List.getElem?_set_ne e]; exact a2, a3, a4.mono sc⟩
    | pen m =>
      obtain ⟨p', a1, a2, l', ns, c, g, b1, b2, b3⟩ := h2
      exact ⟨p', a1, a2, l', ns, c, g, b1, sc.seq b2, b3⟩
    | pown es => obtain ⟨p', ws', a1, a2, a3, a4⟩ := h2; exact ⟨p', ws', a1, a2, a3, a4.mono sc⟩
theorem ws_freezed (hs : ρ[i]? = some (.ownd kvs)) (h : ∀ a, Ws K t (ρ.set i (.dat (.dct a kvs))) D) : Ws K t ρ D := fun M σ H S E k =>
  let ⟨a, S2, s2⟩ := S.freezed hs
  h a _ σ H S2 E (k.step s2)
/-- .. behind the statement -/
theorem ws_frz (h : Ws K t ρ { D with nx := fun ρ1 => ∃ kvs, ρ1[i]? = some (.ownd kvs) ∧ ∀ a, D.nx (ρ1.set i (.dat (.dct a kvs))) }) : Ws K t ρ D := fun M σ H S E k =>
  h M σ H S E ⟨fun M' σ' H' ρ1 s S' ⟨kvs, e, z⟩ => let ⟨a, S2, s2⟩ := S'.freezed e; k.nx _ σ' H' _ (s.trans s2) S2 (z a), k.rt, k.bk, k.ct, k.ex⟩
theorem wp_thawd {Φ : Dt → List Sl → Prop} (hs : ρ[i]? = some (.ownd kvs)) (h : ∀ a, Wp K true te (ρ.set i (.dat (.dct a kvs))) fun d _ => flatD d = true ∧ Φ d ρ) : Wp K pf te ρ Φ := fun M σ H S Q q =>
  let ⟨a, S2, _⟩ := S.freezed hs
  h a _ σ H S2 Q fun v H2 d ρ' s S3 x ⟨f, z⟩ => q v H2 d ρ (Tr.same pf M (s.sm rfl)) (S.same (s.sm rfl)) (flat_any f x) z
theorem wt_thawd {Φ : Bool → List Sl → Prop} (hs : ρ[i]? = some (.ownd kvs)) (h : ∀ a, Wt K true tt (ρ.set i (.dat (.dct a kvs))) fun b _ => Φ b ρ) : Wt K pf tt ρ Φ := fun M σ H S Q q =>
  let ⟨a, S2, _⟩ := S.freezed hs
  h a _ σ H S2 Q fun b H2 ρ' s S3 z => q b H2 ρ (Tr.same pf M (s.sm rfl)) (S.same (s.sm rfl)) z
end
end DL

/-! Data level: instances of own classes: fields, properties, dict parts; sorted of texts; what is made by a class. -/
namespace DL
open PySem PySem.Spec PyProof.Rows L2
variable [Tb]

/-! ### sorted(texts) -/
def rSortedS (K : PySem.W.Frag) : List V → Hp → VK → Prop := fun vs H Q => ∃ (a : Addr) (ss : List Str), vs = [V.ref a] ∧ (SqL K H a (ss.map V.str) ∨ SqL K H a (ss.map V.str)) ∧
  ∀ (ss' : List Str) (p : Addr), ss'.Perm ss → sortedS ss' = true → H p = none → Q (.ref p) (upd H p (.lst (ss'.map V.str)))
theorem cr_sortedS {X : Cx} : CallR X (.builtin "sorted") (rSortedS X.K) := by
  intro pins s σ H vs us Q I r h
  obtain ⟨a, ss, rfl, hs, q⟩ := h
  have hs : SqL X.K H a (ss.map V.str) := by rcases hs with z | z <;> exact z
  obtain ⟨its, rv, hl, hz⟩ := I.list hs
  rw [Vals.ref1 r]
  refine PyProof.Rows.sorted_strsAny hl.isList rv.strs (by rw [← rv.length]; exact hz) fun out ss' h1 h2 h3 => ?_
  obtain ⟨ep, he'⟩ := PyProof.Rows.sortedAll_at s.heap its out
  have hlen : (ss'.map V.str).length ≤ sizeLine := by
    rw [List.length_map, h2.length_eq]
    rw [List.length_map] at hz
    exact hz
  exact ⟨.ref _, upd H (s.heap.objs.size + 1) (.lst (ss'.map V.str)), I.laid (t' := s.toks) (fun _ _ => PyProof.Rows.sortedAll_old) (Nat.le_succ _) ⟨hlen, out.toList, ep, vals_of_strs h1, he'⟩, rfl, q _ _ h2 h3 (I.hok.fresh (Nat.le_succ _))⟩
section
variable {K : PySem.W.Frag} {Ψ : Dt → Prop} {ss : List Str}
theorem dxs_strs {H : Hp} : ∀ ss : List Str, DXs K H (ss.map V.str) (ss.map Dt.str)
  | [] => .nil
  | s :: r => .cons (.str s) (dxs_strs r)
theorem rd_sortedS (h : ∀ ss', ss'.Perm ss → sortedS ss' = true → Ψ (.lst (ss'.map Dt.str))) : RD K (rSortedS K) [.lst (ss.map Dt.str)] Ψ := fun M H vs m xx Q q => by
  obtain ⟨v, rfl, x⟩ := one_v xx
  cases x with
  | lst hs ha =>
    rw [ha.strs] at hs
    exact ⟨_, ss, rfl, .inl ((cut_sub M H).seq hs), fun ss' p hp h2 np => q _ _ _ (same_new np) (dx_new_l m np (dxs_strs ss')) (h ss' hp h2)⟩
end

/-! ### fields of instances, parts of dicts -/
def look (ns : List Str) (ds : List Dt) (f : Str) : Option Dt := (ns.zip ds).lookup f
theorem DXs.look {K : PySem.W.Frag} {H : Hp} {f : Str} {d : Dt} : ∀ {ns : List Str} {vs : List V} {ds : List Dt}, DXs K H vs ds → DL.look ns ds f = some d → ∃ v, (ns.zip vs).lookup f = some v ∧ DX K H v d
  | [], _, _, _, h => by unfold DL.look at h; simp at h
  | n :: ns, [], _, x, h => by cases x; unfold DL.look at h; simp at h
  | n :: ns, v :: vs, _, x, h => by
    cases x with
    | @cons _ _ d1 ds x1 x2 =>
      unfold DL.look at h
      rw [List.zip_cons_cons, List.lookup_cons] at h ⊢
      cases c : f == n with
      | true =>
        rw [c] at h
        have h := Option.some.inj h
        subst h
        exact ⟨v, rfl, x1⟩
      | false =>
        rw [c] at h
        exact DXs.look (ns := ns) x2 h
def valD (kvs : List (Key × Dt)) (k : Key) : Option Dt := (kvs.find? fun kv => decide (kv.1 = k)).map (·.2)
theorem DXk.val {K : PySem.W.Frag} {H : Hp} {k : Key} {d : Dt} : ∀ {kvs : List (Key × V)} {ds : List (Key × Dt)}, DXk K H kvs ds → valD ds k = some d → ∃ v, valV kvs k = some v ∧ DX K H v d
  | _, [], x, h => by cases x; cases h
  | _, (k1, d1) :: ds, x, h => by
    cases x with
    | @cons _ v1 vs _ _ x1 x2 =>
      unfold valD at h
      unfold valV
      rw [List.find?_cons] at h ⊢
      cases c : decide (k1 = k) with
      | true =>
        have h : some d1 = some d := by simpa [c] using h
        have h := Option.some.inj h
        subst h
        exact ⟨v1, by simp [c], x1⟩
      | false =>
        have h : valD ds k = some d := by simpa [c, valD] using h
        obtain ⟨v, e1, e2⟩ := DXk.val (ds := ds) x2 h
        exact ⟨v, by simpa [c, valV] using e1, e2⟩
section
variable {K : PySem.W.Frag} {pf : Bool} {ρ : List Sl} {ta tb te : TE} {tr tk : TA} {Φ : Dt → List Sl → Prop} {C : Addr}
theorem w_fld {f : Str} (c : Cls K C) (nF : NoAttr K C f) (h : Wp K pf ta ρ fun d ρ1 => ∃ a ns ds e, d = .ins C a ns ds ∧ look ns ds f = some e ∧ Φ e ρ1) : Wp K pf (tFld K ta f) ρ Φ := fun M σ H S Q q =>
  h M σ H S _ fun v H1 d ρ1 s1 S1 x1 ⟨a, ns, ds, e, ed, l, z⟩ => by
    subst ed
    cases x1 with
    | @ins _ _ dx _ vs _ hs hl ha =>
      obtain ⟨u, h1, h2⟩ := ha.look l
      exact ⟨a, C, dx, _, u, rfl, (cut_of hs).2, c, nF, h1, q u H1 e ρ1 s1 S1 h2 z⟩
theorem dget_rd {H : Hp} {a : Addr} {kvs : List (Key × V)} {k : Key} (e : Rd H a (.dK kvs)) : DGet H a (kV k) (valV kvs k) := .inl ⟨kvs, k, e, rfl, rfl⟩
theorem w_dget {k : Str} (h : Wp K pf ta ρ fun d ρ1 => Wp K pf tb ρ1 fun y ρ2 => ∃ a kvs e, d = .dct a kvs ∧ y = .str k ∧ valD kvs (.inr k) = some e ∧ Φ e ρ2) : Wp K pf (tDGet ta tb) ρ Φ := fun M σ H S Q q =>
  h M σ H S _ fun v1 H1 d1 ρ1 s1 S1 x1 k1 => k1 M σ H1 S1 _ fun v2 H2 d2 ρ2 s2 S2 x2 ⟨a, kvs, e, e1, e2, l, z⟩ => by
    subst e1 e2
    have x1' := x1.mono s2.dx
    cases x1' with
    | @dct _ vkvs _ hs ha =>
      obtain ⟨u, h1, h2⟩ := ha.val l
      rw [x2.str_eq]
      refine ⟨a, u, rfl, ?_, q u H2 e ρ2 (s1.trans s2) S2 h2 z⟩
      rw [← h1]
      exact dget_rd (k := .inr k) (cut_Rd hs).2
theorem w_prop {W : List Dt → (Dt → Prop) → Prop} {E : XK} (h : Wp K pf ta ρ fun d ρ1 => (∃ a ns ds, d = .ins C a ns ds) ∧ W [d] fun e => Φ e ρ1) : Wp K pf (tProp C (spP K W) [] E ta) ρ Φ := fun M σ H S Q q =>
  h M σ H S _ fun v H1 d ρ1 s1 S1 x1 ⟨⟨a, ns, ds, ed⟩, w⟩ => by
    have ec : ∀ H', cut M.callP H' = cut M H' := cut_congr M.callP_has
    have key : spP K W [v] H1 Q E := ⟨M.callP, [d], _, rfl, rfl, S1.mok.callP, by rw [ec]; exact .one x1, w, fun v H2 d e x f => q v H2 d ρ1 (s1.trans (Tr.same pf M e)) (S1.same e) (by rw [ec] at x; exact x) f⟩
    subst ed
    cases x1 with
    | @ins _ _ dx _ vs _ hs hl ha => exact ⟨a, dx, _, rfl, (cut_of hs).2, key⟩
/-- the pairs of a display: keys are texts, values are told by slots or flat: nothing is made on the way -/
def Wd (K : PySem.W.Frag) (trs : List (TE × TE)) (ρ : List Sl) (kvs : List (Key × Dt)) : Prop :=
  ∀ (M : Md) (σ : L2.St) (H : Hp), Sd K M H σ ρ → ∀ Q : List (V × V) → Hp → Prop, (∀ ps, DXk K (cut M H) ps kvs → Q (ps.map fun kv => (kV kv.1, kv.2)) H) → tPairs trs σ H Q
theorem wd_nil : Wd K [] ρ [] := fun M σ H S Q q => q [] .nil
theorem wd_var {k : Str} {i : Nat} {d : Dt} {trs : List (TE × TE)} {kvs : List (Key × Dt)} (e : ρ[i]? = some (.dat d)) (h : Wd K trs ρ kvs) : Wd K ((tC (.str k), tVar i) :: trs) ρ ((.inr k, d) :: kvs) := fun M σ H S Q q => by
  obtain ⟨o, h1, v, h2, h3⟩ := S.ok i _ e
  subst h2
  exact ⟨v, h1, h M σ H S _ fun ps x => q ((.inr k, v) :: ps) (.cons h3 x)⟩
end
theorem putK_new {kvs : List (Key × V)} {k : Key} {v : V} (h : k ∉ kvs.map (·.1)) : putK kvs k v = kvs ++ [(k, v)] := by
  unfold putK
  rw [if_neg]
  intro c
  obtain ⟨x, hx, e⟩ := List.any_eq_true.mp c
  exact h (List.mem_map.mpr ⟨x, hx, of_decide_eq_true e⟩)
theorem mergeK_new : ∀ (ps acc : List (Key × V)), ((acc ++ ps).map (·.1)).Nodup → mergeK acc ps = acc ++ ps
  | [], acc, _ => by rw [List.append_nil]; rfl
  | (k, v) :: ps, acc, h => by
    show mergeK (putK acc k v) ps = _
    have nk : k ∉ acc.map (·.1) := by
      rw [List.map_append, List.nodup_append] at h
      intro z
      exact h.2.2 k z k (by simp) rfl
    rw [putK_new nk, mergeK_new ps (acc ++ [(k, v)]) (by rw [List.append_assoc]; exact h), List.append_assoc]
    rfl
theorem DXk.keys {K : PySem.W.Frag} {H : Hp} : ∀ {kvs : List (Key × V)} {ds : List (Key × Dt)}, DXk K H kvs ds → kvs.map (·.1) = ds.map (·.1)
  | _, [], x => by cases x; rfl
  | _, _ :: ds, x => by
    cases x with
    | cons x1 x2 => rw [List.map_cons, List.map_cons, DXk.keys (ds := ds) x2]
section
variable {K : PySem.W.Frag} {pf : Bool} {ρ : List Sl} {ta tb te : TE} {tr tk : TA} {Φ : Dt → List Sl → Prop} {C : Addr}
theorem w_dispW {trs : List (TE × TE)} {kvs : List (Key × Dt)} (h : Wd K trs ρ kvs) (hn : (kvs.map (·.1)).Nodup) (h15 : kvs.length ≤ 15) (z : ∀ a, Φ (.dct a kvs) ρ) : Wp K pf (tDisp trs) ρ Φ := fun M σ H S Q q p hp => by
  have S1 := S.aside (o := .dK []) hp (same_new hp) upd_same
  refine h { M with F := p :: M.F } σ _ S1 _ fun ps x => ⟨upd_same, ps, rfl, ?_, ?_⟩
  · have := congrArg List.length x.keys
    rw [List.length_map, List.length_map] at this
    omega
  · rw [mergeK_new ps [] (by rw [List.nil_append, x.keys]; exact hn), List.nil_append]
    have all : Same H (upd (upd H p (.dK [])) p (.dK ps)) := fun a u z => by
      rw [upd_ne (ne_of_none z hp), upd_ne (ne_of_none z hp)]; exact z
    refine q (.ref p) _ (.dct p kvs) ρ (Tr.same pf M all) (S.same all) (.dct (.inl (cut_at (S.mok.new hp) upd_same)) (x.mono fun a u z => ?_)) (z p)
    obtain ⟨c, y⟩ := cut_of z
    have na : a ≠ p := fun n => c (.inr (.inl (by rw [n]; exact List.mem_cons_self)))
    exact cut_at (fun t => c (has_aside a t)) (by rw [upd_ne na]; exact y)
theorem ws_owndisp {trs : List (TE × TE)} {kvs : List (Key × Dt)} {D : DE} {i : Nat} (hi : i < ρ.length) (h : Wd K trs ρ kvs) (hn : (kvs.map (·.1)).Nodup) (h15 : kvs.length ≤ 15) (z : D.nx (ρ.set i (.ownd kvs))) : Ws K (tAsg (tDisp trs) (gName i)) ρ D := fun M σ H S E k p hp => by
  have S1 := S.aside (o := .dK []) hp (same_new hp) upd_same
  refine h { M with F := p :: M.F } σ _ S1 _ fun ps x => ⟨upd_same, ps, rfl, ?_, ?_⟩
  · have := congrArg List.length x.keys
    rw [List.length_map, List.length_map] at this
    omega
  · rw [mergeK_new ps [] (by rw [List.nil_append, x.keys]; exact hn), List.nil_append]
    have all : Same H (upd (upd H p (.dK [])) p (.dK ps)) := fun a u z => by
      rw [upd_ne (ne_of_none z hp), upd_ne (ne_of_none z hp)]; exact z
    have S2 := S.aside (o := .dK ps) hp all upd_same
    have x2 : DXk K (cut { M with F := p :: M.F } (upd (upd H p (.dK [])) p (.dK ps))) ps kvs := x.mono fun a u z => by
      obtain ⟨c, y⟩ := cut_of z
      have na : a ≠ p := fun n => c (.inr (.inl (by rw [n]; exact List.mem_cons_self)))
      exact cut_at c (by rw [upd_ne na]; exact y)
    exact k.nx _ _ _ _ (Stp.own hp all) ((S.same all).ownd hi (S.mok.new hp) upd_same x2 S2) z
end
end DL

/-! Data level: how an instance is made: the stores of its fields, the promise of an __init__, the call of the class. -/
namespace DL
open PySem PySem.Spec PyProof.Rows L2
variable [Tb]

theorem putF_new {f : Str} {v : V} : ∀ {ns : List Str} {vs : List V}, f ∉ ns → ns.length = vs.length → putF f v (ns.zip vs) = (ns ++ [f]).zip (vs ++ [v])
  | [], [], _, _ => rfl
  | n :: ns, w :: vs, h, l => by
    rw [List.zip_cons_cons]
    show (if n = f then _ else (n, w) :: putF f v (ns.zip vs)) = _
    rw [if_neg fun e => h (by rw [e]; exact List.mem_cons_self), putF_new (fun z => h (List.mem_cons_of_mem _ z)) (by simpa using l)]
    rfl
/-- M with self set aside -/
abbrev Md.slf (M : Md) (self : Addr) : Md := { M with F := self :: M.F }
/-- stores of fields, one behind another, on the object that stands in slot 0 -/
def Fs (K : PySem.W.Frag) (C : Addr) (t : TS) (ρ : List Sl) (ns : List Str) (ds : List Dt) (Φ : List Str → List Dt → Prop) : Prop :=
  ∀ (M : Md) (self dx : Addr) (σ : L2.St) (H : Hp) (vs : List V), Sd K (M.slf self) H σ ρ → ρ[0]? = some (.dat (.cls self)) → M.p ≠ some self → some self ∉ M.O → H self = some (.ins C dx (ns.zip vs)) → ns.length = vs.length →
    DXs K (cut (M.slf self) H) vs ds → ∀ E : Ends, (∀ σ' H' ns' vs' ds', (∀ a o, H a = some o → a ≠ self → H' a = some o) → H' self = some (.ins C dx (ns'.zip vs')) → ns'.length = vs'.length →
      DXs K (cut (M.slf self) H') vs' ds' → Φ ns' ds' → E.nx σ' H') → t E σ H
section
variable {K : PySem.W.Frag} {C : Addr} {te : TE} {t : TS} {ρ : List Sl} {ns : List Str} {ds : List Dt} {Φ : List Str → List Dt → Prop} {f : Str}
theorem fs_step {M : Md} {self dx : Addr} {σ : L2.St} {H1 : Hp} {vs : List V} {v : V} {d : Dt} (S : Sd K (M.slf self) H1 σ ρ) (hs : H1 self = some (.ins C dx (ns.zip vs))) (hl : ns.length = vs.length) (hf : f ∉ ns)
    (x : DXs K (cut (M.slf self) H1) vs ds) (xv : DX K (cut (M.slf self) H1) v d) :
    Sd K (M.slf self) (upd H1 self (.ins C dx (putF f v (ns.zip vs)))) σ ρ ∧ (upd H1 self (.ins C dx (putF f v (ns.zip vs)))) self = some (.ins C dx ((ns ++ [f]).zip (vs ++ [v]))) ∧ (ns ++ [f]).length = (vs ++ [v]).length ∧
      DXs K (cut (M.slf self) (upd H1 self (.ins C dx (putF f v (ns.zip vs))))) (vs ++ [v]) (ds ++ [d]) := by
  refine ⟨S.poke, by rw [upd_same, putF_new hf hl], by rw [List.length_append, List.length_append, hl]; rfl, (x.append (.one xv)).mono fun a u z => ?_⟩
  obtain ⟨c, y⟩ := cut_of z
  exact cut_at c (by rw [upd_ne fun n => c (.inr (.inl (by rw [n]; exact List.mem_cons_self)))]; exact y)
theorem fs_cons (c : Cls K C) (nF : NoAttr K C f) (hf : f ∉ ns) (hn : ns.length < 900) (h : Wp K true te ρ fun d ρ1 => ρ1 = ρ ∧ Fs K C t ρ (ns ++ [f]) (ds ++ [d]) Φ) : Fs K C (tSeq (sFld K (tVar 0) te f) t) ρ ns ds Φ :=
  fun M self dx σ H vs S h0 np nO hs hl x E k => h _ σ H S _ fun v H1 d ρ1 s1 S1 xv ⟨e1, z⟩ => by
    subst e1
    have hs1 := s1.sm rfl _ _ hs
    obtain ⟨o, o1, v0, o2, o3⟩ := S1.ok 0 _ h0
    cases o3
    subst o2
    obtain ⟨T1, T2, T3, T4⟩ := fs_step (f := f) S1 hs1 hl hf (x.mono s1.dx) xv
    refine ⟨.ref self, o1, self, C, dx, _, rfl, hs1, c, nF, ?_, ?_⟩
    · rw [List.length_zip, ← hl, Nat.min_self]; omega
    · refine z M self dx σ _ (vs ++ [v]) T1 h0 np nO T2 T3 T4 E fun σ' H' ns' vs' ds' kp a1 a2 a3 a4 => k σ' H' ns' vs' ds' (fun a o e n => kp a o (by rw [upd_ne n]; exact s1.sm rfl _ _ e) n) a1 a2 a3 a4
theorem fs_one (c : Cls K C) (nF : NoAttr K C f) (hf : f ∉ ns) (hn : ns.length < 900) (h : Wp K true te ρ fun d ρ1 => ρ1 = ρ ∧ Φ (ns ++ [f]) (ds ++ [d])) : Fs K C (sFld K (tVar 0) te f) ρ ns ds Φ :=
  fun M self dx σ H vs S h0 np nO hs hl x E k => h _ σ H S _ fun v H1 d ρ1 s1 S1 xv ⟨e1, z⟩ => by
    subst e1
    have hs1 := s1.sm rfl _ _ hs
    obtain ⟨o, o1, v0, o2, o3⟩ := S1.ok 0 _ h0
    cases o3
    subst o2
    obtain ⟨T1, T2, T3, T4⟩ := fs_step (f := f) S1 hs1 hl hf (x.mono s1.dx) xv
    refine ⟨.ref self, o1, self, C, dx, _, rfl, hs1, c, nF, ?_, ?_⟩
    · rw [List.length_zip, ← hl, Nat.min_self]; omega
    · exact k σ _ _ _ _ (fun a o e n => by rw [upd_ne n]; exact s1.sm rfl _ _ e) T2 T3 T4 z
end

/-! ### the promise of an __init__ -/
/-- W: from the arguments' data to the fields' names and data -/
def spMk (K : PySem.W.Frag) (C : Addr) (W : List Dt → (List Str → List Dt → Prop) → Prop) : Sp := fun vs H Q _ => ∃ (M : Md) (self dx : Addr) (ws : List V) (ds : List Dt) (Φ : List Str → List Dt → Prop),
  vs = .ref self :: ws ∧ M.p = none ∧ M.O = [] ∧ H self = some (.ins C dx []) ∧ MOk (M.slf self) H ∧ DXs K (cut (M.slf self) H) ws ds ∧ W ds Φ ∧
    ∀ H2 ns us es, (∀ a o, H a = some o → a ≠ self → H2 a = some o) → H2 self = some (.ins C dx (ns.zip us)) → ns.length = us.length → DXs K (cut (M.slf self) H2) us es → Φ ns es → Q .non H2
section
variable {K : PySem.W.Frag} {C : Addr} {N : List Str} {W : List Dt → (List Str → List Dt → Prop) → Prop} {vs : List V} {H : Hp} {Q : VK} {E : XK} {tp tq : TS}
/-- its body: what comes ahead of the stores (tp), the stores (tq) -/
theorem read_I (h : spMk K C W vs H Q E) (hl : vs.length ≤ N.length)
    (b : ∀ self ds Φ, ds.length + 1 = vs.length → W ds Φ → Ws K tp (.dat (.cls self) :: slots ds (N.length - (ds.length + 1))) { nx := fun ρ => ρ[0]? = some (.dat (.cls self)) ∧ Fs K C tq ρ [] [] Φ, rt := fun _ _ => False }) :
    tp { nx := tq { nx := fun _ H' => Q .non H', rt := Q }, rt := Q } (L2.start N vs) H := by
  obtain ⟨M, self, dx, ws, ds, Φ, rfl, hp, hO, hs, m, x, w, q⟩ := h
  have hO' : (M.slf self).O = [] := hO
  have x0 : DXs K (cut (M.slf self) H) (.ref self :: ws) (.cls self :: ds) := .cons (.cls self) x
  have S0 := sd_start (N := N) hO' m x0 hl
  have e0 : slots (.cls self :: ds) (N.length - (Dt.cls self :: ds).length) = .dat (.cls self) :: slots ds (N.length - (ds.length + 1)) := rfl
  rw [e0] at S0
  refine b self ds Φ (by rw [List.length_cons, x.len]) w ((M.slf self).body N.length) _ H S0 _ ⟨fun M' σ' H' ρ' s S ⟨z0, z⟩ => ?_, fun _ _ _ _ _ _ _ _ _ z => z.elim, fun M' σ' H' ρ' s S z => z.elim, fun M' σ' H' ρ' s S z => z.elim, fun _ _ _ _ _ _ _ _ _ _ _ _ z => z.elim⟩
  have keep : ∀ a o, H a = some o → H' a = some o ∧ some a ∉ M'.O := fun a o e => s.keep a o e (Md.inP0 hp a) no_rep
  have eF : M'.F = self :: M.F := s.F
  have ep : M'.p = none := s.p.trans hp
  obtain ⟨p', F', O'⟩ := M'
  simp only at eF ep
  subst eF ep
  have hs' := keep self _ hs
  refine z ⟨none, M.F, O'⟩ self dx σ' H' [] S z0 (fun y => nomatch y) hs'.2 hs'.1 rfl .nil _ fun σ2 H2 ns us es kp a1 a2 a3 a4 => ?_
  have sub : Same (cut (Md.slf ⟨none, M.F, O'⟩ self) H2) (cut (M.slf self) H2) := cut_le fun a z => by
    rcases z with z | z | z
    · exact (Md.inP0 (M := M) hp a z).elim
    · exact .inr (.inl z)
    · have z : some a ∈ M.O := z
      rw [hO] at z; cases z
  exact q H2 ns us es (fun a o e n => kp a o (keep a o e).1 n) a1 a2 (a3.mono sub) a4
end

/-! ### the call of the class -/
section
variable {K : PySem.W.Frag} {C : Addr} {W : List Dt → (List Str → List Dt → Prop) → Prop} {ρ : List Sl} {pf : Bool} {tr tk : TA} {Φ : Dt → List Sl → Prop} {E : XK}
theorem make_ok {M : Md} {σ : L2.St} {H2 : Hp} {Q : VK} {ws : List V} {ds : List Dt} {x dx : Addr} (S : Sd K M H2 σ ρ) (hx : H2 x = none) (hdx : H2 dx = none) (ne : dx ≠ x) (xs : DXs K (cut M H2) ws ds)
    (w : W ds fun ns es => ∀ a, Φ (.ins C a ns es) ρ) (q : ∀ v H3 d ρ', Tr pf M H2 H3 → Sd K M H3 σ ρ' → DX K (cut M H3) v d → Φ d ρ' → Q v H3) :
    spMk K C W (.ref x :: ws) (upd (upd H2 dx (.own x)) x (.ins C dx [])) (fun v H3 => v = .non ∧ Q (.ref x) H3) E := by
  have s1 : Same H2 (upd (upd H2 dx (.own x)) x (.ins C dx [])) := fun a u z => by
    rw [upd_ne (ne_of_none z hx), upd_ne (ne_of_none z hdx)]; exact z
  have S1 := S.aside (q := x) hx s1 upd_same
  have nx := S.mok.new hx
  have ec : ∀ H', cut (M.callP.slf x) H' = cut (M.slf x) H' := fun H' => cut_congr (fun a => by
    constructor
    · rintro (z | z | z)
      · exact (Md.inP0 rfl a z).elim
      · rcases List.mem_cons.mp z with z | z
        · rw [z]; exact .inr (.inl List.mem_cons_self)
        · exact has_aside a ((M.callP_has a).mp (.inr (.inl z)))
      · first | exact (Md.inP0 rfl _ z).elim | cases z
    · rintro (z | z | z)
      · rcases (M.callP_has a).mpr (.inl z) with y | y | y
        · exact (Md.inP0 rfl a y).elim
        · exact .inr (.inl (List.mem_cons_of_mem _ y))
        · first | exact (Md.inP0 rfl _ y).elim | cases y
      · rcases List.mem_cons.mp z with z | z
        · rw [z]; exact .inr (.inl List.mem_cons_self)
        · rcases (M.callP_has a).mpr (.inr (.inl z)) with y | y | y
          · exact (Md.inP0 rfl a y).elim
          · exact .inr (.inl (List.mem_cons_of_mem _ y))
          · first | exact (Md.inP0 rfl _ y).elim | cases y
      · rcases (M.callP_has a).mpr (.inr (.inr z)) with y | y | y
        · exact (Md.inP0 rfl a y).elim
        · exact .inr (.inl (List.mem_cons_of_mem _ y))
        · cases y) H'
  have same_cut : Same (cut M H2) (cut (M.slf x) (upd (upd H2 dx (.own x)) x (.ins C dx []))) := fun a u z => by
    obtain ⟨c, y⟩ := cut_of z
    refine cut_at (fun t => ?_) (s1 a u y)
    rcases t with t | t | t
    · exact c (.inl t)
    · rcases List.mem_cons.mp t with t | t
      · rw [t, hx] at y; cases y
      · exact c (.inr (.inl t))
    · exact c (.inr (.inr t))
  refine ⟨M.callP, x, dx, ws, ds, _, rfl, rfl, rfl, upd_same, ?_, by rw [ec]; exact xs.mono same_cut, w, fun H3 ns us es kp e1 e2 e3 e4 => ⟨rfl, ?_⟩⟩
  · refine ⟨fun a z => ?_, fun a z => (Md.inP0 rfl a z).elim, fun a _ z => (nomatch z), fun i j a z => ?_, fun t ht => (nomatch ht)⟩
    · rcases z with z | z | z
      · first | exact (Md.inP0 rfl _ z).elim | cases z
      · rcases List.mem_cons.mp z with z | z
        · rw [z]; exact ⟨_, upd_same⟩
        · obtain ⟨o, e⟩ := S.mok.live a ((M.callP_has a).mp (.inr (.inl z)))
          exact ⟨o, s1 a o e⟩
      · first | exact (Md.inP0 rfl _ z).elim | cases z
    · have z : ([] : List (Option Addr))[i]? = some (some a) := z
      simp at z
  · have s3 : Same H2 H3 := fun a u z => kp a u (s1 a u z) (ne_of_none z hx)
    refine q (.ref x) H3 (.ins C x ns es) ρ (Tr.same pf M s3) (S.same s3) (.ins (cut_at nx e1) e2 ?_) (e4 x)
    rw [ec] at e3
    exact e3.mono (cut_le has_aside)
theorem w_make (h : Wa K pf tr ρ fun ds ρ1 => W ds fun ns es => ∀ a, Φ (.ins C a ns es) ρ1) : Wp K pf (tMake C (spMk K C W) [] E tr) ρ Φ := fun M σ H S Q q =>
  h M σ H S _ fun vs H1 ds ρ1 s1 S1 x1 w => fun x dx hx hdx ne => by
    rw [List.append_nil]
    exact make_ok S1 hx hdx ne x1 w fun v H3 d ρ' s S3 xd f => q v H3 d ρ' (s1.trans s) S3 xd f
/-- with keywords: g puts self, the written ones and the keywords' in their order, by values and by data alike -/
theorem w_makeK {n m : Nat} {gV : List V → List V → List V} {gD : List Dt → List Dt → List Dt} (hg : ∀ (x : Addr) (vs zs : List V) (ds es : List Dt) (H : Hp), vs.length = n → zs.length = m → DXs K H vs ds → DXs K H zs es → ∃ ws, gV (.ref x :: vs) zs = .ref x :: ws ∧ DXs K H ws (gD ds es))
    (h : Wa K pf tr ρ fun ds ρ1 => Wa K pf tk ρ1 fun es ρ2 => ds.length = n ∧ es.length = m ∧ W (gD ds es) fun ns fs => ∀ a, Φ (.ins C a ns fs) ρ2) : Wp K pf (tMakeK C n m (spMk K C W) gV E tr tk) ρ Φ := fun M σ H S Q q =>
  h M σ H S _ fun vs H1 ds ρ1 s1 S1 x1 k => k M σ H1 S1 _ fun zs H2 es ρ2 s2 S2 x2 ⟨l1, l2, w⟩ => by
    have h1 : vs.length = n := x1.len.trans l1
    have h2 : zs.length = m := x2.len.trans l2
    refine ⟨h1, h2, fun x dx hx hdx ne => ?_⟩
    obtain ⟨ws, e, xw⟩ := hg x vs zs ds es _ h1 h2 (x1.mono s2.dx) x2
    rw [e]
    exact make_ok S2 hx hdx ne xw w fun v H3 d ρ' s S3 xd f => q v H3 d ρ' ((s1.trans s2).trans s) S3 xd f
end
end DL

set_option maxHeartbeats 2000000
/-! An exception that a name keeps: it stays known behind its suite. -/
namespace DL
open PySem PySem.Spec PyProof.Rows L2
variable [Tb]

section
variable {X : Cx} {pins : List (Addr × Obj)} {σ : L2.St} {H : Hp} {s : Shared} {a : Addr} {oe : Obj} {cls : Value} {d : Option Addr}
theorem exh_ok {P : Program} {w : World} {h : Heap} {vs : Array Value} (e : h.get? a = some oe) (z : Zc cls d oe) (f : oe.data = .fields vs) : ObjOk P w H h a (exh a cls d) :=
  ⟨⟨oe, vs, e, z, f⟩, ⟨oe, e⟩, fun _ _ ⟨o, v, q, r⟩ k => ⟨o, v, k o q, r⟩⟩
/-- a pinned exception is told to the abstract heap -/
theorem note (I : Inv X ((a, oe) :: pins) σ H s) {vs : Array Value} (z : Zc cls d oe) (f : oe.data = .fields vs) (h0 : ∀ o, X.s_0.heap.get? a = some o → a ∈ X.ex) (hp : ∀ p ∈ X.pn ++ pins, p.1 ≠ a) :
    Inv X pins σ (upd H a (exh a cls d)) s := by
  obtain ⟨p1, p2, p3, p4, p5⟩ := I.pin (a, oe) (List.mem_append_right _ List.mem_cons_self)
  have na : ∀ {b : Addr} {u : HO}, H b = some u → b ≠ a := fun e n => by
    rw [n] at e
    exact nomatch p2.symm.trans e
  have sub : ∀ p ∈ X.pn ++ pins, p ∈ X.pn ++ ((a, oe) :: pins) := fun p h => by
    rcases List.mem_append.mp h with c | c
    · exact List.mem_append_left _ c
    · exact List.mem_append_right _ (List.mem_cons_of_mem _ c)
  refine ⟨I.ok, I.os, I.bare, ⟨I.base.keep, I.base.slot, fun b o e n x => ?_, I.base.there, fun b xs e => ?_, fun b o u e => ?_, fun b ps e => ?_⟩, I.loc, I.cell, ?_, fun x c e => ?_, fun p h => ?_, HOk.laidN I.hok (fun _ _ q => q) p2 (exh_ok p1 z f), I.len⟩
  · have nb : b ≠ a := fun m => x (by rw [m]; exact h0 o (by rw [← m]; exact e))
    rw [upd_ne nb]
    exact I.base.free b o e n x
  · have q := I.base.tups b xs e
    rw [upd_ne (na q)]; exact q
  · have q := I.base.frzs b o u e
    rw [upd_ne (na q)]; exact q
  · obtain ⟨more, q⟩ := I.base.tbls b ps e
    exact ⟨more, by rw [upd_ne (na q)]; exact q⟩
  · rw [upd_ne (Ne.symm p3)]; exact I.free
  · have nc : c ≠ a := fun m => by
      obtain ⟨v, o, ho, hd⟩ := I.cell x c e
      rw [m] at ho
      have eo : o = oe := Option.some.inj (ho.symm.trans p1)
      rw [eo] at hd
      exact p5 v hd
    rw [upd_ne nc]; exact I.freeC x c e
  · obtain ⟨q1, q2, q3, q4, q5⟩ := I.pin p (sub p h)
    exact ⟨q1, by rw [upd_ne (hp p h)]; exact q2, q3, q4, q5⟩
end
/-- what the clause wishes: at its suite's end the exception is told to the abstract heap -/
def keepE (a : Addr) (cls : Value) (d : Option Addr) (i : Nat) (D : Ends) : Ends :=
  { nx := fun σ H => H a = none → D.nx (σ.set i none) (upd H a (exh a cls d)), rt := fun v H => H a = none → D.rt v (upd H a (exh a cls d)), bk := fun σ H => H a = none → D.bk (σ.set i none) (upd H a (exh a cls d)), ct := fun σ H => H a = none → D.ct (σ.set i none) (upd H a (exh a cls d)) }
/-- several clauses «except X as n», one name for all -/
def wKeeps (K : PySem.W.Frag) (i : Nat) (Wout : WX) (D : Ends) : List (Value × (Addr → Value → Option Addr → TS)) → WX
  | [] => Wout
  | (c, ts) :: r => fun cls d σ H => ∃ b, PySem.W.exmOne K cls c = some b ∧ (b = true → ∀ a, H a = none → ts a cls d (keepE a cls d i D) (σ.set i (some (.ref a))) H) ∧ (b = false → wKeeps K i Wout D r cls d σ H)
/-- a suite, whatever exception its name holds -/
def SuiteOk (X : Cx) (suite : List Stmt) (ts : Addr → Value → Option Addr → TS) : Prop := ∀ (a : Addr) (oe : Obj) (cls : Value) (d : Option Addr) (pn : List (Addr × Obj)), Zc cls d oe → (∃ vs, oe.data = .fields vs) → PSs (X.suite a ((a, oe) :: pn)) suite (ts a cls d)
inductive HdsN (X : Cx) (n : Str) : List ExceptHandler → List (Value × (Addr → Value → Option Addr → TS)) → Prop
  | nil : HdsN X n [] []
  | cons {x : Str} {c : Value} {ts : Addr → Value → Option Addr → TS} {st0 : Stmt} {suite : List Stmt} {np pos' : Pos} {hds : List ExceptHandler} {l : List (Value × (Addr → Value → Option Addr → TS))} (hc : Names X x c)
      (hsu : SuiteOk X (st0 :: suite) ts) (r : HdsN X n hds l) : HdsN X n (.ExceptHandler (some (.Name x np)) (some n) (st0 :: suite) pos' :: hds) ((c, ts) :: l)
/-- the exception at a is caught in X, over the state sI that stood ahead of it -/
structure Caught (X : Cx) (pins : List (Addr × Obj)) (a : Addr) (B : Heap) (sI : Shared) (τ : L2.St) (G : Hp) (cls : Value) (d : Option Addr) (s : Shared) : Prop where
  inv : Inv X pins τ G sI
  low : ∀ b o, sI.heap.get? b = some o → b ∉ frs X.stack → B.get? b = some o
  up : sI.heap.UpToSlots s.heap
  fly : HandSPX.FlyingZ B (X.env :: X.outer) a (Zc cls d) s.heap
  new : G a = none
  os : s.os = sI.os
  bare : AllBare s.gens
section
variable {X : Cx} {pins : List (Addr × Obj)} {a : Addr} {B : Heap} {sI s : Shared} {τ : L2.St} {G : Hp} {cls : Value} {d : Option Addr}
theorem Caught.now (C : Caught X pins a B sI τ G cls d s) : Inv X pins τ G s := C.inv.landed C.low C.fly.1 C.up C.os C.bare
theorem Caught.next (C : Caught X pins a B sI τ G cls d s) {h : Heap} (f : HandSPX.FlyingZ B (X.env :: X.outer) a (Zc cls d) h) (u : s.heap.UpToSlots h) : Caught X pins a B sI τ G cls d { s with heap := h } :=
  ⟨C.inv, C.low, C.up.trans u, f, C.new, C.os, C.bare⟩
/-- it is no frame -/
theorem Caught.off (C : Caught X pins a B sI τ G cls d s) : a ∉ frs (X.env :: X.outer) := fun m => by
  obtain ⟨oe, vs, e, _, f⟩ := C.fly.there
  obtain ⟨_, o, e2, n⟩ := C.fly.2.2.1.mem m
  rw [e] at e2
  exact n vs (Option.some.inj e2 ▸ f)
theorem Caught.clear (C : Caught X pins a B sI τ G cls d s) (hs : X.stack = X.env :: X.outer) : sI.heap.get? a = none := by
  cases e : sI.heap.get? a with
  | none => rfl
  | some o =>
    have q := C.low a o e (hs ▸ C.off)
    rw [C.fly.2.1] at q
    cases q
theorem Caught.suite (C : Caught X pins a B sI τ G cls d s) (hf : X.env.frame = some X.env.locals) : ∃ oe, Zc cls d oe ∧ (∃ vs, oe.data = .fields vs) ∧ s.heap.get? a = some oe ∧ Inv (X.suite a ((a, oe) :: (X.pn ++ pins))) [] τ G s := by
  obtain ⟨oe, vs, e, z, f⟩ := C.fly.there
  have mine : ∀ b ∈ frs (X.env :: X.outer), a ≠ b := fun b m n => C.off (n ▸ m)
  refine ⟨oe, z, ⟨vs, f⟩, e, C.now.suite e f C.new (mine _ ?_) fun m => ?_⟩
  · exact List.mem_filterMap.mpr ⟨X.env, .head _, hf⟩
  · obtain ⟨env, m, q⟩ := List.mem_filterMap.mp m
    exact C.off (List.mem_filterMap.mpr ⟨env, .tail _ m, q⟩)
/-- the suite's end: the name goes, the exception is told to the abstract heap -/
theorem Caught.ends (C : Caught X pins a B sI τ G cls d s) (hs : X.stack = X.env :: X.outer) {i : Nat} {n : Str} {pos' : Pos} {D : Ends} {oe : Obj} {fl : Flow} {s6 : Shared} (hN : X.N.Nodup) (hi : X.N[i]? = some n) (hln : X.env.kindOf n = some .local) (z : Zc cls d oe) (f : ∃ vs, oe.data = .fields vs)
    (h : SP (X.suite a ((a, oe) :: (X.pn ++ pins))) [] (keepE a cls d i D) fl s6) : wpAny (model X.prog X.w) X.A (do bindName X.env n .none; unbindBehindTheSuite X.env n pos') (fun _ s7 => SP X pins D fl s7) X.xe s6 := by
  obtain ⟨vs, f⟩ := f
  have n0 := C.clear hs
  have here : ∀ {τ6 : L2.St} {G6 : Hp} {Q : Shared → Prop}, Inv (X.suite a ((a, oe) :: (X.pn ++ pins))) [] τ6 G6 s6 → (∀ s7, G6 a = none → Inv X pins (τ6.set i none) (upd G6 a (exh a cls d)) s7 → Q s7) →
      wpAny (model X.prog X.w) X.A (do bindName X.env n .none; unbindBehindTheSuite X.env n pos') (fun _ s7 => Q s7) X.xe s6 := fun {τ6 G6 Q} S k => by
    have p0 := S.pin (a, oe) (List.mem_append_left _ (.head _))
    have J := S.unsuite C.inv.ok
    have J2 : Inv X ((a, oe) :: pins) τ6 G6 s6 := J.pins_of fun p m => (List.mem_cons.mp m).elim (fun e => e ▸ p0) fun m => J.pin p (List.mem_append_right _ m)
    refine gone_ok J2 hN hi hln fun s7 J7 => k s7 p0.2.1 (note J7 z f (fun o e => ?_) fun p m e => ?_)
    · apply Classical.byContradiction
      intro q
      obtain ⟨o', e'⟩ := C.inv.base.there a o e q
      exact nomatch n0.symm.trans e'
    · have q := (C.inv.pin p m).1
      rw [e, n0] at q
      cases q
  cases fl with
  | ret u => exact h.elim fun v ⟨_, _, S, r, q⟩ => here S fun s7 nA J => ⟨v, _, _, J, r, q nA⟩
  | _ => exact h.elim fun _ ⟨_, S, q⟩ => here S fun s7 nA J => ⟨_, _, J, q nA⟩
end
theorem sp_ofTry {X : Cx} {pins : List (Addr × Obj)} {xe : Value → Shared → Prop} {D : Ends} {f : Flow} {s : Shared} (ok : X.Ok) (h : SP (X.tr (X.pn ++ pins) xe) [] D f s) : SP X pins D f s := by
  cases f with
  | ret u => exact h.elim fun v ⟨_, _, J, r⟩ => ⟨v, _, _, J.ofTry ok, r⟩
  | _ => exact h.elim fun _ ⟨_, J, r⟩ => ⟨_, _, J.ofTry ok, r⟩
section
variable {X : Cx} {n : Str} {i : Nat} {body : List Stmt} {pos : Pos} {tb : WX → TS} {Wout : WX} {h0 : ExceptHandler} {hds : List ExceptHandler} {l : List (Value × (Addr → Value → Option Addr → TS))}
theorem run_clauses {pins : List (Addr × Obj)} {a : Addr} {B : Heap} {sI s : Shared} {τ : L2.St} {G : Hp} {cls : Value} {d : Option Addr} {D : Ends} (hs : X.stack = X.env :: X.outer) (hf : X.env.frame = some X.env.locals) (hN : X.N.Nodup) (hi : X.N[i]? = some n) (hln : X.env.kindOf n = some .local) (tk : Takes X Wout)
    (C : Caught X pins a B sI τ G cls d s) (hk : HdsN X n hds l) : wKeeps X.K i Wout D l cls d τ G → wpAny (model X.prog X.w) X.A (handleBy (.ref a) X.env hds) (SP X pins D) X.xe s := by
  induction hk with
  | nil => exact fun w => PX.no_clauseZ hf C.fly fun h held u => tk _ _ ⟨a, B, sI, pins, τ, G, cls, d, rfl, C.inv, C.low, C.up.trans u, .inr (.inr (by rw [hs]; exact held)), C.new, C.os, C.bare, w⟩
  | @cons x c ts st0 suite np pos' hds l hc hsu r ih =>
    rintro ⟨b, hm, yes, no⟩
    obtain ⟨oe, z, f, e, S⟩ := C.suite hf
    have test : ∀ {Q E : Value → Shared → Prop}, Q c s → wpAny (model X.prog X.w) (X.A.mark (some (.ref a))) (eval (.Name x np) X.env) Q E s := fun {Q E} q => by
      obtain ⟨g, db, m | ⟨m, bt, nn⟩⟩ := hc
      · exact ld_glob (X := X.suite a ((a, oe) :: (X.pn ++ pins))) S g m q db
      · exact ld_blt (X := X.suite a ((a, oe) :: (X.pn ++ pins))) S g m bt q nn db
    cases b with
    | false => exact PX.clause_passZ C.now.kIn (fun o z => z.1) C.fly hm test (ih (no rfl))
    | true =>
      refine PX.clause_asZ C.now.kIn (fun o z => z.1) C.fly hm test fun h fly u => ?_
      have C2 := C.next fly u
      obtain ⟨o2, z2, f2, e2, S2⟩ := C2.suite hf
      refine store_ok (X := X.suite a ((a, o2) :: (X.pn ++ pins))) (v := .ref a) S2 hN hi (.inl hln) rfl (fun s5 S5 => ?_) (.inr hln)
      exact wpAny_mono ((hsu a o2 cls d (X.pn ++ pins) z2 f2).run [] s5 _ G (keepE a cls d i D) S5 (yes rfl a C.new)) (fun fl s6 h => C2.ends hs hN hi hln z2 f2 h) fun _ _ z => z.elim
theorem ps_try_keeps (hs : X.stack = X.env :: X.outer) (hf : X.env.frame = some X.env.locals) (hN : X.N.Nodup) (hi : X.N[i]? = some n) (hln : X.env.kindOf n = some .local) (tk : Takes X Wout)
    (hb : ∀ (W : WX) (pn : List (Addr × Obj)) (xe : Value → Shared → Prop), Takes (X.tr pn xe) W → PassesOwn (model X.prog X.w) X.A X.env xe → PSs (X.tr pn xe) body (tb W))
    (hh : HdsN X n (h0 :: hds) l) : PS X (.Try body (h0 :: hds) [] [] pos) (fun D σ H => tb (wKeeps X.K i Wout D l) D σ H) := by
  constructor
  intro pins s σ H D I w
  have ok := I.ok
  refine wpAny_Try_except (wpAny_mono ((hb (wKeeps X.K i Wout D l) (X.pn ++ pins) _ (fun u s1 z => ?_) PassesOwn.looking).run [] s σ H D (I.toTry _) w) (fun f s1 h => ?_) fun _ _ z => z)
  · obtain ⟨a, B, sI, pI, τ, G, cls, d, rfl, J, low, up, sky, new, os, bare, w⟩ := z
    exact Sky.land Zc.steady (ok.frames.trans (congrArg some hs)) hf (by rw [← hs]; exact sky) fun h fly u => run_clauses hs hf hN hi hln tk ⟨J.ofTry ok, low, up.trans u, fly, new, os, bare⟩ hh w
  · have h := sp_ofTry ok h
    cases f with
    | next => exact wpAny_execs_nil h
    | _ => exact h
/-- one clause -/
def wKeep (K : PySem.W.Frag) (c : Value) (i : Nat) (ts : Addr → Value → Option Addr → TS) (Wout : WX) (D : Ends) : WX := wKeeps K i Wout D [(c, ts)]
theorem ps_try_keep {x : Str} {c : Value} {st0 : Stmt} {suite : List Stmt} {np pos' : Pos} {ts : Addr → Value → Option Addr → TS} (hs : X.stack = X.env :: X.outer) (hf : X.env.frame = some X.env.locals) (hN : X.N.Nodup) (hi : X.N[i]? = some n) (hln : X.env.kindOf n = some .local) (hc : Names X x c) (tk : Takes X Wout)
    (hb : ∀ (W : WX) (pn : List (Addr × Obj)) (xe : Value → Shared → Prop), Takes (X.tr pn xe) W → PassesOwn (model X.prog X.w) X.A X.env xe → PSs (X.tr pn xe) body (tb W)) (hsu : SuiteOk X (st0 :: suite) ts) :
    PS X (.Try body [.ExceptHandler (some (.Name x np)) (some n) (st0 :: suite) pos'] [] [] pos) (fun D σ H => tb (wKeep X.K c i ts Wout D) D σ H) := ps_try_keeps hs hf hN hi hln tk hb (.cons hc hsu .nil)
end
end DL

/-! Data level: exceptions that stand behind their suites: their fields, isinstance. -/
namespace DL
open PySem PySem.Spec PyProof.Rows L2
variable [Tb]

section
variable {X : Cx} {pins : List (Addr × Obj)} {σ : L2.St} {H : Hp} {s : Shared} {a C d : Addr} {fs : List (Str × V)}
/-- such an exception as the library sees it -/
theorem exh_at (I : Inv X pins σ H s) (ha : H a = some (exh a (.ref C) (some d))) (hd : H d = some (.xd fs)) : ∃ (oe od : Obj) (mA : Str → Option Value), PySem.W.InstAt s.heap a oe C (some od) ∧ s.heap.get? d = some od ∧ s.heap.Ns1 d mA ∧ ∀ f, RelO (fs.lookup f) (mA f) := by
  obtain ⟨⟨oe, vs, e1, ⟨e2, e3⟩, e4⟩, _⟩ := (show ObjOk X.prog X.w H s.heap a (exh a (.ref C) (some d)) from I.hok a _ ha)
  obtain ⟨mA, n1, n2⟩ := (show ObjOk X.prog X.w H s.heap d (.xd fs) from I.hok d _ hd)
  obtain ⟨od, o1, o2⟩ := lookIn_ns n1
  exact ⟨oe, od, mA, ⟨e1, e2, by unfold PySem.W.notCls; rw [e4] <;> rfl, by rw [e3]; exact o1⟩, o1, n1, n2⟩
end
/-- e.f of such an exception -/
def tXfld (K : PySem.W.Frag) (ta : TE) (f : Str) : TE := fun σ H Q => ta σ H fun x H1 => ∃ (a C d : Addr) (fs : List (Str × V)) (v : V), x = .ref a ∧ H1 a = some (exh a (.ref C) (some d)) ∧ H1 d = some (.xd fs) ∧ XfC K C ∧ PySem.W.findIn K (.ref C) f = some none ∧ fs.lookup f = some v ∧ Q v H1
theorem pe_xfld {X : Cx} {e : Expr} {ta : TE} {f : Str} {pos : Pos} (he : PE X e ta) (hb : attributeBase e f X.env (eval e X.env) = eval e X.env := by rfl) : PE X (.Attribute e f pos) (tXfld X.K ta f) := by
  constructor
  intro pins s σ H Q I h
  refine attr_of hb (thn (he.run pins s σ H _ I h) ?_)
  rintro u s1 ⟨x, H1, I1, rx, a, C, d, fs, v, rfl, ha, hd, T, hno, l, q⟩
  obtain rfl : u = Value.ref a := rx
  obtain ⟨oe, od, mA, J, o1, n1, n2⟩ := exh_at I1 ha hd
  obtain ⟨ob, e, o2⟩ := lookIn_ns n1
  rw [o1] at e
  cases e
  obtain ⟨w, hw, rw1⟩ := RelO.some_of (v := v) (o := mA f) (by rw [← l]; exact n2 f)
  exact HandSPX.exc_get I1.kIn J T.ga T.gg T.exC (PySem.W.findObj_own T.hdC hno rfl (by rw [o2, hw])) (handed_of rw1) ⟨v, H1, I1.tok _, rw1, q⟩
/-- what isinstance asks of the class: the library's own list -/
abbrev IsxC (K : PySem.W.Frag) (C : Addr) : Prop := ExcC K C
theorem cls_some {K : PySem.W.Frag} {C : Addr} (h : PySem.W.hasDictIn K C = true) : (PySem.W.clsIn K C).isSome = true := by
  unfold PySem.W.hasDictIn at h
  cases e : PySem.W.clsIn K C with
  | none => rw [e] at h; cases h
  | some _ => rfl
/-- isinstance(e, c), e such an exception -/
def rIsX (K : PySem.W.Frag) : List V → Hp → VK → Prop := fun xs H Q => ∃ (a C : Addr) (c : V) (cv : Value) (b : Bool), xs = [.ref a, c] ∧ (H a = some (exh a (.ref C) none) ∨ ∃ (d : Addr) (fs : List (Str × V)), H a = some (exh a (.ref C) (some d)) ∧ H d = some (.xd fs)) ∧ IsxC K C ∧ (∀ u, RelV c u → u = cv) ∧ PySem.W.kitOne K (.ref C) cv = some b ∧ Q (.bl b) H
theorem call_isX {X : Cx} : CallR X (.builtin "isinstance") (rIsX X.K) := by
  intro pins s σ H xs us Q I r h
  obtain ⟨a, C, c, cv, b, rfl, hh, T, hcv, e, q⟩ := h
  obtain ⟨u1, u2, rfl, r1, r2⟩ := vals2 r
  obtain rfl : u1 = Value.ref a := r1
  obtain rfl := hcv _ r2
  obtain ⟨oe, od, J⟩ : ∃ (oe : Obj) (od : Option Obj), PySem.W.InstAt s.heap a oe C od := by
    rcases hh with ha | ⟨d, fs, ha, hd⟩
    · obtain ⟨⟨oe, vs, e1, ⟨e2, e3⟩, e4⟩, _⟩ := (show ObjOk X.prog X.w H s.heap a (exh a (.ref C) none) from I.hok a _ ha)
      exact ⟨oe, none, e1, e2, by unfold PySem.W.notCls; rw [e4] <;> rfl, by rw [e3]; trivial⟩
    · obtain ⟨oe, od, mA, J, _⟩ := exh_at I ha hd
      exact ⟨oe, _, J⟩
  exact PySem.W.kia_one (PySem.W.kitx_exc (cls_some T.hd) T.hg T.hk T.hs T.ha T.hn T.ht T.hm) I.kIn J e (fun z => nomatch z) fun tk => ⟨.bl b, H, I.tok tk, rfl, q⟩
section
variable {K : PySem.W.Frag} {pf : Bool} {ρ : List Sl} {ta : TE} {Φ : Dt → List Sl → Prop} {Ψ : Dt → Prop}
theorem w_xfld {f : Str} {C : Addr} (T : XfC K C) (hno : PySem.W.findIn K (.ref C) f = some none) (h : Wp K pf ta ρ fun d ρ1 => ∃ a ns ds e, d = .exc C a ns ds ∧ look ns ds f = some e ∧ Φ e ρ1) : Wp K pf (tXfld K ta f) ρ Φ := fun M σ H S Q q =>
  h M σ H S _ fun v H1 d ρ1 s1 S1 x1 ⟨a, ns, ds, e, ed, l, z⟩ => by
    subst ed
    cases x1 with
    | @exc _ _ dd _ vs _ hs hd hl ha =>
      obtain ⟨u, h1, h2⟩ := ha.look l
      exact ⟨a, C, dd, _, u, rfl, (cut_of hs).2, (cut_of hd).2, T, hno, h1, q u H1 e ρ1 s1 S1 h2 z⟩
    | exc0 hs => exact nomatch l
theorem isx_of {M : Md} {H : Hp} {C a : Addr} {ns : List Str} {ds : List Dt} {v : V} (x : DX K (cut M H) v (.exc C a ns ds)) : v = .ref a ∧ (H a = some (exh a (.ref C) none) ∨ ∃ (d : Addr) (fs : List (Str × V)), H a = some (exh a (.ref C) (some d)) ∧ H d = some (.xd fs)) := by
  cases x with
  | exc hs hd hl ha => exact ⟨rfl, .inr ⟨_, _, (cut_of hs).2, (cut_of hd).2⟩⟩
  | exc0 hs => exact ⟨rfl, .inl (cut_of hs).2⟩
theorem rd_isX {C D a : Addr} {ns : List Str} {ds : List Dt} {b : Bool} (T : IsxC K C) (e : PySem.W.kitOne K (.ref C) (.ref D) = some b) (h : Ψ (.bl b)) : RD K (rIsX K) [.exc C a ns ds, .cls D] Ψ := fun M H vs m xx Q q => by
  obtain ⟨v, w, rfl, x1, x2⟩ := two_v xx
  cases x2
  obtain ⟨rfl, hh⟩ := isx_of x1
  exact ⟨a, C, .ref D, .ref D, b, rfl, hh, T, fun u z => z, e, q _ H _ (Same.refl H) (.bl b) h⟩
/-- .. against a built-in class -/
theorem rd_isXT {C a : Addr} {n : String} {ns : List Str} {ds : List Dt} {b : Bool} (T : IsxC K C) (e : PySem.W.kitOne K (.ref C) (.type n) = some b) (h : Ψ (.bl b)) : RD K (rIsX K) [.exc C a ns ds, .ty n] Ψ := fun M H vs m xx Q q => by
  obtain ⟨v, w, rfl, x1, x2⟩ := two_v xx
  cases x2
  obtain ⟨rfl, hh⟩ := isx_of x1
  exact ⟨a, C, .ty n, .type n, b, rfl, hh, T, fun u z => z, e, q _ H _ (Same.refl H) (.bl b) h⟩
end
end DL

/-! Data level: defs that may raise; exceptions of own classes over ValueError with fields, made and raised. -/
namespace DL
open PySem PySem.Spec PyProof.Rows L2
variable [Tb]

/-- a promise: from data to data, or out by an exception with fields; nothing that stands is changed -/
def spX (K : PySem.W.Frag) (W : List Dt → (Dt → Prop) → (Addr → List Str → List Dt → Prop) → Prop) : Sp := fun vs H Q E => ∃ (M : Md) (ds : List Dt) (Φ : Dt → Prop) (Ξ : Addr → List Str → List Dt → Prop),
  M.p = none ∧ M.O = [] ∧ MOk M H ∧ DXs K (cut M H) vs ds ∧ W ds Φ Ξ ∧ (∀ v H2 d, Same H H2 → DX K (cut M H2) v d → Φ d → Q v H2) ∧
    ∀ H2 C dd ns us es, Same H H2 → H2 dd = some (.xd (ns.zip us)) → ns.length = us.length → ¬ M.has dd → DXs K (cut M H2) us es → Ξ C ns es → E (.ref C) (some dd) H2
section
variable {P : Program} {w : World} {K : PySem.W.Frag} {mg : Str → Option Value} {base : Heap} {k : Nat} {f : Addr} {fd : FuncData} {ps N : List Str} {x qual : Str} {st : Stmt} {t : TS}
theorem read_X {W : List Dt → (Dt → Prop) → (Addr → List Str → List Dt → Prop) → Prop} {vs : List V} {H : Hp} {Q : VK} {E : XK} (h : spX K W vs H Q E) (hl : vs.length ≤ N.length)
    (b : ∀ ds Φ Ξ, ds.length = vs.length → W ds Φ Ξ → Ws K t (slots ds (N.length - ds.length)) { nx := fun _ => Φ .non, rt := fun d _ => Φ d, xk := E, xd := Ξ }) : t { nx := fun _ H' => Q .non H', rt := Q } (L2.start N vs) H := by
  obtain ⟨M, ds, Φ, Ξ, hp, hO, m, x, w, q, qx⟩ := h
  have keep : ∀ {M' : Md} {H' : Hp}, Stp (M.body N.length) H M' H' → Same H H' := fun s a o z => (s.keep a o z (Md.inP0 hp a) no_rep).1
  have up : ∀ {M' : Md} {H' : Hp}, Stp (M.body N.length) H M' H' → ∀ a, M.has a → M'.has a := fun {M' H'} s a z => by
    rcases z with z | z | z
    · exact (Md.inP0 hp a z).elim
    · exact .inr (.inl (by rw [s.F]; exact z))
    · rw [hO] at z; cases z
  refine b ds Φ Ξ x.len.symm w (M.body N.length) _ H (sd_start hO m x hl) _ ⟨fun M' σ' H' ρ' s S z => q .non H' .non (keep s) .non z, fun M' v H' d ρ' σ' s S x z => q v H' d (keep s) (x.mono (cut_le (up s))) z, fun M' σ' H' ρ' s S z => z, fun M' σ' H' ρ' s S z => z,
    fun M' H' C dd ns us es s e1 e2 nd xs z => qx H' C dd ns us es (keep s) e1 e2 (fun y => nd (up s dd y)) (xs.mono (cut_le (up s))) z⟩
/-- a def that may raise, by its body -/
theorem defX {W : List Dt → (Dt → Prop) → (Addr → List Str → List Dt → Prop) → Prop} (F : Fun K x qual st f fd) (S : FnScope N ps (defScope st)) (hW : ∀ ds Φ Ξ, W ds Φ Ξ → ds.length = ps.length) (hN : ps.length ≤ N.length)
    (hb : ∀ (cdv : Value) (A : Around) (outer : List Env) (s : Shared) (H : Hp) (E : XK), Room k (A.deeper (envOfC qual (defScope st) s.heap.objs.size f cdv)) →
      ∃ t, PSs (cxOf (L2.CX P w) P w K mg base N qual (defScope st) f cdv A outer s H E) (defBody st) t ∧
        ∀ ds Φ Ξ, W ds Φ Ξ → Ws K t (slots ds (N.length - ds.length)) { nx := fun _ => Φ .non, rt := fun d _ => Φ d, xk := E, xd := Ξ }) : FnOk P w K mg base (L2.CX P w) (k + 1) f fd ps (spX K W) := by
  have len : ∀ vs H Q E, spX K W vs H Q E → vs.length = ps.length := fun vs H Q E ⟨M, ds, Φ, Ξ, _, _, _, x, w, _⟩ => x.len.trans (hW ds Φ Ξ w)
  refine F.okX S len fun cdv A outer s H vs Q E hr h => ?_
  obtain ⟨t, h1, h2⟩ := hb cdv A outer s H E hr
  exact ⟨t, h1, read_X h (by rw [len _ _ _ _ h]; exact hN) fun ds Φ Ξ _ w => h2 ds Φ Ξ w⟩
end

/-! ### expressions that may raise -/
def Wpx (K : PySem.W.Frag) (te : TE) (ρ : List Sl) (Φ : Dt → List Sl → Prop) (xk : XK) (xd : Addr → List Str → List Dt → Prop) : Prop :=
  ∀ (M : Md) (σ : L2.St) (H : Hp), Sd K M H σ ρ → ∀ Q : VK, (∀ v H2 d ρ', Stp M H M H2 → Sd K M H2 σ ρ' → DX K (cut M H2) v d → Φ d ρ' → Q v H2) →
    (∀ H2 C dd ns us es, Stp M H M H2 → H2 dd = some (.xd (ns.zip us)) → ns.length = us.length → ¬ M.has dd → DXs K (cut M H2) us es → xd C ns es → xk (.ref C) (some dd) H2) → te σ H Q
section
variable {K : PySem.W.Frag} {pf : Bool} {ρ : List Sl} {te : TE} {tr : TA} {Φ : Dt → List Sl → Prop} {D : DE} {i : Nat} {xk : XK} {xd : Addr → List Str → List Dt → Prop} {C : Addr}
theorem Wp.x (h : Wp K pf te ρ Φ) : Wpx K te ρ Φ xk xd := fun M σ H S Q q _ => h M σ H S Q fun v H2 d ρ' s S2 x f => q v H2 d ρ' s.st S2 x f
theorem ws_retX (h : Wpx K te ρ (fun d ρ' => D.rt d ρ') D.xk D.xd) : Ws K (tRet te) ρ D := fun M σ H S E k =>
  h M σ H S _ (fun v H1 d ρ1 s1 S1 x1 f => k.rt M v H1 d ρ1 σ s1 S1 x1 f) fun H2 C dd ns us es s e1 e2 nd xs z => k.ex M H2 C dd ns us es s e1 e2 nd xs z
theorem ws_asgX (h : Wpx K te ρ (fun d ρ' => D.nx (ρ'.set i (.dat d))) D.xk D.xd) : Ws K (tAsg te (gName i)) ρ D := fun M σ H S E k =>
  h M σ H S _ (fun v H1 d ρ1 s1 S1 x1 f => k.nx M _ H1 _ s1 (S1.put x1 i) f) fun H2 C dd ns us es s e1 e2 nd xs z => k.ex M H2 C dd ns us es s e1 e2 nd xs z
theorem wx_call {W : List Dt → (Dt → Prop) → (Addr → List Str → List Dt → Prop) → Prop} {E : L2.St → XK} (hE : ∀ σ c d H, xk c d H → E σ c d H) (h : Wa K pf tr ρ fun ds ρ1 => W ds (fun d => Φ d ρ1) xd) : Wpx K (tCallS (spX K W) E tr) ρ Φ xk xd := fun M σ H S Q q qx =>
  h M σ H S _ fun vs H1 ds ρ1 s1 S1 x1 k => by
    have ec : ∀ H', cut M.callP H' = cut M H' := cut_congr M.callP_has
    refine ⟨M.callP, ds, _, xd, rfl, rfl, S1.mok.callP, by rw [ec]; exact x1, k, fun v H2 d e x f => q v H2 d ρ1 (s1.st.trans (Stp.same M e)) (S1.same e) (by rw [ec] at x; exact x) f, fun H2 C dd ns us es e e1 e2 nd xs z => ?_⟩
    rw [ec] at xs
    exact hE σ _ _ _ (qx H2 C dd ns us es (s1.st.trans (Stp.same M e)) e1 e2 (fun y => nd ((M.callP_has dd).mpr y)) xs z)
end

/-! ### an exception's __init__, the raise -/
def spExI (K : PySem.W.Frag) (C : Addr) (W : List Dt → (List Str → List Dt → Prop) → Prop) : Sp := fun vs H Q _ => ∃ (M : Md) (self : Addr) (ws : List V) (ds : List Dt) (Φ : List Str → List Dt → Prop),
  vs = .ref self :: ws ∧ H self = some (exo self C none) ∧ DXs K (cut (M.slf self) H) ws ds ∧ W ds Φ ∧
    ∀ H2 dd ns us es, H dd = none → (∀ a o, H a = some o → a ≠ self → H2 a = some o) → H2 self = some (exo self C (some dd)) → H2 dd = some (exd dd (ns.zip us)) → ns.length = us.length → DXs K (cut ((M.slf self).slf dd) H2) us es → Φ ns es → Q .non H2
section
variable {K : PySem.W.Frag} {pf : Bool} {ρ : List Sl} {ta : TA} {D : DE} {C : Addr}
theorem ws_raise {W : List Dt → (List Str → List Dt → Prop) → Prop} (h : Wa K pf ta ρ fun ds ρ1 => ds.length ≤ 900 ∧ W ds fun ns es => D.xd C ns es) : Ws K (fun _ σ H => tMkO C (spExI K C W) [] ta σ H fun c d H' => D.xk c d H') ρ D := fun M σ H S E k =>
  h M σ H S _ fun vs H1 ds ρ1 s1 S1 x1 ⟨hl, w⟩ => by
    refine ⟨by rw [x1.len]; omega, fun a na => ?_⟩
    have sc1 : Same (cut M H1) (cut (M.slf a) (upd H1 a (exo a C none))) := fun b u z => by
      obtain ⟨c, y⟩ := cut_of z
      refine cut_at (fun t => ?_) (by rw [upd_ne (ne_of_none y na)]; exact y)
      rcases t with t | t | t
      · exact c (.inl t)
      · rcases List.mem_cons.mp t with t | t
        · rw [t, na] at y; cases y
        · exact c (.inr (.inl t))
      · exact c (.inr (.inr t))
    refine ⟨M, a, vs, ds, _, by rw [List.append_nil], upd_same, x1.mono sc1, w, fun H2 dd ns us es hd kp e1 e2 e3 xs z => ⟨rfl, dd, _, e1, e2, ?_, ?_⟩⟩
    · have nd : dd ≠ a := fun n => by rw [n, upd_same] at hd; cases hd
      rw [upd_ne nd] at hd; exact hd
    · have nd : dd ≠ a := fun n => by rw [n, upd_same] at hd; cases hd
      have hd1 : H1 dd = none := by rw [upd_ne nd] at hd; exact hd
      have all : ∀ b o, H1 b = some o → (upd (del H2 a) dd (.xd (ns.zip us))) b = some o := fun b o e => by
        have ba := ne_of_none e na
        rw [upd_ne (ne_of_none e hd1), del_ne ba]
        exact kp b o (by rw [upd_ne ba]; exact e) ba
      have nh : ¬ M.has dd := S1.mok.new hd1
      refine k.ex M _ C dd ns us es (s1.st.trans (Stp.same M all)) upd_same e3 nh (xs.mono fun b u z' => ?_) z
      obtain ⟨c, y⟩ := cut_of z'
      have b1 : b ≠ dd := fun n => c (.inr (.inl (by rw [n]; exact List.mem_cons_self)))
      have b2 : b ≠ a := fun n => c (.inr (.inl (by rw [n]; exact List.mem_cons_of_mem _ List.mem_cons_self)))
      exact cut_at (fun t => c (has_aside b (has_aside b t))) (by rw [upd_ne b1, del_ne b2]; exact y)
end
section
variable {P : Program} {w : World} {K : PySem.W.Frag} {mg : Str → Option Value} {base : Heap} {C : Addr} {f : Addr} {fd : FuncData} {qual : Str} {st : Stmt}
/-- def __init__(self, x): self.f = x -/
theorem ok_ex1 {fl x : Str} {p1 p2 p3 p4 : Pos} (F : Fun K "__init__" qual st f fd) (S : FnScope ["self", x] ["self", x] (defScope st)) (hb : defBody st = [.Assign [.Attribute (.Name "self" p1) fl p2] (.Name x p3) p4])
    (v1 : (defScope st).names.lookup ("self" : Str) = some NameKind.local) (v2 : (defScope st).names.lookup x = some NameKind.local) (hx : (x == ("__debug__" : Str)) = false) (hx2 : (x == ("__classdict__" : Str)) = false) (T : OexC K C) (hno : PySem.W.findIn K (.ref C) fl = some none) :
    FnOk P w K mg base CX0 1 f fd ["self", x] (spExI K C fun ds Φ => ∃ d, ds = [d] ∧ Φ [fl] [d]) := by
  refine F.ok S (fun vs H Q E ⟨M, self, ws, ds, Φ, e, _, xx, ⟨d, ed, _⟩, _⟩ => by rw [e, List.length_cons, xx.len, ed]; rfl) fun cdv A outer s H vs Q E hr h => ?_
  rw [hb]
  refine ⟨_, pss_one (ps_ost (pv 0 (hv := .inl v1)) (pv 1 (hv := .inl v2) (hd := hx) (hcd := hx2))), ?_⟩
  obtain ⟨M, self, ws, ds, Φ, rfl, hs, xx, ⟨d, rfl, q⟩, fin⟩ := h
  obtain ⟨y, rfl, xy⟩ := one_v xx
  refine ⟨y, rfl, .ref self, rfl, self, C, rfl, T, hno, .inl ⟨hs, fun dx ndx ne => ?_⟩⟩
  have keep : ∀ a o, H a = some o → a ≠ self → (upd (upd H dx (exd dx [(fl, y)])) self (exo self C (some dx))) a = some o := fun a o e n => by
    rw [upd_ne n, upd_ne (ne_of_none e ndx)]; exact e
  refine fin _ dx [fl] [y] [d] ndx keep upd_same (by rw [upd_ne ne, upd_same]; rfl) rfl ((DXs.one xy).mono fun b u z => ?_) q
  obtain ⟨c, e⟩ := cut_of z
  have b1 : b ≠ self := fun n => c (.inr (.inl (by rw [n]; exact List.mem_cons_self)))
  refine cut_at (fun t => ?_) (keep b u e b1)
  rcases t with t | t | t
  · exact c (.inl t)
  · rcases List.mem_cons.mp t with t | t
    · rw [t, ndx] at e; cases e
    · exact c (.inr (.inl t))
  · exact c (.inr (.inr t))
/-- def __init__(self, x, y): self.f = x; self.g = y -/
theorem ok_ex2 {fl gl x y : Str} {p1 p2 p3 p4 r1 r2 r3 r4 : Pos} (F : Fun K "__init__" qual st f fd) (S : FnScope ["self", x, y] ["self", x, y] (defScope st))
    (hb : defBody st = [.Assign [.Attribute (.Name "self" p1) fl p2] (.Name x p3) p4, .Assign [.Attribute (.Name "self" r1) gl r2] (.Name y r3) r4])
    (v1 : (defScope st).names.lookup ("self" : Str) = some NameKind.local) (v2 : (defScope st).names.lookup x = some NameKind.local) (v3 : (defScope st).names.lookup y = some NameKind.local) (hx : (x == ("__debug__" : Str)) = false) (hx2 : (x == ("__classdict__" : Str)) = false)
    (hy : (y == ("__debug__" : Str)) = false) (hy2 : (y == ("__classdict__" : Str)) = false) (T : OexC K C) (hno : PySem.W.findIn K (.ref C) fl = some none) (hno2 : PySem.W.findIn K (.ref C) gl = some none) :
    FnOk P w K mg base CX0 1 f fd ["self", x, y] (spExI K C fun ds Φ => ∃ d e, ds = [d, e] ∧ Φ [gl, fl] [e, d]) := by
  refine F.ok S (fun vs H Q E ⟨M, self, ws, ds, Φ, e, _, xx, ⟨d, d2, ed, _⟩, _⟩ => by rw [e, List.length_cons, xx.len, ed]; rfl) fun cdv A outer s H vs Q E hr h => ?_
  rw [hb]
  refine ⟨_, pss_cons (ps_ost (pv 0 (hv := .inl v1)) (pv 1 (hv := .inl v2) (hd := hx) (hcd := hx2))) (pss_one (ps_ost (pv 0 (hv := .inl v1)) (pv 2 (hv := .inl v3) (hd := hy) (hcd := hy2)))), ?_⟩
  obtain ⟨M, self, ws, ds, Φ, rfl, hs, xx, ⟨d, d2, rfl, q⟩, fin⟩ := h
  obtain ⟨u, u2, rfl, xu, xu2⟩ := two_v xx
  refine ⟨u, rfl, .ref self, rfl, self, C, rfl, T, hno, .inl ⟨hs, fun dx ndx ne => ?_⟩⟩
  have at_dx : (upd (upd H dx (exd dx [(fl, u)])) self (exo self C (some dx))) dx = some (exd dx [(fl, u)]) := by rw [upd_ne ne, upd_same]
  refine ⟨u2, rfl, .ref self, rfl, self, C, rfl, T, hno2, .inr ⟨dx, [(fl, u)], upd_same, at_dx, by show 1 ≤ 900; decide, ?_⟩⟩
  have keep : ∀ a o, H a = some o → a ≠ self → (upd (upd (upd H dx (exd dx [(fl, u)])) self (exo self C (some dx))) dx (exd dx [(gl, u2), (fl, u)])) a = some o := fun a o e n => by
    rw [upd_ne (ne_of_none e ndx), upd_ne n, upd_ne (ne_of_none e ndx)]; exact e
  refine fin _ dx [gl, fl] [u2, u] [d2, d] ndx keep (by rw [upd_ne (Ne.symm ne), upd_same]) (by rw [upd_same]; rfl) rfl ((DXs.cons xu2 (.one xu)).mono fun b z e' => ?_) q
  obtain ⟨c, e⟩ := cut_of e'
  have b1 : b ≠ self := fun n => c (.inr (.inl (by rw [n]; exact List.mem_cons_self)))
  refine cut_at (fun t => ?_) (keep b z e b1)
  rcases t with t | t | t
  · exact c (.inl t)
  · rcases List.mem_cons.mp t with t | t
    · rw [t, ndx] at e; cases e
    · exact c (.inr (.inl t))
  · exact c (.inr (.inr t))
end
/-! ### try: return f(..) except X as e: .. (the exception kept) -/
/-- what is told of an exception where its suite has ended -/
def kept (a C : Addr) (ns : List Str) (es : List Dt) (ρ : List Sl) : List Sl := ρ.map fun s => match s with
  | .dat (.cls b) => if b = a then .dat (.exc C a ns es) else s
  | s => s
section
variable {K : PySem.W.Frag} {ρ : List Sl} {tr : TA} {D : DE} {i : Nat} {ts : Addr → Value → Option Addr → TS} {c : Value} {Wout : WX}
theorem Sd.kept {M : Md} {H : Hp} {σ : L2.St} {a C dd : Addr} {ns : List Str} {us : List V} {es : List Dt} (S : Sd K M H σ ρ) (na : H a = none) (hd : H dd = some (.xd (ns.zip us))) (hl : ns.length = us.length) (nd : ¬ M.has dd) (xs : DXs K (cut M H) us es) :
    Sd K M (upd H a (exh a (.ref C) (some dd))) σ (DL.kept a C ns es ρ) := by
  have sm : Same H (upd H a (exh a (.ref C) (some dd))) := same_new na
  have S1 := S.same sm
  have ma : ¬ M.has a := S.mok.new na
  refine ⟨by unfold DL.kept; rw [List.length_map]; exact S.len, by unfold DL.kept; rw [List.length_map]; exact S.olen, S1.mok, fun j s h => ?_⟩
  unfold DL.kept at h
  rw [List.getElem?_map] at h
  cases e : ρ[j]? with
  | none => rw [e] at h; cases h
  | some s0 =>
    rw [e] at h
    obtain ⟨o, h1, h2⟩ := S1.ok j s0 e
    refine ⟨o, h1, ?_⟩
    have h := Option.some.inj h
    cases s0 with
    | dat d =>
      cases d with
      | cls b =>
        by_cases cb : b = a
        · subst cb
          have h : (if b = b then Sl.dat (.exc C b ns es) else _) = s := h
          rw [if_pos rfl] at h
          subst h
          obtain ⟨v, g1, g2⟩ := h2
          cases g2
          exact ⟨_, g1, .exc (cut_at ma upd_same) (cut_at nd (by rw [upd_ne (ne_of_none hd na)]; exact hd)) hl (xs.mono (cut_same M sm))⟩
        · have h : (if b = a then _ else Sl.dat (.cls b)) = s := h
          rw [if_neg cb] at h
          subst h
          exact h2
      | _ => subst h; exact h2
    | _ => subst h; exact h2
theorem ws_tryRet {pf : Bool} {W : List Dt → (Dt → Prop) → (Addr → List Str → List Dt → Prop) → Prop} (h : Wa K pf tr ρ fun ds ρ1 => W ds (fun d => D.rt d ρ1) fun C ns es => PySem.W.exmOne K (.ref C) c = some true ∧
      ∀ a dd, Ws K (ts a (.ref C) (some dd)) (ρ1.set i (.dat (.cls a))) { nx := fun ρ2 => D.nx (kept a C ns es (ρ2.set i .any)), rt := fun _ _ => False }) :
    Ws K (fun E σ H => tRet (tCallS (spX K W) (WE (wKeep K c i ts Wout E)) tr) E σ H) ρ D := fun M σ H S E k =>
  h M σ H S _ fun vs H1 ds ρ1 s1 S1 x1 w => by
    have ec : ∀ H', cut M.callP H' = cut M H' := cut_congr M.callP_has
    refine ⟨M.callP, ds, _, _, rfl, rfl, S1.mok.callP, by rw [ec]; exact x1, w, fun v H2 d e x f => k.rt M v H2 d ρ1 σ (s1.st.trans (Stp.same M e)) (S1.same e) (by rw [ec] at x; exact x) f, fun H2 C dd ns us es e e1 e2 nd xs ⟨hm, hsu⟩ => ?_⟩
    rw [ec] at xs
    have nd' : ¬ M.has dd := fun y => nd ((M.callP_has dd).mpr y)
    have st2 : Stp M H M H2 := s1.st.trans (Stp.same M e)
    refine ⟨true, hm, fun _ a na => ?_, fun z => nomatch z⟩
    have S2 : Sd K M H2 (σ.set i (some (.ref a))) (ρ1.set i (.dat (.cls a))) := (S1.same e).put (.cls a) i
    refine hsu a dd M _ H2 S2 (keepE a (.ref C) (some dd) i E) ⟨fun M' σ' H' ρ' s S' z na' => ?_, fun _ _ _ _ _ _ _ _ _ z => z.elim, fun _ _ _ _ _ _ z => z.elim, fun _ _ _ _ _ _ z => z.elim, fun _ _ _ _ _ _ _ _ _ _ _ _ z => z.elim⟩
    have hc2 : cut M H2 dd = some (.xd (ns.zip us)) := cut_at nd' e1
    obtain ⟨nd3, hd3⟩ := cut_of (s.dx dd _ hc2)
    have S3 : Sd K M' H' (σ'.set i none) (ρ'.set i .any) := by
      refine ⟨by rw [List.length_set, List.length_set]; exact S'.len, by rw [List.length_set]; exact S'.olen, S'.mok, fun j s0 e0 => ?_⟩
      by_cases cj : i = j
      · subst cj
        by_cases hi : i < ρ'.length
        · rw [List.getElem?_set_self hi] at e0
          have e0 := Option.some.inj e0
          subst e0
          exact ⟨none, by rw [List.getElem?_set_self (by rw [S'.len]; exact hi)], trivial⟩
        · rw [List.getElem?_eq_none (by rw [List.length_set]; omega)] at e0; cases e0
      · rw [List.getElem?_set_ne cj] at e0 ⊢
        exact S'.ok j s0 e0
    have S4 := S3.kept (a := a) (C := C) na' hd3 e2 nd3 (xs.mono s.dx)
    exact k.nx M' _ _ _ ((st2.trans s).trans (Stp.same M' (same_new na'))) S4 z
end
end DL

set_option maxHeartbeats 2000000
/-! Data level: own errors over any built-in class of errors; made as values, raised. -/
namespace DL
open PySem PySem.Spec PyProof.Rows L2 PySem.HandSPX
variable [Tb]

/-- a built-in class of errors under own ones: tl is its way up, in which no own class stands -/
structure ErrB (newId : String) (tl : List Value) : Prop where
  base : ∃ B initId, ExcBaseFacts B newId initId tl
  store : ∃ B, StoreFacts B tl "object.__setattr__" "object"
  pure : PySem.W.excTail tl tl = true
abbrev tlV : List Value := [.type "ValueError", .type "Exception", .type "BaseException", .type "object"]
abbrev tlL : List Value := [.type "LookupError", .type "Exception", .type "BaseException", .type "object"]
abbrev tlR : List Value := [.type "RuntimeError", .type "Exception", .type "BaseException", .type "object"]
abbrev tlO : List Value := [.type "OverflowError", .type "ArithmeticError", .type "Exception", .type "BaseException", .type "object"]
theorem errV : ErrB "ValueError.__new__" tlV := ⟨⟨_, _, F.excBase_ValueError⟩, ⟨_, F.store_ValueError⟩, by decide +kernel⟩
theorem errL : ErrB "LookupError.__new__" tlL := ⟨⟨_, _, F.excBase_LookupError⟩, ⟨_, F.store_LookupError⟩, by decide +kernel⟩
theorem errR : ErrB "RuntimeError.__new__" tlR := ⟨⟨_, _, F.excBase_RuntimeError⟩, ⟨_, F.store_RuntimeError⟩, by decide +kernel⟩
theorem errO : ErrB "OverflowError.__new__" tlO := ⟨⟨_, _, F.excBase_OverflowError⟩, ⟨_, F.store_OverflowError⟩, by decide +kernel⟩
theorem ErrB.obj {newId : String} {tl : List Value} (e : ErrB newId tl) : tl.contains (.type "object") = true := e.store.elim fun _ S => S.hasOwner
/-- own classes, then those -/
def over (rs : List Addr) (tl : List Value) : List Value := rs.map Value.ref ++ tl
theorem over_tail {tl : List Value} (h : PySem.W.excTail tl tl = true) (rs : List Addr) : PySem.W.excTail tl (over rs tl) = true := by
  induction rs with
  | nil => exact h
  | cons _ _ ih => exact ih
theorem over_has {tl : List Value} (Y : String) (rs : List Addr) : (over rs tl).contains (.type Y) = tl.contains (.type Y) :=
  Bool.eq_iff_iff.mpr (by simp [over])
theorem over_ref {tl : List Value} (D : Addr) (h : tl.contains (.ref D) = false) (rs : List Addr) : (over rs tl).contains (.ref D) = rs.contains D := by
  have h : Value.ref D ∉ tl := fun z => by simp [z] at h
  exact Bool.eq_iff_iff.mpr (by simp [over, h])

/-! ### an own class of errors -/
structure OexB (K : PySem.W.Frag) (C : Addr) (rs : List Addr) (newId : String) (tl : List Value) : Prop where
  eb : ErrB newId tl
  cls : ∃ nm q N bs sn sub ab col dd k0 k1 k2 k3 k5, K.lookup C = some (excClassObj nm q C N bs (over rs tl) true sn sub ab col dd k0 k1 k2 k3 k5 newId)
  sa : PySem.W.findIn K (.ref C) "__setattr__" = some (some (.builtin "object.__setattr__"))
  exC : PySem.W.subIn K (.ref C) (.type "BaseException") = some true
  tyC : PySem.W.typeIn K (.ref C) = some (.type "type")
  kC : PySem.W.keepIn K (.ref C) = true
section
variable {K : PySem.W.Frag} {C : Addr} {rs : List Addr} {newId : String} {tl : List Value}
theorem OexB.cd (T : OexB K C rs newId tl) : ∃ cd, PySem.W.clsIn K C = some cd ∧ cd.mro = over (C :: rs) tl ∧ cd.hasDict = true := by
  obtain ⟨nm, q, N, bs, sn, sub, ab, col, dd, k0, k1, k2, k3, k5, hC⟩ := T.cls
  exact ⟨{ name := nm, bases := bs, mro := .ref C :: over rs tl, ns := N, qualname := q, hasDict := true, slotNames := sn, subclasses := sub, abstract := ab, collection := col, hasDel := false }, by unfold PySem.W.clsIn; rw [hC] <;> rfl, rfl, rfl⟩
theorem OexB.sub (T : OexB K C rs newId tl) (x : Value) : PySem.W.subIn K (.ref C) x = some ((over (C :: rs) tl).contains x) := by
  obtain ⟨cd, h1, h2, _⟩ := T.cd
  show PySem.W.mroIn K C x = _
  unfold PySem.W.mroIn
  rw [h1, Option.bind_some, h2]
  rfl
/-- what the library asks of a class whose errors take fields -/
theorem OexB.up (T : OexB K C rs newId tl) : PySem.W.excOver K C tl = true := by
  obtain ⟨cd, h1, h2, _⟩ := T.cd
  unfold PySem.W.excOver
  rw [h1]
  show (match cd.mro with | .ref C' :: bm => C' == C && PySem.W.excTail tl bm | _ => false) = true
  rw [h2]
  show (C == C && PySem.W.excTail tl (over rs tl)) = true
  rw [over_tail T.eb.pure, beq_self_eq_true]; rfl
/-- isinstance of such an error against an own class -/
theorem OexB.kit (T : OexB K C rs newId tl) {D : Addr} (h1 : (PySem.W.clsIn K D).isSome = true) (h2 : PySem.W.typeIn K (.ref D) = some (.type "type")) (h3 : tl.contains (.ref D) = false) :
    PySem.W.kitOne K (.ref C) (.ref D) = some (decide (C = D) || rs.contains D) := by
  unfold PySem.W.kitOne
  by_cases e : C = D
  · subst e
    rw [if_pos (by simp), decide_eq_true rfl, Bool.true_or]
  · rw [if_neg (by simp [e]), decide_eq_false e, Bool.false_or]
    show (if ((PySem.W.clsIn K D).isSome && PySem.W.typeIn K (.ref D) == some (.type "type")) = true then _ else _) = _
    rw [h1, h2, if_pos (by simp), T.sub, over_ref D h3, List.contains_cons, show (D == C) = false by simpa using fun z => e z.symm, Bool.false_or]
theorem OexB.kitT (T : OexB K C rs newId tl) {n : String} (h : PySem.W.kitMeta n = true) : PySem.W.kitOne K (.ref C) (.type n) = some (tl.contains (.type n)) := by
  unfold PySem.W.kitOne
  rw [if_neg (by simp)]
  show (if PySem.W.kitMeta n = true then _ else _) = _
  rw [if_pos h, T.sub, over_has]
end
end DL

set_option maxHeartbeats 2000000
/-! Data level: own errors over any built-in class: the stores of their __init__, their making. -/
namespace DL
open PySem PySem.Spec PyProof.Rows L2
variable [Tb]

section
variable {X : Cx} {pins : List (Addr × Obj)} {σ : L2.St} {H : Hp} {s : Shared} {a C dx : Addr} {f : Str} {y : V} {u : Value} {fs : List (Str × V)} {Q : Unit → Shared → Prop} {E : Value → Shared → Prop} {A : Around} {rs : List Addr} {newId : String} {tl : List Value}
/-- a store into such an error: what is left is the store into its dict -/
theorem ostB (T : OexB X.K C rs newId tl) (kn : X.K.In s.heap) {ox : Obj} {od : Option Obj} (at_ : PySem.W.InstAt s.heap a ox C od) (hno : PySem.W.findIn X.K (.ref C) f = some none)
    (h : wpAny (model X.prog X.w) A.in1 (Builtin.ObjectAttr.ownDictForStores (.ref a)) (fun d s1 => ∃ dx, d = some dx ∧ wpAny (model X.prog X.w) A.in1 (Builtin.ObjectAttr.storeInDict dx (.str f s.toks) f u) (fun r s2 => r = .done (.ret .none) ∧ Q () s2) (fun _ _ => False) s1) (fun _ _ => False) { s with toks := s.toks + 1 }) :
    wpAny (model X.prog X.w) A (setAttr (.ref a) f u) Q E s := by
  obtain ⟨_, SF⟩ := T.eb.store
  refine PySem.W.set_plain kn at_ T.sa (PySem.W.osa_openX (s := { s with toks := s.toks + 1 }) SF kn at_ T.up (by unfold PySem.W.takerIn; rw [hno]; rfl) fun _ => ?_)
  refine wpAny_bind (wpAny_pure (wpAny_bind (wpAny_mono h (fun d s1 ⟨dx, e, q⟩ => ?_) fun _ _ z => z.elim)))
  subst e
  exact wpAny_mono q (fun r s2 ⟨e, z⟩ => by subst e; exact z) fun _ _ z => z.elim
theorem upd_back {n : Addr} {o1 o2 o3 : HO} (h : n ≠ a) : upd (upd (upd H n o1) a o2) n o3 = upd (upd H n o3) a o2 := funext fun b => by
  by_cases e : b = a
  · subst e
    rw [upd_ne (Ne.symm h), upd_same, upd_same]
  · by_cases e2 : b = n
    · subst e2
      rw [upd_same, upd_ne h, upd_same]
    · rw [upd_ne e2, upd_ne e, upd_ne e2, upd_ne e, upd_ne e2]
/-- the first field: the dict is laid, hung in, filled -/
theorem ost_newB (T : OexB X.K C rs newId tl) (I : Inv X pins σ H s) (e : H a = some (exo a C none)) (hno : PySem.W.findIn X.K (.ref C) f = some none) (ry : RelV y u)
    (h : ∀ dx s', H dx = none → dx ≠ a → Inv X pins σ (upd (upd H dx (exd dx [(f, y)])) a (exo a C (some dx))) s' → Q () s') : wpAny (model X.prog X.w) A (setAttr (.ref a) f u) Q E s := by
  obtain ⟨cd, c1, _, c3⟩ := T.cd
  obtain ⟨t1, ho⟩ := exo_at I.hok e
  have n0 : H s.heap.objs.size = none := I.hok.fresh (Nat.le_refl _)
  have na : s.heap.objs.size ≠ a := fun z => Nat.lt_irrefl _ (by have := Heap.lt_size ho; rw [← z] at this; exact this)
  have J1 := I.laid (t' := s.toks + 1) (a := s.heap.objs.size) (o := exd s.heap.objs.size []) (h' := s.heap.push (PySem.W.dictOf [] 0)) (fun b u z => Heap.get?_push_of_some _ z) (Nat.le_refl _)
    (exd_ok (mA := fun _ => none) (Heap.Ns1.of_empty ⟨_, #[], 0, Heap.get?_push_at rfl rfl, rfl, fun e he => by simp at he, fun _ => rfl⟩) fun _ => True.intro)
  have hx1 : (s.heap.push (PySem.W.dictOf [] 0)).get? a = some (PySem.W.excObj C t1 none .none) := Heap.get?_push_of_some _ ho
  have hx2 : ((s.heap.push (PySem.W.dictOf [] 0)).update a fun o => { o with dict := some s.heap.objs.size }).get? a = some (PySem.W.excObj C t1 (some s.heap.objs.size) .none) := Heap.get?_update_self _ hx1 rfl
  have J2 := J1.write (t' := s.toks + 1) (x := a) (e := a) (o := exo a C (some s.heap.objs.size)) (h' := (s.heap.push (PySem.W.dictOf [] 0)).update a fun o => { o with dict := some s.heap.objs.size }) (by rw [upd_ne (Ne.symm na), e]; exact True.intro) (.inl rfl)
    (fun b u nb z => (Heap.get?_update_ne _ _ _ _ nb).trans z) ⟨_, hx2⟩ (exo_ok hx2)
  refine ostB T I.kIn (ox := PySem.W.excObj C t1 none .none) (od := none) ⟨ho, rfl, rfl, trivial⟩ hno (PySem.W.instanceDict_exc (s := { s with toks := s.toks + 1 }) ho (PySem.W.looks_clsIn I.kIn c1) c3 ⟨_, rfl, ?_⟩)
  obtain ⟨mA, hns, _⟩ := exd_at J2.hok (show (upd (upd H s.heap.objs.size (exd s.heap.objs.size [])) a (exo a C (some s.heap.objs.size))) s.heap.objs.size = some (exd s.heap.objs.size []) by rw [upd_ne na, upd_same])
  obtain ⟨hp, g, d, t, os⟩ := s
  refine PySem.HandSPX.store_in_new ⟨_, #[], _, (Heap.get?_update_ne _ _ _ _ na).trans (Heap.get?_push_at rfl rfl), rfl, fun e he => by simp at he, fun _ => rfl⟩ fun h' tk' hn hs => ⟨rfl, h _ _ n0 na ?_⟩
  have J3 := J2.write (t' := tk') (x := hp.objs.size) (e := hp.objs.size) (o := exd hp.objs.size [(f, y)]) (h' := h') (by rw [upd_ne na, upd_same]; exact True.intro) (.inl rfl)
    (fun b u nb z => (hs.2 b nb).trans z) (by obtain ⟨o, _, _, z, _⟩ := hn; exact ⟨o, z⟩) (exd_ok hn (relO_put (fs := []) (mA := fun _ => none) ry fun _ => True.intro))
  rwa [upd_back na] at J3
/-- a further field -/
theorem ost_oldB (T : OexB X.K C rs newId tl) (I : Inv X pins σ H s) (e : H a = some (exo a C (some dx))) (ed : H dx = some (exd dx fs)) (hl : fs.length ≤ 900) (hno : PySem.W.findIn X.K (.ref C) f = some none) (ry : RelV y u)
    (h : ∀ s', Inv X pins σ (upd H dx (exd dx ((f, y) :: fs))) s' → Q () s') : wpAny (model X.prog X.w) A (setAttr (.ref a) f u) Q E s := by
  obtain ⟨cd, c1, _, c3⟩ := T.cd
  obtain ⟨t1, ho⟩ := exo_at I.hok e
  obtain ⟨mA, hns, rel⟩ := exd_at I.hok ed
  have hw := within_of rel
  obtain ⟨oD, _, _, hoD, _, _⟩ := hns.count hw
  refine ostB T I.kIn (ox := PySem.W.excObj C t1 (some dx) .none) (od := some oD) ⟨ho, rfl, rfl, hoD⟩ hno ?_
  obtain ⟨hp, g, d, t, os⟩ := s
  refine wpAny_bind (wpAny_loadPart ho (wpAny_bind ((PySem.W.looks_clsIn I.kIn c1).at ?_)))
  rw [c3]
  refine wpAny_pure (a := some dx) ⟨dx, rfl, PySem.OEX.store_in_old hns hw (by rw [List.length_map]; omega) fun h' tk' hn hs => ⟨rfl, h _ ?_⟩⟩
  exact I.write (t' := tk') (x := dx) (e := dx) (by rw [ed]; exact True.intro) (.inl rfl) (fun b u nb z => (hs.2 b nb).trans z) (by obtain ⟨o, _, _, z, _⟩ := hn; exact ⟨o, z⟩) (exd_ok hn (relO_put ry rel))
end
/-- self.f = e -/
def tOstB (K : PySem.W.Frag) (f : Str) (to te : TE) : TS := fun D σ H => te σ H fun y H1 => to σ H1 fun x H2 => ∃ (a C : Addr) (rs : List Addr) (newId : String) (tl : List Value), x = .ref a ∧ OexB K C rs newId tl ∧ PySem.W.findIn K (.ref C) f = some none ∧
  ((H2 a = some (exo a C none) ∧ ∀ dx, H2 dx = none → dx ≠ a → D.nx σ (upd (upd H2 dx (exd dx [(f, y)])) a (exo a C (some dx)))) ∨
    ∃ (dx : Addr) (fs : List (Str × V)), H2 a = some (exo a C (some dx)) ∧ H2 dx = some (exd dx fs) ∧ fs.length ≤ 900 ∧ D.nx σ (upd H2 dx (exd dx ((f, y) :: fs))))
theorem ps_ostB {X : Cx} {o e : Expr} {to te : TE} {f : Str} {p' pos : Pos} (ho : PE X o to) (he : PE X e te) (hs : swapsWith e (some (.Attribute o f p')) pos.line X.env = pure false := by rfl) : PS X (.Assign [.Attribute o f p'] e pos) (tOstB X.K f to te) := by
  constructor
  intro pins s σ H D I h
  refine plainObj_wpAny_Assign_Attribute (thn (he.run pins s σ H _ I h) fun v s1 ⟨y, H1, I1, r1, q1⟩ => thn (ho.run pins s1 σ H1 _ I1 q1) fun u s2 ⟨x, H2, I2, r2, a, C, rs, newId, tl, ex, T, hno, q⟩ => ?_) hs
  subst ex
  have r2 : u = Value.ref a := r2
  subst r2
  rcases q with ⟨ea, q⟩ | ⟨dx, fs, ea, ed, hl, q⟩
  · exact ost_newB T I2 ea hno r1 fun dx s' n ne J => ⟨σ, _, J, q dx n ne⟩
  · exact ost_oldB T I2 ea ed hl hno r1 fun s' J => ⟨σ, _, J, q⟩

/-! ### an __init__ of one or two fields -/
section
variable {P : Program} {w : World} {K : PySem.W.Frag} {mg : Str → Option Value} {base : Heap} {C : Addr} {f : Addr} {fd : FuncData} {qual : Str} {st : Stmt} {rs : List Addr} {newId : String} {tl : List Value}
theorem ok_ex1B {fl x : Str} {p1 p2 p3 p4 : Pos} (F : Fun K "__init__" qual st f fd) (S : FnScope ["self", x] ["self", x] (defScope st)) (hb : defBody st = [.Assign [.Attribute (.Name "self" p1) fl p2] (.Name x p3) p4])
    (v1 : (defScope st).names.lookup ("self" : Str) = some NameKind.local) (v2 : (defScope st).names.lookup x = some NameKind.local) (hx : (x == ("__debug__" : Str)) = false) (hx2 : (x == ("__classdict__" : Str)) = false) (T : OexB K C rs newId tl) (hno : PySem.W.findIn K (.ref C) fl = some none) :
    FnOk P w K mg base CX0 1 f fd ["self", x] (spExI K C fun ds Φ => ∃ d, ds = [d] ∧ Φ [fl] [d]) := by
  refine F.ok S (fun vs H Q E ⟨M, self, ws, ds, Φ, e, _, xx, ⟨d, ed, _⟩, _⟩ => by rw [e, List.length_cons, xx.len, ed]; rfl) fun cdv A outer s H vs Q E hr h => ?_
  rw [hb]
  refine ⟨_, pss_one (ps_ostB (pv 0 (hv := .inl v1)) (pv 1 (hv := .inl v2) (hd := hx) (hcd := hx2))), ?_⟩
  obtain ⟨M, self, ws, ds, Φ, rfl, hs, xx, ⟨d, rfl, q⟩, fin⟩ := h
  obtain ⟨y, rfl, xy⟩ := one_v xx
  refine ⟨y, rfl, .ref self, rfl, self, C, rs, newId, tl, rfl, T, hno, .inl ⟨hs, fun dx ndx ne => ?_⟩⟩
  have keep : ∀ a o, H a = some o → a ≠ self → (upd (upd H dx (exd dx [(fl, y)])) self (exo self C (some dx))) a = some o := fun a o e n => by
    rw [upd_ne n, upd_ne (ne_of_none e ndx)]; exact e
  refine fin _ dx [fl] [y] [d] ndx keep upd_same (by rw [upd_ne ne, upd_same]; rfl) rfl ((DXs.one xy).mono fun b u z => ?_) q
  obtain ⟨c, e⟩ := cut_of z
  have b1 : b ≠ self := fun n => c (.inr (.inl (by rw [n]; exact List.mem_cons_self)))
  refine cut_at (fun t => ?_) (keep b u e b1)
  rcases t with t | t | t
  · exact c (.inl t)
  · rcases List.mem_cons.mp t with t | t
    · rw [t, ndx] at e; cases e
    · exact c (.inr (.inl t))
  · exact c (.inr (.inr t))
theorem ok_ex2B {fl gl x y : Str} {p1 p2 p3 p4 r1 r2 r3 r4 : Pos} (F : Fun K "__init__" qual st f fd) (S : FnScope ["self", x, y] ["self", x, y] (defScope st))
    (hb : defBody st = [.Assign [.Attribute (.Name "self" p1) fl p2] (.Name x p3) p4, .Assign [.Attribute (.Name "self" r1) gl r2] (.Name y r3) r4])
    (v1 : (defScope st).names.lookup ("self" : Str) = some NameKind.local) (v2 : (defScope st).names.lookup x = some NameKind.local) (v3 : (defScope st).names.lookup y = some NameKind.local) (hx : (x == ("__debug__" : Str)) = false) (hx2 : (x == ("__classdict__" : Str)) = false)
    (hy : (y == ("__debug__" : Str)) = false) (hy2 : (y == ("__classdict__" : Str)) = false) (T : OexB K C rs newId tl) (hno : PySem.W.findIn K (.ref C) fl = some none) (hno2 : PySem.W.findIn K (.ref C) gl = some none) :
    FnOk P w K mg base CX0 1 f fd ["self", x, y] (spExI K C fun ds Φ => ∃ d e, ds = [d, e] ∧ Φ [gl, fl] [e, d]) := by
  refine F.ok S (fun vs H Q E ⟨M, self, ws, ds, Φ, e, _, xx, ⟨d, d2, ed, _⟩, _⟩ => by rw [e, List.length_cons, xx.len, ed]; rfl) fun cdv A outer s H vs Q E hr h => ?_
  rw [hb]
  refine ⟨_, pss_cons (ps_ostB (pv 0 (hv := .inl v1)) (pv 1 (hv := .inl v2) (hd := hx) (hcd := hx2))) (pss_one (ps_ostB (pv 0 (hv := .inl v1)) (pv 2 (hv := .inl v3) (hd := hy) (hcd := hy2)))), ?_⟩
  obtain ⟨M, self, ws, ds, Φ, rfl, hs, xx, ⟨d, d2, rfl, q⟩, fin⟩ := h
  obtain ⟨u, u2, rfl, xu, xu2⟩ := two_v xx
  refine ⟨u, rfl, .ref self, rfl, self, C, rs, newId, tl, rfl, T, hno, .inl ⟨hs, fun dx ndx ne => ?_⟩⟩
  have at_dx : (upd (upd H dx (exd dx [(fl, u)])) self (exo self C (some dx))) dx = some (exd dx [(fl, u)]) := by rw [upd_ne ne, upd_same]
  refine ⟨u2, rfl, .ref self, rfl, self, C, rs, newId, tl, rfl, T, hno2, .inr ⟨dx, [(fl, u)], upd_same, at_dx, by show 1 ≤ 900; decide, ?_⟩⟩
  have keep : ∀ a o, H a = some o → a ≠ self → (upd (upd (upd H dx (exd dx [(fl, u)])) self (exo self C (some dx))) dx (exd dx [(gl, u2), (fl, u)])) a = some o := fun a o e n => by
    rw [upd_ne (ne_of_none e ndx), upd_ne n, upd_ne (ne_of_none e ndx)]; exact e
  refine fin _ dx [gl, fl] [u2, u] [d2, d] ndx keep (by rw [upd_ne (Ne.symm ne), upd_same]) (by rw [upd_same]; rfl) rfl ((DXs.cons xu2 (.one xu)).mono fun b z e' => ?_) q
  obtain ⟨c, e⟩ := cut_of e'
  have b1 : b ≠ self := fun n => c (.inr (.inl (by rw [n]; exact List.mem_cons_self)))
  refine cut_at (fun t => ?_) (keep b z e b1)
  rcases t with t | t | t
  · exact c (.inl t)
  · rcases List.mem_cons.mp t with t | t
    · rw [t, ndx] at e; cases e
    · exact c (.inr (.inl t))
  · exact c (.inr (.inr t))
end

/-! ### the class called -/
section
variable {X : Cx} {e : Expr} {es : List Expr} {p pos : Pos} {ta : TA}
/-- the object of an error that is being made, and its args, laid behind all that stands -/
theorem oexB_laid {pins : List (Addr × Obj)} {hp : Heap} {g : Array GenState} {d : Drawn} {t : Nat} {os : OsState} {σ : L2.St} {H : Hp} {C : Addr} (I : Inv X pins σ H ⟨hp, g, d, t, os⟩) (us : List Value) :
    Inv X pins σ (upd H (hp.objs.size + 1) (exo (hp.objs.size + 1) C none)) ⟨(hp.push (PySem.W.kdv_tup us)).push (PySem.HandSPX.excO C hp.objs.size), g, d, t, os⟩ :=
  Inv.laid (t' := t) I (fun _ _ z => Heap.get?_push_of_some _ (Heap.get?_push_of_some _ z)) (Nat.le_succ _) (exo_ok (t1 := hp.objs.size) (by heap_get))
/-- C(e, ..), up to its end -/
theorem makeB {CX : CXT} {x : Str} {C fI : Addr} {k : Nat} {fd : FuncData} {ps : List Str} {sp : Sp} {ds : List Value} {dvs : List V} {rs : List Addr} {newId : String} {tl : List Value} (T : OexB X.K C rs newId tl) (iC : PySem.W.findIn X.K (.ref C) "__init__" = some (some (.ref fI)))
    (tI : PySem.W.typeIn X.K (.ref fI) = some (.type "function")) (F1 : FnOk X.prog X.w X.K X.mg X.base CX k fI fd ps sp) (hr : Room (k + 1) X.A) (hb : Binds X.K fd ps ds) (hd : Vals dvs ds) (hx : Passes CX X (fun _ _ _ => False)) (hg : Gl X x) (hm : X.mg x = some (.ref C)) (ha : PA X (e :: es) ta)
    {pins : List (Addr × Obj)} {s : Shared} {σ : L2.St} {H : Hp} (I : Inv X pins σ H s) {R : Addr → Addr → List (Str × V) → Hp → Hp → Prop} {Z : Value → Shared → Prop}
    (h : ta σ H fun vs H1 => vs.length ≤ 1000 ∧ ∀ a, H1 a = none → sp (.ref a :: (vs ++ dvs)) (upd H1 a (exo a C none)) (fun v H2 => v = .non ∧ ∃ (d : Addr) (fs : List (Str × V)), H2 a = some (exo a C (some d)) ∧ H2 d = some (exd d fs) ∧ H1 d = none ∧ R a d fs H1 H2) (fun _ _ _ => False))
    (fin : ∀ (a d : Addr) (fs : List (Str × V)) (H1 H2 : Hp) (hp hp2 h2 : Heap) (g1 g2 : Array GenState) (d1 d2 : Drawn) (t1 t2 : Nat) (os1 os2 : OsState), Inv X pins σ H1 ⟨hp, g1, d1, t1, os1⟩ → hp.objs.size ≤ a → (∀ b o, hp.get? b = some o → hp2.get? b = some o) →
      Un (frs X.stack) [] (upd H1 a (exo a C none)) H2 hp2 h2 → HOk X.prog X.w H2 h2 → os2 = os1 → AllBare g2 → H2 a = some (exo a C (some d)) → H2 d = some (exd d fs) → H1 d = none → R a d fs H1 H2 → Z (.ref a) ⟨h2, g2, d2, t2, os2⟩)
    (hdb : (x == ("__debug__" : Str)) = false := by decide) (he : starEach (e :: es) X.env = (false, eval e X.env) :: starEach es X.env := by rfl) (hpl : (backTo pos (starEach es X.env)).any (·.1) = false := by rfl) :
    wpAny (model X.prog X.w) X.A (eval (.Call (.Name x p) (e :: es) [] pos) X.env) Z X.xe s := by
  refine wpAny_Call_Name_kw (ld_glob I hg hm ?_ hdb)
  refine PySem.W.callWith_K I.ok.mod.kin T.kC (wpAny_mono (ha.run pos pins s σ H _ I h) (fun us s1 z => ?_) fun _ _ z => z) he hpl
  obtain ⟨vs, H1, J, r, hz, q⟩ := z
  refine ⟨J.kIn, ?_⟩
  obtain ⟨hp, g, dr, tk, os⟩ := s1
  have q := q _ (J.hok.fresh (Nat.le_succ hp.objs.size))
  obtain ⟨BB, initId, FB⟩ := T.eb.base
  obtain ⟨nm, qn, N, bs, sn, sub, ab, col, dd, k0, k1, k2, k3, k5, hC⟩ := T.cls
  have vals := Paired.cons (F := RelV) (show RelV (V.ref (hp.objs.size + 1)) (.ref (hp.objs.size + 1)) from rfl) (Vals.append r hd)
  have born := oexB_laid (C := C) J us
  refine wpAny_call (PySem.HandSPX.call_own FB (over_has · rs) (J.kIn _ _ hC) (PySem.W.looks_findIn J.kIn iC) (PySem.W.bind_fn J.kIn · tI) (by have := Paired.length r; rw [List.nil_append, sizeLine_eq]; omega) (codeAny_mono (F1.run _ _ _ _ _ _ _ _ _ (hr.make C us []) (born.env0.make C us []) (hb _ _ born.kIn ?_) vals q) ?_))
  · exact (Paired.length vals).symm.trans (F1.len _ _ _ _ q)
  rintro (er | fl) s2 back
  · exact hx _ _ _ _ er s2 born back
  · obtain ⟨h2, g2, d2, t2, o2⟩ := s2
    cases fl with
    | ret v =>
      obtain ⟨_, H2, b1, b2, b3, b4, rv, rfl, dx, fs, ea, ed, hn, last⟩ := back
      exact ⟨rv, fin _ dx fs H1 H2 hp _ h2 g g2 dr d2 tk t2 os o2 J (Nat.le_succ _) (fun b o z => Heap.get?_push_of_some _ (Heap.get?_push_of_some _ z)) b3 b4 b1 b2 ea ed hn last⟩
    | _ => exact back.elim
theorem pmk_oexB {CX : CXT} {x : Str} {C fI : Addr} {k : Nat} {fd : FuncData} {ps : List Str} {sp : Sp} {ds : List Value} {dvs : List V} {rs : List Addr} {newId : String} {tl : List Value} (T : OexB X.K C rs newId tl) (iC : PySem.W.findIn X.K (.ref C) "__init__" = some (some (.ref fI)))
    (tI : PySem.W.typeIn X.K (.ref fI) = some (.type "function")) (F1 : FnOk X.prog X.w X.K X.mg X.base CX k fI fd ps sp) (hr : Room (k + 1) X.A) (hb : Binds X.K fd ps ds) (hd : Vals dvs ds) (hx : Passes CX X (fun _ _ _ => False)) (hg : Gl X x) (hm : X.mg x = some (.ref C)) (ha : PA X (e :: es) ta)
    (hdb : (x == ("__debug__" : Str)) = false := by decide) (he : starEach (e :: es) X.env = (false, eval e X.env) :: starEach es X.env := by rfl) (hpl : (backTo pos (starEach es X.env)).any (·.1) = false := by rfl) :
    PMk X (.Call (.Name x p) (e :: es) [] pos) (tMkO C sp dvs ta) := by
  intro pins s σ H Q I h
  exact makeB (R := fun a d fs H1 H2 => Q (.ref C) (some d) (upd (del H2 a) d (.xd fs))) T iC tI F1 hr hb hd hx hg hm ha I h (fun a d fs H1 H2 hp hp2 h2 g1 g2 d1 d2 t1 t2 os1 os2 I1 ha k un hok ho hb ea ed hd1 q =>
    mk_end (raises_own T.exC T.tyC) I1 ha k un hok ho hb ea ed hd1 q) hdb he hpl
/-- such an error as a value: it stays known -/
def tMkV (C : Addr) (sp : Sp) (dvs : List V) (ta : TA) : TE := fun σ H Q => ta σ H fun vs H1 => vs.length ≤ 1000 ∧ ∀ a, H1 a = none → sp (.ref a :: (vs ++ dvs)) (upd H1 a (exo a C none))
  (fun v H2 => v = .non ∧ ∃ (d : Addr) (fs : List (Str × V)), H2 a = some (exo a C (some d)) ∧ H2 d = some (exd d fs) ∧ H1 d = none ∧ Q (.ref a) (upd (upd H2 a (exh a (.ref C) (some d))) d (.xd fs))) (fun _ _ _ => False)
theorem pe_mkB {CX : CXT} {x : Str} {C fI : Addr} {k : Nat} {fd : FuncData} {ps : List Str} {sp : Sp} {ds : List Value} {dvs : List V} {rs : List Addr} {newId : String} {tl : List Value} (T : OexB X.K C rs newId tl) (iC : PySem.W.findIn X.K (.ref C) "__init__" = some (some (.ref fI)))
    (tI : PySem.W.typeIn X.K (.ref fI) = some (.type "function")) (F1 : FnOk X.prog X.w X.K X.mg X.base CX k fI fd ps sp) (hr : Room (k + 1) X.A) (hb : Binds X.K fd ps ds) (hd : Vals dvs ds) (hx : Passes CX X (fun _ _ _ => False)) (hg : Gl X x) (hm : X.mg x = some (.ref C)) (ha : PA X (e :: es) ta)
    (hdb : (x == ("__debug__" : Str)) = false := by decide) (he : starEach (e :: es) X.env = (false, eval e X.env) :: starEach es X.env := by rfl) (hpl : (backTo pos (starEach es X.env)).any (·.1) = false := by rfl) :
    PE X (.Call (.Name x p) (e :: es) [] pos) (tMkV C sp dvs ta) := by
  constructor
  intro pins s σ H Q I h
  refine makeB (R := fun a d fs H1 H2 => Q (.ref a) (upd (upd H2 a (exh a (.ref C) (some d))) d (.xd fs))) T iC tI F1 hr hb hd hx hg hm ha I h (fun a d fs H1 H2 hp hp2 h2 g1 g2 d1 d2 t1 t2 os1 os2 I1 ha k un hok ho hb ea ed hd1 q => ?_) hdb he hpl
  obtain ⟨t0, G, J, kG, ge, hoe, na⟩ := mk_end0 (d2 := d2) (t2 := t2) I1 ha k un hok ho hb ea ed hd1
  have hda : d ≠ a := fun z => by rw [z, upd_same] at na; cases na
  have back : upd (upd (del H2 a) d (.xd fs)) a (exh a (.ref C) (some d)) = upd (upd H2 a (exh a (.ref C) (some d))) d (.xd fs) := funext fun b => by
    by_cases e : b = a
    · subst e; rw [upd_same, upd_ne (Ne.symm hda), upd_same]
    · rw [upd_ne e]
      by_cases e2 : b = d
      · subst e2; rw [upd_same, upd_same]
      · rw [upd_ne e2, upd_ne e2, del_ne e, upd_ne e]
  have J2 := J.laidN (t' := t2) (h' := h2) (a := a) (o := exh a (.ref C) (some d)) kG ge na (exh_ok hoe ⟨rfl, rfl⟩ rfl)
  rw [back] at J2
  exact ⟨.ref a, _, J2, rfl, q⟩
end

/-! ### over data -/
section
variable {K : PySem.W.Frag} {pf : Bool} {ρ : List Sl} {ta : TA} {C : Addr} {Φ : Dt → List Sl → Prop}
theorem w_mkV {W : List Dt → (List Str → List Dt → Prop) → Prop} (h : Wa K pf ta ρ fun ds ρ1 => ds.length ≤ 900 ∧ W ds fun ns es => ∀ a, Φ (.exc C a ns es) ρ1) : Wp K pf (tMkV C (spExI K C W) [] ta) ρ Φ := fun M σ H S Q q =>
  h M σ H S _ fun vs H1 ds ρ1 s1 S1 x1 ⟨hl, w⟩ => by
    refine ⟨by rw [x1.len]; omega, fun a na => ?_⟩
    have sc1 : Same (cut M H1) (cut (M.slf a) (upd H1 a (exo a C none))) := fun b u z => by
      obtain ⟨c, y⟩ := cut_of z
      refine cut_at (fun t => ?_) (by rw [upd_ne (ne_of_none y na)]; exact y)
      rcases t with t | t | t
      · exact c (.inl t)
      · rcases List.mem_cons.mp t with t | t
        · rw [t, na] at y; cases y
        · exact c (.inr (.inl t))
      · exact c (.inr (.inr t))
    refine ⟨M, a, vs, ds, _, by rw [List.append_nil], upd_same, x1.mono sc1, w, fun H2 dd ns us es hd kp e1 e2 e3 xs z => ⟨rfl, dd, _, e1, e2, ?_, ?_⟩⟩
    · have nd : dd ≠ a := fun n => by rw [n, upd_same] at hd; cases hd
      rw [upd_ne nd] at hd; exact hd
    · have nd : dd ≠ a := fun n => by rw [n, upd_same] at hd; cases hd
      have hd1 : H1 dd = none := by rw [upd_ne nd] at hd; exact hd
      have all : Same H1 (upd (upd H2 a (exh a (.ref C) (some dd))) dd (.xd (ns.zip us))) := fun b o e => by
        have ba := ne_of_none e na
        rw [upd_ne (ne_of_none e hd1), upd_ne ba]
        exact kp b o (by rw [upd_ne ba]; exact e) ba
      have nh : ¬ M.has dd := S1.mok.new hd1
      have ma : ¬ M.has a := S1.mok.new na
      refine q (.ref a) _ (.exc C a ns es) ρ1 (s1.trans (Tr.same pf M all)) (S1.same all) (.exc (cut_at ma (by rw [upd_ne (Ne.symm nd), upd_same])) (cut_at nh upd_same) e3 (xs.mono fun b u z' => ?_)) (z a)
      obtain ⟨c, y⟩ := cut_of z'
      have b1 : b ≠ dd := fun n => c (.inr (.inl (by rw [n]; exact List.mem_cons_self)))
      have b2 : b ≠ a := fun n => c (.inr (.inl (by rw [n]; exact List.mem_cons_of_mem _ List.mem_cons_self)))
      exact cut_at (fun t => c (has_aside b (has_aside b t))) (by rw [upd_ne b1, upd_ne b2]; exact y)
end
end DL

set_option maxHeartbeats 2000000
/-! Data level: own lists by displays and sums, stores side by side, errors caught and kept in own lists, errors without fields. -/
namespace DL
open PySem PySem.Spec PyProof.Rows L2
variable [Tb]

/-! ### an expression that makes a new list -/
def WpL (K : PySem.W.Frag) (f : Bool) (te : TE) (ρ : List Sl) (Ψ : List Dt → List Sl → Prop) : Prop :=
  ∀ (M : Md) (σ : L2.St) (H : Hp), Sd K M H σ ρ → ∀ Q : VK, (∀ q vs H2 ds ρ', Tr f M H H2 → Sd K M H2 σ ρ' → H2 q = none → DXs K (cut M H2) vs ds → Ψ ds ρ' → Q (.ref q) (upd H2 q (.lst vs))) → te σ H Q
section
variable {K : PySem.W.Frag} {pf : Bool} {ρ : List Sl} {te tb : TE} {ta : TA} {Ψ : List Dt → List Sl → Prop} {D : DE} {i j l : Nat}
theorem wl_lst (h : Wa K pf ta ρ fun ds ρ1 => ds.length ≤ 100000 ∧ Ψ ds ρ1) : WpL K pf (tLst ta) ρ Ψ := fun M σ H S Q q =>
  h M σ H S _ fun vs H1 ds ρ1 s1 S1 x1 ⟨hl, f⟩ => ⟨by rw [x1.len]; exact Nat.le_trans hl (by decide), fun p hp => q p vs H1 ds ρ1 s1 S1 hp x1 f⟩
theorem wl_cat (h : Wp K pf te ρ fun d1 ρ1 => Wp K pf tb ρ1 fun d2 ρ2 => ∃ xs ys, d1 = .lst xs ∧ d2 = .lst ys ∧ xs.length + ys.length ≤ 100000 ∧ Ψ (xs ++ ys) ρ2) : WpL K pf (tOp (rCatL K) te tb) ρ Ψ := fun M σ H S Q q =>
  h M σ H S _ fun v1 H1 d1 ρ1 s1 S1 x1 k1 => k1 M σ H1 S1 _ fun v2 H2 d2 ρ2 s2 S2 x2 ⟨xs, ys, e1, e2, hz, f⟩ => by
    subst e1 e2
    have x1' := x1.mono s2.dx
    cases x1' with
    | lst hs ha =>
      cases x2 with
      | lst ht hb =>
        exact ⟨_, _, _, _, rfl, rfl, (cut_sub M H2).seq hs, (cut_sub M H2).seq ht, by rw [ha.len, hb.len]; exact Nat.le_trans hz (by decide), fun p hp => q p _ H2 _ ρ2 (s1.trans s2) S2 hp (ha.append hb) f⟩
theorem ws_own (h : WpL K pf te ρ fun ds ρ' => i < ρ'.length ∧ D.nx (ρ'.set i (.own ds))) : Ws K (tAsg te (gName i)) ρ D := fun M σ H S E k =>
  h M σ H S _ fun q vs H2 ds ρ' s S2 hq x ⟨hi, z⟩ => by
    refine k.nx _ _ _ _ (s.st.trans (Stp.own hq (same_new hq))) ((S2.same (same_new hq)).own hi (S2.mok.new hq) upd_same (x.mono fun b u y => ?_) (S2.aside hq (same_new hq) upd_same)) z
    obtain ⟨c, y⟩ := cut_of y
    refine cut_at (fun t => ?_) (by rw [upd_ne (ne_of_none y hq)]; exact y)
    rcases t with t | t | t
    · exact c (.inl t)
    · rcases List.mem_cons.mp t with t | t
      · exact ne_of_none y hq t
      · exact c (.inr (.inl t))
    · exact c (.inr (.inr t))

/-! ### a, b = x, y -/
theorem ws_par (h : Wa K pf ta ρ fun ds ρ' => ∃ d e, ds = [d, e] ∧ D.nx ((ρ'.set i (.dat d)).set j (.dat e))) : Ws K (tPar i j ta) ρ D := fun M σ H S E k =>
  h M σ H S _ fun vs H1 ds ρ1 s1 S1 x1 ⟨d, e, ed, z⟩ => by
    subst ed
    obtain ⟨v, w, rfl, xv, xw⟩ := two_v x1
    exact ⟨v, w, rfl, k.nx M _ H1 _ s1.st ((S1.put xv i).put xw j) z⟩
theorem three_v {H : Hp} {vs : List V} {d e g : Dt} (h : DXs K H vs [d, e, g]) : ∃ v w u, vs = [v, w, u] ∧ DX K H v d ∧ DX K H w e ∧ DX K H u g := by
  cases h with
  | cons h1 h2 =>
    obtain ⟨w, u, rfl, h3, h4⟩ := two_v h2
    exact ⟨_, w, u, rfl, h1, h3, h4⟩
theorem ws_par3 (h : Wa K pf ta ρ fun ds ρ' => ∃ d e g, ds = [d, e, g] ∧ D.nx (((ρ'.set i (.dat d)).set j (.dat e)).set l (.dat g))) : Ws K (tPar3 i j l ta) ρ D := fun M σ H S E k =>
  h M σ H S _ fun vs H1 ds ρ1 s1 S1 x1 ⟨d, e, g, ed, z⟩ => by
    subst ed
    obtain ⟨v, w, u, rfl, xv, xw, xu⟩ := three_v x1
    exact ⟨v, w, u, rfl, k.nx M _ H1 _ s1.st (((S1.put xv i).put xw j).put xu l) z⟩
end

/-! ### an error caught: it stays known, in slots and in own lists -/
def keptD (a C : Addr) (ns : List Str) (es : List Dt) : Dt → Dt
  | .cls b => if b = a then .exc C a ns es else .cls b
  | d => d
def keptO (a C : Addr) (ns : List Str) (es : List Dt) (ρ : List Sl) : List Sl := ρ.map fun s => match s with
  | .dat d => .dat (keptD a C ns es d)
  | .own ds => .own (ds.map (keptD a C ns es))
  | s => s
section
variable {K : PySem.W.Frag} {ρ : List Sl} {tr : TA} {D : DE} {i : Nat} {ts : Addr → Value → Option Addr → TS} {c : Value} {Wout : WX} {pf : Bool}
theorem keptD_dx {H : Hp} {a C dd : Addr} {ns : List Str} {us : List V} {es : List Dt} (h1 : H a = some (exh a (.ref C) (some dd))) (h2 : H dd = some (.xd (ns.zip us))) (hl : ns.length = us.length) (xs : DXs K H us es) : ∀ {d : Dt} {v : V}, DX K H v d → DX K H v (keptD a C ns es d)
  | .cls b, v, x => by
    show DX K H v (if b = a then .exc C a ns es else .cls b)
    by_cases e : b = a
    · subst e
      rw [if_pos rfl]
      cases x
      exact .exc h1 h2 hl xs
    · rw [if_neg e]; exact x
  | .non, _, x | .bl _, _, x | .int _, _, x | .str _, _, x | .lst _, _, x | .tup _, _, x | .dct _ _, _, x | .ty _, _, x | .ins _ _ _ _, _, x | .exc _ _ _ _, _, x => x
theorem keptD_dxs {H : Hp} {a C dd : Addr} {ns : List Str} {us : List V} {es : List Dt} (h1 : H a = some (exh a (.ref C) (some dd))) (h2 : H dd = some (.xd (ns.zip us))) (hl : ns.length = us.length) (xs : DXs K H us es) : ∀ {ds : List Dt} {vs : List V}, DXs K H vs ds → DXs K H vs (ds.map (keptD a C ns es))
  | [], _, x => by cases x; exact .nil
  | d :: ds, _, x => by
    cases x with
    | cons x1 x2 => exact .cons (keptD_dx h1 h2 hl xs x1) (keptD_dxs h1 h2 hl xs x2)
theorem Sd.keptO {M : Md} {H : Hp} {σ : L2.St} {a C dd : Addr} {ns : List Str} {us : List V} {es : List Dt} (S : Sd K M H σ ρ) (na : H a = none) (hd : H dd = some (.xd (ns.zip us))) (hl : ns.length = us.length) (nd : ¬ M.has dd) (xs : DXs K (cut M H) us es) :
    Sd K M (upd H a (exh a (.ref C) (some dd))) σ (DL.keptO a C ns es ρ) := by
  have sm : Same H (upd H a (exh a (.ref C) (some dd))) := same_new na
  have S1 := S.same sm
  have ma : ¬ M.has a := S.mok.new na
  have c1 : cut M (upd H a (exh a (.ref C) (some dd))) a = some (exh a (.ref C) (some dd)) := cut_at ma upd_same
  have c2 : cut M (upd H a (exh a (.ref C) (some dd))) dd = some (.xd (ns.zip us)) := cut_at nd (by rw [upd_ne (ne_of_none hd na)]; exact hd)
  have xs' := xs.mono (cut_same M sm)
  refine ⟨by unfold DL.keptO; rw [List.length_map]; exact S.len, by unfold DL.keptO; rw [List.length_map]; exact S.olen, S1.mok, fun j s h => ?_⟩
  unfold DL.keptO at h
  rw [List.getElem?_map] at h
  cases e : ρ[j]? with
  | none => rw [e] at h; cases h
  | some s0 =>
    rw [e] at h
    obtain ⟨o, h1, h2⟩ := S1.ok j s0 e
    refine ⟨o, h1, ?_⟩
    have h := Option.some.inj h
    cases s0 with
    | dat d =>
      subst h
      obtain ⟨v, g1, g2⟩ := h2
      exact ⟨v, g1, keptD_dx c1 c2 hl xs' g2⟩
    | own ds =>
      subst h
      obtain ⟨q, vs, g1, g2, g3, g4⟩ := h2
      exact ⟨q, vs, g1, g2, g3, keptD_dxs c1 c2 hl xs' g4⟩
    | _ => subst h; exact h2
/-- the clause's suite, from where the error has come -/
theorem keep_run {M : Md} {H2 : Hp} {σ : L2.St} {ρ1 : List Sl} {E : Ends} {C dd : Addr} {ns : List Str} {us : List V} {es : List Dt} (k : EOk K M H2 E D) (S : Sd K M H2 σ ρ1) (hd : H2 dd = some (.xd (ns.zip us))) (hl : ns.length = us.length) (nd : ¬ M.has dd) (xs : DXs K (cut M H2) us es)
    (hm : PySem.W.exmOne K (.ref C) c = some true) (hsu : ∀ a dd, Ws K (ts a (.ref C) (some dd)) (ρ1.set i (.dat (.cls a))) { nx := fun ρ2 => D.nx (DL.keptO a C ns es (ρ2.set i .any)), rt := fun _ _ => False }) : wKeep K c i ts Wout E (.ref C) (some dd) σ H2 := by
  refine ⟨true, hm, fun _ a na => ?_, fun z => nomatch z⟩
  have S2 : Sd K M H2 (σ.set i (some (.ref a))) (ρ1.set i (.dat (.cls a))) := S.put (.cls a) i
  refine hsu a dd M _ H2 S2 (keepE a (.ref C) (some dd) i E) ⟨fun M' σ' H' ρ' s S' z na' => ?_, fun _ _ _ _ _ _ _ _ _ z => z.elim, fun _ _ _ _ _ _ z => z.elim, fun _ _ _ _ _ _ z => z.elim, fun _ _ _ _ _ _ _ _ _ _ _ _ z => z.elim⟩
  have hc2 : cut M H2 dd = some (.xd (ns.zip us)) := cut_at nd hd
  obtain ⟨nd3, hd3⟩ := cut_of (s.dx dd _ hc2)
  have S3 : Sd K M' H' (σ'.set i none) (ρ'.set i .any) := by
    refine ⟨by rw [List.length_set, List.length_set]; exact S'.len, by rw [List.length_set]; exact S'.olen, S'.mok, fun j s0 e0 => ?_⟩
    by_cases cj : i = j
    · subst cj
      by_cases hi : i < ρ'.length
      · rw [List.getElem?_set_self hi] at e0
        have e0 := Option.some.inj e0
        subst e0
        exact ⟨none, by rw [List.getElem?_set_self (by rw [S'.len]; exact hi)], trivial⟩
      · rw [List.getElem?_eq_none (by rw [List.length_set]; omega)] at e0; cases e0
    · rw [List.getElem?_set_ne cj] at e0 ⊢
      exact S'.ok j s0 e0
  exact k.nx M' _ _ _ (s.trans (Stp.same M' (same_new na'))) (S3.keptO (a := a) (C := C) na' hd3 hl nd3 (xs.mono s.dx)) z
/-- try: raise C(..) except X as e: suite -/
theorem ws_tryRaise {C : Addr} {W : List Dt → (List Str → List Dt → Prop) → Prop} (h : Wa K pf tr ρ fun ds ρ1 => ds.length ≤ 900 ∧ W ds fun ns es => PySem.W.exmOne K (.ref C) c = some true ∧
      ∀ a dd, Ws K (ts a (.ref C) (some dd)) (ρ1.set i (.dat (.cls a))) { nx := fun ρ2 => D.nx (DL.keptO a C ns es (ρ2.set i .any)), rt := fun _ _ => False }) :
    Ws K (fun E σ H => tMkO C (spExI K C W) [] tr σ H fun cls d H' => wKeep K c i ts Wout E cls d σ H') ρ D := fun M σ H S E k =>
  h M σ H S _ fun vs H1 ds ρ1 s1 S1 x1 ⟨hl, w⟩ => by
    refine ⟨by rw [x1.len]; omega, fun a na => ?_⟩
    have sc1 : Same (cut M H1) (cut (M.slf a) (upd H1 a (exo a C none))) := fun b u z => by
      obtain ⟨c, y⟩ := cut_of z
      refine cut_at (fun t => ?_) (by rw [upd_ne (ne_of_none y na)]; exact y)
      rcases t with t | t | t
      · exact c (.inl t)
      · rcases List.mem_cons.mp t with t | t
        · rw [t, na] at y; cases y
        · exact c (.inr (.inl t))
      · exact c (.inr (.inr t))
    refine ⟨M, a, vs, ds, _, by rw [List.append_nil], upd_same, x1.mono sc1, w, fun H2 dd ns us es hd kp e1 e2 e3 xs z => ⟨rfl, dd, _, e1, e2, ?_, ?_⟩⟩
    · have nd : dd ≠ a := fun n => by rw [n, upd_same] at hd; cases hd
      rw [upd_ne nd] at hd; exact hd
    · have nd : dd ≠ a := fun n => by rw [n, upd_same] at hd; cases hd
      have hd1 : H1 dd = none := by rw [upd_ne nd] at hd; exact hd
      have all : Same H1 (upd (del H2 a) dd (.xd (ns.zip us))) := fun b o e => by
        have ba := ne_of_none e na
        rw [upd_ne (ne_of_none e hd1), del_ne ba]
        exact kp b o (by rw [upd_ne ba]; exact e) ba
      have nh : ¬ M.has dd := S1.mok.new hd1
      refine keep_run (k.step (s1.st.trans (Stp.same M all))) (S1.same all) upd_same e3 nh (xs.mono fun b u z' => ?_) z.1 z.2
      obtain ⟨c, y⟩ := cut_of z'
      have b1 : b ≠ dd := fun n => c (.inr (.inl (by rw [n]; exact List.mem_cons_self)))
      have b2 : b ≠ a := fun n => c (.inr (.inl (by rw [n]; exact List.mem_cons_of_mem _ List.mem_cons_self)))
      exact cut_at (fun t => c (has_aside b (has_aside b t))) (by rw [upd_ne b1, del_ne b2]; exact y)
end

/-! ### C() of a class of errors without an own __init__ -/
def tExc0 (C : Addr) : TE := fun _ H Q => ∀ a, H a = none → Q (.ref a) (upd H a (exh a (.ref C) none))
theorem pe_exc0 {X : Cx} {C : Addr} {bmB : List Value} {B newId initId : String} {x : Str} {p pos : Pos} (F : ExcBaseFacts B newId initId bmB) (q : PySem.W.excIn X.K C bmB newId = true) (gC : X.mg x = some (.ref C)) (kC : PySem.W.keepIn X.K (.ref C) = true) (hg : Gl X x)
    (hdb : (x == ("__debug__" : Str)) = false := by decide) : PE X (.Call (.Name x p) [] [] pos) (tExc0 C) := by
  constructor
  intro pins s σ H Q I h
  refine wpAny_Call_Name_kw (ld_glob I hg gC ?_ hdb)
  refine PySem.W.callWith_K0 I.kIn kC ?_
  show wpAny _ _ (call (.ref C) []) _ _ _
  obtain ⟨bm, N, nm, qn, bs, hdct, sn, sub, ab, col, dd, k0, k1, k2, k3, k5, mN, hC, hN, hni, T⟩ := exc_obj I.kIn q
  refine wpAny_call_exc_subT F T hC hN hni (fun h' a hm => ?_) (Nat.zero_le _)
  have hn : H a = none := I.hok.gone hm.new
  obtain ⟨t, ht, _, _⟩ := hm.there
  exact ⟨.ref a, upd H a (exh a (.ref C) none), I.laidN hm.keeps hm.new hn (exh_ok ht ⟨rfl, rfl⟩ rfl), rfl, h a hn⟩
section
variable {K : PySem.W.Frag} {pf : Bool} {ρ : List Sl} {C : Addr} {Φ : Dt → List Sl → Prop} {Ψ : Dt → Prop}
theorem w_exc0 (h : ∀ a, Φ (.exc C a [] []) ρ) : Wp K pf (tExc0 C) ρ Φ := fun M σ H S Q q a na =>
  q _ _ (.exc C a [] []) ρ (Tr.same pf M (same_new na)) (S.same (same_new na)) (.exc0 (cut_at (S.mok.new na) upd_same)) (h a)

/-! ### a list's index of a bool -/
theorem DXs.bls' {H : Hp} {bs : List Bool} : ∀ {vs : List V}, DXs K H vs (bs.map Dt.bl) → vs = bs.map V.bl := fun h => h.bls
def tIdx (K : PySem.W.Frag) (ta : TE) (te : TE) : TE := tBM K "list" (rIndex K) ta (tCons te tNil)
theorem eqV_bl (a b : Bool) : eqV (.bl a) (.bl b) = decide (a = b) := by cases a <;> cases b <;> decide +kernel
theorem w_idx {ta te : TE} {bs : List Bool} {b : Bool} {j : Nat} (h : Wp K pf ta ρ fun d ρ1 => d = .lst (bs.map Dt.bl) ∧ Wp K pf te ρ1 fun e ρ2 => e = .bl b ∧ bs[j]? = some b ∧ (∀ m, m < j → bs[m]? = some (!b)) ∧ Φ (.int j) ρ2) : Wp K pf (tBM K "list" (rIndex K) ta (tCons te tNil)) ρ Φ := fun M σ H S Q q =>
  h M σ H S _ fun v1 H1 d1 ρ1 s1 S1 x1 ⟨e1, k1⟩ => by
    subst e1
    cases x1 with
    | @lst a xs _ hs ha =>
      refine ⟨.inl ⟨rfl, xs, (cut_sub M H1).seq hs⟩, k1 M σ H1 S1 _ fun v2 H2 d2 ρ2 s2 S2 x2 ⟨e2, hj, hm, z⟩ => ?_⟩
      subst e2
      have hs2 := (cut_sub M H2).seq (s2.dx.seq hs)
      rw [ha.bls] at hs2
      rw [x2.bl_eq]
      refine ⟨a, bs.map V.bl, .bl b, j, .bl b, rfl, rfl, hs2, rfl, ?_, by rw [List.getElem?_map, hj]; rfl, by rw [eqV_bl]; simp, fun m z' hmj e => ?_, q _ H2 _ ρ2 (s1.trans s2) S2 (.int _) z⟩
      · rw [List.all_map]; exact List.all_eq_true.mpr fun _ _ => rfl
      · rw [List.getElem?_map, hm m hmj] at e
        have e := Option.some.inj e
        subst e
        rw [eqV_bl]; cases b <;> rfl
end
end DL

set_option maxHeartbeats 2000000
/-! Data level: == and != by an own __eq__, both answers. -/
namespace DL
open PySem PySem.Spec PyProof.Rows L2
variable [Tb]

section
open PySem.W PySem.Calls
variable {prog : Program} {w : World} {A : Around} {E : Value → Shared → Prop} {s : Shared} {K : Frag} {x y C D f : Addr} {ox oy : Obj} {od od' : Option Obj} {b : Value} {name : Str}
/-- a special method found and bound: nothing is changed by that -/
theorem looks_bound {M : Model} {h : Heap} {g self k : Value} {as : List Value} (S : Looks M h (specialOf self name) (some g)) (B : Looks M h (bindSpecial g self) (k, as)) : Looks M h (bindSpecialIfBound? self name) (some (k, as)) := by
  have both : Looks M h (bindSpecial g self >>= fun z => pure (some z)) (some (k, as)) := B.andThen .now
  intro A Q E s le q
  exact wpAny_bind (S _ _ _ _ le (wpAny_bind (wpAny_askSetting (wpAny_ite (by
    split
    · exact both _ _ _ _ le q
    · exact wpAny_tryCatch (both _ _ _ _ le q))))))
/-- a comparing method asked, once it is bound -/
theorem try_by {k : Value} {as : List Value} {Q : Value → Shared → Prop} (B : Looks (model prog w) s.heap (bindSpecialIfBound? (.ref x) name) (some (k, as)))
    (h : wpAny (model prog w) A (call k (as ++ [b])) (fun v s' => v ≠ .notImplemented ∧ Q v s') E s) : wpAny (model prog w) A (tryCompare (.ref x) name b) (fun r s' => ∃ v, r = some v ∧ Q v s') E s := by
  refine wpAny_bind (wpAny_holding (wpAny_bind (B.here (wpAny_bind (wpAny_mono h (fun v s' z => wpAny_pure ?_) fun _ _ z => z)))))
  show wpAny _ _ (match some v with | some .notImplemented | none => pure none | some v => pure (some v)) _ _ _
  split
  · rename_i e; exact absurd (Option.some.inj e) z.1
  · rename_i e; cases e
  · rename_i e; cases e; exact wpAny_pure ⟨_, rfl, z.2⟩
theorem try_own {Q : Value → Shared → Prop} (X : K.In s.heap) (I : InstAt s.heap x ox C od) (hs : findIn K (.ref C) name = some (some (.ref f))) (hf : isFn K (.ref f) = true)
    (h : wpAny (model prog w) A (call (.ref f) [.ref x, b]) (fun v s' => v ≠ .notImplemented ∧ Q v s') E s) : wpAny (model prog w) A (tryCompare (.ref x) name b) (fun r s' => ∃ v, r = some v ∧ Q v s') E s :=
  try_by (looks_bound (I.type.andThen (looks_findIn X hs)) (bind_fn X _ (beq_iff_eq.mp hf))) h
/-- object.__ne__ asks the own __eq__ and turns its answer -/
theorem try_ne {Q : Value → Shared → Prop} (hu : A.units + 1 < cLine) (X : K.In s.heap) (I : InstAt s.heap x ox C od) (hs : findIn K (.ref C) "__eq__" = some (some (.ref f))) (hf : isFn K (.ref f) = true) (hne : findIn K (.ref C) "__ne__" = some (some (.builtin "object.__ne__")))
    (ho : mroIn K C (.type "object") = some true) (h : wpAny (model prog w) A.in1 (call (.ref f) [.ref x, b]) (fun v s' => ∃ k, v = .bool k ∧ Q (.bool (!k)) s') E s) :
    wpAny (model prog w) A (tryCompare (.ref x) "__ne__" b) (fun r s' => ∃ v, r = some v ∧ Q v s') E s := by
  have slot := PySem.F.slot_object_ne
  refine try_by (looks_bound (I.type.andThen (looks_findIn X hne)) (Looks.of_pure (slot.bind (.ref x)))) ?_
  have own : Looks (model prog w) s.heap (isInstance (.ref x) (.type "object")) true := I.type.andThen (looks_mroIn X ho)
  refine wpAny_call (codeAny_call_builtin slot.plain PySem.F.cmpEntry_ne (@check_slot (model prog w) _ _ s "object.__ne__" "object" "__ne__" (.ref x) [b] [] _ PySem.F.cmpKind_ne PySem.F.cmpSplit_ne own (PySem.F.cmpArgs_ne (.ref x) b) ?_))
  refine wpAny_bind (wpAny_of_eq (a := ((Value.ref x : Value), [b])) (by first | rfl | (simp only [slotArgs]; rfl)) (wpAny_bind (wpAny_cRoomFor hu (wpAny_bind ?_))))
  refine ifBound_K X I hs hf (wpAny_mono h (fun v s' z => ?_) fun _ _ z => z)
  rcases z with ⟨k, rfl, q⟩
  exact wpAny_bind (wpAny_truthy_bool (wpAny_pure ⟨nofun, q⟩))
/-- which of the two is asked first -/
def AskedFirst (M : Model) (h : Heap) (ta tb : Value) (right : Bool) : Prop := if ta = tb then right = false else Looks M h (isSubtype tb ta) right
/-- a rich comparison is answered by the method that is asked first -/
theorem rich_by {op : CmpOp} {ta tb : Value} {right : Bool} {Q : Value → Shared → Prop} (hu : A.units < cLine) (La : Looks (model prog w) s.heap (typeOf (.ref x)) ta) (Lb : Looks (model prog w) s.heap (typeOf b) tb) (Lf : AskedFirst (model prog w) s.heap ta tb right)
    (one : wpAny (model prog w) A (if right = true then tryCompare b (cmpInfo op).2.2 (.ref x) else tryCompare (.ref x) (cmpInfo op).2.1 b) (fun r s' => ∃ v, r = some v ∧ Q v s') E s) : wpAny (model prog w) A (richCompare op (.ref x) b) Q E s := by
  unfold AskedFirst at Lf
  unfold richCompare
  rw [oneThing_ref]
  refine wpAny_holding (wpAny_bind (wpAny_cRoomFor hu (wpAny_bind (La.here (wpAny_bind (Lb.here ?_))))))
  by_cases e : ta = tb
  · rw [if_pos e] at Lf
    subst Lf
    rw [if_neg (by simp [e])]
    exact wpAny_bind (wpAny_pure (wpAny_bind (wpAny_mono one (fun r s' ⟨v, e, q⟩ => by subst e; exact wpAny_pure q) fun _ _ z => z)))
  · rw [if_neg e] at Lf
    rw [if_pos (by simpa using e)]
    refine wpAny_bind (Lf.here ?_)
    cases right <;> exact wpAny_bind (wpAny_mono one (fun r s' ⟨v, e, q⟩ => by subst e; repeat (first | exact wpAny_pure q | wp_step)) fun _ _ z => z)
theorem looks_left {tb : Value} (X : K.In s.heap) (hn : notFirst K C tb = true) : AskedFirst (model prog w) s.heap (.ref C) tb false := by
  unfold AskedFirst
  split
  · rfl
  · rename_i e
    exact looks_subIn X (by simpa [notFirst, Ne.symm e] using hn)
theorem looks_right (X : K.In s.heap) (hn : C ≠ D) (hsub : subIn K (.ref D) (.ref C) = some true) : AskedFirst (model prog w) s.heap (.ref C) (.ref D) true := by
  unfold AskedFirst
  rw [if_neg fun z => hn (by injection z)]
  exact looks_subIn X hsub
end

/-- what a class with an own __eq__ (and no own __ne__) must have -/
structure EqC (K : PySem.W.Frag) (C f : Addr) : Prop where
  eq : PySem.W.findIn K (.ref C) "__eq__" = some (some (.ref f))
  fn : PySem.W.isFn K (.ref f) = true
  ne : PySem.W.findIn K (.ref C) "__ne__" = some (some (.builtin "object.__ne__"))
  ob : PySem.W.mroIn K C (.type "object") = some true
/-- x == y, x != y: by the left one's __eq__ -/
def rOwnL (K : PySem.W.Frag) (neg : Bool) (C : Addr) (sp : Sp) : R2 := fun x y H Q => ∃ (a dx : Addr) (fs : List (Str × V)) (t : Value), x = .ref a ∧ H a = some (.ins C dx fs) ∧ TyX K H y t ∧ PySem.W.notFirst K C t = true ∧ sp [x, y] H (fun v H' => ∃ k, v = .bl k ∧ Q (.bl (neg ^^ k)) H') E0
/-- .. by the right one's -/
def rOwnR (K : PySem.W.Frag) (neg : Bool) (C D : Addr) (sp : Sp) : R2 := fun x y H Q => ∃ (a b dx dy : Addr) (fs gs : List (Str × V)), x = .ref a ∧ y = .ref b ∧ H a = some (.ins C dx fs) ∧ H b = some (.ins D dy gs) ∧ C ≠ D ∧ PySem.W.subIn K (.ref D) (.ref C) = some true ∧
  sp [y, x] H (fun v H' => ∃ k, v = .bl k ∧ Q (.bl (neg ^^ k)) H') E0
section
variable {X : Cx} {CX : CXT} {n : Nat} {C D f : Addr} {fd : FuncData} {ps : List Str} {sp : Sp}
theorem frames_of {pins : List (Addr × Obj)} {σ : L2.St} {H : Hp} {s : Shared} (I : Inv X pins σ H s) : X.A.frames = some X.stack := I.ok.frames
/-- a def called from within: whatever is around, its frames are these -/
theorem run_at {A : Around} {pins : List (Addr × Obj)} {σ : L2.St} {H : Hp} {s : Shared} {Q : VK} {xs : List V} {us : List Value} (F : FnOk X.prog X.w X.K X.mg X.base CX n f fd ps sp) (hb : Binds X.K fd ps []) (hx : Passes CX X E0) (hr : Room n A) (hfr : A.frames = some X.stack)
    (I : Inv X pins σ H s) (r : Vals xs us) (h : sp xs H Q E0) : wpAny (model X.prog X.w) A (call (.ref f) us) (EP X pins σ Q) X.xe s := by
  have len : (us ++ []).length = ps.length := by rw [List.append_nil, ← Paired.length r, F.len _ _ _ _ h]
  have e0 : Env0 X.prog X.w X.K X.mg X.base A X.stack s H := ⟨hfr, I.env0.mod, I.env0.bs, I.env0.bsz, I.env0.funs, I.env0.frf, I.env0.hok, I.env0.bare⟩
  have b0 := hb s us I.kIn len
  rw [List.append_nil] at b0
  refine wpAny_call (codeAny_mono (F.run A X.stack s H ⟨us, []⟩ us xs Q E0 hr e0 b0 r h) ?_)
  rintro (er | fl) s' q
  · exact hx pins σ H s er s' I q
  cases fl with
  | ret v => exact I.after q
  | _ => exact q.elim
/-- two things handed to it -/
theorem run_eq {A : Around} {pins : List (Addr × Obj)} {σ : L2.St} {H : Hp} {s : Shared} {Q : VK} {x y : V} {u v : Value} (F : FnOk X.prog X.w X.K X.mg X.base CX n f fd ps sp) (hb : Binds X.K fd ps []) (hx : Passes CX X E0) (hr : Room n A) (hfr : A.frames = some X.stack)
    (I : Inv X pins σ H s) (rx : RelV x u) (ry : RelV y v) (h : sp [x, y] H Q E0) : wpAny (model X.prog X.w) A (call (.ref f) [u, v]) (EP X pins σ Q) X.xe s := run_at F hb hx hr hfr I (.cons rx (.cons ry .nil)) h
/-- an instance: what the heap has of it -/
theorem inst_at {pins : List (Addr × Obj)} {σ : L2.St} {H : Hp} {s : Shared} {a dx : Addr} {fs : List (Str × V)} (I : Inv X pins σ H s) (h : H a = some (.ins C dx fs)) : ∃ ox od, PySem.W.InstAt s.heap a ox C od := by
  obtain ⟨_, J, _⟩ := ins_get I.hok h
  obtain ⟨od, J, _⟩ := J.look
  exact ⟨_, _, J⟩
theorem op_eqL (F : FnOk X.prog X.w X.K X.mg X.base CX n f fd ps sp) (c : EqC X.K C f) (hb : Binds X.K fd ps []) (hx : Passes CX X E0) (hr : Room n X.A) : OpR X (compareOp .Eq) (rOwnL X.K false C sp) := by
  rintro pins s σ H x y u v Q I rx ry ⟨a, dx, fs, t, rfl, ha, ty, hn, h⟩
  cases rx
  obtain ⟨ox, od, J⟩ := inst_at I ha
  obtain ⟨P, kt, pt, _⟩ := kit_of I ry ty
  obtain ⟨m, fr⟩ := I.fr
  refine PySem.W.cmp_ofEq (PySem.W.cmp_K hr.units0 fr I.ok.mod.kin J (kt.ty _ _ I.kIn pt) hn c.eq c.fn (wpAny_mono (run_eq F hb hx hr (frames_of I) I (x := .ref a) (u := Value.ref a) rfl ry h) (fun w s' z => ?_) fun _ _ z => z))
  obtain ⟨z, H', I', rz, k, rfl, q⟩ := z
  cases rz
  exact ⟨.bl k, H', I', rfl, by rw [Bool.false_xor] at q; exact q⟩
theorem op_neL (F : FnOk X.prog X.w X.K X.mg X.base CX n f fd ps sp) (c : EqC X.K C f) (hb : Binds X.K fd ps []) (hx : Passes CX X E0) (hr : Room (n + 1) X.A) : OpR X (compareOp .NotEq) (rOwnL X.K true C sp) := by
  rintro pins s σ H x y u v Q I rx ry ⟨a, dx, fs, t, rfl, ha, ty, hn, h⟩
  cases rx
  obtain ⟨ox, od, J⟩ := inst_at I ha
  obtain ⟨P, kt, pt, _⟩ := kit_of I ry ty
  refine PySem.W.cmp_ofNotEq (rich_by (right := false) hr.units0 J.type (kt.ty _ _ I.kIn pt) (looks_left I.kIn hn) (try_ne hr.in1.units0 I.kIn J c.eq c.fn c.ne c.ob (wpAny_mono (run_eq F hb hx hr.in1 (frames_of I) I (x := .ref a) (u := Value.ref a) rfl ry h) (fun w s' z => ?_) fun _ _ z => z)))
  obtain ⟨z, H', I', rz, k, rfl, q⟩ := z
  cases rz
  exact ⟨k, rfl, .bl (!k), H', I', rfl, by rw [Bool.true_xor] at q; exact q⟩
theorem op_eqR (F : FnOk X.prog X.w X.K X.mg X.base CX n f fd ps sp) (c : EqC X.K D f) (hb : Binds X.K fd ps []) (hx : Passes CX X E0) (hr : Room n X.A) : OpR X (compareOp .Eq) (rOwnR X.K false C D sp) := by
  rintro pins s σ H x y u v Q I rx ry ⟨a, b, dx, dy, fs, gs, rfl, rfl, ha, hb', ne, hsub, h⟩
  cases rx; cases ry
  obtain ⟨ox, od, J⟩ := inst_at I ha
  obtain ⟨oy, od', J'⟩ := inst_at I hb'
  refine PySem.W.cmp_ofEq (rich_by (right := true) hr.units0 J.type J'.type (looks_right I.kIn ne hsub) (try_own I.kIn J' c.eq c.fn (wpAny_mono (run_eq F hb hx hr (frames_of I) I (x := .ref b) (u := Value.ref b) (y := .ref a) (v := Value.ref a) rfl rfl h) (fun w s' z => ?_) fun _ _ z => z)))
  obtain ⟨z, H', I', rz, k, rfl, q⟩ := z
  cases rz
  exact ⟨nofun, .bl k, H', I', rfl, by rw [Bool.false_xor] at q; exact q⟩
theorem op_neR (F : FnOk X.prog X.w X.K X.mg X.base CX n f fd ps sp) (c : EqC X.K D f) (hb : Binds X.K fd ps []) (hx : Passes CX X E0) (hr : Room (n + 1) X.A) : OpR X (compareOp .NotEq) (rOwnR X.K true C D sp) := by
  rintro pins s σ H x y u v Q I rx ry ⟨a, b, dx, dy, fs, gs, rfl, rfl, ha, hb', ne, hsub, h⟩
  cases rx; cases ry
  obtain ⟨ox, od, J⟩ := inst_at I ha
  obtain ⟨oy, od', J'⟩ := inst_at I hb'
  refine PySem.W.cmp_ofNotEq (rich_by (right := true) hr.units0 J.type J'.type (looks_right I.kIn ne hsub) (try_ne hr.in1.units0 I.kIn J' c.eq c.fn c.ne c.ob (wpAny_mono (run_eq F hb hx hr.in1 (frames_of I) I (x := .ref b) (u := Value.ref b) (y := .ref a) (v := Value.ref a) rfl rfl h) (fun w s' z => ?_) fun _ _ z => z)))
  obtain ⟨z, H', I', rz, k, rfl, q⟩ := z
  cases rz
  exact ⟨k, rfl, .bl (!k), H', I', rfl, by rw [Bool.true_xor] at q; exact q⟩
/-- one of two readings -/
theorem op_or {op : Value → Value → Sem Value} {r1 r2 : R2} (h1 : OpR X op r1) (h2 : OpR X op r2) : OpR X op (fun x y H Q => r1 x y H Q ∨ r2 x y H Q) := fun pins s σ H x y u v Q I rx ry h => h.elim (h1 pins s σ H x y u v Q I rx ry) (h2 pins s σ H x y u v Q I rx ry)
end
end DL

set_option maxHeartbeats 2000000
/-! Data level: instances whose __init__ may raise, methods, methods with keywords, properties of one of several classes. -/
namespace DL
open PySem PySem.Spec PyProof.Rows L2
variable [Tb]

/-! ### one of two readings -/
def tOr2 (t1 t2 : TE) : TE := fun σ H Q => t1 σ H Q ∨ t2 σ H Q
theorem pe_or2 {X : Cx} {e : Expr} {t1 t2 : TE} (h1 : PE X e t1) (h2 : PE X e t2) : PE X e (tOr2 t1 t2) := ⟨fun pins s σ H Q I h => h.elim (h1.run pins s σ H Q I) (h2.run pins s σ H Q I)⟩
section
variable {K : PySem.W.Frag} {pf : Bool} {ρ : List Sl} {t1 t2 : TE} {Φ : Dt → List Sl → Prop} {xk : XK} {xd : Addr → List Str → List Dt → Prop} {r1 r2 : R2} {d1 d2 : Dt} {Ψ : Dt → Prop}
theorem w_or1 (h : Wp K pf t1 ρ Φ) : Wp K pf (tOr2 t1 t2) ρ Φ := fun M σ H S Q q => .inl (h M σ H S Q q)
theorem w_or2 (h : Wp K pf t2 ρ Φ) : Wp K pf (tOr2 t1 t2) ρ Φ := fun M σ H S Q q => .inr (h M σ H S Q q)
theorem od_or1 (h : OD K r1 d1 d2 Ψ) : OD K (fun x y H Q => r1 x y H Q ∨ r2 x y H Q) d1 d2 Ψ := fun M H x y m h1 h2 Q q => .inl (h M H x y m h1 h2 Q q)
theorem od_or2 (h : OD K r2 d1 d2 Ψ) : OD K (fun x y H Q => r1 x y H Q ∨ r2 x y H Q) d1 d2 Ψ := fun M H x y m h1 h2 Q q => .inr (h M H x y m h1 h2 Q q)
end

/-! ### an __init__ that may raise -/
def spMkX (K : PySem.W.Frag) (C : Addr) (W : List Dt → (List Str → List Dt → Prop) → (Addr → List Str → List Dt → Prop) → Prop) : Sp := fun vs H Q E => ∃ (M : Md) (self dx : Addr) (ws : List V) (ds : List Dt) (Φ : List Str → List Dt → Prop) (Ξ : Addr → List Str → List Dt → Prop),
  vs = .ref self :: ws ∧ M.p = none ∧ M.O = [] ∧ H self = some (.ins C dx []) ∧ MOk (M.slf self) H ∧ DXs K (cut (M.slf self) H) ws ds ∧ W ds Φ Ξ ∧
    (∀ H2 ns us es, (∀ a o, H a = some o → a ≠ self → H2 a = some o) → H2 self = some (.ins C dx (ns.zip us)) → ns.length = us.length → DXs K (cut (M.slf self) H2) us es → Φ ns es → Q .non H2) ∧
    ∀ H2 Cx dd ns us es, (∀ a o, H a = some o → a ≠ self → H2 a = some o) → H2 dd = some (.xd (ns.zip us)) → ns.length = us.length → ¬ (M.slf self).has dd → DXs K (cut (M.slf self) H2) us es → Ξ Cx ns es → E (.ref Cx) (some dd) H2
section
variable {K : PySem.W.Frag} {C : Addr} {N : List Str} {W : List Dt → (List Str → List Dt → Prop) → (Addr → List Str → List Dt → Prop) → Prop} {vs : List V} {H : Hp} {Q : VK} {E : XK} {tp tq : TS}
theorem read_IX (h : spMkX K C W vs H Q E) (hl : vs.length ≤ N.length)
    (b : ∀ self ds Φ Ξ, ds.length + 1 = vs.length → W ds Φ Ξ → Ws K tp (.dat (.cls self) :: slots ds (N.length - (ds.length + 1))) { nx := fun ρ => ρ[0]? = some (.dat (.cls self)) ∧ Fs K C tq ρ [] [] Φ, rt := fun _ _ => False, xk := E, xd := Ξ }) :
    tp { nx := tq { nx := fun _ H' => Q .non H', rt := Q }, rt := Q } (L2.start N vs) H := by
  obtain ⟨M, self, dx, ws, ds, Φ, Ξ, rfl, hp, hO, hs, m, x, w, q, qx⟩ := h
  have hO' : (M.slf self).O = [] := hO
  have x0 : DXs K (cut (M.slf self) H) (.ref self :: ws) (.cls self :: ds) := .cons (.cls self) x
  have S0 := sd_start (N := N) hO' m x0 hl
  have e0 : slots (.cls self :: ds) (N.length - (Dt.cls self :: ds).length) = .dat (.cls self) :: slots ds (N.length - (ds.length + 1)) := rfl
  rw [e0] at S0
  have keep0 : ∀ {M' : Md} {H' : Hp}, Stp ((M.slf self).body N.length) H M' H' → ∀ a o, H a = some o → H' a = some o ∧ some a ∉ M'.O := fun s a o e => s.keep a o e (Md.inP0 hp a) no_rep
  have up : ∀ {M' : Md} {H' : Hp}, Stp ((M.slf self).body N.length) H M' H' → ∀ a, (M.slf self).has a → M'.has a := fun {M' H'} s a z => by
    rcases z with z | z | z
    · exact (Md.inP0 (M := M) hp a z).elim
    · exact .inr (.inl (by rw [s.F]; exact z))
    · have z : some a ∈ M.O := z
      rw [hO] at z; cases z
  refine b self ds Φ Ξ (by rw [List.length_cons, x.len]) w ((M.slf self).body N.length) _ H S0 _ ⟨fun M' σ' H' ρ' s S ⟨z0, z⟩ => ?_, fun _ _ _ _ _ _ _ _ _ z => z.elim, fun M' σ' H' ρ' s S z => z.elim, fun M' σ' H' ρ' s S z => z.elim, fun M' H' Cx dd ns us es s e1 e2 nd xs z => ?_⟩
  · have keep := keep0 s
    have eF : M'.F = self :: M.F := s.F
    have ep : M'.p = none := s.p.trans hp
    obtain ⟨p', F', O'⟩ := M'
    simp only at eF ep
    subst eF ep
    have hs' := keep self _ hs
    refine z ⟨none, M.F, O'⟩ self dx σ' H' [] S z0 (fun y => nomatch y) hs'.2 hs'.1 rfl .nil _ fun σ2 H2 ns us es kp a1 a2 a3 a4 => ?_
    have sub : Same (cut (Md.slf ⟨none, M.F, O'⟩ self) H2) (cut (M.slf self) H2) := cut_le fun a z => by
      rcases z with z | z | z
      · exact (Md.inP0 (M := M) hp a z).elim
      · exact .inr (.inl z)
      · have z : some a ∈ M.O := z
        rw [hO] at z; cases z
    exact q H2 ns us es (fun a o e n => kp a o (keep a o e).1 n) a1 a2 (a3.mono sub) a4
  · exact qx H' Cx dd ns us es (fun a o e _ => (keep0 s a o e).1) e1 e2 (fun y => nd (up s dd y)) (xs.mono (cut_le (up s))) z
end
/-! ### the class called -/
section
variable {K : PySem.W.Frag} {C : Addr} {W : List Dt → (List Str → List Dt → Prop) → (Addr → List Str → List Dt → Prop) → Prop} {ρ : List Sl} {pf : Bool} {tr tk : TA} {Φ : Dt → List Sl → Prop} {E : XK} {xk : XK} {xd : Addr → List Str → List Dt → Prop}
theorem make_okX {M : Md} {σ : L2.St} {H2 : Hp} {Q : VK} {ws : List V} {ds : List Dt} {x dx : Addr} (S : Sd K M H2 σ ρ) (hx : H2 x = none) (hdx : H2 dx = none) (ne : dx ≠ x) (xs : DXs K (cut M H2) ws ds) (hE : ∀ c d H, xk c d H → E c d H)
    (w : W ds (fun ns es => ∀ a, Φ (.ins C a ns es) ρ) xd) (q : ∀ v H3 d ρ', Same H2 H3 → Sd K M H3 σ ρ' → DX K (cut M H3) v d → Φ d ρ' → Q v H3)
    (qx : ∀ H3 C dd ns us es, Same H2 H3 → H3 dd = some (.xd (ns.zip us)) → ns.length = us.length → ¬ M.has dd → DXs K (cut M H3) us es → xd C ns es → xk (.ref C) (some dd) H3) :
    spMkX K C W (.ref x :: ws) (upd (upd H2 dx (.own x)) x (.ins C dx [])) (fun v H3 => v = .non ∧ Q (.ref x) H3) E := by
  have s1 : Same H2 (upd (upd H2 dx (.own x)) x (.ins C dx [])) := fun a u z => by
    rw [upd_ne (ne_of_none z hx), upd_ne (ne_of_none z hdx)]; exact z
  have nx := S.mok.new hx
  have hasq : ∀ a, (M.callP.slf x).has a ↔ (M.slf x).has a := fun a => by
    constructor
    · rintro (z | z | z)
      · first | exact (Md.inP0 rfl _ z).elim | cases z
      · rcases List.mem_cons.mp z with z | z
        · rw [z]; exact .inr (.inl List.mem_cons_self)
        · exact has_aside a ((M.callP_has a).mp (.inr (.inl z)))
      · first | exact (Md.inP0 rfl _ z).elim | cases z
    · rintro (z | z | z)
      · rcases (M.callP_has a).mpr (.inl z) with y | y | y
        · first | exact (Md.inP0 rfl _ y).elim | cases y
        · exact .inr (.inl (List.mem_cons_of_mem _ y))
        · first | exact (Md.inP0 rfl _ y).elim | cases y
      · rcases List.mem_cons.mp z with z | z
        · rw [z]; exact .inr (.inl List.mem_cons_self)
        · rcases (M.callP_has a).mpr (.inr (.inl z)) with y | y | y
          · first | exact (Md.inP0 rfl _ y).elim | cases y
          · exact .inr (.inl (List.mem_cons_of_mem _ y))
          · first | exact (Md.inP0 rfl _ y).elim | cases y
      · rcases (M.callP_has a).mpr (.inr (.inr z)) with y | y | y
        · first | exact (Md.inP0 rfl _ y).elim | cases y
        · exact .inr (.inl (List.mem_cons_of_mem _ y))
        · first | exact (Md.inP0 rfl _ y).elim | cases y
  have ec : ∀ H', cut (M.callP.slf x) H' = cut (M.slf x) H' := fun H' => cut_congr hasq H'
  have same_cut : Same (cut M H2) (cut (M.slf x) (upd (upd H2 dx (.own x)) x (.ins C dx []))) := fun a u z => by
    obtain ⟨c, y⟩ := cut_of z
    refine cut_at (fun t => ?_) (s1 a u y)
    rcases t with t | t | t
    · exact c (.inl t)
    · rcases List.mem_cons.mp t with t | t
      · rw [t, hx] at y; cases y
      · exact c (.inr (.inl t))
    · exact c (.inr (.inr t))
  refine ⟨M.callP, x, dx, ws, ds, _, xd, rfl, rfl, rfl, upd_same, ?_, by rw [ec]; exact xs.mono same_cut, w, fun H3 ns us es kp e1 e2 e3 e4 => ⟨rfl, ?_⟩, fun H3 Cx dd ns us es kp e1 e2 nd e3 z => ?_⟩
  · refine ⟨fun a z => ?_, fun a z => (Md.inP0 rfl a z).elim, fun a _ z => (nomatch z), fun i j a z => ?_, fun t ht => (nomatch ht)⟩
    · rcases z with z | z | z
      · first | exact (Md.inP0 rfl _ z).elim | cases z
      · rcases List.mem_cons.mp z with z | z
        · rw [z]; exact ⟨_, upd_same⟩
        · obtain ⟨o, e⟩ := S.mok.live a ((M.callP_has a).mp (.inr (.inl z)))
          exact ⟨o, s1 a o e⟩
      · first | exact (Md.inP0 rfl _ z).elim | cases z
    · have z : ([] : List (Option Addr))[i]? = some (some a) := z
      simp at z
  · have s3 : Same H2 H3 := fun a u z => kp a u (s1 a u z) (ne_of_none z hx)
    refine q (.ref x) H3 (.ins C x ns es) ρ s3 (S.same s3) (.ins (cut_at nx e1) e2 ?_) (e4 x)
    rw [ec] at e3
    exact e3.mono (cut_le has_aside)
  · have s3 : Same H2 H3 := fun a u z => kp a u (s1 a u z) (ne_of_none z hx)
    rw [ec] at e3
    exact hE _ _ _ (qx H3 Cx dd ns us es s3 e1 e2 (fun y => nd ((hasq dd).mpr (has_aside dd y))) (e3.mono (cut_le has_aside)) z)
theorem wx_make (hE : ∀ c d H, xk c d H → E c d H) (h : Wa K pf tr ρ fun ds ρ1 => W ds (fun ns es => ∀ a, Φ (.ins C a ns es) ρ1) xd) : Wpx K (tMake C (spMkX K C W) [] E tr) ρ Φ xk xd := fun M σ H S Q q qx =>
  h M σ H S _ fun vs H1 ds ρ1 s1 S1 x1 w => fun x dx hx hdx ne => by
    rw [List.append_nil]
    exact make_okX S1 hx hdx ne x1 hE w (fun v H3 d ρ' s S3 xd f => q v H3 d ρ' (s1.st.trans (Stp.same M s)) S3 xd f) fun H3 C dd ns us es s e1 e2 nd e3 z => qx H3 C dd ns us es (s1.st.trans (Stp.same M s)) e1 e2 nd e3 z
/-- .. with defaults dvs behind the written ones -/
theorem wx_makeD {dvs : List V} {des : List Dt} (hd : ∀ H, DXs K H dvs des) (hE : ∀ c d H, xk c d H → E c d H) (h : Wa K pf tr ρ fun ds ρ1 => W (ds ++ des) (fun ns es => ∀ a, Φ (.ins C a ns es) ρ1) xd) : Wpx K (tMake C (spMkX K C W) dvs E tr) ρ Φ xk xd := fun M σ H S Q q qx =>
  h M σ H S _ fun vs H1 ds ρ1 s1 S1 x1 w => fun x dx hx hdx ne =>
    make_okX S1 hx hdx ne (x1.append (hd _)) hE w (fun v H3 d ρ' s S3 xd f => q v H3 d ρ' (s1.st.trans (Stp.same M s)) S3 xd f) fun H3 C dd ns us es s e1 e2 nd e3 z => qx H3 C dd ns us es (s1.st.trans (Stp.same M s)) e1 e2 nd e3 z
theorem wx_makeK {n m : Nat} {gV : List V → List V → List V} {gD : List Dt → List Dt → List Dt} (hg : ∀ (x : Addr) (vs zs : List V) (ds es : List Dt) (H : Hp), vs.length = n → zs.length = m → DXs K H vs ds → DXs K H zs es → ∃ ws, gV (.ref x :: vs) zs = .ref x :: ws ∧ DXs K H ws (gD ds es)) (hE : ∀ c d H, xk c d H → E c d H)
    (h : Wa K pf tr ρ fun ds ρ1 => Wa K pf tk ρ1 fun es ρ2 => ds.length = n ∧ es.length = m ∧ W (gD ds es) (fun ns fs => ∀ a, Φ (.ins C a ns fs) ρ2) xd) : Wpx K (tMakeK C n m (spMkX K C W) gV E tr tk) ρ Φ xk xd := fun M σ H S Q q qx =>
  h M σ H S _ fun vs H1 ds ρ1 s1 S1 x1 k => k M σ H1 S1 _ fun zs H2 es ρ2 s2 S2 x2 ⟨l1, l2, w⟩ => by
    have h1 : vs.length = n := x1.len.trans l1
    have h2 : zs.length = m := x2.len.trans l2
    refine ⟨h1, h2, fun x dx hx hdx ne => ?_⟩
    obtain ⟨ws, e, xw⟩ := hg x vs zs ds es _ h1 h2 (x1.mono s2.dx) x2
    rw [e]
    exact make_okX S2 hx hdx ne xw hE w (fun v H3 d ρ' s S3 xd f => q v H3 d ρ' ((s1.trans s2).st.trans (Stp.same M s)) S3 xd f) fun H3 C dd ns us es s e1 e2 nd e3 z => qx H3 C dd ns us es ((s1.trans s2).st.trans (Stp.same M s)) e1 e2 nd e3 z
/-- where nothing can be raised, a reading that may raise is a plain one -/
theorem Wpx.wp {te : TE} (h : Wpx K te ρ Φ xk fun _ _ _ => False) : Wp K false te ρ Φ := fun M σ H S Q q =>
  h M σ H S Q (fun v H2 d ρ' s S2 x f => q v H2 d ρ' ⟨s, fun z => nomatch z⟩ S2 x f) fun _ _ _ _ _ _ _ _ _ _ _ z => z.elim
theorem passN {X : Cx} {P : Program} {w : World} : Passes (L2.CX P w) X (fun _ _ _ => False) := fun _ _ _ _ _ _ _ ⟨_, _, _, _, _, _, _, _, _, _, _, _, z⟩ => z.elim
theorem passO {X : Cx} {P : Program} {w : World} : Passes (L2.CX P w) X E0 := passN
/-- a def that may raise, where it does not -/
theorem w_callX {V : List Dt → (Dt → Prop) → (Addr → List Str → List Dt → Prop) → Prop} {dvs : List L2.V} {des : List Dt} {E : XK} (hd : ∀ H, DXs K H dvs des) (h : Wa K pf tr ρ fun ds ρ1 => V (ds ++ des) (fun d => Φ d ρ1) fun _ _ _ => False) : Wp K pf (tCall (spX K V) dvs E tr) ρ Φ := fun M σ H S Q q =>
  h M σ H S _ fun vs H1 ds ρ1 s1 S1 x1 k => by
    have ec : ∀ H', cut M.callP H' = cut M H' := cut_congr M.callP_has
    refine ⟨M.callP, ds ++ des, _, _, rfl, rfl, S1.mok.callP, by rw [ec]; exact x1.append (hd _), k, fun v H2 d e x f => q v H2 d ρ1 (s1.trans (Tr.same pf M e)) (S1.same e) (by rw [ec] at x; exact x) f, fun _ _ _ _ _ _ _ _ _ _ _ z => z.elim⟩
theorem w_callX0 {V : List Dt → (Dt → Prop) → (Addr → List Str → List Dt → Prop) → Prop} {E : XK} (h : Wa K pf tr ρ fun ds ρ1 => V ds (fun d => Φ d ρ1) fun _ _ _ => False) : Wp K pf (tCall (spX K V) [] E tr) ρ Φ :=
  w_callX (des := []) (fun _ => .nil) fun M σ H S Q q => h M σ H S Q fun vs H2 ds ρ' s S2 x f => q vs H2 ds ρ' s S2 x (by show V (ds ++ []) _ _; rw [List.append_nil]; exact f)
end

/-! ### methods -/
section
variable {K : PySem.W.Frag} {pf : Bool} {ρ : List Sl} {ta : TE} {tr tk : TA} {Φ : Dt → List Sl → Prop} {C : Addr} {m : Str} {E : XK}
/-- the object stays as it is while the arguments are told -/
theorem ins_keep {M : Md} {H H2 : Hp} {v : V} {a : Addr} {ns : List Str} {ds : List Dt} (x : DX K (cut M H) v (.ins C a ns ds)) : v = .ref a ∧ ∃ dx us, H a = some (.ins C dx (ns.zip us)) ∧ ns.length = us.length := by
  cases x with
  | ins hs hl ha => exact ⟨rfl, _, _, (cut_of hs).2, hl⟩
theorem zip_look_none {ns : List Str} {us : List V} (h : m ∉ ns) : (ns.zip us).lookup m = none := by
  induction ns generalizing us with
  | nil => rfl
  | cons n r ih =>
    cases us with
    | nil => rfl
    | cons u us =>
      have n1 : m ≠ n := fun e => h (by rw [e]; exact List.mem_cons_self)
      have e1 : (m == n) = false := by simpa using n1
      show List.lookup m ((n, u) :: r.zip us) = none
      rw [List.lookup_cons, e1]
      exact ih fun z => h (List.mem_cons_of_mem _ z)
theorem w_meth {W : List Dt → (Dt → Prop) → Prop} {dvs : List V} {des : List Dt} (hd : ∀ H, DXs K H dvs des) (h : Wp K pf ta ρ fun d ρ1 => ∃ a ns es, d = .ins C a ns es ∧ m ∉ ns ∧ Wa K pf tr ρ1 fun ds ρ2 => W (.ins C a ns es :: (ds ++ des)) fun e => Φ e ρ2) : Wp K pf (tMeth C m (spP K W) dvs E ta tr) ρ Φ := fun M σ H S Q q =>
  h M σ H S _ fun v H1 d ρ1 s1 S1 x1 ⟨a, ns, es, ed, hm, k⟩ => by
    subst ed
    obtain ⟨rfl, dx, us, hi, hl⟩ := ins_keep (H2 := H1) x1
    refine ⟨a, dx, _, rfl, hi, zip_look_none hm, k M σ H1 S1 _ fun vs H2 ds ρ2 s2 S2 x2 w => ?_⟩
    have ec : ∀ H', cut M.callP H' = cut M H' := cut_congr M.callP_has
    exact ⟨M.callP, _, _, rfl, rfl, S2.mok.callP, by rw [ec]; exact .cons (x1.mono s2.dx) (x2.append (hd _)), w, fun v H3 e s x f => q v H3 e ρ2 ((s1.trans s2).trans (Tr.same pf M s)) (S2.same s) (by rw [ec] at x; exact x) f⟩
end
/-- o.m(e, .., k = v, ..) -/
def tMethK (C : Addr) (m : Str) (n j : Nat) (sp : Sp) (gV : List V → List V → List V) (E : XK) (ta : TE) (t tk : TA) : TE := fun σ H Q => ta σ H fun x H1 => ∃ a dx fs, x = .ref a ∧ H1 a = some (.ins C dx fs) ∧ fs.lookup m = none ∧
  t σ H1 fun vs H2 => tk σ H2 fun zs H3 => vs.length = n ∧ zs.length = j ∧ sp (gV (x :: vs) zs) H3 Q E
section
variable {X : Cx} {CX : CXT} {k n : Nat} {C f : Addr} {fd : FuncData} {ps ks : List Str} {sp : Sp} {E : XK} {m : Str} {apos pos : Pos} {o e : Expr} {es : List Expr} {kws : List Keyword} {ta : TE} {t tk : TA} {g : List Value → List Value → List Value} {gV : List V → List V → List V}
theorem pe_methK {pl : Sem Bool} (he : PE X o ta) (c : Cls X.K C) (hm : Meth X.K C m f) (F : FnOk X.prog X.w X.K X.mg X.base CX k f fd ps sp) (hr : Room k X.A) (hb : KBn X.K fd ps (n + 1) ks g gV) (hx : Passes CX X E) (ha : PA X (e :: es) t) (hkw : PK X kws tk)
    (hall : (backToKw pos (keywordEach kws X.env)).all (·.1.isSome) = true := by rfl) (hks : (backToKw pos (keywordEach kws X.env)).filterMap (·.1) = ks := by rfl) (hst : starEach (e :: es) X.env = (false, eval e X.env) :: starEach es X.env := by rfl)
    (hpl : ((backTo pos (starEach (e :: es) X.env)).any (·.1) || (backToKw pos (keywordEach kws X.env)).any (·.1.isNone)) = false := by rfl)
    (ht : eval (.Call (.Attribute o m apos) (e :: es) kws pos) X.env = (do
      let ov ← eval o X.env
      standAt apos.atName
      let (f, first) ← holding [ov] (getMethod ov m pl)
      callWith pos f first (backTo pos (starEach (e :: es) X.env)) (backToKw pos (keywordEach kws X.env))) := by rfl) :
    PE X (.Call (.Attribute o m apos) (e :: es) kws pos) (tMethK C m n ks.length sp gV E ta t tk) := by
  constructor
  intro pins s σ H Q I h
  refine PySem.W.methodCall_KW (pl := pl) (thn (he.run pins s σ H _ I h) fun u s1 ⟨x, H1, I1, rx, a, dx, fs, ex, ea, l, q⟩ => ?_) ht
  subst ex
  have rx : u = Value.ref a := rx
  subst rx
  refine getmeth_ok I1 ea c hm l ?_
  refine PySem.W.callWith_KW (first := [.ref a]) (h₀ := X.base) I.ok.mod.kin hm.kp hall (thn (ha.run pos pins s1 σ H1 _ I1 q) fun us s2 ⟨vs, H2, I2, r, q2⟩ => ?_) hpl hst
  refine thn (hkw.run pos pins s2 σ H2 _ I2 q2) fun ws s3 ⟨zs, H3, I3, rz, l1, l2, q3⟩ => ⟨I3.kIn, ?_⟩
  rw [hks]
  exact run_fnN (us := .ref a :: us) (vs := .ref a :: vs) F hr hb hx I3 (.cons rfl r) rz (by rw [List.length_cons, l1]) l2 q3
/-- o.m(k = v, ..) -/
theorem pe_methK0 {pl : Sem Bool} (he : PE X o ta) (c : Cls X.K C) (hm : Meth X.K C m f) (F : FnOk X.prog X.w X.K X.mg X.base CX k f fd ps sp) (hr : Room k X.A) (hb : KBn X.K fd ps 1 ks g gV) (hx : Passes CX X E) (hkw : PK X kws tk)
    (hall : (backToKw pos (keywordEach kws X.env)).all (·.1.isSome) = true := by rfl) (hks : (backToKw pos (keywordEach kws X.env)).filterMap (·.1) = ks := by rfl)
    (hpl : ((backTo pos (starEach [] X.env)).any (·.1) || (backToKw pos (keywordEach kws X.env)).any (·.1.isNone)) = false := by rfl)
    (ht : eval (.Call (.Attribute o m apos) [] kws pos) X.env = (do
      let ov ← eval o X.env
      standAt apos.atName
      let (f, first) ← holding [ov] (getMethod ov m pl)
      callWith pos f first (backTo pos (starEach [] X.env)) (backToKw pos (keywordEach kws X.env))) := by rfl) :
    PE X (.Call (.Attribute o m apos) [] kws pos) (tMethK C m 0 ks.length sp gV E ta tNil tk) := by
  constructor
  intro pins s σ H Q I h
  refine PySem.W.methodCall_KW (pl := pl) (thn (he.run pins s σ H _ I h) fun u s1 ⟨x, H1, I1, rx, a, dx, fs, ex, ea, l, q⟩ => ?_) ht
  subst ex
  have rx : u = Value.ref a := rx
  subst rx
  refine getmeth_ok I1 ea c hm l ?_
  refine PySem.W.callWith_KW0 (first := [.ref a]) (h₀ := X.base) I.ok.mod.kin hm.kp hall ?_ hpl
  refine thn (hkw.run pos pins s1 σ H1 _ I1 q) fun ws s3 ⟨zs, H3, I3, rz, l1, l2, q3⟩ => ⟨I3.kIn, ?_⟩
  rw [hks]
  exact run_fnN (us := [.ref a]) (vs := [.ref a]) F hr hb hx I3 (.cons rfl .nil) rz rfl l2 q3
end
section
variable {K : PySem.W.Frag} {pf : Bool} {ρ : List Sl} {ta : TE} {tr tk : TA} {Φ : Dt → List Sl → Prop} {C : Addr} {m : Str} {E : XK}
theorem w_methK {W : List Dt → (Dt → Prop) → Prop} {n j : Nat} {gV : List V → List V → List V} {gD : Dt → List Dt → List Dt → List Dt} (hg : ∀ (x : V) (vs zs : List V) (d : Dt) (ds es : List Dt) (H : Hp), vs.length = n → zs.length = j → DX K H x d → DXs K H vs ds → DXs K H zs es → DXs K H (gV (x :: vs) zs) (gD d ds es))
    (h : Wp K pf ta ρ fun d ρ1 => ∃ a ns es, d = .ins C a ns es ∧ m ∉ ns ∧ Wa K pf tr ρ1 fun ds ρ2 => Wa K pf tk ρ2 fun fs ρ3 => ds.length = n ∧ fs.length = j ∧ W (gD (.ins C a ns es) ds fs) fun e => Φ e ρ3) : Wp K pf (tMethK C m n j (spP K W) gV E ta tr tk) ρ Φ := fun M σ H S Q q =>
  h M σ H S _ fun v H1 d ρ1 s1 S1 x1 ⟨a, ns, es, ed, hm, k⟩ => by
    subst ed
    obtain ⟨rfl, dx, us, hi, hl⟩ := ins_keep (H2 := H1) x1
    refine ⟨a, dx, _, rfl, hi, zip_look_none hm, k M σ H1 S1 _ fun vs H2 ds ρ2 s2 S2 x2 k2 => k2 M σ H2 S2 _ fun zs H3 fs ρ3 s3 S3 x3 ⟨l1, l2, w⟩ => ?_⟩
    have ec : ∀ H', cut M.callP H' = cut M H' := cut_congr M.callP_has
    have h1 : vs.length = n := x2.len.trans l1
    have h2 : zs.length = j := x3.len.trans l2
    refine ⟨h1, h2, M.callP, _, _, rfl, rfl, S3.mok.callP, ?_, w, fun v H4 e s x f => q v H4 e ρ3 (((s1.trans s2).trans s3).trans (Tr.same pf M s)) (S3.same s) (by rw [ec] at x; exact x) f⟩
    rw [ec]
    exact hg _ _ _ _ _ _ _ h1 h2 ((x1.mono s2.dx).mono s3.dx) (x2.mono s3.dx) x3
end
end DL

set_option maxHeartbeats 2000000
/-! Data level: the facts of classes of errors as the top leaves them; == of flat lists; small rules. -/
namespace DL
open PySem PySem.Spec PyProof.Rows L2
variable [Tb]
def nidOf : Nat → String
  | 0 => "ValueError.__new__" | 1 => "LookupError.__new__" | 2 => "RuntimeError.__new__" | _ => "OverflowError.__new__"
def tlOf : Nat → List Value
  | 0 => tlV | 1 => tlL | 2 => tlR | _ => tlO
theorem ebOf : ∀ k, ErrB (nidOf k) (tlOf k)
  | 0 => errV | 1 => errL | 2 => errR | _ + 3 => errO
theorem tl_ref (D : Addr) : ∀ k, (tlOf k).contains (.ref D) = false
  | 0 => rfl | 1 => rfl | 2 => rfl | _ + 3 => rfl
theorem tl_base : ∀ k, (tlOf k).contains (.type "BaseException") = true
  | 0 => by decide +kernel | 1 => by decide +kernel | 2 => by decide +kernel | _ + 3 => by show tlO.contains _ = true; decide +kernel
/-- what is looked up of such a class -/
def exq (K : PySem.W.Frag) (C : Addr) (fl : List Str) : Bool :=
  PySem.W.findIn K (.ref C) "__setattr__" == some (some (.builtin "object.__setattr__")) && (PySem.W.findIn K (.ref C) "__getattribute__" == some (some (.builtin "BaseException.__getattribute__")) && (PySem.W.findIn K (.ref C) "__getattr__" == some none
    && (PySem.W.findIn K (.ref C) "__class__" == some (some (.builtin "object.__class__")) && (PySem.W.keepIn K (.ref C) && fl.all fun f => PySem.W.findIn K (.ref C) f == some none))))
def glq (K : PySem.W.Frag) : Bool := PySem.W.specialIn K (.builtin "object.__class__") "__get__" == some (some (.builtin "getset_descriptor.__get__")) && PySem.W.takesIn K (.builtin "object.__class__") == some true
/-- a class of errors as the top has left it -/
inductive CFac (K : PySem.W.Frag) (x : Str) (fl : List Str) (B : Addr) (nid : String) (tl : List Value) (C : Addr) : Prop
  | mk {nm q : Str} {N : Addr} {bs : List Value} {sn : List Str} {sub : List Value} {ab : Bool} {col : Option Bool} {dd : Option Addr} {k0 k1 k2 k3 k5 : Option Value} (a : PySem.W.nsIn K mainGlobals x = some (some (.ref C)))
      (l : K.lookup C = some (excClassObj nm q C N bs (.ref B :: tl) true sn sub ab col dd k0 k1 k2 k3 k5 nid)) (b : exq K C fl = true) : CFac K x fl B nid tl C
inductive IFac (K : PySem.W.Frag) (C : Addr) (qual : Str) (st : Stmt) : Prop
  | mk {f : Addr} {od an : Option Addr} {sl : Array (Option Value)} {kV dc pm cd ct : Value} (i : PySem.W.findIn K (.ref C) "__init__" = some (some (.ref f)))
      (l : K.lookup f = some ⟨.type "function", od, .func (PySem.W.fnOf "__init__" qual (defArgs st) (defBody st) (defScope st) .none kV dc pm an cd ct), sl⟩) (c : PySem.W.codeIn K cd qual = true) : IFac K C qual st
/-- .. and what is known of it -/
structure Er (K : PySem.W.Frag) (mg : Str → Option Value) (x : Str) (fl : List Str) (B : Addr) (nid : String) (tl : List Value) (C : Addr) : Prop where
  g : mg x = some (.ref C)
  T : OexB K C [B] nid tl
  X : XfC K C
  I : IsxC K C
  no : ∀ f ∈ fl, PySem.W.findIn K (.ref C) f = some none
  cl : (PySem.W.clsIn K C).isSome = true
theorem typeIn_ref {K : PySem.W.Frag} {a : Addr} : PySem.W.typeIn K (.ref a) = (K.lookup a).map (·.cls) := rfl
theorem keep_fn {K : PySem.W.Frag} {f : Addr} {oc : Value} {od : Option Addr} {g : FuncData} {sl : Array (Option Value)} (l : K.lookup f = some ⟨oc, od, .func g, sl⟩) : PySem.W.keepIn K (.ref f) = true := by
  unfold PySem.W.keepIn
  simp only [l]
theorem beq_some {α : Type} [BEq α] [LawfulBEq α] {a b : α} (h : (a == b) = true) : a = b := eq_of_beq h
theorem CFac.er {K : PySem.W.Frag} {x : Str} {fl : List Str} {B C : Addr} {k : Nat} {h : Heap} {mg : Str → Option Value} (F : CFac K x fl B (nidOf k) (tlOf k) C) (X : K.In h) (G : h.Ns mainGlobals mg) (gq : glq K = true) : Er K mg x fl B (nidOf k) (tlOf k) C := by
  cases F with
  | @mk nm q N bs sn sub ab col dd k0 k1 k2 k3 k5 a l b =>
    unfold exq at b
    simp only [Bool.and_eq_true] at b
    obtain ⟨b1, b2, b3, b4, b5, b6⟩ := b
    unfold glq at gq
    simp only [Bool.and_eq_true] at gq
    have hl : K.lookup C = some (excClassObj nm q C N bs (over [B] (tlOf k)) true sn sub ab col dd k0 k1 k2 k3 k5 (nidOf k)) := l
    have hcl : PySem.W.clsIn K C = some { name := nm, bases := bs, mro := .ref C :: over [B] (tlOf k), ns := N, qualname := q, hasDict := true, slotNames := sn, subclasses := sub, abstract := ab, collection := col, hasDel := false } := by unfold PySem.W.clsIn; rw [hl] <;> rfl
    have hsub : ∀ v : Value, PySem.W.subIn K (.ref C) v = some ((over (C :: [B]) (tlOf k)).contains v) := fun v => by
      show PySem.W.mroIn K C v = _
      unfold PySem.W.mroIn
      rw [hcl, Option.bind_some]
      rfl
    have hbe : PySem.W.subIn K (.ref C) (.type "BaseException") = some true := by rw [hsub, over_has, tl_base]
    have hty : PySem.W.typeIn K (.ref C) = some (.type "type") := by rw [typeIn_ref, hl]; rfl
    refine ⟨PySem.W.mg_of X G a, ⟨ebOf k, ⟨nm, q, N, bs, sn, sub, ab, col, dd, k0, k1, k2, k3, k5, hl⟩, beq_some b1, hbe, hty, b5⟩, ⟨beq_some b2, beq_some b3, hbe, by unfold PySem.W.hasDictIn; rw [hcl]; rfl⟩, ⟨beq_some b2, beq_some b3, hbe, by unfold PySem.W.hasDictIn; rw [hcl]; rfl, beq_some b4, beq_some gq.1, beq_some gq.2, ?_⟩, fun f hf => beq_some (List.all_eq_true.mp b6 f hf), by rw [hcl]; rfl⟩
    have h2 := hsub (.type "object")
    rw [over_has, (ebOf k).obj] at h2
    exact h2
/-- an __init__ that keeps its promise -/
structure Ini (K : PySem.W.Frag) (C : Addr) (n : Nat) (W : List Dt → (List Str → List Dt → Prop) → Prop) : Prop where
  ex : ∃ (fI : Addr) (fd : FuncData) (ps : List Str), PySem.W.findIn K (.ref C) "__init__" = some (some (.ref fI)) ∧ PySem.W.typeIn K (.ref fI) = some (.type "function") ∧ Binds K fd ps [] ∧ ∀ (P : Program) (w : World) (mg : Str → Option Value) (base : Heap), FnOk P w K mg base CX0 1 fI fd ps (spExI K C W)
def W1 (fl : Str) : List Dt → (List Str → List Dt → Prop) → Prop := fun ds Φ => ∃ d, ds = [d] ∧ Φ [fl] [d]
def W2 (fl gl : Str) : List Dt → (List Str → List Dt → Prop) → Prop := fun ds Φ => ∃ d e, ds = [d, e] ∧ Φ [gl, fl] [e, d]
section
variable {K : PySem.W.Frag} {mg : Str → Option Value} {x : Str} {fl : List Str} {B C : Addr} {nid : String} {tl : List Value} {n : Nat} {W : List Dt → (List Str → List Dt → Prop) → Prop} {X : Cx} {e : Expr} {es : List Expr} {p pos : Pos} {ta : TA}
theorem Er.pe (m : Er K mg x fl B nid tl C) (i : Ini K C n W) (hK : X.K = K) (hm : X.mg = mg) (hr : Room 2 X.A) (hg : Gl X x) (ha : PA X (e :: es) ta) (hdb : (x == ("__debug__" : Str)) = false := by decide)
    (he : starEach (e :: es) X.env = (false, eval e X.env) :: starEach es X.env := by rfl) (hpl : (backTo pos (starEach es X.env)).any (·.1) = false := by rfl) : PE X (.Call (.Name x p) (e :: es) [] pos) (tMkV C (spExI K C W) [] ta) := by
  subst hK hm
  obtain ⟨fI, fd, ps, i1, i2, b, F⟩ := i.ex
  exact pe_mkB m.T i1 i2 (F _ _ _ _) hr b .nil pass0 hg m.g ha hdb he hpl
theorem Er.pmk (m : Er K mg x fl B nid tl C) (i : Ini K C n W) (hK : X.K = K) (hm : X.mg = mg) (hr : Room 2 X.A) (hg : Gl X x) (ha : PA X (e :: es) ta) (hdb : (x == ("__debug__" : Str)) = false := by decide)
    (he : starEach (e :: es) X.env = (false, eval e X.env) :: starEach es X.env := by rfl) (hpl : (backTo pos (starEach es X.env)).any (·.1) = false := by rfl) : PMk X (.Call (.Name x p) (e :: es) [] pos) (tMkO C (spExI K C W) [] ta) := by
  subst hK hm
  obtain ⟨fI, fd, ps, i1, i2, b, F⟩ := i.ex
  exact pmk_oexB m.T i1 i2 (F _ _ _ _) hr b .nil pass0 hg m.g ha hdb he hpl
theorem isXK (K : PySem.W.Frag) (h : X.K = K) : CallR X (.builtin "isinstance") (rIsX K) := by subst h; exact call_isX
end

inductive BFac (K : PySem.W.Frag) (x : Str) (C : Addr) : Prop
  | mk (a : PySem.W.nsIn K mainGlobals x = some (some (.ref C))) (b : PySem.W.isClsIn K C = true) (t : PySem.W.typeIn K (.ref C) = some (.type "type")) (s : PySem.W.subIn K (.ref C) (.type "BaseException") = some true) : BFac K x C
theorem lenD_seq {d : Dt} {xs : List Dt} (h : seqD d = some xs) : lenD d = some xs.length := by
  cases d with
  | lst ds => cases h; rfl
  | tup ds => cases h; rfl
  | _ => cases h
theorem neDK {X : Cx} (K : PySem.W.Frag) (h : X.K = K) (hu : X.A.units + 64 < cLine) : OpR X (compareOp .NotEq) (rNeD K) := by subst h; exact op_neD hu
theorem eqDK {X : Cx} (K : PySem.W.Frag) (h : X.K = K) (hu : X.A.units + 64 < cLine) : OpR X (compareOp .Eq) (rEqD K) := by subst h; exact op_eqD hu
theorem catLK {X : Cx} (K : PySem.W.Frag) (h : X.K = K) : OpR X (binaryOp .Add) (rCatL K) := by subst h; exact op_catL
theorem idxK {X : Cx} (K : PySem.W.Frag) (h : X.K = K) : MtR X "list.index" (rIndex K) := by subst h; exact mt_index
/-- lists of truths, lists of ints beside each other -/
theorem eqv_bls : ∀ xs ys : List Bool, PyData.eqvAll (pys (xs.map Dt.bl)) (pys (ys.map Dt.bl)) = decide (xs = ys)
  | [], [] => by simp [pys, PyData.eqvAll]
  | [], y :: ys => by simp [pys, PyData.eqvAll]
  | x :: xs, [] => by simp [pys, PyData.eqvAll]
  | x :: xs, y :: ys => by
    have ih := eqv_bls xs ys
    simp only [List.map_cons, pys, PyData.eqvAll, Dt.py, PyData.eqv, ih]
    by_cases h : x = y
    · subst h; simp
    · simp [h]
theorem eqv_ints : ∀ xs ys : List Int, PyData.eqvAll (pys (xs.map Dt.int)) (pys (ys.map Dt.int)) = decide (xs = ys)
  | [], [] => by simp [pys, PyData.eqvAll]
  | [], y :: ys => by simp [pys, PyData.eqvAll]
  | x :: xs, [] => by simp [pys, PyData.eqvAll]
  | x :: xs, y :: ys => by
    have ih := eqv_ints xs ys
    simp only [List.map_cons, pys, PyData.eqvAll, Dt.py, PyData.eqv, ih]
    by_cases h : x = y
    · subst h; simp
    · simp [h]
theorem shp_bls (xs : List Bool) : seqss (xs.map Dt.bl) = true ∧ SeqAt.shaped (Dt.lst (xs.map Dt.bl)).py = true := by
  have key : ∀ xs : List Bool, seqss (xs.map Dt.bl) = true ∧ PyData.canLayAll0 (pys (xs.map Dt.bl)) = true ∧ PyData.depthAll (pys (xs.map Dt.bl)) ≤ 1 := by
    intro xs
    induction xs with
    | nil => simp [seqss, pys, PyData.canLayAll0, PyData.depthAll]
    | cons x xs ih =>
      obtain ⟨h1, h2, h3⟩ := ih
      simp only [List.map_cons, seqss, Dt.seqs, pys, Dt.py, PyData.canLayAll0, PyData.canLay0, PyData.depthAll, PyData.depth, h1, h2, Bool.and_true, true_and]
      omega
  obtain ⟨h1, h2, h3⟩ := key xs
  refine ⟨h1, ?_⟩
  unfold SeqAt.shaped
  simp only [Dt.py, PyData.canLay0, PyData.depth, h2, Bool.true_and, decide_eq_true_eq]
  omega
theorem shp_ints (xs : List Int) : seqss (xs.map Dt.int) = true ∧ SeqAt.shaped (Dt.lst (xs.map Dt.int)).py = true := by
  have key : ∀ xs : List Int, seqss (xs.map Dt.int) = true ∧ PyData.canLayAll0 (pys (xs.map Dt.int)) = true ∧ PyData.depthAll (pys (xs.map Dt.int)) ≤ 1 := by
    intro xs
    induction xs with
    | nil => simp [seqss, pys, PyData.canLayAll0, PyData.depthAll]
    | cons x xs ih =>
      obtain ⟨h1, h2, h3⟩ := ih
      simp only [List.map_cons, seqss, Dt.seqs, pys, Dt.py, PyData.canLayAll0, PyData.canLay0, PyData.depthAll, PyData.depth, h1, h2, Bool.and_true, true_and]
      omega
  obtain ⟨h1, h2, h3⟩ := key xs
  refine ⟨h1, ?_⟩
  unfold SeqAt.shaped
  simp only [Dt.py, PyData.canLay0, PyData.depth, h2, Bool.true_and, decide_eq_true_eq]
  omega
section
variable {K : PySem.W.Frag} {Ψ : Dt → Prop}
theorem od_neBls {xs ys : List Bool} (h : Ψ (.bl (!decide (xs = ys)))) : OD K (rNeD K) (.lst (xs.map Dt.bl)) (.lst (ys.map Dt.bl)) Ψ := fun M H u v m h1 h2 Q q => by
  refine ⟨_, _, (h1.mono (cut_sub M H)).dp (by simp only [Dt.seqs]; exact (shp_bls xs).1), (h2.mono (cut_sub M H)).dp (by simp only [Dt.seqs]; exact (shp_bls ys).1), (shp_bls xs).2, (shp_bls ys).2, ?_⟩
  have e : PyData.eqv (Dt.lst (xs.map Dt.bl)).py (Dt.lst (ys.map Dt.bl)).py = decide (xs = ys) := by simp only [Dt.py, PyData.eqv]; exact eqv_bls xs ys
  rw [e]
  exact q _ H _ (Same.refl H) (.bl _) h
theorem od_eqInts {xs ys : List Int} (h : Ψ (.bl (decide (xs = ys)))) : OD K (rEqD K) (.lst (xs.map Dt.int)) (.lst (ys.map Dt.int)) Ψ := fun M H u v m h1 h2 Q q => by
  refine ⟨_, _, (h1.mono (cut_sub M H)).dp (by simp only [Dt.seqs]; exact (shp_ints xs).1), (h2.mono (cut_sub M H)).dp (by simp only [Dt.seqs]; exact (shp_ints ys).1), (shp_ints xs).2, (shp_ints ys).2, ?_⟩
  have e : PyData.eqv (Dt.lst (xs.map Dt.int)).py (Dt.lst (ys.map Dt.int)).py = decide (xs = ys) := by simp only [Dt.py, PyData.eqv]; exact eqv_ints xs ys
  rw [e]
  exact q _ H _ (Same.refl H) (.bl _) h
end
section
variable {K : PySem.W.Frag} {ρ : List Sl} {te : TE} {D : DE} {pf : Bool} {g : TG} {js : List Nat}
theorem ws_asgG (h : Wp K pf te ρ fun d ρ' => WG K g js d ρ' D.nx) : Ws K (tAsg te g) ρ D := fun M σ H S E k =>
  h M σ H S _ fun v H1 d ρ1 s1 S1 x1 f => f M σ H1 v S1 x1 _ fun σ' ρ' _ S' z => k.nx M σ' H1 ρ' s1.st S' z
end
section
variable {X : Cx} {T : String} {name : Str} {id : String} {r : V → List V → Hp → VK → Prop} {o e : Expr} {es : List Expr} {to : TE} {t : TA} {apos cpos : Pos}
theorem pe_bmK (K : PySem.W.Frag) (hK : X.K = K) (pa : PlainAttrs T) (slot : Slot T name id) (hty : typeOf (.builtin id) = pure (.type "method_descriptor")) (hm : MtR X id r) (ho : PE X o to) (ha : PA X (e :: es) t) (hbase : attributeBase o name X.env (eval o X.env) = eval o X.env := by rfl)
    (hfew : ((backTo cpos (starEach (e :: es) X.env)).all (fun x => !x.1) && (backToKw cpos (keywordEach [] X.env)).all (fun x => x.1.isSome) && decide ((e :: es).length + ([] : List Keyword).length + (if ([] : List Keyword).isEmpty then 0 else 1) < 30)) = true := by rfl)
    (hline : (apos.endLine == cpos.line) = true := by rfl) (hs : starEach (e :: es) X.env = (false, eval e X.env) :: starEach es X.env := by rfl) (hplain : (backTo cpos (starEach es X.env)).any (·.1) = false := by rfl) : PE X (.Call (.Attribute o name apos) (e :: es) [] cpos) (tBM K T r to t) := by
  subst hK
  exact pe_bm pa slot hty hm ho ha hbase hfew hline hs hplain
end
section
variable {K : PySem.W.Frag} {pf : Bool} {ρ : List Sl} {te : TE} {wi : TI} {j : Nat} {Φ : Dt → List Sl → Prop}
/-- [f(d) for d in ..], by places -/
theorem w_lcZ (fs : List Dt) (e : ρ[j]? = some .any) (h : WI K pf wi ρ fun ds ρ1 => ρ1 = ρ ∧ ds.length ≤ 50000 ∧ ds.length = fs.length ∧ (∀ (k : Nat) (d y : Dt), ds[k]? = some d → fs[k]? = some y → Wp K pf te (ρ.set j (.dat d)) fun z ρ3 => z = y ∧ ρ3 = ρ.set j (.dat d)) ∧ Φ (.lst fs) ρ) :
    Wp K pf (tLc wi (gName j) tYes te [j]) ρ Φ := by
  refine w_lc (js := [j]) (fun _ z => z) fun M σ H S R q => h M σ H S R fun J H1 ds ρ1 s1 S1 w ⟨e1, hz, hl, he, z⟩ => q J H1 ds ρ1 s1 S1 w ?_
  subst e1
  have w0 : wipeS ρ1 [j] = ρ1 := by
    show ρ1.set j .any = ρ1
    have := set_any (s := .any) e
    rw [List.set_set] at this
    exact this
  have w1 : ∀ d, wipeS (ρ1.set j (.dat d)) [j] = ρ1 := fun d => set_any e
  refine ⟨⟨fun i acc ρ2 => ρ2 = ρ1 ∧ acc = fs.take i, ⟨w0, rfl⟩, hz, fun i d acc ρ2 hd ⟨e2, ea⟩ => ?_, fun acc ρ2 ⟨e2, ea⟩ => ?_⟩⟩
  · subst e2 ea
    have hi : i < fs.length := by rw [← hl]; exact (List.getElem?_eq_some_iff.mp hd).1
    have hy : fs[i]? = some fs[i] := List.getElem?_eq_getElem hi
    refine wg_name (wt_yes (ifT ((he i d _ hd hy).imp fun y ρ5 ⟨ey, e5⟩ => ?_)))
    subst e5 ey
    exact ⟨w1 d, by rw [List.take_add_one, hy]; rfl⟩
  · subst e2 ea
    rw [hl, List.take_length]
    exact z
end

end DL

set_option maxHeartbeats 2000000
/-! Data level: enumerate over a tuple; a list without its k-th item. -/
namespace DL
open PySem PySem.Spec PyProof.Rows L2
variable [Tb]
open PySem.Sem (wp)
open AutoSeq1 (wpAny_loadPart')
section
variable {prog : Program} {w : World} {A : Around} {E : Value → Shared → Prop} {s : Shared}
/-- what enumerate(v) lays: the iterator o of v, then its own object -/
abbrev enumO (n : Addr) : Obj := { cls := .type "enumerate", data := .fields #[.none, .bool false, .ref n, rawInt 0, .none, .none] }
theorem meets_enumB {v : Value} {o : Obj} {H : Heap → Prop} (B : Begins v o H) :
    Meets (Builtin.«enumerate.__new__» ⟨[.type "enumerate", v], []⟩) (fun _ R s => H s.heap ∧ R (.ok (.ret (.ref (s.heap.push o).objs.size))) { s with heap := (s.heap.push o).push (enumO s.heap.objs.size) }) := .of_wp fun prog w A R s h => by
  obtain ⟨hp, g, d, tk, os⟩ := s
  have sub := sub_enumerate
  have go : ∀ {A' : Around} {E : Value → Shared → Prop} {Q : Value → Shared → Prop}, Q (.ref hp.objs.size) ⟨hp.push o, g, d, tk, os⟩ → wpAny (model prog w) A' (pyIter v) Q E ⟨hp, g, d, tk, os⟩ := fun q => B.iter _ _ _ _ ⟨hp, g, d, tk, os⟩ _ h.1 q
  wp_walk using go
  refine wpAny_stack_any fun st => wpAny_pure ?_
  split <;> try (rename_i c _ _ _ _ _; cases c == Value.type "enumerate")
  all_goals (wp_walk using go; exact ⟨_, rfl, h.2⟩)
theorem call_enumB {v : Value} {o : Obj} {H : Heap → Prop} {Q : Value → Shared → Prop} (B : Begins v o H) (hH : H s.heap)
    (h : ∀ h', IsEnum h' (s.heap.objs.size + 1) s.heap.objs.size 0 .none → h'.get? s.heap.objs.size = some o → (∀ b o, s.heap.get? b = some o → h'.get? b = some o) → Q (.ref (s.heap.objs.size + 1)) { s with heap := h' }) :
    wpAny (model prog w) A (call (.type "enumerate") [v]) Q E s := by
  have z : (s.heap.push o).objs.size = s.heap.objs.size + 1 := Heap.size_push ..
  have e : ((s.heap.push o).push (enumO s.heap.objs.size)).get? (s.heap.objs.size + 1) = some (enumO s.heap.objs.size) := z ▸ Heap.get?_push_size _ rfl
  have fin := h _ e (Heap.get?_push_of_some _ (Heap.get?_push_size _ B.free)) fun b u x => Heap.get?_push_of_some _ (Heap.get?_push_of_some _ x)
  refine callType_new F.called_enumerate (by decide) (F.typeCall_enumerate_1 _) (F.newCall_enumerate_1 _) (fun obj => F.args_object_init_2 obj _) F.entry_enumerate_new (meets_enumB B) ⟨hH, ?_⟩
  show _ ∧ _
  rw [z]
  exact ⟨⟨_, e, rfl⟩, fin⟩
end
theorem one_val {v : V} {us : List Value} (r : Vals [v] us) : ∃ u, us = [u] ∧ RelV v u := by
  cases r with
  | cons a b => cases b; exact ⟨_, rfl, a⟩
/-- the tuple at a, each item in a new pair -/
def IteT (K : PySem.W.Frag) (a : Addr) : It :=
  ⟨fun i H => ∃ (xs : List V) (x : V), SqT K H a xs ∧ xs[i]? = some x, fun i H v H' => ∃ T x, v = .ref T ∧ H T = none ∧ H' = upd H T (.tup [.int (i : Nat), x]) ∧ ∀ xs, SqT K H a xs → xs[i]? = some x, fun i H => ∃ xs : List V, SqT K H a xs ∧ xs.length = i⟩
theorem turn_enumT {P : Program} {w : World} {K : PySem.W.Frag} {elts : List Expr} {kk : Nat} {tpos : Pos} (a e it : Addr) :
    Turn P w K (.Tuple elts kk tpos) (IteT K a) [e, it] e (fun i h => (∃ old, IsEnum h e it ((i : Nat) : Int) old) ∧ h.IsTupleIter it a i ∧ e ≠ it) := by
  have apart : ∀ {h : Heap} {its : Array Value} {i : Nat} {old : Value}, IsEnum h e it i old → h.IsTupleIter it a i → h.IsTuple a its → a ≠ it ∧ e ≠ a := fun {h its i old} h1 ⟨o2, g2, c2, _⟩ ⟨o3, g3, c3, _⟩ => by
    constructor
    · rintro rfl
      rw [g2] at g3; cases g3; rw [c2] at c3; injection c3 with c; exact absurd c (by decide)
    · rintro rfl
      have g1 : h.get? e = some _ := h1
      rw [g1] at g3; cases g3; injection c3 with c; exact absurd c (by decide)
  have two : ∀ b ∈ [e, it], b = e ∨ b = it := fun b hb => by simpa using hb
  refine ⟨by simp, fun i h st b hb => ?_, fun i h h' ⟨⟨old, st⟩, si, ne⟩ k => ⟨⟨old, k e (by simp) _ st⟩, si.at fun o q => k it (by simp) o q, ne⟩, ?_, ?_, fun A i s Q E st q => let ⟨⟨_, st⟩, _⟩ := st; wpAny_pyIter_enum st q⟩
  · obtain ⟨⟨old, st⟩, ⟨o, ho, _, hd⟩, _⟩ := st
    rcases two b hb with rfl | rfl
    · exact ⟨_, st, fun v q => nomatch q⟩
    · exact ⟨o, ho, fun v q => by rw [hd] at q; cases q⟩
  · rintro X rfl rfl rfl hc i pins s σ H E I hf ⟨⟨old, st⟩, si, ne⟩ ⟨xs, x, hq, hx⟩
    obtain ⟨its, rv, tp, -⟩ := I.tuple hq
    have tp : s.heap.IsTuple a its.toArray := tp
    obtain ⟨u, hu, ru⟩ := rv.get hx
    obtain ⟨n1, n2⟩ := apart st si tp
    have W := WalksT.enumerateD (prog := X.prog) (w := X.w) (A := X.A) (Draws.tuple (A := X.A.in1) (by simp [I.ok.hd hc]) it a n1 its.toArray) e ne (by simp [ne, n2]) (by simp)
    have lt : i < its.toArray.size := by simpa using (List.getElem?_eq_some_iff.mp hu).1
    refine W.item i s _ E lt ⟨⟨old, st⟩, si, tp⟩ fun T vs h1 t1 pt le hT mid k1 => ?_
    have off := W.apart i T h1 mid
    obtain ⟨t, y, hy, rfl⟩ := pt
    obtain rfl : u = y := by rw [List.getElem?_toArray, hu] at hy; exact Option.some.inj hy
    refine ⟨_, rfl, W.go elts kk tpos i T { s with heap := h1, toks := t1 } _ E mid fun h2 st2 k2 => ?_⟩
    obtain ⟨⟨old2, g2⟩, s2, -⟩ := st2
    have new : ObjOk X.prog X.w (upd H T (.tup [.int (i : Nat), x])) h2 T (.tup [.int (i : Nat), x]) :=
      ⟨by show 2 ≤ sizeLine; decide, [.int i t, u], .cons ⟨_, rfl⟩ (.cons ru .nil), hT.at fun o q => k2 T o off q⟩
    refine ⟨.ref T, _, I.turnedNew (t' := t1) (ch := [e, it]) (fun b o hb q => k2 b o hb (k1 b o hb q)) hf le new, rfl, ⟨T, x, rfl, I.hok.fresh le, rfl, fun ys hy => by rw [I.tuple_inj hy hq]; exact hx⟩, ⟨⟨old2, g2⟩, s2, ne⟩, fun b hb => ?_⟩
    rw [upd_ne fun z => off (by rw [← z]; exact hb)]
    exact (hf b hb).1
  · rintro X rfl rfl rfl hc i pins s σ H E I hf ⟨⟨old, st⟩, si, ne⟩ ⟨xs, hq, hx⟩
    obtain ⟨its, rv, tp, -⟩ := I.tuple hq
    have tp : s.heap.IsTuple a its.toArray := tp
    obtain ⟨n1, n2⟩ := apart st si tp
    obtain rfl : i = its.toArray.size := by rw [List.size_toArray, ← rv.length]; exact hx.symm
    obtain ⟨f0, f1, f2, f3, f4, f5⟩ := hf it (by simp)
    exact wpAny_pyNext_enum_endD (prog := X.prog) (w := X.w) (Draws.tuple (A := X.A.in1) (by simp [I.ok.hd hc]) it a n1 its.toArray) st ⟨si, tp⟩ fun h' eb => ⟨rfl, I.turned (t' := s.toks) (fun b o hb q => eb b o hb q) f0 f1 f3 f4 f5⟩
def iEnumT (K : PySem.W.Frag) (ta : TA) : TI := fun σ H R => ta σ H fun vs H1 => ∃ a xs, vs = [.ref a] ∧ SqT K H1 a xs ∧ R (IteT K a) H1
theorem pi_enumT {X : Cx} {e : Expr} {ta : TA} {p pos tpos : Pos} {elts : List Expr} {kk : Nat} (hg : Gl X "enumerate") (hm : X.mg "enumerate" = none) (ha : PA X [e] ta) (hs : starEach [e] X.env = [(false, eval e X.env)] := by rfl) :
    PI X (.Tuple elts kk tpos) (.Call (.Name "enumerate" p) [e] [] pos) (iEnumT X.K ta) := by
  constructor
  intro pins s σ H R I h
  refine Call_ (ld_blt I hg hm boot_enumerate (PyProof.Rows.callWith_type1 (wpAny_mono (ha.run pos pins s σ H _ I h) (fun us s1 z => ?_) fun _ _ z => z) hs rfl))
  obtain ⟨vs, H1, J, r, a, xs, rfl, hq, q⟩ := z
  obtain ⟨its, -, tp, -⟩ := J.tuple hq
  obtain ⟨u, rfl, ru⟩ := one_val r
  obtain rfl : u = Value.ref a := ru
  have tp : s1.heap.IsTuple a its.toArray := tp
  refine call_enumB (begins_tuple a its.toArray) tp fun h' en it kp => wpAny_pyIter_enum en ?_
  have fp : ∀ b, s1.heap.objs.size ≤ b → _ := fun b hb => J.fpOk hb (J.hok.fresh hb)
  refine ⟨s1.heap.objs.size + 1, [s1.heap.objs.size + 1, s1.heap.objs.size], _, _, H1, rfl, J.kept (t' := s1.toks) kp, turn_enumT a _ _, ⟨⟨_, en⟩, ⟨_, it, rfl, rfl⟩, Nat.succ_ne_self _⟩, fun b hb => ?_, q⟩
  rcases List.mem_cons.mp hb with rfl | hb
  · exact fp _ (Nat.le_succ _)
  · exact List.mem_singleton.mp hb ▸ fp _ (Nat.le_refl _)
theorem walk_enumT {K : PySem.W.Frag} {a : Addr} {xs : List V} : Walk (IteT K a) xs.length (fun H => SqT K H a xs) (YPair (fun i => some (.int (i : Nat))) (fun i => xs[i]?)) := by
  refine ⟨fun i _ hi q => ⟨xs, xs[i], q, by simp [hi]⟩, fun _ q => ⟨xs, q, rfl⟩, fun i H v H' _ q y => ?_⟩
  obtain ⟨T, x, h1, h2, h3, h4⟩ := y
  exact ⟨T, .int (i : Nat), x, h1, h2, h3, rfl, h4 xs q⟩
def enumD (ds : List Dt) : List Dt := (List.range ds.length).map fun i => .tup [.int (i : Nat), ds.getD i .non]
theorem enumD_len (ds : List Dt) : (enumD ds).length = ds.length := by unfold enumD; rw [List.length_map, List.length_range]
theorem enumD_at {ds : List Dt} {i : Nat} {d : Dt} (h : ds[i]? = some d) : (enumD ds)[i]? = some (.tup [.int (i : Nat), d]) := by
  unfold enumD
  rw [List.getElem?_map, List.getElem?_range (List.getElem?_eq_some_iff.mp h).1]
  show some (Dt.tup [.int (i : Nat), ds.getD i .non]) = _
  rw [List.getD_eq_getElem?_getD, h]
  rfl
section
variable {K : PySem.W.Frag} {ρ : List Sl} {tr : TA} {pf : Bool} {Ψ : List Dt → List Sl → Prop}
theorem wi_enumT (h : Wa K pf tr ρ fun ds ρ1 => ∃ xs, ds = [.tup xs] ∧ Ψ (enumD xs) ρ1) : WI K pf (iEnumT K tr) ρ Ψ := fun M σ H S R q =>
  h M σ H S _ fun vs H1 ds ρ1 s1 S1 x1 ⟨xs, e, f⟩ => by
    subst e
    cases x1 with
    | cons x1 xn =>
      cases xn
      cases x1 with
      | tup hs ha =>
        refine ⟨_, _, rfl, same_T (cut_sub M H1) hs, q _ H1 _ ρ1 s1 S1 ⟨_, _, _, walk_enumT, by rw [enumD_len]; exact ha.len, fun M' H' s => same_T (cut_sub M' H') (same_T s hs), fun M' H' i x H'' s m hi y => ?_⟩ f⟩
        obtain ⟨T, y1, y2, e1, e2, e3, e4, e5⟩ := y
        cases e4
        obtain ⟨d, g1, g2⟩ := ha.get e5
        subst e1 e3
        exact ⟨same_new e2, _, enumD_at g1, dx_new_t m e2 (.cons (.int _) (.cons (g2.mono s) .nil))⟩
end
end DL

set_option maxHeartbeats 2000000
/-! Data level: comprehensions over pairs; isinstance of instances; == by own __eq__ over data; getters. -/
namespace DL
open PySem PySem.Spec PyProof.Rows L2
variable [Tb]
section
variable {K : PySem.W.Frag} {pf : Bool} {ρ : List Sl} {te : TE} {tt : TT} {wi : TI} {i j : Nat} {Φ : Dt → List Sl → Prop}
/-- [f(x, y) for x, y in .. if b(x, y)] -/
theorem w_lcP (ps : List (Dt × Dt)) (b : Dt → Dt → Bool) (f : Dt → Dt → Dt) (ei : ρ[i]? = some .any) (ej : ρ[j]? = some .any) (ne : i ≠ j) (h : WI K pf wi ρ fun ds ρ1 => ρ1 = ρ ∧ ds.length ≤ 50000 ∧ ds = ps.map (fun p => .tup [p.1, p.2]) ∧
      (∀ p ∈ ps, Wt K pf tt ((ρ.set i (.dat p.1)).set j (.dat p.2)) fun c ρ2 => c = b p.1 p.2 ∧ ρ2 = (ρ.set i (.dat p.1)).set j (.dat p.2)) ∧
      (∀ p ∈ ps, b p.1 p.2 = true → Wp K pf te ((ρ.set i (.dat p.1)).set j (.dat p.2)) fun y ρ3 => y = f p.1 p.2 ∧ ρ3 = (ρ.set i (.dat p.1)).set j (.dat p.2)) ∧ Φ (.lst ((ps.filter fun p => b p.1 p.2).map fun p => f p.1 p.2)) ρ) :
    Wp K pf (tLc wi (gTup K 2 (gCons (gName i) (gCons (gName j) gNil))) tt te [i, j]) ρ Φ := by
  refine w_lc (js := [i, j]) (fun _ z => z) fun M σ H S R q => h M σ H S R fun J H1 ds ρ1 s1 S1 w ⟨e1, hz, ed, ht, he, z⟩ => q J H1 ds ρ1 s1 S1 w ?_
  subst e1 ed
  have w0 : wipeS ρ1 [i, j] = ρ1 := by
    show (ρ1.set j .any).set i .any = ρ1
    have h1 : ρ1.set j .any = ρ1 := by
      have := set_any (s := .any) ej
      rw [List.set_set] at this
      exact this
    have h2 := set_any (s := .any) ei
    rw [List.set_set] at h2
    rw [h1, h2]
  have w1 : ∀ x y, wipeS ((ρ1.set i (.dat x)).set j (.dat y)) [i, j] = ρ1 := fun x y => by
    show (((ρ1.set i (.dat x)).set j (.dat y)).set j .any).set i .any = ρ1
    have h1 : ((ρ1.set i (.dat x)).set j (.dat y)).set j .any = ρ1.set i (.dat x) := set_any (by rw [List.getElem?_set_ne ne]; exact ej)
    rw [h1, set_any ei]
  refine ⟨⟨fun k acc ρ2 => ρ2 = ρ1 ∧ acc = ((ps.take k).filter fun p => b p.1 p.2).map fun p => f p.1 p.2, ⟨w0, rfl⟩, hz, fun k d acc ρ2 hd ⟨e2, ea⟩ => ?_, fun acc ρ2 ⟨e2, ea⟩ => ?_⟩⟩
  · subst e2 ea
    rw [List.getElem?_map] at hd
    obtain ⟨p, hp, rfl⟩ := Option.map_eq_some_iff.mp hd
    have hm := List.mem_of_getElem? hp
    have tk : ps.take (k + 1) = ps.take k ++ [p] := by rw [List.take_add_one, hp]; rfl
    refine wg_tup (js := [i, j]) rfl (wgs_cons (js := [i]) (ks := [j]) (wg_name (wgs_cons (js := [j]) (ks := []) (wg_name (wgs_nil ((ht p hm).imp fun c ρ4 ⟨ec, e4⟩ => ?_))))))
    subst e4
    cases c with
    | true =>
      rw [if_pos rfl]
      refine (he p hm ec.symm).imp fun y ρ5 ⟨ey, e5⟩ => ?_
      subst e5 ey
      refine ⟨w1 _ _, ?_⟩
      rw [tk, List.filter_append, List.map_append]
      show _ = _ ++ List.map (fun p => f p.1 p.2) (List.filter (fun p => b p.1 p.2) [p])
      rw [List.filter_cons, if_pos ec.symm]
      rfl
    | false =>
      rw [if_neg Bool.false_ne_true]
      refine ⟨w1 _ _, ?_⟩
      rw [tk, List.filter_append, List.map_append]
      show _ = _ ++ List.map (fun p => f p.1 p.2) (List.filter (fun p => b p.1 p.2) [p])
      rw [List.filter_cons, if_neg (by rw [← ec]; exact Bool.false_ne_true)]
      simp
  · subst e2 ea
    rw [List.length_map, List.take_length]
    exact z
end
/-- what isinstance asks of an own class -/
structure IsiC (K : PySem.W.Frag) (C : Addr) : Prop where
  cl : Cls K C
  ha : PySem.W.findIn K (.ref C) "__class__" = some (some (.builtin "object.__class__"))
  hn : PySem.W.specialIn K (.builtin "object.__class__") "__get__" = some (some (.builtin "getset_descriptor.__get__"))
  htk : PySem.W.takesIn K (.builtin "object.__class__") = some true
  hm : PySem.W.mroIn K C (.type "object") = some true
section
variable {K : PySem.W.Frag} {Ψ : Dt → Prop} {C a : Addr} {ns : List Str} {es : List Dt} {pf : Bool} {ρ : List Sl} {Φ : Dt → List Sl → Prop}
theorem tyI {M : Md} {H : Hp} {v : V} (T : IsiC K C) (x : DX K (cut M H) v (.ins C a ns es)) : TyX K H v (.ref C) := by
  cases x with
  | ins hs hl ha => exact .base (.ins (cut_of hs).2 T.cl T.ha T.hn T.htk T.hm)
theorem rd_isiI {D : Addr} {b : Bool} (T : IsiC K C) (e : PySem.W.kitOne K (.ref C) (.ref D) = some b) (h : Ψ (.bl b)) : RD K (rIsi K) [.ins C a ns es, .cls D] Ψ := fun M H vs m xx Q q => by
  obtain ⟨v, w, rfl, x1, x2⟩ := two_v xx
  cases x2
  exact ⟨v, .ref D, _, _, b, rfl, .own D, tyI T x1, e, q _ H _ (Same.refl H) (.bl _) h⟩
theorem rd_isiO {D : Addr} {b : Bool} {d : Dt} (hd : kitD d = true) (e : PySem.W.kitOne K (.type (tyD d)) (.ref D) = some b) (h : Ψ (.bl b)) : RD K (rIsi K) [d, .cls D] Ψ := fun M H vs m xx Q q => by
  obtain ⟨v, w, rfl, x1, x2⟩ := two_v xx
  cases x2
  exact ⟨v, .ref D, _, _, b, rfl, .own D, tyX_of x1 (noTy_ne hd), e, q _ H _ (Same.refl H) (.bl _) h⟩
theorem od_ownL {W : List Dt → (Dt → Prop) → Prop} {d : Dt} {t : Value} {neg : Bool} (ht : ∀ M H y, DX K (cut M H) y d → TyX K H y t) (hn : PySem.W.notFirst K C t = true) (w : W [.ins C a ns es, d] fun z => ∃ b, z = .bl b ∧ Ψ (.bl (neg ^^ b))) :
    OD K (rOwnL K neg C (spP K W)) (.ins C a ns es) d Ψ := fun M H x y m h1 h2 Q q => by
  have ec : ∀ H', cut M.callP H' = cut M H' := cut_congr M.callP_has
  have key : spP K W [x, y] H (fun v H' => ∃ k, v = .bl k ∧ Q (.bl (neg ^^ k)) H') L2.E0 := ⟨M.callP, [_, _], _, rfl, rfl, m.callP, by rw [ec]; exact .cons h1 (.one h2), w, fun v H2 z e x ⟨b, ez, f⟩ => by
    subst ez
    exact ⟨b, x.bl_eq, q _ H2 _ e (.bl _) f⟩⟩
  have ty := ht M H y h2
  cases h1 with
  | ins hs hl ha => exact ⟨a, _, _, t, rfl, (cut_of hs).2, ty, hn, key⟩
theorem od_ownR {W : List Dt → (Dt → Prop) → Prop} {D b : Addr} {ms : List Str} {fs : List Dt} {neg : Bool} (ne : C ≠ D) (hs : PySem.W.subIn K (.ref D) (.ref C) = some true) (w : W [.ins D b ms fs, .ins C a ns es] fun z => ∃ b, z = .bl b ∧ Ψ (.bl (neg ^^ b))) :
    OD K (rOwnR K neg C D (spP K W)) (.ins C a ns es) (.ins D b ms fs) Ψ := fun M H x y m h1 h2 Q q => by
  have ec : ∀ H', cut M.callP H' = cut M H' := cut_congr M.callP_has
  have key : spP K W [y, x] H (fun v H' => ∃ k, v = .bl k ∧ Q (.bl (neg ^^ k)) H') L2.E0 := ⟨M.callP, [_, _], _, rfl, rfl, m.callP, by rw [ec]; exact .cons h2 (.one h1), w, fun v H2 z e x ⟨b, ez, f⟩ => by
    subst ez
    exact ⟨b, x.bl_eq, q _ H2 _ e (.bl _) f⟩⟩
  cases h1 with
  | ins h1 _ _ =>
    cases h2 with
    | ins h2 _ _ => exact ⟨a, b, _, _, _, _, rfl, rfl, (cut_of h1).2, (cut_of h2).2, ne, hs, key⟩
end
/-! ### getters -/
section
variable {P : Program} {w : World} {K : PySem.W.Frag} {mg : Str → Option Value} {base : Heap} {C f : Addr} {fd : FuncData} {st : Stmt} {qual x : Str} {p1 p2 p3 : Pos}
theorem ok_getF {fl : Str} (F : Fun K x qual st f fd) (S : FnScope ["self"] ["self"] (defScope st)) (hb : defBody st = [.Return (some (.Attribute (.Name "self" p1) fl p2)) p3]) (hv : (defScope st).names.lookup ("self" : Str) = some NameKind.local) (c : Cls K C) (nF : NoAttr K C fl) :
    FnOk P w K mg base CX0 1 f fd ["self"] (spP K fun ds Φ => ∃ a ns es d, ds = [.ins C a ns es] ∧ look ns es fl = some d ∧ Φ d) := by
  refine defP0 F S (fun ds Φ ⟨a, ns, es, d, e, _⟩ => by rw [e]; rfl) (by decide) fun cdv A outer s H E hr => ?_
  rw [hb]
  refine ⟨_, pss_one (ps_ret (pe_fld (pv 0 (hv := .inl hv)) rfl)), ?_⟩
  rintro ds Φ ⟨a, ns, es, d, rfl, l, q⟩
  exact ws_ret (pf := true) <| w_fld c nF <| w_var rfl ⟨a, _, _, d, rfl, l, q⟩
theorem ok_getN {q0 : Pos} {kd : Option Nat} (F : Fun K x qual st f fd) (S : FnScope ["self"] ["self"] (defScope st)) (hb : ∃ e, defBody st = [.Return (some e) p3] ∧ e = .Constant .none 0 q0) :
    FnOk P w K mg base CX0 1 f fd ["self"] (spP K fun ds Φ => ∃ d, ds = [d] ∧ Φ .non) := by
  obtain ⟨e, hb, rfl⟩ := hb
  refine defP0 F S (fun ds Φ ⟨d, e, _⟩ => by rw [e]; rfl) (by decide) fun cdv A outer s H E hr => ?_
  rw [hb]
  refine ⟨_, pss_one (ps_ret pe_non), ?_⟩
  rintro ds Φ ⟨d, rfl, q⟩
  exact ws_ret (pf := true) <| w_c (fun _ => .non) q
end
end DL

/-! Data level: dicts walked by their keys, values, pairs. -/
namespace DL
open PySem PySem.Spec PyProof.Rows L2
variable [Tb]

/-! ### a dict locked or not: data stay what they are -/
structure Lk (a : Addr) (vs : List (Key × V)) (H H' : Hp) : Prop where
  off : ∀ b, b ≠ a → H' b = H b
  here : Rd H a (.dK vs)
  there : Rd H' a (.dK vs)
theorem Lk.symm {a : Addr} {vs : List (Key × V)} {H H' : Hp} (l : Lk a vs H H') : Lk a vs H' H := ⟨fun b n => (l.off b n).symm, l.there, l.here⟩
theorem Lk.at {a b : Addr} {vs : List (Key × V)} {H H' : Hp} {o : HO} (l : Lk a vs H H') (h : H b = some o) (n1 : o ≠ .dK vs) (n2 : ∀ x, o ≠ .frz x (.dK vs)) : H' b = some o := by
  by_cases e : b = a
  · subst e
    rcases l.here with z | ⟨x, z⟩
    · rw [h] at z; exact absurd (Option.some.inj z) n1
    · rw [h] at z; exact absurd (Option.some.inj z) (n2 x)
  · rw [l.off b e]; exact h
theorem Lk.rd {a b : Addr} {vs kvs : List (Key × V)} {H H' : Hp} (l : Lk a vs H H') (h : Rd H b (.dK kvs)) : Rd H' b (.dK kvs) := by
  by_cases e : b = a
  · subst e
    have ev : kvs = vs := by
      rcases l.here with z | ⟨x, z⟩ <;> rcases h with y | ⟨w, y⟩ <;> rw [y] at z <;> cases z <;> rfl
    rw [ev]; exact l.there
  · rcases h with y | ⟨w, y⟩
    · exact .inl (by rw [l.off b e]; exact y)
    · exact .inr ⟨w, by rw [l.off b e]; exact y⟩
section
variable {K : PySem.W.Frag} {H H' : Hp} {a : Addr} {ws : List (Key × V)}
theorem Lk.sqL {b : Addr} {xs : List V} (l : Lk a ws H H') (h : SqL K H b xs) : SqL K H' b xs := by
  rcases h with (h | ⟨o, h⟩) | h
  · exact .inl (.inl (l.at h (fun z => nomatch z) (fun _ z => nomatch z)))
  · exact .inl (.inr ⟨o, l.at h (fun z => nomatch z) (fun _ z => nomatch z)⟩)
  · exact .inr h
theorem Lk.sqT {b : Addr} {xs : List V} (l : Lk a ws H H') (h : SqT K H b xs) : SqT K H' b xs := by
  rcases h with (h | ⟨o, h⟩) | h
  · exact .inl (.inl (l.at h (fun z => nomatch z) (fun _ z => nomatch z)))
  · exact .inl (.inr ⟨o, l.at h (fun z => nomatch z) (fun _ z => nomatch z)⟩)
  · exact .inr h
mutual
theorem DX.lk (l : Lk a ws H H') : ∀ {d : Dt} {v : V}, DX K H v d → DX K H' v d
  | .non, _, h => by cases h; exact .non
  | .bl _, _, h => by cases h; exact .bl _
  | .int _, _, h => by cases h; exact .int _
  | .str _, _, h => by cases h; exact .str _
  | .ty _, _, h => by cases h; exact .ty _
  | .lst ds, _, h => by
    cases h with
    | lst hs ha => exact .lst (l.sqL hs) (DXs.lk l (ds := ds) ha)
  | .tup ds, _, h => by
    cases h with
    | tup hs ha => exact .tup (l.sqT hs) (DXs.lk l (ds := ds) ha)
  | .dct _ ds, _, h => by
    cases h with
    | dct hs ha => exact .dct (l.rd hs) (DXk.lk l (ds := ds) ha)
  | .ins _ _ _ ds, _, h => by
    cases h with
    | ins hs hl ha => exact .ins (l.at hs (fun z => nomatch z) (fun _ z => nomatch z)) hl (DXs.lk l (ds := ds) ha)
  | .cls _, _, h => by cases h; exact .cls _
  | .exc _ _ _ ds, _, h => by
    cases h with
    | exc hs hd hl ha => exact .exc (l.at hs (fun z => nomatch z) (fun _ z => nomatch z)) (l.at hd (fun z => nomatch z) (fun _ z => nomatch z)) hl (DXs.lk l (ds := ds) ha)
    | exc0 hs => exact .exc0 (l.at hs (fun z => nomatch z) (fun _ z => nomatch z))
theorem DXs.lk (l : Lk a ws H H') : ∀ {ds : List Dt} {vs : List V}, DXs K H vs ds → DXs K H' vs ds
  | [], _, h => by cases h; exact .nil
  | d :: ds, _, h => by
    cases h with
    | cons h1 h2 => exact .cons (DX.lk l (d := d) h1) (DXs.lk l (ds := ds) h2)
theorem DXk.lk (l : Lk a ws H H') : ∀ {ds : List (Key × Dt)} {vs : List (Key × V)}, DXk K H vs ds → DXk K H' vs ds
  | [], _, h => by cases h; exact .nil
  | (k, d) :: ds, _, h => by
    cases h with
    | cons h1 h2 => exact .cons (DX.lk l (d := d) h1) (DXk.lk l (ds := ds) h2)
end
end
theorem Lk.cut {a : Addr} {ws : List (Key × V)} {M : Md} {H H' : Hp} (l : Lk a ws H H') (n : ¬ M.has a) : Lk a ws (DL.cut M H) (DL.cut M H') := by
  refine ⟨fun b e => ?_, ?_, ?_⟩
  · unfold DL.cut
    rw [l.off b e]
  · rcases l.here with z | ⟨x, z⟩
    · exact .inl (cut_at n z)
    · exact .inr ⟨x, cut_at n z⟩
  · rcases l.there with z | ⟨x, z⟩
    · exact .inl (cut_at n z)
    · exact .inr ⟨x, cut_at n z⟩
section
variable {K : PySem.W.Frag} {M : Md} {H H' : Hp} {σ : L2.St} {ρ : List Sl} {a : Addr} {ws : List (Key × V)}
theorem Sd.lk (S : Sd K M H σ ρ) (l : Lk a ws H H') (n : ¬ M.has a) : Sd K M H' σ ρ := by
  have ne : ∀ b, M.has b → b ≠ a := fun b hb e => n (e ▸ hb)
  have lc := l.cut n
  refine ⟨S.len, S.olen, ⟨fun b hb => by rw [l.off b (ne b hb)]; exact S.mok.live b hb, S.mok.pF, S.mok.FO, S.mok.nd, fun t ht => ?_⟩, fun i s h => ?_⟩
  · have ha : M.inP t.1 := .inr ⟨t, ht, rfl⟩
    obtain ⟨ps, z1, z2, z3⟩ := S.mok.tb t ht
    refine ⟨ps, by rw [l.off _ (ne _ (.inl ha))]; exact z1, z2, fun pos cv hc => ?_⟩
    obtain ⟨c, e1, e2⟩ := z3 pos cv hc
    refine ⟨c, e1, ?_⟩
    have nca : c ≠ a := fun e => by
      have q := (cut_of e2).2
      rw [e] at q
      rcases l.here with w | ⟨x, w⟩ <;> rw [w] at q <;> cases q
    rw [lc.off c nca]; exact e2
  obtain ⟨o, h1, h2⟩ := S.ok i s h
  refine ⟨o, h1, ?_⟩
  have hO : ∀ {j : Nat} {b : Addr}, M.O[j]? = some (some b) → M.has b := fun e => .inr (.inr (List.mem_of_getElem? e))
  cases s with
  | any => trivial
  | dat d => obtain ⟨v, a1, a2⟩ := h2; exact ⟨v, a1, a2.lk lc⟩
  | val u d => obtain ⟨a1, a2⟩ := h2; exact ⟨a1, a2.lk lc⟩
  | own es => obtain ⟨l', vs', a1, a2, a3, a4⟩ := h2; exact ⟨l', vs', a1, a2, by rw [l.off _ (ne _ (hO a2))]; exact a3, a4.lk lc⟩
  | obj C0 b0 ns0 es => obtain ⟨l', dx0, vs', a1, a2, a3, a5, a4⟩ := h2; exact ⟨l', dx0, vs', a1, a2, by rw [l.off _ (ne _ (hO a2))]; exact a3, a5, a4.lk lc⟩
  | ownd es => obtain ⟨l', vs', a1, a2, a3, a4⟩ := h2; exact ⟨l', vs', a1, a2, by rw [l.off _ (ne _ (hO a2))]; exact a3, a4.lk lc⟩
  | pen m =>
    obtain ⟨p', a1, a2, l', ns, c, g, b1, b2, b3⟩ := h2
    exact ⟨p', a1, a2, l', ns, c, g, by rw [l.off _ (ne _ (.inl (.inl a2)))]; exact b1, lc.sqL b2, b3⟩
  | pown es => obtain ⟨p', vs', a1, a2, a3, a4⟩ := h2; exact ⟨p', vs', a1, a2, by rw [l.off _ (ne _ (.inl (.inl a2)))]; exact a3, a4.lk lc⟩
theorem lk_in {o : Obj} (h : H a = some (.dK ws)) : Lk a ws H (upd H a (.frz o (.dK ws))) := ⟨fun b e => upd_ne e, .inl h, .inr ⟨o, upd_same⟩⟩
theorem lk_out {o : Obj} (h : H a = some (.frz o (.dK ws))) : Lk a ws H (upd H a (.dK ws)) := ⟨fun b e => upd_ne e, .inr ⟨o, h⟩, .inl upd_same⟩
/-- from the locked heap's step to the plain heap's -/
theorem Stp.lk {M' : Md} {H2 : Hp} {o : Obj} (h : H a = some (.dK ws)) (n : ¬ M.has a) (s : Stp M (upd H a (.frz o (.dK ws))) M' H2) : H2 a = some (.frz o (.dK ws)) ∧ ¬ M'.has a ∧ Stp M H M' (upd H2 a (.dK ws)) := by
  obtain ⟨h1, h2⟩ := s.keep a _ upd_same (fun z => n (.inl z)) (fun z => n (.inr (.inr z)))
  refine ⟨h1, fun z => ?_, s.p, s.F, fun b u e c d => ?_⟩
  · rcases z with z | z | z
    · exact n (.inl ((s.inP a).mp z))
    · exact n (.inr (.inl (by rw [← s.F]; exact z)))
    · exact h2 z
  · by_cases eb : b = a
    · subst eb
      rw [h] at e
      exact ⟨by rw [upd_same]; exact e, h2⟩
    · obtain ⟨z1, z2⟩ := s.keep b u (by rw [upd_ne eb]; exact e) c d
      exact ⟨by rw [upd_ne eb]; exact z1, z2⟩
theorem Tr.lk {pf : Bool} {H2 : Hp} {o : Obj} (h : H a = some (.dK ws)) (n : ¬ M.has a) (s : Tr pf M (upd H a (.frz o (.dK ws))) H2) : Tr pf M H (upd H2 a (.dK ws)) :=
  ⟨(Stp.lk h n s.st).2.2, fun e b u z => by
    by_cases eb : b = a
    · subst eb
      rw [upd_same, ← h]; exact z
    · rw [upd_ne eb]
      exact s.sm e b u (by rw [upd_ne eb]; exact z)⟩
end

/-! ### the reading while the dict in slot i is locked -/
/-- te read where the dict at a is locked -/
def WpK (K : PySem.W.Frag) (f : Bool) (a : Addr) (kvs : List (Key × Dt)) (te : TE) (ρ : List Sl) (Φ : Dt → List Sl → Prop) : Prop :=
  ∀ (M : Md) (σ : L2.St) (H : Hp), Sd K M H σ ρ → ¬ M.has a → (∃ o vs, H a = some (.frz o (.dK vs)) ∧ DXk K (cut M H) vs kvs) → ∀ Q : VK, (∀ v H2 d ρ', Tr f M H H2 → Sd K M H2 σ ρ' → DX K (cut M H2) v d → Φ d ρ' → Q v H2) → te σ H Q
section
variable {K : PySem.W.Frag} {pf : Bool} {ρ : List Sl} {te : TE} {tt : TT} {wi : TI} {g : TG} {i : Nat} {a : Addr} {kvs : List (Key × Dt)} {Φ : Dt → List Sl → Prop} {js : List Nat} {D : DE} {t : TS}
theorem w_lock (hs : ρ[i]? = some (.dat (.dct a kvs))) (h : WpK K pf a kvs te ρ Φ) : Wp K pf (tOr2 (tLockE te) te) ρ Φ := fun M σ H S Q q => by
  obtain ⟨v, e, v', e', x⟩ := S.ok i _ hs
  cases x with
  | @dct _ vs _ hr ha =>
    obtain ⟨n, hr'⟩ := cut_Rd hr
    rcases hr' with z | ⟨o, z⟩
    · refine .inl ⟨a, .dK vs, z, trivial, fun od => ?_⟩
      have l := lk_in (o := od) z
      refine h M σ _ (S.lk l n) n ⟨od, vs, upd_same, ha.lk (l.cut n)⟩ _ fun v H2 d ρ' s S2 x f => ?_
      obtain ⟨h1, h2, h3⟩ := Stp.lk z n s.st
      have l2 := lk_out h1
      exact ⟨h1, q v _ d ρ' (Tr.lk z n s) (S2.lk l2 h2) (x.lk (l2.cut h2)) f⟩
    · exact .inr (h M σ H S n ⟨o, vs, z, ha⟩ Q q)
/-- the keys of a dict as data -/
def keyD : Key → Dt
  | .inl n => .int n
  | .inr s => .str s
def keysD (kvs : List (Key × Dt)) : List Dt := kvs.map fun kv => keyD kv.1
def valsD (kvs : List (Key × Dt)) : List Dt := kvs.map (·.2)
def itemsD (kvs : List (Key × Dt)) : List Dt := kvs.map fun kv => .tup [keyD kv.1, kv.2]
theorem keyD_dx {H : Hp} (k : Key) : DX K H (kV k) (keyD k) := by
  cases k with
  | inl n => exact .int n
  | inr s => exact .str s
theorem DXk.at {H : Hp} {k : Key} {v : V} : ∀ {ds : List (Key × Dt)} {vs : List (Key × V)} {j : Nat}, DXk K H vs ds → vs[j]? = some (k, v) → ∃ d, ds[j]? = some (k, d) ∧ DX K H v d
  | [], _, j, h, e => by cases h; simp at e
  | (k', d) :: ds, _, 0, h, e => by
    cases h with
    | cons h1 h2 =>
      simp at e
      obtain ⟨rfl, rfl⟩ := e
      exact ⟨d, rfl, h1⟩
  | (k', d) :: ds, _, j + 1, h, e => by
    cases h with
    | cons h1 h2 =>
      obtain ⟨d', e', x⟩ := DXk.at (j := j) h2 (by simpa using e)
      exact ⟨d', by simpa using e', x⟩
theorem wk_keys {M : Md} {H : Hp} {o : Obj} {vs : List (Key × V)} (n : ¬ M.has a) (hz : H a = some (.frz o (.dK vs))) (ha : DXk K (cut M H) vs kvs) : WkOk K M H (Itk a o vs) (keysD kvs) := by
  refine ⟨vs.length, _, _, walk_keys, ?_, fun M' H' s => (cut_of (s a _ (cut_at n hz))).2, fun M' H' j x H'' s m hj y => ?_⟩
  · unfold keysD; rw [List.length_map]; exact ha.len
  · obtain ⟨rfl, k, v, hk, rfl⟩ := y
    obtain ⟨d, hd, _⟩ := ha.at hk
    exact ⟨Same.refl _, keyD k, by unfold keysD; rw [List.getElem?_map, hd]; rfl, keyD_dx k⟩
theorem wk_vals {M : Md} {H : Hp} {o : Obj} {vs : List (Key × V)} (n : ¬ M.has a) (hz : H a = some (.frz o (.dK vs))) (ha : DXk K (cut M H) vs kvs) : WkOk K M H (Itd a o vs) (valsD kvs) := by
  refine ⟨vs.length, _, _, walk_values, ?_, fun M' H' s => (cut_of (s a _ (cut_at n hz))).2, fun M' H' j x H'' s m hj y => ?_⟩
  · unfold valsD; rw [List.length_map]; exact ha.len
  · obtain ⟨rfl, k, hk⟩ := y
    obtain ⟨d, hd, xd⟩ := ha.at hk
    exact ⟨Same.refl _, d, by unfold valsD; rw [List.getElem?_map, hd]; rfl, xd.mono s⟩
theorem wk_items {M : Md} {H : Hp} {o : Obj} {vs : List (Key × V)} (n : ¬ M.has a) (hz : H a = some (.frz o (.dK vs))) (ha : DXk K (cut M H) vs kvs) : WkOk K M H (Iti a o vs) (itemsD kvs) := by
  refine ⟨vs.length, _, _, walk_items, ?_, fun M' H' s => (cut_of (s a _ (cut_at n hz))).2, fun M' H' j x H'' s m hj y => ?_⟩
  · unfold itemsD; rw [List.length_map]; exact ha.len
  · obtain ⟨T, p, r, rfl, hT, rfl, h1, h2⟩ := y
    dsimp only at h1 h2
    cases hv : vs[j]? with
    | none => rw [hv] at h1; cases h1
    | some kv =>
      obtain ⟨k, v⟩ := kv
      rw [hv] at h1 h2
      cases h1
      cases h2
      obtain ⟨d, hd, xd⟩ := ha.at hv
      have sn : Same H' (upd H' T (.tup [kV k, v])) := same_new hT
      exact ⟨sn, .tup [keyD k, d], by unfold itemsD; rw [List.getElem?_map, hd]; rfl, dx_new_t m hT (.cons (keyD_dx k) (.cons (xd.mono s) .nil))⟩
/-- [.. for k in d], d in slot i -/
theorem w_lcKeys {vs : List Nat} (hs : ρ[i]? = some (.dat (.dct a kvs))) (hjs : ∀ j ∈ js, j ∈ vs) (h : LcI K pf g js tt te vs (fun es ρ' => Φ (.lst es) ρ') (keysD kvs) ρ) :
    Wp K pf (tOr2 (tLockE (tLc (iKeys (tVar i)) g tt te vs)) (tLc (iKeys (tVar i)) g tt te vs)) ρ Φ :=
  w_lock hs fun M σ H S n ⟨o, ws, hz, ha⟩ Q q => by
    obtain ⟨v, e, v', e', x⟩ := S.ok i _ hs
    subst e'
    cases x with
    | dct hr _ =>
      refine lc_at hjs M σ H (fun R r => ⟨_, e, a, o, rfl, .inl ⟨ws, hz, r _ H _ ρ (Tr.refl pf M H) S (wk_keys n hz ha) h⟩⟩) Q fun q0 H2 acc ads ρ0 h0 tr hD xa S2 nq f => ?_
      exact q (.ref q0) H2 (.lst ads) _ tr S2.back (.lst (.inl (.inl (cut_at nq hD))) (xa.mono (cut_le has_aside))) f
/-- [.. for x in d.values()] -/
theorem w_lcVals {vs : List Nat} (hs : ρ[i]? = some (.dat (.dct a kvs))) (hjs : ∀ j ∈ js, j ∈ vs) (h : LcI K pf g js tt te vs (fun es ρ' => Φ (.lst es) ρ') (valsD kvs) ρ) :
    Wp K pf (tOr2 (tLockE (tLc (iVals (tVar i)) g tt te vs)) (tLc (iVals (tVar i)) g tt te vs)) ρ Φ :=
  w_lock hs fun M σ H S n ⟨o, ws, hz, ha⟩ Q q => by
    obtain ⟨v, e, v', e', x⟩ := S.ok i _ hs
    subst e'
    cases x with
    | dct hr _ =>
      refine lc_at hjs M σ H (fun R r => ⟨_, e, a, o, ws, rfl, hz, r _ H _ ρ (Tr.refl pf M H) S (wk_vals n hz ha) h⟩) Q fun q0 H2 acc ads ρ0 h0 tr hD xa S2 nq f => ?_
      exact q (.ref q0) H2 (.lst ads) _ tr S2.back (.lst (.inl (.inl (cut_at nq hD))) (xa.mono (cut_le has_aside))) f
/-- [.. for k, x in d.items()] -/
theorem w_lcItems {vs : List Nat} (hs : ρ[i]? = some (.dat (.dct a kvs))) (hjs : ∀ j ∈ js, j ∈ vs) (h : LcI K pf g js tt te vs (fun es ρ' => Φ (.lst es) ρ') (itemsD kvs) ρ) :
    Wp K pf (tOr2 (tLockE (tLc (iItems (tVar i)) g tt te vs)) (tLc (iItems (tVar i)) g tt te vs)) ρ Φ :=
  w_lock hs fun M σ H S n ⟨o, ws, hz, ha⟩ Q q => by
    obtain ⟨v, e, v', e', x⟩ := S.ok i _ hs
    subst e'
    cases x with
    | dct hr _ =>
      refine lc_at hjs M σ H (fun R r => ⟨_, e, a, o, ws, rfl, hz, r _ H _ ρ (Tr.refl pf M H) S (wk_items n hz ha) h⟩) Q fun q0 H2 acc ads ρ0 h0 tr hD xa S2 nq f => ?_
      exact q (.ref q0) H2 (.lst ads) _ tr S2.back (.lst (.inl (.inl (cut_at nq hD))) (xa.mono (cut_le has_aside))) f
end
/-! ### for over a dict -/
def tOrS (t1 t2 : TS) : TS := fun D σ H => t1 D σ H ∨ t2 D σ H
theorem ps_or2 {X : Cx} {st : Stmt} {t1 t2 : TS} (h1 : PS X st t1) (h2 : PS X st t2) : PS X st (tOrS t1 t2) := ⟨fun pins s σ H D I q => q.elim (h1.run pins s σ H D I) (h2.run pins s σ H D I)⟩
section
variable {K : PySem.W.Frag} {pf : Bool} {ρ : List Sl} {te : TE} {g : TG} {i : Nat} {a : Addr} {kvs : List (Key × Dt)} {js : List Nat} {D : DE} {t : TS}
theorem ws_lock (hx : ∀ C ns es, ¬ D.xd C ns es) (hs : ρ[i]? = some (.dat (.dct a kvs)))
    (h : ∀ (M : Md) (σ : L2.St) (H : Hp), Sd K M H σ ρ → ¬ M.has a → (∃ o vs, H a = some (.frz o (.dK vs)) ∧ DXk K (cut M H) vs kvs) → ∀ E, EOk K M H E D → t E σ H) : Ws K (tOrS (tLock t) t) ρ D := fun M σ H S E k => by
  obtain ⟨v, e, v', e', x⟩ := S.ok i _ hs
  cases x with
  | @dct _ vs _ hr ha =>
    obtain ⟨n, hr'⟩ := cut_Rd hr
    rcases hr' with z | ⟨o, z⟩
    · refine .inl ⟨a, .dK vs, z, trivial, fun od => ?_⟩
      have l := lk_in (o := od) z
      have fin : ∀ {M' : Md} {H2 : Hp} {σ' : L2.St} {ρ' : List Sl}, Stp M (upd H a (.frz od (.dK vs))) M' H2 → Sd K M' H2 σ' ρ' → H2 a = some (.frz od (.dK vs)) ∧ Stp M H M' (upd H2 a (.dK vs)) ∧ Sd K M' (upd H2 a (.dK vs)) σ' ρ' ∧ Lk a vs (cut M' H2) (cut M' (upd H2 a (.dK vs))) := fun s S2 => by
        obtain ⟨h1, h2, h3⟩ := Stp.lk z n s
        exact ⟨h1, h3, S2.lk (lk_out h1) h2, (lk_out h1).cut h2⟩
      refine h M σ _ (S.lk l n) n ⟨od, vs, upd_same, ha.lk (l.cut n)⟩ _ ⟨fun M' σ' H' ρ' s S2 f => ?_, fun M' v H' d ρ' σ' s S2 x f => ?_, fun M' σ' H' ρ' s S2 f => ?_, fun M' σ' H' ρ' s S2 f => ?_, fun M' H' C dd ns us es s _ _ _ _ f => (hx C ns es f).elim⟩
      · obtain ⟨h1, s1, S3, _⟩ := fin s S2; exact ⟨h1, k.nx M' σ' _ ρ' s1 S3 f⟩
      · obtain ⟨h1, s1, S3, lc⟩ := fin s S2; exact ⟨h1, k.rt M' v _ d ρ' σ' s1 S3 (x.lk lc) f⟩
      · obtain ⟨h1, s1, S3, _⟩ := fin s S2; exact ⟨h1, k.bk M' σ' _ ρ' s1 S3 f⟩
      · obtain ⟨h1, s1, S3, _⟩ := fin s S2; exact ⟨h1, k.ct M' σ' _ ρ' s1 S3 f⟩
    · exact .inr (h M σ H S n ⟨o, vs, z, ha⟩ E k)
/-- for k in d: .. -/
theorem ws_forKeys (hx : ∀ C ns es, ¬ D.xd C ns es) (hs : ρ[i]? = some (.dat (.dct a kvs))) (I : Nat → List Sl → Prop) (i0 : I 0 ρ)
    (turn : ∀ j d ρ2, (keysD kvs)[j]? = some d → I j ρ2 → WG K g js d ρ2 fun ρ3 => Ws K t ρ3 { D with nx := I (j + 1), ct := I (j + 1), bk := D.nx }) (fin : ∀ ρ2, I kvs.length ρ2 → D.nx ρ2) :
    Ws K (tOrS (tLock (tFor (iKeys (tVar i)) g t)) (tFor (iKeys (tVar i)) g t)) ρ D :=
  ws_lock hx hs fun M σ H S n ⟨o, ws, hz, ha⟩ E k => by
    obtain ⟨v, e, v', e', x⟩ := S.ok i _ hs
    subst e'
    cases x with
    | dct hr _ =>
      exact for_at (pf := false) (fun _ j ρ2 => I j ρ2) M σ H (fun R r => ⟨_, e, a, o, rfl, .inl ⟨ws, hz, r _ H _ ρ (Tr.refl false M H) S (wk_keys n hz ha) ⟨i0, turn, fun ρ2 z => fin ρ2 (by
        have el : (keysD kvs).length = kvs.length := List.length_map ..
        rw [el] at z; exact z)⟩⟩⟩) E k
/-- for k, x in d.items(): .. -/
theorem ws_forItems (hx : ∀ C ns es, ¬ D.xd C ns es) (hs : ρ[i]? = some (.dat (.dct a kvs))) (I : Nat → List Sl → Prop) (i0 : I 0 ρ)
    (turn : ∀ j d ρ2, (itemsD kvs)[j]? = some d → I j ρ2 → WG K g js d ρ2 fun ρ3 => Ws K t ρ3 { D with nx := I (j + 1), ct := I (j + 1), bk := D.nx }) (fin : ∀ ρ2, I kvs.length ρ2 → D.nx ρ2) :
    Ws K (tOrS (tLock (tFor (iItems (tVar i)) g t)) (tFor (iItems (tVar i)) g t)) ρ D :=
  ws_lock hx hs fun M σ H S n ⟨o, ws, hz, ha⟩ E k => by
    obtain ⟨v, e, v', e', x⟩ := S.ok i _ hs
    subst e'
    cases x with
    | dct hr _ =>
      exact for_at (pf := false) (fun _ j ρ2 => I j ρ2) M σ H (fun R r => ⟨_, e, a, o, ws, rfl, hz, r _ H _ ρ (Tr.refl false M H) S (wk_items n hz ha) ⟨i0, turn, fun ρ2 z => fin ρ2 (by
        have el : (itemsD kvs).length = kvs.length := List.length_map ..
        rw [el] at z; exact z)⟩⟩) E k
end
end DL

/-! Data level: sums, sorted of any data, list(d.values()), list(d.items()). -/
namespace DL
open PySem PySem.Spec PyProof.Rows L2
variable [Tb]

/-! ### sum of a list or a tuple of ints -/
def rSum2 (K : PySem.W.Frag) : List V → Hp → VK → Prop := fun xs H Q => ∃ (a : Addr) (ns : List Int), xs = [.ref a] ∧ (SqL K H a (ns.map V.int) ∨ SqT K H a (ns.map V.int)) ∧ Q (.int ns.sum) H
theorem sumK {X : Cx} (K : PySem.W.Frag) (e : X.K = K) (hc : X.calm = true) : CallR X (.builtin "sum") (rSum2 K) := by
  subst e
  rintro pins s σ H xs us Q I r ⟨a, ns, rfl, hs, q⟩
  rw [Vals.ref1 r]
  rcases hs with hs | hs
  · obtain ⟨its, rv, hl, _⟩ := I.list hs
    exact sum_raw (I.ok.hd hc) hl.isList rv.ints fun h' tk t' hk => ⟨.int _, H, I.kept hk, ⟨_, rfl⟩, q⟩
  · obtain ⟨its, rv, hl, _⟩ := I.tuple hs
    obtain ⟨ys, hy⟩ := rv.ints.allInts.items
    have hn : numsOf its.toArray.toList = ns := by rw [show its.toArray.toList = its from rfl, rv.ints.numsOf]
    rw [hy] at hl hn
    rw [nums_intItems] at hn
    refine PySem.W.ktm_sumG (I.ok.hd hc) hl fun h' tk t' hk => ?_
    rw [preSum_eq, List.take_of_length_le (by simp), hn]
    exact ⟨.int _, H, I.kept hk, ⟨_, rfl⟩, q⟩
section
variable {K : PySem.W.Frag} {Ψ : Dt → Prop} {ns : List Int}
theorem rd_sumL (h : Ψ (.int ns.sum)) : RD K (rSum2 K) [.lst (ns.map Dt.int)] Ψ := fun M H vs m xx Q q => by
  obtain ⟨v, rfl, x⟩ := one_v xx
  cases x with
  | lst hs ha => rw [ha.ints] at hs; exact ⟨_, ns, rfl, .inl ((cut_sub M H).seq hs), q _ H _ (Same.refl H) (.int _) h⟩
theorem rd_sumT (h : Ψ (.int ns.sum)) : RD K (rSum2 K) [.tup (ns.map Dt.int)] Ψ := fun M H vs m xx Q q => by
  obtain ⟨v, rfl, x⟩ := one_v xx
  cases x with
  | tup hs ha => rw [ha.ints] at hs; exact ⟨_, ns, rfl, .inr (same_T (cut_sub M H) hs), q _ H _ (Same.refl H) (.int _) h⟩
end

/-! ### sorted of any data that are alike -/
def sortD (ds : List Dt) : List Dt := ds.mergeSort (PySem.W.dataLe false Dt.py)
structure Srt (ds : List Dt) : Prop where
  pure : seqss ds = true
  alike : PySem.W.AllAlike (ds.map Dt.py)
  can : PySem.W.Sortable (ds.map Dt.py)
  len : ds.length ≤ 100000
  depth : ∀ d ∈ ds, d.py.depth ≤ 30
def rSortD (K : PySem.W.Frag) : List V → Hp → VK → Prop := fun xs H Q => ∃ (H0 : Hp) (a : Addr) (ds : List Dt), xs = [.ref a] ∧ Same H0 H ∧ DX K H0 (.ref a) (.lst ds) ∧ Srt ds ∧ ∀ p ys, H p = none → DXs K H0 ys (sortD ds) → Q (.ref p) (upd H p (.lst ys))
theorem each_dx {X : Cx} {H : Hp} : ∀ {xs : List V} {us : List Value} {ds : List Dt}, Vals xs us → DXs X.K H xs ds → PySem.W.EachIs (fun u d => ∃ x, RelV x u ∧ DX X.K H x d) us ds
  | _, _, [], r, h => by cases h; cases r; exact .nil
  | _, _, d :: ds, r, h => by
    cases h with
    | cons h1 h2 =>
      cases r with
      | cons r1 r2 => exact .cons ⟨_, r1, h1⟩ (each_dx r2 h2)
theorem dx_each {X : Cx} {H : Hp} : ∀ {us : List Value} {ds : List Dt}, PySem.W.EachIs (fun u d => ∃ x, RelV x u ∧ DX X.K H x d) us ds → ∃ xs, Vals xs us ∧ DXs X.K H xs ds
  | _, _, .nil => ⟨[], .nil, .nil⟩
  | _, _, .cons ⟨x, r, h⟩ t => let ⟨xs, rs, hs⟩ := dx_each t; ⟨x :: xs, .cons r rs, .cons h hs⟩
theorem seqss_mem : ∀ {ds : List Dt} {d : Dt}, seqss ds = true → d ∈ ds → d.seqs = true
  | e :: ds, d, h, m => by
    simp only [seqss, Bool.and_eq_true] at h
    rcases List.mem_cons.mp m with z | z
    · rw [z]; exact h.1
    · exact seqss_mem h.2 z
theorem each_reads {X : Cx} {pins : List (Addr × Obj)} {σ : L2.St} {H H0 : Hp} {s : Shared} (I : Inv X pins σ H s) (e : Same H0 H) : ∀ {us : List Value} {ds : List Dt}, PySem.W.EachIs (fun u d => ∃ x, RelV x u ∧ DX X.K H0 x d) us ds → seqss ds = true → PySem.W.EachIs (fun u d => ∃ as, Reads s.heap u d.py as) us ds
  | _, _, .nil, _ => .nil
  | _, _, .cons (b := d) ⟨x, r, h⟩ t, z => by
    simp only [seqss, Bool.and_eq_true] at z
    exact .cons (Dp.reads I _ _ _ ((h.mono e).dp z.1) r) (each_reads I e t z.2)
theorem sortedK {X : Cx} (K : PySem.W.Frag) (e : X.K = K) (hu : X.A.units + 64 < cLine) : CallR X (.builtin "sorted") (rSortD K) := by
  subst e
  rintro pins s σ H xs us Q I r ⟨H0, a, ds, rfl, e0, hx, S, q⟩
  rw [Vals.ref1 r]
  cases hx with
  | @lst _ ys _ hs ha =>
    obtain ⟨its, rv, hl, _⟩ := I.list (e0.seq hs)
    have e := each_dx (X := X) rv ha
    have hlen : its.length = ds.length := e.length
    refine PySem.W.sorted_data (enc := Dt.py) hl.isList e (each_reads I e0 e S.pure) S.alike S.can (Nat.le_trans S.len (by decide)) (fun d hd => ?_) fun out ho ee => ?_
    · have := S.depth d hd; omega
    · obtain ⟨zs, rz, hz⟩ := dx_each ee
      obtain ⟨n, hn⟩ := sortedAll_at s.heap its out.toArray
      have hzl : zs.length ≤ sizeLine := by
        rw [hz.len, List.length_mergeSort]
        exact Nat.le_trans S.len (by decide)
      exact ⟨.ref (s.heap.objs.size + 1), upd H (s.heap.objs.size + 1) (.lst zs), I.laid (t' := s.toks) (fun b o z => sortedAll_old z) (Nat.le_succ _) (show ObjOk X.prog X.w _ _ _ (.lst zs) from ⟨hzl, out, n, rz, hn⟩), rfl,
        q _ zs (I.hok.fresh (Nat.le_succ _)) hz⟩
section
variable {K : PySem.W.Frag} {Ψ : Dt → Prop} {ds : List Dt}
theorem rd_sorted (S : Srt ds) (h : Ψ (.lst (sortD ds))) : RD K (rSortD K) [.lst ds] Ψ := fun M H vs m xx Q q => by
  obtain ⟨v, rfl, x⟩ := one_v xx
  obtain ⟨a, rfl⟩ : ∃ a, v = .ref a := by cases x; exact ⟨_, rfl⟩
  exact ⟨cut M H, a, ds, rfl, cut_sub M H, x, S, fun p ys hp hy => q _ _ (.lst (sortD ds)) (same_new hp) (dx_new_l m hp hy) h⟩
end
end DL

/-! Data level: list(d.values()), list(d.items()), instances called, great numbers, own dicts written at any text, [..] and {} side by side. -/
namespace DL
open PySem PySem.Spec PyProof.Rows L2
variable [Tb]

/-! ### list(d.values()) -/
def rValsL (x : V) (H : Hp) (Q : VK) : Prop := ∃ (d : Addr) (kvs : List (Key × V)), x = .ref d ∧ Rd H d (.dK kvs) ∧ ∀ p, H p = none → Q (.ref p) (upd H p (.lst (kvs.map (·.2))))
def tListVals (te : TE) : TE := fun σ H Q => te σ H fun x H1 => rValsL x H1 Q
section
variable {X : Cx} {e : Expr} {te : TE} {p apos cpos pos : Pos}
theorem vals_of {kvs : List (Key × V)} {vs : List (Key × Value)} (kv : KV kvs vs) : ∀ {acc : List Value}, acc.length = vs.length → (∀ (j : Nat) (v : Value), acc[j]? = some v → ∃ k, vs[j]? = some (k, v)) → Vals (kvs.map (·.2)) acc := by
  induction kv with
  | nil =>
    intro acc hl _
    cases acc with
    | nil => exact .nil
    | cons _ _ => cases hl
  | @cons q w kvs vs h t ih =>
    intro acc hl ha
    cases acc with
    | nil => cases hl
    | cons u us =>
      obtain ⟨k, e⟩ := ha 0 u rfl
      have e : w = (k, u) := Option.some.inj e
      refine .cons ?_ (ih (Nat.succ.inj hl) fun j v z => ha (j + 1) v z)
      have := h.2
      rw [e] at this
      exact this
/-- what a view of the dict d is made as -/
abbrev viewO (cls : String) (d : Addr) : Obj := { cls := .type cls, data := .fields #[.ref d] }
/-- list(e.m()), m a view of dicts -/
theorem pe_listView {m : Str} {id cls : String} {B : Builtin} {G : V → Hp → VK → Prop} (slot : Slot "dict" m id) (ty : typeOf (.builtin id) = pure (.type "method_descriptor")) (entry : entryFor table id = some B) (args : ∀ a, argsOk id ⟨[a], []⟩)
    (meets : ∀ d, (d == sysModules) = false → MeetsIn X.prog X.w (B ⟨[.ref d], []⟩) (fun _ R s => (∃ kvs, s.heap.DictOf (mixKind X.prog X.w) d kvs) ∧ R (.ok (.ret (.ref s.heap.objs.size))) { s with heap := s.heap.push (viewO cls d) }))
    (he : PE X e te) (hg : Gl X "list") (hm : X.mg "list" = none) (hv : bootBuiltins "list" = some (.type "list"))
    (hG : ∀ (x : V) (H : Hp) (Q : VK), G x H Q → ∃ d kvs, x = .ref d ∧ Rd H d (.dK kvs) ∧ ∀ (pins : List (Addr × Obj)) (σ : L2.St) (s : Shared) (vs : List (Key × Value)) (ep : Nat), Inv X pins σ H { s with heap := s.heap.push (viewO cls d) } → KV kvs vs → s.heap.DictAt (mixKind X.prog X.w) d vs ep → vs.length ≤ sizeLine →
      wpAny (model X.prog X.w) X.A (call (.type "list") [.ref s.heap.objs.size]) (EP X pins σ Q) X.xe { s with heap := s.heap.push (viewO cls d) })
    (hbase : attributeBase e m X.env (eval e X.env) = eval e X.env) (hline : (apos.endLine == cpos.line) = true)
    (hs : starEach [.Call (.Attribute e m apos) [] [] cpos] X.env = (false, eval (.Call (.Attribute e m apos) [] [] cpos) X.env) :: starEach [] X.env) :
    PE X (.Call (.Name "list" p) [.Call (.Attribute e m apos) [] [] cpos] [] pos) (fun σ H Q => te σ H fun x H1 => G x H1 Q) := by
  constructor
  intro pins s σ H Q I hq
  refine wpAny_Call_Name_kw (ld_blt I hg hm hv (PyProof.Rows.callWith_type1 (PyProof.Rows.args_cons ?_ hs) hs rfl))
  refine wpAny_Call_method hbase rfl hline F.plainAttrs_dict slot ty (wpAny_mono (he.run pins s σ H _ I hq) (fun u s1 z => ?_) fun _ _ z => z)
  obtain ⟨x, H1, J, r, q⟩ := z
  obtain ⟨d, kvs, rfl, rd, k⟩ := hG _ _ _ q
  cases r
  obtain ⟨hz, hs0, vs, kv, dict⟩ := rd_ok J rd
  obtain ⟨ep, at_⟩ := dict.dictAt
  refine ⟨dict.typeIs, dict.mapOf.noDict, method_meetsIn slot entry rfl (PySem.evalArgs_none ⟨rfl, dict.typeIs, args _, _, meets d hs0, ⟨vs, dict⟩, PyProof.Rows.args_nil (k pins σ s1 vs ep ?_ kv at_ (Paired.length kv ▸ hz))⟩)⟩
  exact J.kept (t' := s1.toks) fun _ _ z => Heap.get?_push_of_some _ z
theorem pe_listVals (hc : X.calm = true) (he : PE X e te) (hg : Gl X "list") (hm : X.mg "list" = none) (hv : bootBuiltins "list" = some (.type "list")) (hbase : attributeBase e "values" X.env (eval e X.env) = eval e X.env := by rfl) (hline : (apos.endLine == cpos.line) = true := by rfl)
    (hs : starEach [.Call (.Attribute e "values" apos) [] [] cpos] X.env = (false, eval (.Call (.Attribute e "values" apos) [] [] cpos) X.env) :: starEach [] X.env := by rfl) :
    PE X (.Call (.Name "list" p) [.Call (.Attribute e "values" apos) [] [] cpos] [] pos) (tListVals te) :=
  pe_listView (te := te) (G := rValsL) F.slot_dict_values F.type_dict_values F.entry_dict_values F.args_dict_values_1 (fun d => meets_dict_values _ d) he hg hm hv (fun x H Q ⟨d, kvs, e, rd, q⟩ => ⟨d, kvs, e, rd, fun pins σ s vs ep J kv at_ hz => by
    refine PySem.W.kdl_call (PySem.W.kdl_values (knd := mixKind X.prog X.w) (kvs := vs) (ep := ep)) (J.ok.hd hc) ⟨⟨_, Heap.get?_push_size _ rfl, rfl, rfl⟩, at_.push _⟩ hz fun h' tk acc c hk hS hacc => ?_
    have rv : Vals (kvs.map (·.2)) acc.toList := vals_of kv (by rw [Array.length_toList]; exact hacc.1) fun j v z => hacc.2 j v (by rw [← Array.getElem?_toList]; exact z)
    exact ⟨.ref _, _, J.laid (t' := tk) hk (Nat.le_refl _) (show ObjOk X.prog X.w _ _ _ (.lst (kvs.map (·.2))) from ⟨by rw [List.length_map, Paired.length kv]; exact hz, acc.toList, c, rv, by rw [Array.toArray_toList]; exact hS⟩), rfl, q _ (J.hok.fresh (Nat.le_refl _))⟩⟩) hbase hline hs
end
section
variable {K : PySem.W.Frag} {pf : Bool} {ρ : List Sl} {te : TE} {Φ : Dt → List Sl → Prop}
theorem DXk.vals {H : Hp} : ∀ {ds : List (Key × Dt)} {vs : List (Key × V)}, DXk K H vs ds → DXs K H (vs.map (·.2)) (valsD ds)
  | [], _, h => by cases h; exact .nil
  | (k, d) :: ds, _, h => by
    cases h with
    | cons h1 h2 => exact .cons h1 (DXk.vals h2)
theorem w_listVals (h : Wp K pf te ρ fun d ρ1 => ∃ a kvs, d = .dct a kvs ∧ Φ (.lst (valsD kvs)) ρ1) : Wp K pf (tListVals te) ρ Φ := fun M σ H S Q q =>
  h M σ H S _ fun v H1 d ρ1 s1 S1 x1 ⟨a, kvs, ed, f⟩ => by
    subst ed
    cases x1 with
    | @dct _ vs _ hr ha =>
      exact ⟨a, vs, rfl, (cut_Rd hr).2, fun p hp => q _ _ (.lst (valsD kvs)) ρ1 (s1.trans (Tr.same pf M (same_new hp))) (S1.same (same_new hp)) (dx_new_l S1.mok hp ha.vals) f⟩
end

/-! ### list(d.items()) -/
section
variable {K : PySem.W.Frag} {pf : Bool} {ρ : List Sl} {te : TE} {Φ : Dt → List Sl → Prop}
theorem paired_tups {H H0 : Hp} : ∀ {ts : List Addr} {kvs : List (Key × V)} {ds : List (Key × Dt)}, Paired (fun (t : Addr) (q : Key × V) => H t = some (.tup [kV q.1, q.2])) ts kvs → DXk K H0 kvs ds → Same H0 H → DXs K H (ts.map V.ref) (itemsD ds)
  | _, _, [], p, h, e => by cases h; cases p; exact .nil
  | _, _, (k, d) :: ds, p, h, e => by
    cases h with
    | cons h1 h2 =>
      cases p with
      | cons p1 p2 => exact .cons (.tup (.inl (.inl p1)) (.cons (keyD_dx k) (.cons (h1.mono e) .nil))) (paired_tups p2 h2 e)
end
def rItemsR (x : V) (H : Hp) (Q : VK) : Prop := ∃ (d : Addr) (kvs : List (Key × V)), x = .ref d ∧ Rd H d (.dK kvs) ∧
  ∀ (H2 : Hp) (p : Addr) (ts : List Addr), Same H H2 → H p = none → (∀ t ∈ ts, H t = none) → p ∉ ts → H2 p = some (.lst (ts.map V.ref)) → Paired (fun (t : Addr) (q : Key × V) => H2 t = some (.tup [kV q.1, q.2])) ts kvs → Q (.ref p) H2
def tListItemsR (te : TE) : TE := fun σ H Q => te σ H fun x H1 => rItemsR x H1 Q
section
variable {X : Cx} {e : Expr} {te : TE} {p apos cpos pos : Pos}
theorem pe_listItemsR (hc : X.calm = true) (he : PE X e te) (hg : Gl X "list") (hm : X.mg "list" = none) (hv : bootBuiltins "list" = some (.type "list")) (hbase : attributeBase e "items" X.env (eval e X.env) = eval e X.env := by rfl) (hline : (apos.endLine == cpos.line) = true := by rfl)
    (hs : starEach [.Call (.Attribute e "items" apos) [] [] cpos] X.env = (false, eval (.Call (.Attribute e "items" apos) [] [] cpos) X.env) :: starEach [] X.env := by rfl) :
    PE X (.Call (.Name "list" p) [.Call (.Attribute e "items" apos) [] [] cpos] [] pos) (tListItemsR te) :=
  pe_listView (te := te) (G := rItemsR) F.slot_dict_items F.type_dict_items F.entry_dict_items F.args_dict_items_1 (fun d => meets_dict_items _ d) he hg hm hv (fun x H Q ⟨d, kvs, e, rd, q⟩ => ⟨d, kvs, e, rd, fun pins σ s vs ep J kv at_ hz => by
    refine PySem.W.kdx_call (knd := mixKind X.prog X.w) (kvs := vs) (ep := ep) (J.ok.hd hc) ⟨_, Heap.get?_push_size _ rfl, rfl, rfl⟩ (at_.push _) hz fun h' tk acc c as hk hS hl hG hacc => ?_
    obtain ⟨H2, k1, k2, k3, k4, k5, k6, J2⟩ := LiI.items_laid (tk := tk) J (Paired.length kv ▸ hz) kv hk hS hl hG hacc
    exact ⟨.ref _, H2, J2, rfl, q H2 _ as k1 k2 k3 k4 k5 k6⟩⟩) hbase hline hs
end
section
variable {K : PySem.W.Frag} {pf : Bool} {ρ : List Sl} {te : TE} {Φ : Dt → List Sl → Prop}
theorem w_listItems (h : Wp K pf te ρ fun d ρ1 => ∃ a kvs, d = .dct a kvs ∧ Φ (.lst (itemsD kvs)) ρ1) : Wp K pf (tListItemsR te) ρ Φ := fun M σ H S Q q =>
  h M σ H S _ fun v H1 d ρ1 s1 S1 x1 ⟨a, kvs, ed, f⟩ => by
    subst ed
    cases x1 with
    | @dct _ vs _ hr ha =>
      refine ⟨a, vs, rfl, (cut_Rd hr).2, fun H2 p ts e hp ht np h1 h2 => q _ _ (.lst (itemsD kvs)) ρ1 (s1.trans (Tr.same pf M e)) (S1.same e) ?_ f⟩
      have nt : ∀ t ∈ ts, ¬ M.has t := fun t m => S1.mok.new (ht t m)
      have cutp : Paired (fun (t : Addr) (q : Key × V) => cut M H2 t = some (.tup [kV q.1, q.2])) ts vs := by
        have : ∀ {ts : List Addr} {vs : List (Key × V)}, (∀ t ∈ ts, ¬ M.has t) → Paired (fun (t : Addr) (q : Key × V) => H2 t = some (.tup [kV q.1, q.2])) ts vs → Paired (fun (t : Addr) (q : Key × V) => cut M H2 t = some (.tup [kV q.1, q.2])) ts vs := by
          intro ts vs n pr
          induction pr with
          | nil => exact .nil
          | cons z _ ih => exact .cons (cut_at (n _ List.mem_cons_self) z) (ih fun t m => n t (List.mem_cons_of_mem _ m))
        exact this nt h2
      exact .lst (.inl (.inl (cut_at (S1.mok.new hp) h1))) (paired_tups cutp ha (cut_same M e))
end

/-! ### an instance called -/
/-- f(e, ..), f an instance of the class at C -/
def tCallI (C : Addr) (sp : Sp) (dvs : List V) (E : XK) (tf : TE) (t : TA) : TE := fun σ H Q => tf σ H fun y H1 => ∃ a, y = .ref a ∧ t σ H1 fun vs H2 => (∃ dx fs, H2 a = some (.ins C dx fs)) ∧ sp (.ref a :: (vs ++ dvs)) H2 Q E
/-- f(k = v, ..) -/
def tCallIK (C : Addr) (sp : Sp) (m : Nat) (gV : List V → List V → List V) (E : XK) (tf : TE) (tk : TA) : TE := fun σ H Q => tf σ H fun y H1 => ∃ a, y = .ref a ∧ tk σ H1 fun zs H2 => zs.length = m ∧ (∃ dx fs, H2 a = some (.ins C dx fs)) ∧ sp (gV [.ref a] zs) H2 Q E
theorem callK_of {M : Model} {A : Around} {E : Value → Shared → Prop} {s : Shared} {a : Addr} {pos : Pos} {Q : Value → Shared → Prop} {args : List (Bool × Sem Value)} {kws : List (Option Str × Sem Value)} (hpl : (args.any (·.1) || kws.any (·.1.isNone)) = false)
    (h : wpAny M A (evalArgs (.ref a) true args kws) (fun z s1 => (∃ C ox od, PySem.W.InstAt s1.heap a ox C od ∧ ox.data = .plain) ∧ wpAny M A (call (.ref a) ([] ++ z.pos) z.kw) Q E s1) E s) : wpAny M A (callWith pos (.ref a) [] args kws) Q E s := by
  refine wpAny_bind (wpAny_holding (wpAny_mono h (fun z s1 y => wpAny_bind (wpAny_standAt ?_)) fun _ _ y => y))
  obtain ⟨⟨C, ox, od, J, hd⟩, y⟩ := y
  rw [hpl]
  exact wpAny_bind ((PySem.W.kco_keeper (M := M) J hd).here (wpAny_bind (wpAny_mono (wpAny_operateT y) (fun r s2 q => wpAny_bind (wpAny_holding (wpAny_point (wpAny_pure q)))) fun _ _ z => z)))
section
variable {X : Cx} {CX : CXT} {k n : Nat} {C f : Addr} {fd : FuncData} {ps ks : List Str} {sp : Sp} {E : XK} {pos : Pos} {fe e : Expr} {es : List Expr} {kws : List Keyword} {tf : TE} {t tk : TA} {dvs : List V} {ds : List Value} {g : List Value → List Value → List Value} {gV : List V → List V → List V}
theorem run_callI {pins : List (Addr × Obj)} {σ : L2.St} {H : Hp} {s : Shared} {Q : VK} {a : Addr} {as bs : List Value} {kw : List (Str × Value)} {vs : List V} (c : StX.CallO X.K C f) (F : FnOk X.prog X.w X.K X.mg X.base CX k f fd ps sp) (hr : Room k X.A)
    (hb : BindsTo s fd ⟨.ref a :: as, kw⟩ (ps.zip bs)) (hx : Passes CX X E) (I : Inv X pins σ H s) (hi : ∃ dx fs, H a = some (.ins C dx fs)) (r : Vals vs bs) (h : sp vs H Q E) : wpAny (model X.prog X.w) X.A (call (.ref a) as kw) (EP X pins σ Q) X.xe s := by
  obtain ⟨dx, fs, hi⟩ := hi
  obtain ⟨mA, O, _⟩ := ins_get I.hok hi
  obtain ⟨od, J, _⟩ := O.look
  refine wpAny_call (PySem.W.kco_code I.kIn J rfl c.at_ c.fn c.fi (codeAny_mono (F.run X.A X.stack s H ⟨.ref a :: as, kw⟩ bs vs Q E hr I.env0 hb r h) ?_))
  rintro (e | fl) s' hq
  · exact hx pins σ H s e s' I hq
  cases fl with
  | ret u => exact I.after hq
  | _ => exact hq.elim
theorem inst_of {pins : List (Addr × Obj)} {σ : L2.St} {H : Hp} {s : Shared} {a : Addr} (I : Inv X pins σ H s) (hi : ∃ dx fs, H a = some (.ins C dx fs)) : ∃ C ox od, PySem.W.InstAt s.heap a ox C od ∧ ox.data = .plain := by
  obtain ⟨dx, fs, hi⟩ := hi
  obtain ⟨mA, O, _⟩ := ins_get I.hok hi
  obtain ⟨od, J, _⟩ := O.look
  exact ⟨C, _, od, J, rfl⟩
theorem pe_callI (hf : PE X fe tf) (c : StX.CallO X.K C f) (F : FnOk X.prog X.w X.K X.mg X.base CX k f fd ps sp) (hr : Room k X.A) (hb : Binds X.K fd ps ds) (hd : Vals dvs ds) (hx : Passes CX X E) (ha : PA X (e :: es) t)
    (ht : eval (.Call fe (e :: es) [] pos) X.env = (do callWith pos (← eval fe X.env) [] (backTo pos (starEach (e :: es) X.env)) (backToKw pos (keywordEach [] X.env))) := by rfl)
    (he : starEach (e :: es) X.env = (false, eval e X.env) :: starEach es X.env := by rfl) (hpl : (backTo pos (starEach es X.env)).any (·.1) = false := by rfl) : PE X (.Call fe (e :: es) [] pos) (tCallI C sp dvs E tf t) := by
  constructor
  intro pins s σ H Q I h
  refine PyProof.Rows.Call_ (thn (hf.run pins s σ H _ I h) ?_) ht
  rintro u s1 ⟨y, H1, I1, ry, a, ey, q⟩
  subst ey
  obtain rfl : u = Value.ref a := ry
  refine StX.callO_with (thn (ha.run pos pins s1 σ H1 _ I1 q) ?_) he hpl
  rintro us s2 ⟨vs, H2, I2, r, hi, q2⟩
  have r2 := (show Vals (.ref a :: vs) (.ref a :: us) from .cons rfl r).append hd
  have hl : (Value.ref a :: us ++ ds).length = ps.length := r2.length.symm.trans (F.len _ _ _ _ q2)
  exact ⟨inst_of I2 hi, run_callI (as := us) c F hr (hb s2 _ I2.kIn hl) hx I2 hi r2 q2⟩
theorem pe_callIK (hf : PE X fe tf) (c : StX.CallO X.K C f) (F : FnOk X.prog X.w X.K X.mg X.base CX k f fd ps sp) (hr : Room k X.A) (hb : KBn X.K fd ps 1 ks g gV) (hx : Passes CX X E) (hkw : PK X kws tk)
    (ht : eval (.Call fe [] kws pos) X.env = (do callWith pos (← eval fe X.env) [] (backTo pos (starEach [] X.env)) (backToKw pos (keywordEach kws X.env))) := by rfl)
    (hall : (backToKw pos (keywordEach kws X.env)).all (·.1.isSome) = true := by rfl) (hks : (backToKw pos (keywordEach kws X.env)).filterMap (·.1) = ks := by rfl)
    (hpl : ((backTo pos (starEach [] X.env)).any (·.1) || (backToKw pos (keywordEach kws X.env)).any (·.1.isNone)) = false := by rfl) : PE X (.Call fe [] kws pos) (tCallIK C sp ks.length gV E tf tk) := by
  constructor
  intro pins s σ H Q I h
  rw [ht]
  refine wpAny_bind (thn (hf.run pins s σ H _ I h) ?_)
  rintro u s1 ⟨y, H1, I1, ry, a, ey, q⟩
  subst ey
  obtain rfl : u = Value.ref a := ry
  refine callK_of hpl (PyProof.Rows.evalArgs_kw2_nil hall (thn (hkw.run pos pins s1 σ H1 _ I1 q) ?_))
  rintro ws s2 ⟨zs, H2, I2, rz, l, hi, q2⟩
  rw [hks]
  exact ⟨inst_of I2 hi, run_callI (as := []) c F hr (hb.to s2 [.ref a] ws I2.kIn rfl (rz.length.symm.trans l)) hx I2 hi (hb.rel (vs := [.ref a]) (.cons rfl .nil) rz) q2⟩
end
section
variable {K : PySem.W.Frag} {pf : Bool} {ρ : List Sl} {tf : TE} {tr tk : TA} {Φ : Dt → List Sl → Prop} {C : Addr} {E : XK}
theorem w_callI {W : List Dt → (Dt → Prop) → Prop} {dvs : List V} {des : List Dt} (hd : ∀ H, DXs K H dvs des) (h : Wp K pf tf ρ fun d ρ1 => ∃ a ns es, d = .ins C a ns es ∧ Wa K pf tr ρ1 fun ds ρ2 => W (.ins C a ns es :: (ds ++ des)) fun e => Φ e ρ2) : Wp K pf (tCallI C (spP K W) dvs E tf tr) ρ Φ := fun M σ H S Q q =>
  h M σ H S _ fun v H1 d ρ1 s1 S1 x1 ⟨a, ns, es, ed, k⟩ => by
    subst ed
    obtain ⟨rfl, dx, us, hi, hl⟩ := ins_keep (H2 := H1) x1
    refine ⟨a, rfl, k M σ H1 S1 _ fun vs H2 ds ρ2 s2 S2 x2 w => ?_⟩
    have x1' := x1.mono s2.dx
    obtain ⟨_, dx2, us2, hi2, _⟩ := ins_keep (H2 := H2) x1'
    have ec : ∀ H', cut M.callP H' = cut M H' := cut_congr M.callP_has
    refine ⟨⟨dx2, _, hi2⟩, M.callP, _, _, rfl, rfl, S2.mok.callP, ?_, w, fun v H4 e s x f => q v H4 e ρ2 ((s1.trans s2).trans (Tr.same pf M s)) (S2.same s) (by rw [ec] at x; exact x) f⟩
    rw [ec]
    exact .cons x1' (x2.append (hd _))
theorem w_callIK {W : List Dt → (Dt → Prop) → Prop} {m : Nat} {gV : List V → List V → List V} {gD : Dt → List Dt → List Dt} (hg : ∀ (x : V) (zs : List V) (d : Dt) (es : List Dt) (H : Hp), zs.length = m → DX K H x d → DXs K H zs es → DXs K H (gV [x] zs) (gD d es))
    (h : Wp K pf tf ρ fun d ρ1 => ∃ a ns es, d = .ins C a ns es ∧ Wa K pf tk ρ1 fun fs ρ2 => fs.length = m ∧ W (gD (.ins C a ns es) fs) fun e => Φ e ρ2) : Wp K pf (tCallIK C (spP K W) m gV E tf tk) ρ Φ := fun M σ H S Q q =>
  h M σ H S _ fun v H1 d ρ1 s1 S1 x1 ⟨a, ns, es, ed, k⟩ => by
    subst ed
    obtain ⟨rfl, dx, us, hi, hl⟩ := ins_keep (H2 := H1) x1
    refine ⟨a, rfl, k M σ H1 S1 _ fun zs H2 ds ρ2 s2 S2 x2 ⟨l, w⟩ => ?_⟩
    have x1' := x1.mono s2.dx
    obtain ⟨_, dx2, us2, hi2, _⟩ := ins_keep (H2 := H2) x1'
    have ec : ∀ H', cut M.callP H' = cut M H' := cut_congr M.callP_has
    have l2 : zs.length = m := x2.len.trans l
    refine ⟨l2, ⟨dx2, _, hi2⟩, M.callP, _, _, rfl, rfl, S2.mok.callP, ?_, w, fun v H4 e s x f => q v H4 e ρ2 ((s1.trans s2).trans (Tr.same pf M s)) (S2.same s) (by rw [ec] at x; exact x) f⟩
    rw [ec]
    exact hg _ _ _ _ _ l2 x1' x2
end
end DL

/-! Data level: own dicts written at any key; two stores at once, own lists and dicts among them; list(x) as an own list. -/
namespace DL
open PySem PySem.Spec PyProof.Rows L2
variable [Tb]
section
variable {K : PySem.W.Frag} {ρ : List Sl} {te ti tk : TE} {tr : TA} {t u : TS} {D : DE} {i j : Nat} {pf : Bool} {kvs : List (Key × Dt)}
theorem keyD_eq {H : Hp} {v : V} {k : Key} (h : DX K H v (keyD k)) : v = kV k := by
  cases k with
  | inl n => exact h.int_eq
  | inr s => exact h.str_eq
theorem ws_dputK (e0 : ρ[i]? = some (.ownd kvs)) (h : Wp K pf te ρ fun d ρ1 => Wp K pf tk ρ1 fun y ρ2 => ∃ kvs1 x, ρ2[i]? = some (.ownd kvs1) ∧ y = keyD x ∧ kvs1.length < 100000 ∧ D.nx (ρ2.set i (.ownd (putD kvs1 x d)))) : Ws K (sDPut (tVar i) tk te) ρ D := fun M σ H S E k => by
  obtain ⟨o, h1, l, vs0, e1, e2, e3, e4⟩ := S.ok i _ e0
  subst e1
  refine h M σ H S _ fun v H1 d ρ1 s1 S1 x1 f => ⟨.ref l, h1, f M σ H1 S1 _ ?_⟩
  rintro y H2 dy ρ2 s2 S2 x2 ⟨kvs1, x, g1, rfl, g2, g3⟩
  obtain ⟨o', z1, l', vs, y1, y2, y3, y4⟩ := S2.ok i _ g1
  have el : l' = l := Option.some.inj (Option.some.inj (y2.symm.trans e2))
  subst el
  obtain rfl := keyD_eq x2
  refine ⟨l', _, rfl, .inl ⟨vs, x, y3, rfl, by rw [y4.len]; exact Nat.lt_of_lt_of_le g2 (by decide), rfl⟩, ?_⟩
  obtain ⟨S3, s3⟩ := S2.writed (vs := vs) g1 y2 (y4.put (x1.mono s2.dx))
  exact k.nx M σ _ _ ((s1.trans s2).st.trans s3) S3 g3
/-- a, b = x, {} -/
theorem ws_parD (h : Wp K pf te ρ fun d ρ' => j < ρ'.length ∧ D.nx ((ρ'.set i (.dat d)).set j (.ownd []))) : Ws K (tPar i j (tCons te (tCons tDNewK tNil))) ρ D := fun M σ H S E k =>
  h M σ H S _ fun v H1 d ρ1 s1 S1 x1 ⟨hj, z⟩ q hq => by
    have S2 := S1.put x1 i
    exact ⟨v, .ref q, rfl, k.nx _ _ _ _ (s1.st.trans (Stp.own hq (same_new hq))) ((S2.same (same_new hq)).ownd (by rw [List.length_set]; exact hj) (S2.mok.new hq) upd_same .nil (S2.aside hq (same_new hq) upd_same)) z⟩
/-- a, b = x, [] -/
theorem ws_parL (h : Wp K pf te ρ fun d ρ' => j < ρ'.length ∧ D.nx ((ρ'.set i (.dat d)).set j (.own []))) : Ws K (tPar i j (tCons te (tCons (tLst tNil) tNil))) ρ D := fun M σ H S E k =>
  h M σ H S _ fun v H1 d ρ1 s1 S1 x1 ⟨hj, z⟩ => ⟨by show 0 ≤ _; exact Nat.zero_le _, fun q hq => by
    have S2 := S1.put x1 i
    exact ⟨v, .ref q, rfl, k.nx _ _ _ _ (s1.st.trans (Stp.own hq (same_new hq))) ((S2.same (same_new hq)).own (by rw [List.length_set]; exact hj) (S2.mok.new hq) upd_same .nil (S2.aside hq (same_new hq) upd_same)) z⟩⟩
/-- a, b = [..], [] : both one's own -/
theorem ws_parLL (h : WpL K pf te ρ fun ds ρ' => i < ρ'.length ∧ j < ρ'.length ∧ D.nx ((ρ'.set i (.own ds)).set j (.own []))) : Ws K (tPar i j (tCons te (tCons (tLst tNil) tNil))) ρ D := fun M σ H S E k =>
  h M σ H S _ fun q vs H2 ds ρ' s S2 hq x ⟨hi, hj, z⟩ => ⟨by show 0 ≤ _; exact Nat.zero_le _, fun q2 hq2 => by
    have S3 := (S2.same (same_new hq)).own hi (S2.mok.new hq) upd_same (x.mono fun b u y => by
      obtain ⟨c, y⟩ := cut_of y
      refine cut_at (fun t => ?_) (by rw [upd_ne (ne_of_none y hq)]; exact y)
      rcases t with t | t | t
      · exact c (.inl t)
      · rcases List.mem_cons.mp t with t | t
        · exact ne_of_none y hq t
        · exact c (.inr (.inl t))
      · exact c (.inr (.inr t))) (S2.aside hq (same_new hq) upd_same)
    refine ⟨.ref q, .ref q2, rfl, k.nx _ _ _ _ ((s.st.trans (Stp.own hq (same_new hq))).trans (Stp.own hq2 (same_new hq2))) ((S3.same (same_new hq2)).own (by rw [List.length_set]; exact hj) (S3.mok.new hq2) upd_same .nil (S3.aside hq2 (same_new hq2) upd_same)) z⟩⟩
end
end DL

/-! Data level: own lists popped at an index. -/
namespace DL
open PySem PySem.Spec PyProof.Rows L2
variable [Tb]
theorem DXs.erase {K : PySem.W.Frag} {H : Hp} {ds : List Dt} {vs : List V} (j : Nat) (h : DXs K H vs ds) : DXs K H (vs.eraseIdx j) (ds.eraseIdx j) := by
  rw [List.eraseIdx_eq_take_drop_succ, List.eraseIdx_eq_take_drop_succ]
  exact (h.take j).append (h.drop (j + 1))
section
variable {K : PySem.W.Frag} {ρ : List Sl} {te : TE} {Φ : Dt → List Sl → Prop} {i : Nat}
theorem w_pop (h : Wp K false te ρ fun d ρ1 => ∃ ds j x, ρ1[i]? = some (.own ds) ∧ d = .int ((j : Nat) : Int) ∧ ds[j]? = some x ∧ j < 1000000 ∧ Φ x (ρ1.set i (.own (ds.eraseIdx j)))) {ds0 : List Dt} (e0 : ρ[i]? = some (.own ds0)) :
    Wp K false (tBM K "list" rPopAt (tVar i) (tCons te tNil)) ρ Φ := fun M σ H S Q q => by
  obtain ⟨o, h1, l, vs0, e1, e2, e3, e4⟩ := S.ok i _ e0
  subst e1
  refine ⟨.ref l, h1, .inl ⟨rfl, _, .inl (.inl e3)⟩, h M σ H S _ fun v H1 d ρ1 s1 S1 x1 ⟨ds, j, x, g1, g2, g3, g4, g5⟩ => ?_⟩
  subst g2
  obtain ⟨o', z1, l', vs, y1, y2, y3, y4⟩ := S1.ok i _ g1
  have el : l' = l := Option.some.inj (Option.some.inj (y2.symm.trans e2))
  subst el
  obtain ⟨y, k1, k2⟩ := y4.getd g3
  have hj : j < vs.length := (List.getElem?_eq_some_iff.mp k1).1
  refine ⟨l', vs, j, j, y, rfl, by rw [x1.int_eq], y3, by omega, by omega, ?_, k1, ?_⟩
  · unfold seqIndex?
    rw [if_neg (show ¬ ((j : Nat) : Int) < 0 by omega)]
    simp only [Int.toNat_natCast]
    first
      | rw [if_pos hj]
      | simp [hj]
  · obtain ⟨S2, s2⟩ := S1.write (vs := vs) g1 y2 (y4.erase j)
    exact q y _ x _ ⟨s1.st.trans s2, fun z => nomatch z⟩ S2 (k2.mono s2.dx) g5
end
section
variable {K : PySem.W.Frag} {pf : Bool} {ρ : List Sl} {ta : TA} {Ψ : List Dt → List Sl → Prop}
/-- list(x), owned -/
theorem wl_list (h : Wa K pf ta ρ fun ds ρ1 => ∃ d xs, ds = [d] ∧ seqD d = some xs ∧ Ψ xs ρ1) : WpL K pf (tCB (fun xs H Q => ∃ p ys, xs = [.ref p] ∧ (SqL K H p ys ∨ SqT K H p ys) ∧ ∀ l, H l = none → Q (.ref l) (upd H l (.lst ys))) ta) ρ Ψ := fun M σ H S Q q =>
  h M σ H S _ fun vs H1 ds ρ1 s1 S1 x1 ⟨d, xs, e, hs, f⟩ => by
    subst e
    obtain ⟨v, rfl, x⟩ := one_v x1
    cases x with
    | lst hs' ha => cases hs; exact ⟨_, _, rfl, .inl ((cut_sub M H1).seq hs'), fun l hl => q l _ H1 _ ρ1 s1 S1 hl ha f⟩
    | tup hs' ha => cases hs; exact ⟨_, _, rfl, .inr (same_T (cut_sub M H1) hs'), fun l hl => q l _ H1 _ ρ1 s1 S1 hl ha f⟩
    | _ => cases hs
theorem od_neb {Ψ : Dt → Prop} {a b : Bool} (h : Ψ (.bl (!decide (a = b)))) : OD K rNe (.bl a) (.bl b) Ψ := fun M H u v m h1 h2 Q q => by
  rw [h1.bl_eq, h2.bl_eq]
  have e : decide (V.bl a = V.bl b) = decide (a = b) := decide_eq_decide.mpr ⟨fun z => V.bl.inj z, fun z => by rw [z]⟩
  exact ⟨rfl, by rw [e]; exact q _ H _ (Same.refl H) (.bl _) h⟩
end
end DL

/-! Data level: methods of texts, formatted texts, None in lists, truth of lists, own lists returned. -/
namespace DL
open PySem PySem.Spec PyProof.Rows L2
variable [Tb]
section
variable {K : PySem.W.Frag} {Ψ : Dt → Prop} {a b : Str}
theorem dxs_strs' {H : Hp} (xs : List Str) : DXs K H (xs.map V.str) (xs.map Dt.str) := dxs_strs xs
theorem md_split (hb : (b.length == 0) = false) (hz : a.length + 2 ≤ 16777216) (h : Ψ (.lst ((Txt.split a b).map Dt.str))) :
    MD K (fun x xs H Q => ∃ a b, x = .str a ∧ xs = [.str b] ∧ (b.length == 0) = false ∧ a.length + 2 ≤ sizeLine ∧ rNewStrs (Txt.split a b) H Q) (.str a) (.str b) Ψ := fun M H u v m h1 h2 Q q => by
  rw [h1.str_eq, h2.str_eq]
  exact ⟨a, b, rfl, rfl, hb, Nat.le_trans hz (by decide), fun p hp => q _ _ _ (same_new hp) (dx_new_l m hp (dxs_strs _)) h⟩
theorem md_part (hb : (b.length == 0) = false) (hz : a.length ≤ 16777216) (h : Ψ (.tup [.str (Txt.partition a b).1, .str (Txt.partition a b).2.1, .str (Txt.partition a b).2.2])) :
    MD K (fun x xs H Q => ∃ a b, x = .str a ∧ xs = [.str b] ∧ (b.length == 0) = false ∧ a.length ≤ sizeLine ∧ ∀ p, H p = none → Q (.ref p) (upd H p (.tup [.str (Txt.partition a b).1, .str (Txt.partition a b).2.1, .str (Txt.partition a b).2.2]))) (.str a) (.str b) Ψ := fun M H u v m h1 h2 Q q => by
  rw [h1.str_eq, h2.str_eq]
  exact ⟨a, b, rfl, rfl, hb, Nat.le_trans hz (by decide), fun p hp => q _ _ _ (same_new hp) (dx_new_t m hp (.cons (.str _) (.cons (.str _) (.one (.str _))))) h⟩
theorem md_ends (h : Ψ (.bl (Txt.endswith a b))) : MD K (fun x xs H Q => ∃ a b, x = .str a ∧ xs = [.str b] ∧ Q (.bl (Txt.endswith a b)) H) (.str a) (.str b) Ψ := fun M H u v m h1 h2 Q q => by
  rw [h1.str_eq, h2.str_eq]
  exact ⟨a, b, rfl, rfl, q _ H _ (Same.refl H) (.bl _) h⟩
theorem rd_int_str {n : Int} (e : intText? a = some n) (hz : a.length ≤ 640) (h : Ψ (.int n)) : RD K (fun xs H Q => ∃ a n, xs = [.str a] ∧ intText? a = some n ∧ a.length ≤ 640 ∧ Q (.int n) H) [.str a] Ψ := fun M H vs m xx Q q => by
  obtain ⟨v, rfl, x⟩ := one_v xx
  rw [x.str_eq]
  exact ⟨a, n, rfl, e, hz, q _ H _ (Same.refl H) (.int _) h⟩
theorem rd_str_int {i : Int} (hz : i.natAbs.log2 < 1920) (h : Ψ (.str (Str.ofString (toString i)))) : RD K (fun xs H Q => ∃ i, xs = [.int i] ∧ i.natAbs.log2 < 1920 ∧ Q (.str (Str.ofString (toString i))) H) [.int i] Ψ := fun M H vs m xx Q q => by
  obtain ⟨v, rfl, x⟩ := one_v xx
  rw [x.int_eq]
  exact ⟨i, rfl, hz, q _ H _ (Same.refl H) (.str _) h⟩
end
section
variable {K : PySem.W.Frag} {pf : Bool} {ρ : List Sl} {te : TE} {ts : List TE} {Φ : Dt → List Sl → Prop}
theorem w_fmt_s (h : Wp K pf te ρ fun d ρ1 => ∃ y, d = .str y ∧ y.length ≤ 100000 ∧ Φ (.str y) ρ1) : Wp K pf (tFmt te) ρ Φ := fun M σ H S Q q =>
  h M σ H S _ fun v H1 d ρ1 s S1 x ⟨y, e, hz, f⟩ => by
    subst e
    rw [x.str_eq]
    exact .inl ⟨y, rfl, Nat.le_trans hz (by decide), q _ H1 _ ρ1 s S1 (.str y) f⟩
theorem w_fmt_i (h : Wp K pf te ρ fun d ρ1 => ∃ i, d = .int i ∧ i.natAbs.log2 < 1920 ∧ Φ (.str (Str.ofString (toString i))) ρ1) : Wp K pf (tFmt te) ρ Φ := fun M σ H S Q q =>
  h M σ H S _ fun v H1 d ρ1 s S1 x ⟨i, e, hz, f⟩ => by
    subst e
    rw [x.int_eq]
    exact .inr ⟨i, rfl, hz, q _ H1 _ ρ1 s S1 (.str _) f⟩
/-- the pieces of a formatted text -/
def Wj (K : PySem.W.Frag) (f : Bool) (ts : List TE) (acc : Str) (ρ : List Sl) (Ξ : Str → List Sl → Prop) : Prop :=
  ∀ (M : Md) (σ : L2.St) (H : Hp), Sd K M H σ ρ → ∀ Q : Str → Hp → Prop, (∀ z H2 ρ', Tr f M H H2 → Sd K M H2 σ ρ' → Ξ z ρ' → Q z H2) → tJs ts acc σ H Q
theorem wj_nil {acc : Str} {Ξ : Str → List Sl → Prop} (h : Ξ acc ρ) : Wj K pf [] acc ρ Ξ := fun M σ H S Q q => q acc H ρ (Tr.refl pf M H) S h
theorem wj_cons {acc : Str} {Ξ : Str → List Sl → Prop} (h : Wp K pf te ρ fun d ρ1 => ∃ y, d = .str y ∧ (acc ++ y).length ≤ 100000 ∧ Wj K pf ts (acc ++ y) ρ1 Ξ) : Wj K pf (te :: ts) acc ρ Ξ := fun M σ H S Q q =>
  h M σ H S _ fun v H1 d ρ1 s1 S1 x ⟨y, e, hz, k⟩ => by
    subst e
    rw [x.str_eq]
    exact ⟨y, rfl, Nat.le_trans hz (by decide), k M σ H1 S1 Q fun z H2 ρ2 s2 S2 f => q z H2 ρ2 (s1.trans s2) S2 f⟩
theorem w_js (h : Wj K pf ts Str.empty ρ fun z ρ1 => Φ (.str z) ρ1) : Wp K pf (fun σ H Q => tJs ts Str.empty σ H fun out H1 => Q (.str out) H1) ρ Φ := fun M σ H S Q q =>
  h M σ H S _ fun z H2 ρ2 s S2 f => q _ H2 _ ρ2 s S2 (.str z) f
/-- truth -/
theorem wt_seq {Θ : Bool → List Sl → Prop} (h : Wp K pf te ρ fun d ρ1 => ∃ xs, seqD d = some xs ∧ Θ (!xs.isEmpty) ρ1) : Wt K pf (fun σ H Q => te σ H fun x H' => ∃ k, TruV K x H' k ∧ Q k H') ρ Θ := fun M σ H S Q q =>
  h M σ H S _ fun v H1 d ρ1 s1 S1 x ⟨xs, e, f⟩ => by
    cases x with
    | @lst a vs ds hs ha =>
      cases e
      refine ⟨_, .inl ⟨vs, (cut_sub M H1).seq hs, rfl⟩, ?_⟩
      have : vs.isEmpty = xs.isEmpty := by have := ha.len; cases vs <;> cases xs <;> first | rfl | (simp at this)
      rw [this]
      exact q _ H1 ρ1 s1 S1 f
    | @tup a vs ds hs ha =>
      cases e
      refine ⟨_, .inr (.inl ⟨vs, same_T (cut_sub M H1) hs, rfl⟩), ?_⟩
      have : vs.isEmpty = xs.isEmpty := by have := ha.len; cases vs <;> cases xs <;> first | rfl | (simp at this)
      rw [this]
      exact q _ H1 ρ1 s1 S1 f
    | _ => cases e
end
theorem truthK {X : Cx} (K : PySem.W.Frag) (h : X.K = K) {a : Expr} {ta : TE} (ha : PE X a ta) (he : ∀ whole, PySem.isTrue a X.env whole = (do let v ← whole; standAt a.pos; holding [v] (truthy v))) : PT X a (fun σ H Q => ta σ H fun x H' => ∃ k, TruV K x H' k ∧ Q k H') := by subst h; exact pt_truth ha he
theorem inDK {X : Cx} (K : PySem.W.Frag) (h : X.K = K) (hu : X.A.units + 65 < cLine) : OpR X (compareOp .In) (rInD K) := by subst h; exact op_inD hu
theorem indexDK {X : Cx} (K : PySem.W.Frag) (h : X.K = K) (hu : X.A.units + 65 < cLine) : MtR X "list.index" (rIndexD K) := by subst h; exact mt_indexD hu
section
variable {K : PySem.W.Frag} {pf : Bool} {ρ : List Sl} {ta te : TE} {Φ : Dt → List Sl → Prop} {Ψ : Dt → Prop}
/-- x in a list, x.index: by the data -/
theorem od_inDD {d : Dt} {ds : List Dt} (s1 : d.seqs = true) (s2 : seqss ds = true) (h1 : SeqAt.shaped d.py = true) (h2 : SeqAt.shaped (.list (pys ds)) = true) (h : Ψ (.bl ((pys ds).any fun z => PyData.eqv z d.py))) : OD K (rInD K) d (.lst ds) Ψ := fun M H u v m x1 x2 Q q => by
  have e2 := (x2.mono (cut_sub M H)).dp (show (Dt.lst ds).seqs = true by simp only [Dt.seqs]; exact s2)
  rw [show (Dt.lst ds).py = .list (pys ds) from by simp only [Dt.py]] at e2
  exact ⟨_, _, (x1.mono (cut_sub M H)).dp s1, e2, h1, h2, q _ H _ (Same.refl H) (.bl _) h⟩
theorem w_indexD {d : Dt} {ds : List Dt} {j : Nat} {z : PyData} (s1 : d.seqs = true) (s2 : seqss ds = true) (h1 : SeqAt.shaped d.py = true) (h2 : SeqAt.shaped (.list (pys ds)) = true) (hj : (pys ds)[j]? = some z) (hz : PyData.eqv z d.py = true) (hm : ∀ m z', m < j → (pys ds)[m]? = some z' → PyData.eqv z' d.py = false)
    (h : Wp K pf ta ρ fun d1 ρ1 => d1 = .lst ds ∧ Wp K pf te ρ1 fun e ρ2 => e = d ∧ Φ (.int (j : Nat)) ρ2) : Wp K pf (tBM K "list" (rIndexD K) ta (tCons te tNil)) ρ Φ := fun M σ H S Q q =>
  h M σ H S _ fun v1 H1 d1 ρ1 s1' S1 x1 ⟨e1, k⟩ => by
    subst e1
    cases x1 with
    | @lst a vs _ hs ha =>
      refine ⟨.inl ⟨rfl, vs, (cut_sub M H1).seq hs⟩, k M σ H1 S1 _ fun v2 H2 e ρ2 s2' S2 x2 ⟨e2, f⟩ => ?_⟩
      subst e2
      have x1' : DX K H2 (.ref a) (.lst ds) := (DX.lst hs ha).mono (fun b o t => cut_sub M H2 b o (s2'.dx b o t))
      have e2 := x1'.dp (show (Dt.lst ds).seqs = true by simp only [Dt.seqs]; exact s2)
      rw [show (Dt.lst ds).py = .list (pys ds) from by simp only [Dt.py]] at e2
      exact ⟨a, v2, _, _, j, z, rfl, rfl, e2, (x2.mono (cut_sub M H2)).dp s1, h2, h1, hj, hz, hm, q _ H2 _ ρ2 (s1'.trans s2') S2 (.int _) f⟩
end
end DL

/-! Data level: methods of texts without arguments; isascii, isalpha, islower together tell letters a to z. -/
namespace DL
open PySem PySem.Spec PyProof.Rows L2
variable [Tb]
section
variable {K : PySem.W.Frag} {pf : Bool} {ρ : List Sl} {ta : TE} {Φ : Dt → List Sl → Prop}
theorem w_m0 {g : Str → Bool} (h : Wp K pf ta ρ fun d ρ1 => ∃ z, d = .str z ∧ Φ (.bl (g z)) ρ1) : Wp K pf (tM0 (fun x xs H Q => ∃ a, x = .str a ∧ xs = [] ∧ True ∧ Q (.bl (g a)) H) ta) ρ Φ := fun M σ H S Q q =>
  h M σ H S _ fun v H1 d ρ1 s1 S1 x1 ⟨z, ez, k⟩ => by
    subst ez
    exact ⟨⟨z, x1.str_eq⟩, z, x1.str_eq, rfl, trivial, q _ H1 _ ρ1 s1 S1 (.bl _) k⟩
end
def lowC (c : Nat) : Bool := decide (97 ≤ c) && decide (c ≤ 122)
theorem low_one (c : Nat) : low ⟨#[c]⟩ = lowC c := by
  unfold low lowC
  have e1 : (⟨#[c]⟩ : Str).cps.toList = [c] := rfl
  have e2 : ("a" : Str).cps.toList = [97] := by decide +kernel
  have e3 : ("z" : Str).cps.toList = [122] := by decide +kernel
  rw [e1, e2, e3]
  have k (a b : Nat) : ([a] < [b]) ↔ a < b := by
    constructor
    · intro h
      cases h with
      | rel h => exact h
      | cons h => cases h
    · exact fun h => .rel h
  have k1 : decide ([c] < [97]) = decide (c < 97) := decide_eq_decide.mpr (k c 97)
  have k2 : decide ([122] < [c]) = decide (122 < c) := decide_eq_decide.mpr (k 122 c)
  rw [k1, k2]
  by_cases a : 97 ≤ c
  · rw [decide_eq_true a, decide_eq_false (show ¬ c < 97 by omega)]
    by_cases b : c ≤ 122
    · rw [decide_eq_true b, decide_eq_false (show ¬ 122 < c by omega)]; rfl
    · rw [decide_eq_false b, decide_eq_true (show 122 < c by omega)]; rfl
  · rw [decide_eq_false a, decide_eq_true (show c < 97 by omega)]; rfl
theorem ascii_low : ∀ c : Fin 128, (Unicode.isAlpha c.1 = true → (Unicode.isUpper c.1 || Unicode.isTitle c.1) = !lowC c.1) ∧ (lowC c.1 = true → Unicode.isAlpha c.1 = true ∧ Unicode.isLower c.1 = true) := by decide +kernel
theorem low_lt {c : Nat} (h : lowC c = true) : c < 128 := by
  unfold lowC at h
  rw [Bool.and_eq_true, decide_eq_true_eq, decide_eq_true_eq] at h
  omega
theorem allA {f : Nat → Bool} {z : Str} : z.cps.all f = z.cps.toList.all f := by rw [Array.all_toList]
theorem anyA {f : Nat → Bool} {z : Str} : z.cps.any f = z.cps.toList.any f := by rw [Array.any_toList]
/-- value.isascii() and value.isalpha() and value.islower() -/
theorem three_low (z : Str) : (Txt.isascii z && (Txt.isalpha z && Txt.islower z)) = (decide (1 ≤ z.length) && z.cps.toList.all lowC) := by
  unfold Txt.isascii Txt.isalpha Txt.islower
  rw [allA, allA, anyA, anyA]
  have hz : z.length = z.cps.toList.length := by rw [Array.length_toList]; rfl
  rw [hz]
  generalize z.cps.toList = l
  by_cases hl : l.all lowC = true
  · have h1 : (l.all fun c => decide (c < 128)) = true := List.all_eq_true.mpr fun c hc => decide_eq_true (low_lt (List.all_eq_true.mp hl c hc))
    have h2 : l.all Unicode.isAlpha = true := List.all_eq_true.mpr fun c hc => ((ascii_low ⟨c, low_lt (List.all_eq_true.mp hl c hc)⟩).2 (List.all_eq_true.mp hl c hc)).1
    have h3 : (l.any fun c => Unicode.isUpper c || Unicode.isTitle c) = false := by
      rw [List.any_eq_false]
      intro c hc
      have a := List.all_eq_true.mp hl c hc
      have b := ascii_low ⟨c, low_lt a⟩
      rw [b.1 (b.2 a).1]
      show ¬ (!lowC c) = true
      rw [a]
      decide
    rw [h1, h2, h3, hl]
    cases l with
    | nil => rfl
    | cons c cs =>
      have a := List.all_eq_true.mp hl c (List.mem_cons_self ..)
      have h4 : (c :: cs).any Unicode.isLower = true := List.any_eq_true.mpr ⟨c, List.mem_cons_self .., ((ascii_low ⟨c, low_lt a⟩).2 a).2⟩
      rw [h4]
      rfl
  · rw [Bool.not_eq_true] at hl
    rw [hl, Bool.and_false]
    cases h1 : (l.all fun c => decide (c < 128)) with
    | false => rfl
    | true =>
      cases h2 : l.all Unicode.isAlpha with
      | false => rw [Bool.and_false]; rfl
      | true =>
        have h3 : (l.any fun c => Unicode.isUpper c || Unicode.isTitle c) = true := by
          rw [List.all_eq_false] at hl
          obtain ⟨c, hc, n⟩ := hl
          rw [List.any_eq_true]
          refine ⟨c, hc, ?_⟩
          have b := ascii_low ⟨c, of_decide_eq_true (List.all_eq_true.mp h1 c hc)⟩
          rw [b.1 (List.all_eq_true.mp h2 c hc)]
          show (!lowC c) = true
          rw [Bool.not_eq_true] at n
          rw [n]
          rfl
        rw [h3]
        simp
theorem isName_three {z : Str} (h : z.length ≤ 8) : isName (.str z) = (Txt.isascii z && (Txt.isalpha z && Txt.islower z)) := by
  rw [three_low]
  show (decide (1 ≤ z.length) && decide (z.length ≤ 8) && (DL.signs z).all lowD) = _
  rw [decide_eq_true h, Bool.and_true]
  congr 1
  unfold DL.signs
  rw [List.all_map]
  congr 1
  funext c
  exact low_one c
theorem isName_long {z : Str} (h : 8 < z.length) : isName (.str z) = false := by
  show (decide (1 ≤ z.length) && decide (z.length ≤ 8) && (DL.signs z).all lowD) = _
  rw [decide_eq_false (show ¬ z.length ≤ 8 by omega), Bool.and_false, Bool.false_and]
end DL

namespace K05
open PySem PySem.Spec PyProof.Rows L2 DL
/-- no def of this law makes a lambda -/
instance noTb : DL.Tb := ⟨[]⟩
def topS (i : Nat) : Stmt := PySem.Challenge.pw_duskisles_k05_stations_hand_on.main.body.getD i (.Pass ⟨0, 0, 0, 0⟩)
abbrev sInt : Stmt := topS 6
abbrev sNam : Stmt := topS 7
abbrev sOwn : Stmt := topS 8
abbrev sRow : Stmt := topS 9
abbrev sLead : Stmt := topS 10
theorem scInt : FnScope ["value"] ["value"] (defScope sInt) := ⟨rfl, rfl, rfl, by decide +kernel, rfl, by decide +kernel, by decide +kernel⟩
theorem scNam : FnScope ["value"] ["value"] (defScope sNam) := ⟨rfl, rfl, rfl, by decide +kernel, rfl, by decide +kernel, by decide +kernel⟩
theorem scOwn : FnScope ["value"] ["value"] (defScope sOwn) := ⟨rfl, rfl, rfl, by decide +kernel, rfl, by decide +kernel, by decide +kernel⟩
theorem scRow : FnScope ["value", "most", "name"] ["value", "most"] (defScope sRow) := ⟨rfl, rfl, rfl, by decide +kernel, rfl, by decide +kernel, by decide +kernel⟩
theorem scLead : FnScope ["value"] ["value"] (defScope sLead) := ⟨rfl, rfl, rfl, by decide +kernel, rfl, by decide +kernel, by decide +kernel⟩
section
variable {P : Program} {w : World} {K : PySem.W.Frag} {mg : Str → Option Value} {base : Heap}
/-! ### is_integer -/
def WInt : List Dt → (Dt → Prop) → Prop := fun ds Φ => ∃ d, ds = [d] ∧ noTy d = true ∧ Φ (.bl (isInt d))
theorem ok_int {f : Addr} {fd : FuncData} (F : Fun K "is_integer" "is_integer" sInt f fd) (B : Bt mg) : FnOk P w K mg base CX0 1 f fd ["value"] (spP K WInt) := by
  refine defP0 F scInt (fun ds Φ ⟨d, e, _⟩ => by rw [e]; rfl) (by decide) fun cdv A outer s H E hr => ?_
  refine ⟨_, pss_one (ps_ret (pe_and (pe_callB call_isi (by rfl) B.isi boot_isinstance (pa_cons (pv 0) (pa_cons (pe_bltn (v := .ty "int") (by rfl) B.int PyProof.Rows.boot_int rfl) pa_nil)))
    (pe_one (pe_not (pe_callB call_isi (by rfl) B.isi boot_isinstance (pa_cons (pv 0) (pa_cons (pe_bltn (v := .ty "bool") (by rfl) B.bool PyProof.Rows.boot_bool rfl) pa_nil))))))), ?_⟩
  rintro ds Φ ⟨d, rfl, hd, q⟩
  obtain ⟨b, k1, k2, k3⟩ := kit_int hd
  obtain ⟨c, k4⟩ := kit_bool hd
  refine ws_ret (pf := true) (w_andV (w_cb (wa_cons (w_var rfl (wa_cons (w_c (fun _ => .ty "int") (wa_nil (rd_isi (noTy_ne hd) k1 ⟨b, rfl, ?_⟩))))))))
  cases b with
  | true =>
    rw [if_pos rfl]
    refine w_notV (w_cb (wa_cons (w_var rfl (wa_cons (w_c (fun _ => .ty "bool") (wa_nil (rd_isi (noTy_ne hd) k4 ⟨c, rfl, ?_⟩)))))))
    rw [← k2 rfl c k4]
    exact q
  | false =>
    rw [if_neg Bool.false_ne_true, ← k3 rfl]
    exact q
/-! ### is_name -/
def WNam : List Dt → (Dt → Prop) → Prop := fun ds Φ => ∃ d, ds = [d] ∧ shortD d = true ∧ Φ (.bl (isName d))
theorem ok_nam {f : Addr} {fd : FuncData} {tk : Tok} (F : Fun K "is_name" "is_name" sNam f fd) (B : Bt mg) (hM : mg "MOST_LETTERS" = some (.int 8 tk)) : FnOk P w K mg base CX0 1 f fd ["value"] (spP K WNam) := by
  refine defP0 F scNam (fun ds Φ ⟨d, e, _⟩ => by rw [e]; rfl) (by decide) fun cdv A outer s H E hr => ?_
  refine ⟨_, pss_cons (ps_if (PW.pt (pw_or (pt_not (pt_val (pe_callB call_isi (by rfl) B.isi boot_isinstance (pa_cons (pv 0) (pa_cons (pe_bltn (v := .ty "str") (by rfl) B.str PyProof.Rows.boot_str rfl) pa_nil)))))
      (pw_or1 (pt_cmpR op_gt (pe_callB call_len (by rfl) B.len PySem.boot_len (pa_cons (pv 0) pa_nil)) (pe_glob (v := .int 8) (by rfl) hM ⟨_, rfl⟩) (nomark _)))))
      (pss_one (ps_ret pe_bl)) pss_nil)
    (pss_one (ps_ret (pe_and (pe_m0 PySem.F.slot_str_isascii PySem.F.type_str_isascii mt_isascii (pv 0)) (pe_and (pe_m0 PySem.F.slot_str_isalpha PySem.F.type_str_isalpha mt_isalpha (pv 0)) (pe_one (pe_m0 PySem.F.slot_str_islower PySem.F.type_str_islower mt_islower (pv 0))))))), ?_⟩
  rintro ds Φ ⟨d, rfl, hd, q⟩
  refine ws_seq <| ws_if (pf := true) <| wt_or <| wt_not <| wt_B <| w_isi rfl (shortD_no hd) (kit_str (shortD_no hd)) ⟨_, rfl, ?_⟩
  cases c : isStr d with
  | false =>
    refine ifT (ifT (ws_ret (pf := true) (w_c (fun _ => .bl false) ?_)))
    have e : isName d = false := by
      cases d with
      | str z => cases c
      | _ => rfl
    rw [e] at q
    exact q
  | true =>
    obtain ⟨z, rfl⟩ := isStr_of c
    have hz : z.length ≤ 1000 := of_decide_eq_true hd
    refine ifF <| wt_test <| w_op <| w_cb <| wa_cons <| w_var rfl <| wa_nil <| rd_len (len1000 hz) <| w_c (fun _ => .int 8) <| od_I0b ⟨_, rfl, ?_⟩
    by_cases c1 : (8 : Int) < (z.length : Nat)
    · rw [decide_eq_true c1]
      rw [isName_long (by omega)] at q
      exact ifT (ws_ret (pf := true) (w_c (fun _ => .bl false) q))
    · rw [decide_eq_false c1]
      rw [isName_three (by omega)] at q
      refine ifF <| ws_next <| ws_ret (pf := true) <| w_andV <| w_m0 (g := Txt.isascii) <| w_var (d := .str z) rfl ⟨z, rfl, _, rfl, ?_⟩
      cases a : Txt.isascii z with
      | false =>
        rw [a, Bool.false_and] at q
        exact ifF q
      | true =>
        rw [a, Bool.true_and] at q
        refine ifT <| w_andV <| w_m0 (g := Txt.isalpha) <| w_var (d := .str z) rfl ⟨z, rfl, _, rfl, ?_⟩
        cases a : Txt.isalpha z with
        | false =>
          rw [a, Bool.false_and] at q
          exact ifF q
        | true =>
          rw [a, Bool.true_and] at q
          exact ifT <| w_m0 (g := Txt.islower) <| w_var (d := .str z) rfl ⟨z, rfl, q⟩
/-! ### is_own_name -/
def WOwn : List Dt → (Dt → Prop) → Prop := fun ds Φ => ∃ d, ds = [d] ∧ shortD d = true ∧ Φ (.bl (isOwn d))
theorem ok_own {f fN : Addr} {fd fdN : FuncData} {k : Nat} (F : Fun K "is_own_name" "is_own_name" sOwn f fd) (FN : Fun K "is_name" "is_name" sNam fN fdN) (bN : Binds K fdN ["value"] []) (gN : mg "is_name" = some (.ref fN)) (G : FnOk P w K mg base CX0 k fN fdN ["value"] (spP K WNam)) :
    FnOk P w K mg base CX0 (k + 1) f fd ["value"] (spP K WOwn) := by
  refine defP0 F scOwn (fun ds Φ ⟨d, e, _⟩ => by rw [e]; rfl) (by decide) fun cdv A outer s H E hr => ?_
  refine ⟨_, pss_one (ps_ret (pe_and (pe_call G hr (by rfl) gN FN.kp bN .nil pass0 (pa_cons (pv 0) pa_nil)) (pe_one (pe_cmpR op_ne (pv 0) pe_str (nomark _))))), ?_⟩
  rintro ds Φ ⟨d, rfl, hd, q⟩
  refine ws_ret (pf := true) <| w_andV <| w_call0 <| wa_cons <| w_var rfl <| wa_nil ⟨d, rfl, hd, _, rfl, ?_⟩
  cases c : isName d with
  | false => exact ifF (by rw [isOwn_no c] at q; exact q)
  | true =>
    obtain ⟨z, rfl⟩ := isName_str c
    rw [isOwn_eq, c, Bool.true_and] at q
    exact ifT <| w_op <| w_var rfl <| w_c (fun _ => .str _) <| od_nes q
/-! ### is_name_row -/
def WRow : List Dt → (Dt → Prop) → Prop := fun ds Φ => ∃ d m, ds = [d, .int m] ∧ thingD d = true ∧ Φ (.bl (isRow d m))
theorem ok_row {f fN : Addr} {fd fdN : FuncData} {k : Nat} (F : Fun K "is_name_row" "is_name_row" sRow f fd) (FN : Fun K "is_own_name" "is_own_name" sOwn fN fdN) (bN : Binds K fdN ["value"] []) (gN : mg "is_own_name" = some (.ref fN)) (B : Bt mg) (G : FnOk P w K mg base CX0 k fN fdN ["value"] (spP K WOwn)) :
    FnOk P w K mg base CX0 (k + 1) f fd ["value", "most"] (spP K WRow) := by
  refine defP0 F scRow (fun ds Φ ⟨d, m, e, _⟩ => by rw [e]; rfl) (by decide) fun cdv A outer s H E hr => ?_
  refine ⟨_, pss_cons (ps_if (PW.pt (pw_or (pt_not (pt_val (pe_callB call_isi (by rfl) B.isi boot_isinstance (pa_cons (pv 0) (pa_cons (pe_bltn (v := .ty "tuple") (by rfl) B.tuple PyProof.Rows.boot_tuple rfl) pa_nil)))))
      (pw_or1 (pt_cmpR op_gt (pe_callB call_len (by rfl) B.len PySem.boot_len (pa_cons (pv 0) pa_nil)) (pv 1) (nomark _)))))
      (pss_one (ps_ret pe_bl)) pss_nil)
    <| pss_cons (ps_for PassesOwn.never rfl (pi_tup (pv 0)) (pg_name (i := 2) scRow.nd rfl (Or.inl rfl))
      (pss_one (ps_if (pt_not (pt_val (pe_call G hr (by rfl) gN FN.kp bN .nil pass0 (pa_cons (pv 2) pa_nil)))) (pss_one (ps_ret pe_bl)) pss_nil)))
    <| pss_one (ps_ret (pe_cmpR op_eq (pe_lenS rfl (by rfl) B.len (by rfl) B.set (pv 0)) (pe_callB call_len (by rfl) B.len PySem.boot_len (pa_cons (pv 0) pa_nil)) (nomark _))), ?_⟩
  rintro ds Φ ⟨d, m, rfl, hd, q⟩
  refine ws_seq <| ws_if (pf := true) <| wt_or <| wt_not <| wt_B <| w_isi rfl (thingD_no hd) (kit_tup (thingD_no hd)) ⟨_, rfl, ?_⟩
  cases c : isTup d with
  | false =>
    refine ifT <| ifT <| ws_ret (pf := true) <| w_c (fun _ => .bl false) ?_
    have e : isRow d m = false := by
      cases d with
      | tup z => cases c
      | _ => rfl
    rw [e] at q
    exact q
  | true =>
    obtain ⟨xs, rfl⟩ := isTup_of c
    obtain ⟨hz, hs⟩ := thingD_tup hd
    refine ifF <| wt_test <| w_op <| w_cb <| wa_cons <| w_var rfl <| wa_nil <| rd_len rfl <| w_var rfl <| od_I0b ⟨_, rfl, ?_⟩
    by_cases c1 : m < (xs.length : Nat)
    · rw [decide_eq_true c1]
      refine ifT <| ws_ret (pf := true) <| w_c (fun _ => .bl false) ?_
      have e : isRow (.tup xs) m = false := by
        show (decide _ && _) = _
        rw [decide_eq_false (show ¬ ((xs.length : Nat) : Int) ≤ m by omega), Bool.false_and]
      rw [e] at q
      exact q
    · rw [decide_eq_false c1]
      have e : isRow (.tup xs) m = rowIs xs := by
        show (decide _ && _) = _
        rw [decide_eq_true (show ((xs.length : Nat) : Int) ≤ m by omega), Bool.true_and]
      rw [e] at q
      refine ifF <| ws_next <| ws_seqI (fun ρ' => xs.all isOwn = true ∧ ∃ s, ρ' = [.dat (.tup xs), .dat (.int m), s]) ?_ ?_
      · refine ws_for (js := [2]) (fun ds i ρ' => ds = xs ∧ (xs.take i).all isOwn = true ∧ ∃ s, ρ' = [.dat (.tup xs), .dat (.int m), s]) <| wi_tup (pf := true) <| w_var (d := .tup xs) rfl ⟨xs, rfl, ⟨rfl, rfl, _, rfl⟩, ?_, ?_⟩
        · rintro i d ρ2 hd ⟨-, ha, s, rfl⟩
          have hm := List.mem_of_getElem? hd
          refine wg_name <| ws_if (pf := true) <| wt_not <| wt_B <| w_call0 <| wa_cons <| w_var (d := d) rfl <| wa_nil ⟨d, rfl, hs d hm, _, rfl, ?_⟩
          have et : xs.take (i + 1) = xs.take i ++ [d] := by rw [List.take_add_one, hd]; rfl
          cases co : isOwn d with
          | false =>
            refine ifT <| ws_ret (pf := true) <| w_c (fun _ => .bl false) ?_
            have e : rowIs xs = false := by
              unfold rowIs
              rw [List.all_eq_false.mpr ⟨d, hm, by rw [co]; decide⟩, Bool.false_and]
            rw [e] at q
            exact q
          | true =>
            refine ifF <| ws_next ⟨rfl, ?_, _, rfl⟩
            rw [et, List.all_append, ha, List.all_cons, co]
            rfl
        · rintro ρ2 ⟨-, ha, s, rfl⟩
          rw [List.take_length] at ha
          exact ⟨ha, _, rfl⟩
      · rintro ρ' ⟨ca, s, rfl⟩
        obtain ⟨ss, rfl⟩ := all_str (fun _ => isOwn_str) ca
        unfold rowIs at q
        rw [ca, Bool.true_and, strsOf_map] at q
        rw [List.length_map] at hz
        refine ws_ret (pf := true) <| w_op <| w_lenS <| w_var (d := .tup (ss.map Dt.str)) rfl ⟨ss, rfl, hz, w_cb <| wa_cons <| w_var (d := .tup (ss.map Dt.str)) rfl <| wa_nil <| rd_len rfl <| od_eqi ?_⟩
        rw [List.length_map, uniq_dec]
        exact q
/-! ### is_lead -/
def WLead : List Dt → (Dt → Prop) → Prop := fun ds Φ => ∃ d, ds = [d] ∧ thingD d = true ∧ Φ (.bl (isRow d 4))
theorem ok_lead {f fN : Addr} {fd fdN : FuncData} {k : Nat} {tk : Tok} (F : Fun K "is_lead" "is_lead" sLead f fd) (FN : Fun K "is_name_row" "is_name_row" sRow fN fdN) (bN : Binds K fdN ["value", "most"] []) (gN : mg "is_name_row" = some (.ref fN)) (hM : mg "MOST_IN_LEAD" = some (.int 4 tk)) (G : FnOk P w K mg base CX0 k fN fdN ["value", "most"] (spP K WRow)) :
    FnOk P w K mg base CX0 (k + 1) f fd ["value"] (spP K WLead) := by
  refine defP0 F scLead (fun ds Φ ⟨d, e, _⟩ => by rw [e]; rfl) (by decide) fun cdv A outer s H E hr => ?_
  refine ⟨_, pss_one (ps_ret (pe_call G hr (by rfl) gN FN.kp bN .nil pass0 (pa_cons (pv 0) (pa_cons (pe_glob (v := .int 4) (by rfl) hM ⟨_, rfl⟩) pa_nil)))), ?_⟩
  rintro ds Φ ⟨d, rfl, hd, q⟩
  exact ws_ret (pf := true) <| w_call0 <| wa_cons <| w_var rfl <| wa_cons <| w_c (fun _ => .int 4) <| wa_nil ⟨d, 4, rfl, hd, q⟩
end

/-! ### the classes of stations -/
abbrev sPass_on : Stmt := inClass (topS 13) 1
theorem scPass_on : FnScope ["self"] ["self"] (defScope sPass_on) := ⟨rfl, rfl, rfl, by decide +kernel, rfl, by decide +kernel, by decide +kernel⟩
abbrev sPass_owner : Stmt := inClass (topS 13) 2
theorem scPass_owner : FnScope ["self"] ["self"] (defScope sPass_owner) := ⟨rfl, rfl, rfl, by decide +kernel, rfl, by decide +kernel, by decide +kernel⟩
abbrev sPass_gives : Stmt := inClass (topS 13) 3
theorem scPass_gives : FnScope ["self"] ["self"] (defScope sPass_gives) := ⟨rfl, rfl, rfl, by decide +kernel, rfl, by decide +kernel, by decide +kernel⟩
abbrev sPass_line : Stmt := inClass (topS 13) 4
theorem scPass_line : FnScope ["self"] ["self"] (defScope sPass_line) := ⟨rfl, rfl, rfl, by decide +kernel, rfl, by decide +kernel, by decide +kernel⟩
abbrev sPass_handed : Stmt := inClass (topS 13) 5
theorem scPass_handed : FnScope ["self", "mark", "dark", "dusty", "shut", "held"] ["self", "mark", "dark", "dusty", "shut", "held"] (defScope sPass_handed) := ⟨rfl, rfl, rfl, by decide +kernel, rfl, by decide +kernel, by decide +kernel⟩
abbrev sPass_propped : Stmt := inClass (topS 13) 6
theorem scPass_propped : FnScope ["self", "on", "line"] ["self", "on", "line"] (defScope sPass_propped) := ⟨rfl, rfl, rfl, by decide +kernel, rfl, by decide +kernel, by decide +kernel⟩
abbrev sPass_eq : Stmt := inClass (topS 13) 7
theorem scPass_eq : FnScope ["self", "other"] ["self", "other"] (defScope sPass_eq) := ⟨rfl, rfl, rfl, by decide +kernel, rfl, by decide +kernel, by decide +kernel⟩
abbrev sPass_init : Stmt := inClass (topS 13) 0
theorem scPass_init : FnScope ["self", "on"] ["self", "on"] (defScope sPass_init) := ⟨rfl, rfl, rfl, by decide +kernel, rfl, by decide +kernel, by decide +kernel⟩
abbrev sClamp_on : Stmt := inClass (topS 14) 1
theorem scClamp_on : FnScope ["self"] ["self"] (defScope sClamp_on) := ⟨rfl, rfl, rfl, by decide +kernel, rfl, by decide +kernel, by decide +kernel⟩
abbrev sClamp_owner : Stmt := inClass (topS 14) 2
theorem scClamp_owner : FnScope ["self"] ["self"] (defScope sClamp_owner) := ⟨rfl, rfl, rfl, by decide +kernel, rfl, by decide +kernel, by decide +kernel⟩
abbrev sClamp_gives : Stmt := inClass (topS 14) 3
theorem scClamp_gives : FnScope ["self"] ["self"] (defScope sClamp_gives) := ⟨rfl, rfl, rfl, by decide +kernel, rfl, by decide +kernel, by decide +kernel⟩
abbrev sClamp_line : Stmt := inClass (topS 14) 4
theorem scClamp_line : FnScope ["self"] ["self"] (defScope sClamp_line) := ⟨rfl, rfl, rfl, by decide +kernel, rfl, by decide +kernel, by decide +kernel⟩
abbrev sClamp_handed : Stmt := inClass (topS 14) 5
theorem scClamp_handed : FnScope ["self", "mark", "dark", "dusty", "shut", "held"] ["self", "mark", "dark", "dusty", "shut", "held"] (defScope sClamp_handed) := ⟨rfl, rfl, rfl, by decide +kernel, rfl, by decide +kernel, by decide +kernel⟩
abbrev sClamp_propped : Stmt := inClass (topS 14) 6
theorem scClamp_propped : FnScope ["self", "on", "line"] ["self", "on", "line"] (defScope sClamp_propped) := ⟨rfl, rfl, rfl, by decide +kernel, rfl, by decide +kernel, by decide +kernel⟩
abbrev sClamp_eq : Stmt := inClass (topS 14) 7
theorem scClamp_eq : FnScope ["self", "other"] ["self", "other"] (defScope sClamp_eq) := ⟨rfl, rfl, rfl, by decide +kernel, rfl, by decide +kernel, by decide +kernel⟩
abbrev sClamp_init : Stmt := inClass (topS 14) 0
theorem scClamp_init : FnScope ["self", "on", "owner", "gives", "line", "wrong"] ["self", "on", "owner", "gives", "line"] (defScope sClamp_init) := ⟨rfl, rfl, rfl, by decide +kernel, rfl, by decide +kernel, by decide +kernel⟩
abbrev sHolding_on : Stmt := inClass (topS 15) 1
theorem scHolding_on : FnScope ["self"] ["self"] (defScope sHolding_on) := ⟨rfl, rfl, rfl, by decide +kernel, rfl, by decide +kernel, by decide +kernel⟩
abbrev sHolding_owner : Stmt := inClass (topS 15) 2
theorem scHolding_owner : FnScope ["self"] ["self"] (defScope sHolding_owner) := ⟨rfl, rfl, rfl, by decide +kernel, rfl, by decide +kernel, by decide +kernel⟩
abbrev sHolding_gives : Stmt := inClass (topS 15) 3
theorem scHolding_gives : FnScope ["self"] ["self"] (defScope sHolding_gives) := ⟨rfl, rfl, rfl, by decide +kernel, rfl, by decide +kernel, by decide +kernel⟩
abbrev sHolding_line : Stmt := inClass (topS 15) 4
theorem scHolding_line : FnScope ["self"] ["self"] (defScope sHolding_line) := ⟨rfl, rfl, rfl, by decide +kernel, rfl, by decide +kernel, by decide +kernel⟩
abbrev sHolding_handed : Stmt := inClass (topS 15) 5
theorem scHolding_handed : FnScope ["self", "mark", "dark", "dusty", "shut", "held"] ["self", "mark", "dark", "dusty", "shut", "held"] (defScope sHolding_handed) := ⟨rfl, rfl, rfl, by decide +kernel, rfl, by decide +kernel, by decide +kernel⟩
abbrev sHolding_propped : Stmt := inClass (topS 15) 6
theorem scHolding_propped : FnScope ["self", "on", "line"] ["self", "on", "line"] (defScope sHolding_propped) := ⟨rfl, rfl, rfl, by decide +kernel, rfl, by decide +kernel, by decide +kernel⟩
abbrev sHolding_eq : Stmt := inClass (topS 15) 7
theorem scHolding_eq : FnScope ["self", "other"] ["self", "other"] (defScope sHolding_eq) := ⟨rfl, rfl, rfl, by decide +kernel, rfl, by decide +kernel, by decide +kernel⟩
abbrev sHolding_init : Stmt := inClass (topS 15) 0
theorem scHolding_init : FnScope ["self", "on", "owner", "line", "wrong"] ["self", "on", "owner", "line"] (defScope sHolding_init) := ⟨rfl, rfl, rfl, by decide +kernel, rfl, by decide +kernel, by decide +kernel⟩
abbrev iInv : Stmt := inClass (topS 2) 0
theorem scInv : FnScope ["self", "part"] ["self", "part"] (defScope iInv) := ⟨rfl, rfl, rfl, by decide +kernel, rfl, by decide +kernel, by decide +kernel⟩
abbrev sWrong : Stmt := topS 16
theorem scWrong : FnScope ["on", "owner", "gives", "line"] ["on", "owner", "gives", "line"] (defScope sWrong) := ⟨rfl, rfl, rfl, by decide +kernel, rfl, by decide +kernel, by decide +kernel⟩
abbrev sPlace : Stmt := topS 17
theorem scPlace : FnScope ["place", "propped"] ["place", "propped"] (defScope sPlace) := ⟨rfl, rfl, rfl, by decide +kernel, rfl, by decide +kernel, by decide +kernel⟩
abbrev sLeft : Stmt := topS 18
theorem scLeft : FnScope ["line", "gone", "index", "name"] ["line", "gone"] (defScope sLeft) := ⟨rfl, rfl, rfl, by decide +kernel, rfl, by decide +kernel, by decide +kernel⟩

/-! ### what is asked of a part -/
def bitD : Dt → Bool
  | .int i => decide (0 ≤ i) && decide (i ≤ 1)
  | _ => false
def wrongD (o w g l : Dt) : Option Str := if isName o = false then some "on" else if isOwn w = false then some "owner" else if bitD g = false then some "gives" else if isRow l 4 = false then some "line" else none
def wD : Option Str → Dt
  | none => .non
  | some z => .str z
/-- one part of a station, a thing of moderate size -/
structure Gd (o w g l : Dt) : Prop where
  o : shortD o = true
  w : shortD w = true
  g : noTy g = true
  l : thingD l = true
def flds (k : Nat) : List Str := if k = 0 then ["_on"] else ["_on", "_owner", "_gives", "_line"]
def vals (k : Nat) (o w g l : Dt) : List Dt := if k = 0 then [o] else if k = 1 then [o, w, g, l] else [o, w, .non, l]
def stD (c : Nat → Addr) (k : Nat) (a : Addr) (o w g l : Dt) : Dt := .ins (c k) a (flds k) (vals k o w g l)
def fault (k : Nat) (o w g l : Dt) : Option Str := if k = 0 then (if isName o = false then some "on" else none) else wrongD o w (if k = 1 then g else .int 0) l
def ownerD (k : Nat) (w : Dt) : Dt := if k = 0 then .non else w
def givesD (k : Nat) (g : Dt) : Dt := if k = 1 then g else .non
def lineD (k : Nat) (l : Dt) : Dt := if k = 0 then .tup [] else l
section
variable {P : Program} {w : World} {K : PySem.W.Frag} {mg : Str → Option Value} {base : Heap}
/-! ### _wrong_part, _place, _left -/
def WWrong : List Dt → (Dt → Prop) → Prop := fun ds Φ => ∃ o w g l, ds = [o, w, g, l] ∧ Gd o w g l ∧ Φ (wD (wrongD o w g l))
theorem ok_wrong {f : Addr} {fd : FuncData} {k : Nat} (F : Fun K "_wrong_part" "_wrong_part" sWrong f fd) (dI : DF K mg "is_integer" sInt ["value"]) (dN : DF K mg "is_name" sNam ["value"]) (dO : DF K mg "is_own_name" sOwn ["value"]) (dL : DF K mg "is_lead" sLead ["value"])
    (gI : FnOk P w K mg base CX0 k dI.f dI.fd ["value"] (spP K WInt)) (gN : FnOk P w K mg base CX0 k dN.f dN.fd ["value"] (spP K WNam)) (gO : FnOk P w K mg base CX0 k dO.f dO.fd ["value"] (spP K WOwn)) (gL : FnOk P w K mg base CX0 k dL.f dL.fd ["value"] (spP K WLead)) :
    FnOk P w K mg base CX0 (k + 1) f fd ["on", "owner", "gives", "line"] (spP K WWrong) := by
  refine defP0 F scWrong (fun ds Φ ⟨o, w, g, l, e, _⟩ => by rw [e]; rfl) (by decide) fun cdv A outer s H E hr => ?_
  refine ⟨_, pss_cons (ps_if (pt_not (pt_val (pe_call gN hr (by rfl) dN.g dN.F.kp dN.b .nil pass0 (pa_cons (pv 0) pa_nil)))) (pss_one (ps_ret pe_str)) pss_nil)
    <| pss_cons (ps_if (pt_not (pt_val (pe_call gO hr (by rfl) dO.g dO.F.kp dO.b .nil pass0 (pa_cons (pv 1) pa_nil)))) (pss_one (ps_ret pe_str)) pss_nil)
    <| pss_cons (ps_if (PW.pt (pw_or (pt_not (pt_val (pe_call gI hr (by rfl) dI.g dI.F.kp dI.b .nil pass0 (pa_cons (pv 2) pa_nil)))) (pw_or1 (pt_not (pt_chain op_le op_le pe_int (pv 2) pe_int))))) (pss_one (ps_ret pe_str)) pss_nil)
    <| pss_cons (ps_if (pt_not (pt_val (pe_call gL hr (by rfl) dL.g dL.F.kp dL.b .nil pass0 (pa_cons (pv 3) pa_nil)))) (pss_one (ps_ret pe_str)) pss_nil)
    <| pss_one (ps_ret pe_non), ?_⟩
  rintro ds Φ ⟨o, w, g, l, rfl, hd, q⟩
  unfold wrongD at q
  refine ws_seq <| ws_if (pf := true) <| wt_not <| wt_B <| w_call0 <| wa_cons <| w_var (d := o) rfl <| wa_nil ⟨o, rfl, hd.o, _, rfl, ?_⟩
  cases c1 : isName o with
  | false => rw [c1, if_pos rfl] at q; exact ifT <| ws_ret (pf := true) <| w_c (fun _ => .str _) q
  | true =>
    rw [c1, if_neg (by decide)] at q
    refine ifF <| ws_next <| ws_seq <| ws_if (pf := true) <| wt_not <| wt_B <| w_call0 <| wa_cons <| w_var (d := w) rfl <| wa_nil ⟨w, rfl, hd.w, _, rfl, ?_⟩
    cases c2 : isOwn w with
    | false => rw [c2, if_pos rfl] at q; exact ifT <| ws_ret (pf := true) <| w_c (fun _ => .str _) q
    | true =>
      rw [c2, if_neg (by decide)] at q
      have last' : bitD g = true → Ws K (tSeq (tIfS (tNot (tB (tCall (spP K WLead) [] E0 (tCons (tVar 3) tNil)))) (tRet (tC (V.str "line"))) tNext) (tRet (tC V.non))) (slots [o, w, g, l] 0) { nx := fun _ => Φ .non, rt := fun d _ => Φ d } := fun c3 => by
        rw [c3, if_neg (by decide)] at q
        refine ws_seq <| ws_if (pf := true) <| wt_not <| wt_B <| w_call0 <| wa_cons <| w_var (d := l) rfl <| wa_nil ⟨l, rfl, hd.l, _, rfl, ?_⟩
        cases c4 : isRow l 4 with
        | false =>
          rw [c4, if_pos rfl] at q
          exact ifT <| ws_ret (pf := true) <| w_c (fun _ => .str _) q
        | true =>
          rw [c4, if_neg (by decide)] at q
          exact ifF <| ws_next <| ws_ret (pf := true) <| w_c (fun _ => .non) q
      refine ifF <| ws_next <| ws_seq <| ws_if (pf := true) <| wt_or <| wt_not <| wt_B <| w_call0 <| wa_cons <| w_var (d := g) rfl <| wa_nil ⟨g, rfl, hd.g, _, rfl, ?_⟩
      cases g with
      | int i =>
        refine ifF <| wt_not <| wt_test <| w_chain <| w_c (fun _ => .int 0) <| w_var (d := .int i) rfl <| od_I0b ⟨_, rfl, ?_⟩
        by_cases h0 : (0 : Int) ≤ i
        · rw [decide_eq_true h0]
          refine ifT <| w_c (fun _ => .int 1) <| od_I0b ⟨_, rfl, ?_⟩
          by_cases h1 : i ≤ 1
          · rw [decide_eq_true h1]
            exact ifF <| ws_next <| last' (by show (decide _ && decide _) = true; rw [decide_eq_true h0, decide_eq_true h1]; rfl)
          · have e : bitD (.int i) = false := by show (decide _ && decide _) = false; rw [decide_eq_false h1, Bool.and_false]
            rw [decide_eq_false h1]
            rw [e, if_pos rfl] at q
            exact ifT <| ws_ret (pf := true) <| w_c (fun _ => .str _) q
        · have e : bitD (.int i) = false := by show (decide _ && decide _) = false; rw [decide_eq_false h0, Bool.false_and]
          rw [decide_eq_false h0]
          rw [e, if_pos rfl] at q
          exact ifF ⟨_, rfl, ifT <| ws_ret (pf := true) <| w_c (fun _ => .str _) q⟩
      | _ => exact ifT <| ifT <| ws_ret (pf := true) <| w_c (fun _ => .str _) (by rw [if_pos (show bitD _ = false from rfl)] at q; exact q)
def WPlace : List Dt → (Dt → Prop) → Prop := fun ds Φ => ∃ o b, ds = [o, .bl b] ∧ Φ (if b = true then .str "shore" else o)
theorem ok_place {f : Addr} {fd : FuncData} (F : Fun K "_place" "_place" sPlace f fd) : FnOk P w K mg base CX0 1 f fd ["place", "propped"] (spP K WPlace) := by
  refine defP0 F scPlace (fun ds Φ ⟨o, b, e, _⟩ => by rw [e]; rfl) (by decide) fun cdv A outer s H E hr => ?_
  refine ⟨_, pss_one (ps_ret (pe_ifExp (pt_val (pv 1)) pe_str (pv 0))), ?_⟩
  rintro ds Φ ⟨o, b, rfl, q⟩
  refine ws_ret (pf := true) <| w_if <| wt_B <| w_var (d := .bl b) rfl ⟨b, rfl, ?_⟩
  cases b with
  | true => exact ifT <| w_c (fun _ => .str _) q
  | false => exact ifF <| w_var (d := o) rfl q
/-- what is left of a line -/
def enumP (xs : List Dt) : List (Dt × Dt) := (List.range xs.length).map fun i => (.int (i : Nat), xs.getD i .non)
def inI : Dt → List Int → Bool
  | .int i, js => inV (.int i) (js.map V.int)
  | _, _ => false
def leftD (xs : List Dt) (js : List Int) : List Dt := ((enumP xs).filter fun p => !inI p.1 js).map fun p => p.2
theorem dxs_ints {H : Hp} : ∀ ns : List Int, DXs K H (ns.map V.int) (ns.map Dt.int)
  | [] => .nil
  | n :: r => .cons (.int n) (dxs_ints r)
theorem od_notInI {Ψ : Dt → Prop} {d : Dt} {i : Int} {js : List Int} (hs : seqD d = some (js.map Dt.int)) (h : Ψ (.bl (!inI (.int i) js))) : OD K (rIn K true) (.int i) d Ψ :=
  od_inF (neg := true) (vs := js.map V.int) (x := .int i) hs (fun _ => .int i) (fun H ws h => DXs.ints h) rfl (by rw [List.all_map]; exact List.all_eq_true.mpr fun _ _ => rfl) (fun H w h => h.int_eq) h
def WLeft : List Dt → (Dt → Prop) → Prop := fun ds Φ => ∃ (xs : List Dt) (js : List Int), ds = [.tup xs, .tup (js.map Dt.int)] ∧ xs.length ≤ 1000 ∧ Φ (.tup (leftD xs js))
theorem ok_left {f : Addr} {fd : FuncData} (F : Fun K "_left" "_left" sLeft f fd) (B : Bt mg) (hE : mg "enumerate" = none) : FnOk P w K mg base CX0 1 f fd ["line", "gone"] (spP K WLeft) := by
  refine defP0 F scLeft (fun ds Φ ⟨o, b, e, _⟩ => by rw [e]; rfl) (by decide) fun cdv A outer s H E hr => ?_
  refine ⟨_, pss_one (ps_ret (pe_callTy (tupleK K rfl) (by rfl) B.tuple PyProof.Rows.boot_tuple (pa_cons (pe_lc (own := [("index", 2), ("name", 3)]) (g := gTup K 2 (gCons (gName 2) (gCons (gName 3) gNil))) rfl scLeft.nd (pi_enumT (by rfl) hE (pa_cons (pv 0) pa_nil)) (blkOk_by (N := ["line", "gone", "index", "name"]) (sc := defScope sLeft) (by decide +kernel))
    (fun _ _ _ _ _ => pg_tup rfl (pgs_cons (pg_name (i := 2) scLeft.nd rfl (Or.inl rfl)) (pgs_cons (pg_name (i := 3) scLeft.nd rfl (Or.inl rfl)) pgs_nil))) (fun _ _ _ _ _ => pts_one (pt_cmpR (notIn_seqK K rfl) (pv 2) (pv 1) (by rfl))) (fun _ _ _ _ _ => pv 3)) pa_nil))), ?_⟩
  rintro ds Φ ⟨xs, js, rfl, hl, q⟩
  show Ws K _ [.dat (.tup xs), .dat (.tup (js.map Dt.int)), .any, .any] _
  refine ws_ret (pf := true) <| w_cb <| wa_cons <| w_lcP (i := 2) (j := 3) (enumP xs) (fun x _ => !inI x js) (fun _ y => y) rfl rfl (by decide) <| wi_enumT <| wa_cons <| w_var (d := .tup xs) rfl <| wa_nil ⟨xs, rfl, rfl, by rw [enumD_len]; omega, ?_, fun p hp => ?_, fun p hp _ => ?_, wa_nil <| rd_tuple rfl q⟩
  · unfold enumD enumP; rw [List.map_map]; rfl
  · obtain ⟨i, _, rfl⟩ := List.mem_map.mp hp
    exact wt_test <| w_op <| w_var (d := .int (i : Nat)) rfl <| w_var (d := .tup (js.map Dt.int)) rfl <| od_notInI rfl ⟨_, rfl, rfl, rfl⟩
  · exact w_var rfl ⟨rfl, rfl⟩
end
end K05

set_option maxHeartbeats 2000000
namespace K05
open PySem PySem.Spec PyProof.Rows L2 DL
/-! ### the kinds of stations: what is asked of them -/
def fl4 : List Str := ["_on", "_owner", "_gives", "_line"]
/-- c: the classes of the three kinds -/
structure Kd (K : PySem.W.Frag) (c : Nat → Addr) (k : Nat) : Prop where
  isi : IsiC K (c k)
  no : ∀ f ∈ fl4, NoAttr K (c k) f
def getD (k pr : Nat) (o w g l : Dt) : Dt := if pr = 0 then o else if pr = 1 then ownerD k w else if pr = 2 then givesD k g else lineD k l
def WG (c : Nat → Addr) (k pr : Nat) : List Dt → (Dt → Prop) → Prop := fun ds Φ => ∃ a o w g l, ds = [stD c k a o w g l] ∧ Φ (getD k pr o w g l)
def handD (k : Nat) (m h : Dt) (d u s : Bool) : Dt := if (d || (decide (0 < k) && u)) = true then .str "dust" else if (decide (k = 0) || !s) = true then m else if k = 1 then .str "clean" else h
def WHand (c : Nat → Addr) (k : Nat) : List Dt → (Dt → Prop) → Prop := fun ds Φ => ∃ a o w g l m h d u s, ds = [stD c k a o w g l, m, .bl d, .bl u, .bl s, h] ∧ Φ (handD k m h d u s)
section
variable {P : Program} {w : World} {K : PySem.W.Frag} {mg : Str → Option Value} {base : Heap} {c : Nat → Addr} {f : Addr} {fd : FuncData}
theorem okPass_on (F : Fun K "on" "Pass.on" sPass_on f fd) (T : Kd K c 0) : FnOk P w K mg base CX0 1 f fd ["self"] (spP K (WG c 0 0)) := by
  refine defP0 F scPass_on (fun ds Φ ⟨a, o, w0, g, l, e, _⟩ => by rw [e]; rfl) (by decide) fun cdv A outer s H E hr => ?_
  refine ⟨_, pss_one (ps_ret (pe_fld (pv 0) rfl)), ?_⟩
  rintro ds Φ ⟨a, o, w0, g, l, rfl, q⟩
  exact ws_ret (pf := true) <| w_fld T.isi.cl (T.no "_on" (by simp [fl4])) <| w_var (d := stD c 0 a o w0 g l) rfl ⟨a, _, _, _, rfl, rfl, q⟩
theorem okPass_owner (F : Fun K "owner" "Pass.owner" sPass_owner f fd) (T : Kd K c 0) : FnOk P w K mg base CX0 1 f fd ["self"] (spP K (WG c 0 1)) := by
  refine defP0 F scPass_owner (fun ds Φ ⟨a, o, w0, g, l, e, _⟩ => by rw [e]; rfl) (by decide) fun cdv A outer s H E hr => ?_
  refine ⟨_, pss_one (ps_ret (pe_non)), ?_⟩
  rintro ds Φ ⟨a, o, w0, g, l, rfl, q⟩
  exact ws_ret (pf := true) <| w_c (fun _ => .non) q
theorem okPass_gives (F : Fun K "gives" "Pass.gives" sPass_gives f fd) (T : Kd K c 0) : FnOk P w K mg base CX0 1 f fd ["self"] (spP K (WG c 0 2)) := by
  refine defP0 F scPass_gives (fun ds Φ ⟨a, o, w0, g, l, e, _⟩ => by rw [e]; rfl) (by decide) fun cdv A outer s H E hr => ?_
  refine ⟨_, pss_one (ps_ret (pe_non)), ?_⟩
  rintro ds Φ ⟨a, o, w0, g, l, rfl, q⟩
  exact ws_ret (pf := true) <| w_c (fun _ => .non) q
theorem okPass_line (F : Fun K "line" "Pass.line" sPass_line f fd) (T : Kd K c 0) : FnOk P w K mg base CX0 1 f fd ["self"] (spP K (WG c 0 3)) := by
  refine defP0 F scPass_line (fun ds Φ ⟨a, o, w0, g, l, e, _⟩ => by rw [e]; rfl) (by decide) fun cdv A outer s H E hr => ?_
  refine ⟨_, pss_one (ps_ret (pe_tup pa_nil)), ?_⟩
  rintro ds Φ ⟨a, o, w0, g, l, rfl, q⟩
  exact ws_ret (pf := true) <| w_tup <| wa_nil ⟨by decide, q⟩
theorem okClamp_on (F : Fun K "on" "Clamp.on" sClamp_on f fd) (T : Kd K c 1) : FnOk P w K mg base CX0 1 f fd ["self"] (spP K (WG c 1 0)) := by
  refine defP0 F scClamp_on (fun ds Φ ⟨a, o, w0, g, l, e, _⟩ => by rw [e]; rfl) (by decide) fun cdv A outer s H E hr => ?_
  refine ⟨_, pss_one (ps_ret (pe_fld (pv 0) rfl)), ?_⟩
  rintro ds Φ ⟨a, o, w0, g, l, rfl, q⟩
  exact ws_ret (pf := true) <| w_fld T.isi.cl (T.no "_on" (by simp [fl4])) <| w_var (d := stD c 1 a o w0 g l) rfl ⟨a, _, _, _, rfl, rfl, q⟩
theorem okClamp_owner (F : Fun K "owner" "Clamp.owner" sClamp_owner f fd) (T : Kd K c 1) : FnOk P w K mg base CX0 1 f fd ["self"] (spP K (WG c 1 1)) := by
  refine defP0 F scClamp_owner (fun ds Φ ⟨a, o, w0, g, l, e, _⟩ => by rw [e]; rfl) (by decide) fun cdv A outer s H E hr => ?_
  refine ⟨_, pss_one (ps_ret (pe_fld (pv 0) rfl)), ?_⟩
  rintro ds Φ ⟨a, o, w0, g, l, rfl, q⟩
  exact ws_ret (pf := true) <| w_fld T.isi.cl (T.no "_owner" (by simp [fl4])) <| w_var (d := stD c 1 a o w0 g l) rfl ⟨a, _, _, _, rfl, rfl, q⟩
theorem okClamp_gives (F : Fun K "gives" "Clamp.gives" sClamp_gives f fd) (T : Kd K c 1) : FnOk P w K mg base CX0 1 f fd ["self"] (spP K (WG c 1 2)) := by
  refine defP0 F scClamp_gives (fun ds Φ ⟨a, o, w0, g, l, e, _⟩ => by rw [e]; rfl) (by decide) fun cdv A outer s H E hr => ?_
  refine ⟨_, pss_one (ps_ret (pe_fld (pv 0) rfl)), ?_⟩
  rintro ds Φ ⟨a, o, w0, g, l, rfl, q⟩
  exact ws_ret (pf := true) <| w_fld T.isi.cl (T.no "_gives" (by simp [fl4])) <| w_var (d := stD c 1 a o w0 g l) rfl ⟨a, _, _, _, rfl, rfl, q⟩
theorem okClamp_line (F : Fun K "line" "Clamp.line" sClamp_line f fd) (T : Kd K c 1) : FnOk P w K mg base CX0 1 f fd ["self"] (spP K (WG c 1 3)) := by
  refine defP0 F scClamp_line (fun ds Φ ⟨a, o, w0, g, l, e, _⟩ => by rw [e]; rfl) (by decide) fun cdv A outer s H E hr => ?_
  refine ⟨_, pss_one (ps_ret (pe_fld (pv 0) rfl)), ?_⟩
  rintro ds Φ ⟨a, o, w0, g, l, rfl, q⟩
  exact ws_ret (pf := true) <| w_fld T.isi.cl (T.no "_line" (by simp [fl4])) <| w_var (d := stD c 1 a o w0 g l) rfl ⟨a, _, _, _, rfl, rfl, q⟩
theorem okHolding_on (F : Fun K "on" "Holding.on" sHolding_on f fd) (T : Kd K c 2) : FnOk P w K mg base CX0 1 f fd ["self"] (spP K (WG c 2 0)) := by
  refine defP0 F scHolding_on (fun ds Φ ⟨a, o, w0, g, l, e, _⟩ => by rw [e]; rfl) (by decide) fun cdv A outer s H E hr => ?_
  refine ⟨_, pss_one (ps_ret (pe_fld (pv 0) rfl)), ?_⟩
  rintro ds Φ ⟨a, o, w0, g, l, rfl, q⟩
  exact ws_ret (pf := true) <| w_fld T.isi.cl (T.no "_on" (by simp [fl4])) <| w_var (d := stD c 2 a o w0 g l) rfl ⟨a, _, _, _, rfl, rfl, q⟩
theorem okHolding_owner (F : Fun K "owner" "Holding.owner" sHolding_owner f fd) (T : Kd K c 2) : FnOk P w K mg base CX0 1 f fd ["self"] (spP K (WG c 2 1)) := by
  refine defP0 F scHolding_owner (fun ds Φ ⟨a, o, w0, g, l, e, _⟩ => by rw [e]; rfl) (by decide) fun cdv A outer s H E hr => ?_
  refine ⟨_, pss_one (ps_ret (pe_fld (pv 0) rfl)), ?_⟩
  rintro ds Φ ⟨a, o, w0, g, l, rfl, q⟩
  exact ws_ret (pf := true) <| w_fld T.isi.cl (T.no "_owner" (by simp [fl4])) <| w_var (d := stD c 2 a o w0 g l) rfl ⟨a, _, _, _, rfl, rfl, q⟩
theorem okHolding_gives (F : Fun K "gives" "Holding.gives" sHolding_gives f fd) (T : Kd K c 2) : FnOk P w K mg base CX0 1 f fd ["self"] (spP K (WG c 2 2)) := by
  refine defP0 F scHolding_gives (fun ds Φ ⟨a, o, w0, g, l, e, _⟩ => by rw [e]; rfl) (by decide) fun cdv A outer s H E hr => ?_
  refine ⟨_, pss_one (ps_ret (pe_non)), ?_⟩
  rintro ds Φ ⟨a, o, w0, g, l, rfl, q⟩
  exact ws_ret (pf := true) <| w_c (fun _ => .non) q
theorem okHolding_line (F : Fun K "line" "Holding.line" sHolding_line f fd) (T : Kd K c 2) : FnOk P w K mg base CX0 1 f fd ["self"] (spP K (WG c 2 3)) := by
  refine defP0 F scHolding_line (fun ds Φ ⟨a, o, w0, g, l, e, _⟩ => by rw [e]; rfl) (by decide) fun cdv A outer s H E hr => ?_
  refine ⟨_, pss_one (ps_ret (pe_fld (pv 0) rfl)), ?_⟩
  rintro ds Φ ⟨a, o, w0, g, l, rfl, q⟩
  exact ws_ret (pf := true) <| w_fld T.isi.cl (T.no "_line" (by simp [fl4])) <| w_var (d := stD c 2 a o w0 g l) rfl ⟨a, _, _, _, rfl, rfl, q⟩
theorem okPass_handed (F : Fun K "handed" "Pass.handed" sPass_handed f fd) : FnOk P w K mg base CX0 1 f fd ["self", "mark", "dark", "dusty", "shut", "held"] (spP K (WHand c 0)) := by
  refine defP0 F scPass_handed (fun ds Φ ⟨a, o, w0, g, l, m, h, d, u, z, e, _⟩ => by rw [e]; rfl) (by decide) fun cdv A outer s H E hr => ?_
  refine ⟨_, pss_one (ps_ret (pe_ifExp (pt_val (pv 2)) pe_str (pv 1))), ?_⟩
  rintro ds Φ ⟨a, o, w0, g, l, m, h, d, u, z, rfl, q⟩
  refine ws_ret (pf := true) <| w_if <| wt_B <| w_var (d := .bl d) rfl ⟨d, rfl, ?_⟩
  cases d with
  | true => exact ifT <| w_c (fun _ => .str _) q
  | false => exact ifF <| w_var (d := m) rfl q
theorem okClamp_handed (F : Fun K "handed" "Clamp.handed" sClamp_handed f fd) : FnOk P w K mg base CX0 1 f fd ["self", "mark", "dark", "dusty", "shut", "held"] (spP K (WHand c 1)) := by
  refine defP0 F scClamp_handed (fun ds Φ ⟨a, o, w0, g, l, m, h, d, u, z, e, _⟩ => by rw [e]; rfl) (by decide) fun cdv A outer s H E hr => ?_
  refine ⟨_, pss_cons (ps_if (PW.pt (pw_or (pt_val (pv 2)) (pw_or1 (pt_val (pv 3))))) (pss_one (ps_ret pe_str)) pss_nil) (pss_one (ps_ret (pe_ifExp (pt_val (pv 4)) pe_str (pv 1)))), ?_⟩
  rintro ds Φ ⟨a, o, w0, g, l, m, h, d, u, z, rfl, q⟩
  refine ws_seq <| ws_if (pf := true) <| wt_or <| wt_B <| w_var (d := .bl d) rfl ⟨d, rfl, ?_⟩
  cases d with
  | true => exact ifT <| ifT <| ws_ret (pf := true) <| w_c (fun _ => .str _) q
  | false =>
    refine ifF <| wt_B <| w_var (d := .bl u) rfl ⟨u, rfl, ?_⟩
    cases u with
    | true => exact ifT <| ws_ret (pf := true) <| w_c (fun _ => .str _) q
    | false =>
      refine ifF <| ws_next <| ws_ret (pf := true) <| w_if <| wt_B <| w_var (d := .bl z) rfl ⟨z, rfl, ?_⟩
      cases z with
      | true => exact ifT <| w_c (fun _ => .str _) q
      | false => exact ifF <| w_var (d := m) rfl q
theorem okHolding_handed (F : Fun K "handed" "Holding.handed" sHolding_handed f fd) : FnOk P w K mg base CX0 1 f fd ["self", "mark", "dark", "dusty", "shut", "held"] (spP K (WHand c 2)) := by
  refine defP0 F scHolding_handed (fun ds Φ ⟨a, o, w0, g, l, m, h, d, u, z, e, _⟩ => by rw [e]; rfl) (by decide) fun cdv A outer s H E hr => ?_
  refine ⟨_, pss_cons (ps_if (PW.pt (pw_or (pt_val (pv 2)) (pw_or1 (pt_val (pv 3))))) (pss_one (ps_ret pe_str)) pss_nil) (pss_one (ps_ret (pe_ifExp (pt_val (pv 4)) (pv 5) (pv 1)))), ?_⟩
  rintro ds Φ ⟨a, o, w0, g, l, m, h, d, u, z, rfl, q⟩
  refine ws_seq <| ws_if (pf := true) <| wt_or <| wt_B <| w_var (d := .bl d) rfl ⟨d, rfl, ?_⟩
  cases d with
  | true => exact ifT <| ifT <| ws_ret (pf := true) <| w_c (fun _ => .str _) q
  | false =>
    refine ifF <| wt_B <| w_var (d := .bl u) rfl ⟨u, rfl, ?_⟩
    cases u with
    | true => exact ifT <| ws_ret (pf := true) <| w_c (fun _ => .str _) q
    | false =>
      refine ifF <| ws_next <| ws_ret (pf := true) <| w_if <| wt_B <| w_var (d := .bl z) rfl ⟨z, rfl, ?_⟩
      cases z with
      | true => exact ifT <| w_var (d := h) rfl q
      | false => exact ifF <| w_var (d := m) rfl q
end
end K05

set_option maxHeartbeats 2000000
namespace K05
open PySem PySem.Spec PyProof.Rows L2 DL
/-! ### __init__ -/
def args (k : Nat) (o w g l : Dt) : List Dt := if k = 0 then [o] else if k = 1 then [o, w, g, l] else [o, w, l]
def WI (cI : Addr) (k : Nat) : List Dt → (List Str → List Dt → Prop) → (Addr → List Str → List Dt → Prop) → Prop := fun ds Φ Ξ => ∃ o w g l, ds = args k o w g l ∧ Gd o w g l ∧ (fault k o w g l = none → Φ (flds k) (vals k o w g l)) ∧ ∀ z, fault k o w g l = some z → Ξ cI ["part"] [.str z]
theorem seq2 {a b c : TS} {E : Ends} {σ : L2.St} {H : Hp} (h : tSeq (tSeq a b) c E σ H) : tSeq a (tSeq b c) E σ H := h
section
variable {P : Program} {w : World} {K : PySem.W.Frag} {mg : Str → Option Value} {base : Heap} {c : Nat → Addr} {f : Addr} {fd : FuncData} {B cI : Addr} {nid : String} {tl : List Value} {n k : Nat}
theorem ok_initP (F : Fun K "__init__" "Pass.__init__" sPass_init f fd) (T : Kd K c 0) (dN : DF K mg "is_name" sNam ["value"]) (gN : FnOk P w K mg base CX0 (k + 2) dN.f dN.fd ["value"] (spP K WNam)) (m : Er K mg "InvalidStation" ["part"] B nid tl cI) (i : Ini K cI n (W1 "part")) :
    FnOk P w K mg base (L2.CX P w) (k + 3) f fd ["self", "on"] (spMkX K (c 0) (WI cI 0)) := by
  have len : ∀ vs H Q E, spMkX K (c 0) (WI cI 0) vs H Q E → vs.length = (["self", "on"] : List Str).length := fun vs H Q E ⟨M, self, dx, ws, ds, Φ, Ξ, e, _, _, _, _, x, ⟨o, w, g, l, e2, _⟩, _⟩ => by rw [e, List.length_cons, x.len, e2]; rfl
  refine F.okX scPass_init len fun cdv A outer s H vs Q E hr h => ?_
  refine ⟨_, pss_cons (ps_if (pt_not (pt_val (pe_call gN hr (by rfl) dN.g dN.F.kp dN.b .nil pass0 (pa_cons (pv 1) pa_nil)))) (pss_one (ps_raise rfl (takes_of rfl rfl rfl rfl) (m.pmk i rfl rfl (hr.mono (by omega)) (by rfl) (pa_cons pe_str pa_nil)))) pss_nil)
    <| pss_one (ps_fld (pv 0) (pv 1) rfl), read_IX (N := ["self", "on"]) h (by rw [len _ _ _ _ h]; decide) fun self ds Φ Ξ _ ⟨o, w, g, l, e, gd, q, qx⟩ => ?_⟩
  subst e
  show Ws K _ [.dat (.cls self), .dat o] _
  refine ws_if (pf := true) <| wt_not <| wt_B <| w_call0 <| wa_cons <| w_var (d := o) rfl <| wa_nil ⟨o, rfl, gd.o, _, rfl, ?_⟩
  cases e : isName o with
  | true =>
    have e2 : fault 0 o w g l = none := by show (if isName o = false then some _ else none) = none; rw [e]; rfl
    exact ifF <| ws_next ⟨rfl, fs_one T.isi.cl (T.no "_on" (by simp [fl4])) (fun z => nomatch z) (by decide) <| w_var (d := o) rfl ⟨rfl, q e2⟩⟩
  | false =>
    have e2 : fault 0 o w g l = some "on" := by show (if isName o = false then some _ else none) = _; rw [e]; rfl
    exact ifT <| ws_raise (pf := true) <| wa_cons <| w_c (fun _ => .str _) <| wa_nil ⟨by show 1 ≤ 900; decide, _, rfl, qx _ e2⟩
theorem ok_initC (F : Fun K "__init__" "Clamp.__init__" sClamp_init f fd) (T : Kd K c 1) (dW : DF K mg "_wrong_part" sWrong ["on", "owner", "gives", "line"]) (gW : FnOk P w K mg base CX0 (k + 2) dW.f dW.fd ["on", "owner", "gives", "line"] (spP K WWrong)) (m : Er K mg "InvalidStation" ["part"] B nid tl cI) (i : Ini K cI n (W1 "part")) :
    FnOk P w K mg base (L2.CX P w) (k + 3) f fd ["self", "on", "owner", "gives", "line"] (spMkX K (c 1) (WI cI 1)) := by
  have len : ∀ vs H Q E, spMkX K (c 1) (WI cI 1) vs H Q E → vs.length = (["self", "on", "owner", "gives", "line"] : List Str).length := fun vs H Q E ⟨M, self, dx, ws, ds, Φ, Ξ, e, _, _, _, _, x, ⟨o, w, g, l, e2, _⟩, _⟩ => by rw [e, List.length_cons, x.len, e2]; rfl
  refine F.okX scClamp_init len fun cdv A outer s H vs Q E hr h => ?_
  refine ⟨_, pss_cons (ps_set (i := 5) scClamp_init.nd rfl (.inl rfl) (pe_call gW hr (by rfl) dW.g dW.F.kp dW.b .nil pass0 (pa_cons (pv 1) (pa_cons (pv 2) (pa_cons (pv 3) (pa_cons (pv 4) pa_nil))))))
    <| pss_cons (ps_if (pt_cmpR op_notN (pv 5) pe_non (nomark _)) (pss_one (ps_raise rfl (takes_of rfl rfl rfl rfl) (m.pmk i rfl rfl (hr.mono (by omega)) (by rfl) (pa_cons (pv 5) pa_nil)))) pss_nil)
    <| pss_cons (ps_fld (pv 0) (pv 1) rfl) <| pss_cons (ps_fld (pv 0) (pv 2) rfl) <| pss_cons (ps_fld (pv 0) (pv 3) rfl) <| pss_one (ps_fld (pv 0) (pv 4) rfl), seq2 (read_IX (N := ["self", "on", "owner", "gives", "line", "wrong"]) h (by rw [len _ _ _ _ h]; decide) fun self ds Φ Ξ _ ⟨o, w, g, l, e, gd, q, qx⟩ => ?_)⟩
  subst e
  show Ws K _ [.dat (.cls self), .dat o, .dat w, .dat g, .dat l, .any] _
  refine ws_seq <| ws_asg (pf := true) <| w_call0 <| wa_cons <| w_var (d := o) rfl <| wa_cons <| w_var (d := w) rfl <| wa_cons <| w_var (d := g) rfl <| wa_cons <| w_var (d := l) rfl <| wa_nil ⟨o, w, g, l, rfl, gd, ?_⟩
  have ef : fault 1 o w g l = wrongD o w g l := rfl
  rw [ef] at q qx
  cases e : wrongD o w g l with
  | none =>
    refine ws_if (pf := true) <| wt_test <| w_op <| w_var (d := .non) rfl <| w_c (fun _ => .non) <| od_notN ⟨_, rfl, ifF <| ws_next ⟨rfl, ?_⟩⟩
    exact fs_cons T.isi.cl (T.no "_on" (by simp [fl4])) (fun z => nomatch z) (by decide) <| w_var (d := o) rfl ⟨rfl, fs_cons T.isi.cl (T.no "_owner" (by simp [fl4])) (by decide) (by decide) <| w_var (d := w) rfl ⟨rfl, fs_cons T.isi.cl (T.no "_gives" (by simp [fl4])) (by decide) (by decide) <| w_var (d := g) rfl ⟨rfl,
      fs_one T.isi.cl (T.no "_line" (by simp [fl4])) (by decide) (by decide) <| w_var (d := l) rfl ⟨rfl, q e⟩⟩⟩⟩
  | some z => exact ws_if (pf := true) <| wt_test <| w_op <| w_var (d := .str z) rfl <| w_c (fun _ => .non) <| od_notN ⟨_, rfl, ifT <| ws_raise (pf := true) <| wa_cons <| w_var (d := .str z) rfl <| wa_nil ⟨by show 1 ≤ 900; decide, _, rfl, qx z e⟩⟩
theorem ok_initH (F : Fun K "__init__" "Holding.__init__" sHolding_init f fd) (T : Kd K c 2) (dW : DF K mg "_wrong_part" sWrong ["on", "owner", "gives", "line"]) (gW : FnOk P w K mg base CX0 (k + 2) dW.f dW.fd ["on", "owner", "gives", "line"] (spP K WWrong)) (m : Er K mg "InvalidStation" ["part"] B nid tl cI) (i : Ini K cI n (W1 "part")) :
    FnOk P w K mg base (L2.CX P w) (k + 3) f fd ["self", "on", "owner", "line"] (spMkX K (c 2) (WI cI 2)) := by
  have len : ∀ vs H Q E, spMkX K (c 2) (WI cI 2) vs H Q E → vs.length = (["self", "on", "owner", "line"] : List Str).length := fun vs H Q E ⟨M, self, dx, ws, ds, Φ, Ξ, e, _, _, _, _, x, ⟨o, w, g, l, e2, _⟩, _⟩ => by rw [e, List.length_cons, x.len, e2]; rfl
  refine F.okX scHolding_init len fun cdv A outer s H vs Q E hr h => ?_
  refine ⟨_, pss_cons (ps_set (i := 4) scHolding_init.nd rfl (.inl rfl) (pe_call gW hr (by rfl) dW.g dW.F.kp dW.b .nil pass0 (pa_cons (pv 1) (pa_cons (pv 2) (pa_cons pe_int (pa_cons (pv 3) pa_nil))))))
    <| pss_cons (ps_if (pt_cmpR op_notN (pv 4) pe_non (nomark _)) (pss_one (ps_raise rfl (takes_of rfl rfl rfl rfl) (m.pmk i rfl rfl (hr.mono (by omega)) (by rfl) (pa_cons (pv 4) pa_nil)))) pss_nil)
    <| pss_cons (ps_fld (pv 0) (pv 1) rfl) <| pss_cons (ps_fld (pv 0) (pv 2) rfl) <| pss_cons (ps_fld (pv 0) pe_non rfl) <| pss_one (ps_fld (pv 0) (pv 3) rfl), seq2 (read_IX (N := ["self", "on", "owner", "line", "wrong"]) h (by rw [len _ _ _ _ h]; decide) fun self ds Φ Ξ _ ⟨o, w, g, l, e, gd, q, qx⟩ => ?_)⟩
  subst e
  show Ws K _ [.dat (.cls self), .dat o, .dat w, .dat l, .any] _
  refine ws_seq <| ws_asg (pf := true) <| w_call0 <| wa_cons <| w_var (d := o) rfl <| wa_cons <| w_var (d := w) rfl <| wa_cons <| w_c (fun _ => .int 0) <| wa_cons <| w_var (d := l) rfl <| wa_nil ⟨o, w, .int 0, l, rfl, ⟨gd.o, gd.w, rfl, gd.l⟩, ?_⟩
  have ef : fault 2 o w g l = wrongD o w (.int 0) l := rfl
  rw [ef] at q qx
  cases e : wrongD o w (.int 0) l with
  | none =>
    refine ws_if (pf := true) <| wt_test <| w_op <| w_var (d := .non) rfl <| w_c (fun _ => .non) <| od_notN ⟨_, rfl, ifF <| ws_next ⟨rfl, ?_⟩⟩
    exact fs_cons T.isi.cl (T.no "_on" (by simp [fl4])) (fun z => nomatch z) (by decide) <| w_var (d := o) rfl ⟨rfl, fs_cons T.isi.cl (T.no "_owner" (by simp [fl4])) (by decide) (by decide) <| w_var (d := w) rfl ⟨rfl, fs_cons T.isi.cl (T.no "_gives" (by simp [fl4])) (by decide) (by decide) <| w_c (fun _ => .non) ⟨rfl,
      fs_one T.isi.cl (T.no "_line" (by simp [fl4])) (by decide) (by decide) <| w_var (d := l) rfl ⟨rfl, q e⟩⟩⟩⟩
  | some z => exact ws_if (pf := true) <| wt_test <| w_op <| w_var (d := .str z) rfl <| w_c (fun _ => .non) <| od_notN ⟨_, rfl, ifT <| ws_raise (pf := true) <| wa_cons <| w_var (d := .str z) rfl <| wa_nil ⟨by show 1 ≤ 900; decide, _, rfl, qx z e⟩⟩
end
end K05

set_option maxHeartbeats 2000000
namespace K05
open PySem PySem.Spec PyProof.Rows L2 DL
/-! ### right rows -/
structure R where
  k : Nat
  o : Str
  w : Str
  g : Int
  l : List Str
def lD (l : List Str) : Dt := .tup (l.map Dt.str)
def ons : List Str := ["a", "b", "shore", "zzzzzzzz"]
def ows : List Str := ["a", "c", "b"]
def lets : List Str := ["a", "b", "c", "dd", "zzzzzzzz"]
def R.st (c : Nat → Addr) (a : Addr) (r : R) : Dt := stD c r.k a (.str r.o) (.str r.w) (.int r.g) (lD r.l)
def R.row (r : R) : Dt := .lst [.int (r.k : Nat), .str r.o, .str r.w, .int r.g, lD r.l]
structure R.Ok (r : R) : Prop where
  k : r.k < 3
  o : r.o ∈ ons
  w : r.w ∈ ows
  g : r.g = 0 ∨ r.g = 1
  l : r.l.Nodup
  ll : r.l.length ≤ 4
  ls : ∀ x ∈ r.l, x ∈ lets
theorem ons_ok : (ons.all fun z => isName (.str z) && shortD (.str z)) = true := by decide +kernel
theorem ows_ok : (ows.all fun z => isOwn (.str z) && shortD (.str z)) = true := by decide +kernel
theorem lets_ok : (lets.all fun z => isOwn (.str z) && shortD (.str z)) = true := by decide +kernel
theorem R.Ok.gd {r : R} (h : r.Ok) : Gd (.str r.o) (.str r.w) (.int r.g) (lD r.l) := by
  have h1 := List.all_eq_true.mp ons_ok _ h.o
  have h2 := List.all_eq_true.mp ows_ok _ h.w
  rw [Bool.and_eq_true] at h1 h2
  refine ⟨h1.2, h2.2, rfl, ?_⟩
  show (decide ((r.l.map Dt.str).length ≤ 1000) && (r.l.map Dt.str).all shortD) = true
  rw [Bool.and_eq_true, List.length_map]
  refine ⟨decide_eq_true (Nat.le_trans h.ll (by decide)), List.all_eq_true.mpr fun d hd => ?_⟩
  obtain ⟨z, hz, rfl⟩ := List.mem_map.mp hd
  have := List.all_eq_true.mp lets_ok _ (h.ls z hz)
  rw [Bool.and_eq_true] at this
  exact this.2
theorem R.Ok.row4 {r : R} (h : r.Ok) : isRow (lD r.l) 4 = true := by
  show (decide ((((r.l.map Dt.str).length : Nat) : Int) ≤ 4) && ((r.l.map Dt.str).all isOwn && decide (strsOf (r.l.map Dt.str)).Nodup)) = true
  rw [strsOf_map, List.length_map, decide_eq_true h.l, Bool.and_true, Bool.and_eq_true]
  have := h.ll
  refine ⟨decide_eq_true (by omega), List.all_eq_true.mpr fun d hd => ?_⟩
  obtain ⟨z, hz, rfl⟩ := List.mem_map.mp hd
  have := List.all_eq_true.mp lets_ok _ (h.ls z hz)
  rw [Bool.and_eq_true] at this
  exact this.1
theorem R.Ok.wrong {r : R} (h : r.Ok) {g : Int} (hg : g = 0 ∨ g = 1) : wrongD (.str r.o) (.str r.w) (.int g) (lD r.l) = none := by
  have h1 := List.all_eq_true.mp ons_ok _ h.o
  have h2 := List.all_eq_true.mp ows_ok _ h.w
  rw [Bool.and_eq_true] at h1 h2
  have hb : bitD (.int g) = true := by rcases hg with e | e <;> rw [e] <;> decide
  unfold wrongD
  rw [h1.1, h2.1, hb, h.row4]
  rfl
theorem R.Ok.fault {r : R} (h : r.Ok) : K05.fault r.k (.str r.o) (.str r.w) (.int r.g) (lD r.l) = none := by
  have h1 := List.all_eq_true.mp ons_ok _ h.o
  rw [Bool.and_eq_true] at h1
  unfold K05.fault
  by_cases c0 : r.k = 0
  · rw [if_pos c0, h1.1]; rfl
  · rw [if_neg c0]
    by_cases c1 : r.k = 1
    · rw [if_pos c1]; exact h.wrong h.g
    · rw [if_neg c1]; exact h.wrong (.inl rfl)
/-! what is left of a line -/
def leftS (l : List Str) (js : List Int) : List Str := ((List.range l.length).filter fun i => !inV (.int (i : Nat)) (js.map V.int)).map fun i => l.getD i ""
theorem leftD_eq (l : List Str) (js : List Int) : leftD (l.map Dt.str) js = (leftS l js).map Dt.str := by
  unfold leftD leftS enumP
  rw [List.filter_map, List.map_map, List.map_map, List.length_map]
  have e : ((fun p : Dt × Dt => !inI p.1 js) ∘ fun i : Nat => (Dt.int (i : Nat), (l.map Dt.str).getD i .non)) = fun i : Nat => !inV (.int (i : Nat)) (js.map V.int) := rfl
  rw [e]
  refine List.map_congr_left fun i hi => ?_
  have hi := (List.mem_filter.mp hi).1
  have hi := List.mem_range.mp hi
  show (l.map Dt.str).getD i .non = .str (l.getD i "")
  rw [List.getD_eq_getElem?_getD, List.getD_eq_getElem?_getD, List.getElem?_map, List.getElem?_eq_getElem hi]
  rfl
theorem range_getD (l : List Str) : (List.range l.length).map (fun i => l.getD i "") = l := by
  apply List.ext_getElem?
  intro i
  rw [List.getElem?_map]
  by_cases c : i < l.length
  · rw [List.getElem?_range c, List.getElem?_eq_getElem c]
    show some (l.getD i "") = _
    rw [List.getD_eq_getElem?_getD, List.getElem?_eq_getElem c]
    rfl
  · rw [List.getElem?_eq_none (by rw [List.length_range]; omega), List.getElem?_eq_none (by omega)]
    rfl
theorem leftS_sub (l : List Str) (js : List Int) : (leftS l js).Sublist l := by
  have h : (leftS l js).Sublist ((List.range l.length).map fun i => l.getD i "") := List.Sublist.map _ List.filter_sublist
  rw [range_getD] at h
  exact h
theorem leftS_nil (l : List Str) : leftS l [] = l := by
  unfold leftS
  have e : (List.range l.length).filter (fun i => !inV (.int (i : Nat)) (([] : List Int).map V.int)) = List.range l.length := List.filter_eq_self.mpr fun _ _ => rfl
  rw [e]
  exact range_getD l
def R.prop (up : Bool) (js : List Int) (r : R) : R := ⟨r.k, if up = true then ("shore" : Str) else r.o, r.w, r.g, leftS r.l js⟩
theorem R.Ok.prop {r : R} (h : r.Ok) (up : Bool) (js : List Int) : (r.prop up js).Ok := by
  have s := leftS_sub r.l js
  refine ⟨h.k, ?_, h.w, h.g, h.l.sublist s, Nat.le_trans s.length_le h.ll, fun x hx => h.ls x (s.subset hx)⟩
  show (if up = true then ("shore" : Str) else r.o) ∈ ons
  cases up with
  | true => rw [if_pos rfl]; decide
  | false => rw [if_neg (by decide)]; exact h.o
theorem R.prop_no (r : R) : r.prop false [] = r := by
  show R.mk r.k r.o r.w r.g (leftS r.l []) = r
  rw [leftS_nil]
/-! ### properties of the three kinds -/
structure GetOf (K : PySem.W.Frag) (c : Nat → Addr) (k pr : Nat) (x : Str) : Prop where
  ex : ∃ (p g : Addr) (fd : FuncData), PropOf K (c k) x p g ∧ Binds K fd ["self"] [] ∧ ∀ (P : Program) (w : World) (mg : Str → Option Value) (base : Heap), FnOk P w K mg base CX0 1 g fd ["self"] (spP K (WG c k pr))
def tGet (K : PySem.W.Frag) (c : Nat → Addr) (k pr : Nat) (ta : TE) : TE := tProp (c k) (spP K (WG c k pr)) [] E0 ta
def tGet3 (K : PySem.W.Frag) (c : Nat → Addr) (pr : Nat) (ta : TE) : TE := tOr2 (tGet K c 0 pr ta) (tOr2 (tGet K c 1 pr ta) (tGet K c 2 pr ta))
section
variable {K : PySem.W.Frag} {c : Nat → Addr} {k pr : Nat} {x : Str} {X : Cx} {e : Expr} {ta : TE} {pos : Pos}
theorem GetOf.pe (G : GetOf K c k pr x) (T : Kd K c k) (hK : X.K = K) (hr : Room 2 X.A) (he : PE X e ta) (hab : attributeBase e x X.env (eval e X.env) = eval e X.env) : PE X (.Attribute e x pos) (tGet K c k pr ta) := by
  subst hK
  obtain ⟨p, g, fd, h1, h2, F⟩ := G.ex
  exact pe_prop he T.isi.cl h1 (F _ _ _ _) hr h2 .nil pass0 hab
theorem pe_get3 (G : ∀ k, k < 3 → GetOf K c k pr x) (T : ∀ k, k < 3 → Kd K c k) (hK : X.K = K) (hr : Room 2 X.A) (he : PE X e ta) (hab : attributeBase e x X.env (eval e X.env) = eval e X.env := by rfl) : PE X (.Attribute e x pos) (tGet3 K c pr ta) :=
  pe_or2 ((G 0 (by decide)).pe (T 0 (by decide)) hK hr he hab) (pe_or2 ((G 1 (by decide)).pe (T 1 (by decide)) hK hr he hab) ((G 2 (by decide)).pe (T 2 (by decide)) hK hr he hab))
def rGet (pr : Nat) (r : R) : Dt := getD r.k pr (.str r.o) (.str r.w) (.int r.g) (lD r.l)
variable {pf : Bool} {ρ : List Sl} {Φ : Dt → List Sl → Prop} {a : Addr}
theorem w_get3 (r : R) (hk : r.k < 3) (h : Wp K pf ta ρ fun d ρ1 => (∃ a, d = r.st c a) ∧ Φ (rGet pr r) ρ1) : Wp K pf (tGet3 K c pr ta) ρ Φ := by
  have one : Wp K pf (tGet K c r.k pr ta) ρ Φ := w_prop (h.imp fun d ρ1 ⟨⟨a, e⟩, q⟩ => by subst e; exact ⟨⟨a, _, _, rfl⟩, a, _, _, _, _, rfl, q⟩)
  match e : r.k, hk with
  | 0, _ => rw [e] at one; exact w_or1 one
  | 1, _ => rw [e] at one; exact w_or2 (w_or1 one)
  | 2, _ => rw [e] at one; exact w_or2 (w_or2 one)
end
end K05

set_option maxHeartbeats 2000000
namespace K05
open PySem PySem.Spec PyProof.Rows L2 DL
abbrev gApp (vs zs : List V) : List V := vs ++ zs
/-! ### the classes called -/
def pI (k : Nat) : List Str := if k = 1 then ["self", "on", "owner", "gives", "line"] else ["self", "on", "owner", "line"]
def kI (k : Nat) : List Str := if k = 1 then ["gives", "line"] else ["line"]
def dI (k : Nat) (e : Addr) : List V := if k = 1 then [.int 0, .ref e] else [.ref e]
structure MkP (K : PySem.W.Frag) (mg : Str → Option Value) (c : Nat → Addr) (cI : Addr) : Prop where
  ex : ∃ (f : Addr) (fd : FuncData), Mk K (c 0) f ∧ mg "Pass" = some (.ref (c 0)) ∧ Binds K fd ["self", "on"] [] ∧ ∀ (P : Program) (w : World) (base : Heap), FnOk P w K mg base (L2.CX P w) 6 f fd ["self", "on"] (spMkX K (c 0) (WI cI 0))
structure MkL (K : PySem.W.Frag) (mg : Str → Option Value) (c : Nat → Addr) (cI eT : Addr) (k : Nat) (x : Str) : Prop where
  ex : ∃ (f : Addr) (fd : FuncData) (g : List Value → List Value → List Value) (ds : List Value), Mk K (c k) f ∧ mg x = some (.ref (c k)) ∧ KBn K fd (pI k) 3 (kI k) g gApp ∧ Vals (dI k eT) ds ∧ Binds K fd (pI k) ds ∧
    ∀ (P : Program) (w : World) (base : Heap), FnOk P w K mg base (L2.CX P w) 6 f fd (pI k) (spMkX K (c k) (WI cI k))
section
variable {K : PySem.W.Frag} {mg : Str → Option Value} {c : Nat → Addr} {cI eT : Addr} {k : Nat} {x : Str} {X : Cx} {e : Expr} {es : List Expr} {kws : List Keyword} {p pos : Pos} {t tk : TA} {E : XK}
theorem MkP.pe (m : MkP K mg c cI) (hK : X.K = K) (hm : X.mg = mg) (hr : Room 7 X.A) (hg : Gl X "Pass") (hx : Passes (L2.CX X.prog X.w) X E) (ha : PA X (e :: es) t)
    (he : starEach (e :: es) X.env = (false, eval e X.env) :: starEach es X.env := by rfl) (hpl : (backTo pos (starEach es X.env)).any (·.1) = false := by rfl) : PE X (.Call (.Name "Pass" p) (e :: es) [] pos) (tMake (c 0) (spMkX K (c 0) (WI cI 0)) [] E t) := by
  subst hK hm
  obtain ⟨f, fd, h1, h2, h3, F⟩ := m.ex
  exact pe_make h1 (F _ _ _) hr hg h2 h3 .nil hx ha (by decide) he hpl
theorem MkL.peK (m : MkL K mg c cI eT k x) (hK : X.K = K) (hm : X.mg = mg) (hr : Room 7 X.A) (hg : Gl X x) (hx : Passes (L2.CX X.prog X.w) X E) (ha : PA X (e :: es) t) (hkw : PK X kws tk)
    (hall : (backToKw pos (keywordEach kws X.env)).all (·.1.isSome) = true := by rfl) (hks : (backToKw pos (keywordEach kws X.env)).filterMap (·.1) = kI k := by rfl) (hdb : (x == ("__debug__" : Str)) = false := by decide)
    (he : starEach (e :: es) X.env = (false, eval e X.env) :: starEach es X.env := by rfl) (hpl : ((backTo pos (starEach (e :: es) X.env)).any (·.1) || (backToKw pos (keywordEach kws X.env)).any (·.1.isNone)) = false := by rfl) :
    PE X (.Call (.Name x p) (e :: es) kws pos) (tMakeK (c k) 2 (kI k).length (spMkX K (c k) (WI cI k)) gApp E t tk) := by
  subst hK hm
  obtain ⟨f, fd, g, ds, h1, h2, h3, h4, h5, F⟩ := m.ex
  exact pe_makeK h1 (F _ _ _) hr hg h2 h3 hx ha hkw hall hks hdb he hpl
theorem MkL.peD (m : MkL K mg c cI eT k x) (hK : X.K = K) (hm : X.mg = mg) (hr : Room 7 X.A) (hg : Gl X x) (hx : Passes (L2.CX X.prog X.w) X E) (ha : PA X (e :: es) t) (hdb : (x == ("__debug__" : Str)) = false := by decide)
    (he : starEach (e :: es) X.env = (false, eval e X.env) :: starEach es X.env := by rfl) (hpl : (backTo pos (starEach es X.env)).any (·.1) = false := by rfl) :
    PE X (.Call (.Name x p) (e :: es) [] pos) (tMake (c k) (spMkX K (c k) (WI cI k)) (dI k eT) E t) := by
  subst hK hm
  obtain ⟨f, fd, g, ds, h1, h2, h3, h4, h5, F⟩ := m.ex
  exact pe_make h1 (F _ _ _) hr hg h2 h5 h4 hx ha hdb he hpl
end
/-! ### handed -/
abbrev pHand : List Str := ["self", "mark", "dark", "dusty", "shut", "held"]
abbrev kHand : List Str := ["dark", "dusty", "shut", "held"]
structure HandOf (K : PySem.W.Frag) (c : Nat → Addr) (k : Nat) : Prop where
  ex : ∃ (f : Addr) (fd : FuncData) (g : List Value → List Value → List Value), Meth K (c k) "handed" f ∧ KBn K fd pHand 2 kHand g gApp ∧ ∀ (P : Program) (w : World) (mg : Str → Option Value) (base : Heap), FnOk P w K mg base CX0 1 f fd pHand (spP K (WHand c k))
def tHand (K : PySem.W.Frag) (c : Nat → Addr) (k : Nat) (ta : TE) (t tk : TA) : TE := tMethK (c k) "handed" 1 4 (spP K (WHand c k)) gApp E0 ta t tk
def tHand3 (K : PySem.W.Frag) (c : Nat → Addr) (ta : TE) (t tk : TA) : TE := tOr2 (tHand K c 0 ta t tk) (tOr2 (tHand K c 1 ta t tk) (tHand K c 2 ta t tk))
theorem fld_no {m : Str} {k : Nat} (h : m ∉ fl4) : m ∉ flds k := by
  unfold flds
  split
  · exact fun z => h (List.mem_of_mem_take (i := 1) z)
  · exact h
section
variable {K : PySem.W.Frag} {c : Nat → Addr} {k : Nat} {X : Cx} {o e : Expr} {es : List Expr} {kws : List Keyword} {apos pos : Pos} {ta : TE} {t tk : TA}
theorem HandOf.pe {pl : Sem Bool} (G : HandOf K c k) (T : Kd K c k) (hK : X.K = K) (hr : Room 1 X.A) (he : PE X o ta) (ha : PA X (e :: es) t) (hkw : PK X kws tk)
    (hall : (backToKw pos (keywordEach kws X.env)).all (·.1.isSome) = true) (hks : (backToKw pos (keywordEach kws X.env)).filterMap (·.1) = kHand) (hst : starEach (e :: es) X.env = (false, eval e X.env) :: starEach es X.env)
    (hpl : ((backTo pos (starEach (e :: es) X.env)).any (·.1) || (backToKw pos (keywordEach kws X.env)).any (·.1.isNone)) = false)
    (ht : eval (.Call (.Attribute o "handed" apos) (e :: es) kws pos) X.env = (do
      let ov ← eval o X.env
      standAt apos.atName
      let (f, first) ← holding [ov] (getMethod ov "handed" pl)
      callWith pos f first (backTo pos (starEach (e :: es) X.env)) (backToKw pos (keywordEach kws X.env)))) : PE X (.Call (.Attribute o "handed" apos) (e :: es) kws pos) (tHand K c k ta t tk) := by
  subst hK
  obtain ⟨f, fd, g, h1, h2, F⟩ := G.ex
  exact pe_methK he T.isi.cl h1 (F _ _ _ _) hr h2 pass0 ha hkw hall hks hst hpl ht
theorem pe_hand3 {pl : Sem Bool} (G : ∀ k, k < 3 → HandOf K c k) (T : ∀ k, k < 3 → Kd K c k) (hK : X.K = K) (hr : Room 1 X.A) (he : PE X o ta) (ha : PA X (e :: es) t) (hkw : PK X kws tk)
    (hall : (backToKw pos (keywordEach kws X.env)).all (·.1.isSome) = true := by rfl) (hks : (backToKw pos (keywordEach kws X.env)).filterMap (·.1) = kHand := by rfl) (hst : starEach (e :: es) X.env = (false, eval e X.env) :: starEach es X.env := by rfl)
    (hpl : ((backTo pos (starEach (e :: es) X.env)).any (·.1) || (backToKw pos (keywordEach kws X.env)).any (·.1.isNone)) = false := by rfl)
    (ht : eval (.Call (.Attribute o "handed" apos) (e :: es) kws pos) X.env = (do
      let ov ← eval o X.env
      standAt apos.atName
      let (f, first) ← holding [ov] (getMethod ov "handed" pl)
      callWith pos f first (backTo pos (starEach (e :: es) X.env)) (backToKw pos (keywordEach kws X.env))) := by rfl) : PE X (.Call (.Attribute o "handed" apos) (e :: es) kws pos) (tHand3 K c ta t tk) :=
  pe_or2 ((G 0 (by decide)).pe (T 0 (by decide)) hK hr he ha hkw hall hks hst hpl ht) (pe_or2 ((G 1 (by decide)).pe (T 1 (by decide)) hK hr he ha hkw hall hks hst hpl ht) ((G 2 (by decide)).pe (T 2 (by decide)) hK hr he ha hkw hall hks hst hpl ht))
variable {pf : Bool} {ρ : List Sl} {Φ : Dt → List Sl → Prop}
def consD (d : Dt) (ds es : List Dt) : List Dt := d :: (ds ++ es)
theorem consD_ok {K : PySem.W.Frag} {n j : Nat} (x : V) (vs zs : List V) (d : Dt) (ds es : List Dt) (H : Hp) (_ : vs.length = n) (_ : zs.length = j) (h : DX K H x d) (h1 : DXs K H vs ds) (h2 : DXs K H zs es) : DXs K H (gApp (x :: vs) zs) (consD d ds es) := .cons h (h1.append h2)
theorem w_hand3 (r : R) (hk : r.k < 3) (h : Wp K pf ta ρ fun d ρ1 => (∃ a, d = r.st c a) ∧ Wa K pf t ρ1 fun ds ρ2 => Wa K pf tk ρ2 fun fs ρ3 => ∃ m d u z hd, ds = [m] ∧ fs = [.bl d, .bl u, .bl z, hd] ∧ Φ (handD r.k m hd d u z) ρ3) : Wp K pf (tHand3 K c ta t tk) ρ Φ := by
  have one : Wp K pf (tHand K c r.k ta t tk) ρ Φ := w_methK (gD := consD) consD_ok (h.imp fun d ρ1 ⟨⟨a, e⟩, q⟩ => ⟨a, _, _, e, fld_no (by decide), fun M σ H S Q q2 => q M σ H S Q fun vs H2 ds ρ2 s2 S2 x2 k2 => q2 vs H2 ds ρ2 s2 S2 x2 fun M' σ' H' S' Q' q3 => k2 M' σ' H' S' Q' fun ws H3 fs ρ3 s3 S3 x3 ⟨m, d, u, z, hd, e1, e2, f⟩ => by
    subst e1 e2
    exact q3 ws H3 _ ρ3 s3 S3 x3 ⟨rfl, rfl, a, _, _, _, _, m, hd, d, u, z, rfl, f⟩⟩)
  match e : r.k, hk with
  | 0, _ => rw [e] at one; exact w_or1 one
  | 1, _ => rw [e] at one; exact w_or2 (w_or1 one)
  | 2, _ => rw [e] at one; exact w_or2 (w_or2 one)
end
/-! ### propped -/
def WProp (c : Nat → Addr) (k : Nat) : List Dt → (Dt → Prop) → Prop := fun ds Φ => ∃ a r up js, ds = [R.st c a r, .bl up, .tup (js.map Dt.int)] ∧ r.k = k ∧ r.Ok ∧ ∀ a, Φ ((r.prop up js).st c a)
section
variable {P : Program} {w : World} {K : PySem.W.Frag} {mg : Str → Option Value} {base : Heap} {c : Nat → Addr} {cI eT : Addr} {f : Addr} {fd : FuncData}
theorem WI_of {cI : Addr} {r : R} (h : r.Ok) {k : Nat} (e : r.k = k) {Φ : List Str → List Dt → Prop} {Ξ : Addr → List Str → List Dt → Prop} (q : Φ (flds k) (vals k (.str r.o) (.str r.w) (.int r.g) (lD r.l))) : WI cI k (args k (.str r.o) (.str r.w) (.int r.g) (lD r.l)) Φ Ξ := by
  subst e
  exact ⟨_, _, _, _, rfl, h.gd, fun _ => q, fun z e => by rw [h.fault] at e; cases e⟩
theorem ok_propP (F : Fun K "propped" "Pass.propped" sPass_propped f fd) (T : Kd K c 0) (m : MkP K mg c cI) (dP : DF K mg "_place" sPlace ["place", "propped"]) (gP : FnOk P w K mg base CX0 7 dP.f dP.fd ["place", "propped"] (spP K WPlace)) :
    FnOk P w K mg base CX0 8 f fd ["self", "on", "line"] (spP K (WProp c 0)) := by
  refine defP0 F scPass_propped (fun ds Φ ⟨a, r, up, js, e, _⟩ => by rw [e]; rfl) (by decide) fun cdv A outer s H E hr => ?_
  refine ⟨_, pss_one (ps_ret (m.pe (E := E0) rfl rfl hr (by rfl) passN (pa_cons (pe_call gP hr (by rfl) dP.g dP.F.kp dP.b .nil pass0 (pa_cons (pe_fld (pv 0) rfl) (pa_cons (pv 1) pa_nil))) pa_nil))), ?_⟩
  rintro ds Φ ⟨a, r, up, js, rfl, ek, ok, q⟩
  have ok2 := ok.prop up js
  refine ws_ret (pf := false) <| Wpx.wp (xk := fun _ _ _ => False) <| wx_make (pf := false) (fun _ _ _ z => z.elim) <| wa_cons <| w_call0 <| wa_cons <| w_fld T.isi.cl (T.no "_on" (by simp [fl4])) <| w_var (d := r.st c a) rfl ⟨a, _, _, .str r.o, by rw [R.st, ek]; rfl, rfl, wa_cons <| w_var (d := .bl up) rfl <| wa_nil ⟨.str r.o, up, rfl, wa_nil ?_⟩⟩
  have e1 : (if up = true then (Dt.str "shore") else .str r.o) = .str (r.prop up js).o := by
    show _ = Dt.str (if up = true then ("shore" : Str) else r.o)
    cases up <;> rfl
  rw [e1]
  refine WI_of (r := r.prop up js) ok2 (k := 0) ek fun a => ?_
  have := q a
  rw [R.st, show (r.prop up js).k = 0 from ek] at this
  exact this
theorem ok_propC (F : Fun K "propped" "Clamp.propped" sClamp_propped f fd) (T : Kd K c 1) (m : MkL K mg c cI eT 1 "Clamp") (dP : DF K mg "_place" sPlace ["place", "propped"]) (gP : FnOk P w K mg base CX0 7 dP.f dP.fd ["place", "propped"] (spP K WPlace))
    (dL : DF K mg "_left" sLeft ["line", "gone"]) (gL : FnOk P w K mg base CX0 7 dL.f dL.fd ["line", "gone"] (spP K WLeft)) : FnOk P w K mg base CX0 8 f fd ["self", "on", "line"] (spP K (WProp c 1)) := by
  refine defP0 F scClamp_propped (fun ds Φ ⟨a, r, up, js, e, _⟩ => by rw [e]; rfl) (by decide) fun cdv A outer s H E hr => ?_
  refine ⟨_, pss_one (ps_ret (m.peK (E := E0) rfl rfl hr (by rfl) passN (pa_cons (pe_call gP hr (by rfl) dP.g dP.F.kp dP.b .nil pass0 (pa_cons (pe_fld (pv 0) rfl) (pa_cons (pv 1) pa_nil))) (pa_cons (pe_fld (pv 0) rfl) pa_nil)) (pk_cons (pe_fld (pv 0) rfl) (pk_cons (pe_call gL hr (by rfl) dL.g dL.F.kp dL.b .nil pass0 (pa_cons (pe_fld (pv 0) rfl) (pa_cons (pv 2) pa_nil))) pk_nil)))), ?_⟩
  rintro ds Φ ⟨a, r, up, js, rfl, ek, ok, q⟩
  have ok2 := ok.prop up js
  have es : r.st c a = .ins (c 1) a fl4 [.str r.o, .str r.w, .int r.g, lD r.l] := by rw [R.st, ek]; rfl
  have e1 : (if up = true then (Dt.str "shore") else .str r.o) = .str (r.prop up js).o := by
    show _ = Dt.str (if up = true then ("shore" : Str) else r.o)
    cases up <;> rfl
  refine ws_ret (pf := false) <| Wpx.wp (xk := fun _ _ _ => False) <| wx_makeK (pf := false) (gD := fun ds es => ds ++ es) (fun x vs zs ds es H _ _ h1 h2 => ⟨vs ++ zs, rfl, h1.append h2⟩) (fun _ _ _ z => z.elim)
    <| wa_cons <| w_call0 <| wa_cons <| w_fld T.isi.cl (T.no "_on" (by simp [fl4])) <| w_var (d := r.st c a) rfl ⟨a, _, _, .str r.o, es, rfl, wa_cons <| w_var (d := .bl up) rfl <| wa_nil ⟨.str r.o, up, rfl,
      wa_cons <| w_fld T.isi.cl (T.no "_owner" (by simp [fl4])) <| w_var (d := r.st c a) rfl ⟨a, _, _, .str r.w, es, rfl, wa_nil <| wa_cons <| w_fld T.isi.cl (T.no "_gives" (by simp [fl4])) <| w_var (d := r.st c a) rfl ⟨a, _, _, .int r.g, es, rfl,
        wa_cons <| w_call0 <| wa_cons <| w_fld T.isi.cl (T.no "_line" (by simp [fl4])) <| w_var (d := r.st c a) rfl ⟨a, _, _, lD r.l, es, rfl, wa_cons <| w_var (d := .tup (js.map Dt.int)) rfl <| wa_nil ⟨r.l.map Dt.str, js, rfl, by rw [List.length_map]; exact Nat.le_trans ok.ll (by decide), wa_nil ⟨rfl, rfl, ?_⟩⟩⟩⟩⟩⟩⟩
  rw [e1, leftD_eq]
  refine WI_of (r := r.prop up js) ok2 (k := 1) ek fun a => ?_
  have := q a
  rw [R.st, show (r.prop up js).k = 1 from ek] at this
  exact this
theorem ok_propH (F : Fun K "propped" "Holding.propped" sHolding_propped f fd) (T : Kd K c 2) (m : MkL K mg c cI eT 2 "Holding") (dP : DF K mg "_place" sPlace ["place", "propped"]) (gP : FnOk P w K mg base CX0 7 dP.f dP.fd ["place", "propped"] (spP K WPlace))
    (dL : DF K mg "_left" sLeft ["line", "gone"]) (gL : FnOk P w K mg base CX0 7 dL.f dL.fd ["line", "gone"] (spP K WLeft)) : FnOk P w K mg base CX0 8 f fd ["self", "on", "line"] (spP K (WProp c 2)) := by
  refine defP0 F scHolding_propped (fun ds Φ ⟨a, r, up, js, e, _⟩ => by rw [e]; rfl) (by decide) fun cdv A outer s H E hr => ?_
  refine ⟨_, pss_one (ps_ret (m.peK (E := E0) rfl rfl hr (by rfl) passN (pa_cons (pe_call gP hr (by rfl) dP.g dP.F.kp dP.b .nil pass0 (pa_cons (pe_fld (pv 0) rfl) (pa_cons (pv 1) pa_nil))) (pa_cons (pe_fld (pv 0) rfl) pa_nil)) (pk_cons (pe_call gL hr (by rfl) dL.g dL.F.kp dL.b .nil pass0 (pa_cons (pe_fld (pv 0) rfl) (pa_cons (pv 2) pa_nil))) pk_nil))), ?_⟩
  rintro ds Φ ⟨a, r, up, js, rfl, ek, ok, q⟩
  have ok2 := ok.prop up js
  have es : r.st c a = .ins (c 2) a fl4 [.str r.o, .str r.w, .non, lD r.l] := by rw [R.st, ek]; rfl
  have e1 : (if up = true then (Dt.str "shore") else .str r.o) = .str (r.prop up js).o := by
    show _ = Dt.str (if up = true then ("shore" : Str) else r.o)
    cases up <;> rfl
  refine ws_ret (pf := false) <| Wpx.wp (xk := fun _ _ _ => False) <| wx_makeK (pf := false) (gD := fun ds es => ds ++ es) (fun x vs zs ds es H _ _ h1 h2 => ⟨vs ++ zs, rfl, h1.append h2⟩) (fun _ _ _ z => z.elim)
    <| wa_cons <| w_call0 <| wa_cons <| w_fld T.isi.cl (T.no "_on" (by simp [fl4])) <| w_var (d := r.st c a) rfl ⟨a, _, _, .str r.o, es, rfl, wa_cons <| w_var (d := .bl up) rfl <| wa_nil ⟨.str r.o, up, rfl,
      wa_cons <| w_fld T.isi.cl (T.no "_owner" (by simp [fl4])) <| w_var (d := r.st c a) rfl ⟨a, _, _, .str r.w, es, rfl, wa_nil <|
        wa_cons <| w_call0 <| wa_cons <| w_fld T.isi.cl (T.no "_line" (by simp [fl4])) <| w_var (d := r.st c a) rfl ⟨a, _, _, lD r.l, es, rfl, wa_cons <| w_var (d := .tup (js.map Dt.int)) rfl <| wa_nil ⟨r.l.map Dt.str, js, rfl, by rw [List.length_map]; exact Nat.le_trans ok.ll (by decide), wa_nil ⟨rfl, rfl, ?_⟩⟩⟩⟩⟩⟩
  rw [e1, leftD_eq]
  refine WI_of (r := r.prop up js) ok2 (k := 2) ek fun a => ?_
  have := q a
  rw [R.st, show (r.prop up js).k = 2 from ek] at this
  exact this
end
end K05

set_option maxHeartbeats 2000000
namespace K05
open PySem PySem.Spec PyProof.Rows L2 DL
/-! ### == of data -/
section
variable {K : PySem.W.Frag} {Ψ : Dt → Prop} {d1 d2 : Dt} {b : Bool}
theorem od_eqV (s1 : d1.seqs = true) (s2 : d2.seqs = true) (h1 : SeqAt.shaped d1.py = true) (h2 : SeqAt.shaped d2.py = true) (e : PyData.eqv d1.py d2.py = b) (h : Ψ (.bl b)) : OD K (rEqD K) d1 d2 Ψ := fun M H u v m x1 x2 Q q => by
  refine ⟨_, _, (x1.mono (cut_sub M H)).dp s1, (x2.mono (cut_sub M H)).dp s2, h1, h2, ?_⟩
  rw [e]
  exact q _ H _ (Same.refl H) (.bl _) h
theorem od_neV (s1 : d1.seqs = true) (s2 : d2.seqs = true) (h1 : SeqAt.shaped d1.py = true) (h2 : SeqAt.shaped d2.py = true) (e : PyData.eqv d1.py d2.py = b) (h : Ψ (.bl (!b))) : OD K (rNeD K) d1 d2 Ψ := fun M H u v m x1 x2 Q q => by
  refine ⟨_, _, (x1.mono (cut_sub M H)).dp s1, (x2.mono (cut_sub M H)).dp s2, h1, h2, ?_⟩
  rw [e]
  exact q _ H _ (Same.refl H) (.bl _) h
end
theorem lets_str : (lets.all PyData.strOk) = true := by decide +kernel
theorem shp_strs {xs : List Str} (h : ∀ x ∈ xs, PyData.strOk x = true) : seqss (xs.map Dt.str) = true ∧ PyData.canLayAll0 (pys (xs.map Dt.str)) = true ∧ PyData.depthAll (pys (xs.map Dt.str)) ≤ 1 := by
  induction xs with
  | nil => simp [seqss, pys, PyData.canLayAll0, PyData.depthAll]
  | cons x xs ih =>
    obtain ⟨h1, h2, h3⟩ := ih fun y hy => h y (List.mem_cons_of_mem _ hy)
    have h0 := h x List.mem_cons_self
    simp only [List.map_cons, seqss, Dt.seqs, pys, Dt.py, PyData.canLayAll0, PyData.canLay0, PyData.depthAll, PyData.depth, h0, h1, h2, Bool.and_true, true_and]
    omega
theorem shp_lD {xs : List Str} (h : ∀ x ∈ xs, PyData.strOk x = true) : (lD xs).seqs = true ∧ SeqAt.shaped (lD xs).py = true := by
  obtain ⟨h1, h2, h3⟩ := shp_strs h
  refine ⟨by unfold lD; simp only [Dt.seqs]; exact h1, ?_⟩
  unfold SeqAt.shaped lD
  simp only [Dt.py, PyData.canLay0, PyData.depth, h2, Bool.true_and, decide_eq_true_eq]
  omega
theorem eqv_strs : ∀ xs ys : List Str, PyData.eqvAll (pys (xs.map Dt.str)) (pys (ys.map Dt.str)) = decide (xs = ys)
  | [], [] => by simp [pys, PyData.eqvAll]
  | [], y :: ys => by simp [pys, PyData.eqvAll]
  | x :: xs, [] => by simp [pys, PyData.eqvAll]
  | x :: xs, y :: ys => by
    have ih := eqv_strs xs ys
    simp only [List.map_cons, pys, PyData.eqvAll, Dt.py, PyData.eqv, ih]
    by_cases h : x = y
    · subst h; simp
    · simp [h]
theorem R.Ok.lok {r : R} (h : r.Ok) : ∀ x ∈ r.l, PyData.strOk x = true := fun x hx => List.all_eq_true.mp lets_str _ (h.ls x hx)
section
variable {K : PySem.W.Frag} {Ψ : Dt → Prop}
theorem od_eqLn {r r' : R} (h : r.Ok) (h' : r'.Ok) (q : Ψ (.bl (decide (r.l = r'.l)))) : OD K (rEqD K) (lD r.l) (lD r'.l) Ψ :=
  od_eqV (shp_lD h.lok).1 (shp_lD h'.lok).1 (shp_lD h.lok).2 (shp_lD h'.lok).2 (by unfold lD; simp only [Dt.py, PyData.eqv]; exact eqv_strs _ _) q
end
/-! ### == of stations -/
def eqR (r r' : R) : Bool := decide (r.k = r'.k) && (decide (r.o = r'.o) && ((decide (r.k = 0) || (decide (r.w = r'.w) && decide (r.l = r'.l))) && (decide (r.k ≠ 1) || decide (r.g = r'.g))))
theorem eqR_refl (r : R) : eqR r r = true := by unfold eqR; simp
def WEq (c : Nat → Addr) (k : Nat) : List Dt → (Dt → Prop) → Prop := fun ds Φ => ∃ a r d, ds = [R.st c a r, d] ∧ r.k = k ∧ r.Ok ∧ ((∃ b r', d = R.st c b r' ∧ r'.Ok ∧ ¬ (k = 1 ∧ r'.k = 2) ∧ Φ (.bl (eqR r r'))) ∨ ∃ xs, d = .lst xs ∧ Φ (.bl false))
def isb (k j : Nat) : Bool := if j = 0 then decide (k = 0) else if j = 1 then decide (1 ≤ k) else decide (k = 2)
/-- what isinstance tells of stations and lists -/
structure IsT (K : PySem.W.Frag) (mg : Str → Option Value) (c : Nat → Addr) (cS : Addr) : Prop where
  kd : ∀ k, k < 3 → Kd K c k
  is : ∀ k j, k < 3 → j < 3 → PySem.W.kitOne K (.ref (c k)) (.ref (c j)) = some (isb k j)
  isS : ∀ k, k < 3 → PySem.W.kitOne K (.ref (c k)) (.ref cS) = some true
  isL : ∀ j, j < 3 → PySem.W.kitOne K (.type "list") (.ref (c j)) = some false
  nS : mg "Station" = some (.ref cS)
  n0 : mg "Pass" = some (.ref (c 0))
  n1 : mg "Clamp" = some (.ref (c 1))
  n2 : mg "Holding" = some (.ref (c 2))
section
variable {K : PySem.W.Frag} {mg : Str → Option Value} {c : Nat → Addr} {cS : Addr} {Ψ : Dt → Prop}
theorem IsT.rd (T : IsT K mg c cS) {r : R} (hk : r.k < 3) {a : Addr} {j : Nat} (hj : j < 3) (h : Ψ (.bl (isb r.k j))) : RD K (rIsi K) [r.st c a, .cls (c j)] Ψ := by
  unfold R.st stD
  exact rd_isiI (T.kd _ hk).isi (T.is _ _ hk hj) h
theorem IsT.rdS (T : IsT K mg c cS) {r : R} (hk : r.k < 3) {a : Addr} (h : Ψ (.bl true)) : RD K (rIsi K) [r.st c a, .cls cS] Ψ := by
  unfold R.st stD
  exact rd_isiI (T.kd _ hk).isi (T.isS _ hk) h
theorem IsT.rdL (T : IsT K mg c cS) {xs : List Dt} {j : Nat} (hj : j < 3) (h : Ψ (.bl false)) : RD K (rIsi K) [.lst xs, .cls (c j)] Ψ := rd_isiO rfl (T.isL _ hj) h
end
section
variable {P : Program} {w : World} {K : PySem.W.Frag} {mg : Str → Option Value} {base : Heap} {c : Nat → Addr} {cS : Addr} {f : Addr} {fd : FuncData}
theorem st0 {r : R} (e : r.k = 0) {c : Nat → Addr} {a : Addr} : r.st c a = .ins (c 0) a ["_on"] [.str r.o] := by rw [R.st, e]; rfl
theorem st1 {r : R} (e : r.k = 1) {c : Nat → Addr} {a : Addr} : r.st c a = .ins (c 1) a fl4 [.str r.o, .str r.w, .int r.g, lD r.l] := by rw [R.st, e]; rfl
theorem st2 {r : R} (e : r.k = 2) {c : Nat → Addr} {a : Addr} : r.st c a = .ins (c 2) a fl4 [.str r.o, .str r.w, .non, lD r.l] := by rw [R.st, e]; rfl
theorem eqR_ne {r r' : R} (h : r.k ≠ r'.k) : eqR r r' = false := by unfold eqR; rw [decide_eq_false h, Bool.false_and]
theorem ok_eqP (F : Fun K "__eq__" "Pass.__eq__" sPass_eq f fd) (B : Bt mg) (T : IsT K mg c cS) : FnOk P w K mg base CX0 1 f fd ["self", "other"] (spP K (WEq c 0)) := by
  refine defP0 F scPass_eq (fun ds Φ ⟨a, r, d, e, _⟩ => by rw [e]; rfl) (by decide) fun cdv A outer s H E hr => ?_
  refine ⟨_, pss_one (ps_ret (pe_and (pe_callB (isiK K rfl) (by rfl) B.isi boot_isinstance (pa_cons (pv 1) (pa_cons (pe_glob (v := .ref (c 0)) (by rfl) T.n0 rfl) pa_nil)))
    (pe_one (pe_cmpR op_eq (pe_fld (pv 0) rfl) (pe_fld (pv 1) rfl) (nomark _))))), ?_⟩
  rintro ds Φ ⟨a, r, d, rfl, ek, ok, h⟩
  have cl := (T.kd 0 (by decide)).isi.cl
  have nO := (T.kd 0 (by decide)).no "_on" (by simp [fl4])
  rcases h with ⟨b, r', rfl, ok', ne, q⟩ | ⟨xs, rfl, q⟩
  · refine ws_ret (pf := true) <| w_andV <| w_cb <| wa_cons <| w_var (d := r'.st c b) rfl <| wa_cons <| w_c (fun _ => .cls _) <| wa_nil <| T.rd ok'.k (by decide) ⟨_, rfl, ?_⟩
    by_cases e : r'.k = 0
    · rw [show isb r'.k 0 = true from decide_eq_true e]
      refine ifT <| w_op <| w_fld cl nO <| w_var (d := r.st c a) rfl ⟨a, _, _, .str r.o, st0 ek, rfl, w_fld cl nO <| w_var (d := r'.st c b) rfl ⟨b, _, _, .str r'.o, st0 e, rfl, od_eqs ?_⟩⟩
      have e2 : eqR r r' = decide (r.o = r'.o) := by unfold eqR; rw [ek, e]; simp
      rw [← e2]
      exact q
    · rw [show isb r'.k 0 = false from decide_eq_false e]
      rw [eqR_ne (by rw [ek]; exact fun z => e z.symm)] at q
      exact ifF q
  · exact ws_ret (pf := true) <| w_andV <| w_cb <| wa_cons <| w_var (d := .lst xs) rfl <| wa_cons <| w_c (fun _ => .cls _) <| wa_nil <| T.rdL (by decide) ⟨_, rfl, ifF q⟩
theorem ok_eqC (F : Fun K "__eq__" "Clamp.__eq__" sClamp_eq f fd) (B : Bt mg) (T : IsT K mg c cS) : FnOk P w K mg base CX0 1 f fd ["self", "other"] (spP K (WEq c 1)) := by
  refine defP0 F scClamp_eq (fun ds Φ ⟨a, r, d, e, _⟩ => by rw [e]; rfl) (by decide) fun cdv A outer s H E hr => ?_
  refine ⟨_, pss_one (ps_ret (pe_and (pe_callB (isiK K rfl) (by rfl) B.isi boot_isinstance (pa_cons (pv 1) (pa_cons (pe_glob (v := .ref (c 1)) (by rfl) T.n1 rfl) pa_nil)))
    (pe_and (pe_cmpR op_eq (pe_fld (pv 0) rfl) (pe_fld (pv 1) rfl) (nomark _)) (pe_and (pe_cmpR op_eq (pe_fld (pv 0) rfl) (pe_fld (pv 1) rfl) (nomark _)) (pe_and (pe_cmpR op_eq (pe_fld (pv 0) rfl) (pe_fld (pv 1) rfl) (nomark _))
    (pe_one (pe_cmpR (eqDK K rfl hr.units) (pe_fld (pv 0) rfl) (pe_fld (pv 1) rfl) (nomark _)))))))), ?_⟩
  rintro ds Φ ⟨a, r, d, rfl, ek, ok, h⟩
  have cl := (T.kd 1 (by decide)).isi.cl
  have nO := (T.kd 1 (by decide)).no "_on" (by simp [fl4])
  have nW := (T.kd 1 (by decide)).no "_owner" (by simp [fl4])
  have nG := (T.kd 1 (by decide)).no "_gives" (by simp [fl4])
  have nL := (T.kd 1 (by decide)).no "_line" (by simp [fl4])
  rcases h with ⟨b, r', rfl, ok', ne, q⟩ | ⟨xs, rfl, q⟩
  · refine ws_ret (pf := true) <| w_andV <| w_cb <| wa_cons <| w_var (d := r'.st c b) rfl <| wa_cons <| w_c (fun _ => .cls _) <| wa_nil <| T.rd ok'.k (by decide) ⟨_, rfl, ?_⟩
    by_cases e0 : r'.k = 0
    · rw [show isb r'.k 1 = false from by rw [e0]; rfl]
      rw [eqR_ne (by rw [ek, e0]; decide)] at q
      exact ifF q
    · have e : r'.k = 1 := by have := ok'.k; have : r'.k ≠ 2 := fun z => ne ⟨rfl, z⟩; omega
      have e2 : eqR r r' = (decide (r.o = r'.o) && (decide (r.w = r'.w) && (decide (r.g = r'.g) && decide (r.l = r'.l)))) := by
        unfold eqR; rw [ek, e]
        cases decide (r.o = r'.o) <;> cases decide (r.w = r'.w) <;> cases decide (r.g = r'.g) <;> cases decide (r.l = r'.l) <;> rfl
      rw [e2] at q
      rw [show isb r'.k 1 = true from by rw [e]; rfl]
      refine ifT <| w_andV <| w_op <| w_fld cl nO <| w_var (d := r.st c a) rfl ⟨a, _, _, .str r.o, st1 ek, rfl, w_fld cl nO <| w_var (d := r'.st c b) rfl ⟨b, _, _, .str r'.o, st1 e, rfl, od_eqs ⟨_, rfl, ?_⟩⟩⟩
      cases c1 : decide (r.o = r'.o) with
      | false => rw [c1] at q; exact ifF q
      | true =>
        rw [c1, Bool.true_and] at q
        refine ifT <| w_andV <| w_op <| w_fld cl nW <| w_var (d := r.st c a) rfl ⟨a, _, _, .str r.w, st1 ek, rfl, w_fld cl nW <| w_var (d := r'.st c b) rfl ⟨b, _, _, .str r'.w, st1 e, rfl, od_eqs ⟨_, rfl, ?_⟩⟩⟩
        cases c2 : decide (r.w = r'.w) with
        | false => rw [c2] at q; exact ifF q
        | true =>
          rw [c2, Bool.true_and] at q
          refine ifT <| w_andV <| w_op <| w_fld cl nG <| w_var (d := r.st c a) rfl ⟨a, _, _, .int r.g, st1 ek, rfl, w_fld cl nG <| w_var (d := r'.st c b) rfl ⟨b, _, _, .int r'.g, st1 e, rfl, od_eqi ⟨_, rfl, ?_⟩⟩⟩
          cases c3 : decide (r.g = r'.g) with
          | false => rw [c3] at q; exact ifF q
          | true =>
            rw [c3, Bool.true_and] at q
            exact ifT <| w_op <| w_fld cl nL <| w_var (d := r.st c a) rfl ⟨a, _, _, lD r.l, st1 ek, rfl, w_fld cl nL <| w_var (d := r'.st c b) rfl ⟨b, _, _, lD r'.l, st1 e, rfl, od_eqLn ok ok' q⟩⟩
  · exact ws_ret (pf := true) <| w_andV <| w_cb <| wa_cons <| w_var (d := .lst xs) rfl <| wa_cons <| w_c (fun _ => .cls _) <| wa_nil <| T.rdL (by decide) ⟨_, rfl, ifF q⟩
theorem ok_eqH (F : Fun K "__eq__" "Holding.__eq__" sHolding_eq f fd) (B : Bt mg) (T : IsT K mg c cS) : FnOk P w K mg base CX0 1 f fd ["self", "other"] (spP K (WEq c 2)) := by
  refine defP0 F scHolding_eq (fun ds Φ ⟨a, r, d, e, _⟩ => by rw [e]; rfl) (by decide) fun cdv A outer s H E hr => ?_
  refine ⟨_, pss_one (ps_ret (pe_and (pe_callB (isiK K rfl) (by rfl) B.isi boot_isinstance (pa_cons (pv 1) (pa_cons (pe_glob (v := .ref (c 2)) (by rfl) T.n2 rfl) pa_nil)))
    (pe_and (pe_cmpR op_eq (pe_fld (pv 0) rfl) (pe_fld (pv 1) rfl) (nomark _)) (pe_and (pe_cmpR op_eq (pe_fld (pv 0) rfl) (pe_fld (pv 1) rfl) (nomark _))
    (pe_one (pe_cmpR (eqDK K rfl hr.units) (pe_fld (pv 0) rfl) (pe_fld (pv 1) rfl) (nomark _))))))), ?_⟩
  rintro ds Φ ⟨a, r, d, rfl, ek, ok, h⟩
  have cl := (T.kd 2 (by decide)).isi.cl
  have nO := (T.kd 2 (by decide)).no "_on" (by simp [fl4])
  have nW := (T.kd 2 (by decide)).no "_owner" (by simp [fl4])
  have nL := (T.kd 2 (by decide)).no "_line" (by simp [fl4])
  rcases h with ⟨b, r', rfl, ok', ne, q⟩ | ⟨xs, rfl, q⟩
  · refine ws_ret (pf := true) <| w_andV <| w_cb <| wa_cons <| w_var (d := r'.st c b) rfl <| wa_cons <| w_c (fun _ => .cls _) <| wa_nil <| T.rd ok'.k (by decide) ⟨_, rfl, ?_⟩
    by_cases e : r'.k = 2
    · have e2 : eqR r r' = (decide (r.o = r'.o) && (decide (r.w = r'.w) && decide (r.l = r'.l))) := by
        unfold eqR; rw [ek, e]
        cases decide (r.o = r'.o) <;> cases decide (r.w = r'.w) <;> cases decide (r.l = r'.l) <;> rfl
      rw [e2] at q
      rw [show isb r'.k 2 = true from by rw [e]; rfl]
      refine ifT <| w_andV <| w_op <| w_fld cl nO <| w_var (d := r.st c a) rfl ⟨a, _, _, .str r.o, st2 ek, rfl, w_fld cl nO <| w_var (d := r'.st c b) rfl ⟨b, _, _, .str r'.o, st2 e, rfl, od_eqs ⟨_, rfl, ?_⟩⟩⟩
      cases c1 : decide (r.o = r'.o) with
      | false => rw [c1] at q; exact ifF q
      | true =>
        rw [c1, Bool.true_and] at q
        refine ifT <| w_andV <| w_op <| w_fld cl nW <| w_var (d := r.st c a) rfl ⟨a, _, _, .str r.w, st2 ek, rfl, w_fld cl nW <| w_var (d := r'.st c b) rfl ⟨b, _, _, .str r'.w, st2 e, rfl, od_eqs ⟨_, rfl, ?_⟩⟩⟩
        cases c2 : decide (r.w = r'.w) with
        | false => rw [c2] at q; exact ifF q
        | true =>
          rw [c2, Bool.true_and] at q
          exact ifT <| w_op <| w_fld cl nL <| w_var (d := r.st c a) rfl ⟨a, _, _, lD r.l, st2 ek, rfl, w_fld cl nL <| w_var (d := r'.st c b) rfl ⟨b, _, _, lD r'.l, st2 e, rfl, od_eqLn ok ok' q⟩⟩
    · rw [show isb r'.k 2 = false from decide_eq_false e]
      rw [eqR_ne (by rw [ek]; exact fun z => e z.symm)] at q
      exact ifF q
  · exact ws_ret (pf := true) <| w_andV <| w_cb <| wa_cons <| w_var (d := .lst xs) rfl <| wa_cons <| w_c (fun _ => .cls _) <| wa_nil <| T.rdL (by decide) ⟨_, rfl, ifF q⟩
end
/-! ### the operators -/
structure EqOf (K : PySem.W.Frag) (mg : Str → Option Value) (c : Nat → Addr) (k : Nat) : Prop where
  ex : ∃ (f : Addr) (fd : FuncData), EqC K (c k) f ∧ Binds K fd ["self", "other"] [] ∧ ∀ (P : Program) (w : World) (base : Heap), FnOk P w K mg base CX0 1 f fd ["self", "other"] (spP K (WEq c k))
structure EqT (K : PySem.W.Frag) (mg : Str → Option Value) (c : Nat → Addr) (cS : Addr) : Prop where
  T : IsT K mg c cS
  of : ∀ k, k < 3 → EqOf K mg c k
  nf : ∀ i j, i < 3 → j < 3 → ¬ (i = 1 ∧ j = 2) → PySem.W.notFirst K (c i) (.ref (c j)) = true
  nfL : ∀ i, i < 3 → PySem.W.notFirst K (c i) (.type "list") = true
  ne : c 1 ≠ c 2
  sub : PySem.W.subIn K (.ref (c 2)) (.ref (c 1)) = some true
def rSt (K : PySem.W.Frag) (c : Nat → Addr) (neg : Bool) (k : Nat) : R2 := rOwnL K neg (c k) (spP K (WEq c k))
def rSt4 (K : PySem.W.Frag) (c : Nat → Addr) (neg : Bool) : R2 := fun x y H Q => rSt K c neg 0 x y H Q ∨ (rSt K c neg 1 x y H Q ∨ (rSt K c neg 2 x y H Q ∨ rOwnR K neg (c 1) (c 2) (spP K (WEq c 2)) x y H Q))
section
variable {K : PySem.W.Frag} {mg : Str → Option Value} {c : Nat → Addr} {cS : Addr} {X : Cx} {Ψ : Dt → Prop}
theorem EqT.eq4 (E : EqT K mg c cS) (hK : X.K = K) (hm : X.mg = mg) (hr : Room 1 X.A) : OpR X (compareOp .Eq) (rSt4 K c false) := by
  subst hK hm
  obtain ⟨f0, d0, h0, b0, F0⟩ := (E.of 0 (by decide)).ex
  obtain ⟨f1, d1, h1, b1, F1⟩ := (E.of 1 (by decide)).ex
  obtain ⟨f2, d2, h2, b2, F2⟩ := (E.of 2 (by decide)).ex
  exact op_or (op_eqL (F0 _ _ _) h0 b0 pass0 hr) (op_or (op_eqL (F1 _ _ _) h1 b1 pass0 hr) (op_or (op_eqL (F2 _ _ _) h2 b2 pass0 hr) (op_eqR (F2 _ _ _) h2 b2 pass0 hr)))
theorem EqT.ne4 (E : EqT K mg c cS) (hK : X.K = K) (hm : X.mg = mg) (hr : Room 2 X.A) : OpR X (compareOp .NotEq) (rSt4 K c true) := by
  subst hK hm
  obtain ⟨f0, d0, h0, b0, F0⟩ := (E.of 0 (by decide)).ex
  obtain ⟨f1, d1, h1, b1, F1⟩ := (E.of 1 (by decide)).ex
  obtain ⟨f2, d2, h2, b2, F2⟩ := (E.of 2 (by decide)).ex
  exact op_or (op_neL (F0 _ _ _) h0 b0 pass0 hr) (op_or (op_neL (F1 _ _ _) h1 b1 pass0 hr) (op_or (op_neL (F2 _ _ _) h2 b2 pass0 hr) (op_neR (F2 _ _ _) h2 b2 pass0 hr)))
theorem ty_st (T : IsT K mg c cS) {r : R} (ok : r.Ok) {a : Addr} : ∀ M H y, DX K (cut M H) y (r.st c a) → TyX K H y (.ref (c r.k)) := fun M H y x => tyI (T.kd _ ok.k).isi x
theorem st_any (neg : Bool) {x y : Dt} {k : Nat} (hk : k < 3) (h : OD K (rSt K c neg k) x y Ψ) : OD K (rSt4 K c neg) x y Ψ := by
  match k, hk with
  | 0, _ => exact od_or1 h
  | 1, _ => exact od_or2 (od_or1 h)
  | 2, _ => exact od_or2 (od_or2 (od_or1 h))
theorem od_st (E : EqT K mg c cS) {neg : Bool} {r r' : R} (ok : r.Ok) (ok' : r'.Ok) {a b : Addr} (q : Ψ (.bl (neg ^^ eqR r r'))) : OD K (rSt4 K c neg) (r.st c a) (r'.st c b) Ψ := by
  by_cases e : r.k = 1 ∧ r'.k = 2
  · have e0 : eqR r r' = eqR r' r := by rw [eqR_ne (by rw [e.1, e.2]; decide), eqR_ne (by rw [e.1, e.2]; decide)]
    rw [e0] at q
    have h : OD K (rOwnR K neg (c 1) (c 2) (spP K (WEq c 2))) (r.st c a) (r'.st c b) Ψ := by
      rw [st1 e.1, st2 e.2]
      exact od_ownR E.ne E.sub ⟨b, r', r.st c a, by rw [st1 e.1, st2 e.2], e.2, ok', .inl ⟨a, r, rfl, ok, fun z => (nomatch z.1), _, rfl, q⟩⟩
    exact od_or2 (od_or2 (od_or2 h))
  · refine st_any neg ok.k ?_
    unfold rSt
    have h := od_ownL (K := K) (Ψ := Ψ) (C := c r.k) (a := a) (ns := flds r.k) (es := vals r.k (.str r.o) (.str r.w) (.int r.g) (lD r.l)) (W := WEq c r.k) (neg := neg) (ty_st E.T ok' (a := b)) (E.nf _ _ ok.k ok'.k e) ⟨a, r, r'.st c b, rfl, rfl, ok, .inl ⟨b, r', rfl, ok', e, _, rfl, q⟩⟩
    exact h
theorem od_stL (E : EqT K mg c cS) {neg : Bool} {r : R} (ok : r.Ok) {a : Addr} {xs : List Dt} (q : Ψ (.bl (neg ^^ false))) : OD K (rSt4 K c neg) (r.st c a) (.lst xs) Ψ := by
  refine st_any neg ok.k ?_
  unfold rSt
  exact od_ownL (K := K) (Ψ := Ψ) (C := c r.k) (a := a) (ns := flds r.k) (es := vals r.k (.str r.o) (.str r.w) (.int r.g) (lD r.l)) (W := WEq c r.k) (neg := neg) (t := .type "list") (fun M H y x => tyX_of x rfl) (E.nfL _ ok.k) ⟨a, r, .lst xs, rfl, rfl, ok, .inr ⟨xs, rfl, _, rfl, q⟩⟩
end
end K05

namespace K05
open PySem PySem.Spec PyProof.Rows L2 DL

abbrev sPenOf : Stmt := topS 20
abbrev sDraw : Stmt := topS 21
theorem scPenOf : FnScope ["_law_script"] ["_law_script"] (defScope sPenOf) := ⟨rfl, rfl, rfl, by decide +kernel, rfl, by decide +kernel, by decide +kernel⟩
theorem scDraw : FnScope ["_law_pen", "_law_many", "_law_digit", "_law_at", "_law_cell", "_law_great", "_law_mixed"] ["_law_pen", "_law_many"] (defScope sDraw) := ⟨rfl, rfl, rfl, by decide +kernel, rfl, by decide +kernel, by decide +kernel⟩
section
variable {P : Program} {w : World} {K : PySem.W.Frag} {mg : Str → Option Value} {base : Heap}
theorem cutV_to {xs : List V} (n : Nat) : cutV xs none (some (n : Int)) = xs.take n := by
  unfold cutV
  rw [HT.sIx_none, HT.sIx_nat, List.drop_zero, Nat.sub_zero]
  by_cases c : n ≤ xs.length
  · rw [Nat.min_eq_left c]
  · rw [Nat.min_eq_right (by omega), List.take_of_length_le (Nat.le_refl _), List.take_of_length_le (by omega)]
theorem ok_penOf {f : Addr} {fd : FuncData} (F : Fun K "_law_pen_of" "_law_pen_of" sPenOf f fd) (B : Bt mg) : FnG P w K mg base CX0 1 f fd ["_law_script"] (spPen K) := by
  refine okG F scPenOf (fun vs H Q E ⟨a, ns, e, _⟩ => by rw [e]; rfl) fun cdv A outer s H vs Q E hr hg h => ?_
  refine ⟨_, pss_one (ps_ret (pe_lst (pa_cons (pe_callTy call_list_of (by rfl) B.list PyProof.Rows.boot_list (pa_cons (pe_slice sl_list (pv 0) po_none (po_some pe_int)) pa_nil)) (pa_cons pe_int (pa_cons pe_int pa_nil))))), ?_⟩
  obtain ⟨a, ns, rfl, hS, q⟩ := h
  refine ⟨.ref a, rfl, 63, rfl, a, _, rfl, hS, fun c nc => ⟨c, _, rfl, .inl (.inl (.inl upd_same)), fun l nl => ⟨by show 3 ≤ sizeLine; decide, fun p np => ?_⟩⟩⟩
  have e1 := cutV_to (xs := ns.map V.int) 63
  have s1 : Same H (upd H c (.lst (cutV (ns.map V.int) none (some 63)))) := same_new nc
  have s2 := same_new (o := .lst (cutV (ns.map V.int) none (some 63))) nl
  have hl : H l = none := by
    cases z : H l with
    | none => rfl
    | some o => rw [s1 l o z] at nl; cases nl
  have hp : H p = none := by
    cases z : H p with
    | none => rfl
    | some o => rw [s2 p o (s1 p o z)] at np; cases np
  have npl : p ≠ l := fun z => by rw [z, upd_same] at np; cases np
  refine q _ p l ((s1.trans s2).trans (same_new np)) hp hl npl upd_same ?_
  rw [upd_ne npl.symm, upd_same, List.map_take, ← e1]
  rfl
def WDraw : Nat → List Dt → (Dt → Nat → Prop) → Prop := fun n ds Φ => ∃ many : Int, ds = [.int many] ∧ 0 < many ∧ many < 1073741824 ∧ n < 1000000 ∧ ∀ r : Nat, (r : Int) < many → Φ (.int r) (n + 1)
theorem ok_draw {f : Addr} {fd : FuncData} (F : Fun K "_law_draw" "_law_draw" sDraw f fd) (B : Bt mg) : FnG P w K mg base CX0 1 f fd ["_law_pen", "_law_many"] (spN K WDraw) := by
  refine defN F scDraw (fun n ds Φ ⟨m, e, _⟩ => by rw [e]; rfl) (by decide) fun cdv A outer s H E hr hg => ?_
  refine ⟨_, pss_cons (ps_if (pt_cmpR op_gt (pe_ix ix_list (pv 0) pe_int (fun _ _ => rfl)) pe_int (nomark _))
      (pss_cons (ps_set (i := 2) scDraw.nd rfl (.inl rfl) (pe_op op_mod (pe_callTy call_int1 (by rfl) B.int PyProof.Rows.boot_int (pa_cons (pe_ix ix_list (pv 0) pe_int (fun _ _ => rfl)) pa_nil)) (pv 1)))
      (pss_cons (ps_asg (pe_op op_fdiv (pe_callTy call_int1 (by rfl) B.int PyProof.Rows.boot_int (pa_cons (pe_ix ix_list (pv 0) pe_int (fun _ _ => rfl)) pa_nil)) (pv 1)) (pg_sub (pv 0) pe_int set_list))
      (pss_one (ps_ret (pv 2))))) pss_nil)
    <| pss_cons (ps_set (i := 3) scDraw.nd rfl (.inl rfl) (pe_ix ix_list (pv 0) pe_int (fun _ _ => rfl)))
    <| pss_cons (ps_asg (pe_op op_add (pv 3) pe_int) (pg_sub (pv 0) pe_int set_list))
    <| pss_cons (ps_set (i := 4) scDraw.nd rfl (.inl rfl) (pe_op op_add (pe_op op_mul pe_int (pv 3)) pe_int))
    <| pss_cons (ps_if (pt_cmpR (op_neNil hr.units) (pe_ix ix_list (pv 0) pe_int (fun _ _ => rfl)) (pe_lst pa_nil) (nomark _))
      (pss_one (ps_set (i := 4) scDraw.nd rfl (.inl rfl) (pe_ix ix_list (pe_ix ix_list (pv 0) pe_int (fun _ _ => rfl)) (pe_op op_mod (pe_callTy call_int1 (by rfl) B.int PyProof.Rows.boot_int (pa_cons (pv 3) pa_nil)) (pe_callB call_len (by rfl) B.len PySem.boot_len (pa_cons (pe_ix ix_list (pv 0) pe_int (fun _ _ => rfl)) pa_nil))) (fun _ _ => rfl)))) pss_nil)
    <| pss_cons (ps_if (PW.pt (pw_and (pt_cmpR op_lt (pv 3) (pe_callB call_len (by rfl) B.len PySem.boot_len (pa_cons (pe_ix ix_list (pv 0) pe_int (fun _ _ => rfl)) pa_nil)) (nomark _)) (pw_and1 (pt_cmpR op_ge (pe_callB call_abs (by rfl) B.abs boot_abs (pa_cons (pv 4) pa_nil)) (pe_op op_pow pe_int pe_int) (nomark _)))))
      (pss_cons (ps_set (i := 5) scDraw.nd rfl (.inl rfl) (pe_op op_add (pe_op op_mul pe_int (pe_op op_sub (pe_callB call_abs (by rfl) B.abs boot_abs (pa_cons (pv 4) pa_nil)) (pe_op op_pow pe_int pe_int))) (pe_callTy call_int1 (by rfl) B.int PyProof.Rows.boot_int (pa_cons (pe_cmpR op_lt (pv 4) pe_int (nomark _)) pa_nil))))
      (pss_cons (ps_asg (pe_op op_fdiv (pe_callTy call_int1 (by rfl) B.int PyProof.Rows.boot_int (pa_cons (pv 5) pa_nil)) (pv 1)) (pg_sub (pv 0) pe_int set_list))
      (pss_one (ps_ret (pe_op op_mod (pe_callTy call_int1 (by rfl) B.int PyProof.Rows.boot_int (pa_cons (pv 5) pa_nil)) (pv 1)))))) pss_nil)
    <| pss_cons (ps_set (i := 6) scDraw.nd rfl (.inl rfl) (pe_op op_mod (pe_callTy call_int1 (by rfl) B.int PyProof.Rows.boot_int (pa_cons (pe_op op_pow (pe_op op_add (pe_op op_add (pe_op op_mod (pe_callTy call_int1 (by rfl) B.int PyProof.Rows.boot_int (pa_cons (pv 4) pa_nil)) pe_int) (pe_op op_mul pe_int (pv 3))) pe_int) pe_int) pa_nil)) pe_int))
    <| pss_cons (ps_set (i := 6) scDraw.nd rfl (.inl rfl) (pe_op op_mod (pe_callTy call_int1 (by rfl) B.int PyProof.Rows.boot_int (pa_cons (pe_op op_pow (pe_op op_add (pe_op op_add (pe_op op_mul (pv 6) (pe_op op_add (pe_op op_mul pe_int (pv 3)) pe_int)) (pe_op op_mul (pe_op op_mul pe_int (pv 3)) (pv 3))) pe_int) pe_int) pa_nil)) pe_int))
    <| pss_one (ps_ret (pe_op op_mod (pe_callTy call_int1 (by rfl) B.int PyProof.Rows.boot_int (pa_cons (pe_op op_fdiv (pv 6) pe_int) pa_nil)) (pv 1))), ?_⟩
  rintro n ds Φ ⟨m, rfl, hm, hm2, hn, q⟩
  have qx : ∀ x : Int, Φ (.int (x % m)) (n + 1) := fun x => by
    have h1 := Int.emod_nonneg x (by omega : m ≠ 0)
    have h2 := Int.emod_lt_of_pos x hm
    have := q (x % m).toNat (by rw [Int.toNat_of_nonneg h1]; exact h2)
    rw [Int.toNat_of_nonneg h1] at this
    exact this
  refine ws_open (i := 0) rfl fun ns c g h1 h2 h3 => ?_
  show Ws K _ [.pown [.lst (ns.map Dt.int), .int c, .int g], .dat (.int m), .any, .any, .any, .any, .any] _
  refine ws_seq <| ws_if (pf := true) <| wt_pen (i := 0) rfl <| wt_test <| w_op <| w_op <| w_var rfl <| w_c (fun _ => .int 2) <| od_ixL (atI_nat' (j := 2) rfl) <| w_c (fun _ => .int 0) <| od_I0b ⟨_, rfl, ?_⟩
  by_cases cg : (0 : Int) < g
  · rw [decide_eq_true cg]
    refine ifT <| ws_seq <| ws_asg (pf := true) <| wp_pen (i := 0) rfl <| w_op <| w_cb <| wa_cons <| w_op <| w_var rfl <| w_c (fun _ => .int 2) <| od_ixL (atI_nat' (j := 2) rfl) <| wa_nil <| rd_int <| w_var rfl <| od_I hm ⟨rfl, ?_⟩
    refine ws_seq <| ws_setpen (pf := true) (i := 0) rfl <| wp_pen (i := 0) rfl <| w_op <| w_cb <| wa_cons <| w_op <| w_var rfl <| w_c (fun _ => .int 2) <| od_ixL (atI_nat' (j := 2) rfl) <| wa_nil <| rd_int <| w_var rfl <| od_I ⟨hm, hm2⟩ ⟨rfl, w_c (fun _ => .int 2) ⟨_, 2, rfl, rfl, by show 2 < 3; decide, ?_⟩⟩
    refine ws_ret (pf := true) <| w_var (d := .int (g % m)) rfl ⟨n + 1, _, rfl, ?_, qx g⟩
    exact .pown (ns := ns) (c := c) (g := g / m) (by omega) (Int.ediv_nonneg h2 (by omega)) h3
  · rw [decide_eq_false cg]
    have e1 : ((c : Nat) : Int) + 1 = ((c + 1 : Nat) : Int) := by omega
    refine ifF <| ws_next <| ws_seq <| ws_asg (pf := true) <| wp_pen (i := 0) rfl <| w_op <| w_var rfl <| w_c (fun _ => .int 1) <| od_ixL (atI_nat' (j := 1) rfl) ⟨rfl, ?_⟩
    refine ws_seq <| ws_setpen (pf := true) (i := 0) rfl <| w_op <| w_var (d := .int c) rfl <| w_c (fun _ => .int 1) <| od_I0i <| w_c (fun _ => .int 1) ⟨_, 1, rfl, rfl, by show 1 < 3; decide, ?_⟩
    show Ws K _ [.pown [.lst (ns.map Dt.int), .int ((c : Nat) + 1), .int g], .dat (.int m), .any, .dat (.int c), .any, .any, .any] _
    rw [e1]
    refine ws_seq <| ws_asg (pf := true) <| w_op <| w_op <| w_c (fun _ => .int _) <| w_var (d := .int c) rfl <| od_I (.inl ⟨by decide, by decide⟩) <| w_c (fun _ => .int _) <| od_I0i ?_
    refine ws_seqI (fun ρ' => ∃ x : Int, ρ' = [.pown [.lst (ns.map Dt.int), .int ((c + 1 : Nat)), .int g], .dat (.int m), .any, .dat (.int c), .dat (.int x), .any, .any]) ?_ ?_
    · refine ws_if (pf := true) <| wt_pen (i := 0) rfl <| wt_test <| w_op <| w_op <| w_var rfl <| w_c (fun _ => .int 0) <| od_ixL (d := .lst (ns.map Dt.int)) (atI_nat' (j := 0) rfl) <| w_lst <| wa_nil ⟨Nat.zero_le _, od_neNil ⟨_, rfl, ?_⟩⟩
      rw [map_isEmpty]
      by_cases ce : ns.isEmpty = true
      · rw [ce]
        exact ifF <| ws_next ⟨_, rfl⟩
      · rw [Bool.not_eq_true] at ce
        rw [ce]
        have hl : 0 < ns.length := by
          cases ns with
          | nil => cases ce
          | cons _ _ => exact Nat.succ_pos _
        have hl' : (0 : Int) < ((ns.map Dt.int).length : Nat) := by rw [List.length_map]; omega
        have ei : ((c : Nat) : Int) % (((ns.map Dt.int).length : Nat) : Int) = ((c % ns.length : Nat) : Int) := by rw [List.length_map]; exact (Int.natCast_emod c ns.length).symm
        have eg : atI (ns.map Dt.int) (((c : Nat) : Int) % (((ns.map Dt.int).length : Nat) : Int)) = some (.int (ns[c % ns.length]'(Nat.mod_lt _ hl))) := by
          rw [ei]
          refine atI_nat' ?_
          rw [List.getElem?_map, List.getElem?_eq_getElem (Nat.mod_lt _ hl)]
          rfl
        refine ifT <| ws_asg (pf := true) <| wp_pen (i := 0) rfl <| w_op <| w_op <| w_var rfl <| w_c (fun _ => .int 0) <| od_ixL (d := .lst (ns.map Dt.int)) (atI_nat' (j := 0) rfl) <| w_op <| w_cb <| wa_cons <| w_var (d := .int c) rfl <| wa_nil <| rd_int <| w_cb <| wa_cons <| w_op <| w_var rfl <| w_c (fun _ => .int 0) <| od_ixL (d := .lst (ns.map Dt.int)) (atI_nat' (j := 0) rfl) <| wa_nil <| rd_len rfl <| od_I hl' <| od_ixL eg ⟨rfl, _, rfl⟩
    · rintro ρ' ⟨x, rfl⟩
      refine ws_seqI (fun ρ' => ρ' = [.pown [.lst (ns.map Dt.int), .int ((c + 1 : Nat)), .int g], .dat (.int m), .any, .dat (.int c), .dat (.int x), .any, .any]) ?_ ?_
      · refine ws_if (pf := true) <| wt_pen (i := 0) rfl <| wt_and <| wt_test <| w_op <| w_var (d := .int c) rfl <| w_cb <| wa_cons <| w_op <| w_var rfl <| w_c (fun _ => .int 0) <| od_ixL (d := .lst (ns.map Dt.int)) (atI_nat' (j := 0) rfl) <| wa_nil <| rd_len rfl <| od_I0b ⟨_, rfl, ?_⟩
        cases decide (((c : Nat) : Int) < (((ns.map Dt.int).length : Nat) : Int)) with
        | false => exact ifF <| ifF <| ws_next rfl
        | true =>
          refine ifT <| wt_test <| w_op <| w_cb <| wa_cons <| w_var (d := .int x) rfl <| wa_nil <| rd_abs <| w_op <| w_c (fun _ => .int 10) <| w_c (fun _ => .int 18) <| od_I ⟨by decide, by decide, by decide⟩ <| od_I0b ⟨_, rfl, ?_⟩
          by_cases cx : (10 : Int) ^ Int.toNat 18 ≤ (if x < 0 then -x else x)
          · rw [decide_eq_true cx]
            refine ifT <| ws_seq <| ws_asg (pf := true) <| w_op <| w_op <| w_c (fun _ => .int 2) <| w_op <| w_cb <| wa_cons <| w_var (d := .int x) rfl <| wa_nil <| rd_abs <| w_op <| w_c (fun _ => .int 10) <| w_c (fun _ => .int 18) <| od_I ⟨by decide, by decide, by decide⟩ <| od_I0i <| od_I (.inl ⟨by decide, by decide⟩) <| w_cb <| wa_cons <| w_op <| w_var (d := .int x) rfl <| w_c (fun _ => .int 0) <| od_I0b <| wa_nil <| rd_intb <| od_I0i ?_
            have hy : (0 : Int) ≤ 2 * ((if x < 0 then -x else x) - (10 : Int) ^ Int.toNat 18) + (if decide (x < 0) = true then 1 else 0) := by
              generalize (10 : Int) ^ Int.toNat 18 = t at cx ⊢
              split <;> omega
            generalize 2 * ((if x < 0 then -x else x) - (10 : Int) ^ Int.toNat 18) + (if decide (x < 0) = true then 1 else 0) = y at hy ⊢
            refine ws_seq <| ws_setpen (pf := true) (i := 0) rfl <| w_op <| w_cb <| wa_cons <| w_var (d := .int y) rfl <| wa_nil <| rd_int <| w_var (d := .int m) rfl <| od_I ⟨hm, hm2⟩ <| w_c (fun _ => .int 2) ⟨_, 2, rfl, rfl, by show 2 < 3; decide, ?_⟩
            refine ws_ret (pf := true) <| w_op <| w_cb <| wa_cons <| w_var (d := .int y) rfl <| wa_nil <| rd_int <| w_var (d := .int m) rfl <| od_I hm ⟨n + 1, _, rfl, ?_, qx y⟩
            exact .pown (ns := ns) (c := c + 1) (g := y / m) (by omega) (Int.ediv_nonneg hy (by omega)) h3
          · rw [decide_eq_false cx]
            exact ifF <| ws_next rfl
      · rintro ρ' rfl
        refine ws_seq <| ws_asg (pf := true) <| w_op <| w_cb <| wa_cons <| w_op <| w_op <| w_op <| w_op <| w_cb <| wa_cons <| w_var (d := .int x) rfl <| wa_nil <| rd_int <| w_c (fun _ => .int _) <| od_I (by show (0 : Int) < _; decide) <| w_op <| w_c (fun _ => .int _) <| w_var (d := .int c) rfl <| od_I (.inl ⟨by decide, by decide⟩) <| od_I0i <| w_c (fun _ => .int _) <| od_I0i <| w_c (fun _ => .int _) <| od_I ⟨by decide, by decide, ?_⟩ <| wa_nil <| rd_int <| w_c (fun _ => .int _) <| od_I (by show (0 : Int) < _; decide) ?_
        · omega
        generalize hy0 : (_ : Int) % (2147483647 : Int) = y
        have hy1 : 0 ≤ y := by rw [← hy0]; exact Int.emod_nonneg _ (by decide)
        have hy2 : y < 2147483647 := by rw [← hy0]; exact Int.emod_lt_of_pos _ (by decide)
        refine ws_seq <| ws_asg (pf := true) <| w_op <| w_cb <| wa_cons <| w_op <| w_op <| w_op <| w_op <| w_var (d := .int y) rfl <| w_op <| w_op <| w_c (fun _ => .int _) <| w_var (d := .int c) rfl <| od_I (.inl ⟨by decide, by decide⟩) <| w_c (fun _ => .int _) <| od_I0i <| od_I (.inl ⟨by omega, by omega⟩) <| w_op <| w_op <| w_c (fun _ => .int _) <| w_var (d := .int c) rfl <| od_I (.inl ⟨by decide, by decide⟩) <| w_var (d := .int c) rfl <| od_I (.inr ⟨by omega, by omega⟩) <| od_I0i <| w_c (fun _ => .int _) <| od_I0i <| w_c (fun _ => .int _) <| od_I ⟨by decide, by decide, ?_⟩ <| wa_nil <| rd_int <| w_c (fun _ => .int _) <| od_I (by show (0 : Int) < _; decide) ?_
        · have a1 : y * (2 * ((c : Nat) : Int) + 31) ≤ 2147483647 * 2000031 := Int.mul_le_mul (by omega) (by omega) (by omega) (by decide)
          have a2 : 0 ≤ y * (2 * ((c : Nat) : Int) + 31) := Int.mul_nonneg hy1 (by omega)
          have a3 : 60169 * ((c : Nat) : Int) * ((c : Nat) : Int) ≤ (60169 * 1000000) * 1000000 := Int.mul_le_mul (by omega) (by omega) (by omega) (by decide)
          have a4 : 0 ≤ 60169 * ((c : Nat) : Int) * ((c : Nat) : Int) := Int.mul_nonneg (by omega) (by omega)
          generalize y * (2 * ((c : Nat) : Int) + 31) = u1 at a1 a2 ⊢
          generalize 60169 * ((c : Nat) : Int) * ((c : Nat) : Int) = u2 at a3 a4 ⊢
          omega
        generalize (_ : Int) % (2147483563 : Int) = z
        refine ws_ret (pf := true) <| w_op <| w_cb <| wa_cons <| w_op <| w_var (d := .int z) rfl <| w_c (fun _ => .int _) <| od_I ⟨by decide, by decide⟩ <| wa_nil <| rd_int <| w_var (d := .int m) rfl <| od_I hm ⟨n + 1, _, rfl, ?_, qx _⟩
        exact .pown (ns := ns) (c := c + 1) (g := g) (by omega) h2 h3
end

abbrev sPick : Stmt := topS 22
theorem scPick : FnScope ["_law_pen", "_law_some"] ["_law_pen", "_law_some"] (defScope sPick) := ⟨rfl, rfl, rfl, by decide +kernel, rfl, by decide +kernel, by decide +kernel⟩
abbrev sIsLabel : Stmt := topS 23
theorem scIsLabel : FnScope ["_law_thing", "_law_is_place", "_law_sign"] ["_law_thing", "_law_is_place"] (defScope sIsLabel) := ⟨rfl, rfl, rfl, by decide +kernel, rfl, by decide +kernel, by decide +kernel⟩
abbrev sIsLane : Stmt := topS 24
theorem scIsLane : FnScope ["_law_thing", "_law_one", "_law_k"] ["_law_thing"] (defScope sIsLane) := ⟨rfl, rfl, rfl, by decide +kernel, rfl, by decide +kernel, by decide +kernel⟩
abbrev sFault : Stmt := topS 25
theorem scFault : FnScope ["_law_some", "_law_bit"] ["_law_some"] (defScope sFault) := ⟨rfl, rfl, rfl, by decide +kernel, rfl, by decide +kernel, by decide +kernel⟩
section
variable {P : Program} {w : World} {K : PySem.W.Frag} {mg : Str → Option Value} {base : Heap}
def WPick : Nat → List Dt → (Dt → Nat → Prop) → Prop := fun n ds Φ => ∃ d xs, ds = [d] ∧ seqD d = some xs ∧ 0 < xs.length ∧ xs.length ≤ 1000 ∧ n < 1000000 ∧ ∀ x ∈ xs, Φ x (n + 1)
theorem ok_pick {f fD : Addr} {fd fdD : FuncData} {k : Nat} (F : Fun K "_law_pick" "_law_pick" sPick f fd) (FD : Fun K "_law_draw" "_law_draw" sDraw fD fdD) (bD : Binds K fdD ["_law_pen", "_law_many"] []) (gD : mg "_law_draw" = some (.ref fD)) (B : Bt mg)
    (G : FnG P w K mg base CX0 k fD fdD ["_law_pen", "_law_many"] (spN K WDraw)) : FnG P w K mg base CX0 (k + 1) f fd ["_law_pen", "_law_some"] (spN K WPick) := by
  refine defN F scPick (fun n ds Φ ⟨m, _, e, _⟩ => by rw [e]; rfl) (by decide) fun cdv A outer s H E hr hg => ?_
  refine ⟨_, pss_one (ps_ret (pe_ix ix_seq (pv 1) (pe_callG G hr hg (by rfl) gD FD.kp bD .nil pass0 (pa_cons (pv 0) (pa_cons (pe_callB call_len (by rfl) B.len PySem.boot_len (pa_cons (pv 1) pa_nil)) pa_nil))) (fun _ _ => rfl))), ?_⟩
  rintro n ds Φ ⟨d, xs, rfl, hs, h1, h2, hn, q⟩
  refine ws_ret (pf := false) <| w_op <| w_var rfl <| w_callN (i := 0) rfl <| wa_cons <| w_cb <| wa_cons <| w_var rfl <| wa_nil <| rd_len (lenD_seq hs) <| wa_nil ⟨n, rfl, xs.length, rfl, by omega, by omega, hn, fun r hr => ?_⟩
  have hr : r < xs.length := by omega
  exact od_ix hs (atI_nat' (List.getElem?_eq_getElem hr)) ⟨n + 1, _, rfl, .pen (Nat.le_refl _), q _ (List.getElem_mem hr)⟩
/-! ### _law_is_label -/
def WLab : List Dt → (Dt → Prop) → Prop := fun ds Φ => ∃ d p, ds = [d, .bl p] ∧ shortD d = true ∧ Φ (.bl (if p = true then isName d else isOwn d))
theorem ok_label {f : Addr} {fd : FuncData} (F : Fun K "_law_is_label" "_law_is_label" sIsLabel f fd) (B : Bt mg) : FnG P w K mg base CX0 1 f fd ["_law_thing", "_law_is_place"] (spP K WLab) := by
  refine defP F scIsLabel (fun ds Φ ⟨d, p, e, _⟩ => by rw [e]; rfl) (by decide) fun cdv A outer s H E hr hg => ?_
  refine ⟨_, pss_cons (ps_if (PW.pt (pw_or (pt_not (pt_val (pe_callB (isiK K rfl) (by rfl) B.isi boot_isinstance (pa_cons (pv 0) (pa_cons (pe_bltn (v := .ty "str") (by rfl) B.str PyProof.Rows.boot_str rfl) pa_nil))))) (pw_or (pt_not (pt_chain op_le op_le pe_int (pe_callB (lenK K rfl) (by rfl) B.len PySem.boot_len (pa_cons (pv 0) pa_nil)) pe_int)) (pw_or1 (PW.pt (pw_and (pt_not (pt_val (pv 1))) (pw_and1 (pt_cmpR op_eq (pv 0) pe_str (nomark _)))))))))
    (pss_one (ps_ret pe_bl)) pss_nil)
    <| pss_one (ps_ret (pe_cmpR (op_eqNil hr.units) (pe_lc (own := [("_law_sign", 2)]) (g := gName 2) rfl scIsLabel.nd (pi_str (pv 0)) (blkOk_by (N := ["_law_thing", "_law_is_place", "_law_sign"]) (sc := defScope sIsLabel) (by decide +kernel)) (fun _ _ _ _ _ => pg_name (i := 2) scIsLabel.nd rfl (Or.inl rfl)) (fun _ _ _ _ _ => pts_one (pt_not (pt_chain op_le_str op_le_str pe_str (pv 2) pe_str))) (fun _ _ _ _ _ => pv 2)) (pe_lst pa_nil) (nomark _))), ?_⟩
  rintro ds Φ ⟨d, p, rfl, hd, q⟩
  show Ws K _ [.dat d, .dat (.bl p), .any] _
  refine ws_seq <| ws_if (pf := true) <| wt_or <| wt_not <| wt_B <| w_isi rfl (shortD_no hd) (kit_str (shortD_no hd)) ⟨_, rfl, ?_⟩
  cases c : isStr d with
  | false =>
    refine ifT <| ifT <| ws_ret (pf := true) <| w_c (fun _ => .bl false) ?_
    have e : (if p = true then isName d else isOwn d) = false := by
      cases d with
      | str z => cases c
      | _ => cases p <;> rfl
    rw [e] at q
    exact q
  | true =>
    obtain ⟨z, rfl⟩ := isStr_of c
    have hz : z.length ≤ 1000 := of_decide_eq_true hd
    have qe : isName (.str z) = (decide (1 ≤ z.length) && decide (z.length ≤ 8) && (DL.signs z).all lowD) := rfl
    have bad : isName (.str z) = false → (if p = true then isName (.str z) else isOwn (.str z)) = false := fun e => by
      rw [isOwn_eq, e]; cases p <;> rfl
    refine ifF <| wt_or <| wt_not <| wt_test <| w_chain <| w_c (fun _ => .int 1) <| w_cb <| wa_cons <| w_var rfl <| wa_nil <| rd_len (len1000 hz) <| od_I0b ⟨_, rfl, ?_⟩
    by_cases c1 : (1 : Int) ≤ (z.length : Nat)
    · rw [decide_eq_true c1]
      refine ifT <| w_c (fun _ => .int 8) <| od_I0b ⟨_, rfl, ?_⟩
      by_cases c2 : ((z.length : Nat) : Int) ≤ 8
      · rw [decide_eq_true c2]
        have qe2 : isName (.str z) = (DL.signs z).all lowD := by rw [qe, decide_eq_true (show 1 ≤ z.length by omega), decide_eq_true (show z.length ≤ 8 by omega), Bool.true_and, Bool.true_and]
        have last' : Φ (.bl (isName (.str z))) → Ws K (tRet (tOp (rEqNil K) (tLc (iStr (tVar 0)) (gName 2) (tNot (tTest (tChain (fun u v H Q => ∃ i j, u = .str i ∧ v = .str j ∧ Q (.bl (!decide (j.cps.toList < i.cps.toList))) H) (fun u v H Q => ∃ i j, u = .str i ∧ v = .str j ∧ Q (.bl (!decide (j.cps.toList < i.cps.toList))) H) (tC (V.str "a")) (tVar 2) (tC (V.str "z"))))) (tVar 2) [2]) (tLst tNil))) [.dat (.str z), .dat (.bl p), .any] { nx := fun _ => Φ .non, rt := fun d _ => Φ d } := fun q => by
          refine ws_ret (pf := true) <| w_op <| w_lcF (fun d => !lowD d) (fun d => d) rfl <| wi_str <| w_var rfl ⟨z, rfl, rfl, by rw [signs_len]; omega, fun d hm => ?_, fun d hm _ => w_var rfl ⟨rfl, rfl⟩, ?_⟩
          · obtain ⟨x, rfl⟩ := signs_mem hm
            refine wt_not <| wt_test <| w_chain <| w_c (fun _ => .str _) <| w_var rfl <| od_SSb ⟨_, rfl, ?_⟩
            cases c3 : decide ((⟨#[x]⟩ : Str).cps.toList < ("a" : Str).cps.toList) with
            | true => exact ifF ⟨_, rfl, by show _ = !low _; unfold low; rw [c3]; rfl, rfl⟩
            | false => exact ifT <| w_c (fun _ => .str _) <| od_SSb ⟨_, rfl, by show _ = !low _; unfold low; rw [c3]; rfl, rfl⟩
          · refine w_lst <| wa_nil ⟨Nat.zero_le _, od_eqNil ?_⟩
            rw [map_isEmpty, filter_isEmpty]
            have e : (DL.signs z).all (fun d => !!lowD d) = (DL.signs z).all lowD := by congr 1; funext a; exact Bool.not_not _
            rw [e, ← qe2]
            exact q
        refine ifF <| wt_and <| wt_not <| wt_B <| w_var (d := .bl p) rfl ⟨_, rfl, ?_⟩
        cases p with
        | true => exact ifF <| ifF <| ws_next <| last' q
        | false =>
          have q : Φ (.bl (isOwn (.str z))) := q
          rw [isOwn_eq] at q
          refine ifT <| wt_test <| w_op <| w_var (d := .str z) rfl <| w_c (fun _ => .str _) <| od_eqs ⟨_, rfl, ?_⟩
          cases c3 : decide (z = ("shore" : Str)) with
          | true =>
            rw [c3, Bool.not_true, Bool.and_false] at q
            exact ifT <| ws_ret (pf := true) <| w_c (fun _ => .bl false) q
          | false =>
            rw [c3, Bool.not_false, Bool.and_true] at q
            exact ifF <| ws_next <| last' q
      · rw [decide_eq_false c2]
        rw [bad (by rw [qe, decide_eq_false (show ¬ z.length ≤ 8 by omega), Bool.and_false, Bool.false_and])] at q
        exact ifT <| ifT <| ws_ret (pf := true) <| w_c (fun _ => .bl false) q
    · rw [decide_eq_false c1]
      rw [bad (by rw [qe, decide_eq_false (show ¬ 1 ≤ z.length by omega), Bool.false_and, Bool.false_and])] at q
      exact ifF ⟨_, rfl, ifT <| ifT <| ws_ret (pf := true) <| w_c (fun _ => .bl false) q⟩
/-! ### _law_is_lane -/
theorem ok_lane {f : Addr} {fd : FuncData} {k : Nat} (F : Fun K "_law_is_lane" "_law_is_lane" sIsLane f fd) (B : Bt mg) (dIsLabel : DF K mg "_law_is_label" sIsLabel ["_law_thing", "_law_is_place"]) (gIsLabel : FnG P w K mg base CX0 k dIsLabel.f dIsLabel.fd ["_law_thing", "_law_is_place"] (spP K WLab)) :
    FnG P w K mg base CX0 (k + 1) f fd ["_law_thing"] (spP K WLead) := by
  refine defP F scIsLane (fun ds Φ ⟨d, e, _⟩ => by rw [e]; rfl) (by decide) fun cdv A outer s H E hr hg => ?_
  refine ⟨_, pss_cons (ps_if (PW.pt (pw_or (pt_not (pt_val (pe_callB (isiK K rfl) (by rfl) B.isi boot_isinstance (pa_cons (pv 0) (pa_cons (pe_bltn (v := .ty "tuple") (by rfl) B.tuple PyProof.Rows.boot_tuple rfl) pa_nil))))) (pw_or1 (pt_cmpR op_gt (pe_callB (lenK K rfl) (by rfl) B.len PySem.boot_len (pa_cons (pv 0) pa_nil)) pe_int (nomark _)))))
    (pss_one (ps_ret pe_bl)) pss_nil)
    <| pss_cons (ps_if (pt_cmpR (op_neNil hr.units) (pe_lc (own := [("_law_one", 1)]) (g := gName 1) rfl scIsLane.nd (pi_tup (pv 0)) (blkOk_by (N := ["_law_thing", "_law_one", "_law_k"]) (sc := defScope sIsLane) (by decide +kernel)) (fun _ _ _ _ _ => pg_name (i := 1) scIsLane.nd rfl (Or.inl rfl)) (fun _ _ _ _ _ => pts_one (pt_not (pt_val (pe_callG gIsLabel hr hg (by rfl) dIsLabel.g dIsLabel.F.kp dIsLabel.b .nil pass0 (pa_cons (pv 1) (pa_cons pe_bl pa_nil)))))) (fun _ _ _ _ _ => pv 1)) (pe_lst pa_nil) (nomark _))
    (pss_one (ps_ret pe_bl)) pss_nil)
    <| pss_one (ps_ret (pe_cmpR (op_eqNil hr.units) (pe_lc (own := [("_law_k", 2)]) (g := gName 2) rfl scIsLane.nd (pi_range1 (by rfl) B.range (pa_cons (pe_callB (lenK K rfl) (by rfl) B.len PySem.boot_len (pa_cons (pv 0) pa_nil)) pa_nil)) (blkOk_by (N := ["_law_thing", "_law_one", "_law_k"]) (sc := defScope sIsLane) (by decide +kernel)) (fun _ _ _ _ _ => pg_name (i := 2) scIsLane.nd rfl (Or.inl rfl)) (fun _ _ _ _ _ => pts_one (pt_cmpR (in_seqK K rfl) (pe_ix (ixTK K rfl) (pv 0) (pv 2) (fun _ _ => rfl)) (pe_slice (slTK K rfl) (pv 0) po_none (po_some (pv 2))) (by rfl))) (fun _ _ _ _ _ => pv 2)) (pe_lst pa_nil) (nomark _))), ?_⟩
  rintro ds Φ ⟨d, rfl, hd, q⟩
  refine ws_seq <| ws_if (pf := true) <| wt_or <| wt_not <| wt_B <| w_isi rfl (thingD_no hd) (kit_tup (thingD_no hd)) ⟨_, rfl, ?_⟩
  cases c : isTup d with
  | false =>
    refine ifT <| ifT <| ws_ret (pf := true) <| w_c (fun _ => .bl false) ?_
    have e : isRow d 4 = false := by
      cases d with
      | tup z => cases c
      | _ => rfl
    rw [e] at q
    exact q
  | true =>
    obtain ⟨xs, rfl⟩ := isTup_of c
    obtain ⟨hz, hs⟩ := thingD_tup hd
    have qe : isRow (.tup xs) 4 = (decide ((xs.length : Int) ≤ 4) && rowIs xs) := rfl
    refine ifF <| wt_test <| w_op <| w_cb <| wa_cons <| w_var rfl <| wa_nil <| rd_len rfl <| w_c (fun _ => .int 4) <| od_I0b ⟨_, rfl, ?_⟩
    by_cases c1 : (4 : Int) < (xs.length : Nat)
    · rw [decide_eq_true c1]
      refine ifT <| ws_ret (pf := true) <| w_c (fun _ => .bl false) ?_
      rw [qe, decide_eq_false (show ¬ ((xs.length : Nat) : Int) ≤ 4 by omega), Bool.false_and] at q
      exact q
    · rw [decide_eq_false c1]
      rw [qe, decide_eq_true (show ((xs.length : Nat) : Int) ≤ 4 by omega), Bool.true_and] at q
      refine ifF <| ws_next <| ws_seq <| ws_if (pf := true) <| wt_test <| w_op <| w_lcF (fun d => !isOwn d) (fun d => d) rfl <| wi_tup <| w_var rfl ⟨xs, rfl, rfl, by omega, fun d hm => ?_, fun d hm _ => w_var rfl ⟨rfl, rfl⟩, ?_⟩
      · exact wt_not <| wt_B <| w_call0 <| wa_cons <| w_var rfl <| wa_cons <| w_c (fun _ => .bl false) <| wa_nil ⟨d, false, rfl, hs d hm, _, rfl, rfl, rfl⟩
      · refine w_lst <| wa_nil ⟨Nat.zero_le _, od_neNil ⟨_, rfl, ?_⟩⟩
        have e : (List.map (fun d => d) (List.filter (fun d => !isOwn d) xs)).isEmpty = xs.all isOwn := by
          rw [map_isEmpty, filter_isEmpty]
          congr 1
          funext a
          exact Bool.not_not _
        rw [e]
        cases ca : xs.all isOwn with
        | false =>
          unfold rowIs at q
          rw [ca, Bool.false_and] at q
          exact ifT <| ws_ret (pf := true) <| w_c (fun _ => .bl false) q
        | true =>
          obtain ⟨ss, rfl⟩ := all_str (fun _ => isOwn_str) ca
          unfold rowIs at q
          rw [ca, Bool.true_and, strsOf_map] at q
          rw [List.length_map] at hz
          exact ifF <| ws_next <| ws_ret (pf := true) <| w_dups (i := 0) (j := 2) rfl rfl (by decide) hz q
/-! ### _law_fault -/
def isBl : Dt → Bool
  | .bl _ => true
  | _ => false
theorem kitI {d : Dt} (h : noTy d = true) : kitB (tyD d) "int" = some (DL.isInt d || isBl d) ∧ kitB (tyD d) "bool" = some (isBl d) := by
  cases d with
  | ty n => cases h
  | ins _ _ _ _ => cases h
  | cls _ => cases h
  | exc _ _ _ _ => cases h
  | _ => exact ⟨by dsimp only [tyD, DL.isInt, isBl]; decide +kernel, by dsimp only [tyD, isBl]; decide +kernel⟩
theorem in01 (i : Int) : inI (.int i) [0, 1] = bitD (.int i) := by
  show inV (.int i) [V.int 0, V.int 1] = (decide (0 ≤ i) && decide (i ≤ 1))
  unfold inV
  show ((0 : Int) == i || ((1 : Int) == i || false)) = _
  by_cases h0 : i = 0
  · subst h0; rfl
  · by_cases h1 : i = 1
    · subst h1; rfl
    · have e0 : ((0 : Int) == i) = false := by simpa using fun z => h0 z.symm
      have e1 : ((1 : Int) == i) = false := by simpa using fun z => h1 z.symm
      rw [e0, e1]
      by_cases a : (0 : Int) ≤ i
      · rw [decide_eq_true a, decide_eq_false (show ¬ i ≤ 1 by omega)]; rfl
      · rw [decide_eq_false a]; rfl
def rowD (k : Nat) (o w g l : Dt) : Dt := .lst [.int (k : Nat), o, w, g, l]
def WFault : List Dt → (Dt → Prop) → Prop := fun ds Φ => ∃ k o w g l, ds = [rowD k o w g l] ∧ k < 3 ∧ Gd o w g l ∧ Φ (wD (fault k o w g l))
theorem at1 {k : Nat} {o w g l : Dt} : L2.atI [Dt.int (k : Nat), o, w, g, l] 1 = some o := rfl
theorem kcase {k : Nat} (h : k < 3) : k = 0 ∨ k = 1 ∨ k = 2 := by omega
theorem ok_fault {f : Addr} {fd : FuncData} {k : Nat} (F : Fun K "_law_fault" "_law_fault" sFault f fd) (B : Bt mg) (dIsLabel : DF K mg "_law_is_label" sIsLabel ["_law_thing", "_law_is_place"]) (gIsLabel : FnG P w K mg base CX0 k dIsLabel.f dIsLabel.fd ["_law_thing", "_law_is_place"] (spP K WLab))
    (dIsLane : DF K mg "_law_is_lane" sIsLane ["_law_thing"]) (gIsLane : FnG P w K mg base CX0 k dIsLane.f dIsLane.fd ["_law_thing"] (spP K WLead)) : FnG P w K mg base CX0 (k + 1) f fd ["_law_some"] (spP K WFault) := by
  refine defP F scFault (fun ds Φ ⟨k, o, w, g, l, e, _⟩ => by rw [e]; rfl) (by decide) fun cdv A outer s H E hr hg => ?_
  refine ⟨_, pss_cons (ps_if (pt_not (pt_val (pe_callG gIsLabel hr hg (by rfl) dIsLabel.g dIsLabel.F.kp dIsLabel.b .nil pass0 (pa_cons (pe_ix (ixK K rfl) (pv 0) pe_int (fun _ _ => rfl)) (pa_cons pe_bl pa_nil)))))
    (pss_one (ps_ret pe_str)) pss_nil)
    <| pss_cons (ps_if (pt_cmpR op_eq (pe_ix (ixK K rfl) (pv 0) pe_int (fun _ _ => rfl)) pe_int (nomark _))
    (pss_one (ps_ret pe_non)) pss_nil)
    <| pss_cons (ps_if (pt_not (pt_val (pe_callG gIsLabel hr hg (by rfl) dIsLabel.g dIsLabel.F.kp dIsLabel.b .nil pass0 (pa_cons (pe_ix (ixK K rfl) (pv 0) pe_int (fun _ _ => rfl)) (pa_cons pe_bl pa_nil)))))
    (pss_one (ps_ret pe_str)) pss_nil)
    <| pss_cons (ps_set (i := 1) scFault.nd rfl (Or.inl rfl) (pe_ix (ixK K rfl) (pv 0) pe_int (fun _ _ => rfl)))
    <| pss_cons (ps_if (PW.pt (pw_and (pt_cmpR op_eq (pe_ix (ixK K rfl) (pv 0) pe_int (fun _ _ => rfl)) pe_int (nomark _)) (pw_and1 (PW.pt (pw_or (pt_not (pt_val (pe_callB (isiK K rfl) (by rfl) B.isi boot_isinstance (pa_cons (pv 1) (pa_cons (pe_bltn (v := .ty "int") (by rfl) B.int PyProof.Rows.boot_int rfl) pa_nil))))) (pw_or (pt_val (pe_callB (isiK K rfl) (by rfl) B.isi boot_isinstance (pa_cons (pv 1) (pa_cons (pe_bltn (v := .ty "bool") (by rfl) B.bool PyProof.Rows.boot_bool rfl) pa_nil)))) (pw_or1 (pt_cmpR (notIn_seqK K rfl) (pv 1) (pe_lst (pa_cons pe_int (pa_cons pe_int pa_nil))) (by rfl)))))))))
    (pss_one (ps_ret pe_str)) pss_nil)
    <| pss_one (ps_ret (pe_ifExp (pt_val (pe_callG gIsLane hr hg (by rfl) dIsLane.g dIsLane.F.kp dIsLane.b .nil pass0 (pa_cons (pe_ix (ixK K rfl) (pv 0) pe_int (fun _ _ => rfl)) pa_nil))) pe_non pe_str)), ?_⟩
  rintro ds Φ ⟨kk, o, w, g, l, rfl, hk, gd, q⟩
  show Ws K _ [.dat (rowD kk o w g l), .any] _
  refine ws_seq <| ws_if (pf := true) <| wt_not <| wt_B <| w_call0 <| wa_cons <| w_op <| w_var (d := rowD kk o w g l) rfl <| w_c (fun _ => .int 1) <| od_ix rfl (d := o) rfl <| wa_cons <| w_c (fun _ => .bl true) <| wa_nil ⟨o, true, rfl, gd.o, _, rfl, ?_⟩
  unfold fault at q
  rw [if_pos rfl]
  cases c1 : isName o with
  | false =>
    refine ifT <| ws_ret (pf := true) <| w_c (fun _ => .str _) ?_
    by_cases e0 : kk = 0
    · rw [if_pos e0, c1] at q; exact q
    · rw [if_neg e0] at q; unfold wrongD at q; rw [c1] at q; exact q
  | true =>
    refine ifF <| ws_next <| ws_seq <| ws_if (pf := true) <| wt_test <| w_op <| w_op <| w_var (d := rowD kk o w g l) rfl <| w_c (fun _ => .int 0) <| od_ix rfl (d := .int (kk : Nat)) rfl <| w_c (fun _ => .int 0) <| od_eqi ⟨_, rfl, ?_⟩
    by_cases e0 : kk = 0
    · rw [decide_eq_true (show ((kk : Nat) : Int) = 0 by omega)]
      rw [if_pos e0, c1] at q
      exact ifT <| ws_ret (pf := true) <| w_c (fun _ => .non) q
    · rw [decide_eq_false (show ¬ ((kk : Nat) : Int) = 0 by omega)]
      rw [if_neg e0] at q
      unfold wrongD at q
      rw [c1, if_neg (by decide)] at q
      refine ifF <| ws_next <| ws_seq <| ws_if (pf := true) <| wt_not <| wt_B <| w_call0 <| wa_cons <| w_op <| w_var (d := rowD kk o w g l) rfl <| w_c (fun _ => .int 2) <| od_ix rfl (d := w) rfl <| wa_cons <| w_c (fun _ => .bl false) <| wa_nil ⟨w, false, rfl, gd.w, _, rfl, ?_⟩
      rw [show (if false = true then isName w else isOwn w) = isOwn w from rfl]
      cases c2 : isOwn w with
      | false => rw [c2, if_pos rfl] at q; exact ifT <| ws_ret (pf := true) <| w_c (fun _ => .str _) q
      | true =>
        rw [c2, if_neg (by decide)] at q
        refine ifF <| ws_next <| ws_seq <| ws_asg (pf := true) <| w_op <| w_var (d := rowD kk o w g l) rfl <| w_c (fun _ => .int 3) <| od_ix rfl (d := g) rfl ?_
        show Ws K _ [.dat (rowD kk o w g l), .dat g] _
        have last' : Φ (wD (if isRow l 4 = false then some "line" else none)) → Ws K (tRet (tIf (tB (tCall (spP K WLead) [] E0 (tCons (tOp (rIx K) (tVar 0) (tC (V.int 4))) tNil))) (tC V.non) (tC (V.str "line")))) [.dat (rowD kk o w g l), .dat g] { nx := fun _ => Φ .non, rt := fun d _ => Φ d } := fun q => by
          refine ws_ret (pf := true) <| w_if <| wt_B <| w_call0 <| wa_cons <| w_op <| w_var (d := rowD kk o w g l) rfl <| w_c (fun _ => .int 4) <| od_ix rfl (d := l) rfl <| wa_nil ⟨l, rfl, gd.l, _, rfl, ?_⟩
          cases c4 : isRow l 4 with
          | true => rw [c4] at q; exact ifT <| w_c (fun _ => .non) q
          | false => rw [c4] at q; exact ifF <| w_c (fun _ => .str _) q
        refine ws_seq <| ws_if (pf := true) <| wt_and <| wt_test <| w_op <| w_op <| w_var (d := rowD kk o w g l) rfl <| w_c (fun _ => .int 0) <| od_ix rfl (d := .int (kk : Nat)) rfl <| w_c (fun _ => .int 1) <| od_eqi ⟨_, rfl, ?_⟩
        by_cases e1 : kk = 1
        · rw [decide_eq_true (show ((kk : Nat) : Int) = 1 by omega)]
          rw [if_pos e1] at q
          obtain ⟨k1, k2⟩ := kitI gd.g
          refine ifT <| wt_or <| wt_not <| wt_B <| w_isi rfl gd.g k1 ⟨_, rfl, ?_⟩
          cases g with
          | int i =>
            refine ifF <| wt_or <| wt_B <| w_isi rfl gd.g k2 ⟨_, rfl, ?_⟩
            refine ifF <| wt_test <| w_op <| w_var (d := .int i) rfl <| w_lst <| wa_cons <| w_c (fun _ => .int 0) <| wa_cons <| w_c (fun _ => .int 1) <| wa_nil ⟨by show 2 ≤ 100000; decide, od_notInI (js := [0, 1]) rfl ⟨_, rfl, ?_⟩⟩
            rw [in01]
            cases c3 : bitD (.int i) with
            | true => rw [c3, if_neg (by decide)] at q; exact ifF <| ws_next <| last' q
            | false => rw [c3, if_pos rfl] at q; exact ifT <| ws_ret (pf := true) <| w_c (fun _ => .str _) q
          | bl b =>
            refine ifF <| wt_or <| wt_B <| w_isi rfl gd.g k2 ⟨_, rfl, ?_⟩
            exact ifT <| ifT <| ws_ret (pf := true) <| w_c (fun _ => .str _) q
          | _ => exact ifT <| ifT <| ws_ret (pf := true) <| w_c (fun _ => .str _) q
        · rw [decide_eq_false (show ¬ ((kk : Nat) : Int) = 1 by omega)]
          rw [if_neg e1] at q
          exact ifF <| ifF <| ws_next <| last' q
end
end K05

/-! Data level: a statement that draws nothing and changes nothing of one's own: lists and dicts of one's own are read in it as data, and are one's own again behind it. -/
namespace DL
open PySem PySem.Spec PyProof.Rows L2
variable [Tb]
section
variable {K : PySem.W.Frag} {pf : Bool} {ρ : List Sl} {Φ : Dt → List Sl → Prop} {i : Nat}
theorem w_val {v : V} {d : Dt} (e : ρ[i]? = some (.val v d)) (f : Φ d ρ) : Wp K pf (tVar i) ρ Φ := fun M σ H S Q q => by
  obtain ⟨o, h1, h2, h3⟩ := S.ok i _ e
  exact ⟨v, by rw [h1, h2], q v H d ρ (Tr.refl pf M H) S h3 f⟩
end
def refV : V → Addr
  | .ref a => a
  | _ => 0
def asd1 (v : V) : Sl → Sl
  | .any => .any
  | .dat d => .val v d
  | .val w d => .val w d
  | .own ds => .val v (.lst ds)
  | .ownd kvs => .val v (.dct (refV v) kvs)
  | .obj C _ ns ds => .val v (.ins C (refV v) ns ds)
  | .pen _ => .val v (.cls (refV v))
  | .pown _ => .val v (.cls (refV v))
def asdF (u : Nat → V) : Nat → List Sl → List Sl
  | _, [] => []
  | n, s :: r => asd1 (u n) s :: asdF u (n + 1) r
def asd (u : Nat → V) (ρ : List Sl) : List Sl := asdF u 0 ρ
theorem asdF_at (u : Nat → V) : ∀ (ρ : List Sl) (n k : Nat), (asdF u n ρ)[k]? = (ρ[k]?).map (asd1 (u (n + k)))
  | [], _, _ => by simp [asdF]
  | s :: r, n, 0 => by simp [asdF]
  | s :: r, n, k + 1 => by
    show (asdF u (n + 1) r)[k]? = _
    rw [asdF_at u r (n + 1) k]
    simp [Nat.add_assoc, Nat.add_comm 1 k]
theorem asd_at (u : Nat → V) (ρ : List Sl) (k : Nat) : (asd u ρ)[k]? = (ρ[k]?).map (asd1 (u k)) := by
  unfold asd
  rw [asdF_at, Nat.zero_add]
theorem asd_len (u : Nat → V) (ρ : List Sl) : (asd u ρ).length = ρ.length := by
  have : ∀ (ρ : List Sl) (n : Nat), (asdF u n ρ).length = ρ.length := by
    intro ρ
    induction ρ with
    | nil => intro n; rfl
    | cons s r ih => intro n; show (asdF u (n + 1) r).length + 1 = _; rw [ih]; rfl
  exact this ρ 0
/-- but for js the values stand -/
structure Frm (js : List Nat) (r r' : List Sl) : Prop where
  len : r'.length = r.length
  at_ : ∀ (k : Nat) (v : V) (d : Dt), k ∉ js → r[k]? = some (.val v d) → ∃ d', r'[k]? = some (.val v d')
theorem Frm.refl (js : List Nat) (r : List Sl) : Frm js r r := ⟨rfl, fun _ _ d _ e => ⟨d, e⟩⟩
theorem Frm.set {js : List Nat} {r r' : List Sl} {j : Nat} {s : Sl} (f : Frm js r r') (h : j ∈ js) : Frm js r (r'.set j s) := ⟨by rw [List.length_set]; exact f.len, fun k v d hk e => by
  obtain ⟨d', e'⟩ := f.at_ k v d hk e
  exact ⟨d', by rw [List.getElem?_set_ne (fun z : j = k => hk (by rw [← z]; exact h))]; exact e'⟩⟩
section
variable {K : PySem.W.Frag} {ρ : List Sl} {t : TS} {D : DE}
theorem ws_aside (js : List Nat) (hx : ∀ C ns es, ¬ D.xd C ns es) (h : ∀ u : Nat → V, Ws K t (asd u ρ) { nx := fun ρ' => Frm js (asd u ρ) ρ' ∧ D.nx (wipeS ρ js), rt := fun d _ => flatD d = true ∧ D.rt d ρ, bk := fun ρ' => Frm js (asd u ρ) ρ' ∧ D.bk (wipeS ρ js), ct := fun ρ' => Frm js (asd u ρ) ρ' ∧ D.ct (wipeS ρ js) }) : Ws K t ρ D := fun M σ H S E k => by
  let u : Nat → V := fun n => ((σ[n]?).join).getD .non
  have hu : ∀ {n : Nat} {v : V}, σ[n]? = some (some v) → u n = v := fun {n v} e => by show ((σ[n]?).join).getD .non = v; rw [e]; rfl
  let M1 : Md := ⟨none, (M.p.toList ++ M.ts.map (·.1)) ++ M.F, List.replicate ρ.length none⟩
  have h1 : ∀ a, M1.has a → M.has a := fun a z => by
    rcases z with z | z | z
    · exact (Md.inP0 rfl a z).elim
    · rcases List.mem_append.mp z with z | z
      · exact .inl (Md.mem_p.mp z)
      · exact .inr (.inl z)
    · exact (no_rep z).elim
  have sc : Same (cut M H) (cut M1 H) := cut_le h1
  have lO : ∀ {n : Nat} {a : Addr}, M.O[n]? = some (some a) → ¬ M1.has a := fun {n a} e z => by
    have hm := List.mem_of_getElem? e
    rcases z with z | z | z
    · exact (Md.inP0 rfl a z).elim
    · rcases List.mem_append.mp z with z | z
      · exact (S.mok.pF a (Md.mem_p.mp z)).2 hm
      · exact S.mok.FO a z hm
    · exact no_rep z
  have S1 : Sd K M1 H σ (asd u ρ) := by
    refine ⟨by rw [asd_len]; exact S.len, by rw [asd_len]; exact List.length_replicate, ⟨fun a z => S.mok.live a (h1 a z), fun a z => (Md.inP0 rfl a z).elim, fun a _ z => no_rep z, fun n m a z => ?_, fun t ht => (nomatch ht)⟩, fun n s e => ?_⟩
    · have := List.mem_of_getElem? z
      exact (no_rep this).elim
    · rw [asd_at] at e
      cases e0 : ρ[n]? with
      | none => rw [e0] at e; cases e
      | some s0 =>
        rw [e0] at e
        have e := Option.some.inj e
        obtain ⟨o, z1, z2⟩ := S.ok n s0 e0
        subst e
        refine ⟨o, z1, ?_⟩
        cases s0 with
        | any => trivial
        | dat d => obtain ⟨v, a1, a2⟩ := z2; subst a1; exact ⟨by rw [hu z1], by rw [hu z1]; exact a2.mono sc⟩
        | val w d => obtain ⟨a1, a2⟩ := z2; exact ⟨a1, a2.mono sc⟩
        | own es =>
          obtain ⟨l, ws, a1, a2, a3, a4⟩ := z2
          subst a1
          exact ⟨by rw [hu z1], by rw [hu z1]; exact .lst (.inl (.inl (cut_at (lO a2) a3))) (a4.mono sc)⟩
        | obj C0 b0 ns0 es =>
          obtain ⟨l, dx0, ws, a1, a2, a3, a5, a4⟩ := z2
          subst a1
          exact ⟨by rw [hu z1], by rw [hu z1]; exact .ins (cut_at (lO a2) a3) a5.1 (a4.mono sc)⟩
        | ownd es =>
          obtain ⟨l, ws, a1, a2, a3, a4⟩ := z2
          subst a1
          exact ⟨by rw [hu z1], by rw [hu z1]; exact .dct (.inl (cut_at (lO a2) a3)) (a4.mono sc)⟩
        | pen m => obtain ⟨p, a1, a2, _⟩ := z2; subst a1; exact ⟨by rw [hu z1], by rw [hu z1]; exact .cls p⟩
        | pown es => obtain ⟨p, ws, a1, a2, _⟩ := z2; subst a1; exact ⟨by rw [hu z1], by rw [hu z1]; exact .cls p⟩
  have same : ∀ {M' : Md} {H' : Hp}, Stp M1 H M' H' → Same H H' := fun s a o e => (s.keep a o e (Md.inP0 rfl a) no_rep).1
  have back : ∀ {M' : Md} {H' : Hp} {σ' : L2.St} {ρ' : List Sl}, Stp M1 H M' H' → Sd K M' H' σ' ρ' → Frm js (asd u ρ) ρ' → Sd K M H' σ' (wipeS ρ js) := fun {M' H' σ' ρ'} s S' f => by
    have S2 := S.same (same s)
    have hl : σ'.length = ρ.length := by rw [S'.len, f.len, asd_len]
    refine ⟨by rw [wipeS_len]; exact hl, by rw [wipeS_len]; exact S.olen, S2.mok, fun n s0 e => ?_⟩
    have hn : n < σ'.length := by
      have := (List.getElem?_eq_some_iff.mp e).1
      rw [wipeS_len] at this
      omega
    have any : s0 = .any → ∃ o, σ'[n]? = some o ∧ SlOk K M H' n o s0 := fun z => ⟨_, List.getElem?_eq_getElem hn, by rw [z]; trivial⟩
    rcases wipeS_at e with z | ⟨nj, e0⟩
    · exact any z
    · obtain ⟨o, z1, z2⟩ := S2.ok n s0 e0
      have ea : (asd u ρ)[n]? = some (asd1 (u n) s0) := by rw [asd_at, e0]; rfl
      have get : ∀ {v : V} {d : Dt}, o = some v → asd1 (u n) s0 = .val v d → ∃ o, σ'[n]? = some o ∧ SlOk K M H' n o s0 := fun {v d} ho hs => by
        rw [hs] at ea
        obtain ⟨d', e'⟩ := f.at_ n v d nj ea
        obtain ⟨o', y1, y2, y3⟩ := S'.ok n _ e'
        exact ⟨o, by rw [y1, y2, ho], z2⟩
      cases s0 with
      | any => exact any rfl
      | dat d => obtain ⟨v, a1, _⟩ := id z2; exact get a1 (by show Sl.val (u n) d = _; rw [hu (by rw [z1, a1])])
      | val w d => exact get z2.1 rfl
      | own es => obtain ⟨l, ws, a1, _⟩ := id z2; exact get a1 (by show Sl.val (u n) _ = _; rw [hu (by rw [z1, a1])])
      | obj C0 b0 ns0 es => obtain ⟨l, dx0, ws, a1, _⟩ := id z2; exact get a1 (by show Sl.val (u n) _ = _; rw [hu (by rw [z1, a1])])
      | ownd es => obtain ⟨l, ws, a1, _⟩ := id z2; exact get a1 (by show Sl.val (u n) _ = _; rw [hu (by rw [z1, a1])])
      | pen m => obtain ⟨p, a1, _⟩ := id z2; exact get a1 (by show Sl.val (u n) _ = _; rw [hu (by rw [z1, a1])])
      | pown es => obtain ⟨p, ws, a1, _⟩ := id z2; exact get a1 (by show Sl.val (u n) _ = _; rw [hu (by rw [z1, a1])])
  refine h u M1 σ H S1 E ⟨fun M' σ' H' ρ' s S' ⟨f, z⟩ => k.nx M σ' H' _ (Stp.same M (same s)) (back s S' f) z, fun M' v H' d ρ' σ' s S' x ⟨f, z⟩ => k.rt M v H' d ρ σ (Stp.same M (same s)) (S.same (same s)) (flat_any f x) z,
    fun M' σ' H' ρ' s S' ⟨f, z⟩ => k.bk M σ' H' _ (Stp.same M (same s)) (back s S' f) z, fun M' σ' H' ρ' s S' ⟨f, z⟩ => k.ct M σ' H' _ (Stp.same M (same s)) (back s S' f) z, fun _ _ _ _ _ _ _ _ _ _ _ _ z => z.elim⟩
end
end DL

/-! Data level: what can be shown: by depth and weight. -/
namespace DL
open PySem PySem.Spec PyProof.Rows L2
variable [Tb]
structure Sh (n w : Nat) (d : Dt) : Prop where
  pure : d.pure = true
  sh : d.py.showable = true
  dep : d.py.depth ≤ n
  lv : d.py.leavesShort 600 = true
  wt : d.py.weight ≤ w
structure ShL (n w : Nat) (ds : List Dt) : Prop where
  pure : pures ds = true
  sh : PyData.showableAll (pys ds) = true
  dep : PyData.depthAll (pys ds) ≤ n
  lv : PyData.leavesShortAll 600 (pys ds) = true
  wt : PyData.weightAll (pys ds) ≤ w
theorem Sh.mono {n m w v : Nat} {d : Dt} (h : Sh n w d) (a : n ≤ m) (b : w ≤ v) : Sh m v d := ⟨h.pure, h.sh, Nat.le_trans h.dep a, h.lv, Nat.le_trans h.wt b⟩
theorem ShL.mono {n m w v : Nat} {d : List Dt} (h : ShL n w d) (a : n ≤ m) (b : w ≤ v) : ShL m v d := ⟨h.pure, h.sh, Nat.le_trans h.dep a, h.lv, Nat.le_trans h.wt b⟩
theorem Sh.fit {n w : Nat} {d : Dt} (h : Sh n w d) (hn : n ≤ 60) (hw : w ≤ 20000) : Fit d := by
  refine ⟨h.pure, h.sh, Nat.le_trans h.dep hn, ?_⟩
  have a := PyData.shown_le 600 (by decide) d.py h.lv
  have b : (600 + 2) * d.py.weight ≤ 602 * 20000 := Nat.mul_le_mul (by omega) (Nat.le_trans h.wt hw)
  rw [sizeLine_eq]
  omega
theorem ShL.nil : ShL 0 0 [] := ⟨rfl, rfl, by simp [pys, PyData.depthAll], rfl, by simp [pys, PyData.weightAll]⟩
theorem ShL.cons {n a b : Nat} {d : Dt} {ds : List Dt} (h : Sh n a d) (k : ShL n b ds) : ShL n (a + b + 1) (d :: ds) := by
  have h1 := h.dep
  have h2 := k.dep
  have h3 := h.wt
  have h4 := k.wt
  refine ⟨by simp only [pures, h.pure, k.pure, Bool.and_self], by simp only [pys, PyData.showableAll, h.sh, k.sh, Bool.and_self], ?_, by simp only [pys, PyData.leavesShortAll, h.lv, k.lv, Bool.and_self], ?_⟩
  · simp only [pys, PyData.depthAll]; omega
  · simp only [pys, PyData.weightAll]; omega
theorem ShL.all {n a : Nat} : ∀ {ds : List Dt}, (∀ d ∈ ds, Sh n a d) → ShL n ((a + 1) * ds.length) ds
  | [], _ => ShL.nil.mono (Nat.zero_le _) (Nat.zero_le _)
  | d :: ds, h => (ShL.cons (h d List.mem_cons_self) (ShL.all fun x hx => h x (List.mem_cons_of_mem _ hx))).mono (Nat.le_refl _) (by rw [List.length_cons, Nat.mul_succ]; omega)
theorem Sh.tup {n w : Nat} {ds : List Dt} (h : ShL n w ds) : Sh (n + 1) (w + 1) (.tup ds) := by
  have h1 := h.dep
  have h3 := h.wt
  exact ⟨by simp only [Dt.pure]; exact h.pure, by simp only [Dt.py, PyData.showable]; exact h.sh, by simp only [Dt.py, PyData.depth]; omega, by simp only [Dt.py, PyData.leavesShort]; exact h.lv, by simp only [Dt.py, PyData.weight]; omega⟩
theorem Sh.lst {n w : Nat} {ds : List Dt} (h : ShL n w ds) : Sh (n + 1) (w + 1) (.lst ds) := by
  have h1 := h.dep
  have h3 := h.wt
  exact ⟨by simp only [Dt.pure]; exact h.pure, by simp only [Dt.py, PyData.showable]; exact h.sh, by simp only [Dt.py, PyData.depth]; omega, by simp only [Dt.py, PyData.leavesShort]; exact h.lv, by simp only [Dt.py, PyData.weight]; omega⟩
theorem Sh.bl (b : Bool) : Sh 0 1 (.bl b) := ⟨rfl, rfl, by simp [Dt.py, PyData.depth], rfl, by simp [Dt.py, PyData.weight]⟩
theorem Sh.non : Sh 0 1 .non := ⟨rfl, rfl, by simp [Dt.py, PyData.depth], rfl, by simp [Dt.py, PyData.weight]⟩
theorem Sh.int {i : Int} {b : Nat} (h : i.natAbs < 2 ^ b) (h0 : 0 < b) (hb : b ≤ 500) : Sh 0 b (.int i) := by
  have hl : i.natAbs.log2 < b := PySem.Flt.log2_lt_of h0 h
  refine ⟨rfl, by simp only [Dt.py, PyData.showable, decide_eq_true_eq]; omega, by simp [Dt.py, PyData.depth], ?_, ?_⟩
  · simp only [Dt.py, PyData.leavesShort, decide_eq_true_eq]
    have := int_text_length_le (a := i) h0 hl
    show (Str.ofString (toString i)).length ≤ 600
    rw [PySem.ofString_length]
    omega
  · simp only [Dt.py, PyData.weight]
    split <;> omega
theorem Sh.str {z : Str} {w : Nat} (h : (z.cps.toList.all fun c => decide (c < 256)) = true) (hl : z.length ≤ w) : Sh 0 (w + 1) (.str z) := by
  refine ⟨rfl, rfl, by simp [Dt.py, PyData.depth], ?_, ?_⟩
  · simp only [Dt.py, PyData.leavesShort]
    refine List.all_eq_true.mpr fun c hc => ?_
    have := List.all_eq_true.mp h c hc
    simp only [decide_eq_true_eq] at this ⊢
    omega
  · simp only [Dt.py, PyData.weight]; exact Nat.le_succ_of_le hl
end DL

namespace K05
open PySem PySem.Spec PyProof.Rows L2 DL
abbrev sMade : Stmt := topS 26
theorem scMade : FnScope ["_law_some"] ["_law_some"] (defScope sMade) := ⟨rfl, rfl, rfl, by decide +kernel, rfl, by decide +kernel, by decide +kernel⟩
abbrev sHeard : Stmt := topS 27
theorem scHeard : FnScope ["_law_some", "_law_caught", "error"] ["_law_some"] (defScope sHeard) := ⟨rfl, rfl, rfl, by decide +kernel, rfl, by decide +kernel, by decide +kernel⟩
abbrev sShown : Stmt := topS 28
theorem scShown : FnScope ["_law_station", "_law_kinds"] ["_law_station"] (defScope sShown) := ⟨rfl, rfl, rfl, by decide +kernel, rfl, by decide +kernel, by decide +kernel⟩
abbrev sDueOf : Stmt := topS 29
theorem scDueOf : FnScope ["_law_some", "_law_bit"] ["_law_some"] (defScope sDueOf) := ⟨rfl, rfl, rfl, by decide +kernel, rfl, by decide +kernel, by decide +kernel⟩
/-! ### _law_made -/
def WMade (c : Nat → Addr) (cI : Addr) : List Dt → (Dt → Prop) → (Addr → List Str → List Dt → Prop) → Prop := fun ds Φ Ξ => ∃ k o w g l, ds = [rowD k o w g l] ∧ k < 3 ∧ Gd o w g l ∧ (fault k o w g l = none → ∀ a, Φ (stD c k a o w g l)) ∧ ∀ z, fault k o w g l = some z → Ξ cI ["part"] [.str z]
section
variable {P : Program} {w : World} {K : PySem.W.Frag} {mg : Str → Option Value} {base : Heap} {c : Nat → Addr} {cI eT eU cS : Addr} {f : Addr} {fd : FuncData}
theorem ok_made (F : Fun K "_law_made" "_law_made" sMade f fd) (m0 : MkP K mg c cI) (m1 : MkL K mg c cI eT 1 "Clamp") (m2 : MkL K mg c cI eU 2 "Holding") : FnOk P w K mg base (L2.CX P w) 8 f fd ["_law_some"] (spX K (WMade c cI)) := by
  refine defX F scMade (fun ds Φ Ξ ⟨k, o, w, g, l, e, _⟩ => by rw [e]; rfl) (by decide) fun cdv A outer s H E hr => ?_
  refine ⟨_, pss_cons (ps_if (pt_cmpR op_eq (pe_ix (ixK K rfl) (pv 0) pe_int (fun _ _ => rfl)) pe_int (nomark _))
    (pss_one (ps_ret (m0.pe (E := E) rfl rfl hr (by rfl) (passes_call (takes_of rfl rfl rfl rfl) fun _ _ _ _ h => h) (pa_cons (pe_ix (ixK K rfl) (pv 0) pe_int (fun _ _ => rfl)) pa_nil))))
    pss_nil)
    <| pss_cons (ps_if (pt_cmpR op_eq (pe_ix (ixK K rfl) (pv 0) pe_int (fun _ _ => rfl)) pe_int (nomark _))
    (pss_one (ps_ret (m1.peK (E := E) rfl rfl hr (by rfl) (passes_call (takes_of rfl rfl rfl rfl) fun _ _ _ _ h => h) (pa_cons (pe_ix (ixK K rfl) (pv 0) pe_int (fun _ _ => rfl)) (pa_cons (pe_ix (ixK K rfl) (pv 0) pe_int (fun _ _ => rfl)) pa_nil)) (pk_cons (pe_ix (ixK K rfl) (pv 0) pe_int (fun _ _ => rfl)) (pk_cons (pe_ix (ixK K rfl) (pv 0) pe_int (fun _ _ => rfl)) pk_nil)))))
    pss_nil)
    <| pss_one (ps_ret (m2.peK (E := E) rfl rfl hr (by rfl) (passes_call (takes_of rfl rfl rfl rfl) fun _ _ _ _ h => h) (pa_cons (pe_ix (ixK K rfl) (pv 0) pe_int (fun _ _ => rfl)) (pa_cons (pe_ix (ixK K rfl) (pv 0) pe_int (fun _ _ => rfl)) pa_nil)) (pk_cons (pe_ix (ixK K rfl) (pv 0) pe_int (fun _ _ => rfl)) pk_nil))), ?_⟩
  rintro ds Φ Ξ ⟨k, o, w, g, l, rfl, hk, gd, q, qx⟩
  show Ws K _ [.dat (rowD k o w g l)] _
  have app : ∀ (n m : Nat) (x : Addr) (vs zs : List V) (ds es : List Dt) (H : Hp), vs.length = n → zs.length = m → DXs K H vs ds → DXs K H zs es → ∃ ws, gApp (V.ref x :: vs) zs = V.ref x :: ws ∧ DXs K H ws (ds ++ es) := fun _ _ x vs zs ds es H _ _ h1 h2 => ⟨vs ++ zs, rfl, h1.append h2⟩
  refine ws_seq <| ws_if (pf := true) <| wt_test <| w_op <| w_op <| w_var (d := rowD k o w g l) rfl <| w_c (fun _ => .int 0) <| od_ix rfl (d := .int (k : Nat)) rfl <| w_c (fun _ => .int 0) <| od_eqi ⟨_, rfl, ?_⟩
  by_cases e0 : k = 0
  · rw [decide_eq_true (show ((k : Nat) : Int) = 0 by omega)]
    subst e0
    exact ifT <| ws_retX <| wx_make (pf := true) (fun _ _ _ h => h) <| wa_cons <| w_op <| w_var (d := rowD 0 o w g l) rfl <| w_c (fun _ => .int 1) <| od_ix rfl (d := o) rfl <| wa_nil ⟨o, w, g, l, rfl, gd, q, qx⟩
  · rw [decide_eq_false (show ¬ ((k : Nat) : Int) = 0 by omega)]
    refine ifF <| ws_next <| ws_seq <| ws_if (pf := true) <| wt_test <| w_op <| w_op <| w_var (d := rowD k o w g l) rfl <| w_c (fun _ => .int 0) <| od_ix rfl (d := .int (k : Nat)) rfl <| w_c (fun _ => .int 1) <| od_eqi ⟨_, rfl, ?_⟩
    by_cases e1 : k = 1
    · rw [decide_eq_true (show ((k : Nat) : Int) = 1 by omega)]
      subst e1
      exact ifT <| ws_retX <| wx_makeK (pf := true) (gD := fun ds es => ds ++ es) (app _ _) (fun _ _ _ h => h) <| wa_cons <| w_op <| w_var (d := rowD 1 o w g l) rfl <| w_c (fun _ => .int 1) <| od_ix rfl (d := o) rfl <| wa_cons <| w_op <| w_var (d := rowD 1 o w g l) rfl <| w_c (fun _ => .int 2) <| od_ix rfl (d := w) rfl <| wa_nil
        <| wa_cons <| w_op <| w_var (d := rowD 1 o w g l) rfl <| w_c (fun _ => .int 3) <| od_ix rfl (d := g) rfl <| wa_cons <| w_op <| w_var (d := rowD 1 o w g l) rfl <| w_c (fun _ => .int 4) <| od_ix rfl (d := l) rfl <| wa_nil ⟨rfl, rfl, o, w, g, l, rfl, gd, q, qx⟩
    · rw [decide_eq_false (show ¬ ((k : Nat) : Int) = 1 by omega)]
      obtain rfl : k = 2 := by omega
      exact ifF <| ws_next <| ws_retX <| wx_makeK (pf := true) (gD := fun ds es => ds ++ es) (app _ _) (fun _ _ _ h => h) <| wa_cons <| w_op <| w_var (d := rowD 2 o w g l) rfl <| w_c (fun _ => .int 1) <| od_ix rfl (d := o) rfl <| wa_cons <| w_op <| w_var (d := rowD 2 o w g l) rfl <| w_c (fun _ => .int 2) <| od_ix rfl (d := w) rfl <| wa_nil
        <| wa_cons <| w_op <| w_var (d := rowD 2 o w g l) rfl <| w_c (fun _ => .int 4) <| od_ix rfl (d := l) rfl <| wa_nil ⟨rfl, rfl, o, w, g, l, rfl, gd, q, qx⟩
/-! ### _law_heard -/
def WHeard (c : Nat → Addr) : List Dt → (Dt → Prop) → Prop := fun ds Φ => ∃ k o w g l, ds = [rowD k o w g l] ∧ k < 3 ∧ Gd o w g l ∧ (fault k o w g l = none → ∀ a, Φ (stD c k a o w g l)) ∧ ∀ z, fault k o w g l = some z → Φ (.tup [.str "wrong", .str z])
structure Exc (K : PySem.W.Frag) (mg : Str → Option Value) (cI cD : Addr) : Prop where
  nI : mg "InvalidStation" = some (.ref cI)
  nD : mg "DuskError" = some (.ref cD)
  x : XfC K cI
  no : PySem.W.findIn K (.ref cI) "part" = some none
  is : IsxC K cI
  k : PySem.W.kitOne K (.ref cI) (.ref cI) = some true
  m : PySem.W.exmOne K (.ref cI) (.ref cD) = some true
theorem ok_heard {cD : Addr} (F : Fun K "_law_heard" "_law_heard" sHeard f fd) (B : Bt mg) (X : Exc K mg cI cD) (dMade : DF K mg "_law_made" sMade ["_law_some"]) (gMade : FnOk P w K mg base (L2.CX P w) 8 dMade.f dMade.fd ["_law_some"] (spX K (WMade c cI))) :
    FnG P w K mg base CX0 9 f fd ["_law_some"] (spP K (WHeard c)) := by
  refine defP F scHeard (fun ds Φ ⟨k, o, w, g, l, e, _⟩ => by rw [e]; rfl) (by decide) fun cdv A outer s H E hr hg => ?_
  refine ⟨_, pss_cons (ps_set (i := 1) scHeard.nd rfl (Or.inl rfl) pe_non)
    <| pss_cons (ps_try_keep (i := 2) rfl rfl scHeard.nd rfl rfl ⟨by rfl, by decide, .inl X.nD⟩ takes0 (fun W pn xe tk _ => pss_one (ps_ret (pe_callS gMade hr (by rfl) dMade.g dMade.F.kp dMade.b (fun σ => passAt tk σ) (pa_cons (pv 0) pa_nil))))
      (fun a oe cls d pn hz hf => pss_one (ps_set (i := 1) scHeard.nd rfl (Or.inl rfl) (pv 2))))
    <| pss_one (ps_ret (pe_ifExp (pt_val (pe_callB (isXK K rfl) (by rfl) B.isi boot_isinstance (pa_cons (pv 1) (pa_cons (pe_glob (v := .ref cI) (by rfl) X.nI rfl) pa_nil)))) (pe_tup (pa_cons pe_str (pa_cons (pe_xfld (pv 1)) pa_nil))) (pe_tup (pa_cons pe_str pa_nil)))), ?_⟩
  rintro ds Φ ⟨k, o, w, g, l, rfl, hk, gd, q, qx⟩
  show Ws K _ [.dat (rowD k o w g l), .any, .any] _
  refine ws_seq <| ws_asg (pf := true) <| w_c (fun _ => .non) ?_
  show Ws K _ [.dat (rowD k o w g l), .dat .non, .any] _
  refine ws_seq <| ws_tryRet (pf := true) <| wa_cons <| w_var (d := rowD k o w g l) rfl <| wa_nil ⟨k, o, w, g, l, rfl, hk, gd, q, fun z hz => ⟨X.m, fun a dd => ?_⟩⟩
  show Ws K _ [.dat (rowD k o w g l), .dat .non, .dat (.cls a)] _
  refine ws_asg (pf := true) <| w_var (d := .cls a) rfl ?_
  show Ws K _ (kept a cI ["part"] [.str z] [.dat (rowD k o w g l), .dat (.cls a), .any]) _
  rw [show kept a cI ["part"] [.str z] [.dat (rowD k o w g l), .dat (.cls a), .any] = [.dat (rowD k o w g l), .dat (.exc cI a ["part"] [.str z]), .any] from by unfold kept; simp only [List.map_cons, List.map_nil, rowD, if_true]]
  refine ws_ret (pf := true) <| w_if <| wt_B <| w_cb <| wa_cons <| w_var (d := .exc cI a ["part"] [.str z]) rfl <| wa_cons <| w_c (fun _ => .cls _) <| wa_nil <| rd_isX X.is X.k ⟨_, rfl, ?_⟩
  exact ifT <| w_tup <| wa_cons <| w_c (fun _ => .str _) <| wa_cons <| w_xfld X.x X.no <| w_var (d := .exc cI a ["part"] [.str z]) rfl ⟨a, _, _, .str z, rfl, rfl, wa_nil ⟨by show 2 ≤ 100000; decide, qx z hz⟩⟩
/-! ### _law_shown, _law_due_of -/
def dueL (r : R) : List Dt := if r.k = 0 then [.bl true, .bl true, .bl false, .bl false, .str r.o, .non, .non, .tup []] else [.bl true, .bl false, .bl true, .bl (decide (r.k = 2)), .str r.o, .str r.w, if r.k = 1 then .int r.g else .non, lD r.l]
def WShown (c : Nat → Addr) : List Dt → (Dt → Prop) → Prop := fun ds Φ => ∃ a r, ds = [R.st c a r] ∧ r.k < 3 ∧ Φ (.lst (dueL r))
structure Gets (K : PySem.W.Frag) (c : Nat → Addr) : Prop where
  on : ∀ k, k < 3 → GetOf K c k 0 "on"
  ow : ∀ k, k < 3 → GetOf K c k 1 "owner"
  gi : ∀ k, k < 3 → GetOf K c k 2 "gives"
  li : ∀ k, k < 3 → GetOf K c k 3 "line"
theorem dueL_eq {r : R} (h : r.k < 3) : [Dt.bl true, .bl (isb r.k 0), .bl (isb r.k 1)] ++ [.bl (isb r.k 2), rGet 0 r, rGet 1 r, rGet 2 r, rGet 3 r] = dueL r := by
  obtain ⟨k, o, w, g, l⟩ := r
  match k, h with
  | 0, _ => rfl
  | 1, _ => rfl
  | 2, _ => rfl
theorem ok_shown (F : Fun K "_law_shown" "_law_shown" sShown f fd) (B : Bt mg) (T : IsT K mg c cS) (G : Gets K c) : FnG P w K mg base CX0 3 f fd ["_law_station"] (spP K (WShown c)) := by
  refine defP F scShown (fun ds Φ ⟨a, r, e, _⟩ => by rw [e]; rfl) (by decide) fun cdv A outer s H E hr hg => ?_
  refine ⟨_, pss_cons (ps_set (i := 1) scShown.nd rfl (Or.inl rfl) (pe_lst (pa_cons (pe_callB (isiK K rfl) (by rfl) B.isi boot_isinstance (pa_cons (pv 0) (pa_cons (pe_glob (v := .ref cS) (by rfl) T.nS rfl) pa_nil))) (pa_cons (pe_callB (isiK K rfl) (by rfl) B.isi boot_isinstance (pa_cons (pv 0) (pa_cons (pe_glob (v := .ref (c 0)) (by rfl) T.n0 rfl) pa_nil))) (pa_cons (pe_callB (isiK K rfl) (by rfl) B.isi boot_isinstance (pa_cons (pv 0) (pa_cons (pe_glob (v := .ref (c 1)) (by rfl) T.n1 rfl) pa_nil))) pa_nil)))))
    <| pss_one (ps_ret (pe_op (catLK K rfl) (pv 1) (pe_lst (pa_cons (pe_callB (isiK K rfl) (by rfl) B.isi boot_isinstance (pa_cons (pv 0) (pa_cons (pe_glob (v := .ref (c 2)) (by rfl) T.n2 rfl) pa_nil))) (pa_cons (pe_get3 G.on T.kd rfl hr (pv 0)) (pa_cons (pe_get3 G.ow T.kd rfl hr (pv 0)) (pa_cons (pe_get3 G.gi T.kd rfl hr (pv 0)) (pa_cons (pe_get3 G.li T.kd rfl hr (pv 0)) pa_nil)))))))), ?_⟩
  rintro ds Φ ⟨a, r, rfl, hk, q⟩
  show Ws K _ [.dat (r.st c a), .any] _
  refine ws_seq <| ws_asg (pf := true) <| w_lst <| wa_cons <| w_cb <| wa_cons <| w_var (d := r.st c a) rfl <| wa_cons <| w_c (fun _ => .cls _) <| wa_nil <| T.rdS hk <| wa_cons <| w_cb <| wa_cons <| w_var (d := r.st c a) rfl <| wa_cons <| w_c (fun _ => .cls _) <| wa_nil <| T.rd hk (by decide) <| wa_cons <| w_cb <| wa_cons <| w_var (d := r.st c a) rfl <| wa_cons <| w_c (fun _ => .cls _) <| wa_nil <| T.rd hk (by decide) <| wa_nil ⟨by show 3 ≤ 100000; decide, ?_⟩
  show Ws K _ [.dat (r.st c a), .dat (.lst [.bl true, .bl (isb r.k 0), .bl (isb r.k 1)])] _
  refine ws_ret (pf := true) <| w_op <| w_var (d := .lst [.bl true, .bl (isb r.k 0), .bl (isb r.k 1)]) rfl <| w_lst <| wa_cons <| w_cb <| wa_cons <| w_var (d := r.st c a) rfl <| wa_cons <| w_c (fun _ => .cls _) <| wa_nil <| T.rd hk (by decide) <| wa_cons <| w_get3 r hk <| w_var (d := r.st c a) rfl ⟨⟨a, rfl⟩, wa_cons <| w_get3 r hk <| w_var (d := r.st c a) rfl ⟨⟨a, rfl⟩, wa_cons <| w_get3 r hk <| w_var (d := r.st c a) rfl ⟨⟨a, rfl⟩, wa_cons <| w_get3 r hk <| w_var (d := r.st c a) rfl ⟨⟨a, rfl⟩, wa_nil ⟨by show 5 ≤ 100000; decide, od_cat (by show 3 + 5 ≤ 100000; decide) ?_⟩⟩⟩⟩⟩
  rw [dueL_eq hk]
  exact q
def WDueOf : List Dt → (Dt → Prop) → Prop := fun ds Φ => ∃ r : R, ds = [r.row] ∧ r.k < 3 ∧ Φ (.lst (dueL r))
theorem ok_dueOf (F : Fun K "_law_due_of" "_law_due_of" sDueOf f fd) : FnOk P w K mg base CX0 1 f fd ["_law_some"] (spP K WDueOf) := by
  refine defP0 F scDueOf (fun ds Φ ⟨r, e, _⟩ => by rw [e]; rfl) (by decide) fun cdv A outer s H E hr => ?_
  refine ⟨_, pss_cons (ps_if (pt_cmpR op_eq (pe_ix (ixK K rfl) (pv 0) pe_int (fun _ _ => rfl)) pe_int (nomark _))
    (pss_one (ps_ret (pe_lst (pa_cons pe_bl (pa_cons pe_bl (pa_cons pe_bl (pa_cons pe_bl (pa_cons (pe_ix (ixK K rfl) (pv 0) pe_int (fun _ _ => rfl)) (pa_cons pe_non (pa_cons pe_non (pa_cons (pe_tup pa_nil) pa_nil)))))))))))
    pss_nil)
    <| pss_cons (ps_set (i := 1) scDueOf.nd rfl (Or.inl rfl) (pe_ifExp (pt_cmpR op_eq (pe_ix (ixK K rfl) (pv 0) pe_int (fun _ _ => rfl)) pe_int (nomark _)) (pe_ix (ixK K rfl) (pv 0) pe_int (fun _ _ => rfl)) pe_non))
    <| pss_one (ps_ret (pe_lst (pa_cons pe_bl (pa_cons pe_bl (pa_cons pe_bl (pa_cons (pe_cmpR op_eq (pe_ix (ixK K rfl) (pv 0) pe_int (fun _ _ => rfl)) pe_int (nomark _)) (pa_cons (pe_ix (ixK K rfl) (pv 0) pe_int (fun _ _ => rfl)) (pa_cons (pe_ix (ixK K rfl) (pv 0) pe_int (fun _ _ => rfl)) (pa_cons (pv 1) (pa_cons (pe_ix (ixK K rfl) (pv 0) pe_int (fun _ _ => rfl)) pa_nil)))))))))), ?_⟩
  rintro ds Φ ⟨r, rfl, hk, q⟩
  obtain ⟨k, o, w, g, l⟩ := r
  generalize hrow : R.row ⟨k, o, w, g, l⟩ = row
  have row_eq : row = .lst [.int (k : Nat), .str o, .str w, .int g, lD l] := hrow.symm
  show Ws K _ [.dat row, .any] _
  have s1 : seqD row = some [.int (k : Nat), .str o, .str w, .int g, lD l] := by rw [row_eq]; rfl
  refine ws_seq <| ws_if (pf := true) <| wt_test <| w_op <| w_op <| w_var rfl <| w_c (fun _ => .int 0) <| od_ix s1 (d := .int (k : Nat)) rfl <| w_c (fun _ => .int 0) <| od_eqi ⟨_, rfl, ?_⟩
  by_cases e0 : k = 0
  · rw [decide_eq_true (show ((k : Nat) : Int) = 0 by omega)]
    have e : dueL ⟨k, o, w, g, l⟩ = [.bl true, .bl true, .bl false, .bl false, .str o, .non, .non, .tup []] := by unfold dueL; rw [if_pos e0]
    rw [e] at q
    exact ifT <| ws_ret (pf := true) <| w_lst <| wa_cons <| w_c (fun _ => .bl _) <| wa_cons <| w_c (fun _ => .bl _) <| wa_cons <| w_c (fun _ => .bl _) <| wa_cons <| w_c (fun _ => .bl _) <| wa_cons <| w_op <| w_var rfl <| w_c (fun _ => .int 1) <| od_ix s1 (d := .str o) rfl <| wa_cons <| w_c (fun _ => .non) <| wa_cons <| w_c (fun _ => .non) <| wa_cons <| w_tup <| wa_nil ⟨by decide, wa_nil ⟨by show 8 ≤ 100000; decide, q⟩⟩
  · rw [decide_eq_false (show ¬ ((k : Nat) : Int) = 0 by omega)]
    have e : dueL ⟨k, o, w, g, l⟩ = [.bl true, .bl false, .bl true, .bl (decide (((k : Nat) : Int) = 2)), .str o, .str w, if k = 1 then .int g else .non, lD l] := by
      unfold dueL; rw [if_neg e0]
      have : decide (k = 2) = decide (((k : Nat) : Int) = 2) := decide_eq_decide.mpr (by omega)
      rw [show R.k ⟨k, o, w, g, l⟩ = k from rfl, this]
    rw [e] at q
    have fin : ∀ b : Dt, (if k = 1 then Dt.int g else .non) = b → Ws K (tRet (tLst (tCons (tC (V.bl true)) (tCons (tC (V.bl false)) (tCons (tC (V.bl true)) (tCons (tOp rEq (tOp (rIx K) (tVar 0) (tC (V.int 0))) (tC (V.int 2))) (tCons (tOp (rIx K) (tVar 0) (tC (V.int 1))) (tCons (tOp (rIx K) (tVar 0) (tC (V.int 2))) (tCons (tVar 1) (tCons (tOp (rIx K) (tVar 0) (tC (V.int 4))) tNil)))))))))) [.dat row, .dat b] { nx := fun _ => Φ .non, rt := fun d _ => Φ d } := fun b hb => by
      subst hb
      exact ws_ret (pf := true) <| w_lst <| wa_cons <| w_c (fun _ => .bl _) <| wa_cons <| w_c (fun _ => .bl _) <| wa_cons <| w_c (fun _ => .bl _) <| wa_cons <| w_op <| w_op <| w_var rfl <| w_c (fun _ => .int 0) <| od_ix s1 (d := .int (k : Nat)) rfl <| w_c (fun _ => .int 2) <| od_eqi <| wa_cons <| w_op <| w_var rfl <| w_c (fun _ => .int 1) <| od_ix s1 (d := .str o) rfl <| wa_cons <| w_op <| w_var rfl <| w_c (fun _ => .int 2) <| od_ix s1 (d := .str w) rfl
        <| wa_cons <| w_var rfl <| wa_cons <| w_op <| w_var rfl <| w_c (fun _ => .int 4) <| od_ix s1 (d := lD l) rfl <| wa_nil ⟨by show 8 ≤ 100000; decide, q⟩
    refine ifF <| ws_next <| ws_seq <| ws_asg (pf := true) <| w_if <| wt_test <| w_op <| w_op <| w_var rfl <| w_c (fun _ => .int 0) <| od_ix s1 (d := .int (k : Nat)) rfl <| w_c (fun _ => .int 1) <| od_eqi ⟨_, rfl, ?_⟩
    by_cases e1 : k = 1
    · rw [decide_eq_true (show ((k : Nat) : Int) = 1 by omega)]
      exact ifT <| w_op <| w_var rfl <| w_c (fun _ => .int 3) <| od_ix s1 (d := .int g) rfl <| fin _ (if_pos e1)
    · rw [decide_eq_false (show ¬ ((k : Nat) : Int) = 1 by omega)]
      exact ifF <| w_c (fun _ => .non) <| fin _ (if_neg e1)
end
end K05

namespace K05
open PySem PySem.Spec PyProof.Rows L2 DL
abbrev sLane : Stmt := topS 30
theorem scLane : FnScope ["_law_pen", "_law_rest", "_law_found", "_law_k"] ["_law_pen"] (defScope sLane) := ⟨rfl, rfl, rfl, by decide +kernel, rfl, by decide +kernel, by decide +kernel⟩
abbrev sParts : Stmt := topS 31
theorem scParts : FnScope ["_law_pen", "_law_found"] ["_law_pen"] (defScope sParts) := ⟨rfl, rfl, rfl, by decide +kernel, rfl, by decide +kernel, by decide +kernel⟩
abbrev sDueMark : Stmt := topS 32
theorem scDueMark : FnScope ["_law_some", "_law_mark", "_law_flags", "_law_keeping"] ["_law_some", "_law_mark", "_law_flags", "_law_keeping"] (defScope sDueMark) := ⟨rfl, rfl, rfl, by decide +kernel, rfl, by decide +kernel, by decide +kernel⟩
abbrev sHandsRight : Stmt := topS 33
theorem scHandsRight : FnScope ["_law_pen", "_law_some", "_law_station", "_law_turn", "_law_flags", "_law_mark", "_law_keeping", "_law_told"] ["_law_pen", "_law_some", "_law_station"] (defScope sHandsRight) := ⟨rfl, rfl, rfl, by decide +kernel, rfl, by decide +kernel, by decide +kernel⟩
section
variable {P : Program} {w : World} {K : PySem.W.Frag} {mg : Str → Option Value} {base : Heap} {c : Nat → Addr} {cI eT cS : Addr} {f : Addr} {fd : FuncData} {k : Nat}
/-! ### _law_lane -/
def WLane : Nat → List Dt → (Dt → Nat → Prop) → Prop := fun n ds Φ => ds = [] ∧ n < 900000 ∧ ∀ l : List Str, l.Nodup → l.length ≤ 4 → (∀ x ∈ l, x ∈ lets) → Φ (lD l) (n + 5)
theorem lets_nd : lets.Nodup := by decide +kernel
theorem perm_erase : ∀ (rs : List Str) {j : Nat} (h : j < rs.length), (rs[j] :: rs.eraseIdx j).Perm rs
  | x :: rs, 0, _ => List.Perm.refl _
  | x :: rs, j + 1, h => (List.Perm.swap x _ _).trans (List.Perm.cons x (perm_erase rs (Nat.lt_of_succ_lt_succ h)))
theorem map_erase {α β : Type} (g : α → β) (xs : List α) (j : Nat) : (xs.map g).eraseIdx j = (xs.eraseIdx j).map g := by
  rw [List.eraseIdx_eq_take_drop_succ, List.eraseIdx_eq_take_drop_succ, List.map_append, List.map_take, List.map_drop]
theorem erase_perm {fs rs : List Str} {j : Nat} {x : Str} (h : (fs ++ rs).Perm lets) (e : rs[j]? = some x) : ((fs ++ [x]) ++ rs.eraseIdx j).Perm lets := by
  obtain ⟨hj, rfl⟩ := List.getElem?_eq_some_iff.mp e
  refine List.Perm.trans ?_ h
  rw [List.append_assoc]
  refine List.Perm.append_left fs ?_
  exact perm_erase rs hj
theorem ok_laneN (F : Fun K "_law_lane" "_law_lane" sLane f fd) (B : Bt mg) (dDraw : DF K mg "_law_draw" sDraw ["_law_pen", "_law_many"]) (gDraw : FnG P w K mg base CX0 k dDraw.f dDraw.fd ["_law_pen", "_law_many"] (spN K WDraw)) :
    FnG P w K mg base CX0 (k + 1) f fd ["_law_pen"] (spN K WLane) := by
  refine defN F scLane (fun n ds Φ ⟨e, _⟩ => by rw [e]; rfl) (by decide) fun cdv A outer s H E hr hg => ?_
  refine ⟨_, pss_cons (ps_par (i := 1) (j := 2) (by rfl) scLane.nd rfl rfl (by decide) rfl rfl (pa_cons (pe_lst (pa_cons pe_str (pa_cons pe_str (pa_cons pe_str (pa_cons pe_str (pa_cons pe_str pa_nil)))))) (pa_cons (pe_lst pa_nil) pa_nil)) (by rfl))
    <| pss_cons (ps_for PassesOwn.never rfl (pi_range1 (by rfl) B.range (pa_cons (pe_callG gDraw hr hg (by rfl) dDraw.g dDraw.F.kp dDraw.b .nil pass0 (pa_cons (pv 0) (pa_cons pe_int pa_nil))) pa_nil)) (pg_name (i := 3) scLane.nd rfl (Or.inl rfl))
    (pss_one (ps_expr (pe_bm PySem.F.plainAttrs_list PySem.F.slot_list_append PySem.F.type_list_append mt_append (pv 2) (pa_cons (pe_bm PySem.F.plainAttrs_list PySem.F.slot_list_pop PySem.F.type_list_pop mt_popAt (pv 1) (pa_cons (pe_callG gDraw hr hg (by rfl) dDraw.g dDraw.F.kp dDraw.b .nil pass0 (pa_cons (pv 0) (pa_cons (pe_callB (lenK K rfl) (by rfl) B.len PySem.boot_len (pa_cons (pv 1) pa_nil)) pa_nil))) pa_nil)) pa_nil)))))
    <| pss_one (ps_ret (pe_callTy (tupleK K rfl) (by rfl) B.tuple PyProof.Rows.boot_tuple (pa_cons (pv 2) pa_nil))), ?_⟩
  rintro n ds Φ ⟨rfl, hn, q⟩
  show Ws K _ [.pen n, .any, .any, .any] _
  refine ws_seq <| ws_parLL (pf := false) <| wl_lst <| wa_cons <| w_c (fun _ => .str _) <| wa_cons <| w_c (fun _ => .str _) <| wa_cons <| w_c (fun _ => .str _) <| wa_cons <| w_c (fun _ => .str _) <| wa_cons <| w_c (fun _ => .str _) <| wa_nil ⟨by show 5 ≤ 100000; decide, by show 1 < 4; decide, by show 2 < 4; decide, ?_⟩
  show Ws K _ [.pen n, .own (lets.map Dt.str), .own (([] : List Str).map Dt.str), .any] _
  refine ws_seqI (fun ρ' => ∃ (n' : Nat) (fs rs : List Str), n' ≤ n + 5 ∧ fs.length ≤ 4 ∧ (fs ++ rs).Perm lets ∧ ρ' = [.pen n', .own (rs.map Dt.str), .own (fs.map Dt.str), .any]) ?_ ?_
  · refine ws_for (js := [3]) (fun _ i ρ' => ∃ (n' : Nat) (fs rs : List Str), i ≤ 4 ∧ n' ≤ n + 1 + i ∧ fs.length = i ∧ (fs ++ rs).Perm lets ∧ ρ' = [.pen n', .own (rs.map Dt.str), .own (fs.map Dt.str), .any]) <| wi_rng1 (pf := false) <| wa_cons <| w_callN (i := 0) rfl <| wa_cons <| w_c (fun _ => .int _) <| wa_nil ⟨n, rfl, 5, rfl, by decide, by decide, by omega, fun r hr5 => wa_nil ⟨r, rfl, by omega, by omega,
      ⟨n + 1, [], lets, by decide, by omega, rfl, List.Perm.refl _, rfl⟩, ?_, ?_⟩⟩
    · rintro i d ρ2 hd ⟨n', fs, rs, hi, hn', hf, hp, rfl⟩
      have hi2 : i < r := by have := (List.getElem?_eq_some_iff.mp hd).1; rw [rangeD_len] at this; omega
      have hlen : fs.length + rs.length = 5 := by rw [← List.length_append, hp.length_eq]; rfl
      have hrs : 0 < rs.length := by omega
      refine wg_name ?_
      show Ws K _ [.pen n', .own (rs.map Dt.str), .own (fs.map Dt.str), .dat d] _
      refine ws_wk <| ws_append (pf := false) (i := 2) (w_pop (i := 1) (w_callN (i := 0) rfl <| wa_cons <| wp_thaw (i := 1) (ds := rs.map Dt.str) rfl <| w_cb <| wa_cons <| w_var (d := .lst (rs.map Dt.str)) rfl <| wa_nil <| rd_len rfl ⟨rfl, wa_nil ⟨n', rfl, ((rs.map Dt.str).length : Nat), rfl, by rw [List.length_map]; omega, by rw [List.length_map]; omega, by omega, fun j hj => ?_⟩⟩) rfl) rfl
      have hj2 : j < rs.length := by rw [List.length_map] at hj; omega
      refine ⟨rs.map Dt.str, j, .str rs[j], rfl, rfl, by rw [List.getElem?_map, List.getElem?_eq_getElem hj2]; rfl, by omega, fs.map Dt.str, rfl, by rw [List.length_map]; omega, ?_⟩
      refine ⟨_, .keep <| .keep <| .keep <| .drop .nil, n' + 1, fs ++ [rs[j]], rs.eraseIdx j, by omega, by omega, by rw [List.length_append, hf]; rfl, erase_perm hp (List.getElem?_eq_getElem hj2), ?_⟩
      show [Sl.pen (n' + 1), .own ((rs.map Dt.str).eraseIdx j), .own (fs.map Dt.str ++ [.str rs[j]]), .any] = _
      rw [List.map_append, map_erase]
      rfl
    · rintro ρ2 ⟨n', fs, rs, hi, hn', hf, hp, rfl⟩
      exact ⟨n', fs, rs, by omega, by omega, hp, rfl⟩
  · rintro ρ' ⟨n', fs, rs, hn', hf, hp, rfl⟩
    have nd : (fs ++ rs).Nodup := hp.nodup_iff.mpr lets_nd
    refine ws_freeze (i := 2) (ds := fs.map Dt.str) rfl ?_
    exact ws_ret (pf := true) <| w_cb <| wa_cons <| w_var (d := .lst (fs.map Dt.str)) rfl <| wa_nil <| rd_tuple rfl ⟨n + 5, _, rfl, .pen hn', q fs (List.nodup_append.mp nd).1 hf fun x hx => hp.mem_iff.mp (List.mem_append_left _ hx)⟩
/-! ### _law_parts -/
def WParts : Nat → List Dt → (Dt → Nat → Prop) → Prop := fun n ds Φ => ds = [] ∧ n < 800000 ∧ ∀ r : R, r.Ok → Φ r.row (n + 20)
theorem ok_parts (F : Fun K "_law_parts" "_law_parts" sParts f fd) (dDraw : DF K mg "_law_draw" sDraw ["_law_pen", "_law_many"]) (gDraw : FnG P w K mg base CX0 k dDraw.f dDraw.fd ["_law_pen", "_law_many"] (spN K WDraw))
    (dPick : DF K mg "_law_pick" sPick ["_law_pen", "_law_some"]) (gPick : FnG P w K mg base CX0 k dPick.f dPick.fd ["_law_pen", "_law_some"] (spN K WPick)) (dLane : DF K mg "_law_lane" sLane ["_law_pen"]) (gLane : FnG P w K mg base CX0 k dLane.f dLane.fd ["_law_pen"] (spN K WLane)) :
    FnG P w K mg base CX0 (k + 1) f fd ["_law_pen"] (spN K WParts) := by
  refine defN F scParts (fun n ds Φ ⟨e, _⟩ => by rw [e]; rfl) (by decide) fun cdv A outer s H E hr hg => ?_
  refine ⟨_, pss_cons (ps_set (i := 1) scParts.nd rfl (Or.inl rfl) (pe_lst (pa_cons (pe_callG gDraw hr hg (by rfl) dDraw.g dDraw.F.kp dDraw.b .nil pass0 (pa_cons (pv 0) (pa_cons pe_int pa_nil))) (pa_cons (pe_callG gPick hr hg (by rfl) dPick.g dPick.F.kp dPick.b .nil pass0 (pa_cons (pv 0) (pa_cons (pe_lst (pa_cons pe_str (pa_cons pe_str (pa_cons pe_str (pa_cons pe_str pa_nil))))) pa_nil))) pa_nil))))
    <| pss_one (ps_ret (pe_op op_catL (pv 1) (pe_lst (pa_cons (pe_callG gPick hr hg (by rfl) dPick.g dPick.F.kp dPick.b .nil pass0 (pa_cons (pv 0) (pa_cons (pe_lst (pa_cons pe_str (pa_cons pe_str pa_nil))) pa_nil))) (pa_cons (pe_callG gDraw hr hg (by rfl) dDraw.g dDraw.F.kp dDraw.b .nil pass0 (pa_cons (pv 0) (pa_cons pe_int pa_nil))) (pa_cons (pe_callG gLane hr hg (by rfl) dLane.g dLane.F.kp dLane.b .nil pass0 (pa_cons (pv 0) pa_nil)) pa_nil)))))), ?_⟩
  rintro n ds Φ ⟨rfl, hn, q⟩
  show Ws K _ [.pen n, .any] _
  refine ws_seq <| ws_asg (pf := false) <| w_lst <| wa_cons <| w_callN (i := 0) rfl <| wa_cons <| w_c (fun _ => .int _) <| wa_nil ⟨n, rfl, 3, rfl, by decide, by decide, by omega, fun kk hk => wa_cons <| w_callN (i := 0) rfl <| wa_cons <| w_lst <| wa_cons <| w_c (fun _ => .str _) <| wa_cons <| w_c (fun _ => .str _) <| wa_cons <| w_c (fun _ => .str _) <| wa_cons <| w_c (fun _ => .str _) <| wa_nil ⟨by show 4 ≤ 100000; decide, wa_nil ⟨n + 1, rfl, _, _, rfl, rfl, by decide, by decide, by omega, fun x hx => wa_nil ⟨by show 2 ≤ 100000; decide, ?_⟩⟩⟩⟩
  obtain ⟨o, ho, rfl⟩ := List.mem_map.mp (show x ∈ ons.map Dt.str from hx)
  show Ws K _ [.pen (n + 1 + 1), .dat (.lst [.int (kk : Nat), .str o])] _
  refine ws_ret (pf := false) <| w_op <| w_var (d := .lst [.int (kk : Nat), .str o]) rfl <| w_lst <| wa_cons <| w_callN (i := 0) rfl <| wa_cons <| w_lst <| wa_cons <| w_c (fun _ => .str _) <| wa_cons <| w_c (fun _ => .str _) <| wa_nil ⟨by show 2 ≤ 100000; decide, wa_nil ⟨n + 1 + 1, rfl, _, _, rfl, rfl, by decide, by decide, by omega, fun y hy => wa_cons <| w_callN (i := 0) rfl <| wa_cons <| w_c (fun _ => .int _) <| wa_nil ⟨n + 1 + 1 + 1, rfl, 2, rfl, by decide, by decide, by omega, fun g hg2 => wa_cons <| w_callN (i := 0) rfl <| wa_nil ⟨n + 1 + 1 + 1 + 1, rfl, rfl, by omega, fun l l1 l2 l3 => wa_nil ⟨by show 3 ≤ 100000; decide, od_cat (by show 2 + 3 ≤ 100000; decide) ?_⟩⟩⟩⟩⟩
  obtain ⟨v, hv, rfl⟩ := List.mem_map.mp (show y ∈ ows.map Dt.str from List.mem_append_left [Dt.str "b"] hy)
  exact ⟨n + 20, _, rfl, .pen (by omega), q ⟨kk, o, v, g, l⟩ ⟨by show kk < 3; omega, ho, hv, by show (g : Int) = 0 ∨ (g : Int) = 1; omega, l1, l2, l3⟩⟩
/-! ### _law_due_mark -/
def WDueM : List Dt → (Dt → Prop) → Prop := fun ds Φ => ∃ (r : R) (m : Dt) (b0 b1 b2 : Bool) (h : Dt), ds = [r.row, m, .lst [.bl b0, .bl b1, .bl b2], h] ∧ r.k < 3 ∧ Φ (handD r.k m h b0 b1 b2)
theorem ok_dueMark (F : Fun K "_law_due_mark" "_law_due_mark" sDueMark f fd) : FnOk P w K mg base CX0 1 f fd ["_law_some", "_law_mark", "_law_flags", "_law_keeping"] (spP K WDueM) := by
  refine defP0 F scDueMark (fun ds Φ ⟨r, m, b0, b1, b2, h, e, _⟩ => by rw [e]; rfl) (by decide) fun cdv A outer s H E hr => ?_
  refine ⟨_, pss_cons (ps_if (PW.pt (pw_or (pt_val (pe_ix (ixK K rfl) (pv 2) pe_int (fun _ _ => rfl))) (pw_or1 (PW.pt (pw_and (pt_cmpR op_gt (pe_ix (ixK K rfl) (pv 0) pe_int (fun _ _ => rfl)) pe_int (nomark _)) (pw_and1 (pt_val (pe_ix (ixK K rfl) (pv 2) pe_int (fun _ _ => rfl)))))))))
    (pss_one (ps_ret pe_str))
    pss_nil)
    <| pss_cons (ps_if (PW.pt (pw_or (pt_cmpR op_eq (pe_ix (ixK K rfl) (pv 0) pe_int (fun _ _ => rfl)) pe_int (nomark _)) (pw_or1 (pt_not (pt_val (pe_ix (ixK K rfl) (pv 2) pe_int (fun _ _ => rfl)))))))
    (pss_one (ps_ret (pv 1)))
    pss_nil)
    <| pss_one (ps_ret (pe_ifExp (pt_cmpR op_eq (pe_ix (ixK K rfl) (pv 0) pe_int (fun _ _ => rfl)) pe_int (nomark _)) pe_str (pv 3))), ?_⟩
  rintro ds Φ ⟨r, m, b0, b1, b2, h, rfl, hk, q⟩
  obtain ⟨k, o, w, g, l⟩ := r
  have q : Φ (handD k m h b0 b1 b2) := q
  have hk : k < 3 := hk
  generalize hrow : R.row ⟨k, o, w, g, l⟩ = row
  have row_eq : row = .lst [.int (k : Nat), .str o, .str w, .int g, lD l] := hrow.symm
  have s1 : seqD row = some [.int (k : Nat), .str o, .str w, .int g, lD l] := by rw [row_eq]; rfl
  have s2 : seqD (.lst [.bl b0, .bl b1, .bl b2]) = some [.bl b0, .bl b1, .bl b2] := rfl
  generalize hfl : Dt.lst [.bl b0, .bl b1, .bl b2] = fl at s2
  show Ws K _ [.dat row, .dat m, .dat fl, .dat h] _
  have last' : (if (decide (k = 0) || !b2) = true then m else if k = 1 then .str "clean" else h) = handD k m h b0 b1 b2 → Ws K (tSeq (tIfS (tOr (tTest (tOp rEq (tOp (rIx K) (tVar 0) (tC (V.int 0))) (tC (V.int 0)))) (tNot (tB (tOp (rIx K) (tVar 2) (tC (V.int 2)))))) (tRet (tVar 1)) tNext) (tRet (tIf (tTest (tOp rEq (tOp (rIx K) (tVar 0) (tC (V.int 0))) (tC (V.int 1)))) (tC (V.str "clean")) (tVar 3)))) [.dat row, .dat m, .dat fl, .dat h] { nx := fun _ => Φ .non, rt := fun d _ => Φ d } := fun e => by
    rw [← e] at q
    have rest : (if k = 1 then .str "clean" else h) = (if (decide (k = 0) || !b2) = true then m else if k = 1 then .str "clean" else h) → Ws K (tRet (tIf (tTest (tOp rEq (tOp (rIx K) (tVar 0) (tC (V.int 0))) (tC (V.int 1)))) (tC (V.str "clean")) (tVar 3))) [.dat row, .dat m, .dat fl, .dat h] { nx := fun _ => Φ .non, rt := fun d _ => Φ d } := fun e2 => by
      rw [← e2] at q
      refine ws_ret (pf := true) <| w_if <| wt_test <| w_op <| w_op <| w_var rfl <| w_c (fun _ => .int 0) <| od_ix s1 (d := .int (k : Nat)) rfl <| w_c (fun _ => .int 1) <| od_eqi ⟨_, rfl, ?_⟩
      by_cases e1 : k = 1
      · rw [decide_eq_true (show ((k : Nat) : Int) = 1 by omega)]
        rw [if_pos e1] at q
        exact ifT <| w_c (fun _ => .str _) q
      · rw [decide_eq_false (show ¬ ((k : Nat) : Int) = 1 by omega)]
        rw [if_neg e1] at q
        exact ifF <| w_var rfl q
    refine ws_seq <| ws_if (pf := true) <| wt_or <| wt_test <| w_op <| w_op <| w_var rfl <| w_c (fun _ => .int 0) <| od_ix s1 (d := .int (k : Nat)) rfl <| w_c (fun _ => .int 0) <| od_eqi ⟨_, rfl, ?_⟩
    by_cases e0 : k = 0
    · rw [decide_eq_true (show ((k : Nat) : Int) = 0 by omega)]
      rw [decide_eq_true e0, Bool.true_or, if_pos rfl] at q
      exact ifT <| ifT <| ws_ret (pf := true) <| w_var rfl q
    · rw [decide_eq_false (show ¬ ((k : Nat) : Int) = 0 by omega)]
      rw [decide_eq_false e0, Bool.false_or] at q rest
      refine ifF <| wt_not <| wt_B <| w_op <| w_var rfl <| w_c (fun _ => .int 2) <| od_ix s2 (d := .bl b2) rfl ⟨_, rfl, ?_⟩
      cases b2 with
      | true => exact ifF <| ws_next <| rest rfl
      | false => exact ifT <| ws_ret (pf := true) <| w_var rfl q
  refine ws_seq <| ws_if (pf := true) <| wt_or <| wt_B <| w_op <| w_var rfl <| w_c (fun _ => .int 0) <| od_ix s2 (d := .bl b0) rfl ⟨_, rfl, ?_⟩
  unfold handD at q last'
  cases b0 with
  | true => exact ifT <| ifT <| ws_ret (pf := true) <| w_c (fun _ => .str _) q
  | false =>
    rw [Bool.false_or] at q last'
    refine ifF <| wt_and <| wt_test <| w_op <| w_op <| w_var rfl <| w_c (fun _ => .int 0) <| od_ix s1 (d := .int (k : Nat)) rfl <| w_c (fun _ => .int 0) <| od_I0b ⟨_, rfl, ?_⟩
    by_cases e0 : 0 < k
    · rw [decide_eq_true (show (0 : Int) < ((k : Nat) : Int) by omega)]
      rw [decide_eq_true e0, Bool.true_and] at q last'
      refine ifT <| wt_B <| w_op <| w_var rfl <| w_c (fun _ => .int 1) <| od_ix s2 (d := .bl b1) rfl ⟨_, rfl, ?_⟩
      cases b1 with
      | true => exact ifT <| ws_ret (pf := true) <| w_c (fun _ => .str _) q
      | false => exact ifF <| ws_next <| last' rfl
    · rw [decide_eq_false (show ¬ (0 : Int) < ((k : Nat) : Int) by omega)]
      rw [decide_eq_false e0, Bool.false_and] at q last'
      exact ifF <| ifF <| ws_next <| last' rfl
/-! ### _law_hands_right -/
def mks : List Str := ["clean", "older", "dust"]
theorem hand_str (k : Nat) (m h : Str) (b0 b1 b2 : Bool) : ∃ y, handD k (.str m) (.str h) b0 b1 b2 = .str y := by
  unfold handD
  split
  · exact ⟨_, rfl⟩
  · split
    · exact ⟨_, rfl⟩
    · split
      · exact ⟨_, rfl⟩
      · exact ⟨_, rfl⟩
def fl0 (j : Int) : Bool := decide (j % 2 = 1)
def fl1 (j : Int) : Bool := decide (j / 2 % 2 = 1)
def fl2 (j : Int) : Bool := decide (j / 4 = 1)
def WHR (c : Nat → Addr) : Nat → List Dt → (Dt → Nat → Prop) → Prop := fun n ds Φ => ∃ a r, ds = [R.row r, R.st c a r] ∧ r.k < 3 ∧ n < 900000 ∧ Φ (.bl true) (n + 16)
theorem ok_hands (F : Fun K "_law_hands_right" "_law_hands_right" sHandsRight f fd) (B : Bt mg) (T : IsT K mg c cS) (G : ∀ k, k < 3 → HandOf K c k) (dPick : DF K mg "_law_pick" sPick ["_law_pen", "_law_some"]) (gPick : FnG P w K mg base CX0 k dPick.f dPick.fd ["_law_pen", "_law_some"] (spN K WPick))
    (dDueMark : DF K mg "_law_due_mark" sDueMark ["_law_some", "_law_mark", "_law_flags", "_law_keeping"]) (gDueMark : FnG P w K mg base CX0 k dDueMark.f dDueMark.fd ["_law_some", "_law_mark", "_law_flags", "_law_keeping"] (spP K WDueM)) (hk1 : 1 ≤ k) :
    FnG P w K mg base CX0 (k + 1) f fd ["_law_pen", "_law_some", "_law_station"] (spN K (WHR c)) := by
  refine defN F scHandsRight (fun n ds Φ ⟨a, r, e, _⟩ => by rw [e]; rfl) (by decide) fun cdv A outer s H E hr hg => ?_
  have hr1 := hr.mono hk1
  refine ⟨_, pss_cons (ps_for PassesOwn.never rfl (pi_range1 (by rfl) B.range (pa_cons pe_int pa_nil)) (pg_name (i := 3) scHandsRight.nd rfl (Or.inl rfl))
    (pss_cons (ps_set (i := 4) scHandsRight.nd rfl (Or.inl rfl) (pe_lst (pa_cons (pe_cmpR op_eq (pe_op op_mod (pv 3) pe_int) pe_int (nomark _)) (pa_cons (pe_cmpR op_eq (pe_op op_mod (pe_op op_fdiv (pv 3) pe_int) pe_int) pe_int (nomark _)) (pa_cons (pe_cmpR op_eq (pe_op op_fdiv (pv 3) pe_int) pe_int (nomark _)) pa_nil)))))
      <| pss_cons (ps_set (i := 5) scHandsRight.nd rfl (Or.inl rfl) (pe_callG gPick hr hg (by rfl) dPick.g dPick.F.kp dPick.b .nil pass0 (pa_cons (pv 0) (pa_cons (pe_lst (pa_cons pe_str (pa_cons pe_str (pa_cons pe_str pa_nil)))) pa_nil))))
      <| pss_cons (ps_set (i := 6) scHandsRight.nd rfl (Or.inl rfl) (pe_ifExp (pt_val (pe_ix (ixK K rfl) (pv 4) pe_int (fun _ _ => rfl))) (pe_callG gPick hr hg (by rfl) dPick.g dPick.F.kp dPick.b .nil pass0 (pa_cons (pv 0) (pa_cons (pe_lst (pa_cons pe_str (pa_cons pe_str (pa_cons pe_str pa_nil)))) pa_nil))) pe_str))
      <| pss_cons (ps_set (i := 7) scHandsRight.nd rfl (Or.inl rfl) (pe_hand3 G T.kd rfl hr1 (pv 2) (pa_cons (pv 5) pa_nil) (pk_cons (pe_ix (ixK K rfl) (pv 4) pe_int (fun _ _ => rfl)) (pk_cons (pe_ix (ixK K rfl) (pv 4) pe_int (fun _ _ => rfl)) (pk_cons (pe_ix (ixK K rfl) (pv 4) pe_int (fun _ _ => rfl)) (pk_cons (pv 6) pk_nil))))))
      <| pss_one (ps_if (pt_cmpR op_ne (pv 7) (pe_callG gDueMark hr hg (by rfl) dDueMark.g dDueMark.F.kp dDueMark.b .nil pass0 (pa_cons (pv 1) (pa_cons (pv 5) (pa_cons (pv 4) (pa_cons (pv 6) pa_nil))))) (nomark _))
      (pss_one (ps_ret pe_bl))
      pss_nil)))
    <| pss_one (ps_ret pe_bl), ?_⟩
  rintro n ds Φ ⟨a, r, rfl, hk, hn, q⟩
  show Ws K _ [.pen n, .dat r.row, .dat (r.st c a), .any, .any, .any, .any, .any] _
  refine ws_seqI (fun ρ' => ∃ n', n' ≤ n + 16 ∧ ρ' = [.pen n', .dat r.row, .dat (r.st c a), .any, .any, .any, .any, .any]) ?_ ?_
  · refine ws_for (js := [3]) (fun _ i ρ' => ∃ n', i ≤ 8 ∧ n' ≤ n + 2 * i ∧ ρ' = [.pen n', .dat r.row, .dat (r.st c a), .any, .any, .any, .any, .any]) <| wi_rng1 (pf := false) <| wa_cons <| w_c (fun _ => .int _) <| wa_nil ⟨8, rfl, by decide, by decide, ⟨n, by decide, by omega, rfl⟩, ?_, ?_⟩
    · rintro i d ρ2 hd ⟨n', hi, hn', rfl⟩
      have hi2 : i < 8 := by have := (List.getElem?_eq_some_iff.mp hd).1; rw [rangeD_len] at this; exact this
      have hd := Option.some.inj (hd.symm.trans (rangeD_at (lo := 0) (n := 8) hi2))
      generalize hj : (0 : Int) + (i : Nat) = j at hd
      subst hd
      refine wg_name ?_
      show Ws K _ [.pen n', .dat r.row, .dat (r.st c a), .dat (.int j), .any, .any, .any, .any] _
      refine ws_seq <| ws_asg (pf := true) <| w_lst <| wa_cons <| w_op <| w_op <| w_var (d := .int j) rfl <| w_c (fun _ => .int 2) <| od_I (by show (0 : Int) < _; decide) <| w_c (fun _ => .int 1) <| od_eqi <| wa_cons <| w_op <| w_op <| w_op <| w_var (d := .int j) rfl <| w_c (fun _ => .int 2) <| od_I ⟨by decide, by decide⟩ <| w_c (fun _ => .int 2) <| od_I (by show (0 : Int) < _; decide) <| w_c (fun _ => .int 1) <| od_eqi <| wa_cons <| w_op <| w_op <| w_var (d := .int j) rfl <| w_c (fun _ => .int 4) <| od_I ⟨by decide, by decide⟩ <| w_c (fun _ => .int 1) <| od_eqi <| wa_nil ⟨by show 3 ≤ 100000; decide, ?_⟩
      show Ws K _ [.pen n', .dat r.row, .dat (r.st c a), .dat (.int j), .dat (.lst [.bl (fl0 j), .bl (fl1 j), .bl (fl2 j)]), .any, .any, .any] _
      generalize fl0 j = b0
      generalize fl1 j = b1
      generalize fl2 j = b2
      have pick3 : ∀ {Φ' : Dt → Nat → Prop} {n2 : Nat}, n2 < 1000000 → (∀ z, Φ' (.str z) (n2 + 1)) → WPick n2 [.lst [.str "clean", .str "older", .str "dust"]] Φ' := fun h1 h2 => ⟨_, _, rfl, rfl, by decide, by decide, h1, fun x hx => by
        obtain ⟨m, _, rfl⟩ := List.mem_map.mp (show x ∈ mks.map Dt.str from hx)
        exact h2 m⟩
      refine ws_seq <| ws_asg (pf := false) <| w_callN (i := 0) rfl <| wa_cons <| w_lst <| wa_cons <| w_c (fun _ => .str _) <| wa_cons <| w_c (fun _ => .str _) <| wa_cons <| w_c (fun _ => .str _) <| wa_nil ⟨by show 3 ≤ 100000; decide, wa_nil ⟨n', rfl, pick3 (by omega) fun m => ?_⟩⟩
      show Ws K _ [.pen (n' + 1), .dat r.row, .dat (r.st c a), .dat (.int j), .dat (.lst [.bl b0, .bl b1, .bl b2]), .dat (.str m), .any, .any] _
      refine ws_seqI (fun ρ' => ∃ n2 z, n2 ≤ n' + 2 ∧ ρ' = [.pen n2, .dat r.row, .dat (r.st c a), .dat (.int j), .dat (.lst [.bl b0, .bl b1, .bl b2]), .dat (.str m), .dat (.str z), .any]) ?_ ?_
      · refine ws_asg (pf := false) <| w_if <| wt_B <| w_op <| w_var (d := .lst [.bl b0, .bl b1, .bl b2]) rfl <| w_c (fun _ => .int 2) <| od_ix rfl (d := .bl b2) rfl ⟨b2, rfl, ?_⟩
        cases b2 with
        | true => exact ifT <| w_callN (i := 0) rfl <| wa_cons <| w_lst <| wa_cons <| w_c (fun _ => .str _) <| wa_cons <| w_c (fun _ => .str _) <| wa_cons <| w_c (fun _ => .str _) <| wa_nil ⟨by show 3 ≤ 100000; decide, wa_nil ⟨n' + 1, rfl, pick3 (by omega) fun m2 => ⟨_, m2, Nat.le_refl _, rfl⟩⟩⟩
        | false => exact ifF <| w_c (fun _ => .str _) ⟨_, _, Nat.le_succ _, rfl⟩
      · rintro ρ' ⟨n2, z, hn2, rfl⟩
        refine ws_seq <| ws_asg (pf := true) <| w_hand3 r hk <| w_var (d := r.st c a) rfl ⟨⟨a, rfl⟩, wa_cons <| w_var (d := .str m) rfl <| wa_nil <| wa_cons <| w_op <| w_var (d := .lst [.bl b0, .bl b1, .bl b2]) rfl <| w_c (fun _ => .int 0) <| od_ix rfl (d := .bl b0) rfl <| wa_cons <| w_op <| w_var (d := .lst [.bl b0, .bl b1, .bl b2]) rfl <| w_c (fun _ => .int 1) <| od_ix rfl (d := .bl b1) rfl <| wa_cons <| w_op <| w_var (d := .lst [.bl b0, .bl b1, .bl b2]) rfl <| w_c (fun _ => .int 2) <| od_ix rfl (d := .bl b2) rfl <| wa_cons <| w_var (d := .str z) rfl <| wa_nil ⟨_, _, _, _, _, rfl, rfl, ?_⟩⟩
        obtain ⟨y, hy⟩ := hand_str r.k m z b0 b1 b2
        rw [hy]
        show Ws K _ [.pen n2, .dat r.row, .dat (r.st c a), .dat (.int j), .dat (.lst [.bl b0, .bl b1, .bl b2]), .dat (.str m), .dat (.str z), .dat (.str y)] _
        refine ws_wk <| ws_if (pf := true) <| wt_test <| w_op <| w_var (d := .str y) rfl <| w_call0 <| wa_cons <| w_var (d := r.row) rfl <| wa_cons <| w_var (d := .str m) rfl <| wa_cons <| w_var (d := .lst [.bl b0, .bl b1, .bl b2]) rfl <| wa_cons <| w_var (d := .str z) rfl <| wa_nil ⟨r, _, b0, b1, b2, _, rfl, hk, ?_⟩
        rw [hy]
        refine od_nes ⟨_, rfl, ?_⟩
        rw [decide_eq_true rfl]
        exact ifF <| ws_next ⟨_, .keep <| .keep <| .keep <| .drop <| .drop <| .drop <| .drop <| .drop .nil, n2, by omega, by omega, rfl⟩
    · rintro ρ2 ⟨n', hi, hn', rfl⟩
      exact ⟨n', by omega, rfl⟩
  · rintro ρ' ⟨n', hn', rfl⟩
    exact ws_ret (pf := true) <| w_c (fun _ => .bl true) ⟨n + 16, _, rfl, .pen hn', q⟩
end
end K05

namespace K05
open PySem PySem.Spec PyProof.Rows L2 DL
abbrev sPropsRight : Stmt := topS 34
abbrev NPr : List Str := ["_law_pen", "_law_some", "_law_station", "_law_gone", "_law_up", "_law_due", "_law_told", "_law_k"]
theorem scPropsRight : FnScope NPr ["_law_pen", "_law_some", "_law_station"] (defScope sPropsRight) := ⟨rfl, rfl, rfl, by decide +kernel, rfl, by decide +kernel, by decide +kernel⟩
/-! ### propped, called -/
abbrev pPr : List Str := ["self", "on", "line"]
abbrev kPr : List Str := ["on", "line"]
structure PrOf (K : PySem.W.Frag) (mg : Str → Option Value) (c e : Nat → Addr) (k : Nat) : Prop where
  ex : ∃ (f : Addr) (fd : FuncData) (g : List Value → List Value → List Value) (ds : List Value), Meth K (c k) "propped" f ∧ KBn K fd pPr 1 kPr g gApp ∧ Vals [.bl false, .ref (e k)] ds ∧ Binds K fd pPr ds ∧ ∀ (P : Program) (w : World) (base : Heap), FnOk P w K mg base CX0 8 f fd pPr (spP K (WProp c k))
  em : ∀ H, DX K H (.ref (e k)) (.tup [])
def tPrK (K : PySem.W.Frag) (c : Nat → Addr) (ta : TE) (tk : TA) (k : Nat) : TE := tMethK (c k) "propped" 0 2 (spP K (WProp c k)) gApp E0 ta tNil tk
def tPrD (K : PySem.W.Frag) (c e : Nat → Addr) (ta : TE) (k : Nat) : TE := tMeth (c k) "propped" (spP K (WProp c k)) [.bl false, .ref (e k)] E0 ta tNil
def tOr3 (t : Nat → TE) : TE := tOr2 (t 0) (tOr2 (t 1) (t 2))
theorem w_or3 {K : PySem.W.Frag} {pf : Bool} {t : Nat → TE} {k : Nat} (hk : k < 3) {ρ : List Sl} {Φ : Dt → List Sl → Prop} (h : Wp K pf (t k) ρ Φ) : Wp K pf (tOr3 t) ρ Φ := by
  match k, hk with
  | 0, _ => exact w_or1 h
  | 1, _ => exact w_or2 (w_or1 h)
  | 2, _ => exact w_or2 (w_or2 h)
section
variable {K : PySem.W.Frag} {mg : Str → Option Value} {c e : Nat → Addr} {k : Nat} {X : Cx} {o : Expr} {kws : List Keyword} {apos pos : Pos} {ta : TE} {tk : TA}
theorem PrOf.peK {pl : Sem Bool} (G : PrOf K mg c e k) (T : Kd K c k) (hK : X.K = K) (hm : X.mg = mg) (hr : Room 8 X.A) (hx : Passes CX0 X E0) (he : PE X o ta) (hkw : PK X kws tk)
    (hall : (backToKw pos (keywordEach kws X.env)).all (·.1.isSome) = true) (hks : (backToKw pos (keywordEach kws X.env)).filterMap (·.1) = kPr)
    (hpl : ((backTo pos (starEach [] X.env)).any (·.1) || (backToKw pos (keywordEach kws X.env)).any (·.1.isNone)) = false)
    (ht : eval (.Call (.Attribute o "propped" apos) [] kws pos) X.env = (do
      let ov ← eval o X.env
      standAt apos.atName
      let (f, first) ← holding [ov] (getMethod ov "propped" pl)
      callWith pos f first (backTo pos (starEach [] X.env)) (backToKw pos (keywordEach kws X.env)))) : PE X (.Call (.Attribute o "propped" apos) [] kws pos) (tPrK K c ta tk k) := by
  subst hK hm
  obtain ⟨f, fd, g, ds, h1, h2, h3, h4, F⟩ := G.ex
  exact pe_methK0 he T.isi.cl h1 (F _ _ _) hr h2 hx hkw hall hks hpl ht
theorem pe_prK3 {pl : Sem Bool} (G : ∀ k, k < 3 → PrOf K mg c e k) (T : ∀ k, k < 3 → Kd K c k) (hK : X.K = K) (hm : X.mg = mg) (hr : Room 8 X.A) (hx : Passes CX0 X E0) (he : PE X o ta) (hkw : PK X kws tk)
    (hall : (backToKw pos (keywordEach kws X.env)).all (·.1.isSome) = true := by rfl) (hks : (backToKw pos (keywordEach kws X.env)).filterMap (·.1) = kPr := by rfl)
    (hpl : ((backTo pos (starEach [] X.env)).any (·.1) || (backToKw pos (keywordEach kws X.env)).any (·.1.isNone)) = false := by rfl)
    (ht : eval (.Call (.Attribute o "propped" apos) [] kws pos) X.env = (do
      let ov ← eval o X.env
      standAt apos.atName
      let (f, first) ← holding [ov] (getMethod ov "propped" pl)
      callWith pos f first (backTo pos (starEach [] X.env)) (backToKw pos (keywordEach kws X.env))) := by rfl) : PE X (.Call (.Attribute o "propped" apos) [] kws pos) (tOr3 (tPrK K c ta tk)) :=
  pe_or2 ((G 0 (by decide)).peK (T 0 (by decide)) hK hm hr hx he hkw hall hks hpl ht) (pe_or2 ((G 1 (by decide)).peK (T 1 (by decide)) hK hm hr hx he hkw hall hks hpl ht) ((G 2 (by decide)).peK (T 2 (by decide)) hK hm hr hx he hkw hall hks hpl ht))
theorem PrOf.peD {pl : Sem Bool} (G : PrOf K mg c e k) (T : Kd K c k) (hK : X.K = K) (hm : X.mg = mg) (hr : Room 8 X.A) (hx : Passes CX0 X E0) (he : PE X o ta)
    (ht : eval (.Call (.Attribute o "propped" apos) [] [] pos) X.env = (do
      let ov ← eval o X.env
      standAt apos.atName
      let (f, first) ← holding [ov] (getMethod ov "propped" pl)
      callWith pos f first (backTo pos (starEach [] X.env)) (backToKw pos (keywordEach [] X.env)))) : PE X (.Call (.Attribute o "propped" apos) [] [] pos) (tPrD K c e ta k) := by
  subst hK hm
  obtain ⟨f, fd, g, ds, h1, h2, h3, h4, F⟩ := G.ex
  exact pe_meth0 he T.isi.cl h1 (F _ _ _) hr h4 h3 hx ht
theorem pe_prD3 {pl : Sem Bool} (G : ∀ k, k < 3 → PrOf K mg c e k) (T : ∀ k, k < 3 → Kd K c k) (hK : X.K = K) (hm : X.mg = mg) (hr : Room 8 X.A) (hx : Passes CX0 X E0) (he : PE X o ta)
    (ht : eval (.Call (.Attribute o "propped" apos) [] [] pos) X.env = (do
      let ov ← eval o X.env
      standAt apos.atName
      let (f, first) ← holding [ov] (getMethod ov "propped" pl)
      callWith pos f first (backTo pos (starEach [] X.env)) (backToKw pos (keywordEach [] X.env))) := by rfl) : PE X (.Call (.Attribute o "propped" apos) [] [] pos) (tOr3 (tPrD K c e ta)) :=
  pe_or2 ((G 0 (by decide)).peD (T 0 (by decide)) hK hm hr hx he ht) (pe_or2 ((G 1 (by decide)).peD (T 1 (by decide)) hK hm hr hx he ht) ((G 2 (by decide)).peD (T 2 (by decide)) hK hm hr hx he ht))
variable {pf : Bool} {ρ : List Sl} {Φ : Dt → List Sl → Prop}
theorem w_prK3 (r : R) (ok : r.Ok) (h : Wp K pf ta ρ fun d ρ1 => (∃ a, d = r.st c a) ∧ Wa K pf tk ρ1 fun es ρ2 => ∃ up js, es = [.bl up, .tup (js.map Dt.int)] ∧ ∀ a, Φ ((r.prop up js).st c a) ρ2) : Wp K pf (tOr3 (tPrK K c ta tk)) ρ Φ :=
  w_or3 ok.k (w_methK (gD := consD) consD_ok (h.imp fun d ρ1 ⟨⟨a, e⟩, q⟩ => ⟨a, _, _, e, fld_no (by decide), wa_nil fun M σ H S Q q2 => q M σ H S Q fun ws H3 fs ρ3 s3 S3 x3 ⟨up, js, e1, f⟩ => by
    subst e1
    exact q2 ws H3 _ ρ3 s3 S3 x3 ⟨rfl, rfl, a, r, up, js, rfl, rfl, ok, f⟩⟩))
theorem w_prD3 (G : ∀ k, k < 3 → PrOf K mg c e k) (r : R) (ok : r.Ok) (h : Wp K pf ta ρ fun d ρ1 => (∃ a, d = r.st c a) ∧ ∀ a, Φ (r.st c a) ρ1) : Wp K pf (tOr3 (tPrD K c e ta)) ρ Φ :=
  w_or3 ok.k (w_meth (des := [.bl false, .tup []]) (fun H => .cons (.bl _) (.one ((G _ ok.k).em H))) (h.imp fun d ρ1 ⟨⟨a, e⟩, q⟩ => ⟨a, _, _, e, fld_no (by decide), wa_nil ⟨a, r, false, [], rfl, rfl, ok, fun b => by rw [R.prop_no]; exact q b⟩⟩))
end
/-! ### what is shown -/
theorem names_256 : ∀ x ∈ ons ++ ows ++ lets, (x.cps.toList.all fun c => decide (c < 256)) = true ∧ x.length ≤ 10 := by decide +kernel
theorem sh_name {x : Str} (h : x ∈ ons ++ ows ++ lets) : Sh 0 11 (.str x) := Sh.str (names_256 x h).1 (names_256 x h).2
theorem R.Ok.sho {r : R} (h : r.Ok) : Sh 0 11 (.str r.o) := sh_name (List.mem_append_left _ (List.mem_append_left _ h.o))
theorem R.Ok.shw {r : R} (h : r.Ok) : Sh 0 11 (.str r.w) := sh_name (List.mem_append_left _ (List.mem_append_right _ h.w))
theorem R.Ok.shl {r : R} (h : r.Ok) : Sh 1 100 (lD r.l) := by
  refine (Sh.tup (ShL.all (n := 0) (a := 11) fun d hd => ?_)).mono (Nat.le_refl _) ?_
  · obtain ⟨x, hx, rfl⟩ := List.mem_map.mp hd
    exact sh_name (List.mem_append_right _ (h.ls x hx))
  · rw [List.length_map]
    have := h.ll
    omega
theorem R.Ok.shg {r : R} (h : r.Ok) : Sh 0 4 (.int r.g) := by
  rcases h.g with e | e <;> rw [e] <;> exact Sh.int (by decide) (by decide) (by decide)
theorem fit_due {r : R} (h : r.Ok) : Fit (.lst (dueL r)) := by
  have z1 : ∀ b, Sh 1 100 (.bl b) := fun b => (Sh.bl b).mono (by decide) (by decide)
  have z2 : Sh 1 100 .non := Sh.non.mono (by decide) (by decide)
  have z3 := h.sho.mono (show 0 ≤ 1 by decide) (show 11 ≤ 100 by decide)
  have z4 := h.shw.mono (show 0 ≤ 1 by decide) (show 11 ≤ 100 by decide)
  have z5 : Sh 1 100 (if r.k = 1 then .int r.g else .non) := by
    split
    · exact h.shg.mono (by decide) (by decide)
    · exact z2
  have z6 : Sh 1 100 (.tup []) := (Sh.tup ShL.nil).mono (by decide) (by decide)
  have all : ∀ d ∈ dueL r, Sh 1 100 d := by
    intro d hd
    unfold dueL at hd
    split at hd
    · simp only [List.mem_cons, List.not_mem_nil, or_false] at hd
      rcases hd with e | e | e | e | e | e | e | e <;> subst e <;> first | exact z1 _ | exact z2 | exact z3 | exact z6
    · simp only [List.mem_cons, List.not_mem_nil, or_false] at hd
      rcases hd with e | e | e | e | e | e | e | e <;> subst e <;> first | exact z1 _ | exact z3 | exact z4 | exact z5 | exact h.shl
  have hl : (dueL r).length = 8 := by unfold dueL; split <;> rfl
  have := Sh.lst (ShL.all (ds := dueL r) all)
  exact this.fit (by decide) (by rw [hl]; decide)
/-! ### _law_props_right -/
def nmD (l : List Str) : Dt → Dt
  | .int i => .str (l.getD i.toNat "")
  | d => d
theorem range_left (l : List Str) (js : List Int) : (((rangeD 0 l.length).filter fun d => !inI d js).map (nmD l)) = (leftS l js).map Dt.str := by
  unfold rangeD leftS
  rw [List.filter_map, List.map_map, List.map_map]
  have e : ((fun d => !inI d js) ∘ fun (i : Nat) => Dt.int (0 + (i : Int))) = fun (i : Nat) => !inV (.int (i : Int)) (js.map V.int) := by
    funext i
    show (!inI (Dt.int (0 + (i : Int))) js) = _
    rw [Int.zero_add]
    rfl
  rw [e]
  refine List.map_congr_left fun i _ => ?_
  show Dt.str (l.getD (0 + (i : Int)).toNat "") = Dt.str (l.getD i "")
  rw [Int.zero_add, Int.toNat_natCast]
def WPR (c : Nat → Addr) : Nat → List Dt → (Dt → Nat → Prop) → Prop := fun n ds Φ => ∃ a r, ds = [R.row r, R.st c a r] ∧ r.Ok ∧ n < 900000 ∧ Φ (.bl true) (n + 10)
section
variable {P : Program} {w : World} {K : PySem.W.Frag} {mg : Str → Option Value} {base : Heap} {c e : Nat → Addr} {cI cS : Addr} {f : Addr} {fd : FuncData}
theorem w_made {cI : Addr} {pf : Bool} {ρ : List Sl} {ta : TE} {Φ : Dt → List Sl → Prop} (r : R) (ok : r.Ok) (h : Wp K pf ta ρ fun d ρ1 => d = r.row ∧ ∀ a, Φ (r.st c a) ρ1) : Wp K pf (tCall (spX K (WMade c cI)) [] E0 (tCons ta tNil)) ρ Φ :=
  w_callX0 <| wa_cons <| h.imp fun d ρ1 ⟨e, q⟩ => wa_nil ⟨r.k, .str r.o, .str r.w, .int r.g, lD r.l, by rw [e]; rfl, ok.k, ok.gd, fun _ a => q a, fun z hz => by rw [ok.fault] at hz; cases hz⟩
theorem ok_props (F : Fun K "_law_props_right" "_law_props_right" sPropsRight f fd) (B : Bt mg) (E4 : EqT K mg c cS) (G : ∀ k, k < 3 → PrOf K mg c e k) (dDraw : DF K mg "_law_draw" sDraw ["_law_pen", "_law_many"]) (gDraw : FnG P w K mg base CX0 9 dDraw.f dDraw.fd ["_law_pen", "_law_many"] (spN K WDraw))
    (dMade : DF K mg "_law_made" sMade ["_law_some"]) (gMade : FnOk P w K mg base (L2.CX P w) 8 dMade.f dMade.fd ["_law_some"] (spX K (WMade c cI)))
    (dShown : DF K mg "_law_shown" sShown ["_law_station"]) (gShown : FnG P w K mg base CX0 9 dShown.f dShown.fd ["_law_station"] (spP K (WShown c))) (dDueOf : DF K mg "_law_due_of" sDueOf ["_law_some"]) (gDueOf : FnG P w K mg base CX0 9 dDueOf.f dDueOf.fd ["_law_some"] (spP K WDueOf)) :
    FnG P w K mg base CX0 10 f fd ["_law_pen", "_law_some", "_law_station"] (spN K (WPR c)) := by
  refine defN F scPropsRight (fun n ds Φ ⟨a, r, e, _⟩ => by rw [e]; rfl) (by decide) fun cdv A outer s H E hr hg => ?_
  have hr8 := hr.mono (show 8 ≤ 9 by decide)
  have hr2 := hr.mono (show 2 ≤ 9 by decide)
  have hr1 := hr.mono (show 1 ≤ 9 by decide)
  refine ⟨_, pss_cons (ps_set (i := 3) scPropsRight.nd rfl (Or.inr rfl) (pe_callTy (tupleK K rfl) (by rfl) B.tuple PyProof.Rows.boot_tuple (pa_cons (pe_lc (own := [("_law_k", 7)]) (g := gName 7) rfl scPropsRight.nd (pi_range1 (by rfl) B.range (pa_cons (pe_op op_mul (pe_callB (lenK K rfl) (by rfl) B.len PySem.boot_len (pa_cons (pe_ix (ixK K rfl) (pv 1) pe_int (fun _ _ => rfl)) pa_nil)) (pe_callTy call_int1 (by rfl) B.int PyProof.Rows.boot_int (pa_cons (pe_cmpR op_gt (pe_ix (ixK K rfl) (pv 1) pe_int (fun _ _ => rfl)) pe_int (nomark _)) pa_nil))) pa_nil)) (blkOk_by (N := NPr) (sc := defScope sPropsRight) (by decide +kernel)) (fun _ _ _ _ _ => pg_name (i := 7) scPropsRight.nd rfl (Or.inl rfl)) (fun _ _ _ _ _ => pts_one (pt_cmpR op_eq (pe_callG gDraw hr hg (by rfl) dDraw.g dDraw.F.kp dDraw.b .nil pass0 (pa_cons (pv 0) (pa_cons pe_int pa_nil))) pe_int (nomark _))) (fun _ _ _ _ _ => pv 7)) pa_nil)))
    <| pss_cons (ps_set (i := 4) scPropsRight.nd rfl (Or.inl rfl) (pe_cmpR op_eq (pe_callG gDraw hr hg (by rfl) dDraw.g dDraw.F.kp dDraw.b .nil pass0 (pa_cons (pv 0) (pa_cons pe_int pa_nil))) pe_int (nomark _)))
    <| pss_cons (ps_set (i := 5) scPropsRight.nd rfl (Or.inl rfl) (pe_lst (pa_cons (pe_ix (ixK K rfl) (pv 1) pe_int (fun _ _ => rfl)) (pa_cons (pe_ifExp (pt_val (pv 4)) pe_str (pe_ix (ixK K rfl) (pv 1) pe_int (fun _ _ => rfl))) (pa_cons (pe_ix (ixK K rfl) (pv 1) pe_int (fun _ _ => rfl)) (pa_cons (pe_ix (ixK K rfl) (pv 1) pe_int (fun _ _ => rfl)) pa_nil))))))
    <| pss_cons (ps_expr (pe_bm PySem.F.plainAttrs_list PySem.F.slot_list_append PySem.F.type_list_append mt_append (pv 5) (pa_cons (pe_callTy (tupleK K rfl) (by rfl) B.tuple PyProof.Rows.boot_tuple (pa_cons (pe_lc (own := [("_law_k", 7)]) (g := gName 7) rfl scPropsRight.nd (pi_range1 (by rfl) B.range (pa_cons (pe_callB (lenK K rfl) (by rfl) B.len PySem.boot_len (pa_cons (pe_ix (ixK K rfl) (pv 1) pe_int (fun _ _ => rfl)) pa_nil)) pa_nil)) (blkOk_by (N := NPr) (sc := defScope sPropsRight) (by decide +kernel)) (fun _ _ _ _ _ => pg_name (i := 7) scPropsRight.nd rfl (Or.inl rfl)) (fun _ _ _ _ _ => pts_one (pt_cmpR (notIn_seqK K rfl) (pv 7) (pv 3) (by rfl))) (fun _ _ _ _ _ => pe_ix (ixK K rfl) (pe_ix (ixK K rfl) (pv 1) pe_int (fun _ _ => rfl)) (pv 7) (fun _ _ => rfl))) pa_nil)) pa_nil)))
    <| pss_cons (ps_set (i := 6) scPropsRight.nd rfl (Or.inl rfl) (pe_prK3 G E4.T.kd rfl rfl hr8 pass0 (pv 2) (pk_cons (pv 4) (pk_cons (pv 3) pk_nil))))
    <| pss_cons (ps_if (PW.pt (pw_or (pt_cmpR op_ne (pe_callB (call_reprX hg hr.units) (by rfl) B.repr boot_repr (pa_cons (pe_callG gShown hr hg (by rfl) dShown.g dShown.F.kp dShown.b .nil pass0 (pa_cons (pv 6) pa_nil)) pa_nil)) (pe_callB (call_reprX hg hr.units) (by rfl) B.repr boot_repr (pa_cons (pe_callG gDueOf hr hg (by rfl) dDueOf.g dDueOf.F.kp dDueOf.b .nil pass0 (pa_cons (pv 5) pa_nil)) pa_nil)) (nomark _)) (pw_or1 (pt_cmpR (E4.ne4 rfl rfl hr2) (pv 6) (pe_call (E := E0) gMade hr8 (by rfl) dMade.g dMade.F.kp dMade.b .nil passN (pa_cons (pv 5) pa_nil)) (nomark _)))))
    (pss_one (ps_ret pe_bl))
    pss_nil)
    <| pss_one (ps_ret (pe_and (pe_cmpR op_eq (pe_callB (call_reprX hg hr.units) (by rfl) B.repr boot_repr (pa_cons (pe_callG gShown hr hg (by rfl) dShown.g dShown.F.kp dShown.b .nil pass0 (pa_cons (pv 2) pa_nil)) pa_nil)) (pe_callB (call_reprX hg hr.units) (by rfl) B.repr boot_repr (pa_cons (pe_callG gDueOf hr hg (by rfl) dDueOf.g dDueOf.F.kp dDueOf.b .nil pass0 (pa_cons (pv 1) pa_nil)) pa_nil)) (nomark _)) (pe_one (pe_cmpR (E4.eq4 rfl rfl hr1) (pe_prD3 G E4.T.kd rfl rfl hr8 pass0 (pv 2)) (pv 2) (nomark _))))), ?_⟩
  rintro n ds Φ ⟨a, r, rfl, ok, hn, q⟩
  have hll := ok.ll
  have hk := ok.k
  have s1 : seqD r.row = some [.int (r.k : Nat), .str r.o, .str r.w, .int r.g, lD r.l] := rfl
  have s2 : seqD (lD r.l) = some (r.l.map Dt.str) := rfl
  have hrow : ∃ row, row = r.row := ⟨_, rfl⟩
  obtain ⟨row, erow⟩ := hrow
  have hst : ∃ st, st = r.st c a := ⟨_, rfl⟩
  obtain ⟨st, est⟩ := hst
  rw [← erow] at s1
  show Ws K _ [.pen n, .dat r.row, .dat (r.st c a), .any, .any, .any, .any, .any] _
  rw [← erow, ← est]
  refine ws_seq <| ws_asg (pf := false) <| w_cb <| wa_cons <| w_lc (js := [7]) (by decide) <| wi_rng1 <| wa_cons <| w_op <| w_cb <| wa_cons <| w_op <| w_var (d := row) rfl <| w_c (fun _ => .int 4) <| od_ix s1 (d := lD r.l) rfl <| wa_nil <| rd_len (lenD_seq s2) <| w_cb <| wa_cons <| w_op <| w_op <| w_var (d := row) rfl <| w_c (fun _ => .int 0) <| od_ix s1 (d := .int (r.k : Nat)) rfl <| w_c (fun _ => .int 0) <| od_I0b <| wa_nil <| rd_intb <| od_I (.inl ⟨by rw [List.length_map]; omega, by rw [List.length_map]; omega⟩) <| wa_nil ⟨_, rfl, ?_, ?_, ?_⟩
  · rw [List.length_map]; split <;> omega
  · rw [List.length_map]; split <;> omega
  have e1 : ((((r.l.map Dt.str).length : Nat) : Int) * (if decide ((0 : Int) < ((r.k : Nat) : Int)) = true then 1 else 0)).toNat ≤ 4 := by rw [List.length_map]; split <;> omega
  generalize ((((r.l.map Dt.str).length : Nat) : Int) * (if decide ((0 : Int) < ((r.k : Nat) : Int)) = true then 1 else 0)).toNat = m at e1
  refine ⟨fun i acc ρ2 => ∃ (n' : Nat) (js : List Int), n' ≤ n + i ∧ i ≤ m ∧ acc = js.map Dt.int ∧ ρ2 = [.pen n', .dat row, .dat st, .any, .any, .any, .any, .any], ⟨n, [], by omega, by omega, rfl, rfl⟩, by rw [rangeD_len]; omega, ?_, ?_⟩
  · rintro i d acc ρ2 hd ⟨n', js, hn', hi, rfl, rfl⟩
    have hi2 : i < m := by have := (List.getElem?_eq_some_iff.mp hd).1; rw [rangeD_len] at this; exact this
    have hd := Option.some.inj (hd.symm.trans (rangeD_at hi2))
    subst hd
    refine wg_name ?_
    show Wt K false _ [.pen n', .dat row, .dat st, .any, .any, .any, .any, .dat (.int (0 + (i : Nat)))] _
    refine wt_test <| w_op <| w_callN (i := 0) rfl <| wa_cons <| w_c (fun _ => .int _) <| wa_nil ⟨n', rfl, 2, rfl, by decide, by decide, by omega, fun x hx => w_c (fun _ => .int _) <| od_eqi ⟨_, rfl, ?_⟩⟩
    cases decide ((x : Int) = 0) with
    | true => exact ifT <| w_var (d := .int (0 + (i : Nat))) rfl ⟨n' + 1, js ++ [0 + (i : Int)], by omega, by omega, by rw [List.map_append]; rfl, rfl⟩
    | false => exact ifF ⟨n' + 1, js, by omega, by omega, rfl, rfl⟩
  · rintro acc ρ2 ⟨n', js, hn', _, rfl, rfl⟩
    rw [rangeD_len] at hn'
    refine wa_nil <| rd_tuple rfl ?_
    show Ws K _ [.pen n', .dat row, .dat st, .dat (.tup (js.map Dt.int)), .any, .any, .any, .any] _
    refine ws_seq <| ws_asg (pf := false) <| w_op <| w_callN (i := 0) rfl <| wa_cons <| w_c (fun _ => .int _) <| wa_nil ⟨n', rfl, 2, rfl, by decide, by decide, by omega, fun x hx => w_c (fun _ => .int _) <| od_eqi ?_⟩
    generalize decide ((x : Int) = 0) = up
    show Ws K _ [.pen (n' + 1), .dat row, .dat st, .dat (.tup (js.map Dt.int)), .dat (.bl up), .any, .any, .any] _
    have ifx : ∀ {Φ' : Dt → List Sl → Prop} {ρ : List Sl}, ρ[4]? = some (.dat (.bl up)) → ρ[1]? = some (.dat row) → Φ' (.str (r.prop up js).o) ρ → Wp K false (tIf (tB (tVar 4)) (tC (V.str "shore")) (tOp (rIx K) (tVar 1) (tC (V.int 1)))) ρ Φ' := fun h4 h1 q' => by
      refine w_if <| wt_B <| w_var h4 ⟨up, rfl, ?_⟩
      cases up with
      | true => exact ifT <| w_c (fun _ => .str _) q'
      | false => exact ifF <| w_op <| w_var h1 <| w_c (fun _ => .int 1) <| od_ix s1 (d := .str r.o) rfl q'
    refine ws_seq <| ws_own <| wl_lst <| wa_cons <| w_op <| w_var (d := row) rfl <| w_c (fun _ => .int 0) <| od_ix s1 (d := .int (r.k : Nat)) rfl <| wa_cons <| ifx rfl rfl <| wa_cons <| w_op <| w_var (d := row) rfl <| w_c (fun _ => .int 2) <| od_ix s1 (d := .str r.w) rfl <| wa_cons <| w_op <| w_var (d := row) rfl <| w_c (fun _ => .int 3) <| od_ix s1 (d := .int r.g) rfl <| wa_nil ⟨by show 4 ≤ 100000; decide, by show 5 < 8; decide, ?_⟩
    show Ws K _ [.pen (n' + 1), .dat row, .dat st, .dat (.tup (js.map Dt.int)), .dat (.bl up), .own [.int (r.k : Nat), .str (r.prop up js).o, .str r.w, .int r.g], .any, .any] _
    refine ws_seq <| ws_append (pf := true) (i := 5) (w_cb <| wa_cons <| w_lcF (j := 7) (fun d => !inI d js) (nmD r.l) rfl <| wi_rng1 <| wa_cons <| w_cb <| wa_cons <| w_op <| w_var (d := row) rfl <| w_c (fun _ => .int 4) <| od_ix s1 (d := lD r.l) rfl <| wa_nil <| rd_len (lenD_seq s2) <| wa_nil ⟨_, rfl, by rw [List.length_map]; omega, by rw [List.length_map]; omega, rfl, by rw [rangeD_len, List.length_map]; omega, fun d hd => ?_, fun d hd _ => ?_, ?_⟩) rfl
    · obtain ⟨i, hi, rfl⟩ := rangeD_mem hd
      exact wt_test <| w_op <| w_var (d := .int (i : Nat)) rfl <| w_var (d := .tup (js.map Dt.int)) rfl <| od_notInI rfl ⟨_, rfl, rfl, rfl⟩
    · obtain ⟨i, hi, rfl⟩ := rangeD_mem hd
      have hi : i < r.l.length := by rw [List.length_map] at hi; omega
      refine w_op <| w_op <| w_var (d := row) rfl <| w_c (fun _ => .int 4) <| od_ix s1 (d := lD r.l) rfl <| w_var (d := .int (i : Nat)) rfl <| od_ix s2 (d := .str (r.l.getD i "")) (atI_nat' ?_) ⟨?_, rfl⟩
      · rw [List.getElem?_map, List.getD_eq_getElem?_getD, List.getElem?_eq_getElem hi]; rfl
      · show _ = Dt.str (r.l.getD ((i : Nat) : Int).toNat "")
        rw [Int.toNat_natCast]
    · rw [show ((((r.l.map Dt.str).length : Nat) : Int)).toNat = r.l.length from by rw [List.length_map, Int.toNat_natCast], range_left]
      refine wa_nil <| rd_tuple rfl ⟨_, rfl, by show 4 < 100000; decide, ?_⟩
      show Ws K _ [.pen (n' + 1), .dat row, .dat st, .dat (.tup (js.map Dt.int)), .dat (.bl up), .own [.int (r.k : Nat), .str (r.prop up js).o, .str r.w, .int r.g, lD (leftS r.l js)], .any, .any] _
      have ok2 := ok.prop up js
      refine ws_freeze (i := 5) rfl ?_
      show Ws K _ [.pen (n' + 1), .dat row, .dat st, .dat (.tup (js.map Dt.int)), .dat (.bl up), .dat (r.prop up js).row, .any, .any] _
      have hst2 : ∀ ρ : List Sl, ρ[2]? = some (.dat st) → ρ[2]? = some (.dat (r.st c a)) := fun ρ h => by rw [h, est]
      refine ws_seq <| ws_asg (pf := true) <| w_prK3 r ok <| w_var (d := r.st c a) (hst2 _ rfl) ⟨⟨a, rfl⟩, wa_cons <| w_var (d := .bl up) rfl <| wa_cons <| w_var (d := .tup (js.map Dt.int)) rfl <| wa_nil ⟨up, js, rfl, fun b => ?_⟩⟩
      generalize r.prop up js = r2 at ok2
      show Ws K _ [.pen (n' + 1), .dat row, .dat st, .dat (.tup (js.map Dt.int)), .dat (.bl up), .dat r2.row, .dat (r2.st c b), .any] _
      refine ws_seq <| ws_if (pf := true) <| wt_or <| wt_test <| w_op <| w_cb <| wa_cons <| w_call0 <| wa_cons <| w_var (d := r2.st c b) rfl <| wa_nil ⟨b, r2, rfl, ok2.k, wa_nil <| rd_repr (fit_due ok2) <| w_cb <| wa_cons <| w_call0 <| wa_cons <| w_var (d := r2.row) rfl <| wa_nil ⟨r2, rfl, ok2.k, wa_nil <| rd_repr (fit_due ok2) <| od_nes ⟨_, rfl, ?_⟩⟩⟩
      rw [decide_eq_true rfl]
      refine ifF <| wt_test <| w_op <| w_var (d := r2.st c b) rfl <| w_made r2 ok2 <| w_var (d := r2.row) rfl ⟨rfl, fun b2 => od_st E4 ok2 ok2 ⟨_, rfl, ?_⟩⟩
      rw [eqR_refl]
      refine ifF <| ws_next <| ws_ret (pf := true) <| w_andV <| w_op <| w_cb <| wa_cons <| w_call0 <| wa_cons <| w_var (d := r.st c a) (hst2 _ rfl) <| wa_nil ⟨a, r, rfl, hk, wa_nil <| rd_repr (fit_due ok) <| w_cb <| wa_cons <| w_call0 <| wa_cons <| w_var (d := row) rfl <| wa_nil ⟨r, by rw [erow], hk, wa_nil <| rd_repr (fit_due ok) <| od_eqs ⟨_, rfl, ?_⟩⟩⟩
      rw [decide_eq_true rfl]
      refine ifT <| w_op <| w_prD3 G r ok <| w_var (d := r.st c a) (hst2 _ rfl) ⟨⟨a, rfl⟩, fun b3 => w_var (d := r.st c a) (hst2 _ rfl) <| od_st E4 ok ok ⟨n + 10, _, rfl, .pen (by omega), ?_⟩⟩
      rw [eqR_refl]
      exact q
end
end K05

namespace K05
open PySem PySem.Spec PyProof.Rows L2 DL
/-! ### two rows that differ in one part are shown alike just if they make the same station -/
def qs (d : Dt) : List Nat := d.py.shown.cps.toList
theorem c_tr : qs (.bl true) = [84, 114, 117, 101] := by decide +kernel
theorem c_fa : qs (.bl false) = [70, 97, 108, 115, 101] := by decide +kernel
theorem tf_nil (n : Nat) (z : Str) : PySem.textFrom n z [] = z := rfl
theorem tf_one (z x : Str) (xs : List Str) : PySem.textFrom 0 z (x :: xs) = PySem.textFrom 1 (z ++ Str.ofString "" ++ x) xs := rfl
theorem tf_next (n : Nat) (z x : Str) (xs : List Str) : PySem.textFrom (n + 1) z (x :: xs) = PySem.textFrom (n + 2) (z ++ Str.ofString ", " ++ x) xs := rfl
theorem app_l (x y : Str) : (x ++ y).cps.toList = x.cps.toList ++ y.cps.toList := by show (x.cps ++ y.cps).toList = _; rw [Array.toList_append]
theorem k_sep : (Str.ofString ", ").cps.toList = [44, 32] := by decide +kernel
theorem k_no : (Str.ofString "").cps.toList = [] := by decide +kernel
theorem k_lb : (Str.ofString "[").cps.toList = [91] := by decide +kernel
theorem k_rb : (Str.ofString "]").cps.toList = [93] := by decide +kernel
theorem sx8 (a b c d e f g h : Dt) : qs (.lst [a, b, c, d, e, f, g, h]) = [91] ++ (qs a ++ ([44, 32] ++ (qs b ++ ([44, 32] ++ (qs c ++ ([44, 32] ++ (qs d ++ ([44, 32] ++ (qs e ++ ([44, 32] ++ (qs f ++ ([44, 32] ++ (qs g ++ ([44, 32] ++ (qs h ++ [93]))))))))))))))) := by
  have e1 : (Dt.lst [a, b, c, d, e, f, g, h]).py = .list [a.py, b.py, c.py, d.py, e.py, f.py, g.py, h.py] := by simp only [Dt.py, pys]
  unfold qs
  rw [e1]
  have e2 : PyData.shownAll [a.py, b.py, c.py, d.py, e.py, f.py, g.py, h.py] = [a.py.shown, b.py.shown, c.py.shown, d.py.shown, e.py.shown, f.py.shown, g.py.shown, h.py.shown] := by simp only [PyData.shownAll]
  rw [PyData.shown.eq_def]
  show (listText (PyData.shownAll _)).cps.toList = _
  rw [e2]
  unfold PySem.listText
  rw [tf_one, tf_next, tf_next, tf_next, tf_next, tf_next, tf_next, tf_next, tf_nil]
  simp only [app_l, k_sep, k_no, k_lb, k_rb, List.append_assoc, List.nil_append]
theorem str_inj {x y : Str} (h : x.cps.toList = y.cps.toList) : x = y := by
  cases x; cases y
  simp only [Str.mk.injEq]
  exact Array.ext' h
theorem qs_iff {d d' : Dt} : d.py.shown = d'.py.shown ↔ qs d = qs d' := ⟨fun h => by unfold qs; rw [h], str_inj⟩
theorem ons_inj : ∀ a ∈ ons, ∀ b ∈ ons, qs (.str a) = qs (.str b) → a = b := by decide +kernel
theorem ows_inj : ∀ a ∈ ows, ∀ b ∈ ows, qs (.str a) = qs (.str b) → a = b := by decide +kernel
theorem bit_inj {a b : Int} (ha : a = 0 ∨ a = 1) (hb : b = 0 ∨ b = 1) (h : qs (.int a) = qs (.int b)) : a = b := by
  have c0 : qs (.int 0) = [48] := by decide +kernel
  have c1 : qs (.int 1) = [49] := by decide +kernel
  rcases ha with e | e <;> rcases hb with e' | e' <;> subst e <;> subst e'
  · rfl
  · rw [c0, c1] at h; cases h
  · rw [c0, c1] at h; cases h
  · rfl
/-- the words of a text -/
def wordsOf : List Nat → List Nat → List (List Nat)
  | [], [] => []
  | [], c => [c.reverse]
  | x :: xs, [] => if 97 ≤ x ∧ x ≤ 122 then wordsOf xs [x] else wordsOf xs []
  | x :: xs, c => if 97 ≤ x ∧ x ≤ 122 then wordsOf xs (x :: c) else c.reverse :: wordsOf xs []
def asL (l : List Str) : List (List Nat) := l.map fun x => x.cps.toList
theorem q_names : qs (.str "a") = [39, 97, 39] ∧ qs (.str "b") = [39, 98, 39] ∧ qs (.str "c") = [39, 99, 39] ∧ qs (.str "dd") = [39, 100, 100, 39] ∧ qs (.str "zzzzzzzz") = [39, 122, 122, 122, 122, 122, 122, 122, 122, 39] := by decide +kernel
theorem t_names : (Str.cps "a").toList = [97] ∧ (Str.cps "b").toList = [98] ∧ (Str.cps "c").toList = [99] ∧ (Str.cps "dd").toList = [100, 100] ∧ (Str.cps "zzzzzzzz").toList = [122, 122, 122, 122, 122, 122, 122, 122] := by decide +kernel
theorem wq {a : Str} (h : a ∈ lets) (r : List Nat) : wordsOf (qs (.str a) ++ r) [] = a.cps.toList :: wordsOf r [] := by
  obtain ⟨q1, q2, q3, q4, q5⟩ := q_names
  obtain ⟨t1, t2, t3, t4, t5⟩ := t_names
  unfold lets at h
  simp only [List.mem_cons, List.not_mem_nil, or_false] at h
  rcases h with e | e | e | e | e <;> subst e
  · rw [q1, t1]; simp [wordsOf]
  · rw [q2, t2]; simp [wordsOf]
  · rw [q3, t3]; simp [wordsOf]
  · rw [q4, t4]; simp [wordsOf]
  · rw [q5, t5]; simp [wordsOf]
theorem w_sep (r : List Nat) : wordsOf ([44, 32] ++ r) [] = wordsOf r [] := by simp [wordsOf]
theorem w_lp (r : List Nat) : wordsOf ([40] ++ r) [] = wordsOf r [] := by simp [wordsOf]
theorem k_lp : (Str.ofString "(").cps.toList = [40] := by decide +kernel
theorem k_rp : (Str.ofString ")").cps.toList = [41] := by decide +kernel
theorem k_rp1 : (Str.ofString ",)").cps.toList = [44, 41] := by decide +kernel
theorem w_end1 : wordsOf [44, 41] [] = [] := by decide
theorem w_end : wordsOf [41] [] = [] := by decide
theorem j1 (s x : Str) : s.join [x] = x := rfl
theorem j2 (s x y : Str) (zs : List Str) : s.join (x :: y :: zs) = x ++ s ++ s.join (y :: zs) := rfl
theorem shs (l : List Str) : qs (lD l) = (PySem.tupleText (l.map fun x => (Dt.str x).py.shown)).cps.toList := by
  have e : ∀ l : List Str, PyData.shownAll (pys (l.map Dt.str)) = l.map fun x => (Dt.str x).py.shown := by
    intro l
    induction l with
    | nil => simp only [List.map_nil, pys, PyData.shownAll]
    | cons x l ih => simp only [List.map_cons, pys, PyData.shownAll, ih]
  unfold qs lD
  rw [show (Dt.tup (l.map Dt.str)).py = .tuple (pys (l.map Dt.str)) from by simp only [Dt.py], PyData.shown.eq_def]
  show (PySem.tupleText (PyData.shownAll _)).cps.toList = _
  rw [e]
theorem tt (xs : List Str) : (PySem.tupleText xs).cps.toList = [40] ++ (((Str.ofString ", ").join xs).cps.toList ++ (Str.ofString (if (xs.length == 1) = true then ",)" else ")")).cps.toList) := by
  unfold PySem.tupleText
  rw [app_l, app_l, k_lp, List.append_assoc]
theorem words_l {l : List Str} (hl : l.length ≤ 4) (hm : ∀ x ∈ l, x ∈ lets) : wordsOf (qs (lD l)) [] = asL l := by
  have qn : ∀ x : Str, ((Dt.str x).py.shown).cps.toList = qs (.str x) := fun _ => rfl
  rw [shs, tt, w_lp]
  match l, hl, hm with
  | [], _, _ => decide +kernel
  | [a], _, hm =>
    simp only [List.map_cons, List.map_nil, j1, List.length_cons, List.length_nil]
    rw [qn, wq (hm a (by simp)), show (Str.ofString (if (0 + 1 == 1) = true then ",)" else ")")).cps.toList = [44, 41] from k_rp1, w_end1]
    rfl
  | [a, b], _, hm =>
    simp only [List.map_cons, List.map_nil, j1, j2, List.length_cons, List.length_nil, app_l, List.append_assoc, k_sep]
    rw [qn, qn, wq (hm a (by simp)), w_sep, wq (hm b (by simp)), show (Str.ofString (if (0 + 1 + 1 == 1) = true then ",)" else ")")).cps.toList = [41] from k_rp, w_end]
    rfl
  | [a, b, c], _, hm =>
    simp only [List.map_cons, List.map_nil, j1, j2, List.length_cons, List.length_nil, app_l, List.append_assoc, k_sep]
    rw [qn, qn, qn, wq (hm a (by simp)), w_sep, wq (hm b (by simp)), w_sep, wq (hm c (by simp)), show (Str.ofString (if (0 + 1 + 1 + 1 == 1) = true then ",)" else ")")).cps.toList = [41] from k_rp, w_end]
    rfl
  | [a, b, c, d], _, hm =>
    simp only [List.map_cons, List.map_nil, j1, j2, List.length_cons, List.length_nil, app_l, List.append_assoc, k_sep]
    rw [qn, qn, qn, qn, wq (hm a (by simp)), w_sep, wq (hm b (by simp)), w_sep, wq (hm c (by simp)), w_sep, wq (hm d (by simp)), show (Str.ofString (if (0 + 1 + 1 + 1 + 1 == 1) = true then ",)" else ")")).cps.toList = [41] from k_rp, w_end]
    rfl
theorem asL_inj : ∀ {l l' : List Str}, asL l = asL l' → l = l'
  | [], [], _ => rfl
  | [], _ :: _, h => by cases h
  | _ :: _, [], h => by cases h
  | x :: l, y :: l', h => by
    have h : x.cps.toList :: asL l = y.cps.toList :: asL l' := h
    rw [List.cons.injEq] at h
    rw [str_inj h.1, asL_inj h.2]
theorem lane_inj {l l' : List Str} (hl : l.length ≤ 4) (hm : ∀ x ∈ l, x ∈ lets) (hl' : l'.length ≤ 4) (hm' : ∀ x ∈ l', x ∈ lets) (h : qs (lD l) = qs (lD l')) : l = l' :=
  asL_inj (by rw [← words_l hl hm, ← words_l hl' hm', h])
inductive Near (r : R) : R → Prop
  | same : Near r r
  | k (k : Nat) : Near r ⟨k, r.o, r.w, r.g, r.l⟩
  | o (o : Str) : Near r ⟨r.k, o, r.w, r.g, r.l⟩
  | w (w : Str) : Near r ⟨r.k, r.o, w, r.g, r.l⟩
  | g (g : Int) : Near r ⟨r.k, r.o, r.w, g, r.l⟩
  | l (l : List Str) : Near r ⟨r.k, r.o, r.w, r.g, l⟩
theorem due0 {o w : Str} {g : Int} {l : List Str} : dueL ⟨0, o, w, g, l⟩ = [.bl true, .bl true, .bl false, .bl false, .str o, .non, .non, .tup []] := rfl
theorem due1 {o w : Str} {g : Int} {l : List Str} : dueL ⟨1, o, w, g, l⟩ = [.bl true, .bl false, .bl true, .bl false, .str o, .str w, .int g, lD l] := rfl
theorem due2 {o w : Str} {g : Int} {l : List Str} : dueL ⟨2, o, w, g, l⟩ = [.bl true, .bl false, .bl true, .bl true, .str o, .str w, .non, lD l] := rfl
theorem alike_iff {r r' : R} (ok : r.Ok) (ok' : r'.Ok) (n : Near r r') : qs (.lst (dueL r')) = qs (.lst (dueL r)) ↔ eqR r' r = true := by
  have hk := ok.k
  have hk' := ok'.k
  obtain ⟨k, o, w, g, l⟩ := r
  have hk : k < 3 := hk
  cases n with
  | same => exact ⟨fun _ => eqR_refl _, fun _ => rfl⟩
  | k k' =>
    have hk' : k' < 3 := hk'
    match k, k', hk, hk' with
    | 0, 0, _, _ => exact ⟨fun _ => eqR_refl _, fun _ => rfl⟩
    | 1, 1, _, _ => exact ⟨fun _ => eqR_refl _, fun _ => rfl⟩
    | 2, 2, _, _ => exact ⟨fun _ => eqR_refl _, fun _ => rfl⟩
    | 0, 1, _, _ =>
      refine ⟨fun h => ?_, fun h => by rw [eqR_ne (by show (1 : Nat) ≠ 0; decide)] at h; cases h⟩
      rw [due0, due1, sx8, sx8, c_tr, c_fa] at h
      exact absurd (show (70 : Nat) = 84 from congrArg (fun z => z.getD 7 0) h) (by decide)
    | 0, 2, _, _ =>
      refine ⟨fun h => ?_, fun h => by rw [eqR_ne (by show (2 : Nat) ≠ 0; decide)] at h; cases h⟩
      rw [due0, due2, sx8, sx8, c_tr, c_fa] at h
      exact absurd (show (70 : Nat) = 84 from congrArg (fun z => z.getD 7 0) h) (by decide)
    | 1, 0, _, _ =>
      refine ⟨fun h => ?_, fun h => by rw [eqR_ne (by show (0 : Nat) ≠ 1; decide)] at h; cases h⟩
      rw [due0, due1, sx8, sx8, c_tr, c_fa] at h
      exact absurd (show (84 : Nat) = 70 from congrArg (fun z => z.getD 7 0) h) (by decide)
    | 2, 0, _, _ =>
      refine ⟨fun h => ?_, fun h => by rw [eqR_ne (by show (0 : Nat) ≠ 2; decide)] at h; cases h⟩
      rw [due0, due2, sx8, sx8, c_tr, c_fa] at h
      exact absurd (show (84 : Nat) = 70 from congrArg (fun z => z.getD 7 0) h) (by decide)
    | 1, 2, _, _ =>
      refine ⟨fun h => ?_, fun h => by rw [eqR_ne (by show (2 : Nat) ≠ 1; decide)] at h; cases h⟩
      rw [due1, due2, sx8, sx8, c_tr, c_fa] at h
      exact absurd (show (84 : Nat) = 70 from congrArg (fun z => z.getD 20 0) h) (by decide)
    | 2, 1, _, _ =>
      refine ⟨fun h => ?_, fun h => by rw [eqR_ne (by show (1 : Nat) ≠ 2; decide)] at h; cases h⟩
      rw [due1, due2, sx8, sx8, c_tr, c_fa] at h
      exact absurd (show (70 : Nat) = 84 from congrArg (fun z => z.getD 20 0) h) (by decide)
  | o o' =>
    have e1 : eqR ⟨k, o', w, g, l⟩ ⟨k, o, w, g, l⟩ = decide (o' = o) := by unfold eqR; simp
    have inj := ons_inj o' ok'.o o ok.o
    rw [e1, decide_eq_true_iff]
    refine ⟨fun h => inj ?_, fun h => by subst h; rfl⟩
    rcases kcase hk with ek | ek | ek <;> subst ek
    · rw [due0, due0, sx8, sx8] at h; simpa only [List.append_right_inj, List.append_left_inj, List.append_cancel_left_eq, List.append_cancel_right_eq] using h
    · rw [due1, due1, sx8, sx8] at h; simpa only [List.append_right_inj, List.append_left_inj, List.append_cancel_left_eq, List.append_cancel_right_eq] using h
    · rw [due2, due2, sx8, sx8] at h; simpa only [List.append_right_inj, List.append_left_inj, List.append_cancel_left_eq, List.append_cancel_right_eq] using h
  | w w' =>
    have inj := ows_inj w' ok'.w w ok.w
    rcases kcase hk with ek | ek | ek <;> subst ek
    · exact ⟨fun _ => by unfold eqR; simp, fun _ => rfl⟩
    · have e1 : eqR ⟨1, o, w', g, l⟩ ⟨1, o, w, g, l⟩ = decide (w' = w) := by unfold eqR; simp
      rw [e1, decide_eq_true_iff]
      refine ⟨fun h => inj ?_, fun h => by subst h; rfl⟩
      rw [due1, due1, sx8, sx8] at h; simpa only [List.append_right_inj, List.append_left_inj, List.append_cancel_left_eq, List.append_cancel_right_eq] using h
    · have e1 : eqR ⟨2, o, w', g, l⟩ ⟨2, o, w, g, l⟩ = decide (w' = w) := by unfold eqR; simp
      rw [e1, decide_eq_true_iff]
      refine ⟨fun h => inj ?_, fun h => by subst h; rfl⟩
      rw [due2, due2, sx8, sx8] at h; simpa only [List.append_right_inj, List.append_left_inj, List.append_cancel_left_eq, List.append_cancel_right_eq] using h
  | g g' =>
    have inj := fun h => bit_inj (a := g') (b := g) ok'.g ok.g h
    rcases kcase hk with ek | ek | ek <;> subst ek
    · exact ⟨fun _ => by unfold eqR; simp, fun _ => rfl⟩
    · have e1 : eqR ⟨1, o, w, g', l⟩ ⟨1, o, w, g, l⟩ = decide (g' = g) := by unfold eqR; simp
      rw [e1, decide_eq_true_iff]
      refine ⟨fun h => inj ?_, fun h => by subst h; rfl⟩
      rw [due1, due1, sx8, sx8] at h; simpa only [List.append_right_inj, List.append_left_inj, List.append_cancel_left_eq, List.append_cancel_right_eq] using h
    · exact ⟨fun _ => by unfold eqR; simp, fun _ => rfl⟩
  | l l' =>
    have inj := fun h => lane_inj (l := l') (l' := l) ok'.ll ok'.ls ok.ll ok.ls h
    rcases kcase hk with ek | ek | ek <;> subst ek
    · exact ⟨fun _ => by unfold eqR; simp, fun _ => rfl⟩
    · have e1 : eqR ⟨1, o, w, g, l'⟩ ⟨1, o, w, g, l⟩ = decide (l' = l) := by unfold eqR; simp
      rw [e1, decide_eq_true_iff]
      refine ⟨fun h => inj ?_, fun h => by subst h; rfl⟩
      rw [due1, due1, sx8, sx8] at h; simpa only [List.append_right_inj, List.append_left_inj, List.append_cancel_left_eq, List.append_cancel_right_eq] using h
    · have e1 : eqR ⟨2, o, w, g, l'⟩ ⟨2, o, w, g, l⟩ = decide (l' = l) := by unfold eqR; simp
      rw [e1, decide_eq_true_iff]
      refine ⟨fun h => inj ?_, fun h => by subst h; rfl⟩
      rw [due2, due2, sx8, sx8] at h; simpa only [List.append_right_inj, List.append_left_inj, List.append_cancel_left_eq, List.append_cancel_right_eq] using h
theorem alike {r r' : R} (ok : r.Ok) (ok' : r'.Ok) (n : Near r r') : decide ((Dt.lst (dueL r')).py.shown = (Dt.lst (dueL r)).py.shown) = eqR r' r := by
  have h := qs_iff.trans (alike_iff ok ok' n)
  cases e : eqR r' r with
  | true => exact decide_eq_true (h.mpr e)
  | false => exact decide_eq_false fun z => by rw [h.mp z] at e; cases e
end K05

set_option maxHeartbeats 1000000
namespace K05
open PySem PySem.Spec PyProof.Rows L2 DL
abbrev sLaw : Stmt := topS 35
abbrev NLaw : List Str := ["_law_script", "_law_pen", "_law_lap", "_law_some", "_law_station", "_law_more", "_law_at", "_law_alike", "_law_turn", "_law_bad", "_law_told", "_law_due"]
theorem scLaw : FnScope NLaw ["_law_script"] (defScope sLaw) := ⟨rfl, rfl, rfl, by decide +kernel, rfl, by decide +kernel, by decide +kernel⟩
def spLaw (K : PySem.W.Frag) : Sp := fun vs H Q _ => ∃ (a : Addr) (ns : List Int), vs = [.ref a] ∧ SqL K H a (ns.map V.int) ∧ ns.length ≤ 63 ∧ ∀ H', Q (.bl true) H'
/-! ### rows with wrong parts -/
structure Mv (k : Nat) (o w g l : Dt) : Prop where
  k : k < 3
  o : (∃ z ∈ ons, o = .str z) ∨ (shortD o = true ∧ isName o = false)
  w : (∃ z ∈ ows, w = .str z) ∨ (shortD w = true ∧ isOwn w = false)
  g : (∃ i : Int, (i = 0 ∨ i = 1) ∧ g = .int i) ∨ (noTy g = true ∧ bitD g = false)
  l : (∃ z : List Str, (z.Nodup ∧ z.length ≤ 4 ∧ ∀ x ∈ z, x ∈ lets) ∧ l = lD z) ∨ (thingD l = true ∧ isRow l 4 = false)
theorem R.Ok.mv {r : R} (h : r.Ok) : Mv r.k (.str r.o) (.str r.w) (.int r.g) (lD r.l) := ⟨h.k, .inl ⟨_, h.o, rfl⟩, .inl ⟨_, h.w, rfl⟩, .inl ⟨_, h.g, rfl⟩, .inl ⟨_, ⟨h.l, h.ll, h.ls⟩, rfl⟩⟩
def r0 (k : Nat) : R := ⟨k, "a", "a", 0, []⟩
theorem okr {k : Nat} {o w : Str} {g : Int} {l : List Str} (hk : k < 3) (ho : o ∈ ons) (hw : w ∈ ows) (hg : g = 0 ∨ g = 1) (hl : l.Nodup ∧ l.length ≤ 4 ∧ ∀ x ∈ l, x ∈ lets) : R.Ok ⟨k, o, w, g, l⟩ := ⟨hk, ho, hw, hg, hl.1, hl.2.1, hl.2.2⟩
theorem nil_ok : ([] : List Str).Nodup ∧ ([] : List Str).length ≤ 4 ∧ ∀ x ∈ ([] : List Str), x ∈ lets := ⟨.nil, by decide, fun _ z => nomatch z⟩
theorem Mv.gd {k : Nat} {o w g l : Dt} (m : Mv k o w g l) : Gd o w g l := by
  refine ⟨?_, ?_, ?_, ?_⟩
  · rcases m.o with ⟨z, hz, rfl⟩ | h
    · exact (okr (k := 0) (by decide) hz (w := "a") (by decide) (.inl rfl) nil_ok).gd.o
    · exact h.1
  · rcases m.w with ⟨z, hz, rfl⟩ | h
    · exact (okr (k := 0) (by decide) (o := "a") (by decide) hz (.inl rfl) nil_ok).gd.w
    · exact h.1
  · rcases m.g with ⟨z, hz, rfl⟩ | h
    · rfl
    · exact h.1
  · rcases m.l with ⟨z, hz, rfl⟩ | h
    · exact (okr (k := 0) (by decide) (o := "a") (by decide) (w := "a") (by decide) (.inl rfl) hz).gd.l
    · exact h.1
theorem Mv.right {k : Nat} {o w g l : Dt} (m : Mv k o w g l) (c : Nat → Addr) (h : fault k o w g l = none) : ∃ r : R, r.Ok ∧ ∀ a, stD c k a o w g l = r.st c a := by
  unfold fault wrongD at h
  have hk := m.k
  have ho : ∃ z ∈ ons, o = .str z := by
    rcases m.o with ho | ⟨_, ho⟩
    · exact ho
    · rw [ho] at h
      simp only [if_pos] at h
      split at h <;> cases h
  obtain ⟨z, hz, rfl⟩ := ho
  have n1 := (okr (k := 0) (by decide) hz (w := "a") (by decide) (.inl rfl) nil_ok).fault
  have n1 : isName (.str z) = true := by
    cases e : isName (.str z) with
    | true => rfl
    | false => unfold K05.fault at n1; rw [if_pos rfl, if_pos e] at n1; cases n1
  rw [n1] at h
  by_cases e0 : k = 0
  · subst e0
    exact ⟨⟨0, z, "a", 0, []⟩, okr (by decide) hz (by decide) (.inl rfl) nil_ok, fun _ => rfl⟩
  · rw [if_neg e0, if_neg (by decide)] at h
    have hw : ∃ z ∈ ows, w = .str z := by
      rcases m.w with hw | ⟨_, hw⟩
      · exact hw
      · rw [hw, if_pos rfl] at h; cases h
    obtain ⟨y, hy, rfl⟩ := hw
    have n2 : isOwn (.str y) = true := by
      have := List.all_eq_true.mp ows_ok _ hy
      rw [Bool.and_eq_true] at this
      exact this.1
    rw [n2, if_neg (by decide)] at h
    have hl : ∃ z : List Str, (z.Nodup ∧ z.length ≤ 4 ∧ ∀ x ∈ z, x ∈ lets) ∧ l = lD z := by
      rcases m.l with hl | ⟨_, hl⟩
      · exact hl
      · rw [hl, if_pos rfl] at h
        generalize bitD _ = b at h
        cases b <;> cases h
    obtain ⟨x, hx, rfl⟩ := hl
    by_cases e1 : k = 1
    · rw [if_pos e1] at h
      have hg : ∃ i : Int, (i = 0 ∨ i = 1) ∧ g = .int i := by
        rcases m.g with hg | ⟨_, hg⟩
        · exact hg
        · rw [hg, if_pos rfl] at h; cases h
      obtain ⟨i, hi, rfl⟩ := hg
      subst e1
      exact ⟨⟨1, z, y, i, x⟩, okr (by decide) hz hy hi hx, fun _ => rfl⟩
    · obtain rfl : k = 2 := by omega
      exact ⟨⟨2, z, y, 0, x⟩, okr (by decide) hz hy (.inl rfl) hx, fun _ => rfl⟩
theorem fault_word {k : Nat} {o w g l : Dt} {z : Str} (h : fault k o w g l = some z) : PyData.strOk z = true := by
  have c : PyData.strOk "on" = true ∧ PyData.strOk "owner" = true ∧ PyData.strOk "gives" = true ∧ PyData.strOk "line" = true := by decide +kernel
  unfold fault wrongD at h
  generalize bitD _ = b3 at h
  generalize isName o = b1 at h
  generalize isOwn w = b2 at h
  generalize isRow l 4 = b4 at h
  by_cases e0 : k = 0
  · rw [if_pos e0] at h
    cases b1
    · cases h; exact c.1
    · cases h
  · rw [if_neg e0] at h
    cases b1
    · cases h; exact c.1
    · cases b2
      · cases h; exact c.2.1
      · cases b3
        · cases h; exact c.2.2.1
        · cases b4
          · cases h; exact c.2.2.2
          · cases h
theorem wrong_ok : PyData.strOk "wrong" = true := by decide +kernel
theorem bad_o : ∀ x ∈ ([.str "", .str "A", .non, .int 1, .tup [.str "a"]] : List Dt), shortD x = true ∧ isName x = false := by
  intro x hx
  simp only [List.mem_cons, List.not_mem_nil, or_false] at hx
  rcases hx with e | e | e | e | e <;> subst e <;> exact ⟨by decide +kernel, by decide +kernel⟩
theorem bad_w : ∀ x ∈ ([.str "shore", .str "", .non, .int 0] : List Dt), shortD x = true ∧ isOwn x = false := by
  intro x hx
  simp only [List.mem_cons, List.not_mem_nil, or_false] at hx
  rcases hx with e | e | e | e <;> subst e <;> exact ⟨by decide +kernel, by decide +kernel⟩
theorem bad_g : ∀ x ∈ ([.int 2, .int (-1), .bl true, .non, .str "0"] : List Dt), noTy x = true ∧ bitD x = false := by
  intro x hx
  simp only [List.mem_cons, List.not_mem_nil, or_false] at hx
  rcases hx with e | e | e | e | e <;> subst e <;> exact ⟨rfl, by decide +kernel⟩
theorem bad_l : ∀ x ∈ ([.lst [.str "a"], .tup [.str "a", .str "a"], .tup [.str "shore"], .str "a", .non, .tup [.str "a", .str "b", .str "c", .str "d", .str "e"]] : List Dt), thingD x = true ∧ isRow x 4 = false := by
  intro x hx
  simp only [List.mem_cons, List.not_mem_nil, or_false] at hx
  rcases hx with e | e | e | e | e | e <;> subst e <;> exact ⟨by decide +kernel, by decide +kernel⟩
/-- the row with another part -/
def R.its (r : R) : List Dt := [.int (r.k : Nat), .str r.o, .str r.w, .int r.g, lD r.l]
theorem near_set {r r2 : R} (ok : r.Ok) (ok2 : r2.Ok) {j : Nat} {x : Dt} (hx : r2.its[j]? = some x) : ∃ r' : R, r'.Ok ∧ Near r r' ∧ r.its.set j x = r'.its := by
  match j, hx with
  | 0, hx => cases hx; exact ⟨⟨r2.k, r.o, r.w, r.g, r.l⟩, ⟨ok2.k, ok.o, ok.w, ok.g, ok.l, ok.ll, ok.ls⟩, .k _, rfl⟩
  | 1, hx => cases hx; exact ⟨⟨r.k, r2.o, r.w, r.g, r.l⟩, ⟨ok.k, ok2.o, ok.w, ok.g, ok.l, ok.ll, ok.ls⟩, .o _, rfl⟩
  | 2, hx => cases hx; exact ⟨⟨r.k, r.o, r2.w, r.g, r.l⟩, ⟨ok.k, ok.o, ok2.w, ok.g, ok.l, ok.ll, ok.ls⟩, .w _, rfl⟩
  | 3, hx => cases hx; exact ⟨⟨r.k, r.o, r.w, r2.g, r.l⟩, ⟨ok.k, ok.o, ok.w, ok2.g, ok.l, ok.ll, ok.ls⟩, .g _, rfl⟩
  | 4, hx => cases hx; exact ⟨⟨r.k, r.o, r.w, r.g, r2.l⟩, ⟨ok.k, ok.o, ok.w, ok.g, ok2.l, ok2.ll, ok2.ls⟩, .l _, rfl⟩
theorem mv_set {k : Nat} {o w g l b1 b2 b3 b4 : Dt} (m : Mv k o w g l) (h1 : shortD b1 = true ∧ isName b1 = false) (h2 : shortD b2 = true ∧ isOwn b2 = false) (h3 : noTy b3 = true ∧ bitD b3 = false) (h4 : thingD b4 = true ∧ isRow b4 4 = false) {j : Nat} (hj : j < 4) :
    ∃ (x o' w' g' l' : Dt), [Dt.non, b1, b2, b3, b4][j + 1]? = some x ∧ Mv k o' w' g' l' ∧ ([Dt.int (k : Nat), o, w, g, l] : List Dt).set (j + 1) x = [.int (k : Nat), o', w', g', l'] := by
  match j, hj with
  | 0, _ => exact ⟨_, _, _, _, _, rfl, ⟨m.k, .inr h1, m.w, m.g, m.l⟩, rfl⟩
  | 1, _ => exact ⟨_, _, _, _, _, rfl, ⟨m.k, m.o, .inr h2, m.g, m.l⟩, rfl⟩
  | 2, _ => exact ⟨_, _, _, _, _, rfl, ⟨m.k, m.o, m.w, .inr h3, m.l⟩, rfl⟩
  | 3, _ => exact ⟨_, _, _, _, _, rfl, ⟨m.k, m.o, m.w, m.g, .inr h4⟩, rfl⟩
def rC : R := ⟨1, "a", "b", 0, []⟩
def rH : R := ⟨2, "a", "b", 0, []⟩
theorem rC_ok : rC.Ok := ⟨by decide, by decide, by decide, .inl rfl, .nil, by decide, fun _ z => nomatch z⟩
theorem rH_ok : rH.Ok := ⟨by decide, by decide, by decide, .inl rfl, .nil, by decide, fun _ z => nomatch z⟩
theorem fit_last : Fit (.lst [.int 0, .tup [], .tup []]) := by
  have z := (Sh.tup ShL.nil)
  exact (Sh.lst (ShL.cons ((Sh.int (i := 0) (b := 2) (by decide) (by decide) (by decide)).mono (Nat.zero_le 1) (Nat.le_refl _)) (ShL.cons z (ShL.cons z (ShL.nil.mono (Nat.zero_le 1) (Nat.le_refl _)))))).fit (by decide) (by decide)
section
variable {P : Program} {w : World} {K : PySem.W.Frag} {mg : Str → Option Value} {base : Heap} {c e : Nat → Addr} {cI cS eT eU : Addr} {f : Addr} {fd : FuncData}
theorem w_mkC (em : ∀ H, DX K H (.ref eT) (.tup [])) {ρ : List Sl} {Φ : Dt → List Sl → Prop} (h : ∀ a, Φ (rC.st c a) ρ) : Wp K false (tMake (c 1) (spMkX K (c 1) (WI cI 1)) (dI 1 eT) E0 (tCons (tC (V.str "a")) (tCons (tC (V.str "b")) tNil))) ρ Φ :=
  Wpx.wp (xk := fun _ _ _ => False) <| wx_makeD (pf := true) (des := [.int 0, .tup []]) (fun H => .cons (.int 0) (.one (em H))) (fun _ _ _ z => z.elim) <| wa_cons <| w_c (fun _ => .str _) <| wa_cons <| w_c (fun _ => .str _) <| wa_nil ⟨_, _, _, _, rfl, rC_ok.gd, fun _ a => h a, fun z hz => by rw [show K05.fault 1 (.str "a") (.str "b") (.int 0) (.tup []) = none from rC_ok.fault] at hz; cases hz⟩
theorem w_mkH (em : ∀ H, DX K H (.ref eU) (.tup [])) {ρ : List Sl} {Φ : Dt → List Sl → Prop} (h : ∀ a, Φ (rH.st c a) ρ) : Wp K false (tMake (c 2) (spMkX K (c 2) (WI cI 2)) (dI 2 eU) E0 (tCons (tC (V.str "a")) (tCons (tC (V.str "b")) tNil))) ρ Φ :=
  Wpx.wp (xk := fun _ _ _ => False) <| wx_makeD (pf := true) (des := [.tup []]) (fun H => .one (em H)) (fun _ _ _ z => z.elim) <| wa_cons <| w_c (fun _ => .str _) <| wa_cons <| w_c (fun _ => .str _) <| wa_nil ⟨.str "a", .str "b", .int 0, .tup [], rfl, rH_ok.gd, fun _ a => h a, fun z hz => by rw [show K05.fault 2 (.str "a") (.str "b") (.int 0) (.tup []) = none from rH_ok.fault] at hz; cases hz⟩
end
end K05

set_option maxHeartbeats 1000000
namespace K05
open PySem PySem.Spec PyProof.Rows L2 DL
section
variable {P : Program} {w : World} {K : PySem.W.Frag} {mg : Str → Option Value} {base : Heap} {c : Nat → Addr} {cI cS eT eU : Addr} {f : Addr} {fd : FuncData}
theorem ok_law (F : Fun K "law" "law" sLaw f fd) (B : Bt mg) (E4 : EqT K mg c cS) (G : Gets K c) (m1 : MkL K mg c cI eT 1 "Clamp") (m2 : MkL K mg c cI eU 2 "Holding") (em1 : ∀ H, DX K H (.ref eT) (.tup [])) (em2 : ∀ H, DX K H (.ref eU) (.tup []))
    (dPenOf : DF K mg "_law_pen_of" sPenOf ["_law_script"]) (gPenOf : FnG P w K mg base CX0 10 dPenOf.f dPenOf.fd ["_law_script"] (spPen K))
    (dDraw : DF K mg "_law_draw" sDraw ["_law_pen", "_law_many"]) (gDraw : FnG P w K mg base CX0 10 dDraw.f dDraw.fd ["_law_pen", "_law_many"] (spN K WDraw))
    (dPick : DF K mg "_law_pick" sPick ["_law_pen", "_law_some"]) (gPick : FnG P w K mg base CX0 10 dPick.f dPick.fd ["_law_pen", "_law_some"] (spN K WPick))
    (dParts : DF K mg "_law_parts" sParts ["_law_pen"]) (gParts : FnG P w K mg base CX0 10 dParts.f dParts.fd ["_law_pen"] (spN K WParts))
    (dMade : DF K mg "_law_made" sMade ["_law_some"]) (gMade : FnOk P w K mg base (L2.CX P w) 8 dMade.f dMade.fd ["_law_some"] (spX K (WMade c cI)))
    (dShown : DF K mg "_law_shown" sShown ["_law_station"]) (gShown : FnG P w K mg base CX0 10 dShown.f dShown.fd ["_law_station"] (spP K (WShown c)))
    (dDueOf : DF K mg "_law_due_of" sDueOf ["_law_some"]) (gDueOf : FnG P w K mg base CX0 10 dDueOf.f dDueOf.fd ["_law_some"] (spP K WDueOf))
    (dHandsRight : DF K mg "_law_hands_right" sHandsRight ["_law_pen", "_law_some", "_law_station"]) (gHandsRight : FnG P w K mg base CX0 10 dHandsRight.f dHandsRight.fd ["_law_pen", "_law_some", "_law_station"] (spN K (WHR c)))
    (dPropsRight : DF K mg "_law_props_right" sPropsRight ["_law_pen", "_law_some", "_law_station"]) (gPropsRight : FnG P w K mg base CX0 10 dPropsRight.f dPropsRight.fd ["_law_pen", "_law_some", "_law_station"] (spN K (WPR c)))
    (dHeard : DF K mg "_law_heard" sHeard ["_law_some"]) (gHeard : FnG P w K mg base CX0 10 dHeard.f dHeard.fd ["_law_some"] (spP K (WHeard c)))
    (dFault : DF K mg "_law_fault" sFault ["_law_some"]) (gFault : FnG P w K mg base CX0 10 dFault.f dFault.fd ["_law_some"] (spP K WFault)) :
    FnG P w K mg base CX0 11 f fd ["_law_script"] (spLaw K) := by
  refine okG F scLaw (fun vs H Q E ⟨a, ns, e, _⟩ => by rw [e]; rfl) fun cdv A outer s H vs Q E hr hg h => ?_
  have hr8 := hr.mono (show 8 ≤ 10 by decide)
  have hr7 := hr.mono (show 7 ≤ 10 by decide)
  have hr2 := hr.mono (show 2 ≤ 10 by decide)
  have hr1 := hr.mono (show 1 ≤ 10 by decide)
  refine ⟨_, pss_cons (ps_set (i := 1) scLaw.nd rfl (Or.inl rfl) (pe_callG gPenOf hr hg (by rfl) dPenOf.g dPenOf.F.kp dPenOf.b .nil pass0 (pa_cons (pv 0) pa_nil)))
    <| pss_cons (ps_for PassesOwn.never rfl (pi_range1 (by rfl) B.range (pa_cons (pe_op op_add pe_int (pe_callB (lenK K rfl) (by rfl) B.len PySem.boot_len (pa_cons (pe_slice (slK K rfl) (pv 0) po_none (po_some pe_int)) pa_nil))) pa_nil)) (pg_name (i := 2) scLaw.nd rfl (Or.inl rfl))
    (pss_cons (ps_set (i := 3) scLaw.nd rfl (Or.inl rfl) (pe_callG gParts hr hg (by rfl) dParts.g dParts.F.kp dParts.b .nil pass0 (pa_cons (pv 1) pa_nil)))
      <| pss_cons (ps_set (i := 4) scLaw.nd rfl (Or.inl rfl) (pe_call (E := E0) gMade hr8 (by rfl) dMade.g dMade.F.kp dMade.b .nil passN (pa_cons (pv 3) pa_nil)))
      <| pss_cons (ps_if (pt_cmpR op_ne (pe_callB (call_reprX hg hr.units) (by rfl) B.repr boot_repr (pa_cons (pe_callG gShown hr hg (by rfl) dShown.g dShown.F.kp dShown.b .nil pass0 (pa_cons (pv 4) pa_nil)) pa_nil)) (pe_callB (call_reprX hg hr.units) (by rfl) B.repr boot_repr (pa_cons (pe_callG gDueOf hr hg (by rfl) dDueOf.g dDueOf.F.kp dDueOf.b .nil pass0 (pa_cons (pv 3) pa_nil)) pa_nil)) (nomark _))
      (pss_one (ps_ret pe_bl))
      pss_nil)
      <| pss_cons (ps_if (PW.pt (pw_or (pt_not (pt_val (pe_callG gHandsRight hr hg (by rfl) dHandsRight.g dHandsRight.F.kp dHandsRight.b .nil pass0 (pa_cons (pv 1) (pa_cons (pv 3) (pa_cons (pv 4) pa_nil)))))) (pw_or1 (pt_not (pt_val (pe_callG gPropsRight hr hg (by rfl) dPropsRight.g dPropsRight.F.kp dPropsRight.b .nil pass0 (pa_cons (pv 1) (pa_cons (pv 3) (pa_cons (pv 4) pa_nil)))))))))
      (pss_one (ps_ret pe_bl))
      pss_nil)
      <| pss_cons (ps_set (i := 5) scLaw.nd rfl (Or.inl rfl) (pe_callTy (listK K rfl) (by rfl) B.list PyProof.Rows.boot_list (pa_cons (pv 3) pa_nil)))
      <| pss_cons (ps_set (i := 6) scLaw.nd rfl (Or.inl rfl) (pe_callG gDraw hr hg (by rfl) dDraw.g dDraw.F.kp dDraw.b .nil pass0 (pa_cons (pv 1) (pa_cons pe_int pa_nil))))
      <| pss_cons (ps_if (pt_cmpR op_lt (pv 6) pe_int (nomark _))
      (pss_one (ps_asg (pe_ix (ixK K rfl) (pe_callG gParts hr hg (by rfl) dParts.g dParts.F.kp dParts.b .nil pass0 (pa_cons (pv 1) pa_nil)) (pv 6) (fun _ _ => rfl)) (pg_sub (pv 5) (pv 6) set_list)))
      pss_nil)
      <| pss_cons (ps_set (i := 7) scLaw.nd rfl (Or.inl rfl) (pe_cmpR op_eq (pe_callB (call_reprX hg hr.units) (by rfl) B.repr boot_repr (pa_cons (pe_callG gDueOf hr hg (by rfl) dDueOf.g dDueOf.F.kp dDueOf.b .nil pass0 (pa_cons (pv 5) pa_nil)) pa_nil)) (pe_callB (call_reprX hg hr.units) (by rfl) B.repr boot_repr (pa_cons (pe_callG gDueOf hr hg (by rfl) dDueOf.g dDueOf.F.kp dDueOf.b .nil pass0 (pa_cons (pv 3) pa_nil)) pa_nil)) (nomark _)))
      <| pss_cons (ps_if (PW.pt (pw_or (pt_cmpR op_ne (pe_cmpR (E4.eq4 rfl rfl hr1) (pe_call (E := E0) gMade hr8 (by rfl) dMade.g dMade.F.kp dMade.b .nil passN (pa_cons (pv 5) pa_nil)) (pv 4) (nomark _)) (pv 7) (nomark _)) (pw_or1 (pt_cmpR (E4.eq4 rfl rfl hr1) (pv 4) (pe_callG gShown hr hg (by rfl) dShown.g dShown.F.kp dShown.b .nil pass0 (pa_cons (pv 4) pa_nil)) (nomark _)))))
      (pss_one (ps_ret pe_bl))
      pss_nil)
      <| pss_cons (ps_for PassesOwn.never rfl (pi_range1 (by rfl) B.range (pa_cons (pe_op op_add pe_int (pe_callG gDraw hr hg (by rfl) dDraw.g dDraw.F.kp dDraw.b .nil pass0 (pa_cons (pv 1) (pa_cons pe_int pa_nil)))) pa_nil)) (pg_name (i := 8) scLaw.nd rfl (Or.inl rfl))
      (pss_cons (ps_set (i := 9) scLaw.nd rfl (Or.inl rfl) (pe_lst (pa_cons pe_non (pa_cons (pe_callG gPick hr hg (by rfl) dPick.g dPick.F.kp dPick.b .nil pass0 (pa_cons (pv 1) (pa_cons (pe_lst (pa_cons pe_str (pa_cons pe_str (pa_cons pe_non (pa_cons pe_int (pa_cons (pe_tup (pa_cons pe_str pa_nil)) pa_nil)))))) pa_nil))) pa_nil))))
        <| pss_cons (ps_expr (pe_bm PySem.F.plainAttrs_list PySem.F.slot_list_append PySem.F.type_list_append mt_append (pv 9) (pa_cons (pe_callG gPick hr hg (by rfl) dPick.g dPick.F.kp dPick.b .nil pass0 (pa_cons (pv 1) (pa_cons (pe_lst (pa_cons pe_str (pa_cons pe_str (pa_cons pe_non (pa_cons pe_int pa_nil))))) pa_nil))) pa_nil)))
        <| pss_cons (ps_expr (pe_bm PySem.F.plainAttrs_list PySem.F.slot_list_append PySem.F.type_list_append mt_append (pv 9) (pa_cons (pe_callG gPick hr hg (by rfl) dPick.g dPick.F.kp dPick.b .nil pass0 (pa_cons (pv 1) (pa_cons (pe_lst (pa_cons pe_int (pa_cons (pe_un un_neg pe_int) (pa_cons pe_bl (pa_cons pe_non (pa_cons pe_str pa_nil)))))) pa_nil))) pa_nil)))
        <| pss_cons (ps_expr (pe_bm PySem.F.plainAttrs_list PySem.F.slot_list_append PySem.F.type_list_append mt_append (pv 9) (pa_cons (pe_callG gPick hr hg (by rfl) dPick.g dPick.F.kp dPick.b .nil pass0 (pa_cons (pv 1) (pa_cons (pe_lst (pa_cons (pe_lst (pa_cons pe_str pa_nil)) (pa_cons (pe_tup (pa_cons pe_str (pa_cons pe_str pa_nil))) (pa_cons (pe_tup (pa_cons pe_str pa_nil)) (pa_cons pe_str (pa_cons pe_non (pa_cons (pe_tup (pa_cons pe_str (pa_cons pe_str (pa_cons pe_str (pa_cons pe_str (pa_cons pe_str pa_nil)))))) pa_nil))))))) pa_nil))) pa_nil)))
        <| pss_cons (ps_set (i := 6) scLaw.nd rfl (Or.inl rfl) (pe_op op_add pe_int (pe_callG gDraw hr hg (by rfl) dDraw.g dDraw.F.kp dDraw.b .nil pass0 (pa_cons (pv 1) (pa_cons pe_int pa_nil)))))
        <| pss_one (ps_asg (pe_ix (ixK K rfl) (pv 9) (pv 6) (fun _ _ => rfl)) (pg_sub (pv 5) (pv 6) set_list))))
      <| pss_cons (ps_set (i := 10) scLaw.nd rfl (Or.inl rfl) (pe_callG gHeard hr hg (by rfl) dHeard.g dHeard.F.kp dHeard.b .nil pass0 (pa_cons (pv 5) pa_nil)))
      <| pss_cons (ps_set (i := 11) scLaw.nd rfl (Or.inl rfl) (pe_callG gFault hr hg (by rfl) dFault.g dFault.F.kp dFault.b .nil pass0 (pa_cons (pv 5) pa_nil)))
      <| pss_one (ps_if (PW.pt (pw_or (PW.pt (pw_and (pt_cmpR op_notN (pv 11) pe_non (nomark _)) (pw_and1 (pt_cmpR (neDK K rfl hr.units) (pv 10) (pe_tup (pa_cons pe_str (pa_cons (pv 11) pa_nil))) (nomark _))))) (pw_or1 (PW.pt (pw_and (pt_cmpR op_isN (pv 11) pe_non (nomark _)) (pw_and1 (pt_cmpR (E4.ne4 rfl rfl hr2) (pv 10) (pe_call (E := E0) gMade hr8 (by rfl) dMade.g dMade.F.kp dMade.b .nil passN (pa_cons (pv 5) pa_nil)) (nomark _))))))))
      (pss_one (ps_ret pe_bl))
      pss_nil)))
    <| pss_cons (ps_set (i := 10) scLaw.nd rfl (Or.inl rfl) (pe_lst (pa_cons (pe_get3 G.gi E4.T.kd rfl hr2 (m1.peD (E := E0) rfl rfl hr7 (by rfl) passN (pa_cons pe_str (pa_cons pe_str pa_nil)))) (pa_cons (pe_get3 G.li E4.T.kd rfl hr2 (m1.peD (E := E0) rfl rfl hr7 (by rfl) passN (pa_cons pe_str (pa_cons pe_str pa_nil)))) (pa_cons (pe_get3 G.li E4.T.kd rfl hr2 (m2.peD (E := E0) rfl rfl hr7 (by rfl) passN (pa_cons pe_str (pa_cons pe_str pa_nil)))) pa_nil)))))
    <| pss_one (ps_ret (pe_and (pe_cmpR op_eq (pe_callB (call_reprX hg hr.units) (by rfl) B.repr boot_repr (pa_cons (pv 10) pa_nil)) (pe_callB (call_reprX hg hr.units) (by rfl) B.repr boot_repr (pa_cons (pe_lst (pa_cons pe_int (pa_cons (pe_tup pa_nil) (pa_cons (pe_tup pa_nil) pa_nil)))) pa_nil)) (nomark _)) (pe_one (pe_cmpR (E4.ne4 rfl rfl hr2) (m2.peD (E := E0) rfl rfl hr7 (by rfl) passN (pa_cons pe_str (pa_cons pe_str pa_nil))) (m1.peD (E := E0) rfl rfl hr7 (by rfl) passN (pa_cons pe_str (pa_cons pe_str pa_nil))) (nomark _))))), ?_⟩
  obtain ⟨a0, ns, rfl, hS, hlen, q⟩ := h
  refine pen_head (N := NLaw) (k := 10) rfl (fun t ht => nomatch ht) hS hlen q ?_
  have hsc : ∃ sc, sc = Dt.lst (ns.map Dt.int) := ⟨_, rfl⟩
  obtain ⟨sc, hsc⟩ := hsc
  show Ws K _ [.dat (.lst (ns.map Dt.int)), .pen 0, .any, .any, .any, .any, .any, .any, .any, .any, .any, .any] _
  rw [← hsc]
  refine ws_seqI (fun ρ' => ∃ n', ρ' = [.dat sc, .pen n', .any, .any, .any, .any, .any, .any, .any, .any, .any, .any]) ?_ ?_
  · have e40 : (cutD (ns.map Dt.int) none (some (40 : Int))).length ≤ 40 := by
      have := cutD_to (ds := ns.map Dt.int) (n := 40) 40 rfl
      have h2 : (cutD (ns.map Dt.int) none (some ((40 : Nat) : Int))).length ≤ 40 := by rw [this, List.length_take]; omega
      exact h2
    refine ws_for (js := [2]) (fun ds i ρ' => ds.length ≤ 67 ∧ ∃ n', n' ≤ 100 * i ∧ ρ' = [.dat sc, .pen n', .any, .any, .any, .any, .any, .any, .any, .any, .any, .any]) <| wi_rng1 (pf := true) <| wa_cons <| w_op <| w_c (fun _ => .int 4) <| w_cb <| wa_cons <| w_sl <| w_var (d := .lst (ns.map Dt.int)) (by rw [hsc]; rfl) <| wo_none <| wo_some <| w_c (fun _ => .int 40) ⟨40, rfl, sd_list <| wa_nil <| rd_len rfl <| od_I0i <| wa_nil ⟨_, rfl, by omega, by omega, ⟨by rw [rangeD_len]; omega, 0, by omega, rfl⟩, ?_, ?_⟩⟩
    · rintro i d ρ2 hd ⟨hl, n', hn', rfl⟩
      have hi : i < 67 := by have := (List.getElem?_eq_some_iff.mp hd).1; omega
      refine wg_name ?_
      show Ws K _ [.dat sc, .pen n', .dat d, .any, .any, .any, .any, .any, .any, .any, .any, .any] _
      refine ws_seq <| ws_asg (pf := false) <| w_callN (i := 1) rfl <| wa_nil ⟨n', rfl, rfl, by omega, fun r ok => ?_⟩
      show Ws K _ [.dat sc, .pen (n' + 20), .dat d, .dat r.row, .any, .any, .any, .any, .any, .any, .any, .any] _
      refine ws_seq <| ws_asg (pf := true) <| w_made r ok <| w_var (d := r.row) rfl ⟨rfl, fun a => ?_⟩
      show Ws K _ [.dat sc, .pen (n' + 20), .dat d, .dat r.row, .dat (r.st c a), .any, .any, .any, .any, .any, .any, .any] _
      refine ws_seq <| ws_if (pf := true) <| wt_test <| w_op <| w_cb <| wa_cons <| w_call0 <| wa_cons <| w_var (d := r.st c a) rfl <| wa_nil ⟨a, r, rfl, ok.k, wa_nil <| rd_repr (fit_due ok) <| w_cb <| wa_cons <| w_call0 <| wa_cons <| w_var (d := r.row) rfl <| wa_nil ⟨r, rfl, ok.k, wa_nil <| rd_repr (fit_due ok) <| od_nes ⟨_, rfl, ?_⟩⟩⟩
      rw [decide_eq_true rfl]
      refine ifF <| ws_next <| ws_seq <| ws_if (pf := false) <| wt_or <| wt_not <| wt_B <| w_callN (i := 1) rfl <| wa_cons <| w_var (d := r.row) rfl <| wa_cons <| w_var (d := r.st c a) rfl <| wa_nil ⟨n' + 20, rfl, a, r, rfl, ok.k, by omega, _, rfl, ifF <| wt_not <| wt_B <| w_callN (i := 1) rfl <| wa_cons <| w_var (d := r.row) rfl <| wa_cons <| w_var (d := r.st c a) rfl <| wa_nil ⟨n' + 20 + 16, rfl, a, r, rfl, ok, by omega, _, rfl, ifF <| ws_next ?_⟩⟩
      show Ws K _ [.dat sc, .pen (n' + 20 + 16 + 10), .dat d, .dat r.row, .dat (r.st c a), .any, .any, .any, .any, .any, .any, .any] _
      refine ws_seq <| ws_own <| wl_list (pf := true) <| wa_cons <| w_var (d := r.row) rfl <| wa_nil ⟨_, r.its, rfl, rfl, by show 5 < 12; decide, ?_⟩
      show Ws K _ [.dat sc, .pen (n' + 20 + 16 + 10), .dat d, .dat r.row, .dat (r.st c a), .own r.its, .any, .any, .any, .any, .any, .any] _
      refine ws_seq <| ws_asg (pf := false) <| w_callN (i := 1) rfl <| wa_cons <| w_c (fun _ => .int _) <| wa_nil ⟨n' + 20 + 16 + 10, rfl, 6, rfl, by decide, by decide, by omega, fun j hj => ?_⟩
      show Ws K _ [.dat sc, .pen (n' + 20 + 16 + 10 + 1), .dat d, .dat r.row, .dat (r.st c a), .own r.its, .dat (.int (j : Nat)), .any, .any, .any, .any, .any] _
      refine ws_seqI (fun ρ' => ∃ n2 r', n2 ≤ n' + 67 ∧ R.Ok r' ∧ Near r r' ∧ ρ' = [.dat sc, .pen n2, .dat d, .dat r.row, .dat (r.st c a), .own r'.its, .dat (.int (j : Nat)), .any, .any, .any, .any, .any]) ?_ ?_
      · refine ws_if (pf := true) <| wt_test <| w_op <| w_var (d := .int (j : Nat)) rfl <| w_c (fun _ => .int 5) <| od_I0b ⟨_, rfl, ?_⟩
        by_cases c5 : ((j : Nat) : Int) < 5
        · rw [decide_eq_true c5]
          refine ifT <| ws_setitem (pf := false) (i := 5) (w_op <| w_callN (i := 1) rfl <| wa_nil ⟨n' + 20 + 16 + 10 + 1, rfl, rfl, by omega, fun r2 ok2 => w_var (d := .int (j : Nat)) rfl ?_⟩) rfl
          obtain ⟨x, hx⟩ : ∃ x, r2.its[j]? = some x := ⟨_, List.getElem?_eq_getElem (show j < 5 by omega)⟩
          obtain ⟨r', ok', nr, e⟩ := near_set ok ok2 hx
          refine od_ix (show seqD r2.row = some r2.its from rfl) (atI_nat' hx) <| w_var (d := .int (j : Nat)) rfl ⟨r.its, j, rfl, rfl, by show j < 5; omega, n' + 20 + 16 + 10 + 1 + 20, r', by omega, ok', nr, ?_⟩
          show [Sl.dat sc, .pen (n' + 20 + 16 + 10 + 1 + 20), .dat d, .dat r.row, .dat (r.st c a), .own (r.its.set j x), .dat (.int (j : Nat)), .any, .any, .any, .any, .any] = _
          rw [e]
        · rw [decide_eq_false c5]
          exact ifF <| ws_next ⟨_, r, by omega, ok, .same, rfl⟩
      · rintro ρ' ⟨n2, r', hn2, ok', nr, rfl⟩
        refine ws_seq <| ws_asg (pf := true) <| wp_thaw (i := 5) rfl <| w_op <| w_cb <| wa_cons <| w_call0 <| wa_cons <| w_var (d := r'.row) rfl <| wa_nil ⟨r', rfl, ok'.k, wa_nil <| rd_repr (fit_due ok') <| w_cb <| wa_cons <| w_call0 <| wa_cons <| w_var (d := r.row) rfl <| wa_nil ⟨r, rfl, ok.k, wa_nil <| rd_repr (fit_due ok) <| od_eqs ⟨rfl, ?_⟩⟩⟩
        rw [alike ok ok' nr]
        show Ws K _ [.dat sc, .pen n2, .dat d, .dat r.row, .dat (r.st c a), .own r'.its, .dat (.int (j : Nat)), .dat (.bl (eqR r' r)), .any, .any, .any, .any] _
        refine ws_seq <| ws_wk <| ws_if (pf := true) <| wt_thaw (i := 5) rfl <| wt_or <| wt_test <| w_op <| w_op <| w_made r' ok' <| w_var (d := r'.row) rfl ⟨rfl, fun b => w_var (d := r.st c a) rfl <| od_st E4 ok' ok <| w_var (d := .bl (eqR r' r)) rfl <| od_neb ⟨_, rfl, ?_⟩⟩
        rw [Bool.false_xor, decide_eq_true rfl]
        refine ifF <| wt_test <| w_op <| w_var (d := r.st c a) rfl <| w_call0 <| wa_cons <| w_var (d := r.st c a) rfl <| wa_nil ⟨a, r, rfl, ok.k, od_stL E4 ok ⟨_, rfl, ifF <| ws_next ⟨_, .keep <| .keep <| .keep <| .keep <| .keep <| .keep <| .drop <| .drop <| .drop <| .drop <| .drop <| .drop .nil, ?_⟩⟩⟩
        show Ws K _ [.dat sc, .pen n2, .dat d, .dat r.row, .dat (r.st c a), .own r'.its, .any, .any, .any, .any, .any, .any] _
        refine ws_seqI (fun ρ' => ∃ (n3 k : Nat) (o w g l : Dt), n3 ≤ n2 + 20 ∧ Mv k o w g l ∧ ρ' = [.dat sc, .pen n3, .dat d, .dat r.row, .dat (r.st c a), .own [.int (k : Nat), o, w, g, l], .any, .any, .any, .any, .any, .any]) ?_ ?_
        · refine ws_for (js := [8]) (fun ds i ρ' => ds.length ≤ 2 ∧ ∃ (n3 k : Nat) (o w g l : Dt), n3 ≤ n2 + 1 + 8 * i ∧ Mv k o w g l ∧ ρ' = [.dat sc, .pen n3, .dat d, .dat r.row, .dat (r.st c a), .own [.int (k : Nat), o, w, g, l], .any, .any, .any, .any, .any, .any]) <| wi_rng1 (pf := false) <| wa_cons <| w_op <| w_c (fun _ => .int _) <| w_callN (i := 1) rfl <| wa_cons <| w_c (fun _ => .int _) <| wa_nil ⟨n2, rfl, 2, rfl, by decide, by decide, by omega, fun x hx => od_I0i <| wa_nil ⟨_, rfl, by omega, by omega, ⟨by rw [rangeD_len]; omega, n2 + 1, r'.k, _, _, _, _, by omega, ok'.mv, rfl⟩, ?_, ?_⟩⟩
          · rintro i2 d2 ρ3 hd2 ⟨hl2, n3, k, o, w, g, l, hn3, mv, rfl⟩
            have hi2 : i2 < 2 := by have := (List.getElem?_eq_some_iff.mp hd2).1; omega
            refine wg_name ?_
            show Ws K _ [.dat sc, .pen n3, .dat d, .dat r.row, .dat (r.st c a), .own [.int (k : Nat), o, w, g, l], .any, .any, .dat d2, .any, .any, .any] _
            refine ws_seq <| ws_own <| wl_lst (pf := false) <| wa_cons <| w_c (fun _ => .non) <| wa_cons <| w_callN (i := 1) rfl <| wa_cons <| w_lst <| wa_cons <| w_c (fun _ => .str _) <| wa_cons <| w_c (fun _ => .str _) <| wa_cons <| w_c (fun _ => .non) <| wa_cons <| w_c (fun _ => .int _) <| wa_cons <| w_tup <| wa_cons <| w_c (fun _ => .str _) <| wa_nil ⟨by show 1 ≤ 100000; decide, wa_nil ⟨by show 5 ≤ 100000; decide, wa_nil ⟨n3, rfl, _, _, rfl, rfl, by show 0 < 5; decide, by show 5 ≤ 1000; decide, by omega, fun b1 hb1 => wa_nil ⟨by show 2 ≤ 100000; decide, by show 9 < 12; decide, ?_⟩⟩⟩⟩
            have z1 := bad_o b1 hb1
            show Ws K _ [.dat sc, .pen (n3 + 1), .dat d, .dat r.row, .dat (r.st c a), .own [.int (k : Nat), o, w, g, l], .any, .any, .dat d2, .own [.non, b1], .any, .any] _
            refine ws_seq <| ws_append (pf := false) (i := 9) (w_callN (i := 1) rfl <| wa_cons <| w_lst <| wa_cons <| w_c (fun _ => .str _) <| wa_cons <| w_c (fun _ => .str _) <| wa_cons <| w_c (fun _ => .non) <| wa_cons <| w_c (fun _ => .int _) <| wa_nil ⟨by show 4 ≤ 100000; decide, wa_nil ⟨n3 + 1, rfl, _, _, rfl, rfl, by show 0 < 4; decide, by show 4 ≤ 1000; decide, by omega, fun b2 hb2 => ⟨[.non, b1], rfl, by show 2 < 100000; decide, ?_⟩⟩⟩) rfl
            have z2 := bad_w b2 hb2
            show Ws K _ [.dat sc, .pen (n3 + 1 + 1), .dat d, .dat r.row, .dat (r.st c a), .own [.int (k : Nat), o, w, g, l], .any, .any, .dat d2, .own [.non, b1, b2], .any, .any] _
            refine ws_seq <| ws_append (pf := false) (i := 9) (w_callN (i := 1) rfl <| wa_cons <| w_lst <| wa_cons <| w_c (fun _ => .int _) <| wa_cons <| w_un <| w_c (fun _ => .int 1) <| ud_U <| wa_cons <| w_c (fun _ => .bl _) <| wa_cons <| w_c (fun _ => .non) <| wa_cons <| w_c (fun _ => .str _) <| wa_nil ⟨by show 5 ≤ 100000; decide, wa_nil ⟨n3 + 1 + 1, rfl, _, _, rfl, rfl, by show 0 < 5; decide, by show 5 ≤ 1000; decide, by omega, fun b3 hb3 => ⟨[.non, b1, b2], rfl, by show 3 < 100000; decide, ?_⟩⟩⟩) rfl
            have z3 := bad_g b3 hb3
            show Ws K _ [.dat sc, .pen (n3 + 1 + 1 + 1), .dat d, .dat r.row, .dat (r.st c a), .own [.int (k : Nat), o, w, g, l], .any, .any, .dat d2, .own [.non, b1, b2, b3], .any, .any] _
            refine ws_seq <| ws_append (pf := false) (i := 9) (w_callN (i := 1) rfl <| wa_cons <| w_lst <| wa_cons <| w_lst <| wa_cons <| w_c (fun _ => .str _) <| wa_nil ⟨by show 1 ≤ 100000; decide, wa_cons <| w_tup <| wa_cons <| w_c (fun _ => .str _) <| wa_cons <| w_c (fun _ => .str _) <| wa_nil ⟨by show 2 ≤ 100000; decide, wa_cons <| w_tup <| wa_cons <| w_c (fun _ => .str _) <| wa_nil ⟨by show 1 ≤ 100000; decide, wa_cons <| w_c (fun _ => .str _) <| wa_cons <| w_c (fun _ => .non) <| wa_cons <| w_tup <| wa_cons <| w_c (fun _ => .str _) <| wa_cons <| w_c (fun _ => .str _) <| wa_cons <| w_c (fun _ => .str _) <| wa_cons <| w_c (fun _ => .str _) <| wa_cons <| w_c (fun _ => .str _) <| wa_nil ⟨by show 5 ≤ 100000; decide, wa_nil ⟨by show 6 ≤ 100000; decide, wa_nil ⟨n3 + 1 + 1 + 1, rfl, _, _, rfl, rfl, by show 0 < 6; decide, by show 6 ≤ 1000; decide, by omega, fun b4 hb4 => ⟨[.non, b1, b2, b3], rfl, by show 4 < 100000; decide, ?_⟩⟩⟩⟩⟩⟩⟩) rfl
            have z4 := bad_l b4 hb4
            show Ws K _ [.dat sc, .pen (n3 + 1 + 1 + 1 + 1), .dat d, .dat r.row, .dat (r.st c a), .own [.int (k : Nat), o, w, g, l], .any, .any, .dat d2, .own [.non, b1, b2, b3, b4], .any, .any] _
            refine ws_seq <| ws_asg (pf := false) <| w_op <| w_c (fun _ => .int _) <| w_callN (i := 1) rfl <| wa_cons <| w_c (fun _ => .int _) <| wa_nil ⟨n3 + 1 + 1 + 1 + 1, rfl, 4, rfl, by decide, by decide, by omega, fun j2 hj2 => od_I0i ?_⟩
            have e1 : (1 : Int) + ((j2 : Nat) : Int) = ((j2 + 1 : Nat) : Int) := by omega
            rw [e1]
            obtain ⟨x, o', w', g', l', hx', mv', es⟩ := mv_set mv z1 z2 z3 z4 (j := j2) (by omega)
            refine ws_freeze (i := 9) rfl ?_
            show Ws K _ [.dat sc, .pen (n3 + 1 + 1 + 1 + 1 + 1), .dat d, .dat r.row, .dat (r.st c a), .own [.int (k : Nat), o, w, g, l], .dat (.int ((j2 + 1 : Nat) : Int)), .any, .dat d2, .dat (.lst [.non, b1, b2, b3, b4]), .any, .any] _
            refine ws_wk <| ws_setitem (pf := true) (i := 5) (w_op <| w_var (d := .lst [.non, b1, b2, b3, b4]) rfl <| w_var (d := .int ((j2 + 1 : Nat) : Int)) rfl <| od_ix rfl (atI_nat' hx') <| w_var (d := .int ((j2 + 1 : Nat) : Int)) rfl ⟨[.int (k : Nat), o, w, g, l], j2 + 1, rfl, rfl, by show j2 + 1 < 5; omega, _, .keep <| .keep <| .keep <| .keep <| .keep <| .keep <| .drop <| .drop <| .drop <| .drop <| .drop <| .drop .nil, hl2, n3 + 1 + 1 + 1 + 1 + 1, k, o', w', g', l', by omega, mv', ?_⟩) rfl
            show [Sl.dat sc, .pen (n3 + 1 + 1 + 1 + 1 + 1), .dat d, .dat r.row, .dat (r.st c a), .own (([.int (k : Nat), o, w, g, l] : List Dt).set (j2 + 1) x), .any, .any, .any, .any, .any, .any] = _
            rw [es]
          · rintro ρ3 ⟨hl2, n3, k, o, w, g, l, hn3, mv, rfl⟩
            exact ⟨n3, k, o, w, g, l, by omega, mv, rfl⟩
        · rintro ρ' ⟨n3, k, o, w, g, l, hn3, mv, rfl⟩
          refine ws_freeze (i := 5) rfl ?_
          show Ws K _ [.dat sc, .pen n3, .dat d, .dat r.row, .dat (r.st c a), .dat (rowD k o w g l), .any, .any, .any, .any, .any, .any] _
          cases hf : fault k o w g l with
          | none =>
            obtain ⟨r2, ok2, hst⟩ := mv.right c hf
            refine ws_seq <| ws_asg (pf := true) <| w_call0 <| wa_cons <| w_var (d := rowD k o w g l) rfl <| wa_nil ⟨k, o, w, g, l, rfl, mv.k, mv.gd, fun _ a1 => ?_, fun z hz => by rw [hf] at hz; cases hz⟩
            rw [hst a1]
            refine ws_seq <| ws_asg (pf := true) <| w_call0 <| wa_cons <| w_var (d := rowD k o w g l) rfl <| wa_nil ⟨k, o, w, g, l, rfl, mv.k, mv.gd, ?_⟩
            rw [hf]
            show Ws K _ [.dat sc, .pen n3, .dat d, .dat r.row, .dat (r.st c a), .dat (rowD k o w g l), .any, .any, .any, .any, .dat (r2.st c a1), .dat .non] _
            refine ws_wk <| ws_if (pf := true) <| wt_or <| wt_and <| wt_test <| w_op <| w_var (d := .non) rfl <| w_c (fun _ => .non) <| od_notN ⟨_, rfl, ifF <| ifF <| wt_and <| wt_test <| w_op <| w_var (d := .non) rfl <| w_c (fun _ => .non) <| od_isN ⟨_, rfl, ifT <| wt_test <| w_op <| w_var (d := r2.st c a1) rfl <| w_callX0 <| wa_cons <| w_var (d := rowD k o w g l) rfl <| wa_nil ⟨k, o, w, g, l, rfl, mv.k, mv.gd, fun _ a2 => ?_, fun z hz => by rw [hf] at hz; cases hz⟩⟩⟩
            rw [hst a2]
            refine od_st E4 ok2 ok2 ⟨_, rfl, ?_⟩
            rw [eqR_refl]
            exact ifF <| ws_next ⟨_, .keep <| .keep <| .drop <| .drop <| .drop <| .drop <| .drop <| .drop <| .drop <| .drop <| .drop <| .drop .nil, hl, n3, by omega, rfl⟩
          | some z =>
            have hz : ∀ x ∈ (["wrong", z] : List Str), PyData.strOk x = true := fun x hx => by
              rcases List.mem_cons.mp hx with e | e
              · rw [e]; exact wrong_ok
              · rw [List.mem_singleton.mp e]; exact fault_word hf
            refine ws_seq <| ws_asg (pf := true) <| w_call0 <| wa_cons <| w_var (d := rowD k o w g l) rfl <| wa_nil ⟨k, o, w, g, l, rfl, mv.k, mv.gd, fun hn _ => (by rw [hf] at hn; cases hn), fun z' hz' => ?_⟩
            rw [hf] at hz'
            cases hz'
            refine ws_seq <| ws_asg (pf := true) <| w_call0 <| wa_cons <| w_var (d := rowD k o w g l) rfl <| wa_nil ⟨k, o, w, g, l, rfl, mv.k, mv.gd, ?_⟩
            rw [hf]
            show Ws K _ [.dat sc, .pen n3, .dat d, .dat r.row, .dat (r.st c a), .dat (rowD k o w g l), .any, .any, .any, .any, .dat (lD ["wrong", z]), .dat (.str z)] _
            refine ws_wk <| ws_if (pf := true) <| wt_or <| wt_and <| wt_test <| w_op <| w_var (d := .str z) rfl <| w_c (fun _ => .non) <| od_notN ⟨_, rfl, ifT <| wt_test <| w_op <| w_var (d := lD ["wrong", z]) rfl <| w_tup <| wa_cons <| w_c (fun _ => .str _) <| wa_cons <| w_var (d := .str z) rfl <| wa_nil ⟨by show 2 ≤ 100000; decide, od_neV (d2 := lD ["wrong", z]) (b := true) (shp_lD hz).1 (shp_lD hz).1 (shp_lD hz).2 (shp_lD hz).2 ?_ ⟨_, rfl, ifF <| wt_and <| wt_test <| w_op <| w_var (d := .str z) rfl <| w_c (fun _ => .non) <| od_isN ⟨_, rfl, ifF <| ifF <| ws_next ⟨_, .keep <| .keep <| .drop <| .drop <| .drop <| .drop <| .drop <| .drop <| .drop <| .drop <| .drop <| .drop .nil, hl, n3, by omega, rfl⟩⟩⟩⟩⟩
            unfold lD
            simp only [Dt.py, PyData.eqv]
            rw [eqv_strs]
            exact decide_eq_true rfl
    · rintro ρ2 ⟨hl, n', hn', rfl⟩
      exact ⟨n', rfl⟩
  · rintro ρ' ⟨n', rfl⟩
    refine ws_seq <| ws_asg (pf := false) <| w_lst <| wa_cons <| w_get3 rC (by decide) <| w_mkC em1 fun a1 => ⟨⟨a1, rfl⟩, wa_cons <| w_get3 rC (by decide) <| w_mkC em1 fun a2 => ⟨⟨a2, rfl⟩, wa_cons <| w_get3 rH (by decide) <| w_mkH em2 fun a3 => ⟨⟨a3, rfl⟩, wa_nil ⟨by show 3 ≤ 100000; decide, ?_⟩⟩⟩⟩
    show Ws K _ [.dat sc, .pen n', .any, .any, .any, .any, .any, .any, .any, .any, .dat (.lst [.int 0, .tup [], .tup []]), .any] _
    refine ws_ret (pf := false) <| w_andV <| w_op <| w_cb <| wa_cons <| w_var (d := .lst [.int 0, .tup [], .tup []]) rfl <| wa_nil <| rd_repr fit_last <| w_cb <| wa_cons <| w_lst <| wa_cons <| w_c (fun _ => .int _) <| wa_cons <| w_tup <| wa_nil ⟨by decide, wa_cons <| w_tup <| wa_nil ⟨by decide, wa_nil ⟨by show 3 ≤ 100000; decide, wa_nil <| rd_repr fit_last <| od_eqs ⟨_, rfl, ?_⟩⟩⟩⟩
    rw [decide_eq_true rfl]
    refine ifT <| w_op <| w_mkH em2 fun a4 => w_mkC em1 fun a5 => od_st E4 rH_ok rC_ok ?_
    show Dt.bl (true ^^ eqR rH rC) = .bl true
    rw [show eqR rH rC = false from eqR_ne (by decide)]
    rfl
end
end K05

/-! Data level: C() of a class without an own __init__; zip of two lists; the facts of classes of instances as the top leaves them. -/
namespace DL
open PySem PySem.Spec PyProof.Rows L2
variable [Tb]

/-! ### C() where there is no own __init__ -/
structure Mk0 (K : PySem.W.Frag) (C : Addr) : Prop where
  makes : PySem.W.makesIn K C = true
  init : PySem.W.findIn K (.ref C) "__init__" = some (some (.builtin "object.__init__"))
  kp : PySem.W.keepIn K (.ref C) = true
def tMake0 (C : Addr) : TE := fun _ H Q => ∀ x dx, H x = none → H dx = none → dx ≠ x → Q (.ref x) (upd (upd H dx (.own x)) x (.ins C dx []))
section
variable {X : Cx} {C : Addr} {x : Str} {p pos : Pos}
theorem pe_make00 (M : Mk0 X.K C) (hg : Gl X x) (hm : X.mg x = some (.ref C)) (hdb : (x == ("__debug__" : Str)) = false := by decide) : PE X (.Call (.Name x p) [] [] pos) (tMake0 C) := by
  constructor
  intro pins s σ H Q I h
  refine wpAny_Call_Name_kw (ld_glob I hg hm ?_ hdb)
  refine PySem.W.callWith_K0 I.kIn M.kp (wpAny_call (make_map0 I.kIn M.makes M.init (fun self => PySem.W.Looks.of_pure (PySem.W.oi_bind self)) ?_))
  have I2 := Inv.made (C := C) I
  have k : ∀ b o, s.heap.get? b = some o → ((s.heap.push PySem.W.emptyDict).push (PySem.W.instObj C s.heap.objs.size)).get? b = some o := fun b o e => Heap.get?_push_of_some _ (Heap.get?_push_of_some _ e)
  have hx : ((s.heap.push PySem.W.emptyDict).push (PySem.W.instObj C s.heap.objs.size)).get? (s.heap.objs.size + 1) = some (PySem.W.instObj C s.heap.objs.size) := by
    have := Heap.get?_push_size (s.heap.push PySem.W.emptyDict) (o := PySem.W.instObj C s.heap.objs.size) rfl
    rwa [Heap.size_push] at this
  have top := (PySem.W.makes_of (M := model X.prog X.w) I.kIn M.makes).top
  have t1 : PySem.W.Looks (model X.prog X.w) ((s.heap.push PySem.W.emptyDict).push (PySem.W.instObj C s.heap.objs.size)) (typeOf (.ref (s.heap.objs.size + 1))) (.ref C) := (PySem.W.Looks.ld hx).andThen .now
  have t2 : PySem.W.Looks (model X.prog X.w) ((s.heap.push PySem.W.emptyDict).push (PySem.W.instObj C s.heap.objs.size)) (isInstance (.ref (s.heap.objs.size + 1)) (.type "object")) true := t1.andThen (top.keeps k)
  refine codeAny_call_builtin PySem.W.oi_plain PySem.W.entry_oi (@PySem.W.check_slot (model X.prog X.w) _ _ _ "object.__init__" "object" "__init__" (.ref (s.heap.objs.size + 1)) [] [] _ PySem.W.oi_kind PySem.W.oi_split t2 (PySem.W.oi_args (.ref (s.heap.objs.size + 1))) ?_)
  rw [PySem.W.oi_run]
  exact wpAny_pure (And.intro rfl ⟨V.ref (s.heap.objs.size + 1), _, I2, rfl, h _ _ (I.hok.fresh (Nat.le_succ _)) (I.hok.fresh (Nat.le_refl _)) (Nat.ne_of_lt (Nat.lt_succ_self _))⟩)
end
section
variable {K : PySem.W.Frag} {pf : Bool} {ρ : List Sl} {C : Addr} {Φ : Dt → List Sl → Prop}
theorem w_make00 (h : ∀ a, Φ (.ins C a [] []) ρ) : Wp K pf (tMake0 C) ρ Φ := fun M σ H S Q q x dx hx hdx ne => by
  have s1 : Same H (upd H dx (.own x)) := same_new hdx
  have hx1 : (upd H dx (.own x)) x = none := by rw [upd_ne ne.symm]; exact hx
  have s2 : Same (upd H dx (.own x)) (upd (upd H dx (.own x)) x (.ins C dx [])) := same_new hx1
  exact q (.ref x) _ (.ins C x [] []) ρ (Tr.same pf M (s1.trans s2)) (S.same (s1.trans s2)) (.ins (cut_at (S.mok.new hx) upd_same) rfl .nil) (h x)
end

/-! ### zip of two lists -/
def zipD (xs ys : List Dt) : List Dt := (xs.zip ys).map fun p => .tup [p.1, p.2]
section
variable {K : PySem.W.Frag} {ρ : List Sl} {tr : TA} {pf : Bool} {Ψ : List Dt → List Sl → Prop}
theorem wi_zip (h : Wa K pf tr ρ fun ds ρ1 => ∃ xs ys, ds = [.lst xs, .lst ys] ∧ Ψ (zipD xs ys) ρ1) : WI K pf (iZip K tr) ρ Ψ := fun M σ H S R r =>
  h M σ H S _ fun vs H1 ds ρ1 s1 S1 x1 ⟨xs, ys, e, f⟩ => by
    subst e
    obtain ⟨v, w, rfl, xv, xw⟩ := two_v x1
    cases xv with
    | @lst a us _ hs ha =>
      cases xw with
      | @lst b ws _ ht hb =>
        refine ⟨a, b, us, ws, rfl, (cut_sub M H1).seq hs, (cut_sub M H1).seq ht, r _ H1 (zipD xs ys) ρ1 s1 S1 ⟨min us.length ws.length, _, _, walk_zip rfl, ?_, ?_, ?_⟩ f⟩
        · unfold zipD; rw [List.length_map, List.length_zip, ha.len, hb.len]
        · intro M' H' s
          exact ⟨(cut_sub M' H').seq (s.seq hs), (cut_sub M' H').seq (s.seq ht)⟩
        · rintro M' H' i x H'' s m hi ⟨T, p, q, rfl, hT, rfl, h1, h2⟩
          obtain ⟨d1, e1, k1⟩ := ha.get h1
          obtain ⟨d2, e2, k2⟩ := hb.get h2
          have sn : Same H' (upd H' T (.tup [p, q])) := same_new hT
          exact ⟨sn, .tup [d1, d2], by unfold zipD; rw [List.getElem?_map, show (xs.zip ys)[i]? = some (d1, d2) from List.getElem?_zip_eq_some.mpr ⟨e1, e2⟩]; rfl, dx_new_t m hT (.cons (k1.mono s) (.cons (k2.mono s) .nil))⟩
end

/-! ### facts of classes and of their defs -/
/-- what is looked up of a class of instances: fl no attributes of it -/
def clq (K : PySem.W.Frag) (C : Addr) (fl : List Str) : Bool :=
  PySem.W.plainGet K C Str.empty && (PySem.W.hasDictIn K C && (PySem.W.plainOver K C && (PySem.W.findIn K (.ref C) "__setattr__" == some (some (.builtin "object.__setattr__")) && (PySem.W.findIn K (.ref C) "__class__" == some (some (.builtin "object.__class__"))
    && (PySem.W.mroIn K C (.type "object") == some true && (PySem.W.keepIn K (.ref C) && (PySem.W.makesIn K C && fl.all fun f => PySem.W.findIn K (.ref C) f == some none)))))))
structure Inst (K : PySem.W.Frag) (C : Addr) (fl : List Str) : Prop where
  c : Cls K C
  i : IsiC K C
  kp : PySem.W.keepIn K (.ref C) = true
  makes : PySem.W.makesIn K C = true
  no : ∀ f ∈ fl, NoAttr K C f
theorem inst_mk {K : PySem.W.Frag} {C : Addr} {fl : List Str} (b : clq K C fl = true) (gq : glq K = true) : Inst K C fl := by
  unfold clq at b
  simp only [Bool.and_eq_true] at b
  obtain ⟨b1, b2, b3, b4, b5, b6, b7, b8, b9⟩ := b
  unfold glq at gq
  simp only [Bool.and_eq_true] at gq
  have c : Cls K C := ⟨b1, b2, b3, beq_some b4⟩
  exact ⟨c, ⟨c, beq_some b5, beq_some gq.1, beq_some gq.2, beq_some b6⟩, b7, b8, fun f hf => beq_some (List.all_eq_true.mp b9 f hf)⟩
/-- a def found by a name in a class -/
inductive MFac (K : PySem.W.Frag) (C : Addr) (m qual : Str) (st : Stmt) (dvs : List V) (kws : List (Str × V)) : Prop
  | mk {f : Addr} {od an : Option Addr} {sl : Array (Option Value)} {oc dV kV dc pm cd ct : Value} (i : PySem.W.findIn K (.ref C) m = some (some (.ref f)))
      (l : K.lookup f = some ⟨oc, od, .func (PySem.W.fnOf m qual (defArgs st) (defBody st) (defScope st) dV kV dc pm an cd ct), sl⟩) (c : PySem.W.codeIn K cd qual = true) (ty : PySem.W.isFn K (.ref f) = true) (d : DflV K dV dvs) (k : KwdV K kV kws) : MFac K C m qual st dvs kws
section
variable {K : PySem.W.Frag} {C : Addr} {N : List Str} {W : List Dt → (List Str → List Dt → Prop) → Prop} {vs : List V} {H : Hp} {Q : VK} {E : XK} {tq : TS}
/-- an __init__ that stores its fields and does nothing else -/
theorem read_I0 (h : spMk K C W vs H Q E) (hl : vs.length ≤ N.length) (b : ∀ self ds Φ, ds.length + 1 = vs.length → W ds Φ → Fs K C tq (.dat (.cls self) :: slots ds (N.length - (ds.length + 1))) [] [] Φ) :
    tq { nx := fun _ H' => Q .non H', rt := Q } (L2.start N vs) H := read_I (tp := tNext) (tq := tq) h hl fun self ds Φ e w => ws_next ⟨rfl, b self ds Φ e w⟩
end
theorem pe_fldK {X : Cx} {e : Expr} {ta : TE} {f : Str} {pos : Pos} (K : PySem.W.Frag) (h : X.K = K) (he : PE X e ta) (hb : attributeBase e f X.env (eval e X.env) = eval e X.env := by rfl) : PE X (.Attribute e f pos) (tFld K ta f) := by
  subst h
  exact pe_fld he hb
section
variable {K : PySem.W.Frag} {pf : Bool} {ρ : List Sl} {te : TE} {tt : TT} {j : Nat} {Φ : List Dt → List Sl → Prop}
/-- a comprehension that filters and maps, whatever is walked -/
theorem lcI_fm (b : Dt → Bool) (f : Dt → Dt) {ds : List Dt} (e : ρ[j]? = some .any) (hz : ds.length ≤ 50000) (ht : ∀ d ∈ ds, Wt K pf tt (ρ.set j (.dat d)) fun c ρ2 => c = b d ∧ ρ2 = ρ.set j (.dat d))
    (he : ∀ d ∈ ds, b d = true → Wp K pf te (ρ.set j (.dat d)) fun y ρ3 => y = f d ∧ ρ3 = ρ.set j (.dat d)) (z : Φ ((ds.filter b).map f) ρ) : LcI K pf (gName j) [j] tt te [j] Φ ds ρ := by
  have w0 : wipeS ρ [j] = ρ := by
    show ρ.set j .any = ρ
    have := set_any (s := .any) e
    rw [List.set_set] at this
    exact this
  have w1 : ∀ d, wipeS (ρ.set j (.dat d)) [j] = ρ := fun d => set_any e
  refine ⟨⟨fun i acc ρ2 => ρ2 = ρ ∧ acc = ((ds.take i).filter b).map f, ⟨w0, rfl⟩, hz, fun i d acc ρ2 hd ⟨e2, ea⟩ => ?_, fun acc ρ2 ⟨e2, ea⟩ => by subst e2 ea; rw [List.take_length]; exact z⟩⟩
  subst e2 ea
  have hm := List.mem_of_getElem? hd
  have tk : ds.take (i + 1) = ds.take i ++ [d] := by rw [List.take_add_one, hd]; rfl
  refine wg_name ((ht d hm).imp fun c ρ4 ⟨ec, e4⟩ => ?_)
  subst e4
  cases c with
  | true =>
    rw [if_pos rfl]
    refine (he d hm ec.symm).imp fun y ρ5 ⟨ey, e5⟩ => ?_
    subst e5 ey
    refine ⟨w1 d, ?_⟩
    rw [tk, List.filter_append, List.map_append, show List.filter b [d] = [d] from by rw [List.filter_cons, if_pos ec.symm]; rfl]
    rfl
  | false =>
    rw [if_neg Bool.false_ne_true]
    refine ⟨w1 d, ?_⟩
    rw [tk, List.filter_append, List.map_append, show List.filter b [d] = [] from by rw [List.filter_cons, if_neg (by rw [← ec]; exact Bool.false_ne_true)]; rfl]
    simp
theorem lcI_m (f : Dt → Dt) {ds : List Dt} (e : ρ[j]? = some .any) (hz : ds.length ≤ 50000) (he : ∀ d ∈ ds, Wp K pf te (ρ.set j (.dat d)) fun y ρ3 => y = f d ∧ ρ3 = ρ.set j (.dat d)) (z : Φ (ds.map f) ρ) : LcI K pf (gName j) [j] tYes te [j] Φ ds ρ :=
  lcI_fm (fun _ => true) f e hz (fun d _ => wt_yes ⟨rfl, rfl⟩) (fun d hd _ => he d hd) (by rw [show ds.filter (fun _ => true) = ds from List.filter_eq_self.mpr fun _ _ => rfl]; exact z)
theorem cutD_from {ds : List Dt} (k : Nat) : cutD ds (some (k : Int)) none = ds.drop k := by
  unfold cutD
  rw [HT.sIx_none, HT.sIx_nat]
  by_cases c : k ≤ ds.length
  · rw [Nat.min_eq_left c, List.take_of_length_le (by rw [List.length_drop]; exact Nat.le_refl _)]
  · rw [Nat.min_eq_right (by omega), List.drop_eq_nil_of_le (Nat.le_refl _), List.drop_eq_nil_of_le (by omega), List.take_nil]
end
end DL

set_option maxHeartbeats 4000000
namespace K05
open PySem PySem.Spec PyProof.Rows L2 DL
/-- a def of a class as the top has left it -/
inductive CFn (K : PySem.W.Frag) (C : Addr) (m qual : Str) (st : Stmt) : Prop
  | mk {f : Addr} {od an : Option Addr} {sl : Array (Option Value)} {kV dc pm cd ct : Value} (i : PySem.W.findIn K (.ref C) m = some (some (.ref f)))
      (l : K.lookup f = some ⟨.type "function", od, .func (PySem.W.fnOf m qual (defArgs st) (defBody st) (defScope st) .none kV dc pm an cd ct), sl⟩) (c : PySem.W.codeIn K cd qual = true) : CFn K C m qual st
/-- the empty tuple among the constants -/
inductive Emp (K : PySem.W.Frag) (e : Addr) : Prop
  | mk {od : Option Addr} {n : Nat} {sl : Array (Option Value)} {its : Array Value} (l : K.lookup e = some ⟨.type "tuple", od, .seq its n, sl⟩) (z : its.toList = []) : Emp K e
/-- .. with defaults for one keyword that is a truth, or for two -/
inductive CPr (K : PySem.W.Frag) (C : Addr) (qual : Str) (st : Stmt) (e : Addr) : Prop
  | mk {f D : Addr} {od an : Option Addr} {sl : Array (Option Value)} {dc pm cd ct : Value} (i : PySem.W.findIn K (.ref C) "propped" = some (some (.ref f)))
      (l : K.lookup f = some ⟨.type "function", od, .func (PySem.W.fnOf "propped" qual (defArgs st) (defBody st) (defScope st) .none (.ref D) dc pm an cd ct), sl⟩) (c : PySem.W.codeIn K cd qual = true)
      (n1 : PySem.W.nsIn K D "on" = some (some (.bool false))) (n2 : PySem.W.nsIn K D "line" = some (some (.ref e))) (em : Emp K e) : CPr K C qual st e
inductive CIC (K : PySem.W.Frag) (C : Addr) (e : Addr) : Prop
  | mk {f D : Addr} {t : Tok} {od an : Option Addr} {sl : Array (Option Value)} {dc pm cd ct : Value} (i : PySem.W.findIn K (.ref C) "__init__" = some (some (.ref f)))
      (l : K.lookup f = some ⟨.type "function", od, .func (PySem.W.fnOf "__init__" "Clamp.__init__" (defArgs sClamp_init) (defBody sClamp_init) (defScope sClamp_init) .none (.ref D) dc pm an cd ct), sl⟩) (c : PySem.W.codeIn K cd "Clamp.__init__" = true)
      (n1 : PySem.W.nsIn K D "gives" = some (some (.int 0 t))) (n2 : PySem.W.nsIn K D "line" = some (some (.ref e))) (em : Emp K e) : CIC K C e
inductive CIH (K : PySem.W.Frag) (C : Addr) (e : Addr) : Prop
  | mk {f D : Addr} {od an : Option Addr} {sl : Array (Option Value)} {dc pm cd ct : Value} (i : PySem.W.findIn K (.ref C) "__init__" = some (some (.ref f)))
      (l : K.lookup f = some ⟨.type "function", od, .func (PySem.W.fnOf "__init__" "Holding.__init__" (defArgs sHolding_init) (defBody sHolding_init) (defScope sHolding_init) .none (.ref D) dc pm an cd ct), sl⟩) (c : PySem.W.codeIn K cd "Holding.__init__" = true)
      (n2 : PySem.W.nsIn K D "line" = some (some (.ref e))) (em : Emp K e) : CIH K C e
inductive CPp (K : PySem.W.Frag) (C : Addr) (x qual : Str) (st : Stmt) : Prop
  | mk {p g : Addr} {rest : List Value} {od an : Option Addr} {sl : Array (Option Value)} {kV dc pm cd ct : Value} (i : PySem.W.findIn K (.ref C) x = some (some (.ref p)))
      (gt : PySem.W.specialIn K (.ref p) "__get__" = some (some (.builtin "property.__get__"))) (tk : PySem.W.takesIn K (.ref p) = some true) (r : PySem.W.recIn K p "property" = some (.ref g :: rest))
      (l : K.lookup g = some ⟨.type "function", od, .func (PySem.W.fnOf x qual (defArgs st) (defBody st) (defScope st) .none kV dc pm an cd ct), sl⟩) (c : PySem.W.codeIn K cd qual = true) : CPp K C x qual st
theorem isFn_of {K : PySem.W.Frag} {f : Addr} {od : Option Addr} {g : Data} {sl : Array (Option Value)} (l : K.lookup f = some ⟨.type "function", od, g, sl⟩) : PySem.W.isFn K (.ref f) = true := by
  unfold PySem.W.isFn
  rw [typeIn_ref, l]
  rfl
theorem Emp.dx {K : PySem.W.Frag} {e : Addr} (h : Emp K e) (H : Hp) : DX K H (.ref e) (.tup []) := by
  cases h with
  | @mk od n sl its l z =>
    have zs : its.size = 0 := by rw [← Array.length_toList, z]; rfl
    exact .tup (.inr ⟨_, its, n, l, rfl, rfl, by rw [zs]; exact Nat.zero_le _, by rw [z]; exact .nil⟩) .nil
theorem iniInv {K : PySem.W.Frag} {mg : Str → Option Value} {B C : Addr} {nid : String} {tl : List Value} (m : Er K mg "InvalidStation" ["part"] B nid tl C) (f : IFac K C "InvalidStation.__init__" iInv) : Ini K C 1 (W1 "part") := by
  cases f with
  | mk i l c =>
    have F := fun_mk (st := iInv) l c (keep_fn l)
    exact ⟨_, _, _, i, by rw [typeIn_ref, l]; rfl, F.binds (fun _ _ _ _ _ _ us hl => match us, hl with | [_, _], _ => rfl), fun P w mg base => ok_ex1B F scInv rfl rfl rfl rfl rfl m.T (m.no _ (by simp))⟩
section
variable {K : PySem.W.Frag} {c e : Nat → Addr} {k : Nat} {mg : Str → Option Value}
theorem CPp.get {x qual : Str} {st : Stmt} {pr : Nat} (h : CPp K (c k) x qual st) (hb : ∀ (kV doc pm : Value) (an : Option Addr) (cdv ct : Value) (us : List Value), us.length = (["self"] : List Str).length → bindArgs (PySem.W.fnOf x qual (defArgs st) (defBody st) (defScope st) .none kV doc pm an cdv ct) ⟨us, []⟩ = pure ((["self"] : List Str).zip us))
    (ho : ∀ f fd, Fun K x qual st f fd → ∀ (P : Program) (w : World) (mg : Str → Option Value) (base : Heap), FnOk P w K mg base CX0 1 f fd ["self"] (spP K (WG c k pr))) : GetOf K c k pr x := by
  cases h with
  | mk i gt tk r l cc =>
    have F := fun_mk (st := st) l cc (keep_fn l)
    exact ⟨_, _, _, ⟨i, gt, tk, _, r⟩, F.binds hb, ho _ _ F⟩
theorem CFn.hand {qual : Str} {st : Stmt} (h : CFn K (c k) "handed" qual st) (hb : ∀ (kV doc pm : Value) (an : Option Addr) (cdv ct : Value) (a m d u s h : Value), bindArgs (PySem.W.fnOf "handed" qual (defArgs st) (defBody st) (defScope st) .none kV doc pm an cdv ct) ⟨[a, m], kHand.zip [d, u, s, h]⟩ = pure (pHand.zip [a, m, d, u, s, h]))
    (ho : ∀ f fd, Fun K "handed" qual st f fd → ∀ (P : Program) (w : World) (mg : Str → Option Value) (base : Heap), FnOk P w K mg base CX0 1 f fd pHand (spP K (WHand c k))) : HandOf K c k := by
  cases h with
  | mk i l cc =>
    have F := fun_mk (st := st) l cc (keep_fn l)
    refine ⟨_, _, fun us ws => us ++ ws, ⟨i, isFn_of l, keep_fn l⟩, ⟨fun s us ws _ h1 h2 => ?_, fun r rz => r.append rz⟩, ho _ _ F⟩
    match us, ws, h1, h2 with
    | [a, m], [d, u, s, h], _, _ => exact .of_eq (hb _ _ _ _ _ _ a m d u s h)
theorem CFn.eqo {qual : Str} {st : Stmt} (h : CFn K (c k) "__eq__" qual st) (ne : PySem.W.findIn K (.ref (c k)) "__ne__" = some (some (.builtin "object.__ne__"))) (ob : PySem.W.mroIn K (c k) (.type "object") = some true)
    (hb : ∀ (kV doc pm : Value) (an : Option Addr) (cdv ct : Value) (us : List Value), us.length = (["self", "other"] : List Str).length → bindArgs (PySem.W.fnOf "__eq__" qual (defArgs st) (defBody st) (defScope st) .none kV doc pm an cdv ct) ⟨us, []⟩ = pure ((["self", "other"] : List Str).zip us))
    (ho : ∀ f fd, Fun K "__eq__" qual st f fd → ∀ (P : Program) (w : World) (base : Heap), FnOk P w K mg base CX0 1 f fd ["self", "other"] (spP K (WEq c k))) : EqOf K mg c k := by
  cases h with
  | mk i l cc =>
    have F := fun_mk (st := st) l cc (keep_fn l)
    exact ⟨_, _, ⟨i, isFn_of l, ne, ob⟩, F.binds hb, ho _ _ F⟩
theorem CPr.pr {qual : Str} {st : Stmt} (h : CPr K (c k) qual st (e k)) (hb1 : ∀ (D : Addr) (doc pm : Value) (an : Option Addr) (cdv ct : Value) (a x y : Value), bindArgs (PySem.W.fnOf "propped" qual (defArgs st) (defBody st) (defScope st) .none (.ref D) doc pm an cdv ct) ⟨[a], kPr.zip [x, y]⟩ = pure (pPr.zip [a, x, y]))
    (hb2 : ∀ (D : Addr) (doc pm : Value) (an : Option Addr) (cdv ct : Value) (a x y : Value), KwChain D [("on", x), ("line", y)] (bindArgs (PySem.W.fnOf "propped" qual (defArgs st) (defBody st) (defScope st) .none (.ref D) doc pm an cdv ct) ⟨[a], []⟩) (pPr.zip [a, x, y]))
    (ho : ∀ f fd, Fun K "propped" qual st f fd → ∀ (P : Program) (w : World) (base : Heap), FnOk P w K mg base CX0 8 f fd pPr (spP K (WProp c k))) : PrOf K mg c e k := by
  cases h with
  | @mk f D od an sl dc pm cd ct i l cc n1 n2 em =>
    have F := fun_mk (st := st) l cc (keep_fn l)
    have FD : FunD K "propped" qual (defArgs st) (defBody st) (defScope st) [] [("on", .bl false), ("line", .ref (e k))] f _ := ⟨⟨_, _, _, _, _, _, _, _, _, _, rfl, l, cc, .inl ⟨rfl, rfl⟩, .inr ⟨D, rfl, fun q hq => by
      rcases List.mem_cons.mp hq with h | h
      · rw [h]; exact ⟨_, n1, rfl⟩
      · rw [List.mem_singleton.mp h]; exact ⟨_, n2, rfl⟩⟩⟩, keep_fn l⟩
    obtain ⟨ds, v, b⟩ := FD.binds0 (ps := pPr) 1 (by simp) rfl fun D doc pm an cdv ct us ks h1 h2 => by
      match us, ks, h1, h2 with
      | [a], [x, y], _, _ => exact hb2 D doc pm an cdv ct a x y
    refine ⟨⟨_, _, fun us ws => us ++ ws, ds, ⟨i, isFn_of l, keep_fn l⟩, ⟨fun s us ws _ h1 h2 => ?_, fun r rz => r.append rz⟩, v, b, ho _ _ F⟩, em.dx⟩
    match us, ws, h1, h2 with
    | [a], [x, y], _, _ => exact .of_eq (hb1 _ _ _ _ _ _ a x y)
end
def cOf (C0 C1 C2 : Addr) (i : Nat) : Addr := [C0, C1, C2].getD i 0
/-- what is looked up of the classes side by side -/
def stq (K : PySem.W.Frag) (C0 C1 C2 CS CI CD : Addr) : Bool :=
  (PySem.W.kitOne K (.ref C0) (.ref C0) == some true) && ((PySem.W.kitOne K (.ref C0) (.ref C1) == some false) && ((PySem.W.kitOne K (.ref C0) (.ref C2) == some false) && ((PySem.W.kitOne K (.ref C1) (.ref C0) == some false) && ((PySem.W.kitOne K (.ref C1) (.ref C1) == some true) && ((PySem.W.kitOne K (.ref C1) (.ref C2) == some false) && ((PySem.W.kitOne K (.ref C2) (.ref C0) == some false) && ((PySem.W.kitOne K (.ref C2) (.ref C1) == some true) && ((PySem.W.kitOne K (.ref C2) (.ref C2) == some true) && ((PySem.W.kitOne K (.ref C0) (.ref CS) == some true) && ((PySem.W.kitOne K (.ref C1) (.ref CS) == some true) && ((PySem.W.kitOne K (.ref C2) (.ref CS) == some true) && ((PySem.W.kitOne K (.type "list") (.ref C0) == some false) && ((PySem.W.kitOne K (.type "list") (.ref C1) == some false) && ((PySem.W.kitOne K (.type "list") (.ref C2) == some false) && (PySem.W.notFirst K C0 (.ref C0) && (PySem.W.notFirst K C0 (.ref C1) && (PySem.W.notFirst K C0 (.ref C2) && (PySem.W.notFirst K C1 (.ref C0) && (PySem.W.notFirst K C1 (.ref C1) && (PySem.W.notFirst K C2 (.ref C0) && (PySem.W.notFirst K C2 (.ref C1) && (PySem.W.notFirst K C2 (.ref C2) && (PySem.W.notFirst K C0 (.type "list") && (PySem.W.notFirst K C1 (.type "list") && (PySem.W.notFirst K C2 (.type "list") && ((PySem.W.subIn K (.ref C2) (.ref C1) == some true) && ((PySem.W.findIn K (.ref C0) "__ne__" == some (some (.builtin "object.__ne__"))) && ((PySem.W.findIn K (.ref C1) "__ne__" == some (some (.builtin "object.__ne__"))) && ((PySem.W.findIn K (.ref C2) "__ne__" == some (some (.builtin "object.__ne__"))) && ((PySem.W.mroIn K C0 (.type "object") == some true) && ((PySem.W.mroIn K C1 (.type "object") == some true) && ((PySem.W.mroIn K C2 (.type "object") == some true) && ((PySem.W.kitOne K (.ref CI) (.ref CI) == some true) && ((PySem.W.exmOne K (.ref CI) (.ref CD) == some true) && (!(C1 == C2))))))))))))))))))))))))))))))))))))
section
variable {l : PySem.W.OpenLaw} {w : World} {K : PySem.W.Frag} {h : Heap} {mg : Str → Option Value} {fa C0 C1 C2 CS CI CD B0 E0 E1 E2 E4 E5 : Addr} {t1 t2 : Tok}
theorem all_mk (X : K.In h) (G : h.Ns mainGlobals mg) (hfa : mg "law" = some (.ref fa)) (gq : glq K = true)
    (m1 : PySem.W.nsIn K mainGlobals "MOST_LETTERS" = some (some (.int 8 t1))) (m2 : PySem.W.nsIn K mainGlobals "MOST_IN_LEAD" = some (some (.int 4 t2)))
    (nS : PySem.W.nsIn K mainGlobals "Station" = some (some (.ref CS))) (n0 : PySem.W.nsIn K mainGlobals "Pass" = some (some (.ref C0))) (n1 : PySem.W.nsIn K mainGlobals "Clamp" = some (some (.ref C1))) (n2 : PySem.W.nsIn K mainGlobals "Holding" = some (some (.ref C2))) (nD : PySem.W.nsIn K mainGlobals "DuskError" = some (some (.ref CD)))
    (fI : CFac K "InvalidStation" ["part"] B0 "ValueError.__new__" tlV CI) (gI : IFac K CI "InvalidStation.__init__" iInv)
    (q0 : clq K C0 fl4 = true) (q1 : clq K C1 fl4 = true) (q2 : clq K C2 fl4 = true) (sq : stq K C0 C1 C2 CS CI CD = true)
    (i0 : CFn K C0 "__init__" "Pass.__init__" sPass_init) (i1 : CIC K C1 E4) (i2 : CIH K C2 E5)
    (p00 : CPp K C0 "on" "Pass.on" sPass_on) (p01 : CPp K C0 "owner" "Pass.owner" sPass_owner) (p02 : CPp K C0 "gives" "Pass.gives" sPass_gives) (p03 : CPp K C0 "line" "Pass.line" sPass_line) (h0 : CFn K C0 "handed" "Pass.handed" sPass_handed) (r0 : CPr K C0 "Pass.propped" sPass_propped E0) (e0 : CFn K C0 "__eq__" "Pass.__eq__" sPass_eq)
    (p10 : CPp K C1 "on" "Clamp.on" sClamp_on) (p11 : CPp K C1 "owner" "Clamp.owner" sClamp_owner) (p12 : CPp K C1 "gives" "Clamp.gives" sClamp_gives) (p13 : CPp K C1 "line" "Clamp.line" sClamp_line) (h1 : CFn K C1 "handed" "Clamp.handed" sClamp_handed) (r1 : CPr K C1 "Clamp.propped" sClamp_propped E1) (e1 : CFn K C1 "__eq__" "Clamp.__eq__" sClamp_eq)
    (p20 : CPp K C2 "on" "Holding.on" sHolding_on) (p21 : CPp K C2 "owner" "Holding.owner" sHolding_owner) (p22 : CPp K C2 "gives" "Holding.gives" sHolding_gives) (p23 : CPp K C2 "line" "Holding.line" sHolding_line) (h2 : CFn K C2 "handed" "Holding.handed" sHolding_handed) (r2 : CPr K C2 "Holding.propped" sHolding_propped E2) (e2 : CFn K C2 "__eq__" "Holding.__eq__" sHolding_eq)
    (z0 : PySem.W.nsIn K mainGlobals "isinstance" = some none) (z1 : PySem.W.nsIn K mainGlobals "int" = some none) (z2 : PySem.W.nsIn K mainGlobals "bool" = some none) (z3 : PySem.W.nsIn K mainGlobals "str" = some none) (z4 : PySem.W.nsIn K mainGlobals "tuple" = some none) (z5 : PySem.W.nsIn K mainGlobals "list" = some none) (z6 : PySem.W.nsIn K mainGlobals "len" = some none) (z7 : PySem.W.nsIn K mainGlobals "all" = some none) (z8 : PySem.W.nsIn K mainGlobals "set" = some none) (z9 : PySem.W.nsIn K mainGlobals "range" = some none) (z10 : PySem.W.nsIn K mainGlobals "abs" = some none) (z11 : PySem.W.nsIn K mainGlobals "repr" = some none) (z12 : PySem.W.nsIn K mainGlobals "enumerate" = some none) (z13 : PySem.W.nsIn K mainGlobals "sorted" = some none)
    (f0 : Fac K "is_integer" sInt) (f1 : Fac K "is_name" sNam) (f2 : Fac K "is_own_name" sOwn) (f3 : Fac K "is_name_row" sRow) (f4 : Fac K "is_lead" sLead) (f5 : Fac K "_wrong_part" sWrong) (f6 : Fac K "_place" sPlace) (f7 : Fac K "_left" sLeft) (f8 : Fac K "_law_pen_of" sPenOf) (f9 : Fac K "_law_draw" sDraw) (f10 : Fac K "_law_pick" sPick) (f11 : Fac K "_law_is_label" sIsLabel) (f12 : Fac K "_law_is_lane" sIsLane) (f13 : Fac K "_law_fault" sFault) (f14 : Fac K "_law_made" sMade) (f15 : Fac K "_law_heard" sHeard) (f16 : Fac K "_law_shown" sShown) (f17 : Fac K "_law_due_of" sDueOf) (f18 : Fac K "_law_lane" sLane) (f19 : Fac K "_law_parts" sParts) (f20 : Fac K "_law_due_mark" sDueMark) (f21 : Fac K "_law_hands_right" sHandsRight) (f22 : Fac K "_law_props_right" sPropsRight) (fL : Fac K "law" sLaw) :
    ∃ fd : FuncData, (∀ (s : Shared) (v : Value), BindsTo s fd ⟨[v], []⟩ [("_law_script", v)]) ∧ ∀ base : Heap, K.In base → base.Ns mainGlobals mg → FnG l.prog w K mg base CX0 11 fa fd ["_law_script"] (spLaw K) := by
  have B : Bt mg := ⟨PySem.W.mg_none_of X G z0, PySem.W.mg_none_of X G z1, PySem.W.mg_none_of X G z2, PySem.W.mg_none_of X G z3, PySem.W.mg_none_of X G z4, PySem.W.mg_none_of X G z5, PySem.W.mg_none_of X G z6, PySem.W.mg_none_of X G z7, PySem.W.mg_none_of X G z8, PySem.W.mg_none_of X G z9, PySem.W.mg_none_of X G z10, PySem.W.mg_none_of X G z11, PySem.W.mg_none_of X G z12, PySem.W.mg_none_of X G z13⟩
  obtain ⟨d0⟩ := f0.df (ps := ["value"]) X G fun _ _ _ _ _ _ us hl => match us, hl with | [_], _ => rfl
  obtain ⟨d1⟩ := f1.df (ps := ["value"]) X G fun _ _ _ _ _ _ us hl => match us, hl with | [_], _ => rfl
  obtain ⟨d2⟩ := f2.df (ps := ["value"]) X G fun _ _ _ _ _ _ us hl => match us, hl with | [_], _ => rfl
  obtain ⟨d3⟩ := f3.df (ps := ["value", "most"]) X G fun _ _ _ _ _ _ us hl => match us, hl with | [_, _], _ => rfl
  obtain ⟨d4⟩ := f4.df (ps := ["value"]) X G fun _ _ _ _ _ _ us hl => match us, hl with | [_], _ => rfl
  obtain ⟨d5⟩ := f5.df (ps := ["on", "owner", "gives", "line"]) X G fun _ _ _ _ _ _ us hl => match us, hl with | [_, _, _, _], _ => rfl
  obtain ⟨d6⟩ := f6.df (ps := ["place", "propped"]) X G fun _ _ _ _ _ _ us hl => match us, hl with | [_, _], _ => rfl
  obtain ⟨d7⟩ := f7.df (ps := ["line", "gone"]) X G fun _ _ _ _ _ _ us hl => match us, hl with | [_, _], _ => rfl
  obtain ⟨d8⟩ := f8.df (ps := ["_law_script"]) X G fun _ _ _ _ _ _ us hl => match us, hl with | [_], _ => rfl
  obtain ⟨d9⟩ := f9.df (ps := ["_law_pen", "_law_many"]) X G fun _ _ _ _ _ _ us hl => match us, hl with | [_, _], _ => rfl
  obtain ⟨d10⟩ := f10.df (ps := ["_law_pen", "_law_some"]) X G fun _ _ _ _ _ _ us hl => match us, hl with | [_, _], _ => rfl
  obtain ⟨d11⟩ := f11.df (ps := ["_law_thing", "_law_is_place"]) X G fun _ _ _ _ _ _ us hl => match us, hl with | [_, _], _ => rfl
  obtain ⟨d12⟩ := f12.df (ps := ["_law_thing"]) X G fun _ _ _ _ _ _ us hl => match us, hl with | [_], _ => rfl
  obtain ⟨d13⟩ := f13.df (ps := ["_law_some"]) X G fun _ _ _ _ _ _ us hl => match us, hl with | [_], _ => rfl
  obtain ⟨d14⟩ := f14.df (ps := ["_law_some"]) X G fun _ _ _ _ _ _ us hl => match us, hl with | [_], _ => rfl
  obtain ⟨d15⟩ := f15.df (ps := ["_law_some"]) X G fun _ _ _ _ _ _ us hl => match us, hl with | [_], _ => rfl
  obtain ⟨d16⟩ := f16.df (ps := ["_law_station"]) X G fun _ _ _ _ _ _ us hl => match us, hl with | [_], _ => rfl
  obtain ⟨d17⟩ := f17.df (ps := ["_law_some"]) X G fun _ _ _ _ _ _ us hl => match us, hl with | [_], _ => rfl
  obtain ⟨d18⟩ := f18.df (ps := ["_law_pen"]) X G fun _ _ _ _ _ _ us hl => match us, hl with | [_], _ => rfl
  obtain ⟨d19⟩ := f19.df (ps := ["_law_pen"]) X G fun _ _ _ _ _ _ us hl => match us, hl with | [_], _ => rfl
  obtain ⟨d20⟩ := f20.df (ps := ["_law_some", "_law_mark", "_law_flags", "_law_keeping"]) X G fun _ _ _ _ _ _ us hl => match us, hl with | [_, _, _, _], _ => rfl
  obtain ⟨d21⟩ := f21.df (ps := ["_law_pen", "_law_some", "_law_station"]) X G fun _ _ _ _ _ _ us hl => match us, hl with | [_, _, _], _ => rfl
  obtain ⟨d22⟩ := f22.df (ps := ["_law_pen", "_law_some", "_law_station"]) X G fun _ _ _ _ _ _ us hl => match us, hl with | [_, _, _], _ => rfl
  have T0 := inst_mk q0 gq
  have T1 := inst_mk q1 gq
  have T2 := inst_mk q2 gq
  unfold stq at sq
  simp only [Bool.and_eq_true, beq_iff_eq, Bool.not_eq_true', beq_eq_false_iff_ne] at sq
  obtain ⟨k00, k01, k02, k10, k11, k12, k20, k21, k22, kS0, kS1, kS2, kL0, kL1, kL2, nf00, nf01, nf02, nf10, nf11, nf20, nf21, nf22, nL0, nL1, nL2, sb, ne0, ne1, ne2, ob0, ob1, ob2, kI, xI, nC⟩ := sq
  have kd : ∀ k, k < 3 → Kd K (cOf C0 C1 C2) k := fun k hk => by
    match k, hk with
    | 0, _ => exact ⟨T0.i, T0.no⟩
    | 1, _ => exact ⟨T1.i, T1.no⟩
    | 2, _ => exact ⟨T2.i, T2.no⟩
  have T : IsT K mg (cOf C0 C1 C2) CS := by
    refine ⟨kd, fun k j hk hj => ?_, fun k hk => ?_, fun j hj => ?_, PySem.W.mg_of X G nS, PySem.W.mg_of X G n0, PySem.W.mg_of X G n1, PySem.W.mg_of X G n2⟩
    · match k, j, hk, hj with
      | 0, 0, _, _ => exact k00
      | 0, 1, _, _ => exact k01
      | 0, 2, _, _ => exact k02
      | 1, 0, _, _ => exact k10
      | 1, 1, _, _ => exact k11
      | 1, 2, _, _ => exact k12
      | 2, 0, _, _ => exact k20
      | 2, 1, _, _ => exact k21
      | 2, 2, _, _ => exact k22
    · match k, hk with
      | 0, _ => exact kS0
      | 1, _ => exact kS1
      | 2, _ => exact kS2
    · match j, hj with
      | 0, _ => exact kL0
      | 1, _ => exact kL1
      | 2, _ => exact kL2
  have Gt : Gets K (cOf C0 C1 C2) := by
    refine ⟨fun k hk => ?_, fun k hk => ?_, fun k hk => ?_, fun k hk => ?_⟩
    · match k, hk with
      | 0, hk => exact p00.get (fun _ _ _ _ _ _ us hl => match us, hl with | [_], _ => rfl) fun f fd F P w mg base => okPass_on F (kd _ hk)
      | 1, hk => exact p10.get (fun _ _ _ _ _ _ us hl => match us, hl with | [_], _ => rfl) fun f fd F P w mg base => okClamp_on F (kd _ hk)
      | 2, hk => exact p20.get (fun _ _ _ _ _ _ us hl => match us, hl with | [_], _ => rfl) fun f fd F P w mg base => okHolding_on F (kd _ hk)
    · match k, hk with
      | 0, hk => exact p01.get (fun _ _ _ _ _ _ us hl => match us, hl with | [_], _ => rfl) fun f fd F P w mg base => okPass_owner F (kd _ hk)
      | 1, hk => exact p11.get (fun _ _ _ _ _ _ us hl => match us, hl with | [_], _ => rfl) fun f fd F P w mg base => okClamp_owner F (kd _ hk)
      | 2, hk => exact p21.get (fun _ _ _ _ _ _ us hl => match us, hl with | [_], _ => rfl) fun f fd F P w mg base => okHolding_owner F (kd _ hk)
    · match k, hk with
      | 0, hk => exact p02.get (fun _ _ _ _ _ _ us hl => match us, hl with | [_], _ => rfl) fun f fd F P w mg base => okPass_gives F (kd _ hk)
      | 1, hk => exact p12.get (fun _ _ _ _ _ _ us hl => match us, hl with | [_], _ => rfl) fun f fd F P w mg base => okClamp_gives F (kd _ hk)
      | 2, hk => exact p22.get (fun _ _ _ _ _ _ us hl => match us, hl with | [_], _ => rfl) fun f fd F P w mg base => okHolding_gives F (kd _ hk)
    · match k, hk with
      | 0, hk => exact p03.get (fun _ _ _ _ _ _ us hl => match us, hl with | [_], _ => rfl) fun f fd F P w mg base => okPass_line F (kd _ hk)
      | 1, hk => exact p13.get (fun _ _ _ _ _ _ us hl => match us, hl with | [_], _ => rfl) fun f fd F P w mg base => okClamp_line F (kd _ hk)
      | 2, hk => exact p23.get (fun _ _ _ _ _ _ us hl => match us, hl with | [_], _ => rfl) fun f fd F P w mg base => okHolding_line F (kd _ hk)
  have Hd : ∀ k, k < 3 → HandOf K (cOf C0 C1 C2) k := fun k hk => by
    match k, hk with
    | 0, hk => exact h0.hand (fun _ _ _ _ _ _ _ _ _ _ _ _ => rfl) fun f fd F P w mg base => okPass_handed F
    | 1, hk => exact h1.hand (fun _ _ _ _ _ _ _ _ _ _ _ _ => rfl) fun f fd F P w mg base => okClamp_handed F
    | 2, hk => exact h2.hand (fun _ _ _ _ _ _ _ _ _ _ _ _ => rfl) fun f fd F P w mg base => okHolding_handed F
  have Eq : ∀ k, k < 3 → EqOf K mg (cOf C0 C1 C2) k := fun k hk => by
    match k, hk with
    | 0, hk => exact e0.eqo ne0 ob0 (fun _ _ _ _ _ _ us hl => match us, hl with | [_, _], _ => rfl) fun f fd F P w base => ok_eqP F B T
    | 1, hk => exact e1.eqo ne1 ob1 (fun _ _ _ _ _ _ us hl => match us, hl with | [_, _], _ => rfl) fun f fd F P w base => ok_eqC F B T
    | 2, hk => exact e2.eqo ne2 ob2 (fun _ _ _ _ _ _ us hl => match us, hl with | [_, _], _ => rfl) fun f fd F P w base => ok_eqH F B T
  have E4' : EqT K mg (cOf C0 C1 C2) CS := by
    refine ⟨T, Eq, fun i j hi hj hn => ?_, fun i hi => ?_, nC, sb⟩
    · match i, j, hi, hj, hn with
      | 0, 0, _, _, _ => exact nf00
      | 0, 1, _, _, _ => exact nf01
      | 0, 2, _, _, _ => exact nf02
      | 1, 0, _, _, _ => exact nf10
      | 1, 1, _, _, _ => exact nf11
      | 1, 2, _, _, hn => exact absurd ⟨rfl, rfl⟩ hn
      | 2, 0, _, _, _ => exact nf20
      | 2, 1, _, _, _ => exact nf21
      | 2, 2, _, _, _ => exact nf22
    · match i, hi with
      | 0, _ => exact nL0
      | 1, _ => exact nL1
      | 2, _ => exact nL2
  have er := CFac.er (k := 0) fI X G gq
  have ini := iniInv er gI
  have eX : K05.Exc K mg CI CD := ⟨er.g, PySem.W.mg_of X G nD, er.X, er.no _ (by simp), er.I, kI, xI⟩
  have aI : ∀ (P : Program) (w : World) (base : Heap), FnOk P w K mg base CX0 1 d0.f d0.fd ["value"] (spP K WInt) := fun P w base => ok_int d0.F B
  have aN : ∀ (P : Program) (w : World) (base : Heap), FnOk P w K mg base CX0 1 d1.f d1.fd ["value"] (spP K WNam) := fun P w base => ok_nam d1.F B (PySem.W.mg_of X G m1)
  have aO : ∀ (P : Program) (w : World) (base : Heap), FnOk P w K mg base CX0 2 d2.f d2.fd ["value"] (spP K WOwn) := fun P w base => ok_own d2.F d1.F d1.b d1.g (aN P w base)
  have aR : ∀ (P : Program) (w : World) (base : Heap), FnOk P w K mg base CX0 3 d3.f d3.fd ["value", "most"] (spP K WRow) := fun P w base => ok_row d3.F d2.F d2.b d2.g B (aO P w base)
  have aL : ∀ (P : Program) (w : World) (base : Heap), FnOk P w K mg base CX0 4 d4.f d4.fd ["value"] (spP K WLead) := fun P w base => ok_lead d4.F d3.F d3.b d3.g (PySem.W.mg_of X G m2) (aR P w base)
  have aW : ∀ (P : Program) (w : World) (base : Heap), FnOk P w K mg base CX0 5 d5.f d5.fd ["on", "owner", "gives", "line"] (spP K WWrong) := fun P w base => ok_wrong d5.F d0 d1 d2 d4 ((aI P w base).mono (by decide)) ((aN P w base).mono (by decide)) ((aO P w base).mono (by decide)) (aL P w base)
  have aP : ∀ (P : Program) (w : World) (base : Heap), FnOk P w K mg base CX0 1 d6.f d6.fd ["place", "propped"] (spP K WPlace) := fun P w base => ok_place d6.F
  have aF : ∀ (P : Program) (w : World) (base : Heap), FnOk P w K mg base CX0 1 d7.f d7.fd ["line", "gone"] (spP K WLeft) := fun P w base => ok_left d7.F B B.enumerate
  have M0 : MkP K mg (cOf C0 C1 C2) CI := by
    cases i0 with
    | mk i l cc =>
      have F := fun_mk (st := sPass_init) l cc (keep_fn l)
      exact ⟨_, _, ⟨T0.makes, i, isFn_of l, T0.kp⟩, PySem.W.mg_of X G n0, F.binds (fun _ _ _ _ _ _ us hl => match us, hl with | [_, _], _ => rfl), fun P w base => ok_initP (k := 3) F (kd 0 (by decide)) d1 ((aN P w base).mono (by decide)) er ini⟩
  have M1 : MkL K mg (cOf C0 C1 C2) CI E4 1 "Clamp" ∧ Emp K E4 := by
    cases i1 with
    | @mk f D t od an sl dc pm cd ct i l cc k1 k2 em =>
      have F := fun_mk (st := sClamp_init) l cc (keep_fn l)
      have FD : FunD K "__init__" "Clamp.__init__" (defArgs sClamp_init) (defBody sClamp_init) (defScope sClamp_init) [] [("gives", .int 0), ("line", .ref E4)] f _ := ⟨⟨_, _, _, _, _, _, _, _, _, _, rfl, l, cc, .inl ⟨rfl, rfl⟩, .inr ⟨D, rfl, fun q hq => by
        rcases List.mem_cons.mp hq with h | h
        · rw [h]; exact ⟨_, k1, ⟨t, rfl⟩⟩
        · rw [List.mem_singleton.mp h]; exact ⟨_, k2, rfl⟩⟩⟩, keep_fn l⟩
      obtain ⟨ds, v, b⟩ := FD.binds0 (ps := pI 1) 3 (by simp) rfl fun D doc pm an cdv ct us ks h1 h2 => by
        match us, ks, h1, h2 with
        | [_, _, _], [_, _], _, _ => exact ⟨_, _, _, _, _, _, rfl, rfl, _, _, _, _, _, _, rfl, rfl, rfl⟩
      refine ⟨⟨_, _, fun us ws => us ++ ws, ds, ⟨T1.makes, i, isFn_of l, T1.kp⟩, PySem.W.mg_of X G n1, ⟨fun s us ws _ h1 h2 => ?_, fun r rz => r.append rz⟩, v, b, fun P w base => ok_initC (k := 3) F (kd 1 (by decide)) d5 (aW P w base) er ini⟩, em⟩
      match us, ws, h1, h2 with
      | [_, _, _], [_, _], _, _ => exact .of_eq rfl
  have M2 : MkL K mg (cOf C0 C1 C2) CI E5 2 "Holding" ∧ Emp K E5 := by
    cases i2 with
    | @mk f D od an sl dc pm cd ct i l cc k2 em =>
      have F := fun_mk (st := sHolding_init) l cc (keep_fn l)
      have FD : FunD K "__init__" "Holding.__init__" (defArgs sHolding_init) (defBody sHolding_init) (defScope sHolding_init) [] [("line", .ref E5)] f _ := ⟨⟨_, _, _, _, _, _, _, _, _, _, rfl, l, cc, .inl ⟨rfl, rfl⟩, .inr ⟨D, rfl, fun q hq => by
        rw [List.mem_singleton.mp hq]; exact ⟨_, k2, rfl⟩⟩⟩, keep_fn l⟩
      obtain ⟨ds, v, b⟩ := FD.binds0 (ps := pI 2) 3 (by simp) rfl fun D doc pm an cdv ct us ks h1 h2 => by
        match us, ks, h1, h2 with
        | [_, _, _], [_], _, _ => exact ⟨_, _, _, _, _, _, rfl, rfl, rfl⟩
      refine ⟨⟨_, _, fun us ws => us ++ ws, ds, ⟨T2.makes, i, isFn_of l, T2.kp⟩, PySem.W.mg_of X G n2, ⟨fun s us ws _ h1 h2 => ?_, fun r rz => r.append rz⟩, v, b, fun P w base => ok_initH (k := 3) F (kd 2 (by decide)) d5 (aW P w base) er ini⟩, em⟩
      match us, ws, h1, h2 with
      | [_, _, _], [_], _, _ => exact .of_eq rfl
  obtain ⟨M1, em1⟩ := M1
  obtain ⟨M2, em2⟩ := M2
  have Pr : ∀ k, k < 3 → PrOf K mg (cOf C0 C1 C2) (cOf E0 E1 E2) k := fun k hk => by
    match k, hk with
    | 0, hk => exact CPr.pr (e := cOf E0 E1 E2) r0 (fun _ _ _ _ _ _ _ _ _ => rfl) (fun _ _ _ _ _ _ _ _ _ => ⟨_, _, _, _, _, _, rfl, rfl, _, _, _, _, _, _, rfl, rfl, rfl⟩) fun f fd F P w base => ok_propP F (kd _ hk) M0 d6 ((aP P w base).mono (by decide))
    | 1, hk => exact CPr.pr (e := cOf E0 E1 E2) r1 (fun _ _ _ _ _ _ _ _ _ => rfl) (fun _ _ _ _ _ _ _ _ _ => ⟨_, _, _, _, _, _, rfl, rfl, _, _, _, _, _, _, rfl, rfl, rfl⟩) fun f fd F P w base => ok_propC F (kd _ hk) M1 d6 ((aP P w base).mono (by decide)) d7 ((aF P w base).mono (by decide))
    | 2, hk => exact CPr.pr (e := cOf E0 E1 E2) r2 (fun _ _ _ _ _ _ _ _ _ => rfl) (fun _ _ _ _ _ _ _ _ _ => ⟨_, _, _, _, _, _, rfl, rfl, _, _, _, _, _, _, rfl, rfl, rfl⟩) fun f fd F P w base => ok_propH F (kd _ hk) M2 d6 ((aP P w base).mono (by decide)) d7 ((aF P w base).mono (by decide))
  cases fL with
  | @mk f od an sl oc kV dc pm cd ct aL lL cL kL =>
    have e := hfa.symm.trans (PySem.W.mg_of X G aL)
    cases e
    have FL := fun_mk (st := sLaw) lL cL kL
    refine ⟨PySem.W.fnOf "law" "law" (defArgs sLaw) (defBody sLaw) (defScope sLaw) .none kV dc pm an cd ct, fun s v => .of_eq rfl, fun base _ _ => ?_⟩
    have y1 := ok_penOf (P := l.prog) (w := w) (base := base) d8.F B
    have y2 := ok_draw (P := l.prog) (w := w) (base := base) d9.F B
    have y3 := ok_pick d10.F d9.F d9.b d9.g B y2
    have y4 := ok_label (P := l.prog) (w := w) (base := base) d11.F B
    have y5 := ok_lane d12.F B d11 y4
    have y6 := ok_fault d13.F B d11 (y4.mono (show 1 ≤ 2 by decide)) d12 y5
    have y7 := ok_made (P := l.prog) (w := w) (base := base) d14.F M0 M1 M2
    have y8 := ok_heard d15.F B eX d14 y7
    have y9 := ok_shown (P := l.prog) (w := w) (base := base) d16.F B T Gt
    have y10 := ok_dueOf (P := l.prog) (w := w) (base := base) (mg := mg) d17.F
    have y11 := ok_laneN d18.F B d9 y2
    have y12 := ok_parts d19.F d9 (y2.mono (show 1 ≤ 2 by decide)) d10 y3 d18 y11
    have y13 := ok_dueMark (P := l.prog) (w := w) (base := base) (mg := mg) d20.F
    have y14 := ok_hands d21.F B T Hd d10 y3 d20 ((FnG.of y13).mono (show 1 ≤ 2 by decide)) (by decide)
    have y15 := ok_props d22.F B E4' Pr d9 (y2.mono (by decide)) d14 y7 d16 (y9.mono (by decide)) d17 ((FnG.of y10).mono (by decide))
    exact ok_law FL B E4' Gt M1 M2 em1.dx em2.dx d8 (y1.mono (by decide)) d9 (y2.mono (by decide)) d10 (y3.mono (by decide)) d19 (y12.mono (by decide)) d14 y7 d16 (y9.mono (by decide)) d17 ((FnG.of y10).mono (by decide)) d21 (y14.mono (by decide)) d22 y15 d15 (y8.mono (by decide)) d13 (y6.mono (by decide))
end
end K05

/-! The head of a law, its defs called with no guard held: what is told of the heap there is the script, and the empty tables of code objects of the defs that make lambdas. -/
namespace DL
open PySem PySem.Spec PyProof.Rows L2 LamX
/-- where a law's call begins; cs: code objects and their tables -/
structure Start (K : PySem.W.Frag) (mg mb : Str → Option Value) (s : Shared) (cs : List (Addr × Addr)) (a : Addr) (vs : List Value) (ns : List Int) : Prop where
  kIn : K.In s.heap
  gl : s.heap.Ns mainGlobals mg
  bl : s.heap.Ns builtinsNs mb
  boot : ∀ x : Str, x ≠ "__name__" → mb x = bootBuiltins x
  lim : s.heap.NoLimit
  gens : s.gens = #[]
  main : ∃ (bm : Addr) (ob : Obj), mg "__builtins__" = some (.ref bm) ∧ bm ≠ builtinsNs ∧ s.heap.get? bm = some ob ∧ ob.cls = .type "module" ∧ ob.dict = some builtinsNs ∧ ob.data = .plain
  arg : s.heap.get? a = some { cls := .type "list", data := .seq vs.toArray }
  nums : IntsAre vs ns
  few : ns.length ≤ sizeLine
  tabs : ∀ q ∈ cs, s.heap.get? q.2 = some { cls := .none, data := .fields #[] } ∧ K.lookup q.2 = none ∧ PySem.W.codeHdIn K q.1 q.2 = true
/-- the script, frozen -/
def scriptO (vs : List Value) (ns : List Int) : HO := .frz { cls := .type "list", data := .seq vs.toArray } (.lst (ns.map V.int))
/-- what is told there: the tables, and the script where it is no object of the top -/
def startH (K : PySem.W.Frag) (cs : List (Addr × Addr)) (a : Addr) (vs : List Value) (ns : List Int) : Hp := fun b =>
  if b ∈ cs.map Prod.snd then some (.tbl #[]) else if (b == a && (K.lookup a).isNone) = true then some (scriptO vs ns) else none
section
variable {P : Program} {w : World} {K : PySem.W.Frag} {mg mb : Str → Option Value} {s : Shared} {cs : List (Addr × Addr)} {a : Addr} {vs : List Value} {ns : List Int}
theorem start_tab {q : Addr × Addr} (h : q ∈ cs) : startH K cs a vs ns q.2 = some (.tbl #[]) := if_pos (List.mem_map_of_mem h)
theorem start_cases {b : Addr} {u : HO} (e : startH K cs a vs ns b = some u) : (u = .tbl #[] ∧ ∃ q ∈ cs, q.2 = b) ∨ (u = scriptO vs ns ∧ b = a ∧ K.lookup a = none) := by
  unfold startH at e
  split at e
  · rename_i h
    exact .inl ⟨(Option.some.inj e).symm, List.mem_map.mp h⟩
  · split at e
    · rename_i h
      rw [Bool.and_eq_true, beq_iff_eq, Option.isNone_iff_eq_none] at h
      exact .inr ⟨(Option.some.inj e).symm, h⟩
    · cases e
/-- each thing told is there -/
theorem Start.ok (S : Start K mg mb s cs a vs ns) : HOk P w (startH K cs a vs ns) s.heap := fun b u e => by
  rcases start_cases e with ⟨rfl, q, hq, rfl⟩ | ⟨rfl, rfl, _⟩
  · exact (S.tabs q hq).1
  · exact ⟨S.arg, by rw [List.length_map]; exact S.few, vs, _, vals_ints S.nums, S.arg⟩
/-- what is neither a table nor a list is not told: it stays below -/
theorem Start.below (S : Start K mg mb s cs a vs ns) {b : Addr} {o : Obj} (e : s.heap.get? b = some o) (h1 : o.data ≠ .fields #[]) (h2 : o.data ≠ .seq vs.toArray) : (hidT s.heap (startH K cs a vs ns)).get? b = some o := by
  refine hidT_get e ?_
  cases c : startH K cs a vs ns b with
  | none => rfl
  | some u =>
    rcases start_cases c with ⟨_, q, hq, rfl⟩ | ⟨_, rfl, _⟩
    · rw [(S.tabs q hq).1] at e
      exact (h1 (Option.some.inj e ▸ rfl)).elim
    · rw [S.arg] at e
      exact (h2 (Option.some.inj e ▸ rfl)).elim
theorem Start.names (S : Start K mg mb s cs a vs ns) {b : Addr} {m : Str → Option Value} (h : s.heap.Ns b m) : (hidT s.heap (startH K cs a vs ns)).Ns b m :=
  h.elim fun o ⟨es, ep, e, d, r⟩ => ⟨o, es, ep, S.below e (by rw [d]; nofun) (by rw [d]; nofun), d, r⟩
theorem Start.top (S : Start K mg mb s cs a vs ns) : K.In (hidT s.heap (startH K cs a vs ns)) := fun b o e => by
  refine hidT_get (S.kIn b o e) ?_
  cases c : startH K cs a vs ns b with
  | none => rfl
  | some u =>
    rcases start_cases c with ⟨_, q, hq, rfl⟩ | ⟨_, rfl, n⟩
    · rw [(S.tabs q hq).2.1] at e; cases e
    · rw [n] at e; cases e
theorem Start.mod (S : Start K mg mb s cs a vs ns) : Mod K mg (hidT s.heap (startH K cs a vs ns)) :=
  ⟨S.top, S.names S.gl, ⟨mb, S.names S.bl, S.boot⟩, S.lim.elim fun mc h => ⟨mc, S.names h.1, h.2⟩⟩
theorem Start.env (S : Start K mg mb s cs a vs ns) : Env0 P w K mg (hidT s.heap (startH K cs a vs ns)) callerA [] s (startH K cs a vs ns) :=
  ⟨rfl, S.mod, fun _ _ => of_hidT, Nat.le_of_eq (hidT_size _ _), trivial, nofun, S.ok, .of_eq S.gens⟩
theorem Start.tabB (S : Start K mg mb s cs a vs ns) {q : Addr × Addr} (hq : q ∈ cs) : TabB (hidT s.heap (startH K cs a vs ns)) mg q.1 q.2 := by
  obtain ⟨t1, _, t3⟩ := S.tabs q hq
  obtain ⟨og, _, _, eg, dg, _⟩ := S.gl
  obtain ⟨bm, ob, b1, b2, b3, b4, b5, b6⟩ := S.main
  have ng : mainGlobals ≠ q.2 := fun z => by
    rw [z, t1] at eg
    rw [← Option.some.inj eg] at dg
    cases dg
  refine ⟨PySem.W.codeHd_of_K S.top t3, ⟨bm, ob, b1, b2, fun z => ?_, fun z => ?_, S.below b3 (by rw [b6]; nofun) (by rw [b6]; nofun), b4, b5, b6⟩, ng⟩
  · rw [z, eg] at b3
    rw [← Option.some.inj b3, dg] at b6
    cases b6
  · rw [z, t1] at b3
    rw [← Option.some.inj b3] at b6
    cases b6
/-- the script as the law sees it -/
theorem Start.script (S : Start K mg mb s cs a vs ns) : SqL K (startH K cs a vs ns) a (ns.map V.int) := by
  cases k : K.lookup a with
  | some o =>
    have e := S.kIn a o k
    rw [S.arg] at e
    cases e
    exact .inr ⟨_, vs.toArray, _, k, rfl, rfl, rfl, by rw [List.size_toArray, S.nums.length]; exact S.few, vals_ints S.nums⟩
  | none =>
    refine .inl (.inr ⟨{ cls := .type "list", data := .seq vs.toArray }, ?_⟩)
    unfold startH
    rw [if_neg fun h => ?_, if_pos (by rw [k, beq_self_eq_true]; rfl)]
    · rfl
    · obtain ⟨q, hq, rfl⟩ := List.mem_map.mp h
      have e := (S.tabs q hq).1
      rw [S.arg] at e
      exact nomatch congrArg Obj.data (Option.some.inj e)
/-- what stood there stands behind the call; the tables have grown -/
theorem Start.old (S : Start K mg mb s cs a vs ns) {H' : Hp} {h' : Heap} (un : Un (frs []) [] (startH K cs a vs ns) H' s.heap h') (ok : HOk P w H' h') : OldK s.heap h' := by
  have grown : ∀ q ∈ cs, ∃ xs : Array Value, h'.get? q.2 = some { cls := .none, data := .fields xs } := fun q hq => (un.tbls q.2 #[] (start_tab hq)).elim fun m e => ⟨_, ok q.2 _ e⟩
  have each : ∀ b o, s.heap.get? b = some o → h'.get? b = some o ∨ ∃ q ∈ cs, q.2 = b := fun b o e => by
    cases c : startH K cs a vs ns b with
    | none => exact .inl (un.keep b o e c nofun nofun)
    | some u =>
      rcases start_cases c with ⟨_, z⟩ | ⟨rfl, rfl, _⟩
      · exact .inr z
      · rw [S.arg] at e
        exact .inl (e ▸ (ok _ _ (un.frzs _ _ _ c)).1)
  refine ⟨fun b o e => ?_, fun b o e => ?_⟩ <;> rcases each b o e with z | ⟨q, hq, rfl⟩
  · exact .inl z
  · obtain ⟨xs, y⟩ := grown q hq
    obtain ⟨t1, _, t3⟩ := S.tabs q hq
    rw [t1] at e
    cases e
    exact .inr (.inl ⟨((PySem.W.codeHd_of_K S.kIn t3).tab t1).isCodeTable, rfl, #[], xs, rfl, by rw [Array.empty_append]; exact y⟩)
  · exact ⟨o, z⟩
  · exact (grown q hq).elim fun _ y => ⟨_, y⟩
/-- the law's def called -/
theorem Start.call (S : Start K mg mb s cs a vs ns) {k : Nat} {fa : Addr} {fd : FuncData} {x : Str} {sp : Sp} (hr : Room k callerA)
    (F : FnG P w K mg (hidT s.heap (startH K cs a vs ns)) CX0 k fa fd [x] sp) (bd : BindsTo s fd ⟨[.ref a], []⟩ [(x, .ref a)])
    (h : sp [.ref a] (startH K cs a vs ns) (fun v _ => v = .bl true) fun _ _ _ => False) :
    codeAny (model P w) callerA (.call (.ref fa) ⟨[.ref a], []⟩) (fun r s' => r = .ok (.ret (.bool true)) ∧ OldK s.heap s'.heap ∧ s'.os = s.os ∧ AllBare s'.gens) s := by
  refine codeAny_mono (F.run callerA [] s _ ⟨[.ref a], []⟩ [.ref a] [.ref a] _ _ hr rfl S.env bd (.cons rfl .nil) h) ?_
  rintro (e | f) s' z
  · exact z.elim
  cases f with
  | ret u =>
    obtain ⟨v, H', os, bare, un, ok, r, rfl⟩ := z
    cases r
    exact ⟨rfl, S.old un ok, os, bare⟩
  | _ => exact z.elim
end
/-- what the top tells of a def that makes lambdas: its code object, its table -/
structure LamAt (K : PySem.W.Frag) (mg : Str → Option Value) (dn : Str) (c P : Addr) : Prop where
  ex : ∃ (f : Addr) (o : Obj) (g : FuncData), mg dn = some (.ref f) ∧ K.lookup f = some o ∧ o.data = .func g ∧ g.code = .ref c
  hd : PySem.W.codeHdIn K c P = true
  out : K.lookup P = none
section
variable {l : PySem.W.OpenLaw} {n k : Nat} {q : Program} {loose : List Str} {XP : (Str → Option Value) → Heap → Prop} {YP : World → Heap → Prop} {d : DefRec} {K : Params → PySem.W.Frag} {x : Str}
theorem walk_ofG {sp : PySem.W.Frag → Sp} (hn : l.most = some n) (hn2 : n ≤ sizeLine) (hdf : d.params.defaults = []) (hr : Room k callerA) (hY : ∀ (w : World) (h : Heap), YP w h → (K w.params).In h)
    (F : ∀ (w : World) (mg : Str → Option Value) (fa : Addr) (h : Heap), (K w.params).In h → h.Ns mainGlobals mg → mg d.name = some (.ref fa) →
      ∃ fd : FuncData, (∀ (s : Shared) (u : Value), BindsTo s fd ⟨[u], []⟩ [(x, u)]) ∧
        ∀ base : Heap, (K w.params).In base → base.Ns mainGlobals mg → FnG l.prog w (K w.params) mg base CX0 k fa fd [x] (sp (K w.params)))
    (hsp : ∀ (K : PySem.W.Frag) (H : Hp) (a : Addr) (ns : List Int), ns.length ≤ n → Only H → SqL K H a (ns.map V.int) → sp K [.ref a] H (fun v _ => v = .bl true) fun _ _ _ => False) :
    PySem.W.WalkO q loose XP YP l.row.toRowW d [] (fun f vs => PySem.call f vs) := by
  refine Att.attach_call hn hdf fun w s0 s1 mg mb fa o pm cd doc a vs ns G Y ho hd hcd hmg hobj hints hlen hg => ?_
  have S : Start (K w.params) mg mb s1 [] a vs ns := ⟨hY w _ Y, G.T.g, G.T.b, G.T.builtins, G.T.nolimit, hg, G.T.bmain, hobj, hints, Nat.le_trans hlen hn2, nofun⟩
  obtain ⟨fd, bd, hF⟩ := F w mg fa _ S.kIn S.gl hmg
  refine S.call hr (hF _ S.top (S.names S.gl)) (bd s1 (.ref a)) (hsp _ _ a ns hlen (fun b => ?_) S.script)
  cases c : startH (K w.params) [] a vs ns b with
  | none => exact .inl rfl
  | some u =>
    rcases start_cases c with ⟨_, q, z, _⟩ | ⟨rfl, _⟩
    · cases z
    · exact .inr ⟨_, _, rfl⟩
theorem walk_ofGT {dn : Str} {sp : PySem.W.Frag → Addr → Sp}
    (hn : l.most = some n) (hn2 : n ≤ sizeLine) (hdf : d.params.defaults = []) (hr : Room k callerA) (hdn : ((recsOf q).any fun e => e.name == dn) = true) (hY : ∀ (w : World) (h : Heap), YP w h → (K w.params).In h)
    (F : ∀ (w : World) (mg : Str → Option Value) (fa : Addr) (h : Heap), (K w.params).In h → h.Ns mainGlobals mg → mg d.name = some (.ref fa) →
      ∃ (c P : Addr) (fd : FuncData), LamAt (K w.params) mg dn c P ∧ (∀ (s : Shared) (u : Value), BindsTo s fd ⟨[u], []⟩ [(x, u)]) ∧
        ∀ base : Heap, (K w.params).In base → base.Ns mainGlobals mg → TabB base mg c P → FnG l.prog w (K w.params) mg base CX0 k fa fd [x] (sp (K w.params) P))
    (hsp : ∀ (K : PySem.W.Frag) (P : Addr) (H : Hp) (a : Addr) (ns : List Int), ns.length ≤ n → H P = some (.tbl #[]) → SqL K H a (ns.map V.int) → sp K P [.ref a] H (fun v _ => v = .bl true) fun _ _ _ => False) :
    PySem.W.WalkO q loose XP YP l.row.toRowW d [] (fun f vs => PySem.call f vs) := by
  refine Att.attach_call hn hdf fun w s0 s1 mg mb fa o pm cd doc a vs ns G Y ho hd hcd hmg hobj hints hlen hg => ?_
  have KX := hY w _ Y
  obtain ⟨c, P, fd, ⟨⟨f, o2, g, k1, k2, k3, k4⟩, k5, k6⟩, bd, hF⟩ := F w mg fa _ KX G.T.g hmg
  have em : s1.heap.get? P = some { cls := .none, data := .fields #[] } := by
    obtain ⟨e, he, hne⟩ := List.any_eq_true.mp hdn
    obtain ⟨_, _, _, _, _, z1, z2, z3, z4, _, ⟨_, _, y1, _, y3, y4⟩, y5⟩ := G.T.tab e he
    rw [beq_iff_eq.mp hne, k1] at z1
    cases z1
    rw [KX _ _ k2] at z2
    cases z2
    rw [k3] at z3
    cases z3
    rw [k4] at z4
    cases z4
    obtain ⟨_, _, _, _, _, _, _, _, _, x1, _, x3, x4, _⟩ := PySem.W.codeHd_of_K KX k5
    rw [x1] at y1
    cases y1
    rw [x3] at y3
    cases y3
    rw [x4] at y4
    cases y4
    exact y5
  have S : Start (K w.params) mg mb s1 [(c, P)] a vs ns := ⟨KX, G.T.g, G.T.b, G.T.builtins, G.T.nolimit, hg, G.T.bmain, hobj, hints, Nat.le_trans hlen hn2, fun q hq => List.mem_singleton.mp hq ▸ ⟨em, k6, k5⟩⟩
  exact S.call hr (hF _ S.top (S.names S.gl) (S.tabB (.head _))) (bd s1 (.ref a)) (hsp _ P _ a ns hlen (start_tab (q := (c, P)) (.head _)) S.script)
end
end DL

open PySem PySem.W PyProof.Rows
set_option maxHeartbeats 0 in
theorem PySem.Challenge.cw_duskisles_k05_stations_hand_on_holds : PySem.Challenge.rw_duskisles_k05_stations_hand_on.Holds := by
  w_on; o_law; k_head; (case hw => w_witness2)
  k_fill
  refine DL.walk_ofG (l := PySem.Challenge.rw_duskisles_k05_stations_hand_on) (n := 63) (k := 11) (x := "_law_script") (sp := fun K => K05.spLaw K) rfl (by decide) rfl ⟨rfl, by decide, by decide⟩ (fun w h Y => PySem.W.kIn_of Y) ?F (fun K H a ns hl _ hS => ⟨a, ns, rfl, hS, hl, fun _ => rfl⟩)
  case F =>
    intro w mg fa h KX G hmg
    refine' K05.all_mk KX G hmg ?Xgq ?Xm1 ?Xm2 ?XnS ?Xn0 ?Xn1 ?Xn2 ?XnD ?XfI ?XgI ?Xq0 ?Xq1 ?Xq2 ?Xsq ?Xi0 ?Xi1 ?Xi2 ?Xp00 ?Xp01 ?Xp02 ?Xp03 ?Xh0 ?Xr0 ?Xe0 ?Xp10 ?Xp11 ?Xp12 ?Xp13 ?Xh1 ?Xr1 ?Xe1 ?Xp20 ?Xp21 ?Xp22 ?Xp23 ?Xh2 ?Xr2 ?Xe2 ?Xz0 ?Xz1 ?Xz2 ?Xz3 ?Xz4 ?Xz5 ?Xz6 ?Xz7 ?Xz8 ?Xz9 ?Xz10 ?Xz11 ?Xz12 ?Xz13 ?Xf0 ?Xf1 ?Xf2 ?Xf3 ?Xf4 ?Xf5 ?Xf6 ?Xf7 ?Xf8 ?Xf9 ?Xf10 ?Xf11 ?Xf12 ?Xf13 ?Xf14 ?Xf15 ?Xf16 ?Xf17 ?Xf18 ?Xf19 ?Xf20 ?Xf21 ?Xf22 ?XfL
    (case Xgq => kernel_rfl)
    (case Xm1 => k_is); (case Xm2 => k_is); (case XnS => k_is); (case Xn0 => k_is); (case Xn1 => k_is); (case Xn2 => k_is); (case XnD => k_is)
    (case XfI => (refine' DL.CFac.mk ?xa ?xl ?xb; (case xa => k_is); (case xl => k_is); (case xb => kernel_rfl)))
    (case XgI => (refine' DL.IFac.mk ?xi ?xl ?xc; (case xi => k_is); (case xl => k_is); (case xc => k_is)))
    (case Xq0 => kernel_rfl); (case Xq1 => kernel_rfl); (case Xq2 => kernel_rfl); (case Xsq => kernel_rfl)
    (case Xi0 => (refine' K05.CFn.mk ?xi ?xl ?xc; (case xi => k_is); (case xl => k_is); (case xc => k_is)))
    (case Xi1 => (refine' K05.CIC.mk ?xi ?xl ?xc ?xn ?xm ?xe; (case xi => k_is); (case xl => k_is); (case xc => k_is); (case xn => k_is); (case xm => k_is); (case xe => (refine' K05.Emp.mk ?xg ?xz; (case xg => k_is); (case xz => rfl)))))
    (case Xi2 => (refine' K05.CIH.mk ?xi ?xl ?xc ?xm ?xe; (case xi => k_is); (case xl => k_is); (case xc => k_is); (case xm => k_is); (case xe => (refine' K05.Emp.mk ?xg ?xz; (case xg => k_is); (case xz => rfl)))))
    (case Xp00 => (refine' K05.CPp.mk ?xi ?xg ?xt ?xr ?xl ?xc; (case xi => k_is); (case xg => k_is); (case xt => k_is); (case xr => k_is); (case xl => k_is); (case xc => k_is)))
    (case Xp01 => (refine' K05.CPp.mk ?xi ?xg ?xt ?xr ?xl ?xc; (case xi => k_is); (case xg => k_is); (case xt => k_is); (case xr => k_is); (case xl => k_is); (case xc => k_is)))
    (case Xp02 => (refine' K05.CPp.mk ?xi ?xg ?xt ?xr ?xl ?xc; (case xi => k_is); (case xg => k_is); (case xt => k_is); (case xr => k_is); (case xl => k_is); (case xc => k_is)))
    (case Xp03 => (refine' K05.CPp.mk ?xi ?xg ?xt ?xr ?xl ?xc; (case xi => k_is); (case xg => k_is); (case xt => k_is); (case xr => k_is); (case xl => k_is); (case xc => k_is)))
    (case Xh0 => (refine' K05.CFn.mk ?xi ?xl ?xc; (case xi => k_is); (case xl => k_is); (case xc => k_is)))
    (case Xe0 => (refine' K05.CFn.mk ?xi ?xl ?xc; (case xi => k_is); (case xl => k_is); (case xc => k_is)))
    (case Xr0 => (refine' K05.CPr.mk ?xi ?xl ?xc ?xn ?xm ?xe; (case xi => k_is); (case xl => k_is); (case xc => k_is); (case xn => k_is); (case xm => k_is); (case xe => (refine' K05.Emp.mk ?xg ?xz; (case xg => k_is); (case xz => rfl)))))
    (case Xp10 => (refine' K05.CPp.mk ?xi ?xg ?xt ?xr ?xl ?xc; (case xi => k_is); (case xg => k_is); (case xt => k_is); (case xr => k_is); (case xl => k_is); (case xc => k_is)))
    (case Xp11 => (refine' K05.CPp.mk ?xi ?xg ?xt ?xr ?xl ?xc; (case xi => k_is); (case xg => k_is); (case xt => k_is); (case xr => k_is); (case xl => k_is); (case xc => k_is)))
    (case Xp12 => (refine' K05.CPp.mk ?xi ?xg ?xt ?xr ?xl ?xc; (case xi => k_is); (case xg => k_is); (case xt => k_is); (case xr => k_is); (case xl => k_is); (case xc => k_is)))
    (case Xp13 => (refine' K05.CPp.mk ?xi ?xg ?xt ?xr ?xl ?xc; (case xi => k_is); (case xg => k_is); (case xt => k_is); (case xr => k_is); (case xl => k_is); (case xc => k_is)))
    (case Xh1 => (refine' K05.CFn.mk ?xi ?xl ?xc; (case xi => k_is); (case xl => k_is); (case xc => k_is)))
    (case Xe1 => (refine' K05.CFn.mk ?xi ?xl ?xc; (case xi => k_is); (case xl => k_is); (case xc => k_is)))
    (case Xr1 => (refine' K05.CPr.mk ?xi ?xl ?xc ?xn ?xm ?xe; (case xi => k_is); (case xl => k_is); (case xc => k_is); (case xn => k_is); (case xm => k_is); (case xe => (refine' K05.Emp.mk ?xg ?xz; (case xg => k_is); (case xz => rfl)))))
    (case Xp20 => (refine' K05.CPp.mk ?xi ?xg ?xt ?xr ?xl ?xc; (case xi => k_is); (case xg => k_is); (case xt => k_is); (case xr => k_is); (case xl => k_is); (case xc => k_is)))
    (case Xp21 => (refine' K05.CPp.mk ?xi ?xg ?xt ?xr ?xl ?xc; (case xi => k_is); (case xg => k_is); (case xt => k_is); (case xr => k_is); (case xl => k_is); (case xc => k_is)))
    (case Xp22 => (refine' K05.CPp.mk ?xi ?xg ?xt ?xr ?xl ?xc; (case xi => k_is); (case xg => k_is); (case xt => k_is); (case xr => k_is); (case xl => k_is); (case xc => k_is)))
    (case Xp23 => (refine' K05.CPp.mk ?xi ?xg ?xt ?xr ?xl ?xc; (case xi => k_is); (case xg => k_is); (case xt => k_is); (case xr => k_is); (case xl => k_is); (case xc => k_is)))
    (case Xh2 => (refine' K05.CFn.mk ?xi ?xl ?xc; (case xi => k_is); (case xl => k_is); (case xc => k_is)))
    (case Xe2 => (refine' K05.CFn.mk ?xi ?xl ?xc; (case xi => k_is); (case xl => k_is); (case xc => k_is)))
    (case Xr2 => (refine' K05.CPr.mk ?xi ?xl ?xc ?xn ?xm ?xe; (case xi => k_is); (case xl => k_is); (case xc => k_is); (case xn => k_is); (case xm => k_is); (case xe => (refine' K05.Emp.mk ?xg ?xz; (case xg => k_is); (case xz => rfl)))))
    (case Xz0 => k_is); (case Xz1 => k_is); (case Xz2 => k_is); (case Xz3 => k_is); (case Xz4 => k_is); (case Xz5 => k_is); (case Xz6 => k_is); (case Xz7 => k_is); (case Xz8 => k_is); (case Xz9 => k_is); (case Xz10 => k_is); (case Xz11 => k_is); (case Xz12 => k_is); (case Xz13 => k_is)
    all_goals (refine' DL.Fac.mk ?a ?l ?c ?k; (case a => k_is); (case l => k_is); (case c => k_is); (case k => k_is))


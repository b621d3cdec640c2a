import PyProof.Rows.All
import Wide.All
import OpenK.AllK
import Wide.FinOn
import HandS.ForExc
import HandS.Wide
import HandS.ExcInit
import HandS.ExcIs
import HandS.IsInst
import PyProof.ReprRoads
import PyProof.CallFns
import HandS.Ends
import HandS.ExcField
import HandS.ForMost
import HandS.RaiseMore
import HandS.Style
import HandS.Gcd
import HandS.Zip
import HandS.TupAny
import HandS.TupMul
import HandS.More
import PyProof.FitsInt
import PyProof.ReprBulk
import KE.KMathGC
import KE.KRevSl
import PyProof.StrLawsRepr
import PySem.Challenge.RW_steadymixes_k01_games_mixes_and_lots_kno
set_option Elab.async false
set_option linter.all false
set_option maxRecDepth 100000
set_option maxHeartbeats 4000000
/-! G0: defs that are run where no text of an object is being made (so that repr is known), and their calls. -/
namespace GL
open PySem PySem.Spec PyProof.Rows L2

/-- a def's promise where no repr runs around -/
structure FnG (P : Program) (w : World) (K : PySem.W.Frag) (mg : Str → Option Value) (base : Heap)
    (CX : CXT) (k : Nat) (f : Addr) (fd : FuncData) (ps : List Str) (sp : Sp) : Prop where
  len : ∀ vs H Q E, sp vs H Q E → vs.length = ps.length
  run : ∀ (A : Around) (outer : List Env) (s : Shared) (H : Hp) (args : Args)
    (us : List Value) (vs : List V) (Q : VK) (E : XK),
    Room k A → A.guards = some [] → Env0 P w K mg base A outer s H → BindsTo s fd args (ps.zip us) →
    Vals vs us → sp vs H Q E → codeAny (model P w) A (.call (.ref f) args) (CR CX outer P w H s Q E) s

section
variable {P : Program} {w : World} {K : PySem.W.Frag} {mg : Str → Option Value} {base : Heap}
variable {CX : CXT} {j k : Nat} {f : Addr} {fd : FuncData} {ps : List Str} {sp sp' : Sp}

theorem ofOk (F : FnOk P w K mg base CX k f fd ps sp) : FnG P w K mg base CX k f fd ps sp :=
  ⟨F.len, fun A outer s H args us vs Q E hr _ e b r h => F.run A outer s H args us vs Q E hr e b r h⟩
theorem FnG.mono (F : FnG P w K mg base CX j f fd ps sp) (h : j ≤ k) : FnG P w K mg base CX k f fd ps sp :=
  ⟨F.len, fun A outer s H args us vs Q E hr => F.run A outer s H args us vs Q E (hr.mono h)⟩
theorem FnG.imp (F : FnG P w K mg base CX k f fd ps sp) (h : ∀ vs H Q E, sp' vs H Q E → sp vs H Q E) :
    FnG P w K mg base CX k f fd ps sp' :=
  ⟨fun vs H Q E q => F.len vs H Q E (h _ _ _ _ q),
   fun A outer s H args us vs Q E hr hg e b r q => F.run A outer s H args us vs Q E hr hg e b r (h _ _ _ _ q)⟩

theorem guards_deeper {A : Around} {env : Env} (h : A.guards = some []) : (A.deeper env).guards = some [] := h

/-- a def of the text by its body -/
theorem okG {x qual : Str} {st : Stmt} {N : List Str} (F : Fun K x qual st f fd)
    (S : FnScope N ps (defScope st)) (len : ∀ vs H Q E, sp vs H Q E → vs.length = ps.length)
    (body : ∀ (cdv : Value) (A : Around) (outer : List Env) (s : Shared) (H : Hp) (vs : List V) (Q : VK) (E : XK),
      Room k (A.deeper (envOfC qual (defScope st) s.heap.objs.size f cdv)) →
      (A.deeper (envOfC qual (defScope st) s.heap.objs.size f cdv)).guards = some [] → sp vs H Q E →
      ∃ t, PSs (cxOf CX0 P w K mg base N qual (defScope st) f cdv A outer s H E).nox (defBody st) t ∧
        t { nx := fun _ H' => Q .non H', rt := Q } (start N vs) H) :
    FnG P w K mg base CX0 (k + 1) f fd ps sp := by
  obtain ⟨oc, od, kV, doc, pm, an, cdv, ct, osl, rfl, lk, hcd⟩ := F.ex
  refine ⟨len, fun A outer s H args us vs Q E hr hg e0 hb r hsp => ?_⟩
  have KX : K.In s.heap := e0.mod.kin.keeps fun b o e => (e0.bs b o e).1
  have lim : s.heap.NoLimit := e0.mod.nolimit.keeps fun b o e => (e0.bs b o e).1
  refine Att.call_fn KX lim lk hcd hr.depth hb ?_ (fun s1 x => ?_) S.co S.gen S.kind
  · refine List.all_eq_true.mpr fun y hy => ?_
    have hy' := (List.of_mem_zip (show (y.1, y.2) ∈ ps.zip us from hy)).1
    rcases S.par _ hy' with q | q
    · rw [q]; rfl
    · rw [q]; rfl
  · obtain ⟨t, ht, hq⟩ := body cdv A outer s H vs Q E (hr.deeper _) (guards_deeper hg) hsp
    have I := inv_start (CX := CX0) (E := E) S hr.hd e0 (len _ _ _ _ hsp) r x
    have hend := ht.nox.run [] s1 _ H _ I hq
    refine wpAny_mono hend (fun fl s' hs => ?_) fun e s' hs => hs
    cases fl with
    | ret u =>
      obtain ⟨v, σ', H', J, rv, q⟩ := hs
      exact ⟨v, H', J.os, J.bare, J.base, J.hok, rv, q⟩
    | next =>
      obtain ⟨σ', H', J, q⟩ := hs
      exact ⟨.non, H', J.os, J.bare, J.base, J.hok, rfl, q⟩
    | brk => exact (hs.elim fun _ h => h.elim fun _ h => h.2).elim
    | cont => exact (hs.elim fun _ h => h.elim fun _ h => h.2).elim
end

section
variable {X : Cx} {CX : CXT} {k : Nat} {f : Addr} {fd : FuncData} {ps ks : List Str} {sp : Sp} {E : XK}
variable {dvs : List V} {ds : List Value} {x : Str} {p pos : Pos} {e : Expr} {es : List Expr} {t tk : TA}

theorem runArgs {args : Args} {us : List Value} {vs : List V} {pins : List (Addr × Obj)} {σ : L2.St} {H : Hp}
    {s : Shared} {Q : VK} (F : FnG X.prog X.w X.K X.mg X.base CX k f fd ps sp) (hr : Room k X.A)
    (hg : X.A.guards = some []) (hx : Passes CX X E) (I : Inv X pins σ H s)
    (hb : BindsTo s fd args (ps.zip us)) (r : Vals vs us) (h : sp vs H Q E) :
    wpAny (model X.prog X.w) X.A (call (.ref f) args.pos args.kw) (EP X pins σ Q) X.xe s := by
  refine wpAny_call (codeAny_mono (F.run X.A X.stack s H ⟨args.pos, args.kw⟩ us vs Q E hr hg I.env0 hb r h) ?_)
  intro res s' hq
  match res, hq with
  | .error er, hq => exact hx pins σ H s er s' I hq
  | .ok (.ret u), hq => exact I.after hq
  | .ok .next, hq => exact hq.elim
  | .ok .brk, hq => exact hq.elim
  | .ok .cont, hq => exact hq.elim

theorem runG {pins : List (Addr × Obj)} {σ : L2.St} {H : Hp} {s : Shared} {Q : VK} {us : List Value} {vs : List V}
    (F : FnG X.prog X.w X.K X.mg X.base CX k f fd ps sp) (hr : Room k X.A) (hg : X.A.guards = some [])
    (hb : Binds X.K fd ps ds) (hd : Vals dvs ds) (hx : Passes CX X E) (I : Inv X pins σ H s) (r : Vals vs us)
    (h : sp (vs ++ dvs) H Q E) : wpAny (model X.prog X.w) X.A (call (.ref f) us) (EP X pins σ Q) X.xe s := by
  have r2 : Vals (vs ++ dvs) (us ++ ds) := r.append hd
  exact runArgs (args := ⟨us, []⟩) F hr hg hx I
    (hb s us I.kIn (r2.length.symm.trans (F.len _ _ _ _ h))) r2 h

theorem pe_callG (F : FnG X.prog X.w X.K X.mg X.base CX k f fd ps sp) (hr : Room k X.A)
    (hgu : X.A.guards = some []) (hg : Gl X x) (hm : X.mg x = some (.ref f))
    (hk : PySem.W.keepIn X.K (.ref f) = true) (hb : Binds X.K fd ps ds) (hd : Vals dvs ds) (hx : Passes CX X E)
    (ha : PA X (e :: es) t) (hdb : (x == ("__debug__" : Str)) = false := by decide)
    (he : starEach (e :: es) X.env = (false, eval e X.env) :: starEach es X.env := by rfl)
    (hpl : (backTo pos (starEach es X.env)).any (·.1) = false := by rfl) :
    PE X (.Call (.Name x p) (e :: es) [] pos) (tCall sp dvs E t) :=
  ⟨fun pins s σ H Q I h => wpAny_Call_Name_kw (ld_glob I hg hm (PySem.W.callWith_K (h₀ := X.base) I.ok.mod.kin hk
    (thn (ha.run pos pins s σ H _ I h) fun us s1 ⟨vs, H1, I1, r, q⟩ =>
      ⟨I1.kIn, runG F hr hgu hb hd hx I1 r q⟩) he hpl) hdb)⟩

variable {g : List Value → List Value → List Value} {gV : List V → List V → List V} {kws : List Keyword}
/-- keywords alone, or behind positional values -/
theorem pe_callKG (F : FnG X.prog X.w X.K X.mg X.base CX k f fd ps sp) (hr : Room k X.A)
    (hgu : X.A.guards = some []) (hg : Gl X x) (hm : X.mg x = some (.ref f))
    (hk : PySem.W.keepIn X.K (.ref f) = true) (hb : KBinds X.K fd ps ks g gV) (hx : Passes CX X E)
    (ha : PA X (e :: es) t) (hkw : PK X kws tk)
    (hall : (backToKw pos (keywordEach kws X.env)).all (·.1.isSome) = true := by rfl)
    (hks : (backToKw pos (keywordEach kws X.env)).filterMap (·.1) = ks := by rfl)
    (hdb : (x == ("__debug__" : Str)) = false := by decide)
    (he : starEach (e :: es) X.env = (false, eval e X.env) :: starEach es X.env := by rfl)
    (hpl : ((backTo pos (starEach (e :: es) X.env)).any (·.1) ||
      (backToKw pos (keywordEach kws X.env)).any (·.1.isNone)) = false := by rfl) :
    PE X (.Call (.Name x p) (e :: es) kws pos) (tCallK sp gV E t tk) := by
  refine ⟨fun pins s σ H Q I h => wpAny_Call_Name_kw (ld_glob I hg hm ?_ hdb)⟩
  refine PySem.W.callWith_KW (h₀ := X.base) I.ok.mod.kin hk hall ?_ hpl he
  refine thn (ha.run pos pins s σ H _ I h) fun us s1 ⟨vs, H1, I1, r, q⟩ => ?_
  refine thn (hkw.run pos pins s1 σ H1 _ I1 q) fun ws s2 ⟨zs, H2, I2, rz, q2⟩ => ⟨I2.kIn, ?_⟩
  rw [hks]
  have r2 := hb.rel r rz
  exact runArgs (args := ⟨us, ks.zip ws⟩) F hr hgu hx I2
    (hb.to s2 us ws I2.kIn (r2.length.symm.trans (F.len _ _ _ _ q2))) r2 q2
theorem pe_callK0G (F : FnG X.prog X.w X.K X.mg X.base CX k f fd ps sp) (hr : Room k X.A)
    (hgu : X.A.guards = some []) (hg : Gl X x) (hm : X.mg x = some (.ref f))
    (hk : PySem.W.keepIn X.K (.ref f) = true) (hb : KBinds X.K fd ps ks g gV) (hx : Passes CX X E)
    (hkw : PK X kws tk)
    (hall : (backToKw pos (keywordEach kws X.env)).all (·.1.isSome) = true := by rfl)
    (hks : (backToKw pos (keywordEach kws X.env)).filterMap (·.1) = ks := by rfl)
    (hdb : (x == ("__debug__" : Str)) = false := by decide)
    (hpl : ((backTo pos (starEach [] X.env)).any (·.1) ||
      (backToKw pos (keywordEach kws X.env)).any (·.1.isNone)) = false := by rfl) :
    PE X (.Call (.Name x p) [] kws pos) (tCallK sp gV E tNil tk) := by
  refine ⟨fun pins s σ H Q I h => wpAny_Call_Name_kw (ld_glob I hg hm ?_ hdb)⟩
  refine PySem.W.callWith_KW0 (h₀ := X.base) I.ok.mod.kin hk hall ?_ hpl
  refine thn (hkw.run pos pins s σ H _ I h) fun ws s2 ⟨zs, H2, I2, rz, q2⟩ => ⟨I2.kIn, ?_⟩
  rw [hks]
  have r2 := hb.rel (vs := []) (us := []) .nil rz
  exact runArgs (args := ⟨[], ks.zip ws⟩) F hr hgu hx I2
    (hb.to s2 [] ws I2.kIn (r2.length.symm.trans (F.len _ _ _ _ q2))) r2 q2
end
end GL

/-! G1: data that stands in the heap, its text (repr); a law's head for defs of G0. -/
namespace GL
open PySem PySem.Spec PyProof.Rows L2

/-! ### data -/
def keyD : Key → PyData
  | .inl i => .int i
  | .inr x => .str x
def kvD : List (Key × V) → List PyData → List (PyData × PyData)
  | kv :: kvs, d :: ds => (keyD kv.1, d) :: kvD kvs ds
  | _, _ => []
mutual
/-- the value v is, in the heap H, the data d -/
inductive RD (H : Hp) : V → PyData → Prop where
  | non : RD H .non .none
  | bl (b) : RD H (.bl b) (.bool b)
  | int (i) : RD H (.int i) (.int i)
  | str (x) : RD H (.str x) (.str x)
  | lst {a xs ds} : H a = some (.lst xs) → RDs H xs ds → RD H (.ref a) (.list ds)
  | tup {a xs ds} : H a = some (.tup xs) → RDs H xs ds → RD H (.ref a) (.tuple ds)
  | dct {a kvs ds} : H a = some (.dK kvs) → RDs H (kvs.map (·.2)) ds → RD H (.ref a) (.dict (kvD kvs ds))
inductive RDs (H : Hp) : List V → List PyData → Prop where
  | nil : RDs H [] []
  | cons {x xs d ds} : RD H x d → RDs H xs ds → RDs H (x :: xs) (d :: ds)
end
mutual
/-- data stays where what it is made of stays -/
theorem RD.keep {H H' : Hp} (k : ∀ b o, H b = some o → H' b = some o) : ∀ {v d}, RD H v d → RD H' v d
  | _, _, .non => .non
  | _, _, .bl b => .bl b
  | _, _, .int i => .int i
  | _, _, .str x => .str x
  | _, _, .lst e r => .lst (k _ _ e) (RDs.keep k r)
  | _, _, .tup e r => .tup (k _ _ e) (RDs.keep k r)
  | _, _, .dct e r => .dct (k _ _ e) (RDs.keep k r)
theorem RDs.keep {H H' : Hp} (k : ∀ b o, H b = some o → H' b = some o) : ∀ {vs ds}, RDs H vs ds → RDs H' vs ds
  | _, _, .nil => .nil
  | _, _, .cons a b => .cons (RD.keep k a) (RDs.keep k b)
end
theorem RDs.length {H : Hp} : ∀ {vs ds}, RDs H vs ds → vs.length = ds.length
  | _, _, .nil => rfl
  | _, _, .cons _ b => by rw [List.length_cons, List.length_cons, RDs.length b]
theorem RDs.snoc {H : Hp} {v d} (h : RD H v d) : ∀ {vs ds}, RDs H vs ds → RDs H (vs ++ [v]) (ds ++ [d])
  | _, _, .nil => .cons h .nil
  | _, _, .cons a b => .cons a (RDs.snoc h b)

/-! ### as the library reads it -/
section
variable {P : Program} {w : World} {H : Hp} {h : Heap}
theorem kvD_fst : ∀ (kvs : List (Key × V)) (ds : List PyData), (kvs.map (·.2)).length = ds.length →
    (kvD kvs ds).map (·.1) = kvs.map (fun kv => keyD kv.1)
  | [], [], _ => rfl
  | [], _ :: _, e => by cases e
  | _ :: _, [], e => by cases e
  | kv :: kvs, d :: ds, e => by
    show keyD kv.1 :: (kvD kvs ds).map (·.1) = _
    rw [kvD_fst kvs ds (by simpa using e)]; rfl
theorem kvD_snd : ∀ (kvs : List (Key × V)) (ds : List PyData), (kvs.map (·.2)).length = ds.length →
    (kvD kvs ds).map (·.2) = ds
  | [], [], _ => rfl
  | [], _ :: _, e => by cases e
  | _ :: _, [], e => by cases e
  | kv :: kvs, d :: ds, e => by
    show d :: (kvD kvs ds).map (·.2) = _
    rw [kvD_snd kvs ds (by simpa using e)]
theorem reads_key {k : Key} {u : Value} (q : keyIs k u = true) : Reads h u (keyD k) [] := by
  rcases keyIs_shape q with ⟨i, t, ek, ev⟩ | ⟨x, t, ek, ev⟩
  · rw [ev, ek]; exact .int i t
  · rw [ev, ek]; exact .str x t
theorem reads_keys : ∀ {es : List DictEntry} {vs : List (Key × Value)} {kvs : List (Key × V)},
    Pairs (mixKind P w) es vs → KV kvs vs →
    ReadsAll h (es.map (·.key)) (kvs.map (fun kv => keyD kv.1)) [] ∧ es.map (·.val) = vs.map (·.2)
  | _, _, _, .nil, .nil => ⟨.nil, rfl⟩
  | _, _, _, .cons hk hv hr, .cons e t => by
    obtain ⟨h1, h2⟩ := reads_keys hr t
    refine ⟨ReadsAll.cons (as := []) (bs := []) ?_ h1, ?_⟩
    · show Reads h _ (keyD _) []; rw [e.1]; exact reads_key hk
    · rw [List.map_cons, List.map_cons, h2, hv]
theorem vals_of_KV : ∀ {kvs : List (Key × V)} {vs : List (Key × Value)}, KV kvs vs →
    Vals (kvs.map (·.2)) (vs.map (·.2))
  | _, _, .nil => .nil
  | _, _, .cons e t => .cons e.2 (vals_of_KV t)
mutual
theorem RD.reads (ok : HOk P w H h) (hs : H sysModules = none) : ∀ {v : V} {d : PyData} {u : Value},
    RD H v d → RelV v u → ∃ as, Reads h u d as ∧ sysModules ∉ as
  | _, _, _, .non, r => by cases (show _ = Value.none from r); exact ⟨_, .none, by simp⟩
  | _, _, _, .bl b, r => by cases (show _ = Value.bool b from r); exact ⟨_, .bool b, by simp⟩
  | _, _, _, .int i, r => by
    obtain ⟨t, e⟩ := (show ∃ t, _ = Value.int i t from r)
    subst e; exact ⟨_, .int i t, by simp⟩
  | _, _, _, .str x, r => by
    obtain ⟨t, e⟩ := (show ∃ t, _ = Value.str x t from r)
    subst e; exact ⟨_, .str x t, by simp⟩
  | _, _, _, .lst (a := a) e rs, r => by
    cases (show _ = Value.ref a from r)
    obtain ⟨_, its, n, rv, hg⟩ := (ok a _ e : ObjOk P w H h a (.lst _))
    obtain ⟨as, h1, h2⟩ := RDs.reads ok hs rs rv
    refine ⟨_, .list hg rfl rfl h1, fun hm => ?_⟩
    rcases List.mem_cons.mp hm with z | z
    · rw [← z, hs] at e; cases e
    · exact h2 z
  | _, _, _, .tup (a := a) e rs, r => by
    cases (show _ = Value.ref a from r)
    obtain ⟨_, its, rv, o, hg, hc, n, hd⟩ := (ok a _ e : ObjOk P w H h a (.tup _))
    obtain ⟨as, h1, h2⟩ := RDs.reads ok hs rs rv
    exact ⟨_, .tuple hg hc hd h1, h2⟩
  | _, _, _, .dct (a := a) (kvs := kvs) (ds := ds) e rs, r => by
    cases (show _ = Value.ref a from r)
    obtain ⟨_, hy, vs, kv, o, es, ep, hg, hx, hd, _, hp, _⟩ := (ok a _ e : ObjOk P w H h a (.dK kvs))
    obtain ⟨as, h1, h2⟩ := RDs.reads ok hs rs (vals_of_KV kv)
    obtain ⟨k1, k2⟩ := reads_keys (h := h) hp kv
    have hl := RDs.length rs
    refine ⟨_, Reads.dict (as := []) (bs := as) hg hx.1 hd ?_ ?_, fun hm => ?_⟩
    · rw [kvD_fst kvs ds hl]; exact k1
    · rw [kvD_snd kvs ds hl, k2]; exact h1
    · rcases List.mem_cons.mp hm with z | z
      · rw [← z, hs] at e; cases e
      · exact h2 (by simpa using z)
theorem RDs.reads (ok : HOk P w H h) (hs : H sysModules = none) : ∀ {vs : List V} {ds : List PyData} {us : List Value},
    RDs H vs ds → Vals vs us → ∃ as, ReadsAll h us ds as ∧ sysModules ∉ as
  | _, _, _, .nil, .nil => ⟨_, .nil, by simp⟩
  | _, _, _, .cons a b, .cons r t => by
    obtain ⟨as, h1, h2⟩ := RD.reads ok hs a r
    obtain ⟨bs, h3, h4⟩ := RDs.reads ok hs b t
    exact ⟨_, .cons h1 h3, fun hm => (List.mem_append.mp hm).elim h2 h4⟩
end
end

/-! ### the text of data -/
def rRepr : List V → Hp → VK → Prop := fun xs H Q => ∃ v d, xs = [v] ∧ RD H v d ∧ d.showable = true ∧
  d.depth ≤ 100 ∧ d.shown.length ≤ sizeLine ∧ Q (.str d.shown) H
/-- that the place of sys.modules is no object that is tracked -/
def SysAt (base : Heap) : Prop := ∃ o, base.get? sysModules = some o
theorem call_repr {X : Cx} (hs : SysAt X.base) (hg : X.A.guards = some []) (hu : X.A.units + 150 < cLine) :
    CallR X (.builtin "repr") rRepr := by
  intro pins s σ H xs us Q I r h
  obtain ⟨v, d, rfl, rd, hsh, hdp, hsz, q⟩ := h
  obtain ⟨u, rfl, rv⟩ := vals1 r
  have h0 : H sysModules = none := let ⟨o, e⟩ := hs; (I.bs _ _ e).2
  have big : ∀ (a : Addr) (as : List Addr), u = .ref a → Reads s.heap u d as → sysModules ∉ as →
      wpAny (model X.prog X.w) X.A (call (.builtin "repr") [u]) (EP X pins σ Q) X.xe s := by
    intro a as e rr hn
    subst e
    exact repr_of_reads' rr hsh (fun _ => hn) hg (by omega) (fun _ _ e => e)
      (fun h' tu tk hk => ⟨.str d.shown, H, I.kept hk, ⟨tu, rfl⟩, q⟩) hsz
  obtain ⟨as, rr, hn⟩ := rd.reads I.hok h0 rv
  cases rd with
  | non =>
    cases (show u = Value.none from rv)
    rw [PyData.shown_none] at q
    exact PySem.P.repr_of_none ⟨.str _, H, I.tok _, ⟨_, rfl⟩, q⟩
  | bl b =>
    cases (show u = Value.bool b from rv)
    refine PySem.P.repr_of_bool ⟨.str _, H, I.tok _, ⟨_, rfl⟩, ?_⟩
    rw [PyData.shown_bool] at q
    cases b <;> exact q
  | int i =>
    obtain ⟨t, rfl⟩ := (show ∃ t, u = Value.int i t from rv)
    refine PySem.P.repr_of_int (by simpa [PyData.showable] using hsh) ⟨.str _, H, I.tok _, ⟨_, rfl⟩, ?_⟩
    rw [PyData.shown_int] at q
    exact q
  | str x =>
    obtain ⟨t, rfl⟩ := (show ∃ t, u = Value.str x t from rv)
    rw [PyData.shown_str] at q hsz
    exact PySem.P.repr_of_str ⟨.str _, H, I.tok _, ⟨_, rfl⟩, q⟩ hsz
  | lst e rs => exact big _ as rv rr hn
  | tup e rs => exact big _ as rv rr hn
  | dct e rs => exact big _ as rv rr hn
end GL

/-! G2: the head of a law whose def is proved by G0's rules. -/
namespace GL
open PySem PySem.Spec PyProof.Rows L2

section
variable {P : Program} {w : World} {K : PySem.W.Frag} {mg mb : Str → Option Value} {k : Nat} {fa a : Addr}
variable {fd : FuncData} {x : Str} {sp : Sp} {s₁ : Shared} {vs : List Value} {ns : List Int}

def scrO (vs : List Value) : Obj := { cls := .type "list", data := .seq vs.toArray }

/-- from an abstract heap in which at most the script stands -/
theorem law_core {H : Hp} (KX : K.In s₁.heap) (hns : s₁.heap.Ns mainGlobals mg) (hb : s₁.heap.Ns builtinsNs mb)
    (hbb : ∀ y : Str, y ≠ "__name__" → mb y = bootBuiltins y) (hlim : s₁.heap.NoLimit)
    (hsys : ∃ mm, s₁.heap.Ns sysModules mm) (hg : s₁.gens = #[])
    (ha : s₁.heap.get? a = some (scrO vs)) (hr : Room k callerA)
    (F : ∀ base : Heap, K.In base → base.Ns mainGlobals mg → SysAt base → FnG P w K mg base CX0 k fa fd [x] sp)
    (hbind : ∀ (s : Shared) (u : Value), BindsTo s fd ⟨[u], []⟩ [(x, u)])
    (hH : ∀ b, H b = none ∨ (b = a ∧ K.lookup a = none ∧ H b = some (.frz (scrO vs) (.lst (ns.map V.int)))))
    (hok : HOk P w H s₁.heap) (hsp : sp [.ref a] H (fun v _ => v = .bl true) fun _ _ _ => False) :
    codeAny (model P w) callerA (.call (.ref fa) ⟨[.ref a], []⟩)
      (fun r s' => r = .ok (.ret (.bool true)) ∧ OldK s₁.heap s'.heap ∧ s'.os = s₁.os ∧ AllBare s'.gens) s₁ := by
  -- an object of the heap that is no script is not tracked
  have off : ∀ {b : Addr} {o : Obj}, s₁.heap.get? b = some o → (b = a → False) → H b = none :=
    fun {b o} _ n => (hH b).elim id fun z => (n z.1).elim
  have ofK : ∀ {b : Addr} {o : Obj}, K.lookup b = some o → H b = none := fun {b o} e =>
    (hH b).elim id fun z => by rw [z.1, z.2.1] at e; cases e
  have nsK : ∀ {b : Addr} {m : Str → Option Value}, s₁.heap.Ns b m → (hidT s₁.heap H).Ns b m := by
    rintro b m ⟨o, es, ep, e, d, r⟩
    refine ⟨o, es, ep, hidT_get e (off e fun z => ?_), d, r⟩
    rw [z, ha] at e
    cases e
    cases d
  have hKb : K.In (hidT s₁.heap H) := fun b o e => hidT_get (KX b o e) (ofK e)
  have hM : Mod K mg (hidT s₁.heap H) :=
    ⟨hKb, nsK hns, ⟨mb, nsK hb, hbb⟩, hlim.elim fun mc z => ⟨mc, nsK z.1, z.2⟩⟩
  have hS : SysAt (hidT s₁.heap H) := hsys.elim fun mm z => by
    obtain ⟨o, _, _, e, _⟩ := nsK z
    exact ⟨o, e⟩
  have e0 : Env0 P w K mg (hidT s₁.heap H) callerA [] s₁ H :=
    { frames := rfl, mod := hM, bs := fun b o e => of_hidT e, bsz := Nat.le_of_eq (hidT_size _ _)
      funs := trivial, frf := fun b z => absurd (show b ∈ ([] : List Addr) from z) (by simp)
      hok := hok, bare := .of_eq hg }
  have run := (F _ hKb (nsK hns) hS).run callerA [] s₁ H ⟨[.ref a], []⟩ [.ref a] [.ref a] _ _ hr rfl e0
    (hbind s₁ (.ref a)) (.cons rfl .nil) hsp
  refine codeAny_mono run fun r s' h => ?_
  match r, h with
  | .ok (.ret u), h =>
    obtain ⟨v, H', os, bare, un, hok', r', q⟩ := h
    cases (show v = .bl true from q)
    obtain rfl : u = Value.bool true := r'
    refine ⟨rfl, OldK.of_keep fun b o e => ?_, os, bare⟩
    rcases hH b with z | ⟨_, _, z⟩
    · exact un.keep b o e z (fun y => absurd (show b ∈ ([] : List Addr) from y) (by simp)) (by simp)
    · have q1 := (hok b _ z).1
      have q2 := (hok' b _ (un.frzs b _ _ z)).1
      rw [e] at q1
      cases q1
      exact q2
  | .error er, h => exact h.elim
  | .ok .next, h => exact h.elim
  | .ok .brk, h => exact h.elim
  | .ok .cont, h => exact h.elim

theorem law_callG (KX : K.In s₁.heap) (hns : s₁.heap.Ns mainGlobals mg) (hb : s₁.heap.Ns builtinsNs mb)
    (hbb : ∀ y : Str, y ≠ "__name__" → mb y = bootBuiltins y) (hlim : s₁.heap.NoLimit)
    (hsys : ∃ mm, s₁.heap.Ns sysModules mm) (hg : s₁.gens = #[])
    (ha : s₁.heap.get? a = some (scrO vs)) (hi : IntsAre vs ns) (hl : ns.length ≤ sizeLine) (hr : Room k callerA)
    (F : ∀ base : Heap, K.In base → base.Ns mainGlobals mg → SysAt base → FnG P w K mg base CX0 k fa fd [x] sp)
    (hbind : ∀ (s : Shared) (u : Value), BindsTo s fd ⟨[u], []⟩ [(x, u)])
    (hsp : ∀ H : Hp, Only H → SqL K H a (ns.map V.int) → sp [.ref a] H (fun v _ => v = .bl true) fun _ _ _ => False) :
    codeAny (model P w) callerA (.call (.ref fa) ⟨[.ref a], []⟩)
      (fun r s' => r = .ok (.ret (.bool true)) ∧ OldK s₁.heap s'.heap ∧ s'.os = s₁.os ∧ AllBare s'.gens) s₁ := by
  have rv := vals_ints hi
  have hlen : vs.toArray.size ≤ sizeLine := by rw [List.size_toArray, hi.length]; exact hl
  cases hk : K.lookup a with
  | some o =>
    have e := KX a o hk
    rw [ha] at e
    cases e
    refine law_core (H := fun _ => none) (ns := ns) KX hns hb hbb hlim hsys hg ha hr F hbind
      (fun _ => .inl rfl) (fun _ _ z => nomatch z) (hsp _ (fun _ => .inl rfl) (.inr ?_))
    exact ⟨_, vs.toArray, _, hk, rfl, rfl, rfl, hlen, by simpa using rv⟩
  | none =>
    have one : ∀ b, (if b = a then some (HO.frz (scrO vs) (.lst (ns.map V.int))) else none) = none ∨
        (b = a ∧ (if b = a then some (HO.frz (scrO vs) (.lst (ns.map V.int))) else none) =
          some (.frz (scrO vs) (.lst (ns.map V.int)))) := fun b =>
      (Decidable.em (b = a)).elim (fun z => .inr ⟨z, if_pos z⟩) fun z => .inl (if_neg z)
    refine law_core (ns := ns) (H := fun b => if b = a then some (.frz (scrO vs) (.lst (ns.map V.int))) else none)
      KX hns hb hbb hlim hsys hg ha hr F hbind
      (fun b => (one b).imp id fun z => ⟨z.1, hk, z.2⟩) (fun b u z => ?_)
      (hsp _ (fun b => (one b).imp id fun z => ⟨_, _, z.2⟩) (.inl (.inr ⟨scrO vs, if_pos rfl⟩)))
    rcases one b with y | ⟨y1, y2⟩
    · exact nomatch y.symm.trans z
    · cases y2.symm.trans z
      subst y1
      exact ⟨ha, by rw [List.length_map]; exact hl, vs, _, rv, ha⟩

/-- what k_head leaves, for a law over a text that imports nothing -/
theorem walkG {l : PySem.W.OpenLaw} {n k : Nat} {loose : List Str} {XP : (Str → Option Value) → Heap → Prop}
    {YP : World → Heap → Prop} {d : DefRec} {q : Program} {K : Params → PySem.W.Frag} {sp : PySem.W.Frag → Sp} {x : Str}
    (hn : l.most = some n) (hn2 : n ≤ sizeLine) (hdf : d.params.defaults = []) (hr : Room k callerA)
    (hno : importsNone q = true) (hY : ∀ (w : World) (h : Heap), YP w h → (K w.params).In h)
    (F : ∀ (w : World) (mg : Str → Option Value) (fa : Addr) (h : Heap), (K w.params).In h → h.Ns mainGlobals mg →
      mg d.name = some (.ref fa) → ∃ fd : FuncData, (∀ (s : Shared) (u : Value), BindsTo s fd ⟨[u], []⟩ [(x, u)]) ∧
        ∀ base : Heap, (K w.params).In base → base.Ns mainGlobals mg → SysAt base →
          FnG l.prog w (K w.params) mg base CX0 k fa fd [x] (sp (K w.params)))
    (hsp : ∀ (K : PySem.W.Frag) (H : Hp) (a : Addr) (ns : List Int), ns.length ≤ n → Only H →
      SqL K H a (ns.map V.int) → sp K [.ref a] H (fun v _ => v = .bl true) fun _ _ _ => False) :
    PySem.W.WalkO q loose XP YP l.row.toRowW d [] (fun f vs => PySem.call f vs) := by
  refine Att.attach_call hn hdf ?_
  intro w s₀ s₁ mg mb fa o pm cd doc a vs ns G Y ho hd hcd hmg hobj hints hlen hg
  have KX := hY w _ Y
  obtain ⟨fd, hb, hF⟩ := F w mg fa _ KX G.T.g hmg
  have hsys : ∃ mm, s₁.heap.Ns sysModules mm := (G.T.seer hno).mods.elim fun mm z => ⟨mm, z.1⟩
  exact law_callG (sp := sp (K w.params)) KX G.T.g G.T.b G.T.builtins G.T.nolimit hsys hg hobj hints
    (Nat.le_trans hlen hn2) hr hF hb fun H hO hS => hsp _ H a ns hlen hO hS
end
end GL

/-! G3: an error of an own class over ValueError, with an __init__ of its own, made as a value: by place, by name. -/
namespace PySem
namespace GLX
open Builtin Builtin.ObjectAttr HandSPX
section
variable {M : Model} {A : Around} {E : Value → Shared → Prop} {h : Heap} {g : Array GenState} {d : Drawn}
variable {t : Nat} {os : OsState} {nm q : Str} {C N : Addr} {bs bm bmB : List Value} {hdct : Bool}
variable {sn : List Str} {sub : List Value} {ab : Bool} {col : Option Bool} {dd : Option Addr}
variable {k0 k1 k2 k3 k5 : Option Value} {B newId initId : String} {rest : List Value} {kw : List (Str × Value)}

/-- what C's object looks like -/
abbrev ClsAt (h : Heap) (nm q : Str) (C N : Addr) (bs bm : List Value) (hdct : Bool) (sn : List Str)
    (sub : List Value) (ab : Bool) (col : Option Bool) (dd : Option Addr)
    (k0 k1 k2 k3 k5 : Option Value) (newId : String) : Prop :=
  h.get? C = some (excClassObj nm q C N bs bm hdct sn sub ab col dd k0 k1 k2 k3 k5 newId)

theorem chk_new (F : ExcBaseFacts B newId initId bmB)
    (hT : ∀ X : String, bm.contains (.type X) = bmB.contains (.type X)) {Q : Unit → Shared → Prop}
    (hC : ClsAt h nm q C N bs bm hdct sn sub ab col dd k0 k1 k2 k3 k5 newId) (hq : Q () ⟨h, g, d, t, os⟩) :
    wpAny M A (checkBuiltinCall newId ⟨.ref C :: rest, kw⟩) Q E ⟨h, g, d, t, os⟩ := by
  have inB : (Value.ref C :: bm).contains (.type B) = true := by
    rw [List.contains_cons, hT, F.hasB, Bool.or_true]
  have star := F.noStar
  simp only [checkBuiltinCall, F.newKind, F.newSplit, F.newRow]
  repeat (first
    | refine wpAny_loadPart_at hC ?_
    | (refine wpAny_isSubtype_exc hC ?_
       rw [inB])
    | refine wpAny_staticBase_exc hC ?_
    | refine wpAny_madeBy_exc hC ?_
    | simp only [bne_self_eq_false,
        Bool.false_eq_true, if_false]
    | wp_step)
  exact hq
end
section
variable {prog : Program} {w : World} {A : Around} {E : Value → Shared → Prop} {R : Result → Shared → Prop}
variable {h : Heap} {g : Array GenState} {d : Drawn} {t : Nat} {os : OsState} {nm q : Str} {C N : Addr}
variable {bs bm bmB : List Value} {hdct : Bool} {sn : List Str} {sub : List Value} {ab : Bool}
variable {col : Option Bool} {dd : Option Addr} {k0 k1 k2 k3 k5 : Option Value} {B newId initId : String}
variable {rest : List Value} {kw : List (Str × Value)}

theorem made_new (F : ExcBaseFacts B newId initId bmB)
    (hT : ∀ X : String, bm.contains (.type X) = bmB.contains (.type X))
    (hC : ClsAt h nm q C N bs bm hdct sn sub ab col dd k0 k1 k2 k3 k5 newId)
    (hq : R (.ok (.ret (.ref (h.objs.size + 1))))
      ⟨(h.push (W.kdv_tup rest)).push (excO C h.objs.size), g, d, t, os⟩) (hrest : rest.length ≤ sizeLine) :
    codeAny (model prog w) A (.builtin newId ⟨.ref C :: rest, kw⟩) R ⟨h, g, d, t, os⟩ := by
  have ends := F.ends
  have inB : (Value.ref C :: bm).contains (.type B) = true := by
    rw [List.contains_cons, hT, F.hasB, Bool.or_true]
  have inA : (Value.ref C :: bm).contains (.type "AttributeError") = false := by
    rw [List.contains_cons, hT, F.noAttr]
    rfl
  have inN : (Value.ref C :: bm).contains (.type "NameError") = false := by
    rw [List.contains_cons, hT, F.noName]
    rfl
  refine codeAny_builtinAt F.entry ?_
  unfold Builtin.«BaseException.__new__»
  refine wpAt_bind ?_
  show wpAt _ _ _ (stack >>= _) _ _ _
  refine wpAt_bind (wpAt_stack fun p below => wpAt_of_wpAny ?_)
  wp_walk
  refine wpAt_of_wpAny ?_
  rw [F.owner]
  repeat (first
    | with_reducible refine wpAny_madeHere_exc F.canon hC ?_
    | with_reducible refine wpAny_loadPart_at hC ?_
    | (with_reducible refine wpAny_isSubtype_exc hC ?_
       first
         | rw [inB]
         | rw [inA]
         | rw [inN])
    | wp_step)
  show R _ _
  rw [Heap.size_push]
  exact hq

theorem type_call (F : ExcBaseFacts B newId initId bmB)
    (hT : ∀ X : String, bm.contains (.type X) = bmB.contains (.type X)) {fI : Addr} {Q : Fin → Shared → Prop}
    (hC : ClsAt h nm q C N bs bm hdct sn sub ab col dd k0 k1 k2 k3 k5 newId)
    (hi : W.Looks (model prog w) h (typeLookup (.ref C) "__init__") (some (.ref fI)))
    (hb : ∀ self, W.Looks (model prog w) h (bindSpecial (.ref fI) self) (.ref fI, [self]))
    (hrest : rest.length ≤ sizeLine)
    (hq : codeAny (model prog w) A (.call (.ref fI) ⟨.ref (h.objs.size + 1) :: rest, kw⟩)
      (fun r s' => match r with
        | .ok (.ret v) => v = .none ∧ Q (.done (.ret (.ref (h.objs.size + 1)))) s'
        | .ok _ => False
        | .error e => E e s') ⟨(h.push (W.kdv_tup rest)).push (excO C h.objs.size), g, d, t, os⟩) :
    wpAny (model prog w) A (Builtin.«type.__call__» ⟨.ref C :: rest, kw⟩) Q E ⟨h, g, d, t, os⟩ := by
  repeat (first
    | with_reducible refine wpAny_loadPart_at hC ?_
    | with_reducible refine wpAny_madeBy_exc hC ?_
    | wp_step)
  refine codeAny_call_builtin_code (Code.quiet_builtin _ F.quiet) (chk_new F hT hC ?_)
  refine made_new F hT hC ?_ hrest
  show wpAny _ _ _ _ _ _
  have k : ∀ b o, h.get? b = some o →
      ((h.push (W.kdv_tup rest)).push (excO C h.objs.size)).get? b = some o :=
    fun b o e => Heap.get?_push_of_some _ (Heap.get?_push_of_some _ e)
  have atC := k _ _ hC
  have atE : ((h.push (W.kdv_tup rest)).push (excO C h.objs.size)).get? (h.objs.size + 1) =
      some (excO C h.objs.size) := by heap_get
  have own : (Value.ref C :: bm).contains (.ref C) = true := by simp
  have i1 := hi.keeps k
  have b1 := (hb (.ref (h.objs.size + 1))).keeps k
  unfold isInstance
  repeat (first
    | with_reducible refine wpAny_loadPart_at atE ?_
    | (with_reducible refine wpAny_isSubtype_exc atC ?_
       rw [own])
    | wp_step)
  show wpAny _ _ (typeLookup (.ref C) _) _ _ _
  refine i1.at ?_
  refine wpAny_holding (wpAny_bind (b1.at ?_))
  refine wpAny_bind (wpAny_call (codeAny_mono hq fun r s' z => ?_))
  match r, z with
  | .error e, z => exact z
  | .ok (.ret v), z =>
    obtain ⟨rfl, z⟩ := z
    first
      | exact wpAny_pure (wpAny_pure z)
      | (wp_walk
         exact z)
  | .ok .next, z => exact z.elim
  | .ok .brk, z => exact z.elim
  | .ok .cont, z => exact z.elim

/-- C(.., ..): the error is laid, then its __init__ runs -/
theorem call_cls (F : ExcBaseFacts B newId initId bmB)
    (hT : ∀ X : String, bm.contains (.type X) = bmB.contains (.type X)) {fI : Addr}
    (hC : ClsAt h nm q C N bs bm hdct sn sub ab col dd k0 k1 k2 k3 k5 newId)
    (hi : W.Looks (model prog w) h (typeLookup (.ref C) "__init__") (some (.ref fI)))
    (hb : ∀ self, W.Looks (model prog w) h (bindSpecial (.ref fI) self) (.ref fI, [self]))
    (hrest : rest.length ≤ sizeLine)
    (hq : codeAny (model prog w) (A.under (.builtin "type.__call__" ⟨.ref C :: rest, kw⟩))
      (.call (.ref fI) ⟨.ref (h.objs.size + 1) :: rest, kw⟩) (W.InitBack (h.objs.size + 1) R)
      ⟨(h.push (W.kdv_tup rest)).push (excO C h.objs.size), g, d, t, os⟩) :
    codeAny (model prog w) A (.call (.ref C) ⟨rest, kw⟩) R ⟨h, g, d, t, os⟩ := by
  have f1 := tc_lookup
  have f2 := tc_bind (.ref C)
  have hTy : (⟨h, g, d, t, os⟩ : Shared).TypeIs (.ref C) "type" := ⟨_, hC, rfl⟩
  refine codeAny_of_tree ?_
  show wpAny _ _ (callAny (.ref C) _) _ _ _
  repeat (any_goals (first
    | assumption
    | with_reducible refine wpAny_loadPart_at hC ?_
    | wp_step))
  refine ⟨rfl, ?_⟩
  refine codeAny_call_builtin_at (Code.quiet_builtin _ (by decide +kernel)) entry_typeCall
    (wpAny_check_type_call_sub hC (type_call F hT hC hi hb hrest ?_))
  refine codeAny_mono hq fun r s' z => ?_
  match r, z with
  | .error e, z => exact z
  | .ok (.ret v), z => exact z
  | .ok .next, z => exact z
  | .ok .brk, z => exact z
  | .ok .cont, z => exact z
end
end GLX
end PySem

/-! G4: errors that are held as values: made, their field read, isinstance. -/
namespace PySem.W
open PySem PySem.Spec PySem.Calls PyProof.Rows
section
variable {prog : Program} {w : World} {A : Around} {E : Value → Shared → Prop} {s : Shared} {K : Frag}
variable {x D : Addr} {ox : Obj}
/-- what isinstance asks of the class of an error -/
structure ErrC (K : Frag) (D : Addr) : Prop where
  ga : findIn K (.ref D) "__getattribute__" = some (some (.builtin "BaseException.__getattribute__"))
  gt : findIn K (.ref D) "__getattr__" = some none
  sub : subIn K (.ref D) (.type "BaseException") = some true
  dct : hasDictIn K D = true
  cls : findIn K (.ref D) "__class__" = some (some (.builtin "object.__class__"))
  get : specialIn K (.builtin "object.__class__") "__get__" =
    some (some (.builtin "getset_descriptor.__get__"))
  tak : takesIn K (.builtin "object.__class__") = some true
  mro : mroIn K D (.type "object") = some true

theorem cls_of_err {od : Option Obj} {Q : Option Value → Shared → Prop} (C : ErrC K D) (X : K.In s.heap)
    (I : InstAt s.heap x ox D od) (hf : findObj K D od "__class__" =
      some (.bind (.builtin "getset_descriptor.__get__") (.builtin "object.__class__")))
    (h : Q (some (.ref D)) { s with toks := s.toks + 1 }) :
    wpAny (model prog w) A (getAttr? (.ref x) "__class__") Q E s := by
  obtain ⟨hp, g, d, t, os⟩ := s
  have l0 := I.type (M := model prog w)
  have l1 := looks_findIn (M := model prog w) X C.ga
  have l2 := looks_findIn (M := model prog w) X C.gt
  have l3 := looks_find (M := model prog w) X I hf
  have isb : Looks (model prog w) hp (isInstance (.ref x) (.type "BaseException")) true :=
    l0.andThen (looks_subIn X C.sub)
  have ne : (Value.builtin "BaseException.__getattribute__" ==
    Value.builtin "object.__getattribute__") = false := by decide +kernel
  have fst : (onTheHeap (Value.ref D) && Value.builtin "BaseException.__getattribute__" ==
      Value.builtin "object.__getattribute__") = false := by rw [ne]; rfl
  unfold getAttr? getAttrBy? getAttrBy
  refine wpAny_bind (wpAny_mkText (wpAny_bind (wpAny_attempt (wpAny_holding ?_))))
  refine wpAny_bind (l0.at (wpAny_bind (l1.at ?_)))
  show wpAny _ _ (if (onTheHeap (Value.ref D) &&
    Value.builtin "BaseException.__getattribute__" ==
      Value.builtin "object.__getattribute__") = true then _ else _) _ _ _
  rw [fst, if_neg Bool.false_ne_true]
  unfold getAttrByItsOwn hookBefore
  refine wpAny_bind ?_
  rw [if_pos (show onTheHeap (Value.ref D) = true from rfl)]
  refine l2.at ?_
  refine wpAny_bind (wpAny_attempt (wpAny_holding ?_))
  unfold callGetattribute
  rw [show (false && onTheHeap (Value.builtin "BaseException.__getattribute__")) = false from rfl,
    if_neg Bool.false_ne_true]
  unfold boundAndCalled
  rw [PySem.F.excAttr_ValueError.ga.bind (.ref x)]
  refine wpAny_bind (wpAny_pure ?_)
  show wpAny _ _ (call (.builtin "BaseException.__getattribute__")
    [.ref x, .str "__class__" t]) _ _ _
  refine wpAny_call (codeAny_call_builtin PySem.F.excAttr_ValueError.ga.plain
    PySem.F.entry_bexc_ga ?_)
  refine @check_slot (model prog w) _ _ ⟨hp, g, d, t + 1, os⟩ "BaseException.__getattribute__"
    "BaseException" "__getattribute__" (.ref x) [.str "__class__" t] [] _ (by decide +kernel)
    (by decide +kernel) isb (PySem.F.args_bexc_ga (.ref x) (.str "__class__" t)) ?_
  unfold Builtin.«object.__getattribute__»
  refine wpAny_bind (wpAny_of_eq (a := ((Value.ref x : Value), [Value.str "__class__" t])) ?_ ?_)
  · first
      | rfl
      | (simp only [slotArgs]; rfl)
  refine wpAny_bind (wpAny_pure (wpAny_bind (l0.at (wpAny_bind (l3.at ?_)))))
  show wpAny _ _ (holding [Value.builtin "object.__class__"]
    (call (.builtin "getset_descriptor.__get__")
      [.builtin "object.__class__", .ref x, .ref D]) >>= ret) _ _ _
  refine wpAny_bind (wpAny_holding (wpAny_call
    (class_get (s := ⟨hp, g, d, t + 1, os⟩) (ox := ox) (od := od) X I C.mro ?_)))
  refine wpAny_pure ?_
  show wpAny _ _ (handedOut (.ref D)) _ _ _
  rw [handedOut_of (v := .ref D) rfl]
  first
    | exact wpAny_pure (wpAny_pure h)
    | exact wpAny_pure h
    | exact wpAny_pure (wpAny_bind (wpAny_pure (wpAny_pure h)))

theorem cls_there {D : Addr} (h : hasDictIn K D = true) :
    ∃ c d cd sl, K.lookup D = some ⟨c, d, .cls cd, sl⟩ := by
  obtain ⟨cd, hc, _⟩ := any_some h
  unfold clsIn at hc
  split at hc
  · exact ⟨_, _, _, _, by assumption⟩
  · cases hc
/-- the kit of isinstance for an error that has its dict -/
theorem kit_err {od : Obj} (C : ErrC K D) : KitX K (.ref x) (.ref D) (fun h => InstAt h x ox D (some od)) where
  ty := fun _ _ _ I => I.type
  it := fun _ _ X _ => by
    obtain ⟨c, d, cd, sl, ho⟩ := cls_there C.dct
    intro A' Q' E' s' k q
    unfold isType loadHead
    exact wpAny_bind (wpAny_loadPart (k _ _ (X _ _ ho)) (wpAny_pure q))
  ne := fun h tp dd its n sl X htp => by
    obtain ⟨c, d, cd, sl', ho⟩ := cls_there C.dct
    refine Bool.eq_false_iff.mpr fun q => ?_
    have e : D = tp := Value.ref.inj (beq_iff_eq.mp q)
    subst e
    cases (X _ _ ho).symm.trans htp
  ca := fun X I k => cls_of_err C X I (findObj_data (by
    obtain ⟨cd, hc, _⟩ := any_some C.dct
    rw [hc]; rfl) C.cls C.get C.tak) k
end
end PySem.W

namespace GL
open PySem PySem.Spec PyProof.Rows L2
/-- an error of the class at C with its one field -/
def IsErr (H : Hp) (a C : Addr) (v : V) : Prop :=
  ∃ d, H a = some (exo a C (some d)) ∧ H d = some (exd d [("value", v)])
theorem IsErr.keep {H H' : Hp} {a C : Addr} {v : V} (k : ∀ b o, H b = some o → H' b = some o)
    (h : IsErr H a C v) : IsErr H' a C v := let ⟨d, h1, h2⟩ := h; ⟨d, k _ _ h1, k _ _ h2⟩

section
variable {X : Cx} {pins : List (Addr × Obj)} {σ : L2.St} {H : Hp} {s : Shared} {a C : Addr} {v : V}
theorem err_at {K : PySem.W.Frag} {od : Addr} (hok : HOk X.prog X.w H s.heap)
    (h1 : H a = some (exo a C (some od))) (h2 : H od = some (exd od [("value", v)])) :
    ∃ ox o, PySem.W.InstAt s.heap a ox C (some o) ∧ ∃ u, RelV v u ∧ PySem.W.lookIn "value" o = some (some u) := by
  obtain ⟨t1, e1⟩ := exo_at hok h1
  obtain ⟨mA, hns, hr⟩ := exd_at hok h2
  obtain ⟨o, ho, hl⟩ := lookIn_ns hns
  obtain ⟨u, hu, ru⟩ := RelO.some_of (v := v) (o := mA "value") (hr "value")
  exact ⟨_, o, ⟨e1, rfl, rfl, ho⟩, u, ru, by rw [hl, hu]⟩

/-- the reading of e.value -/
def tErrF (K : PySem.W.Frag) (te : TE) : TE := fun σ H Q => te σ H fun x H1 => ∃ a C v, x = .ref a ∧
  XfC K C ∧ PySem.W.findIn K (.ref C) "value" = some none ∧ IsErr H1 a C v ∧ Q v H1
theorem pe_errF {e : Expr} {te : TE} {pos : Pos} (he : PE X e te)
    (hb : attributeBase e "value" X.env (eval e X.env) = eval e X.env := by rfl) :
    PE X (.Attribute e "value" pos) (tErrF X.K te) := by
  refine ⟨fun pins s σ H Q I h => attr_of hb (thn (he.run pins s σ H _ I h) fun u s1 hh => ?_)⟩
  obtain ⟨x, H1, I1, rx, a, C, v, ex, T, hno, ⟨d, h1, h2⟩, q⟩ := hh
  subst ex
  obtain rfl : u = Value.ref a := rx
  obtain ⟨ox, o, J, y, ry, hl⟩ := err_at (K := X.K) I1.hok h1 h2
  exact HandSPX.exc_get I1.kIn J T.ga T.gg T.exC (PySem.W.findObj_own T.hdC hno rfl hl)
    (handed_of ry) ⟨v, H1, I1.tok _, ry, q⟩

/-- isinstance(e, c) -/
def rIsErr (K : PySem.W.Frag) : List V → Hp → VK → Prop := fun xs H Q => ∃ a D v c cv b, xs = [.ref a, c] ∧
  PySem.W.ErrC K D ∧ IsErr H a D v ∧ ClsV c cv ∧ PySem.W.kitOne K (.ref D) cv = some b ∧ Q (.bl b) H
theorem call_isErr : CallR X (.builtin "isinstance") (rIsErr X.K) := by
  intro pins s σ H xs us Q I r h
  obtain ⟨a, D, v, c, cv, b, rfl, T, ⟨d, h1, h2⟩, k, e, q⟩ := h
  obtain ⟨u1, u2, rfl, r1, r2⟩ := vals2 r
  have e2 := k.eq r2
  subst e2
  obtain rfl : u1 = Value.ref a := r1
  obtain ⟨ox, o, J, _⟩ := err_at (K := X.K) I.hok h1 h2
  exact PySem.W.kia_one (PySem.W.kit_err T) I.kIn J e (fun z => nomatch z)
    fun tk => ⟨.bl b, H, I.tok tk, rfl, q⟩
end

/-! ### an error made -/
section
variable {X : Cx} {k : Nat} {fI C : Addr} {fd : FuncData} {ps ks : List Str} {sp : Sp} {x : Str}
variable {p pos : Pos} {e : Expr} {es : List Expr} {t tk : TA} {kws : List Keyword}
/-- what is known of the class at C and of its __init__ -/
structure ErrMk (K : PySem.W.Frag) (C fI : Addr) : Prop where
  oex : OexC K C
  ini : PySem.W.findIn K (.ref C) "__init__" = some (some (.ref fI))
  fun_ : PySem.W.typeIn K (.ref fI) = some (.type "function")
theorem under_guards {A : Around} {args : Args} (h : A.guards = some []) :
    (A.under (.builtin "type.__call__" args)).guards = some [] := by
  simp [Around.under, Code.guards, Code.isGuard, guardIds, pushGuards, h]

theorem run_err {args : Args} {us : List Value} {vs : List V} {pins : List (Addr × Obj)} {σ : L2.St} {H : Hp}
    {s : Shared} {Q : VK} (M : ErrMk X.K C fI) (F : FnOk X.prog X.w X.K X.mg X.base CX0 k fI fd ps sp)
    (hr : Room (k + 1) X.A) (I : Inv X pins σ H s) (hl : args.pos.length ≤ sizeLine)
    (hb : ∀ (s' : Shared) (a : Value), X.K.In s'.heap →
      BindsTo s' fd ⟨a :: args.pos, args.kw⟩ (ps.zip (a :: us))) (r : Vals vs us)
    (q : ∀ a, H a = none → sp (.ref a :: vs) (upd H a (exo a C none)) (fun v H3 => v = .non ∧ Q (.ref a) H3) E0) :
    wpAny (model X.prog X.w) X.A (call (.ref C) args.pos args.kw) (EP X pins σ Q) X.xe s := by
  obtain ⟨nm, qn, N, bs, bm, sn, sub, ab, col, dd, k0, k1, k2, k3, k5, hC, hbm⟩ := M.oex.cls
  obtain ⟨hp, g, dr, tk, os⟩ := s
  have sz : hp.objs.size ≤ hp.objs.size + 1 := Nat.le_succ _
  have fresh : H (hp.objs.size + 1) = none := I.hok.fresh sz
  have keep : ∀ b o, hp.get? b = some o →
      ((hp.push (PySem.W.kdv_tup args.pos)).push (HandSPX.excO C hp.objs.size)).get? b = some o :=
    fun b o z => Heap.get?_push_of_some _ (Heap.get?_push_of_some _ z)
  have there : ((hp.push (PySem.W.kdv_tup args.pos)).push (HandSPX.excO C hp.objs.size)).get?
      (hp.objs.size + 1) = some (HandSPX.excO C hp.objs.size) := by heap_get
  have J := I.laid (t' := tk) (a := hp.objs.size + 1) (o := exo (hp.objs.size + 1) C none) keep sz (exo_ok there)
  have rr : Vals (V.ref (hp.objs.size + 1) :: vs) (Value.ref (hp.objs.size + 1) :: us) := .cons rfl r
  refine wpAny_call (GLX.call_cls PySem.F.excBase_ValueError (fun Y => HandSPX.refsVE_contains Y bm hbm)
    (I.kIn _ _ hC) (PySem.W.looks_findIn I.kIn M.ini) (fun self => PySem.W.bind_fn I.kIn self M.fun_) hl
    (codeAny_mono (FnOk.run F _ X.stack _ _ ⟨Value.ref (hp.objs.size + 1) :: args.pos, args.kw⟩ _ _ _ _
      (hr.make C args.pos args.kw) (J.env0.make C args.pos args.kw) (hb _ _ J.kIn) rr (q _ fresh)) ?_))
  intro res s' hq
  match res, hq with
  | .error er, hq => exact hq.elim
  | .ok .next, hq => exact hq.elim
  | .ok .brk, hq => exact hq.elim
  | .ok .cont, hq => exact hq.elim
  | .ok (.ret u), hq =>
    obtain ⟨v, H3, J3, rv, ev, q3⟩ := J.after hq
    subst ev
    exact ⟨rv, .ref _, H3, J3, rfl, q3⟩

def tErr (C : Addr) (sp : Sp) (t : TA) : TE := fun σ H Q => t σ H fun vs H1 => vs.length ≤ 1000 ∧
  ∀ a, H1 a = none → sp (.ref a :: vs) (upd H1 a (exo a C none)) (fun v H3 => v = .non ∧ Q (.ref a) H3) E0
/-- C(e, ..) -/
theorem pe_err (M : ErrMk X.K C fI) (F : FnOk X.prog X.w X.K X.mg X.base CX0 k fI fd ps sp)
    (hr : Room (k + 1) X.A) (hg : Gl X x) (hm : X.mg x = some (.ref C)) (hb : Binds X.K fd ps [])
    (ha : PA X (e :: es) t) (hdb : (x == ("__debug__" : Str)) = false := by decide)
    (he : starEach (e :: es) X.env = (false, eval e X.env) :: starEach es X.env := by rfl)
    (hpl : (backTo pos (starEach es X.env)).any (·.1) = false := by rfl) :
    PE X (.Call (.Name x p) (e :: es) [] pos) (tErr C sp t) := by
  refine ⟨fun pins s σ H Q I h => wpAny_Call_Name_kw (ld_glob I hg hm ?_ hdb)⟩
  refine PySem.W.callWith_K (h₀ := X.base) I.ok.mod.kin M.oex.kC ?_ he hpl
  refine thn (ha.run pos pins s σ H _ I h) fun us s1 ⟨vs, H1, I1, r1, hz, q1⟩ => ⟨I1.kIn, ?_⟩
  have hu : us.length ≤ sizeLine := by rw [← r1.length, sizeLine_eq]; omega
  have hfree := I1.hok.fresh (Nat.le_refl _)
  refine run_err (args := ⟨us, []⟩) M F hr I1 hu (fun s' a K' => ?_) r1 q1
  have hl : (a :: us).length = ps.length := by
    have z := F.len _ _ _ _ (q1 _ hfree)
    rw [← z, List.length_cons, List.length_cons, r1.length]
  have y := hb s' (a :: us) K' (by rw [List.append_nil]; exact hl)
  rw [List.append_nil] at y
  exact y
def tErrK (C : Addr) (sp : Sp) (tk : TA) : TE := fun σ H Q => tk σ H fun zs H1 =>
  ∀ a, H1 a = none → sp (.ref a :: zs) (upd H1 a (exo a C none)) (fun v H3 => v = .non ∧ Q (.ref a) H3) E0
/-- C(k = e, ..), all by name, in the parameters' order -/
theorem pe_errK (M : ErrMk X.K C fI) (F : FnOk X.prog X.w X.K X.mg X.base CX0 k fI fd ps sp)
    (hr : Room (k + 1) X.A) (hg : Gl X x) (hm : X.mg x = some (.ref C))
    (hb : ∀ (s : Shared) (a : Value) (ws : List Value), X.K.In s.heap → (a :: ws).length = ps.length →
      BindsTo s fd ⟨[a], ks.zip ws⟩ (ps.zip (a :: ws)))
    (hkw : PK X kws tk)
    (hall : (backToKw pos (keywordEach kws X.env)).all (·.1.isSome) = true := by rfl)
    (hks : (backToKw pos (keywordEach kws X.env)).filterMap (·.1) = ks := by rfl)
    (hdb : (x == ("__debug__" : Str)) = false := by decide)
    (hpl : ((backTo pos (starEach [] X.env)).any (·.1) ||
      (backToKw pos (keywordEach kws X.env)).any (·.1.isNone)) = false := by rfl) :
    PE X (.Call (.Name x p) [] kws pos) (tErrK C sp tk) := by
  refine ⟨fun pins s σ H Q I h => wpAny_Call_Name_kw (ld_glob I hg hm ?_ hdb)⟩
  refine PySem.W.callWith_KW0 (h₀ := X.base) I.ok.mod.kin M.oex.kC hall ?_ hpl
  refine thn (hkw.run pos pins s σ H _ I h) fun ws s1 ⟨zs, H1, I1, r1, q1⟩ => ⟨I1.kIn, ?_⟩
  rw [hks]
  have hfree := I1.hok.fresh (Nat.le_refl _)
  refine run_err (args := ⟨[], ks.zip ws⟩) (us := ws) M F hr I1 (Nat.zero_le _) (fun s' a K' => hb s' a ws K' ?_) r1 q1
  have z := F.len _ _ _ _ (q1 _ hfree)
  rw [← z, List.length_cons, List.length_cons, r1.length]
end
end GL

/-! Q0: the text of the law. -/
namespace K01
open PySem PySem.Spec PyProof.Rows L2 GL
def topS (i : Nat) : Stmt :=
  PySem.Challenge.pw_steadymixes_k01_games_mixes_and_lots_kno.main.body.getD i (.Pass ⟨0, 0, 0, 0⟩)
-- 2: class MixError
abbrev sInit : Stmt := inClass (topS 2) 0
theorem scInit : FnScope ["self", "value"] ["self", "value"] (defScope sInit) :=
  ⟨rfl, rfl, rfl, by decide +kernel, rfl, by decide +kernel, by decide +kernel⟩
-- 3: class InvalidGame
-- 4: class InvalidSide
abbrev sRatio : Stmt := topS 6
theorem scRatio : FnScope ["above", "below", "common"] ["above", "below"] (defScope sRatio) :=
  ⟨rfl, rfl, rfl, by decide +kernel, rfl, by decide +kernel, by decide +kernel⟩
abbrev sScaled : Stmt := topS 7
theorem scScaled : FnScope ["parts", "below", "_", "part_below", "above"] ["parts"] (defScope sScaled) :=
  ⟨rfl, rfl, rfl, by decide +kernel, rfl, by decide +kernel, by decide +kernel⟩
abbrev sSumOf : Stmt := topS 8
theorem scSumOf : FnScope ["parts", "numbers", "below"] ["parts"] (defScope sSumOf) :=
  ⟨rfl, rfl, rfl, by decide +kernel, rfl, by decide +kernel, by decide +kernel⟩
abbrev sSize : Stmt := topS 10
theorem scSize : FnScope ["game", "side", "first"] ["game", "side"] (defScope sSize) :=
  ⟨rfl, rfl, rfl, by decide +kernel, rfl, by decide +kernel, by decide +kernel⟩
abbrev sIsWhole : Stmt := topS 14
theorem scIsWhole : FnScope ["value"] ["value"] (defScope sIsWhole) :=
  ⟨rfl, rfl, rfl, by decide +kernel, rfl, by decide +kernel, by decide +kernel⟩
abbrev sIsTupleOf : Stmt := topS 15
theorem scIsTupleOf : FnScope ["value", "many"] ["value", "many"] (defScope sIsTupleOf) :=
  ⟨rfl, rfl, rfl, by decide +kernel, rfl, by decide +kernel, by decide +kernel⟩
abbrev sIsFraction : Stmt := topS 16
theorem scIsFraction : FnScope ["value", "above", "below"] ["value"] (defScope sIsFraction) :=
  ⟨rfl, rfl, rfl, by decide +kernel, rfl, by decide +kernel, by decide +kernel⟩
abbrev sAreChances : Stmt := topS 17
theorem scAreChances : FnScope ["value", "many", "part"] ["value", "many"] (defScope sAreChances) :=
  ⟨rfl, rfl, rfl, by decide +kernel, rfl, by decide +kernel, by decide +kernel⟩
abbrev sNumberFits : Stmt := topS 18
theorem scNumberFits : FnScope ["value"] ["value"] (defScope sNumberFits) :=
  ⟨rfl, rfl, rfl, by decide +kernel, rfl, by decide +kernel, by decide +kernel⟩
abbrev sAreNumbers : Stmt := topS 19
theorem scAreNumbers : FnScope ["value", "number"] ["value"] (defScope sAreNumbers) :=
  ⟨rfl, rfl, rfl, by decide +kernel, rfl, by decide +kernel, by decide +kernel⟩
abbrev sManyFits : Stmt := topS 20
theorem scManyFits : FnScope ["value"] ["value"] (defScope sManyFits) :=
  ⟨rfl, rfl, rfl, by decide +kernel, rfl, by decide +kernel, by decide +kernel⟩
abbrev sIsRow : Stmt := topS 21
theorem scIsRow : FnScope ["value"] ["value"] (defScope sIsRow) :=
  ⟨rfl, rfl, rfl, by decide +kernel, rfl, by decide +kernel, by decide +kernel⟩
abbrev sTableFits : Stmt := topS 22
theorem scTableFits : FnScope ["value", "row"] ["value"] (defScope sTableFits) :=
  ⟨rfl, rfl, rfl, by decide +kernel, rfl, by decide +kernel, by decide +kernel⟩
abbrev sGameFits : Stmt := topS 23
theorem scGameFits : FnScope ["value", "first", "second"] ["value"] (defScope sGameFits) :=
  ⟨rfl, rfl, rfl, by decide +kernel, rfl, by decide +kernel, by decide +kernel⟩
abbrev sSideFits : Stmt := topS 24
theorem scSideFits : FnScope ["value"] ["value"] (defScope sSideFits) :=
  ⟨rfl, rfl, rfl, by decide +kernel, rfl, by decide +kernel, by decide +kernel⟩
abbrev sMixFits : Stmt := topS 25
theorem scMixFits : FnScope ["game", "side", "value"] ["game", "side", "value"] (defScope sMixFits) :=
  ⟨rfl, rfl, rfl, by decide +kernel, rfl, by decide +kernel, by decide +kernel⟩
abbrev sChoiceFits : Stmt := topS 26
theorem scChoiceFits : FnScope ["game", "side", "value"] ["game", "side", "value"] (defScope sChoiceFits) :=
  ⟨rfl, rfl, rfl, by decide +kernel, rfl, by decide +kernel, by decide +kernel⟩
abbrev sLotFits : Stmt := topS 27
theorem scLotFits : FnScope ["game", "side", "value", "choice", "at"] ["game", "side", "value"] (defScope sLotFits) :=
  ⟨rfl, rfl, rfl, by decide +kernel, rfl, by decide +kernel, by decide +kernel⟩
abbrev sAnew : Stmt := topS 29
theorem scAnew : FnScope ["value", "part"] ["value"] (defScope sAnew) :=
  ⟨rfl, rfl, rfl, by decide +kernel, rfl, by decide +kernel, by decide +kernel⟩
abbrev sCheckGame : Stmt := topS 30
theorem scCheckGame : FnScope ["game"] ["game"] (defScope sCheckGame) :=
  ⟨rfl, rfl, rfl, by decide +kernel, rfl, by decide +kernel, by decide +kernel⟩
abbrev sCheckSide : Stmt := topS 31
theorem scCheckSide : FnScope ["side"] ["side"] (defScope sCheckSide) :=
  ⟨rfl, rfl, rfl, by decide +kernel, rfl, by decide +kernel, by decide +kernel⟩
abbrev sCheckGameAndSide : Stmt := topS 32
theorem scCheckGameAndSide : FnScope ["game", "side"] ["game", "side"] (defScope sCheckGameAndSide) :=
  ⟨rfl, rfl, rfl, by decide +kernel, rfl, by decide +kernel, by decide +kernel⟩
abbrev sIsGame : Stmt := topS 34
theorem scIsGame : FnScope ["value"] ["value"] (defScope sIsGame) :=
  ⟨rfl, rfl, rfl, by decide +kernel, rfl, by decide +kernel, by decide +kernel⟩
abbrev sIsMix : Stmt := topS 35
theorem scIsMix : FnScope ["game", "side", "value"] ["game", "side", "value"] (defScope sIsMix) :=
  ⟨rfl, rfl, rfl, by decide +kernel, rfl, by decide +kernel, by decide +kernel⟩
abbrev sIsLot : Stmt := topS 36
theorem scIsLot : FnScope ["game", "side", "value"] ["game", "side", "value"] (defScope sIsLot) :=
  ⟨rfl, rfl, rfl, by decide +kernel, rfl, by decide +kernel, by decide +kernel⟩
abbrev sLSource : Stmt := topS 38
theorem scLSource : FnScope ["script"] ["script"] (defScope sLSource) :=
  ⟨rfl, rfl, rfl, by decide +kernel, rfl, by decide +kernel, by decide +kernel⟩
abbrev sLPick : Stmt := topS 39
theorem scLPick : FnScope ["source", "many", "found", "cell", "mixed"] ["source", "many"] (defScope sLPick) :=
  ⟨rfl, rfl, rfl, by decide +kernel, rfl, by decide +kernel, by decide +kernel⟩
abbrev sLLeast : Stmt := topS 40
theorem scLLeast : FnScope ["above", "below", "one", "other"] ["above", "below"] (defScope sLLeast) :=
  ⟨rfl, rfl, rfl, by decide +kernel, rfl, by decide +kernel, by decide +kernel⟩
abbrev sLWhole : Stmt := topS 41
theorem scLWhole : FnScope ["value"] ["value"] (defScope sLWhole) :=
  ⟨rfl, rfl, rfl, by decide +kernel, rfl, by decide +kernel, by decide +kernel⟩
abbrev sLIsTable : Stmt := topS 42
theorem scLIsTable : FnScope ["value", "row", "number"] ["value"] (defScope sLIsTable) :=
  ⟨rfl, rfl, rfl, by decide +kernel, rfl, by decide +kernel, by decide +kernel⟩
abbrev sLIsGame : Stmt := topS 43
theorem scLIsGame : FnScope ["value"] ["value"] (defScope sLIsGame) :=
  ⟨rfl, rfl, rfl, by decide +kernel, rfl, by decide +kernel, by decide +kernel⟩
abbrev sLIsMix : Stmt := topS 44
theorem scLIsMix : FnScope ["value", "many", "above", "below", "part"] ["value", "many"] (defScope sLIsMix) :=
  ⟨rfl, rfl, rfl, by decide +kernel, rfl, by decide +kernel, by decide +kernel⟩
abbrev sLIsLot : Stmt := topS 45
theorem scLIsLot : FnScope ["value", "many", "last", "choice"] ["value", "many"] (defScope sLIsLot) :=
  ⟨rfl, rfl, rfl, by decide +kernel, rfl, by decide +kernel, by decide +kernel⟩
abbrev sLNumber : Stmt := topS 46
theorem scLNumber : FnScope ["source", "kind"] ["source", "kind"] (defScope sLNumber) :=
  ⟨rfl, rfl, rfl, by decide +kernel, rfl, by decide +kernel, by decide +kernel⟩
abbrev sLTable : Stmt := topS 47
theorem scLTable : FnScope ["source", "rows", "columns", "kind", "row", "column"] ["source", "rows", "columns"] (defScope sLTable) :=
  ⟨rfl, rfl, rfl, by decide +kernel, rfl, by decide +kernel, by decide +kernel⟩
abbrev sLGame : Stmt := topS 48
theorem scLGame : FnScope ["source", "most", "rows", "columns"] ["source", "most"] (defScope sLGame) :=
  ⟨rfl, rfl, rfl, by decide +kernel, rfl, by decide +kernel, by decide +kernel⟩
abbrev sLShares : Stmt := topS 49
theorem scLShares : FnScope ["source", "many", "way", "size_v", "numbers", "at", "one", "other", "step", "choice"] ["source", "many"] (defScope sLShares) :=
  ⟨rfl, rfl, rfl, by decide +kernel, rfl, by decide +kernel, by decide +kernel⟩
abbrev sLMix : Stmt := topS 50
theorem scLMix : FnScope ["numbers", "number"] ["numbers"] (defScope sLMix) :=
  ⟨rfl, rfl, rfl, by decide +kernel, rfl, by decide +kernel, by decide +kernel⟩
abbrev sLOdd : Stmt := topS 51
theorem scLOdd : FnScope ["source", "part", "fixed", "doubled", "ways", "number"] ["source", "part"] (defScope sLOdd) :=
  ⟨rfl, rfl, rfl, by decide +kernel, rfl, by decide +kernel, by decide +kernel⟩
abbrev sLBent : Stmt := topS 52
theorem scLBent : FnScope ["source", "value", "at"] ["source", "value"] (defScope sLBent) :=
  ⟨rfl, rfl, rfl, by decide +kernel, rfl, by decide +kernel, by decide +kernel⟩
abbrev sLBelow : Stmt := topS 53
theorem scLBelow : FnScope ["source", "many", "parts", "one", "other", "below", "choice"] ["source", "many"] (defScope sLBelow) :=
  ⟨rfl, rfl, rfl, by decide +kernel, rfl, by decide +kernel, by decide +kernel⟩
abbrev sLStretched : Stmt := topS 54
theorem scLStretched : FnScope ["source", "game", "way", "table", "row"] ["source", "game"] (defScope sLStretched) :=
  ⟨rfl, rfl, rfl, by decide +kernel, rfl, by decide +kernel, by decide +kernel⟩
abbrev sLTold : Stmt := topS 55
theorem scLTold : FnScope ["way", "game", "side", "value", "named"] ["way", "game", "side", "value", "named"] (defScope sLTold) :=
  ⟨rfl, rfl, rfl, by decide +kernel, rfl, by decide +kernel, by decide +kernel⟩
abbrev sLDue : Stmt := topS 56
theorem scLDue : FnScope ["way", "value", "many"] ["way", "value", "many"] (defScope sLDue) :=
  ⟨rfl, rfl, rfl, by decide +kernel, rfl, by decide +kernel, by decide +kernel⟩
abbrev sLAsked : Stmt := topS 57
theorem scLAsked : FnScope ["way", "game", "side", "value", "due", "named", "before", "found"] ["way", "game", "side", "value", "due", "named"] (defScope sLAsked) :=
  ⟨rfl, rfl, rfl, by decide +kernel, rfl, by decide +kernel, by decide +kernel⟩
abbrev sLaw : Stmt := topS 58
theorem scLaw : FnScope ["script", "source", "turn", "game", "side", "many", "mix", "lot", "asked", "named", "time", "way", "value", "choice", "part"] ["script"] (defScope sLaw) :=
  ⟨rfl, rfl, rfl, by decide +kernel, rfl, by decide +kernel, by decide +kernel⟩
end K01

/-! Q1: heaps, _law_source, _law_pick. -/
namespace K01
open PySem PySem.Spec PyProof.Rows L2 GL

/-! ### heaps -/
/-- all but the one at p stays -/
def Kp (p : Addr) (H H' : Hp) : Prop := ∀ b o, b ≠ p → H b = some o → H' b = some o
theorem Kp.refl (p : Addr) (H : Hp) : Kp p H H := fun _ _ _ h => h
theorem Kp.trans {p : Addr} {H H1 H2 : Hp} (a : Kp p H H1) (b : Kp p H1 H2) : Kp p H H2 :=
  fun c o n h => b c o n (a c o n h)
theorem Kp.put {p : Addr} {H : Hp} {o : HO} : Kp p H (upd H p o) := fun b u n h => by rw [upd_ne n]; exact h
theorem Kp.new {p l : Addr} {H : Hp} {o : HO} (h : H l = none) : Kp p H (upd H l o) := fun b u n e => by
  rw [upd_ne (ne_of_none e h)]; exact e
theorem Kp.same {p : Addr} {H H' : Hp} (s : Same H H') : Kp p H H' := fun b u _ e => s b u e
theorem same_new {l : Addr} {H : Hp} {o : HO} (h : H l = none) : Same H (upd H l o) := fun b u e => by
  rw [upd_ne (ne_of_none e h)]; exact e

/-- a source: the script's copy, the place in it, what is left of a number, the seed, the count -/
def SrcO (sc : Addr) (o : HO) : Prop := ∃ i r sd c : Int, o = .lst [.ref sc, .int i, .int r, .int sd, .int c] ∧ 0 ≤ i ∧ 0 ≤ r ∧ 0 ≤ sd ∧
  sd < 2 ^ 30
/-- the source at p over the script's copy at sc -/
def Src (H : Hp) (p sc : Addr) (ns : List Int) : Prop := p ≠ sc ∧ H sc = some (.lst (ns.map V.int)) ∧ ∃ o, H p = some o ∧ SrcO sc o
theorem Src.kp {H H' : Hp} {p sc : Addr} {ns : List Int} (h : Src H p sc ns) (k : Kp p H H') (o : HO) (e : H' p = some o) (so : SrcO sc o) :
    Src H' p sc ns := ⟨h.1, k sc _ (fun z => h.1 z.symm) h.2.1, o, e, so⟩
theorem Src.same {H H' : Hp} {p sc : Addr} {ns : List Int} (h : Src H p sc ns) (k : Same H H') : Src H' p sc ns :=
  let ⟨a, b, o, e, so⟩ := h; ⟨a, k _ _ b, o, k _ _ e, so⟩

section
variable {P : Program} {w : World} {K : PySem.W.Frag} {mg : Str → Option Value} {base : Heap}

/-- what a pick may be drawn below, by the depth of its recursion -/
def most : Nat → Int
  | 0 => 100000
  | n + 1 => 100000 * (most n - 1)
theorem most_ge : ∀ n, 100000 ≤ most n
  | 0 => Int.le_refl _
  | n + 1 => by have := most_ge n; unfold most; omega

def spPick (n : Nat) : Sp := fun vs H Q _ => ∃ (p sc : Addr) (ns : List Int) (many : Int), vs = [.ref p, .int many] ∧ 0 < many ∧ many ≤ most n ∧
  many < 2 ^ 1100 ∧ Src H p sc ns ∧ ∀ r o', 0 ≤ r → r < many → SrcO sc o' → Q (.int r) (upd H p o')

theorem ok_pick0 {f : Addr} {fd : FuncData} (F : Fun K "_law_pick" "_law_pick" sLPick f fd) (bF : Binds K fd ["source", "many"] [])
    (gF : mg "_law_pick" = some (.ref f)) (mi : mg "int" = none) (ml : mg "len" = none) (ma : mg "abs" = none)
     : FnOk P w K mg base CX0 1 f fd ["source", "many"] (spPick 0) := by
  refine F.ok scLPick (fun vs H Q E h => ?_) (fun cdv A outer s H vs Q E hr h => ?_)
  · obtain ⟨p, sc, ns, many, rfl, _⟩ := h
    rfl
  · obtain ⟨p, sc, ns, many, rfl, h1, h2, h3, ⟨hne, hsc, o, hp, i, r, sd, c, rfl, hi, hr0, hs0, hs1⟩, q⟩ := h
    refine ⟨_, pss_cons (ps_if (pt_cmpR op_gt (pe_ix ix_list (pv 0) pe_int (fun _ _ => rfl)) pe_int (nomark _))
        (pss_cons (ps_set (i := 2) scLPick.nd rfl (.inl rfl) (pe_op op_mod (pe_callTy call_int1 (by rfl) mi (by decide +kernel) (pa_cons (pe_ix ix_list (pv 0) pe_int (fun _ _ => rfl)) pa_nil)) (pv 1)))
        (pss_cons (ps_asg (pe_op op_fdivW (pe_callTy call_int1 (by rfl) mi (by decide +kernel) (pa_cons (pe_ix ix_list (pv 0) pe_int (fun _ _ => rfl)) pa_nil)) (pv 1)) (pg_sub (pv 0) pe_int set_list))
        (pss_one (ps_ret (pv 2))))) pss_nil)
      (pss_cons (ps_set (i := 3) scLPick.nd rfl (.inl rfl) pe_int)
      (pss_cons (ps_if (pt_cmpR op_lt (pe_ix ix_list (pv 0) pe_int (fun _ _ => rfl)) (pe_callB call_len_seq (by rfl) ml PySem.boot_len (pa_cons (pe_ix ix_list (pv 0) pe_int (fun _ _ => rfl)) pa_nil)) (nomark _))
        (pss_cons (ps_set (i := 3) scLPick.nd rfl (.inl rfl) (pe_ix ix_list (pe_ix ix_list (pv 0) pe_int (fun _ _ => rfl)) (pe_ix ix_list (pv 0) pe_int (fun _ _ => rfl)) (fun _ _ => rfl)))
        (pss_one (ps_asg (pe_op op_add (pe_ix ix_list (pv 0) pe_int (fun _ _ => rfl)) pe_int) (pg_sub (pv 0) pe_int set_list)))) pss_nil)
      (pss_cons (ps_asg (pe_op op_add (pe_ix ix_list (pv 0) pe_int (fun _ _ => rfl)) pe_int) (pg_sub (pv 0) pe_int set_list))
      (pss_cons (ps_if (pt_cmpR op_ge (pe_callB call_abs (by rfl) ma (by decide +kernel) (pa_cons (pv 3) pa_nil)) (pe_op op_pow pe_int pe_int) (nomark _))
        (pss_cons (ps_asg (pe_op op_fdivW (pe_callB call_abs (by rfl) ma (by decide +kernel) (pa_cons (pv 3) pa_nil)) (pv 1)) (pg_sub (pv 0) pe_int set_list))
        (pss_one (ps_ret (pe_op op_mod (pe_callTy call_int1 (by rfl) mi (by decide +kernel) (pa_cons (pe_callB call_abs (by rfl) ma (by decide +kernel) (pa_cons (pv 3) pa_nil)) pa_nil)) (pv 1))))) pss_nil)
      (pss_cons (ps_set (i := 4) scLPick.nd rfl (.inl rfl) (pe_op op_mod (pe_callTy call_int1 (by rfl) mi (by decide +kernel) (pa_cons (pe_op op_add (pe_op op_add (pe_op op_add (pe_op op_mul (pe_ix ix_list (pv 0) pe_int (fun _ _ => rfl)) pe_int) (pe_op op_mul (pv 3) pe_int)) (pe_op op_mul (pe_ix ix_list (pv 0) pe_int (fun _ _ => rfl)) pe_int)) pe_int) pa_nil)) pe_int))
      (pss_cons (ps_set (i := 4) scLPick.nd rfl (.inl rfl) (pe_op op_mod (pe_callTy call_int1 (by rfl) mi (by decide +kernel) (pa_cons (pe_op op_add (pe_op op_add (pe_op op_mul (pv 4) (pv 4)) (pe_op op_mul (pv 3) pe_int)) (pe_ix ix_list (pv 0) pe_int (fun _ _ => rfl))) pa_nil)) pe_int))
      (pss_cons (ps_asg (pv 4) (pg_sub (pv 0) pe_int set_list))
      (pss_cons (ps_if (pt_cmpR op_gt (pv 1) pe_int (nomark _)) pss_never pss_nil)
      (pss_one (ps_ret (pe_op op_mod (pe_callTy call_int1 (by rfl) mi (by decide +kernel) (pa_cons (pe_op op_fdiv (pv 4) pe_int) pa_nil)) (pv 1)))))))))))), ?_⟩
    have wd : CDivW r many := wide_div (b := 1100) h1 (by omega) (by decide) (by decide)
    have S0 : SqL K H p [.ref sc, .int i, .int r, .int sd, .int c] := SqL.of hp
    -- what is left of a great number
    refine ⟨.ref p, rfl, p, _, 2, _, rfl, rfl, S0, atI_nat (j := 2) rfl, _, _, rfl, rfl, _, rfl, ite2 (fun e => ?_) (fun e => ?_)⟩
    · have er : 0 < r := of_decide_eq_true e
      refine ⟨.ref p, rfl, p, _, 2, _, rfl, rfl, S0, atI_nat (j := 2) rfl, .inl ⟨_, rfl, .int many, rfl, _, _, rfl, rfl, h1, ?_⟩⟩
      refine ⟨.ref p, rfl, p, _, 2, _, rfl, rfl, S0, atI_nat (j := 2) rfl, .inl ⟨_, rfl, .int many, rfl, _, _, rfl, rfl, wd, ?_⟩⟩
      refine ⟨.ref p, rfl, p, _, 2, 2, rfl, rfl, hp, rfl, ?_⟩
      exact ⟨_, rfl, q _ _ (Int.emod_nonneg _ (by omega)) (Int.emod_lt_of_pos _ h1)
        ⟨i, r / many, sd, c, rfl, hi, Int.ediv_nonneg hr0 (by omega), hs0, hs1⟩⟩
    · refine ⟨.ref p, rfl, p, _, 1, _, rfl, rfl, S0, atI_nat (j := 1) rfl, ?_⟩
      refine ⟨.ref p, rfl, p, _, 0, _, rfl, rfl, S0, atI_nat (j := 0) rfl, sc, _, rfl, .inl (SqL.of hsc), _, _, rfl, rfl, _, rfl,
        ite2 (fun e2 => ⟨.ref p, rfl, p, _, 0, _, rfl, rfl, S0, atI_nat (j := 0) rfl, .ref p, rfl, p, _, 1, _, rfl, rfl, S0, atI_nat (j := 1) rfl,
          sc, _, i, .int (ns.getD i.toNat 0), rfl, rfl, SqL.of hsc, ?_, ?_⟩) (fun e2 => ?_)⟩
      · have e3 : i < ((ns.map V.int).length : Int) := of_decide_eq_true e2
        rw [List.length_map] at e3
        have e4 : i.toNat < ns.length := by omega
        have e5 : i = ((i.toNat : Nat) : Int) := by omega
        rw [e5]
        refine atI_nat ?_
        rw [List.getElem?_map, List.getD_eq_getElem?_getD, Int.toNat_natCast, List.getElem?_eq_getElem e4]; rfl
      · refine ⟨.ref p, rfl, p, _, 1, _, rfl, rfl, S0, atI_nat (j := 1) rfl, _, _, rfl, rfl, .ref p, rfl, p, _, 1, 1, rfl, rfl, hp, rfl, ?_⟩
        have hp' : upd H p (.lst ([V.ref sc, .int i, .int r, .int sd, .int c].set 1 (.int (i + 1)))) p = some (.lst [.ref sc, .int (i + 1), .int r, .int sd, .int c]) := upd_same
        have q' : ∀ z o', 0 ≤ z → z < many → SrcO sc o' → Q (.int z) (upd (upd H p (.lst ([V.ref sc, .int i, .int r, .int sd, .int c].set 1 (.int (i + 1))))) p o') :=
          fun z o' a b d => by rw [upd_upd]; exact q z o' a b d
        have hsc' : upd H p (.lst ([V.ref sc, .int i, .int r, .int sd, .int c].set 1 (.int (i + 1)))) sc = some (.lst (ns.map V.int)) := by
          rw [upd_ne hne.symm]; exact hsc
        have hi' : 0 ≤ i + 1 := by omega
        generalize upd H p (.lst ([V.ref sc, .int i, .int r, .int sd, .int c].set 1 (.int (i + 1)))) = Hx at hp' q' hsc'
        generalize i + 1 = i' at hp' hi'
        generalize ns.getD i.toNat 0 = cell
        have S1 : SqL K Hx p [.ref sc, .int i', .int r, .int sd, .int c] := SqL.of hp'
        -- source[4] = source[4] + 1
        refine ⟨.ref p, rfl, p, _, 4, _, rfl, rfl, S1, atI_nat (j := 4) rfl, _, _, rfl, rfl, .ref p, rfl, p, _, 4, 4, rfl, rfl, hp', rfl, ?_⟩
        have hp2 : upd Hx p (.lst ([V.ref sc, .int i', .int r, .int sd, .int c].set 4 (.int (c + 1)))) p = some (.lst [.ref sc, .int i', .int r, .int sd, .int (c + 1)]) := upd_same
        have q2 : ∀ z o', 0 ≤ z → z < many → SrcO sc o' → Q (.int z) (upd (upd Hx p (.lst ([V.ref sc, .int i', .int r, .int sd, .int c].set 4 (.int (c + 1))))) p o') :=
          fun z o' a b d => by rw [upd_upd]; exact q' z o' a b d
        have hsc2 : upd Hx p (.lst ([V.ref sc, .int i', .int r, .int sd, .int c].set 4 (.int (c + 1)))) sc = some (.lst (ns.map V.int)) := by
          rw [upd_ne hne.symm]; exact hsc'
        generalize upd Hx p (.lst ([V.ref sc, .int i', .int r, .int sd, .int c].set 4 (.int (c + 1)))) = Hy at hp2 q2 hsc2
        generalize c + 1 = c' at hp2
        have S2 : SqL K Hy p [.ref sc, .int i', .int r, .int sd, .int c'] := SqL.of hp2
        have ab : 0 ≤ (if cell < 0 then -cell else cell) := by split <;> omega
        -- abs(cell) >= 10 ** 18
        refine ⟨_, rfl, _, rfl, _, _, rfl, rfl, ⟨by decide, by decide, by decide⟩, _, _, rfl, rfl, _, rfl, ite2 (fun e3 => ?_) (fun e3 => ?_)⟩
        · refine ⟨_, rfl, _, rfl, .int many, rfl, _, _, rfl, rfl, wide_div (b := 1100) h1 (by omega) (by decide) (by decide), ?_⟩
          refine ⟨.ref p, rfl, p, _, 2, 2, rfl, rfl, hp2, rfl, ?_⟩
          refine ⟨_, rfl, _, rfl, .inl ⟨_, rfl, .int many, rfl, _, _, rfl, rfl, h1, ?_⟩⟩
          exact q2 _ _ (Int.emod_nonneg _ (by omega)) (Int.emod_lt_of_pos _ h1)
            ⟨i', _, sd, c', rfl, hi', Int.ediv_nonneg ab (by omega), hs0, hs1⟩
        · refine ⟨.ref p, rfl, p, _, 3, _, rfl, rfl, S2, atI_nat (j := 3) rfl, _, _, rfl, rfl, .inl ⟨by omega, by omega⟩, _, rfl, _, _, rfl, rfl, .inr ⟨by decide, by decide⟩,
            _, _, rfl, rfl, .ref p, rfl, p, _, 4, _, rfl, rfl, S2, atI_nat (j := 4) rfl, _, _, rfl, rfl, .inr ⟨by decide, by decide⟩, _, _, rfl, rfl, _, _, rfl, rfl,
            .inl ⟨_, rfl, _, _, rfl, rfl, ?_, ?_⟩⟩
          · show (0 : Int) < 1000000007
            decide
          have a0 := Int.emod_nonneg (sd * 25214 + cell * 71863 + c' * 30011 + 523) (show (1000000007 : Int) ≠ 0 by decide)
          have a1 := Int.emod_lt_of_pos (sd * 25214 + cell * 71863 + c' * 30011 + 523) (show (0 : Int) < 1000000007 by decide)
          generalize hm : (sd * 25214 + cell * 71863 + c' * 30011 + 523) % 1000000007 = m at a0 a1
          refine ⟨.int m, by rw [← hm]; rfl, .int m, by rw [← hm]; rfl, _, _, rfl, rfl, .inl ⟨by omega, by omega⟩, _, rfl, _, _, rfl, rfl, .inr ⟨by decide, by decide⟩,
            _, _, rfl, rfl, .ref p, rfl, p, _, 4, _, rfl, rfl, S2, atI_nat (j := 4) rfl, _, _, rfl, rfl, .inl ⟨_, rfl, _, _, rfl, rfl, ?_, ?_⟩⟩
          · show (0 : Int) < 998244353
            decide
          have b0 := Int.emod_nonneg (m * m + cell * 13 + c') (show (998244353 : Int) ≠ 0 by decide)
          have b1 := Int.emod_lt_of_pos (m * m + cell * 13 + c') (show (0 : Int) < 998244353 by decide)
          generalize hn : (m * m + cell * 13 + c') % 998244353 = m2 at b0 b1
          -- source[3] = mixed
          refine ⟨.int m2, by rw [← hn]; rfl, .ref p, rfl, p, _, 3, 3, rfl, rfl, hp2, rfl, ?_⟩
          have hp3 : upd Hy p (.lst ([V.ref sc, .int i', .int r, .int sd, .int c'].set 3 (.int m2))) p = some (.lst [.ref sc, .int i', .int r, .int m2, .int c']) := upd_same
          have q3 : ∀ z o', 0 ≤ z → z < many → SrcO sc o' → Q (.int z) (upd (upd Hy p (.lst ([V.ref sc, .int i', .int r, .int sd, .int c'].set 3 (.int m2)))) p o') :=
            fun z o' a b d => by rw [upd_upd]; exact q2 z o' a b d
          have hsc3 : upd Hy p (.lst ([V.ref sc, .int i', .int r, .int sd, .int c'].set 3 (.int m2))) sc = some (.lst (ns.map V.int)) := by
            rw [upd_ne hne.symm]; exact hsc2
          have so3 : SrcO sc (.lst [.ref sc, .int i', .int r, .int m2, .int c']) := ⟨i', r, m2, c', rfl, hi', hr0, b0, by omega⟩
          have eo : upd (upd Hy p (.lst ([V.ref sc, .int i', .int r, .int sd, .int c'].set 3 (.int m2)))) p (.lst [.ref sc, .int i', .int r, .int m2, .int c']) =
            upd Hy p (.lst ([V.ref sc, .int i', .int r, .int sd, .int c'].set 3 (.int m2))) := by rw [upd_upd]; rfl
          refine ⟨.int many, rfl, _, _, rfl, rfl, _, rfl, ite2 (fun e4 => ?_) (fun e4 => ?_)⟩
          · have e5 : 100000 < many := of_decide_eq_true e4
            have : many ≤ 100000 := h2
            omega
          · refine ⟨.int m2, by rw [← hn]; rfl, _, _, rfl, rfl, ⟨by decide, by decide⟩, .inl ⟨_, rfl, .int many, rfl, _, _, rfl, rfl, h1, ?_⟩⟩
            have q4 := q3 (m2 / 7 % many) (.lst [.ref sc, .int i', .int r, .int m2, .int c']) (Int.emod_nonneg _ (by omega)) (Int.emod_lt_of_pos _ h1) so3
            rw [eo] at q4
            exact q4
      · have hp' := hp
        have q' : ∀ z o', 0 ≤ z → z < many → SrcO sc o' → Q (.int z) (upd H p o') := q
        have hsc' := hsc
        have hi' := hi
        have S1 : SqL K H p [.ref sc, .int i, .int r, .int sd, .int c] := SqL.of hp'
        -- source[4] = source[4] + 1
        refine ⟨.ref p, rfl, p, _, 4, _, rfl, rfl, S1, atI_nat (j := 4) rfl, _, _, rfl, rfl, .ref p, rfl, p, _, 4, 4, rfl, rfl, hp', rfl, ?_⟩
        have hp2 : upd H p (.lst ([V.ref sc, .int i, .int r, .int sd, .int c].set 4 (.int (c + 1)))) p = some (.lst [.ref sc, .int i, .int r, .int sd, .int (c + 1)]) := upd_same
        have q2 : ∀ z o', 0 ≤ z → z < many → SrcO sc o' → Q (.int z) (upd (upd H p (.lst ([V.ref sc, .int i, .int r, .int sd, .int c].set 4 (.int (c + 1))))) p o') :=
          fun z o' a b d => by rw [upd_upd]; exact q' z o' a b d
        have hsc2 : upd H p (.lst ([V.ref sc, .int i, .int r, .int sd, .int c].set 4 (.int (c + 1)))) sc = some (.lst (ns.map V.int)) := by
          rw [upd_ne hne.symm]; exact hsc'
        generalize upd H p (.lst ([V.ref sc, .int i, .int r, .int sd, .int c].set 4 (.int (c + 1)))) = Hy at hp2 q2 hsc2
        generalize c + 1 = c' at hp2
        have S2 : SqL K Hy p [.ref sc, .int i, .int r, .int sd, .int c'] := SqL.of hp2
        have ab : 0 ≤ (if (0 : Int) < 0 then -(0 : Int) else (0 : Int)) := by split <;> omega
        -- abs(cell) >= 10 ** 18
        refine ⟨_, rfl, _, rfl, _, _, rfl, rfl, ⟨by decide, by decide, by decide⟩, _, _, rfl, rfl, _, rfl, ite2 (fun e3 => ?_) (fun e3 => ?_)⟩
        · refine ⟨_, rfl, _, rfl, .int many, rfl, _, _, rfl, rfl, wide_div (b := 1100) h1 (by omega) (by decide) (by decide), ?_⟩
          refine ⟨.ref p, rfl, p, _, 2, 2, rfl, rfl, hp2, rfl, ?_⟩
          refine ⟨_, rfl, _, rfl, .inl ⟨_, rfl, .int many, rfl, _, _, rfl, rfl, h1, ?_⟩⟩
          exact q2 _ _ (Int.emod_nonneg _ (by omega)) (Int.emod_lt_of_pos _ h1)
            ⟨i, _, sd, c', rfl, hi, Int.ediv_nonneg ab (by omega), hs0, hs1⟩
        · refine ⟨.ref p, rfl, p, _, 3, _, rfl, rfl, S2, atI_nat (j := 3) rfl, _, _, rfl, rfl, .inl ⟨by omega, by omega⟩, _, rfl, _, _, rfl, rfl, .inr ⟨by decide, by decide⟩,
            _, _, rfl, rfl, .ref p, rfl, p, _, 4, _, rfl, rfl, S2, atI_nat (j := 4) rfl, _, _, rfl, rfl, .inr ⟨by decide, by decide⟩, _, _, rfl, rfl, _, _, rfl, rfl,
            .inl ⟨_, rfl, _, _, rfl, rfl, ?_, ?_⟩⟩
          · show (0 : Int) < 1000000007
            decide
          have a0 := Int.emod_nonneg (sd * 25214 + (0 : Int) * 71863 + c' * 30011 + 523) (show (1000000007 : Int) ≠ 0 by decide)
          have a1 := Int.emod_lt_of_pos (sd * 25214 + (0 : Int) * 71863 + c' * 30011 + 523) (show (0 : Int) < 1000000007 by decide)
          generalize hm : (sd * 25214 + (0 : Int) * 71863 + c' * 30011 + 523) % 1000000007 = m at a0 a1
          refine ⟨.int m, by rw [← hm]; rfl, .int m, by rw [← hm]; rfl, _, _, rfl, rfl, .inl ⟨by omega, by omega⟩, _, rfl, _, _, rfl, rfl, .inr ⟨by decide, by decide⟩,
            _, _, rfl, rfl, .ref p, rfl, p, _, 4, _, rfl, rfl, S2, atI_nat (j := 4) rfl, _, _, rfl, rfl, .inl ⟨_, rfl, _, _, rfl, rfl, ?_, ?_⟩⟩
          · show (0 : Int) < 998244353
            decide
          have b0 := Int.emod_nonneg (m * m + (0 : Int) * 13 + c') (show (998244353 : Int) ≠ 0 by decide)
          have b1 := Int.emod_lt_of_pos (m * m + (0 : Int) * 13 + c') (show (0 : Int) < 998244353 by decide)
          generalize hn : (m * m + (0 : Int) * 13 + c') % 998244353 = m2 at b0 b1
          -- source[3] = mixed
          refine ⟨.int m2, by rw [← hn]; rfl, .ref p, rfl, p, _, 3, 3, rfl, rfl, hp2, rfl, ?_⟩
          have hp3 : upd Hy p (.lst ([V.ref sc, .int i, .int r, .int sd, .int c'].set 3 (.int m2))) p = some (.lst [.ref sc, .int i, .int r, .int m2, .int c']) := upd_same
          have q3 : ∀ z o', 0 ≤ z → z < many → SrcO sc o' → Q (.int z) (upd (upd Hy p (.lst ([V.ref sc, .int i, .int r, .int sd, .int c'].set 3 (.int m2)))) p o') :=
            fun z o' a b d => by rw [upd_upd]; exact q2 z o' a b d
          have hsc3 : upd Hy p (.lst ([V.ref sc, .int i, .int r, .int sd, .int c'].set 3 (.int m2))) sc = some (.lst (ns.map V.int)) := by
            rw [upd_ne hne.symm]; exact hsc2
          have so3 : SrcO sc (.lst [.ref sc, .int i, .int r, .int m2, .int c']) := ⟨i, r, m2, c', rfl, hi, hr0, b0, by omega⟩
          have eo : upd (upd Hy p (.lst ([V.ref sc, .int i, .int r, .int sd, .int c'].set 3 (.int m2)))) p (.lst [.ref sc, .int i, .int r, .int m2, .int c']) =
            upd Hy p (.lst ([V.ref sc, .int i, .int r, .int sd, .int c'].set 3 (.int m2))) := by rw [upd_upd]; rfl
          refine ⟨.int many, rfl, _, _, rfl, rfl, _, rfl, ite2 (fun e4 => ?_) (fun e4 => ?_)⟩
          · have e5 : 100000 < many := of_decide_eq_true e4
            have : many ≤ 100000 := h2
            omega
          · refine ⟨.int m2, by rw [← hn]; rfl, _, _, rfl, rfl, ⟨by decide, by decide⟩, .inl ⟨_, rfl, .int many, rfl, _, _, rfl, rfl, h1, ?_⟩⟩
            have q4 := q3 (m2 / 7 % many) (.lst [.ref sc, .int i, .int r, .int m2, .int c']) (Int.emod_nonneg _ (by omega)) (Int.emod_lt_of_pos _ h1) so3
            rw [eo] at q4
            exact q4
theorem ok_pick1 {n : Nat} {f : Addr} {fd : FuncData} (F : Fun K "_law_pick" "_law_pick" sLPick f fd) (bF : Binds K fd ["source", "many"] [])
    (gF : mg "_law_pick" = some (.ref f)) (mi : mg "int" = none) (ml : mg "len" = none) (ma : mg "abs" = none)
    (G : FnOk P w K mg base CX0 (n + 1) f fd ["source", "many"] (spPick n)) : FnOk P w K mg base CX0 (n + 1 + 1) f fd ["source", "many"] (spPick (n + 1)) := by
  refine F.ok scLPick (fun vs H Q E h => ?_) (fun cdv A outer s H vs Q E hr h => ?_)
  · obtain ⟨p, sc, ns, many, rfl, _⟩ := h
    rfl
  · obtain ⟨p, sc, ns, many, rfl, h1, h2, h3, ⟨hne, hsc, o, hp, i, r, sd, c, rfl, hi, hr0, hs0, hs1⟩, q⟩ := h
    refine ⟨_, pss_cons (ps_if (pt_cmpR op_gt (pe_ix ix_list (pv 0) pe_int (fun _ _ => rfl)) pe_int (nomark _))
        (pss_cons (ps_set (i := 2) scLPick.nd rfl (.inl rfl) (pe_op op_mod (pe_callTy call_int1 (by rfl) mi (by decide +kernel) (pa_cons (pe_ix ix_list (pv 0) pe_int (fun _ _ => rfl)) pa_nil)) (pv 1)))
        (pss_cons (ps_asg (pe_op op_fdivW (pe_callTy call_int1 (by rfl) mi (by decide +kernel) (pa_cons (pe_ix ix_list (pv 0) pe_int (fun _ _ => rfl)) pa_nil)) (pv 1)) (pg_sub (pv 0) pe_int set_list))
        (pss_one (ps_ret (pv 2))))) pss_nil)
      (pss_cons (ps_set (i := 3) scLPick.nd rfl (.inl rfl) pe_int)
      (pss_cons (ps_if (pt_cmpR op_lt (pe_ix ix_list (pv 0) pe_int (fun _ _ => rfl)) (pe_callB call_len_seq (by rfl) ml PySem.boot_len (pa_cons (pe_ix ix_list (pv 0) pe_int (fun _ _ => rfl)) pa_nil)) (nomark _))
        (pss_cons (ps_set (i := 3) scLPick.nd rfl (.inl rfl) (pe_ix ix_list (pe_ix ix_list (pv 0) pe_int (fun _ _ => rfl)) (pe_ix ix_list (pv 0) pe_int (fun _ _ => rfl)) (fun _ _ => rfl)))
        (pss_one (ps_asg (pe_op op_add (pe_ix ix_list (pv 0) pe_int (fun _ _ => rfl)) pe_int) (pg_sub (pv 0) pe_int set_list)))) pss_nil)
      (pss_cons (ps_asg (pe_op op_add (pe_ix ix_list (pv 0) pe_int (fun _ _ => rfl)) pe_int) (pg_sub (pv 0) pe_int set_list))
      (pss_cons (ps_if (pt_cmpR op_ge (pe_callB call_abs (by rfl) ma (by decide +kernel) (pa_cons (pv 3) pa_nil)) (pe_op op_pow pe_int pe_int) (nomark _))
        (pss_cons (ps_asg (pe_op op_fdivW (pe_callB call_abs (by rfl) ma (by decide +kernel) (pa_cons (pv 3) pa_nil)) (pv 1)) (pg_sub (pv 0) pe_int set_list))
        (pss_one (ps_ret (pe_op op_mod (pe_callTy call_int1 (by rfl) mi (by decide +kernel) (pa_cons (pe_callB call_abs (by rfl) ma (by decide +kernel) (pa_cons (pv 3) pa_nil)) pa_nil)) (pv 1))))) pss_nil)
      (pss_cons (ps_set (i := 4) scLPick.nd rfl (.inl rfl) (pe_op op_mod (pe_callTy call_int1 (by rfl) mi (by decide +kernel) (pa_cons (pe_op op_add (pe_op op_add (pe_op op_add (pe_op op_mul (pe_ix ix_list (pv 0) pe_int (fun _ _ => rfl)) pe_int) (pe_op op_mul (pv 3) pe_int)) (pe_op op_mul (pe_ix ix_list (pv 0) pe_int (fun _ _ => rfl)) pe_int)) pe_int) pa_nil)) pe_int))
      (pss_cons (ps_set (i := 4) scLPick.nd rfl (.inl rfl) (pe_op op_mod (pe_callTy call_int1 (by rfl) mi (by decide +kernel) (pa_cons (pe_op op_add (pe_op op_add (pe_op op_mul (pv 4) (pv 4)) (pe_op op_mul (pv 3) pe_int)) (pe_ix ix_list (pv 0) pe_int (fun _ _ => rfl))) pa_nil)) pe_int))
      (pss_cons (ps_asg (pv 4) (pg_sub (pv 0) pe_int set_list))
      (pss_cons (ps_if (pt_cmpR op_gt (pv 1) pe_int (nomark _)) (pss_one (ps_ret (pe_op op_mod (pe_callTy call_int1 (by rfl) mi (by decide +kernel) (pa_cons (pe_op op_add (pe_op op_mod (pe_op op_fdiv (pv 4) pe_int) pe_int) (pe_op op_mul pe_int (pe_call G (hr.mono (by omega)) (by rfl) gF F.kp bF .nil pass0
            (pa_cons (pv 0) (pa_cons (pe_op op_add (pe_op op_fdiv (pv 1) pe_int) pe_int) pa_nil))))) pa_nil)) (pv 1)))) pss_nil)
      (pss_one (ps_ret (pe_op op_mod (pe_callTy call_int1 (by rfl) mi (by decide +kernel) (pa_cons (pe_op op_fdiv (pv 4) pe_int) pa_nil)) (pv 1)))))))))))), ?_⟩
    have wd : CDivW r many := wide_div (b := 1100) h1 (by omega) (by decide) (by decide)
    have S0 : SqL K H p [.ref sc, .int i, .int r, .int sd, .int c] := SqL.of hp
    -- what is left of a great number
    refine ⟨.ref p, rfl, p, _, 2, _, rfl, rfl, S0, atI_nat (j := 2) rfl, _, _, rfl, rfl, _, rfl, ite2 (fun e => ?_) (fun e => ?_)⟩
    · have er : 0 < r := of_decide_eq_true e
      refine ⟨.ref p, rfl, p, _, 2, _, rfl, rfl, S0, atI_nat (j := 2) rfl, .inl ⟨_, rfl, .int many, rfl, _, _, rfl, rfl, h1, ?_⟩⟩
      refine ⟨.ref p, rfl, p, _, 2, _, rfl, rfl, S0, atI_nat (j := 2) rfl, .inl ⟨_, rfl, .int many, rfl, _, _, rfl, rfl, wd, ?_⟩⟩
      refine ⟨.ref p, rfl, p, _, 2, 2, rfl, rfl, hp, rfl, ?_⟩
      exact ⟨_, rfl, q _ _ (Int.emod_nonneg _ (by omega)) (Int.emod_lt_of_pos _ h1)
        ⟨i, r / many, sd, c, rfl, hi, Int.ediv_nonneg hr0 (by omega), hs0, hs1⟩⟩
    · refine ⟨.ref p, rfl, p, _, 1, _, rfl, rfl, S0, atI_nat (j := 1) rfl, ?_⟩
      refine ⟨.ref p, rfl, p, _, 0, _, rfl, rfl, S0, atI_nat (j := 0) rfl, sc, _, rfl, .inl (SqL.of hsc), _, _, rfl, rfl, _, rfl,
        ite2 (fun e2 => ⟨.ref p, rfl, p, _, 0, _, rfl, rfl, S0, atI_nat (j := 0) rfl, .ref p, rfl, p, _, 1, _, rfl, rfl, S0, atI_nat (j := 1) rfl,
          sc, _, i, .int (ns.getD i.toNat 0), rfl, rfl, SqL.of hsc, ?_, ?_⟩) (fun e2 => ?_)⟩
      · have e3 : i < ((ns.map V.int).length : Int) := of_decide_eq_true e2
        rw [List.length_map] at e3
        have e4 : i.toNat < ns.length := by omega
        have e5 : i = ((i.toNat : Nat) : Int) := by omega
        rw [e5]
        refine atI_nat ?_
        rw [List.getElem?_map, List.getD_eq_getElem?_getD, Int.toNat_natCast, List.getElem?_eq_getElem e4]; rfl
      · refine ⟨.ref p, rfl, p, _, 1, _, rfl, rfl, S0, atI_nat (j := 1) rfl, _, _, rfl, rfl, .ref p, rfl, p, _, 1, 1, rfl, rfl, hp, rfl, ?_⟩
        have hp' : upd H p (.lst ([V.ref sc, .int i, .int r, .int sd, .int c].set 1 (.int (i + 1)))) p = some (.lst [.ref sc, .int (i + 1), .int r, .int sd, .int c]) := upd_same
        have q' : ∀ z o', 0 ≤ z → z < many → SrcO sc o' → Q (.int z) (upd (upd H p (.lst ([V.ref sc, .int i, .int r, .int sd, .int c].set 1 (.int (i + 1))))) p o') :=
          fun z o' a b d => by rw [upd_upd]; exact q z o' a b d
        have hsc' : upd H p (.lst ([V.ref sc, .int i, .int r, .int sd, .int c].set 1 (.int (i + 1)))) sc = some (.lst (ns.map V.int)) := by
          rw [upd_ne hne.symm]; exact hsc
        have hi' : 0 ≤ i + 1 := by omega
        generalize upd H p (.lst ([V.ref sc, .int i, .int r, .int sd, .int c].set 1 (.int (i + 1)))) = Hx at hp' q' hsc'
        generalize i + 1 = i' at hp' hi'
        generalize ns.getD i.toNat 0 = cell
        have S1 : SqL K Hx p [.ref sc, .int i', .int r, .int sd, .int c] := SqL.of hp'
        -- source[4] = source[4] + 1
        refine ⟨.ref p, rfl, p, _, 4, _, rfl, rfl, S1, atI_nat (j := 4) rfl, _, _, rfl, rfl, .ref p, rfl, p, _, 4, 4, rfl, rfl, hp', rfl, ?_⟩
        have hp2 : upd Hx p (.lst ([V.ref sc, .int i', .int r, .int sd, .int c].set 4 (.int (c + 1)))) p = some (.lst [.ref sc, .int i', .int r, .int sd, .int (c + 1)]) := upd_same
        have q2 : ∀ z o', 0 ≤ z → z < many → SrcO sc o' → Q (.int z) (upd (upd Hx p (.lst ([V.ref sc, .int i', .int r, .int sd, .int c].set 4 (.int (c + 1))))) p o') :=
          fun z o' a b d => by rw [upd_upd]; exact q' z o' a b d
        have hsc2 : upd Hx p (.lst ([V.ref sc, .int i', .int r, .int sd, .int c].set 4 (.int (c + 1)))) sc = some (.lst (ns.map V.int)) := by
          rw [upd_ne hne.symm]; exact hsc'
        generalize upd Hx p (.lst ([V.ref sc, .int i', .int r, .int sd, .int c].set 4 (.int (c + 1)))) = Hy at hp2 q2 hsc2
        generalize c + 1 = c' at hp2
        have S2 : SqL K Hy p [.ref sc, .int i', .int r, .int sd, .int c'] := SqL.of hp2
        have ab : 0 ≤ (if cell < 0 then -cell else cell) := by split <;> omega
        -- abs(cell) >= 10 ** 18
        refine ⟨_, rfl, _, rfl, _, _, rfl, rfl, ⟨by decide, by decide, by decide⟩, _, _, rfl, rfl, _, rfl, ite2 (fun e3 => ?_) (fun e3 => ?_)⟩
        · refine ⟨_, rfl, _, rfl, .int many, rfl, _, _, rfl, rfl, wide_div (b := 1100) h1 (by omega) (by decide) (by decide), ?_⟩
          refine ⟨.ref p, rfl, p, _, 2, 2, rfl, rfl, hp2, rfl, ?_⟩
          refine ⟨_, rfl, _, rfl, .inl ⟨_, rfl, .int many, rfl, _, _, rfl, rfl, h1, ?_⟩⟩
          exact q2 _ _ (Int.emod_nonneg _ (by omega)) (Int.emod_lt_of_pos _ h1)
            ⟨i', _, sd, c', rfl, hi', Int.ediv_nonneg ab (by omega), hs0, hs1⟩
        · refine ⟨.ref p, rfl, p, _, 3, _, rfl, rfl, S2, atI_nat (j := 3) rfl, _, _, rfl, rfl, .inl ⟨by omega, by omega⟩, _, rfl, _, _, rfl, rfl, .inr ⟨by decide, by decide⟩,
            _, _, rfl, rfl, .ref p, rfl, p, _, 4, _, rfl, rfl, S2, atI_nat (j := 4) rfl, _, _, rfl, rfl, .inr ⟨by decide, by decide⟩, _, _, rfl, rfl, _, _, rfl, rfl,
            .inl ⟨_, rfl, _, _, rfl, rfl, ?_, ?_⟩⟩
          · show (0 : Int) < 1000000007
            decide
          have a0 := Int.emod_nonneg (sd * 25214 + cell * 71863 + c' * 30011 + 523) (show (1000000007 : Int) ≠ 0 by decide)
          have a1 := Int.emod_lt_of_pos (sd * 25214 + cell * 71863 + c' * 30011 + 523) (show (0 : Int) < 1000000007 by decide)
          generalize hm : (sd * 25214 + cell * 71863 + c' * 30011 + 523) % 1000000007 = m at a0 a1
          refine ⟨.int m, by rw [← hm]; rfl, .int m, by rw [← hm]; rfl, _, _, rfl, rfl, .inl ⟨by omega, by omega⟩, _, rfl, _, _, rfl, rfl, .inr ⟨by decide, by decide⟩,
            _, _, rfl, rfl, .ref p, rfl, p, _, 4, _, rfl, rfl, S2, atI_nat (j := 4) rfl, _, _, rfl, rfl, .inl ⟨_, rfl, _, _, rfl, rfl, ?_, ?_⟩⟩
          · show (0 : Int) < 998244353
            decide
          have b0 := Int.emod_nonneg (m * m + cell * 13 + c') (show (998244353 : Int) ≠ 0 by decide)
          have b1 := Int.emod_lt_of_pos (m * m + cell * 13 + c') (show (0 : Int) < 998244353 by decide)
          generalize hn : (m * m + cell * 13 + c') % 998244353 = m2 at b0 b1
          -- source[3] = mixed
          refine ⟨.int m2, by rw [← hn]; rfl, .ref p, rfl, p, _, 3, 3, rfl, rfl, hp2, rfl, ?_⟩
          have hp3 : upd Hy p (.lst ([V.ref sc, .int i', .int r, .int sd, .int c'].set 3 (.int m2))) p = some (.lst [.ref sc, .int i', .int r, .int m2, .int c']) := upd_same
          have q3 : ∀ z o', 0 ≤ z → z < many → SrcO sc o' → Q (.int z) (upd (upd Hy p (.lst ([V.ref sc, .int i', .int r, .int sd, .int c'].set 3 (.int m2)))) p o') :=
            fun z o' a b d => by rw [upd_upd]; exact q2 z o' a b d
          have hsc3 : upd Hy p (.lst ([V.ref sc, .int i', .int r, .int sd, .int c'].set 3 (.int m2))) sc = some (.lst (ns.map V.int)) := by
            rw [upd_ne hne.symm]; exact hsc2
          have so3 : SrcO sc (.lst [.ref sc, .int i', .int r, .int m2, .int c']) := ⟨i', r, m2, c', rfl, hi', hr0, b0, by omega⟩
          have eo : upd (upd Hy p (.lst ([V.ref sc, .int i', .int r, .int sd, .int c'].set 3 (.int m2)))) p (.lst [.ref sc, .int i', .int r, .int m2, .int c']) =
            upd Hy p (.lst ([V.ref sc, .int i', .int r, .int sd, .int c'].set 3 (.int m2))) := by rw [upd_upd]; rfl
          refine ⟨.int many, rfl, _, _, rfl, rfl, _, rfl, ite2 (fun e4 => ?_) (fun e4 => ?_)⟩
          · have e5 : 100000 < many := of_decide_eq_true e4
            refine ⟨.int m2, by rw [← hn]; rfl, _, _, rfl, rfl, ⟨by decide, by decide⟩, _, _, rfl, rfl, ?_, ?_⟩
            · show (0 : Int) < 100000
              decide
            refine ⟨.ref p, rfl, .int many, rfl, _, _, rfl, rfl, ⟨by decide, by decide⟩, _, _, rfl, rfl, p, sc, ns, many / 100000 + 1, rfl, by omega, ?_, by omega,
              ⟨hne, hsc3, _, hp3, so3⟩, fun z o3 z0 z1 so => ?_⟩
            · have : many ≤ 100000 * (most n - 1) := h2
              omega
            refine ⟨_, _, rfl, rfl, .inl ⟨by decide, by decide⟩, _, _, rfl, rfl, .inl ⟨_, rfl, .int many, rfl, _, _, rfl, rfl, h1, ?_⟩⟩
            exact q3 _ _ (Int.emod_nonneg _ (by omega)) (Int.emod_lt_of_pos _ h1) so
          · refine ⟨.int m2, by rw [← hn]; rfl, _, _, rfl, rfl, ⟨by decide, by decide⟩, .inl ⟨_, rfl, .int many, rfl, _, _, rfl, rfl, h1, ?_⟩⟩
            have q4 := q3 (m2 / 7 % many) (.lst [.ref sc, .int i', .int r, .int m2, .int c']) (Int.emod_nonneg _ (by omega)) (Int.emod_lt_of_pos _ h1) so3
            rw [eo] at q4
            exact q4
      · have hp' := hp
        have q' : ∀ z o', 0 ≤ z → z < many → SrcO sc o' → Q (.int z) (upd H p o') := q
        have hsc' := hsc
        have hi' := hi
        have S1 : SqL K H p [.ref sc, .int i, .int r, .int sd, .int c] := SqL.of hp'
        -- source[4] = source[4] + 1
        refine ⟨.ref p, rfl, p, _, 4, _, rfl, rfl, S1, atI_nat (j := 4) rfl, _, _, rfl, rfl, .ref p, rfl, p, _, 4, 4, rfl, rfl, hp', rfl, ?_⟩
        have hp2 : upd H p (.lst ([V.ref sc, .int i, .int r, .int sd, .int c].set 4 (.int (c + 1)))) p = some (.lst [.ref sc, .int i, .int r, .int sd, .int (c + 1)]) := upd_same
        have q2 : ∀ z o', 0 ≤ z → z < many → SrcO sc o' → Q (.int z) (upd (upd H p (.lst ([V.ref sc, .int i, .int r, .int sd, .int c].set 4 (.int (c + 1))))) p o') :=
          fun z o' a b d => by rw [upd_upd]; exact q' z o' a b d
        have hsc2 : upd H p (.lst ([V.ref sc, .int i, .int r, .int sd, .int c].set 4 (.int (c + 1)))) sc = some (.lst (ns.map V.int)) := by
          rw [upd_ne hne.symm]; exact hsc'
        generalize upd H p (.lst ([V.ref sc, .int i, .int r, .int sd, .int c].set 4 (.int (c + 1)))) = Hy at hp2 q2 hsc2
        generalize c + 1 = c' at hp2
        have S2 : SqL K Hy p [.ref sc, .int i, .int r, .int sd, .int c'] := SqL.of hp2
        have ab : 0 ≤ (if (0 : Int) < 0 then -(0 : Int) else (0 : Int)) := by split <;> omega
        -- abs(cell) >= 10 ** 18
        refine ⟨_, rfl, _, rfl, _, _, rfl, rfl, ⟨by decide, by decide, by decide⟩, _, _, rfl, rfl, _, rfl, ite2 (fun e3 => ?_) (fun e3 => ?_)⟩
        · refine ⟨_, rfl, _, rfl, .int many, rfl, _, _, rfl, rfl, wide_div (b := 1100) h1 (by omega) (by decide) (by decide), ?_⟩
          refine ⟨.ref p, rfl, p, _, 2, 2, rfl, rfl, hp2, rfl, ?_⟩
          refine ⟨_, rfl, _, rfl, .inl ⟨_, rfl, .int many, rfl, _, _, rfl, rfl, h1, ?_⟩⟩
          exact q2 _ _ (Int.emod_nonneg _ (by omega)) (Int.emod_lt_of_pos _ h1)
            ⟨i, _, sd, c', rfl, hi, Int.ediv_nonneg ab (by omega), hs0, hs1⟩
        · refine ⟨.ref p, rfl, p, _, 3, _, rfl, rfl, S2, atI_nat (j := 3) rfl, _, _, rfl, rfl, .inl ⟨by omega, by omega⟩, _, rfl, _, _, rfl, rfl, .inr ⟨by decide, by decide⟩,
            _, _, rfl, rfl, .ref p, rfl, p, _, 4, _, rfl, rfl, S2, atI_nat (j := 4) rfl, _, _, rfl, rfl, .inr ⟨by decide, by decide⟩, _, _, rfl, rfl, _, _, rfl, rfl,
            .inl ⟨_, rfl, _, _, rfl, rfl, ?_, ?_⟩⟩
          · show (0 : Int) < 1000000007
            decide
          have a0 := Int.emod_nonneg (sd * 25214 + (0 : Int) * 71863 + c' * 30011 + 523) (show (1000000007 : Int) ≠ 0 by decide)
          have a1 := Int.emod_lt_of_pos (sd * 25214 + (0 : Int) * 71863 + c' * 30011 + 523) (show (0 : Int) < 1000000007 by decide)
          generalize hm : (sd * 25214 + (0 : Int) * 71863 + c' * 30011 + 523) % 1000000007 = m at a0 a1
          refine ⟨.int m, by rw [← hm]; rfl, .int m, by rw [← hm]; rfl, _, _, rfl, rfl, .inl ⟨by omega, by omega⟩, _, rfl, _, _, rfl, rfl, .inr ⟨by decide, by decide⟩,
            _, _, rfl, rfl, .ref p, rfl, p, _, 4, _, rfl, rfl, S2, atI_nat (j := 4) rfl, _, _, rfl, rfl, .inl ⟨_, rfl, _, _, rfl, rfl, ?_, ?_⟩⟩
          · show (0 : Int) < 998244353
            decide
          have b0 := Int.emod_nonneg (m * m + (0 : Int) * 13 + c') (show (998244353 : Int) ≠ 0 by decide)
          have b1 := Int.emod_lt_of_pos (m * m + (0 : Int) * 13 + c') (show (0 : Int) < 998244353 by decide)
          generalize hn : (m * m + (0 : Int) * 13 + c') % 998244353 = m2 at b0 b1
          -- source[3] = mixed
          refine ⟨.int m2, by rw [← hn]; rfl, .ref p, rfl, p, _, 3, 3, rfl, rfl, hp2, rfl, ?_⟩
          have hp3 : upd Hy p (.lst ([V.ref sc, .int i, .int r, .int sd, .int c'].set 3 (.int m2))) p = some (.lst [.ref sc, .int i, .int r, .int m2, .int c']) := upd_same
          have q3 : ∀ z o', 0 ≤ z → z < many → SrcO sc o' → Q (.int z) (upd (upd Hy p (.lst ([V.ref sc, .int i, .int r, .int sd, .int c'].set 3 (.int m2)))) p o') :=
            fun z o' a b d => by rw [upd_upd]; exact q2 z o' a b d
          have hsc3 : upd Hy p (.lst ([V.ref sc, .int i, .int r, .int sd, .int c'].set 3 (.int m2))) sc = some (.lst (ns.map V.int)) := by
            rw [upd_ne hne.symm]; exact hsc2
          have so3 : SrcO sc (.lst [.ref sc, .int i, .int r, .int m2, .int c']) := ⟨i, r, m2, c', rfl, hi, hr0, b0, by omega⟩
          have eo : upd (upd Hy p (.lst ([V.ref sc, .int i, .int r, .int sd, .int c'].set 3 (.int m2)))) p (.lst [.ref sc, .int i, .int r, .int m2, .int c']) =
            upd Hy p (.lst ([V.ref sc, .int i, .int r, .int sd, .int c'].set 3 (.int m2))) := by rw [upd_upd]; rfl
          refine ⟨.int many, rfl, _, _, rfl, rfl, _, rfl, ite2 (fun e4 => ?_) (fun e4 => ?_)⟩
          · have e5 : 100000 < many := of_decide_eq_true e4
            refine ⟨.int m2, by rw [← hn]; rfl, _, _, rfl, rfl, ⟨by decide, by decide⟩, _, _, rfl, rfl, ?_, ?_⟩
            · show (0 : Int) < 100000
              decide
            refine ⟨.ref p, rfl, .int many, rfl, _, _, rfl, rfl, ⟨by decide, by decide⟩, _, _, rfl, rfl, p, sc, ns, many / 100000 + 1, rfl, by omega, ?_, by omega,
              ⟨hne, hsc3, _, hp3, so3⟩, fun z o3 z0 z1 so => ?_⟩
            · have : many ≤ 100000 * (most n - 1) := h2
              omega
            refine ⟨_, _, rfl, rfl, .inl ⟨by decide, by decide⟩, _, _, rfl, rfl, .inl ⟨_, rfl, .int many, rfl, _, _, rfl, rfl, h1, ?_⟩⟩
            exact q3 _ _ (Int.emod_nonneg _ (by omega)) (Int.emod_lt_of_pos _ h1) so
          · refine ⟨.int m2, by rw [← hn]; rfl, _, _, rfl, rfl, ⟨by decide, by decide⟩, .inl ⟨_, rfl, .int many, rfl, _, _, rfl, rfl, h1, ?_⟩⟩
            have q4 := q3 (m2 / 7 % many) (.lst [.ref sc, .int i, .int r, .int m2, .int c']) (Int.emod_nonneg _ (by omega)) (Int.emod_lt_of_pos _ h1) so3
            rw [eo] at q4
            exact q4

theorem ok_pick {f : Addr} {fd : FuncData} (F : Fun K "_law_pick" "_law_pick" sLPick f fd) (bF : Binds K fd ["source", "many"] [])
    (gF : mg "_law_pick" = some (.ref f)) (mi : mg "int" = none) (ml : mg "len" = none) (ma : mg "abs" = none) :
    ∀ n, FnOk P w K mg base CX0 (n + 1) f fd ["source", "many"] (spPick n)
  | 0 => ok_pick0 F bF gF mi ml ma
  | n + 1 => ok_pick1 F bF gF mi ml ma (ok_pick F bF gF mi ml ma n)
end
end K01

/-! Q2: data as values; is_whole, is_tuple_of, is_row. -/
namespace GL
open PySem PySem.Spec PyProof.Rows L2

/-! ### the types of data -/
def tyD : PyData → String
  | .none => "NoneType"
  | .bool _ => "bool"
  | .int _ => "int"
  | .str _ => "str"
  | .list _ => "list"
  | .tuple _ => "tuple"
  | .dict _ => "dict"
theorem RD.tyB {K : PySem.W.Frag} {H : Hp} : ∀ {v d}, RD H v d → TyB K H v (tyD d)
  | _, _, .non => .non
  | _, _, .bl b => .bl b
  | _, _, .int i => .int i
  | _, _, .str x => .str x
  | _, _, .lst e _ => .lst (SqL.of e)
  | _, _, .tup e _ => .tup (SqT.of e)
  | _, _, .dct e _ => .dK e
theorem RD.tyX {K : PySem.W.Frag} {H : Hp} : ∀ {v d}, RD H v d → TyX K H v (.type (tyD d))
  | _, _, .non => .base .non
  | _, _, .bl b => .base (.bl b)
  | _, _, .int i => .base (.int i)
  | _, _, .str x => .base (.str x)
  | _, _, .lst e _ => .base (.lst e)
  | _, _, .tup e _ => .base (.tup e)
  | _, _, .dct e _ => .base (.dK e)
/-- data that is an integer, a tuple -/
def wholeD : PyData → Bool
  | .int _ => true
  | _ => false
def tupD : PyData → Option (List PyData)
  | .tuple ds => some ds
  | _ => none
def itemsD (d : PyData) : List PyData := (tupD d).getD []
def lenD (d : PyData) : Int := ((itemsD d).length : Int)
def headD (d : PyData) : PyData := (itemsD d).headD .none
/-- no long tuple where rows may stand -/
def Len1 (d : PyData) : Prop := lenD d ≤ 1000
def Len2 (d : PyData) : Prop := ∀ r ∈ itemsD d, lenD r ≤ 1000
def Slim (d : PyData) : Prop := ∀ t ∈ itemsD d, ∀ r ∈ itemsD t, lenD r ≤ 1000
theorem wholeD_ty (d : PyData) : decide (tyD d = "int") = wholeD d := by cases d <;> rfl
theorem tupD_ty (d : PyData) : decide (tyD d = "tuple") = (tupD d).isSome := by cases d <;> rfl
theorem RD.whole {H : Hp} {v d} (r : RD H v d) (h : wholeD d = true) : ∃ i : Int, v = .int i ∧ d = .int i := by
  cases r <;> first | exact ⟨_, rfl, rfl⟩ | cases h
theorem RD.tupOf {H : Hp} {v d ds} (r : RD H v d) (h : tupD d = some ds) : ∃ a xs, v = .ref a ∧ d = .tuple ds ∧ H a = some (.tup xs) ∧ RDs H xs ds := by
  cases r with
  | tup e rs => cases h; exact ⟨_, _, rfl, rfl, e, rs⟩
  | _ => cases h
theorem RDs.at {H : Hp} : ∀ {xs ds} {i : Nat} {x : V}, RDs H xs ds → xs[i]? = some x → ∃ d, ds[i]? = some d ∧ RD H x d
  | _, _, i, _, .nil, h => by simp at h
  | _, _, 0, _, .cons r _, h => by cases h; exact ⟨_, rfl, r⟩
  | _, _, i + 1, _, .cons _ r, h => RDs.at (i := i) r (by simpa using h)

/-- a question of data: the answer, and nothing that was there changes -/
def spK (f : PyData → Bool) : Sp := fun vs H Q _ => ∃ v d, vs = [v] ∧ RD H v d ∧ ∀ H', Same H H' → Q (.bl (f d)) H'

/-- the same of data of such a kind -/
def spKc (c : PyData → Prop) (f : PyData → Bool) : Sp := fun vs H Q _ => ∃ v d, vs = [v] ∧ RD H v d ∧ c d ∧ ∀ H', Same H H' → Q (.bl (f d)) H'
/-- [a test of x for x in a tuple] -/
theorem lc_ask {K : PySem.W.Frag} {a : Addr} {xs : List V} {ds : List PyData} {te : TE} {j : Nat} {vs : List Nat} {σ : L2.St} {H1 : Hp} {D : Addr} {Qd : Hp → Prop}
    (f : PyData → Bool) (hw : ∀ x, wipe ((wipe σ vs).set j (some x)) vs = wipe σ vs) (hx : H1 a = some (.tup xs)) (rs : RDs H1 xs ds) (hsz : xs.length < sizeLine) (hD : H1 D = none)
    (step : ∀ x d H (Q : VK), RD H x d → d ∈ ds → Same H1 H → (∀ H', Same H H' → Q (.bl (f d)) H') → te ((wipe σ vs).set j (some x)) H Q)
    (hd : ∀ H, Same H1 H → H D = some (.lst ((ds.map f).map V.bl)) → Qd H) :
    ∃ W : Nat → Nat → Hp → Prop, (∃ m, W 0 m (upd H1 D (.lst []))) ∧ ∀ i m H, W i m H →
      ((Itt K a).stop i H ∧ Qd H) ∨ ((Itt K a).go i H ∧ ∃ Nx : Hp → Prop, (∀ H', Nx H' → ∃ m', m' < m ∧ W (i + 1) m' H') ∧ ∀ x H', (Itt K a).yld i H x H' → gName j x (wipe σ vs) H' fun σ2 H2 => wipe σ2 vs = wipe σ vs ∧ tYes σ2 H2 fun b H3 =>
        if b = true then te σ2 H3 fun y H4 => ∃ acc, H4 D = some (.lst acc) ∧ acc.length < sizeLine ∧ Nx (upd H4 D (.lst (acc ++ [y]))) else Nx H3) := by
  have hlen := RDs.length rs
  refine lc_tup (fun i H => Same H1 H ∧ H D = some (.lst (((ds.take i).map f).map V.bl))) ⟨fun b o e => ?_, upd_same⟩ (fun i H _ p => SqT.of (p.1 _ _ hx)) (fun i x H hi p => ?_) (fun H p => hd H p.1 ?_)
  · rw [upd_ne (ne_of_none e hD)]; exact e
  · obtain ⟨S, hDl⟩ := p
    obtain ⟨d, ed, r⟩ := RDs.at rs hi
    have hlt : i < xs.length := (List.getElem?_eq_some_iff.mp hi).1
    refine ⟨hw x, ?_⟩
    refine step x d H _ (r.keep S) (List.mem_of_getElem? ed) S fun H' S' => ⟨_, S' _ _ hDl, ?_, fun b o e => ?_, ?_⟩
    · simp only [List.length_map, List.length_take]; omega
    · rw [upd_ne (ne_of_none e hD)]; exact S' _ _ (S _ _ e)
    · rw [upd_same, List.take_add_one, ed]
      simp
  · have := p.2
    rw [hlen, List.take_length] at this
    exact this
theorem all_id (f : PyData → Bool) (ds : List PyData) : (ds.map f).all id = ds.all f := by
  induction ds with
  | nil => rfl
  | cons d ds ih => simp only [List.map_cons, List.all_cons, ih]; rfl
end GL
namespace K01
open PySem PySem.Spec PyProof.Rows L2 GL
section
variable {P : Program} {w : World} {K : PySem.W.Frag} {mg : Str → Option Value} {base : Heap}

theorem ok_whole {f : Addr} {fd : FuncData} (F : Fun K "is_whole" "is_whole" sIsWhole f fd) (mt : mg "type" = none) (mi : mg "int" = none) :
    FnOk P w K mg base CX0 1 f fd ["value"] (spK wholeD) := by
  refine F.ok scIsWhole (fun vs H Q E h => ?_) (fun cdv A outer s H vs Q E hr h => ?_)
  · obtain ⟨v, d, rfl, _⟩ := h
    rfl
  · obtain ⟨v, d, rfl, rd, q⟩ := h
    refine ⟨_, pss_one (ps_ret (pe_cmpR op_isTyB (pe_callTy call_type1 (by rfl) mt (by decide +kernel) (pa_cons (pv 0) pa_nil)) (pe_bltn (v := .ty "int") (by rfl) mi (by decide +kernel) rfl) (nomark _))), ?_⟩
    refine ⟨v, rfl, v, _, rfl, rd.tyB, _, _, rfl, rfl, ?_⟩
    rw [wholeD_ty]
    exact q H (.refl H)

theorem dec_int' {i j : Int} : decide (V.int i = V.int j) = decide (i = j) := by
  rw [Bool.eq_iff_iff]
  simp
def tupN (n : Int) (d : PyData) : Bool := match tupD d with
  | some ds => decide ((ds.length : Int) = n)
  | none => false
def spTupOf : Sp := fun vs H Q _ => ∃ v d n, vs = [v, .int n] ∧ RD H v d ∧ Q (.bl (tupN n d)) H
theorem ok_tupof {f : Addr} {fd : FuncData} (F : Fun K "is_tuple_of" "is_tuple_of" sIsTupleOf f fd) (mt : mg "type" = none) (mu : mg "tuple" = none) (ml : mg "len" = none) :
    FnOk P w K mg base CX0 1 f fd ["value", "many"] spTupOf := by
  refine F.ok scIsTupleOf (fun vs H Q E h => ?_) (fun cdv A outer s H vs Q E hr h => ?_)
  · obtain ⟨v, d, n, rfl, _⟩ := h
    rfl
  · obtain ⟨v, d, n, rfl, rd, q⟩ := h
    refine ⟨_, pss_one (ps_ret (pe_and (pe_cmpR op_isTyB (pe_callTy call_type1 (by rfl) mt (by decide +kernel) (pa_cons (pv 0) pa_nil)) (pe_bltn (v := .ty "tuple") (by rfl) mu (by decide +kernel) rfl) (nomark _))
      (pe_one (pe_cmpR op_eq (pe_callB call_len_seq (by rfl) ml PySem.boot_len (pa_cons (pv 0) pa_nil)) (pv 1) (nomark _))))), ?_⟩
    refine ⟨v, rfl, v, _, rfl, rd.tyB, _, _, rfl, rfl, _, rfl, ?_⟩
    rw [tupD_ty]
    cases e : tupD d with
    | none =>
      refine iteF ?_
      have : tupN n d = false := by unfold tupN; rw [e]
      rw [this] at q
      exact q
    | some ds =>
      obtain ⟨a, xs, rfl, rfl, hx, rs⟩ := rd.tupOf e
      refine iteT ⟨.ref a, rfl, a, xs, rfl, .inr (SqT.of hx), .int n, rfl, ?_⟩
      have : tupN n (.tuple ds) = decide ((xs.length : Int) = n) := by show decide ((ds.length : Int) = n) = _; rw [RDs.length rs]
      rw [this] at q
      refine ⟨rfl, ?_⟩
      rw [dec_int']
      exact q

/-- rows -/
def numD : PyData → Bool
  | .int i => decide (-1000 ≤ i) && decide (i ≤ 1000)
  | _ => false
def numsD (d : PyData) : Bool := match tupD d with
  | some ds => ds.all numD
  | none => false
def rowD (d : PyData) : Bool := match tupD d with
  | some ds => decide (1 ≤ ds.length) && decide (ds.length ≤ 5) && ds.all numD
  | none => false
end
end K01

/-! Q3: is_row, table_fits, game_fits. -/
namespace GL
open PySem PySem.Spec PyProof.Rows L2

/-- len(set(xs)), xs a list of ints: how many different ones -/
def rLenSet (K : PySem.W.Frag) (ta : TE) : TE := fun σ H Q => ta σ H fun x H1 => ∃ (l : Addr) (ns : List Int), x = .ref l ∧ SqL K H1 l (ns.map V.int) ∧ ns.length ≤ 4000 ∧ Q (.int ((PyProof.Rows.firstMet (fun i => ns.getD i 0) ns.length).length : Nat)) H1
theorem pe_lenSetA {X : Cx} {a : Expr} {ta : TE} {p p2 q pos : Pos} (hg : Gl X "len") (hm : X.mg "len" = none) (hg2 : Gl X "set") (hm2 : X.mg "set" = none) (ha : PE X a ta) (hc : X.calm = true := by rfl)
    (na : starEach [a] X.env = (false, eval a X.env) :: starEach [] X.env := by rfl) : PE X (.Call (.Name "len" p) [.Call (.Name "set" p2) [a] [] q] [] pos) (rLenSet X.K ta) := by
  refine ⟨fun pins s σ H Q I h => ?_⟩
  refine Call_ (ld_blt I hg hm boot_len ?_)
  refine PyProof.Rows.callWith_builtin1 (PyProof.Rows.args_cons ?_ rfl) rfl rfl
  refine Call_ (ld_blt I hg2 hm2 boot_set ?_)
  refine PyProof.Rows.callWith_type1 (PyProof.Rows.args_cons (thn (ha.run pins s σ H _ I h) fun v s1 ⟨x, H1, I1, r1, q1⟩ => PyProof.Rows.args_nil ?_) na) na rfl
  obtain ⟨l, ns, rfl, hq, hl, q1⟩ := q1
  cases r1
  obtain ⟨its, r, pl, hz⟩ := I1.list hq
  have hlen : its.toArray.size = ns.length := by rw [List.size_toArray, ← r.length, List.length_map]
  refine call_set_list (I1.ok.hd hc) pl.isList (by simpa using RZ.intsAre_vals r) (by rw [hlen]; unfold scanBound; omega) fun h' tk hS hk => ?_
  refine PyProof.Rows.args_nil ?_
  rw [hlen] at hS
  obtain ⟨o, es, ep, t, ho, hex, hd, _, _, _, hf, hn⟩ := hS
  have I2 : Inv X pins σ H1 { s1 with heap := h', toks := tk } := I1.kept fun b o e => hk b o (Heap.lt_size e) e
  have hle : ∀ i, (PyProof.Rows.firstMet (fun i => ns.getD i 0) i).length ≤ i := by
    intro i
    induction i with
    | zero => exact Nat.le_refl _
    | succ i ih =>
      rw [PyProof.Rows.firstMet_succ]
      show (if _ then _ else _ : List Int).length ≤ _
      split
      · omega
      · rw [List.length_append]; show _ + 1 ≤ _; omega
  have := hle ns.length
  exact call_len_set ho hex hd hf (by rw [hn] <;> omega) ⟨.int _, H1, I2.tok _, ⟨_, by rw [hn]⟩, q1⟩
/-- one number alone -/
theorem met_one : ∀ (ns : List Int), ns ≠ [] → (decide (((PyProof.Rows.firstMet (fun i => ns.getD i 0) ns.length).length : Int) = 1)) = ns.all (fun n => decide (n = ns.getD 0 0)) := by
  intro ns hne
  -- the first i of them: all alike, or two at least
  have key : ∀ i, 0 < i → i ≤ ns.length →
      ((∀ j, j < i → ns.getD j 0 = ns.getD 0 0) ∧ PyProof.Rows.firstMet (fun i => ns.getD i 0) i = [ns.getD 0 0]) ∨
      ((∃ j, j < i ∧ ns.getD j 0 ≠ ns.getD 0 0) ∧ 2 ≤ (PyProof.Rows.firstMet (fun i => ns.getD i 0) i).length) := by
    intro i
    induction i with
    | zero => intro h; omega
    | succ i ih =>
      intro _ hi
      rw [PyProof.Rows.firstMet_succ]
      show _ ∨ (_ ∧ 2 ≤ (if (PyProof.Rows.firstMet (fun i => ns.getD i 0) i).any (· == ns.getD i 0) then (PyProof.Rows.firstMet (fun i => ns.getD i 0) i) else (PyProof.Rows.firstMet (fun i => ns.getD i 0) i) ++ [ns.getD i 0]).length)
      by_cases h0 : i = 0
      · subst h0
        refine .inl ⟨fun j hj => by rw [show j = 0 by omega], ?_⟩
        rfl
      · rcases ih (by omega) (by omega) with ⟨h1, h2⟩ | ⟨⟨j, hj, h1⟩, h2⟩
        · by_cases e : ns.getD i 0 = ns.getD 0 0
          · refine .inl ⟨fun j hj => ?_, ?_⟩
            · by_cases hji : j = i
              · rw [hji]; exact e
              · exact h1 j (by omega)
            · show (if (PyProof.Rows.firstMet (fun i => ns.getD i 0) i).any (· == ns.getD i 0) then (PyProof.Rows.firstMet (fun i => ns.getD i 0) i) else (PyProof.Rows.firstMet (fun i => ns.getD i 0) i) ++ [ns.getD i 0]) = _
              rw [h2, e]
              simp
          · refine .inr ⟨⟨i, by omega, e⟩, ?_⟩
            rw [h2]
            have : ([ns.getD 0 0].any (· == ns.getD i 0)) = false := by
              simp only [List.any_cons, List.any_nil, Bool.or_false, beq_eq_false_iff_ne]
              exact fun z => e z.symm
            rw [this]
            exact Nat.le_refl 2
        · refine .inr ⟨⟨j, by omega, h1⟩, ?_⟩
          split
          · exact h2
          · rw [List.length_append]; show 2 ≤ _ + 1; omega
  have hl : 0 < ns.length := List.length_pos_iff.mpr hne
  rw [Bool.eq_iff_iff, decide_eq_true_iff, List.all_eq_true]
  rcases key ns.length hl (Nat.le_refl _) with ⟨h1, h2⟩ | ⟨⟨j, hj, h1⟩, h2⟩
  · rw [h2]
    refine ⟨fun _ n hn => decide_eq_true ?_, fun _ => rfl⟩
    obtain ⟨j, hj, e⟩ := List.mem_iff_getElem.mp hn
    have := h1 j hj
    rw [List.getD_eq_getElem?_getD, List.getElem?_eq_getElem hj] at this
    rw [← e]
    exact this
  · refine ⟨fun h => by omega, fun h => absurd ?_ h1⟩
    have hm : ns.getD j 0 ∈ ns := by
      rw [List.getD_eq_getElem?_getD, List.getElem?_eq_getElem hj]
      exact List.getElem_mem hj
    exact of_decide_eq_true (h _ hm)
end GL
namespace K01
open PySem PySem.Spec PyProof.Rows L2 GL
section
variable {P : Program} {w : World} {K : PySem.W.Frag} {mg : Str → Option Value} {base : Heap}

/-- what the kinds call -/
structure KinT (P : Program) (w : World) (K : PySem.W.Frag) (mg : Str → Option Value) (base : Heap) (fW fT : Addr) (dW dT : FuncData) : Prop where
  FW : Fun K "is_whole" "is_whole" sIsWhole fW dW
  bW : Binds K dW ["value"] []
  gW : mg "is_whole" = some (.ref fW)
  GW : FnOk P w K mg base CX0 1 fW dW ["value"] (spK wholeD)
  FT : Fun K "is_tuple_of" "is_tuple_of" sIsTupleOf fT dT
  bT : Binds K dT ["value", "many"] []
  gT : mg "is_tuple_of" = some (.ref fT)
  GT : FnOk P w K mg base CX0 1 fT dT ["value", "many"] spTupOf
  type : mg "type" = none
  tuple : mg "tuple" = none
  len : mg "len" = none
  all : mg "all" = none
  set : mg "set" = none
  bound : ∃ t, mg "BOUND" = some (.int 1000 t)
  most : ∃ t, mg "MOST_CHOICES" = some (.int 5 t)
variable {fW fT : Addr} {dW dT : FuncData}

theorem ok_numfits {f : Addr} {fd : FuncData} (F : Fun K "number_fits" "number_fits" sNumberFits f fd) (T : KinT P w K mg base fW fT dW dT) :
    FnOk P w K mg base CX0 2 f fd ["value"] (spK numD) := by
  refine F.ok scNumberFits (fun vs H Q E h => ?_) (fun cdv A outer s H vs Q E hr h => ?_)
  · obtain ⟨v, d, rfl, _⟩ := h
    rfl
  · obtain ⟨x, d, rfl, r, q1⟩ := h
    obtain ⟨tb, gb⟩ := T.bound
    refine ⟨_, pss_one (ps_ret (pe_and (pe_call T.GW hr (by rfl) T.gW T.FW.kp T.bW .nil pass0 (pa_cons (pv 0) pa_nil))
            (pe_one (pe_chain op_le op_le (pe_un un_neg (pe_glob (v := .int 1000) (by rfl) gb ⟨_, rfl⟩)) (pv 0) (pe_glob (v := .int 1000) (by rfl) gb ⟨_, rfl⟩))))), ?_⟩
    refine ⟨x, rfl, x, d, rfl, r, fun H2 S2 => ⟨_, rfl, ite2 (fun e6 => ?_) (fun e6 => ?_)⟩⟩
    · obtain ⟨i, rfl, rfl⟩ := r.whole e6
      refine ⟨1000, rfl, .int i, rfl, _, _, rfl, rfl, _, rfl, ite2 (fun e7 => ⟨_, _, rfl, rfl, ?_⟩) (fun e7 => ?_)⟩
      · have e8 : numD (.int i) = decide (i ≤ 1000) := by
          show (decide (-1000 ≤ i) && decide (i ≤ 1000)) = _
          rw [show decide (-1000 ≤ i) = true from e7]; rfl
        rw [e8] at q1
        exact q1 H2 S2
      · have e8 : numD (.int i) = false := by
          show (decide (-1000 ≤ i) && decide (i ≤ 1000)) = _
          rw [show decide (-1000 ≤ i) = false from Bool.eq_false_iff.mpr e7]; rfl
        rw [e8] at q1
        exact q1 H2 S2
    · have e8 : numD d = false := by cases d <;> first | rfl | exact absurd rfl e6
      rw [e8] at q1
      exact q1 H2 S2
variable {fN fA fM : Addr} {dN dA dM : FuncData}
theorem ok_numbers {f : Addr} {fd : FuncData} (F : Fun K "are_numbers" "are_numbers" sAreNumbers f fd) (T : KinT P w K mg base fW fT dW dT)
    (FN : Fun K "number_fits" "number_fits" sNumberFits fN dN) (bN : Binds K dN ["value"] []) (gN : mg "number_fits" = some (.ref fN)) (GN : FnOk P w K mg base CX0 2 fN dN ["value"] (spK numD)) :
    FnOk P w K mg base CX0 3 f fd ["value"] (spKc Len1 numsD) := by
  refine F.ok scAreNumbers (fun vs H Q E h => ?_) (fun cdv A outer s H vs Q E hr h => ?_)
  · obtain ⟨v, d, rfl, _⟩ := h
    rfl
  · obtain ⟨v, d, rfl, rd, hs, q⟩ := h
    refine ⟨_, pss_one (ps_ret (pe_and (pe_cmpR op_isTyB (pe_callTy call_type1 (by rfl) T.type (by decide +kernel) (pa_cons (pv 0) pa_nil)) (pe_bltn (v := .ty "tuple") (by rfl) T.tuple (by decide +kernel) rfl) (nomark _))
      (pe_one (pe_callB (cr_all rfl) (by rfl) T.all (by decide +kernel) (pa_cons
        (pe_lc (own := [("number", 1)]) (g := gName 1) (tt := tYes) rfl scAreNumbers.nd (pi_tup (pv 0))
          (blkOk_by (own := [("number", 1)]) (N := ["value", "number"]) (sc := defScope sAreNumbers) (by decide +kernel))
          (fun _ _ _ _ _ => pg_name (i := 1) scAreNumbers.nd rfl (Or.inl rfl)) (fun _ _ _ _ _ => pts_nil)
          (fun _ _ _ _ _ => pe_call GN hr (by rfl) gN FN.kp bN .nil pass0 (pa_cons (pv 1) pa_nil)))
        pa_nil))))), ?_⟩
    refine ⟨v, rfl, v, _, rfl, rd.tyB, _, _, rfl, rfl, _, rfl, ?_⟩
    rw [tupD_ty]
    cases e : tupD d with
    | none =>
      have : numsD d = false := by unfold numsD; rw [e]
      rw [this] at q
      exact iteF (q H (.refl H))
    | some ds =>
      obtain ⟨a, xs, rfl, rfl, hx, rs⟩ := rd.tupOf e
      have hlen := RDs.length rs
      have hs' : (ds.length : Int) ≤ 1000 := hs
      have er : numsD (.tuple ds) = (ds.map numD).all id := by rw [all_id]; rfl
      refine iteT ⟨.ref a, rfl, a, rfl, ⟨xs, SqT.of hx⟩, fun D hD => lc_ask numD (fun _ => rfl) hx rs (by rw [sizeLine_eq]; omega) hD (fun x d H1 Q1 r hm S q1 => ?_) (fun H1 S hl => ?_)⟩
      · exact ⟨x, rfl, x, d, rfl, r, q1⟩
      · refine ⟨D, _, rfl, SqL.of hl, ?_⟩
        rw [← er]
        exact q H1 S
def manyB (n : Int) : Bool := decide (1 ≤ n) && decide (n ≤ 5)
def spMany : Sp := fun vs H Q _ => ∃ n : Int, vs = [.int n] ∧ ∀ H', Same H H' → Q (.bl (manyB n)) H'
theorem ok_many {f : Addr} {fd : FuncData} (F : Fun K "many_fits" "many_fits" sManyFits f fd) (T : KinT P w K mg base fW fT dW dT) :
    FnOk P w K mg base CX0 2 f fd ["value"] spMany := by
  refine F.ok scManyFits (fun vs H Q E h => ?_) (fun cdv A outer s H vs Q E hr h => ?_)
  · obtain ⟨n, rfl, _⟩ := h
    rfl
  · obtain ⟨n, rfl, q⟩ := h
    obtain ⟨tm, gm⟩ := T.most
    refine ⟨_, pss_one (ps_ret (pe_and (pe_call T.GW hr (by rfl) T.gW T.FW.kp T.bW .nil pass0 (pa_cons (pv 0) pa_nil))
      (pe_one (pe_chain op_le op_le pe_int (pv 0) (pe_glob (v := .int 5) (by rfl) gm ⟨_, rfl⟩))))), ?_⟩
    refine ⟨.int n, rfl, .int n, .int n, rfl, .int n, fun H1 S1 => ⟨_, rfl, iteT ⟨.int n, rfl, _, _, rfl, rfl, _, rfl, ite2 (fun e7 => ⟨_, _, rfl, rfl, ?_⟩) (fun e7 => ?_)⟩⟩⟩
    · have e8 : manyB n = decide (n ≤ 5) := by
        show (decide (1 ≤ n) && decide (n ≤ 5)) = _
        rw [show decide (1 ≤ n) = true from e7]; rfl
      rw [e8] at q
      exact q H1 S1
    · have e8 : manyB n = false := by
        show (decide (1 ≤ n) && decide (n ≤ 5)) = _
        rw [show decide (1 ≤ n) = false from Bool.eq_false_iff.mpr e7]; rfl
      rw [e8] at q
      exact q H1 S1
theorem ok_row {f : Addr} {fd : FuncData} (F : Fun K "is_row" "is_row" sIsRow f fd) (T : KinT P w K mg base fW fT dW dT)
    (FA : Fun K "are_numbers" "are_numbers" sAreNumbers fA dA) (bA : Binds K dA ["value"] []) (gA : mg "are_numbers" = some (.ref fA)) (GA : FnOk P w K mg base CX0 3 fA dA ["value"] (spKc Len1 numsD))
    (FM : Fun K "many_fits" "many_fits" sManyFits fM dM) (bM : Binds K dM ["value"] []) (gM : mg "many_fits" = some (.ref fM)) (GM : FnOk P w K mg base CX0 2 fM dM ["value"] spMany) :
    FnOk P w K mg base CX0 4 f fd ["value"] (spKc Len1 rowD) := by
  refine F.ok scIsRow (fun vs H Q E h => ?_) (fun cdv A outer s H vs Q E hr h => ?_)
  · obtain ⟨v, d, rfl, _⟩ := h
    rfl
  · obtain ⟨v, d, rfl, rd, hs, q⟩ := h
    have hr2 := hr.mono (show 2 ≤ 3 by omega)
    refine ⟨_, pss_one (ps_ret (pe_and (pe_call GA hr (by rfl) gA FA.kp bA .nil pass0 (pa_cons (pv 0) pa_nil))
      (pe_one (pe_call GM hr2 (by rfl) gM FM.kp bM .nil pass0 (pa_cons (pe_callB call_len_seq (by rfl) T.len PySem.boot_len (pa_cons (pv 0) pa_nil)) pa_nil))))), ?_⟩
    refine ⟨v, rfl, v, d, rfl, rd, hs, fun H1 S1 => ⟨_, rfl, ite2 (fun e => ?_) (fun e => ?_)⟩⟩
    · have e : numsD d = true := e
      obtain ⟨ds, ed⟩ : ∃ ds, tupD d = some ds := by
        unfold numsD at e
        split at e
        · rename_i ds e2; exact ⟨ds, e2⟩
        · cases e
      obtain ⟨a, xs, rfl, rfl, hx, rs⟩ := (rd.keep S1).tupOf ed
      have hlen := RDs.length rs
      refine ⟨.ref a, rfl, a, xs, rfl, .inr (SqT.of hx), _, rfl, fun H2 S2 => ?_⟩
      have ee : manyB (xs.length : Int) = rowD (.tuple ds) := by
        have e' : ds.all numD = true := e
        show _ = (decide (1 ≤ ds.length) && decide (ds.length ≤ 5) && ds.all numD)
        rw [e', Bool.and_true, hlen]
        unfold manyB
        rw [show decide ((1 : Int) ≤ (ds.length : Int)) = decide (1 ≤ ds.length) from decide_eq_decide.mpr (by omega), show decide ((ds.length : Int) ≤ 5) = decide (ds.length ≤ 5) from decide_eq_decide.mpr (by omega)]
      rw [ee]
      exact q H2 (S1.trans S2)
    · have e1 : numsD d = false := Bool.eq_false_iff.mpr e
      have e2 : rowD d = false := by
        unfold rowD
        unfold numsD at e1
        cases ed : tupD d with
        | none => rfl
        | some ds => rw [ed] at e1; show (_ && ds.all numD) = false; rw [show ds.all numD = false from e1, Bool.and_false]
      rw [e2] at q
      exact q H1 S1
end
end K01

/-! Q4: table_fits, game_fits. -/
namespace GL
open PySem PySem.Spec PyProof.Rows L2
/-- [what is told of x for x in a tuple] -/
theorem lc_map {K : PySem.W.Frag} {a : Addr} {xs : List V} {ds : List PyData} {te : TE} {j : Nat} {vs : List Nat} {σ : L2.St} {H1 : Hp} {D : Addr} {Qd : Hp → Prop}
    (g : PyData → V) (hw : ∀ x, wipe ((wipe σ vs).set j (some x)) vs = wipe σ vs) (hx : H1 a = some (.tup xs)) (rs : RDs H1 xs ds) (hsz : xs.length < sizeLine) (hD : H1 D = none)
    (step : ∀ x d H (Q : VK), RD H x d → d ∈ ds → Same H1 H → (∀ H', Same H H' → Q (g d) H') → te ((wipe σ vs).set j (some x)) H Q)
    (hd : ∀ H, Same H1 H → H D = some (.lst (ds.map g)) → Qd H) :
    ∃ W : Nat → Nat → Hp → Prop, (∃ m, W 0 m (upd H1 D (.lst []))) ∧ ∀ i m H, W i m H →
      ((Itt K a).stop i H ∧ Qd H) ∨ ((Itt K a).go i H ∧ ∃ Nx : Hp → Prop, (∀ H', Nx H' → ∃ m', m' < m ∧ W (i + 1) m' H') ∧ ∀ x H', (Itt K a).yld i H x H' → gName j x (wipe σ vs) H' fun σ2 H2 => wipe σ2 vs = wipe σ vs ∧ tYes σ2 H2 fun b H3 =>
        if b = true then te σ2 H3 fun y H4 => ∃ acc, H4 D = some (.lst acc) ∧ acc.length < sizeLine ∧ Nx (upd H4 D (.lst (acc ++ [y]))) else Nx H3) := by
  have hlen := RDs.length rs
  refine lc_tup (fun i H => Same H1 H ∧ H D = some (.lst ((ds.take i).map g))) ⟨fun b o e => ?_, upd_same⟩ (fun i H _ p => SqT.of (p.1 _ _ hx)) (fun i x H hi p => ?_) (fun H p => hd H p.1 ?_)
  · rw [upd_ne (ne_of_none e hD)]; exact e
  · obtain ⟨S, hDl⟩ := p
    obtain ⟨d, ed, r⟩ := RDs.at rs hi
    have hlt : i < xs.length := (List.getElem?_eq_some_iff.mp hi).1
    refine ⟨hw x, ?_⟩
    refine step x d H _ (r.keep S) (List.mem_of_getElem? ed) S fun H' S' => ⟨_, S' _ _ hDl, ?_, fun b o e => ?_, ?_⟩
    · simp only [List.length_map, List.length_take]; omega
    · rw [upd_ne (ne_of_none e hD)]; exact S' _ _ (S _ _ e)
    · rw [upd_same, List.take_add_one, ed]
      simp
  · have := p.2
    rw [hlen, List.take_length] at this
    exact this
/-- len of a list or a tuple -/
def rLenS (K : PySem.W.Frag) : List V → Hp → VK → Prop := fun xs H Q => ∃ p ys, xs = [.ref p] ∧ (SqL K H p ys ∨ SqT K H p ys) ∧ Q (.int ys.length) H
end GL
namespace K01
open PySem PySem.Spec PyProof.Rows L2 GL
def tableD (d : PyData) : Bool := match tupD d with
  | some ds => decide (1 ≤ ds.length) && decide (ds.length ≤ 5) && ds.all rowD && ds.all (fun r => decide (lenD r = lenD (headD d)))
  | none => false
def gameD (d : PyData) : Bool := match tupD d with
  | some [a, b] => tableD a && tableD b && decide (lenD a = lenD b) && decide (lenD (headD a) = lenD (headD b))
  | _ => false
theorem rowD_tup {d : PyData} (h : rowD d = true) : ∃ ds, tupD d = some ds ∧ 1 ≤ ds.length ∧ ds.length ≤ 5 ∧ ds.all numD = true := by
  unfold rowD at h
  split at h
  · rename_i ds e
    rw [Bool.and_eq_true, Bool.and_eq_true] at h
    exact ⟨ds, e, of_decide_eq_true h.1.1, of_decide_eq_true h.1.2, h.2⟩
  · cases h
theorem tableD_tup {d : PyData} (h : tableD d = true) : ∃ ds, tupD d = some ds ∧ 1 ≤ ds.length ∧ ds.length ≤ 5 ∧ ds.all rowD = true ∧
    ds.all (fun r => decide (lenD r = lenD (headD d))) = true := by
  unfold tableD at h
  split at h
  · rename_i ds e
    rw [Bool.and_eq_true, Bool.and_eq_true, Bool.and_eq_true] at h
    exact ⟨ds, e, of_decide_eq_true h.1.1.1, of_decide_eq_true h.1.1.2, h.1.2, h.2⟩
  · cases h
section
variable {P : Program} {w : World} {K : PySem.W.Frag} {mg : Str → Option Value} {base : Heap}
variable {fW fT fR fB fM : Addr} {dW dT dR dB dM : FuncData}

theorem ok_table {f : Addr} {fd : FuncData} (F : Fun K "table_fits" "table_fits" sTableFits f fd) (T : KinT P w K mg base fW fT dW dT)
    (FR : Fun K "is_row" "is_row" sIsRow fR dR) (bR : Binds K dR ["value"] []) (gR : mg "is_row" = some (.ref fR)) (GR : FnOk P w K mg base CX0 4 fR dR ["value"] (spKc Len1 rowD))
    (FM : Fun K "many_fits" "many_fits" sManyFits fM dM) (bM : Binds K dM ["value"] []) (gM : mg "many_fits" = some (.ref fM)) (GM : FnOk P w K mg base CX0 2 fM dM ["value"] spMany) :
    FnOk P w K mg base CX0 5 f fd ["value"] (spKc Len2 tableD) := by
  refine F.ok scTableFits (fun vs H Q E h => ?_) (fun cdv A outer s H vs Q E hr h => ?_)
  · obtain ⟨v, d, rfl, _⟩ := h
    rfl
  · obtain ⟨v, d, rfl, rd, hs, q⟩ := h
    have hr2 := hr.mono (show 2 ≤ 4 by omega)
    refine ⟨_, pss_cons (ps_if (PW.pt (pw_or (pt_cmpR op_notTyB (pe_callTy call_type1 (by rfl) T.type (by decide +kernel) (pa_cons (pv 0) pa_nil)) (pe_bltn (v := .ty "tuple") (by rfl) T.tuple (by decide +kernel) rfl) (nomark _))
        (pw_or1 (pt_not (pt_val (pe_call GM hr2 (by rfl) gM FM.kp bM .nil pass0 (pa_cons (pe_callB call_len_seq (by rfl) T.len PySem.boot_len (pa_cons (pv 0) pa_nil)) pa_nil)))))))
        (pss_one (ps_ret pe_bl)) pss_nil)
      (pss_one (ps_ret (pe_and (pe_callB (cr_all rfl) (by rfl) T.all (by decide +kernel) (pa_cons
        (pe_lc (own := [("row", 1)]) (g := gName 1) (tt := tYes) rfl scTableFits.nd (pi_tup (pv 0))
          (blkOk_by (own := [("row", 1)]) (N := ["value", "row"]) (sc := defScope sTableFits) (by decide +kernel))
          (fun _ _ _ _ _ => pg_name (i := 1) scTableFits.nd rfl (Or.inl rfl)) (fun _ _ _ _ _ => pts_nil)
          (fun _ _ _ _ _ => pe_call GR hr (by rfl) gR FR.kp bR .nil pass0 (pa_cons (pv 1) pa_nil)))
        pa_nil))
        (pe_one (pe_cmpR op_eq (pe_lenSetA (by rfl) T.len (by rfl) T.set
          (pe_lc (own := [("row", 1)]) (g := gName 1) (tt := tYes) rfl scTableFits.nd (pi_tup (pv 0))
            (blkOk_by (own := [("row", 1)]) (N := ["value", "row"]) (sc := defScope sTableFits) (by decide +kernel))
            (fun _ _ _ _ _ => pg_name (i := 1) scTableFits.nd rfl (Or.inl rfl)) (fun _ _ _ _ _ => pts_nil)
            (fun _ _ _ _ _ => pe_callB (show CallR _ (.builtin "len") (rLenS K) from call_len_seq) (by rfl) T.len PySem.boot_len (pa_cons (pv 1) pa_nil)))) pe_int (nomark _)))))), ?_⟩
    refine ⟨v, rfl, v, _, rfl, rd.tyB, _, _, rfl, rfl, _, rfl, ?_⟩
    rw [tupD_ty]
    cases e : tupD d with
    | none =>
      have : tableD d = false := by unfold tableD; rw [e]
      rw [this] at q
      exact iteT (iteT (q H (.refl H)))
    | some ds =>
      obtain ⟨a, xs, rfl, rfl, hx, rs⟩ := rd.tupOf e
      have hlen := RDs.length rs
      have er : tableD (.tuple ds) = (decide (1 ≤ ds.length) && decide (ds.length ≤ 5) && ds.all rowD && ds.all (fun r => decide (lenD r = lenD (headD (.tuple ds))))) := rfl
      refine iteF ⟨.ref a, rfl, a, xs, rfl, .inr (SqT.of hx), _, rfl, fun H0 S0 => ⟨_, rfl, ?_⟩⟩
      have hx := S0 _ _ hx
      have rs := RDs.keep S0 rs
      have q : ∀ H', Same H0 H' → Q (.bl (tableD (.tuple ds))) H' := fun H' S => q H' (S0.trans S)
      cases em : manyB (xs.length : Int) with
      | false =>
        have : tableD (.tuple ds) = false := by
          rw [er]
          unfold manyB at em
          rw [hlen, show decide ((1 : Int) ≤ (ds.length : Int)) = decide (1 ≤ ds.length) from decide_eq_decide.mpr (by omega), show decide ((ds.length : Int) ≤ 5) = decide (ds.length ≤ 5) from decide_eq_decide.mpr (by omega)] at em
          rw [em]; rfl
        rw [this] at q
        exact iteT (q H0 (.refl H0))
      | true =>
        unfold manyB at em
        rw [Bool.and_eq_true] at em
        have e3 : (xs.length : Int) ≤ 5 := of_decide_eq_true em.2
        have e4 : 1 ≤ ds.length := by have := of_decide_eq_true em.1; omega
        have e5 : tableD (.tuple ds) = ((ds.map rowD).all id && ds.all (fun r => decide (lenD r = lenD (headD (.tuple ds))))) := by
          rw [er, all_id, decide_eq_true e4, decide_eq_true (show ds.length ≤ 5 by omega)]
          rfl
        refine iteF ⟨.ref a, rfl, a, rfl, ⟨xs, SqT.of hx⟩, fun D hD => lc_ask rowD (fun _ => rfl) hx rs (by rw [sizeLine_eq]; omega) hD (fun x d H1 Q1 r hm S q1 => ?_) (fun H1 S hl => ?_)⟩
        · exact ⟨x, rfl, x, d, rfl, r, hs d hm, q1⟩
        · refine ⟨D, _, rfl, SqL.of hl, _, rfl, ite2 (fun e6 => ?_) (fun e6 => ?_)⟩
          · rw [e6] at e5
            refine ⟨.ref a, rfl, a, rfl, ⟨xs, SqT.of (S _ _ hx)⟩, fun D2 hD2 => lc_map (fun r => .int (lenD r)) (fun _ => rfl) (S _ _ hx) (RDs.keep S rs) (by rw [sizeLine_eq]; omega) hD2 (fun x d H2 Q2 r hm S2 q2 => ?_) (fun H2 S2 hl2 => ?_)⟩
            · rw [all_id, List.all_eq_true] at e6
              obtain ⟨es, h1, _⟩ := rowD_tup (e6 d hm)
              obtain ⟨b, ys, rfl, rfl, hy, rs2⟩ := r.tupOf h1
              refine ⟨.ref b, rfl, b, ys, rfl, .inr (SqT.of hy), ?_⟩
              have : lenD (.tuple es) = (ys.length : Int) := by show ((es.length : Nat) : Int) = _; rw [RDs.length rs2]
              rw [← this]
              exact q2 H2 (.refl H2)
            · refine ⟨D2, ds.map lenD, rfl, ?_, by rw [List.length_map]; omega, ?_⟩
              · rw [List.map_map]; exact SqL.of hl2
              · refine ⟨rfl, ?_⟩
                rw [dec_int']
                have hne : ds.map lenD ≠ [] := by
                  intro z
                  have := congrArg List.length z
                  rw [List.length_map] at this
                  rw [this] at e4
                  exact absurd e4 (by decide)
                rw [met_one _ hne]
                have e8 : (ds.map lenD).getD 0 0 = lenD (headD (.tuple ds)) := by
                  cases ds with
                  | nil => exact absurd rfl hne
                  | cons d0 ds => rfl
                rw [e8, List.all_map]
                have e9 := q H2 (S.trans S2)
                rw [e5] at e9
                exact e9
          · have : tableD (.tuple ds) = false := by rw [e5, Bool.eq_false_iff.mpr e6]; rfl
            rw [this] at q
            exact q H1 S

theorem ok_game {f : Addr} {fd : FuncData} (F : Fun K "game_fits" "game_fits" sGameFits f fd) (T : KinT P w K mg base fW fT dW dT)
    (FB : Fun K "table_fits" "table_fits" sTableFits fB dB) (bB : Binds K dB ["value"] []) (gB : mg "table_fits" = some (.ref fB)) (GB : FnOk P w K mg base CX0 5 fB dB ["value"] (spKc Len2 tableD)) :
    FnOk P w K mg base CX0 6 f fd ["value"] (spKc Slim gameD) := by
  refine F.ok scGameFits (fun vs H Q E h => ?_) (fun cdv A outer s H vs Q E hr h => ?_)
  · obtain ⟨v, d, rfl, _⟩ := h
    rfl
  · obtain ⟨v, d, rfl, rd, hs, q⟩ := h
    have hr1 := hr.mono (show 1 ≤ 5 by omega)
    refine ⟨_, pss_cons (ps_if (pt_not (pt_val (pe_call T.GT hr1 (by rfl) T.gT T.FT.kp T.bT .nil pass0 (pa_cons (pv 0) (pa_cons pe_int pa_nil)))))
        (pss_one (ps_ret pe_bl)) pss_nil)
      (pss_cons (ps_asg (pv 0) (pg_tup rfl (pgs_cons (pg_name (i := 1) scGameFits.nd rfl (Or.inl rfl)) (pgs_cons (pg_name (i := 2) scGameFits.nd rfl (Or.inl rfl)) pgs_nil))))
      (pss_cons (ps_if (PW.pt (pw_or (pt_not (pt_val (pe_call GB hr (by rfl) gB FB.kp bB .nil pass0 (pa_cons (pv 1) pa_nil)))) (pw_or1 (pt_not (pt_val (pe_call GB hr (by rfl) gB FB.kp bB .nil pass0 (pa_cons (pv 2) pa_nil)))))))
        (pss_one (ps_ret pe_bl)) pss_nil)
      (pss_one (ps_ret (pe_and (pe_cmpR op_eq (pe_callB call_len_seq (by rfl) T.len PySem.boot_len (pa_cons (pv 1) pa_nil)) (pe_callB call_len_seq (by rfl) T.len PySem.boot_len (pa_cons (pv 2) pa_nil)) (nomark _))
        (pe_one (pe_cmpR op_eq (pe_callB call_len_seq (by rfl) T.len PySem.boot_len (pa_cons (pe_ix ix_tup (pv 1) pe_int (fun _ _ => rfl)) pa_nil)) (pe_callB call_len_seq (by rfl) T.len PySem.boot_len (pa_cons (pe_ix ix_tup (pv 2) pe_int (fun _ _ => rfl)) pa_nil)) (nomark _)))))))), ?_⟩
    refine ⟨v, rfl, v, d, 2, rfl, rd, _, rfl, ?_⟩
    cases e : tupN 2 d with
    | false =>
      have : gameD d = false := by
        unfold gameD
        unfold tupN at e
        split
        · rename_i a b h
          rw [h] at e
          simp at e
        · rfl
      rw [this] at q
      exact iteT (q H (.refl H))
    | true =>
      have e2 : ∃ a b, tupD d = some [a, b] := by
        unfold tupN at e
        split at e
        · rename_i ds h
          have hl := of_decide_eq_true e
          match ds, hl with
          | [a, b], _ => exact ⟨a, b, h⟩
          | [], z => simp at z
          | [_], z => simp at z
          | _ :: _ :: _ :: _, z => simp only [List.length_cons] at z; omega
        · cases e
      obtain ⟨d1, d2, e3⟩ := e2
      obtain ⟨a, xs, rfl, rfl, hx, rs⟩ := rd.tupOf e3
      cases rs with
      | cons r1 rs =>
        cases rs with
        | cons r2 rs =>
          cases rs
          rename_i x1 x2
          have eg : gameD (.tuple [d1, d2]) = (tableD d1 && tableD d2 && decide (lenD d1 = lenD d2) && decide (lenD (headD d1) = lenD (headD d2))) := rfl
          refine iteF ⟨.ref a, rfl, a, [x1, x2], rfl, SqT.of hx, rfl, x1, [x2], rfl, x2, [], rfl, rfl, ?_⟩
          refine ⟨x1, rfl, x1, d1, rfl, r1, hs d1 List.mem_cons_self, fun H1 S1 => ⟨_, rfl, ?_⟩⟩
          cases e4 : tableD d1 with
          | false =>
            have : gameD (.tuple [d1, d2]) = false := by rw [eg, e4]; rfl
            rw [this] at q
            exact iteT (iteT (q H1 S1))
          | true =>
            refine iteF ⟨x2, rfl, x2, d2, rfl, r2.keep S1, hs d2 (List.mem_cons_of_mem _ List.mem_cons_self), fun H2 S2 => ⟨_, rfl, ?_⟩⟩
            have S3 := S1.trans S2
            cases e5 : tableD d2 with
            | false =>
              have : gameD (.tuple [d1, d2]) = false := by rw [eg, e4, e5]; rfl
              rw [this] at q
              exact iteT (q H2 S3)
            | true =>
              obtain ⟨ds1, t1, l1, l1', a1, _⟩ := tableD_tup e4
              obtain ⟨ds2, t2, l2, l2', a2, _⟩ := tableD_tup e5
              obtain ⟨p1, ys1, rfl, rfl, hy1, rs1⟩ := (r1.keep S3).tupOf t1
              obtain ⟨p2, ys2, rfl, rfl, hy2, rs2⟩ := (r2.keep S3).tupOf t2
              have n1 : lenD (.tuple ds1) = (ys1.length : Int) := by show ((ds1.length : Nat) : Int) = _; rw [RDs.length rs1]
              have n2 : lenD (.tuple ds2) = (ys2.length : Int) := by show ((ds2.length : Nat) : Int) = _; rw [RDs.length rs2]
              refine iteF ⟨.ref p1, rfl, p1, ys1, rfl, .inr (SqT.of hy1), .ref p2, rfl, p2, ys2, rfl, .inr (SqT.of hy2), rfl, _, rfl, ?_⟩
              rw [dec_int', ← n1, ← n2]
              rw [e4, e5] at eg
              refine ite2 (fun e6 => ?_) (fun e6 => ?_)
              · rw [e6] at eg
                cases rs1 with
                | nil => exact absurd l1 (by decide)
                | @cons h1 tx1 dh1 td1 rh1 rt1 =>
                  cases rs2 with
                  | nil => exact absurd l2 (by decide)
                  | @cons h2 tx2 dh2 td2 rh2 rt2 =>
                    obtain ⟨es1, u1, _⟩ := rowD_tup (List.all_eq_true.mp a1 dh1 List.mem_cons_self)
                    obtain ⟨es2, u2, _⟩ := rowD_tup (List.all_eq_true.mp a2 dh2 List.mem_cons_self)
                    obtain ⟨b1, zs1, rfl, rfl, hz1, rz1⟩ := rh1.tupOf u1
                    obtain ⟨b2, zs2, rfl, rfl, hz2, rz2⟩ := rh2.tupOf u2
                    have m1 : lenD (headD (.tuple (.tuple es1 :: td1))) = (zs1.length : Int) := by show ((es1.length : Nat) : Int) = _; rw [RDs.length rz1]
                    have m2 : lenD (headD (.tuple (.tuple es2 :: td2))) = (zs2.length : Int) := by show ((es2.length : Nat) : Int) = _; rw [RDs.length rz2]
                    refine ⟨.ref p1, rfl, p1, _, 0, .ref b1, rfl, rfl, SqT.of hy1, atI_nat (j := 0) rfl, b1, zs1, rfl, .inr (SqT.of hz1), .ref p2, rfl, p2, _, 0, .ref b2, rfl, rfl, SqT.of hy2, atI_nat (j := 0) rfl, b2, zs2, rfl, .inr (SqT.of hz2), rfl, ?_⟩
                    rw [dec_int', ← m1, ← m2]
                    rw [eg] at q
                    exact q H2 S3
              · rw [Bool.eq_false_iff.mpr e6] at eg
                rw [eg] at q
                exact q H2 S3
theorem slim_game {g : PyData} (h : gameD g = true) : Slim g := fun t ht r hr => by
  unfold gameD at h
  split at h
  · rename_i a b e
    rw [Bool.and_eq_true, Bool.and_eq_true, Bool.and_eq_true] at h
    have key : ∀ x, tableD x = true → ∀ r ∈ itemsD x, lenD r ≤ 1000 := fun x hx r hr => by
      obtain ⟨ds, e1, _, _, al, _⟩ := tableD_tup hx
      unfold itemsD at hr
      rw [e1] at hr
      obtain ⟨es, e2, _, l5, _⟩ := rowD_tup (List.all_eq_true.mp al r hr)
      unfold lenD itemsD
      rw [e2]
      show ((es.length : Nat) : Int) ≤ 1000
      omega
    unfold itemsD at ht
    rw [e] at ht
    rcases List.mem_cons.mp ht with rfl | ht
    · exact key _ h.1.1.1 r hr
    · rcases List.mem_singleton.mp ht with rfl
      exact key _ h.1.1.2 r hr
  · cases h
end
end K01

/-! Q5: the law's own readings of games. -/
namespace GL
open PySem PySem.Spec PyProof.Rows L2
def intB : PyData → Bool
  | .int _ => true
  | .bool _ => true
  | _ => false
def boolB : PyData → Bool
  | .bool _ => true
  | _ => false
theorem kit_int (K : PySem.W.Frag) (d : PyData) : PySem.W.kitOne K (.type (tyD d)) (.type "int") = some (intB d) := by
  refine kit_ty ?_
  cases d with
  | none => exact (by decide +kernel : kitB "NoneType" "int" = some false)
  | bool _ => exact (by decide +kernel : kitB "bool" "int" = some true)
  | int _ => exact (by decide +kernel : kitB "int" "int" = some true)
  | str _ => exact (by decide +kernel : kitB "str" "int" = some false)
  | list _ => exact (by decide +kernel : kitB "list" "int" = some false)
  | tuple _ => exact (by decide +kernel : kitB "tuple" "int" = some false)
  | dict _ => exact (by decide +kernel : kitB "dict" "int" = some false)
theorem kit_bool (K : PySem.W.Frag) (d : PyData) : PySem.W.kitOne K (.type (tyD d)) (.type "bool") = some (boolB d) := by
  refine kit_ty ?_
  cases d with
  | none => exact (by decide +kernel : kitB "NoneType" "bool" = some false)
  | bool _ => exact (by decide +kernel : kitB "bool" "bool" = some true)
  | int _ => exact (by decide +kernel : kitB "int" "bool" = some false)
  | str _ => exact (by decide +kernel : kitB "str" "bool" = some false)
  | list _ => exact (by decide +kernel : kitB "list" "bool" = some false)
  | tuple _ => exact (by decide +kernel : kitB "tuple" "bool" = some false)
  | dict _ => exact (by decide +kernel : kitB "dict" "bool" = some false)
theorem kit_tuple (K : PySem.W.Frag) (d : PyData) : PySem.W.kitOne K (.type (tyD d)) (.type "tuple") = some (tupD d).isSome := by
  refine kit_ty ?_
  cases d with
  | none => exact (by decide +kernel : kitB "NoneType" "tuple" = some false)
  | bool _ => exact (by decide +kernel : kitB "bool" "tuple" = some false)
  | int _ => exact (by decide +kernel : kitB "int" "tuple" = some false)
  | str _ => exact (by decide +kernel : kitB "str" "tuple" = some false)
  | list _ => exact (by decide +kernel : kitB "list" "tuple" = some false)
  | tuple _ => exact (by decide +kernel : kitB "tuple" "tuple" = some true)
  | dict _ => exact (by decide +kernel : kitB "dict" "tuple" = some false)
end GL
namespace K01
open PySem PySem.Spec PyProof.Rows L2 GL
section
variable {P : Program} {w : World} {K : PySem.W.Frag} {mg : Str → Option Value} {base : Heap}

theorem ok_lwhole {f : Addr} {fd : FuncData} (F : Fun K "_law_whole" "_law_whole" sLWhole f fd) (ms : mg "isinstance" = none) (mi : mg "int" = none) (mb : mg "bool" = none) :
    FnOk P w K mg base CX0 1 f fd ["value"] (spK wholeD) := by
  refine F.ok scLWhole (fun vs H Q E h => ?_) (fun cdv A outer s H vs Q E hr h => ?_)
  · obtain ⟨v, d, rfl, _⟩ := h
    rfl
  · obtain ⟨v, d, rfl, rd, q⟩ := h
    refine ⟨_, pss_one (ps_ret (pe_and (pe_callB call_isi (by rfl) ms (by decide +kernel) (pa_cons (pv 0) (pa_cons (pe_bltn (v := .ty "int") (by rfl) mi (by decide +kernel) rfl) pa_nil)))
      (pe_one (pe_not (pe_callB call_isi (by rfl) ms (by decide +kernel) (pa_cons (pv 0) (pa_cons (pe_bltn (v := .ty "bool") (by rfl) mb (by decide +kernel) rfl) pa_nil))))))), ?_⟩
    refine ⟨v, rfl, v, .ty "int", _, _, _, rfl, .ty _, rd.tyX, kit_int K d, _, rfl, ?_⟩
    have e : wholeD d = (intB d && !boolB d) := by cases d <;> rfl
    rw [e] at q
    refine ite2 (fun e1 => ?_) (fun e1 => ?_)
    · refine ⟨v, rfl, v, .ty "bool", _, _, _, rfl, .ty _, rd.tyX, kit_bool K d, _, rfl, ?_⟩
      rw [e1] at q
      exact q H (.refl H)
    · rw [Bool.eq_false_iff.mpr e1] at q
      exact q H (.refl H)

/-- what the law's own readings call -/
structure LawT (P : Program) (w : World) (K : PySem.W.Frag) (mg : Str → Option Value) (base : Heap) (fW : Addr) (dW : FuncData) : Prop where
  FW : Fun K "_law_whole" "_law_whole" sLWhole fW dW
  bW : Binds K dW ["value"] []
  gW : mg "_law_whole" = some (.ref fW)
  GW : FnOk P w K mg base CX0 1 fW dW ["value"] (spK wholeD)
  isi : mg "isinstance" = none
  tuple : mg "tuple" = none
  len : mg "len" = none
variable {fW fB : Addr} {dW dB : FuncData}

theorem ok_ltable {f : Addr} {fd : FuncData} (F : Fun K "_law_is_table" "_law_is_table" sLIsTable f fd) (T : LawT P w K mg base fW dW) :
    FnOk P w K mg base CX0 2 f fd ["value"] (spK tableD) := by
  refine F.ok scLIsTable (fun vs H Q E h => ?_) (fun cdv A outer s H vs Q E hr h => ?_)
  · obtain ⟨v, d, rfl, _⟩ := h
    rfl
  · obtain ⟨v, d, rfl, rd, q⟩ := h
    refine ⟨_, pss_cons (ps_if (PW.pt (pw_or (pt_not (pt_val (pe_callB call_isi (by rfl) T.isi (by decide +kernel) (pa_cons (pv 0) (pa_cons (pe_bltn (v := .ty "tuple") (by rfl) T.tuple (by decide +kernel) rfl) pa_nil)))))
        (pw_or1 (pt_not (pt_chain op_le op_le pe_int (pe_callB call_len_seq (by rfl) T.len PySem.boot_len (pa_cons (pv 0) pa_nil)) pe_int)))))
        (pss_one (ps_ret pe_bl)) pss_nil)
      (pss_cons (ps_for PassesOwn.never rfl (pi_tup (pv 0)) (pg_name (i := 1) scLIsTable.nd rfl (Or.inl rfl))
        (pss_cons (ps_if (PW.pt (pw_or (pt_not (pt_val (pe_callB call_isi (by rfl) T.isi (by decide +kernel) (pa_cons (pv 1) (pa_cons (pe_bltn (v := .ty "tuple") (by rfl) T.tuple (by decide +kernel) rfl) pa_nil)))))
          (pw_or (pt_not (pt_chain op_le op_le pe_int (pe_callB call_len_seq (by rfl) T.len PySem.boot_len (pa_cons (pv 1) pa_nil)) pe_int))
          (pw_or1 (pt_cmpR op_ne (pe_callB call_len_seq (by rfl) T.len PySem.boot_len (pa_cons (pv 1) pa_nil)) (pe_callB call_len_seq (by rfl) T.len PySem.boot_len (pa_cons (pe_ix ix_tup (pv 0) pe_int (fun _ _ => rfl)) pa_nil)) (nomark _))))))
          (pss_one (ps_ret pe_bl)) pss_nil)
        (pss_one (ps_for PassesOwn.never rfl (pi_tup (pv 1)) (pg_name (i := 2) scLIsTable.nd rfl (Or.inl rfl))
          (pss_one (ps_if (PW.pt (pw_or (pt_not (pt_val (pe_call T.GW hr (by rfl) T.gW T.FW.kp T.bW .nil pass0 (pa_cons (pv 2) pa_nil))))
            (pw_or1 (pt_not (pt_chain op_le op_le (pe_un un_neg pe_int) (pv 2) pe_int)))))
            (pss_one (ps_ret pe_bl)) pss_nil))))))
      (pss_one (ps_ret pe_bl))), ?_⟩
    refine ⟨v, rfl, v, .ty "tuple", _, _, _, rfl, .ty _, rd.tyX, kit_tuple K d, _, rfl, ?_⟩
    cases e : tupD d with
    | none =>
      have : tableD d = false := by unfold tableD; rw [e]
      rw [this] at q
      exact iteT (iteT (q H (.refl H)))
    | some ds =>
      obtain ⟨a, xs, rfl, rfl, hx, rs⟩ := rd.tupOf e
      have hlen := RDs.length rs
      have er : tableD (.tuple ds) = (decide (1 ≤ ds.length) && decide (ds.length ≤ 5) && ds.all rowD && ds.all (fun r => decide (lenD r = lenD (headD (.tuple ds))))) := rfl
      refine iteF ⟨.ref a, rfl, a, xs, rfl, .inr (SqT.of hx), _, _, rfl, rfl, _, rfl, ?_⟩
      have bad : ¬ (1 ≤ ds.length ∧ ds.length ≤ 5) → Q (.bl false) H := fun z => by
        have : tableD (.tuple ds) = false := by
          rw [er]
          by_cases h1 : 1 ≤ ds.length
          · have h2 : ¬ ds.length ≤ 5 := fun h2 => z ⟨h1, h2⟩
            simp [h2]
          · simp [h1]
        rw [this] at q
        exact q H (.refl H)
      refine ite2 (fun e1 => ⟨_, _, rfl, rfl, _, rfl, ite2 (fun e2 => ?_) (fun e2 => ?_)⟩) (fun e1 => ⟨_, rfl, iteT (bad fun z => e1 (decide_eq_true (by omega)))⟩)
      · refine bad fun z => ?_
        rw [decide_eq_true (by omega)] at e2
        cases e2
      · have e3 : (xs.length : Int) ≤ 5 := by
          by_cases z : (xs.length : Int) ≤ 5
          · exact z
          · rw [decide_eq_false z] at e2
            exact absurd rfl e2
        have e4 : 1 ≤ ds.length := by have := of_decide_eq_true e1; omega
        -- a row that is none
        have badR : ∀ d ∈ ds, (rowD d && decide (lenD d = lenD (headD (.tuple ds)))) = false → ∀ H', Same H H' → Q (.bl false) H' := fun d hm z H' S => by
          have : tableD (.tuple ds) = false := by
            rw [er, Bool.and_eq_false_iff]
            rcases Bool.and_eq_false_iff.mp z with z | z
            · refine .inl (Bool.and_eq_false_iff.mpr (.inr (Bool.eq_false_iff.mpr fun z2 => ?_)))
              have := List.all_eq_true.mp z2 d hm
              rw [z] at this; cases this
            · refine .inr (Bool.eq_false_iff.mpr fun z2 => ?_)
              have := List.all_eq_true.mp z2 d hm
              rw [z] at this; cases this
          rw [this] at q
          exact q H' S
        have hd0 : lenD (headD (.tuple ds)) = lenD (ds.headD .none) := rfl
        refine ⟨.ref a, rfl, a, rfl, ⟨xs, SqT.of hx⟩, for_tup (xs := xs) (fun i σ H' => ∃ y1 y2, σ = [some (.ref a), y1, y2] ∧ Same H H' ∧
          (ds.take i).all rowD = true ∧ (ds.take i).all (fun r => decide (lenD r = lenD (headD (.tuple ds)))) = true) ⟨none, none, rfl, .refl H, rfl, rfl⟩
          (fun i σ H1 _ p => ?_) (fun i x σ H1 hi p => ?_) (fun σ H1 p => ?_)⟩
        · obtain ⟨_, _, _, S, _⟩ := p
          exact SqT.of (S _ _ hx)
        · obtain ⟨y1, y2, rfl, S, a1, a2⟩ := p
          obtain ⟨d, ed, r0⟩ := RDs.at rs hi
          have hm := List.mem_of_getElem? ed
          have r := r0.keep S
          refine ⟨x, rfl, x, .ty "tuple", _, _, _, rfl, .ty _, r.tyX, kit_tuple K d, _, rfl, ?_⟩
          cases e6 : tupD d with
          | none => exact iteT (iteT (badR d hm (by unfold rowD; rw [e6]; rfl) H1 S))
          | some es =>
            obtain ⟨b, ys, rfl, rfl, hy, rs2⟩ := r.tupOf e6
            have hl2 := RDs.length rs2
            have bad2 : ¬ (1 ≤ es.length ∧ es.length ≤ 5) → Q (.bl false) H1 := fun z => badR _ hm (by
              have : rowD (.tuple es) = (decide (1 ≤ es.length) && decide (es.length ≤ 5) && es.all numD) := rfl
              rw [this]
              by_cases h1 : 1 ≤ es.length
              · have h2 : ¬ es.length ≤ 5 := fun h2 => z ⟨h1, h2⟩
                simp [h2]
              · simp [h1]) H1 S
            refine iteF ⟨.ref b, rfl, b, ys, rfl, .inr (SqT.of hy), _, _, rfl, rfl, _, rfl, ?_⟩
            refine ite2 (fun f1 => ⟨_, _, rfl, rfl, _, rfl, ite2 (fun f2 => ?_) (fun f2 => ?_)⟩) (fun f1 => ⟨_, rfl, iteT (iteT (bad2 fun z => f1 (decide_eq_true (by omega))))⟩)
            · refine iteT (bad2 fun z => ?_)
              rw [decide_eq_true (by omega)] at f2
              cases f2
            · have f3 : (ys.length : Int) ≤ 5 := by
                by_cases z : (ys.length : Int) ≤ 5
                · exact z
                · rw [decide_eq_false z] at f2
                  exact absurd rfl f2
              have f4 : 1 ≤ es.length := by have := of_decide_eq_true f1; omega
              -- the first row
              cases ds with
              | nil => exact absurd e4 (by decide)
              | cons d0 ds' =>
                cases rs with
                | @cons x0 xs' _ _ r00 rs' =>
                  -- the first row is a tuple: it is this one, or was asked before
                  have ht0 : ∃ es0, tupD d0 = some es0 := by
                    cases i with
                    | zero => cases ed; exact ⟨_, e6⟩
                    | succ i =>
                      rw [List.take_succ_cons, List.all_cons, Bool.and_eq_true] at a1
                      obtain ⟨es0, h0, _⟩ := rowD_tup a1.1
                      exact ⟨es0, h0⟩
                  obtain ⟨es0, ht0⟩ := ht0
                  obtain ⟨c, zs, rfl, rfl, hz, rz⟩ := (r00.keep S).tupOf ht0
                  refine ⟨.ref b, rfl, b, ys, rfl, .inr (SqT.of hy), .ref a, rfl, a, _, 0, .ref c, rfl, rfl, SqT.of (S _ _ hx), atI_nat (j := 0) rfl, c, zs, rfl, .inr (SqT.of hz), rfl, _, rfl, ?_⟩
                  have n1 : lenD (.tuple es) = (ys.length : Int) := by show ((es.length : Nat) : Int) = _; rw [hl2]
                  have n2 : lenD (headD (.tuple (.tuple es0 :: ds'))) = (zs.length : Int) := by show ((es0.length : Nat) : Int) = _; rw [RDs.length rz]
                  rw [dec_int', ← n1, ← n2]
                  refine ite2 (fun g1 => badR _ hm ?_ H1 S) (fun g1 => ?_)
                  · rw [Bool.not_eq_true'] at g1
                    rw [g1, Bool.and_false]
                  · have g2 : decide (lenD (.tuple es) = lenD (headD (.tuple (.tuple es0 :: ds')))) = true := by
                      cases hh : decide (lenD (.tuple es) = lenD (headD (.tuple (.tuple es0 :: ds')))) with
                      | true => rfl
                      | false => rw [hh] at g1; exact absurd rfl g1
                    have er2 : rowD (.tuple es) = es.all numD := by
                      show (decide (1 ≤ es.length) && decide (es.length ≤ 5) && es.all numD) = _
                      rw [decide_eq_true f4, decide_eq_true (show es.length ≤ 5 by omega)]; rfl
                    refine ⟨.ref b, rfl, b, rfl, ⟨ys, SqT.of hy⟩, for_tup (xs := ys) (fun j σ H' => ∃ y2, σ = [some (.ref a), some (.ref b), y2] ∧ Same H1 H' ∧ (es.take j).all numD = true) ⟨y2, rfl, .refl H1, rfl⟩
                      (fun j σ H2 _ p => ?_) (fun j x σ H2 hj p => ?_) (fun σ H2 p => ?_)⟩
                    · obtain ⟨_, _, S2, _⟩ := p
                      exact SqT.of (S2 _ _ hy)
                    · obtain ⟨z2, rfl, S2, b1⟩ := p
                      obtain ⟨dn, edn, rn⟩ := RDs.at rs2 hj
                      have hmn := List.mem_of_getElem? edn
                      have badN : numD dn = false → ∀ H', Same H2 H' → Q (.bl false) H' := fun z H' S3 => badR _ hm (by
                        rw [er2]
                        have : es.all numD = false := Bool.eq_false_iff.mpr fun z2 => by
                          have := List.all_eq_true.mp z2 dn hmn
                          rw [z] at this; cases this
                        rw [this]; rfl) H' ((S.trans S2).trans S3)
                      refine ⟨x, rfl, x, dn, rfl, rn.keep S2, fun H3 S3 => ⟨_, rfl, ?_⟩⟩
                      cases e7 : wholeD dn with
                      | false => exact iteT (iteT (badN (by cases dn <;> first | rfl | cases e7) H3 S3))
                      | true =>
                        obtain ⟨n, rfl, rfl⟩ := rn.whole e7
                        refine iteF ⟨1000, rfl, .int n, rfl, _, _, rfl, rfl, _, rfl, ?_⟩
                        have en : numD (.int n) = (decide (-1000 ≤ n) && decide (n ≤ 1000)) := rfl
                        refine ite2 (fun k1 => ⟨_, _, rfl, rfl, _, rfl, ite2 (fun k2 => ?_) (fun k2 => ?_)⟩) (fun k1 => ⟨_, rfl, iteT (badN (by rw [en, show decide (-1000 ≤ n) = false from Bool.eq_false_iff.mpr k1]; rfl) H3 S3)⟩)
                        · rw [Bool.not_eq_true'] at k2
                          exact badN (by rw [en, show decide (n ≤ 1000) = false from k2, Bool.and_false]) H3 S3
                        · have k3 : decide (n ≤ 1000) = true := by
                            cases hh : decide (n ≤ 1000) with
                            | true => rfl
                            | false => rw [hh] at k2; exact absurd rfl k2
                          refine ⟨_, rfl, S2.trans S3, ?_⟩
                          rw [List.take_add_one, edn, List.all_append, b1]
                          show (true && (numD (.int n) && true)) = true
                          rw [en, show decide (-1000 ≤ n) = true from k1, k3]
                          rfl
                    · obtain ⟨z2, rfl, S2, b1⟩ := p
                      rw [hl2, List.take_length] at b1
                      refine ⟨_, _, rfl, S.trans S2, ?_, ?_⟩
                      · rw [List.take_add_one, ed, List.all_append, a1]
                        show (true && (rowD (.tuple es) && true)) = true
                        rw [er2, b1]; rfl
                      · rw [List.take_add_one, ed, List.all_append, a2]
                        show (true && (decide (lenD (.tuple es) = _) && true)) = true
                        rw [g2]; rfl
        · obtain ⟨y1, y2, rfl, S, a1, a2⟩ := p
          rw [hlen, List.take_length] at a1 a2
          have : tableD (.tuple ds) = true := by
            rw [er, a1, a2, decide_eq_true e4, decide_eq_true (show ds.length ≤ 5 by omega)]; rfl
          rw [this] at q
          exact q H1 S
end
end K01

/-! Q6: _law_is_game. -/
namespace K01
open PySem PySem.Spec PyProof.Rows L2 GL
section
variable {P : Program} {w : World} {K : PySem.W.Frag} {mg : Str → Option Value} {base : Heap}
variable {fW fB : Addr} {dW dB : FuncData}

theorem ok_lgame {f : Addr} {fd : FuncData} (F : Fun K "_law_is_game" "_law_is_game" sLIsGame f fd) (T : LawT P w K mg base fW dW)
    (FB : Fun K "_law_is_table" "_law_is_table" sLIsTable fB dB) (bB : Binds K dB ["value"] []) (gB : mg "_law_is_table" = some (.ref fB)) (GB : FnOk P w K mg base CX0 2 fB dB ["value"] (spK tableD)) :
    FnOk P w K mg base CX0 3 f fd ["value"] (spK gameD) := by
  refine F.ok scLIsGame (fun vs H Q E h => ?_) (fun cdv A outer s H vs Q E hr h => ?_)
  · obtain ⟨v, d, rfl, _⟩ := h
    rfl
  · obtain ⟨v, d, rfl, rd, q⟩ := h
    refine ⟨_, pss_cons (ps_if (PW.pt (pw_or (pt_not (pt_val (pe_callB call_isi (by rfl) T.isi (by decide +kernel) (pa_cons (pv 0) (pa_cons (pe_bltn (v := .ty "tuple") (by rfl) T.tuple (by decide +kernel) rfl) pa_nil)))))
        (pw_or (pt_cmpR op_ne (pe_callB call_len_seq (by rfl) T.len PySem.boot_len (pa_cons (pv 0) pa_nil)) pe_int (nomark _))
        (pw_or (pt_not (pt_val (pe_call GB hr (by rfl) gB FB.kp bB .nil pass0 (pa_cons (pe_ix ix_tup (pv 0) pe_int (fun _ _ => rfl)) pa_nil))))
        (pw_or1 (pt_not (pt_val (pe_call GB hr (by rfl) gB FB.kp bB .nil pass0 (pa_cons (pe_ix ix_tup (pv 0) pe_int (fun _ _ => rfl)) pa_nil)))))))))
        (pss_one (ps_ret pe_bl)) pss_nil)
      (pss_one (ps_ret (pe_and (pe_cmpR op_eq (pe_callB call_len_seq (by rfl) T.len PySem.boot_len (pa_cons (pe_ix ix_tup (pv 0) pe_int (fun _ _ => rfl)) pa_nil)) (pe_callB call_len_seq (by rfl) T.len PySem.boot_len (pa_cons (pe_ix ix_tup (pv 0) pe_int (fun _ _ => rfl)) pa_nil)) (nomark _))
        (pe_one (pe_cmpR op_eq (pe_callB call_len_seq (by rfl) T.len PySem.boot_len (pa_cons (pe_ix ix_tup (pe_ix ix_tup (pv 0) pe_int (fun _ _ => rfl)) pe_int (fun _ _ => rfl)) pa_nil)) (pe_callB call_len_seq (by rfl) T.len PySem.boot_len (pa_cons (pe_ix ix_tup (pe_ix ix_tup (pv 0) pe_int (fun _ _ => rfl)) pe_int (fun _ _ => rfl)) pa_nil)) (nomark _)))))), ?_⟩
    refine ⟨v, rfl, v, .ty "tuple", _, _, _, rfl, .ty _, rd.tyX, kit_tuple K d, _, rfl, ?_⟩
    cases e : tupD d with
    | none =>
      have : gameD d = false := by unfold gameD; rw [e]
      rw [this] at q
      exact iteT (iteT (q H (.refl H)))
    | some ds =>
      obtain ⟨a, xs, rfl, rfl, hx, rs⟩ := rd.tupOf e
      have hlen := RDs.length rs
      refine iteF ⟨.ref a, rfl, a, xs, rfl, .inr (SqT.of hx), rfl, _, rfl, ?_⟩
      rw [dec_int']
      by_cases h2 : (xs.length : Int) = 2
      · rw [decide_eq_true h2]
        refine iteF ?_
        have hl : xs.length = 2 := by omega
        match xs, ds, rs, hl with
        | [x1, x2], [d1, d2], .cons r1 (.cons r2 .nil), _ =>
          have eg : gameD (.tuple [d1, d2]) = (tableD d1 && tableD d2 && decide (lenD d1 = lenD d2) && decide (lenD (headD d1) = lenD (headD d2))) := rfl
          refine ⟨.ref a, rfl, a, [x1, x2], 0, x1, rfl, rfl, SqT.of hx, atI_nat (j := 0) rfl, x1, d1, rfl, r1, fun H1 S1 => ⟨_, rfl, ?_⟩⟩
          cases e4 : tableD d1 with
          | false =>
            have : gameD (.tuple [d1, d2]) = false := by rw [eg, e4]; rfl
            rw [this] at q
            exact iteT (iteT (q H1 S1))
          | true =>
            refine iteF ⟨.ref a, rfl, a, [x1, x2], 1, x2, rfl, rfl, SqT.of (S1 _ _ hx), atI_nat (j := 1) rfl, x2, d2, rfl, r2.keep S1, fun H2 S2 => ⟨_, rfl, ?_⟩⟩
            have S3 := S1.trans S2
            cases e5 : tableD d2 with
            | false =>
              have : gameD (.tuple [d1, d2]) = false := by rw [eg, e4, e5]; rfl
              rw [this] at q
              exact iteT (q H2 S3)
            | true =>
              obtain ⟨ds1, t1, l1, l1', a1, _⟩ := tableD_tup e4
              obtain ⟨ds2, t2, l2, l2', a2, _⟩ := tableD_tup e5
              obtain ⟨p1, ys1, rfl, rfl, hy1, rs1⟩ := (r1.keep S3).tupOf t1
              obtain ⟨p2, ys2, rfl, rfl, hy2, rs2⟩ := (r2.keep S3).tupOf t2
              have n1 : lenD (.tuple ds1) = (ys1.length : Int) := by show ((ds1.length : Nat) : Int) = _; rw [RDs.length rs1]
              have n2 : lenD (.tuple ds2) = (ys2.length : Int) := by show ((ds2.length : Nat) : Int) = _; rw [RDs.length rs2]
              have hx3 := S3 _ _ hx
              refine iteF ⟨.ref a, rfl, a, _, 0, .ref p1, rfl, rfl, SqT.of hx3, atI_nat (j := 0) rfl, p1, ys1, rfl, .inr (SqT.of hy1), .ref a, rfl, a, _, 1, .ref p2, rfl, rfl, SqT.of hx3, atI_nat (j := 1) rfl, p2, ys2, rfl, .inr (SqT.of hy2), rfl, _, rfl, ?_⟩
              rw [dec_int', ← n1, ← n2]
              rw [e4, e5] at eg
              refine ite2 (fun e6 => ?_) (fun e6 => ?_)
              · rw [e6] at eg
                cases rs1 with
                | nil => exact absurd l1 (by decide)
                | @cons h1 tx1 dh1 td1 rh1 rt1 =>
                  cases rs2 with
                  | nil => exact absurd l2 (by decide)
                  | @cons h2 tx2 dh2 td2 rh2 rt2 =>
                    obtain ⟨es1, u1, _⟩ := rowD_tup (List.all_eq_true.mp a1 dh1 List.mem_cons_self)
                    obtain ⟨es2, u2, _⟩ := rowD_tup (List.all_eq_true.mp a2 dh2 List.mem_cons_self)
                    obtain ⟨b1, zs1, rfl, rfl, hz1, rz1⟩ := rh1.tupOf u1
                    obtain ⟨b2, zs2, rfl, rfl, hz2, rz2⟩ := rh2.tupOf u2
                    have m1 : lenD (headD (.tuple (.tuple es1 :: td1))) = (zs1.length : Int) := by show ((es1.length : Nat) : Int) = _; rw [RDs.length rz1]
                    have m2 : lenD (headD (.tuple (.tuple es2 :: td2))) = (zs2.length : Int) := by show ((es2.length : Nat) : Int) = _; rw [RDs.length rz2]
                    refine ⟨.ref a, rfl, a, _, 0, .ref p1, rfl, rfl, SqT.of hx3, atI_nat (j := 0) rfl, p1, _, 0, .ref b1, rfl, rfl, SqT.of hy1, atI_nat (j := 0) rfl, b1, zs1, rfl, .inr (SqT.of hz1),
                      .ref a, rfl, a, _, 1, .ref p2, rfl, rfl, SqT.of hx3, atI_nat (j := 1) rfl, p2, _, 0, .ref b2, rfl, rfl, SqT.of hy2, atI_nat (j := 0) rfl, b2, zs2, rfl, .inr (SqT.of hz2), rfl, ?_⟩
                    rw [dec_int', ← m1, ← m2]
                    rw [eg] at q
                    exact q H2 S3
              · rw [Bool.eq_false_iff.mpr e6] at eg
                rw [eg] at q
                exact q H2 S3
      · rw [decide_eq_false h2]
        have : gameD (.tuple ds) = false := by
          unfold gameD
          split
          · rename_i z
            cases z
            exact absurd (by rw [hlen]; rfl) h2
          · rfl
        rw [this] at q
        exact iteT (iteT (q H (.refl H)))
end
end K01

/-! Q7: math.lcm of wide integers; _law_least, is_fraction, ratio. -/
namespace GL
open PySem PySem.Spec PyProof.Rows L2
section
variable {X : Cx}
def rLcm : List V → Hp → VK → Prop := fun vs H Q => ∃ a b : Int, vs = [.int a, .int b] ∧ a.natAbs < 2 ^ 6000 ∧ b.natAbs < 2 ^ 6000 ∧ Q (.int ((Nat.lcm a.natAbs b.natAbs : Nat) : Int)) H
theorem cr_lcm : CallR X (.builtin "math.lcm") rLcm := by
  intro pins s σ H vs us Q I r h
  obtain ⟨a, b, rfl, ha, hb, q⟩ := h
  obtain ⟨t, u, rfl⟩ := Vals.int2 r
  have h1 : (max 1 a.natAbs).log2 < 6000 := PySem.Flt.log2_lt_of (by decide) (Nat.max_lt.mpr ⟨Nat.lt_of_lt_of_le (by decide : 1 < 2 ^ 1) (Nat.pow_le_pow_right (by decide) (by decide)), ha⟩)
  have h2 : (max a.natAbs b.natAbs).log2 < 6000 := PySem.Flt.log2_lt_of (by decide) (Nat.max_lt.mpr ⟨ha, hb⟩)
  have e1 : Nat.lcm 1 a.natAbs = a.natAbs := PySem.W.mc_lcm_one _
  have h3 : ((((Nat.lcm 1 a.natAbs).lcm b.natAbs : Nat) : Int)).natAbs.log2 < bitsLine := by
    rw [e1, Int.natAbs_natCast]
    have : (a.natAbs.lcm b.natAbs).log2 < 12000 := PySem.Flt.log2_lt_of (by decide) (Nat.lt_of_le_of_lt (PySem.W.mc_lcm_le _ _) (by
      rw [show (12000 : Nat) = 6000 + 6000 from rfl, Nat.pow_add]
      exact Nat.mul_lt_mul'' ha hb))
    have e : bitsLine = 134217728 := by decide
    rw [e]; omega
  refine call_function_meets PySem.W.MGF.kind_lcm PySem.W.MGF.plain_lcm PySem.W.MGF.entry_lcm (PySem.W.MGF.args_lcm _ _) (PySem.W.mg_run_lcm a t b u (by omega) (by omega) h3).meets ?_
  rw [e1]
  exact ⟨.int _, H, I.tok _, ⟨_, rfl⟩, q⟩
end
end GL
namespace K01
open PySem PySem.Spec PyProof.Rows L2 GL
section
variable {P : Program} {w : World} {K : PySem.W.Frag} {mg : Str → Option Value} {base : Heap}

/-- the greatest common divisor -/
def gc (a b : Int) : Int := ((Nat.gcd a.natAbs b.natAbs : Nat) : Int)
theorem gc_pos {a b : Int} (h : 0 < b) : 0 < gc a b := by
  have : 0 < Nat.gcd a.natAbs b.natAbs := Nat.gcd_pos_of_pos_right _ (by omega)
  show (0 : Int) < ((_ : Nat) : Int)
  omega
theorem gc_le {a b : Int} (h : 0 < b) : gc a b ≤ b := by
  have : Nat.gcd a.natAbs b.natAbs ≤ b.natAbs := Nat.gcd_le_right _ (by omega)
  show ((_ : Nat) : Int) ≤ _
  omega
/-- a fraction in lowest terms, as a new pair -/
def spLeast : Sp := fun vs H Q _ => ∃ a b, vs = [.int a, .int b] ∧ 0 < b ∧ b.natAbs < 2 ^ 8000 ∧ ∀ p, H p = none → Q (.ref p) (upd H p (.tup [.int (a / gc a b), .int (b / gc a b)]))

theorem ok_least {f : Addr} {fd : FuncData} (F : Fun K "_law_least" "_law_least" sLLeast f fd) (ma : mg "abs" = none) (mi : mg "int" = none) :
    FnOk P w K mg base CX0 1 f fd ["above", "below"] spLeast := by
  refine F.ok scLLeast (fun vs H Q E h => ?_) (fun cdv A outer s H vs Q E hr h => ?_)
  · obtain ⟨a, b, rfl, _⟩ := h
    rfl
  · obtain ⟨a, b, rfl, hb, hw, q⟩ := h
    refine ⟨_, pss_cons (ps_par (i := 2) (j := 3) (by rfl) scLLeast.nd rfl rfl (by decide) rfl rfl
        (pa_cons (pe_callB call_abs (by rfl) ma (by decide +kernel) (pa_cons (pv 0) pa_nil)) (pa_cons (pv 1) pa_nil)) (by rfl))
      (pss_cons (ps_while PassesOwn.never (pt_cmpR op_ne (pv 3) pe_int (nomark _))
        (pss_one (ps_par (i := 2) (j := 3) (by rfl) scLLeast.nd rfl rfl (by decide) rfl rfl
          (pa_cons (pv 3) (pa_cons (pe_op op_mod (pe_callTy call_int1 (by rfl) mi (by decide +kernel) (pa_cons (pv 2) pa_nil)) (pv 3)) pa_nil)) (by rfl))))
      (pss_one (ps_ret (pe_tup (pa_cons (pe_op op_fdivW (pv 0) (pv 2)) (pa_cons (pe_op op_fdivW (pv 1) (pv 2)) pa_nil)))))), ?_⟩
    refine ⟨.int a, rfl, a, rfl, .int b, rfl, _, _, rfl, ?_⟩
    have ab : (if a < 0 then -a else a) = (a.natAbs : Int) := by split <;> omega
    rw [ab]
    refine while_by (fun σ H' => H' = H ∧ ∃ x y : Int, σ = [some (.int a), some (.int b), some (.int x), some (.int y)] ∧ 0 ≤ x ∧ 0 ≤ y ∧ Nat.gcd x.natAbs y.natAbs = Nat.gcd a.natAbs b.natAbs)
      (fun (σ : L2.St) _ => match σ[3]? with | some (some (V.int y)) => y.natAbs | _ => 0) ⟨rfl, _, _, rfl, by omega, by omega, by rw [Int.natAbs_natCast]⟩ (fun σ H1 p => ?_) (fun σ H1 R R' m h => ?_)
    · obtain ⟨rfl, x, y, rfl, hx, hy, hg⟩ := p
      refine ⟨.int y, rfl, rfl, _, rfl, ?_⟩
      rw [dec_int']
      refine ite2 (fun e => ?_) (fun e => ?_)
      · have hy0 : y ≠ 0 := fun z => by rw [decide_eq_true z] at e; cases e
        have hyp : 0 < y := by omega
        refine ⟨.int y, rfl, .int x, rfl, .inl ⟨_, rfl, .int y, rfl, _, _, rfl, rfl, hyp, _, _, rfl, ⟨rfl, _, _, rfl, hy, Int.emod_nonneg _ hy0, ?_⟩, ?_⟩⟩
        · rw [← hg]
          obtain ⟨m, rfl⟩ := Int.eq_ofNat_of_zero_le hx
          obtain ⟨n, rfl⟩ := Int.eq_ofNat_of_zero_le hy
          show Nat.gcd n (m % n) = Nat.gcd m n
          rw [Nat.gcd_comm n (m % n), Nat.gcd_comm m n]
          exact (Nat.gcd_rec n m).symm
        · have := Int.emod_lt_of_pos x hyp
          have := Int.emod_nonneg x hy0
          show (x % y).natAbs < y.natAbs
          omega
      · have hy0 : y = 0 := by
          by_cases z : y = 0
          · exact z
          · rw [decide_eq_false z] at e; exact absurd rfl e
        subst hy0
        have ex : x = gc a b := by
          show x = ((Nat.gcd a.natAbs b.natAbs : Nat) : Int)
          rw [← hg, show (0 : Int).natAbs = 0 from rfl, Nat.gcd_zero_right]
          omega
        subst ex
        have dv : ∀ i, CDivW i (gc a b) := fun i => wide_div (b := 8000) (gc_pos hb) (wide_le (by have := gc_pos (a := a) hb; omega) (gc_le hb) hw) (by decide) (by decide)
        exact ⟨.int a, rfl, .int _, rfl, _, _, rfl, rfl, dv a, .int b, rfl, .int _, rfl, _, _, rfl, rfl, dv b, by show 2 ≤ sizeLine; decide, q⟩
    · obtain ⟨x, e, s, k, ek, q⟩ := h
      exact ⟨x, e, s, k, ek, m _ _ q⟩

/-! ### fractions -/
def fracOf : PyData → Option (Int × Int)
  | .tuple [.int a, .int b] => some (a, b)
  | _ => none
def fracD (d : PyData) : Bool := match fracOf d with
  | some (a, b) => decide (1 ≤ b) && decide (gc a b = 1)
  | none => false
theorem tupN2 {d : PyData} (e : tupN 2 d = true) : ∃ a b, d = .tuple [a, b] := by
  unfold tupN at e
  split at e
  · rename_i ds h
    have hl := of_decide_eq_true e
    have hd : d = .tuple ds := by cases d <;> first | (cases h; rfl) | cases h
    subst hd
    match ds, hl with
    | [a, b], _ => exact ⟨a, b, rfl⟩
    | [], z => simp at z
    | [_], z => simp at z
    | _ :: _ :: _ :: _, z => simp only [List.length_cons] at z; omega
  · cases e
theorem fracD_not {d : PyData} (e : tupN 2 d = false) : fracD d = false := by
  have : fracOf d = none := by
    unfold fracOf
    split
    · exact Bool.noConfusion (show true = false from e)
    · rfl
  unfold fracD; rw [this]
theorem fracOf_not {x y : PyData} (h : wholeD x = false ∨ wholeD y = false) : fracD (.tuple [x, y]) = false := by
  have : fracOf (.tuple [x, y]) = none := by
    unfold fracOf
    split
    · rename_i z
      cases z
      rcases h with h | h <;> cases h
    · rfl
  unfold fracD; rw [this]
variable {fW fT : Addr} {dW dT : FuncData}
theorem ok_fraction {f : Addr} {fd : FuncData} (F : Fun K "is_fraction" "is_fraction" sIsFraction f fd) (T : KinT P w K mg base fW fT dW dT)
    (mg1 : mg "gcd" = some (.builtin "math.gcd")) :
    FnOk P w K mg base CX0 2 f fd ["value"] (spK fracD) := by
  refine F.ok scIsFraction (fun vs H Q E h => ?_) (fun cdv A outer s H vs Q E hr h => ?_)
  · obtain ⟨v, d, rfl, _⟩ := h
    rfl
  · obtain ⟨v, d, rfl, rd, q⟩ := h
    refine ⟨_, pss_cons (ps_if (pt_not (pt_val (pe_call T.GT hr (by rfl) T.gT T.FT.kp T.bT .nil pass0 (pa_cons (pv 0) (pa_cons pe_int pa_nil)))))
        (pss_one (ps_ret pe_bl)) pss_nil)
      (pss_cons (ps_asg (pv 0) (pg_tup rfl (pgs_cons (pg_name (i := 1) scIsFraction.nd rfl (Or.inl rfl)) (pgs_cons (pg_name (i := 2) scIsFraction.nd rfl (Or.inl rfl)) pgs_nil))))
      (pss_one (ps_ret (pe_and (pe_call T.GW hr (by rfl) T.gW T.FW.kp T.bW .nil pass0 (pa_cons (pv 1) pa_nil))
        (pe_and (pe_call T.GW hr (by rfl) T.gW T.FW.kp T.bW .nil pass0 (pa_cons (pv 2) pa_nil))
        (pe_and (pe_cmpR op_ge (pv 2) pe_int (nomark _))
        (pe_one (pe_cmpR op_eq (pe_callBfun cr_gcd (by rfl) mg1 (pa_cons (pv 1) (pa_cons (pv 2) pa_nil))) pe_int (nomark _))))))))), ?_⟩
    refine ⟨v, rfl, v, d, 2, rfl, rd, _, rfl, ?_⟩
    cases e : tupN 2 d with
    | false =>
      rw [fracD_not e] at q
      exact iteT (q H (.refl H))
    | true =>
      obtain ⟨d1, d2, rfl⟩ := tupN2 e
      obtain ⟨a, xs, rfl, _, hx, rs⟩ := rd.tupOf (ds := [d1, d2]) rfl
      cases rs with
      | cons r1 rs =>
        cases rs with
        | cons r2 rs =>
          cases rs
          rename_i x1 x2
          refine iteF ⟨.ref a, rfl, a, [x1, x2], rfl, SqT.of hx, rfl, x1, [x2], rfl, x2, [], rfl, rfl, ?_⟩
          refine ⟨x1, rfl, x1, d1, rfl, r1, fun H1 S1 => ⟨_, rfl, ite2 (fun e1 => ?_) (fun e1 => ?_)⟩⟩
          · obtain ⟨i, rfl, rfl⟩ := r1.whole e1
            refine ⟨x2, rfl, x2, d2, rfl, r2.keep S1, fun H2 S2 => ⟨_, rfl, ite2 (fun e2 => ?_) (fun e2 => ?_)⟩⟩
            · obtain ⟨j, rfl, rfl⟩ := r2.whole e2
              have ef : fracD (.tuple [.int i, .int j]) = (decide (1 ≤ j) && decide (gc i j = 1)) := rfl
              refine ⟨.int j, rfl, _, _, rfl, rfl, _, rfl, ite2 (fun e3 => ?_) (fun e3 => ?_)⟩
              · refine ⟨.int i, rfl, .int j, rfl, i, j, rfl, rfl, ?_⟩
                rw [dec_int']
                rw [ef, decide_eq_true (show 1 ≤ j from of_decide_eq_true e3)] at q
                exact q H2 (S1.trans S2)
              · rw [ef, decide_eq_false (show ¬ 1 ≤ j from fun z => e3 (decide_eq_true z))] at q
                exact q H2 (S1.trans S2)
            · rw [fracOf_not (.inr (Bool.eq_false_iff.mpr e2))] at q
              exact q H2 (S1.trans S2)
          · rw [fracOf_not (.inl (Bool.eq_false_iff.mpr e1))] at q
            exact q H1 S1

/-- ratio -/
theorem ok_ratio {f : Addr} {fd : FuncData} (F : Fun K "ratio" "ratio" sRatio f fd) (mg1 : mg "gcd" = some (.builtin "math.gcd")) :
    FnOk P w K mg base CX0 1 f fd ["above", "below"] spLeast := by
  refine F.ok scRatio (fun vs H Q E h => ?_) (fun cdv A outer s H vs Q E hr h => ?_)
  · obtain ⟨a, b, rfl, _⟩ := h
    rfl
  · obtain ⟨a, b, rfl, hb, hw, q⟩ := h
    refine ⟨_, pss_cons (ps_set (i := 2) scRatio.nd rfl (.inl rfl) (pe_callBfun cr_gcd (by rfl) mg1 (pa_cons (pv 0) (pa_cons (pv 1) pa_nil))))
      (pss_one (ps_ret (pe_tup (pa_cons (pe_op op_fdivW (pv 0) (pv 2)) (pa_cons (pe_op op_fdivW (pv 1) (pv 2)) pa_nil))))), ?_⟩
    have dv : ∀ i, CDivW i (gc a b) := fun i => wide_div (b := 8000) (gc_pos hb) (wide_le (by have := gc_pos (a := a) hb; omega) (gc_le hb) hw) (by decide) (by decide)
    exact ⟨.int a, rfl, .int b, rfl, a, b, rfl, .int a, rfl, .int (gc a b), rfl, _, _, rfl, rfl, dv a, .int b, rfl, .int (gc a b), rfl, _, _, rfl, rfl, dv b, by show 2 ≤ sizeLine; decide, q⟩
end
end K01

/-! Q8: scaled, sum_of. -/
namespace K01
open PySem PySem.Spec PyProof.Rows L2 GL

/-- the least common multiple of what fractions stand over -/
def lci (a b : Int) : Int := ((Nat.lcm a.natAbs b.natAbs : Nat) : Int)
def LC (ps : List (Int × Int)) : Int := ps.foldl (fun acc p => lci acc p.2) 1
def nums (L : Int) (ps : List (Int × Int)) : List Int := ps.map fun p => p.1 * (L / p.2)
def prD (p : Int × Int) : PyData := .tuple [.int p.1, .int p.2]
/-- fractions as they come -/
def Frs (ps : List (Int × Int)) : Prop := ps.length ≤ 5 ∧ ∀ p ∈ ps, 1 ≤ p.2 ∧ p.1.natAbs < 2 ^ 1100 ∧ p.2.natAbs < 2 ^ 1100
theorem LC_snoc (ps : List (Int × Int)) (p : Int × Int) : LC (ps ++ [p]) = lci (LC ps) p.2 := by
  unfold LC; rw [List.foldl_append]; rfl
theorem lci_pos {a b : Int} (ha : 0 < a) (hb : 0 < b) : 0 < lci a b := by
  have : 0 < Nat.lcm a.natAbs b.natAbs := Nat.lcm_pos (by omega) (by omega)
  show (0 : Int) < ((_ : Nat) : Int)
  omega
theorem lci_left (a b : Int) : a ∣ lci a b := Int.natAbs_dvd.mp (Int.natCast_dvd_natCast.mpr (Nat.dvd_lcm_left _ _))
theorem lci_right (a b : Int) : b ∣ lci a b := Int.natAbs_dvd.mp (Int.natCast_dvd_natCast.mpr (Nat.dvd_lcm_right _ _))
theorem LC_take : ∀ (ps : List (Int × Int)), (∀ p ∈ ps, 1 ≤ p.2 ∧ p.1.natAbs < 2 ^ 1100 ∧ p.2.natAbs < 2 ^ 1100) → ∀ i, i ≤ ps.length →
    0 < LC (ps.take i) ∧ (LC (ps.take i)).natAbs < 2 ^ (1 + 1100 * i) := by
  intro ps h i
  induction i with
  | zero => intro _; exact ⟨by show (0 : Int) < 1; decide, by show (1 : Int).natAbs < 2 ^ (1 + 1100 * 0); decide⟩
  | succ i ih =>
    intro hi
    obtain ⟨h1, h2⟩ := ih (by omega)
    have hlt : i < ps.length := hi
    rw [List.take_add_one, List.getElem?_eq_getElem hlt]
    show 0 < LC (ps.take i ++ [ps[i]]) ∧ (LC (ps.take i ++ [ps[i]])).natAbs < _
    rw [LC_snoc]
    obtain ⟨p1, p2, p3⟩ := h _ (List.getElem_mem hlt)
    refine ⟨lci_pos h1 (by omega), ?_⟩
    show ((Nat.lcm _ _ : Nat) : Int).natAbs < _
    rw [Int.natAbs_natCast]
    refine Nat.lt_of_le_of_lt (PySem.W.mc_lcm_le _ _) ?_
    rw [show 1 + 1100 * (i + 1) = (1 + 1100 * i) + 1100 by omega, Nat.pow_add]
    exact Nat.mul_lt_mul'' h2 p3
theorem LC_full {ps : List (Int × Int)} (h : Frs ps) : 0 < LC ps ∧ (LC ps).natAbs < 2 ^ 6000 := by
  have := LC_take ps h.2 ps.length (Nat.le_refl _)
  rw [List.take_length] at this
  exact ⟨this.1, Nat.lt_of_lt_of_le this.2 (Nat.pow_le_pow_right (by decide) (by have := h.1; omega))⟩
section
variable {P : Program} {w : World} {K : PySem.W.Frag} {mg : Str → Option Value} {base : Heap}
/-- fractions in the heap -/
theorem frs_at {H : Hp} {xs : List V} {ps : List (Int × Int)} {i : Nat} {x : V} (rs : RDs H xs (ps.map prD)) (h : xs[i]? = some x) :
    ∃ p a, ps[i]? = some p ∧ x = .ref a ∧ H a = some (.tup [.int p.1, .int p.2]) := by
  obtain ⟨d, ed, r⟩ := RDs.at rs h
  rw [List.getElem?_map] at ed
  cases e : ps[i]? with
  | none => rw [e] at ed; cases ed
  | some p =>
    rw [e] at ed
    cases ed
    obtain ⟨a, ys, rfl, _, hy, ry⟩ := r.tupOf (ds := [.int p.1, .int p.2]) rfl
    cases ry with
    | cons r1 ry =>
      cases ry with
      | cons r2 ry =>
        cases ry
        cases r1
        cases r2
        exact ⟨p, a, rfl, rfl, hy⟩

def spScaled : Sp := fun vs H Q _ => ∃ v ps, vs = [v] ∧ RD H v (.tuple (ps.map prD)) ∧ Frs ps ∧ ∀ H' l t, Same H H' →
  H' l = some (.lst ((nums (LC ps) ps).map V.int)) → H' t = some (.tup [.ref l, .int (LC ps)]) → Q (.ref t) H'
theorem ok_scaled {f : Addr} {fd : FuncData} (F : Fun K "scaled" "scaled" sScaled f fd) (mg1 : mg "lcm" = some (.builtin "math.lcm")) :
    FnOk P w K mg base CX0 1 f fd ["parts"] spScaled := by
  refine F.ok scScaled (fun vs H Q E h => ?_) (fun cdv A outer s H vs Q E hr h => ?_)
  · obtain ⟨v, d, rfl, _⟩ := h
    rfl
  · obtain ⟨v, ps, rfl, rd, fr, q⟩ := h
    refine ⟨_, pss_cons (ps_set (i := 1) scScaled.nd rfl (.inr rfl) pe_int)
      (pss_cons (ps_for PassesOwn.never rfl (pi_tup (pv 0)) (pg_tup rfl (pgs_cons (pg_name (i := 2) scScaled.nd rfl (Or.inl rfl)) (pgs_cons (pg_name (i := 3) scScaled.nd rfl (Or.inl rfl)) pgs_nil)))
        (pss_one (ps_set (i := 1) scScaled.nd rfl (.inr rfl) (pe_callBfun cr_lcm (by rfl) mg1 (pa_cons (pv 1) (pa_cons (pv 3) pa_nil))))))
      (pss_one (ps_ret (pe_tup (pa_cons
        (pe_lc (own := [("above", 4), ("part_below", 3)]) (g := gTup K 2 (gCons (gName 4) (gCons (gName 3) gNil))) (tt := tYes) rfl scScaled.nd (pi_tup (pv 0))
          (blkOk_by (own := [("above", 4), ("part_below", 3)]) (N := ["parts", "below", "_", "part_below", "above"]) (sc := defScope sScaled) (by decide +kernel))
          (fun _ _ _ _ _ => pg_tup rfl (pgs_cons (pg_name (i := 4) scScaled.nd rfl (Or.inl rfl)) (pgs_cons (pg_name (i := 3) scScaled.nd rfl (Or.inl rfl)) pgs_nil)))
          (fun _ _ _ _ _ => pts_nil)
          (fun _ _ _ _ _ => pe_op op_mulW (pv 4) (pe_op op_fdivW (pv 1) (pv 3)))) (pa_cons (pv 1) pa_nil)))))), ?_⟩
    obtain ⟨a, xs, rfl, _, hx, rs⟩ := rd.tupOf (ds := ps.map prD) rfl
    have hlen : xs.length = ps.length := by rw [RDs.length rs, List.length_map]
    obtain ⟨L1, L2⟩ := LC_full fr
    refine ⟨.ref a, rfl, a, rfl, ⟨xs, SqT.of hx⟩, for_tup (xs := xs) (fun i σ H' => H' = H ∧ ∃ y2 y3, σ = [some (.ref a), some (.int (LC (ps.take i))), y2, y3, none])
      ⟨rfl, none, none, rfl⟩ (fun i σ H1 _ p => by rw [p.1]; exact SqT.of hx) (fun i x σ H1 hi p => ?_) (fun σ H1 p => ?_)⟩
    · obtain ⟨rfl, y2, y3, rfl⟩ := p
      obtain ⟨p, b, ep, rfl, hb⟩ := frs_at rs hi
      have hlt : i < ps.length := (List.getElem?_eq_some_iff.mp ep).1
      obtain ⟨l1, l2⟩ := LC_take ps fr.2 i (by omega)
      obtain ⟨p1, p2, p3⟩ := fr.2 p (List.mem_of_getElem? ep)
      refine ⟨b, _, rfl, SqT.of hb, rfl, _, _, rfl, _, _, rfl, rfl, ?_⟩
      refine ⟨.int (LC (ps.take i)), rfl, .int p.2, rfl, _, _, rfl, ?_, ?_, rfl, some (.int p.1), some (.int p.2), ?_⟩
      · exact Nat.lt_of_lt_of_le l2 (Nat.pow_le_pow_right (by decide) (by have := fr.1; omega))
      · exact Nat.lt_of_lt_of_le p3 (Nat.pow_le_pow_right (by decide) (by decide))
      · rw [List.take_add_one, ep]
        show _ = [some (V.ref a), some (V.int (LC (ps.take i ++ [p]))), _, _, none]
        rw [LC_snoc]; rfl
    · obtain ⟨rfl, y2, y3, rfl⟩ := p
      rw [hlen, List.take_length]
      refine ⟨.ref a, rfl, a, rfl, ⟨xs, SqT.of hx⟩, fun D hD => lc_tup (xs := xs) (fun i H' => Same H1 H' ∧ H' D = some (.lst ((nums (LC ps) (ps.take i)).map V.int)))
        ⟨fun b o e => by rw [upd_ne (ne_of_none e hD)]; exact e, upd_same⟩ (fun i H' _ p => SqT.of (p.1 _ _ hx)) (fun i x H2 hi p => ?_) (fun H2 p => ?_)⟩
      · obtain ⟨S, hDl⟩ := p
        obtain ⟨p, b, ep, rfl, hb⟩ := frs_at rs hi
        have hlt : i < ps.length := (List.getElem?_eq_some_iff.mp ep).1
        obtain ⟨p1, p2, p3⟩ := fr.2 p (List.mem_of_getElem? ep)
        have hdv : p.2 ≤ LC ps → LC ps / p.2 ≤ LC ps := fun _ => Int.ediv_le_self _ (by omega)
        have hq0 : 0 ≤ LC ps / p.2 := Int.ediv_nonneg (by omega) (by omega)
        have hq1 : (LC ps / p.2).natAbs < 2 ^ 6000 := wide_le hq0 (Int.ediv_le_self _ (by omega)) L2
        refine ⟨b, _, rfl, SqT.of (S _ _ hb), rfl, _, _, rfl, _, _, rfl, rfl, rfl, ?_⟩
        refine ⟨.int p.1, rfl, .int (LC ps), rfl, .int p.2, rfl, _, _, rfl, rfl, wide_div (b := 1100) (by omega) p3 (by decide) (by decide), _, _, rfl, rfl, wide_mul p2 hq1 (by decide) (by decide) (by decide), ?_⟩
        refine ⟨_, hDl, ?_, fun c o e => ?_, ?_⟩
        · simp only [nums, List.length_map, List.length_take]
          have : ps.length ≤ 5 := fr.1
          rw [sizeLine_eq]
          omega
        · rw [upd_ne (ne_of_none e hD)]; exact S _ _ e
        · rw [upd_same, List.take_add_one, ep]
          simp [nums]
      · obtain ⟨S, hDl⟩ := p
        rw [hlen, List.take_length] at hDl
        refine ⟨.int (LC ps), rfl, by show 2 ≤ sizeLine; decide, fun t ht => ?_⟩
        exact q _ D t (S.trans (same_new ht)) (by rw [upd_ne (fun z => by rw [z, ht] at hDl; cases hDl)]; exact hDl) upd_same
end
end K01

/-! Q9: sum_of, are_chances. -/
namespace K01
open PySem PySem.Spec PyProof.Rows L2 GL

/-- the sum of fractions over the product of what they stand over -/
def AB (ps : List (Int × Int)) : Int × Int := ps.foldl (fun s p => (s.1 * p.2 + p.1 * s.2, s.2 * p.2)) (0, 1)
theorem AB_snoc (ps : List (Int × Int)) (p : Int × Int) : AB (ps ++ [p]) = ((AB ps).1 * p.2 + p.1 * (AB ps).2, (AB ps).2 * p.2) := by
  unfold AB; rw [List.foldl_append]; rfl
theorem sum_snoc (l : List Int) (x : Int) : (l ++ [x]).sum = l.sum + x := by
  rw [List.sum_append]; simp
theorem LC_dvd : ∀ (n : Nat) (ps : List (Int × Int)), ps.length = n → ∀ p ∈ ps, p.2 ∣ LC ps := by
  intro n
  induction n with
  | zero => intro ps h p hp; rw [List.length_eq_zero_iff.mp h] at hp; cases hp
  | succ n ih =>
    intro ps h p hp
    obtain ⟨qs, q, rfl⟩ : ∃ qs q, ps = qs ++ [q] := by
      have hne : ps ≠ [] := fun z => by rw [z] at h; cases h
      exact ⟨ps.dropLast, ps.getLast hne, (List.dropLast_concat_getLast hne).symm⟩
    rw [LC_snoc]
    rcases List.mem_append.mp hp with h1 | h1
    · exact Int.dvd_trans (ih qs (by simpa using h) p h1) (lci_left _ _)
    · rcases List.mem_singleton.mp h1 with rfl
      exact lci_right _ _
theorem sum_AB (L : Int) : ∀ (n : Nat) (ps : List (Int × Int)), ps.length = n → (∀ p ∈ ps, p.2 ∣ L) → (nums L ps).sum * (AB ps).2 = (AB ps).1 * L := by
  intro n
  induction n with
  | zero => intro ps h _; rw [List.length_eq_zero_iff.mp h]; show (0 : Int) * 1 = 0 * L; omega
  | succ n ih =>
    intro ps h hd
    obtain ⟨qs, q, rfl⟩ : ∃ qs q, ps = qs ++ [q] := by
      have hne : ps ≠ [] := fun z => by rw [z] at h; cases h
      exact ⟨ps.dropLast, ps.getLast hne, (List.dropLast_concat_getLast hne).symm⟩
    have i := ih qs (by simpa using h) fun p hp => hd p (List.mem_append_left _ hp)
    have e : nums L (qs ++ [q]) = nums L qs ++ [q.1 * (L / q.2)] := by unfold nums; rw [List.map_append]; rfl
    rw [e, sum_snoc, AB_snoc]
    obtain ⟨k, hk⟩ := hd q (List.mem_append_right _ List.mem_cons_self)
    show ((nums L qs).sum + q.1 * (L / q.2)) * ((AB qs).2 * q.2) = ((AB qs).1 * q.2 + q.1 * (AB qs).2) * L
    have hm : (L / q.2) * q.2 = L := Int.ediv_mul_cancel ⟨k, hk⟩
    calc ((nums L qs).sum + q.1 * (L / q.2)) * ((AB qs).2 * q.2)
        = (nums L qs).sum * (AB qs).2 * q.2 + q.1 * (AB qs).2 * ((L / q.2) * q.2) := by
          rw [Int.add_mul]
          congr 1
          · rw [Int.mul_assoc]
          · rw [Int.mul_assoc, Int.mul_assoc]
            congr 1
            rw [← Int.mul_assoc, Int.mul_comm (L / q.2) (AB qs).2, Int.mul_assoc]
      _ = (AB qs).1 * L * q.2 + q.1 * (AB qs).2 * L := by rw [i, hm]
      _ = _ := by rw [Int.add_mul, Int.mul_assoc, Int.mul_comm L, ← Int.mul_assoc]
theorem AB_pos : ∀ (n : Nat) (ps : List (Int × Int)), ps.length = n → (∀ p ∈ ps, 1 ≤ p.2) → 0 < (AB ps).2 := by
  intro n
  induction n with
  | zero => intro ps h _; rw [List.length_eq_zero_iff.mp h]; exact (by decide : (0 : Int) < 1)
  | succ n ih =>
    intro ps h hd
    obtain ⟨qs, q, rfl⟩ : ∃ qs q, ps = qs ++ [q] := by
      have hne : ps ≠ [] := fun z => by rw [z] at h; cases h
      exact ⟨ps.dropLast, ps.getLast hne, (List.dropLast_concat_getLast hne).symm⟩
    rw [AB_snoc]
    have h1 := ih qs (by simpa using h) fun p hp => hd p (List.mem_append_left _ hp)
    have h2 := hd q (List.mem_append_right _ List.mem_cons_self)
    exact Int.mul_pos h1 (by omega)
/-- the sum is 1 -/
theorem sum_one {ps : List (Int × Int)} (h : Frs ps) : (nums (LC ps) ps).sum = LC ps ↔ (AB ps).1 = (AB ps).2 := by
  have e := sum_AB (LC ps) _ ps rfl fun p hp => LC_dvd _ ps rfl p hp
  have h1 := (LC_full h).1
  have h2 := AB_pos _ ps rfl fun p hp => (h.2 p hp).1
  refine ⟨fun z => ?_, fun z => ?_⟩
  · rw [z, Int.mul_comm] at e
    exact (Int.eq_of_mul_eq_mul_right (by omega) e).symm
  · rw [z, Int.mul_comm (AB ps).2] at e
    exact Int.eq_of_mul_eq_mul_right (by omega) e
theorem low_one {S L : Int} (h : 0 < L) : (S / gc S L = 1 ∧ L / gc S L = 1) ↔ S = L := by
  have g1 : gc S L ∣ S := Int.natAbs_dvd_natAbs.mp (by rw [show (gc S L).natAbs = Nat.gcd S.natAbs L.natAbs from Int.natAbs_natCast _]; exact Nat.gcd_dvd_left _ _)
  have g2 : gc S L ∣ L := Int.natAbs_dvd_natAbs.mp (by rw [show (gc S L).natAbs = Nat.gcd S.natAbs L.natAbs from Int.natAbs_natCast _]; exact Nat.gcd_dvd_right _ _)
  refine ⟨fun ⟨a, b⟩ => ?_, fun e => ?_⟩
  · have h1 := Int.ediv_mul_cancel g1
    have h2 := Int.ediv_mul_cancel g2
    rw [a] at h1
    rw [b] at h2
    omega
  · subst e
    have : gc S S = S := by show ((Nat.gcd S.natAbs S.natAbs : Nat) : Int) = S; rw [Nat.gcd_self]; omega
    rw [this, Int.ediv_self (by omega)]
    exact ⟨rfl, rfl⟩

section
variable {P : Program} {w : World} {K : PySem.W.Frag} {mg : Str → Option Value} {base : Heap}
variable {fW fT fS fR fF fU : Addr} {dW dT dS dR dF dU : FuncData}

def spSumOf : Sp := fun vs H Q _ => ∃ v ps, vs = [v] ∧ RD H v (.tuple (ps.map prD)) ∧ Frs ps ∧ ∀ H' t x y, Same H H' →
  H' t = some (.tup [.int x, .int y]) → ((x = 1 ∧ y = 1) ↔ (AB ps).1 = (AB ps).2) → Q (.ref t) H'
theorem ok_sumof {f : Addr} {fd : FuncData} (F : Fun K "sum_of" "sum_of" sSumOf f fd) (ms : mg "sum" = none)
    (FS : Fun K "scaled" "scaled" sScaled fS dS) (bS : Binds K dS ["parts"] []) (gS : mg "scaled" = some (.ref fS)) (GS : FnOk P w K mg base CX0 1 fS dS ["parts"] spScaled)
    (FR : Fun K "ratio" "ratio" sRatio fR dR) (bR : Binds K dR ["above", "below"] []) (gR : mg "ratio" = some (.ref fR)) (GR : FnOk P w K mg base CX0 1 fR dR ["above", "below"] spLeast) :
    FnOk P w K mg base CX0 2 f fd ["parts"] spSumOf := by
  refine F.ok scSumOf (fun vs H Q E h => ?_) (fun cdv A outer s H vs Q E hr h => ?_)
  · obtain ⟨v, d, rfl, _⟩ := h
    rfl
  · obtain ⟨v, ps, rfl, rd, fr, q⟩ := h
    refine ⟨_, pss_cons (ps_asg (pe_call GS hr (by rfl) gS FS.kp bS .nil pass0 (pa_cons (pv 0) pa_nil)) (pg_tup rfl (pgs_cons (pg_name (i := 1) scSumOf.nd rfl (Or.inl rfl)) (pgs_cons (pg_name (i := 2) scSumOf.nd rfl (Or.inl rfl)) pgs_nil))))
      (pss_one (ps_ret (pe_call GR hr (by rfl) gR FR.kp bR .nil pass0 (pa_cons (pe_callB (cr_sum rfl) (by rfl) ms (by decide +kernel) (pa_cons (pv 1) pa_nil)) (pa_cons (pv 2) pa_nil))))), ?_⟩
    obtain ⟨L1, L2⟩ := LC_full fr
    refine ⟨v, rfl, v, ps, rfl, rd, fr, fun H1 l t S hl ht => ?_⟩
    refine ⟨t, _, rfl, SqT.of ht, rfl, _, _, rfl, _, _, rfl, rfl, ?_⟩
    refine ⟨.ref l, rfl, l, nums (LC ps) ps, rfl, SqL.of hl, .int (LC ps), rfl, _, LC ps, rfl, L1, Nat.lt_of_lt_of_le L2 (Nat.pow_le_pow_right (by decide) (by decide)), fun p hp => ?_⟩
    exact q _ p _ _ (S.trans (same_new hp)) upd_same ((low_one L1).trans (sum_one fr))

/-- chances -/
def chanceD (d : PyData) : Bool := fracD d && (match fracOf d with | some (a, _) => decide (0 ≤ a) | none => false)
def frs (ds : List PyData) : List (Int × Int) := ds.map fun d => (fracOf d).getD (0, 1)
def mixD (n : Int) (d : PyData) : Bool := match tupD d with
  | some ds => decide ((ds.length : Int) = n) && ds.all chanceD && decide ((AB (frs ds)).1 = (AB (frs ds)).2)
  | none => false
/-- the parts are no greater than that -/
def Bdd (d : PyData) : Prop := ∀ ds, tupD d = some ds → ∀ x ∈ ds, ∀ a b, fracOf x = some (a, b) → a.natAbs < 2 ^ 1100 ∧ b.natAbs < 2 ^ 1100
theorem chance_of {d : PyData} (h : chanceD d = true) : ∃ a b, d = .tuple [.int a, .int b] ∧ fracOf d = some (a, b) ∧ 0 ≤ a ∧ 1 ≤ b ∧ gc a b = 1 := by
  unfold chanceD at h
  rw [Bool.and_eq_true] at h
  cases e : fracOf d with
  | none => rw [e] at h; cases h.2
  | some p =>
    obtain ⟨a, b⟩ := p
    rw [e] at h
    have h1 := h.1
    unfold fracD at h1
    rw [e] at h1
    have h2 := (Bool.and_eq_true _ _).mp h1
    have hd : d = .tuple [.int a, .int b] := by
      unfold fracOf at e
      split at e
      · cases e; rfl
      · cases e
    exact ⟨a, b, hd, rfl, of_decide_eq_true h.2, of_decide_eq_true h2.1, of_decide_eq_true h2.2⟩
theorem frs_map : ∀ {ds : List PyData}, ds.all chanceD = true → ds = (frs ds).map prD
  | [], _ => rfl
  | d :: ds, h => by
    rw [List.all_cons, Bool.and_eq_true] at h
    obtain ⟨a, b, e, f, _⟩ := chance_of h.1
    show d :: ds = prD ((fracOf d).getD (0, 1)) :: (frs ds).map prD
    rw [f, ← frs_map h.2, e]; rfl
theorem frs_ok {ds : List PyData} (h : ds.all chanceD = true) (hl : ds.length ≤ 5) (hb : Bdd (.tuple ds)) : Frs (frs ds) := by
  refine ⟨by unfold frs; rw [List.length_map]; exact hl, fun p hp => ?_⟩
  obtain ⟨d, hd, rfl⟩ := List.mem_map.mp hp
  obtain ⟨a, b, e, f, h1, h2, _⟩ := chance_of (List.all_eq_true.mp h d hd)
  rw [f]
  exact ⟨h2, hb ds rfl d hd a b f⟩

def spChances : Sp := fun vs H Q _ => ∃ v d n, vs = [v, .int n] ∧ RD H v d ∧ Bdd d ∧ n ≤ 5 ∧ ∀ H', Same H H' → Q (.bl (mixD n d)) H'
theorem ok_chances {f : Addr} {fd : FuncData} (F : Fun K "are_chances" "are_chances" sAreChances f fd) (T : KinT P w K mg base fW fT dW dT)
    (FF : Fun K "is_fraction" "is_fraction" sIsFraction fF dF) (bF : Binds K dF ["value"] []) (gF : mg "is_fraction" = some (.ref fF)) (GF : FnOk P w K mg base CX0 2 fF dF ["value"] (spK fracD))
    (FU : Fun K "sum_of" "sum_of" sSumOf fU dU) (bU : Binds K dU ["parts"] []) (gU : mg "sum_of" = some (.ref fU)) (GU : FnOk P w K mg base CX0 2 fU dU ["parts"] spSumOf) :
    FnOk P w K mg base CX0 3 f fd ["value", "many"] spChances := by
  refine F.ok scAreChances (fun vs H Q E h => ?_) (fun cdv A outer s H vs Q E hr h => ?_)
  · obtain ⟨v, d, n, rfl, _⟩ := h
    rfl
  · obtain ⟨v, d, n, rfl, rd, bd, hn, q⟩ := h
    have hr1 := hr.mono (show 1 ≤ 2 by omega)
    have hu : (A.deeper (envOfC "are_chances" (defScope sAreChances) s.heap.objs.size f cdv)).units + 64 < cLine := by
      have := hr.un; omega
    refine ⟨_, pss_cons (ps_if (pt_not (pt_val (pe_call T.GT hr1 (by rfl) T.gT T.FT.kp T.bT .nil pass0 (pa_cons (pv 0) (pa_cons (pv 1) pa_nil)))))
        (pss_one (ps_ret pe_bl)) pss_nil)
      (pss_cons (ps_if (pt_not (pt_val (pe_callB (cr_all rfl) (by rfl) T.all (by decide +kernel) (pa_cons
        (pe_lc (own := [("part", 2)]) (g := gName 2) (tt := tYes) rfl scAreChances.nd (pi_tup (pv 0))
          (blkOk_by (own := [("part", 2)]) (N := ["value", "many", "part"]) (sc := defScope sAreChances) (by decide +kernel))
          (fun _ _ _ _ _ => pg_name (i := 2) scAreChances.nd rfl (Or.inl rfl)) (fun _ _ _ _ _ => pts_nil)
          (fun _ _ _ _ _ => pe_and (pe_call GF hr (by rfl) gF FF.kp bF .nil pass0 (pa_cons (pv 2) pa_nil))
            (pe_one (pe_cmpR op_ge (pe_ix (show IxR _ (rIxT K) from ix_tup) (pv 2) pe_int (fun _ _ => rfl)) pe_int (nomark _))))) pa_nil))))
        (pss_one (ps_ret pe_bl)) pss_nil)
      (pss_one (ps_ret (pe_cmpR (op_eqD hu) (pe_call GU hr (by rfl) gU FU.kp bU .nil pass0 (pa_cons (pv 0) pa_nil)) (pe_tup (pa_cons pe_int (pa_cons pe_int pa_nil))) (nomark _))))), ?_⟩
    refine ⟨v, rfl, .int n, rfl, v, d, n, rfl, rd, _, rfl, ?_⟩
    cases e : tupN n d with
    | false =>
      have : mixD n d = false := by
        unfold mixD
        unfold tupN at e
        split
        · rename_i ds h
          rw [h] at e
          rw [show decide ((ds.length : Int) = n) = false from e]; rfl
        · rfl
      rw [this] at q
      exact iteT (q H (.refl H))
    | true =>
      obtain ⟨ds, e2, e3⟩ : ∃ ds, tupD d = some ds ∧ (ds.length : Int) = n := by
        unfold tupN at e
        split at e
        · rename_i ds h
          exact ⟨ds, h, of_decide_eq_true e⟩
        · cases e
      obtain ⟨a, xs, rfl, rfl, hx, rs⟩ := rd.tupOf e2
      have hlen := RDs.length rs
      have em : mixD n (.tuple ds) = (ds.all chanceD && decide ((AB (frs ds)).1 = (AB (frs ds)).2)) := by
        show (decide ((ds.length : Int) = n) && ds.all chanceD && _) = _
        rw [decide_eq_true e3]; rfl
      refine iteF ⟨.ref a, rfl, a, rfl, ⟨xs, SqT.of hx⟩, fun D hD => lc_ask chanceD (fun _ => rfl) hx rs (by rw [sizeLine_eq]; omega) hD (fun x d H1 Q1 r hm S q1 => ?_) (fun H1 S hl => ?_)⟩
      · refine ⟨x, rfl, x, d, rfl, r, fun H2 S2 => ⟨_, rfl, ite2 (fun e4 => ?_) (fun e4 => ?_)⟩⟩
        · obtain ⟨i, j, e5⟩ : ∃ i j, fracOf d = some (i, j) := by
            cases e5 : fracOf d with
            | none => unfold fracD at e4; rw [e5] at e4; cases e4
            | some p => exact ⟨p.1, p.2, rfl⟩
          have hd : d = .tuple [.int i, .int j] := by
            unfold fracOf at e5
            split at e5
            · cases e5; rfl
            · cases e5
          have e6 : chanceD d = decide (0 ≤ i) := by unfold chanceD; rw [e4, e5]; rfl
          subst hd
          obtain ⟨b, ys, rfl, _, hy, ry⟩ := (r.keep S2).tupOf (ds := [.int i, .int j]) rfl
          cases ry with
          | cons r1 ry =>
            cases r1
            rw [e6] at q1
            exact ⟨.ref b, rfl, b, _, 0, .int i, rfl, rfl, SqT.of hy, atI_nat (j := 0) rfl, _, _, rfl, rfl, q1 H2 S2⟩
        · have : chanceD d = false := by unfold chanceD; rw [Bool.eq_false_iff.mpr e4]; rfl
          rw [this] at q1
          exact q1 H2 S2
      · refine ⟨D, _, rfl, SqL.of hl, _, rfl, ?_⟩
        rw [all_id]
        cases e4 : ds.all chanceD with
        | false =>
          rw [em, e4] at q
          exact iteT (q H1 S)
        | true =>
          have fr := frs_ok e4 (by omega) bd
          refine iteF ⟨.ref a, rfl, .ref a, frs ds, rfl, ?_, fr, fun H2 t x y S2 ht hxy => ?_⟩
          · rw [← frs_map e4]; exact rd.keep S
          · refine ⟨by show 2 ≤ sizeLine; decide, fun p hp => ?_⟩
            have ht2 : upd H2 p (.tup [.int 1, .int 1]) t = some (.tup [.int x, .int y]) := by
              rw [upd_ne (fun z => by rw [z, hp] at ht; cases ht)]; exact ht
            refine ⟨.tuple [.int x, .int y], .tuple [.int 1, .int 1], .tup (SqT.of ht2) (.cons (.int _) (.cons (.int _) .nil)), .tup (SqT.of upd_same) (.cons (.int _) (.cons (.int _) .nil)), rfl, rfl, ?_⟩
            have ev : PyData.eqv (.tuple [.int x, .int y]) (.tuple [.int 1, .int 1]) = mixD n (.tuple ds) := by
              rw [em, e4]
              show (x == 1 && (y == 1 && true)) = (true && decide ((AB (frs ds)).1 = (AB (frs ds)).2))
              rw [Bool.eq_iff_iff]
              simp only [Bool.and_true, Bool.true_and, Bool.and_eq_true, beq_iff_eq, decide_eq_true_eq]
              exact hxy
            rw [ev]
            exact q _ (S.trans (S2.trans (same_new hp)))
end
end K01

/-! Q10: size, side_fits, mix_fits, choice_fits, lot_fits. -/
namespace K01
open PySem PySem.Spec PyProof.Rows L2 GL

/-- how many choices a side has -/
def sizeD (g : PyData) (s : Int) : Int := if s = 0 then lenD (headD g) else lenD (headD (headD g))
/-- a game's first table in the heap -/
theorem game_at {H : Hp} {v : V} {g : PyData} (r : RD H v g) (h : gameD g = true) : ∃ a p q c ys zs rest, v = .ref a ∧ H a = some (.tup [.ref p, q]) ∧
    H p = some (.tup (.ref c :: rest)) ∧ ys = V.ref c :: rest ∧ H c = some (.tup zs) ∧ (ys.length : Int) = sizeD g 0 ∧ (∀ s, s ≠ 0 → (zs.length : Int) = sizeD g s) ∧
    1 ≤ sizeD g 0 ∧ sizeD g 0 ≤ 5 ∧ 1 ≤ sizeD g 1 ∧ sizeD g 1 ≤ 5 := by
  have e : ∃ d1 d2, tupD g = some [d1, d2] ∧ tableD d1 = true := by
    unfold gameD at h
    split at h
    · rename_i d1 d2 z
      rw [Bool.and_eq_true, Bool.and_eq_true, Bool.and_eq_true] at h
      exact ⟨d1, d2, z, h.1.1.1⟩
    · cases h
  obtain ⟨d1, d2, e1, e2⟩ := e
  obtain ⟨a, xs, rfl, rfl, hx, rs⟩ := r.tupOf e1
  obtain ⟨ds, t1, l1, l2, a1, _⟩ := tableD_tup e2
  cases rs with
  | cons r1 rs =>
    cases rs with
    | cons r2 rs =>
      cases rs
      obtain ⟨p, ys, rfl, rfl, hy, rs1⟩ := r1.tupOf t1
      cases rs1 with
      | nil => exact absurd l1 (by decide)
      | @cons h1 tx1 dh1 td1 rh1 rt1 =>
        obtain ⟨es, u1, m1, m2, _⟩ := rowD_tup (List.all_eq_true.mp a1 dh1 List.mem_cons_self)
        obtain ⟨c, zs, rfl, rfl, hz, rz⟩ := rh1.tupOf u1
        have n1 : sizeD (.tuple [.tuple (.tuple es :: td1), d2]) 0 = (((.tuple es :: td1 : List PyData).length : Nat) : Int) := rfl
        have n2 : ∀ s, s ≠ 0 → sizeD (.tuple [.tuple (.tuple es :: td1), d2]) s = ((es.length : Nat) : Int) := fun s hs => if_neg hs
        refine ⟨a, p, _, c, _, zs, _, rfl, hx, hy, rfl, hz, ?_, fun s hs => ?_, ?_, ?_, ?_, ?_⟩
        · rw [n1, List.length_cons, List.length_cons, RDs.length rt1]
        · rw [n2 s hs, RDs.length rz]
        · rw [n1]; omega
        · rw [n1]; omega
        · rw [n2 1 (by decide)]; omega
        · rw [n2 1 (by decide)]; omega
theorem size_le {H : Hp} {v : V} {g : PyData} (r : RD H v g) (h : gameD g = true) {s : Int} (hs : s = 0 ∨ s = 1) : 1 ≤ sizeD g s ∧ sizeD g s ≤ 5 := by
  obtain ⟨_, _, _, _, _, _, _, _, _, _, _, _, _, _, h1, h2, h3, h4⟩ := game_at r h
  rcases hs with rfl | rfl
  · exact ⟨h1, h2⟩
  · exact ⟨h3, h4⟩
section
variable {P : Program} {w : World} {K : PySem.W.Frag} {mg : Str → Option Value} {base : Heap}
variable {fW fT fS fC fX : Addr} {dW dT dS dC dX : FuncData}

def spSize : Sp := fun vs H Q _ => ∃ v g s, vs = [v, .int s] ∧ RD H v g ∧ gameD g = true ∧ Q (.int (sizeD g s)) H
theorem ok_size {f : Addr} {fd : FuncData} (F : Fun K "size" "size" sSize f fd) (ml : mg "len" = none) :
    FnOk P w K mg base CX0 1 f fd ["game", "side"] spSize := by
  refine F.ok scSize (fun vs H Q E h => ?_) (fun cdv A outer s H vs Q E hr h => ?_)
  · obtain ⟨v, d, n, rfl, _⟩ := h
    rfl
  · obtain ⟨v, g, sd, rfl, rd, hg, q⟩ := h
    refine ⟨_, pss_cons (ps_set (i := 2) scSize.nd rfl (.inl rfl) (pe_ix ix_tup (pv 0) pe_int (fun _ _ => rfl)))
      (pss_one (ps_ret (pe_ifExp (pt_cmpR op_eq (pv 1) pe_int (nomark _)) (pe_callB call_len_seq (by rfl) ml PySem.boot_len (pa_cons (pv 2) pa_nil))
        (pe_callB call_len_seq (by rfl) ml PySem.boot_len (pa_cons (pe_ix ix_tup (pv 2) pe_int (fun _ _ => rfl)) pa_nil))))), ?_⟩
    obtain ⟨a, p, z, c, ys, zs, rest, rfl, hx, hy, rfl, hz, n1, n2, _⟩ := game_at rd hg
    refine ⟨.ref a, rfl, a, _, 0, .ref p, rfl, rfl, SqT.of hx, atI_nat (j := 0) rfl, .int sd, rfl, rfl, _, rfl, ?_⟩
    rw [dec_int']
    refine ite2 (fun e => ?_) (fun e => ?_)
    · have e0 : sd = 0 := of_decide_eq_true e
      subst e0
      refine ⟨.ref p, rfl, p, _, rfl, .inr (SqT.of hy), ?_⟩
      rw [n1]; exact q
    · have e0 : sd ≠ 0 := fun z => e (decide_eq_true z)
      refine ⟨.ref p, rfl, p, _, 0, .ref c, rfl, rfl, SqT.of hy, atI_nat (j := 0) rfl, c, zs, rfl, .inr (SqT.of hz), ?_⟩
      rw [n2 sd e0]; exact q

def spSideFits : Sp := fun vs H Q _ => ∃ s : Int, vs = [.int s] ∧ (s = 0 ∨ s = 1) ∧ ∀ H', Same H H' → Q (.bl true) H'
theorem ok_sidefits {f : Addr} {fd : FuncData} (F : Fun K "side_fits" "side_fits" sSideFits f fd) (T : KinT P w K mg base fW fT dW dT) :
    FnOk P w K mg base CX0 2 f fd ["value"] spSideFits := by
  refine F.ok scSideFits (fun vs H Q E h => ?_) (fun cdv A outer s H vs Q E hr h => ?_)
  · obtain ⟨v, rfl, _⟩ := h
    rfl
  · obtain ⟨sd, rfl, hs, q⟩ := h
    refine ⟨_, pss_one (ps_ret (pe_and (pe_call T.GW hr (by rfl) T.gW T.FW.kp T.bW .nil pass0 (pa_cons (pv 0) pa_nil))
      (pe_one (pe_cmpR (show OpR _ (compareOp .In) (rIn K false) from op_in_seq) (pv 0) (pe_tup (pa_cons pe_int (pa_cons pe_int pa_nil))) (by rfl))))), ?_⟩
    refine ⟨.int sd, rfl, .int sd, .int sd, rfl, .int sd, fun H1 S => ⟨true, rfl, iteT ⟨.int sd, rfl, by show 2 ≤ sizeLine; decide, fun p hp => ?_⟩⟩⟩
    refine ⟨p, _, rfl, .inr (SqT.of upd_same), rfl, rfl, ?_⟩
    rcases hs with rfl | rfl
    · exact q _ (S.trans (same_new hp))
    · exact q _ (S.trans (same_new hp))

/-- a mix of a side -/
def spMixFits : Sp := fun vs H Q _ => ∃ v g s u d, vs = [v, .int s, u] ∧ RD H v g ∧ gameD g = true ∧ (s = 0 ∨ s = 1) ∧ RD H u d ∧ Bdd d ∧ ∀ H', Same H H' → Q (.bl (mixD (sizeD g s) d)) H'
theorem ok_mixfits {f : Addr} {fd : FuncData} (F : Fun K "mix_fits" "mix_fits" sMixFits f fd)
    (FS : Fun K "size" "size" sSize fS dS) (bS : Binds K dS ["game", "side"] []) (gS : mg "size" = some (.ref fS)) (GS : FnOk P w K mg base CX0 1 fS dS ["game", "side"] spSize)
    (FC : Fun K "are_chances" "are_chances" sAreChances fC dC) (bC : Binds K dC ["value", "many"] []) (gC : mg "are_chances" = some (.ref fC)) (GC : FnOk P w K mg base CX0 3 fC dC ["value", "many"] spChances) :
    FnOk P w K mg base CX0 4 f fd ["game", "side", "value"] spMixFits := by
  refine F.ok scMixFits (fun vs H Q E h => ?_) (fun cdv A outer s H vs Q E hr h => ?_)
  · obtain ⟨v, g, sd, u, d, rfl, _⟩ := h
    rfl
  · obtain ⟨v, g, sd, u, d, rfl, rd, hg, hs, ru, bd, q⟩ := h
    have hr1 := hr.mono (show 1 ≤ 3 by omega)
    refine ⟨_, pss_one (ps_ret (pe_call GC hr (by rfl) gC FC.kp bC .nil pass0 (pa_cons (pv 2) (pa_cons (pe_call GS hr1 (by rfl) gS FS.kp bS .nil pass0 (pa_cons (pv 0) (pa_cons (pv 1) pa_nil))) pa_nil)))), ?_⟩
    exact ⟨u, rfl, v, rfl, .int sd, rfl, v, g, sd, rfl, rd, hg, u, d, _, rfl, ru, bd, (size_le rd hg hs).2, q⟩

/-- choices, lots -/
def choiceD (n : Int) : PyData → Bool
  | .int i => decide (0 ≤ i) && decide (i < n)
  | _ => false
def spChoiceFits : Sp := fun vs H Q _ => ∃ v g s u d, vs = [v, .int s, u] ∧ RD H v g ∧ gameD g = true ∧ RD H u d ∧ ∀ H', Same H H' → Q (.bl (choiceD (sizeD g s) d)) H'
theorem ok_choicefits {f : Addr} {fd : FuncData} (F : Fun K "choice_fits" "choice_fits" sChoiceFits f fd) (T : KinT P w K mg base fW fT dW dT)
    (FS : Fun K "size" "size" sSize fS dS) (bS : Binds K dS ["game", "side"] []) (gS : mg "size" = some (.ref fS)) (GS : FnOk P w K mg base CX0 1 fS dS ["game", "side"] spSize) :
    FnOk P w K mg base CX0 2 f fd ["game", "side", "value"] spChoiceFits := by
  refine F.ok scChoiceFits (fun vs H Q E h => ?_) (fun cdv A outer s H vs Q E hr h => ?_)
  · obtain ⟨v, g, sd, u, d, rfl, _⟩ := h
    rfl
  · obtain ⟨v, g, sd, u, d, rfl, rd, hg, ru, q⟩ := h
    refine ⟨_, pss_one (ps_ret (pe_and (pe_call T.GW hr (by rfl) T.gW T.FW.kp T.bW .nil pass0 (pa_cons (pv 2) pa_nil))
      (pe_one (pe_chain op_le op_lt pe_int (pv 2) (pe_call GS hr (by rfl) gS FS.kp bS .nil pass0 (pa_cons (pv 0) (pa_cons (pv 1) pa_nil))))))), ?_⟩
    refine ⟨u, rfl, u, d, rfl, ru, fun H1 S => ⟨_, rfl, ite2 (fun e1 => ?_) (fun e1 => ?_)⟩⟩
    · obtain ⟨i, rfl, rfl⟩ := ru.whole e1
      have ec : choiceD (sizeD g sd) (.int i) = (decide (0 ≤ i) && decide (i < sizeD g sd)) := rfl
      refine ⟨.int i, rfl, _, _, rfl, rfl, _, rfl, ite2 (fun e2 => ?_) (fun e2 => ?_)⟩
      · refine ⟨v, rfl, .int sd, rfl, v, g, sd, rfl, rd.keep S, hg, _, _, rfl, rfl, ?_⟩
        rw [ec, show decide (0 ≤ i) = true from e2] at q
        exact q H1 S
      · rw [ec, show decide (0 ≤ i) = false from Bool.eq_false_iff.mpr e2] at q
        exact q H1 S
    · have : choiceD (sizeD g sd) d = false := by cases d <;> first | rfl | exact absurd rfl e1
      rw [this] at q
      exact q H1 S

/-- ascending integers above the last one -/
def lotR (n : Int) : Int → List PyData → Bool
  | _, [] => true
  | l, .int i :: ds => decide (l < i) && decide (i < n) && lotR n i ds
  | _, _ :: _ => false
def lotD (n : Int) (d : PyData) : Bool := match tupD d with
  | some ds => !ds.isEmpty && lotR n (-1) ds
  | none => false
def intOf : PyData → Int
  | .int i => i
  | _ => 0
/-- each one before the next one -/
def ascD : List PyData → Bool
  | x :: y :: ds => decide (intOf x < intOf y) && ascD (y :: ds)
  | _ => true
theorem lotR_eq (n : Int) : ∀ (ds : List PyData) (l : Int), -1 ≤ l → lotR n l ds = (ds.all (choiceD n) && ascD ds && (match ds with | [] => true | d :: _ => decide (l < intOf d)))
  | [], l, _ => rfl
  | d :: ds, l, hl => by
    cases d with
    | int i =>
      by_cases h : l < i
      · have ih := lotR_eq n ds i (by omega)
        show (decide (l < i) && decide (i < n) && lotR n i ds) = ((decide (0 ≤ i) && decide (i < n) && ds.all (choiceD n)) && ascD (.int i :: ds) && decide (l < i))
        rw [ih, decide_eq_true h, decide_eq_true (show 0 ≤ i by omega)]
        cases ds with
        | nil => show (true && decide (i < n) && (true && true && true)) = (true && decide (i < n) && true && true && true); cases decide (i < n) <;> rfl
        | cons d2 ds =>
          show (true && decide (i < n) && ((d2 :: ds).all (choiceD n) && ascD (d2 :: ds) && decide (i < intOf d2))) = (true && decide (i < n) && (d2 :: ds).all (choiceD n) && (decide (i < intOf d2) && ascD (d2 :: ds)) && true)
          cases decide (i < n) <;> cases (d2 :: ds).all (choiceD n) <;> cases ascD (d2 :: ds) <;> cases decide (i < intOf d2) <;> rfl
      · show (decide (l < i) && decide (i < n) && lotR n i ds) = _
        show _ = (_ && _ && decide (l < i))
        rw [decide_eq_false h, Bool.and_false]; rfl
    | none => rfl
    | bool _ => rfl
    | str _ => rfl
    | list _ => rfl
    | tuple _ => rfl
    | dict _ => rfl
theorem lotD_eq {n : Int} {ds : List PyData} : lotD n (.tuple ds) = (!ds.isEmpty && ds.all (choiceD n) && ascD ds) := by
  show (!ds.isEmpty && lotR n (-1) ds) = _
  rw [lotR_eq n ds (-1) (by decide)]
  cases ds with
  | nil => rfl
  | cons d ds =>
    cases e : (d :: ds).all (choiceD n) with
    | false => simp
    | true =>
      have h : choiceD n d = true := List.all_eq_true.mp e d List.mem_cons_self
      have : decide (-1 < intOf d) = true := by
        cases d with
        | int i =>
          have h1 : (decide (0 ≤ i) && decide (i < n)) = true := h
          rw [Bool.and_eq_true] at h1
          have := of_decide_eq_true h1.1
          exact decide_eq_true (by show -1 < i; omega)
        | _ => cases h
      show (!(d :: ds).isEmpty && (true && ascD (d :: ds) && decide (-1 < intOf d))) = _
      rw [this]
      cases ascD (d :: ds) <;> rfl
theorem asc_range : ∀ (ds : List PyData), ((List.range (ds.length - 1)).map fun i => decide (intOf (ds.getD i .none) < intOf (ds.getD (i + 1) .none))).all id = ascD ds
  | [] => rfl
  | [_] => rfl
  | x :: y :: ds => by
    have ih := asc_range (y :: ds)
    show ((List.range ((y :: ds).length)).map _).all id = (decide (intOf x < intOf y) && ascD (y :: ds))
    rw [← ih]
    show ((List.range (ds.length + 1)).map _).all id = (_ && ((List.range (ds.length + 1 - 1)).map _).all id)
    rw [List.range_succ_eq_map, List.map_cons, List.all_cons, List.map_map]
    rfl
end
end K01

/-! Q11: lot_fits, _law_is_lot, _law_is_mix. -/
namespace K01
open PySem PySem.Spec PyProof.Rows L2 GL
section
variable {P : Program} {w : World} {K : PySem.W.Frag} {mg : Str → Option Value} {base : Heap}
variable {fW fT fS fC fX : Addr} {dW dT dS dC dX : FuncData}

/-- ints of a tuple -/
theorem choice_int {n : Int} {d : PyData} (h : choiceD n d = true) : ∃ i, d = .int i ∧ intOf d = i := by
  cases d with
  | int i => exact ⟨i, rfl, rfl⟩
  | _ => cases h
def spLotFits : Sp := fun vs H Q _ => ∃ v g s u d, vs = [v, .int s, u] ∧ RD H v g ∧ gameD g = true ∧ RD H u d ∧ lenD d ≤ 1000 ∧ ∀ H', Same H H' → Q (.bl (lotD (sizeD g s) d)) H'
theorem ok_lotfits {f : Addr} {fd : FuncData} (F : Fun K "lot_fits" "lot_fits" sLotFits f fd) (T : KinT P w K mg base fW fT dW dT) (mr : mg "range" = none)
    (FC : Fun K "choice_fits" "choice_fits" sChoiceFits fC dC) (bC : Binds K dC ["game", "side", "value"] []) (gC : mg "choice_fits" = some (.ref fC)) (GC : FnOk P w K mg base CX0 2 fC dC ["game", "side", "value"] spChoiceFits) :
    FnOk P w K mg base CX0 3 f fd ["game", "side", "value"] spLotFits := by
  refine F.ok scLotFits (fun vs H Q E h => ?_) (fun cdv A outer s H vs Q E hr h => ?_)
  · obtain ⟨v, g, sd, u, d, rfl, _⟩ := h
    rfl
  · obtain ⟨v, g, sd, u, d, rfl, rd, hg, ru, hl, q⟩ := h
    refine ⟨_, pss_cons (ps_if (PW.pt (pw_or (pt_cmpR op_notTyB (pe_callTy call_type1 (by rfl) T.type (by decide +kernel) (pa_cons (pv 2) pa_nil)) (pe_bltn (v := .ty "tuple") (by rfl) T.tuple (by decide +kernel) rfl) (nomark _))
        (pw_or1 (pt_not (pt_truth (pv 2) (fun _ => rfl))))))
        (pss_one (ps_ret pe_bl)) pss_nil)
      (pss_cons (ps_if (pt_not (pt_val (pe_callB (cr_all rfl) (by rfl) T.all (by decide +kernel) (pa_cons
        (pe_lc (own := [("choice", 3)]) (g := gName 3) (tt := tYes) rfl scLotFits.nd (pi_tup (pv 2))
          (blkOk_by (own := [("choice", 3)]) (N := ["game", "side", "value", "choice", "at"]) (sc := defScope sLotFits) (by decide +kernel))
          (fun _ _ _ _ _ => pg_name (i := 3) scLotFits.nd rfl (Or.inl rfl)) (fun _ _ _ _ _ => pts_nil)
          (fun _ _ _ _ _ => pe_call GC hr (by rfl) gC FC.kp bC .nil pass0 (pa_cons (pv 0) (pa_cons (pv 1) (pa_cons (pv 3) pa_nil))))) pa_nil))))
        (pss_one (ps_ret pe_bl)) pss_nil)
      (pss_one (ps_ret (pe_callB (cr_all rfl) (by rfl) T.all (by decide +kernel) (pa_cons
        (pe_lc (own := [("at", 4)]) (g := gName 4) (tt := tYes) rfl scLotFits.nd (pi_range1 (by rfl) mr (pa_cons (pe_op op_sub (pe_callB call_len_seq (by rfl) T.len PySem.boot_len (pa_cons (pv 2) pa_nil)) pe_int) pa_nil))
          (blkOk_by (own := [("at", 4)]) (N := ["game", "side", "value", "choice", "at"]) (sc := defScope sLotFits) (by decide +kernel))
          (fun _ _ _ _ _ => pg_name (i := 4) scLotFits.nd rfl (Or.inl rfl)) (fun _ _ _ _ _ => pts_nil)
          (fun _ _ _ _ _ => pe_cmpR op_lt (pe_ix (show IxR _ (rIxT K) from ix_tup) (pv 2) (pv 4) (fun _ _ => rfl)) (pe_ix (show IxR _ (rIxT K) from ix_tup) (pv 2) (pe_op op_add (pv 4) pe_int) (fun _ _ => rfl)) (nomark _))) pa_nil))))), ?_⟩
    refine ⟨u, rfl, u, _, rfl, ru.tyB, _, _, rfl, rfl, _, rfl, ?_⟩
    rw [tupD_ty]
    cases e : tupD d with
    | none =>
      have : lotD (sizeD g sd) d = false := by unfold lotD; rw [e]
      rw [this] at q
      exact iteT (iteT (q H (.refl H)))
    | some ds =>
      obtain ⟨a, xs, rfl, rfl, hx, rs⟩ := ru.tupOf e
      have hlen := RDs.length rs
      have hl2 : ((ds.length : Nat) : Int) ≤ 1000 := hl
      have hz : xs.length < sizeLine := by rw [sizeLine_eq]; omega
      have ie : xs.isEmpty = ds.isEmpty := by
        cases rs <;> rfl
      refine iteF ⟨.ref a, rfl, _, .inr (.inl ⟨xs, SqT.of hx, rfl⟩), ?_⟩
      rw [ie]
      rw [lotD_eq] at q
      cases e1 : ds.isEmpty with
      | true =>
        rw [e1] at q
        exact iteT (q H (.refl H))
      | false =>
        rw [e1] at q
        refine iteF ⟨.ref a, rfl, a, rfl, ⟨xs, SqT.of hx⟩, fun D hD => lc_ask (choiceD (sizeD g sd)) (fun _ => rfl) hx rs hz hD (fun x d H1 Q1 r hm S q1 => ?_) (fun H1 S hl3 => ?_)⟩
        · exact ⟨v, rfl, .int sd, rfl, x, rfl, v, g, sd, x, d, rfl, rd.keep S, hg, r, q1⟩
        · refine ⟨D, _, rfl, SqL.of hl3, _, rfl, ?_⟩
          rw [all_id]
          cases e2 : ds.all (choiceD (sizeD g sd)) with
          | false =>
            rw [e2] at q
            exact iteT (q H1 S)
          | true =>
            rw [e2] at q
            have hx1 := S _ _ hx
            have rs1 := RDs.keep S rs
            have at1 : ∀ i, i < ds.length → xs[i]? = some (.int (intOf (ds.getD i .none))) := fun i hi => by
              have hxi : xs[i]? = some xs[i] := List.getElem?_eq_getElem (by omega)
              obtain ⟨d, ed, r⟩ := RDs.at rs1 hxi
              obtain ⟨n, rfl, _⟩ := choice_int (List.all_eq_true.mp e2 d (List.mem_of_getElem? ed))
              rw [List.getD_eq_getElem?_getD, ed, hxi]
              generalize xs[i] = x at r
              cases r
              rfl
            have hne : 1 ≤ ds.length := by
              cases ds with
              | nil => cases e1
              | cons _ _ => show 1 ≤ _ + 1; omega
            refine iteF ⟨.ref a, rfl, a, xs, rfl, .inr (SqT.of hx1), _, _, rfl, rfl, _, rfl, by omega, by omega, fun D2 hD2 => ?_⟩
            rw [show (((xs.length : Nat) : Int) - 1).toNat = ds.length - 1 by omega]
            refine lc_range (fun i H' => Same H1 H' ∧ H' D2 = some (.lst (((List.range i).map fun i => decide (intOf (ds.getD i .none) < intOf (ds.getD (i + 1) .none))).map V.bl)))
              ⟨fun b o e => by rw [upd_ne (ne_of_none e hD2)]; exact e, upd_same⟩ (fun i H2 hi p => ?_) (fun H2 p => ?_)
            · obtain ⟨S2, hl4⟩ := p
              refine ⟨rfl, ?_⟩
              rw [show (0 : Int) + (i : Nat) = ((i : Nat) : Int) by omega]
              refine ⟨.ref a, rfl, .int ((i : Nat) : Int), rfl, a, xs, _, _, rfl, rfl, SqT.of (S2 _ _ hx1), atI_nat (at1 i (by omega)), .ref a, rfl, .int ((i : Nat) : Int), rfl, _, _, rfl, rfl, a, xs, ((i : Nat) : Int) + 1, .int (intOf (ds.getD (i + 1) .none)), rfl, rfl, SqT.of (S2 _ _ hx1), ?_, _, _, rfl, rfl, ?_⟩
              · rw [show (((i : Nat) : Int) + 1) = (((i + 1 : Nat)) : Int) by omega]
                exact atI_nat (at1 (i + 1) (by omega))
              · refine ⟨_, hl4, ?_, fun b o e => ?_, ?_⟩
                · simp only [List.length_map, List.length_range]
                  omega
                · rw [upd_ne (ne_of_none e hD2)]; exact S2 _ _ e
                · rw [upd_same, List.range_succ, List.map_append, List.map_append]; rfl
            · obtain ⟨S2, hl4⟩ := p
              refine ⟨D2, _, rfl, SqL.of hl4, ?_⟩
              rw [asc_range]
              exact q H2 (S.trans S2)

def spLLot : Sp := fun vs H Q _ => ∃ u d n, vs = [u, .int n] ∧ RD H u d ∧ ∀ H', Same H H' → Q (.bl (lotD n d)) H'
theorem ok_llot {f : Addr} {fd : FuncData} (F : Fun K "_law_is_lot" "_law_is_lot" sLIsLot f fd) (T : LawT P w K mg base fW dW) :
    FnOk P w K mg base CX0 2 f fd ["value", "many"] spLLot := by
  refine F.ok scLIsLot (fun vs H Q E h => ?_) (fun cdv A outer s H vs Q E hr h => ?_)
  · obtain ⟨v, d, n, rfl, _⟩ := h
    rfl
  · obtain ⟨u, d, n, rfl, ru, q⟩ := h
    refine ⟨_, pss_cons (ps_if (PW.pt (pw_or (pt_not (pt_val (pe_callB call_isi (by rfl) T.isi (by decide +kernel) (pa_cons (pv 0) (pa_cons (pe_bltn (v := .ty "tuple") (by rfl) T.tuple (by decide +kernel) rfl) pa_nil)))))
        (pw_or1 (pt_cmpR op_eq (pe_callB call_len_seq (by rfl) T.len PySem.boot_len (pa_cons (pv 0) pa_nil)) pe_int (nomark _)))))
        (pss_one (ps_ret pe_bl)) pss_nil)
      (pss_cons (ps_set (i := 2) scLIsLot.nd rfl (.inl rfl) (pe_un un_neg pe_int))
      (pss_cons (ps_for PassesOwn.never rfl (pi_tup (pv 0)) (pg_name (i := 3) scLIsLot.nd rfl (Or.inl rfl))
        (pss_cons (ps_if (PW.pt (pw_or (pt_not (pt_val (pe_call T.GW hr (by rfl) T.gW T.FW.kp T.bW .nil pass0 (pa_cons (pv 3) pa_nil))))
            (pw_or1 (pt_not (pt_chain op_lt op_lt (pv 2) (pv 3) (pv 1))))))
          (pss_one (ps_ret pe_bl)) pss_nil)
        (pss_one (ps_set (i := 2) scLIsLot.nd rfl (.inl rfl) (pv 3)))))
      (pss_one (ps_ret pe_bl)))), ?_⟩
    refine ⟨u, rfl, u, .ty "tuple", _, _, _, rfl, .ty _, ru.tyX, kit_tuple K d, _, rfl, ?_⟩
    cases e : tupD d with
    | none =>
      have : lotD n d = false := by unfold lotD; rw [e]
      rw [this] at q
      exact iteT (iteT (q H (.refl H)))
    | some ds =>
      obtain ⟨a, xs, rfl, rfl, hx, rs⟩ := ru.tupOf e
      have hlen := RDs.length rs
      refine iteF ⟨.ref a, rfl, a, xs, rfl, .inr (SqT.of hx), rfl, _, rfl, ?_⟩
      rw [dec_int']
      have el : lotD n (.tuple ds) = (!ds.isEmpty && lotR n (-1) ds) := rfl
      refine ite2 (fun e1 => ?_) (fun e1 => ?_)
      · have e2 : ds = [] := by
          have := of_decide_eq_true e1
          exact List.length_eq_zero_iff.mp (by omega)
        subst e2
        exact q H (.refl H)
      · have e2 : ds.isEmpty = false := by
          cases ds with
          | nil => exact absurd (decide_eq_true (by rw [hlen]; rfl)) e1
          | cons _ _ => rfl
        rw [el, e2] at q
        refine ⟨1, rfl, ?_⟩
        refine ⟨.ref a, rfl, a, rfl, ⟨xs, SqT.of hx⟩, for_tup (xs := xs) (fun i σ H' => Same H H' ∧ ∃ (l : Int) (y : Option V), σ = [some (.ref a), some (.int n), some (.int l), y] ∧ lotR n (-1) ds = lotR n l (ds.drop i)) ⟨.refl H, -1, none, rfl, rfl⟩
          (fun i σ H1 _ p => SqT.of (p.1 _ _ hx)) (fun i x σ H1 hi p => ?_) (fun σ H1 p => ?_)⟩
        · obtain ⟨S, l, y, rfl, hL⟩ := p
          obtain ⟨d, ed, r0⟩ := RDs.at rs hi
          have r := r0.keep S
          have hlt : i < ds.length := (List.getElem?_eq_some_iff.mp ed).1
          have edr : ds.drop i = d :: ds.drop (i + 1) := by
            rw [List.drop_eq_getElem_cons hlt]
            rw [List.getElem?_eq_getElem hlt] at ed
            cases ed; rfl
          rw [edr] at hL
          refine ⟨x, rfl, x, d, rfl, r, fun H2 S2 => ⟨_, rfl, ?_⟩⟩
          have S3 := S.trans S2
          cases e3 : wholeD d with
          | false =>
            have : lotR n l (d :: ds.drop (i + 1)) = false := by
              cases d <;> first | rfl | cases e3
            rw [hL, this] at q
            exact iteT (iteT (q H2 S3))
          | true =>
            obtain ⟨k, rfl, rfl⟩ := r.whole e3
            have eR : lotR n l (.int k :: ds.drop (i + 1)) = (decide (l < k) && decide (k < n) && lotR n k (ds.drop (i + 1))) := rfl
            refine iteF ⟨.int l, rfl, .int k, rfl, _, _, rfl, rfl, _, rfl, ?_⟩
            refine ite2 (fun k1 => ⟨.int n, rfl, _, _, rfl, rfl, _, rfl, ite2 (fun k2 => ?_) (fun k2 => ?_)⟩) (fun k1 => ⟨_, rfl, iteT ?_⟩)
            · rw [Bool.not_eq_true'] at k2
              rw [hL, eR, show decide (k < n) = false from k2, Bool.and_false] at q
              exact q H2 S3
            · have k3 : decide (k < n) = true := by
                cases hh : decide (k < n) with
                | true => rfl
                | false => rw [hh] at k2; exact absurd rfl k2
              refine ⟨.int k, rfl, S3, k, some (.int k), rfl, ?_⟩
              rw [hL, eR, show decide (l < k) = true from k1, k3]; rfl
            · rw [hL, eR, show decide (l < k) = false from Bool.eq_false_iff.mpr k1] at q
              exact q H2 S3
        · obtain ⟨S, l, y, rfl, hL⟩ := p
          rw [hlen, List.drop_length] at hL
          rw [hL] at q
          exact q H1 S
end
end K01

/-! Q12: _law_is_mix. -/
namespace K01
open PySem PySem.Spec PyProof.Rows L2 GL
theorem AB_bound : ∀ (ps : List (Int × Int)), (∀ p ∈ ps, p.1.natAbs < 2 ^ 1100 ∧ p.2.natAbs < 2 ^ 1100) → ∀ i, i ≤ ps.length →
    (AB (ps.take i)).1.natAbs < 2 ^ (1 + 1102 * i) ∧ (AB (ps.take i)).2.natAbs < 2 ^ (1 + 1102 * i) := by
  intro ps h i
  induction i with
  | zero => intro _; exact ⟨by show (0 : Int).natAbs < 2 ^ (1 + 1102 * 0); decide, by show (1 : Int).natAbs < 2 ^ (1 + 1102 * 0); decide⟩
  | succ i ih =>
    intro hi
    obtain ⟨h1, h2⟩ := ih (by omega)
    have hlt : i < ps.length := hi
    rw [List.take_add_one, List.getElem?_eq_getElem hlt]
    show (AB (ps.take i ++ [ps[i]])).1.natAbs < _ ∧ (AB (ps.take i ++ [ps[i]])).2.natAbs < _
    rw [AB_snoc]
    obtain ⟨p2, p3⟩ := h _ (List.getElem_mem hlt)
    have m1 := wide_lt h1 p3
    have m2 := wide_lt p2 h2
    have m3 := wide_lt h2 p3
    have e1 : 1 + 1102 * i + 1100 ≤ 1 + 1102 * (i + 1) := by omega
    refine ⟨?_, Nat.lt_of_lt_of_le m3 (Nat.pow_le_pow_right (by decide) e1)⟩
    have ha := Int.natAbs_add_le ((AB (ps.take i)).1 * ps[i].2) (ps[i].1 * (AB (ps.take i)).2)
    refine Nat.lt_of_le_of_lt ha ?_
    rw [Nat.add_comm 1100] at m2
    refine Nat.lt_of_lt_of_le (Nat.add_lt_add m1 m2) ?_
    rw [← Nat.mul_two, ← Nat.pow_succ]
    exact Nat.pow_le_pow_right (by decide) (by omega)
theorem least_same {a b : Int} (h : 1 ≤ b) : PyData.eqv (.tuple [.int (a / gc a b), .int (b / gc a b)]) (.tuple [.int a, .int b]) = decide (gc a b = 1) := by
  show (a / gc a b == a && (b / gc a b == b && true)) = _
  rw [Bool.eq_iff_iff]
  simp only [Bool.and_true, Bool.and_eq_true, beq_iff_eq, decide_eq_true_eq]
  refine ⟨fun ⟨_, e⟩ => ?_, fun e => by rw [e, Int.ediv_one, Int.ediv_one]; exact ⟨rfl, rfl⟩⟩
  have g2 : gc a b ∣ b := Int.natAbs_dvd_natAbs.mp (by rw [show (gc a b).natAbs = Nat.gcd a.natAbs b.natAbs from Int.natAbs_natCast _]; exact Nat.gcd_dvd_right _ _)
  have h2 := Int.ediv_mul_cancel g2
  rw [e] at h2
  exact Int.eq_of_mul_eq_mul_left (show b ≠ 0 by omega) (by rw [h2, Int.mul_one])
theorem chance_not {d : PyData} (h : fracOf d = none) : chanceD d = false := by
  unfold chanceD; rw [h]; simp
section
variable {P : Program} {w : World} {K : PySem.W.Frag} {mg : Str → Option Value} {base : Heap}
variable {fW fL : Addr} {dW dL : FuncData}

theorem ok_lmix {f : Addr} {fd : FuncData} (F : Fun K "_law_is_mix" "_law_is_mix" sLIsMix f fd) (T : LawT P w K mg base fW dW)
    (FL : Fun K "_law_least" "_law_least" sLLeast fL dL) (bL : Binds K dL ["above", "below"] []) (gL : mg "_law_least" = some (.ref fL)) (GL' : FnOk P w K mg base CX0 1 fL dL ["above", "below"] spLeast) :
    FnOk P w K mg base CX0 2 f fd ["value", "many"] spChances := by
  refine F.ok scLIsMix (fun vs H Q E h => ?_) (fun cdv A outer s H vs Q E hr h => ?_)
  · obtain ⟨v, d, n, rfl, _⟩ := h
    rfl
  · obtain ⟨v, d, n, rfl, rd, bd, hn, q⟩ := h
    have hu : (A.deeper (envOfC "_law_is_mix" (defScope sLIsMix) s.heap.objs.size f cdv)).units + 64 < cLine := by
      have := hr.un; omega
    refine ⟨_, pss_cons (ps_if (PW.pt (pw_or (pt_not (pt_val (pe_callB call_isi (by rfl) T.isi (by decide +kernel) (pa_cons (pv 0) (pa_cons (pe_bltn (v := .ty "tuple") (by rfl) T.tuple (by decide +kernel) rfl) pa_nil)))))
        (pw_or1 (pt_cmpR op_ne (pe_callB call_len_seq (by rfl) T.len PySem.boot_len (pa_cons (pv 0) pa_nil)) (pv 1) (nomark _)))))
        (pss_one (ps_ret pe_bl)) pss_nil)
      (pss_cons (ps_asg (pe_tup (pa_cons pe_int (pa_cons pe_int pa_nil))) (pg_tup rfl (pgs_cons (pg_name (i := 2) scLIsMix.nd rfl (Or.inl rfl)) (pgs_cons (pg_name (i := 3) scLIsMix.nd rfl (Or.inl rfl)) pgs_nil))))
      (pss_cons (ps_for PassesOwn.never rfl (pi_tup (pv 0)) (pg_name (i := 4) scLIsMix.nd rfl (Or.inl rfl))
        (pss_cons (ps_if (PW.pt (pw_or (pt_not (pt_val (pe_callB call_isi (by rfl) T.isi (by decide +kernel) (pa_cons (pv 4) (pa_cons (pe_bltn (v := .ty "tuple") (by rfl) T.tuple (by decide +kernel) rfl) pa_nil)))))
          (pw_or (pt_cmpR op_ne (pe_callB call_len_seq (by rfl) T.len PySem.boot_len (pa_cons (pv 4) pa_nil)) pe_int (nomark _))
          (pw_or (pt_not (pt_val (pe_call T.GW hr (by rfl) T.gW T.FW.kp T.bW .nil pass0 (pa_cons (pe_ix ix_tup (pv 4) pe_int (fun _ _ => rfl)) pa_nil))))
          (pw_or1 (pt_not (pt_val (pe_call T.GW hr (by rfl) T.gW T.FW.kp T.bW .nil pass0 (pa_cons (pe_ix ix_tup (pv 4) pe_int (fun _ _ => rfl)) pa_nil)))))))))
          (pss_one (ps_ret pe_bl)) pss_nil)
        (pss_cons (ps_if (PW.pt (pw_or (pt_cmpR op_lt (pe_ix ix_tup (pv 4) pe_int (fun _ _ => rfl)) pe_int (nomark _))
          (pw_or (pt_cmpR op_lt (pe_ix ix_tup (pv 4) pe_int (fun _ _ => rfl)) pe_int (nomark _))
          (pw_or1 (pt_cmpR (op_neD hu) (pe_call GL' hr (by rfl) gL FL.kp bL .nil pass0 (pa_cons (pe_ix ix_tup (pv 4) pe_int (fun _ _ => rfl)) (pa_cons (pe_ix ix_tup (pv 4) pe_int (fun _ _ => rfl)) pa_nil))) (pv 4) (nomark _))))))
          (pss_one (ps_ret pe_bl)) pss_nil)
        (pss_one (ps_par (i := 2) (j := 3) (by rfl) scLIsMix.nd rfl rfl (by decide) rfl rfl
          (pa_cons (pe_op op_add (pe_op op_mulW (pv 2) (pe_ix ix_tup (pv 4) pe_int (fun _ _ => rfl))) (pe_op op_mulW (pe_ix ix_tup (pv 4) pe_int (fun _ _ => rfl)) (pv 3)))
          (pa_cons (pe_op op_mulW (pv 3) (pe_ix ix_tup (pv 4) pe_int (fun _ _ => rfl))) pa_nil)) (by rfl))))))
      (pss_one (ps_ret (pe_cmpR op_eq (pv 2) (pv 3) (nomark _)))))), ?_⟩
    refine ⟨v, rfl, v, .ty "tuple", _, _, _, rfl, .ty _, rd.tyX, kit_tuple K d, _, rfl, ?_⟩
    cases e : tupD d with
    | none =>
      have : mixD n d = false := by unfold mixD; rw [e]
      rw [this] at q
      exact iteT (iteT (q H (.refl H)))
    | some ds =>
      obtain ⟨a, xs, rfl, rfl, hx, rs⟩ := rd.tupOf e
      have hlen := RDs.length rs
      have em : mixD n (.tuple ds) = (decide ((ds.length : Int) = n) && ds.all chanceD && decide ((AB (frs ds)).1 = (AB (frs ds)).2)) := rfl
      refine iteF ⟨.ref a, rfl, a, xs, rfl, .inr (SqT.of hx), .int n, rfl, rfl, _, rfl, ?_⟩
      rw [dec_int', hlen]
      by_cases hln : (ds.length : Int) = n
      · rw [decide_eq_true hln] at em ⊢
        have badC : ∀ d ∈ ds, chanceD d = false → ∀ H', Same H H' → Q (.bl false) H' := fun d hm z H' S => by
          have : ds.all chanceD = false := Bool.eq_false_iff.mpr fun z2 => by
            have := List.all_eq_true.mp z2 d hm
            rw [z] at this; cases this
          rw [em, this] at q
          exact q H' S
        have bps : ∀ p ∈ frs ds, p.1.natAbs < 2 ^ 1100 ∧ p.2.natAbs < 2 ^ 1100 := fun p hp => by
          obtain ⟨d, hd, rfl⟩ := List.mem_map.mp hp
          cases e2 : fracOf d with
          | none =>
            show (0 : Int).natAbs < 2 ^ 1100 ∧ (1 : Int).natAbs < 2 ^ 1100
            have h2 : 1 < 2 ^ 1100 := Nat.lt_of_lt_of_le (by decide : 1 < 2 ^ 1) (Nat.pow_le_pow_right (by decide) (by decide))
            exact ⟨by show 0 < _; omega, by show 1 < _; exact h2⟩
          | some pr => exact bd ds rfl d hd pr.1 pr.2 e2
        have lps : (frs ds).length = ds.length := List.length_map _
        refine iteF ⟨by show 2 ≤ sizeLine; decide, fun p0 hp0 => ⟨p0, [.int 0, .int 1], rfl, SqT.of upd_same, rfl, _, _, rfl, _, _, rfl, rfl, ?_⟩⟩
        have S0 := same_new (o := .tup [.int 0, .int 1]) hp0
        refine ⟨.ref a, rfl, a, rfl, ⟨xs, SqT.of (S0 _ _ hx)⟩, for_tup (xs := xs) (fun i σ H' => Same H H' ∧ (∃ y : Option V, σ = [some (.ref a), some (.int n), some (.int (AB ((frs ds).take i)).1), some (.int (AB ((frs ds).take i)).2), y]) ∧ (ds.take i).all chanceD = true)
          ⟨S0, ⟨none, rfl⟩, rfl⟩ (fun i σ H1 _ p => SqT.of (p.1 _ _ hx)) (fun i x σ H1 hi p => ?_) (fun σ H1 p => ?_)⟩
        · obtain ⟨S, ⟨y, rfl⟩, hall⟩ := p
          obtain ⟨d, ed, r0⟩ := RDs.at rs hi
          have hm := List.mem_of_getElem? ed
          have hlt : i < ds.length := (List.getElem?_eq_some_iff.mp ed).1
          have r := r0.keep S
          refine ⟨x, rfl, x, .ty "tuple", _, _, _, rfl, .ty _, r.tyX, kit_tuple K d, _, rfl, ?_⟩
          cases e6 : tupD d with
          | none =>
            have : fracOf d = none := by
              unfold fracOf
              split
              · cases e6
              · rfl
            exact iteT (iteT (badC d hm (chance_not this) H1 S))
          | some es =>
            obtain ⟨b, ys, rfl, rfl, hy, rs2⟩ := r.tupOf e6
            have hl2 := RDs.length rs2
            refine iteF ⟨.ref b, rfl, b, ys, rfl, .inr (SqT.of hy), rfl, _, rfl, ?_⟩
            rw [dec_int', hl2]
            by_cases h2 : ((es.length : Nat) : Int) = 2
            · rw [decide_eq_true h2]
              refine iteF ?_
              have hl3 : ys.length = 2 := by omega
              match ys, es, rs2, hl3 with
              | [y1, y2], [d1, d2], .cons r1 (.cons r2 .nil), _ =>
                refine ⟨.ref b, rfl, b, [y1, y2], 0, y1, rfl, rfl, SqT.of hy, atI_nat (j := 0) rfl, y1, d1, rfl, r1, fun H2 S2 => ⟨_, rfl, ?_⟩⟩
                cases e7 : wholeD d1 with
                | false =>
                  have : fracOf (.tuple [d1, d2]) = none := by
                    unfold fracOf
                    split
                    · rename_i z; cases z; cases e7
                    · rfl
                  exact iteT (iteT (badC _ hm (chance_not this) H2 (S.trans S2)))
                | true =>
                  obtain ⟨i1, rfl, rfl⟩ := r1.whole e7
                  refine iteF ⟨.ref b, rfl, b, [.int i1, y2], 1, y2, rfl, rfl, SqT.of (S2 _ _ hy), atI_nat (j := 1) rfl, y2, d2, rfl, r2.keep S2, fun H3 S3 => ⟨_, rfl, ?_⟩⟩
                  have S4 := (S.trans S2).trans S3
                  cases e8 : wholeD d2 with
                  | false =>
                    have : fracOf (.tuple [.int i1, d2]) = none := by
                      unfold fracOf
                      split
                      · rename_i z; cases z; cases e8
                      · rfl
                    exact iteT (badC _ hm (chance_not this) H3 S4)
                  | true =>
                    obtain ⟨i2, rfl, rfl⟩ := r2.whole e8
                    have hy3 := S3 _ _ (S2 _ _ hy)
                    have ec : chanceD (.tuple [.int i1, .int i2]) = (decide (1 ≤ i2) && decide (gc i1 i2 = 1) && decide (0 ≤ i1)) := rfl
                    refine iteF ⟨.ref b, rfl, b, [.int i1, .int i2], 0, .int i1, rfl, rfl, SqT.of hy3, atI_nat (j := 0) rfl, _, _, rfl, rfl, _, rfl, ?_⟩
                    refine ite2 (fun k1 => badC _ hm ?_ H3 S4) (fun k1 => ?_)
                    · have : ¬ 0 ≤ i1 := by have := of_decide_eq_true k1; omega
                      rw [ec, decide_eq_false this, Bool.and_false]
                    have k1' : 0 ≤ i1 := by
                      by_cases z : i1 < 0
                      · exact absurd (decide_eq_true z) k1
                      · omega
                    refine ⟨.ref b, rfl, b, [.int i1, .int i2], 1, .int i2, rfl, rfl, SqT.of hy3, atI_nat (j := 1) rfl, _, _, rfl, rfl, _, rfl, ?_⟩
                    refine ite2 (fun k2 => badC _ hm ?_ H3 S4) (fun k2 => ?_)
                    · have : ¬ 1 ≤ i2 := by have := of_decide_eq_true k2; omega
                      rw [ec, decide_eq_false this]; rfl
                    have k2' : 1 ≤ i2 := by
                      by_cases z : i2 < 1
                      · exact absurd (decide_eq_true z) k2
                      · omega
                    obtain ⟨b1, b2⟩ := bd ds rfl _ hm i1 i2 rfl
                    refine ⟨.ref b, rfl, b, [.int i1, .int i2], 0, .int i1, rfl, rfl, SqT.of hy3, atI_nat (j := 0) rfl, .ref b, rfl, b, [.int i1, .int i2], 1, .int i2, rfl, rfl, SqT.of hy3, atI_nat (j := 1) rfl, i1, i2, rfl, by omega,
                      Nat.lt_of_lt_of_le b2 (Nat.pow_le_pow_right (by decide) (by decide)), fun p hp => ?_⟩
                    have S5 := same_new (o := .tup [.int (i1 / gc i1 i2), .int (i2 / gc i1 i2)]) hp
                    have hy5 := S5 _ _ hy3
                    refine ⟨.ref b, rfl, .tuple [.int (i1 / gc i1 i2), .int (i2 / gc i1 i2)], .tuple [.int i1, .int i2], .tup (SqT.of upd_same) (.cons (.int _) (.cons (.int _) .nil)), .tup (SqT.of hy5) (.cons (.int _) (.cons (.int _) .nil)), rfl, rfl, _, rfl, ?_⟩
                    rw [least_same k2']
                    refine ite2 (fun k3 => badC _ hm ?_ _ (S4.trans S5)) (fun k3 => ?_)
                    · rw [Bool.not_eq_true'] at k3
                      rw [ec, k3, Bool.and_false]; rfl
                    have k3' : decide (gc i1 i2 = 1) = true := by
                      cases hh : decide (gc i1 i2 = 1) with
                      | true => rfl
                      | false => rw [hh] at k3; exact absurd rfl k3
                    obtain ⟨A1, B1⟩ := AB_bound (frs ds) bps i (by omega)
                    have hi5 : i ≤ 4 := by omega
                    have wA : (AB ((frs ds).take i)).1.natAbs < 2 ^ 5000 := Nat.lt_of_lt_of_le A1 (Nat.pow_le_pow_right (by decide) (by omega))
                    have wB : (AB ((frs ds).take i)).2.natAbs < 2 ^ 5000 := Nat.lt_of_lt_of_le B1 (Nat.pow_le_pow_right (by decide) (by omega))
                    refine ⟨.int _, rfl, .ref b, rfl, b, [.int i1, .int i2], 1, .int i2, rfl, rfl, SqT.of hy5, atI_nat (j := 1) rfl, _, _, rfl, rfl, wide_mul wA b2 (by decide) (by decide) (by decide),
                      .ref b, rfl, b, [.int i1, .int i2], 0, .int i1, rfl, rfl, SqT.of hy5, atI_nat (j := 0) rfl, .int _, rfl, _, _, rfl, rfl, wide_mul b1 wB (by decide) (by decide) (by decide), _, _, rfl, rfl,
                      .int _, rfl, .ref b, rfl, b, [.int i1, .int i2], 1, .int i2, rfl, rfl, SqT.of hy5, atI_nat (j := 1) rfl, _, _, rfl, rfl, wide_mul wB b2 (by decide) (by decide) (by decide), _, _, rfl, S4.trans S5, ⟨some (.ref b), ?_⟩, ?_⟩
                    · have et : (frs ds).take (i + 1) = (frs ds).take i ++ [(i1, i2)] := by
                        rw [List.take_add_one]
                        have : (frs ds)[i]? = some (i1, i2) := by unfold frs; rw [List.getElem?_map, ed]; rfl
                        rw [this]; rfl
                      rw [et, AB_snoc]; rfl
                    · rw [List.take_add_one, ed, List.all_append, hall]
                      show (true && (chanceD (.tuple [.int i1, .int i2]) && true)) = true
                      rw [ec, decide_eq_true k2', k3', decide_eq_true k1']; rfl
            · rw [decide_eq_false h2]
              have : fracOf (.tuple es) = none := by
                unfold fracOf
                split
                · rename_i z; cases z; exact absurd rfl h2
                · rfl
              exact iteT (iteT (badC _ hm (chance_not this) H1 S))
        · obtain ⟨S, ⟨y, rfl⟩, hall⟩ := p
          rw [hlen] at hall ⊢
          rw [List.take_length] at hall
          rw [show (frs ds).take ds.length = frs ds by rw [← lps, List.take_length]]
          refine ⟨.int _, rfl, .int _, rfl, rfl, ?_⟩
          rw [dec_int']
          rw [em, hall] at q
          exact q H1 S
      · rw [decide_eq_false hln] at em ⊢
        rw [em] at q
        exact iteT (q H (.refl H))
end
end K01

/-! Q13: checks, is_game, is_mix, is_lot. -/
namespace K01
open PySem PySem.Spec PyProof.Rows L2 GL
section
variable {P : Program} {w : World} {K : PySem.W.Frag} {mg : Str → Option Value} {base : Heap}
variable {fG fS fC fD : Addr} {dG dS dC dD : FuncData}

def spCheckG : Sp := fun vs H Q _ => ∃ v g, vs = [v] ∧ RD H v g ∧ gameD g = true ∧ ∀ H', Same H H' → Q .non H'
theorem ok_checkgame {f : Addr} {fd : FuncData} (F : Fun K "check_game" "check_game" sCheckGame f fd)
    (FG : Fun K "game_fits" "game_fits" sGameFits fG dG) (bG : Binds K dG ["value"] []) (gG : mg "game_fits" = some (.ref fG)) (GG : FnOk P w K mg base CX0 6 fG dG ["value"] (spKc Slim gameD)) :
    FnOk P w K mg base CX0 7 f fd ["game"] spCheckG := by
  refine F.ok scCheckGame (fun vs H Q E h => ?_) (fun cdv A outer s H vs Q E hr h => ?_)
  · obtain ⟨v, d, rfl, _⟩ := h
    rfl
  · obtain ⟨v, g, rfl, rd, hg, q⟩ := h
    refine ⟨_, pss_one (ps_if (pt_not (pt_val (pe_call GG hr (by rfl) gG FG.kp bG .nil pass0 (pa_cons (pv 0) pa_nil)))) pss_never pss_nil), ?_⟩
    refine ⟨v, rfl, v, g, rfl, rd, slim_game hg, fun H1 S => ⟨_, rfl, ?_⟩⟩
    rw [hg]
    exact iteF (q H1 S)

def spCheckS : Sp := fun vs H Q _ => ∃ s : Int, vs = [.int s] ∧ (s = 0 ∨ s = 1) ∧ ∀ H', Same H H' → Q .non H'
theorem ok_checkside {f : Addr} {fd : FuncData} (F : Fun K "check_side" "check_side" sCheckSide f fd)
    (FS : Fun K "side_fits" "side_fits" sSideFits fS dS) (bS : Binds K dS ["value"] []) (gS : mg "side_fits" = some (.ref fS)) (GS : FnOk P w K mg base CX0 2 fS dS ["value"] spSideFits) :
    FnOk P w K mg base CX0 3 f fd ["side"] spCheckS := by
  refine F.ok scCheckSide (fun vs H Q E h => ?_) (fun cdv A outer s H vs Q E hr h => ?_)
  · obtain ⟨v, rfl, _⟩ := h
    rfl
  · obtain ⟨sd, rfl, hs, q⟩ := h
    refine ⟨_, pss_one (ps_if (pt_not (pt_val (pe_call GS hr (by rfl) gS FS.kp bS .nil pass0 (pa_cons (pv 0) pa_nil)))) pss_never pss_nil), ?_⟩
    exact ⟨.int sd, rfl, sd, rfl, hs, fun H1 S => ⟨_, rfl, iteF (q H1 S)⟩⟩

def spCheckGS : Sp := fun vs H Q _ => ∃ v g s, vs = [v, .int s] ∧ RD H v g ∧ gameD g = true ∧ (s = 0 ∨ s = 1) ∧ ∀ H', Same H H' → Q .non H'
theorem ok_checkgs {f : Addr} {fd : FuncData} (F : Fun K "check_game_and_side" "check_game_and_side" sCheckGameAndSide f fd)
    (FG : Fun K "check_game" "check_game" sCheckGame fG dG) (bG : Binds K dG ["game"] []) (gG : mg "check_game" = some (.ref fG)) (GG : FnOk P w K mg base CX0 7 fG dG ["game"] spCheckG)
    (FS : Fun K "check_side" "check_side" sCheckSide fS dS) (bS : Binds K dS ["side"] []) (gS : mg "check_side" = some (.ref fS)) (GS : FnOk P w K mg base CX0 3 fS dS ["side"] spCheckS) :
    FnOk P w K mg base CX0 8 f fd ["game", "side"] spCheckGS := by
  refine F.ok scCheckGameAndSide (fun vs H Q E h => ?_) (fun cdv A outer s H vs Q E hr h => ?_)
  · obtain ⟨v, g, sd, rfl, _⟩ := h
    rfl
  · obtain ⟨v, g, sd, rfl, rd, hg, hs, q⟩ := h
    have hr3 := hr.mono (show 3 ≤ 7 by omega)
    refine ⟨_, pss_cons (ps_expr (pe_call GG hr (by rfl) gG FG.kp bG .nil pass0 (pa_cons (pv 0) pa_nil)))
      (pss_one (ps_expr (pe_call GS hr3 (by rfl) gS FS.kp bS .nil pass0 (pa_cons (pv 1) pa_nil)))), ?_⟩
    exact ⟨v, rfl, v, g, rfl, rd, hg, fun H1 S => ⟨.int sd, rfl, sd, rfl, hs, fun H2 S2 => q H2 (S.trans S2)⟩⟩

theorem ok_isgame {f : Addr} {fd : FuncData} (F : Fun K "is_game" "is_game" sIsGame f fd)
    (FG : Fun K "game_fits" "game_fits" sGameFits fG dG) (bG : Binds K dG ["value"] []) (gG : mg "game_fits" = some (.ref fG)) (GG : FnOk P w K mg base CX0 6 fG dG ["value"] (spKc Slim gameD)) :
    FnOk P w K mg base CX0 7 f fd ["value"] (spKc Slim gameD) := by
  refine F.ok scIsGame (fun vs H Q E h => ?_) (fun cdv A outer s H vs Q E hr h => ?_)
  · obtain ⟨v, d, rfl, _⟩ := h
    rfl
  · obtain ⟨v, d, rfl, rd, hs, q⟩ := h
    refine ⟨_, pss_one (ps_ret (pe_call GG hr (by rfl) gG FG.kp bG .nil pass0 (pa_cons (pv 0) pa_nil))), ?_⟩
    exact ⟨v, rfl, v, d, rfl, rd, hs, q⟩

theorem ok_ismix {f : Addr} {fd : FuncData} (F : Fun K "is_mix" "is_mix" sIsMix f fd)
    (FC : Fun K "check_game_and_side" "check_game_and_side" sCheckGameAndSide fC dC) (bC : Binds K dC ["game", "side"] []) (gC : mg "check_game_and_side" = some (.ref fC)) (GC : FnOk P w K mg base CX0 8 fC dC ["game", "side"] spCheckGS)
    (FD : Fun K "mix_fits" "mix_fits" sMixFits fD dD) (bD : Binds K dD ["game", "side", "value"] []) (gD : mg "mix_fits" = some (.ref fD)) (GD : FnOk P w K mg base CX0 4 fD dD ["game", "side", "value"] spMixFits) :
    FnOk P w K mg base CX0 9 f fd ["game", "side", "value"] spMixFits := by
  refine F.ok scIsMix (fun vs H Q E h => ?_) (fun cdv A outer s H vs Q E hr h => ?_)
  · obtain ⟨v, g, sd, u, d, rfl, _⟩ := h
    rfl
  · obtain ⟨v, g, sd, u, d, rfl, rd, hg, hs, ru, bd, q⟩ := h
    have hr4 := hr.mono (show 4 ≤ 8 by omega)
    refine ⟨_, pss_cons (ps_expr (pe_call GC hr (by rfl) gC FC.kp bC .nil pass0 (pa_cons (pv 0) (pa_cons (pv 1) pa_nil))))
      (pss_one (ps_ret (pe_call GD hr4 (by rfl) gD FD.kp bD .nil pass0 (pa_cons (pv 0) (pa_cons (pv 1) (pa_cons (pv 2) pa_nil)))))), ?_⟩
    exact ⟨v, rfl, .int sd, rfl, v, g, sd, rfl, rd, hg, hs, fun H1 S => ⟨v, rfl, .int sd, rfl, u, rfl, v, g, sd, u, d, rfl, rd.keep S, hg, hs, ru.keep S, bd, fun H2 S2 => q H2 (S.trans S2)⟩⟩

def spIsLot : Sp := fun vs H Q _ => ∃ v g s u d, vs = [v, .int s, u] ∧ RD H v g ∧ gameD g = true ∧ (s = 0 ∨ s = 1) ∧ RD H u d ∧ lenD d ≤ 1000 ∧ ∀ H', Same H H' → Q (.bl (lotD (sizeD g s) d)) H'
theorem ok_islot {f : Addr} {fd : FuncData} (F : Fun K "is_lot" "is_lot" sIsLot f fd)
    (FC : Fun K "check_game_and_side" "check_game_and_side" sCheckGameAndSide fC dC) (bC : Binds K dC ["game", "side"] []) (gC : mg "check_game_and_side" = some (.ref fC)) (GC : FnOk P w K mg base CX0 8 fC dC ["game", "side"] spCheckGS)
    (FD : Fun K "lot_fits" "lot_fits" sLotFits fD dD) (bD : Binds K dD ["game", "side", "value"] []) (gD : mg "lot_fits" = some (.ref fD)) (GD : FnOk P w K mg base CX0 3 fD dD ["game", "side", "value"] spLotFits) :
    FnOk P w K mg base CX0 9 f fd ["game", "side", "value"] spIsLot := by
  refine F.ok scIsLot (fun vs H Q E h => ?_) (fun cdv A outer s H vs Q E hr h => ?_)
  · obtain ⟨v, g, sd, u, d, rfl, _⟩ := h
    rfl
  · obtain ⟨v, g, sd, u, d, rfl, rd, hg, hs, ru, hl, q⟩ := h
    have hr4 := hr.mono (show 3 ≤ 8 by omega)
    refine ⟨_, pss_cons (ps_expr (pe_call GC hr (by rfl) gC FC.kp bC .nil pass0 (pa_cons (pv 0) (pa_cons (pv 1) pa_nil))))
      (pss_one (ps_ret (pe_call GD hr4 (by rfl) gD FD.kp bD .nil pass0 (pa_cons (pv 0) (pa_cons (pv 1) (pa_cons (pv 2) pa_nil)))))), ?_⟩
    exact ⟨v, rfl, .int sd, rfl, v, g, sd, rfl, rd, hg, hs, fun H1 S => ⟨v, rfl, .int sd, rfl, u, rfl, v, g, sd, u, d, rfl, rd.keep S, hg, ru.keep S, hl, fun H2 S2 => q H2 (S.trans S2)⟩⟩
end
end K01

/-! G5: how deep data is, how long its text; wide integers. -/
namespace GL
open PySem PySem.Spec PyProof.Rows L2

def Nice (n m : Nat) (d : PyData) : Prop := d.showable = true ∧ d.depth ≤ n ∧ d.shown.length ≤ m
theorem Nice.mono {n m n' m' : Nat} {d : PyData} (h : Nice n m d) (a : n ≤ n') (b : m ≤ m') : Nice n' m' d :=
  ⟨h.1, by have := h.2.1; omega, by have := h.2.2; omega⟩
theorem wide10 : (2 : Nat) ^ 1100 ≤ 10 ^ 332 := by
  have h : 2 ^ 1100 ≤ (10 : Nat) ^ 332 := by decide +kernel
  exact h
theorem nice_int {i : Int} (h : i.natAbs < 2 ^ 1100) : Nice 0 340 (.int i) := by
  refine ⟨?_, by simp only [PyData.depth]; omega, ?_⟩
  · have : i.natAbs.log2 < 1920 := PySem.Flt.log2_lt_of (by decide) (Nat.lt_of_lt_of_le h (Nat.pow_le_pow_right (by decide) (by decide)))
    simpa [PyData.showable] using this
  · rw [PyData.shown_int, PySem.ofString_length]
    exact Nat.le_trans (int_text_length_le10 (by decide) (Nat.lt_of_lt_of_le h wide10)) (by decide)
theorem nice_none : Nice 0 340 .none := ⟨by simp [PyData.showable], by simp only [PyData.depth]; omega, by decide +kernel⟩
theorem nice_bool (b : Bool) : Nice 0 340 (.bool b) :=
  ⟨by simp [PyData.showable], by simp only [PyData.depth]; omega, by cases b <;> decide +kernel⟩
theorem nice_all {n m : Nat} : ∀ {ds : List PyData}, (∀ d ∈ ds, Nice n m d) → PyData.showableAll ds = true ∧
    PyData.depthAll ds ≤ n ∧ ((PyData.shownAll ds).map (·.length)).sum ≤ ds.length * m
  | [], _ => ⟨by simp [PyData.showableAll], by simp [PyData.depthAll], by simp [PyData.shownAll]⟩
  | d :: ds, h => by
    obtain ⟨h1, h2, h3⟩ := h d (List.mem_cons_self ..)
    obtain ⟨r1, r2, r3⟩ := nice_all (ds := ds) fun y hy => h y (List.mem_cons_of_mem _ hy)
    refine ⟨by simp [PyData.showableAll, h1, r1], by simp only [PyData.depthAll]; omega, ?_⟩
    simp only [PyData.shownAll, List.map_cons, List.sum_cons, List.length_cons, Nat.add_mul]
    omega
theorem nice_list {n m : Nat} {ds : List PyData} (h : ∀ d ∈ ds, Nice n m d) :
    Nice (n + 1) (ds.length * (m + 2) + 3) (.list ds) := by
  obtain ⟨h1, h2, h3⟩ := nice_all h
  refine ⟨by simpa [PyData.showable] using h1, by simp only [PyData.depth]; omega, ?_⟩
  have := listText_len_le (PyData.shownAll ds)
  rw [PyData.shownAll_length] at this
  simp only [PyData.shown, Nat.mul_add]
  omega
theorem nice_tup {n m : Nat} {ds : List PyData} (h : ∀ d ∈ ds, Nice n m d) :
    Nice (n + 1) (ds.length * (m + 2) + 3) (.tuple ds) := by
  obtain ⟨h1, h2, h3⟩ := nice_all h
  refine ⟨by simpa [PyData.showable] using h1, by simp only [PyData.depth]; omega, ?_⟩
  have := tupleText_len_le (PyData.shownAll ds)
  rw [PyData.shownAll_length] at this
  simp only [PyData.shown, Nat.mul_add]
  omega
/-! ### trees of numbers: of integers below a bound, at most so deep, at most so many beside one another -/
mutual
def treeD (b k : Nat) : Nat → PyData → Prop
  | _, .int i => i.natAbs < b
  | n + 1, .tuple ds => ds.length ≤ k ∧ treesD b k n ds
  | _, _ => False
def treesD (b k : Nat) : Nat → List PyData → Prop
  | _, [] => True
  | n, d :: ds => treeD b k n d ∧ treesD b k n ds
end
end GL

/-! G7: the text (repr) of data, where nothing is known of the place of sys.modules. -/
namespace GL
open PySem PySem.Spec PyProof.Rows L2
section
variable {P : Program} {w : World} {H : Hp} {h : Heap}

/-- the text of an object that stands at a: within others, and by itself -/
def TextAt (P : Program) (w : World) (h : Heap) (a : Addr) (d : PyData) : Prop :=
  (∃ bs, ReadAtMost h d.depth bs ∧ ReprK P w bs h d.depth (.ref a) d.shown) ∧
  ∃ T idr, SlotG T "__repr__" idr ∧
    (∀ s : Shared, (∀ b o, h.get? b = some o → s.heap.get? b = some o) → s.TypeIs (.ref a) T) ∧
    ∀ (A : Around) (E : Value → Shared → Prop) (s : Shared) (Q : Value → Shared → Prop), A.guards = some [] →
      A.units + d.depth < cLine → (∀ b o, h.get? b = some o → s.heap.get? b = some o) →
      (∀ h' u tk, (∀ b o, s.heap.get? b = some o → h'.get? b = some o) →
        Q (.str d.shown u) { s with heap := h', toks := tk }) →
      wpAny (model P w) A (call (.builtin idr) [.ref a]) Q E s

theorem textAt_lst {a : Addr} {o : Obj} {l : List Value} {n : Nat} {ds : List PyData} {as bs : List Addr}
    (hg : h.get? a = some o) (hc : o.cls = .type "list") (hd : o.data = .seq l.toArray n)
    (r : ReadsAll h l ds as) (hb : ReadAtMost h (PyData.depthAll ds) bs)
    (hk : ReprAllK P w bs h (PyData.depthAll ds) l (PyData.shownAll ds))
    (hz : (listText (PyData.shownAll ds)).length ≤ sizeLine) : TextAt P w h a (.list ds) := by
  have rr : Reads h (.ref a) (.list ds) (a :: as) := Reads.list hg hc hd (by simpa using r)
  have far : a ∉ bs := not_mem_of_deeper rr (by rw [PyData.depth]; omega) hb
  have up : ReadAtMost h (PyData.list ds).depth (a :: bs) :=
    ReadAtMost.cons rr (by rw [PyData.depth]; omega) hb
  cases l with
  | nil =>
    cases r
    have et : (PyData.list []).shown = ("[]" : Str) := by rw [PyData.shown, PyData.shownAll, listText_nil]
    refine ⟨⟨_, up, ?_⟩, "list", "list.__repr__", F.slot_list_repr.toG, fun s kp => ⟨o, kp _ _ hg, hc⟩, ?_⟩
    · rw [et]; exact ReprK.listEmpty hg hc hd
    · intro A E s Q _ _ kp q
      rw [et] at q
      exact call_list_repr_empty ⟨o, kp _ _ hg, hc⟩ (kp _ _ hg) hd (q s.heap _ _ fun _ _ z => z)
  | cons v l =>
    have len : (PyData.shownAll ds).length = (v :: l).toArray.size := by
      rw [hk.length_eq, List.size_toArray]
    have item : ∀ (i : Nat) (y : Value), (v :: l).toArray[i]? = some y →
        ∃ t, (PyData.shownAll ds)[i]? = some t ∧ ReprK P w bs h (PyData.depthAll ds) y t :=
      fun i y e => hk.item i y (by simpa using e)
    refine ⟨⟨_, up, ?_⟩, "list", "list.__repr__", F.slot_list_repr.toG, fun s kp => ⟨o, kp _ _ hg, hc⟩, ?_⟩
    · rw [PyData.depth, PyData.shown]; exact ReprK.list hg hc hd far len item
    · intro A E s Q gu un kp q
      rw [PyData.shown] at q
      rw [PyData.depth] at un
      exact call_list_reprK hg hc hd far len item gu (fun b _ => Clear.nil b) un kp q hz

theorem textAt_tup {a : Addr} {o : Obj} {l : List Value} {n : Nat} {ds : List PyData} {as bs : List Addr}
    (hg : h.get? a = some o) (hc : o.cls = .type "tuple") (hd : o.data = .seq l.toArray n)
    (r : ReadsAll h l ds as) (hb : ReadAtMost h (PyData.depthAll ds) bs)
    (hk : ReprAllK P w bs h (PyData.depthAll ds) l (PyData.shownAll ds))
    (hz : (tupleText (PyData.shownAll ds)).length ≤ sizeLine) : TextAt P w h a (.tuple ds) := by
  have rr : Reads h (.ref a) (.tuple ds) as := Reads.tuple hg hc hd (by simpa using r)
  have far : a ∉ bs := not_mem_of_deeper rr (by rw [PyData.depth]; omega) hb
  have up : ReadAtMost h (PyData.tuple ds).depth (a :: bs) :=
    ReadAtMost.cons rr (by rw [PyData.depth]; omega) hb
  have hk' : ReprAllK P w bs h (PyData.depthAll ds) l.toArray.toList (PyData.shownAll ds) := by simpa using hk
  refine ⟨⟨_, up, ?_⟩, "tuple", "tuple.__repr__", F.slot_tuple_repr, fun s kp => ⟨o, kp _ _ hg, hc⟩, ?_⟩
  · rw [PyData.depth, PyData.shown]; exact ReprK.tuple hg hc hd far hk'
  · intro A E s Q gu un kp q
    rw [PyData.shown] at q
    rw [PyData.depth] at un
    exact call_tuple_reprK hg hc hd far hk' gu (fun b _ => Clear.nil b) un kp q hz

theorem textAt_dct {a : Addr} {o : Obj} {es : Array DictEntry} {n : Nat} {kvs : List (PyData × PyData)}
    {as₁ as₂ b1 b2 : List Addr}
    (hg : h.get? a = some o) (hc : o.cls = .type "dict") (hd : o.data = .dict es n) (far0 : (a == sysModules) = false)
    (r1 : ReadsAll h (es.toList.map (·.key)) (kvs.map (·.1)) as₁)
    (r2 : ReadsAll h (es.toList.map (·.val)) (kvs.map (·.2)) as₂)
    (hb1 : ReadAtMost h (PyData.depthAll (kvs.map (·.1))) b1) (hb2 : ReadAtMost h (PyData.depthAll (kvs.map (·.2))) b2)
    (k1 : ReprAllK P w b1 h (PyData.depthAll (kvs.map (·.1))) (es.toList.map (·.key)) (PyData.shownAll (kvs.map (·.1))))
    (k2 : ReprAllK P w b2 h (PyData.depthAll (kvs.map (·.2))) (es.toList.map (·.val)) (PyData.shownAll (kvs.map (·.2))))
    (hz : (dictText (PyData.shownKv kvs)).length ≤ sizeLine) : TextAt P w h a (.dict kvs) := by
  have rr : Reads h (.ref a) (.dict kvs) (a :: as₁ ++ as₂) := Reads.dict hg hc hd r1 r2
  have hb : ReadAtMost h (PyData.depthKv kvs) (b1 ++ b2) :=
    ReadAtMost.append (hb1.mono (PyData.depthAll_keys_le kvs)) (hb2.mono (PyData.depthAll_vals_le kvs))
  have far : a ∉ b1 ++ b2 := not_mem_of_deeper rr (by rw [PyData.depth]; omega) hb
  have up : ReadAtMost h (PyData.dict kvs).depth (a :: (b1 ++ b2)) :=
    ReadAtMost.cons rr (by rw [PyData.depth]; omega) hb
  have ent := ReprEntriesK.of_two es.toList _ _
    (k1.more_le (as' := b1 ++ b2) (fun b m => List.mem_append_left _ m) (PyData.depthAll_keys_le kvs))
    (k2.more_le (as' := b1 ++ b2) (fun b m => List.mem_append_right _ m) (PyData.depthAll_vals_le kvs))
  rw [← PyData.shownKv_eq] at ent
  refine ⟨⟨_, up, ?_⟩, "dict", "dict.__repr__", F.slot_dict_repr, fun s kp => ⟨o, kp _ _ hg, hc⟩, ?_⟩
  · rw [PyData.depth, PyData.shown]; exact ReprK.dict hg hc hd far0 far ent
  · intro A E s Q gu un kp q
    rw [PyData.shown] at q
    rw [PyData.depth] at un
    exact call_dict_reprK hg hc hd far0 far ent gu (fun b _ => Clear.nil b) un kp q hz

theorem shownAll_mem {ds : List PyData} {d : PyData} (m : d ∈ ds) : d.shown ∈ PyData.shownAll ds := by
  induction ds with
  | nil => cases m
  | cons x xs ih =>
    rw [PyData.shownAll]
    rcases List.mem_cons.mp m with e | e
    · rw [e]; exact List.mem_cons_self ..
    · exact List.mem_cons_of_mem _ (ih e)

mutual
theorem RD.texts (ok : HOk P w H h) : ∀ {v : V} {d : PyData} {u : Value}, RD H v d → RelV v u →
    d.showable = true → d.shown.length ≤ sizeLine →
    ∃ as bs, Reads h u d as ∧ ReadAtMost h d.depth bs ∧ ReprK P w bs h d.depth u d.shown ∧
      ∀ a, u = .ref a → TextAt P w h a d
  | _, _, _, .non, r, _, _ => by
    cases (show _ = Value.none from r)
    exact ⟨_, [], .none, (fun _ m => nomatch m), by rw [PyData.shown]; exact .of_is ReprIs.none _ _ _, fun _ e => (nomatch e)⟩
  | _, _, _, .bl b, r, _, _ => by
    cases (show _ = Value.bool b from r)
    exact ⟨_, [], .bool b, (fun _ m => nomatch m), by rw [PyData.shown]; exact .of_is (ReprIs.bool b) _ _ _, fun _ e => (nomatch e)⟩
  | _, _, _, .int i, r, hs, _ => by
    obtain ⟨t, e⟩ := (show ∃ t, _ = Value.int i t from r)
    subst e
    exact ⟨_, [], .int i t, (fun _ m => nomatch m),
      by rw [PyData.shown]; exact .of_is (ReprIs.int t (by simpa [PyData.showable] using hs)) _ _ _, fun _ e => (nomatch e)⟩
  | _, _, _, .str x, r, _, hz => by
    obtain ⟨t, e⟩ := (show ∃ t, _ = Value.str x t from r)
    subst e
    exact ⟨_, [], .str x t, (fun _ m => nomatch m),
      by rw [PyData.shown]; exact .of_is (ReprIs.str x t (by simpa only [PyData.shown] using hz)) _ _ _, fun _ e => (nomatch e)⟩
  | _, _, _, .lst (a := a) e rs, r, hs, hz => by
    cases (show _ = Value.ref a from r)
    rw [PyData.shown] at hz
    obtain ⟨_, its, n, rv, hg⟩ := (ok a _ e : ObjOk P w H h a (.lst _))
    obtain ⟨as, bs, h1, h2, h3⟩ := RDs.texts ok rs rv (by simpa [PyData.showable] using hs)
      fun d m => Nat.le_trans (listText_mem_le (shownAll_mem m)) hz
    have t := textAt_lst hg rfl rfl h1 h2 h3 hz
    obtain ⟨⟨cs, c1, c2⟩, _⟩ := id t
    exact ⟨_, cs, Reads.list hg rfl rfl (by simpa using h1), c1, c2, fun b q => by cases q; exact t⟩
  | _, _, _, .tup (a := a) e rs, r, hs, hz => by
    cases (show _ = Value.ref a from r)
    rw [PyData.shown] at hz
    obtain ⟨_, its, rv, o, hg, hc, n, hd⟩ := (ok a _ e : ObjOk P w H h a (.tup _))
    obtain ⟨as, bs, h1, h2, h3⟩ := RDs.texts ok rs rv (by simpa [PyData.showable] using hs)
      fun d m => Nat.le_trans (tupleText_mem_le (shownAll_mem m)) hz
    have t := textAt_tup hg hc hd h1 h2 h3 hz
    obtain ⟨⟨cs, c1, c2⟩, _⟩ := id t
    exact ⟨_, cs, Reads.tuple hg hc hd (by simpa using h1), c1, c2, fun b q => by cases q; exact t⟩
  | _, _, _, .dct (a := a) (kvs := kvs) (ds := ds) e rs, r, hs, hz => by
    cases (show _ = Value.ref a from r)
    rw [PyData.shown] at hz
    obtain ⟨_, hy, vs, kv, o, es, ep, hg, hx, hd, _, hp, _⟩ := (ok a _ e : ObjOk P w H h a (.dK kvs))
    have hl := RDs.length rs
    obtain ⟨q1, q2⟩ := PyData.showableKv_split (kvD kvs ds) (by simpa [PyData.showable] using hs)
    rw [kvD_snd kvs ds hl] at q2
    obtain ⟨as, bs, h1, h2, h3⟩ := RDs.texts ok rs (vals_of_KV kv) q2 fun d m => by
      obtain ⟨p, hp', le⟩ := PyData.shownKv_val_le (kvD kvs ds) d.shown
        (by rw [kvD_snd kvs ds hl]; exact shownAll_mem m)
      exact Nat.le_trans le (Nat.le_trans (dictText_mem_le hp') hz)
    obtain ⟨k1, k2⟩ := reads_keys (h := h) hp kv
    rw [← kvD_fst kvs ds hl] at k1
    obtain ⟨cs, c1, c2⟩ := ReprAllK.of_readsAll (prog := P) (w := w) k1 q1 (fun _ m => nomatch m) fun t ht => by
      obtain ⟨p, hp', le⟩ := PyData.shownKv_key_le (kvD kvs ds) t ht
      exact Nat.le_trans le (Nat.le_trans (dictText_mem_le hp') hz)
    rw [← k2, ← kvD_snd kvs ds hl] at h1
    rw [← kvD_snd kvs ds hl] at h2
    rw [← k2, ← kvD_snd kvs ds hl] at h3
    have t := textAt_dct hg hx.1 hd hy k1 h1 c1 h2 c2 h3 hz
    obtain ⟨⟨cs, z1, z2⟩, _⟩ := id t
    exact ⟨_, cs, Reads.dict hg hx.1 hd k1 h1, z1, z2, fun b q => by cases q; exact t⟩
theorem RDs.texts (ok : HOk P w H h) : ∀ {vs : List V} {ds : List PyData} {us : List Value}, RDs H vs ds → Vals vs us →
    PyData.showableAll ds = true → (∀ d ∈ ds, d.shown.length ≤ sizeLine) →
    ∃ as bs, ReadsAll h us ds as ∧ ReadAtMost h (PyData.depthAll ds) bs ∧
      ReprAllK P w bs h (PyData.depthAll ds) us (PyData.shownAll ds)
  | _, _, _, .nil, .nil, _, _ => ⟨_, [], .nil, (fun _ m => nomatch m), by rw [PyData.shownAll]; exact .nil⟩
  | _, _, _, .cons (d := d) (ds := ds) a b, .cons r t, hs, hz => by
    have hs' : d.showable = true ∧ PyData.showableAll ds = true := by simpa [PyData.showableAll] using hs
    obtain ⟨as1, b1, q1, q2, q3, _⟩ := RD.texts ok a r hs'.1 (hz _ (List.mem_cons_self ..))
    obtain ⟨as2, b2, p1, p2, p3⟩ := RDs.texts ok b t hs'.2 fun d m => hz d (List.mem_cons_of_mem _ m)
    have l1 : d.depth ≤ PyData.depthAll (d :: ds) := by rw [PyData.depthAll]; exact Nat.le_max_left _ _
    have l2 : PyData.depthAll ds ≤ PyData.depthAll (d :: ds) := by rw [PyData.depthAll]; exact Nat.le_max_right _ _
    refine ⟨_, b1 ++ b2, .cons q1 p1, ReadAtMost.append (q2.mono l1) (p2.mono l2), ?_⟩
    rw [PyData.shownAll]
    exact .cons ((q3.more fun b m => List.mem_append_left _ m).level_le l1)
      (p3.more_le (fun b m => List.mem_append_right _ m) l2)
end
end

theorem call_reprD {X : Cx} (hg : X.A.guards = some []) (hu : X.A.units + 150 < cLine) :
    CallR X (.builtin "repr") rRepr := by
  intro pins s σ H xs us Q I r h
  obtain ⟨v, d, rfl, rd, hsh, hdp, hsz, q⟩ := h
  obtain ⟨u, rfl, rv⟩ := vals1 r
  obtain ⟨_, _, _, _, _, big⟩ := RD.texts I.hok rd rv hsh hsz
  have fin : ∀ a : Addr, u = .ref a →
      wpAny (model X.prog X.w) X.A (call (.builtin "repr") [u]) (EP X pins σ Q) X.xe s := by
    intro a e
    subst e
    obtain ⟨_, T, idr, sl, ty, run⟩ := big a rfl
    refine call_repr_slot (by omega) (ty s fun _ _ z => z) sl
      (run X.A.in1 _ s _ hg (by show X.A.units + 1 + d.depth < cLine; omega) (fun _ _ z => z) fun h' tu tk hk => ⟨_, _, rfl, ?_⟩)
    exact ⟨.str d.shown, H, I.kept hk, ⟨tu, rfl⟩, q⟩
  cases rd with
  | non =>
    cases (show u = Value.none from rv)
    rw [PyData.shown_none] at q
    exact PySem.P.repr_of_none ⟨.str _, H, I.tok _, ⟨_, rfl⟩, q⟩
  | bl b =>
    cases (show u = Value.bool b from rv)
    refine PySem.P.repr_of_bool ⟨.str _, H, I.tok _, ⟨_, rfl⟩, ?_⟩
    rw [PyData.shown_bool] at q
    cases b <;> exact q
  | int i =>
    obtain ⟨t, rfl⟩ := (show ∃ t, u = Value.int i t from rv)
    refine PySem.P.repr_of_int (by simpa [PyData.showable] using hsh) ⟨.str _, H, I.tok _, ⟨_, rfl⟩, ?_⟩
    rw [PyData.shown_int] at q
    exact q
  | str x =>
    obtain ⟨t, rfl⟩ := (show ∃ t, u = Value.str x t from rv)
    rw [PyData.shown_str] at q hsz
    exact PySem.P.repr_of_str ⟨.str _, H, I.tok _, ⟨_, rfl⟩, q⟩ hsz
  | lst e rs => exact fin _ rv
  | tup e rs => exact fin _ rv
  | dct e rs => exact fin _ rv
end GL

/-! Q14: calls by name; _law_told, _law_due, _law_asked. -/
namespace GL
open PySem PySem.Spec PyProof.Rows L2
theorem kbF {K : PySem.W.Frag} {x qual : Str} {st : Stmt} {f : Addr} {fd : FuncData} {ps : List Str} (F : Fun K x qual st f fd) (ks : List Str)
    (g : List Value → List Value → List Value) (gV : List V → List V → List V)
    (rel : ∀ {vs : List V} {us : List Value} {zs : List V} {ws : List Value}, Vals vs us → Vals zs ws → Vals (gV vs zs) (g us ws))
    (h : ∀ (kV doc pm : Value) (an : Option Addr) (cdv ct : Value) (us ws : List Value), (g us ws).length = ps.length →
      bindArgs (PySem.W.fnOf x qual (defArgs st) (defBody st) (defScope st) .none kV doc pm an cdv ct) ⟨us, ks.zip ws⟩ = pure (ps.zip (g us ws))) : KBinds K fd ps ks g gV := by
  obtain ⟨oc, od, kV, doc, pm, an, cdv, ct, osl, rfl, lk, hcd⟩ := F.ex
  exact ⟨fun s us ws _ hl => .of_eq (h kV doc pm an cdv ct us ws hl), rel⟩
/-- one by name; three by name, in two sequences -/
def kw1 {α : Type} : List α → List α → List α
  | [], [a] => [a]
  | _, _ => []
def kwVSG {α : Type} : List α → List α → List α
  | [], [v, s, g] => [g, s, v]
  | _, _ => []
def kwSVG {α : Type} : List α → List α → List α
  | [], [s, v, g] => [g, s, v]
  | _, _ => []
theorem kw1_rel {vs : List V} {us : List Value} {zs : List V} {ws : List Value} (a : Vals vs us) (b : Vals zs ws) : Vals (kw1 vs zs) (kw1 us ws) := by
  cases a with
  | cons _ _ => exact .nil
  | nil =>
    cases b with
    | nil => exact .nil
    | cons r b =>
      cases b with
      | nil => exact .cons r .nil
      | cons _ _ => exact .nil
theorem kwVSG_rel {vs : List V} {us : List Value} {zs : List V} {ws : List Value} (a : Vals vs us) (b : Vals zs ws) : Vals (kwVSG vs zs) (kwVSG us ws) := by
  cases a with
  | cons _ _ => exact .nil
  | nil =>
    cases b with
    | nil => exact .nil
    | cons r1 b =>
      cases b with
      | nil => exact .nil
      | cons r2 b =>
        cases b with
        | nil => exact .nil
        | cons r3 b =>
          cases b with
          | nil => exact .cons r3 (.cons r2 (.cons r1 .nil))
          | cons _ _ => exact .nil
theorem kwSVG_rel {vs : List V} {us : List Value} {zs : List V} {ws : List Value} (a : Vals vs us) (b : Vals zs ws) : Vals (kwSVG vs zs) (kwSVG us ws) := by
  cases a with
  | cons _ _ => exact .nil
  | nil =>
    cases b with
    | nil => exact .nil
    | cons r1 b =>
      cases b with
      | nil => exact .nil
      | cons r2 b =>
        cases b with
        | nil => exact .nil
        | cons r3 b =>
          cases b with
          | nil => exact .cons r3 (.cons r1 (.cons r2 .nil))
          | cons _ _ => exact .nil
end GL
namespace K01
open PySem PySem.Spec PyProof.Rows L2 GL
section
variable {P : Program} {w : World} {K : PySem.W.Frag} {mg : Str → Option Value} {base : Heap}
variable {fG fM fL fS fC fD fT fE : Addr} {dG dM dL dS dC dD dT dE : FuncData}
theorem kb_game (F : Fun K "is_game" "is_game" sIsGame fG dG) : KBinds K dG ["value"] ["value"] kw1 kw1 :=
  kbF F _ _ _ kw1_rel fun kV doc pm an cdv ct us ws h => by
    match us, ws, h with
    | [], [a], _ => rfl
theorem kb_mix (F : Fun K "is_mix" "is_mix" sIsMix fG dG) : KBinds K dG ["game", "side", "value"] ["value", "side", "game"] kwVSG kwVSG :=
  kbF F _ _ _ kwVSG_rel fun kV doc pm an cdv ct us ws h => by
    match us, ws, h with
    | [], [a, b, c], _ => rfl
theorem kb_lot (F : Fun K "is_lot" "is_lot" sIsLot fG dG) : KBinds K dG ["game", "side", "value"] ["side", "value", "game"] kwSVG kwSVG :=
  kbF F _ _ _ kwSVG_rel fun kV doc pm an cdv ct us ws h => by
    match us, ws, h with
    | [], [a, b, c], _ => rfl
end
end K01
namespace K01
open PySem PySem.Spec PyProof.Rows L2 GL
def dueD (way n : Int) (d : PyData) : Bool := if way = 0 then gameD d else if way = 1 then mixD n d else lotD n d
section
variable {P : Program} {w : World} {K : PySem.W.Frag} {mg : Str → Option Value} {base : Heap}
variable {fG fM fL fS fC fD fT fE : Addr} {dG dM dL dS dC dD dT dE : FuncData}
theorem ix_named {a b : V} {named : Int} (h : named = 0 ∨ named = 1) : atI [a, b] named = some (if named = 0 then a else b) := by
  rcases h with rfl | rfl
  · exact atI_nat (j := 0) rfl
  · exact atI_nat (j := 1) rfl

def spTold : Sp := fun vs H Q _ => ∃ way v g s u d named, vs = [.int way, v, .int s, u, .int named] ∧ RD H v g ∧ gameD g = true ∧ (s = 0 ∨ s = 1) ∧ RD H u d ∧ Bdd d ∧ lenD d ≤ 1000 ∧ Slim d ∧
  (named = 0 ∨ named = 1) ∧ ∀ H', Same H H' → Q (.bl (dueD way (sizeD g s) d)) H'
theorem ok_told {f : Addr} {fd : FuncData} (F : Fun K "_law_told" "_law_told" sLTold f fd)
    (FG : Fun K "is_game" "is_game" sIsGame fG dG) (bG : Binds K dG ["value"] []) (gG : mg "is_game" = some (.ref fG)) (GG : FnOk P w K mg base CX0 7 fG dG ["value"] (spKc Slim gameD))
    (FM : Fun K "is_mix" "is_mix" sIsMix fM dM) (bM : Binds K dM ["game", "side", "value"] []) (gM : mg "is_mix" = some (.ref fM)) (GM : FnOk P w K mg base CX0 9 fM dM ["game", "side", "value"] spMixFits)
    (FL : Fun K "is_lot" "is_lot" sIsLot fL dL) (bL : Binds K dL ["game", "side", "value"] []) (gL : mg "is_lot" = some (.ref fL)) (GL' : FnOk P w K mg base CX0 9 fL dL ["game", "side", "value"] spIsLot) :
    FnG P w K mg base CX0 10 f fd ["way", "game", "side", "value", "named"] spTold := by
  refine okG F scLTold (fun vs H Q E h => ?_) (fun cdv A outer s H vs Q E hr hgu h => ?_)
  · obtain ⟨way, v, g, sd, u, d, named, rfl, _⟩ := h
    rfl
  · obtain ⟨way, v, g, sd, u, d, named, rfl, rd, hg, hs, ru, bd, hl, sl, hn, q⟩ := h
    have hr5 := hr.mono (show 7 ≤ 9 by omega)
    refine ⟨_, pss_cons (ps_if (pt_cmpR op_eq (pv 0) pe_int (nomark _))
        (pss_one (ps_ret (pe_ix ix_list (pe_lst (pa_cons (pe_call GG hr5 (by rfl) gG FG.kp bG .nil pass0 (pa_cons (pv 3) pa_nil))
          (pa_cons (pe_callK0G (ofOk GG) hr5 hgu (by rfl) gG FG.kp (kb_game FG) pass0 (pk_cons (pv 3) pk_nil)) pa_nil))) (pv 4) (fun _ _ => rfl)))) pss_nil)
      (pss_cons (ps_if (pt_cmpR op_eq (pv 0) pe_int (nomark _))
        (pss_one (ps_ret (pe_ix ix_list (pe_lst (pa_cons (pe_call GM hr (by rfl) gM FM.kp bM .nil pass0 (pa_cons (pv 1) (pa_cons (pv 2) (pa_cons (pv 3) pa_nil))))
          (pa_cons (pe_callK0G (ofOk GM) hr hgu (by rfl) gM FM.kp (kb_mix FM) pass0 (pk_cons (pv 3) (pk_cons (pv 2) (pk_cons (pv 1) pk_nil)))) pa_nil))) (pv 4) (fun _ _ => rfl)))) pss_nil)
      (pss_one (ps_ret (pe_ix ix_list (pe_lst (pa_cons (pe_call GL' hr (by rfl) gL FL.kp bL .nil pass0 (pa_cons (pv 1) (pa_cons (pv 2) (pa_cons (pv 3) pa_nil))))
          (pa_cons (pe_callK0G (ofOk GL') hr hgu (by rfl) gL FL.kp (kb_lot FL) pass0 (pk_cons (pv 2) (pk_cons (pv 3) (pk_cons (pv 1) pk_nil)))) pa_nil))) (pv 4) (fun _ _ => rfl))))), ?_⟩
    refine ⟨.int way, rfl, rfl, _, rfl, ?_⟩
    rw [dec_int']
    refine ite2 (fun e => ?_) (fun e => ?_)
    · have e0 : way = 0 := of_decide_eq_true e
      have ed : dueD way (sizeD g sd) d = gameD d := if_pos e0
      refine ⟨u, rfl, u, d, rfl, ru, sl, fun H1 S1 => ⟨u, rfl, u, d, rfl, ru.keep S1, sl, fun H2 S2 => ⟨by show 2 ≤ sizeLine; decide, fun l hl2 => ?_⟩⟩⟩
      refine ⟨.int named, rfl, l, _, named, _, rfl, rfl, SqL.of upd_same, ix_named hn, ?_⟩
      rw [ite_self, ← ed]
      exact q _ ((S1.trans S2).trans (same_new hl2))
    · have e0 : way ≠ 0 := fun z => e (decide_eq_true z)
      refine ⟨.int way, rfl, rfl, _, rfl, ?_⟩
      rw [dec_int']
      refine ite2 (fun e1 => ?_) (fun e1 => ?_)
      · have e2 : way = 1 := of_decide_eq_true e1
        have ed : dueD way (sizeD g sd) d = mixD (sizeD g sd) d := by unfold dueD; rw [if_neg e0, if_pos e2]
        refine ⟨v, rfl, .int sd, rfl, u, rfl, v, g, sd, u, d, rfl, rd, hg, hs, ru, bd, fun H1 S1 => ⟨u, rfl, .int sd, rfl, v, rfl, v, g, sd, u, d, rfl, rd.keep S1, hg, hs, ru.keep S1, bd, fun H2 S2 => ⟨by show 2 ≤ sizeLine; decide, fun l hl2 => ?_⟩⟩⟩
        refine ⟨.int named, rfl, l, _, named, _, rfl, rfl, SqL.of upd_same, ix_named hn, ?_⟩
        rw [ite_self, ← ed]
        exact q _ ((S1.trans S2).trans (same_new hl2))
      · have e2 : way ≠ 1 := fun z => e1 (decide_eq_true z)
        have ed : dueD way (sizeD g sd) d = lotD (sizeD g sd) d := by unfold dueD; rw [if_neg e0, if_neg e2]
        refine ⟨v, rfl, .int sd, rfl, u, rfl, v, g, sd, u, d, rfl, rd, hg, hs, ru, hl, fun H1 S1 => ⟨.int sd, rfl, u, rfl, v, rfl, v, g, sd, u, d, rfl, rd.keep S1, hg, hs, ru.keep S1, hl, fun H2 S2 => ⟨by show 2 ≤ sizeLine; decide, fun l hl2 => ?_⟩⟩⟩
        refine ⟨.int named, rfl, l, _, named, _, rfl, rfl, SqL.of upd_same, ix_named hn, ?_⟩
        rw [ite_self, ← ed]
        exact q _ ((S1.trans S2).trans (same_new hl2))

def spDue : Sp := fun vs H Q _ => ∃ way u d n, vs = [.int way, u, .int n] ∧ RD H u d ∧ Bdd d ∧ n ≤ 5 ∧ ∀ H', Same H H' → Q (.bl (dueD way n d)) H'
theorem ok_due {f : Addr} {fd : FuncData} (F : Fun K "_law_due" "_law_due" sLDue f fd)
    (FG : Fun K "_law_is_game" "_law_is_game" sLIsGame fG dG) (bG : Binds K dG ["value"] []) (gG : mg "_law_is_game" = some (.ref fG)) (GG : FnOk P w K mg base CX0 3 fG dG ["value"] (spK gameD))
    (FM : Fun K "_law_is_mix" "_law_is_mix" sLIsMix fM dM) (bM : Binds K dM ["value", "many"] []) (gM : mg "_law_is_mix" = some (.ref fM)) (GM : FnOk P w K mg base CX0 2 fM dM ["value", "many"] spChances)
    (FL : Fun K "_law_is_lot" "_law_is_lot" sLIsLot fL dL) (bL : Binds K dL ["value", "many"] []) (gL : mg "_law_is_lot" = some (.ref fL)) (GL' : FnOk P w K mg base CX0 2 fL dL ["value", "many"] spLLot) :
    FnOk P w K mg base CX0 4 f fd ["way", "value", "many"] spDue := by
  refine F.ok scLDue (fun vs H Q E h => ?_) (fun cdv A outer s H vs Q E hr h => ?_)
  · obtain ⟨way, u, d, n, rfl, _⟩ := h
    rfl
  · obtain ⟨way, u, d, n, rfl, ru, bd, hn, q⟩ := h
    have hr2 := hr.mono (show 2 ≤ 3 by omega)
    refine ⟨_, pss_cons (ps_if (pt_cmpR op_eq (pv 0) pe_int (nomark _))
        (pss_one (ps_ret (pe_call GG hr (by rfl) gG FG.kp bG .nil pass0 (pa_cons (pv 1) pa_nil)))) pss_nil)
      (pss_cons (ps_if (pt_cmpR op_eq (pv 0) pe_int (nomark _))
        (pss_one (ps_ret (pe_call GM hr2 (by rfl) gM FM.kp bM .nil pass0 (pa_cons (pv 1) (pa_cons (pv 2) pa_nil))))) pss_nil)
      (pss_one (ps_ret (pe_call GL' hr2 (by rfl) gL FL.kp bL .nil pass0 (pa_cons (pv 1) (pa_cons (pv 2) pa_nil)))))), ?_⟩
    refine ⟨.int way, rfl, rfl, _, rfl, ?_⟩
    rw [dec_int']
    refine ite2 (fun e => ?_) (fun e => ?_)
    · have e0 : way = 0 := of_decide_eq_true e
      have ed : dueD way n d = gameD d := if_pos e0
      rw [ed] at q
      exact ⟨u, rfl, u, d, rfl, ru, q⟩
    · have e0 : way ≠ 0 := fun z => e (decide_eq_true z)
      refine ⟨.int way, rfl, rfl, _, rfl, ?_⟩
      rw [dec_int']
      refine ite2 (fun e1 => ?_) (fun e1 => ?_)
      · have e2 : way = 1 := of_decide_eq_true e1
        have ed : dueD way n d = mixD n d := by unfold dueD; rw [if_neg e0, if_pos e2]
        rw [ed] at q
        exact ⟨u, rfl, .int n, rfl, u, d, n, rfl, ru, bd, hn, q⟩
      · have e2 : way ≠ 1 := fun z => e1 (decide_eq_true z)
        have ed : dueD way n d = lotD n d := by unfold dueD; rw [if_neg e0, if_neg e2]
        rw [ed] at q
        exact ⟨u, rfl, .int n, rfl, u, d, n, rfl, ru, q⟩

def spAsked : Sp := fun vs H Q _ => ∃ way v g s u d named, vs = [.int way, v, .int s, u, .bl (dueD way (sizeD g s) d), .int named] ∧ RD H v g ∧ gameD g = true ∧ (s = 0 ∨ s = 1) ∧ RD H u d ∧ Bdd d ∧ lenD d ≤ 1000 ∧ Slim d ∧
  (named = 0 ∨ named = 1) ∧ Nice 20 2000000 g ∧ Nice 20 2000000 d ∧ ∀ H', Same H H' → Q (.bl true) H'
theorem ok_asked {f : Addr} {fd : FuncData} (F : Fun K "_law_asked" "_law_asked" sLAsked f fd) (mr : mg "repr" = none) (mi : mg "isinstance" = none) (mb : mg "bool" = none)
    (FT : Fun K "_law_told" "_law_told" sLTold fT dT) (bT : Binds K dT ["way", "game", "side", "value", "named"] []) (gT : mg "_law_told" = some (.ref fT)) (GT : FnG P w K mg base CX0 10 fT dT ["way", "game", "side", "value", "named"] spTold) :
    FnG P w K mg base CX0 11 f fd ["way", "game", "side", "value", "due", "named"] spAsked := by
  refine okG F scLAsked (fun vs H Q E h => ?_) (fun cdv A outer s H vs Q E hr hgu h => ?_)
  · obtain ⟨way, v, g, sd, u, d, named, rfl, _⟩ := h
    rfl
  · obtain ⟨way, v, g, sd, u, d, named, rfl, rd, hg, hs, ru, bd, hl, sl, hn, ng, nd, q⟩ := h
    have hu : (A.deeper (envOfC "_law_asked" (defScope sLAsked) s.heap.objs.size f cdv)).units + 150 < cLine := by
      have := hr.un; omega
    refine ⟨_, pss_cons (ps_set (i := 6) scLAsked.nd rfl (.inl rfl) (pe_callB (call_reprD hgu hu) (by rfl) mr PyProof.Rows.boot_repr (pa_cons (pe_tup (pa_cons (pv 1) (pa_cons (pv 3) pa_nil))) pa_nil)))
      (pss_cons (ps_set (i := 7) scLAsked.nd rfl (.inl rfl) (pe_callG GT hr hgu (by rfl) gT FT.kp bT .nil pass0 (pa_cons (pv 0) (pa_cons (pv 1) (pa_cons (pv 2) (pa_cons (pv 3) (pa_cons (pv 5) pa_nil)))))))
      (pss_one (ps_ret (pe_and (pe_callB call_isi (by rfl) mi (by decide +kernel) (pa_cons (pv 7) (pa_cons (pe_bltn (v := .ty "bool") (by rfl) mb (by decide +kernel) rfl) pa_nil)))
        (pe_and (pe_cmpR op_eq (pv 7) (pv 4) (nomark _))
        (pe_one (pe_cmpR op_eq (pe_callB (call_reprD hgu hu) (by rfl) mr PyProof.Rows.boot_repr (pa_cons (pe_tup (pa_cons (pv 1) (pa_cons (pv 3) pa_nil))) pa_nil)) (pv 6) (nomark _)))))))), ?_⟩
    have n2 : Nice 21 (2 * (2000000 + 2) + 3) (.tuple [g, d]) := nice_tup (ds := [g, d]) fun x hx => by
      rcases List.mem_cons.mp hx with rfl | hx
      · exact ng
      · rcases List.mem_singleton.mp hx with rfl
        exact nd
    have sh := n2.1
    have dp : (PyData.tuple [g, d]).depth ≤ 100 := Nat.le_trans n2.2.1 (by decide)
    have sz : (PyData.tuple [g, d]).shown.length ≤ sizeLine := Nat.le_trans n2.2.2 (by rw [sizeLine_eq]; decide)
    refine ⟨v, rfl, u, rfl, by show 2 ≤ sizeLine; decide, fun p hp => ?_⟩
    have S0 := same_new (o := .tup [v, u]) hp
    refine ⟨.ref p, .tuple [g, d], rfl, .tup upd_same (.cons (rd.keep S0) (.cons (ru.keep S0) .nil)), sh, dp, sz, ?_⟩
    refine ⟨.int way, rfl, v, rfl, .int sd, rfl, u, rfl, .int named, rfl, way, v, g, sd, u, d, named, rfl, rd.keep S0, hg, hs, ru.keep S0, bd, hl, sl, hn, fun H1 S1 => ?_⟩
    refine ⟨_, rfl, _, .ty "bool", .type "bool", .type "bool", true, rfl, .ty _, .base (.bl _), kit_ty (by decide +kernel), true, rfl, iteT ?_⟩
    refine ⟨_, rfl, _, rfl, rfl, _, rfl, ?_⟩
    rw [decide_eq_true rfl]
    have S2 := S0.trans S1
    refine iteT ⟨v, rfl, u, rfl, by show 2 ≤ sizeLine; decide, fun p2 hp2 => ?_⟩
    have S3 := S2.trans (same_new (o := .tup [v, u]) hp2)
    refine ⟨.ref p2, .tuple [g, d], rfl, .tup upd_same (.cons (rd.keep S3) (.cons (ru.keep S3) .nil)), sh, dp, sz, ?_⟩
    refine ⟨_, rfl, rfl, ?_⟩
    rw [decide_eq_true rfl]
    exact q _ S3
end
end K01

/-! Q15: data beside the source; what is drawn in a comprehension; _law_number. -/
namespace K01
open PySem PySem.Spec PyProof.Rows L2 GL

/-! ### data that stands beside some places -/
def hid (l : List Addr) (H : Hp) : Hp := fun b => if b ∈ l then none else H b
theorem hid_of {l : List Addr} {H : Hp} {b : Addr} {o : HO} (h : hid l H b = some o) : b ∉ l ∧ H b = some o := by
  unfold hid at h
  split at h
  · cases h
  · rename_i n; exact ⟨n, h⟩
theorem hid_mk {l : List Addr} {H : Hp} {b : Addr} {o : HO} (n : b ∉ l) (h : H b = some o) : hid l H b = some o := by
  unfold hid; rw [if_neg n]; exact h
/-- the source stands among the places, and all of them are there -/
structure Ctx (l : List Addr) (p sc : Addr) (ns : List Int) (H : Hp) : Prop where
  src : Src H p sc ns
  mem : p ∈ l
  here : ∀ b ∈ l, H b ≠ none
theorem Ctx.kp {l : List Addr} {p sc : Addr} {ns : List Int} {H H' : Hp} (c : Ctx l p sc ns H) (k : Kp p H H') (s : Src H' p sc ns) : Ctx l p sc ns H' :=
  ⟨s, c.mem, fun b hb => by
    by_cases e : b = p
    · obtain ⟨_, _, o, ho, _⟩ := s
      rw [e, ho]; exact fun z => nomatch z
    · have := c.here b hb
      cases hh : H b with
      | none => exact absurd hh this
      | some o => rw [k b o e hh]; exact fun z => nomatch z⟩
theorem Src.at {H : Hp} {p sc : Addr} {ns : List Int} (s : Src H p sc ns) : ∃ o, H p = some o := let ⟨_, _, o, h, _⟩ := s; ⟨o, h⟩
theorem RD.hk {l : List Addr} {p : Addr} {H H' : Hp} {v d} (m : p ∈ l) (k : Kp p H H') (r : RD (hid l H) v d) : RD (hid l H') v d :=
  r.keep fun b o e => by
    obtain ⟨n, e'⟩ := hid_of e
    exact hid_mk n (k b o (fun z => n (z ▸ m)) e')
theorem RDs.hk {l : List Addr} {p : Addr} {H H' : Hp} {v d} (m : p ∈ l) (k : Kp p H H') (r : RDs (hid l H) v d) : RDs (hid l H') v d :=
  RDs.keep (fun b o e => by
    obtain ⟨n, e'⟩ := hid_of e
    exact hid_mk n (k b o (fun z => n (z ▸ m)) e')) r
theorem RD.out {l : List Addr} {H : Hp} {v d} (r : RD (hid l H) v d) : RD H v d := r.keep fun b o e => (hid_of e).2
theorem RDs.out {l : List Addr} {H : Hp} {v d} (r : RDs (hid l H) v d) : RDs H v d := RDs.keep (fun b o e => (hid_of e).2) r
theorem RDs.less {l : List Addr} {D : Addr} {H : Hp} {v d} (r : RDs (hid (D :: l) H) v d) : RDs (hid l H) v d :=
  RDs.keep (fun b o e => by
    obtain ⟨n, e'⟩ := hid_of e
    exact hid_mk (fun z => n (List.mem_cons_of_mem _ z)) e') r
theorem RD.less {l : List Addr} {D : Addr} {H : Hp} {v d} (r : RD (hid (D :: l) H) v d) : RD (hid l H) v d :=
  r.keep fun b o e => by
    obtain ⟨n, e'⟩ := hid_of e
    exact hid_mk (fun z => n (List.mem_cons_of_mem _ z)) e'
theorem RDs.putD {l : List Addr} {D : Addr} {H : Hp} {o : HO} {v d} (r : RDs (hid (D :: l) H) v d) : RDs (hid (D :: l) (upd H D o)) v d :=
  RDs.keep (fun b o e => by
    obtain ⟨n, e'⟩ := hid_of e
    exact hid_mk n (by rw [upd_ne (fun z => n (by rw [z]; exact List.mem_cons_self))]; exact e')) r
theorem not_in {l : List Addr} {p sc : Addr} {ns : List Int} {H : Hp} {a : Addr} (c : Ctx l p sc ns H) (h : H a = none) : a ∉ l := fun z => c.here a z h
/-- a new tuple, a new list of data -/
theorem RD.tupN {l : List Addr} {p sc : Addr} {ns : List Int} {H : Hp} {a : Addr} {xs ds} (c : Ctx l p sc ns H) (h : H a = none) (r : RDs (hid l H) xs ds) :
    RD (hid l (upd H a (.tup xs))) (.ref a) (.tuple ds) :=
  .tup (hid_mk (not_in c h) upd_same) (RDs.hk c.mem (Kp.new h) r)
theorem RD.lstN {l : List Addr} {p sc : Addr} {ns : List Int} {H : Hp} {a : Addr} {xs ds} (c : Ctx l p sc ns H) (h : H a = none) (r : RDs (hid l H) xs ds) :
    RD (hid l (upd H a (.lst xs))) (.ref a) (.list ds) :=
  .lst (hid_mk (not_in c h) upd_same) (RDs.hk c.mem (Kp.new h) r)
theorem Ctx.new {l : List Addr} {p sc : Addr} {ns : List Int} {H : Hp} {a : Addr} {o : HO} (c : Ctx l p sc ns H) (h : H a = none) : Ctx l p sc ns (upd H a o) :=
  c.kp (Kp.new h) (c.src.same (same_new h))
theorem Ctx.put {l : List Addr} {p sc : Addr} {ns : List Int} {H : Hp} {o : HO} (c : Ctx l p sc ns H) (s : SrcO sc o) : Ctx l p sc ns (upd H p o) :=
  c.kp Kp.put (c.src.kp Kp.put o upd_same s)
theorem Ctx.more {l : List Addr} {p sc : Addr} {ns : List Int} {H : Hp} {D : Addr} (c : Ctx l p sc ns H) (h : H D ≠ none) : Ctx (D :: l) p sc ns H :=
  ⟨c.src, List.mem_cons_of_mem _ c.mem, fun b hb => by
    rcases List.mem_cons.mp hb with rfl | hb
    · exact h
    · exact c.here b hb⟩

/-! ### a list that is drawn, item by item -/
/-- so far: i items at D, all new beside l, all of the kind C -/
def Dr (l : List Addr) (p sc : Addr) (ns : List Int) (H1 : Hp) (D : Addr) (C : PyData → Prop) (i : Nat) (H : Hp) : Prop :=
  ∃ vs ds, H D = some (.lst vs) ∧ vs.length = i ∧ RDs (hid (D :: l) H) vs ds ∧ (∀ d ∈ ds, C d) ∧ Kp p H1 H ∧ Ctx (D :: l) p sc ns H
theorem Ctx.putD {l : List Addr} {p sc : Addr} {ns : List Int} {H : Hp} {D : Addr} {o : HO} (c : Ctx (D :: l) p sc ns H) (n1 : D ≠ p) (n2 : D ≠ sc) : Ctx (D :: l) p sc ns (upd H D o) := by
  obtain ⟨⟨n, hs, u, hu, so⟩, m, hr⟩ := c
  refine ⟨⟨n, by rw [upd_ne n2.symm]; exact hs, u, by rw [upd_ne n1.symm]; exact hu, so⟩, m, fun b hb => ?_⟩
  by_cases e : b = D
  · rw [e, upd_same]; exact fun z => nomatch z
  · rw [upd_ne e]; exact hr b hb
theorem Dr.zero {l : List Addr} {p sc : Addr} {ns : List Int} {H1 : Hp} {D : Addr} {C : PyData → Prop} (c : Ctx l p sc ns H1) (hD : H1 D = none) : Dr l p sc ns H1 D C 0 (upd H1 D (.lst [])) :=
  ⟨[], [], upd_same, rfl, .nil, (fun _ h => by cases h), Kp.new hD, (c.new hD).more (by rw [upd_same]; exact fun z => nomatch z)⟩
theorem Dr.step {l : List Addr} {p sc : Addr} {ns : List Int} {H1 H H' : Hp} {D : Addr} {C : PyData → Prop} {i : Nat} {v : V} {d : PyData} (h : Dr l p sc ns H1 D C i H) (hD : H1 D = none) (c1 : Ctx l p sc ns H1) (hi : i < 1000000)
    (k : Kp p H H') (c : Ctx (D :: l) p sc ns H') (r : RD (hid (D :: l) H') v d) (cd : C d) :
    ∃ acc, H' D = some (.lst acc) ∧ acc.length < sizeLine ∧ Dr l p sc ns H1 D C (i + 1) (upd H' D (.lst (acc ++ [v]))) := by
  obtain ⟨vs, ds, e, hl, rs, hc, k0, c0⟩ := h
  have nDp : D ≠ p := fun z => by obtain ⟨o, ho⟩ := c1.src.at; rw [← z, hD] at ho; cases ho
  have nDs : D ≠ sc := fun z => by have := c1.src.2.1; rw [← z, hD] at this; cases this
  refine ⟨vs, k D _ nDp e, by rw [sizeLine_eq]; omega, vs ++ [v], ds ++ [d], upd_same, by rw [List.length_append]; show _ + 1 = _; omega, ?_, ?_, ?_, c.putD nDp nDs⟩
  · exact RDs.putD (RDs.snoc r (RDs.hk c0.mem k rs))
  · intro x hx
    rcases List.mem_append.mp hx with hx | hx
    · exact hc x hx
    · rcases List.mem_singleton.mp hx with rfl; exact cd
  · intro b o n e2
    rw [upd_ne (ne_of_none e2 hD)]
    exact k b o n (k0 b o n e2)
theorem Dr.ctx {l : List Addr} {p sc : Addr} {ns : List Int} {H1 H : Hp} {D : Addr} {C : PyData → Prop} {i : Nat} (h : Dr l p sc ns H1 D C i H) : Ctx (D :: l) p sc ns H := by
  obtain ⟨_, _, _, _, _, _, _, c⟩ := h; exact c
theorem Dr.kp {l : List Addr} {p sc : Addr} {ns : List Int} {H1 H : Hp} {D : Addr} {C : PyData → Prop} {i : Nat} (h : Dr l p sc ns H1 D C i H) : Kp p H1 H := by
  obtain ⟨_, _, _, _, _, _, k, _⟩ := h; exact k
theorem Ctx.tail {l : List Addr} {p sc : Addr} {ns : List Int} {H H0 : Hp} {D : Addr} (c : Ctx (D :: l) p sc ns H) (c0 : Ctx l p sc ns H0) : Ctx l p sc ns H :=
  ⟨c.src, c0.mem, fun b hb => c.here b (List.mem_cons_of_mem _ hb)⟩

section
variable {P : Program} {w : World} {K : PySem.W.Frag} {mg : Str → Option Value} {base : Heap}
/-- an integer of -1000 to 1000 -/
def NumC : PyData → Prop := fun d => ∃ i : Int, d = .int i ∧ -1000 ≤ i ∧ i ≤ 1000
/-- what is told new: data of a kind, the source there still -/
def Tells (l : List Addr) (p sc : Addr) (ns : List Int) (H : Hp) (C : PyData → Prop) (Q : VK) : Prop :=
  ∀ H' v d, Kp p H H' → Ctx l p sc ns H' → RD (hid l H') v d → C d → Q v H'
def spNumber : Sp := fun vs H Q _ => ∃ l p sc ns kind, vs = [.ref p, .int kind] ∧ 0 ≤ kind ∧ kind < 5 ∧ Ctx l p sc ns H ∧ Tells l p sc ns H NumC Q
variable {fP fN : Addr} {dP dN : FuncData}
theorem ok_number {f : Addr} {fd : FuncData} (F : Fun K "_law_number" "_law_number" sLNumber f fd)
    (FP : Fun K "_law_pick" "_law_pick" sLPick fP dP) (bP : Binds K dP ["source", "many"] []) (gP : mg "_law_pick" = some (.ref fP)) (GP : FnOk P w K mg base CX0 1 fP dP ["source", "many"] (spPick 0)) :
    FnOk P w K mg base CX0 2 f fd ["source", "kind"] spNumber := by
  refine F.ok scLNumber (fun vs H Q E h => ?_) (fun cdv A outer s H vs Q E hr h => ?_)
  · obtain ⟨l, p, sc, ns, kind, rfl, _⟩ := h
    rfl
  · obtain ⟨l, p, sc, ns, kind, rfl, h0, h5, c, q⟩ := h
    refine ⟨_, pss_cons (ps_if (pt_cmpR op_lt (pv 1) pe_int (nomark _))
        (pss_one (ps_ret (pe_op op_sub (pe_call GP hr (by rfl) gP FP.kp bP .nil pass0 (pa_cons (pv 0) (pa_cons (pe_ix ix_list (pe_lst (pa_cons pe_int (pa_cons pe_int (pa_cons pe_int pa_nil)))) (pv 1) (fun _ _ => rfl)) pa_nil)))
          (pe_ix ix_list (pe_lst (pa_cons pe_int (pa_cons pe_int (pa_cons pe_int pa_nil)))) (pv 1) (fun _ _ => rfl))))) pss_nil)
      (pss_cons (ps_if (pt_cmpR op_eq (pv 1) pe_int (nomark _))
        (pss_one (ps_ret (pe_ix ix_list (pe_lst (pa_cons (pe_un un_neg pe_int) (pa_cons pe_int (pa_cons pe_int (pa_cons pe_int pa_nil))))) (pe_call GP hr (by rfl) gP FP.kp bP .nil pass0 (pa_cons (pv 0) (pa_cons pe_int pa_nil))) (fun _ _ => rfl)))) pss_nil)
      (pss_one (ps_ret (pe_op op_sub (pe_call GP hr (by rfl) gP FP.kp bP .nil pass0 (pa_cons (pv 0) (pa_cons pe_int pa_nil))) pe_int)))), ?_⟩
    have mo : most 0 = 100000 := rfl
    have big : ∀ m : Int, 0 < m → m ≤ 100000 → m < 2 ^ 1100 := fun m _ h => by
      have : (100000 : Int) < 2 ^ 1100 := by decide +kernel
      omega
    refine ⟨.int kind, rfl, _, _, rfl, rfl, _, rfl, ite2 (fun e => ?_) (fun e => ?_)⟩
    · have e3 : kind < 3 := of_decide_eq_true e
      obtain ⟨m, sb, a1, a2, m0, m9, s0, s4⟩ : ∃ m sb : Int, atI [V.int 2, .int 3, .int 9] kind = some (.int m) ∧ atI [V.int 0, .int 1, .int 4] kind = some (.int sb) ∧ 0 < m ∧ m ≤ 9 ∧ 0 ≤ sb ∧ sb ≤ 4 := by
        rcases (show kind = 0 ∨ kind = 1 ∨ kind = 2 by omega) with rfl | rfl | rfl
        · exact ⟨2, 0, atI_nat (j := 0) rfl, atI_nat (j := 0) rfl, by decide, by decide, by decide, by decide⟩
        · exact ⟨3, 1, atI_nat (j := 1) rfl, atI_nat (j := 1) rfl, by decide, by decide, by decide, by decide⟩
        · exact ⟨9, 4, atI_nat (j := 2) rfl, atI_nat (j := 2) rfl, by decide, by decide, by decide, by decide⟩
      refine ⟨.ref p, rfl, by show 3 ≤ sizeLine; decide, fun l1 hl1 => ⟨.int kind, rfl, l1, _, kind, .int m, rfl, rfl, SqL.of upd_same, a1, p, sc, ns, m, rfl, m0, by rw [mo]; omega, big m m0 (by omega), (c.new hl1).src, fun r o1 r0 r1 so => ?_⟩⟩
      have c1 := (c.new (o := .lst [.int 2, .int 3, .int 9]) hl1).put so
      refine ⟨by show 3 ≤ sizeLine; decide, fun l2 hl2 => ⟨.int kind, rfl, l2, _, kind, .int sb, rfl, rfl, SqL.of upd_same, a2, _, _, rfl, rfl, ?_⟩⟩
      exact q _ _ _ ((Kp.new hl1).trans (Kp.put.trans (Kp.new hl2))) (c1.new hl2) (.int (r - sb)) ⟨r - sb, rfl, by omega, by omega⟩
    · refine ⟨.int kind, rfl, rfl, _, rfl, ite2 (fun e1 => ?_) (fun e1 => ?_)⟩
      · refine ⟨1000, rfl, by show 4 ≤ sizeLine; decide, fun l1 hl1 => ⟨.ref p, rfl, p, sc, ns, 4, rfl, by decide, by rw [mo]; decide, big 4 (by decide) (by decide), (c.new hl1).src, fun r o1 r0 r1 so => ?_⟩⟩
        have np : l1 ≠ p := fun z => by obtain ⟨o, ho⟩ := c.src.at; rw [← z, hl1] at ho; cases ho
        have hl3 : upd (upd H l1 (.lst [.int (-1000), .int 1000, .int 0, .int 999])) p o1 l1 = some (.lst [.int (-1000), .int 1000, .int 0, .int 999]) := by
          rw [upd_ne np]; exact upd_same
        obtain ⟨m, a1, b1, b2⟩ : ∃ m : Int, atI [V.int (-1000), .int 1000, .int 0, .int 999] r = some (.int m) ∧ -1000 ≤ m ∧ m ≤ 1000 := by
          rcases (show r = 0 ∨ r = 1 ∨ r = 2 ∨ r = 3 by omega) with rfl | rfl | rfl | rfl
          · exact ⟨-1000, atI_nat (j := 0) rfl, by decide, by decide⟩
          · exact ⟨1000, atI_nat (j := 1) rfl, by decide, by decide⟩
          · exact ⟨0, atI_nat (j := 2) rfl, by decide, by decide⟩
          · exact ⟨999, atI_nat (j := 3) rfl, by decide, by decide⟩
        refine ⟨l1, _, r, .int m, rfl, rfl, SqL.of hl3, a1, ?_⟩
        exact q _ _ _ ((Kp.new hl1).trans Kp.put) ((c.new hl1).put so) (.int m) ⟨m, rfl, b1, b2⟩
      · refine ⟨.ref p, rfl, p, sc, ns, 2001, rfl, by decide, by rw [mo]; decide, big 2001 (by decide) (by decide), c.src, fun r o1 r0 r1 so => ⟨_, _, rfl, rfl, ?_⟩⟩
        exact q _ _ _ Kp.put (c.put so) (.int (r - 1000)) ⟨r - 1000, rfl, by omega, by omega⟩
end
end K01

/-! Q16: _law_table, _law_game. -/
namespace K01
open PySem PySem.Spec PyProof.Rows L2 GL
/-- the scope of the comprehension that stands in the last row: tuple([.. for ..]) -/
def scTab : Scope := ⟨.function, [(".0", .local), ("row", .local), ("tuple", .globalImplicit), ("range", .globalImplicit), ("columns", .cell), ("kind", .cell), ("source", .cell)], false, false, []⟩
def scCol : Scope := ⟨.function, [(".0", .local), ("column", .local), ("_law_number", .globalImplicit), ("kind", NameKind.«free»), ("source", NameKind.«free»)], false, false, []⟩
theorem bo_col : BlkOk ["source", "rows", "columns", "kind", "row", "column"] scTab scCol [("column", 5)] := blkOk_by (by decide +kernel)
/-- a row, a table, of so many -/
def RowC (c : Nat) : PyData → Prop := fun d => ∃ es, d = .tuple es ∧ es.length = c ∧ ∀ e ∈ es, NumC e
def TabC (r c : Nat) : PyData → Prop := fun d => ∃ ds, d = .tuple ds ∧ ds.length = r ∧ ∀ e ∈ ds, RowC c e
section
variable {P : Program} {w : World} {K : PySem.W.Frag} {mg : Str → Option Value} {base : Heap}
variable {fP fN fB : Addr} {dP dN dB : FuncData}
theorem small : ∀ m : Int, 0 < m → m ≤ 100000 → m < 2 ^ 1100 := fun m _ h => by
  have : (100000 : Int) < 2 ^ 1100 := by decide +kernel
  omega
def spTable : Sp := fun vs H Q _ => ∃ l p sc ns, ∃ r c : Nat, vs = [.ref p, .int r, .int c] ∧ r ≤ 5 ∧ c ≤ 5 ∧ Ctx l p sc ns H ∧ Tells l p sc ns H (TabC r c) Q
theorem ok_ltab {f : Addr} {fd : FuncData} (F : Fun K "_law_table" "_law_table" sLTable f fd) (mt : mg "tuple" = none) (mr : mg "range" = none)
    (FP : Fun K "_law_pick" "_law_pick" sLPick fP dP) (bP : Binds K dP ["source", "many"] []) (gP : mg "_law_pick" = some (.ref fP)) (GP : FnOk P w K mg base CX0 1 fP dP ["source", "many"] (spPick 0))
    (FN : Fun K "_law_number" "_law_number" sLNumber fN dN) (bN : Binds K dN ["source", "kind"] []) (gN : mg "_law_number" = some (.ref fN)) (GN : FnOk P w K mg base CX0 2 fN dN ["source", "kind"] spNumber) :
    FnOk P w K mg base CX0 3 f fd ["source", "rows", "columns"] spTable := by
  refine F.ok scLTable (fun vs H Q E h => ?_) (fun cdv A outer s H vs Q E hr h => ?_)
  · obtain ⟨l, p, sc, ns, r, c, rfl, _⟩ := h
    rfl
  · obtain ⟨l, p, sc, ns, r, c, rfl, hr5, hc5, c0, q⟩ := h
    have hr1 := hr.mono (show 1 ≤ 2 by omega)
    refine ⟨_, pss_cons (ps_set (i := 3) scLTable.nd rfl (.inr rfl) (pe_call GP hr1 (by rfl) gP FP.kp bP .nil pass0 (pa_cons (pv 0) (pa_cons pe_int pa_nil))))
      (pss_one (ps_ret (pe_callTy call_tuple_of (by rfl) mt (by decide +kernel) (pa_cons
        (pe_lc (own := [("row", 4)]) (g := gName 4) (tt := tYes) rfl scLTable.nd (pi_range1 (by rfl) mr (pa_cons (pv 1) pa_nil))
          (blkOk_by (own := [("row", 4)]) (N := ["source", "rows", "columns", "kind", "row", "column"]) (sc := defScope sLTable) (by decide +kernel))
          (fun _ _ _ _ _ => pg_name (i := 4) scLTable.nd rfl (Or.inl rfl)) (fun _ _ _ _ _ => pts_nil)
          (fun _ _ _ _ _ => pe_callTy (show CallR _ (.type "tuple") (fun xs H Q => ∃ p ys, xs = [.ref p] ∧ ((SqL K H p ys ∧ ∀ l, H l = none → Q (.ref l) (upd H l (.tup ys))) ∨ (SqT K H p ys ∧ Q (.ref p) H))) from call_tuple_of) (by rfl) mt (by decide +kernel) (pa_cons
            (pe_lc (own := [("column", 5)]) (g := gName 5) (tt := tYes) rfl scLTable.nd (pi_range1 (by rfl) mr (pa_cons (pv 2) pa_nil))
              bo_col
              (fun _ _ _ _ _ => pg_name (i := 5) scLTable.nd rfl (Or.inl rfl)) (fun _ _ _ _ _ => pts_nil)
              (fun _ _ _ _ _ => pe_call GN hr (by rfl) gN FN.kp bN .nil pass0 (pa_cons (pv 0) (pa_cons (pv 3) pa_nil)))) pa_nil))) pa_nil)))), ?_⟩
    have mo : most 0 = 100000 := rfl
    refine ⟨.ref p, rfl, p, sc, ns, 5, rfl, by decide, by rw [mo]; decide, small 5 (by decide) (by decide), c0.src, fun kd o1 k0 k1 so => ?_⟩
    have c1 := c0.put so
    have kp1 : Kp p H (upd H p o1) := Kp.put
    generalize upd H p o1 = H1 at c1 kp1
    refine ⟨.int r, rfl, r, rfl, by omega, by omega, fun D hD => lc_range (fun i H' => Dr l p sc ns H1 D (RowC c) i H') (.zero c1 hD) (fun i H2 hi pv0 => ⟨rfl, ?_⟩) (fun H2 pv0 => ?_)⟩
    · have c2 := pv0.ctx
      refine ⟨.int c, rfl, c, rfl, by omega, by omega, fun D2 hD2 => lc_range (fun j H' => Dr (D :: l) p sc ns H2 D2 NumC j H') (.zero c2 hD2) (fun j H3 hj pv1 => ⟨rfl, ?_⟩) (fun H3 pv1 => ?_)⟩
      · have c3 := pv1.ctx
        refine ⟨.ref p, rfl, .int kd, rfl, D2 :: D :: l, p, sc, ns, kd, rfl, k0, by omega, c3, fun H4 v d k4 c4 r4 cd => ?_⟩
        exact pv1.step hD2 c2 (by omega) k4 c4 r4 cd
      · have c3 := pv1.ctx
        have k3 := pv1.kp
        obtain ⟨vs, ds, e, hl, rs, hc, _, _⟩ := pv1
        have c4 : Ctx (D :: l) p sc ns H3 := c3.tail c2
        refine ⟨D2, vs, rfl, .inl ⟨SqL.of e, fun t ht => ?_⟩⟩
        refine pv0.step hD c1 (by omega) (k3.trans (Kp.new ht)) (c4.new ht) (RD.tupN c4 ht (RDs.less rs)) ⟨ds, rfl, ?_, hc⟩
        rw [← RDs.length rs, hl]; omega
    · have c3 := pv0.ctx
      have k3 := pv0.kp
      obtain ⟨vs, ds, e, hl, rs, hc, _, _⟩ := pv0
      have c4 : Ctx l p sc ns H2 := c3.tail c1
      refine ⟨D, vs, rfl, .inl ⟨SqL.of e, fun t ht => ?_⟩⟩
      refine q _ _ _ (kp1.trans (k3.trans (Kp.new ht))) (c4.new ht) (RD.tupN c4 ht (RDs.less rs)) ⟨ds, rfl, ?_, hc⟩
      rw [← RDs.length rs, hl]; omega

/-- a game of so many rows and columns -/
def GamC (r c : Nat) : PyData → Prop := fun d => ∃ x y, d = .tuple [x, y] ∧ TabC r c x ∧ TabC r c y
def spGame : Sp := fun vs H Q _ => ∃ l p sc ns, vs = [.ref p, .int 5] ∧ Ctx l p sc ns H ∧ Tells l p sc ns H (fun d => ∃ r c, 1 ≤ r ∧ r ≤ 5 ∧ 1 ≤ c ∧ c ≤ 5 ∧ GamC r c d) Q
theorem ok_lgam {f : Addr} {fd : FuncData} (F : Fun K "_law_game" "_law_game" sLGame f fd)
    (FP : Fun K "_law_pick" "_law_pick" sLPick fP dP) (bP : Binds K dP ["source", "many"] []) (gP : mg "_law_pick" = some (.ref fP)) (GP : FnOk P w K mg base CX0 1 fP dP ["source", "many"] (spPick 0))
    (FB : Fun K "_law_table" "_law_table" sLTable fB dB) (bB : Binds K dB ["source", "rows", "columns"] []) (gB : mg "_law_table" = some (.ref fB)) (GB : FnOk P w K mg base CX0 3 fB dB ["source", "rows", "columns"] spTable) :
    FnOk P w K mg base CX0 4 f fd ["source", "most"] spGame := by
  refine F.ok scLGame (fun vs H Q E h => ?_) (fun cdv A outer s H vs Q E hr h => ?_)
  · obtain ⟨l, p, sc, ns, rfl, _⟩ := h
    rfl
  · obtain ⟨l, p, sc, ns, rfl, c0, q⟩ := h
    have hr1 := hr.mono (show 1 ≤ 3 by omega)
    refine ⟨_, pss_cons (ps_par (i := 2) (j := 3) (by rfl) scLGame.nd rfl rfl (by decide) rfl rfl
        (pa_cons (pe_op op_add pe_int (pe_call GP hr1 (by rfl) gP FP.kp bP .nil pass0 (pa_cons (pv 0) (pa_cons (pv 1) pa_nil))))
        (pa_cons (pe_op op_add pe_int (pe_call GP hr1 (by rfl) gP FP.kp bP .nil pass0 (pa_cons (pv 0) (pa_cons (pv 1) pa_nil)))) pa_nil)) (by rfl))
      (pss_one (ps_ret (pe_tup (pa_cons (pe_call GB hr (by rfl) gB FB.kp bB .nil pass0 (pa_cons (pv 0) (pa_cons (pv 2) (pa_cons (pv 3) pa_nil))))
        (pa_cons (pe_call GB hr (by rfl) gB FB.kp bB .nil pass0 (pa_cons (pv 0) (pa_cons (pv 2) (pa_cons (pv 3) pa_nil)))) pa_nil))))), ?_⟩
    have mo : most 0 = 100000 := rfl
    have b5 := small 5 (by decide) (by decide)
    refine ⟨.ref p, rfl, .int 5, rfl, p, sc, ns, 5, rfl, by decide, by rw [mo]; decide, b5, c0.src, fun r1 o1 x0 x1 so => ⟨_, _, rfl, rfl, ?_⟩⟩
    have c1 := c0.put so
    refine ⟨.ref p, rfl, .int 5, rfl, p, sc, ns, 5, rfl, by decide, by rw [mo]; decide, b5, c1.src, fun r2 o2 y0 y1 so2 => ⟨_, _, rfl, rfl, _, _, rfl, ?_⟩⟩
    have c2 := c1.put so2
    have k2 : Kp p H (upd (upd H p o1) p o2) := Kp.put.trans Kp.put
    generalize upd (upd H p o1) p o2 = H2 at c2 k2
    obtain ⟨m, hm⟩ := Int.eq_ofNat_of_zero_le (show 0 ≤ 1 + r1 by omega)
    obtain ⟨n, hn⟩ := Int.eq_ofNat_of_zero_le (show 0 ≤ 1 + r2 by omega)
    have em : (V.int (1 + r1)) = V.int (m : Int) := by rw [hm]
    have en : (V.int (1 + r2)) = V.int (n : Int) := by rw [hn]
    dsimp only
    rw [em, en]
    refine ⟨.ref p, rfl, .int m, rfl, .int n, rfl, l, p, sc, ns, m, n, rfl, by omega, by omega, c2, fun H3 v d k3 c3 rd cd => ?_⟩
    refine ⟨.ref p, rfl, .int m, rfl, .int n, rfl, l, p, sc, ns, m, n, rfl, by omega, by omega, c3, fun H4 u e k4 c4 ru cu => ⟨by show 2 ≤ sizeLine; decide, fun t ht => ?_⟩⟩
    exact q _ _ _ (k2.trans (k3.trans (k4.trans (Kp.new ht)))) (c4.new ht) (RD.tupN c4 ht (.cons (RD.hk c4.mem k4 rd) (.cons ru .nil))) ⟨m, n, by omega, by omega, by omega, by omega, d, e, rfl, cd, cu⟩
end
end K01

/-! Q17: _law_shares, _law_mix. -/
namespace GL
open PySem PySem.Spec PyProof.Rows L2
def CPowW (i j : Int) : Prop := 0 ≤ j ∧ (Builtin.Int.intBits i : Int) * j ≤ 2 ^ 27
theorem op_powW {X : Cx} : OpR X (binaryOp .Pow) (rI CPowW fun i j => .int (i ^ j.toNat)) := opI fun _ _ _ _ _ _ _ hc q => pow_int hc.1 hc.2 q
end GL
namespace K01
open PySem PySem.Spec PyProof.Rows L2 GL
/-- 1, 1, 2, 3, 5, .. -/
def fibP : Nat → Nat × Nat
  | 0 => (1, 1)
  | n + 1 => ((fibP n).2, (fibP n).1 + (fibP n).2)
theorem fib_mono : ∀ n m, n ≤ m → (fibP n).1 ≤ (fibP m).1 ∧ (fibP n).2 ≤ (fibP m).2 := by
  have st : ∀ n, (fibP n).1 ≤ (fibP n).2 ∧ (fibP n).1 ≤ (fibP (n + 1)).1 ∧ (fibP n).2 ≤ (fibP (n + 1)).2 := by
    intro n
    induction n with
    | zero => exact ⟨by decide, by decide, by decide⟩
    | succ n ih =>
      obtain ⟨a, b, c⟩ := ih
      have e1 : (fibP (n + 1)).1 = (fibP n).2 := rfl
      have e2 : (fibP (n + 1)).2 = (fibP n).1 + (fibP n).2 := rfl
      have e3 : (fibP (n + 1 + 1)).1 = (fibP (n + 1)).2 := rfl
      have e4 : (fibP (n + 1 + 1)).2 = (fibP (n + 1)).1 + (fibP (n + 1)).2 := rfl
      omega
  intro n m h
  induction m with
  | zero => rw [show n = 0 by omega]; exact ⟨Nat.le_refl _, Nat.le_refl _⟩
  | succ m ih =>
    by_cases e : n = m + 1
    · rw [e]; exact ⟨Nat.le_refl _, Nat.le_refl _⟩
    · have := ih (by omega)
      have := st m
      omega
theorem fib_big : (fibP 1380).1 < 2 ^ 1000 ∧ (fibP 1380).2 < 2 ^ 1000 := by decide +kernel
theorem fib_lt {n : Nat} (h : n ≤ 1380) : (fibP n).1 < 2 ^ 1000 ∧ (fibP n).2 < 2 ^ 1000 := by
  have := fib_mono n 1380 h
  have := fib_big
  exact ⟨Nat.lt_of_le_of_lt (fib_mono n 1380 h).1 fib_big.1, Nat.lt_of_le_of_lt (fib_mono n 1380 h).2 fib_big.2⟩
theorem most58 : (10 ^ 290 : Int) ≤ most 58 := by decide +kernel
theorem p290 : (10 ^ 290 : Int) < 2 ^ 1000 := by decide +kernel
/-- integers from nought on, not all nought -/
def SharC (n : Nat) (is : List Int) : Prop := is.length = n ∧ (∀ i ∈ is, 0 ≤ i ∧ i < 2 ^ 1000) ∧ 0 < is.sum
theorem sum_nn : ∀ {is : List Int}, (∀ i ∈ is, 0 ≤ i ∧ i < 2 ^ 1000) → 0 ≤ is.sum
  | [], _ => by simp
  | i :: is, h => by
    have h1 := (h i List.mem_cons_self).1
    have h2 := sum_nn (is := is) fun j hj => h j (List.mem_cons_of_mem _ hj)
    rw [List.sum_cons]; omega
theorem sum_ge {is : List Int} (h : ∀ i ∈ is, 0 ≤ i ∧ i < 2 ^ 1000) : ∀ i ∈ is, i ≤ is.sum := by
  induction is with
  | nil => intro i hi; cases hi
  | cons a is ih =>
    intro i hi
    have h1 := (h a List.mem_cons_self).1
    have h2 := sum_nn (is := is) fun j hj => h j (List.mem_cons_of_mem _ hj)
    rw [List.sum_cons]
    rcases List.mem_cons.mp hi with rfl | hi
    · omega
    · have := ih (fun j hj => h j (List.mem_cons_of_mem _ hj)) i hi
      omega
theorem sum_lt : ∀ {is : List Int} (k : Nat), is.length ≤ k → (∀ i ∈ is, 0 ≤ i ∧ i < 2 ^ 1000) → is.sum ≤ k * 2 ^ 1000
  | [], k, _, _ => by
    have : (0 : Int) ≤ k * 2 ^ 1000 := Int.mul_nonneg (by omega) (by decide +kernel)
    simpa using this
  | i :: is, 0, hk, _ => by simp at hk
  | i :: is, k + 1, hk, h => by
    have h1 := (h i List.mem_cons_self).2
    have h2 := sum_lt (is := is) k (by simpa using hk) fun j hj => h j (List.mem_cons_of_mem _ hj)
    rw [List.sum_cons, show ((k + 1 : Nat) : Int) * 2 ^ 1000 = k * 2 ^ 1000 + 2 ^ 1000 by rw [Int.natCast_add, Int.add_mul, Int.natCast_one, Int.one_mul]]
    omega
theorem ints_of : ∀ {vs : List V} {ds : List PyData} {H : Hp}, RDs H vs ds → (∀ d ∈ ds, ∃ i : Int, d = .int i ∧ 0 ≤ i ∧ i < 2 ^ 1000) → ∃ is : List Int, vs = is.map V.int ∧ ∀ i ∈ is, 0 ≤ i ∧ i < 2 ^ 1000
  | _, _, _, .nil, _ => ⟨[], rfl, fun _ h => by cases h⟩
  | _, _, _, .cons r rs, h => by
    obtain ⟨is, e, hb⟩ := ints_of rs fun d hd => h d (List.mem_cons_of_mem _ hd)
    obtain ⟨i, e2, h1, h2⟩ := h _ List.mem_cons_self
    subst e2
    cases r
    refine ⟨i :: is, by rw [e]; rfl, fun j hj => ?_⟩
    rcases List.mem_cons.mp hj with rfl | hj
    · exact ⟨h1, h2⟩
    · exact hb j hj
theorem flat0 : ∀ k, (List.replicate k [V.int 0]).flatten = (List.replicate k (0 : Int)).map V.int
  | 0 => rfl
  | k + 1 => by rw [List.replicate_succ, List.replicate_succ, List.flatten_cons, List.map_cons, flat0 k]; rfl
section
variable {P : Program} {w : World} {K : PySem.W.Frag} {mg : Str → Option Value} {base : Heap}
variable {fP fN fL : Addr} {dP dN dL : FuncData}
def spShares : Sp := fun vs H Q _ => ∃ l p sc ns, ∃ n : Nat, vs = [.ref p, .int n] ∧ 1 ≤ n ∧ n ≤ 5 ∧ Ctx l p sc ns H ∧
  ∀ H' a is, Kp p H H' → Ctx l p sc ns H' → H' a = some (.lst (is.map V.int)) → a ∉ l → SharC n is → Q (.ref a) H'
theorem ok_shares {f : Addr} {fd : FuncData} (F : Fun K "_law_shares" "_law_shares" sLShares f fd) (mr : mg "range" = none) (ms : mg "sum" = none)
    (FP : Fun K "_law_pick" "_law_pick" sLPick fP dP) (bP : Binds K dP ["source", "many"] []) (gP : mg "_law_pick" = some (.ref fP)) (GP : FnOk P w K mg base CX0 59 fP dP ["source", "many"] (spPick 58)) :
    FnOk P w K mg base CX0 60 f fd ["source", "many"] spShares := by
  refine F.ok scLShares (fun vs H Q E h => ?_) (fun cdv A outer s H vs Q E hr h => ?_)
  · obtain ⟨l, p, sc, ns, n, rfl, _⟩ := h
    rfl
  · obtain ⟨l, p, sc, ns, n, rfl, n1, n5, c0, q⟩ := h
    refine ⟨_, pss_cons (ps_set (i := 2) scLShares.nd rfl (.inl rfl) (pe_call GP hr (by rfl) gP FP.kp bP .nil pass0 (pa_cons (pv 0) (pa_cons pe_int pa_nil))))
      (pss_cons (ps_set (i := 3) scLShares.nd rfl (.inr rfl) (pe_ix ix_list (pe_lst (pa_cons pe_int (pa_cons pe_int (pa_cons pe_int (pa_cons (pe_op op_pow pe_int pe_int) (pa_cons (pe_op op_powW (pe_op op_pow pe_int pe_int) pe_int) (pa_cons pe_int pa_nil))))))) (pv 2) (fun _ _ => rfl)))
      (pss_cons (ps_setLc (i := 4) (own := [("choice", 9)]) (g := gName 9) (tt := tYes) rfl scLShares.nd rfl rfl
          (sw_true rfl rfl rfl (by decide +kernel))
          (pi_range1 (by rfl) mr (pa_cons (pv 1) pa_nil))
          (blkOk_by (own := [("choice", 9)]) (N := ["source", "many", "way", "size_v", "numbers", "at", "one", "other", "step", "choice"]) (sc := defScope sLShares) (by decide +kernel))
          (fun _ _ _ _ _ => pg_name (i := 9) scLShares.nd rfl (Or.inl rfl)) (fun _ _ _ _ _ => pts_nil)
          (fun _ _ _ _ _ => pe_call GP hr (by rfl) gP FP.kp bP .nil pass0 (pa_cons (pv 0) (pa_cons (pv 3) pa_nil))))
      (pss_cons (ps_if (pt_cmpR op_eq (pe_callB (cr_sum rfl) (by rfl) ms (by decide +kernel) (pa_cons (pv 4) pa_nil)) pe_int (nomark _))
        (pss_cons (ps_set (i := 5) scLShares.nd rfl (.inl rfl) (pe_call GP hr (by rfl) gP FP.kp bP .nil pass0 (pa_cons (pv 0) (pa_cons (pv 1) pa_nil))))
        (pss_one (ps_asg pe_int (pg_sub (pv 4) (pv 5) set_list)))) pss_nil)
      (pss_cons (ps_if (PW.pt (pw_and (pt_cmpR op_eq (pv 2) pe_int (nomark _)) (pw_and1 (pt_cmpR op_gt (pv 1) pe_int (nomark _)))))
        (pss_cons (ps_asg (pe_tup (pa_cons pe_int (pa_cons pe_int pa_nil))) (pg_tup rfl (pgs_cons (pg_name (i := 6) scLShares.nd rfl (Or.inl rfl)) (pgs_cons (pg_name (i := 7) scLShares.nd rfl (Or.inl rfl)) pgs_nil))))
        (pss_cons (ps_for PassesOwn.never rfl (pi_range1 (by rfl) mr (pa_cons (pe_call GP hr (by rfl) gP FP.kp bP .nil pass0 (pa_cons (pv 0) (pa_cons pe_int pa_nil))) pa_nil)) (pg_name (i := 8) scLShares.nd rfl (Or.inl rfl))
          (pss_one (ps_par (i := 6) (j := 7) (by rfl) scLShares.nd rfl rfl (by decide) rfl rfl (pa_cons (pv 7) (pa_cons (pe_op op_add (pv 6) (pv 7)) pa_nil)) (by rfl))))
        (pss_one (ps_set (i := 4) scLShares.nd rfl (.inl rfl) (pe_op op_cat (pe_op op_rep (pe_lst (pa_cons pe_int pa_nil)) (pe_op op_sub (pv 1) pe_int)) (pe_lst (pa_cons (pv 6) (pa_cons (pv 7) pa_nil)))))))) pss_nil)
      (pss_one (ps_ret (pv 4))))))), ?_⟩
    have m58 := most58
    have m290 := p290
    have b1000 : (2 : Int) ^ 1000 < 2 ^ 1100 := by decide +kernel
    have b10 : (10000 : Int) < 10 ^ 290 := by decide +kernel
    have mk : ∀ m : Int, 0 < m → m ≤ 10 ^ 290 → m ≤ most 58 ∧ m < 2 ^ 1100 := fun m _ h => ⟨by omega, by omega⟩
    have mk2 : ∀ m : Int, 0 < m → m ≤ 10000 → m ≤ most 58 ∧ m < 2 ^ 1100 := fun m h0 h => mk m h0 (by omega)
    refine ⟨.ref p, rfl, p, sc, ns, 6, rfl, by decide, (mk2 6 (by decide) (by decide)).1, (mk2 6 (by decide) (by decide)).2, c0.src, fun r o1 r0 r1 so => ?_⟩
    have c1 := c0.put so
    have k1 : Kp p H (upd H p o1) := Kp.put
    generalize upd H p o1 = H1 at c1 k1
    obtain ⟨sz, asz, z0, z1⟩ : ∃ sz : Int, atI [V.int 2, .int 4, .int 30, .int (10 ^ 40), .int ((10 ^ 58) ^ 5), .int 2] r = some (.int sz) ∧ 0 < sz ∧ sz ≤ 10 ^ 290 := by
      rcases (show r = 0 ∨ r = 1 ∨ r = 2 ∨ r = 3 ∨ r = 4 ∨ r = 5 by omega) with rfl | rfl | rfl | rfl | rfl | rfl
      · exact ⟨2, atI_nat (j := 0) rfl, by decide, by omega⟩
      · exact ⟨4, atI_nat (j := 1) rfl, by decide, by omega⟩
      · exact ⟨30, atI_nat (j := 2) rfl, by decide, by omega⟩
      · exact ⟨10 ^ 40, atI_nat (j := 3) rfl, by decide +kernel, by decide +kernel⟩
      · exact ⟨(10 ^ 58) ^ 5, atI_nat (j := 4) rfl, by decide +kernel, by decide +kernel⟩
      · exact ⟨2, atI_nat (j := 5) rfl, by decide, by omega⟩
    refine ⟨_, _, rfl, rfl, ⟨by decide, by decide, by decide⟩, _, _, rfl, rfl, ⟨by decide, by decide, by decide⟩, _, _, rfl, rfl, ⟨by decide, by decide +kernel⟩, by show 6 ≤ sizeLine; decide, fun l1 hl1 =>
      ⟨.int r, rfl, l1, _, r, .int sz, rfl, rfl, SqL.of upd_same, asz, ?_⟩⟩
    have c2 := c1.new (o := .lst [V.int 2, .int 4, .int 30, .int (10 ^ 40), .int ((10 ^ 58) ^ 5), .int 2]) hl1
    have k2 : Kp p H (upd H1 l1 (.lst [V.int 2, .int 4, .int 30, .int (10 ^ 40), .int ((10 ^ 58) ^ 5), .int 2])) := k1.trans (Kp.new hl1)
    refine ⟨.int n, rfl, n, rfl, by omega, by omega, fun D hD => lc_range (fun i H' => Dr l p sc ns _ D (fun d => ∃ i : Int, d = .int i ∧ 0 ≤ i ∧ i < 2 ^ 1000) i H') (.zero c2 hD) (fun i H3 hi pv0 => ⟨rfl, ?_⟩) (fun H3 pv0 => ?_)⟩
    · have c3 := pv0.ctx
      refine ⟨.ref p, rfl, .int sz, rfl, p, sc, ns, sz, rfl, z0, (mk sz z0 z1).1, (mk sz z0 z1).2, c3.src, fun r o2 x0 x1 so2 => ?_⟩
      exact pv0.step hD c2 (by omega) Kp.put (c3.put so2) (.int r) ⟨r, rfl, x0, by omega⟩
    · have c3' := pv0.ctx
      have c3 : Ctx l p sc ns H3 := c3'.tail c2
      have k3 : Kp p H H3 := k2.trans pv0.kp
      have kD := pv0.kp
      obtain ⟨vs, ds, e, hl, rs, hc, _, _⟩ := pv0
      obtain ⟨is, rfl, hb⟩ := ints_of rs hc
      have nDl : D ∉ l := fun z => c2.here D z hD
      have nDp : D ≠ p := fun z => nDl (z ▸ c2.mem)
      have nDs : D ≠ sc := fun z => by have h9 := c2.src.2.1; rw [← z] at h9; exact nomatch h9.symm.trans hD
      have hDH : H D = none := by
        cases hh : H D with
        | none => rfl
        | some o => exact nomatch (k2 D o nDp hh).symm.trans hD
      have ln : is.length = n := by have h9 := hl; rw [List.length_map] at h9; omega
      have s0 := sum_nn hb
      refine ⟨.ref D, rfl, D, is, rfl, SqL.of e, rfl, _, rfl, ?_⟩
      rw [dec_int']
      -- the list is left with a sum above nought
      have goOn : ∀ (H5 : Hp) (is5 : List Int) (y5 : Option V), Kp p H H5 → Ctx l p sc ns H5 → H5 D = some (.lst (is5.map V.int)) → SharC n is5 → True := fun _ _ _ _ _ _ _ => trivial
      refine ite2 (fun ez => ?_) (fun ez => ?_)
      rotate_left
      have k5 := k3
      have c5 := c3
      have e5 := e
      have s5 : SharC n is := ⟨ln, hb, by
        have : is.sum ≠ 0 := fun z => ez (decide_eq_true z)
        omega⟩
      rotate_left
      refine ⟨.ref p, rfl, .int n, rfl, p, sc, ns, n, rfl, by omega, (mk2 n (by omega) (by omega)).1, (mk2 n (by omega) (by omega)).2, c3.src, fun k o5 x0 x1 so5 => ?_⟩
      have e4 : upd H3 p o5 D = some (.lst (is.map V.int)) := by rw [upd_ne nDp]; exact e
      have ix : ixN (is.map V.int).length k = some k.toNat := by
        unfold ixN
        rw [List.length_map, if_pos x0, if_pos (by omega)]
      refine ⟨.ref D, rfl, .int k, rfl, D, is.map V.int, k, k.toNat, rfl, rfl, e4, ix, ?_⟩
      rw [show (is.map V.int).set k.toNat (.int 1) = (is.set k.toNat 1).map V.int by rw [List.map_set]]
      have k5 : Kp p H (upd (upd H3 p o5) D (.lst ((is.set k.toNat 1).map V.int))) := fun b o n e2 => by
        rw [upd_ne (ne_of_none e2 hDH)]; exact (k3.trans Kp.put) b o n e2
      have c5 : Ctx l p sc ns (upd (upd H3 p o5) D (.lst ((is.set k.toNat 1).map V.int))) := ((c3'.put so5).putD nDp nDs).tail c2
      have e5 : upd (upd H3 p o5) D (.lst ((is.set k.toNat 1).map V.int)) D = some (.lst ((is.set k.toNat 1).map V.int)) := upd_same
      have s5 : SharC n (is.set k.toNat 1) := by
        have hb2 : ∀ i ∈ is.set k.toNat 1, 0 ≤ i ∧ i < 2 ^ 1000 := fun i hi => by
          rcases List.mem_or_eq_of_mem_set hi with h | h
          · exact hb i h
          · subst h
            exact ⟨by decide, by decide +kernel⟩
        refine ⟨by rw [List.length_set]; exact ln, hb2, ?_⟩
        have : (1 : Int) ∈ is.set k.toNat 1 := List.mem_set (by omega) 1
        have := sum_ge hb2 1 this
        omega
      generalize upd (upd H3 p o5) D (.lst ((is.set k.toNat 1).map V.int)) = H5 at c5 k5 e5
      all_goals
        refine ⟨.int r, rfl, rfl, _, rfl, ?_⟩
        rw [dec_int']
        refine ite2 (fun ew => ?_) (fun ew => iteF ⟨.ref D, rfl, q _ D _ k5 c5 e5 nDl s5⟩)
        refine ⟨.int n, rfl, _, _, rfl, rfl, _, rfl, ite2 (fun en => ?_) (fun en => ⟨.ref D, rfl, q _ D _ k5 c5 e5 nDl s5⟩)⟩
        have en2 : (1 : Int) < n := of_decide_eq_true en
        refine ⟨by show 2 ≤ sizeLine; decide, fun t ht => ⟨t, [.int 1, .int 1], rfl, SqT.of upd_same, rfl, _, _, rfl, _, _, rfl, rfl, ?_⟩⟩
        have c6 := c5.new (o := .tup [.int 1, .int 1]) ht
        have k6 := k5.trans (Kp.new (o := .tup [.int 1, .int 1]) ht)
        refine ⟨.ref p, rfl, p, sc, ns, 1380, rfl, by decide, (mk2 1380 (by decide) (by decide)).1, (mk2 1380 (by decide) (by decide)).2, c6.src, fun m o6 y0 y1 so6 => ?_⟩
        have c7 := c6.put so6
        have k7 := k6.trans (Kp.put (o := o6))
        refine ⟨m, rfl, by omega, by omega, for_range (lo := 0) (n := m.toNat) (fun i σ H' => H' = _ ∧ ∃ (y5 y8 : Option V), σ = [some (.ref p), some (.int n), some (.int r), some (.int sz), some (.ref D), y5, some (.int ((fibP i).1 : Nat)), some (.int ((fibP i).2 : Nat)), y8, none])
          ⟨rfl, _, _, rfl⟩ (fun i σ H8 hi pv1 => ?_) (fun σ H8 pv1 => ?_)⟩
        · obtain ⟨rfl, y5, y8, rfl⟩ := pv1
          refine ⟨.int ((fibP i).2 : Nat), rfl, .int ((fibP i).1 : Nat), rfl, .int ((fibP i).2 : Nat), rfl, _, _, rfl, rfl, _, _, rfl, rfl, y5, some (.int (0 + (i : Nat))), ?_⟩
          rfl
        · obtain ⟨rfl, y5, y8, rfl⟩ := pv1
          have fl := fib_lt (show m.toNat ≤ 1380 by omega)
          have f1 := (fib_mono 0 m.toNat (by omega)).1
          have f0 : (fibP 0).1 = 1 := rfl
          refine ⟨by show 1 ≤ sizeLine; decide, fun l2 hl2 => ⟨.int n, rfl, _, _, rfl, rfl, l2, (n : Int) - 2, [.int 0], rfl, rfl, upd_same, by omega, by omega, by rw [sizeLine_eq]; show 1 * _ ≤ _; omega, fun l3 hl3 => ?_⟩⟩
          refine ⟨.int _, rfl, .int _, rfl, by show 2 ≤ sizeLine; decide, fun l4 hl4 => ?_⟩
          have kk : ((n : Int) - 2).toNat = n - 2 := by omega
          rw [kk, flat0] at hl4 ⊢
          refine ⟨l3, l4, (List.replicate (n - 2) (0 : Int)).map V.int, [.int ((fibP m.toNat).1 : Nat), .int ((fibP m.toNat).2 : Nat)], rfl, rfl, ?_, upd_same, ?_, fun l5 hl5 => ⟨.ref l5, rfl, ?_⟩⟩
          · rw [upd_ne (fun z => by rw [← z, upd_same] at hl4; cases hl4)]; exact upd_same
          · rw [List.length_map, List.length_replicate, sizeLine_eq]; show _ + 2 ≤ _; omega
          · have c8 := (((c7.new (o := .lst [.int 0]) hl2).new (o := .lst ((List.replicate (n - 2) (0 : Int)).map V.int)) hl3).new (o := .lst [.int ((fibP m.toNat).1 : Nat), .int ((fibP m.toNat).2 : Nat)]) hl4)
            have k8 := ((k7.trans (Kp.new (o := .lst [.int 0]) hl2)).trans (Kp.new (o := .lst ((List.replicate (n - 2) (0 : Int)).map V.int)) hl3)).trans (Kp.new (o := .lst [.int ((fibP m.toNat).1 : Nat), .int ((fibP m.toNat).2 : Nat)]) hl4)
            refine q _ l5 (List.replicate (n - 2) 0 ++ [((fibP m.toNat).1 : Int), ((fibP m.toNat).2 : Int)]) (k8.trans (Kp.new hl5)) (c8.new hl5) ?_ (not_in c8 hl5) ?_
            · rw [List.map_append]; exact upd_same
            · have hb2 : ∀ i ∈ List.replicate (n - 2) (0 : Int) ++ [((fibP m.toNat).1 : Int), ((fibP m.toNat).2 : Int)], 0 ≤ i ∧ i < 2 ^ 1000 := fun i hi => by
                rcases List.mem_append.mp hi with h | h
                · rw [List.eq_of_mem_replicate h]; exact ⟨by decide, by decide +kernel⟩
                · have w1 : ∀ a : Nat, a < 2 ^ 1000 → (0 : Int) ≤ (a : Int) ∧ (a : Int) < 2 ^ 1000 := fun a ha => ⟨by omega, by
                    have := Int.ofNat_lt.mpr ha
                    rw [Int.natCast_pow] at this
                    exact this⟩
                  rcases List.mem_cons.mp h with rfl | h
                  · exact w1 _ fl.1
                  · rcases List.mem_singleton.mp h with rfl
                    exact w1 _ fl.2
              refine ⟨by rw [List.length_append, List.length_replicate]; show n - 2 + 2 = n; omega, hb2, ?_⟩
              have := sum_ge hb2 ((fibP m.toNat).1 : Int) (List.mem_append_right _ List.mem_cons_self)
              omega
end
end K01

/-! Q18: trees of integers, what may come of them; _law_mix, _law_below. -/
namespace K01
open PySem PySem.Spec PyProof.Rows L2 GL
/-- trees of integers: so deep, at most five beside one another -/
def T : Nat → PyData → Prop
  | 0, d => ∃ i : Int, d = .int i ∧ i.natAbs < 2 ^ 1010
  | n + 1, d => (∃ i : Int, d = .int i ∧ i.natAbs < 2 ^ 1010) ∨ ∃ ds, d = .tuple ds ∧ ds.length ≤ 5 ∧ ∀ x ∈ ds, T n x
/-- what may be asked: text of such a length, parts below a bound -/
structure W (k L : Nat) (d : PyData) : Prop where
  nice : Nice k L d
  int : ∀ i, d = .int i → i.natAbs < 2 ^ 1100
  frac : ∀ a b, fracOf d = some (a, b) → a.natAbs < 2 ^ 1100 ∧ b.natAbs < 2 ^ 1100
  bdd : Bdd d
  len : lenD d ≤ 1000
  sl1 : Len2 d
  sl2 : Slim d
theorem W.mono {k L k' L' : Nat} {d : PyData} (h : W k L d) (a : k ≤ k') (b : L ≤ L') : W k' L' d := ⟨h.nice.mono a b, h.int, h.frac, h.bdd, h.len, h.sl1, h.sl2⟩
theorem W_int {i : Int} (h : i.natAbs < 2 ^ 1100) : W 0 340 (.int i) :=
  ⟨nice_int h, (fun j e => by cases e; exact h), (fun a b e => by cases e), (fun ds e => by cases e), (by show (0 : Int) ≤ 1000; decide), (fun x hx => absurd (show x ∈ ([] : List PyData) from hx) List.not_mem_nil), (fun x hx => absurd (show x ∈ ([] : List PyData) from hx) List.not_mem_nil)⟩
theorem W_tup {k L m : Nat} {ds : List PyData} (h : ∀ x ∈ ds, W k L x) (hl : ds.length ≤ m) (hm : m ≤ 1000) : W (k + 1) (m * (L + 2) + 3) (.tuple ds) := by
  refine ⟨(nice_tup fun x hx => (h x hx).nice).mono (Nat.le_refl _) (by have := Nat.mul_le_mul_right (L + 2) hl; omega), (fun i e => nomatch e), (fun a b e => ?_), (fun es e x hx a b f => ?_), ?_, (fun x hx => (h x hx).len), (fun x hx => (h x hx).sl1)⟩
  · unfold fracOf at e
    split at e
    · rename_i z; cases z; cases e
      exact ⟨(h _ List.mem_cons_self).int _ rfl, (h _ (List.mem_cons_of_mem _ List.mem_cons_self)).int _ rfl⟩
    · cases e
  · cases e
    exact (h x hx).frac a b f
  · show ((ds.length : Nat) : Int) ≤ 1000; omega
theorem W_lst {k L m : Nat} {ds : List PyData} (h : ∀ x ∈ ds, W k L x) (hl : ds.length ≤ m) : W (k + 1) (m * (L + 2) + 3) (.list ds) :=
  ⟨(nice_list fun x hx => (h x hx).nice).mono (Nat.le_refl _) (by have := Nat.mul_le_mul_right (L + 2) hl; omega), (fun i e => nomatch e), (fun a b e => by cases e), (fun es e => by cases e), (by show (0 : Int) ≤ 1000; decide), (fun x hx => absurd (show x ∈ ([] : List PyData) from hx) List.not_mem_nil), (fun x hx => absurd (show x ∈ ([] : List PyData) from hx) List.not_mem_nil)⟩
/-- how long a tree's text is -/
def Nt : Nat → Nat
  | 0 => 340
  | n + 1 => 5 * (Nt n + 2) + 3
theorem Nt_ge : ∀ n, 340 ≤ Nt n
  | 0 => Nat.le_refl _
  | n + 1 => by have := Nt_ge n; unfold Nt; omega
theorem p1010 : (2 : Nat) ^ 1010 < 2 ^ 1100 := by decide +kernel
theorem T.w : ∀ {n d}, T n d → W n (Nt n) d
  | 0, _, ⟨i, e, h⟩ => by subst e; exact W_int (Nat.lt_trans h p1010)
  | n + 1, _, .inl ⟨i, e, h⟩ => by subst e; exact (W_int (Nat.lt_trans h p1010)).mono (by omega) (Nt_ge _)
  | n + 1, _, .inr ⟨ds, e, hl, h⟩ => by
    subst e
    exact W_tup (fun x hx => T.w (h x hx)) hl (by decide)
theorem T.up : ∀ {n d}, T n d → T (n + 1) d
  | 0, _, h => .inl h
  | n + 1, _, .inl h => .inl h
  | n + 1, _, .inr ⟨ds, e, hl, h⟩ => .inr ⟨ds, e, hl, fun x hx => T.up (h x hx)⟩
theorem T_int {n : Nat} {i : Int} (h : i.natAbs < 2 ^ 1010) : T n (.int i) := by
  cases n with
  | zero => exact ⟨i, rfl, h⟩
  | succ n => exact .inl ⟨i, rfl, h⟩
theorem T_small {n : Nat} {i : Int} (h : i.natAbs ≤ 100000) : T n (.int i) := T_int (Nat.lt_of_le_of_lt h (by decide +kernel))
theorem T_num {d : PyData} (h : NumC d) : T 0 d := by
  obtain ⟨i, e, h1, h2⟩ := h
  subst e
  exact T_small (by omega)
theorem T_game {r c : Nat} {d : PyData} (h : GamC r c d) (hr : r ≤ 5) (hc : c ≤ 5) : T 3 d := by
  obtain ⟨x, y, rfl, hx, hy⟩ := h
  have tab : ∀ x, TabC r c x → T 2 x := fun x hx => by
    obtain ⟨ds, rfl, hl, h⟩ := hx
    refine .inr ⟨ds, rfl, by omega, fun e he => ?_⟩
    obtain ⟨es, rfl, hl2, h2⟩ := h e he
    exact .inr ⟨es, rfl, by omega, fun u hu => T_num (h2 u hu)⟩
  refine .inr ⟨[x, y], rfl, by show 2 ≤ 5; decide, fun e he => ?_⟩
  rcases List.mem_cons.mp he with rfl | he
  · exact tab _ hx
  · rcases List.mem_singleton.mp he with rfl
    exact tab _ hy
/-- it is a game, with so many choices -/
theorem game_ok {r c : Nat} {d : PyData} (h : GamC r c d) (r1 : 1 ≤ r) (r5 : r ≤ 5) (c1 : 1 ≤ c) (c5 : c ≤ 5) : gameD d = true ∧ sizeD d 0 = r ∧ sizeD d 1 = c := by
  obtain ⟨x, y, rfl, hx, hy⟩ := h
  have num : ∀ e, NumC e → numD e = true := fun e he => by
    obtain ⟨i, rfl, h1, h2⟩ := he
    show (decide (-1000 ≤ i) && decide (i ≤ 1000)) = true
    rw [decide_eq_true h1, decide_eq_true h2]; rfl
  have row : ∀ e, RowC c e → rowD e = true ∧ lenD e = c := fun e he => by
    obtain ⟨es, rfl, hl, h⟩ := he
    refine ⟨?_, by show ((es.length : Nat) : Int) = c; rw [hl]⟩
    show (decide (1 ≤ es.length) && decide (es.length ≤ 5) && es.all numD) = true
    rw [decide_eq_true (by omega), decide_eq_true (by omega), List.all_eq_true.mpr fun u hu => num u (h u hu)]; rfl
  have tab : ∀ x, TabC r c x → tableD x = true ∧ lenD x = r ∧ lenD (headD x) = c := fun x hx => by
    obtain ⟨ds, rfl, hl, h⟩ := hx
    have hh : lenD (headD (.tuple ds)) = c := by
      cases ds with
      | nil => simp at hl; omega
      | cons d0 ds => exact (row d0 (h d0 List.mem_cons_self)).2
    refine ⟨?_, by show ((ds.length : Nat) : Int) = r; rw [hl], hh⟩
    show (decide (1 ≤ ds.length) && decide (ds.length ≤ 5) && ds.all rowD && ds.all (fun r => decide (lenD r = lenD (headD (.tuple ds))))) = true
    rw [hh, decide_eq_true (by omega), decide_eq_true (by omega), List.all_eq_true.mpr fun u hu => (row u (h u hu)).1, List.all_eq_true.mpr fun u hu => decide_eq_true (row u (h u hu)).2]; rfl
  obtain ⟨a1, a2, a3⟩ := tab x hx
  obtain ⟨b1, b2, b3⟩ := tab y hy
  refine ⟨?_, a2, a3⟩
  show (tableD x && tableD y && decide (lenD x = lenD y) && decide (lenD (headD x) = lenD (headD y))) = true
  rw [a1, b1, a2, b2, a3, b3, decide_eq_true rfl, decide_eq_true rfl]; rfl
section
variable {P : Program} {w : World} {K : PySem.W.Frag} {mg : Str → Option Value} {base : Heap}
variable {fP fN fL : Addr} {dP dN dL : FuncData}
def spMix : Sp := fun vs H Q _ => ∃ l p sc ns a n is, vs = [.ref a] ∧ Ctx l p sc ns H ∧ H a = some (.lst (is.map V.int)) ∧ a ∉ l ∧ SharC n is ∧ n ≤ 5 ∧ Tells l p sc ns H (fun d => T 2 d ∧ lenD d = n) Q
theorem ok_lawmix {f : Addr} {fd : FuncData} (F : Fun K "_law_mix" "_law_mix" sLMix f fd) (mt : mg "tuple" = none) (ms : mg "sum" = none)
    (FL : Fun K "_law_least" "_law_least" sLLeast fL dL) (bL : Binds K dL ["above", "below"] []) (gL : mg "_law_least" = some (.ref fL)) (GL' : FnOk P w K mg base CX0 1 fL dL ["above", "below"] spLeast) :
    FnOk P w K mg base CX0 2 f fd ["numbers"] spMix := by
  refine F.ok scLMix (fun vs H Q E h => ?_) (fun cdv A outer s H vs Q E hr h => ?_)
  · obtain ⟨l, p, sc, ns, a, n, is, rfl, _⟩ := h
    rfl
  · obtain ⟨l, p, sc, ns, a, n, is, rfl, c0, ha, nal, ⟨hl, hb, hs⟩, n5, q⟩ := h
    refine ⟨_, pss_one (ps_ret (pe_callTy call_tuple_of (by rfl) mt (by decide +kernel) (pa_cons
        (pe_lc (own := [("number", 1)]) (g := gName 1) (tt := tYes) rfl scLMix.nd (pi_list (pv 0))
          (blkOk_by (own := [("number", 1)]) (N := ["numbers", "number"]) (sc := defScope sLMix) (by decide +kernel))
          (fun _ _ _ _ _ => pg_name (i := 1) scLMix.nd rfl (Or.inl rfl)) (fun _ _ _ _ _ => pts_nil)
          (fun _ _ _ _ _ => pe_call GL' hr (by rfl) gL FL.kp bL .nil pass0 (pa_cons (pv 1) (pa_cons
            (pe_callB (show CallR _ (.builtin "sum") (rSum K) from cr_sum rfl) (by rfl) ms (by decide +kernel) (pa_cons (pv 0) pa_nil)) pa_nil)))) pa_nil))), ?_⟩
    have nap : a ≠ p := fun z => nal (z ▸ c0.mem)
    have s5 : is.sum ≤ 5 * 2 ^ 1000 := by
      have h1 := sum_lt (is := is) 5 (by omega) hb
      exact h1
    have w5 : (5 * 2 ^ 1000 : Int) < 2 ^ 1010 := by decide +kernel
    have sN : is.sum.natAbs < 2 ^ 1010 := by
      have h1 : is.sum < 2 ^ 1010 := by omega
      have h2 : ((is.sum.natAbs : Nat) : Int) < ((2 ^ 1010 : Nat) : Int) := by rw [Int.natCast_pow]; show _ < (2 : Int) ^ 1010; omega
      exact Int.ofNat_lt.mp h2
    refine ⟨.ref a, rfl, a, rfl, ⟨_, SqL.of ha⟩, fun D hD => lc_list (xs := is.map V.int) (fun i H' => Dr l p sc ns H D (T 1) i H') (.zero c0 hD) (fun i H' _ pv => SqL.of (pv.kp a _ nap ha)) (fun i x H2 hi pv => ⟨rfl, ?_⟩) (fun H2 pv => ?_)⟩
    · have c2 := pv.ctx
      have ha2 := pv.kp a _ nap ha
      rw [List.getElem?_map] at hi
      cases hx : is[i]? with
      | none => rw [hx] at hi; cases hi
      | some z =>
        rw [hx] at hi
        cases hi
        have hz := List.mem_of_getElem? hx
        have hlt : i < is.length := (List.getElem?_eq_some_iff.mp hx).1
        have zs := sum_ge hb z hz
        have z0 := (hb z hz).1
        refine ⟨.int z, rfl, .ref a, rfl, a, is, rfl, SqL.of ha2, z, is.sum, rfl, hs, Nat.lt_of_lt_of_le sN (Nat.pow_le_pow_right (by decide) (by decide)), fun t ht => ?_⟩
        have g0 := gc_pos (a := z) hs
        have wd : ∀ y : Int, 0 ≤ y → y ≤ is.sum → (y / gc z is.sum).natAbs < 2 ^ 1010 := fun y h0 h1 => by
          have h2 := Int.ediv_nonneg h0 (show 0 ≤ gc z is.sum by omega)
          have h3 := Int.ediv_le_self (gc z is.sum) h0
          refine Nat.lt_of_le_of_lt ?_ sN
          omega
        refine pv.step hD c0 (by omega) (Kp.new ht) (c2.new ht) (RD.tupN c2 ht (.cons (.int _) (.cons (.int _) .nil))) ?_
        refine .inr ⟨_, rfl, by show 2 ≤ 5; decide, fun e he => ?_⟩
        rcases List.mem_cons.mp he with rfl | he
        · exact ⟨_, rfl, wd z z0 zs⟩
        · rcases List.mem_singleton.mp he with rfl
          exact ⟨_, rfl, wd is.sum (by omega) (Int.le_refl _)⟩
    · have c3 := pv.ctx
      have k3 := pv.kp
      obtain ⟨vs, ds, e, hl2, rs, hc, _, _⟩ := pv
      have c4 : Ctx l p sc ns H2 := c3.tail c0
      have hd : ds.length = n := by rw [← RDs.length rs, hl2, List.length_map, hl]
      refine ⟨D, vs, rfl, .inl ⟨SqL.of e, fun t ht => ?_⟩⟩
      exact q _ _ _ (k3.trans (Kp.new ht)) (c4.new ht) (RD.tupN c4 ht (RDs.less rs)) ⟨.inr ⟨ds, rfl, by omega, hc⟩, by show ((ds.length : Nat) : Int) = n; rw [hd]⟩
end
end K01

/-! Q19: t[::-1] of a tuple. -/
namespace GL
open PySem PySem.Spec PyProof.Rows L2 HT PySem.SeqAt PySem.MeetsSeq PySem.MeetsSeq2 PySem.MeetsSeq3
open PySem.AutoSeq1 (wpAny_loadPart')
section
variable {prog : Program} {w : World} {A : Around} {E : Value → Shared → Prop} {s : Shared}
theorem sliceApplied_rev {sl : Addr} {vl vu vs : Value} {n : Nat} {Q : Int × Int × Nat → Shared → Prop} (hs : s.heap.IsSliceOf sl vl vu vs) (pl : IsPart vl none) (pu : IsPart vu none) (ps : IsPart vs (some (-1)))
    (h : Q ((n : Int) - 1, -1, n) s) : wpAny (model prog w) A (Builtin.Slice.sliceApplied (.ref sl) (pure (n : Int))) Q E s := by
  obtain ⟨os, hos, hcs, hds⟩ := id hs
  unfold Builtin.Slice.sliceApplied Builtin.Slice.sliceFields
  refine wpAny_bind (wpAny_bind (wpAny_field hos hds (x := vl) rfl (wpAny_bind (wpAny_field hos hds (x := vu) rfl (wpAny_bind (wpAny_field hos hds (x := vs) rfl (wpAny_pure ?_)))))))
  refine wpAny_bind (slicePart_ ps ?_)
  show wpAny _ _ (if ((-1 : Int) == 0) = true then _ else _) _ _ s
  rw [if_neg (by decide)]
  refine wpAny_bind (slicePart_ pl (wpAny_bind (slicePart_ pu (wpAny_bind (wpAny_pure ?_)))))
  show wpAny _ _ (pure ((n : Int) - 1, (-1 : Int), Builtin.Slice.slicePlaces ((n : Int) - 1) (-1) (-1))) _ _ s
  have e : Builtin.Slice.slicePlaces ((n : Int) - 1) (-1) (-1) = n := by
    unfold Builtin.Slice.slicePlaces
    rw [if_neg (by decide)]
    by_cases z : (n : Int) - 1 > -1
    · rw [if_pos z, show (-(-1) : Int) = 1 by decide, Int.ediv_one]
      omega
    · rw [if_neg z]
      show 0 = n
      omega
  rw [e]
  exact wpAny_pure h
theorem fm_congr {α β : Type} {f g : α → Option β} : ∀ {l : List α}, (∀ a ∈ l, f a = g a) → l.filterMap f = l.filterMap g
  | [], _ => rfl
  | a :: l, h => by
    rw [List.filterMap_cons, List.filterMap_cons, h a List.mem_cons_self, fm_congr fun x hx => h x (List.mem_cons_of_mem _ hx)]
theorem pick_rev (xs : Array Value) : ((List.range xs.size).filterMap fun (m : Nat) => xs[(((xs.size : Nat) : Int) - 1 + (m : Int) * -1).toNat]?).toArray = xs.toList.reverse.toArray := by
  have e : (List.range xs.size).filterMap (fun (m : Nat) => xs[(((xs.size : Nat) : Int) - 1 + (m : Int) * -1).toNat]?) = ((List.range xs.size).map fun k => xs.size - 1 - k).filterMap (xs[·]?) := by
    rw [List.filterMap_map]
    refine fm_congr fun m hm => ?_
    have := List.mem_range.mp hm
    show _ = xs[xs.size - 1 - m]?
    congr 1
    omega
  rw [e, PySem.W.krv_range, List.filterMap_reverse, PySem.W.krv_all]
theorem getItem_tuple_rev {t sl : Addr} {items : Array Value} {vl vu vs : Value} {Q : Value → Shared → Prop} (ht : IsTup s.heap t items) (hs : s.heap.IsSliceOf sl vl vu vs) (pl : IsPart vl none) (pu : IsPart vu none) (ps : IsPart vs (some (-1)))
    (h : Q (.ref s.heap.objs.size) { s with heap := s.heap.push { cls := .type "tuple", data := .seq items.toList.reverse.toArray } })
    (hsz : items.size ≤ sizeLine) : wpAny (model prog w) A (getItem (.ref t) (.ref sl)) Q E s := by
  have htake : sizeOk (.seq items.toList.reverse.toArray) := by
    show items.toList.reverse.toArray.size ≤ sizeLine
    rw [List.size_toArray, List.length_reverse, Array.length_toList]
    exact hsz
  obtain ⟨os, hos, hcs, hds⟩ := id hs
  have hTs : s.TypeIs (.ref sl) "slice" := ⟨os, hos, hcs⟩
  unfold getItem
  try with_reducible refine wpAny_holding ?_
  first | refine wpAny_bind (wpAny_pure ?_) | skip
  refine wpAny_bind (wpAny_sequenceKey ht.typeIs (by decide) ?_)
  refine wpAny_bind (wpAny_callSpecial?_slot (name := Str.ofString "__getitem__") ht.typeIs PyProof.Rows.slot_tuple_getitem
    (wpAny_call_entry PyProof.Rows.slot_tuple_getitem ht.typeIs entry_tuple_getitem ?_ (args_tuple_getitem _ _)))
  show wpAny _ _ (Builtin.Tuple.tupleItemsOf (.ref t) >>= _) _ _ s
  refine wpAny_bind (tupleItemsOf_ ht ?_)
  refine wpAny_bind (wpAny_typeOf hTs ?_)
  rw [if_pos (by decide)]
  refine wpAny_bind (sliceApplied_rev hs pl pu ps ?_)
  have hno : ¬ (((((items.size : Nat) : Int) - 1) == 0 && (-1 : Int) == 1 && items.size == items.size) = true) := by
    intro q
    rw [Bool.and_eq_true, Bool.and_eq_true] at q
    exact absurd q.1.2 (by decide)
  show wpAny _ _ (if ((((items.size : Nat) : Int) - 1) == 0 && (-1 : Int) == 1 && items.size == items.size) = true then _ else _) _ _ s
  rw [if_neg hno, pick_rev]
  first
    | exact wpAny_bind (m := Builtin.Tuple.tupleExact _) (wpAny_newObj_type (wpAny_pure ⟨_, rfl, wpAny_pure h⟩) htake)
    | exact wpAny_bind (m := Builtin.Tuple.tupleExact _) (wpAny_newObj_type (wpAny_bind (wpAny_pure (wpAny_pure ⟨_, rfl, wpAny_pure h⟩))) htake)
    | exact wpAny_bind (wpAny_bind (m := Builtin.Tuple.tupleExact _) (wpAny_newObj_type (wpAny_pure (wpAny_pure ⟨_, rfl, wpAny_pure h⟩)) htake))
    | exact wpAny_bind (wpAny_bind (m := Builtin.Tuple.tupleExact _) (wpAny_newObj_type (wpAny_pure ⟨_, rfl, wpAny_pure h⟩) htake))
end
section
variable {X : Cx}
def tRevT (K : PySem.W.Frag) (te : TE) : TE := fun σ H Q => te σ H fun x H1 => ∃ a xs, x = .ref a ∧ SqT K H1 a xs ∧ ∀ p, H1 p = none → Q (.ref p) (upd H1 p (.tup xs.reverse))
theorem pe_revT {e : Expr} {te : TE} {k : Nat} {p1 p2 p3 pos : Pos} (he : PE X e te) : PE X (.Subscript e (.Slice none none (some (.UnaryOp .USub (.Constant (.int 1) k p1) p2)) p3) pos) (tRevT X.K te) := by
  refine ⟨fun pins s σ H Q I h => ?_⟩
  refine Subscript_ (thn (he.run pins s σ H _ I h) fun v s1 ⟨x, H1, I1, r1, q1⟩ => ?_)
  obtain ⟨a, xs, ex, hx, q⟩ := q1
  subst ex
  cases r1
  have hst : PO X (some (.UnaryOp .USub (.Constant (.int 1) k p1) p2)) (tPart (tUn (rU fun i => .int (-i)) (tC (.int 1)))) := po_some (pe_un un_neg pe_int)
  refine wpAny_Slice (thn (po_none.run pins s1 σ H1 (fun o H2 => o = none ∧ H2 = H1) I1 ⟨rfl, rfl⟩) fun vl s2 ⟨l, H2, I2, pl, el, e2⟩ => ?_)
  subst el e2
  refine thn (po_none.run pins s2 σ H2 (fun o H3 => o = none ∧ H3 = H2) I2 ⟨rfl, rfl⟩) fun vu s3 ⟨u, H3, I3, pu, eu, e3⟩ => ?_
  subst eu e3
  refine thn (hst.run pins s3 σ H3 (fun o H4 => o = some (-1) ∧ H4 = H3) I3 ⟨1, rfl, -1, rfl, rfl, rfl⟩) fun vs s4 ⟨o, H4, I4, ps, eo, e4⟩ => ?_
  subst eo e4
  have I5 : Inv X pins σ H4 { s4 with heap := s4.heap.push { cls := .type "slice", data := .fields #[vl, vu, vs] } } := I4.kept (t' := s4.toks) fun b ob q => Heap.get?_push_of_some _ q
  obtain ⟨its, r, ht, hz⟩ := I5.tuple hx
  have hlen := r.length
  show wpAny (model X.prog X.w) X.A (subscriptTail e (.Slice none none (some (.UnaryOp .USub (.Constant (.int 1) k p1) p2)) p3) (.ref a) (.ref s4.heap.objs.size)) (EP X pins σ Q) X.xe { s4 with heap := s4.heap.push { cls := .type "slice", data := .fields #[vl, vu, vs] } }
  refine tail_any (ops := [.ref a, .ref s4.heap.objs.size]) ht.typeIs (PyProof.Rows.slot_tuple_getitem.lookup) ?_ (by with_unfolding_all rfl)
  refine getItem_tuple_rev ht (Heap.IsSliceOf.new _ vl vu vs) pl pu ps ?_ (by rw [List.size_toArray]; omega)
  refine ⟨.ref _, _, I5.laid (t' := s4.toks) (o := .tup xs.reverse) (fun b ob q => Heap.get?_push_of_some _ q) (Nat.le_refl _) ?_, rfl, q _ (I5.hok.fresh (Nat.le_refl _))⟩
  exact ⟨by rw [List.length_reverse]; exact hz, _, r.reverse, IsTup.new _ _⟩
end
end GL

/-! Q20: an empty tuple times an integer. -/
namespace GL
open PySem PySem.Spec PyProof.Rows L2
open PySem.AutoSeq1 (wpAny_loadPart')
theorem tuple_mul0 (l : Addr) (n : Nat) (dd : Option Addr) (sl : Array (Option Value)) (x : Int) (u : Tok) (c0 : (decide (x < -(2 ^ 63)) || decide (x ≥ 2 ^ 63)) = false) :
    Meets (Builtin.«tuple.__mul__» ⟨[.ref l, .int x u], []⟩) (fun _ R s => s.heap.get? l = some { cls := .type "tuple", dict := dd, data := .seq #[] n, slots := sl } ∧
      R (.ok (.ret (Value.ref l))) s) :=
  .of_wp fun prog w A R s h => by
    obtain ⟨hp, g, d, tk, os⟩ := s
    obtain ⟨hl, h⟩ := h
    have f1 := AutoSeq1.idx_int
    wp_walk using wpAny_loadPart' hl
    repeat (first
      | (refine wpAny_ite_false (decide_eq_false (by rw [c0]; exact Bool.false_ne_true)) ?_; wp_walk using wpAny_loadPart' hl))
    exact ⟨_, rfl, h⟩
section
variable {X : Cx}
/-- t * k, also of the empty tuple -/
def rRepA (K : PySem.W.Frag) : R2 := fun x y H Q => ∃ l k xs, x = .ref l ∧ y = .int k ∧ SqT K H l xs ∧ 2 ≤ k ∧ k ≤ 1000 ∧ xs.length ≤ 1000 ∧ (xs = [] → Q (.ref l) H) ∧ (xs ≠ [] → ∀ p, H p = none → Q (.ref p) (upd H p (.tup (List.replicate k.toNat xs).flatten)))
theorem op_repA : OpR X (binaryOp .Mult) (rRepA X.K) := by
  intro pins s σ H x y v u Q I rx ry h
  obtain ⟨l, k, xs, rfl, rfl, hT, h1, h2, hz, q0, q1⟩ := h
  by_cases hne : xs = []
  · subst hne
    cases rx
    obtain ⟨t, rfl⟩ := ry
    obtain ⟨its, r, ⟨⟨cls, dd, data, sl⟩, ho, hc, n, hd⟩, hs⟩ := I.tuple hT
    simp only at hc hd
    subst hc hd
    cases r
    have c0 : (decide (k < -(2 ^ 63)) || decide (k ≥ 2 ^ 63)) = false := by
      rw [decide_eq_false (by omega), decide_eq_false (by omega)] <;> rfl
    refine wpAny_binaryOp_repeat_ref (T := "tuple") (U := "int") (by decide) ⟨_, ho, rfl⟩ (fun s' => typeIs_int s' k t) noFill_tuple_mul F.fills_int_mul F.slot_int_rmul repeat_tuple F.slot_int_index.lookup
      (call_meets F.slot_int_rmul (typeIs_int s k t) F.entry_int_rmul (F.args_int_rmul_2 _ _) (int_rmul_tuple k t l [].toArray n dd sl)
        ⟨ho, rfl, ⟨_, ho, rfl⟩, call_meets F.slot_tuple_mul ⟨_, ho, rfl⟩ F.entry_tuple_mul (F.args_tuple_mul_2 _ _) (tuple_mul0 l n dd sl k t c0) ⟨ho, ?_⟩⟩)
    exact ⟨.ref l, H, I, rfl, q0 rfl⟩
  · exact op_repT pins s σ H _ _ v u Q I rx ry ⟨l, k, xs, rfl, rfl, hT, hne, h1, h2, hz, q1 hne⟩
end
end GL

/-! Q21: _law_below. -/
namespace K01
open PySem PySem.Spec PyProof.Rows L2 GL
theorem RDs.set {H : Hp} {v : V} {d : PyData} (r : RD H v d) : ∀ {vs ds} (i : Nat), RDs H vs ds → RDs H (vs.set i v) (ds.set i d)
  | _, _, _, .nil => .nil
  | _, _, 0, .cons _ b => .cons r b
  | _, _, i + 1, .cons a b => .cons a (RDs.set r i b)
theorem T_pair {n : Nat} {a b : Int} (ha : a.natAbs < 2 ^ 1010) (hb : b.natAbs < 2 ^ 1010) : T (n + 1) (.tuple [.int a, .int b]) :=
  .inr ⟨_, rfl, by show 2 ≤ 5; decide, fun e he => by
    rcases List.mem_cons.mp he with rfl | he
    · exact T_int ha
    · rcases List.mem_singleton.mp he with rfl
      exact T_int hb⟩
theorem small10 {i : Int} (h : i.natAbs ≤ 100000) : i.natAbs < 2 ^ 1010 := Nat.lt_of_le_of_lt h (by decide +kernel)
section
variable {P : Program} {w : World} {K : PySem.W.Frag} {mg : Str → Option Value} {base : Heap}
variable {fP : Addr} {dP : FuncData}
def spBelow : Sp := fun vs H Q _ => ∃ l p sc ns, ∃ n : Nat, vs = [.ref p, .int n] ∧ 1 ≤ n ∧ n ≤ 5 ∧ Ctx l p sc ns H ∧ Tells l p sc ns H (T 2) Q
theorem ok_below {f : Addr} {fd : FuncData} (F : Fun K "_law_below" "_law_below" sLBelow f fd) (mr : mg "range" = none) (mt : mg "tuple" = none)
    (FP : Fun K "_law_pick" "_law_pick" sLPick fP dP) (bP : Binds K dP ["source", "many"] []) (gP : mg "_law_pick" = some (.ref fP)) (GP : FnOk P w K mg base CX0 1 fP dP ["source", "many"] (spPick 0)) :
    FnOk P w K mg base CX0 2 f fd ["source", "many"] spBelow := by
  refine F.ok scLBelow (fun vs H Q E h => ?_) (fun cdv A outer s H vs Q E hr h => ?_)
  · obtain ⟨l, p, sc, ns, n, rfl, _⟩ := h
    rfl
  · obtain ⟨l, p, sc, ns, n, rfl, n1, n5, c0, q⟩ := h
    refine ⟨_, pss_cons (ps_setLc (i := 2) (own := [("choice", 6)]) (g := gName 6) (tt := tYes) rfl scLBelow.nd rfl rfl
          (sw_true rfl rfl rfl (by decide +kernel))
          (pi_range1 (by rfl) mr (pa_cons (pv 1) pa_nil))
          (blkOk_by (own := [("choice", 6)]) (N := ["source", "many", "parts", "one", "other", "below", "choice"]) (sc := defScope sLBelow) (by decide +kernel))
          (fun _ _ _ _ _ => pg_name (i := 6) scLBelow.nd rfl (Or.inl rfl)) (fun _ _ _ _ _ => pts_nil)
          (fun _ _ _ _ _ => pe_tup (pa_cons pe_int (pa_cons pe_int pa_nil))))
      (pss_cons (ps_par (i := 3) (j := 4) (by rfl) scLBelow.nd rfl rfl (by decide) rfl rfl
          (pa_cons (pe_call GP hr (by rfl) gP FP.kp bP .nil pass0 (pa_cons (pv 0) (pa_cons (pv 1) pa_nil))) (pa_cons (pe_call GP hr (by rfl) gP FP.kp bP .nil pass0 (pa_cons (pv 0) (pa_cons (pv 1) pa_nil))) pa_nil)) (by rfl))
      (pss_cons (ps_set (i := 5) scLBelow.nd rfl (.inl rfl) (pe_op op_add pe_int (pe_call GP hr (by rfl) gP FP.kp bP .nil pass0 (pa_cons (pv 0) (pa_cons pe_int pa_nil)))))
      (pss_cons (ps_asg (pe_tup (pa_cons (pe_un un_neg pe_int) (pa_cons (pv 5) pa_nil))) (pg_sub (pv 2) (pv 3) set_list))
      (pss_cons (ps_asg (pe_tup (pa_cons (pe_op op_add (pv 5) pe_int) (pa_cons (pv 5) pa_nil))) (pg_sub (pv 2) (pv 4) set_list))
      (pss_one (ps_ret (pe_callTy call_tuple_of (by rfl) mt (by decide +kernel) (pa_cons (pv 2) pa_nil)))))))), ?_⟩
    have mo : most 0 = 100000 := rfl
    have bn := small n (by omega) (by omega)
    refine ⟨.int n, rfl, n, rfl, by omega, by omega, fun D hD => lc_range (fun i H' => Dr l p sc ns H D (T 1) i H') (.zero c0 hD) (fun i H2 hi pv0 => ⟨rfl, ?_⟩) (fun H2 pv0 => ?_)⟩
    · have c2 := pv0.ctx
      refine ⟨by show 2 ≤ sizeLine; decide, fun t ht => ?_⟩
      exact pv0.step hD c0 (by omega) (Kp.new ht) (c2.new ht) (RD.tupN c2 ht (.cons (.int _) (.cons (.int _) .nil))) (T_pair (small10 (by decide)) (small10 (by decide)))
    · have c2 := pv0.ctx
      have k2 := pv0.kp
      obtain ⟨vs, ds, e, hl, rs, hc, _, _⟩ := pv0
      have nDl : D ∉ l := fun z => c0.here D z hD
      have nDp : D ≠ p := fun z => nDl (z ▸ c0.mem)
      have nDs : D ≠ sc := fun z => by have := c0.src.2.1; rw [← z, hD] at this; cases this
      have hl' : vs.length = n := by omega
      refine ⟨.ref p, rfl, .int n, rfl, p, sc, ns, n, rfl, by omega, by rw [mo]; omega, bn, c2.src, fun a o1 a0 a1 so1 => ?_⟩
      have c3 := c2.put so1
      refine ⟨.ref p, rfl, .int n, rfl, p, sc, ns, n, rfl, by omega, by rw [mo]; omega, bn, c3.src, fun b o2 b0 b1 so2 => ⟨_, _, rfl, ?_⟩⟩
      have c4 := c3.put so2
      refine ⟨.ref p, rfl, p, sc, ns, 9, rfl, by decide, by rw [mo]; decide, small 9 (by decide) (by decide), c4.src, fun m o3 m0 m1 so3 => ⟨_, _, rfl, rfl, ?_⟩⟩
      have c5 := c4.put so3
      have k5 : Kp p H (upd (upd (upd H2 p o1) p o2) p o3) := k2.trans (Kp.put.trans (Kp.put.trans Kp.put))
      have k25 : Kp p H2 (upd (upd (upd H2 p o1) p o2) p o3) := Kp.put.trans (Kp.put.trans Kp.put)
      have e5 := k25 D _ nDp e
      have rs5 := RDs.hk c2.mem k25 rs
      generalize upd (upd (upd H2 p o1) p o2) p o3 = H5 at c5 k5 e5 rs5
      have ixa : ixN vs.length a = some a.toNat := by unfold ixN; rw [if_pos a0, if_pos (by omega)]
      refine ⟨1, rfl, .int (1 + m), rfl, by show 2 ≤ sizeLine; decide, fun t ht => ?_⟩
      have c6 := c5.new (o := .tup [.int (-1), .int (1 + m)]) ht
      have nt : D ≠ t := fun z => by rw [z, ht] at e5; cases e5
      have e6 : upd H5 t (.tup [.int (-1), .int (1 + m)]) D = some (.lst vs) := by rw [upd_ne nt]; exact e5
      have r6 := RD.tupN (l := D :: l) c5 ht (xs := [.int (-1), .int (1 + m)]) (.cons (.int _) (.cons (.int _) .nil))
      have rs6 := RDs.hk c5.mem (Kp.new (o := .tup [.int (-1), .int (1 + m)]) ht) rs5
      refine ⟨.ref D, rfl, .int a, rfl, D, vs, a, a.toNat, rfl, rfl, e6, ixa, ?_⟩
      have c7 := c6.putD (o := .lst (vs.set a.toNat (.ref t))) nDp nDs
      have rs7 := RDs.putD (o := .lst (vs.set a.toNat (.ref t))) (RDs.set r6 a.toNat rs6)
      have k7 : Kp p H (upd (upd H5 t (.tup [.int (-1), .int (1 + m)])) D (.lst (vs.set a.toNat (.ref t)))) := fun x o n z => by
        rw [upd_ne (ne_of_none z hD)]; exact (k5.trans (Kp.new ht)) x o n z
      have e7 : upd (upd H5 t (.tup [.int (-1), .int (1 + m)])) D (.lst (vs.set a.toNat (.ref t))) D = some (.lst (vs.set a.toNat (.ref t))) := upd_same
      generalize upd (upd H5 t (.tup [.int (-1), .int (1 + m)])) D (.lst (vs.set a.toNat (.ref t))) = H7 at c7 rs7 k7 e7
      have ixb : ixN (vs.set a.toNat (.ref t)).length b = some b.toNat := by rw [List.length_set]; unfold ixN; rw [if_pos b0, if_pos (by omega)]
      refine ⟨.int (1 + m), rfl, _, _, rfl, rfl, .int (1 + m), rfl, by show 2 ≤ sizeLine; decide, fun u hu => ?_⟩
      have c8 := c7.new (o := .tup [.int (1 + m + 1), .int (1 + m)]) hu
      have nu : D ≠ u := fun z => by rw [z, hu] at e7; cases e7
      have e8 : upd H7 u (.tup [.int (1 + m + 1), .int (1 + m)]) D = some (.lst (vs.set a.toNat (.ref t))) := by rw [upd_ne nu]; exact e7
      have r8 := RD.tupN (l := D :: l) c7 hu (xs := [.int (1 + m + 1), .int (1 + m)]) (.cons (.int _) (.cons (.int _) .nil))
      have rs8 := RDs.hk c7.mem (Kp.new (o := .tup [.int (1 + m + 1), .int (1 + m)]) hu) rs7
      refine ⟨.ref D, rfl, .int b, rfl, D, _, b, b.toNat, rfl, rfl, e8, ixb, ?_⟩
      have c9 := c8.putD (o := .lst ((vs.set a.toNat (.ref t)).set b.toNat (.ref u))) nDp nDs
      have rs9 := RDs.putD (o := .lst ((vs.set a.toNat (.ref t)).set b.toNat (.ref u))) (RDs.set r8 b.toNat rs8)
      have k9 : Kp p H (upd (upd H7 u (.tup [.int (1 + m + 1), .int (1 + m)])) D (.lst ((vs.set a.toNat (.ref t)).set b.toNat (.ref u)))) := fun x o n z => by
        rw [upd_ne (ne_of_none z hD)]; exact (k7.trans (Kp.new hu)) x o n z
      have c10 := c9.tail c0
      refine ⟨.ref D, rfl, D, _, rfl, .inl ⟨SqL.of upd_same, fun t2 ht2 => ?_⟩⟩
      refine q _ _ _ (k9.trans (Kp.new ht2)) (c10.new ht2) (RD.tupN c10 ht2 (RDs.less rs9)) (.inr ⟨_, rfl, ?_, fun e he => ?_⟩)
      · rw [List.length_set, List.length_set, ← RDs.length rs, hl']; exact n5
      · rcases List.mem_or_eq_of_mem_set he with he | he
        · rcases List.mem_or_eq_of_mem_set he with he | he
          · exact hc e he
          · subst he; exact T_pair (small10 (by decide)) (small10 (by omega))
        · subst he; exact T_pair (small10 (by omega)) (small10 (by omega))
end
end K01

/-! Q21b: cuts, sums and multiples of tuples, whether the old object comes or a new one. -/
namespace GL
open PySem PySem.Spec PyProof.Rows L2
/-- t is one that was there and nothing changed, or it is new -/
def OldNew (olds : List Addr) (H : Hp) (ys : List V) (t : Addr) (H' : Hp) : Prop :=
  H' t = some (.tup ys) ∧ ((t ∈ olds ∧ H' = H) ∨ (H t = none ∧ H' = upd H t (.tup ys)))
section
variable {X : Cx}
def rSlW (K : PySem.W.Frag) : V → Option Int → Option Int → Hp → VK → Prop := fun x lo hi H Q => ∃ a xs, x = .ref a ∧ H a = some (.tup xs) ∧ ∀ t H', OldNew [a] H (cutV xs lo hi) t H' → Q (.ref t) H'
theorem sl_tupW : SlR X (rSlW X.K) := by
  intro pins s σ H x v vl vu lo hi sl Q I rx hs pl pu h
  obtain ⟨a, xs, rfl, hx, q⟩ := h
  refine sl_tupA pins s σ H _ v vl vu lo hi sl Q I rx hs pl pu ⟨a, xs, rfl, SqT.of hx, fun hw => ?_, fun _ t ht => q t _ ⟨upd_same, .inr ⟨ht, rfl⟩⟩⟩
  have e : cutV xs lo hi = xs := by
    unfold cutV
    rw [hw.1, hw.2]
    simp
  exact q a H ⟨by rw [e]; exact hx, .inl ⟨List.mem_cons_self, rfl⟩⟩
def rCatW : R2 := fun x y H Q => ∃ a b xs ys, x = .ref a ∧ y = .ref b ∧ H a = some (.tup xs) ∧ H b = some (.tup ys) ∧ xs.length + ys.length ≤ sizeLine ∧ ∀ t H', OldNew [a, b] H (xs ++ ys) t H' → Q (.ref t) H'
theorem op_catW : OpR X (binaryOp .Add) rCatW := by
  intro pins s σ H x y v u Q I rx ry h
  obtain ⟨a, b, xs, ys, rfl, rfl, hx, hy, hz, q⟩ := h
  refine op_catA pins s σ H _ _ v u Q I rx ry ⟨a, b, xs, ys, rfl, rfl, SqT.of hx, SqT.of hy, hz, fun e => ?_, fun _ e => ?_, fun _ _ t ht => q t _ ⟨upd_same, .inr ⟨ht, rfl⟩⟩⟩
  · subst e
    exact q b H ⟨hy, .inl ⟨List.mem_cons_of_mem _ List.mem_cons_self, rfl⟩⟩
  · subst e
    exact q a H ⟨by rw [List.append_nil]; exact hx, .inl ⟨List.mem_cons_self, rfl⟩⟩
def rRepW : R2 := fun x y H Q => ∃ a k xs, x = .ref a ∧ y = .int k ∧ H a = some (.tup xs) ∧ 2 ≤ k ∧ k ≤ 1000 ∧ xs.length ≤ 1000 ∧ ∀ t H', OldNew [a] H (List.replicate k.toNat xs).flatten t H' → Q (.ref t) H'
theorem op_repW : OpR X (binaryOp .Mult) rRepW := by
  intro pins s σ H x y v u Q I rx ry h
  obtain ⟨a, k, xs, rfl, rfl, hx, h1, h2, hz, q⟩ := h
  refine op_repA pins s σ H _ _ v u Q I rx ry ⟨a, k, xs, rfl, rfl, SqT.of hx, h1, h2, hz, fun e => ?_, fun _ t ht => q t _ ⟨upd_same, .inr ⟨ht, rfl⟩⟩⟩
  subst e
  have z : (List.replicate k.toNat ([] : List V)).flatten = [] := by
    induction k.toNat with
    | zero => rfl
    | succ n ih => rw [List.replicate_succ, List.flatten_cons, ih]; rfl
  exact q a H ⟨by rw [z]; exact hx, .inl ⟨List.mem_cons_self, rfl⟩⟩
end
end GL
namespace K01
open PySem PySem.Spec PyProof.Rows L2 GL
theorem RDs.drop {H : Hp} : ∀ {vs ds} (i : Nat), RDs H vs ds → RDs H (vs.drop i) (ds.drop i)
  | _, _, 0, r => r
  | _, _, _ + 1, .nil => .nil
  | _, _, i + 1, .cons _ b => RDs.drop i b
theorem RDs.take {H : Hp} : ∀ {vs ds} (i : Nat), RDs H vs ds → RDs H (vs.take i) (ds.take i)
  | _, _, 0, _ => by rw [List.take_zero, List.take_zero]; exact .nil
  | _, _, _ + 1, .nil => .nil
  | _, _, i + 1, .cons a b => .cons a (RDs.take i b)
theorem RDs.app {H : Hp} {us es} (r : RDs H us es) : ∀ {vs ds}, RDs H vs ds → RDs H (vs ++ us) (ds ++ es)
  | _, _, .nil => r
  | _, _, .cons a b => .cons a (RDs.app r b)
theorem RDs.rep {H : Hp} {vs ds} (r : RDs H vs ds) : ∀ k, RDs H (List.replicate k vs).flatten (List.replicate k ds).flatten
  | 0 => .nil
  | k + 1 => by
    rw [List.replicate_succ, List.replicate_succ, List.flatten_cons, List.flatten_cons]
    exact RDs.app (RDs.rep r k) r
theorem RDs.rev {H : Hp} : ∀ {vs ds}, RDs H vs ds → RDs H vs.reverse ds.reverse
  | _, _, .nil => .nil
  | _, _, .cons a b => by
    rw [List.reverse_cons, List.reverse_cons]
    exact RDs.app (.cons a .nil) (RDs.rev b)
/-- the data of a cut -/
def cutD (ds : List PyData) (n : Nat) (lo hi : Option Int) : List PyData := (ds.drop (HT.sIx n 0 lo)).take (HT.sIx n n hi - HT.sIx n 0 lo)
theorem RDs.cut {H : Hp} {vs ds} (r : RDs H vs ds) (lo hi : Option Int) : RDs H (cutV vs lo hi) (cutD ds vs.length lo hi) := RDs.take _ (RDs.drop _ r)
theorem cutD_mem {ds : List PyData} {n : Nat} {lo hi : Option Int} {d : PyData} (h : d ∈ cutD ds n lo hi) : d ∈ ds := List.mem_of_mem_drop (List.mem_of_mem_take h)
theorem cutD_len (ds : List PyData) (n : Nat) (lo hi : Option Int) : (cutD ds n lo hi).length ≤ ds.length := by
  unfold cutD; rw [List.length_take, List.length_drop]; omega
theorem rep_mem {k : Nat} {ds : List PyData} {d : PyData} (h : d ∈ (List.replicate k ds).flatten) : d ∈ ds := by
  obtain ⟨x, hx, hd⟩ := List.mem_flatten.mp h
  rw [List.eq_of_mem_replicate hx] at hd; exact hd
/-- old or new: data -/
theorem OldNew.rd {l : List Addr} {p sc : Addr} {ns : List Int} {H H' : Hp} {olds : List Addr} {ys : List V} {ds : List PyData} {t : Addr} (c : Ctx l p sc ns H) (h : OldNew olds H ys t H') (ho : ∀ a ∈ olds, a ∉ l) (rs : RDs (hid l H) ys ds) :
    Kp p H H' ∧ Ctx l p sc ns H' ∧ RD (hid l H') (.ref t) (.tuple ds) ∧ t ∉ l := by
  obtain ⟨e, ⟨m, rfl⟩ | ⟨n, rfl⟩⟩ := h
  · exact ⟨.refl p _, c, .tup (hid_mk (ho t m) e) rs, ho t m⟩
  · exact ⟨Kp.new n, c.new n, RD.tupN c n rs, not_in c n⟩
end K01

/-! Q22: _law_odd. -/
namespace K01
open PySem PySem.Spec PyProof.Rows L2 GL
theorem W_atom {d : PyData} (h : Nice 0 340 d) (hi : ∀ i, d ≠ .int i) (ht : tupD d = none) : W 0 340 d :=
  ⟨h, (fun i e => absurd e (hi i)), (fun a b e => by unfold fracOf at e; split at e <;> first | (exact absurd ht (by intro z; cases z)) | cases e), (fun ds e => by rw [ht] at e; cases e), (by show ((itemsD d).length : Int) ≤ 1000; unfold itemsD; rw [ht]; decide), (fun x hx => by unfold itemsD at hx; rw [ht] at hx; cases hx), (fun x hx => by unfold itemsD at hx; rw [ht] at hx; cases hx)⟩
theorem W_bl (b : Bool) : W 0 340 (.bool b) := W_atom (nice_bool b) (fun i e => nomatch e) rfl
theorem W_non : W 0 340 .none := W_atom nice_none (fun i e => nomatch e) rfl
theorem W_s1 : W 0 340 (.str "1") := W_atom ⟨rfl, by simp only [PyData.depth]; omega, by decide +kernel⟩ (fun i e => nomatch e) rfl
theorem W_s0 : W 0 340 (.str "") := W_atom ⟨rfl, by simp only [PyData.depth]; omega, by decide +kernel⟩ (fun i e => nomatch e) rfl
theorem W_d0 : W 2 340 (.dict []) := ⟨⟨rfl, by decide +kernel, by decide +kernel⟩, (fun i e => nomatch e), (fun a b e => by cases e), (fun ds e => by cases e), (by show (0 : Int) ≤ 1000; decide), (fun x hx => absurd (show x ∈ ([] : List PyData) from hx) List.not_mem_nil), (fun x hx => absurd (show x ∈ ([] : List PyData) from hx) List.not_mem_nil)⟩
theorem W_d1 : W 2 340 (.dict [(.str "0", .tuple [.int 0, .int 1])]) := ⟨⟨by decide +kernel, by decide +kernel, by decide +kernel⟩, (fun i e => nomatch e), (fun a b e => by cases e), (fun ds e => by cases e), (by show (0 : Int) ≤ 1000; decide), (fun x hx => absurd (show x ∈ ([] : List PyData) from hx) List.not_mem_nil), (fun x hx => absurd (show x ∈ ([] : List PyData) from hx) List.not_mem_nil)⟩
theorem W_dig {i : Int} (h : i.natAbs < 2 ^ 1100) : W 0 3500 (.str (toString i)) := by
  have hl : (Str.ofString (toString i)).length ≤ 333 := by
    rw [PySem.ofString_length]
    exact int_text_length_le10 (by decide) (Nat.lt_of_lt_of_le h wide10)
  have hc : ∀ c ∈ (Str.ofString (toString i)).cps.toList, c < 16 ^ 8 := fun c hc => by
    rw [PySem.Str.ofString_eq_toList] at hc
    obtain ⟨x, _, rfl⟩ := List.mem_map.mp (show c ∈ (toString i).toList.map Char.toNat from by simpa using hc)
    have := x.val.toNat_lt
    show x.val.toNat < 16 ^ 8
    omega
  have hr : (reprText (Str.ofString (toString i))).length ≤ 3500 := Nat.le_trans (PySem.StrLaws.reprText_len _ hc) (by omega)
  exact ⟨⟨rfl, by simp only [PyData.depth]; omega, by rw [PyData.shown_str]; exact hr⟩, (fun i e => nomatch e), (fun a b e => by cases e), (fun ds e => by cases e), (by show (0 : Int) ≤ 1000; decide), (fun x hx => absurd (show x ∈ ([] : List PyData) from hx) List.not_mem_nil), (fun x hx => absurd (show x ∈ ([] : List PyData) from hx) List.not_mem_nil)⟩
/-- how long at most the text of what comes of a tree -/
def No (n : Nat) : Nat := 30 * (Nt n + 2) + 30
section
variable {P : Program} {w : World} {K : PySem.W.Frag} {mg : Str → Option Value} {base : Heap}
variable {fP : Addr} {dP : FuncData}
def spOdd (n : Nat) : Sp := fun vs H Q _ => ∃ l p sc ns v d, vs = [.ref p, v] ∧ Ctx l p sc ns H ∧ RD (hid l H) v d ∧ T n d ∧ Tells l p sc ns H (W (n + 2) (No n)) Q
/-- what the function reads of the builtins -/
structure OddT (mg : Str → Option Value) : Prop where
  tuple : mg "tuple" = none
  list : mg "list" = none
  len : mg "len" = none
  str : mg "str" = none
  isi : mg "isinstance" = none
/-- an item of a list, at a drawn place -/
theorem pick_end {l : List Addr} {p sc : Addr} {ns : List Int} {H H' : Hp} {Q : VK} {D : Ends} {σ : L2.St} {i : Nat} {a : Addr} {vs : List V} {ds : List PyData} {C : PyData → Prop} (hD : D.rt = Q)
    (q : Tells l p sc ns H C Q) (h0 : σ[0]? = some (some (.ref p))) (hi : σ[i]? = some (some (.ref a))) (k : Kp p H H') (c : Ctx l p sc ns H') (e : H' a = some (.lst vs)) (na : a ≠ p) (rs : RDs (hid l H') vs ds)
    (hc : ∀ d ∈ ds, C d) (hl : 0 < vs.length) (hl2 : vs.length ≤ 100) :
    tRet (tOp (rIxL K) (tVar i) (tCall (spPick 0) [] E0 (tCons (tVar 0) (tCons (tCB (rLenS K) (tCons (tVar i) tNil)) tNil)))) D σ H' := by
  have mo : most 0 = 100000 := rfl
  refine ⟨.ref a, hi, .ref p, h0, .ref a, hi, a, vs, rfl, .inl (SqL.of e), p, sc, ns, (vs.length : Int), rfl, by omega, by rw [mo]; omega, small _ (by omega) (by omega), c.src, fun r o r0 r1 so => ?_⟩
  have hr : r.toNat < vs.length := by omega
  have hx : vs[r.toNat]? = some vs[r.toNat] := List.getElem?_eq_getElem hr
  obtain ⟨d, ed, rd⟩ := RDs.at rs hx
  refine ⟨a, vs, r, vs[r.toNat], rfl, rfl, SqL.of (by rw [upd_ne na]; exact e), ?_, ?_⟩
  · have := atI_nat (xs := vs) hx
    rw [show ((r.toNat : Nat) : Int) = r by omega] at this
    exact this
  · rw [hD]
    exact q _ _ d (k.trans Kp.put) (c.put so) (RD.hk c.mem Kp.put rd) (hc d (List.mem_of_getElem? ed))
theorem Nt0 (n : Nat) : 340 ≤ Nt n := Nt_ge n
theorem ok_odd (n : Nat) {f : Addr} {fd : FuncData} (F : Fun K "_law_odd" "_law_odd" sLOdd f fd) (B : OddT mg)
    (FP : Fun K "_law_pick" "_law_pick" sLPick fP dP) (bP : Binds K dP ["source", "many"] []) (gP : mg "_law_pick" = some (.ref fP)) (GP : FnOk P w K mg base CX0 1 fP dP ["source", "many"] (spPick 0)) :
    FnOk P w K mg base CX0 2 f fd ["source", "part"] (spOdd n) := by
  refine F.ok scLOdd (fun vs H Q E h => ?_) (fun cdv A outer s H vs Q E hr h => ?_)
  · obtain ⟨l, p, sc, ns, v, d, rfl, _⟩ := h
    rfl
  · obtain ⟨l, p, sc, ns, v, d, rfl, c0, rd, td, q⟩ := h
    have hu : (A.deeper (envOfC "_law_odd" (defScope sLOdd) s.heap.objs.size f cdv)).units + 64 < cLine := by
      have := hr.un; omega
    refine ⟨_, pss_cons (ps_set (i := 2) scLOdd.nd rfl (.inl rfl) (pe_lst (pa_cons pe_non (pa_cons pe_bl (pa_cons pe_bl (pa_cons pe_str (pa_cons pe_str (pa_cons (pe_lst pa_nil) (pa_cons pe_dnewK
          (pa_cons (pe_disp (pps_cons pe_str (pe_tup (pa_cons pe_int (pa_cons pe_int pa_nil))) pps_nil) (by rfl) (by rfl) (fun z => by cases z) (by decide))
          (pa_cons (pe_tup pa_nil) (pa_cons (pe_lst (pa_cons pe_int pa_nil)) (pa_cons (pe_op op_pow pe_int pe_int) (pa_cons (pe_un un_neg pe_int) (pa_cons pe_int (pa_cons (pe_un un_neg pe_int) (pa_cons pe_int (pa_cons pe_int (pa_cons pe_int pa_nil)))))))))))))))))))
      (pss_cons (ps_if (pt_cmpR op_eq (pe_call GP hr (by rfl) gP FP.kp bP .nil pass0 (pa_cons (pv 0) (pa_cons pe_int pa_nil))) pe_int (nomark _))
        (pss_one (ps_ret (pe_ix ix_list (pv 2) (pe_call GP hr (by rfl) gP FP.kp bP .nil pass0 (pa_cons (pv 0) (pa_cons (pe_callB call_len_seq (by rfl) B.len PySem.boot_len (pa_cons (pv 2) pa_nil)) pa_nil))) (fun _ _ => rfl)))) pss_nil)
      (pss_cons (ps_if (pt_val (pe_callB call_isi (by rfl) B.isi (by decide +kernel) (pa_cons (pv 1) (pa_cons (pe_bltn (v := .ty "tuple") (by rfl) B.tuple (by decide +kernel) rfl) pa_nil))))
        (pss_cons (ps_set (i := 3) scLOdd.nd rfl (.inl rfl) (pe_callTy call_tuple_of (by rfl) B.tuple (by decide +kernel) (pa_cons
          (pe_lc (own := [("number", 5)]) (g := gName 5) (tt := tYes) rfl scLOdd.nd (pi_tup (pv 1))
            (blkOk_by (own := [("number", 5)]) (N := ["source", "part", "fixed", "doubled", "ways", "number"]) (sc := defScope sLOdd) (by decide +kernel))
            (fun _ _ _ _ _ => pg_name (i := 5) scLOdd.nd rfl (Or.inl rfl)) (fun _ _ _ _ _ => pts_nil)
            (fun _ _ _ _ _ => pe_op (show OpR _ (binaryOp .Mult) (fun x y H Q => rI CMul (fun i j => .int (i * j)) x y H Q ∨ rRepW x y H Q) from op_mul.or op_repW) (pv 5) pe_int)) pa_nil)))
        (pss_cons (ps_set (i := 4) scLOdd.nd rfl (.inl rfl) (pe_lst (pa_cons (pe_callTy call_list_of (by rfl) B.list (by decide +kernel) (pa_cons (pv 1) pa_nil))
          (pa_cons (pe_slice sl_tupW (pv 1) po_none (po_some (pe_un un_neg pe_int)))
          (pa_cons (pe_slice sl_tupW (pv 1) (po_some pe_int) po_none)
          (pa_cons (pe_op op_catW (pv 1) (pe_slice sl_tupW (pv 1) (po_some (pe_un un_neg pe_int)) po_none))
          (pa_cons (pe_revT (pv 1))
          (pa_cons (pe_tup (pa_cons (pv 1) pa_nil))
          (pa_cons (pe_op op_repW (pv 1) pe_int)
          (pa_cons (pe_lst (pa_cons (pv 1) pa_nil))
          (pa_cons (pv 3) pa_nil)))))))))))
        (pss_one (ps_ret (pe_ix ix_list (pv 4) (pe_call GP hr (by rfl) gP FP.kp bP .nil pass0 (pa_cons (pv 0) (pa_cons (pe_callB call_len_seq (by rfl) B.len PySem.boot_len (pa_cons (pv 4) pa_nil)) pa_nil))) (fun _ _ => rfl)))))) pss_nil)
      (pss_cons (ps_set (i := 4) scLOdd.nd rfl (.inl rfl) (pe_lst (pa_cons (pe_op op_add (pv 1) pe_int)
          (pa_cons (pe_op op_sub (pv 1) pe_int)
          (pa_cons (pe_un un_neg (pv 1))
          (pa_cons (pe_op op_mul (pv 1) pe_int)
          (pa_cons (pe_tup (pa_cons (pv 1) pa_nil))
          (pa_cons (pe_lst (pa_cons (pv 1) pa_nil))
          (pa_cons (pe_tup (pa_cons (pv 1) (pa_cons pe_int pa_nil)))
          (pa_cons (pe_callTy call_str_int (by rfl) B.str (by decide +kernel) (pa_cons (pv 1) pa_nil))
          (pa_cons (pe_cmpR op_eq (pv 1) pe_int (nomark _)) pa_nil)))))))))))
      (pss_one (ps_ret (pe_ix ix_list (pv 4) (pe_call GP hr (by rfl) gP FP.kp bP .nil pass0 (pa_cons (pv 0) (pa_cons (pe_callB call_len_seq (by rfl) B.len PySem.boot_len (pa_cons (pv 4) pa_nil)) pa_nil))) (fun _ _ => rfl))))))), ?_⟩
    have mo : most 0 = 100000 := rfl
    have hN : 10290 ≤ No n := by have := Nt_ge n; unfold No; omega
    have a0 : ∀ {d}, W 0 340 d → W (n + 2) (No n) d := fun h => h.mono (by omega) (by omega)
    have wi : ∀ i : Int, i.natAbs < 2 ^ 1100 → W (n + 2) (No n) (.int i) := fun i h => a0 (W_int h)
    refine ⟨by show 0 ≤ sizeLine; decide, fun l1 h1 => fun d0 hd0 => fun d1 hd1 => ⟨by show 2 ≤ sizeLine; decide, fun t1 ht1 => ?_⟩⟩
    have c1 := c0.new (o := .lst []) h1
    have c2 := c1.new (o := .dK []) hd0
    have c3 := c2.new (o := .dK []) hd1
    have c4 := c3.new (o := .tup [.int 0, .int 1]) ht1
    have nd1p : d1 ≠ p := fun z => c2.here p c2.mem (z ▸ hd1)
    have nd1s : d1 ≠ sc := fun z => by have h9 := c2.src.2.1; rw [← z, hd1] at h9; cases h9
    have nt1 : d1 ≠ t1 := fun z => by rw [← z, upd_same] at ht1; cases ht1
    have e41 : upd (upd (upd (upd H l1 (.lst [])) d0 (.dK [])) d1 (.dK [])) t1 (.tup [.int 0, .int 1]) d1 = some (.dK []) := by rw [upd_ne nt1]; exact upd_same
    refine ⟨e41, [(.inr "0", .ref t1)], rfl, by show 1 ≤ 15; decide, by show 0 ≤ sizeLine; decide, fun t0 ht0 => ⟨by show 1 ≤ sizeLine; decide, fun l2 hl2 => ⟨_, _, rfl, rfl, ⟨by decide, by decide, by decide⟩, 1001, rfl, 1000, rfl, by show 17 ≤ sizeLine; decide, fun lf hf => ?_⟩⟩⟩
    have em : mergeK [] [((.inr "0" : Key), V.ref t1)] = [(.inr "0", .ref t1)] := rfl
    rw [em] at ht0 hl2 hf ⊢
    have k25 : Kp p (upd (upd H l1 (.lst [])) d0 (.dK [])) (upd (upd (upd (upd (upd H l1 (.lst [])) d0 (.dK [])) d1 (.dK [])) t1 (.tup [.int 0, .int 1])) d1 (.dK [(.inr "0", .ref t1)])) := fun b o nb z => by
      rw [upd_ne (ne_of_none z hd1)]; exact ((Kp.new hd1).trans (Kp.new ht1)) b o nb z
    have c5 := ((c4.more (D := d1) (by rw [e41]; exact fun z => nomatch z)).putD (o := .dK [(.inr "0", .ref t1)]) nd1p nd1s).tail c0
    have rl1 := RD.lstN (xs := []) (ds := []) c0 h1 .nil
    have rd0 : RD (hid l (upd (upd H l1 (.lst [])) d0 (.dK []))) (.ref d0) (.dict []) := .dct (kvs := []) (ds := []) (hid_mk (not_in c1 hd0) upd_same) .nil
    have c3m := c3.more (D := d1) (by rw [upd_same]; exact fun z => nomatch z)
    have rt1 := RD.tupN (xs := [.int 0, .int 1]) (ds := [.int 0, .int 1]) c3m ht1 (.cons (.int 0) (.cons (.int 1) .nil))
    have rt1' := RDs.less (RDs.putD (o := .dK [(.inr "0", .ref t1)]) (.cons rt1 .nil))
    have rd1 : RD (hid l (upd (upd (upd (upd (upd H l1 (.lst [])) d0 (.dK [])) d1 (.dK [])) t1 (.tup [.int 0, .int 1])) d1 (.dK [(.inr "0", .ref t1)]))) (.ref d1) (.dict [(.str "0", .tuple [.int 0, .int 1])]) :=
      .dct (kvs := [(.inr "0", .ref t1)]) (ds := [.tuple [.int 0, .int 1]]) (hid_mk (not_in c2 hd1) upd_same) rt1'
    have k15 := (Kp.new (p := p) (o := .dK []) hd0).trans k25
    have k05 := (Kp.new (p := p) (o := .lst []) h1).trans k15
    generalize upd (upd (upd (upd (upd H l1 (.lst [])) d0 (.dK [])) d1 (.dK [])) t1 (.tup [.int 0, .int 1])) d1 (.dK [(.inr "0", .ref t1)]) = H5 at ht0 hl2 hf k25 c5 rt1' rd1 k15 k05
    have c6 := c5.new (o := .tup []) ht0
    have rt0 := RD.tupN (xs := []) (ds := []) c5 ht0 .nil
    have c7 := c6.new (o := .lst [.int 0]) hl2
    have rl2 := RD.lstN (xs := [.int 0]) (ds := [.int 0]) c6 hl2 (.cons (.int 0) .nil)
    have k57 := (Kp.new (p := p) (o := .tup []) ht0).trans (Kp.new (o := .lst [.int 0]) hl2)
    have k67 := Kp.new (p := p) (o := .lst [.int 0]) hl2
    have m := c0.mem
    have RF : RDs (hid l (upd (upd H5 t0 (.tup [])) l2 (.lst [.int 0]))) [.non, .bl true, .bl false, .str "1", .str "", .ref l1, .ref d0, .ref d1, .ref t0, .ref l2, .int (10 ^ (30 : Int).toNat), .int (-1001), .int 1001, .int (-1000), .int 1000, .int 0, .int 1]
        [.none, .bool true, .bool false, .str "1", .str "", .list [], .dict [], .dict [(.str "0", .tuple [.int 0, .int 1])], .tuple [], .list [.int 0], .int (10 ^ (30 : Int).toNat), .int (-1001), .int 1001, .int (-1000), .int 1000, .int 0, .int 1] :=
      .cons .non (.cons (.bl true) (.cons (.bl false) (.cons (.str "1") (.cons (.str "") (.cons (RD.hk m (k15.trans k57) rl1) (.cons (RD.hk m (k25.trans k57) rd0) (.cons (RD.hk m k57 rd1) (.cons (RD.hk m k67 rt0) (.cons rl2
        (.cons (.int _) (.cons (.int _) (.cons (.int _) (.cons (.int _) (.cons (.int _) (.cons (.int _) (.cons (.int _) .nil))))))))))))))))
    have WF : ∀ d ∈ ([.none, .bool true, .bool false, .str "1", .str "", .list [], .dict [], .dict [(.str "0", .tuple [.int 0, .int 1])], .tuple [], .list [.int 0], .int (10 ^ (30 : Int).toNat), .int (-1001), .int 1001, .int (-1000), .int 1000, .int 0, .int 1] : List PyData), W (n + 2) (No n) d := by
      have wi' : ∀ i : Int, i.natAbs ≤ 10 ^ 30 → W (n + 2) (No n) (.int i) := fun i h => wi i (Nat.lt_of_le_of_lt h (by decide +kernel))
      have wl : W (n + 2) (No n) (.list []) := (W_lst (k := 0) (L := 340) (m := 0) (ds := []) (fun x hx => by cases hx) (by decide)).mono (by omega) (by omega)
      have wl0 : W (n + 2) (No n) (.list [.int 0]) := (W_lst (k := 0) (L := 340) (m := 1) (ds := [.int 0]) (fun x hx => by rcases List.mem_singleton.mp hx with rfl; exact W_int (by decide +kernel)) (by decide)).mono (by omega) (by omega)
      have wt : W (n + 2) (No n) (.tuple []) := (W_tup (k := 0) (L := 340) (m := 0) (ds := []) (fun x hx => by cases hx) (by decide) (by decide)).mono (by omega) (by omega)
      intro d hd
      simp only [List.mem_cons, List.not_mem_nil, or_false] at hd
      rcases hd with rfl | rfl | rfl | rfl | rfl | rfl | rfl | rfl | rfl | rfl | rfl | rfl | rfl | rfl | rfl | rfl | rfl
      · exact a0 W_non
      · exact a0 (W_bl true)
      · exact a0 (W_bl false)
      · exact a0 W_s1
      · exact a0 W_s0
      · exact wl
      · exact W_d0.mono (by omega) (by omega)
      · exact W_d1.mono (by omega) (by omega)
      · exact wt
      · exact wl0
      · exact wi' _ (by decide +kernel)
      · exact wi' _ (by decide +kernel)
      · exact wi' _ (by decide +kernel)
      · exact wi' _ (by decide +kernel)
      · exact wi' _ (by decide +kernel)
      · exact wi' _ (by decide +kernel)
      · exact wi' _ (by decide +kernel)
    have k07 := k05.trans k57
    generalize upd (upd H5 t0 (.tup [])) l2 (.lst [.int 0]) = H7 at hf c7 RF k07
    have nlf : lf ≠ p := fun z => c7.here p m (z ▸ hf)
    refine ⟨.ref p, rfl, p, sc, ns, 3, rfl, by decide, by rw [mo]; decide, small 3 (by decide) (by decide), (c7.new hf).src, fun r o1 r0 r1 so => ⟨rfl, _, rfl, ?_⟩⟩
    rw [dec_int']
    refine ite2 (fun e1 => pick_end (i := 2) rfl q rfl rfl ((k07.trans (Kp.new hf)).trans Kp.put) ((c7.new hf).put so) (by rw [upd_ne nlf]; exact upd_same) nlf (RDs.hk m ((Kp.new hf).trans Kp.put) RF) WF (by show 0 < 17; decide) (by show 17 ≤ 100; decide)) (fun e1 => ?_)
    have k9 := fun (L : List V) => (k07.trans (Kp.new (o := .lst L) hf)).trans (Kp.put (o := o1))
    have c9 := fun (L : List V) => (c7.new (o := .lst L) hf).put so
    generalize hg : upd (upd H7 lf (.lst _)) p o1 = H9
    have k10 : Kp p H H9 := by rw [← hg]; exact k9 _
    have c10 : Ctx l p sc ns H9 := by rw [← hg]; exact c9 _
    have rd9 := RD.hk m k10 rd
    refine ⟨v, rfl, v, .ty "tuple", _, _, _, rfl, .ty _, (RD.out rd9).tyX, kit_tuple K d, _, rfl, ?_⟩
    cases e2 : tupD d with
    | none =>
      obtain ⟨i, rfl, hi⟩ : ∃ i : Int, d = .int i ∧ i.natAbs < 2 ^ 1010 := by
        cases n with
        | zero => exact td
        | succ n =>
          rcases td with h | ⟨ds, h, _⟩
          · exact h
          · rw [h] at e2; cases e2
      obtain rfl : v = .int i := by cases rd9; rfl
      have p11 : (2 : Nat) ^ 1010 * 4 < 2 ^ 1100 := by decide +kernel
      have hlog : i.natAbs.log2 < 1920 := PySem.Flt.log2_lt_of (by decide) (Nat.lt_of_lt_of_le hi (Nat.pow_le_pow_right (by decide) (by decide)))
      have one : (1 : Nat) < 2 ^ 1010 := Nat.lt_of_lt_of_le (by decide : 1 < 2 ^ 1) (Nat.pow_le_pow_right (by decide) (by decide))
      refine iteF ⟨.int i, rfl, _, _, rfl, rfl, .int i, rfl, _, _, rfl, rfl, .int i, rfl, i, rfl, .int i, rfl, _, _, rfl, rfl, .inr ⟨by decide, by decide⟩,
        .int i, rfl, by show 1 ≤ sizeLine; decide, fun t2 ht2 => ⟨.int i, rfl, by show 1 ≤ sizeLine; decide, fun l3 hl3 => ⟨.int i, rfl, by show 2 ≤ sizeLine; decide, fun t3 ht3 =>
          ⟨.int i, rfl, i, rfl, hlog, .int i, rfl, rfl, by show 9 ≤ sizeLine; decide, fun lw hlw => ?_⟩⟩⟩⟩
      have d1 := c10.new (o := .tup [.int i]) ht2
      have d2 := d1.new (o := .lst [.int i]) hl3
      have d3 := d2.new (o := .tup [.int i, .int 1]) ht3
      have q1 := RD.tupN (xs := [.int i]) (ds := [.int i]) c10 ht2 (.cons (.int i) .nil)
      have q2 := RD.lstN (xs := [.int i]) (ds := [.int i]) d1 hl3 (.cons (.int i) .nil)
      have q3 := RD.tupN (xs := [.int i, .int 1]) (ds := [.int i, .int 1]) d2 ht3 (.cons (.int i) (.cons (.int 1) .nil))
      have kb := Kp.new (p := p) (o := .lst [.int i]) hl3
      have kc := Kp.new (p := p) (o := .tup [.int i, .int 1]) ht3
      have RI : RDs (hid l (upd (upd (upd H9 t2 (.tup [.int i])) l3 (.lst [.int i])) t3 (.tup [.int i, .int 1])))
          [.int (i + 1), .int (i - 1), .int (-i), .int (i * 2), .ref t2, .ref l3, .ref t3, .str (toString i), .bl (decide (V.int i = V.int 1))]
          [.int (i + 1), .int (i - 1), .int (-i), .int (i * 2), .tuple [.int i], .list [.int i], .tuple [.int i, .int 1], .str (toString i), .bool (decide (V.int i = V.int 1))] :=
        .cons (.int _) (.cons (.int _) (.cons (.int _) (.cons (.int _) (.cons (RD.hk m (kb.trans kc) q1) (.cons (RD.hk m kc q2) (.cons q3 (.cons (.str _) (.cons (.bl _) .nil))))))))
      have wI : ∀ j : Int, j.natAbs ≤ 2 * i.natAbs + 2 → W (n + 2) (No n) (.int j) := fun j hj => wi j (by omega)
      have w1 : W 0 340 (.int i) := W_int (by omega)
      have WI : ∀ d ∈ ([.int (i + 1), .int (i - 1), .int (-i), .int (i * 2), .tuple [.int i], .list [.int i], .tuple [.int i, .int 1], .str (toString i), .bool (decide (V.int i = V.int 1))] : List PyData), W (n + 2) (No n) d := by
        have wt1 : W (n + 2) (No n) (.tuple [.int i]) := (W_tup (m := 1) (ds := [.int i]) (fun x hx => by rcases List.mem_singleton.mp hx with rfl; exact w1) (Nat.le_refl 1) (by decide)).mono (by omega) (by omega)
        have wl1 : W (n + 2) (No n) (.list [.int i]) := (W_lst (m := 1) (ds := [.int i]) (fun x hx => by rcases List.mem_singleton.mp hx with rfl; exact w1) (Nat.le_refl 1)).mono (by omega) (by omega)
        have wt2 : W (n + 2) (No n) (.tuple [.int i, .int 1]) := (W_tup (k := 0) (L := 340) (m := 2) (ds := [.int i, .int 1]) (fun x hx => by
          rcases List.mem_cons.mp hx with rfl | hx
          · exact w1
          · rcases List.mem_singleton.mp hx with rfl; exact W_int (by decide +kernel)) (Nat.le_refl 2) (by decide)).mono (by omega) (by omega)
        intro d hd
        simp only [List.mem_cons, List.not_mem_nil, or_false] at hd
        rcases hd with rfl | rfl | rfl | rfl | rfl | rfl | rfl | rfl | rfl
        · exact wI _ (by omega)
        · exact wI _ (by omega)
        · exact wI _ (by omega)
        · exact wI _ (by omega)
        · exact wt1
        · exact wl1
        · exact wt2
        · exact (W_dig (i := i) (by omega)).mono (by omega) (by omega)
        · exact a0 (W_bl _)
      have nlw : lw ≠ p := fun z => d3.here p m (z ▸ hlw)
      exact pick_end (i := 4) rfl q rfl rfl (k10.trans ((Kp.new ht2).trans (kb.trans (kc.trans (Kp.new hlw))))) (d3.new hlw) upd_same nlw (RDs.hk m (Kp.new hlw) RI) WI (by show 0 < 9; decide) (by show 9 ≤ 100; decide)
    | some ds =>
      obtain ⟨n', rfl, hl5, hT⟩ : ∃ n', n = n' + 1 ∧ ds.length ≤ 5 ∧ ∀ x ∈ ds, T n' x := by
        cases n with
        | zero => obtain ⟨i, e, _⟩ := td; rw [e] at e2; cases e2
        | succ n' =>
          rcases td with ⟨i, e, _⟩ | ⟨es, e, h1, h2⟩
          · rw [e] at e2; cases e2
          · rw [e] at e2; cases e2; exact ⟨n', rfl, h1, h2⟩
      obtain ⟨a, xs, rfl, rfl, hx', rs⟩ := rd9.tupOf e2
      obtain ⟨nal, hx⟩ := hid_of hx'
      have nap : a ≠ p := fun z => nal (z ▸ m)
      have hlen : xs.length = ds.length := RDs.length rs
      have N1 : Nt (n' + 1) = 5 * (Nt n' + 2) + 3 := rfl
      have N2 : No (n' + 1) = 30 * (Nt (n' + 1) + 2) + 30 := rfl
      have Tw : ∀ x ∈ ds, W n' (Nt n') x := fun x hx => T.w (hT x hx)
      refine iteT ⟨.ref a, rfl, a, rfl, ⟨xs, SqT.of hx⟩, fun D hD => lc_tup (xs := xs) (fun i H' => Dr l p sc ns H9 D (W n' (2 * Nt n')) i H') (.zero c10 hD) (fun i H' _ pv => SqT.of (pv.kp a _ nap hx)) (fun i x H2 hi pv => ⟨rfl, ?_⟩) (fun H2 pv => ?_)⟩
      · obtain ⟨d, ed, r0⟩ := RDs.at rs hi
        have hm := List.mem_of_getElem? ed
        have c2 := pv.ctx
        have k2 := pv.kp
        have r1 : RD (hid (D :: l) H9) x d := r0.keep fun b o e => by
          obtain ⟨n1, n2⟩ := hid_of e
          exact hid_mk (fun z => by
            rcases List.mem_cons.mp z with rfl | z
            · rw [hD] at n2; cases n2
            · exact n1 z) n2
        have r2 := RD.hk (List.mem_cons_of_mem _ m) k2 r1
        have hi5 : i < 1000000 := by have := (List.getElem?_eq_some_iff.mp hi).1; omega
        have td2 := hT d hm
        cases e3 : tupD d with
        | none =>
          obtain ⟨j, rfl, hj⟩ : ∃ j : Int, d = .int j ∧ j.natAbs < 2 ^ 1010 := by
            cases n' with
            | zero => exact td2
            | succ n' =>
              rcases td2 with h | ⟨es, h, _⟩
              · exact h
              · rw [h] at e3; cases e3
          obtain rfl : x = .int j := by cases r2; rfl
          have p11 : (2 : Nat) ^ 1010 * 4 < 2 ^ 1100 := by decide +kernel
          have := Nt_ge n'
          exact ⟨.int j, rfl, .inl ⟨_, _, rfl, rfl, .inr ⟨by decide, by decide⟩, pv.step hD c10 hi5 (.refl p _) c2 (.int _) ((W_int (by omega)).mono (by omega) (by omega))⟩⟩
        | some es =>
          obtain ⟨n'', rfl, hl6, hT2⟩ : ∃ n'', n' = n'' + 1 ∧ es.length ≤ 5 ∧ ∀ x ∈ es, T n'' x := by
            cases n' with
            | zero => obtain ⟨i, e, _⟩ := td2; rw [e] at e3; cases e3
            | succ n'' =>
              rcases td2 with ⟨i, e, _⟩ | ⟨fs, e, h1, h2⟩
              · rw [e] at e3; cases e3
              · rw [e] at e3; cases e3; exact ⟨n'', rfl, h1, h2⟩
          obtain ⟨b, ys, rfl, rfl, hy', rs2⟩ := r2.tupOf e3
          obtain ⟨nbl, hy⟩ := hid_of hy'
          have hl7 : ys.length = es.length := RDs.length rs2
          have N3 : Nt (n'' + 1) = 5 * (Nt n'' + 2) + 3 := rfl
          refine ⟨.ref b, rfl, .inr ⟨b, 2, ys, rfl, rfl, hy, by decide, by decide, by omega, fun t H' on => ?_⟩⟩
          obtain ⟨k3, c3, r3, _⟩ := OldNew.rd c2 on (fun a ha => by rcases List.mem_singleton.mp ha with rfl; exact nbl) (RDs.rep rs2 2)
          refine pv.step hD c10 hi5 k3 c3 r3 ((W_tup (m := 10) (fun x hx => T.w (hT2 x (rep_mem hx))) ?_ (by decide)).mono (by omega) (by omega))
          show ((List.replicate 2 es).flatten).length ≤ 10
          simp only [List.length_flatten, List.map_replicate, List.sum_replicate_nat]
          omega
      · have c2' := pv.ctx
        have k2 := pv.kp
        obtain ⟨ws, es, e, hl2, rs2, hc2, _, _⟩ := pv
        have c2 : Ctx l p sc ns H2 := c2'.tail c10
        refine ⟨D, ws, rfl, .inl ⟨SqL.of e, fun t0 ht0 => ?_⟩⟩
        have r0 := RD.tupN c2 ht0 (RDs.less rs2)
        have k3 := k2.trans (Kp.new (o := .tup ws) ht0)
        have c3 := c2.new (o := .tup ws) ht0
        generalize upd H2 t0 (.tup ws) = H3 at r0 k3 c3
        have hx3 := k3 a _ nap hx
        have oa : ∀ x ∈ [a], x ∉ l := fun x hx => by rcases List.mem_singleton.mp hx with rfl; exact nal
        -- list(part)
        refine ⟨.ref a, rfl, a, xs, rfl, .inr (SqT.of hx3), fun l1 hl1 => ?_⟩
        have s1 := RD.lstN c3 hl1 (RDs.hk m k3 rs)
        have k4 := k3.trans (Kp.new (o := .lst xs) hl1)
        have c4 := c3.new (o := .lst xs) hl1
        have j4 := Kp.new (p := p) (o := .lst xs) hl1
        generalize upd H3 l1 (.lst xs) = H4 at s1 k4 c4 j4
        -- part[:-1]
        refine ⟨.ref a, rfl, 1, rfl, -1, rfl, a, xs, rfl, k4 a _ nap hx, fun t1 H5 on1 => ?_⟩
        obtain ⟨j5, c5, s2, _⟩ := OldNew.rd c4 on1 oa (RDs.cut (RDs.hk m k4 rs) none (some (-1)))
        have k5 := k4.trans j5
        -- part[1:]
        refine ⟨.ref a, rfl, 1, rfl, a, xs, rfl, k5 a _ nap hx, fun t2 H6 on2 => ?_⟩
        obtain ⟨j6, c6, s3, _⟩ := OldNew.rd c5 on2 oa (RDs.cut (RDs.hk m k5 rs) (some 1) none)
        have k6 := k5.trans j6
        -- part + part[-1:]
        refine ⟨.ref a, rfl, .ref a, rfl, 1, rfl, -1, rfl, a, xs, rfl, k6 a _ nap hx, fun t3 H7 on3 => ?_⟩
        have rs3 := RDs.cut (RDs.hk m k6 rs) (some (-1)) none
        obtain ⟨j7, c7', _, n3⟩ := OldNew.rd c6 on3 oa rs3
        have k7 := k6.trans j7
        refine ⟨a, t3, xs, _, rfl, rfl, k7 a _ nap hx, on3.1, ?_, fun t4 H8 on4 => ?_⟩
        · have := cutV_length xs (some (-1)) none
          rw [sizeLine_eq]; omega
        obtain ⟨j8, c8, s4, _⟩ := OldNew.rd c7' on4 (fun x hx => by
          rcases List.mem_cons.mp hx with rfl | hx
          · exact nal
          · rcases List.mem_singleton.mp hx with rfl; exact n3) (RDs.app (RDs.hk m j7 rs3) (RDs.hk m k7 rs))
        have k8 := k7.trans j8
        -- part[::-1]
        refine ⟨.ref a, rfl, a, xs, rfl, SqT.of (k8 a _ nap hx), fun t5 ht5 => ?_⟩
        have s5 := RD.tupN c8 ht5 (RDs.rev (RDs.hk m k8 rs))
        have c9' := c8.new (o := .tup xs.reverse) ht5
        have j9 := Kp.new (p := p) (o := .tup xs.reverse) ht5
        have k9' := k8.trans j9
        generalize upd H8 t5 (.tup xs.reverse) = G9 at s5 c9' j9 k9'
        -- (part,)
        refine ⟨.ref a, rfl, by show 1 ≤ sizeLine; decide, fun t6 ht6 => ?_⟩
        have sP : ∀ {G}, Kp p H9 G → RD (hid l G) (.ref a) (.tuple ds) := fun k => RD.hk m k rd9
        have s6 := RD.tupN (xs := [.ref a]) (ds := [.tuple ds]) c9' ht6 (.cons (sP k9') .nil)
        have cA := c9'.new (o := .tup [.ref a]) ht6
        have jA := Kp.new (p := p) (o := .tup [.ref a]) ht6
        have kA := k9'.trans jA
        generalize upd G9 t6 (.tup [.ref a]) = GA at s6 cA jA kA
        -- part * 6
        refine ⟨.ref a, rfl, a, 6, xs, rfl, rfl, kA a _ nap hx, by decide, by decide, by omega, fun t7 GB on7 => ?_⟩
        obtain ⟨jB, cB, s7, _⟩ := OldNew.rd cA on7 oa (RDs.rep (RDs.hk m kA rs) 6)
        have kB := kA.trans jB
        -- [part]
        refine ⟨.ref a, rfl, by show 1 ≤ sizeLine; decide, fun l8 hl8 => ?_⟩
        have s8 := RD.lstN (xs := [.ref a]) (ds := [.tuple ds]) cB hl8 (.cons (sP kB) .nil)
        have cC := cB.new (o := .lst [.ref a]) hl8
        have jC := Kp.new (p := p) (o := .lst [.ref a]) hl8
        have kC := kB.trans jC
        generalize upd GB l8 (.lst [.ref a]) = GC at s8 cC jC kC
        refine ⟨.ref t0, rfl, by show 9 ≤ sizeLine; decide, fun lw hlw => ?_⟩
        have nlw : lw ≠ p := fun z => cC.here p m (z ▸ hlw)
        have j8C := j9.trans (jA.trans (jB.trans jC))
        have RW' := RDs.cons (RD.hk m (j5.trans (j6.trans (j7.trans (j8.trans j8C)))) s1) (.cons (RD.hk m (j6.trans (j7.trans (j8.trans j8C))) s2) (.cons (RD.hk m (j7.trans (j8.trans j8C)) s3) (.cons (RD.hk m j8C s4)
          (.cons (RD.hk m (jA.trans (jB.trans jC)) s5) (.cons (RD.hk m (jB.trans jC) s6) (.cons (RD.hk m jC s7) (.cons s8 (.cons (RD.hk m (j4.trans (j5.trans (j6.trans (j7.trans (j8.trans j8C))))) r0) .nil))))))))
        have W1 : ∀ es : List PyData, es.length ≤ 30 → (∀ x ∈ es, x ∈ ds) → W (n' + 1 + 2) (No (n' + 1)) (.tuple es) := fun es h1 h2 => (W_tup (m := 30) (fun x hx => Tw x (h2 x hx)) h1 (by decide)).mono (by omega) (by omega)
        have W2 : ∀ es : List PyData, es.length ≤ 30 → (∀ x ∈ es, x ∈ ds) → W (n' + 1 + 2) (No (n' + 1)) (.list es) := fun es h1 h2 => (W_lst (m := 30) (fun x hx => Tw x (h2 x hx)) h1).mono (by omega) (by omega)
        have WP : W (n' + 1) (Nt (n' + 1)) (.tuple ds) := T.w td
        refine pick_end (i := 4) rfl q rfl rfl (k10.trans (kC.trans (Kp.new hlw))) (cC.new hlw) upd_same nlw (RDs.hk m (Kp.new hlw) RW') (fun d hd => ?_) (by show 0 < 9; decide) (by show 9 ≤ 100; decide)
        simp only [List.mem_cons, List.not_mem_nil, or_false] at hd
        have cl := cutD_len ds
        rcases hd with rfl | rfl | rfl | rfl | rfl | rfl | rfl | rfl | rfl
        · exact W2 ds (by omega) fun x hx => hx
        · exact W1 _ (by have := cl xs.length none (some (-1)); omega) fun x hx => cutD_mem hx
        · exact W1 _ (by have := cl xs.length (some 1) none; omega) fun x hx => cutD_mem hx
        · refine W1 _ (by rw [List.length_append]; have := cl xs.length (some (-1)) none; omega) fun x hx => ?_
          rcases List.mem_append.mp hx with h | h
          · exact h
          · exact cutD_mem h
        · exact W1 _ (by rw [List.length_reverse]; omega) fun x hx => List.mem_reverse.mp hx
        · exact (W_tup (m := 1) (ds := [.tuple ds]) (fun x hx => by rcases List.mem_singleton.mp hx with rfl; exact WP) (Nat.le_refl 1) (by decide)).mono (by omega) (by omega)
        · refine W1 _ ?_ fun x hx => rep_mem hx
          simp only [List.length_flatten, List.map_replicate, List.sum_replicate_nat]
          omega
        · exact (W_lst (m := 1) (ds := [.tuple ds]) (fun x hx => by rcases List.mem_singleton.mp hx with rfl; exact WP) (Nat.le_refl 1)).mono (by omega) (by omega)
        · refine (W_tup (m := 5) (fun x hx => hc2 x hx) ?_ (by decide)).mono (by omega) (by omega)
          rw [← RDs.length rs2, hl2, hlen]; exact hl5
end
end K01

/-! Q23: _law_bent. -/
namespace K01
open PySem PySem.Spec PyProof.Rows L2 GL
section
variable {P : Program} {w : World} {K : PySem.W.Frag} {mg : Str → Option Value} {base : Heap}
variable {fP fO : Addr} {dP dO : FuncData}
theorem ok_bent0 {f : Addr} {fd : FuncData} (F : Fun K "_law_bent" "_law_bent" sLBent f fd) (B : OddT mg)
    (FP : Fun K "_law_pick" "_law_pick" sLPick fP dP) (bP : Binds K dP ["source", "many"] []) (gP : mg "_law_pick" = some (.ref fP)) (GP : FnOk P w K mg base CX0 1 fP dP ["source", "many"] (spPick 0))
    (FO : Fun K "_law_odd" "_law_odd" sLOdd fO dO) (bO : Binds K dO ["source", "part"] []) (gO : mg "_law_odd" = some (.ref fO)) (GO : FnOk P w K mg base CX0 2 fO dO ["source", "part"] (spOdd 0)) :
    FnOk P w K mg base CX0 3 f fd ["source", "value"] (spOdd 0) := by
  refine F.ok scLBent (fun vs H Q E h => ?_) (fun cdv A outer s H vs Q E hr h => ?_)
  · obtain ⟨l, p, sc, ns, v, d, rfl, _⟩ := h
    rfl
  · obtain ⟨l, p, sc, ns, v, d, rfl, c0, rd, td, q⟩ := h
    have hr1 := hr.mono (show 1 ≤ 2 by omega)
    refine ⟨_, pss_cons (ps_if (PW.pt (pw_and (pt_val (pe_callB call_isi (by rfl) B.isi (by decide +kernel) (pa_cons (pv 1) (pa_cons (pe_bltn (v := .ty "tuple") (by rfl) B.tuple (by decide +kernel) rfl) pa_nil))))
        (pw_and (pt_cmpR op_gt (pe_callB call_len_seq (by rfl) B.len PySem.boot_len (pa_cons (pv 1) pa_nil)) pe_int (nomark _))
        (pw_and1 (pt_cmpR op_gt (pe_call GP hr1 (by rfl) gP FP.kp bP .nil pass0 (pa_cons (pv 0) (pa_cons pe_int pa_nil))) pe_int (nomark _)))))) pss_never pss_nil)
      (pss_one (ps_ret (pe_call GO hr (by rfl) gO FO.kp bO .nil pass0 (pa_cons (pv 0) (pa_cons (pv 1) pa_nil))))), ?_⟩
    obtain ⟨i, rfl, hi⟩ := td
    refine ⟨v, rfl, v, .ty "tuple", _, _, _, rfl, .ty _, (RD.out rd).tyX, kit_tuple K _, _, rfl, iteF (iteF ⟨.ref p, rfl, v, rfl, l, p, sc, ns, v, _, rfl, c0, rd, ⟨i, rfl, hi⟩, q⟩)⟩
theorem cut_to {xs : List V} {k : Int} (h0 : 0 ≤ k) (h1 : k < xs.length) : cutV xs none (some k) = xs.take k.toNat := by
  obtain ⟨m, rfl⟩ := Int.eq_ofNat_of_zero_le h0
  unfold cutV
  rw [HT.sIx_none, HT.sIx_nat, List.drop_zero, Nat.sub_zero, Nat.min_eq_left (by omega)]
  rfl
theorem cut_from {xs : List V} {k : Int} (h0 : 0 ≤ k) (h1 : k ≤ xs.length) : cutV xs (some k) none = xs.drop k.toNat := by
  obtain ⟨m, rfl⟩ := Int.eq_ofNat_of_zero_le h0
  unfold cutV
  rw [HT.sIx_none, HT.sIx_nat, Nat.min_eq_left (by omega)]
  rw [List.take_of_length_le (by rw [List.length_drop]; exact Nat.le_refl _)]
  rfl
theorem ok_bent1 (n : Nat) {f : Addr} {fd : FuncData} (F : Fun K "_law_bent" "_law_bent" sLBent f fd) (B : OddT mg) (bF : Binds K fd ["source", "value"] []) (gF : mg "_law_bent" = some (.ref f))
    (FP : Fun K "_law_pick" "_law_pick" sLPick fP dP) (bP : Binds K dP ["source", "many"] []) (gP : mg "_law_pick" = some (.ref fP)) (GP : FnOk P w K mg base CX0 1 fP dP ["source", "many"] (spPick 0))
    (FO : Fun K "_law_odd" "_law_odd" sLOdd fO dO) (bO : Binds K dO ["source", "part"] []) (gO : mg "_law_odd" = some (.ref fO)) (GO : FnOk P w K mg base CX0 2 fO dO ["source", "part"] (spOdd (n + 1)))
    (G : FnOk P w K mg base CX0 (n + 3) f fd ["source", "value"] (spOdd n)) :
    FnOk P w K mg base CX0 (n + 3 + 1) f fd ["source", "value"] (spOdd (n + 1)) := by
  refine F.ok scLBent (fun vs H Q E h => ?_) (fun cdv A outer s H vs Q E hr h => ?_)
  · obtain ⟨l, p, sc, ns, v, d, rfl, _⟩ := h
    rfl
  · obtain ⟨l, p, sc, ns, v, d, rfl, c0, rd, td, q⟩ := h
    have hr1 := hr.mono (show 1 ≤ n + 3 by omega)
    have hr2 := hr.mono (show 2 ≤ n + 3 by omega)
    refine ⟨_, pss_cons (ps_if (PW.pt (pw_and (pt_val (pe_callB call_isi (by rfl) B.isi (by decide +kernel) (pa_cons (pv 1) (pa_cons (pe_bltn (v := .ty "tuple") (by rfl) B.tuple (by decide +kernel) rfl) pa_nil))))
        (pw_and (pt_cmpR op_gt (pe_callB call_len_seq (by rfl) B.len PySem.boot_len (pa_cons (pv 1) pa_nil)) pe_int (nomark _))
        (pw_and1 (pt_cmpR op_gt (pe_call GP hr1 (by rfl) gP FP.kp bP .nil pass0 (pa_cons (pv 0) (pa_cons pe_int pa_nil))) pe_int (nomark _))))))
        (pss_cons (ps_set (i := 2) scLBent.nd rfl (.inl rfl) (pe_call GP hr1 (by rfl) gP FP.kp bP .nil pass0 (pa_cons (pv 0) (pa_cons (pe_callB call_len_seq (by rfl) B.len PySem.boot_len (pa_cons (pv 1) pa_nil)) pa_nil))))
        (pss_one (ps_ret (pe_op op_catW (pe_op op_catW (pe_slice sl_tupW (pv 1) po_none (po_some (pv 2)))
            (pe_tup (pa_cons (pe_call G hr (by rfl) gF F.kp bF .nil pass0 (pa_cons (pv 0) (pa_cons (pe_ix ix_tup (pv 1) (pv 2) (fun _ _ => rfl)) pa_nil))) pa_nil)))
          (pe_slice sl_tupW (pv 1) (po_some (pe_op op_add (pv 2) pe_int)) po_none))))) pss_nil)
      (pss_one (ps_ret (pe_call GO hr2 (by rfl) gO FO.kp bO .nil pass0 (pa_cons (pv 0) (pa_cons (pv 1) pa_nil))))), ?_⟩
    have mo : most 0 = 100000 := rfl
    have m := c0.mem
    -- the other way
    have odd : ∀ (H1 : Hp), Kp p H H1 → Ctx l p sc ns H1 → spOdd (n + 1) ([V.ref p, v] ++ []) H1 Q E0 := fun H1 k1 c1 =>
      ⟨l, p, sc, ns, v, d, rfl, c1, RD.hk m k1 rd, td, fun H' u e k c r w => q H' u e (k1.trans k) c r w⟩
    refine ⟨v, rfl, v, .ty "tuple", _, _, _, rfl, .ty _, (RD.out rd).tyX, kit_tuple K d, _, rfl, ?_⟩
    cases e2 : tupD d with
    | none => exact iteF (iteF ⟨.ref p, rfl, v, rfl, odd H (.refl p _) c0⟩)
    | some ds =>
      obtain ⟨hl5, hT⟩ : ds.length ≤ 5 ∧ ∀ x ∈ ds, T n x := by
        rcases td with ⟨i, e, _⟩ | ⟨es, e, h1, h2⟩
        · rw [e] at e2; cases e2
        · rw [e] at e2; cases e2; exact ⟨h1, h2⟩
      obtain ⟨a, xs, rfl, rfl, hx', rs⟩ := rd.tupOf e2
      obtain ⟨nal, hx⟩ := hid_of hx'
      have nap : a ≠ p := fun z => nal (z ▸ m)
      have hlen : xs.length = ds.length := RDs.length rs
      refine iteT ⟨.ref a, rfl, a, xs, rfl, .inr (SqT.of hx), _, _, rfl, rfl, _, rfl, ite2 (fun e3 => ?_) (fun e3 => iteF ⟨.ref p, rfl, .ref a, rfl, odd H (.refl p _) c0⟩)⟩
      have hpos : (0 : Int) < xs.length := of_decide_eq_true e3
      refine ⟨.ref p, rfl, p, sc, ns, 4, rfl, by decide, by rw [mo]; decide, small 4 (by decide) (by decide), c0.src, fun r o1 r0 r1 so => ⟨_, _, rfl, rfl, _, rfl, ite2 (fun e4 => ?_) (fun e4 => ⟨.ref p, rfl, .ref a, rfl, odd _ Kp.put (c0.put so)⟩)⟩⟩
      have c1 := c0.put so
      have k1 : Kp p H (upd H p o1) := Kp.put
      generalize upd H p o1 = H1 at c1 k1
      refine ⟨.ref p, rfl, .ref a, rfl, a, xs, rfl, .inr (SqT.of (k1 a _ nap hx)), p, sc, ns, (xs.length : Int), rfl, hpos, by rw [mo]; omega, small _ hpos (by omega), c1.src, fun at' o2 t0 t1 so2 => ?_⟩
      have c2 := c1.put so2
      have k2 := k1.trans (Kp.put (o := o2))
      generalize upd H1 p o2 = H2 at c2 k2
      have oa : ∀ x ∈ [a], x ∉ l := fun x hx => by rcases List.mem_singleton.mp hx with rfl; exact nal
      have hat : at'.toNat < xs.length := by omega
      have hxa : xs[at'.toNat]? = some xs[at'.toNat] := List.getElem?_eq_getElem hat
      -- value[:at]
      refine ⟨.ref a, rfl, .int at', rfl, at', rfl, a, xs, rfl, k2 a _ nap hx, fun u1 H3 on1 => ?_⟩
      rw [cut_to t0 t1] at on1
      have rs1 := RDs.take at'.toNat (RDs.hk m k2 rs)
      obtain ⟨j3, c3, s1, n1⟩ := OldNew.rd c2 on1 oa rs1
      have k3 := k2.trans j3
      -- bent value[at]
      obtain ⟨da, eda, rda⟩ := RDs.at (RDs.hk m k3 rs) hxa
      have hma := List.mem_of_getElem? eda
      refine ⟨.ref p, rfl, .ref a, rfl, .int at', rfl, a, xs, at', xs[at'.toNat], rfl, rfl, SqT.of (k3 a _ nap hx), ?_, l, p, sc, ns, _, da, rfl, c3, rda, hT da hma, fun H4 v4 d4 j4 c4 r4 w4 => ?_⟩
      · have := atI_nat (xs := xs) hxa
        rw [show ((at'.toNat : Nat) : Int) = at' by omega] at this
        exact this
      have k4 := k3.trans j4
      have hn1 := n1
      have e1 : H4 u1 = some (.tup (xs.take at'.toNat)) := j4 u1 _ (fun z => n1 (z ▸ m)) on1.1
      refine ⟨by show 1 ≤ sizeLine; decide, fun u2 hu2 => ?_⟩
      have s2 := RD.tupN (xs := [v4]) (ds := [d4]) c4 hu2 (.cons r4 .nil)
      have c5 := c4.new (o := .tup [v4]) hu2
      have j5 := Kp.new (p := p) (o := .tup [v4]) hu2
      have nu2 := not_in c4 hu2
      have nu12 : u1 ≠ u2 := fun z => by rw [z, hu2] at e1; cases e1
      refine ⟨u1, u2, xs.take at'.toNat, [v4], rfl, rfl, by rw [upd_ne nu12]; exact e1, upd_same, by rw [List.length_take, sizeLine_eq]; show _ + 1 ≤ _; omega, fun u3 H6 on3 => ?_⟩
      have r45 := RD.hk m j5 r4
      have rs3 := RDs.app (.cons r45 .nil) (RDs.hk m (j3.trans (j4.trans j5)) rs1)
      obtain ⟨j6, c6, s3, n3⟩ := OldNew.rd c5 on3 (fun x hx => by
        rcases List.mem_cons.mp hx with rfl | hx
        · exact n1
        · rcases List.mem_singleton.mp hx with rfl; exact nu2) rs3
      have k6 := (k4.trans j5).trans j6
      -- value[at + 1:]
      refine ⟨.ref a, rfl, .int at', rfl, _, _, rfl, rfl, at' + 1, rfl, a, xs, rfl, k6 a _ nap hx, fun u4 H7 on4 => ?_⟩
      rw [cut_from (by omega) (by omega)] at on4
      have rs4 := RDs.drop (at' + 1).toNat (RDs.hk m k6 rs)
      obtain ⟨j7, c7, s4, n4⟩ := OldNew.rd c6 on4 oa rs4
      have e3' : H7 u3 = some (.tup (xs.take at'.toNat ++ [v4])) := j7 u3 _ (fun z => n3 (z ▸ m)) on3.1
      refine ⟨u3, u4, xs.take at'.toNat ++ [v4], xs.drop (at' + 1).toNat, rfl, rfl, e3', on4.1, by rw [List.length_append, List.length_take, List.length_drop, sizeLine_eq]; show _ + 1 + _ ≤ _; omega, fun u5 H8 on5 => ?_⟩
      have rs5 := RDs.app (RDs.hk m j7 rs4) (RDs.hk m (j6.trans j7) rs3)
      obtain ⟨j8, c8, s5, _⟩ := OldNew.rd c7 on5 (fun x hx => by
        rcases List.mem_cons.mp hx with rfl | hx
        · exact n3
        · rcases List.mem_singleton.mp hx with rfl; exact n4) rs5
      refine q _ _ _ ((k6.trans j7).trans j8) c8 s5 ?_
      have N1 : Nt (n + 1) = 5 * (Nt n + 2) + 3 := rfl
      have N2 : No (n + 1) = 30 * (Nt (n + 1) + 2) + 30 := rfl
      have N3 : No n = 30 * (Nt n + 2) + 30 := rfl
      have wx : ∀ x ∈ ds, W (n + 2) (No n) x := fun x hx => (T.w (hT x hx)).mono (by omega) (by omega)
      refine (W_tup (k := n + 2) (L := No n) (m := 5) (fun x hx => ?_) ?_ (by decide)).mono (Nat.le_refl _) (by omega)
      · rcases List.mem_append.mp hx with h | h
        · rcases List.mem_append.mp h with h | h
          · exact wx x (List.mem_of_mem_take h)
          · rcases List.mem_singleton.mp h with rfl; exact w4
        · exact wx x (List.mem_of_mem_drop h)
      · rw [List.length_append, List.length_append, List.length_take, List.length_drop]
        show _ + 1 + _ ≤ 5
        omega
end
end K01

/-! Q24: _law_stretched, _law_source. -/
namespace K01
open PySem PySem.Spec PyProof.Rows L2 GL
def scStr : Scope := ⟨.function, [(".0", .local), ("table", .local), ("tuple", .globalImplicit)], false, false, []⟩
def scStrI : Scope := ⟨.function, [(".0", .local), ("row", .local)], false, false, []⟩
theorem bo_str : BlkOk ["source", "game", "way", "table", "row"] scStr scStrI [("row", 4)] := blkOk_by (by decide +kernel)
theorem RD.lift {l : List Addr} {D : Addr} {G : Hp} {x d} (r : RD (hid l G) x d) (hD : G D = none) : RD (hid (D :: l) G) x d := r.keep fun b o e => by
  obtain ⟨n1, n2⟩ := hid_of e
  exact hid_mk (fun z => by
    rcases List.mem_cons.mp z with rfl | z
    · rw [hD] at n2; cases n2
    · exact n1 z) n2
section
variable {P : Program} {w : World} {K : PySem.W.Frag} {mg : Str → Option Value} {base : Heap}
variable {fP fO : Addr} {dP dO : FuncData}
/-- what is told when the source's copy is made -/
def spSource : Sp := fun vs H Q _ => ∃ (a : Addr) (is : List Int), vs = [.ref a] ∧ SqL K H a (is.map V.int) ∧ ∀ H' p sc, Same H H' → Ctx [p] p sc is H' → Q (.ref p) H'
theorem ok_source {f : Addr} {fd : FuncData} (F : Fun K "_law_source" "_law_source" sLSource f fd) (ml : mg "list" = none) :
    FnOk P w K mg base CX0 1 f fd ["script"] (spSource (K := K)) := by
  refine F.ok scLSource (fun vs H Q E h => ?_) (fun cdv A outer s H vs Q E hr h => ?_)
  · obtain ⟨a, is, rfl, _⟩ := h
    rfl
  · obtain ⟨a, is, rfl, hs, q⟩ := h
    refine ⟨_, pss_one (ps_ret (pe_lst (pa_cons (pe_callTy call_list_of (by rfl) ml (by decide +kernel) (pa_cons (pv 0) pa_nil)) (pa_cons pe_int (pa_cons pe_int (pa_cons pe_int (pa_cons pe_int pa_nil))))))), ?_⟩
    refine ⟨.ref a, rfl, a, _, rfl, .inl hs, fun sc hsc => ⟨by show 5 ≤ sizeLine; decide, fun p hp => ?_⟩⟩
    have np : p ≠ sc := fun z => by rw [z, upd_same] at hp; cases hp
    refine q _ p sc ((same_new hsc).trans (same_new hp)) ⟨⟨np, by rw [upd_ne np.symm]; exact upd_same, _, upd_same, 0, 0, 1, 0, rfl, by decide, by decide, by decide, by decide⟩, List.mem_cons_self, fun b hb => ?_⟩
    rcases List.mem_singleton.mp hb with rfl
    rw [upd_same]; exact fun z => nomatch z

def spStr : Sp := fun vs H Q _ => ∃ l p sc ns g d, ∃ r c : Nat, vs = [.ref p, g] ∧ Ctx l p sc ns H ∧ RD (hid l H) g d ∧ GamC r c d ∧ 1 ≤ r ∧ r ≤ 5 ∧ c ≤ 5 ∧ Tells l p sc ns H (W 5 (No 3)) Q
theorem ok_str {f : Addr} {fd : FuncData} (F : Fun K "_law_stretched" "_law_stretched" sLStretched f fd) (mt : mg "tuple" = none)
    (FP : Fun K "_law_pick" "_law_pick" sLPick fP dP) (bP : Binds K dP ["source", "many"] []) (gP : mg "_law_pick" = some (.ref fP)) (GP : FnOk P w K mg base CX0 1 fP dP ["source", "many"] (spPick 0)) :
    FnOk P w K mg base CX0 2 f fd ["source", "game"] spStr := by
  refine F.ok scLStretched (fun vs H Q E h => ?_) (fun cdv A outer s H vs Q E hr h => ?_)
  · obtain ⟨l, p, sc, ns, g, d, r, c, rfl, _⟩ := h
    rfl
  · obtain ⟨l, p, sc, ns, g, d, r, c, rfl, c0, rd, gc', r1, r5, c5, q⟩ := h
    have TC : CallR (cxOf CX0 P w K mg base ["source", "game", "way", "table", "row"] "_law_stretched" (defScope sLStretched) f cdv A outer s H E).nox (.type "tuple") (fun xs H Q => ∃ p ys, xs = [.ref p] ∧ ((SqL K H p ys ∧ ∀ l, H l = none → Q (.ref l) (upd H l (.tup ys))) ∨ (SqT K H p ys ∧ Q (.ref p) H))) := call_tuple_of
    refine ⟨_, pss_cons (ps_set (i := 2) scLStretched.nd rfl (.inl rfl) (pe_call GP hr (by rfl) gP FP.kp bP .nil pass0 (pa_cons (pv 0) (pa_cons pe_int pa_nil))))
      (pss_cons (ps_if (pt_cmpR op_eq (pv 2) pe_int (nomark _))
        (pss_one (ps_ret (pe_callTy call_tuple_of (by rfl) mt (by decide +kernel) (pa_cons
          (pe_lc (own := [("table", 3)]) (g := gName 3) (tt := tYes) rfl scLStretched.nd (pi_tup (pv 1))
            (blkOk_by (own := [("table", 3)]) (N := ["source", "game", "way", "table", "row"]) (sc := defScope sLStretched) (by decide +kernel))
            (fun _ _ _ _ _ => pg_name (i := 3) scLStretched.nd rfl (Or.inl rfl)) (fun _ _ _ _ _ => pts_nil)
            (fun _ _ _ _ _ => pe_op op_catW (pv 3) (pe_slice (show SlR _ (rSlW K) from sl_tupW) (pv 3) (po_some (pe_un un_neg pe_int)) po_none))) pa_nil)))) pss_nil)
      (pss_cons (ps_if (pt_cmpR op_eq (pv 2) pe_int (nomark _))
        (pss_one (ps_ret (pe_callTy call_tuple_of (by rfl) mt (by decide +kernel) (pa_cons
          (pe_lc (own := [("table", 3)]) (g := gName 3) (tt := tYes) rfl scLStretched.nd (pi_tup (pv 1))
            (blkOk_by (own := [("table", 3)]) (N := ["source", "game", "way", "table", "row"]) (sc := defScope sLStretched) (by decide +kernel))
            (fun _ _ _ _ _ => pg_name (i := 3) scLStretched.nd rfl (Or.inl rfl)) (fun _ _ _ _ _ => pts_nil)
            (fun _ _ _ _ _ => pe_callTy (show CallR _ (.type "tuple") (fun xs H Q => ∃ p ys, xs = [.ref p] ∧ ((SqL K H p ys ∧ ∀ l, H l = none → Q (.ref l) (upd H l (.tup ys))) ∨ (SqT K H p ys ∧ Q (.ref p) H))) from call_tuple_of) (by rfl) mt (by decide +kernel) (pa_cons
              (pe_lc (own := [("row", 4)]) (g := gName 4) (tt := tYes) rfl scLStretched.nd (show PI _ _ _ (iTup K (tVar 3)) from pi_tup (pv 3)) bo_str
                (fun _ _ _ _ _ => pg_name (i := 4) scLStretched.nd rfl (Or.inl rfl)) (fun _ _ _ _ _ => pts_nil)
                (fun _ _ _ _ _ => pe_op op_catW (pv 4) (pe_slice (show SlR _ (rSlW K) from sl_tupW) (pv 4) po_none (po_some pe_int)))) pa_nil))) pa_nil)))) pss_nil)
      (pss_cons (ps_if (pt_cmpR op_eq (pv 2) pe_int (nomark _))
        (pss_one (ps_ret (pe_tup (pa_cons (pe_ix ix_tup (pv 1) pe_int (fun _ _ => rfl)) (pa_cons
          (pe_op op_catW (pe_ix ix_tup (pv 1) pe_int (fun _ _ => rfl)) (pe_slice sl_tupW (pe_ix ix_tup (pv 1) pe_int (fun _ _ => rfl)) po_none (po_some pe_int))) pa_nil))))) pss_nil)
      (pss_one (ps_ret (pe_tup (pa_cons (pe_callTy call_tuple_of (by rfl) mt (by decide +kernel) (pa_cons
          (pe_lc (own := [("row", 4)]) (g := gName 4) (tt := tYes) rfl scLStretched.nd (pi_tup (pe_ix ix_tup (pv 1) pe_int (fun _ _ => rfl)))
            (blkOk_by (own := [("row", 4)]) (N := ["source", "game", "way", "table", "row"]) (sc := defScope sLStretched) (by decide +kernel))
            (fun _ _ _ _ _ => pg_name (i := 4) scLStretched.nd rfl (Or.inl rfl)) (fun _ _ _ _ _ => pts_nil)
            (fun _ _ _ _ _ => pe_slice (show SlR _ (rSlW K) from sl_tupW) (pv 4) (po_some pe_int) po_none)) pa_nil)) (pa_cons (pe_ix ix_tup (pv 1) pe_int (fun _ _ => rfl)) pa_nil)))))))), ?_⟩
    have mo : most 0 = 100000 := rfl
    have m := c0.mem
    have n1 : Nt 1 = 1713 := rfl
    have n0 : Nt 0 = 340 := rfl
    have n3 : No 3 = 1287180 := by decide
    refine ⟨.ref p, rfl, p, sc, ns, 4, rfl, by decide, by rw [mo]; decide, small 4 (by decide) (by decide), c0.src, fun wy o1 w0 w1 so => ?_⟩
    have c1 := c0.put so
    have k1 : Kp p H (upd H p o1) := Kp.put
    generalize upd H p o1 = H1 at c1 k1
    have rd1 := RD.hk m k1 rd
    obtain ⟨x, y, rfl, ⟨dx, rfl, lx, hx⟩, ⟨dy, rfl, ly, hy⟩⟩ := gc'
    have row : ∀ e, RowC c e → ∃ es, e = .tuple es ∧ es.length ≤ 5 ∧ (∀ u ∈ es, W 0 340 u) ∧ W 1 1713 e := fun e he => by
      obtain ⟨es, rfl, hl, h⟩ := he
      exact ⟨es, rfl, by omega, fun u hu => T.w (T_num (h u hu)), T.w (n := 1) (.inr ⟨es, rfl, by omega, fun u hu => T_num (h u hu)⟩)⟩
    have tabs : ∀ d ∈ [PyData.tuple dx, .tuple dy], ∃ es, d = .tuple es ∧ es.length ≤ 5 ∧ ∀ e ∈ es, RowC c e := fun d hd => by
      rcases List.mem_cons.mp hd with rfl | hd
      · exact ⟨dx, rfl, by omega, hx⟩
      · rcases List.mem_singleton.mp hd with rfl
        exact ⟨dy, rfl, by omega, hy⟩
    obtain ⟨a, xs, rfl, _, ha', rs⟩ := rd1.tupOf (ds := [.tuple dx, .tuple dy]) rfl
    obtain ⟨nal, ha⟩ := hid_of ha'
    have nap : a ≠ p := fun z => nal (z ▸ m)
    have hxl : xs.length = 2 := RDs.length rs
    refine ⟨.int wy, rfl, rfl, _, rfl, ?_⟩
    rw [dec_int']
    refine ite2 (fun e => ?_) (fun e => ?_)
    · -- a row more
      refine ⟨.ref a, rfl, a, rfl, ⟨xs, SqT.of ha⟩, fun D hD => lc_tup (xs := xs) (fun i H' => Dr l p sc ns H1 D (W 2 17153) i H') (.zero c1 hD) (fun i H' _ pv => SqT.of (pv.kp a _ nap ha)) (fun i x H2 hi pv => ⟨rfl, ?_⟩) (fun H2 pv => ?_)⟩
      · obtain ⟨d, ed, r0⟩ := RDs.at rs hi
        obtain ⟨es, rfl, l5, hes⟩ := tabs d (List.mem_of_getElem? ed)
        have c2 := pv.ctx
        have r2 := RD.hk (List.mem_cons_of_mem _ m) pv.kp (RD.lift r0 hD)
        obtain ⟨b, ys, rfl, _, hb', rs2⟩ := r2.tupOf (ds := es) rfl
        obtain ⟨nbl, hb⟩ := hid_of hb'
        have nbp : b ≠ p := fun z => nbl (z ▸ c2.mem)
        have hl2 : ys.length = es.length := RDs.length rs2
        have hi5 : i < 1000000 := by have := (List.getElem?_eq_some_iff.mp hi).1; omega
        refine ⟨.ref b, rfl, .ref b, rfl, 1, rfl, -1, rfl, b, ys, rfl, hb, fun t H3 on => ?_⟩
        have ob : ∀ x ∈ [b], x ∉ D :: l := fun x hx => by rcases List.mem_singleton.mp hx with rfl; exact nbl
        have rc := RDs.cut rs2 (some (-1)) none
        obtain ⟨k3, c3, _, nt⟩ := OldNew.rd c2 on ob rc
        refine ⟨b, t, ys, _, rfl, rfl, k3 b _ nbp hb, on.1, by have := cutV_length ys (some (-1)) none; rw [sizeLine_eq]; omega, fun t2 H4 on2 => ?_⟩
        obtain ⟨k4, c4, r4, _⟩ := OldNew.rd c3 on2 (fun x hx => by
          rcases List.mem_cons.mp hx with rfl | hx
          · exact nbl
          · rcases List.mem_singleton.mp hx with rfl; exact nt) (RDs.app (RDs.hk c2.mem k3 rc) (RDs.hk c2.mem k3 rs2))
        refine pv.step hD c1 hi5 (k3.trans k4) c4 r4 (W_tup (k := 1) (L := 1713) (m := 10) (fun x hx => ?_) ?_ (by decide))
        · rcases List.mem_append.mp hx with h | h
          · obtain ⟨_, _, _, _, h4⟩ := row x (hes x h); exact h4
          · obtain ⟨_, _, _, _, h4⟩ := row x (hes x (cutD_mem h)); exact h4
        · rw [List.length_append]; have := cutD_len es ys.length (some (-1)) none; omega
      · have c2' := pv.ctx
        have k2 := pv.kp
        obtain ⟨ws, es, e', hl2, rs2, hc2, _, _⟩ := pv
        have c2 : Ctx l p sc ns H2 := c2'.tail c1
        refine ⟨D, ws, rfl, .inl ⟨SqL.of e', fun t ht => ?_⟩⟩
        exact q _ _ _ (k1.trans (k2.trans (Kp.new ht))) (c2.new ht) (RD.tupN c2 ht (RDs.less rs2)) ((W_tup (m := 5) hc2 (by rw [← RDs.length rs2, hl2]; omega) (by decide)).mono (by omega) (by omega))
    · refine ⟨.int wy, rfl, rfl, _, rfl, ?_⟩
      rw [dec_int']
      refine ite2 (fun e => ?_) (fun e => ?_)
      · refine ⟨.ref a, rfl, a, rfl, ⟨xs, SqT.of ha⟩, fun D hD => lc_tup (xs := xs) (fun i H' => Dr l p sc ns H1 D (W 2 17128) i H') (.zero c1 hD) (fun i H' _ pv => SqT.of (pv.kp a _ nap ha)) (fun i x H2 hi pv => ⟨rfl, ?_⟩) (fun H2 pv => ?_)⟩
        · obtain ⟨d, ed, r0⟩ := RDs.at rs hi
          obtain ⟨es, rfl, l5, hes⟩ := tabs d (List.mem_of_getElem? ed)
          have c2 := pv.ctx
          have r2 := RD.hk (List.mem_cons_of_mem _ m) pv.kp (RD.lift r0 hD)
          obtain ⟨b, ys, rfl, _, hb', rs2⟩ := r2.tupOf (ds := es) rfl
          obtain ⟨nbl, hb⟩ := hid_of hb'
          have nbp : b ≠ p := fun z => nbl (z ▸ c2.mem)
          have hl2 : ys.length = es.length := RDs.length rs2
          have hi5 : i < 1000000 := by have := (List.getElem?_eq_some_iff.mp hi).1; omega
          refine ⟨.ref b, rfl, b, rfl, ⟨ys, SqT.of hb⟩, fun D2 hD2 => lc_tup (xs := ys) (fun j H' => Dr (D :: l) p sc ns H2 D2 (W 1 3423) j H') (.zero c2 hD2) (fun j H' _ pv1 => SqT.of (pv1.kp b _ nbp hb)) (fun j x H3 hj pv1 => ⟨rfl, ?_⟩) (fun H3 pv1 => ?_)⟩
          · obtain ⟨d2, ed2, r02⟩ := RDs.at rs2 hj
            obtain ⟨fs, rfl, f5, hfs, _⟩ := row d2 (hes d2 (List.mem_of_getElem? ed2))
            have c3 := pv1.ctx
            have r3 := RD.hk (List.mem_cons_of_mem _ c2.mem) pv1.kp (RD.lift r02 hD2)
            obtain ⟨b3, zs, rfl, _, hb3', rs3⟩ := r3.tupOf (ds := fs) rfl
            obtain ⟨nb3, hb3⟩ := hid_of hb3'
            have nb3p : b3 ≠ p := fun z => nb3 (z ▸ c3.mem)
            have hl3 : zs.length = fs.length := RDs.length rs3
            have hj5 : j < 1000000 := by have := (List.getElem?_eq_some_iff.mp hj).1; omega
            refine ⟨.ref b3, rfl, .ref b3, rfl, 1, rfl, b3, zs, rfl, hb3, fun t H4 on => ?_⟩
            have rc := RDs.cut rs3 none (some 1)
            obtain ⟨k4, c4, _, nt⟩ := OldNew.rd c3 on (fun x hx => by rcases List.mem_singleton.mp hx with rfl; exact nb3) rc
            refine ⟨b3, t, zs, _, rfl, rfl, k4 b3 _ nb3p hb3, on.1, by have := cutV_length zs none (some 1); rw [sizeLine_eq]; omega, fun t2 H5 on2 => ?_⟩
            obtain ⟨k5, c5', r5', _⟩ := OldNew.rd c4 on2 (fun x hx => by
              rcases List.mem_cons.mp hx with rfl | hx
              · exact nb3
              · rcases List.mem_singleton.mp hx with rfl; exact nt) (RDs.app (RDs.hk c3.mem k4 rc) (RDs.hk c3.mem k4 rs3))
            refine pv1.step hD2 c2 hj5 (k4.trans k5) c5' r5' (W_tup (k := 0) (L := 340) (m := 10) (fun x hx => ?_) ?_ (by decide))
            · rcases List.mem_append.mp hx with h | h
              · exact hfs x h
              · exact hfs x (cutD_mem h)
            · rw [List.length_append]; have := cutD_len fs zs.length none (some 1); omega
          · have c3' := pv1.ctx
            have k3 := pv1.kp
            obtain ⟨ws, es2, e', hl4, rs4, hc4, _, _⟩ := pv1
            have c3 : Ctx (D :: l) p sc ns H3 := c3'.tail c2
            refine ⟨D2, ws, rfl, .inl ⟨SqL.of e', fun t ht => ?_⟩⟩
            exact pv.step hD c1 hi5 (k3.trans (Kp.new ht)) (c3.new ht) (RD.tupN c3 ht (RDs.less rs4)) (W_tup (k := 1) (L := 3423) (m := 5) hc4 (by rw [← RDs.length rs4, hl4]; omega) (by decide))
        · have c2' := pv.ctx
          have k2 := pv.kp
          obtain ⟨ws, es, e', hl2, rs2, hc2, _, _⟩ := pv
          have c2 : Ctx l p sc ns H2 := c2'.tail c1
          refine ⟨D, ws, rfl, .inl ⟨SqL.of e', fun t ht => ?_⟩⟩
          exact q _ _ _ (k1.trans (k2.trans (Kp.new ht))) (c2.new ht) (RD.tupN c2 ht (RDs.less rs2)) ((W_tup (m := 5) hc2 (by rw [← RDs.length rs2, hl2]; omega) (by decide)).mono (by omega) (by omega))
      · refine ⟨.int wy, rfl, rfl, _, rfl, ?_⟩
        rw [dec_int']
        obtain ⟨r1', rs'⟩ : True ∧ True := ⟨trivial, trivial⟩
        match xs, rs, hxl with
        | [x1, x2], .cons q1 (.cons q2 .nil), _ =>
          obtain ⟨b1, ys1, rfl, _, hb1', rs1⟩ := q1.tupOf (ds := dx) rfl
          obtain ⟨b2, ys2, rfl, _, hb2', rs2⟩ := q2.tupOf (ds := dy) rfl
          obtain ⟨nb1, hb1⟩ := hid_of hb1'
          obtain ⟨nb2, hb2⟩ := hid_of hb2'
          have nb1p : b1 ≠ p := fun z => nb1 (z ▸ m)
          have nb2p : b2 ≠ p := fun z => nb2 (z ▸ m)
          have l1 : ys1.length = dx.length := RDs.length rs1
          have l2 : ys2.length = dy.length := RDs.length rs2
          have wrow : ∀ e, RowC c e → W 1 1713 e := fun e he => by obtain ⟨_, _, _, _, h4⟩ := row e he; exact h4
          have wx : W 2 8578 (.tuple dx) := W_tup (k := 1) (L := 1713) (m := 5) (fun e he => wrow e (hx e he)) (by omega) (by decide)
          have wy' : W 2 8578 (.tuple dy) := W_tup (k := 1) (L := 1713) (m := 5) (fun e he => wrow e (hy e he)) (by omega) (by decide)
          refine ite2 (fun e => ?_) (fun e => ?_)
          · refine ⟨.ref a, rfl, a, _, 0, .ref b1, rfl, rfl, SqT.of ha, atI_nat (j := 0) rfl, .ref a, rfl, a, _, 1, .ref b2, rfl, rfl, SqT.of ha, atI_nat (j := 1) rfl, .ref a, rfl, a, _, 0, .ref b1, rfl, rfl, SqT.of ha, atI_nat (j := 0) rfl,
              1, rfl, b1, ys1, rfl, hb1, fun t H2 on => ?_⟩
            have rc := RDs.cut rs1 none (some 1)
            obtain ⟨k2, c2, _, nt⟩ := OldNew.rd c1 on (fun x hx => by rcases List.mem_singleton.mp hx with rfl; exact nb1) rc
            refine ⟨b2, t, ys2, _, rfl, rfl, k2 b2 _ nb2p hb2, on.1, by have := cutV_length ys1 none (some 1); rw [sizeLine_eq]; omega, fun t2 H3 on2 => ?_⟩
            obtain ⟨k3, c3, r3, _⟩ := OldNew.rd c2 on2 (fun x hx => by
              rcases List.mem_cons.mp hx with rfl | hx
              · exact nb2
              · rcases List.mem_singleton.mp hx with rfl; exact nt) (RDs.app (RDs.hk m k2 rc) (RDs.hk m k2 rs2))
            refine ⟨by show 2 ≤ sizeLine; decide, fun u hu => ?_⟩
            refine q _ _ _ (k1.trans (k2.trans (k3.trans (Kp.new hu)))) (c3.new hu) (RD.tupN c3 hu (.cons (RD.hk m (k2.trans k3) q1) (.cons r3 .nil))) ((W_tup (k := 2) (L := 17153) (m := 2) (fun x hx' => ?_) (by show 2 ≤ 2; decide) (by decide)).mono (by omega) (by omega))
            rcases List.mem_cons.mp hx' with rfl | hx'
            · exact wx.mono (by omega) (by omega)
            · rcases List.mem_singleton.mp hx' with rfl
              refine W_tup (k := 1) (L := 1713) (m := 10) (fun z hz => ?_) ?_ (by decide)
              · rcases List.mem_append.mp hz with h | h
                · exact wrow z (hy z h)
                · exact wrow z (hx z (cutD_mem h))
              · rw [List.length_append]; have := cutD_len dx ys1.length none (some 1); omega
          · refine ⟨.ref a, rfl, a, _, 0, .ref b1, rfl, rfl, SqT.of ha, atI_nat (j := 0) rfl, b1, rfl, ⟨ys1, SqT.of hb1⟩, fun D hD => lc_tup (xs := ys1) (fun i H' => Dr l p sc ns H1 D (W 1 1713) i H') (.zero c1 hD) (fun i H' _ pv => SqT.of (pv.kp b1 _ nb1p hb1)) (fun i x H2 hi pv => ⟨rfl, ?_⟩) (fun H2 pv => ?_)⟩
            · obtain ⟨d, ed, r0⟩ := RDs.at rs1 hi
              obtain ⟨es, rfl, l5, hes, _⟩ := row d (hx d (List.mem_of_getElem? ed))
              have c2 := pv.ctx
              have r2 := RD.hk (List.mem_cons_of_mem _ m) pv.kp (RD.lift r0 hD)
              obtain ⟨b, zs, rfl, _, hb', rs3⟩ := r2.tupOf (ds := es) rfl
              obtain ⟨nbl, hb⟩ := hid_of hb'
              have hi5 : i < 1000000 := by have := (List.getElem?_eq_some_iff.mp hi).1; omega
              refine ⟨.ref b, rfl, 1, rfl, b, zs, rfl, hb, fun t H3 on => ?_⟩
              obtain ⟨k3, c3, r3, _⟩ := OldNew.rd c2 on (fun x hx => by rcases List.mem_singleton.mp hx with rfl; exact nbl) (RDs.cut rs3 (some 1) none)
              exact pv.step hD c1 hi5 k3 c3 r3 (W_tup (k := 0) (L := 340) (m := 5) (fun x hx => hes x (cutD_mem hx)) (by have := cutD_len es zs.length (some 1) none; omega) (by decide))
            · have c2' := pv.ctx
              have k2 := pv.kp
              obtain ⟨ws, es, e', hl2, rs3, hc2, _, _⟩ := pv
              have c2 : Ctx l p sc ns H2 := c2'.tail c1
              refine ⟨D, ws, rfl, .inl ⟨SqL.of e', fun t ht => ?_⟩⟩
              have c3 := c2.new (o := .tup ws) ht
              have k3 := k2.trans (Kp.new (o := .tup ws) ht)
              refine ⟨.ref a, rfl, a, _, 1, .ref b2, rfl, rfl, SqT.of (k3 a _ nap ha), atI_nat (j := 1) rfl, by show 2 ≤ sizeLine; decide, fun u hu => ?_⟩
              refine q _ _ _ (k1.trans (k3.trans (Kp.new hu))) (c3.new hu) (RD.tupN c3 hu (.cons (RD.tupN c2 ht (RDs.less rs3)) (.cons (RD.hk m k3 q2) .nil))) ((W_tup (k := 2) (L := 8578) (m := 2) (fun x hx' => ?_) (by show 2 ≤ 2; decide) (by decide)).mono (by omega) (by omega))
              rcases List.mem_cons.mp hx' with rfl | hx'
              · exact W_tup (k := 1) (L := 1713) (m := 5) hc2 (by rw [← RDs.length rs3, hl2]; omega) (by decide)
              · rcases List.mem_singleton.mp hx' with rfl
                exact wy'
end
end K01

/-! Q25: law. -/
namespace K01
open PySem PySem.Spec PyProof.Rows L2 GL
/-- what is asked: a pair of the way and the value -/
def AskC : PyData → Prop := fun d => ∃ (way : Int) (e : PyData), d = .tuple [.int way, e] ∧ W 5 (No 3) e
abbrev NL : List Str := ["script", "source", "turn", "game", "side", "many", "mix", "lot", "asked", "named", "time", "way", "value", "choice", "part"]
theorem Dr.keep {l : List Addr} {p sc : Addr} {ns : List Int} {H1 H H' : Hp} {D : Addr} {C : PyData → Prop} {i : Nat} (h : Dr l p sc ns H1 D C i H) (hD : H1 D = none) (c1 : Ctx l p sc ns H1) (k : Kp p H H') (c : Ctx (D :: l) p sc ns H') : Dr l p sc ns H1 D C i H' := by
  obtain ⟨vs, ds, e, hl, rs, hc, k0, c0⟩ := h
  have nDp : D ≠ p := fun z => by obtain ⟨o, ho⟩ := c1.src.at; rw [← z, hD] at ho; cases ho
  exact ⟨vs, ds, k D _ nDp e, hl, RDs.hk c0.mem k rs, hc, k0.trans k, c⟩
theorem ask_of {way : Int} {d : PyData} {n L : Nat} (h : W n L d) (hn : n ≤ 5) (hL : L ≤ 1287180) : AskC (.tuple [.int way, d]) := ⟨way, d, rfl, h.mono hn (by rw [show No 3 = 1287180 by decide]; exact hL)⟩
section
variable {P : Program} {w : World} {K : PySem.W.Frag} {mg : Str → Option Value} {base : Heap}
/-- a def that is called, with its level -/
structure CalT (P : Program) (w : World) (K : PySem.W.Frag) (mg : Str → Option Value) (base : Heap) (k : Nat) (nm : Str) (st : Stmt) (ps : List Str) (sp : Sp) (f : Addr) (fd : FuncData) : Prop where
  F : Fun K nm nm st f fd
  b : Binds K fd ps []
  g : mg nm = some (.ref f)
  G : FnOk P w K mg base CX0 k f fd ps sp
variable {fS fG fP fH fM fR fB fT fO fD fA : Addr} {dS dG dP dH dM dR dB dT dO dD dA : FuncData}
def spLaw (K : PySem.W.Frag) : Sp := fun vs H Q _ => ∃ (a : Addr) (is : List Int), vs = [.ref a] ∧ SqL K H a (is.map V.int) ∧ is.length ≤ 63 ∧ ∀ H', Q (.bl true) H'
theorem ok_law {f : Addr} {fd : FuncData} (F : Fun K "law" "law" sLaw f fd)
    (CS : CalT P w K mg base 1 "_law_source" sLSource ["script"] (spSource (K := K)) fS dS)
    (CG : CalT P w K mg base 4 "_law_game" sLGame ["source", "most"] spGame fG dG)
    (CP : CalT P w K mg base 1 "_law_pick" sLPick ["source", "many"] (spPick 0) fP dP)
    (CH : CalT P w K mg base 60 "_law_shares" sLShares ["source", "many"] spShares fH dH)
    (CM : CalT P w K mg base 2 "_law_mix" sLMix ["numbers"] spMix fM dM)
    (CR : CalT P w K mg base 2 "_law_stretched" sLStretched ["source", "game"] spStr fR dR)
    (CB : CalT P w K mg base 2 "_law_below" sLBelow ["source", "many"] spBelow fB dB)
    (CT : CalT P w K mg base 6 "_law_bent" sLBent ["source", "value"] (spOdd 3) fT dT)
    (CO : CalT P w K mg base 2 "_law_odd" sLOdd ["source", "part"] (spOdd 3) fO dO)
    (CD : CalT P w K mg base 4 "_law_due" sLDue ["way", "value", "many"] spDue fD dD)
    (FA : Fun K "_law_asked" "_law_asked" sLAsked fA dA) (bA : Binds K dA ["way", "game", "side", "value", "due", "named"] []) (gA : mg "_law_asked" = some (.ref fA)) (GA : FnG P w K mg base CX0 11 fA dA ["way", "game", "side", "value", "due", "named"] spAsked)
    (mr : mg "range" = none) (mx : mg "max" = none) (mn : mg "min" = none) (ml : mg "len" = none) (mt : mg "tuple" = none) :
    FnG P w K mg base CX0 61 f fd ["script"] (spLaw K) := by
  refine okG F scLaw (fun vs H Q E h => ?_) (fun cdv A outer s H vs Q E hr hgu h => ?_)
  · obtain ⟨a, is, rfl, _⟩ := h
    rfl
  · obtain ⟨a, is, rfl, hS, hlen, q⟩ := h
    have h1 := hr.mono (show 1 ≤ 60 by omega)
    have h2 := hr.mono (show 2 ≤ 60 by omega)
    have h4 := hr.mono (show 4 ≤ 60 by omega)
    have h6 := hr.mono (show 6 ≤ 60 by omega)
    have h9 := hr.mono (show 11 ≤ 60 by omega)
    refine ⟨_, pss_cons (ps_set (i := 1) scLaw.nd rfl (.inr rfl) (pe_call CS.G h1 (by rfl) CS.g CS.F.kp CS.b .nil pass0 (pa_cons (pv 0) pa_nil)))
      (pss_cons (ps_for PassesOwn.never rfl (pi_range1 (by rfl) mr (pa_cons (pe_callB (call_max2 rfl) (by rfl) mx (by decide +kernel) (pa_cons pe_int (pa_cons
            (pe_callB (call_min2 rfl) (by rfl) mn (by decide +kernel) (pa_cons pe_int (pa_cons (pe_callB call_len_seq (by rfl) ml PySem.boot_len (pa_cons (pv 0) pa_nil)) pa_nil))) pa_nil))) pa_nil)) (pg_name (i := 2) scLaw.nd rfl (.inl rfl))
        (pss_cons (ps_set (i := 3) scLaw.nd rfl (.inr rfl) (pe_call CG.G h4 (by rfl) CG.g CG.F.kp CG.b .nil pass0 (pa_cons (pv 1) (pa_cons pe_int pa_nil))))
        (pss_cons (ps_set (i := 4) scLaw.nd rfl (.inl rfl) (pe_call CP.G h1 (by rfl) CP.g CP.F.kp CP.b .nil pass0 (pa_cons (pv 1) (pa_cons pe_int pa_nil))))
        (pss_cons (ps_set (i := 5) scLaw.nd rfl (.inl rfl) (pe_ix ix_list (pe_lst (pa_cons (pe_callB call_len_seq (by rfl) ml PySem.boot_len (pa_cons (pe_ix ix_tup (pv 3) pe_int (fun _ _ => rfl)) pa_nil))
            (pa_cons (pe_callB call_len_seq (by rfl) ml PySem.boot_len (pa_cons (pe_ix ix_tup (pe_ix ix_tup (pv 3) pe_int (fun _ _ => rfl)) pe_int (fun _ _ => rfl)) pa_nil)) pa_nil))) (pv 4) (fun _ _ => rfl)))
        (pss_cons (ps_set (i := 6) scLaw.nd rfl (.inr rfl) (pe_call CM.G h2 (by rfl) CM.g CM.F.kp CM.b .nil pass0 (pa_cons (pe_call CH.G hr (by rfl) CH.g CH.F.kp CH.b .nil pass0 (pa_cons (pv 1) (pa_cons (pv 5) pa_nil))) pa_nil)))
        (pss_cons (ps_set (i := 7) scLaw.nd rfl (.inr rfl) (pe_callTy call_tuple_of (by rfl) mt (by decide +kernel) (pa_cons
            (pe_lc (own := [("choice", 13)]) (g := gName 13) (tt := tTest (tOp (rI0 fun i j => .bl (decide (i > j))) (tCall (spPick 0) [] E0 (tCons (tVar 1) (tCons (tC (.int 3)) tNil))) (tC (.int 0)))) rfl scLaw.nd (pi_range1 (by rfl) mr (pa_cons (pv 5) pa_nil))
              (blkOk_by (own := [("choice", 13)]) (N := NL) (sc := defScope sLaw) (by decide +kernel))
              (fun _ _ _ _ _ => pg_name (i := 13) scLaw.nd rfl (Or.inl rfl)) (fun _ _ _ _ _ => pts_one (pt_cmpR op_gt (pe_call CP.G h1 (by rfl) CP.g CP.F.kp CP.b .nil pass0 (pa_cons (pv 1) (pa_cons pe_int pa_nil))) pe_int (nomark _)))
              (fun _ _ _ _ _ => pv 13)) pa_nil)))
        (pss_cons (ps_set (i := 8) scLaw.nd rfl (.inl rfl) (pe_lst (pa_cons (pe_tup (pa_cons pe_int (pa_cons (pv 3) pa_nil)))
            (pa_cons (pe_tup (pa_cons pe_int (pa_cons (pe_call CR.G h2 (by rfl) CR.g CR.F.kp CR.b .nil pass0 (pa_cons (pv 1) (pa_cons (pv 3) pa_nil))) pa_nil)))
            (pa_cons (pe_tup (pa_cons pe_int (pa_cons (pv 6) pa_nil)))
            (pa_cons (pe_tup (pa_cons pe_int (pa_cons (pe_call CB.G h2 (by rfl) CB.g CB.F.kp CB.b .nil pass0 (pa_cons (pv 1) (pa_cons (pv 5) pa_nil))) pa_nil)))
            (pa_cons (pe_tup (pa_cons pe_int (pa_cons (pv 7) pa_nil))) pa_nil)))))))
        (pss_cons (ps_set (i := 8) scLaw.nd rfl (.inl rfl) (pe_op op_cat (pv 8)
            (pe_lc (own := [("time", 10)]) (g := gName 10) (tt := tYes) rfl scLaw.nd (pi_range1 (by rfl) mr (pa_cons pe_int pa_nil))
              (blkOk_by (own := [("time", 10)]) (N := NL) (sc := defScope sLaw) (by decide +kernel))
              (fun _ _ _ _ _ => pg_name (i := 10) scLaw.nd rfl (Or.inl rfl)) (fun _ _ _ _ _ => pts_nil)
              (fun _ _ _ _ _ => pe_tup (pa_cons pe_int (pa_cons (pe_call CT.G h6 (by rfl) CT.g CT.F.kp CT.b .nil pass0 (pa_cons (pv 1) (pa_cons (pv 3) pa_nil))) pa_nil))))))
        (pss_cons (ps_set (i := 8) scLaw.nd rfl (.inl rfl) (pe_op op_cat (pv 8)
            (pe_lc (own := [("time", 10)]) (g := gName 10) (tt := tYes) rfl scLaw.nd (pi_range1 (by rfl) mr (pa_cons pe_int pa_nil))
              (blkOk_by (own := [("time", 10)]) (N := NL) (sc := defScope sLaw) (by decide +kernel))
              (fun _ _ _ _ _ => pg_name (i := 10) scLaw.nd rfl (Or.inl rfl)) (fun _ _ _ _ _ => pts_nil)
              (fun _ _ _ _ _ => pe_tup (pa_cons pe_int (pa_cons (pe_call CT.G h6 (by rfl) CT.g CT.F.kp CT.b .nil pass0 (pa_cons (pv 1) (pa_cons (pv 6) pa_nil))) pa_nil))))))
        (pss_cons (ps_set (i := 8) scLaw.nd rfl (.inl rfl) (pe_op op_cat (pv 8)
            (pe_lc (own := [("time", 10)]) (g := gName 10) (tt := tYes) rfl scLaw.nd (pi_range1 (by rfl) mr (pa_cons pe_int pa_nil))
              (blkOk_by (own := [("time", 10)]) (N := NL) (sc := defScope sLaw) (by decide +kernel))
              (fun _ _ _ _ _ => pg_name (i := 10) scLaw.nd rfl (Or.inl rfl)) (fun _ _ _ _ _ => pts_nil)
              (fun _ _ _ _ _ => pe_tup (pa_cons pe_int (pa_cons (pe_call CT.G h6 (by rfl) CT.g CT.F.kp CT.b .nil pass0 (pa_cons (pv 1) (pa_cons (pv 7) pa_nil))) pa_nil))))))
        (pss_cons (ps_set (i := 8) scLaw.nd rfl (.inl rfl) (pe_op op_cat (pv 8)
            (pe_lc (own := [("part", 14)]) (g := gName 14) (tt := tYes) rfl scLaw.nd (pi_list (pe_lst (pa_cons (pv 3) (pa_cons (pv 6) (pa_cons (pv 7) (pa_cons pe_int pa_nil))))))
              (blkOk_by (own := [("part", 14)]) (N := NL) (sc := defScope sLaw) (by decide +kernel))
              (fun _ _ _ _ _ => pg_name (i := 14) scLaw.nd rfl (Or.inl rfl)) (fun _ _ _ _ _ => pts_nil)
              (fun _ _ _ _ _ => pe_tup (pa_cons (pe_call CP.G h1 (by rfl) CP.g CP.F.kp CP.b .nil pass0 (pa_cons (pv 1) (pa_cons pe_int pa_nil))) (pa_cons (pe_call CO.G h2 (by rfl) CO.g CO.F.kp CO.b .nil pass0 (pa_cons (pv 1) (pa_cons (pv 14) pa_nil))) pa_nil))))))
        (pss_cons (ps_set (i := 9) scLaw.nd rfl (.inl rfl) (pe_call CP.G h1 (by rfl) CP.g CP.F.kp CP.b .nil pass0 (pa_cons (pv 1) (pa_cons pe_int pa_nil))))
        (pss_one (ps_for PassesOwn.never rfl (pi_range1 (by rfl) mr (pa_cons pe_int pa_nil)) (pg_name (i := 10) scLaw.nd rfl (.inl rfl))
          (pss_cons (ps_for PassesOwn.never rfl (pi_list (pv 8)) (pg_tup rfl (pgs_cons (pg_name (i := 11) scLaw.nd rfl (Or.inl rfl)) (pgs_cons (pg_name (i := 12) scLaw.nd rfl (Or.inl rfl)) pgs_nil)))
            (pss_one (ps_if (pt_not (pt_val (pe_callG GA h9 hgu (by rfl) gA FA.kp bA .nil pass0 (pa_cons (pv 11) (pa_cons (pv 3) (pa_cons (pv 4) (pa_cons (pv 12)
                (pa_cons (pe_call CD.G h4 (by rfl) CD.g CD.F.kp CD.b .nil pass0 (pa_cons (pv 11) (pa_cons (pv 12) (pa_cons (pv 5) pa_nil)))) (pa_cons (pv 9) pa_nil)))))))))
              (pss_one (ps_ret pe_bl)) pss_nil)))
          (pss_cons (ps_set (i := 9) scLaw.nd rfl (.inl rfl) (pe_op op_sub pe_int (pv 9)))
          (pss_one (ps_set (i := 8) scLaw.nd rfl (.inl rfl) (pe_revL (pv 8))))))))))))))))))))
      (pss_one (ps_ret pe_bl))), ?_⟩
    have mo : most 0 = 100000 := rfl
    refine ⟨.ref a, rfl, a, is, rfl, hS, fun H1 p sc S1 cc1 => ?_⟩
    refine ⟨.ref a, rfl, a, _, rfl, .inl (S1.seq hS), _, _, rfl, _, _, rfl, ?_⟩
    rw [List.length_map]
    have hm : ∃ m : Nat, m ≤ 4 ∧ (if (if (is.length : Int) < 4 then (is.length : Int) else 4) > 1 then (if (is.length : Int) < 4 then (is.length : Int) else 4) else 1) = (m : Int) := by
      have h1 : 0 ≤ (if (if (is.length : Int) < 4 then (is.length : Int) else 4) > 1 then (if (is.length : Int) < 4 then (is.length : Int) else 4) else 1) := by
        split <;> (try split) <;> omega
      have h2 : (if (if (is.length : Int) < 4 then (is.length : Int) else 4) > 1 then (if (is.length : Int) < 4 then (is.length : Int) else 4) else 1) ≤ 4 := by
        split <;> (try split) <;> omega
      exact ⟨Int.toNat _, by omega, (Int.toNat_of_nonneg h1).symm⟩
    obtain ⟨mm, hm4, em⟩ := hm
    rw [em]
    refine ⟨(mm : Int), rfl, by omega, by omega, for_range (lo := 0) (n := mm) (fun i σ H' => (∃ y2 y3 y4 y5 y6 y7 y8 y9 y10 y11 y12 y13 y14 : Option V, σ = [some (.ref a), some (.ref p), y2, y3, y4, y5, y6, y7, y8, y9, y10, y11, y12, y13, y14]) ∧ Ctx [p] p sc is H')
      ⟨⟨none, none, none, none, none, none, none, none, none, none, none, none, none, rfl⟩, cc1⟩ (fun i σ H2 hi hP => ?_) (fun σ H2 hP => q H2)⟩
    obtain ⟨⟨y2, y3, y4, y5, y6, y7, y8, y9, y10, y11, y12, y13, y14, rfl⟩, c2⟩ := hP
    have m : p ∈ [p] := List.mem_cons_self
    -- game
    refine ⟨.ref p, rfl, [p], p, sc, is, rfl, c2, fun H3 g d k3 c3 rg ⟨r, c, r1, r5, cl1, cl5, gm⟩ => ?_⟩
    obtain ⟨g1, g2, g3⟩ := game_ok gm r1 r5 cl1 cl5
    -- side
    refine ⟨.ref p, rfl, p, sc, is, 2, rfl, by decide, by rw [mo]; decide, small 2 (by decide) (by decide), c3.src, fun sd o1 s0 s1 so1 => ?_⟩
    have c4 := c3.put so1
    have hs : sd = 0 ∨ sd = 1 := by omega
    have rg4 := RD.hk m (Kp.put (p := p) (o := o1)) rg
    generalize upd H3 p o1 = H4 at c4 rg4
    -- many
    obtain ⟨b0, b1, b2, b3, ys, zs, rest, rfl, hb0, hb1, rfl, hb3, n1, n2, b1a, b1b, b2a, b2b⟩ := game_at (RD.out rg4) g1
    refine ⟨.ref b0, rfl, b0, _, 0, .ref b1, rfl, rfl, SqT.of hb0, atI_nat (j := 0) rfl, b1, _, rfl, .inr (SqT.of hb1), .ref b0, rfl, b0, _, 0, .ref b1, rfl, rfl, SqT.of hb0, atI_nat (j := 0) rfl, b1, _, 0, .ref b3, rfl, rfl, SqT.of hb1, atI_nat (j := 0) rfl, b3, zs, rfl, .inr (SqT.of hb3),
      by show 2 ≤ sizeLine; decide, fun l5 hl5 => ⟨.int sd, rfl, l5, _, sd, _, rfl, rfl, SqL.of upd_same, ix_named hs, ?_⟩⟩
    have en : (if sd = 0 then V.int ((V.ref b3 :: rest).length : Nat) else V.int (zs.length : Nat)) = V.int (sizeD d sd) := by
      by_cases z : sd = 0
      · rw [if_pos z, z, n1]
      · rw [if_neg z, n2 sd z]
    rw [en]
    obtain ⟨mn1, mn5⟩ := size_le (RD.out rg4) g1 hs
    obtain ⟨N, hN⟩ := Int.eq_ofNat_of_zero_le (show 0 ≤ sizeD d sd by omega)
    rw [hN] at mn1 mn5 ⊢
    have c5 := c4.new (o := .lst [V.int ((V.ref b3 :: rest).length : Nat), V.int (zs.length : Nat)]) hl5
    have rg5 := RD.hk m (Kp.new (p := p) (o := .lst [V.int ((V.ref b3 :: rest).length : Nat), V.int (zs.length : Nat)]) hl5) rg4
    -- mix
    refine ⟨.ref p, rfl, .int N, rfl, [p], p, sc, is, N, rfl, by omega, by omega, c5, fun H6 la sh k6 c6 hla nla shc => ⟨[p], p, sc, is, la, N, sh, rfl, c6, hla, nla, shc, by omega, fun H7 vm dm k7 c7 rm ⟨tm, lm⟩ => ?_⟩⟩
    have rg7 := RD.hk m (k6.trans k7) rg5
    -- lot
    refine ⟨.int N, rfl, N, rfl, by omega, by omega, fun D hD => lc_range (fun i H' => ∃ j, j ≤ i ∧ Dr [p] p sc is H7 D (T 0) j H') ⟨0, Nat.le_refl _, .zero c7 hD⟩ (fun i H8 hi pv => ⟨rfl, ?_⟩) (fun H8 pv => ?_)⟩
    · obtain ⟨jj, hj, pv⟩ := pv
      have c8 := pv.ctx
      refine ⟨.ref p, rfl, p, sc, is, 3, rfl, by decide, by rw [mo]; decide, small 3 (by decide) (by decide), c8.src, fun r' o2 x0 x1 so2 => ⟨_, _, rfl, rfl, _, rfl, ite2 (fun e => ?_) (fun e => ⟨jj, by omega, pv.keep hD c7 Kp.put (c8.put so2)⟩)⟩⟩
      obtain ⟨acc, e1, e2, e3⟩ := pv.step hD c7 (by omega) (Kp.put (o := o2)) (c8.put so2) (.int (0 + (i : Nat))) ⟨_, rfl, small10 (by omega)⟩
      exact ⟨.int (0 + (i : Nat)), rfl, acc, e1, e2, jj + 1, by omega, e3⟩
    obtain ⟨jj, hj, pv⟩ := pv
    rw [show (N : Int).toNat = N from rfl] at hj
    have c8' := pv.ctx
    have k8 := pv.kp
    obtain ⟨ws, ls, e8, hl8, rs8, hc8, _, _⟩ := pv
    have c8 : Ctx [p] p sc is H8 := c8'.tail c7
    refine ⟨D, ws, rfl, .inl ⟨SqL.of e8, fun tl htl => ?_⟩⟩
    have rl9 := RD.tupN c8 htl (RDs.less rs8)
    have c9 := c8.new (o := .tup ws) htl
    have k79 := k8.trans (Kp.new (o := .tup ws) htl)
    have rg9 := RD.hk m k79 rg7
    have rm9 := RD.hk m k79 rm
    have tl1 : T 1 (.tuple ls) := .inr ⟨ls, rfl, by rw [← RDs.length rs8, hl8]; omega, hc8⟩
    have tg3 : T 3 d := T_game gm r5 cl5
    generalize upd H8 tl (.tup ws) = H9 at rl9 c9 rg9 rm9
    have nt1 : Nt 1 = 1713 := rfl
    have nt2 : Nt 2 = 8578 := rfl
    have nt3 : Nt 3 = 42903 := by decide
    have no3 : No 3 = 1287180 := by decide
    -- the first five
    refine ⟨.ref b0, rfl, by show 2 ≤ sizeLine; decide, fun t1 ht1 => ?_⟩
    have a1 := RD.tupN (xs := [.int 0, .ref b0]) (ds := [.int 0, d]) c9 ht1 (.cons (.int 0) (.cons rg9 .nil))
    have d1 := c9.new (o := .tup [.int 0, .ref b0]) ht1
    have j1 := Kp.new (p := p) (o := .tup [.int 0, .ref b0]) ht1
    generalize upd H9 t1 (.tup [.int 0, .ref b0]) = G1 at a1 d1 j1
    refine ⟨.ref p, rfl, .ref b0, rfl, [p], p, sc, is, .ref b0, d, r, c, rfl, d1, RD.hk m j1 rg9, gm, r1, r5, cl5, fun G2 v2 e2 j2 d2 rv2 w2 => ⟨by show 2 ≤ sizeLine; decide, fun t2 ht2 => ?_⟩⟩
    have a2 := RD.tupN (xs := [.int 0, v2]) (ds := [.int 0, e2]) d2 ht2 (.cons (.int 0) (.cons rv2 .nil))
    have d3 := d2.new (o := .tup [.int 0, v2]) ht2
    have j3 := Kp.new (p := p) (o := .tup [.int 0, v2]) ht2
    generalize upd G2 t2 (.tup [.int 0, v2]) = G3 at a2 d3 j3
    have j13 := j2.trans j3
    have j93 := j1.trans j13
    refine ⟨vm, rfl, by show 2 ≤ sizeLine; decide, fun t3 ht3 => ?_⟩
    have a3 := RD.tupN (xs := [.int 1, vm]) (ds := [.int 1, dm]) d3 ht3 (.cons (.int 1) (.cons (RD.hk m j93 rm9) .nil))
    have d4 := d3.new (o := .tup [.int 1, vm]) ht3
    have j4 := Kp.new (p := p) (o := .tup [.int 1, vm]) ht3
    generalize upd G3 t3 (.tup [.int 1, vm]) = G4 at a3 d4 j4
    refine ⟨.ref p, rfl, .int N, rfl, [p], p, sc, is, N, rfl, by omega, by omega, d4, fun G5 v5 e5 j5 d5 rv5 te5 => ⟨by show 2 ≤ sizeLine; decide, fun t4 ht4 => ?_⟩⟩
    have a4 := RD.tupN (xs := [.int 1, v5]) (ds := [.int 1, e5]) d5 ht4 (.cons (.int 1) (.cons rv5 .nil))
    have d6 := d5.new (o := .tup [.int 1, v5]) ht4
    have j6 := Kp.new (p := p) (o := .tup [.int 1, v5]) ht4
    generalize upd G5 t4 (.tup [.int 1, v5]) = G6 at a4 d6 j6
    have j96 := j93.trans (j4.trans (j5.trans j6))
    refine ⟨.ref tl, rfl, by show 2 ≤ sizeLine; decide, fun t5 ht5 => ?_⟩
    have a5 := RD.tupN (xs := [.int 2, .ref tl]) (ds := [.int 2, .tuple ls]) d6 ht5 (.cons (.int 2) (.cons (RD.hk m j96 rl9) .nil))
    have d7 := d6.new (o := .tup [.int 2, .ref tl]) ht5
    have j7 := Kp.new (p := p) (o := .tup [.int 2, .ref tl]) ht5
    generalize upd G6 t5 (.tup [.int 2, .ref tl]) = G7 at a5 d7 j7
    have j97 := j96.trans j7
    have j67 := j6.trans j7
    have AR : RDs (hid [p] G7) [.ref t1, .ref t2, .ref t3, .ref t4, .ref t5] [.tuple [.int 0, d], .tuple [.int 0, e2], .tuple [.int 1, dm], .tuple [.int 1, e5], .tuple [.int 2, .tuple ls]] :=
      .cons (RD.hk m (j13.trans (j4.trans (j5.trans j67))) a1) (.cons (RD.hk m (j4.trans (j5.trans j67)) a2) (.cons (RD.hk m (j5.trans j67) a3) (.cons (RD.hk m j7 a4) (.cons a5 .nil))))
    have AC : ∀ x ∈ ([.tuple [.int 0, d], .tuple [.int 0, e2], .tuple [.int 1, dm], .tuple [.int 1, e5], .tuple [.int 2, .tuple ls]] : List PyData), AskC x := fun x hx => by
      simp only [List.mem_cons, List.not_mem_nil, or_false] at hx
      rcases hx with rfl | rfl | rfl | rfl | rfl
      · exact ask_of (T.w tg3) (by decide) (by omega)
      · exact ask_of w2 (by decide) (by omega)
      · exact ask_of (T.w tm) (by decide) (by omega)
      · exact ask_of (T.w te5) (by decide) (by omega)
      · exact ask_of (T.w tl1) (by decide) (by omega)
    refine ⟨by show 5 ≤ sizeLine; decide, fun lA hlA => ?_⟩
    have cx0 := d7.new (o := .lst [.ref t1, .ref t2, .ref t3, .ref t4, .ref t5]) hlA
    have kX0 := j97.trans (Kp.new (p := p) (o := .lst [.ref t1, .ref t2, .ref t3, .ref t4, .ref t5]) hlA)
    have RX0 := RDs.hk m (Kp.new (p := p) (o := .lst [.ref t1, .ref t2, .ref t3, .ref t4, .ref t5]) hlA) AR
    have CX0' := AC
    have nX0 : lA ≠ p := fun z => d7.here p m (z ▸ hlA)
    have eX0 : upd G7 lA (.lst [.ref t1, .ref t2, .ref t3, .ref t4, .ref t5]) lA = some (.lst [.ref t1, .ref t2, .ref t3, .ref t4, .ref t5]) := upd_same
    generalize upd G7 lA (.lst [.ref t1, .ref t2, .ref t3, .ref t4, .ref t5]) = X0 at cx0 kX0 RX0 eX0
    have LX0 : ([.ref t1, .ref t2, .ref t3, .ref t4, .ref t5] : List V).length = 5 := rfl
    generalize ([.ref t1, .ref t2, .ref t3, .ref t4, .ref t5] : List V) = vX0 at RX0 eX0 LX0
    -- asked + bent 0
    refine ⟨.ref lA, rfl, 3, rfl, by decide, by decide, fun D0 hD0 => lc_range (fun i H' => Dr [p] p sc is X0 D0 AskC i H') (.zero cx0 hD0) (fun i H8 hi pv => ⟨rfl, ?_⟩) (fun H8 pv => ?_)⟩
    · have c8 := pv.ctx
      refine ⟨.ref p, rfl, .ref b0, rfl, D0 :: [p], p, sc, is, .ref b0, d, rfl, c8, RD.hk (List.mem_cons_of_mem _ m) pv.kp (RD.lift (RD.hk m kX0 rg9) hD0), tg3, fun H9' v' d' k' c' r' w' => ⟨by show 2 ≤ sizeLine; decide, fun t ht => ?_⟩⟩
      exact pv.step hD0 cx0 (by have : (3 : Int).toNat = 3 := rfl; omega) (k'.trans (Kp.new ht)) (c'.new ht) (RD.tupN c' ht (.cons (.int 0) (.cons r' .nil))) (ask_of w' (by decide) (by omega))
    have c8'0 := pv.ctx
    have k80 := pv.kp
    obtain ⟨ws0, es0, e80, hl80, rs80, hc80, _, _⟩ := pv
    have c80 : Ctx [p] p sc is H8 := c8'0.tail cx0
    have hl90 : ws0.length = 3 := by rw [hl80]; rfl
    refine ⟨lA, D0, _, _, rfl, rfl, k80 lA _ nX0 eX0, e80, by rw [hl90, LX0, sizeLine_eq]; omega, fun lA1 hlA1 => ?_⟩
    have cx1 := c80.new (o := .lst (vX0 ++ ws0)) hlA1
    have kn1 := Kp.new (p := p) (o := .lst (vX0 ++ ws0)) hlA1
    have kX1 := kX0.trans (k80.trans kn1)
    have RX1 := RDs.hk m kn1 (RDs.app (RDs.less rs80) (RDs.hk m k80 RX0))
    have CX1 : ∀ x ∈ _ ++ es0, AskC x := fun x hx => (List.mem_append.mp hx).elim (CX0' x) (hc80 x)
    have nX1 : lA1 ≠ p := fun z => c80.here p m (z ▸ hlA1)
    have eX1 : upd H8 lA1 (.lst (vX0 ++ ws0)) lA1 = some (.lst (vX0 ++ ws0)) := upd_same
    generalize upd H8 lA1 (.lst (vX0 ++ ws0)) = X1 at cx1 kX1 RX1 eX1
    have LX1 : (vX0 ++ ws0).length = 8 := by rw [List.length_append, LX0, hl90]
    generalize vX0 ++ ws0 = vX1 at RX1 eX1 LX1
    -- asked + bent 1
    refine ⟨.ref lA1, rfl, 3, rfl, by decide, by decide, fun D1 hD1 => lc_range (fun i H' => Dr [p] p sc is X1 D1 AskC i H') (.zero cx1 hD1) (fun i H8 hi pv => ⟨rfl, ?_⟩) (fun H8 pv => ?_)⟩
    · have c8 := pv.ctx
      refine ⟨.ref p, rfl, vm, rfl, D1 :: [p], p, sc, is, vm, dm, rfl, c8, RD.hk (List.mem_cons_of_mem _ m) pv.kp (RD.lift (RD.hk m kX1 rm9) hD1), tm.up, fun H9' v' d' k' c' r' w' => ⟨by show 2 ≤ sizeLine; decide, fun t ht => ?_⟩⟩
      exact pv.step hD1 cx1 (by have : (3 : Int).toNat = 3 := rfl; omega) (k'.trans (Kp.new ht)) (c'.new ht) (RD.tupN c' ht (.cons (.int 1) (.cons r' .nil))) (ask_of w' (by decide) (by omega))
    have c8'1 := pv.ctx
    have k81 := pv.kp
    obtain ⟨ws1, es1, e81, hl81, rs81, hc81, _, _⟩ := pv
    have c81 : Ctx [p] p sc is H8 := c8'1.tail cx1
    have hl91 : ws1.length = 3 := by rw [hl81]; rfl
    refine ⟨lA1, D1, _, _, rfl, rfl, k81 lA1 _ nX1 eX1, e81, by rw [hl91, LX1, sizeLine_eq]; omega, fun lA2 hlA2 => ?_⟩
    have cx2 := c81.new (o := .lst (vX1 ++ ws1)) hlA2
    have kn2 := Kp.new (p := p) (o := .lst (vX1 ++ ws1)) hlA2
    have kX2 := kX1.trans (k81.trans kn2)
    have RX2 := RDs.hk m kn2 (RDs.app (RDs.less rs81) (RDs.hk m k81 RX1))
    have CX2 : ∀ x ∈ _ ++ es1, AskC x := fun x hx => (List.mem_append.mp hx).elim (CX1 x) (hc81 x)
    have nX2 : lA2 ≠ p := fun z => c81.here p m (z ▸ hlA2)
    have eX2 : upd H8 lA2 (.lst (vX1 ++ ws1)) lA2 = some (.lst (vX1 ++ ws1)) := upd_same
    generalize upd H8 lA2 (.lst (vX1 ++ ws1)) = X2 at cx2 kX2 RX2 eX2
    have LX2 : (vX1 ++ ws1).length = 11 := by rw [List.length_append, LX1, hl91]
    generalize vX1 ++ ws1 = vX2 at RX2 eX2 LX2
    -- asked + bent 2
    refine ⟨.ref lA2, rfl, 3, rfl, by decide, by decide, fun D2 hD2 => lc_range (fun i H' => Dr [p] p sc is X2 D2 AskC i H') (.zero cx2 hD2) (fun i H8 hi pv => ⟨rfl, ?_⟩) (fun H8 pv => ?_)⟩
    · have c8 := pv.ctx
      refine ⟨.ref p, rfl, .ref tl, rfl, D2 :: [p], p, sc, is, .ref tl, .tuple ls, rfl, c8, RD.hk (List.mem_cons_of_mem _ m) pv.kp (RD.lift (RD.hk m kX2 rl9) hD2), tl1.up.up, fun H9' v' d' k' c' r' w' => ⟨by show 2 ≤ sizeLine; decide, fun t ht => ?_⟩⟩
      exact pv.step hD2 cx2 (by have : (3 : Int).toNat = 3 := rfl; omega) (k'.trans (Kp.new ht)) (c'.new ht) (RD.tupN c' ht (.cons (.int 2) (.cons r' .nil))) (ask_of w' (by decide) (by omega))
    have c8'2 := pv.ctx
    have k82 := pv.kp
    obtain ⟨ws2, es2, e82, hl82, rs82, hc82, _, _⟩ := pv
    have c82 : Ctx [p] p sc is H8 := c8'2.tail cx2
    have hl92 : ws2.length = 3 := by rw [hl82]; rfl
    refine ⟨lA2, D2, _, _, rfl, rfl, k82 lA2 _ nX2 eX2, e82, by rw [hl92, LX2, sizeLine_eq]; omega, fun lA3 hlA3 => ?_⟩
    have cx3 := c82.new (o := .lst (vX2 ++ ws2)) hlA3
    have kn3 := Kp.new (p := p) (o := .lst (vX2 ++ ws2)) hlA3
    have kX3 := kX2.trans (k82.trans kn3)
    have RX3 := RDs.hk m kn3 (RDs.app (RDs.less rs82) (RDs.hk m k82 RX2))
    have CX3 : ∀ x ∈ _ ++ es2, AskC x := fun x hx => (List.mem_append.mp hx).elim (CX2 x) (hc82 x)
    have nX3 : lA3 ≠ p := fun z => c82.here p m (z ▸ hlA3)
    have eX3 : upd H8 lA3 (.lst (vX2 ++ ws2)) lA3 = some (.lst (vX2 ++ ws2)) := upd_same
    generalize upd H8 lA3 (.lst (vX2 ++ ws2)) = X3 at cx3 kX3 RX3 eX3
    have LX3 : (vX2 ++ ws2).length = 14 := by rw [List.length_append, LX2, hl92]
    generalize vX2 ++ ws2 = vX3 at RX3 eX3 LX3
    -- asked + odd ones
    refine ⟨.ref lA3, rfl, .ref b0, rfl, vm, rfl, .ref tl, rfl, by show 4 ≤ sizeLine; decide, fun lp hlp => ⟨lp, rfl, ⟨_, SqL.of upd_same⟩, ?_⟩⟩
    have cy := cx3.new (o := .lst [.ref b0, vm, .ref tl, .int 0]) hlp
    have ky := kX3.trans (Kp.new (p := p) (o := .lst [.ref b0, vm, .ref tl, .int 0]) hlp)
    have nly : lp ≠ p := fun z => cx3.here p m (z ▸ hlp)
    have ely : upd X3 lp (.lst [.ref b0, vm, .ref tl, .int 0]) lp = some (.lst [.ref b0, vm, .ref tl, .int 0]) := upd_same
    have RY := RDs.hk m (Kp.new (p := p) (o := .lst [.ref b0, vm, .ref tl, .int 0]) hlp) RX3
    have eY : upd X3 lp (.lst [.ref b0, vm, .ref tl, .int 0]) lA3 = some (.lst vX3) := by rw [upd_ne (fun z => by rw [z, hlp] at eX3; cases eX3)]; exact eX3
    generalize upd X3 lp (.lst [.ref b0, vm, .ref tl, .int 0]) = Y at cy ky ely RY eY
    have RP : RDs (hid [p] Y) [.ref b0, vm, .ref tl, .int 0] [d, dm, .tuple ls, .int 0] := .cons (RD.hk m ky rg9) (.cons (RD.hk m ky rm9) (.cons (RD.hk m ky rl9) (.cons (.int 0) .nil)))
    have TP : ∀ x ∈ ([d, dm, .tuple ls, .int 0] : List PyData), T 3 x := fun x hx => by
      simp only [List.mem_cons, List.not_mem_nil, or_false] at hx
      rcases hx with rfl | rfl | rfl | rfl
      · exact tg3
      · exact tm.up
      · exact tl1.up.up
      · exact T_small (by decide)
    refine fun D hD => lc_list (xs := [.ref b0, vm, .ref tl, .int 0]) (fun i H' => Dr [p] p sc is Y D AskC i H') (.zero cy hD) (fun i H' _ pv => SqL.of (pv.kp lp _ nly ely)) (fun i x H8 hi pv => ⟨rfl, ?_⟩) (fun H8 pv => ?_)
    · have c8 := pv.ctx
      obtain ⟨dx, edx, rx⟩ := RDs.at RP hi
      have hi5 : i < 1000000 := by have h9 := (List.getElem?_eq_some_iff.mp hi).1; have : ([V.ref b0, vm, .ref tl, .int 0] : List V).length = 4 := rfl; omega
      refine ⟨.ref p, rfl, p, sc, is, 3, rfl, by decide, by rw [mo]; decide, small 3 (by decide) (by decide), c8.src, fun r' o2 x0 x1 so2 => ?_⟩
      have c9' := c8.put so2
      have k9' := pv.kp.trans (Kp.put (o := o2))
      refine ⟨.ref p, rfl, x, rfl, D :: [p], p, sc, is, x, dx, rfl, c9', RD.hk (List.mem_cons_of_mem _ m) k9' (RD.lift rx hD), TP dx (List.mem_of_getElem? edx), fun H9' v' d' k' c' r' w' => ⟨by show 2 ≤ sizeLine; decide, fun t ht => ?_⟩⟩
      exact pv.step hD cy hi5 (Kp.put.trans (k'.trans (Kp.new ht))) (c'.new ht) (RD.tupN c' ht (.cons (.int _) (.cons r' .nil))) (ask_of w' (by decide) (by omega))
    have c8' := pv.ctx
    have k8 := pv.kp
    obtain ⟨ws, es, e8, hl8, rs8, hc8, _, _⟩ := pv
    have c8 : Ctx [p] p sc is H8 := c8'.tail cy
    have hl9 : ws.length = 4 := by rw [hl8]; rfl
    refine ⟨lA3, D, _, _, rfl, rfl, k8 lA3 _ nX3 eY, e8, by rw [hl9, LX3, sizeLine_eq]; omega, fun lZ hlZ => ?_⟩
    have cZ := c8.new (o := .lst (vX3 ++ ws)) hlZ
    have kZ := ky.trans (k8.trans (Kp.new (p := p) (o := .lst (vX3 ++ ws)) hlZ))
    have RZ' := RDs.hk m (Kp.new (p := p) (o := .lst (vX3 ++ ws)) hlZ) (RDs.app (RDs.less rs8) (RDs.hk m k8 RY))
    have CZ : ∀ x ∈ _ ++ es, AskC x := fun x hx => (List.mem_append.mp hx).elim (CX3 x) (hc8 x)
    have nZ : lZ ≠ p := fun z => c8.here p m (z ▸ hlZ)
    have eZ : upd H8 lZ (.lst (vX3 ++ ws)) lZ = some (.lst (vX3 ++ ws)) := upd_same
    generalize upd H8 lZ (.lst (vX3 ++ ws)) = Z at cZ kZ RZ' eZ
    generalize vX3 ++ ws = vZ at RZ' eZ
    -- named
    refine ⟨.ref p, rfl, p, sc, is, 2, rfl, by decide, by rw [mo]; decide, small 2 (by decide) (by decide), cZ.src, fun nm o9 nm0 nm1 so9 => ?_⟩
    have cW := cZ.put so9
    have kW := kZ.trans (Kp.put (o := o9))
    have RW' := RDs.hk m (Kp.put (p := p) (o := o9)) RZ'
    have eW : upd Z p o9 lZ = some (.lst vZ) := by rw [upd_ne nZ]; exact eZ
    have rgW := RD.hk m kW rg9
    generalize upd Z p o9 = W0 at cW kW RW' eW rgW
    have wg : W 5 (No 3) d := (T.w tg3).mono (by decide) (by omega)
    refine ⟨2, rfl, by decide, by decide, for_range (lo := 0) (n := 2) (fun i σ H' => ∃ (z2 z6 z7 z10 z11 z12 z13 z14 : Option V) (lx : Addr) (nm' : Int) (xs : List V) (ds : List PyData),
        σ = [some (.ref a), some (.ref p), z2, some (.ref b0), some (.int sd), some (.int N), z6, z7, some (.ref lx), some (.int nm'), z10, z11, z12, z13, z14] ∧ Ctx [p] p sc is H' ∧ H' lx = some (.lst xs) ∧ lx ≠ p ∧ RDs (hid [p] H') xs ds ∧ (∀ x ∈ ds, AskC x) ∧ (nm' = 0 ∨ nm' = 1) ∧ RD (hid [p] H') (.ref b0) d)
      ⟨_, _, _, _, _, _, _, _, lZ, nm, vZ, _, rfl, cW, eW, nZ, RW', CZ, by omega, rgW⟩ (fun i' σ J hi' pv => ?_) (fun σ J pv => ?_)⟩
    · obtain ⟨z2, z6, z7, z10, z11, z12, z13, z14, lx, nm', xs, ds, rfl, cJ, eJ, nJ, RJ, CJ, hn', gJ⟩ := pv
      refine ⟨.ref lx, rfl, lx, rfl, ⟨xs, SqL.of eJ⟩, for_list (xs := xs) (fun i σ H' => ∃ (z11 z12 : Option V),
          σ = [some (.ref a), some (.ref p), z2, some (.ref b0), some (.int sd), some (.int N), z6, z7, some (.ref lx), some (.int nm'), some (.int (0 + (i' : Nat))), z11, z12, z13, z14] ∧ Same J H')
        ⟨_, _, rfl, .refl J⟩ (fun i σ H' _ pv => by obtain ⟨_, _, _, S⟩ := pv; exact SqL.of (S _ _ eJ)) (fun i x σ H' hi pv => ?_) (fun σ H' pv => ?_)⟩
      · obtain ⟨z11', z12', rfl, S⟩ := pv
        have cS := cJ.kp (Kp.same S) (cJ.src.same S)
        obtain ⟨dx, edx, rx⟩ := RDs.at RJ hi
        obtain ⟨way, e, rfl, we⟩ := CJ dx (List.mem_of_getElem? edx)
        have rx2 := RD.hk m (Kp.same S) rx
        obtain ⟨t, vs2, rfl, _, ht', rs2⟩ := rx2.tupOf (ds := [.int way, e]) rfl
        cases rs2 with
        | cons q1 rs2 =>
          cases rs2 with
          | cons q2 rs2 =>
            cases rs2
            cases q1
            rename_i vv
            have ht2 := (hid_of ht').2
            have gS := RD.out (RD.hk m (Kp.same S) gJ)
            refine ⟨t, [.int way, vv], rfl, SqT.of ht2, rfl, _, _, rfl, _, _, rfl, rfl, ?_⟩
            refine ⟨.int way, rfl, .ref b0, rfl, .int sd, rfl, vv, rfl, .int way, rfl, vv, rfl, .int N, rfl, way, vv, e, N, rfl, RD.out q2, we.bdd, by omega, fun H2 S2 => ⟨.int nm', rfl, ?_⟩⟩
            refine ⟨way, .ref b0, d, sd, vv, e, nm', by rw [hN]; rfl, gS.keep S2, g1, hs, (RD.out q2).keep S2, we.bdd, we.len, we.sl2, hn', wg.nice.mono (by decide) (by omega), we.nice.mono (by decide) (by omega), fun H3 S3 => ⟨true, rfl, iteF ?_⟩⟩
            exact ⟨_, _, rfl, S.trans (S2.trans S3)⟩
      · obtain ⟨z11', z12', rfl, S⟩ := pv
        have cS := cJ.kp (Kp.same S) (cJ.src.same S)
        refine ⟨.int nm', rfl, _, _, rfl, rfl, ?_⟩
        refine ⟨.ref lx, rfl, lx, xs, rfl, SqL.of (S _ _ eJ), fun l9 hl9 => ?_⟩
        have n9 : l9 ≠ p := fun z => cS.here p m (z ▸ hl9)
        exact ⟨_, _, _, _, _, _, _, _, l9, 1 - nm', xs.reverse, ds.reverse, rfl, cS.new hl9, upd_same, n9, RDs.hk m (Kp.new hl9) (RDs.rev (RDs.hk m (Kp.same S) RJ)), fun x hx => CJ x (List.mem_reverse.mp hx), by omega, RD.hk m (Kp.new hl9) (RD.hk m (Kp.same S) gJ)⟩
    · obtain ⟨z2, z6, z7, z10, z11, z12, z13, z14, lx, nm', xs, ds, rfl, cJ, _⟩ := pv
      exact ⟨⟨_, _, _, _, _, _, _, _, _, _, _, _, _, rfl⟩, cJ⟩
end
end K01

/-! G6: as G2, for texts that import. G2: the head of a law whose def is proved by G0's rules. -/
namespace GL
open PySem PySem.Spec PyProof.Rows L2

section
variable {P : Program} {w : World} {K : PySem.W.Frag} {mg mb : Str → Option Value} {k : Nat} {fa a : Addr}
variable {fd : FuncData} {x : Str} {sp : Sp} {s₁ : Shared} {vs : List Value} {ns : List Int}

def scrI (vs : List Value) : Obj := { cls := .type "list", data := .seq vs.toArray }

/-- from an abstract heap in which at most the script stands -/
theorem law_coreI {H : Hp} (KX : K.In s₁.heap) (hns : s₁.heap.Ns mainGlobals mg) (hb : s₁.heap.Ns builtinsNs mb)
    (hbb : ∀ y : Str, y ≠ "__name__" → mb y = bootBuiltins y) (hlim : s₁.heap.NoLimit)
    (hg : s₁.gens = #[])
    (ha : s₁.heap.get? a = some (scrI vs)) (hr : Room k callerA)
    (F : ∀ base : Heap, K.In base → base.Ns mainGlobals mg → FnG P w K mg base CX0 k fa fd [x] sp)
    (hbind : ∀ (s : Shared) (u : Value), BindsTo s fd ⟨[u], []⟩ [(x, u)])
    (hH : ∀ b, H b = none ∨ (b = a ∧ K.lookup a = none ∧ H b = some (.frz (scrI vs) (.lst (ns.map V.int)))))
    (hok : HOk P w H s₁.heap) (hsp : sp [.ref a] H (fun v _ => v = .bl true) fun _ _ _ => False) :
    codeAny (model P w) callerA (.call (.ref fa) ⟨[.ref a], []⟩)
      (fun r s' => r = .ok (.ret (.bool true)) ∧ OldK s₁.heap s'.heap ∧ s'.os = s₁.os ∧ AllBare s'.gens) s₁ := by
  -- an object of the heap that is no script is not tracked
  have off : ∀ {b : Addr} {o : Obj}, s₁.heap.get? b = some o → (b = a → False) → H b = none :=
    fun {b o} _ n => (hH b).elim id fun z => (n z.1).elim
  have ofK : ∀ {b : Addr} {o : Obj}, K.lookup b = some o → H b = none := fun {b o} e =>
    (hH b).elim id fun z => by rw [z.1, z.2.1] at e; cases e
  have nsK : ∀ {b : Addr} {m : Str → Option Value}, s₁.heap.Ns b m → (hidT s₁.heap H).Ns b m := by
    rintro b m ⟨o, es, ep, e, d, r⟩
    refine ⟨o, es, ep, hidT_get e (off e fun z => ?_), d, r⟩
    rw [z, ha] at e
    cases e
    cases d
  have hKb : K.In (hidT s₁.heap H) := fun b o e => hidT_get (KX b o e) (ofK e)
  have hM : Mod K mg (hidT s₁.heap H) :=
    ⟨hKb, nsK hns, ⟨mb, nsK hb, hbb⟩, hlim.elim fun mc z => ⟨mc, nsK z.1, z.2⟩⟩
  have e0 : Env0 P w K mg (hidT s₁.heap H) callerA [] s₁ H :=
    { frames := rfl, mod := hM, bs := fun b o e => of_hidT e, bsz := Nat.le_of_eq (hidT_size _ _)
      funs := trivial, frf := fun b z => absurd (show b ∈ ([] : List Addr) from z) (by simp)
      hok := hok, bare := .of_eq hg }
  have run := (F _ hKb (nsK hns)).run callerA [] s₁ H ⟨[.ref a], []⟩ [.ref a] [.ref a] _ _ hr rfl e0
    (hbind s₁ (.ref a)) (.cons rfl .nil) hsp
  refine codeAny_mono run fun r s' h => ?_
  match r, h with
  | .ok (.ret u), h =>
    obtain ⟨v, H', os, bare, un, hok', r', q⟩ := h
    cases (show v = .bl true from q)
    obtain rfl : u = Value.bool true := r'
    refine ⟨rfl, OldK.of_keep fun b o e => ?_, os, bare⟩
    rcases hH b with z | ⟨_, _, z⟩
    · exact un.keep b o e z (fun y => absurd (show b ∈ ([] : List Addr) from y) (by simp)) (by simp)
    · have q1 := (hok b _ z).1
      have q2 := (hok' b _ (un.frzs b _ _ z)).1
      rw [e] at q1
      cases q1
      exact q2
  | .error er, h => exact h.elim
  | .ok .next, h => exact h.elim
  | .ok .brk, h => exact h.elim
  | .ok .cont, h => exact h.elim

theorem law_callI (KX : K.In s₁.heap) (hns : s₁.heap.Ns mainGlobals mg) (hb : s₁.heap.Ns builtinsNs mb)
    (hbb : ∀ y : Str, y ≠ "__name__" → mb y = bootBuiltins y) (hlim : s₁.heap.NoLimit)
    (hg : s₁.gens = #[])
    (ha : s₁.heap.get? a = some (scrI vs)) (hi : IntsAre vs ns) (hl : ns.length ≤ sizeLine) (hr : Room k callerA)
    (F : ∀ base : Heap, K.In base → base.Ns mainGlobals mg → FnG P w K mg base CX0 k fa fd [x] sp)
    (hbind : ∀ (s : Shared) (u : Value), BindsTo s fd ⟨[u], []⟩ [(x, u)])
    (hsp : ∀ H : Hp, Only H → SqL K H a (ns.map V.int) → sp [.ref a] H (fun v _ => v = .bl true) fun _ _ _ => False) :
    codeAny (model P w) callerA (.call (.ref fa) ⟨[.ref a], []⟩)
      (fun r s' => r = .ok (.ret (.bool true)) ∧ OldK s₁.heap s'.heap ∧ s'.os = s₁.os ∧ AllBare s'.gens) s₁ := by
  have rv := vals_ints hi
  have hlen : vs.toArray.size ≤ sizeLine := by rw [List.size_toArray, hi.length]; exact hl
  cases hk : K.lookup a with
  | some o =>
    have e := KX a o hk
    rw [ha] at e
    cases e
    refine law_coreI (H := fun _ => none) (ns := ns) KX hns hb hbb hlim hg ha hr F hbind
      (fun _ => .inl rfl) (fun _ _ z => nomatch z) (hsp _ (fun _ => .inl rfl) (.inr ?_))
    exact ⟨_, vs.toArray, _, hk, rfl, rfl, rfl, hlen, by simpa using rv⟩
  | none =>
    have one : ∀ b, (if b = a then some (HO.frz (scrI vs) (.lst (ns.map V.int))) else none) = none ∨
        (b = a ∧ (if b = a then some (HO.frz (scrI vs) (.lst (ns.map V.int))) else none) =
          some (.frz (scrI vs) (.lst (ns.map V.int)))) := fun b =>
      (Decidable.em (b = a)).elim (fun z => .inr ⟨z, if_pos z⟩) fun z => .inl (if_neg z)
    refine law_coreI (ns := ns) (H := fun b => if b = a then some (.frz (scrI vs) (.lst (ns.map V.int))) else none)
      KX hns hb hbb hlim hg ha hr F hbind
      (fun b => (one b).imp id fun z => ⟨z.1, hk, z.2⟩) (fun b u z => ?_)
      (hsp _ (fun b => (one b).imp id fun z => ⟨_, _, z.2⟩) (.inl (.inr ⟨scrI vs, if_pos rfl⟩)))
    rcases one b with y | ⟨y1, y2⟩
    · exact nomatch y.symm.trans z
    · cases y2.symm.trans z
      subst y1
      exact ⟨ha, by rw [List.length_map]; exact hl, vs, _, rv, ha⟩

/-- what k_head leaves, for a law over a text that imports nothing -/
theorem walkI {l : PySem.W.OpenLaw} {n k : Nat} {loose : List Str} {XP : (Str → Option Value) → Heap → Prop}
    {YP : World → Heap → Prop} {d : DefRec} {q : Program} {K : Params → PySem.W.Frag} {sp : PySem.W.Frag → Sp} {x : Str}
    (hn : l.most = some n) (hn2 : n ≤ sizeLine) (hdf : d.params.defaults = []) (hr : Room k callerA)
    (hY : ∀ (w : World) (h : Heap), YP w h → (K w.params).In h)
    (F : ∀ (w : World) (mg : Str → Option Value) (fa : Addr) (h : Heap), (K w.params).In h → h.Ns mainGlobals mg →
      mg d.name = some (.ref fa) → ∃ fd : FuncData, (∀ (s : Shared) (u : Value), BindsTo s fd ⟨[u], []⟩ [(x, u)]) ∧
        ∀ base : Heap, (K w.params).In base → base.Ns mainGlobals mg →
          FnG l.prog w (K w.params) mg base CX0 k fa fd [x] (sp (K w.params)))
    (hsp : ∀ (K : PySem.W.Frag) (H : Hp) (a : Addr) (ns : List Int), ns.length ≤ n → Only H →
      SqL K H a (ns.map V.int) → sp K [.ref a] H (fun v _ => v = .bl true) fun _ _ _ => False) :
    PySem.W.WalkO q loose XP YP l.row.toRowW d [] (fun f vs => PySem.call f vs) := by
  refine Att.attach_call hn hdf ?_
  intro w s₀ s₁ mg mb fa o pm cd doc a vs ns G Y ho hd hcd hmg hobj hints hlen hg
  have KX := hY w _ Y
  obtain ⟨fd, hb, hF⟩ := F w mg fa _ KX G.T.g hmg
  exact law_callI (sp := sp (K w.params)) KX G.T.g G.T.b G.T.builtins G.T.nolimit hg hobj hints
    (Nat.le_trans hlen hn2) hr hF hb fun H hO hS => hsp _ H a ns hlen hO hS
end
end GL

/-! Q26: the whole. -/
namespace K01
open PySem PySem.Spec PyProof.Rows L2 GL
structure DefF (K : PySem.W.Frag) (n q : Str) (st : Stmt) (f : Addr) (fd : FuncData) : Prop where
  ns : PySem.W.nsIn K mainGlobals n = some (some (.ref f))
  fn : Fun K n q st f fd
theorem def_mk {K : PySem.W.Frag} {n q : Str} {st : Stmt} {f : Addr} {oc : Value} {od an : Option Addr} {osl : Array (Option Value)}
    {kV doc pm cdv ct : Value} (a : PySem.W.nsIn K mainGlobals n = some (some (.ref f)))
    (l : K.lookup f = some ⟨oc, od, .func (PySem.W.fnOf n q (defArgs st) (defBody st) (defScope st) .none kV doc pm an cdv ct), osl⟩)
    (c : PySem.W.codeIn K cdv q = true) (k : PySem.W.keepIn K (.ref f) = true) :
    DefF K n q st f (PySem.W.fnOf n q (defArgs st) (defBody st) (defScope st) .none kV doc pm an cdv ct) := ⟨a, fun_mk l c k⟩
theorem all_mk {P : Program} {w : World} {K : PySem.W.Frag} {h : Heap} {mg : Str → Option Value} {fa : Addr} (X : K.In h)
    (G : h.Ns mainGlobals mg) (hfa : mg "law" = some (.ref fa)) {tb tm : Tok}
    {fR : Addr} {dR : FuncData} (FR : DefF K "ratio" "ratio" sRatio fR dR)
    {fSc : Addr} {dSc : FuncData} (FSc : DefF K "scaled" "scaled" sScaled fSc dSc)
    {fSu : Addr} {dSu : FuncData} (FSu : DefF K "sum_of" "sum_of" sSumOf fSu dSu)
    {fSz : Addr} {dSz : FuncData} (FSz : DefF K "size" "size" sSize fSz dSz)
    {fWh : Addr} {dWh : FuncData} (FWh : DefF K "is_whole" "is_whole" sIsWhole fWh dWh)
    {fTu : Addr} {dTu : FuncData} (FTu : DefF K "is_tuple_of" "is_tuple_of" sIsTupleOf fTu dTu)
    {fFr : Addr} {dFr : FuncData} (FFr : DefF K "is_fraction" "is_fraction" sIsFraction fFr dFr)
    {fCh : Addr} {dCh : FuncData} (FCh : DefF K "are_chances" "are_chances" sAreChances fCh dCh)
    {fNf : Addr} {dNf : FuncData} (FNf : DefF K "number_fits" "number_fits" sNumberFits fNf dNf)
    {fAn : Addr} {dAn : FuncData} (FAn : DefF K "are_numbers" "are_numbers" sAreNumbers fAn dAn)
    {fMn : Addr} {dMn : FuncData} (FMn : DefF K "many_fits" "many_fits" sManyFits fMn dMn)
    {fRw : Addr} {dRw : FuncData} (FRw : DefF K "is_row" "is_row" sIsRow fRw dRw)
    {fTb : Addr} {dTb : FuncData} (FTb : DefF K "table_fits" "table_fits" sTableFits fTb dTb)
    {fGf : Addr} {dGf : FuncData} (FGf : DefF K "game_fits" "game_fits" sGameFits fGf dGf)
    {fSf : Addr} {dSf : FuncData} (FSf : DefF K "side_fits" "side_fits" sSideFits fSf dSf)
    {fMf : Addr} {dMf : FuncData} (FMf : DefF K "mix_fits" "mix_fits" sMixFits fMf dMf)
    {fCf : Addr} {dCf : FuncData} (FCf : DefF K "choice_fits" "choice_fits" sChoiceFits fCf dCf)
    {fLf : Addr} {dLf : FuncData} (FLf : DefF K "lot_fits" "lot_fits" sLotFits fLf dLf)
    {fCg : Addr} {dCg : FuncData} (FCg : DefF K "check_game" "check_game" sCheckGame fCg dCg)
    {fCs : Addr} {dCs : FuncData} (FCs : DefF K "check_side" "check_side" sCheckSide fCs dCs)
    {fCb : Addr} {dCb : FuncData} (FCb : DefF K "check_game_and_side" "check_game_and_side" sCheckGameAndSide fCb dCb)
    {fIg : Addr} {dIg : FuncData} (FIg : DefF K "is_game" "is_game" sIsGame fIg dIg)
    {fIm : Addr} {dIm : FuncData} (FIm : DefF K "is_mix" "is_mix" sIsMix fIm dIm)
    {fIl : Addr} {dIl : FuncData} (FIl : DefF K "is_lot" "is_lot" sIsLot fIl dIl)
    {fA : Addr} {dA : FuncData} (FA : DefF K "_law_source" "_law_source" sLSource fA dA)
    {fP : Addr} {dP : FuncData} (FP : DefF K "_law_pick" "_law_pick" sLPick fP dP)
    {fLe : Addr} {dLe : FuncData} (FLe : DefF K "_law_least" "_law_least" sLLeast fLe dLe)
    {fLw : Addr} {dLw : FuncData} (FLw : DefF K "_law_whole" "_law_whole" sLWhole fLw dLw)
    {fLt : Addr} {dLt : FuncData} (FLt : DefF K "_law_is_table" "_law_is_table" sLIsTable fLt dLt)
    {fLg : Addr} {dLg : FuncData} (FLg : DefF K "_law_is_game" "_law_is_game" sLIsGame fLg dLg)
    {fLm : Addr} {dLm : FuncData} (FLm : DefF K "_law_is_mix" "_law_is_mix" sLIsMix fLm dLm)
    {fLl : Addr} {dLl : FuncData} (FLl : DefF K "_law_is_lot" "_law_is_lot" sLIsLot fLl dLl)
    {fNu : Addr} {dNu : FuncData} (FNu : DefF K "_law_number" "_law_number" sLNumber fNu dNu)
    {fTa : Addr} {dTa : FuncData} (FTa : DefF K "_law_table" "_law_table" sLTable fTa dTa)
    {fGa : Addr} {dGa : FuncData} (FGa : DefF K "_law_game" "_law_game" sLGame fGa dGa)
    {fSh : Addr} {dSh : FuncData} (FSh : DefF K "_law_shares" "_law_shares" sLShares fSh dSh)
    {fMi : Addr} {dMi : FuncData} (FMi : DefF K "_law_mix" "_law_mix" sLMix fMi dMi)
    {fOd : Addr} {dOd : FuncData} (FOd : DefF K "_law_odd" "_law_odd" sLOdd fOd dOd)
    {fBe : Addr} {dBe : FuncData} (FBe : DefF K "_law_bent" "_law_bent" sLBent fBe dBe)
    {fBl : Addr} {dBl : FuncData} (FBl : DefF K "_law_below" "_law_below" sLBelow fBl dBl)
    {fSt : Addr} {dSt : FuncData} (FSt : DefF K "_law_stretched" "_law_stretched" sLStretched fSt dSt)
    {fTo : Addr} {dTo : FuncData} (FTo : DefF K "_law_told" "_law_told" sLTold fTo dTo)
    {fDu : Addr} {dDu : FuncData} (FDu : DefF K "_law_due" "_law_due" sLDue fDu dDu)
    {fAs : Addr} {dAs : FuncData} (FAs : DefF K "_law_asked" "_law_asked" sLAsked fAs dAs)
    {fL : Addr} {dL : FuncData} (FL : DefF K "law" "law" sLaw fL dL)
    (zbo : PySem.W.nsIn K mainGlobals "BOUND" = some (some (.int 1000 tb))) (zmo : PySem.W.nsIn K mainGlobals "MOST_CHOICES" = some (some (.int 5 tm)))
    (zgc : PySem.W.nsIn K mainGlobals "gcd" = some (some (.builtin "math.gcd"))) (zlc : PySem.W.nsIn K mainGlobals "lcm" = some (some (.builtin "math.lcm")))
    (z_type : PySem.W.nsIn K mainGlobals "type" = some none)
    (z_int : PySem.W.nsIn K mainGlobals "int" = some none)
    (z_tuple : PySem.W.nsIn K mainGlobals "tuple" = some none)
    (z_len : PySem.W.nsIn K mainGlobals "len" = some none)
    (z_all : PySem.W.nsIn K mainGlobals "all" = some none)
    (z_set : PySem.W.nsIn K mainGlobals "set" = some none)
    (z_range : PySem.W.nsIn K mainGlobals "range" = some none)
    (z_sum : PySem.W.nsIn K mainGlobals "sum" = some none)
    (z_abs : PySem.W.nsIn K mainGlobals "abs" = some none)
    (z_isinstance : PySem.W.nsIn K mainGlobals "isinstance" = some none)
    (z_bool : PySem.W.nsIn K mainGlobals "bool" = some none)
    (z_list : PySem.W.nsIn K mainGlobals "list" = some none)
    (z_str : PySem.W.nsIn K mainGlobals "str" = some none)
    (z_repr : PySem.W.nsIn K mainGlobals "repr" = some none)
    (z_max : PySem.W.nsIn K mainGlobals "max" = some none)
    (z_min : PySem.W.nsIn K mainGlobals "min" = some none)
    : ∃ fd : FuncData, (∀ (s : Shared) (v : Value), BindsTo s fd ⟨[v], []⟩ [("script", v)]) ∧ ∀ base : Heap, K.In base →
      base.Ns mainGlobals mg → FnG P w K mg base CX0 61 fa fd ["script"] (spLaw K) := by
  have e := hfa.symm.trans (PySem.W.mg_of X G FL.ns)
  cases e
  have m_type := PySem.W.mg_none_of X G z_type
  have m_int := PySem.W.mg_none_of X G z_int
  have m_tuple := PySem.W.mg_none_of X G z_tuple
  have m_len := PySem.W.mg_none_of X G z_len
  have m_all := PySem.W.mg_none_of X G z_all
  have m_set := PySem.W.mg_none_of X G z_set
  have m_range := PySem.W.mg_none_of X G z_range
  have m_sum := PySem.W.mg_none_of X G z_sum
  have m_abs := PySem.W.mg_none_of X G z_abs
  have m_isinstance := PySem.W.mg_none_of X G z_isinstance
  have m_bool := PySem.W.mg_none_of X G z_bool
  have m_list := PySem.W.mg_none_of X G z_list
  have m_str := PySem.W.mg_none_of X G z_str
  have m_repr := PySem.W.mg_none_of X G z_repr
  have m_max := PySem.W.mg_none_of X G z_max
  have m_min := PySem.W.mg_none_of X G z_min
  have bR := FR.fn.binds (ps := ["above", "below"]) fun _ _ _ _ _ _ us hl => match us, hl with | [_, _], _ => rfl
  have gR := PySem.W.mg_of X G FR.ns
  have bSc := FSc.fn.binds (ps := ["parts"]) fun _ _ _ _ _ _ us hl => match us, hl with | [_], _ => rfl
  have gSc := PySem.W.mg_of X G FSc.ns
  have bSu := FSu.fn.binds (ps := ["parts"]) fun _ _ _ _ _ _ us hl => match us, hl with | [_], _ => rfl
  have gSu := PySem.W.mg_of X G FSu.ns
  have bSz := FSz.fn.binds (ps := ["game", "side"]) fun _ _ _ _ _ _ us hl => match us, hl with | [_, _], _ => rfl
  have gSz := PySem.W.mg_of X G FSz.ns
  have bWh := FWh.fn.binds (ps := ["value"]) fun _ _ _ _ _ _ us hl => match us, hl with | [_], _ => rfl
  have gWh := PySem.W.mg_of X G FWh.ns
  have bTu := FTu.fn.binds (ps := ["value", "many"]) fun _ _ _ _ _ _ us hl => match us, hl with | [_, _], _ => rfl
  have gTu := PySem.W.mg_of X G FTu.ns
  have bFr := FFr.fn.binds (ps := ["value"]) fun _ _ _ _ _ _ us hl => match us, hl with | [_], _ => rfl
  have gFr := PySem.W.mg_of X G FFr.ns
  have bCh := FCh.fn.binds (ps := ["value", "many"]) fun _ _ _ _ _ _ us hl => match us, hl with | [_, _], _ => rfl
  have gCh := PySem.W.mg_of X G FCh.ns
  have bNf := FNf.fn.binds (ps := ["value"]) fun _ _ _ _ _ _ us hl => match us, hl with | [_], _ => rfl
  have gNf := PySem.W.mg_of X G FNf.ns
  have bAn := FAn.fn.binds (ps := ["value"]) fun _ _ _ _ _ _ us hl => match us, hl with | [_], _ => rfl
  have gAn := PySem.W.mg_of X G FAn.ns
  have bMn := FMn.fn.binds (ps := ["value"]) fun _ _ _ _ _ _ us hl => match us, hl with | [_], _ => rfl
  have gMn := PySem.W.mg_of X G FMn.ns
  have bRw := FRw.fn.binds (ps := ["value"]) fun _ _ _ _ _ _ us hl => match us, hl with | [_], _ => rfl
  have gRw := PySem.W.mg_of X G FRw.ns
  have bTb := FTb.fn.binds (ps := ["value"]) fun _ _ _ _ _ _ us hl => match us, hl with | [_], _ => rfl
  have gTb := PySem.W.mg_of X G FTb.ns
  have bGf := FGf.fn.binds (ps := ["value"]) fun _ _ _ _ _ _ us hl => match us, hl with | [_], _ => rfl
  have gGf := PySem.W.mg_of X G FGf.ns
  have bSf := FSf.fn.binds (ps := ["value"]) fun _ _ _ _ _ _ us hl => match us, hl with | [_], _ => rfl
  have gSf := PySem.W.mg_of X G FSf.ns
  have bMf := FMf.fn.binds (ps := ["game", "side", "value"]) fun _ _ _ _ _ _ us hl => match us, hl with | [_, _, _], _ => rfl
  have gMf := PySem.W.mg_of X G FMf.ns
  have bCf := FCf.fn.binds (ps := ["game", "side", "value"]) fun _ _ _ _ _ _ us hl => match us, hl with | [_, _, _], _ => rfl
  have gCf := PySem.W.mg_of X G FCf.ns
  have bLf := FLf.fn.binds (ps := ["game", "side", "value"]) fun _ _ _ _ _ _ us hl => match us, hl with | [_, _, _], _ => rfl
  have gLf := PySem.W.mg_of X G FLf.ns
  have bCg := FCg.fn.binds (ps := ["game"]) fun _ _ _ _ _ _ us hl => match us, hl with | [_], _ => rfl
  have gCg := PySem.W.mg_of X G FCg.ns
  have bCs := FCs.fn.binds (ps := ["side"]) fun _ _ _ _ _ _ us hl => match us, hl with | [_], _ => rfl
  have gCs := PySem.W.mg_of X G FCs.ns
  have bCb := FCb.fn.binds (ps := ["game", "side"]) fun _ _ _ _ _ _ us hl => match us, hl with | [_, _], _ => rfl
  have gCb := PySem.W.mg_of X G FCb.ns
  have bIg := FIg.fn.binds (ps := ["value"]) fun _ _ _ _ _ _ us hl => match us, hl with | [_], _ => rfl
  have gIg := PySem.W.mg_of X G FIg.ns
  have bIm := FIm.fn.binds (ps := ["game", "side", "value"]) fun _ _ _ _ _ _ us hl => match us, hl with | [_, _, _], _ => rfl
  have gIm := PySem.W.mg_of X G FIm.ns
  have bIl := FIl.fn.binds (ps := ["game", "side", "value"]) fun _ _ _ _ _ _ us hl => match us, hl with | [_, _, _], _ => rfl
  have gIl := PySem.W.mg_of X G FIl.ns
  have bA := FA.fn.binds (ps := ["script"]) fun _ _ _ _ _ _ us hl => match us, hl with | [_], _ => rfl
  have gA := PySem.W.mg_of X G FA.ns
  have bP := FP.fn.binds (ps := ["source", "many"]) fun _ _ _ _ _ _ us hl => match us, hl with | [_, _], _ => rfl
  have gP := PySem.W.mg_of X G FP.ns
  have bLe := FLe.fn.binds (ps := ["above", "below"]) fun _ _ _ _ _ _ us hl => match us, hl with | [_, _], _ => rfl
  have gLe := PySem.W.mg_of X G FLe.ns
  have bLw := FLw.fn.binds (ps := ["value"]) fun _ _ _ _ _ _ us hl => match us, hl with | [_], _ => rfl
  have gLw := PySem.W.mg_of X G FLw.ns
  have bLt := FLt.fn.binds (ps := ["value"]) fun _ _ _ _ _ _ us hl => match us, hl with | [_], _ => rfl
  have gLt := PySem.W.mg_of X G FLt.ns
  have bLg := FLg.fn.binds (ps := ["value"]) fun _ _ _ _ _ _ us hl => match us, hl with | [_], _ => rfl
  have gLg := PySem.W.mg_of X G FLg.ns
  have bLm := FLm.fn.binds (ps := ["value", "many"]) fun _ _ _ _ _ _ us hl => match us, hl with | [_, _], _ => rfl
  have gLm := PySem.W.mg_of X G FLm.ns
  have bLl := FLl.fn.binds (ps := ["value", "many"]) fun _ _ _ _ _ _ us hl => match us, hl with | [_, _], _ => rfl
  have gLl := PySem.W.mg_of X G FLl.ns
  have bNu := FNu.fn.binds (ps := ["source", "kind"]) fun _ _ _ _ _ _ us hl => match us, hl with | [_, _], _ => rfl
  have gNu := PySem.W.mg_of X G FNu.ns
  have bTa := FTa.fn.binds (ps := ["source", "rows", "columns"]) fun _ _ _ _ _ _ us hl => match us, hl with | [_, _, _], _ => rfl
  have gTa := PySem.W.mg_of X G FTa.ns
  have bGa := FGa.fn.binds (ps := ["source", "most"]) fun _ _ _ _ _ _ us hl => match us, hl with | [_, _], _ => rfl
  have gGa := PySem.W.mg_of X G FGa.ns
  have bSh := FSh.fn.binds (ps := ["source", "many"]) fun _ _ _ _ _ _ us hl => match us, hl with | [_, _], _ => rfl
  have gSh := PySem.W.mg_of X G FSh.ns
  have bMi := FMi.fn.binds (ps := ["numbers"]) fun _ _ _ _ _ _ us hl => match us, hl with | [_], _ => rfl
  have gMi := PySem.W.mg_of X G FMi.ns
  have bOd := FOd.fn.binds (ps := ["source", "part"]) fun _ _ _ _ _ _ us hl => match us, hl with | [_, _], _ => rfl
  have gOd := PySem.W.mg_of X G FOd.ns
  have bBe := FBe.fn.binds (ps := ["source", "value"]) fun _ _ _ _ _ _ us hl => match us, hl with | [_, _], _ => rfl
  have gBe := PySem.W.mg_of X G FBe.ns
  have bBl := FBl.fn.binds (ps := ["source", "many"]) fun _ _ _ _ _ _ us hl => match us, hl with | [_, _], _ => rfl
  have gBl := PySem.W.mg_of X G FBl.ns
  have bSt := FSt.fn.binds (ps := ["source", "game"]) fun _ _ _ _ _ _ us hl => match us, hl with | [_, _], _ => rfl
  have gSt := PySem.W.mg_of X G FSt.ns
  have bTo := FTo.fn.binds (ps := ["way", "game", "side", "value", "named"]) fun _ _ _ _ _ _ us hl => match us, hl with | [_, _, _, _, _], _ => rfl
  have gTo := PySem.W.mg_of X G FTo.ns
  have bDu := FDu.fn.binds (ps := ["way", "value", "many"]) fun _ _ _ _ _ _ us hl => match us, hl with | [_, _, _], _ => rfl
  have gDu := PySem.W.mg_of X G FDu.ns
  have bAs := FAs.fn.binds (ps := ["way", "game", "side", "value", "due", "named"]) fun _ _ _ _ _ _ us hl => match us, hl with | [_, _, _, _, _, _], _ => rfl
  have gAs := PySem.W.mg_of X G FAs.ns
  have mbo := PySem.W.mg_of X G zbo
  have mmo := PySem.W.mg_of X G zmo
  have mgc := PySem.W.mg_of X G zgc
  have mlc := PySem.W.mg_of X G zlc
  have bL : ∀ (s : Shared) (v : Value), BindsTo s dL ⟨[v], []⟩ [("script", v)] := by
    obtain ⟨oc, od, kV, doc, pm, an, cdv, ct, osl, rfl, lk, hcd⟩ := FL.fn.ex
    exact fun s v => .of_eq rfl
  refine ⟨dL, bL, fun base hb _ => ?_⟩
  have GWh : FnOk P w K mg base CX0 1 fWh dWh ["value"] (spK wholeD) := ok_whole FWh.fn m_type m_int
  have GTu : FnOk P w K mg base CX0 1 fTu dTu ["value", "many"] spTupOf := ok_tupof FTu.fn m_type m_tuple m_len
  have TK : KinT P w K mg base fWh fTu dWh dTu := ⟨FWh.fn, bWh, gWh, GWh, FTu.fn, bTu, gTu, GTu, m_type, m_tuple, m_len, m_all, m_set, ⟨_, mbo⟩, ⟨_, mmo⟩⟩
  have GNf := ok_numfits FNf.fn TK
  have GAn := ok_numbers FAn.fn TK FNf.fn bNf gNf GNf
  have GMn := ok_many FMn.fn TK
  have GRw := ok_row FRw.fn TK FAn.fn bAn gAn GAn FMn.fn bMn gMn GMn
  have GTb := ok_table FTb.fn TK FRw.fn bRw gRw GRw FMn.fn bMn gMn GMn
  have GGf := ok_game FGf.fn TK FTb.fn bTb gTb GTb
  have GFr := ok_fraction FFr.fn TK mgc
  have GR : FnOk P w K mg base CX0 1 fR dR ["above", "below"] spLeast := ok_ratio FR.fn mgc
  have GSc : FnOk P w K mg base CX0 1 fSc dSc ["parts"] spScaled := ok_scaled FSc.fn mlc
  have GSu := ok_sumof FSu.fn m_sum FSc.fn bSc gSc GSc FR.fn bR gR GR
  have GCh := ok_chances FCh.fn TK FFr.fn bFr gFr GFr FSu.fn bSu gSu GSu
  have GSz : FnOk P w K mg base CX0 1 fSz dSz ["game", "side"] spSize := ok_size FSz.fn m_len
  have GSf := ok_sidefits FSf.fn TK
  have GMf := ok_mixfits FMf.fn FSz.fn bSz gSz GSz FCh.fn bCh gCh GCh
  have GCf := ok_choicefits FCf.fn TK FSz.fn bSz gSz GSz
  have GLf := ok_lotfits FLf.fn TK m_range FCf.fn bCf gCf GCf
  have GCg := ok_checkgame FCg.fn FGf.fn bGf gGf GGf
  have GCs := ok_checkside FCs.fn FSf.fn bSf gSf GSf
  have GCb := ok_checkgs FCb.fn FCg.fn bCg gCg GCg FCs.fn bCs gCs GCs
  have GIg := ok_isgame FIg.fn FGf.fn bGf gGf GGf
  have GIm := ok_ismix FIm.fn FCb.fn bCb gCb GCb FMf.fn bMf gMf GMf
  have GIl := ok_islot FIl.fn FCb.fn bCb gCb GCb FLf.fn bLf gLf GLf
  have GLw : FnOk P w K mg base CX0 1 fLw dLw ["value"] (spK wholeD) := ok_lwhole FLw.fn m_isinstance m_int m_bool
  have TL : LawT P w K mg base fLw dLw := ⟨FLw.fn, bLw, gLw, GLw, m_isinstance, m_tuple, m_len⟩
  have GLt := ok_ltable FLt.fn TL
  have GLg := ok_lgame FLg.fn TL FLt.fn bLt gLt GLt
  have GLe : FnOk P w K mg base CX0 1 fLe dLe ["above", "below"] spLeast := ok_least FLe.fn m_abs m_int
  have GLm := ok_lmix FLm.fn TL FLe.fn bLe gLe GLe
  have GLl := ok_llot FLl.fn TL
  have GP := ok_pick (P := P) (w := w) (base := base) FP.fn bP gP m_int m_len m_abs
  have GNu := ok_number FNu.fn FP.fn bP gP (GP 0)
  have GTa := ok_ltab FTa.fn m_tuple m_range FP.fn bP gP (GP 0) FNu.fn bNu gNu GNu
  have GGa := ok_lgam FGa.fn FP.fn bP gP (GP 0) FTa.fn bTa gTa GTa
  have GSh := ok_shares FSh.fn m_range m_sum FP.fn bP gP (GP 58)
  have GMi := ok_lawmix FMi.fn m_tuple m_sum FLe.fn bLe gLe GLe
  have TO : OddT mg := ⟨m_tuple, m_list, m_len, m_str, m_isinstance⟩
  have GOd := fun n => ok_odd (P := P) (w := w) (base := base) n FOd.fn TO FP.fn bP gP (GP 0)
  have GB0 := ok_bent0 FBe.fn TO FP.fn bP gP (GP 0) FOd.fn bOd gOd (GOd 0)
  have GB1 := ok_bent1 0 FBe.fn TO bBe gBe FP.fn bP gP (GP 0) FOd.fn bOd gOd (GOd 1) GB0
  have GB2 := ok_bent1 1 FBe.fn TO bBe gBe FP.fn bP gP (GP 0) FOd.fn bOd gOd (GOd 2) GB1
  have GB3 := ok_bent1 2 FBe.fn TO bBe gBe FP.fn bP gP (GP 0) FOd.fn bOd gOd (GOd 3) GB2
  have GBl := ok_below FBl.fn m_range m_tuple FP.fn bP gP (GP 0)
  have GSt := ok_str FSt.fn m_tuple FP.fn bP gP (GP 0)
  have GTo := ok_told FTo.fn FIg.fn bIg gIg GIg FIm.fn bIm gIm GIm FIl.fn bIl gIl GIl
  have GDu := ok_due FDu.fn FLg.fn bLg gLg GLg FLm.fn bLm gLm GLm FLl.fn bLl gLl GLl
  have GAs := ok_asked FAs.fn m_repr m_isinstance m_bool FTo.fn bTo gTo GTo
  exact ok_law FL.fn ⟨FA.fn, bA, gA, ok_source FA.fn m_list⟩ ⟨FGa.fn, bGa, gGa, GGa⟩ ⟨FP.fn, bP, gP, GP 0⟩ ⟨FSh.fn, bSh, gSh, GSh⟩ ⟨FMi.fn, bMi, gMi, GMi⟩ ⟨FSt.fn, bSt, gSt, GSt⟩ ⟨FBl.fn, bBl, gBl, GBl⟩
    ⟨FBe.fn, bBe, gBe, GB3⟩ ⟨FOd.fn, bOd, gOd, GOd 3⟩ ⟨FDu.fn, bDu, gDu, GDu⟩ FAs.fn bAs gAs GAs m_range m_max m_min m_len m_tuple
end K01

open PySem PySem.W PyProof.Rows
set_option maxHeartbeats 0 in
theorem PySem.Challenge.cw_steadymixes_k01_games_mixes_and_lots_kno_holds : PySem.Challenge.rw_steadymixes_k01_games_mixes_and_lots_kno.Holds := by
  w_on; o_law; k_head; (case hw => w_witness2)
  k_fill
  refine GL.walkI (l := PySem.Challenge.rw_steadymixes_k01_games_mixes_and_lots_kno) (n := 63) (k := 61) (x := "script") (sp := K01.spLaw)
    rfl (by decide) rfl ⟨rfl, by decide, by decide⟩ (fun w h Y => PySem.W.kIn_of Y) ?F
    (fun K H a ns hl _ hS => ⟨a, ns, rfl, hS, hl, fun _ => rfl⟩)
  case F =>
    intro w mg fa h KX G hmg
    refine' K01.all_mk KX G hmg ?FR ?FSc ?FSu ?FSz ?FWh ?FTu ?FFr ?FCh ?FNf ?FAn ?FMn ?FRw ?FTb ?FGf ?FSf ?FMf ?FCf ?FLf ?FCg ?FCs ?FCb ?FIg ?FIm ?FIl ?FA ?FP ?FLe ?FLw ?FLt ?FLg ?FLm ?FLl ?FNu ?FTa ?FGa ?FSh ?FMi ?FOd ?FBe ?FBl ?FSt ?FTo ?FDu ?FAs ?FL ?zbo ?zmo ?zgc ?zlc ?z_type ?z_int ?z_tuple ?z_len ?z_all ?z_set ?z_range ?z_sum ?z_abs ?z_isinstance ?z_bool ?z_list ?z_str ?z_repr ?z_max ?z_min
    (case FR => (refine' K01.def_mk ?a_R ?l_R ?c_R ?k_R; (case a_R => k_is); (case l_R => k_is); (case c_R => k_is); (case k_R => k_is)))
    (case FSc => (refine' K01.def_mk ?a_Sc ?l_Sc ?c_Sc ?k_Sc; (case a_Sc => k_is); (case l_Sc => k_is); (case c_Sc => k_is); (case k_Sc => k_is)))
    (case FSu => (refine' K01.def_mk ?a_Su ?l_Su ?c_Su ?k_Su; (case a_Su => k_is); (case l_Su => k_is); (case c_Su => k_is); (case k_Su => k_is)))
    (case FSz => (refine' K01.def_mk ?a_Sz ?l_Sz ?c_Sz ?k_Sz; (case a_Sz => k_is); (case l_Sz => k_is); (case c_Sz => k_is); (case k_Sz => k_is)))
    (case FWh => (refine' K01.def_mk ?a_Wh ?l_Wh ?c_Wh ?k_Wh; (case a_Wh => k_is); (case l_Wh => k_is); (case c_Wh => k_is); (case k_Wh => k_is)))
    (case FTu => (refine' K01.def_mk ?a_Tu ?l_Tu ?c_Tu ?k_Tu; (case a_Tu => k_is); (case l_Tu => k_is); (case c_Tu => k_is); (case k_Tu => k_is)))
    (case FFr => (refine' K01.def_mk ?a_Fr ?l_Fr ?c_Fr ?k_Fr; (case a_Fr => k_is); (case l_Fr => k_is); (case c_Fr => k_is); (case k_Fr => k_is)))
    (case FCh => (refine' K01.def_mk ?a_Ch ?l_Ch ?c_Ch ?k_Ch; (case a_Ch => k_is); (case l_Ch => k_is); (case c_Ch => k_is); (case k_Ch => k_is)))
    (case FNf => (refine' K01.def_mk ?a_Nf ?l_Nf ?c_Nf ?k_Nf; (case a_Nf => k_is); (case l_Nf => k_is); (case c_Nf => k_is); (case k_Nf => k_is)))
    (case FAn => (refine' K01.def_mk ?a_An ?l_An ?c_An ?k_An; (case a_An => k_is); (case l_An => k_is); (case c_An => k_is); (case k_An => k_is)))
    (case FMn => (refine' K01.def_mk ?a_Mn ?l_Mn ?c_Mn ?k_Mn; (case a_Mn => k_is); (case l_Mn => k_is); (case c_Mn => k_is); (case k_Mn => k_is)))
    (case FRw => (refine' K01.def_mk ?a_Rw ?l_Rw ?c_Rw ?k_Rw; (case a_Rw => k_is); (case l_Rw => k_is); (case c_Rw => k_is); (case k_Rw => k_is)))
    (case FTb => (refine' K01.def_mk ?a_Tb ?l_Tb ?c_Tb ?k_Tb; (case a_Tb => k_is); (case l_Tb => k_is); (case c_Tb => k_is); (case k_Tb => k_is)))
    (case FGf => (refine' K01.def_mk ?a_Gf ?l_Gf ?c_Gf ?k_Gf; (case a_Gf => k_is); (case l_Gf => k_is); (case c_Gf => k_is); (case k_Gf => k_is)))
    (case FSf => (refine' K01.def_mk ?a_Sf ?l_Sf ?c_Sf ?k_Sf; (case a_Sf => k_is); (case l_Sf => k_is); (case c_Sf => k_is); (case k_Sf => k_is)))
    (case FMf => (refine' K01.def_mk ?a_Mf ?l_Mf ?c_Mf ?k_Mf; (case a_Mf => k_is); (case l_Mf => k_is); (case c_Mf => k_is); (case k_Mf => k_is)))
    (case FCf => (refine' K01.def_mk ?a_Cf ?l_Cf ?c_Cf ?k_Cf; (case a_Cf => k_is); (case l_Cf => k_is); (case c_Cf => k_is); (case k_Cf => k_is)))
    (case FLf => (refine' K01.def_mk ?a_Lf ?l_Lf ?c_Lf ?k_Lf; (case a_Lf => k_is); (case l_Lf => k_is); (case c_Lf => k_is); (case k_Lf => k_is)))
    (case FCg => (refine' K01.def_mk ?a_Cg ?l_Cg ?c_Cg ?k_Cg; (case a_Cg => k_is); (case l_Cg => k_is); (case c_Cg => k_is); (case k_Cg => k_is)))
    (case FCs => (refine' K01.def_mk ?a_Cs ?l_Cs ?c_Cs ?k_Cs; (case a_Cs => k_is); (case l_Cs => k_is); (case c_Cs => k_is); (case k_Cs => k_is)))
    (case FCb => (refine' K01.def_mk ?a_Cb ?l_Cb ?c_Cb ?k_Cb; (case a_Cb => k_is); (case l_Cb => k_is); (case c_Cb => k_is); (case k_Cb => k_is)))
    (case FIg => (refine' K01.def_mk ?a_Ig ?l_Ig ?c_Ig ?k_Ig; (case a_Ig => k_is); (case l_Ig => k_is); (case c_Ig => k_is); (case k_Ig => k_is)))
    (case FIm => (refine' K01.def_mk ?a_Im ?l_Im ?c_Im ?k_Im; (case a_Im => k_is); (case l_Im => k_is); (case c_Im => k_is); (case k_Im => k_is)))
    (case FIl => (refine' K01.def_mk ?a_Il ?l_Il ?c_Il ?k_Il; (case a_Il => k_is); (case l_Il => k_is); (case c_Il => k_is); (case k_Il => k_is)))
    (case FA => (refine' K01.def_mk ?a_A ?l_A ?c_A ?k_A; (case a_A => k_is); (case l_A => k_is); (case c_A => k_is); (case k_A => k_is)))
    (case FP => (refine' K01.def_mk ?a_P ?l_P ?c_P ?k_P; (case a_P => k_is); (case l_P => k_is); (case c_P => k_is); (case k_P => k_is)))
    (case FLe => (refine' K01.def_mk ?a_Le ?l_Le ?c_Le ?k_Le; (case a_Le => k_is); (case l_Le => k_is); (case c_Le => k_is); (case k_Le => k_is)))
    (case FLw => (refine' K01.def_mk ?a_Lw ?l_Lw ?c_Lw ?k_Lw; (case a_Lw => k_is); (case l_Lw => k_is); (case c_Lw => k_is); (case k_Lw => k_is)))
    (case FLt => (refine' K01.def_mk ?a_Lt ?l_Lt ?c_Lt ?k_Lt; (case a_Lt => k_is); (case l_Lt => k_is); (case c_Lt => k_is); (case k_Lt => k_is)))
    (case FLg => (refine' K01.def_mk ?a_Lg ?l_Lg ?c_Lg ?k_Lg; (case a_Lg => k_is); (case l_Lg => k_is); (case c_Lg => k_is); (case k_Lg => k_is)))
    (case FLm => (refine' K01.def_mk ?a_Lm ?l_Lm ?c_Lm ?k_Lm; (case a_Lm => k_is); (case l_Lm => k_is); (case c_Lm => k_is); (case k_Lm => k_is)))
    (case FLl => (refine' K01.def_mk ?a_Ll ?l_Ll ?c_Ll ?k_Ll; (case a_Ll => k_is); (case l_Ll => k_is); (case c_Ll => k_is); (case k_Ll => k_is)))
    (case FNu => (refine' K01.def_mk ?a_Nu ?l_Nu ?c_Nu ?k_Nu; (case a_Nu => k_is); (case l_Nu => k_is); (case c_Nu => k_is); (case k_Nu => k_is)))
    (case FTa => (refine' K01.def_mk ?a_Ta ?l_Ta ?c_Ta ?k_Ta; (case a_Ta => k_is); (case l_Ta => k_is); (case c_Ta => k_is); (case k_Ta => k_is)))
    (case FGa => (refine' K01.def_mk ?a_Ga ?l_Ga ?c_Ga ?k_Ga; (case a_Ga => k_is); (case l_Ga => k_is); (case c_Ga => k_is); (case k_Ga => k_is)))
    (case FSh => (refine' K01.def_mk ?a_Sh ?l_Sh ?c_Sh ?k_Sh; (case a_Sh => k_is); (case l_Sh => k_is); (case c_Sh => k_is); (case k_Sh => k_is)))
    (case FMi => (refine' K01.def_mk ?a_Mi ?l_Mi ?c_Mi ?k_Mi; (case a_Mi => k_is); (case l_Mi => k_is); (case c_Mi => k_is); (case k_Mi => k_is)))
    (case FOd => (refine' K01.def_mk ?a_Od ?l_Od ?c_Od ?k_Od; (case a_Od => k_is); (case l_Od => k_is); (case c_Od => k_is); (case k_Od => k_is)))
    (case FBe => (refine' K01.def_mk ?a_Be ?l_Be ?c_Be ?k_Be; (case a_Be => k_is); (case l_Be => k_is); (case c_Be => k_is); (case k_Be => k_is)))
    (case FBl => (refine' K01.def_mk ?a_Bl ?l_Bl ?c_Bl ?k_Bl; (case a_Bl => k_is); (case l_Bl => k_is); (case c_Bl => k_is); (case k_Bl => k_is)))
    (case FSt => (refine' K01.def_mk ?a_St ?l_St ?c_St ?k_St; (case a_St => k_is); (case l_St => k_is); (case c_St => k_is); (case k_St => k_is)))
    (case FTo => (refine' K01.def_mk ?a_To ?l_To ?c_To ?k_To; (case a_To => k_is); (case l_To => k_is); (case c_To => k_is); (case k_To => k_is)))
    (case FDu => (refine' K01.def_mk ?a_Du ?l_Du ?c_Du ?k_Du; (case a_Du => k_is); (case l_Du => k_is); (case c_Du => k_is); (case k_Du => k_is)))
    (case FAs => (refine' K01.def_mk ?a_As ?l_As ?c_As ?k_As; (case a_As => k_is); (case l_As => k_is); (case c_As => k_is); (case k_As => k_is)))
    (case FL => (refine' K01.def_mk ?a_L ?l_L ?c_L ?k_L; (case a_L => k_is); (case l_L => k_is); (case c_L => k_is); (case k_L => k_is)))
    (case zbo => k_is)
    (case zmo => k_is)
    (case zgc => k_is)
    (case zlc => k_is)
    (case z_type => k_is)
    (case z_int => k_is)
    (case z_tuple => k_is)
    (case z_len => k_is)
    (case z_all => k_is)
    (case z_set => k_is)
    (case z_range => k_is)
    (case z_sum => k_is)
    (case z_abs => k_is)
    (case z_isinstance => k_is)
    (case z_bool => k_is)
    (case z_list => k_is)
    (case z_str => k_is)
    (case z_repr => k_is)
    (case z_max => k_is)
    (case z_min => k_is)


import PyProof.Rows.All
import Wide.All
import OpenK.AllK
import Wide.FinOn
import HandS.ForExc
import HandS.Wide
import HandS.ExcInit
import HandS.ExcIs
import HandS.IsInst
import PyProof.ReprRoads
import PyProof.CallFns
import HandS.Ends
import HandS.ExcField
import PyProof.FitsInt
import PyProof.ReprBulk
import HandS.Zip
import HandS.Star
import PyProof.TupleOfGen
import HandS.ForMost
import HandS.RaiseMore
import HandS.Style
import HandS.Gcd
import HandS.TupAny
import HandS.TupMul
import HandS.More
import PySem.Challenge.RW_steadymixes_k04_games_turned_and_moved
set_option Elab.async false
set_option linter.all false
set_option maxRecDepth 100000
set_option maxHeartbeats 4000000
/-! G0: defs that are run where no text of an object is being made (so that repr is known), and their calls. -/
namespace GL
open PySem PySem.Spec PyProof.Rows L2

/-- a def's promise where no repr runs around -/
structure FnG (P : Program) (w : World) (K : PySem.W.Frag) (mg : Str → Option Value) (base : Heap)
    (CX : CXT) (k : Nat) (f : Addr) (fd : FuncData) (ps : List Str) (sp : Sp) : Prop where
  len : ∀ vs H Q E, sp vs H Q E → vs.length = ps.length
  run : ∀ (A : Around) (outer : List Env) (s : Shared) (H : Hp) (args : Args)
    (us : List Value) (vs : List V) (Q : VK) (E : XK),
    Room k A → A.guards = some [] → Env0 P w K mg base A outer s H → BindsTo s fd args (ps.zip us) →
    Vals vs us → sp vs H Q E → codeAny (model P w) A (.call (.ref f) args) (CR CX outer P w H s Q E) s

section
variable {P : Program} {w : World} {K : PySem.W.Frag} {mg : Str → Option Value} {base : Heap}
variable {CX : CXT} {j k : Nat} {f : Addr} {fd : FuncData} {ps : List Str} {sp sp' : Sp}

theorem ofOk (F : FnOk P w K mg base CX k f fd ps sp) : FnG P w K mg base CX k f fd ps sp :=
  ⟨F.len, fun A outer s H args us vs Q E hr _ e b r h => F.run A outer s H args us vs Q E hr e b r h⟩
theorem FnG.mono (F : FnG P w K mg base CX j f fd ps sp) (h : j ≤ k) : FnG P w K mg base CX k f fd ps sp :=
  ⟨F.len, fun A outer s H args us vs Q E hr => F.run A outer s H args us vs Q E (hr.mono h)⟩
theorem FnG.imp (F : FnG P w K mg base CX k f fd ps sp) (h : ∀ vs H Q E, sp' vs H Q E → sp vs H Q E) :
    FnG P w K mg base CX k f fd ps sp' :=
  ⟨fun vs H Q E q => F.len vs H Q E (h _ _ _ _ q),
   fun A outer s H args us vs Q E hr hg e b r q => F.run A outer s H args us vs Q E hr hg e b r (h _ _ _ _ q)⟩

theorem guards_deeper {A : Around} {env : Env} (h : A.guards = some []) : (A.deeper env).guards = some [] := h

/-- a def of the text by its body -/
theorem okG {x qual : Str} {st : Stmt} {N : List Str} (F : Fun K x qual st f fd)
    (S : FnScope N ps (defScope st)) (len : ∀ vs H Q E, sp vs H Q E → vs.length = ps.length)
    (body : ∀ (cdv : Value) (A : Around) (outer : List Env) (s : Shared) (H : Hp) (vs : List V) (Q : VK) (E : XK),
      Room k (A.deeper (envOfC qual (defScope st) s.heap.objs.size f cdv)) →
      (A.deeper (envOfC qual (defScope st) s.heap.objs.size f cdv)).guards = some [] → sp vs H Q E →
      ∃ t, PSs (cxOf CX0 P w K mg base N qual (defScope st) f cdv A outer s H E).nox (defBody st) t ∧
        t { nx := fun _ H' => Q .non H', rt := Q } (start N vs) H) :
    FnG P w K mg base CX0 (k + 1) f fd ps sp := by
  obtain ⟨oc, od, kV, doc, pm, an, cdv, ct, osl, rfl, lk, hcd⟩ := F.ex
  refine ⟨len, fun A outer s H args us vs Q E hr hg e0 hb r hsp => ?_⟩
  have KX : K.In s.heap := e0.mod.kin.keeps fun b o e => (e0.bs b o e).1
  have lim : s.heap.NoLimit := e0.mod.nolimit.keeps fun b o e => (e0.bs b o e).1
  refine Att.call_fn KX lim lk hcd hr.depth hb ?_ (fun s1 x => ?_) S.co S.gen S.kind
  · refine List.all_eq_true.mpr fun y hy => ?_
    have hy' := (List.of_mem_zip (show (y.1, y.2) ∈ ps.zip us from hy)).1
    rcases S.par _ hy' with q | q
    · rw [q]; rfl
    · rw [q]; rfl
  · obtain ⟨t, ht, hq⟩ := body cdv A outer s H vs Q E (hr.deeper _) (guards_deeper hg) hsp
    have I := inv_start (CX := CX0) (E := E) S hr.hd e0 (len _ _ _ _ hsp) r x
    have hend := ht.nox.run [] s1 _ H _ I hq
    refine wpAny_mono hend (fun fl s' hs => ?_) fun e s' hs => hs
    cases fl with
    | ret u =>
      obtain ⟨v, σ', H', J, rv, q⟩ := hs
      exact ⟨v, H', J.os, J.bare, J.base, J.hok, rv, q⟩
    | next =>
      obtain ⟨σ', H', J, q⟩ := hs
      exact ⟨.non, H', J.os, J.bare, J.base, J.hok, rfl, q⟩
    | brk => exact (hs.elim fun _ h => h.elim fun _ h => h.2).elim
    | cont => exact (hs.elim fun _ h => h.elim fun _ h => h.2).elim
end

section
variable {X : Cx} {CX : CXT} {k : Nat} {f : Addr} {fd : FuncData} {ps ks : List Str} {sp : Sp} {E : XK}
variable {dvs : List V} {ds : List Value} {x : Str} {p pos : Pos} {e : Expr} {es : List Expr} {t tk : TA}

theorem runArgs {args : Args} {us : List Value} {vs : List V} {pins : List (Addr × Obj)} {σ : L2.St} {H : Hp}
    {s : Shared} {Q : VK} (F : FnG X.prog X.w X.K X.mg X.base CX k f fd ps sp) (hr : Room k X.A)
    (hg : X.A.guards = some []) (hx : Passes CX X E) (I : Inv X pins σ H s)
    (hb : BindsTo s fd args (ps.zip us)) (r : Vals vs us) (h : sp vs H Q E) :
    wpAny (model X.prog X.w) X.A (call (.ref f) args.pos args.kw) (EP X pins σ Q) X.xe s := by
  refine wpAny_call (codeAny_mono (F.run X.A X.stack s H ⟨args.pos, args.kw⟩ us vs Q E hr hg I.env0 hb r h) ?_)
  intro res s' hq
  match res, hq with
  | .error er, hq => exact hx pins σ H s er s' I hq
  | .ok (.ret u), hq => exact I.after hq
  | .ok .next, hq => exact hq.elim
  | .ok .brk, hq => exact hq.elim
  | .ok .cont, hq => exact hq.elim

theorem runG {pins : List (Addr × Obj)} {σ : L2.St} {H : Hp} {s : Shared} {Q : VK} {us : List Value} {vs : List V}
    (F : FnG X.prog X.w X.K X.mg X.base CX k f fd ps sp) (hr : Room k X.A) (hg : X.A.guards = some [])
    (hb : Binds X.K fd ps ds) (hd : Vals dvs ds) (hx : Passes CX X E) (I : Inv X pins σ H s) (r : Vals vs us)
    (h : sp (vs ++ dvs) H Q E) : wpAny (model X.prog X.w) X.A (call (.ref f) us) (EP X pins σ Q) X.xe s := by
  have r2 : Vals (vs ++ dvs) (us ++ ds) := r.append hd
  exact runArgs (args := ⟨us, []⟩) F hr hg hx I
    (hb s us I.kIn (r2.length.symm.trans (F.len _ _ _ _ h))) r2 h

theorem pe_callG (F : FnG X.prog X.w X.K X.mg X.base CX k f fd ps sp) (hr : Room k X.A)
    (hgu : X.A.guards = some []) (hg : Gl X x) (hm : X.mg x = some (.ref f))
    (hk : PySem.W.keepIn X.K (.ref f) = true) (hb : Binds X.K fd ps ds) (hd : Vals dvs ds) (hx : Passes CX X E)
    (ha : PA X (e :: es) t) (hdb : (x == ("__debug__" : Str)) = false := by decide)
    (he : starEach (e :: es) X.env = (false, eval e X.env) :: starEach es X.env := by rfl)
    (hpl : (backTo pos (starEach es X.env)).any (·.1) = false := by rfl) :
    PE X (.Call (.Name x p) (e :: es) [] pos) (tCall sp dvs E t) :=
  ⟨fun pins s σ H Q I h => wpAny_Call_Name_kw (ld_glob I hg hm (PySem.W.callWith_K (h₀ := X.base) I.ok.mod.kin hk
    (thn (ha.run pos pins s σ H _ I h) fun us s1 ⟨vs, H1, I1, r, q⟩ =>
      ⟨I1.kIn, runG F hr hgu hb hd hx I1 r q⟩) he hpl) hdb)⟩

variable {g : List Value → List Value → List Value} {gV : List V → List V → List V} {kws : List Keyword}
/-- keywords alone, or behind positional values -/
theorem pe_callKG (F : FnG X.prog X.w X.K X.mg X.base CX k f fd ps sp) (hr : Room k X.A)
    (hgu : X.A.guards = some []) (hg : Gl X x) (hm : X.mg x = some (.ref f))
    (hk : PySem.W.keepIn X.K (.ref f) = true) (hb : KBinds X.K fd ps ks g gV) (hx : Passes CX X E)
    (ha : PA X (e :: es) t) (hkw : PK X kws tk)
    (hall : (backToKw pos (keywordEach kws X.env)).all (·.1.isSome) = true := by rfl)
    (hks : (backToKw pos (keywordEach kws X.env)).filterMap (·.1) = ks := by rfl)
    (hdb : (x == ("__debug__" : Str)) = false := by decide)
    (he : starEach (e :: es) X.env = (false, eval e X.env) :: starEach es X.env := by rfl)
    (hpl : ((backTo pos (starEach (e :: es) X.env)).any (·.1) ||
      (backToKw pos (keywordEach kws X.env)).any (·.1.isNone)) = false := by rfl) :
    PE X (.Call (.Name x p) (e :: es) kws pos) (tCallK sp gV E t tk) := by
  refine ⟨fun pins s σ H Q I h => wpAny_Call_Name_kw (ld_glob I hg hm ?_ hdb)⟩
  refine PySem.W.callWith_KW (h₀ := X.base) I.ok.mod.kin hk hall ?_ hpl he
  refine thn (ha.run pos pins s σ H _ I h) fun us s1 ⟨vs, H1, I1, r, q⟩ => ?_
  refine thn (hkw.run pos pins s1 σ H1 _ I1 q) fun ws s2 ⟨zs, H2, I2, rz, q2⟩ => ⟨I2.kIn, ?_⟩
  rw [hks]
  have r2 := hb.rel r rz
  exact runArgs (args := ⟨us, ks.zip ws⟩) F hr hgu hx I2
    (hb.to s2 us ws I2.kIn (r2.length.symm.trans (F.len _ _ _ _ q2))) r2 q2
theorem pe_callK0G (F : FnG X.prog X.w X.K X.mg X.base CX k f fd ps sp) (hr : Room k X.A)
    (hgu : X.A.guards = some []) (hg : Gl X x) (hm : X.mg x = some (.ref f))
    (hk : PySem.W.keepIn X.K (.ref f) = true) (hb : KBinds X.K fd ps ks g gV) (hx : Passes CX X E)
    (hkw : PK X kws tk)
    (hall : (backToKw pos (keywordEach kws X.env)).all (·.1.isSome) = true := by rfl)
    (hks : (backToKw pos (keywordEach kws X.env)).filterMap (·.1) = ks := by rfl)
    (hdb : (x == ("__debug__" : Str)) = false := by decide)
    (hpl : ((backTo pos (starEach [] X.env)).any (·.1) ||
      (backToKw pos (keywordEach kws X.env)).any (·.1.isNone)) = false := by rfl) :
    PE X (.Call (.Name x p) [] kws pos) (tCallK sp gV E tNil tk) := by
  refine ⟨fun pins s σ H Q I h => wpAny_Call_Name_kw (ld_glob I hg hm ?_ hdb)⟩
  refine PySem.W.callWith_KW0 (h₀ := X.base) I.ok.mod.kin hk hall ?_ hpl
  refine thn (hkw.run pos pins s σ H _ I h) fun ws s2 ⟨zs, H2, I2, rz, q2⟩ => ⟨I2.kIn, ?_⟩
  rw [hks]
  have r2 := hb.rel (vs := []) (us := []) .nil rz
  exact runArgs (args := ⟨[], ks.zip ws⟩) F hr hgu hx I2
    (hb.to s2 [] ws I2.kIn (r2.length.symm.trans (F.len _ _ _ _ q2))) r2 q2
end
end GL

/-! G1: data that stands in the heap, its text (repr); a law's head for defs of G0. -/
namespace GL
open PySem PySem.Spec PyProof.Rows L2

/-! ### data -/
def keyD : Key → PyData
  | .inl i => .int i
  | .inr x => .str x
def kvD : List (Key × V) → List PyData → List (PyData × PyData)
  | kv :: kvs, d :: ds => (keyD kv.1, d) :: kvD kvs ds
  | _, _ => []
mutual
/-- the value v is, in the heap H, the data d -/
inductive RD (H : Hp) : V → PyData → Prop where
  | non : RD H .non .none
  | bl (b) : RD H (.bl b) (.bool b)
  | int (i) : RD H (.int i) (.int i)
  | str (x) : RD H (.str x) (.str x)
  | lst {a xs ds} : H a = some (.lst xs) → RDs H xs ds → RD H (.ref a) (.list ds)
  | tup {a xs ds} : H a = some (.tup xs) → RDs H xs ds → RD H (.ref a) (.tuple ds)
  | dct {a kvs ds} : H a = some (.dK kvs) → RDs H (kvs.map (·.2)) ds → RD H (.ref a) (.dict (kvD kvs ds))
inductive RDs (H : Hp) : List V → List PyData → Prop where
  | nil : RDs H [] []
  | cons {x xs d ds} : RD H x d → RDs H xs ds → RDs H (x :: xs) (d :: ds)
end
mutual
/-- data stays where what it is made of stays -/
theorem RD.keep {H H' : Hp} (k : ∀ b o, H b = some o → H' b = some o) : ∀ {v d}, RD H v d → RD H' v d
  | _, _, .non => .non
  | _, _, .bl b => .bl b
  | _, _, .int i => .int i
  | _, _, .str x => .str x
  | _, _, .lst e r => .lst (k _ _ e) (RDs.keep k r)
  | _, _, .tup e r => .tup (k _ _ e) (RDs.keep k r)
  | _, _, .dct e r => .dct (k _ _ e) (RDs.keep k r)
theorem RDs.keep {H H' : Hp} (k : ∀ b o, H b = some o → H' b = some o) : ∀ {vs ds}, RDs H vs ds → RDs H' vs ds
  | _, _, .nil => .nil
  | _, _, .cons a b => .cons (RD.keep k a) (RDs.keep k b)
end
theorem RDs.length {H : Hp} : ∀ {vs ds}, RDs H vs ds → vs.length = ds.length
  | _, _, .nil => rfl
  | _, _, .cons _ b => by rw [List.length_cons, List.length_cons, RDs.length b]
theorem RDs.snoc {H : Hp} {v d} (h : RD H v d) : ∀ {vs ds}, RDs H vs ds → RDs H (vs ++ [v]) (ds ++ [d])
  | _, _, .nil => .cons h .nil
  | _, _, .cons a b => .cons a (RDs.snoc h b)

/-! ### as the library reads it -/
section
variable {P : Program} {w : World} {H : Hp} {h : Heap}
theorem kvD_fst : ∀ (kvs : List (Key × V)) (ds : List PyData), (kvs.map (·.2)).length = ds.length →
    (kvD kvs ds).map (·.1) = kvs.map (fun kv => keyD kv.1)
  | [], [], _ => rfl
  | [], _ :: _, e => by cases e
  | _ :: _, [], e => by cases e
  | kv :: kvs, d :: ds, e => by
    show keyD kv.1 :: (kvD kvs ds).map (·.1) = _
    rw [kvD_fst kvs ds (by simpa using e)]; rfl
theorem kvD_snd : ∀ (kvs : List (Key × V)) (ds : List PyData), (kvs.map (·.2)).length = ds.length →
    (kvD kvs ds).map (·.2) = ds
  | [], [], _ => rfl
  | [], _ :: _, e => by cases e
  | _ :: _, [], e => by cases e
  | kv :: kvs, d :: ds, e => by
    show d :: (kvD kvs ds).map (·.2) = _
    rw [kvD_snd kvs ds (by simpa using e)]
theorem reads_key {k : Key} {u : Value} (q : keyIs k u = true) : Reads h u (keyD k) [] := by
  rcases keyIs_shape q with ⟨i, t, ek, ev⟩ | ⟨x, t, ek, ev⟩
  · rw [ev, ek]; exact .int i t
  · rw [ev, ek]; exact .str x t
theorem reads_keys : ∀ {es : List DictEntry} {vs : List (Key × Value)} {kvs : List (Key × V)},
    Pairs (mixKind P w) es vs → KV kvs vs →
    ReadsAll h (es.map (·.key)) (kvs.map (fun kv => keyD kv.1)) [] ∧ es.map (·.val) = vs.map (·.2)
  | _, _, _, .nil, .nil => ⟨.nil, rfl⟩
  | _, _, _, .cons hk hv hr, .cons e t => by
    obtain ⟨h1, h2⟩ := reads_keys hr t
    refine ⟨ReadsAll.cons (as := []) (bs := []) ?_ h1, ?_⟩
    · show Reads h _ (keyD _) []; rw [e.1]; exact reads_key hk
    · rw [List.map_cons, List.map_cons, h2, hv]
theorem vals_of_KV : ∀ {kvs : List (Key × V)} {vs : List (Key × Value)}, KV kvs vs →
    Vals (kvs.map (·.2)) (vs.map (·.2))
  | _, _, .nil => .nil
  | _, _, .cons e t => .cons e.2 (vals_of_KV t)
mutual
theorem RD.reads (ok : HOk P w H h) (hs : H sysModules = none) : ∀ {v : V} {d : PyData} {u : Value},
    RD H v d → RelV v u → ∃ as, Reads h u d as ∧ sysModules ∉ as
  | _, _, _, .non, r => by cases (show _ = Value.none from r); exact ⟨_, .none, by simp⟩
  | _, _, _, .bl b, r => by cases (show _ = Value.bool b from r); exact ⟨_, .bool b, by simp⟩
  | _, _, _, .int i, r => by
    obtain ⟨t, e⟩ := (show ∃ t, _ = Value.int i t from r)
    subst e; exact ⟨_, .int i t, by simp⟩
  | _, _, _, .str x, r => by
    obtain ⟨t, e⟩ := (show ∃ t, _ = Value.str x t from r)
    subst e; exact ⟨_, .str x t, by simp⟩
  | _, _, _, .lst (a := a) e rs, r => by
    cases (show _ = Value.ref a from r)
    obtain ⟨_, its, n, rv, hg⟩ := (ok a _ e : ObjOk P w H h a (.lst _))
    obtain ⟨as, h1, h2⟩ := RDs.reads ok hs rs rv
    refine ⟨_, .list hg rfl rfl h1, fun hm => ?_⟩
    rcases List.mem_cons.mp hm with z | z
    · rw [← z, hs] at e; cases e
    · exact h2 z
  | _, _, _, .tup (a := a) e rs, r => by
    cases (show _ = Value.ref a from r)
    obtain ⟨_, its, rv, o, hg, hc, n, hd⟩ := (ok a _ e : ObjOk P w H h a (.tup _))
    obtain ⟨as, h1, h2⟩ := RDs.reads ok hs rs rv
    exact ⟨_, .tuple hg hc hd h1, h2⟩
  | _, _, _, .dct (a := a) (kvs := kvs) (ds := ds) e rs, r => by
    cases (show _ = Value.ref a from r)
    obtain ⟨_, hy, vs, kv, o, es, ep, hg, hx, hd, _, hp, _⟩ := (ok a _ e : ObjOk P w H h a (.dK kvs))
    obtain ⟨as, h1, h2⟩ := RDs.reads ok hs rs (vals_of_KV kv)
    obtain ⟨k1, k2⟩ := reads_keys (h := h) hp kv
    have hl := RDs.length rs
    refine ⟨_, Reads.dict (as := []) (bs := as) hg hx.1 hd ?_ ?_, fun hm => ?_⟩
    · rw [kvD_fst kvs ds hl]; exact k1
    · rw [kvD_snd kvs ds hl, k2]; exact h1
    · rcases List.mem_cons.mp hm with z | z
      · rw [← z, hs] at e; cases e
      · exact h2 (by simpa using z)
theorem RDs.reads (ok : HOk P w H h) (hs : H sysModules = none) : ∀ {vs : List V} {ds : List PyData} {us : List Value},
    RDs H vs ds → Vals vs us → ∃ as, ReadsAll h us ds as ∧ sysModules ∉ as
  | _, _, _, .nil, .nil => ⟨_, .nil, by simp⟩
  | _, _, _, .cons a b, .cons r t => by
    obtain ⟨as, h1, h2⟩ := RD.reads ok hs a r
    obtain ⟨bs, h3, h4⟩ := RDs.reads ok hs b t
    exact ⟨_, .cons h1 h3, fun hm => (List.mem_append.mp hm).elim h2 h4⟩
end
end

/-! ### the text of data -/
def rRepr : List V → Hp → VK → Prop := fun xs H Q => ∃ v d, xs = [v] ∧ RD H v d ∧ d.showable = true ∧
  d.depth ≤ 100 ∧ d.shown.length ≤ sizeLine ∧ Q (.str d.shown) H
/-- that the place of sys.modules is no object that is tracked -/
def SysAt (base : Heap) : Prop := ∃ o, base.get? sysModules = some o
theorem call_repr {X : Cx} (hs : SysAt X.base) (hg : X.A.guards = some []) (hu : X.A.units + 150 < cLine) :
    CallR X (.builtin "repr") rRepr := by
  intro pins s σ H xs us Q I r h
  obtain ⟨v, d, rfl, rd, hsh, hdp, hsz, q⟩ := h
  obtain ⟨u, rfl, rv⟩ := vals1 r
  have h0 : H sysModules = none := let ⟨o, e⟩ := hs; (I.bs _ _ e).2
  have big : ∀ (a : Addr) (as : List Addr), u = .ref a → Reads s.heap u d as → sysModules ∉ as →
      wpAny (model X.prog X.w) X.A (call (.builtin "repr") [u]) (EP X pins σ Q) X.xe s := by
    intro a as e rr hn
    subst e
    exact repr_of_reads' rr hsh (fun _ => hn) hg (by omega) (fun _ _ e => e)
      (fun h' tu tk hk => ⟨.str d.shown, H, I.kept hk, ⟨tu, rfl⟩, q⟩) hsz
  obtain ⟨as, rr, hn⟩ := rd.reads I.hok h0 rv
  cases rd with
  | non =>
    cases (show u = Value.none from rv)
    rw [PyData.shown_none] at q
    exact PySem.P.repr_of_none ⟨.str _, H, I.tok _, ⟨_, rfl⟩, q⟩
  | bl b =>
    cases (show u = Value.bool b from rv)
    refine PySem.P.repr_of_bool ⟨.str _, H, I.tok _, ⟨_, rfl⟩, ?_⟩
    rw [PyData.shown_bool] at q
    cases b <;> exact q
  | int i =>
    obtain ⟨t, rfl⟩ := (show ∃ t, u = Value.int i t from rv)
    refine PySem.P.repr_of_int (by simpa [PyData.showable] using hsh) ⟨.str _, H, I.tok _, ⟨_, rfl⟩, ?_⟩
    rw [PyData.shown_int] at q
    exact q
  | str x =>
    obtain ⟨t, rfl⟩ := (show ∃ t, u = Value.str x t from rv)
    rw [PyData.shown_str] at q hsz
    exact PySem.P.repr_of_str ⟨.str _, H, I.tok _, ⟨_, rfl⟩, q⟩ hsz
  | lst e rs => exact big _ as rv rr hn
  | tup e rs => exact big _ as rv rr hn
  | dct e rs => exact big _ as rv rr hn
end GL

/-! G2: the head of a law whose def is proved by G0's rules. -/
namespace GL
open PySem PySem.Spec PyProof.Rows L2

section
variable {P : Program} {w : World} {K : PySem.W.Frag} {mg mb : Str → Option Value} {k : Nat} {fa a : Addr}
variable {fd : FuncData} {x : Str} {sp : Sp} {s₁ : Shared} {vs : List Value} {ns : List Int}

def scrO (vs : List Value) : Obj := { cls := .type "list", data := .seq vs.toArray }

/-- from an abstract heap in which at most the script stands -/
theorem law_core {H : Hp} (KX : K.In s₁.heap) (hns : s₁.heap.Ns mainGlobals mg) (hb : s₁.heap.Ns builtinsNs mb)
    (hbb : ∀ y : Str, y ≠ "__name__" → mb y = bootBuiltins y) (hlim : s₁.heap.NoLimit)
    (hsys : ∃ mm, s₁.heap.Ns sysModules mm) (hg : s₁.gens = #[])
    (ha : s₁.heap.get? a = some (scrO vs)) (hr : Room k callerA)
    (F : ∀ base : Heap, K.In base → base.Ns mainGlobals mg → SysAt base → FnG P w K mg base CX0 k fa fd [x] sp)
    (hbind : ∀ (s : Shared) (u : Value), BindsTo s fd ⟨[u], []⟩ [(x, u)])
    (hH : ∀ b, H b = none ∨ (b = a ∧ K.lookup a = none ∧ H b = some (.frz (scrO vs) (.lst (ns.map V.int)))))
    (hok : HOk P w H s₁.heap) (hsp : sp [.ref a] H (fun v _ => v = .bl true) fun _ _ _ => False) :
    codeAny (model P w) callerA (.call (.ref fa) ⟨[.ref a], []⟩)
      (fun r s' => r = .ok (.ret (.bool true)) ∧ OldK s₁.heap s'.heap ∧ s'.os = s₁.os ∧ AllBare s'.gens) s₁ := by
  -- an object of the heap that is no script is not tracked
  have off : ∀ {b : Addr} {o : Obj}, s₁.heap.get? b = some o → (b = a → False) → H b = none :=
    fun {b o} _ n => (hH b).elim id fun z => (n z.1).elim
  have ofK : ∀ {b : Addr} {o : Obj}, K.lookup b = some o → H b = none := fun {b o} e =>
    (hH b).elim id fun z => by rw [z.1, z.2.1] at e; cases e
  have nsK : ∀ {b : Addr} {m : Str → Option Value}, s₁.heap.Ns b m → (hidT s₁.heap H).Ns b m := by
    rintro b m ⟨o, es, ep, e, d, r⟩
    refine ⟨o, es, ep, hidT_get e (off e fun z => ?_), d, r⟩
    rw [z, ha] at e
    cases e
    cases d
  have hKb : K.In (hidT s₁.heap H) := fun b o e => hidT_get (KX b o e) (ofK e)
  have hM : Mod K mg (hidT s₁.heap H) :=
    ⟨hKb, nsK hns, ⟨mb, nsK hb, hbb⟩, hlim.elim fun mc z => ⟨mc, nsK z.1, z.2⟩⟩
  have hS : SysAt (hidT s₁.heap H) := hsys.elim fun mm z => by
    obtain ⟨o, _, _, e, _⟩ := nsK z
    exact ⟨o, e⟩
  have e0 : Env0 P w K mg (hidT s₁.heap H) callerA [] s₁ H :=
    { frames := rfl, mod := hM, bs := fun b o e => of_hidT e, bsz := Nat.le_of_eq (hidT_size _ _)
      funs := trivial, frf := fun b z => absurd (show b ∈ ([] : List Addr) from z) (by simp)
      hok := hok, bare := .of_eq hg }
  have run := (F _ hKb (nsK hns) hS).run callerA [] s₁ H ⟨[.ref a], []⟩ [.ref a] [.ref a] _ _ hr rfl e0
    (hbind s₁ (.ref a)) (.cons rfl .nil) hsp
  refine codeAny_mono run fun r s' h => ?_
  match r, h with
  | .ok (.ret u), h =>
    obtain ⟨v, H', os, bare, un, hok', r', q⟩ := h
    cases (show v = .bl true from q)
    obtain rfl : u = Value.bool true := r'
    refine ⟨rfl, OldK.of_keep fun b o e => ?_, os, bare⟩
    rcases hH b with z | ⟨_, _, z⟩
    · exact un.keep b o e z (fun y => absurd (show b ∈ ([] : List Addr) from y) (by simp)) (by simp)
    · have q1 := (hok b _ z).1
      have q2 := (hok' b _ (un.frzs b _ _ z)).1
      rw [e] at q1
      cases q1
      exact q2
  | .error er, h => exact h.elim
  | .ok .next, h => exact h.elim
  | .ok .brk, h => exact h.elim
  | .ok .cont, h => exact h.elim

theorem law_callG (KX : K.In s₁.heap) (hns : s₁.heap.Ns mainGlobals mg) (hb : s₁.heap.Ns builtinsNs mb)
    (hbb : ∀ y : Str, y ≠ "__name__" → mb y = bootBuiltins y) (hlim : s₁.heap.NoLimit)
    (hsys : ∃ mm, s₁.heap.Ns sysModules mm) (hg : s₁.gens = #[])
    (ha : s₁.heap.get? a = some (scrO vs)) (hi : IntsAre vs ns) (hl : ns.length ≤ sizeLine) (hr : Room k callerA)
    (F : ∀ base : Heap, K.In base → base.Ns mainGlobals mg → SysAt base → FnG P w K mg base CX0 k fa fd [x] sp)
    (hbind : ∀ (s : Shared) (u : Value), BindsTo s fd ⟨[u], []⟩ [(x, u)])
    (hsp : ∀ H : Hp, Only H → SqL K H a (ns.map V.int) → sp [.ref a] H (fun v _ => v = .bl true) fun _ _ _ => False) :
    codeAny (model P w) callerA (.call (.ref fa) ⟨[.ref a], []⟩)
      (fun r s' => r = .ok (.ret (.bool true)) ∧ OldK s₁.heap s'.heap ∧ s'.os = s₁.os ∧ AllBare s'.gens) s₁ := by
  have rv := vals_ints hi
  have hlen : vs.toArray.size ≤ sizeLine := by rw [List.size_toArray, hi.length]; exact hl
  cases hk : K.lookup a with
  | some o =>
    have e := KX a o hk
    rw [ha] at e
    cases e
    refine law_core (H := fun _ => none) (ns := ns) KX hns hb hbb hlim hsys hg ha hr F hbind
      (fun _ => .inl rfl) (fun _ _ z => nomatch z) (hsp _ (fun _ => .inl rfl) (.inr ?_))
    exact ⟨_, vs.toArray, _, hk, rfl, rfl, rfl, hlen, by simpa using rv⟩
  | none =>
    have one : ∀ b, (if b = a then some (HO.frz (scrO vs) (.lst (ns.map V.int))) else none) = none ∨
        (b = a ∧ (if b = a then some (HO.frz (scrO vs) (.lst (ns.map V.int))) else none) =
          some (.frz (scrO vs) (.lst (ns.map V.int)))) := fun b =>
      (Decidable.em (b = a)).elim (fun z => .inr ⟨z, if_pos z⟩) fun z => .inl (if_neg z)
    refine law_core (ns := ns) (H := fun b => if b = a then some (.frz (scrO vs) (.lst (ns.map V.int))) else none)
      KX hns hb hbb hlim hsys hg ha hr F hbind
      (fun b => (one b).imp id fun z => ⟨z.1, hk, z.2⟩) (fun b u z => ?_)
      (hsp _ (fun b => (one b).imp id fun z => ⟨_, _, z.2⟩) (.inl (.inr ⟨scrO vs, if_pos rfl⟩)))
    rcases one b with y | ⟨y1, y2⟩
    · exact nomatch y.symm.trans z
    · cases y2.symm.trans z
      subst y1
      exact ⟨ha, by rw [List.length_map]; exact hl, vs, _, rv, ha⟩

/-- what k_head leaves, for a law over a text that imports nothing -/
theorem walkG {l : PySem.W.OpenLaw} {n k : Nat} {loose : List Str} {XP : (Str → Option Value) → Heap → Prop}
    {YP : World → Heap → Prop} {d : DefRec} {q : Program} {K : Params → PySem.W.Frag} {sp : PySem.W.Frag → Sp} {x : Str}
    (hn : l.most = some n) (hn2 : n ≤ sizeLine) (hdf : d.params.defaults = []) (hr : Room k callerA)
    (hno : importsNone q = true) (hY : ∀ (w : World) (h : Heap), YP w h → (K w.params).In h)
    (F : ∀ (w : World) (mg : Str → Option Value) (fa : Addr) (h : Heap), (K w.params).In h → h.Ns mainGlobals mg →
      mg d.name = some (.ref fa) → ∃ fd : FuncData, (∀ (s : Shared) (u : Value), BindsTo s fd ⟨[u], []⟩ [(x, u)]) ∧
        ∀ base : Heap, (K w.params).In base → base.Ns mainGlobals mg → SysAt base →
          FnG l.prog w (K w.params) mg base CX0 k fa fd [x] (sp (K w.params)))
    (hsp : ∀ (K : PySem.W.Frag) (H : Hp) (a : Addr) (ns : List Int), ns.length ≤ n → Only H →
      SqL K H a (ns.map V.int) → sp K [.ref a] H (fun v _ => v = .bl true) fun _ _ _ => False) :
    PySem.W.WalkO q loose XP YP l.row.toRowW d [] (fun f vs => PySem.call f vs) := by
  refine Att.attach_call hn hdf ?_
  intro w s₀ s₁ mg mb fa o pm cd doc a vs ns G Y ho hd hcd hmg hobj hints hlen hg
  have KX := hY w _ Y
  obtain ⟨fd, hb, hF⟩ := F w mg fa _ KX G.T.g hmg
  have hsys : ∃ mm, s₁.heap.Ns sysModules mm := (G.T.seer hno).mods.elim fun mm z => ⟨mm, z.1⟩
  exact law_callG (sp := sp (K w.params)) KX G.T.g G.T.b G.T.builtins G.T.nolimit hsys hg hobj hints
    (Nat.le_trans hlen hn2) hr hF hb fun H hO hS => hsp _ H a ns hlen hO hS
end
end GL

/-! G3: an error of an own class over ValueError, with an __init__ of its own, made as a value: by place, by name. -/
namespace PySem
namespace GLX
open Builtin Builtin.ObjectAttr HandSPX
section
variable {M : Model} {A : Around} {E : Value → Shared → Prop} {h : Heap} {g : Array GenState} {d : Drawn}
variable {t : Nat} {os : OsState} {nm q : Str} {C N : Addr} {bs bm bmB : List Value} {hdct : Bool}
variable {sn : List Str} {sub : List Value} {ab : Bool} {col : Option Bool} {dd : Option Addr}
variable {k0 k1 k2 k3 k5 : Option Value} {B newId initId : String} {rest : List Value} {kw : List (Str × Value)}

/-- what C's object looks like -/
abbrev ClsAt (h : Heap) (nm q : Str) (C N : Addr) (bs bm : List Value) (hdct : Bool) (sn : List Str)
    (sub : List Value) (ab : Bool) (col : Option Bool) (dd : Option Addr)
    (k0 k1 k2 k3 k5 : Option Value) (newId : String) : Prop :=
  h.get? C = some (excClassObj nm q C N bs bm hdct sn sub ab col dd k0 k1 k2 k3 k5 newId)

theorem chk_new (F : ExcBaseFacts B newId initId bmB)
    (hT : ∀ X : String, bm.contains (.type X) = bmB.contains (.type X)) {Q : Unit → Shared → Prop}
    (hC : ClsAt h nm q C N bs bm hdct sn sub ab col dd k0 k1 k2 k3 k5 newId) (hq : Q () ⟨h, g, d, t, os⟩) :
    wpAny M A (checkBuiltinCall newId ⟨.ref C :: rest, kw⟩) Q E ⟨h, g, d, t, os⟩ := by
  have inB : (Value.ref C :: bm).contains (.type B) = true := by
    rw [List.contains_cons, hT, F.hasB, Bool.or_true]
  have star := F.noStar
  simp only [checkBuiltinCall, F.newKind, F.newSplit, F.newRow]
  repeat (first
    | refine wpAny_loadPart_at hC ?_
    | (refine wpAny_isSubtype_exc hC ?_
       rw [inB])
    | refine wpAny_staticBase_exc hC ?_
    | refine wpAny_madeBy_exc hC ?_
    | simp only [bne_self_eq_false,
        Bool.false_eq_true, if_false]
    | wp_step)
  exact hq
end
section
variable {prog : Program} {w : World} {A : Around} {E : Value → Shared → Prop} {R : Result → Shared → Prop}
variable {h : Heap} {g : Array GenState} {d : Drawn} {t : Nat} {os : OsState} {nm q : Str} {C N : Addr}
variable {bs bm bmB : List Value} {hdct : Bool} {sn : List Str} {sub : List Value} {ab : Bool}
variable {col : Option Bool} {dd : Option Addr} {k0 k1 k2 k3 k5 : Option Value} {B newId initId : String}
variable {rest : List Value} {kw : List (Str × Value)}

theorem made_new (F : ExcBaseFacts B newId initId bmB)
    (hT : ∀ X : String, bm.contains (.type X) = bmB.contains (.type X))
    (hC : ClsAt h nm q C N bs bm hdct sn sub ab col dd k0 k1 k2 k3 k5 newId)
    (hq : R (.ok (.ret (.ref (h.objs.size + 1))))
      ⟨(h.push (W.kdv_tup rest)).push (excO C h.objs.size), g, d, t, os⟩) (hrest : rest.length ≤ sizeLine) :
    codeAny (model prog w) A (.builtin newId ⟨.ref C :: rest, kw⟩) R ⟨h, g, d, t, os⟩ := by
  have ends := F.ends
  have inB : (Value.ref C :: bm).contains (.type B) = true := by
    rw [List.contains_cons, hT, F.hasB, Bool.or_true]
  have inA : (Value.ref C :: bm).contains (.type "AttributeError") = false := by
    rw [List.contains_cons, hT, F.noAttr]
    rfl
  have inN : (Value.ref C :: bm).contains (.type "NameError") = false := by
    rw [List.contains_cons, hT, F.noName]
    rfl
  refine codeAny_builtinAt F.entry ?_
  unfold Builtin.«BaseException.__new__»
  refine wpAt_bind ?_
  show wpAt _ _ _ (stack >>= _) _ _ _
  refine wpAt_bind (wpAt_stack fun p below => wpAt_of_wpAny ?_)
  wp_walk
  refine wpAt_of_wpAny ?_
  rw [F.owner]
  repeat (first
    | with_reducible refine wpAny_madeHere_exc F.canon hC ?_
    | with_reducible refine wpAny_loadPart_at hC ?_
    | (with_reducible refine wpAny_isSubtype_exc hC ?_
       first
         | rw [inB]
         | rw [inA]
         | rw [inN])
    | wp_step)
  show R _ _
  rw [Heap.size_push]
  exact hq

theorem type_call (F : ExcBaseFacts B newId initId bmB)
    (hT : ∀ X : String, bm.contains (.type X) = bmB.contains (.type X)) {fI : Addr} {Q : Fin → Shared → Prop}
    (hC : ClsAt h nm q C N bs bm hdct sn sub ab col dd k0 k1 k2 k3 k5 newId)
    (hi : W.Looks (model prog w) h (typeLookup (.ref C) "__init__") (some (.ref fI)))
    (hb : ∀ self, W.Looks (model prog w) h (bindSpecial (.ref fI) self) (.ref fI, [self]))
    (hrest : rest.length ≤ sizeLine)
    (hq : codeAny (model prog w) A (.call (.ref fI) ⟨.ref (h.objs.size + 1) :: rest, kw⟩)
      (fun r s' => match r with
        | .ok (.ret v) => v = .none ∧ Q (.done (.ret (.ref (h.objs.size + 1)))) s'
        | .ok _ => False
        | .error e => E e s') ⟨(h.push (W.kdv_tup rest)).push (excO C h.objs.size), g, d, t, os⟩) :
    wpAny (model prog w) A (Builtin.«type.__call__» ⟨.ref C :: rest, kw⟩) Q E ⟨h, g, d, t, os⟩ := by
  repeat (first
    | with_reducible refine wpAny_loadPart_at hC ?_
    | with_reducible refine wpAny_madeBy_exc hC ?_
    | wp_step)
  refine codeAny_call_builtin_code (Code.quiet_builtin _ F.quiet) (chk_new F hT hC ?_)
  refine made_new F hT hC ?_ hrest
  show wpAny _ _ _ _ _ _
  have k : ∀ b o, h.get? b = some o →
      ((h.push (W.kdv_tup rest)).push (excO C h.objs.size)).get? b = some o :=
    fun b o e => Heap.get?_push_of_some _ (Heap.get?_push_of_some _ e)
  have atC := k _ _ hC
  have atE : ((h.push (W.kdv_tup rest)).push (excO C h.objs.size)).get? (h.objs.size + 1) =
      some (excO C h.objs.size) := by heap_get
  have own : (Value.ref C :: bm).contains (.ref C) = true := by simp
  have i1 := hi.keeps k
  have b1 := (hb (.ref (h.objs.size + 1))).keeps k
  unfold isInstance
  repeat (first
    | with_reducible refine wpAny_loadPart_at atE ?_
    | (with_reducible refine wpAny_isSubtype_exc atC ?_
       rw [own])
    | wp_step)
  show wpAny _ _ (typeLookup (.ref C) _) _ _ _
  refine i1.at ?_
  refine wpAny_holding (wpAny_bind (b1.at ?_))
  refine wpAny_bind (wpAny_call (codeAny_mono hq fun r s' z => ?_))
  match r, z with
  | .error e, z => exact z
  | .ok (.ret v), z =>
    obtain ⟨rfl, z⟩ := z
    first
      | exact wpAny_pure (wpAny_pure z)
      | (wp_walk
         exact z)
  | .ok .next, z => exact z.elim
  | .ok .brk, z => exact z.elim
  | .ok .cont, z => exact z.elim

/-- C(.., ..): the error is laid, then its __init__ runs -/
theorem call_cls (F : ExcBaseFacts B newId initId bmB)
    (hT : ∀ X : String, bm.contains (.type X) = bmB.contains (.type X)) {fI : Addr}
    (hC : ClsAt h nm q C N bs bm hdct sn sub ab col dd k0 k1 k2 k3 k5 newId)
    (hi : W.Looks (model prog w) h (typeLookup (.ref C) "__init__") (some (.ref fI)))
    (hb : ∀ self, W.Looks (model prog w) h (bindSpecial (.ref fI) self) (.ref fI, [self]))
    (hrest : rest.length ≤ sizeLine)
    (hq : codeAny (model prog w) (A.under (.builtin "type.__call__" ⟨.ref C :: rest, kw⟩))
      (.call (.ref fI) ⟨.ref (h.objs.size + 1) :: rest, kw⟩) (W.InitBack (h.objs.size + 1) R)
      ⟨(h.push (W.kdv_tup rest)).push (excO C h.objs.size), g, d, t, os⟩) :
    codeAny (model prog w) A (.call (.ref C) ⟨rest, kw⟩) R ⟨h, g, d, t, os⟩ := by
  have f1 := tc_lookup
  have f2 := tc_bind (.ref C)
  have hTy : (⟨h, g, d, t, os⟩ : Shared).TypeIs (.ref C) "type" := ⟨_, hC, rfl⟩
  refine codeAny_of_tree ?_
  show wpAny _ _ (callAny (.ref C) _) _ _ _
  repeat (any_goals (first
    | assumption
    | with_reducible refine wpAny_loadPart_at hC ?_
    | wp_step))
  refine ⟨rfl, ?_⟩
  refine codeAny_call_builtin_at (Code.quiet_builtin _ (by decide +kernel)) entry_typeCall
    (wpAny_check_type_call_sub hC (type_call F hT hC hi hb hrest ?_))
  refine codeAny_mono hq fun r s' z => ?_
  match r, z with
  | .error e, z => exact z
  | .ok (.ret v), z => exact z
  | .ok .next, z => exact z
  | .ok .brk, z => exact z
  | .ok .cont, z => exact z
end
end GLX
end PySem

/-! G4: errors that are held as values: made, their field read, isinstance. -/
namespace PySem.W
open PySem PySem.Spec PySem.Calls PyProof.Rows
section
variable {prog : Program} {w : World} {A : Around} {E : Value → Shared → Prop} {s : Shared} {K : Frag}
variable {x D : Addr} {ox : Obj}
/-- what isinstance asks of the class of an error -/
structure ErrC (K : Frag) (D : Addr) : Prop where
  ga : findIn K (.ref D) "__getattribute__" = some (some (.builtin "BaseException.__getattribute__"))
  gt : findIn K (.ref D) "__getattr__" = some none
  sub : subIn K (.ref D) (.type "BaseException") = some true
  dct : hasDictIn K D = true
  cls : findIn K (.ref D) "__class__" = some (some (.builtin "object.__class__"))
  get : specialIn K (.builtin "object.__class__") "__get__" =
    some (some (.builtin "getset_descriptor.__get__"))
  tak : takesIn K (.builtin "object.__class__") = some true
  mro : mroIn K D (.type "object") = some true

theorem cls_of_err {od : Option Obj} {Q : Option Value → Shared → Prop} (C : ErrC K D) (X : K.In s.heap)
    (I : InstAt s.heap x ox D od) (hf : findObj K D od "__class__" =
      some (.bind (.builtin "getset_descriptor.__get__") (.builtin "object.__class__")))
    (h : Q (some (.ref D)) { s with toks := s.toks + 1 }) :
    wpAny (model prog w) A (getAttr? (.ref x) "__class__") Q E s := by
  obtain ⟨hp, g, d, t, os⟩ := s
  have l0 := I.type (M := model prog w)
  have l1 := looks_findIn (M := model prog w) X C.ga
  have l2 := looks_findIn (M := model prog w) X C.gt
  have l3 := looks_find (M := model prog w) X I hf
  have isb : Looks (model prog w) hp (isInstance (.ref x) (.type "BaseException")) true :=
    l0.andThen (looks_subIn X C.sub)
  have ne : (Value.builtin "BaseException.__getattribute__" ==
    Value.builtin "object.__getattribute__") = false := by decide +kernel
  have fst : (onTheHeap (Value.ref D) && Value.builtin "BaseException.__getattribute__" ==
      Value.builtin "object.__getattribute__") = false := by rw [ne]; rfl
  unfold getAttr? getAttrBy? getAttrBy
  refine wpAny_bind (wpAny_mkText (wpAny_bind (wpAny_attempt (wpAny_holding ?_))))
  refine wpAny_bind (l0.at (wpAny_bind (l1.at ?_)))
  show wpAny _ _ (if (onTheHeap (Value.ref D) &&
    Value.builtin "BaseException.__getattribute__" ==
      Value.builtin "object.__getattribute__") = true then _ else _) _ _ _
  rw [fst, if_neg Bool.false_ne_true]
  unfold getAttrByItsOwn hookBefore
  refine wpAny_bind ?_
  rw [if_pos (show onTheHeap (Value.ref D) = true from rfl)]
  refine l2.at ?_
  refine wpAny_bind (wpAny_attempt (wpAny_holding ?_))
  unfold callGetattribute
  rw [show (false && onTheHeap (Value.builtin "BaseException.__getattribute__")) = false from rfl,
    if_neg Bool.false_ne_true]
  unfold boundAndCalled
  rw [PySem.F.excAttr_ValueError.ga.bind (.ref x)]
  refine wpAny_bind (wpAny_pure ?_)
  show wpAny _ _ (call (.builtin "BaseException.__getattribute__")
    [.ref x, .str "__class__" t]) _ _ _
  refine wpAny_call (codeAny_call_builtin PySem.F.excAttr_ValueError.ga.plain
    PySem.F.entry_bexc_ga ?_)
  refine @check_slot (model prog w) _ _ ⟨hp, g, d, t + 1, os⟩ "BaseException.__getattribute__"
    "BaseException" "__getattribute__" (.ref x) [.str "__class__" t] [] _ (by decide +kernel)
    (by decide +kernel) isb (PySem.F.args_bexc_ga (.ref x) (.str "__class__" t)) ?_
  unfold Builtin.«object.__getattribute__»
  refine wpAny_bind (wpAny_of_eq (a := ((Value.ref x : Value), [Value.str "__class__" t])) ?_ ?_)
  · first
      | rfl
      | (simp only [slotArgs]; rfl)
  refine wpAny_bind (wpAny_pure (wpAny_bind (l0.at (wpAny_bind (l3.at ?_)))))
  show wpAny _ _ (holding [Value.builtin "object.__class__"]
    (call (.builtin "getset_descriptor.__get__")
      [.builtin "object.__class__", .ref x, .ref D]) >>= ret) _ _ _
  refine wpAny_bind (wpAny_holding (wpAny_call
    (class_get (s := ⟨hp, g, d, t + 1, os⟩) (ox := ox) (od := od) X I C.mro ?_)))
  refine wpAny_pure ?_
  show wpAny _ _ (handedOut (.ref D)) _ _ _
  rw [handedOut_of (v := .ref D) rfl]
  first
    | exact wpAny_pure (wpAny_pure h)
    | exact wpAny_pure h
    | exact wpAny_pure (wpAny_bind (wpAny_pure (wpAny_pure h)))

theorem cls_there {D : Addr} (h : hasDictIn K D = true) :
    ∃ c d cd sl, K.lookup D = some ⟨c, d, .cls cd, sl⟩ := by
  obtain ⟨cd, hc, _⟩ := any_some h
  unfold clsIn at hc
  split at hc
  · exact ⟨_, _, _, _, by assumption⟩
  · cases hc
/-- the kit of isinstance for an error that has its dict -/
theorem kit_err {od : Obj} (C : ErrC K D) : KitX K (.ref x) (.ref D) (fun h => InstAt h x ox D (some od)) where
  ty := fun _ _ _ I => I.type
  it := fun _ _ X _ => by
    obtain ⟨c, d, cd, sl, ho⟩ := cls_there C.dct
    intro A' Q' E' s' k q
    unfold isType loadHead
    exact wpAny_bind (wpAny_loadPart (k _ _ (X _ _ ho)) (wpAny_pure q))
  ne := fun h tp dd its n sl X htp => by
    obtain ⟨c, d, cd, sl', ho⟩ := cls_there C.dct
    refine Bool.eq_false_iff.mpr fun q => ?_
    have e : D = tp := Value.ref.inj (beq_iff_eq.mp q)
    subst e
    cases (X _ _ ho).symm.trans htp
  ca := fun X I k => cls_of_err C X I (findObj_data (by
    obtain ⟨cd, hc, _⟩ := any_some C.dct
    rw [hc]; rfl) C.cls C.get C.tak) k
end
end PySem.W

namespace GL
open PySem PySem.Spec PyProof.Rows L2
/-- an error of the class at C with its one field -/
def IsErr (H : Hp) (a C : Addr) (v : V) : Prop :=
  ∃ d, H a = some (exo a C (some d)) ∧ H d = some (exd d [("value", v)])
theorem IsErr.keep {H H' : Hp} {a C : Addr} {v : V} (k : ∀ b o, H b = some o → H' b = some o)
    (h : IsErr H a C v) : IsErr H' a C v := let ⟨d, h1, h2⟩ := h; ⟨d, k _ _ h1, k _ _ h2⟩

section
variable {X : Cx} {pins : List (Addr × Obj)} {σ : L2.St} {H : Hp} {s : Shared} {a C : Addr} {v : V}
theorem err_at {K : PySem.W.Frag} {od : Addr} (hok : HOk X.prog X.w H s.heap)
    (h1 : H a = some (exo a C (some od))) (h2 : H od = some (exd od [("value", v)])) :
    ∃ ox o, PySem.W.InstAt s.heap a ox C (some o) ∧ ∃ u, RelV v u ∧ PySem.W.lookIn "value" o = some (some u) := by
  obtain ⟨t1, e1⟩ := exo_at hok h1
  obtain ⟨mA, hns, hr⟩ := exd_at hok h2
  obtain ⟨o, ho, hl⟩ := lookIn_ns hns
  obtain ⟨u, hu, ru⟩ := RelO.some_of (v := v) (o := mA "value") (hr "value")
  exact ⟨_, o, ⟨e1, rfl, rfl, ho⟩, u, ru, by rw [hl, hu]⟩

/-- the reading of e.value -/
def tErrF (K : PySem.W.Frag) (te : TE) : TE := fun σ H Q => te σ H fun x H1 => ∃ a C v, x = .ref a ∧
  XfC K C ∧ PySem.W.findIn K (.ref C) "value" = some none ∧ IsErr H1 a C v ∧ Q v H1
theorem pe_errF {e : Expr} {te : TE} {pos : Pos} (he : PE X e te)
    (hb : attributeBase e "value" X.env (eval e X.env) = eval e X.env := by rfl) :
    PE X (.Attribute e "value" pos) (tErrF X.K te) := by
  refine ⟨fun pins s σ H Q I h => attr_of hb (thn (he.run pins s σ H _ I h) fun u s1 hh => ?_)⟩
  obtain ⟨x, H1, I1, rx, a, C, v, ex, T, hno, ⟨d, h1, h2⟩, q⟩ := hh
  subst ex
  obtain rfl : u = Value.ref a := rx
  obtain ⟨ox, o, J, y, ry, hl⟩ := err_at (K := X.K) I1.hok h1 h2
  exact HandSPX.exc_get I1.kIn J T.ga T.gg T.exC (PySem.W.findObj_own T.hdC hno rfl hl)
    (handed_of ry) ⟨v, H1, I1.tok _, ry, q⟩

/-- isinstance(e, c) -/
def rIsErr (K : PySem.W.Frag) : List V → Hp → VK → Prop := fun xs H Q => ∃ a D v c cv b, xs = [.ref a, c] ∧
  PySem.W.ErrC K D ∧ IsErr H a D v ∧ ClsV c cv ∧ PySem.W.kitOne K (.ref D) cv = some b ∧ Q (.bl b) H
theorem call_isErr : CallR X (.builtin "isinstance") (rIsErr X.K) := by
  intro pins s σ H xs us Q I r h
  obtain ⟨a, D, v, c, cv, b, rfl, T, ⟨d, h1, h2⟩, k, e, q⟩ := h
  obtain ⟨u1, u2, rfl, r1, r2⟩ := vals2 r
  have e2 := k.eq r2
  subst e2
  obtain rfl : u1 = Value.ref a := r1
  obtain ⟨ox, o, J, _⟩ := err_at (K := X.K) I.hok h1 h2
  exact PySem.W.kia_one (PySem.W.kit_err T) I.kIn J e (fun z => nomatch z)
    fun tk => ⟨.bl b, H, I.tok tk, rfl, q⟩
end

/-! ### an error made -/
section
variable {X : Cx} {k : Nat} {fI C : Addr} {fd : FuncData} {ps ks : List Str} {sp : Sp} {x : Str}
variable {p pos : Pos} {e : Expr} {es : List Expr} {t tk : TA} {kws : List Keyword}
/-- what is known of the class at C and of its __init__ -/
structure ErrMk (K : PySem.W.Frag) (C fI : Addr) : Prop where
  oex : OexC K C
  ini : PySem.W.findIn K (.ref C) "__init__" = some (some (.ref fI))
  fun_ : PySem.W.typeIn K (.ref fI) = some (.type "function")
theorem under_guards {A : Around} {args : Args} (h : A.guards = some []) :
    (A.under (.builtin "type.__call__" args)).guards = some [] := by
  simp [Around.under, Code.guards, Code.isGuard, guardIds, pushGuards, h]

theorem run_err {args : Args} {us : List Value} {vs : List V} {pins : List (Addr × Obj)} {σ : L2.St} {H : Hp}
    {s : Shared} {Q : VK} (M : ErrMk X.K C fI) (F : FnOk X.prog X.w X.K X.mg X.base CX0 k fI fd ps sp)
    (hr : Room (k + 1) X.A) (I : Inv X pins σ H s) (hl : args.pos.length ≤ sizeLine)
    (hb : ∀ (s' : Shared) (a : Value), X.K.In s'.heap →
      BindsTo s' fd ⟨a :: args.pos, args.kw⟩ (ps.zip (a :: us))) (r : Vals vs us)
    (q : ∀ a, H a = none → sp (.ref a :: vs) (upd H a (exo a C none)) (fun v H3 => v = .non ∧ Q (.ref a) H3) E0) :
    wpAny (model X.prog X.w) X.A (call (.ref C) args.pos args.kw) (EP X pins σ Q) X.xe s := by
  obtain ⟨nm, qn, N, bs, bm, sn, sub, ab, col, dd, k0, k1, k2, k3, k5, hC, hbm⟩ := M.oex.cls
  obtain ⟨hp, g, dr, tk, os⟩ := s
  have sz : hp.objs.size ≤ hp.objs.size + 1 := Nat.le_succ _
  have fresh : H (hp.objs.size + 1) = none := I.hok.fresh sz
  have keep : ∀ b o, hp.get? b = some o →
      ((hp.push (PySem.W.kdv_tup args.pos)).push (HandSPX.excO C hp.objs.size)).get? b = some o :=
    fun b o z => Heap.get?_push_of_some _ (Heap.get?_push_of_some _ z)
  have there : ((hp.push (PySem.W.kdv_tup args.pos)).push (HandSPX.excO C hp.objs.size)).get?
      (hp.objs.size + 1) = some (HandSPX.excO C hp.objs.size) := by heap_get
  have J := I.laid (t' := tk) (a := hp.objs.size + 1) (o := exo (hp.objs.size + 1) C none) keep sz (exo_ok there)
  have rr : Vals (V.ref (hp.objs.size + 1) :: vs) (Value.ref (hp.objs.size + 1) :: us) := .cons rfl r
  refine wpAny_call (GLX.call_cls PySem.F.excBase_ValueError (fun Y => HandSPX.refsVE_contains Y bm hbm)
    (I.kIn _ _ hC) (PySem.W.looks_findIn I.kIn M.ini) (fun self => PySem.W.bind_fn I.kIn self M.fun_) hl
    (codeAny_mono (FnOk.run F _ X.stack _ _ ⟨Value.ref (hp.objs.size + 1) :: args.pos, args.kw⟩ _ _ _ _
      (hr.make C args.pos args.kw) (J.env0.make C args.pos args.kw) (hb _ _ J.kIn) rr (q _ fresh)) ?_))
  intro res s' hq
  match res, hq with
  | .error er, hq => exact hq.elim
  | .ok .next, hq => exact hq.elim
  | .ok .brk, hq => exact hq.elim
  | .ok .cont, hq => exact hq.elim
  | .ok (.ret u), hq =>
    obtain ⟨v, H3, J3, rv, ev, q3⟩ := J.after hq
    subst ev
    exact ⟨rv, .ref _, H3, J3, rfl, q3⟩

def tErr (C : Addr) (sp : Sp) (t : TA) : TE := fun σ H Q => t σ H fun vs H1 => vs.length ≤ 1000 ∧
  ∀ a, H1 a = none → sp (.ref a :: vs) (upd H1 a (exo a C none)) (fun v H3 => v = .non ∧ Q (.ref a) H3) E0
/-- C(e, ..) -/
theorem pe_err (M : ErrMk X.K C fI) (F : FnOk X.prog X.w X.K X.mg X.base CX0 k fI fd ps sp)
    (hr : Room (k + 1) X.A) (hg : Gl X x) (hm : X.mg x = some (.ref C)) (hb : Binds X.K fd ps [])
    (ha : PA X (e :: es) t) (hdb : (x == ("__debug__" : Str)) = false := by decide)
    (he : starEach (e :: es) X.env = (false, eval e X.env) :: starEach es X.env := by rfl)
    (hpl : (backTo pos (starEach es X.env)).any (·.1) = false := by rfl) :
    PE X (.Call (.Name x p) (e :: es) [] pos) (tErr C sp t) := by
  refine ⟨fun pins s σ H Q I h => wpAny_Call_Name_kw (ld_glob I hg hm ?_ hdb)⟩
  refine PySem.W.callWith_K (h₀ := X.base) I.ok.mod.kin M.oex.kC ?_ he hpl
  refine thn (ha.run pos pins s σ H _ I h) fun us s1 ⟨vs, H1, I1, r1, hz, q1⟩ => ⟨I1.kIn, ?_⟩
  have hu : us.length ≤ sizeLine := by rw [← r1.length, sizeLine_eq]; omega
  have hfree := I1.hok.fresh (Nat.le_refl _)
  refine run_err (args := ⟨us, []⟩) M F hr I1 hu (fun s' a K' => ?_) r1 q1
  have hl : (a :: us).length = ps.length := by
    have z := F.len _ _ _ _ (q1 _ hfree)
    rw [← z, List.length_cons, List.length_cons, r1.length]
  have y := hb s' (a :: us) K' (by rw [List.append_nil]; exact hl)
  rw [List.append_nil] at y
  exact y
def tErrK (C : Addr) (sp : Sp) (tk : TA) : TE := fun σ H Q => tk σ H fun zs H1 =>
  ∀ a, H1 a = none → sp (.ref a :: zs) (upd H1 a (exo a C none)) (fun v H3 => v = .non ∧ Q (.ref a) H3) E0
/-- C(k = e, ..), all by name, in the parameters' order -/
theorem pe_errK (M : ErrMk X.K C fI) (F : FnOk X.prog X.w X.K X.mg X.base CX0 k fI fd ps sp)
    (hr : Room (k + 1) X.A) (hg : Gl X x) (hm : X.mg x = some (.ref C))
    (hb : ∀ (s : Shared) (a : Value) (ws : List Value), X.K.In s.heap → (a :: ws).length = ps.length →
      BindsTo s fd ⟨[a], ks.zip ws⟩ (ps.zip (a :: ws)))
    (hkw : PK X kws tk)
    (hall : (backToKw pos (keywordEach kws X.env)).all (·.1.isSome) = true := by rfl)
    (hks : (backToKw pos (keywordEach kws X.env)).filterMap (·.1) = ks := by rfl)
    (hdb : (x == ("__debug__" : Str)) = false := by decide)
    (hpl : ((backTo pos (starEach [] X.env)).any (·.1) ||
      (backToKw pos (keywordEach kws X.env)).any (·.1.isNone)) = false := by rfl) :
    PE X (.Call (.Name x p) [] kws pos) (tErrK C sp tk) := by
  refine ⟨fun pins s σ H Q I h => wpAny_Call_Name_kw (ld_glob I hg hm ?_ hdb)⟩
  refine PySem.W.callWith_KW0 (h₀ := X.base) I.ok.mod.kin M.oex.kC hall ?_ hpl
  refine thn (hkw.run pos pins s σ H _ I h) fun ws s1 ⟨zs, H1, I1, r1, q1⟩ => ⟨I1.kIn, ?_⟩
  rw [hks]
  have hfree := I1.hok.fresh (Nat.le_refl _)
  refine run_err (args := ⟨[], ks.zip ws⟩) (us := ws) M F hr I1 (Nat.zero_le _) (fun s' a K' => hb s' a ws K' ?_) r1 q1
  have z := F.len _ _ _ _ (q1 _ hfree)
  rw [← z, List.length_cons, List.length_cons, r1.length]
end
end GL

/-! G5: how deep data is, how long its text; wide integers. -/
namespace GL
open PySem PySem.Spec PyProof.Rows L2

def Nice (n m : Nat) (d : PyData) : Prop := d.showable = true ∧ d.depth ≤ n ∧ d.shown.length ≤ m
theorem Nice.mono {n m n' m' : Nat} {d : PyData} (h : Nice n m d) (a : n ≤ n') (b : m ≤ m') : Nice n' m' d :=
  ⟨h.1, by have := h.2.1; omega, by have := h.2.2; omega⟩
theorem wide10 : (2 : Nat) ^ 1100 ≤ 10 ^ 332 := by
  have h : 2 ^ 1100 ≤ (10 : Nat) ^ 332 := by decide +kernel
  exact h
theorem nice_int {i : Int} (h : i.natAbs < 2 ^ 1100) : Nice 0 340 (.int i) := by
  refine ⟨?_, by simp only [PyData.depth]; omega, ?_⟩
  · have : i.natAbs.log2 < 1920 := PySem.Flt.log2_lt_of (by decide) (Nat.lt_of_lt_of_le h (Nat.pow_le_pow_right (by decide) (by decide)))
    simpa [PyData.showable] using this
  · rw [PyData.shown_int, PySem.ofString_length]
    exact Nat.le_trans (int_text_length_le10 (by decide) (Nat.lt_of_lt_of_le h wide10)) (by decide)
theorem nice_none : Nice 0 340 .none := ⟨by simp [PyData.showable], by simp only [PyData.depth]; omega, by decide +kernel⟩
theorem nice_bool (b : Bool) : Nice 0 340 (.bool b) :=
  ⟨by simp [PyData.showable], by simp only [PyData.depth]; omega, by cases b <;> decide +kernel⟩
theorem nice_all {n m : Nat} : ∀ {ds : List PyData}, (∀ d ∈ ds, Nice n m d) → PyData.showableAll ds = true ∧
    PyData.depthAll ds ≤ n ∧ ((PyData.shownAll ds).map (·.length)).sum ≤ ds.length * m
  | [], _ => ⟨by simp [PyData.showableAll], by simp [PyData.depthAll], by simp [PyData.shownAll]⟩
  | d :: ds, h => by
    obtain ⟨h1, h2, h3⟩ := h d (List.mem_cons_self ..)
    obtain ⟨r1, r2, r3⟩ := nice_all (ds := ds) fun y hy => h y (List.mem_cons_of_mem _ hy)
    refine ⟨by simp [PyData.showableAll, h1, r1], by simp only [PyData.depthAll]; omega, ?_⟩
    simp only [PyData.shownAll, List.map_cons, List.sum_cons, List.length_cons, Nat.add_mul]
    omega
theorem nice_list {n m : Nat} {ds : List PyData} (h : ∀ d ∈ ds, Nice n m d) :
    Nice (n + 1) (ds.length * (m + 2) + 3) (.list ds) := by
  obtain ⟨h1, h2, h3⟩ := nice_all h
  refine ⟨by simpa [PyData.showable] using h1, by simp only [PyData.depth]; omega, ?_⟩
  have := listText_len_le (PyData.shownAll ds)
  rw [PyData.shownAll_length] at this
  simp only [PyData.shown, Nat.mul_add]
  omega
theorem nice_tup {n m : Nat} {ds : List PyData} (h : ∀ d ∈ ds, Nice n m d) :
    Nice (n + 1) (ds.length * (m + 2) + 3) (.tuple ds) := by
  obtain ⟨h1, h2, h3⟩ := nice_all h
  refine ⟨by simpa [PyData.showable] using h1, by simp only [PyData.depth]; omega, ?_⟩
  have := tupleText_len_le (PyData.shownAll ds)
  rw [PyData.shownAll_length] at this
  simp only [PyData.shown, Nat.mul_add]
  omega
/-! ### trees of numbers: of integers below a bound, at most so deep, at most so many beside one another -/
mutual
def treeD (b k : Nat) : Nat → PyData → Prop
  | _, .int i => i.natAbs < b
  | n + 1, .tuple ds => ds.length ≤ k ∧ treesD b k n ds
  | _, _ => False
def treesD (b k : Nat) : Nat → List PyData → Prop
  | _, [] => True
  | n, d :: ds => treeD b k n d ∧ treesD b k n ds
end
end GL

/-! G7: the text (repr) of data, where nothing is known of the place of sys.modules. -/
namespace GL
open PySem PySem.Spec PyProof.Rows L2
section
variable {P : Program} {w : World} {H : Hp} {h : Heap}

/-- the text of an object that stands at a: within others, and by itself -/
def TextAt (P : Program) (w : World) (h : Heap) (a : Addr) (d : PyData) : Prop :=
  (∃ bs, ReadAtMost h d.depth bs ∧ ReprK P w bs h d.depth (.ref a) d.shown) ∧
  ∃ T idr, SlotG T "__repr__" idr ∧
    (∀ s : Shared, (∀ b o, h.get? b = some o → s.heap.get? b = some o) → s.TypeIs (.ref a) T) ∧
    ∀ (A : Around) (E : Value → Shared → Prop) (s : Shared) (Q : Value → Shared → Prop), A.guards = some [] →
      A.units + d.depth < cLine → (∀ b o, h.get? b = some o → s.heap.get? b = some o) →
      (∀ h' u tk, (∀ b o, s.heap.get? b = some o → h'.get? b = some o) →
        Q (.str d.shown u) { s with heap := h', toks := tk }) →
      wpAny (model P w) A (call (.builtin idr) [.ref a]) Q E s

theorem textAt_lst {a : Addr} {o : Obj} {l : List Value} {n : Nat} {ds : List PyData} {as bs : List Addr}
    (hg : h.get? a = some o) (hc : o.cls = .type "list") (hd : o.data = .seq l.toArray n)
    (r : ReadsAll h l ds as) (hb : ReadAtMost h (PyData.depthAll ds) bs)
    (hk : ReprAllK P w bs h (PyData.depthAll ds) l (PyData.shownAll ds))
    (hz : (listText (PyData.shownAll ds)).length ≤ sizeLine) : TextAt P w h a (.list ds) := by
  have rr : Reads h (.ref a) (.list ds) (a :: as) := Reads.list hg hc hd (by simpa using r)
  have far : a ∉ bs := not_mem_of_deeper rr (by rw [PyData.depth]; omega) hb
  have up : ReadAtMost h (PyData.list ds).depth (a :: bs) :=
    ReadAtMost.cons rr (by rw [PyData.depth]; omega) hb
  cases l with
  | nil =>
    cases r
    have et : (PyData.list []).shown = ("[]" : Str) := by rw [PyData.shown, PyData.shownAll, listText_nil]
    refine ⟨⟨_, up, ?_⟩, "list", "list.__repr__", F.slot_list_repr.toG, fun s kp => ⟨o, kp _ _ hg, hc⟩, ?_⟩
    · rw [et]; exact ReprK.listEmpty hg hc hd
    · intro A E s Q _ _ kp q
      rw [et] at q
      exact call_list_repr_empty ⟨o, kp _ _ hg, hc⟩ (kp _ _ hg) hd (q s.heap _ _ fun _ _ z => z)
  | cons v l =>
    have len : (PyData.shownAll ds).length = (v :: l).toArray.size := by
      rw [hk.length_eq, List.size_toArray]
    have item : ∀ (i : Nat) (y : Value), (v :: l).toArray[i]? = some y →
        ∃ t, (PyData.shownAll ds)[i]? = some t ∧ ReprK P w bs h (PyData.depthAll ds) y t :=
      fun i y e => hk.item i y (by simpa using e)
    refine ⟨⟨_, up, ?_⟩, "list", "list.__repr__", F.slot_list_repr.toG, fun s kp => ⟨o, kp _ _ hg, hc⟩, ?_⟩
    · rw [PyData.depth, PyData.shown]; exact ReprK.list hg hc hd far len item
    · intro A E s Q gu un kp q
      rw [PyData.shown] at q
      rw [PyData.depth] at un
      exact call_list_reprK hg hc hd far len item gu (fun b _ => Clear.nil b) un kp q hz

theorem textAt_tup {a : Addr} {o : Obj} {l : List Value} {n : Nat} {ds : List PyData} {as bs : List Addr}
    (hg : h.get? a = some o) (hc : o.cls = .type "tuple") (hd : o.data = .seq l.toArray n)
    (r : ReadsAll h l ds as) (hb : ReadAtMost h (PyData.depthAll ds) bs)
    (hk : ReprAllK P w bs h (PyData.depthAll ds) l (PyData.shownAll ds))
    (hz : (tupleText (PyData.shownAll ds)).length ≤ sizeLine) : TextAt P w h a (.tuple ds) := by
  have rr : Reads h (.ref a) (.tuple ds) as := Reads.tuple hg hc hd (by simpa using r)
  have far : a ∉ bs := not_mem_of_deeper rr (by rw [PyData.depth]; omega) hb
  have up : ReadAtMost h (PyData.tuple ds).depth (a :: bs) :=
    ReadAtMost.cons rr (by rw [PyData.depth]; omega) hb
  have hk' : ReprAllK P w bs h (PyData.depthAll ds) l.toArray.toList (PyData.shownAll ds) := by simpa using hk
  refine ⟨⟨_, up, ?_⟩, "tuple", "tuple.__repr__", F.slot_tuple_repr, fun s kp => ⟨o, kp _ _ hg, hc⟩, ?_⟩
  · rw [PyData.depth, PyData.shown]; exact ReprK.tuple hg hc hd far hk'
  · intro A E s Q gu un kp q
    rw [PyData.shown] at q
    rw [PyData.depth] at un
    exact call_tuple_reprK hg hc hd far hk' gu (fun b _ => Clear.nil b) un kp q hz

theorem textAt_dct {a : Addr} {o : Obj} {es : Array DictEntry} {n : Nat} {kvs : List (PyData × PyData)}
    {as₁ as₂ b1 b2 : List Addr}
    (hg : h.get? a = some o) (hc : o.cls = .type "dict") (hd : o.data = .dict es n) (far0 : (a == sysModules) = false)
    (r1 : ReadsAll h (es.toList.map (·.key)) (kvs.map (·.1)) as₁)
    (r2 : ReadsAll h (es.toList.map (·.val)) (kvs.map (·.2)) as₂)
    (hb1 : ReadAtMost h (PyData.depthAll (kvs.map (·.1))) b1) (hb2 : ReadAtMost h (PyData.depthAll (kvs.map (·.2))) b2)
    (k1 : ReprAllK P w b1 h (PyData.depthAll (kvs.map (·.1))) (es.toList.map (·.key)) (PyData.shownAll (kvs.map (·.1))))
    (k2 : ReprAllK P w b2 h (PyData.depthAll (kvs.map (·.2))) (es.toList.map (·.val)) (PyData.shownAll (kvs.map (·.2))))
    (hz : (dictText (PyData.shownKv kvs)).length ≤ sizeLine) : TextAt P w h a (.dict kvs) := by
  have rr : Reads h (.ref a) (.dict kvs) (a :: as₁ ++ as₂) := Reads.dict hg hc hd r1 r2
  have hb : ReadAtMost h (PyData.depthKv kvs) (b1 ++ b2) :=
    ReadAtMost.append (hb1.mono (PyData.depthAll_keys_le kvs)) (hb2.mono (PyData.depthAll_vals_le kvs))
  have far : a ∉ b1 ++ b2 := not_mem_of_deeper rr (by rw [PyData.depth]; omega) hb
  have up : ReadAtMost h (PyData.dict kvs).depth (a :: (b1 ++ b2)) :=
    ReadAtMost.cons rr (by rw [PyData.depth]; omega) hb
  have ent := ReprEntriesK.of_two es.toList _ _
    (k1.more_le (as' := b1 ++ b2) (fun b m => List.mem_append_left _ m) (PyData.depthAll_keys_le kvs))
    (k2.more_le (as' := b1 ++ b2) (fun b m => List.mem_append_right _ m) (PyData.depthAll_vals_le kvs))
  rw [← PyData.shownKv_eq] at ent
  refine ⟨⟨_, up, ?_⟩, "dict", "dict.__repr__", F.slot_dict_repr, fun s kp => ⟨o, kp _ _ hg, hc⟩, ?_⟩
  · rw [PyData.depth, PyData.shown]; exact ReprK.dict hg hc hd far0 far ent
  · intro A E s Q gu un kp q
    rw [PyData.shown] at q
    rw [PyData.depth] at un
    exact call_dict_reprK hg hc hd far0 far ent gu (fun b _ => Clear.nil b) un kp q hz

theorem shownAll_mem {ds : List PyData} {d : PyData} (m : d ∈ ds) : d.shown ∈ PyData.shownAll ds := by
  induction ds with
  | nil => cases m
  | cons x xs ih =>
    rw [PyData.shownAll]
    rcases List.mem_cons.mp m with e | e
    · rw [e]; exact List.mem_cons_self ..
    · exact List.mem_cons_of_mem _ (ih e)

mutual
theorem RD.texts (ok : HOk P w H h) : ∀ {v : V} {d : PyData} {u : Value}, RD H v d → RelV v u →
    d.showable = true → d.shown.length ≤ sizeLine →
    ∃ as bs, Reads h u d as ∧ ReadAtMost h d.depth bs ∧ ReprK P w bs h d.depth u d.shown ∧
      ∀ a, u = .ref a → TextAt P w h a d
  | _, _, _, .non, r, _, _ => by
    cases (show _ = Value.none from r)
    exact ⟨_, [], .none, (fun _ m => nomatch m), by rw [PyData.shown]; exact .of_is ReprIs.none _ _ _, fun _ e => (nomatch e)⟩
  | _, _, _, .bl b, r, _, _ => by
    cases (show _ = Value.bool b from r)
    exact ⟨_, [], .bool b, (fun _ m => nomatch m), by rw [PyData.shown]; exact .of_is (ReprIs.bool b) _ _ _, fun _ e => (nomatch e)⟩
  | _, _, _, .int i, r, hs, _ => by
    obtain ⟨t, e⟩ := (show ∃ t, _ = Value.int i t from r)
    subst e
    exact ⟨_, [], .int i t, (fun _ m => nomatch m),
      by rw [PyData.shown]; exact .of_is (ReprIs.int t (by simpa [PyData.showable] using hs)) _ _ _, fun _ e => (nomatch e)⟩
  | _, _, _, .str x, r, _, hz => by
    obtain ⟨t, e⟩ := (show ∃ t, _ = Value.str x t from r)
    subst e
    exact ⟨_, [], .str x t, (fun _ m => nomatch m),
      by rw [PyData.shown]; exact .of_is (ReprIs.str x t (by simpa only [PyData.shown] using hz)) _ _ _, fun _ e => (nomatch e)⟩
  | _, _, _, .lst (a := a) e rs, r, hs, hz => by
    cases (show _ = Value.ref a from r)
    rw [PyData.shown] at hz
    obtain ⟨_, its, n, rv, hg⟩ := (ok a _ e : ObjOk P w H h a (.lst _))
    obtain ⟨as, bs, h1, h2, h3⟩ := RDs.texts ok rs rv (by simpa [PyData.showable] using hs)
      fun d m => Nat.le_trans (listText_mem_le (shownAll_mem m)) hz
    have t := textAt_lst hg rfl rfl h1 h2 h3 hz
    obtain ⟨⟨cs, c1, c2⟩, _⟩ := id t
    exact ⟨_, cs, Reads.list hg rfl rfl (by simpa using h1), c1, c2, fun b q => by cases q; exact t⟩
  | _, _, _, .tup (a := a) e rs, r, hs, hz => by
    cases (show _ = Value.ref a from r)
    rw [PyData.shown] at hz
    obtain ⟨_, its, rv, o, hg, hc, n, hd⟩ := (ok a _ e : ObjOk P w H h a (.tup _))
    obtain ⟨as, bs, h1, h2, h3⟩ := RDs.texts ok rs rv (by simpa [PyData.showable] using hs)
      fun d m => Nat.le_trans (tupleText_mem_le (shownAll_mem m)) hz
    have t := textAt_tup hg hc hd h1 h2 h3 hz
    obtain ⟨⟨cs, c1, c2⟩, _⟩ := id t
    exact ⟨_, cs, Reads.tuple hg hc hd (by simpa using h1), c1, c2, fun b q => by cases q; exact t⟩
  | _, _, _, .dct (a := a) (kvs := kvs) (ds := ds) e rs, r, hs, hz => by
    cases (show _ = Value.ref a from r)
    rw [PyData.shown] at hz
    obtain ⟨_, hy, vs, kv, o, es, ep, hg, hx, hd, _, hp, _⟩ := (ok a _ e : ObjOk P w H h a (.dK kvs))
    have hl := RDs.length rs
    obtain ⟨q1, q2⟩ := PyData.showableKv_split (kvD kvs ds) (by simpa [PyData.showable] using hs)
    rw [kvD_snd kvs ds hl] at q2
    obtain ⟨as, bs, h1, h2, h3⟩ := RDs.texts ok rs (vals_of_KV kv) q2 fun d m => by
      obtain ⟨p, hp', le⟩ := PyData.shownKv_val_le (kvD kvs ds) d.shown
        (by rw [kvD_snd kvs ds hl]; exact shownAll_mem m)
      exact Nat.le_trans le (Nat.le_trans (dictText_mem_le hp') hz)
    obtain ⟨k1, k2⟩ := reads_keys (h := h) hp kv
    rw [← kvD_fst kvs ds hl] at k1
    obtain ⟨cs, c1, c2⟩ := ReprAllK.of_readsAll (prog := P) (w := w) k1 q1 (fun _ m => nomatch m) fun t ht => by
      obtain ⟨p, hp', le⟩ := PyData.shownKv_key_le (kvD kvs ds) t ht
      exact Nat.le_trans le (Nat.le_trans (dictText_mem_le hp') hz)
    rw [← k2, ← kvD_snd kvs ds hl] at h1
    rw [← kvD_snd kvs ds hl] at h2
    rw [← k2, ← kvD_snd kvs ds hl] at h3
    have t := textAt_dct hg hx.1 hd hy k1 h1 c1 h2 c2 h3 hz
    obtain ⟨⟨cs, z1, z2⟩, _⟩ := id t
    exact ⟨_, cs, Reads.dict hg hx.1 hd k1 h1, z1, z2, fun b q => by cases q; exact t⟩
theorem RDs.texts (ok : HOk P w H h) : ∀ {vs : List V} {ds : List PyData} {us : List Value}, RDs H vs ds → Vals vs us →
    PyData.showableAll ds = true → (∀ d ∈ ds, d.shown.length ≤ sizeLine) →
    ∃ as bs, ReadsAll h us ds as ∧ ReadAtMost h (PyData.depthAll ds) bs ∧
      ReprAllK P w bs h (PyData.depthAll ds) us (PyData.shownAll ds)
  | _, _, _, .nil, .nil, _, _ => ⟨_, [], .nil, (fun _ m => nomatch m), by rw [PyData.shownAll]; exact .nil⟩
  | _, _, _, .cons (d := d) (ds := ds) a b, .cons r t, hs, hz => by
    have hs' : d.showable = true ∧ PyData.showableAll ds = true := by simpa [PyData.showableAll] using hs
    obtain ⟨as1, b1, q1, q2, q3, _⟩ := RD.texts ok a r hs'.1 (hz _ (List.mem_cons_self ..))
    obtain ⟨as2, b2, p1, p2, p3⟩ := RDs.texts ok b t hs'.2 fun d m => hz d (List.mem_cons_of_mem _ m)
    have l1 : d.depth ≤ PyData.depthAll (d :: ds) := by rw [PyData.depthAll]; exact Nat.le_max_left _ _
    have l2 : PyData.depthAll ds ≤ PyData.depthAll (d :: ds) := by rw [PyData.depthAll]; exact Nat.le_max_right _ _
    refine ⟨_, b1 ++ b2, .cons q1 p1, ReadAtMost.append (q2.mono l1) (p2.mono l2), ?_⟩
    rw [PyData.shownAll]
    exact .cons ((q3.more fun b m => List.mem_append_left _ m).level_le l1)
      (p3.more_le (fun b m => List.mem_append_right _ m) l2)
end
end

theorem call_reprD {X : Cx} (hg : X.A.guards = some []) (hu : X.A.units + 150 < cLine) :
    CallR X (.builtin "repr") rRepr := by
  intro pins s σ H xs us Q I r h
  obtain ⟨v, d, rfl, rd, hsh, hdp, hsz, q⟩ := h
  obtain ⟨u, rfl, rv⟩ := vals1 r
  obtain ⟨_, _, _, _, _, big⟩ := RD.texts I.hok rd rv hsh hsz
  have fin : ∀ a : Addr, u = .ref a →
      wpAny (model X.prog X.w) X.A (call (.builtin "repr") [u]) (EP X pins σ Q) X.xe s := by
    intro a e
    subst e
    obtain ⟨_, T, idr, sl, ty, run⟩ := big a rfl
    refine call_repr_slot (by omega) (ty s fun _ _ z => z) sl
      (run X.A.in1 _ s _ hg (by show X.A.units + 1 + d.depth < cLine; omega) (fun _ _ z => z) fun h' tu tk hk => ⟨_, _, rfl, ?_⟩)
    exact ⟨.str d.shown, H, I.kept hk, ⟨tu, rfl⟩, q⟩
  cases rd with
  | non =>
    cases (show u = Value.none from rv)
    rw [PyData.shown_none] at q
    exact PySem.P.repr_of_none ⟨.str _, H, I.tok _, ⟨_, rfl⟩, q⟩
  | bl b =>
    cases (show u = Value.bool b from rv)
    refine PySem.P.repr_of_bool ⟨.str _, H, I.tok _, ⟨_, rfl⟩, ?_⟩
    rw [PyData.shown_bool] at q
    cases b <;> exact q
  | int i =>
    obtain ⟨t, rfl⟩ := (show ∃ t, u = Value.int i t from rv)
    refine PySem.P.repr_of_int (by simpa [PyData.showable] using hsh) ⟨.str _, H, I.tok _, ⟨_, rfl⟩, ?_⟩
    rw [PyData.shown_int] at q
    exact q
  | str x =>
    obtain ⟨t, rfl⟩ := (show ∃ t, u = Value.str x t from rv)
    rw [PyData.shown_str] at q hsz
    exact PySem.P.repr_of_str ⟨.str _, H, I.tok _, ⟨_, rfl⟩, q⟩ hsz
  | lst e rs => exact fin _ rv
  | tup e rs => exact fin _ rv
  | dct e rs => exact fin _ rv
end GL

/-! Z0: zip of one to five tuples of one length, at the library's level. -/
namespace ZZ
open PySem
open PySem.Sem (wp)
abbrev zipO (f0 f1 : Value) (TI TO : Addr) : Obj :=
  { cls := .type "zip", dict := none, data := .fields #[f0, f1, .bool false, .ref TI, .ref TO], slots := #[] }
abbrev tupO (xs : List Value) : Obj := { cls := .type "tuple", data := .seq xs.toArray }

/-- the records of a zip, i items behind the first -/
structure Zs (h : Heap) (z TI TO : Addr) (its ls : List Addr) (rows : List (List Value)) (i : Nat) (f0 f1 : Value) : Prop where
  z : h.get? z = some (zipO f0 f1 TI TO)
  ti : h.get? TI = some (tupO (its.map Value.ref))
  to : ∃ arr : List Value, arr.length = its.length ∧ h.get? TO = some (tupO arr)
  it : ∀ (j : Nat) (a l : Addr), its[j]? = some a → ls[j]? = some l → h.IsTupleIter a l i
  ln : ∀ (j : Nat) (l : Addr) (r : List Value), ls[j]? = some l → rows[j]? = some r → h.IsTuple l r.toArray
/-- they are apart -/
structure Far (z TI TO : Addr) (its ls : List Addr) : Prop where
  TIz : TI ≠ z
  TOz : TO ≠ z
  TIO : TI ≠ TO
  itz : ∀ a ∈ its, a ≠ z ∧ a ≠ TI ∧ a ≠ TO
  lz : ∀ l ∈ ls, l ≠ z ∧ l ≠ TO ∧ l ∉ its
  nd : its.Nodup

section
variable {prog : Program} {w : World} {A : Around} {E : Value → Shared → Prop} {s : Shared}

theorem own_free {z TI TO : Addr} {f0 f1 : Value} {Q : Bool → Shared → Prop} (hz : s.heap.get? z = some (zipO f0 f1 TI TO))
    (hf : f0 = .none ∨ ∃ T : Addr, f0 = rawInt T)
    (h1 : Q true s)
    (h2 : ∀ h' f1', h'.get? z = some (zipO f0 f1' TI TO) → Heap.SameBut z s.heap h' → Q false { s with heap := h' }) :
    wpAny (model prog w) A (Builtin.SmallTypes.ownedTupleIsFree (.ref z)) Q E s := by
  unfold Builtin.SmallTypes.ownedTupleIsFree
  rcases hf with rfl | ⟨T, rfl⟩
  · exact wpAny_bind (wpAny_field hz rfl (x := .none) rfl (wpAny_pure h1))
  · refine wpAny_bind (wpAny_field hz rfl (x := rawInt T) rfl ?_)
    show wpAny _ _ (loadIfAlive (T : Int).toNat >>= _) _ _ _
    show wpAny _ _ (if (s.heap.get? (T : Int).toNat).isNone = true then _ else _) _ _ _
    split
    · exact wpAny_pure h1
    · refine wpAny_bind (wpAny_field hz rfl (x := f1) rfl ?_)
      split
      · refine wpAny_bind (wpAny_setField_rec hz (by simp) fun h' hz' hs' => ?_)
        exact wpAny_pure (h2 h' (.bool true) hz' hs')
      · exact wpAny_pure (h2 s.heap f1 hz ⟨rfl, fun _ _ => rfl⟩)

/-- j iterators have been drawn -/
structure Dr (h0 h : Heap) (z TI TO : Addr) (its ls : List Addr) (rows : List (List Value)) (i j : Nat) : Prop where
  ti : h.get? TI = some (tupO (its.map Value.ref))
  it : ∀ (k : Nat) (a l : Addr), its[k]? = some a → ls[k]? = some l → h.IsTupleIter a l (if k < j then i + 1 else i)
  ln : ∀ (k : Nat) (l : Addr) (r : List Value), ls[k]? = some l → rows[k]? = some r → h.IsTuple l r.toArray
  up : ∀ c o, c ≠ z → c ≠ TO → c ∉ its → h0.get? c = some o → h.get? c = some o
  sz : h.objs.size = h0.objs.size

theorem Dr.drawn {h0 h h' : Heap} {z TI TO : Addr} {its ls : List Addr} {rows : List (List Value)} {i j : Nat} {a l : Addr}
    (Fa : Far z TI TO its ls) (D : Dr h0 h z TI TO its ls rows i j) (ha : its[j]? = some a) (hl : ls[j]? = some l)
    (hi : h'.IsTupleIter a l (i + 1)) (hs : Heap.SameBut a h h') : Dr h0 h' z TI TO its ls rows i (j + 1) where
  ti := hs.extBut _ _ (Ne.symm (Fa.itz a (List.mem_of_getElem? ha)).2.1) D.ti
  it := fun k b m hb hm => by
    by_cases e : k = j
    · subst e
      rw [ha] at hb; cases hb
      rw [hl] at hm; cases hm
      rw [if_pos (Nat.lt_succ_self k)]
      exact hi
    · have nb : b ≠ a := fun z => by
        subst z
        obtain ⟨q1, q2⟩ := List.getElem?_eq_some_iff.mp hb
        obtain ⟨q3, q4⟩ := List.getElem?_eq_some_iff.mp ha
        rcases Nat.lt_trichotomy k j with x | x | x
        · exact List.pairwise_iff_getElem.mp Fa.nd k j q1 q3 x (q2.trans q4.symm)
        · exact e x
        · exact List.pairwise_iff_getElem.mp Fa.nd j k q3 q1 x (q4.trans q2.symm)
      have q := (D.it k b m hb hm).extBut hs.extBut nb
      have e2 : (if k < j + 1 then i + 1 else i) = (if k < j then i + 1 else i) := by
        by_cases x : k < j
        · rw [if_pos x, if_pos (Nat.lt_succ_of_lt x)]
        · rw [if_neg x, if_neg (fun y => x (Nat.lt_of_le_of_ne (Nat.le_of_lt_succ y) e))]
      rw [e2]
      exact q
  ln := fun k m r hm hr => (D.ln k m r hm hr).extBut hs.extBut fun z =>
    (Fa.lz m (List.mem_of_getElem? hm)).2.2 (z ▸ List.mem_of_getElem? ha)
  up := fun c o c1 c2 c3 e => hs.extBut _ _ (fun z => c3 (z ▸ List.mem_of_getElem? ha)) (D.up c o c1 c2 c3 e)
  sz := hs.1.trans D.sz

/-- another record of the zip has turned -/
theorem Dr.other {h0 h h' : Heap} {z TI TO b : Addr} {its ls : List Addr} {rows : List (List Value)} {i j : Nat}
    (Fa : Far z TI TO its ls) (D : Dr h0 h z TI TO its ls rows i j) (hb : b = z ∨ b = TO) (hs : Heap.SameBut b h h') :
    Dr h0 h' z TI TO its ls rows i j where
  ti := hs.extBut _ _ (hb.elim (fun e => e ▸ Fa.TIz) (fun e => e ▸ Fa.TIO)) D.ti
  it := fun k a l ha hl => (D.it k a l ha hl).extBut hs.extBut (by
    have q := Fa.itz a (List.mem_of_getElem? ha)
    rcases hb with rfl | rfl
    · exact q.1
    · exact q.2.2)
  ln := fun k l r hl hr => (D.ln k l r hl hr).extBut hs.extBut (by
    have q := Fa.lz l (List.mem_of_getElem? hl)
    rcases hb with rfl | rfl
    · exact q.1
    · exact q.2.1)
  up := fun c o c1 c2 c3 e => hs.extBut _ _ (hb.elim (fun e => e ▸ c1) fun e => e ▸ c2) (D.up c o c1 c2 c3 e)
  sz := hs.1.trans D.sz

/-- where a column stands -/
def Col (rows : List (List Value)) (i : Nat) (xs : List Value) : Prop :=
  xs.length = rows.length ∧ ∀ (j : Nat) (r : List Value), rows[j]? = some r → ∃ x, r[i]? = some x ∧ xs[j]? = some x

theorem idx_at {α : Type} {l : List α} {j : Nat} {p : α × Nat} (h : l.zipIdx[j]? = some p) : l[j]? = some p.1 ∧ p.2 = j := by
  rw [List.getElem?_zipIdx] at h
  obtain ⟨a, e, rfl⟩ := Option.map_eq_some_iff.mp h
  exact ⟨e, by simp⟩

/-- a loop by its number of turns -/
theorem turns {M : Model} {α β : Type} {l : List α} {b : β} (f : α → β → Sem (ForInStep β)) (I : Nat → β → Shared → Prop) (Q : β → Shared → Prop)
    (turn : ∀ j x b s, l[j]? = some x → I j b s → wpAny M A (f x b) (fun r s' => ∃ b', r = .yield b' ∧ I (j + 1) b' s') E s)
    (h : I 0 b s) (fin : ∀ b s, I l.length b s → Q b s) : wpAny M A (forIn l b f) Q E s := by
  refine wpAny_forIn_list f (fun rest b s => ∃ j, rest = l.drop j ∧ j ≤ l.length ∧ I j b s) Q ?_ ?_ l b ⟨0, rfl, Nat.zero_le _, h⟩
  · rintro x rest b s ⟨j, e, hj, hI⟩
    have hx : l[j]? = some x := by
      have q : (l.drop j)[0]? = some x := by rw [← e]; rfl
      simpa using q
    have hlt := (List.getElem?_eq_some_iff.mp hx).1
    refine wpAny_mono (turn j x b s hx hI) (fun r s' ⟨b', e', hI'⟩ => ?_) fun _ _ q => q
    subst e'
    refine ⟨j + 1, ?_, hlt, hI'⟩
    have : rest = (l.drop j).drop 1 := by rw [← e]; rfl
    rw [this, List.drop_drop]
  · rintro b s ⟨j, e, hj, hI⟩
    have : j = l.length := by
      have q := congrArg List.length e
      rw [List.length_drop, List.length_nil] at q
      omega
    subst this
    exact fin b s hI

theorem zip_item {z TI TO : Addr} {its ls : List Addr} {rows : List (List Value)} {i : Nat} {f0 f1 : Value} {xs : List Value} {Q : Value → Shared → Prop}
    (Fa : Far z TI TO its ls) (Z : Zs s.heap z TI TO its ls rows i f0 f1) (hf : f0 = .none ∨ ∃ T : Addr, f0 = rawInt T)
    (hn : its ≠ []) (hls : ls.length = its.length) (hrs : rows.length = its.length) (hm : its.length ≤ 5) (hc : Col rows i xs)
    (hQ : ∀ h' g0 g1, Zs h' z TI TO its ls rows (i + 1) g0 g1 → (g0 = .none ∨ ∃ T : Addr, g0 = rawInt T) →
      h'.get? s.heap.objs.size = some (tupO xs) → h'.objs.size = s.heap.objs.size + 1 →
      (∀ c o, c ≠ z → c ≠ TO → c ∉ its → s.heap.get? c = some o → h'.get? c = some o) →
      Q (.ref s.heap.objs.size) { s with heap := h' }) :
    wpAny (model prog w) A (Builtin.«zip.__next__» ⟨[.ref z], []⟩) (fun fin s' => ∃ v, fin = .done (.ret v) ∧ Q v s') E s := by
  show wpAny _ _ (field (.ref z) 2 >>= _) _ _ _
  refine wpAny_bind (wpAny_field Z.z rfl (x := .bool false) rfl ?_)
  show wpAny _ _ (field (.ref z) 3 >>= _) _ _ _
  refine wpAny_bind (wpAny_field Z.z rfl (x := .ref TI) rfl ?_)
  refine wpAny_bind (wpAny_seqItems Z.ti rfl ?_)
  have ne : (its.map Value.ref).toArray.isEmpty = false := by
    cases its with
    | nil => exact absurd rfl hn
    | cons a r => simp
  simp only [ne, Bool.false_eq_true, if_false]
  have at3 : ∀ {j : Nat}, j < its.length → ∃ a l r x, its[j]? = some a ∧ ls[j]? = some l ∧ rows[j]? = some r ∧ r[i]? = some x ∧ xs[j]? = some x := fun {j} hj => by
    have q1 := List.getElem?_eq_getElem (l := rows) (i := j) (by omega)
    obtain ⟨x, x1, x2⟩ := hc.2 j _ q1
    exact ⟨_, _, _, x, List.getElem?_eq_getElem hj, List.getElem?_eq_getElem (by omega), q1, x1, x2⟩
  have hxl : xs.length = its.length := hc.1.trans hrs
  refine wpAny_bind (own_free Z.z hf ?_ fun h1 f1' hz1 hs1 => ?_)
  · simp only [if_true]
    refine wpAny_bind (wpAny_rule ?_)
    refine wpAny_bind (wpAny_field Z.z rfl (x := .ref TO) rfl ?_)
    refine wpAny_bind (wpAny_setField_rec Z.z (by simp) fun h1 hz1 hs1 => ?_)
    replace hz1 : h1.get? z = some (zipO .ellipsis f1 TI TO) := hz1
    have D0 : Dr s.heap s.heap z TI TO its ls rows i 0 := ⟨Z.ti, fun k a l ha hl => Z.it k a l ha hl, Z.ln, fun _ _ _ _ _ e => e, rfl⟩
    refine wpAny_bind ?_
    refine turns _ (fun j b s' => ∃ h' arr, s' = { s with heap := h' } ∧ b = (none, ()) ∧ Dr s.heap h' z TI TO its ls rows i j ∧
      h'.get? z = some (zipO .ellipsis f1 TI TO) ∧ arr.length = its.length ∧ h'.get? TO = some (tupO arr) ∧ ∀ k, k < j → arr[k]? = xs[k]?) _ ?_ ?_ ?_
    · rintro j ⟨v, k⟩ b s' hj ⟨h', arr, rfl, rfl, D, hz', ha, hTO, hk⟩
      obtain ⟨e1, e2⟩ := idx_at hj
      dsimp only at e1 e2
      subst e2
      have hlt : k < its.length := by
        have q := (List.getElem?_eq_some_iff.mp e1).1
        simpa using q
      obtain ⟨a, l, r, x, p1, p2, p3, p4, p5⟩ := at3 hlt
      have ev : v = .ref a := by
        have q : (its.map Value.ref)[k]? = some v := by simpa using e1
        rw [List.getElem?_map, p1] at q
        exact (Option.some.inj q).symm
      subst ev
      have hit : h'.IsTupleIter a l i := by simpa using D.it k a l p1 p2
      refine wpAny_bind (wpAny_onRaise ?_)
      show wpAny _ _ (Builtin.SmallTypes.nextOf (.ref a) >>= _) _ _ _
      refine wpAny_bind (RZ.nextOf_tuple_item hit (D.ln k l r p2 p3) (x := x) (by simpa using p4) fun h2 hi2 hs2 => wpAny_pure ?_)
      have nTO : TO ≠ a := fun e => (Fa.itz a (List.mem_of_getElem? p1)).2.2 e.symm
      have nz : z ≠ a := fun e => (Fa.itz a (List.mem_of_getElem? p1)).1 e.symm
      have hTO2 : h2.get? TO = some (tupO arr) := hs2.extBut _ _ nTO hTO
      refine wpAny_bind (wpAny_seqItems hTO2 rfl ?_)
      refine wpAny_bind (wpAny_updateSeq hTO2 rfl ?_ (by rw [List.size_toArray, ha]; exact Nat.le_trans hm (by decide)) (by
        show (arr.toArray.setIfInBounds k x).size ≤ sizeLine + 1
        rw [Array.size_setIfInBounds, List.size_toArray, ha]; exact Nat.le_trans hm (by decide)))
      refine wpAny_bind (wpAny_letGo (wpAny_pure ⟨_, rfl, _, arr.set k x, rfl, rfl, ?_, ?_, ?_, ?_, ?_⟩))
      · exact (D.drawn Fa p1 p2 hi2 hs2).other Fa (.inr rfl) (Heap.SameBut.update ..)
      · exact (Heap.SameBut.update ..).extBut _ _ Fa.TOz.symm (hs2.extBut _ _ nz hz')
      · rw [List.length_set]; exact ha
      · rw [Heap.get?_update_self _ hTO2 rfl]
        simp [Obj.mapSeq]
      · intro m hm'
        by_cases e : k = m
        · subst e
          rw [List.getElem?_set_self (by omega), p5]
        · rw [List.getElem?_set_ne e]
          exact hk m (by omega)
    · obtain ⟨arr, a1, a2⟩ := Z.to
      exact ⟨h1, arr, rfl, rfl, D0.other Fa (.inl rfl) hs1, hz1, a1, hs1.extBut _ _ Fa.TOz a2, fun k hk => absurd hk (Nat.not_lt_zero k)⟩
    · rintro b s' ⟨h', arr, rfl, rfl, D, hz', ha, hTO, hk⟩
      have len : ((its.map Value.ref).toArray.toList.zipIdx).length = its.length := by simp
      rw [len] at D hk
      have ex : arr = xs := List.ext_getElem? fun k => by
        by_cases q : k < its.length
        · exact hk k q
        · rw [List.getElem?_eq_none (by omega), List.getElem?_eq_none (by omega)]
      subst ex
      refine wpAny_bind (wpAny_seqItems hTO rfl ?_)
      refine wpAny_bind (wpAny_newTuple ?_ (by simp; rw [ha]; exact Nat.le_trans hm (by decide)))
      unfold Builtin.SmallTypes.ownedTupleHandOut
      have hz2 : (h'.push { cls := .type "tuple", data := .seq arr.toArray.toList.toArray }).get? z = some (zipO .ellipsis f1 TI TO) := Heap.get?_push_of_some _ hz'
      refine wpAny_bind (wpAny_bind (wpAny_setField_rec hz2 (by simp) fun h3 hz3 hs3 => ?_))
      refine wpAny_setField_rec hz3 (by simp) fun h4 hz4 hs4 => ?_
      have nsz : h'.objs.size ≠ z := Nat.ne_of_gt (Heap.lt_size hz')
      have up : ∀ c o, c ≠ z → h'.get? c = some o → h4.get? c = some o := fun c o c1 e =>
        hs4.extBut _ _ c1 (hs3.extBut _ _ c1 (Heap.get?_push_of_some _ e))
      have new : h4.get? h'.objs.size = some (tupO arr) := hs4.extBut _ _ nsz (hs3.extBut _ _ nsz (by
        have := Heap.get?_push_size h' (o := tupO arr) rfl
        simpa using this))
      have sz4 : h4.objs.size = h'.objs.size + 1 := by rw [hs4.1, hs3.1, Heap.size_push]
      refine wpAny_pure ⟨_, rfl, ?_⟩
      show Q (.ref h'.objs.size) _
      rw [D.sz] at new sz4 ⊢
      refine hQ h4 _ _ ⟨hz4, up _ _ Fa.TIz D.ti, ⟨arr, ha, up _ _ Fa.TOz hTO⟩, fun j a l q1 q2 => ?_, fun j l r q1 q2 => ?_⟩ (.inr ⟨s.heap.objs.size, by rw [← D.sz]⟩) new sz4
        fun c o c1 c2 c3 e => up c o c1 (D.up c o c1 c2 c3 e)
      · have q := D.it j a l q1 q2
        rw [if_pos (List.getElem?_eq_some_iff.mp q1).1] at q
        exact q.at fun o e => up _ o (Fa.itz a (List.mem_of_getElem? q1)).1 e
      · exact (D.ln j l r q1 q2).at fun o e => up _ o (Fa.lz l (List.mem_of_getElem? q1)).1 e
  · simp only [Bool.false_eq_true, if_false]
    have D0 : Dr s.heap h1 z TI TO its ls rows i 0 :=
      Dr.other Fa ⟨Z.ti, fun k a l ha hl => Z.it k a l ha hl, Z.ln, fun _ _ _ _ _ e => e, rfl⟩ (.inl rfl) hs1
    obtain ⟨arr0, b1, b2⟩ := Z.to
    have hTO1 : h1.get? TO = some (tupO arr0) := hs1.extBut _ _ Fa.TOz b2
    refine wpAny_bind ?_
    rw [← Array.forIn_toList]
    refine turns _ (fun j b s' => ∃ h', s' = { s with heap := h' } ∧ b = (none, (xs.take j).toArray) ∧ Dr s.heap h' z TI TO its ls rows i j ∧
      h'.get? z = some (zipO f0 f1' TI TO) ∧ h'.get? TO = some (tupO arr0)) _ ?_ ?_ ?_
    · rintro k v b s' hj ⟨h', rfl, rfl, D, hz', hTO⟩
      have hlt : k < its.length := by
        have q := (List.getElem?_eq_some_iff.mp hj).1
        simpa using q
      obtain ⟨a, l, r, x, p1, p2, p3, p4, p5⟩ := at3 hlt
      have ev : v = .ref a := by
        have q : (its.map Value.ref)[k]? = some v := by simpa using hj
        rw [List.getElem?_map, p1] at q
        exact (Option.some.inj q).symm
      subst ev
      have hit : h'.IsTupleIter a l i := by simpa using D.it k a l p1 p2
      refine wpAny_bind (wpAny_holding ?_)
      show wpAny _ _ (Builtin.SmallTypes.nextOf (.ref a) >>= _) _ _ _
      refine wpAny_bind (RZ.nextOf_tuple_item hit (D.ln k l r p2 p3) (x := x) (by simpa using p4) fun h2 hi2 hs2 => wpAny_pure ?_)
      have nTO : TO ≠ a := fun e => (Fa.itz a (List.mem_of_getElem? p1)).2.2 e.symm
      have nz : z ≠ a := fun e => (Fa.itz a (List.mem_of_getElem? p1)).1 e.symm
      refine wpAny_pure ⟨_, rfl, h2, rfl, ?_, D.drawn Fa p1 p2 hi2 hs2, hs2.extBut _ _ nz hz', hs2.extBut _ _ nTO hTO⟩
      show (none, ((xs.take k).toArray).push x) = _
      rw [List.push_toArray, List.take_add_one, p5]
      rfl
    · exact ⟨h1, rfl, rfl, D0, hz1, hTO1⟩
    · rintro b s' ⟨h', rfl, rfl, D, hz', hTO⟩
      have len : ((its.map Value.ref).toArray.toList).length = its.length := by simp
      rw [len] at D ⊢
      have ex : xs.take its.length = xs := List.take_of_length_le (by omega)
      rw [ex]
      refine wpAny_bind (wpAny_newTuple ?_ (by simp; rw [hxl]; exact Nat.le_trans hm (by decide)))
      refine wpAny_pure ⟨_, rfl, ?_⟩
      have nsz : h'.objs.size ≠ z := Nat.ne_of_gt (Heap.lt_size hz')
      have up : ∀ c o, h'.get? c = some o → (h'.push { cls := .type "tuple", data := .seq xs.toArray.toList.toArray }).get? c = some o := fun c o e =>
        Heap.get?_push_of_some _ e
      have new : (h'.push { cls := .type "tuple", data := .seq xs.toArray.toList.toArray }).get? h'.objs.size = some (tupO xs) := by
        have := Heap.get?_push_size h' (o := tupO xs) rfl
        simpa using this
      have sz4 : (h'.push { cls := .type "tuple", data := .seq xs.toArray.toList.toArray }).objs.size = h'.objs.size + 1 := by rw [Heap.size_push]
      show Q (.ref h'.objs.size) _
      rw [D.sz] at new sz4 ⊢
      refine hQ _ f0 f1' ⟨up _ _ hz', up _ _ D.ti, ⟨arr0, b1, up _ _ hTO⟩, fun j a l q1 q2 => ?_, fun j l r q1 q2 => ?_⟩ hf new sz4
        fun c o c1 c2 c3 e => up c o (D.up c o c1 c2 c3 e)
      · have q := D.it j a l q1 q2
        rw [if_pos (List.getElem?_eq_some_iff.mp q1).1] at q
        exact q.at fun o e => up _ o e
      · exact (D.ln j l r q1 q2).at fun o e => up _ o e

theorem zip_end {z TI TO : Addr} {its ls : List Addr} {rows : List (List Value)} {i : Nat} {f0 f1 : Value} {Q : PySem.Fin → Shared → Prop} (hh : A.handled = none)
    (Fa : Far z TI TO its ls) (Z : Zs s.heap z TI TO its ls rows i f0 f1) (hf : f0 = .none ∨ ∃ T : Addr, f0 = rawInt T)
    (hn : its ≠ []) (hls : ls.length = its.length) (hrs : rows.length = its.length) (hc : ∀ r ∈ rows, r.length ≤ i)
    (hE : ∀ h' e, (∀ c o, c ≠ z → c ≠ TO → c ∉ its → s.heap.get? c = some o → h'.get? c = some o) →
      (∃ o, h'.get? e = some o ∧ o.cls = .type "StopIteration") → E (.ref e) { s with heap := h' }) :
    wpAny (model prog w) A (Builtin.«zip.__next__» ⟨[.ref z], []⟩) Q E s := by
  obtain ⟨a, its', rfl⟩ : ∃ a r, its = a :: r := by
    cases its with
    | nil => exact absurd rfl hn
    | cons a r => exact ⟨a, r, rfl⟩
  obtain ⟨l, ls', rfl⟩ : ∃ a r, ls = a :: r := by
    cases ls with
    | nil => cases hls
    | cons a r => exact ⟨a, r, rfl⟩
  obtain ⟨r, rows', rfl⟩ : ∃ a r, rows = a :: r := by
    cases rows with
    | nil => cases hrs
    | cons a r => exact ⟨a, r, rfl⟩
  have hr : r.toArray[i]? = none := by
    have := hc r (List.mem_cons_self ..)
    simpa using this
  have hit := Z.it 0 a l rfl rfl
  have hln := Z.ln 0 l r rfl rfl
  have na := Fa.itz a (List.mem_cons_self ..)
  have nl := Fa.lz l (List.mem_cons_self ..)
  show wpAny _ _ (field (.ref z) 2 >>= _) _ _ _
  refine wpAny_bind (wpAny_field Z.z rfl (x := .bool false) rfl ?_)
  show wpAny _ _ (field (.ref z) 3 >>= _) _ _ _
  refine wpAny_bind (wpAny_field Z.z rfl (x := .ref TI) rfl ?_)
  refine wpAny_bind (wpAny_seqItems Z.ti rfl ?_)
  have ne : (((a :: its').map Value.ref).toArray).isEmpty = false := by simp
  simp only [ne, Bool.false_eq_true, if_false]
  refine wpAny_bind (own_free Z.z hf ?_ fun h1 f1' hz1 hs1 => ?_)
  · simp only [if_true]
    refine wpAny_bind (wpAny_rule ?_)
    refine wpAny_bind (wpAny_field Z.z rfl (x := .ref TO) rfl ?_)
    refine wpAny_bind (wpAny_setField_rec Z.z (by simp) fun h1 hz1 hs1 => ?_)
    replace hz1 : h1.get? z = some (zipO .ellipsis f1 TI TO) := hz1
    refine wpAny_bind ?_
    simp only [List.map_cons, List.zipIdx_cons, List.forIn_cons]
    refine wpAny_bind (wpAny_bind (wpAny_onRaise ?_))
    show wpAny _ _ (Builtin.SmallTypes.nextOf (.ref a) >>= _) _ _ _
    refine wpAny_bind (RZ.nextOf_tuple_end hh (hit.extBut hs1.extBut na.1) (hln.extBut hs1.extBut nl.1) hr fun h2 e hs2 he => ?_)
    obtain ⟨oe, hoe, hce⟩ := he
    have hz2 : h2.get? z = some (zipO .ellipsis f1 TI TO) := hs2 _ _ (Ne.symm na.1) hz1
    have hez : e ≠ z := fun x => by
      subst x
      rw [hz2] at hoe
      cases hoe
      simp at hce
    refine wpAny_setField_rec hz2 (by simp) fun h3 _ hs3 => hE h3 e (fun c o c1 _ c3 x => hs3.extBut _ _ c1 (hs2 _ _ (fun q => c3 (q ▸ List.mem_cons_self ..)) (hs1.extBut _ _ c1 x)))
      ⟨oe, hs3.extBut _ _ hez hoe, hce⟩
  · simp only [Bool.false_eq_true, if_false]
    refine wpAny_bind ?_
    rw [← Array.forIn_toList]
    simp only [List.map_cons, List.forIn_cons]
    refine wpAny_bind (wpAny_bind (wpAny_holding ?_))
    show wpAny _ _ (Builtin.SmallTypes.nextOf (.ref a) >>= _) _ _ _
    refine wpAny_bind (RZ.nextOf_tuple_end hh (hit.extBut hs1.extBut na.1) (hln.extBut hs1.extBut nl.1) hr fun h2 e hs2 he => ?_)
    exact hE h2 e (fun c o c1 _ c3 x => hs2 _ _ (fun q => c3 (q ▸ List.mem_cons_self ..)) (hs1.extBut _ _ c1 x)) he

theorem next_item {z TI TO : Addr} {its ls : List Addr} {rows : List (List Value)} {i : Nat} {f0 f1 : Value} {xs : List Value} {Q : Option Value → Shared → Prop}
    (Fa : Far z TI TO its ls) (Z : Zs s.heap z TI TO its ls rows i f0 f1) (hf : f0 = .none ∨ ∃ T : Addr, f0 = rawInt T)
    (hn : its ≠ []) (hls : ls.length = its.length) (hrs : rows.length = its.length) (hm : its.length ≤ 5) (hc : Col rows i xs)
    (hQ : ∀ h' g0 g1, Zs h' z TI TO its ls rows (i + 1) g0 g1 → (g0 = .none ∨ ∃ T : Addr, g0 = rawInt T) →
      h'.get? s.heap.objs.size = some (tupO xs) → h'.objs.size = s.heap.objs.size + 1 →
      (∀ c o, c ≠ z → c ≠ TO → c ∉ its → s.heap.get? c = some o → h'.get? c = some o) →
      Q (some (.ref s.heap.objs.size)) { s with heap := h' }) :
    wpAny (model prog w) A (pyNext (.ref z)) Q E s := by
  have hT : s.TypeIs (.ref z) "zip" := ⟨_, Z.z, rfl⟩
  unfold pyNext
  exact wpAny_bind (wpAny_attempt (wpAny_callSpecial?_slot (name := Str.ofString "__next__") hT F.slot_zip_next
    (wpAny_call_entry F.slot_zip_next hT F.entry_zip_next
      (zip_item Fa Z hf hn hls hrs hm hc fun h' g0 g1 a1 a2 a3 a4 a5 => wpAny_pure (hQ h' g0 g1 a1 a2 a3 a4 a5)) (F.args_zip_next_1 _))))

theorem next_end {z TI TO : Addr} {its ls : List Addr} {rows : List (List Value)} {i : Nat} {f0 f1 : Value} {Q : Option Value → Shared → Prop} (hh : A.handled = none)
    (Fa : Far z TI TO its ls) (Z : Zs s.heap z TI TO its ls rows i f0 f1) (hf : f0 = .none ∨ ∃ T : Addr, f0 = rawInt T)
    (hn : its ≠ []) (hls : ls.length = its.length) (hrs : rows.length = its.length) (hc : ∀ r ∈ rows, r.length ≤ i)
    (hQ : ∀ h', (∀ c o, c ≠ z → c ≠ TO → c ∉ its → s.heap.get? c = some o → h'.get? c = some o) → Q none { s with heap := h' }) :
    wpAny (model prog w) A (pyNext (.ref z)) Q E s := by
  have hT : s.TypeIs (.ref z) "zip" := ⟨_, Z.z, rfl⟩
  unfold pyNext
  refine wpAny_bind (wpAny_attempt (wpAny_callSpecial?_slot (name := Str.ofString "__next__") hT F.slot_zip_next
    (wpAny_call_entry F.slot_zip_next hT F.entry_zip_next (zip_end hh Fa Z hf hn hls hrs hc fun h' e hk he => ?_) (F.args_zip_next_1 _))))
  obtain ⟨o, ho, hc⟩ := he
  refine wpAny_bind (wpAny_isInstance (T := "StopIteration") (b := true) ⟨o, ho, hc⟩ isSubtype_stop ?_)
  exact wpAny_pure (hQ _ hk)
end
end ZZ

/-! Z1: zip(*rows) made; collected by tuple(..). -/
namespace ZZ
open PySem
open PySem.Sem (wp)

theorem tc_zip : ∀ xs : List Value, xs ≠ [] → xs.length ≤ 5 → checkTypeCall "zip" ⟨xs, []⟩ = pure ()
  | [], h, _ => absurd rfl h
  | [a], _, _ => by kernel_rfl
  | [a, b], _, _ => by kernel_rfl
  | [a, b, c], _, _ => by kernel_rfl
  | [a, b, c, d], _, _ => by kernel_rfl
  | [a, b, c, d, e], _, _ => by kernel_rfl
  | a :: b :: c :: d :: e :: f :: r, _, h => by simp at h
theorem nc_zip : ∀ xs : List Value, xs ≠ [] → xs.length ≤ 5 → checkBuiltinCall "zip.__new__" ⟨.type "zip" :: xs, []⟩ = pure ()
  | [], h, _ => absurd rfl h
  | [a], _, _ => by kernel_rfl
  | [a, b], _, _ => by kernel_rfl
  | [a, b, c], _, _ => by kernel_rfl
  | [a, b, c, d], _, _ => by kernel_rfl
  | [a, b, c, d, e], _, _ => by kernel_rfl
  | a :: b :: c :: d :: e :: f :: r, _, h => by simp at h
theorem ai_zip (o : Value) : ∀ xs : List Value, xs ≠ [] → xs.length ≤ 5 → argsOk "object.__init__" ⟨o :: xs, []⟩
  | [], h, _ => absurd rfl h
  | [a], _, _ => by unfold argsOk; rw [signature?_of (id := "object.__init__") (n := ['_', '_', 't', 'i', 'n', 'i', '_', '_']) (o := ['t', 'c', 'e', 'j', 'b', 'o']) (by kernel_rfl) F.owner_object]; kernel_rfl
  | [a, b], _, _ => by unfold argsOk; rw [signature?_of (id := "object.__init__") (n := ['_', '_', 't', 'i', 'n', 'i', '_', '_']) (o := ['t', 'c', 'e', 'j', 'b', 'o']) (by kernel_rfl) F.owner_object]; kernel_rfl
  | [a, b, c], _, _ => by unfold argsOk; rw [signature?_of (id := "object.__init__") (n := ['_', '_', 't', 'i', 'n', 'i', '_', '_']) (o := ['t', 'c', 'e', 'j', 'b', 'o']) (by kernel_rfl) F.owner_object]; kernel_rfl
  | [a, b, c, d], _, _ => by unfold argsOk; rw [signature?_of (id := "object.__init__") (n := ['_', '_', 't', 'i', 'n', 'i', '_', '_']) (o := ['t', 'c', 'e', 'j', 'b', 'o']) (by kernel_rfl) F.owner_object]; kernel_rfl
  | [a, b, c, d, e], _, _ => by unfold argsOk; rw [signature?_of (id := "object.__init__") (n := ['_', '_', 't', 'i', 'n', 'i', '_', '_']) (o := ['t', 'c', 'e', 'j', 'b', 'o']) (by kernel_rfl) F.owner_object]; kernel_rfl
  | a :: b :: c :: d :: e :: f :: r, _, h => by simp at h

/-- where the iterators stand -/
def itsFrom (n k : Nat) : List Addr := (List.range k).map (n + ·)
theorem itsFrom_get {n k j : Nat} {a : Addr} (h : (itsFrom n k)[j]? = some a) : a = n + j ∧ j < k := by
  unfold itsFrom at h
  rw [List.getElem?_map] at h
  obtain ⟨b, e, rfl⟩ := Option.map_eq_some_iff.mp h
  obtain ⟨q1, q2⟩ := List.getElem?_eq_some_iff.mp e
  have q3 : j < k := by simpa using q1
  exact ⟨by rw [← q2]; simp, q3⟩
theorem itsFrom_mem {n k : Nat} {a : Addr} (h : a ∈ itsFrom n k) : n ≤ a ∧ a < n + k := by
  obtain ⟨j, e⟩ := List.mem_iff_getElem?.mp h
  obtain ⟨e2, q⟩ := itsFrom_get e
  subst e2
  exact ⟨Nat.le_add_right .., Nat.add_lt_add_left q n⟩
theorem itsFrom_len (n k : Nat) : (itsFrom n k).length = k := by simp [itsFrom]
theorem itsFrom_nodup (n k : Nat) : (itsFrom n k).Nodup := by
  unfold itsFrom
  refine List.Pairwise.map _ (fun a b h => ?_) List.nodup_range
  intro e
  exact h (Nat.add_left_cancel (show n + a = n + b from e))

section
variable {prog : Program} {w : World} {A : Around} {E : Value → Shared → Prop} {s : Shared}
theorem iter_all {ls : List Addr} {Q : List Value → Shared → Prop} (hl : ∀ l ∈ ls, ∃ items, s.heap.IsTuple l items)
    (hQ : ∀ h', h'.objs.size = s.heap.objs.size + ls.length → (∀ c o, s.heap.get? c = some o → h'.get? c = some o) →
      (∀ (j : Nat) (l : Addr), ls[j]? = some l → h'.IsTupleIter (s.heap.objs.size + j) l 0) →
      Q ((itsFrom s.heap.objs.size ls.length).map Value.ref) { s with heap := h' }) :
    wpAny (model prog w) A (Builtin.SmallTypes.iterAll (ls.map Value.ref)) Q E s := by
  unfold Builtin.SmallTypes.iterAll
  refine wpAny_bind ?_
  refine turns _ (fun j b s' => ∃ h', s' = { s with heap := h' } ∧ b = ((itsFrom s.heap.objs.size j).map Value.ref).toArray ∧
    h'.objs.size = s.heap.objs.size + j ∧ (∀ c o, s.heap.get? c = some o → h'.get? c = some o) ∧
    ∀ (k : Nat) (l : Addr), k < j → ls[k]? = some l → h'.IsTupleIter (s.heap.objs.size + k) l 0) _ ?_ ?_ ?_
  · rintro j v b s' hj ⟨h', rfl, rfl, hsz, hk, hi⟩
    rw [List.getElem?_map] at hj
    obtain ⟨l, hlj, rfl⟩ := Option.map_eq_some_iff.mp hj
    obtain ⟨items, ht⟩ := hl l (List.mem_of_getElem? hlj)
    have ht' : h'.IsTuple l items := ht.at fun o e => hk _ o e
    refine wpAny_bind (wpAny_holding (wpAny_pyIter_tuple (s := { s with heap := h' }) ht' (wpAny_pure ⟨_, rfl, _, rfl, ?_, ?_, fun c o e => Heap.get?_push_of_some _ (hk c o e), ?_⟩)))
    · show (_ : Array Value).push _ = _
      rw [List.push_toArray]
      congr 1
      show _ = (itsFrom s.heap.objs.size (j + 1)).map Value.ref
      unfold itsFrom
      rw [List.range_succ, List.map_append, List.map_append, hsz]
      rfl
    · rw [Heap.size_push, hsz]; rfl
    · intro k m hkm hm
      by_cases e : k < j
      · exact (hi k m e hm).at fun o q => Heap.get?_push_of_some _ q
      · have : k = j := by omega
        subst this
        rw [hlj] at hm; cases hm
        have g := Heap.get?_push_size h' (o := { cls := .type "tuple_iterator", data := .fields #[.ref l, .int 0 0] }) rfl
        rw [hsz] at g
        exact ⟨_, g, rfl, rfl⟩
  · exact ⟨s.heap, rfl, rfl, rfl, fun _ _ e => e, fun k _ h => absurd h (Nat.not_lt_zero k)⟩
  · rintro b s' ⟨h', rfl, rfl, hsz, hk, hi⟩
    rw [List.length_map] at hsz hi
    refine wpAny_pure ?_
    rw [List.length_map]
    show Q (((itsFrom s.heap.objs.size ls.length).map Value.ref).toArray).toList _
    rw [List.toList_toArray]
    exact hQ h' hsz hk fun j l e => hi j l (List.getElem?_eq_some_iff.mp e).1 e
end

/-- what stands when a zip has been made -/
structure Made (h0 h : Heap) (ls : List Addr) : Prop where
  z : h.get? (h0.objs.size + ls.length + 2) = some (zipO .none (.bool false) (h0.objs.size + ls.length) (h0.objs.size + ls.length + 1))
  ti : h.get? (h0.objs.size + ls.length) = some (tupO ((itsFrom h0.objs.size ls.length).map Value.ref))
  to : h.get? (h0.objs.size + ls.length + 1) = some (tupO (((itsFrom h0.objs.size ls.length).map Value.ref).map fun _ => Value.none))
  it : ∀ (j : Nat) (l : Addr), ls[j]? = some l → h.IsTupleIter (h0.objs.size + j) l 0
  up : ∀ c o, h0.get? c = some o → h.get? c = some o
  sz : h.objs.size = h0.objs.size + ls.length + 3

theorem meets_zip (ls : List Addr) (hm : ls.length ≤ 5) :
    Meets (Builtin.«zip.__new__» ⟨.type "zip" :: ls.map Value.ref, []⟩) (fun _ R s => (∀ l ∈ ls, ∃ items, s.heap.IsTuple l items) ∧
      ∀ h', Made s.heap h' ls → R (.ok (.ret (.ref (s.heap.objs.size + ls.length + 2)))) { s with heap := h' }) :=
  .of_wp fun prog w A R s h => by
    obtain ⟨hp, g, d, tk, os⟩ := s; obtain ⟨hl, h⟩ := h
    have hsub := sub_zip
    wp_walk using iter_all hl
    intro h' hsz hk hi
    have le : ∀ x : List Value, x.length = ls.length → x.length ≤ sizeLine := fun x e => by rw [e]; exact Nat.le_trans hm (by decide)
    refine wpAny_bind (wpAny_newTuple ?_ (le _ (by rw [List.length_map, itsFrom_len])))
    refine wpAny_bind (wpAny_newTuple ?_ (le _ (by rw [List.length_map, List.length_map, itsFrom_len])))
    refine wpAny_bind (m := Builtin.SmallTypes.newRecord _ _) ?_
    unfold Builtin.SmallTypes.newRecord
    refine wpAny_newObj_type ?_ (show 5 ≤ sizeLine + 2 by decide)
    refine wpAny_pure ⟨_, rfl, ?_⟩
    have hsz' : h'.objs.size = hp.objs.size + ls.length := hsz
    have fin : ∀ h1 h2 h3 : Heap, h1 = h'.push (tupO ((itsFrom hp.objs.size ls.length).map Value.ref)) →
        h2 = h1.push (tupO (((itsFrom hp.objs.size ls.length).map Value.ref).map fun _ => Value.none)) →
        h3 = h2.push (zipO .none (.bool false) h'.objs.size h1.objs.size) →
        R (.ok (.ret (.ref h2.objs.size))) { heap := h3, gens := g, drawn := d, toks := tk, os := os } := by
      intro h1 h2 h3 e1 e2 e3
      have z1 : h1.objs.size = h'.objs.size + 1 := by rw [e1, Heap.size_push]
      have z2 : h2.objs.size = h'.objs.size + 2 := by rw [e2, Heap.size_push, z1]
      have z3 : h3.objs.size = h'.objs.size + 3 := by rw [e3, Heap.size_push, z2]
      have g0 : h1.get? h'.objs.size = some (tupO ((itsFrom hp.objs.size ls.length).map Value.ref)) := by
        rw [e1]; exact Heap.get?_push_size _ rfl
      have g1 : h2.get? h1.objs.size = some (tupO (((itsFrom hp.objs.size ls.length).map Value.ref).map fun _ => Value.none)) := by
        rw [e2]; exact Heap.get?_push_size _ rfl
      have g2 : h3.get? h2.objs.size = some (zipO .none (.bool false) h'.objs.size h1.objs.size) := by
        rw [e3]; exact Heap.get?_push_size _ rfl
      have u2 : ∀ c o, h1.get? c = some o → h2.get? c = some o := fun c o e => by rw [e2]; exact Heap.get?_push_of_some _ e
      have u3 : ∀ c o, h2.get? c = some o → h3.get? c = some o := fun c o e => by rw [e3]; exact Heap.get?_push_of_some _ e
      have u1 : ∀ c o, h'.get? c = some o → h1.get? c = some o := fun c o e => by rw [e1]; exact Heap.get?_push_of_some _ e
      have m : Made hp h3 ls := by
        refine ⟨?_, ?_, ?_, fun j l e => ?_, fun c o e => u3 _ _ (u2 _ _ (u1 _ _ (hk c o e))), ?_⟩
        · rw [z2, z1, hsz'] at g2; exact g2
        · have := u3 _ _ (u2 _ _ g0); rw [hsz'] at this; exact this
        · have := u3 _ _ g1; rw [z1, hsz'] at this; exact this
        · exact (hi j l e).at fun o q => u3 _ _ (u2 _ _ (u1 _ _ q))
        · rw [z3, hsz']
      have := h h3 m
      rw [z2, hsz']
      exact this
    exact fin _ _ _ rfl rfl rfl

section
variable {prog : Program} {w : World} {A : Around} {E : Value → Shared → Prop} {s : Shared}
theorem call_zip {ls : List Addr} {Q : Value → Shared → Prop} (hn : ls ≠ []) (hm : ls.length ≤ 5) (hl : ∀ l ∈ ls, ∃ items, s.heap.IsTuple l items)
    (h : ∀ h', Made s.heap h' ls → Q (.ref (s.heap.objs.size + ls.length + 2)) { s with heap := h' }) :
    wpAny (model prog w) A (call (.type "zip") (ls.map Value.ref)) Q E s := by
  have hn' : ls.map Value.ref ≠ [] := fun e => hn (List.map_eq_nil_iff.mp e)
  have hm' : (ls.map Value.ref).length ≤ 5 := by rw [List.length_map]; exact hm
  exact callType_new F.called_zip (by decide) (tc_zip _ hn' hm') (nc_zip _ hn' hm') (fun obj => ai_zip obj _ hn' hm') F.entry_zip_new
    (meets_zip ls hm) ⟨hl, fun h' m => ⟨⟨_, m.z, rfl⟩, h h' m⟩⟩

theorem Made.zs {h0 h : Heap} {ls : List Addr} {rows : List (List Value)} (m : Made h0 h ls)
    (hl : ∀ (j : Nat) (l : Addr) (r : List Value), ls[j]? = some l → rows[j]? = some r → h0.IsTuple l r.toArray) :
    Zs h (h0.objs.size + ls.length + 2) (h0.objs.size + ls.length) (h0.objs.size + ls.length + 1) (itsFrom h0.objs.size ls.length) ls rows 0 .none (.bool false) where
  z := m.z
  ti := m.ti
  to := ⟨_, by rw [List.length_map, List.length_map], m.to⟩
  it := fun j a l ha hl' => by
    obtain ⟨rfl, _⟩ := itsFrom_get ha
    exact m.it j l hl'
  ln := fun j l r e1 e2 => (hl j l r e1 e2).at fun o e => m.up _ o e
theorem far_of {h0 : Heap} {ls : List Addr} (hl : ∀ l ∈ ls, l < h0.objs.size) :
    Far (h0.objs.size + ls.length + 2) (h0.objs.size + ls.length) (h0.objs.size + ls.length + 1) (itsFrom h0.objs.size ls.length) ls where
  TIz := (show ∀ n k : Nat, n + k ≠ n + k + 2 by intros; omega) _ _
  TOz := (show ∀ n k : Nat, n + k + 1 ≠ n + k + 2 by intros; omega) _ _
  TIO := (show ∀ n k : Nat, n + k ≠ n + k + 1 by intros; omega) _ _
  itz := fun a ha => (show ∀ a n k : Nat, n ≤ a ∧ a < n + k → a ≠ n + k + 2 ∧ a ≠ n + k ∧ a ≠ n + k + 1 by intros; omega) _ _ _ (itsFrom_mem ha)
  lz := fun l m => by
    have q := (show ∀ l n k : Nat, l < n → l ≠ n + k + 2 ∧ l ≠ n + k + 1 by intros; omega) _ _ ls.length (hl l m)
    exact ⟨q.1, q.2, fun x => Nat.not_lt_of_le (itsFrom_mem x).1 (hl l m)⟩
  nd := itsFrom_nodup _ _
end
end ZZ

/-! Z2: tuple(zip(..)). -/
namespace ZZ
open PySem
open PySem.Sem (wp)
theorem zip_no_len : typeLookup (.type "zip") "__len__" = pure none := by rw [typeLookup_type, builtinLookup_eq_fast]; kernel_rfl
theorem zip_no_hint : typeLookup (.type "zip") "__length_hint__" = pure none := by rw [typeLookup_type, builtinLookup_eq_fast]; kernel_rfl

abbrev lstO (acc : Array Value) (c : Nat) : Obj := { cls := .type "list", dict := none, data := .seq acc c, slots := #[] }
/-- what is known of the columns that have been told -/
structure Told (h : Heap) (B : Nat) (cols : Nat → List Value) (ts : List Addr) (i : Nat) : Prop where
  len : ts.length = i
  at_ : ∀ (j : Nat) (t : Addr), ts[j]? = some t → h.get? t = some (tupO (cols j)) ∧ B ≤ t
  nd : ts.Nodup

section
variable {prog : Program} {w : World} {A : Around} {E : Value → Shared → Prop} {s : Shared}
theorem loopZ {R : Result → Shared → Prop} {z TI TO S : Addr} {its ls : List Addr} {rows : List (List Value)} {m B : Nat} {cols : Nat → List Value} {res : Value} {h0 : Heap}
    (hh : A.handled = none) (Fa : Far z TI TO its ls) (hn : its ≠ []) (hls : ls.length = its.length) (hrs : rows.length = its.length) (h5 : its.length ≤ 5)
    (hc : ∀ i, i < m → Col rows i (cols i)) (he : ∀ r ∈ rows, r.length ≤ m) (hm : m ≤ 1000)
    (hS : S ≠ z ∧ S ≠ TO ∧ S ≠ TI ∧ S ∉ its ∧ S ∉ ls) (hB : z < B ∧ TO < B ∧ TI < B ∧ S < B ∧ (∀ a ∈ its, a < B) ∧ ∀ l ∈ ls, l < B)
    (hR : ∀ h' ts c, Told h' B cols ts m → h'.get? S = some (lstO (ts.map Value.ref).toArray c) →
      (∀ c o, c < B → c ≠ S → c ≠ z → c ≠ TO → c ∉ its → h0.get? c = some o → h'.get? c = some o) → R (.ok (.ret res)) { s with heap := h' }) :
    ∀ (k i : Nat) (h : Heap) (ts : List Addr) (f0 f1 : Value), m - i = k → i ≤ m → Zs h z TI TO its ls rows i f0 f1 →
    (f0 = .none ∨ ∃ T : Addr, f0 = rawInt T) → Told h B cols ts i → (∃ c, h.get? S = some (lstO (ts.map Value.ref).toArray c)) → B ≤ h.objs.size →
    (∀ c o, c < B → c ≠ S → c ≠ z → c ≠ TO → c ∉ its → h0.get? c = some o → h.get? c = some o) →
    codeAny (model prog w) A (.builtin "list.extend.loop" ⟨[.ref S, .ref z, res], []⟩) R { s with heap := h } := by
  intro k
  induction k with
  | zero =>
    rintro i h ts f0 f1 hk hi Z hf T ⟨c, hs⟩ hb up
    have hin : i = m := by omega
    subst hin
    refine codeAny_builtin F.entry_extend_loop ?_
    rw [Around.under_plainId F.plain_extend_loop _]
    show wpAny _ A.in1 (pyNext (.ref z) >>= _) _ _ _
    refine wpAny_bind (next_end (A := A.in1) (s := { s with heap := h }) hh Fa Z hf hn hls hrs he fun h' hk' => ?_)
    refine wpAny_pure (hR h' ts c ⟨T.len, fun j t e => ?_, T.nd⟩ (hk' _ _ hS.1 hS.2.1 hS.2.2.2.1 hs) fun c o c1 c2 c3 c4 c5 e => hk' _ _ c3 c4 c5 (up c o c1 c2 c3 c4 c5 e))
    obtain ⟨q1, q2⟩ := T.at_ j t e
    refine ⟨hk' t _ (fun x => ?_) (fun x => ?_) (fun x => ?_) q1, q2⟩
    · subst x; exact Nat.not_lt_of_le q2 hB.1
    · subst x; exact Nat.not_lt_of_le q2 hB.2.1
    · exact Nat.not_lt_of_le q2 (hB.2.2.2.2.1 t x)
  | succ k ih =>
    rintro i h ts f0 f1 hk hi Z hf T ⟨c, hs⟩ hb up
    have hlt : i < m := by omega
    refine codeAny_builtin F.entry_extend_loop ?_
    rw [Around.under_plainId F.plain_extend_loop _]
    show wpAny _ A.in1 (pyNext (.ref z) >>= _) _ _ _
    refine wpAny_bind (next_item (A := A.in1) (s := { s with heap := h }) Fa Z hf hn hls hrs h5 (hc i hlt) fun h' g0 g1 Z' hg new hsz' hk' => ?_)
    have hS' := hk' _ _ hS.1 hS.2.1 hS.2.2.2.1 hs
    show wpAny _ A.in1 (updateSeq S (·.push (.ref h.objs.size)) >>= _) _ _ _
    have sz : (ts.map Value.ref).toArray.size = i := by rw [List.size_toArray, List.length_map, T.len]
    have big : 1001 ≤ sizeLine := by rw [sizeLine_eq]; decide
    have nS : ∀ t : Addr, B ≤ t → t ≠ S := fun t q x => by subst x; exact Nat.not_lt_of_le q hB.2.2.2.1
    have oth : ∀ c o, c ≠ S → h'.get? c = some o → (h'.update S (Obj.mapSeq (·.push (.ref h.objs.size)))).get? c = some o :=
      fun c o hc e => (Heap.get?_update_other _ _ (Ne.symm hc)).trans e
    refine wpAny_bind (wpAny_updateSeq hS' rfl (wpAny_pure ⟨plainId_quiet F.plain_extend_loop _, ih (i + 1) _ (ts ++ [h.objs.size]) g0 g1 (by omega) hlt ?_ hg ?_ ?_ ?_ ?_⟩)
      (by rw [sz]; omega) (by
        show ((ts.map Value.ref).toArray.push _).size ≤ sizeLine + 1
        rw [Array.size_push, sz]; omega))
    · exact ⟨oth _ _ hS.1.symm Z'.z, oth _ _ hS.2.2.1.symm Z'.ti, let ⟨a, b1, b2⟩ := Z'.to; ⟨a, b1, oth _ _ hS.2.1.symm b2⟩,
        fun j a l q1 q2 => (Z'.it j a l q1 q2).at fun o e => oth _ o (fun x => hS.2.2.2.1 (x ▸ List.mem_of_getElem? q1)) e,
        fun j l r q1 q2 => (Z'.ln j l r q1 q2).at fun o e => oth _ o (fun x => hS.2.2.2.2 (x ▸ List.mem_of_getElem? q1)) e⟩
    · refine ⟨by rw [List.length_append, T.len]; rfl, fun j t e => ?_, ?_⟩
      · rw [List.getElem?_append] at e
        split at e
        · obtain ⟨q1, q2⟩ := T.at_ j t e
          refine ⟨oth _ _ (nS t q2) (hk' t _ (fun x => ?_) (fun x => ?_) (fun x => ?_) q1), q2⟩
          · subst x; exact Nat.not_lt_of_le q2 hB.1
          · subst x; exact Nat.not_lt_of_le q2 hB.2.1
          · exact Nat.not_lt_of_le q2 (hB.2.2.2.2.1 t x)
        · rename_i hj
          rw [T.len] at hj e
          have hj2 : j = i := by
            have := (List.getElem?_eq_some_iff.mp e).1
            simp at this
            omega
          subst hj2
          simp at e
          subst e
          exact ⟨oth _ _ (nS _ hb) new, hb⟩
      · refine List.nodup_append.mpr ⟨T.nd, by simp, fun a ha b hb' => ?_⟩
        have e : b = h.objs.size := by simpa using hb'
        subst e
        obtain ⟨j, hj⟩ := List.mem_iff_getElem?.mp ha
        exact Nat.ne_of_lt (Heap.lt_size (T.at_ j a hj).1)
    · have := Heap.get?_update_self (Obj.mapSeq (·.push (Value.ref h.objs.size))) hS' rfl
      rw [List.map_append]
      exact ⟨_, by simpa [Obj.mapSeq] using this⟩
    · show B ≤ (h'.update S _).objs.size
      rw [(Heap.SameBut.update ..).1, hsz']
      exact Nat.le_succ_of_le hb
    · intro c o c1 c2 c3 c4 c5 e
      exact oth c o c2 (hk' _ _ c3 c4 c5 (up c o c1 c2 c3 c4 c5 e))

theorem collect_zip {Q : List Value → Shared → Prop} {z TI TO : Addr} {its ls : List Addr} {rows : List (List Value)} {m : Nat} {cols : Nat → List Value}
    (hh : A.handled = none) (Fa : Far z TI TO its ls) (Z : Zs s.heap z TI TO its ls rows 0 .none (.bool false))
    (hn : its ≠ []) (hls : ls.length = its.length) (hrs : rows.length = its.length) (h5 : its.length ≤ 5)
    (hc : ∀ i, i < m → Col rows i (cols i)) (he : ∀ r ∈ rows, r.length ≤ m) (hm : m ≤ 1000)
    (hB : (∀ a ∈ its, a < s.heap.objs.size) ∧ ∀ l ∈ ls, l < s.heap.objs.size)
    (hQ : ∀ h' ts, Told h' s.heap.objs.size cols ts m →
      (∀ c o, c < s.heap.objs.size → c ≠ z → c ≠ TO → c ∉ its → s.heap.get? c = some o → h'.get? c = some o) →
      Q (ts.map Value.ref) { s with heap := h' }) : wpAny (model prog w) A (collect (.ref z)) Q E s := by
  have hzl : z < s.heap.objs.size := Heap.lt_size Z.z
  have hTIl : TI < s.heap.objs.size := Heap.lt_size Z.ti
  have hTOl : TO < s.heap.objs.size := let ⟨_, _, q⟩ := Z.to; Heap.lt_size q
  have hSz : s.heap.objs.size ≠ z := Nat.ne_of_gt hzl
  unfold collect
  refine wpAny_bind (wpAny_runValue (codeAny_builtin F.entry_proto_collect ?_))
  rw [Around.under_plainId F.plain_proto_collect _]
  show wpAny _ A.in1 (newList [] >>= fun l => again (.builtin "list.__iadd__" ⟨[l, .ref z], []⟩)) _ _ s
  refine wpAny_bind (wpAny_newObj_type ?_)
  refine wpAny_pure ⟨plainId_quiet F.plain_list_iadd _, codeAny_builtin F.entry_list_iadd ?_⟩
  rw [Around.under_plainId F.plain_list_iadd _]
  have up0 : ∀ c o, s.heap.get? c = some o → (s.heap.push (lstO #[] 0)).get? c = some o := fun c o e => Heap.get?_push_of_some _ e
  have hT : ({ s with heap := s.heap.push (lstO #[] 0) } : Shared).TypeIs (.ref z) "zip" := ⟨_, up0 _ _ Z.z, rfl⟩
  show wpAny _ A.in1 (Builtin.List.listExtendWith (.ref s.heap.objs.size) (.ref z) (.ref s.heap.objs.size)) _ _ _
  unfold Builtin.List.listExtendWith
  refine wpAny_bind (wpAny_typeOf hT ?_)
  have n1 : Builtin.List.listSameRef (.ref s.heap.objs.size) (.ref z) = false := by simp [Builtin.List.listSameRef, hSz]
  have n2 : (Value.type "zip" == Value.type "list") = false := by decide
  have n3 : (Value.type "zip" == Value.type "tuple") = false := by decide
  simp only [n1, n2, n3, Bool.or_false, Bool.false_eq_true, if_false]
  refine wpAny_bind (wpAny_pyIter_zip (f0 := .none) (TI := TI) (TO := TO) (up0 _ _ Z.z) ?_)
  refine wpAny_bind (wpAny_holding ?_)
  unfold Builtin.List.listLengthHint
  refine wpAny_bind (wpAny_specialOf hT zip_no_len ?_)
  show wpAny _ A.in1 (specialOf (Value.ref z) (Str.ofString "__length_hint__") >>= _) _ _ _
  refine wpAny_bind (wpAny_specialOf hT zip_no_hint (wpAny_pure ?_))
  show wpAny _ A.in1 (rule "list.extend.makes-room" >>= fun _ => Builtin.List.listTouch (.ref s.heap.objs.size) >>= fun _ =>
    again (.builtin "list.extend.loop" ⟨[.ref s.heap.objs.size, .ref z, .ref s.heap.objs.size], []⟩)) _ _ _
  refine wpAny_bind (wpAny_rule ?_)
  have g1 : (s.heap.push (lstO #[] 0)).get? s.heap.objs.size = some (lstO #[] 0) := Heap.get?_push_size _ rfl
  refine wpAny_bind ?_
  show wpAny _ A.in1 (updateSeq s.heap.objs.size (·.push .none) >>= fun _ => updateSeq s.heap.objs.size (·.pop)) _ _ _
  refine wpAny_bind (wpAny_updateSeq g1 rfl ?_)
  have g2 := Heap.get?_update_self (Obj.mapSeq (·.push Value.none)) g1 rfl
  refine wpAny_updateSeq g2 rfl ?_
  have g3 := Heap.get?_update_self (Obj.mapSeq (·.pop)) g2 rfl
  have oth : ∀ c o, c ≠ s.heap.objs.size → (s.heap.push (lstO #[] 0)).get? c = some o →
      (((s.heap.push (lstO #[] 0)).update s.heap.objs.size (Obj.mapSeq (·.push Value.none))).update s.heap.objs.size (Obj.mapSeq (·.pop))).get? c = some o :=
    fun c o hc' e => (Heap.get?_update_other _ _ (Ne.symm hc')).trans ((Heap.get?_update_other _ _ (Ne.symm hc')).trans e)
  have old : ∀ c o, s.heap.get? c = some o → (((s.heap.push (lstO #[] 0)).update s.heap.objs.size (Obj.mapSeq (·.push Value.none))).update s.heap.objs.size (Obj.mapSeq (·.pop))).get? c = some o :=
    fun c o e => oth c o (Nat.ne_of_lt (Heap.lt_size e)) (up0 c o e)
  have up1 : ∀ a : Nat, a < s.heap.objs.size → a < s.heap.objs.size + 1 := fun a q => Nat.lt_succ_of_lt q
  refine wpAny_pure ⟨plainId_quiet F.plain_extend_loop _, loopZ (A := A) (s := s) (S := s.heap.objs.size) (B := s.heap.objs.size + 1) (h0 := s.heap) hh Fa hn hls hrs h5 hc he hm
    ⟨hSz, Nat.ne_of_gt hTOl, Nat.ne_of_gt hTIl, fun q => Nat.lt_irrefl _ (hB.1 _ q), fun q => Nat.lt_irrefl _ (hB.2 _ q)⟩
    ⟨up1 _ hzl, up1 _ hTOl, up1 _ hTIl, Nat.lt_succ_self _, fun a q => up1 _ (hB.1 a q), fun a q => up1 _ (hB.2 a q)⟩ ?_
    m 0 _ [] .none (.bool false) rfl (Nat.zero_le _) ?_ (.inl rfl) ⟨rfl, fun j t e => by simp at e, List.nodup_nil⟩ ⟨_, g3⟩ ?_ fun c o c1 c2 _ _ _ e => old c o e⟩
  · intro h' ts c T hS hup
    show wpAny _ A (load s.heap.objs.size >>= _) _ _ _
    refine wpAny_bind (wpAny_load (s := { s with heap := h' }) hS ?_)
    refine wpAny_pure ?_
    show Q ((ts.map Value.ref).toArray).toList _
    rw [List.toList_toArray]
    exact hQ h' ts ⟨T.len, fun j t e => ⟨(T.at_ j t e).1, Nat.le_of_succ_le (T.at_ j t e).2⟩, T.nd⟩ fun c o c1 c2 c3 c4 e => hup c o (up1 _ c1) (Nat.ne_of_lt c1) c2 c3 c4 e
  · exact ⟨old _ _ Z.z, old _ _ Z.ti, let ⟨a, b1, b2⟩ := Z.to; ⟨a, b1, old _ _ b2⟩, fun j a l q1 q2 => (Z.it j a l q1 q2).at fun o e => old _ o e,
      fun j l r q1 q2 => (Z.ln j l r q1 q2).at fun o e => old _ o e⟩
  · show s.heap.objs.size + 1 ≤ (Heap.update (Heap.update (Heap.push _ _) _ _) _ _).objs.size
    rw [(Heap.SameBut.update ..).1, (Heap.SameBut.update ..).1, Heap.size_push]
    exact Nat.le_refl _

theorem call_tupzip {Q : Value → Shared → Prop} {z TI TO : Addr} {its ls : List Addr} {rows : List (List Value)} {m : Nat} {cols : Nat → List Value}
    (hh : A.handled = none) (Fa : Far z TI TO its ls) (Z : Zs s.heap z TI TO its ls rows 0 .none (.bool false))
    (hn : its ≠ []) (hls : ls.length = its.length) (hrs : rows.length = its.length) (h5 : its.length ≤ 5)
    (hc : ∀ i, i < m → Col rows i (cols i)) (he : ∀ r ∈ rows, r.length ≤ m) (hm : m ≤ 1000)
    (hB : (∀ a ∈ its, a < s.heap.objs.size) ∧ ∀ l ∈ ls, l < s.heap.objs.size)
    (hQ : ∀ h' ts, Told h' s.heap.objs.size cols ts m →
      (∀ c o, c < s.heap.objs.size → c ≠ z → c ≠ TO → c ∉ its → s.heap.get? c = some o → h'.get? c = some o) →
      Q (.ref h'.objs.size) { s with heap := h'.push (tupO (ts.map Value.ref)) }) :
    wpAny (model prog w) A (call (.type "tuple") [.ref z]) Q E s := by
  have hTy : ∀ u : Shared, u.heap = s.heap → u.TypeIs (.ref z) "zip" := fun u e => ⟨_, by rw [e]; exact Z.z, rfl⟩
  refine callType_codes (Q₁ := fun obj s₁ => s₁.TypeIs obj "tuple" ∧ Q obj s₁) F.called_tuple (F.typeCall_tuple_1 _) F.entry_object_init
    ?_ fun obj s₁ h₁ => ?_
  · refine codeAny_of_tree ?_
    show wpAny _ A.in1.in1 (do checkBuiltinCall "tuple.__new__" ⟨[.type "tuple", .ref z], []⟩; again (.builtin "tuple.__new__" ⟨[.type "tuple", .ref z], []⟩)) _ _ s
    refine wpAny_bind (wpAny_of_eq (F.newCall_tuple_1 _) (wpAny_pure ⟨plainId_quiet F.plain_tuple_new _, codeAny_builtin F.entry_tuple_new ?_⟩))
    rw [Around.under_plainId F.plain_tuple_new _]
    have hsub := sub_tuple_self
    have hinit := init_tuple_lookup
    have hmh := madeHere_tuple
    have hTI := hTy s rfl
    wp_walk using wpAny_typeOf hTI, collect_zip (A := A.in1.in1) hh Fa Z hn hls hrs h5 hc he hm hB
    intro h' ts T hup
    show wpAny _ _ (Builtin.Tuple.tupleExact (ts.map Value.ref).toArray >>= fun v => ret v) _ _ _
    unfold Builtin.Tuple.tupleExact
    refine wpAny_bind (wpAny_newObj_type ?_ (by
      show (ts.map Value.ref).toArray.size ≤ sizeLine
      rw [List.size_toArray, List.length_map, T.len]
      exact Nat.le_trans hm (by decide)))
    refine wpAny_pure ?_
    exact ⟨⟨_, Heap.get?_push_size _ rfl, rfl⟩, hQ h' ts T hup⟩
  · exact ⟨h₁.1, F.args_object_init_2 obj _, object_init_meets F.called_tuple.init.lookup F.called_tuple.made (by decide) prog w A.in1 _ s₁ ⟨h₁.1, rfl, h₁.2⟩⟩
end
end ZZ

/-! Z3: tuple(zip(*rows)) as a rule. -/
namespace ZZ
open PySem PySem.Spec PyProof.Rows L2 GL
section
variable {M : Model} {A : Around} {E : Value → Shared → Prop} {s : Shared} {env : Env} {pos p : Pos} {T : String} {Q : Value → Shared → Prop} {e : Expr}
theorem callWith_typeS (h : wpAny M A (eval e env) (fun v s₁ => PySem.W.StarOf M A E v (fun vs s₂ => wpAny M A (call (.type T) vs) Q E s₂) s₁) E s)
    (he : starEach [.Starred e p] env = [(true, eval e env)] := by rfl) :
    wpAny M A (callWith pos (.type T) [] (backTo pos (starEach [.Starred e p] env)) []) Q E s := by
  rw [he]
  refine PySem.W.ks_call (P := fun _ => True) rfl (fun h _ => ⟨.machine, .inr (.inl rfl), PySem.W.Looks.of_pure rfl⟩) (PySem.W.ks_lone ?_)
  refine wpAny_mono h (fun v s₁ h₁ => ?_) fun _ _ x => x
  unfold PySem.W.StarOf at h₁ ⊢
  exact wpAny_mono h₁ (fun b s₂ h₂ => ⟨h₂.1, wpAny_mono h₂.2 (fun vs s₃ h₃ => ⟨trivial, h₃⟩) fun _ _ x => x⟩) fun _ _ x => x
end

/-! ### many objects tracked at once -/
def put : List Addr → (Nat → HO) → Nat → Hp → Hp
  | [], _, _, H => H
  | t :: ts, f, k, H => upd (put ts f (k + 1) H) t (f k)
theorem put_ne {f : Nat → HO} {H : Hp} {b : Addr} : ∀ {ts : List Addr} {k : Nat}, b ∉ ts → put ts f k H b = H b
  | [], _, _ => rfl
  | t :: ts, k, h => by
    show upd _ t (f k) b = _
    rw [upd_ne (fun e => h (by rw [e]; exact List.mem_cons_self ..)), put_ne fun m => h (List.mem_cons_of_mem _ m)]
theorem put_at {f : Nat → HO} {H : Hp} {t : Addr} : ∀ {ts : List Addr} {k i : Nat}, ts.Nodup → ts[i]? = some t → put ts f k H t = some (f (k + i))
  | [], _, _, _, h => by simp at h
  | a :: ts, k, 0, _, h => by
    obtain rfl : a = t := by simpa using h
    show upd _ a (f k) a = _
    rw [upd_same]; rfl
  | a :: ts, k, i + 1, n, h => by
    have h' : ts[i]? = some t := by simpa using h
    have na : t ≠ a := fun e => (List.nodup_cons.mp n).1 (by rw [← e]; exact List.mem_of_getElem? h')
    show upd _ a (f k) t = _
    rw [upd_ne na, put_at (List.nodup_cons.mp n).2 h']
    congr 2
    omega
theorem put_of {f : Nat → HO} {H : Hp} {b : Addr} {u : HO} : ∀ {ts : List Addr} {k : Nat}, put ts f k H b = some u → H b = some u ∨ ∃ i, ts[i]? = some b ∧ u = f (k + i)
  | [], _, h => .inl h
  | t :: ts, k, h => by
    by_cases e : b = t
    · subst e
      have h' : upd (put ts f (k + 1) H) b (f k) b = some u := h
      rw [upd_same] at h'
      cases h'
      exact .inr ⟨0, rfl, rfl⟩
    · have h' : upd (put ts f (k + 1) H) t (f k) b = some u := h
      rw [upd_ne e] at h'
      rcases put_of h' with q | ⟨i, q1, q2⟩
      · exact .inl q
      · refine .inr ⟨i + 1, by simpa using q1, ?_⟩
        rw [q2]
        congr 1
        omega

section
variable {P : Program} {w : World} {H H' : Hp} {h h' : Heap} {fs ex : List Addr}
theorem un_many (k : ∀ b u, h.get? b = some u → h'.get? b = some u) (p1 : ∀ b u, H b = some u → H' b = some u)
    (p2 : ∀ b o, h.get? b = some o → H b = none → H' b = none) : Un fs ex H H' h h' where
  keep := fun b u q _ _ _ => k b u q
  slot := fun b u q _ _ _ => ⟨u.slots, k b u q⟩
  free := fun b u q n _ => p2 b u q n
  there := fun b u q _ => ⟨u, k b u q⟩
  tups := fun b xs q => p1 b _ q
  frzs := fun b u xs q => p1 b _ q
  tbls := fun b ps q => ⟨#[], by rw [p1 b _ q]; simp⟩
theorem hok_many (x : HOk P w H h) (k : ∀ b u, h.get? b = some u → h'.get? b = some u) (p1 : ∀ b u, H b = some u → H' b = some u)
    (new : ∀ b u, H' b = some u → H b = some u ∨ ObjOk P w H' h' b u) : HOk P w H' h' := fun b u e => by
  rcases new b u e with q | q
  · exact (x b u q).stay (fun c v _ z => k c v z) (fun c z => p1 c _ z) fun c xs z => p1 c _ z
  · exact q
end

/-- the rows of a table, as tuples that are tracked -/
inductive Rws (H : Hp) (m : Nat) : List Addr → List (List V) → Prop where
  | nil : Rws H m [] []
  | cons {r vs rs vss} : H r = some (.tup vs) → vs.length = m → Rws H m rs vss → Rws H m (r :: rs) (vs :: vss)
inductive Rvs (m : Nat) : List (List V) → List (List Value) → Prop where
  | nil : Rvs m [] []
  | cons {vs us vss rows} : Vals vs us → vs.length = m → Rvs m vss rows → Rvs m (vs :: vss) (us :: rows)
def colV (vss : List (List V)) (i : Nat) : List V := vss.map fun vs => vs[i]?.getD .non
def colU (rows : List (List Value)) (i : Nat) : List Value := rows.map fun r => r[i]?.getD .none
theorem Rvs.col {m i : Nat} (hi : i < m) : ∀ {vss rows}, Rvs m vss rows → Vals (colV vss i) (colU rows i)
  | _, _, .nil => .nil
  | _, _, .cons (vs := vs) (us := us) r hl t => by
    have e := List.getElem?_eq_getElem (l := vs) (i := i) (by omega)
    obtain ⟨u, e2, q⟩ := r.get e
    refine .cons ?_ (Rvs.col hi t)
    show RelV (vs[i]?.getD .non) (us[i]?.getD .none)
    rw [e, e2]
    exact q
theorem Rvs.lens {m : Nat} : ∀ {vss rows}, Rvs m vss rows → vss.length = rows.length ∧ ∀ r ∈ rows, r.length = m
  | _, _, .nil => ⟨rfl, fun _ h => nomatch h⟩
  | _, _, .cons r hl t => by
    obtain ⟨q1, q2⟩ := Rvs.lens t
    refine ⟨by simp [q1], fun x hx => ?_⟩
    rcases List.mem_cons.mp hx with rfl | hx
    · rw [← r.length]; exact hl
    · exact q2 x hx
theorem col_of {m i : Nat} {rows : List (List Value)} (h : ∀ r ∈ rows, r.length = m) (hi : i < m) : Col rows i (colU rows i) := by
  refine ⟨by simp [colU], fun j r e => ?_⟩
  have e2 := List.getElem?_eq_getElem (l := r) (i := i) (by rw [h r (List.mem_of_getElem? e)]; exact hi)
  refine ⟨_, e2, ?_⟩
  unfold colU
  rw [List.getElem?_map, e]
  simp [e2]
theorem Rws.read {P : Program} {w : World} {H : Hp} {h : Heap} {m : Nat} (ok : HOk P w H h) : ∀ {rs vss}, Rws H m rs vss →
    ∃ rows, Rvs m vss rows ∧ rows.length = rs.length ∧ ∀ (j : Nat) (l : Addr) (r : List Value), rs[j]? = some l → rows[j]? = some r → h.IsTuple l r.toArray
  | _, _, .nil => ⟨[], .nil, rfl, fun j l r e _ => by simp at e⟩
  | _, _, .cons (r := a) (vs := vs) e hl t => by
    obtain ⟨rows, q1, q2, q3⟩ := Rws.read ok t
    obtain ⟨_, its, rv, o, hg, hc, n, hd⟩ := (ok a _ e : ObjOk P w H h a (.tup _))
    refine ⟨its :: rows, .cons rv hl q1, by simp [q2], fun j l r e1 e2 => ?_⟩
    cases j with
    | zero =>
      cases e1; cases e2
      exact ⟨o, hg, hc, n, hd⟩
    | succ j => exact q3 j l r (by simpa using e1) (by simpa using e2)
theorem vals_refs : ∀ {rs : List Addr} {us : List Value}, Vals (rs.map V.ref) us → us = rs.map Value.ref
  | [], _, .nil => rfl
  | r :: rs, _, .cons a t => by
    obtain rfl : _ = Value.ref r := a
    rw [List.map_cons, vals_refs t]
theorem refs_vals : ∀ (rs : List Addr), Vals (rs.map V.ref) (rs.map Value.ref)
  | [] => .nil
  | r :: rs => .cons rfl (refs_vals rs)

def tTupZip (K : PySem.W.Frag) (te : TE) : TE := fun σ H Q => te σ H fun x H1 => ∃ (a : Addr) (rs : List Addr) (vss : List (List V)) (m : Nat),
  x = .ref a ∧ SqT K H1 a (rs.map V.ref) ∧ rs ≠ [] ∧ rs.length ≤ 5 ∧ 1 ≤ m ∧ m ≤ 1000 ∧ Rws H1 m rs vss ∧
  ∀ (H2 : Hp) (p : Addr) (ts : List Addr), (∀ b o, H1 b = some o → H2 b = some o) → H2 p = some (.tup (ts.map V.ref)) → ts.length = m →
    (∀ (i : Nat) (t : Addr), ts[i]? = some t → H2 t = some (.tup (colV vss i))) → Q (.ref p) H2
theorem n_lt {c n k : Nat} (h : c < n) : c < n + k + 3 ∧ c ≠ n + k + 2 ∧ c ≠ n + k + 1 := by omega
theorem n_lt2 {a n k : Nat} (h : a < n + k) : a < n + k + 3 := by omega
theorem n_le {n k t : Nat} (z : n + k + 3 ≤ t) : n ≤ t := by omega
theorem pe_tupZip {X : Cx} {e : Expr} {te : TE} {p p2 p3 q pos : Pos} (hg : Gl X "tuple") (hm : X.mg "tuple" = none) (hg2 : Gl X "zip") (hm2 : X.mg "zip" = none)
    (he : PE X e te) (hc : X.calm = true := by rfl)
    (hs : starEach [.Starred e p3] X.env = [(true, eval e X.env)] := by rfl)
    (na : starEach [.Call (.Name "zip" p2) [.Starred e p3] [] q] X.env = (false, eval (.Call (.Name "zip" p2) [.Starred e p3] [] q) X.env) :: starEach [] X.env := by rfl) :
    PE X (.Call (.Name "tuple" p) [.Call (.Name "zip" p2) [.Starred e p3] [] q] [] pos) (tTupZip X.K te) := by
  refine ⟨fun pins s σ H Q I h => ?_⟩
  refine Call_ (ld_blt I hg hm PyProof.Rows.boot_tuple ?_)
  refine PyProof.Rows.callWith_type1 (PyProof.Rows.args_cons ?_ na) na rfl
  refine Call_ (ld_blt I hg2 hm2 PyProof.Rows.boot_zip ?_)
  refine callWith_typeS (thn (he.run pins s σ H _ I h) fun v s1 ⟨y, H1, I1, ry, a, rs, vss, m, ey, hsq, hne, h5, hm1, hm', hrw, q⟩ => ?_) hs
  subst ey
  obtain rfl : v = Value.ref a := ry
  refine StX.star_any I1 (.inl hsq) fun us s2 I2 rv => ?_
  obtain rfl := vals_refs rv
  obtain ⟨rows, rvs, hrl, hrt⟩ := Rws.read I2.hok hrw
  have hrt2 : ∀ l ∈ rs, ∃ items, s2.heap.IsTuple l items := fun l hl => by
    obtain ⟨j, hj⟩ := List.mem_iff_getElem?.mp hl
    have hlt := (List.getElem?_eq_some_iff.mp hj).1
    exact ⟨_, hrt j l _ hj (List.getElem?_eq_getElem (by omega))⟩
  have hlt : ∀ l ∈ rs, l < s2.heap.objs.size := fun l hl => by
    obtain ⟨items, o, ho, _⟩ := hrt2 l hl
    exact Heap.lt_size ho
  refine call_zip hne h5 hrt2 fun h1 Md => ?_
  refine PyProof.Rows.args_nil ?_
  have lens := rvs.lens
  refine call_tupzip (s := { s2 with heap := h1 }) (cols := colU rows) (m := m) (I2.ok.hd hc) (far_of hlt) (Md.zs hrt) (fun e => ?_) ?_ ?_ ?_ (fun i hi => col_of lens.2 hi) (fun r hr => Nat.le_of_eq (lens.2 r hr)) hm' ⟨fun a ha => ?_, fun l hl => ?_⟩ fun h2 ts Td up => ?_
  · have z := congrArg List.length e
    rw [itsFrom_len] at z
    exact hne (List.length_eq_zero_iff.mp z)
  · rw [itsFrom_len]
  · rw [itsFrom_len, hrl]
  · rw [itsFrom_len]; exact h5
  · have z := (itsFrom_mem ha).2
    show a < h1.objs.size
    rw [Md.sz]
    exact n_lt2 z
  · have z := hlt l hl
    show l < h1.objs.size
    rw [Md.sz]
    exact (n_lt z).1
  · have kp : ∀ c o, s2.heap.get? c = some o → h2.get? c = some o := fun c o e => by
      have lt := Heap.lt_size e
      refine up c o ?_ ?_ ?_ (fun z => ?_) (Md.up c o e)
      · show c < h1.objs.size
        rw [Md.sz]; exact (n_lt lt).1
      · exact (n_lt lt).2.1
      · exact (n_lt lt).2.2
      · exact Nat.not_lt_of_le (itsFrom_mem z).1 lt
    have kp3 : ∀ c o, s2.heap.get? c = some o → (h2.push (tupO (ts.map Value.ref))).get? c = some o := fun c o e => Heap.get?_push_of_some _ (kp c o e)
    have big : ∀ {i : Nat} {t : Addr}, ts[i]? = some t → s2.heap.objs.size ≤ t := fun {i t} e => by
      have z : h1.objs.size ≤ t := (Td.at_ i t e).2
      rw [Md.sz] at z
      exact n_le z
    have free : ∀ t ∈ ts, H1 t = none := fun t ht => by
      obtain ⟨i, e⟩ := List.mem_iff_getElem?.mp ht
      exact I2.hok.fresh (big e)
    have freeP : H1 h2.objs.size = none := by
      have e := List.getElem?_eq_getElem (l := ts) (i := 0) (by rw [Td.len]; exact hm1)
      exact I2.hok.fresh (Nat.le_trans (big e) (Nat.le_of_lt (Heap.lt_size (Td.at_ 0 _ e).1)))
    have nP : h2.objs.size ∉ ts := fun z => by
      obtain ⟨i, e⟩ := List.mem_iff_getElem?.mp z
      exact Nat.lt_irrefl _ (Heap.lt_size (Td.at_ i _ e).1)
    have le : ∀ n : Nat, n ≤ 1000 → n ≤ sizeLine := fun n z => Nat.le_trans z (by rw [sizeLine_eq]; decide)
    have p1 : ∀ b u, H1 b = some u → upd (put ts (fun i => .tup (colV vss i)) 0 H1) h2.objs.size (.tup (ts.map V.ref)) b = some u := fun b u e => by
      rw [upd_ne (fun z => by rw [z, freeP] at e; cases e), put_ne (fun z => by rw [free b z] at e; cases e)]
      exact e
    have I3 : L2.Inv X pins σ (upd (put ts (fun i => .tup (colV vss i)) 0 H1) h2.objs.size (.tup (ts.map V.ref))) { s2 with heap := h2.push (tupO (ts.map Value.ref)), toks := s2.toks } := by
      refine I2.un (un_many kp3 p1 fun b o e n => ?_) (hok_many I2.hok kp3 p1 fun b u e => ?_)
      · have lt := Heap.lt_size e
        rw [upd_ne (Nat.ne_of_lt (Heap.lt_size (kp b o e))), put_ne (fun z => ?_)]
        · exact n
        · obtain ⟨i, e'⟩ := List.mem_iff_getElem?.mp z
          exact Nat.not_lt_of_le (big e') lt
      · by_cases eb : b = h2.objs.size
        · subst eb
          rw [upd_same] at e
          cases e
          exact .inr ⟨by rw [List.length_map, Td.len]; exact le m hm', _, refs_vals ts, ⟨_, Heap.get?_push_size _ rfl, rfl, 0, rfl⟩⟩
        · rw [upd_ne eb] at e
          rcases put_of e with z | ⟨i, e1, e2⟩
          · exact .inl z
          · subst e2
            rw [Nat.zero_add]
            have hi : i < m := by rw [← Td.len]; exact (List.getElem?_eq_some_iff.mp e1).1
            have ll : (colV vss i).length ≤ sizeLine := by
              unfold colV
              rw [List.length_map, lens.1, hrl]
              exact le _ (by omega)
            exact .inr ⟨ll, _, rvs.col hi, ⟨_, Heap.get?_push_of_some _ (Td.at_ i b e1).1, rfl, 0, rfl⟩⟩
    refine ⟨.ref h2.objs.size, _, I3, rfl, q _ _ ts p1 upd_same Td.len fun i t e => ?_⟩
    rw [upd_ne (fun z => nP (by rw [← z]; exact List.mem_of_getElem? e)), put_at Td.nd e, Nat.zero_add]
end ZZ

/-! R0: the text of the law. -/
namespace K04
open PySem PySem.Spec PyProof.Rows L2 GL
def topS (i : Nat) : Stmt :=
  PySem.Challenge.pw_steadymixes_k04_games_turned_and_moved.main.body.getD i (.Pass ⟨0, 0, 0, 0⟩)
-- 1: class MixError
abbrev sInit : Stmt := inClass (topS 1) 0
theorem scInit : FnScope ["self", "value"] ["self", "value"] (defScope sInit) :=
  ⟨rfl, rfl, rfl, by decide +kernel, rfl, by decide +kernel, by decide +kernel⟩
-- 2: class InvalidGame
-- 3: class InvalidSide
-- 4: class InvalidNumber
abbrev sSize : Stmt := topS 6
theorem scSize : FnScope ["game", "side", "first"] ["game", "side"] (defScope sSize) :=
  ⟨rfl, rfl, rfl, by decide +kernel, rfl, by decide +kernel, by decide +kernel⟩
abbrev sExchanged : Stmt := topS 7
theorem scExchanged : FnScope ["game", "first", "second"] ["game"] (defScope sExchanged) :=
  ⟨rfl, rfl, rfl, by decide +kernel, rfl, by decide +kernel, by decide +kernel⟩
abbrev sIsWhole : Stmt := topS 11
theorem scIsWhole : FnScope ["value"] ["value"] (defScope sIsWhole) :=
  ⟨rfl, rfl, rfl, by decide +kernel, rfl, by decide +kernel, by decide +kernel⟩
abbrev sIsTupleOf : Stmt := topS 12
theorem scIsTupleOf : FnScope ["value", "many"] ["value", "many"] (defScope sIsTupleOf) :=
  ⟨rfl, rfl, rfl, by decide +kernel, rfl, by decide +kernel, by decide +kernel⟩
abbrev sNumberFits : Stmt := topS 13
theorem scNumberFits : FnScope ["value"] ["value"] (defScope sNumberFits) :=
  ⟨rfl, rfl, rfl, by decide +kernel, rfl, by decide +kernel, by decide +kernel⟩
abbrev sAreNumbers : Stmt := topS 14
theorem scAreNumbers : FnScope ["value", "number"] ["value"] (defScope sAreNumbers) :=
  ⟨rfl, rfl, rfl, by decide +kernel, rfl, by decide +kernel, by decide +kernel⟩
abbrev sManyFits : Stmt := topS 15
theorem scManyFits : FnScope ["value"] ["value"] (defScope sManyFits) :=
  ⟨rfl, rfl, rfl, by decide +kernel, rfl, by decide +kernel, by decide +kernel⟩
abbrev sIsRow : Stmt := topS 16
theorem scIsRow : FnScope ["value"] ["value"] (defScope sIsRow) :=
  ⟨rfl, rfl, rfl, by decide +kernel, rfl, by decide +kernel, by decide +kernel⟩
abbrev sTableFits : Stmt := topS 17
theorem scTableFits : FnScope ["value", "row"] ["value"] (defScope sTableFits) :=
  ⟨rfl, rfl, rfl, by decide +kernel, rfl, by decide +kernel, by decide +kernel⟩
abbrev sGameFits : Stmt := topS 18
theorem scGameFits : FnScope ["value", "first", "second"] ["value"] (defScope sGameFits) :=
  ⟨rfl, rfl, rfl, by decide +kernel, rfl, by decide +kernel, by decide +kernel⟩
abbrev sSideFits : Stmt := topS 19
theorem scSideFits : FnScope ["value"] ["value"] (defScope sSideFits) :=
  ⟨rfl, rfl, rfl, by decide +kernel, rfl, by decide +kernel, by decide +kernel⟩
abbrev sChoiceFits : Stmt := topS 20
theorem scChoiceFits : FnScope ["game", "side", "value"] ["game", "side", "value"] (defScope sChoiceFits) :=
  ⟨rfl, rfl, rfl, by decide +kernel, rfl, by decide +kernel, by decide +kernel⟩
abbrev sAnew : Stmt := topS 22
theorem scAnew : FnScope ["value", "part"] ["value"] (defScope sAnew) :=
  ⟨rfl, rfl, rfl, by decide +kernel, rfl, by decide +kernel, by decide +kernel⟩
abbrev sCheckGame : Stmt := topS 23
theorem scCheckGame : FnScope ["game"] ["game"] (defScope sCheckGame) :=
  ⟨rfl, rfl, rfl, by decide +kernel, rfl, by decide +kernel, by decide +kernel⟩
abbrev sCheckSide : Stmt := topS 24
theorem scCheckSide : FnScope ["side"] ["side"] (defScope sCheckSide) :=
  ⟨rfl, rfl, rfl, by decide +kernel, rfl, by decide +kernel, by decide +kernel⟩
abbrev sCheckGameAndSide : Stmt := topS 25
theorem scCheckGameAndSide : FnScope ["game", "side"] ["game", "side"] (defScope sCheckGameAndSide) :=
  ⟨rfl, rfl, rfl, by decide +kernel, rfl, by decide +kernel, by decide +kernel⟩
abbrev sCheckChoice : Stmt := topS 26
theorem scCheckChoice : FnScope ["game", "side", "choice"] ["game", "side", "choice"] (defScope sCheckChoice) :=
  ⟨rfl, rfl, rfl, by decide +kernel, rfl, by decide +kernel, by decide +kernel⟩
abbrev sTurned : Stmt := topS 28
theorem scTurned : FnScope ["game"] ["game"] (defScope sTurned) :=
  ⟨rfl, rfl, rfl, by decide +kernel, rfl, by decide +kernel, by decide +kernel⟩
abbrev sRaised : Stmt := topS 29
theorem scRaised : FnScope ["row", "at", "number"] ["row", "at", "number"] (defScope sRaised) :=
  ⟨rfl, rfl, rfl, by decide +kernel, rfl, by decide +kernel, by decide +kernel⟩
abbrev sMoved : Stmt := topS 30
theorem scMoved : FnScope ["game", "side", "choice", "number", "first", "second", "changed", "new_game", "row"] ["game", "side", "choice", "number"] (defScope sMoved) :=
  ⟨rfl, rfl, rfl, by decide +kernel, rfl, by decide +kernel, by decide +kernel⟩
abbrev sWithout : Stmt := topS 31
theorem scWithout : FnScope ["game", "side", "choice", "first", "second", "left"] ["game", "side", "choice"] (defScope sWithout) :=
  ⟨rfl, rfl, rfl, by decide +kernel, rfl, by decide +kernel, by decide +kernel⟩
abbrev sLSource : Stmt := topS 33
theorem scLSource : FnScope ["script"] ["script"] (defScope sLSource) :=
  ⟨rfl, rfl, rfl, by decide +kernel, rfl, by decide +kernel, by decide +kernel⟩
abbrev sLPick : Stmt := topS 34
theorem scLPick : FnScope ["source", "many", "found", "cell", "mixed"] ["source", "many"] (defScope sLPick) :=
  ⟨rfl, rfl, rfl, by decide +kernel, rfl, by decide +kernel, by decide +kernel⟩
abbrev sLNumber : Stmt := topS 35
theorem scLNumber : FnScope ["source", "kind"] ["source", "kind"] (defScope sLNumber) :=
  ⟨rfl, rfl, rfl, by decide +kernel, rfl, by decide +kernel, by decide +kernel⟩
abbrev sLTable : Stmt := topS 36
theorem scLTable : FnScope ["source", "rows", "columns", "kind", "row", "column"] ["source", "rows", "columns"] (defScope sLTable) :=
  ⟨rfl, rfl, rfl, by decide +kernel, rfl, by decide +kernel, by decide +kernel⟩
abbrev sLGame : Stmt := topS 37
theorem scLGame : FnScope ["source", "most", "rows", "columns"] ["source", "most"] (defScope sLGame) :=
  ⟨rfl, rfl, rfl, by decide +kernel, rfl, by decide +kernel, by decide +kernel⟩
abbrev sLColumns : Stmt := topS 38
theorem scLColumns : FnScope ["table", "k", "row"] ["table"] (defScope sLColumns) :=
  ⟨rfl, rfl, rfl, by decide +kernel, rfl, by decide +kernel, by decide +kernel⟩
abbrev sLDue : Stmt := topS 39
theorem scLDue : FnScope ["way", "game", "side", "choice", "number", "rows", "row", "part", "table"] ["way", "game", "side", "choice", "number"] (defScope sLDue) :=
  ⟨rfl, rfl, rfl, by decide +kernel, rfl, by decide +kernel, by decide +kernel⟩
abbrev sLCall : Stmt := topS 40
theorem scLCall : FnScope ["way", "named", "game", "side", "choice", "number", "found", "e"] ["way", "named", "game", "side", "choice", "number"] (defScope sLCall) :=
  ⟨rfl, rfl, rfl, by decide +kernel, rfl, by decide +kernel, by decide +kernel⟩
abbrev sLNumbers : Stmt := topS 41
theorem scLNumbers : FnScope ["game", "side", "choice", "row"] ["game", "side", "choice"] (defScope sLNumbers) :=
  ⟨rfl, rfl, rfl, by decide +kernel, rfl, by decide +kernel, by decide +kernel⟩
abbrev sLDrawn : Stmt := topS 42
theorem scLDrawn : FnScope ["source", "game", "way", "side", "sizes", "choice", "numbers", "low", "high", "within", "number", "made"] ["source", "game"] (defScope sLDrawn) :=
  ⟨rfl, rfl, rfl, by decide +kernel, rfl, by decide +kernel, by decide +kernel⟩
abbrev sLRight : Stmt := topS 43
theorem scLRight : FnScope ["named", "game", "deed", "due", "before", "found"] ["named", "game", "deed", "due"] (defScope sLRight) :=
  ⟨rfl, rfl, rfl, by decide +kernel, rfl, by decide +kernel, by decide +kernel⟩
abbrev sLaw : Stmt := topS 44
theorem scLaw : FnScope ["script", "source", "turn", "game", "asked", "step", "deed", "due", "named", "passed"] ["script"] (defScope sLaw) :=
  ⟨rfl, rfl, rfl, by decide +kernel, rfl, by decide +kernel, by decide +kernel⟩
end K04

/-! Q1: heaps, _law_source, _law_pick. -/
namespace K04
open PySem PySem.Spec PyProof.Rows L2 GL

/-! ### heaps -/
/-- all but the one at p stays -/
def Kp (p : Addr) (H H' : Hp) : Prop := ∀ b o, b ≠ p → H b = some o → H' b = some o
theorem Kp.refl (p : Addr) (H : Hp) : Kp p H H := fun _ _ _ h => h
theorem Kp.trans {p : Addr} {H H1 H2 : Hp} (a : Kp p H H1) (b : Kp p H1 H2) : Kp p H H2 :=
  fun c o n h => b c o n (a c o n h)
theorem Kp.put {p : Addr} {H : Hp} {o : HO} : Kp p H (upd H p o) := fun b u n h => by rw [upd_ne n]; exact h
theorem Kp.new {p l : Addr} {H : Hp} {o : HO} (h : H l = none) : Kp p H (upd H l o) := fun b u n e => by
  rw [upd_ne (ne_of_none e h)]; exact e
theorem Kp.same {p : Addr} {H H' : Hp} (s : Same H H') : Kp p H H' := fun b u _ e => s b u e
theorem same_new {l : Addr} {H : Hp} {o : HO} (h : H l = none) : Same H (upd H l o) := fun b u e => by
  rw [upd_ne (ne_of_none e h)]; exact e

/-- a source: the script's copy, the place in it, what is left of a number, the seed, the count -/
def SrcO (sc : Addr) (o : HO) : Prop := ∃ i r sd c : Int, o = .lst [.ref sc, .int i, .int r, .int sd, .int c] ∧ 0 ≤ i ∧ 0 ≤ r ∧ 0 ≤ sd ∧
  sd < 2 ^ 30
/-- the source at p over the script's copy at sc -/
def Src (H : Hp) (p sc : Addr) (ns : List Int) : Prop := p ≠ sc ∧ H sc = some (.lst (ns.map V.int)) ∧ ∃ o, H p = some o ∧ SrcO sc o
theorem Src.kp {H H' : Hp} {p sc : Addr} {ns : List Int} (h : Src H p sc ns) (k : Kp p H H') (o : HO) (e : H' p = some o) (so : SrcO sc o) :
    Src H' p sc ns := ⟨h.1, k sc _ (fun z => h.1 z.symm) h.2.1, o, e, so⟩
theorem Src.same {H H' : Hp} {p sc : Addr} {ns : List Int} (h : Src H p sc ns) (k : Same H H') : Src H' p sc ns :=
  let ⟨a, b, o, e, so⟩ := h; ⟨a, k _ _ b, o, k _ _ e, so⟩

section
variable {P : Program} {w : World} {K : PySem.W.Frag} {mg : Str → Option Value} {base : Heap}

/-- what a pick may be drawn below, by the depth of its recursion -/
def most : Nat → Int
  | 0 => 100000
  | n + 1 => 100000 * (most n - 1)
theorem most_ge : ∀ n, 100000 ≤ most n
  | 0 => Int.le_refl _
  | n + 1 => by have := most_ge n; unfold most; omega

def spPick (n : Nat) : Sp := fun vs H Q _ => ∃ (p sc : Addr) (ns : List Int) (many : Int), vs = [.ref p, .int many] ∧ 0 < many ∧ many ≤ most n ∧
  many < 2 ^ 1100 ∧ Src H p sc ns ∧ ∀ r o', 0 ≤ r → r < many → SrcO sc o' → Q (.int r) (upd H p o')

theorem ok_pick0 {f : Addr} {fd : FuncData} (F : Fun K "_law_pick" "_law_pick" sLPick f fd) (bF : Binds K fd ["source", "many"] [])
    (gF : mg "_law_pick" = some (.ref f)) (mi : mg "int" = none) (ml : mg "len" = none) (ma : mg "abs" = none)
     : FnOk P w K mg base CX0 1 f fd ["source", "many"] (spPick 0) := by
  refine F.ok scLPick (fun vs H Q E h => ?_) (fun cdv A outer s H vs Q E hr h => ?_)
  · obtain ⟨p, sc, ns, many, rfl, _⟩ := h
    rfl
  · obtain ⟨p, sc, ns, many, rfl, h1, h2, h3, ⟨hne, hsc, o, hp, i, r, sd, c, rfl, hi, hr0, hs0, hs1⟩, q⟩ := h
    refine ⟨_, pss_cons (ps_if (pt_cmpR op_gt (pe_ix ix_list (pv 0) pe_int (fun _ _ => rfl)) pe_int (nomark _))
        (pss_cons (ps_set (i := 2) scLPick.nd rfl (.inl rfl) (pe_op op_mod (pe_callTy call_int1 (by rfl) mi (by decide +kernel) (pa_cons (pe_ix ix_list (pv 0) pe_int (fun _ _ => rfl)) pa_nil)) (pv 1)))
        (pss_cons (ps_asg (pe_op op_fdivW (pe_callTy call_int1 (by rfl) mi (by decide +kernel) (pa_cons (pe_ix ix_list (pv 0) pe_int (fun _ _ => rfl)) pa_nil)) (pv 1)) (pg_sub (pv 0) pe_int set_list))
        (pss_one (ps_ret (pv 2))))) pss_nil)
      (pss_cons (ps_set (i := 3) scLPick.nd rfl (.inl rfl) pe_int)
      (pss_cons (ps_if (pt_cmpR op_lt (pe_ix ix_list (pv 0) pe_int (fun _ _ => rfl)) (pe_callB call_len_seq (by rfl) ml PySem.boot_len (pa_cons (pe_ix ix_list (pv 0) pe_int (fun _ _ => rfl)) pa_nil)) (nomark _))
        (pss_cons (ps_set (i := 3) scLPick.nd rfl (.inl rfl) (pe_ix ix_list (pe_ix ix_list (pv 0) pe_int (fun _ _ => rfl)) (pe_ix ix_list (pv 0) pe_int (fun _ _ => rfl)) (fun _ _ => rfl)))
        (pss_one (ps_asg (pe_op op_add (pe_ix ix_list (pv 0) pe_int (fun _ _ => rfl)) pe_int) (pg_sub (pv 0) pe_int set_list)))) pss_nil)
      (pss_cons (ps_asg (pe_op op_add (pe_ix ix_list (pv 0) pe_int (fun _ _ => rfl)) pe_int) (pg_sub (pv 0) pe_int set_list))
      (pss_cons (ps_if (pt_cmpR op_ge (pe_callB call_abs (by rfl) ma (by decide +kernel) (pa_cons (pv 3) pa_nil)) (pe_op op_pow pe_int pe_int) (nomark _))
        (pss_cons (ps_asg (pe_op op_fdivW (pe_callB call_abs (by rfl) ma (by decide +kernel) (pa_cons (pv 3) pa_nil)) (pv 1)) (pg_sub (pv 0) pe_int set_list))
        (pss_one (ps_ret (pe_op op_mod (pe_callTy call_int1 (by rfl) mi (by decide +kernel) (pa_cons (pe_callB call_abs (by rfl) ma (by decide +kernel) (pa_cons (pv 3) pa_nil)) pa_nil)) (pv 1))))) pss_nil)
      (pss_cons (ps_set (i := 4) scLPick.nd rfl (.inl rfl) (pe_op op_mod (pe_callTy call_int1 (by rfl) mi (by decide +kernel) (pa_cons (pe_op op_add (pe_op op_add (pe_op op_add (pe_op op_mul (pe_ix ix_list (pv 0) pe_int (fun _ _ => rfl)) pe_int) (pe_op op_mul (pv 3) pe_int)) (pe_op op_mul (pe_ix ix_list (pv 0) pe_int (fun _ _ => rfl)) pe_int)) pe_int) pa_nil)) pe_int))
      (pss_cons (ps_set (i := 4) scLPick.nd rfl (.inl rfl) (pe_op op_mod (pe_callTy call_int1 (by rfl) mi (by decide +kernel) (pa_cons (pe_op op_add (pe_op op_add (pe_op op_mul (pv 4) (pv 4)) (pe_op op_mul (pv 3) pe_int)) (pe_ix ix_list (pv 0) pe_int (fun _ _ => rfl))) pa_nil)) pe_int))
      (pss_cons (ps_asg (pv 4) (pg_sub (pv 0) pe_int set_list))
      (pss_cons (ps_if (pt_cmpR op_gt (pv 1) pe_int (nomark _)) pss_never pss_nil)
      (pss_one (ps_ret (pe_op op_mod (pe_callTy call_int1 (by rfl) mi (by decide +kernel) (pa_cons (pe_op op_fdiv (pv 4) pe_int) pa_nil)) (pv 1)))))))))))), ?_⟩
    have wd : CDivW r many := wide_div (b := 1100) h1 (by omega) (by decide) (by decide)
    have S0 : SqL K H p [.ref sc, .int i, .int r, .int sd, .int c] := SqL.of hp
    -- what is left of a great number
    refine ⟨.ref p, rfl, p, _, 2, _, rfl, rfl, S0, atI_nat (j := 2) rfl, _, _, rfl, rfl, _, rfl, ite2 (fun e => ?_) (fun e => ?_)⟩
    · have er : 0 < r := of_decide_eq_true e
      refine ⟨.ref p, rfl, p, _, 2, _, rfl, rfl, S0, atI_nat (j := 2) rfl, .inl ⟨_, rfl, .int many, rfl, _, _, rfl, rfl, h1, ?_⟩⟩
      refine ⟨.ref p, rfl, p, _, 2, _, rfl, rfl, S0, atI_nat (j := 2) rfl, .inl ⟨_, rfl, .int many, rfl, _, _, rfl, rfl, wd, ?_⟩⟩
      refine ⟨.ref p, rfl, p, _, 2, 2, rfl, rfl, hp, rfl, ?_⟩
      exact ⟨_, rfl, q _ _ (Int.emod_nonneg _ (by omega)) (Int.emod_lt_of_pos _ h1)
        ⟨i, r / many, sd, c, rfl, hi, Int.ediv_nonneg hr0 (by omega), hs0, hs1⟩⟩
    · refine ⟨.ref p, rfl, p, _, 1, _, rfl, rfl, S0, atI_nat (j := 1) rfl, ?_⟩
      refine ⟨.ref p, rfl, p, _, 0, _, rfl, rfl, S0, atI_nat (j := 0) rfl, sc, _, rfl, .inl (SqL.of hsc), _, _, rfl, rfl, _, rfl,
        ite2 (fun e2 => ⟨.ref p, rfl, p, _, 0, _, rfl, rfl, S0, atI_nat (j := 0) rfl, .ref p, rfl, p, _, 1, _, rfl, rfl, S0, atI_nat (j := 1) rfl,
          sc, _, i, .int (ns.getD i.toNat 0), rfl, rfl, SqL.of hsc, ?_, ?_⟩) (fun e2 => ?_)⟩
      · have e3 : i < ((ns.map V.int).length : Int) := of_decide_eq_true e2
        rw [List.length_map] at e3
        have e4 : i.toNat < ns.length := by omega
        have e5 : i = ((i.toNat : Nat) : Int) := by omega
        rw [e5]
        refine atI_nat ?_
        rw [List.getElem?_map, List.getD_eq_getElem?_getD, Int.toNat_natCast, List.getElem?_eq_getElem e4]; rfl
      · refine ⟨.ref p, rfl, p, _, 1, _, rfl, rfl, S0, atI_nat (j := 1) rfl, _, _, rfl, rfl, .ref p, rfl, p, _, 1, 1, rfl, rfl, hp, rfl, ?_⟩
        have hp' : upd H p (.lst ([V.ref sc, .int i, .int r, .int sd, .int c].set 1 (.int (i + 1)))) p = some (.lst [.ref sc, .int (i + 1), .int r, .int sd, .int c]) := upd_same
        have q' : ∀ z o', 0 ≤ z → z < many → SrcO sc o' → Q (.int z) (upd (upd H p (.lst ([V.ref sc, .int i, .int r, .int sd, .int c].set 1 (.int (i + 1))))) p o') :=
          fun z o' a b d => by rw [upd_upd]; exact q z o' a b d
        have hsc' : upd H p (.lst ([V.ref sc, .int i, .int r, .int sd, .int c].set 1 (.int (i + 1)))) sc = some (.lst (ns.map V.int)) := by
          rw [upd_ne hne.symm]; exact hsc
        have hi' : 0 ≤ i + 1 := by omega
        generalize upd H p (.lst ([V.ref sc, .int i, .int r, .int sd, .int c].set 1 (.int (i + 1)))) = Hx at hp' q' hsc'
        generalize i + 1 = i' at hp' hi'
        generalize ns.getD i.toNat 0 = cell
        have S1 : SqL K Hx p [.ref sc, .int i', .int r, .int sd, .int c] := SqL.of hp'
        -- source[4] = source[4] + 1
        refine ⟨.ref p, rfl, p, _, 4, _, rfl, rfl, S1, atI_nat (j := 4) rfl, _, _, rfl, rfl, .ref p, rfl, p, _, 4, 4, rfl, rfl, hp', rfl, ?_⟩
        have hp2 : upd Hx p (.lst ([V.ref sc, .int i', .int r, .int sd, .int c].set 4 (.int (c + 1)))) p = some (.lst [.ref sc, .int i', .int r, .int sd, .int (c + 1)]) := upd_same
        have q2 : ∀ z o', 0 ≤ z → z < many → SrcO sc o' → Q (.int z) (upd (upd Hx p (.lst ([V.ref sc, .int i', .int r, .int sd, .int c].set 4 (.int (c + 1))))) p o') :=
          fun z o' a b d => by rw [upd_upd]; exact q' z o' a b d
        have hsc2 : upd Hx p (.lst ([V.ref sc, .int i', .int r, .int sd, .int c].set 4 (.int (c + 1)))) sc = some (.lst (ns.map V.int)) := by
          rw [upd_ne hne.symm]; exact hsc'
        generalize upd Hx p (.lst ([V.ref sc, .int i', .int r, .int sd, .int c].set 4 (.int (c + 1)))) = Hy at hp2 q2 hsc2
        generalize c + 1 = c' at hp2
        have S2 : SqL K Hy p [.ref sc, .int i', .int r, .int sd, .int c'] := SqL.of hp2
        have ab : 0 ≤ (if cell < 0 then -cell else cell) := by split <;> omega
        -- abs(cell) >= 10 ** 18
        refine ⟨_, rfl, _, rfl, _, _, rfl, rfl, ⟨by decide, by decide, by decide⟩, _, _, rfl, rfl, _, rfl, ite2 (fun e3 => ?_) (fun e3 => ?_)⟩
        · refine ⟨_, rfl, _, rfl, .int many, rfl, _, _, rfl, rfl, wide_div (b := 1100) h1 (by omega) (by decide) (by decide), ?_⟩
          refine ⟨.ref p, rfl, p, _, 2, 2, rfl, rfl, hp2, rfl, ?_⟩
          refine ⟨_, rfl, _, rfl, .inl ⟨_, rfl, .int many, rfl, _, _, rfl, rfl, h1, ?_⟩⟩
          exact q2 _ _ (Int.emod_nonneg _ (by omega)) (Int.emod_lt_of_pos _ h1)
            ⟨i', _, sd, c', rfl, hi', Int.ediv_nonneg ab (by omega), hs0, hs1⟩
        · refine ⟨.ref p, rfl, p, _, 3, _, rfl, rfl, S2, atI_nat (j := 3) rfl, _, _, rfl, rfl, .inl ⟨by omega, by omega⟩, _, rfl, _, _, rfl, rfl, .inr ⟨by decide, by decide⟩,
            _, _, rfl, rfl, .ref p, rfl, p, _, 4, _, rfl, rfl, S2, atI_nat (j := 4) rfl, _, _, rfl, rfl, .inr ⟨by decide, by decide⟩, _, _, rfl, rfl, _, _, rfl, rfl,
            .inl ⟨_, rfl, _, _, rfl, rfl, ?_, ?_⟩⟩
          · show (0 : Int) < 1000000007
            decide
          have a0 := Int.emod_nonneg (sd * 25214 + cell * 71863 + c' * 30011 + 523) (show (1000000007 : Int) ≠ 0 by decide)
          have a1 := Int.emod_lt_of_pos (sd * 25214 + cell * 71863 + c' * 30011 + 523) (show (0 : Int) < 1000000007 by decide)
          generalize hm : (sd * 25214 + cell * 71863 + c' * 30011 + 523) % 1000000007 = m at a0 a1
          refine ⟨.int m, by rw [← hm]; rfl, .int m, by rw [← hm]; rfl, _, _, rfl, rfl, .inl ⟨by omega, by omega⟩, _, rfl, _, _, rfl, rfl, .inr ⟨by decide, by decide⟩,
            _, _, rfl, rfl, .ref p, rfl, p, _, 4, _, rfl, rfl, S2, atI_nat (j := 4) rfl, _, _, rfl, rfl, .inl ⟨_, rfl, _, _, rfl, rfl, ?_, ?_⟩⟩
          · show (0 : Int) < 998244353
            decide
          have b0 := Int.emod_nonneg (m * m + cell * 13 + c') (show (998244353 : Int) ≠ 0 by decide)
          have b1 := Int.emod_lt_of_pos (m * m + cell * 13 + c') (show (0 : Int) < 998244353 by decide)
          generalize hn : (m * m + cell * 13 + c') % 998244353 = m2 at b0 b1
          -- source[3] = mixed
          refine ⟨.int m2, by rw [← hn]; rfl, .ref p, rfl, p, _, 3, 3, rfl, rfl, hp2, rfl, ?_⟩
          have hp3 : upd Hy p (.lst ([V.ref sc, .int i', .int r, .int sd, .int c'].set 3 (.int m2))) p = some (.lst [.ref sc, .int i', .int r, .int m2, .int c']) := upd_same
          have q3 : ∀ z o', 0 ≤ z → z < many → SrcO sc o' → Q (.int z) (upd (upd Hy p (.lst ([V.ref sc, .int i', .int r, .int sd, .int c'].set 3 (.int m2)))) p o') :=
            fun z o' a b d => by rw [upd_upd]; exact q2 z o' a b d
          have hsc3 : upd Hy p (.lst ([V.ref sc, .int i', .int r, .int sd, .int c'].set 3 (.int m2))) sc = some (.lst (ns.map V.int)) := by
            rw [upd_ne hne.symm]; exact hsc2
          have so3 : SrcO sc (.lst [.ref sc, .int i', .int r, .int m2, .int c']) := ⟨i', r, m2, c', rfl, hi', hr0, b0, by omega⟩
          have eo : upd (upd Hy p (.lst ([V.ref sc, .int i', .int r, .int sd, .int c'].set 3 (.int m2)))) p (.lst [.ref sc, .int i', .int r, .int m2, .int c']) =
            upd Hy p (.lst ([V.ref sc, .int i', .int r, .int sd, .int c'].set 3 (.int m2))) := by rw [upd_upd]; rfl
          refine ⟨.int many, rfl, _, _, rfl, rfl, _, rfl, ite2 (fun e4 => ?_) (fun e4 => ?_)⟩
          · have e5 : 100000 < many := of_decide_eq_true e4
            have : many ≤ 100000 := h2
            omega
          · refine ⟨.int m2, by rw [← hn]; rfl, _, _, rfl, rfl, ⟨by decide, by decide⟩, .inl ⟨_, rfl, .int many, rfl, _, _, rfl, rfl, h1, ?_⟩⟩
            have q4 := q3 (m2 / 7 % many) (.lst [.ref sc, .int i', .int r, .int m2, .int c']) (Int.emod_nonneg _ (by omega)) (Int.emod_lt_of_pos _ h1) so3
            rw [eo] at q4
            exact q4
      · have hp' := hp
        have q' : ∀ z o', 0 ≤ z → z < many → SrcO sc o' → Q (.int z) (upd H p o') := q
        have hsc' := hsc
        have hi' := hi
        have S1 : SqL K H p [.ref sc, .int i, .int r, .int sd, .int c] := SqL.of hp'
        -- source[4] = source[4] + 1
        refine ⟨.ref p, rfl, p, _, 4, _, rfl, rfl, S1, atI_nat (j := 4) rfl, _, _, rfl, rfl, .ref p, rfl, p, _, 4, 4, rfl, rfl, hp', rfl, ?_⟩
        have hp2 : upd H p (.lst ([V.ref sc, .int i, .int r, .int sd, .int c].set 4 (.int (c + 1)))) p = some (.lst [.ref sc, .int i, .int r, .int sd, .int (c + 1)]) := upd_same
        have q2 : ∀ z o', 0 ≤ z → z < many → SrcO sc o' → Q (.int z) (upd (upd H p (.lst ([V.ref sc, .int i, .int r, .int sd, .int c].set 4 (.int (c + 1))))) p o') :=
          fun z o' a b d => by rw [upd_upd]; exact q' z o' a b d
        have hsc2 : upd H p (.lst ([V.ref sc, .int i, .int r, .int sd, .int c].set 4 (.int (c + 1)))) sc = some (.lst (ns.map V.int)) := by
          rw [upd_ne hne.symm]; exact hsc'
        generalize upd H p (.lst ([V.ref sc, .int i, .int r, .int sd, .int c].set 4 (.int (c + 1)))) = Hy at hp2 q2 hsc2
        generalize c + 1 = c' at hp2
        have S2 : SqL K Hy p [.ref sc, .int i, .int r, .int sd, .int c'] := SqL.of hp2
        have ab : 0 ≤ (if (0 : Int) < 0 then -(0 : Int) else (0 : Int)) := by split <;> omega
        -- abs(cell) >= 10 ** 18
        refine ⟨_, rfl, _, rfl, _, _, rfl, rfl, ⟨by decide, by decide, by decide⟩, _, _, rfl, rfl, _, rfl, ite2 (fun e3 => ?_) (fun e3 => ?_)⟩
        · refine ⟨_, rfl, _, rfl, .int many, rfl, _, _, rfl, rfl, wide_div (b := 1100) h1 (by omega) (by decide) (by decide), ?_⟩
          refine ⟨.ref p, rfl, p, _, 2, 2, rfl, rfl, hp2, rfl, ?_⟩
          refine ⟨_, rfl, _, rfl, .inl ⟨_, rfl, .int many, rfl, _, _, rfl, rfl, h1, ?_⟩⟩
          exact q2 _ _ (Int.emod_nonneg _ (by omega)) (Int.emod_lt_of_pos _ h1)
            ⟨i, _, sd, c', rfl, hi, Int.ediv_nonneg ab (by omega), hs0, hs1⟩
        · refine ⟨.ref p, rfl, p, _, 3, _, rfl, rfl, S2, atI_nat (j := 3) rfl, _, _, rfl, rfl, .inl ⟨by omega, by omega⟩, _, rfl, _, _, rfl, rfl, .inr ⟨by decide, by decide⟩,
            _, _, rfl, rfl, .ref p, rfl, p, _, 4, _, rfl, rfl, S2, atI_nat (j := 4) rfl, _, _, rfl, rfl, .inr ⟨by decide, by decide⟩, _, _, rfl, rfl, _, _, rfl, rfl,
            .inl ⟨_, rfl, _, _, rfl, rfl, ?_, ?_⟩⟩
          · show (0 : Int) < 1000000007
            decide
          have a0 := Int.emod_nonneg (sd * 25214 + (0 : Int) * 71863 + c' * 30011 + 523) (show (1000000007 : Int) ≠ 0 by decide)
          have a1 := Int.emod_lt_of_pos (sd * 25214 + (0 : Int) * 71863 + c' * 30011 + 523) (show (0 : Int) < 1000000007 by decide)
          generalize hm : (sd * 25214 + (0 : Int) * 71863 + c' * 30011 + 523) % 1000000007 = m at a0 a1
          refine ⟨.int m, by rw [← hm]; rfl, .int m, by rw [← hm]; rfl, _, _, rfl, rfl, .inl ⟨by omega, by omega⟩, _, rfl, _, _, rfl, rfl, .inr ⟨by decide, by decide⟩,
            _, _, rfl, rfl, .ref p, rfl, p, _, 4, _, rfl, rfl, S2, atI_nat (j := 4) rfl, _, _, rfl, rfl, .inl ⟨_, rfl, _, _, rfl, rfl, ?_, ?_⟩⟩
          · show (0 : Int) < 998244353
            decide
          have b0 := Int.emod_nonneg (m * m + (0 : Int) * 13 + c') (show (998244353 : Int) ≠ 0 by decide)
          have b1 := Int.emod_lt_of_pos (m * m + (0 : Int) * 13 + c') (show (0 : Int) < 998244353 by decide)
          generalize hn : (m * m + (0 : Int) * 13 + c') % 998244353 = m2 at b0 b1
          -- source[3] = mixed
          refine ⟨.int m2, by rw [← hn]; rfl, .ref p, rfl, p, _, 3, 3, rfl, rfl, hp2, rfl, ?_⟩
          have hp3 : upd Hy p (.lst ([V.ref sc, .int i, .int r, .int sd, .int c'].set 3 (.int m2))) p = some (.lst [.ref sc, .int i, .int r, .int m2, .int c']) := upd_same
          have q3 : ∀ z o', 0 ≤ z → z < many → SrcO sc o' → Q (.int z) (upd (upd Hy p (.lst ([V.ref sc, .int i, .int r, .int sd, .int c'].set 3 (.int m2)))) p o') :=
            fun z o' a b d => by rw [upd_upd]; exact q2 z o' a b d
          have hsc3 : upd Hy p (.lst ([V.ref sc, .int i, .int r, .int sd, .int c'].set 3 (.int m2))) sc = some (.lst (ns.map V.int)) := by
            rw [upd_ne hne.symm]; exact hsc2
          have so3 : SrcO sc (.lst [.ref sc, .int i, .int r, .int m2, .int c']) := ⟨i, r, m2, c', rfl, hi, hr0, b0, by omega⟩
          have eo : upd (upd Hy p (.lst ([V.ref sc, .int i, .int r, .int sd, .int c'].set 3 (.int m2)))) p (.lst [.ref sc, .int i, .int r, .int m2, .int c']) =
            upd Hy p (.lst ([V.ref sc, .int i, .int r, .int sd, .int c'].set 3 (.int m2))) := by rw [upd_upd]; rfl
          refine ⟨.int many, rfl, _, _, rfl, rfl, _, rfl, ite2 (fun e4 => ?_) (fun e4 => ?_)⟩
          · have e5 : 100000 < many := of_decide_eq_true e4
            have : many ≤ 100000 := h2
            omega
          · refine ⟨.int m2, by rw [← hn]; rfl, _, _, rfl, rfl, ⟨by decide, by decide⟩, .inl ⟨_, rfl, .int many, rfl, _, _, rfl, rfl, h1, ?_⟩⟩
            have q4 := q3 (m2 / 7 % many) (.lst [.ref sc, .int i, .int r, .int m2, .int c']) (Int.emod_nonneg _ (by omega)) (Int.emod_lt_of_pos _ h1) so3
            rw [eo] at q4
            exact q4
theorem ok_pick1 {n : Nat} {f : Addr} {fd : FuncData} (F : Fun K "_law_pick" "_law_pick" sLPick f fd) (bF : Binds K fd ["source", "many"] [])
    (gF : mg "_law_pick" = some (.ref f)) (mi : mg "int" = none) (ml : mg "len" = none) (ma : mg "abs" = none)
    (G : FnOk P w K mg base CX0 (n + 1) f fd ["source", "many"] (spPick n)) : FnOk P w K mg base CX0 (n + 1 + 1) f fd ["source", "many"] (spPick (n + 1)) := by
  refine F.ok scLPick (fun vs H Q E h => ?_) (fun cdv A outer s H vs Q E hr h => ?_)
  · obtain ⟨p, sc, ns, many, rfl, _⟩ := h
    rfl
  · obtain ⟨p, sc, ns, many, rfl, h1, h2, h3, ⟨hne, hsc, o, hp, i, r, sd, c, rfl, hi, hr0, hs0, hs1⟩, q⟩ := h
    refine ⟨_, pss_cons (ps_if (pt_cmpR op_gt (pe_ix ix_list (pv 0) pe_int (fun _ _ => rfl)) pe_int (nomark _))
        (pss_cons (ps_set (i := 2) scLPick.nd rfl (.inl rfl) (pe_op op_mod (pe_callTy call_int1 (by rfl) mi (by decide +kernel) (pa_cons (pe_ix ix_list (pv 0) pe_int (fun _ _ => rfl)) pa_nil)) (pv 1)))
        (pss_cons (ps_asg (pe_op op_fdivW (pe_callTy call_int1 (by rfl) mi (by decide +kernel) (pa_cons (pe_ix ix_list (pv 0) pe_int (fun _ _ => rfl)) pa_nil)) (pv 1)) (pg_sub (pv 0) pe_int set_list))
        (pss_one (ps_ret (pv 2))))) pss_nil)
      (pss_cons (ps_set (i := 3) scLPick.nd rfl (.inl rfl) pe_int)
      (pss_cons (ps_if (pt_cmpR op_lt (pe_ix ix_list (pv 0) pe_int (fun _ _ => rfl)) (pe_callB call_len_seq (by rfl) ml PySem.boot_len (pa_cons (pe_ix ix_list (pv 0) pe_int (fun _ _ => rfl)) pa_nil)) (nomark _))
        (pss_cons (ps_set (i := 3) scLPick.nd rfl (.inl rfl) (pe_ix ix_list (pe_ix ix_list (pv 0) pe_int (fun _ _ => rfl)) (pe_ix ix_list (pv 0) pe_int (fun _ _ => rfl)) (fun _ _ => rfl)))
        (pss_one (ps_asg (pe_op op_add (pe_ix ix_list (pv 0) pe_int (fun _ _ => rfl)) pe_int) (pg_sub (pv 0) pe_int set_list)))) pss_nil)
      (pss_cons (ps_asg (pe_op op_add (pe_ix ix_list (pv 0) pe_int (fun _ _ => rfl)) pe_int) (pg_sub (pv 0) pe_int set_list))
      (pss_cons (ps_if (pt_cmpR op_ge (pe_callB call_abs (by rfl) ma (by decide +kernel) (pa_cons (pv 3) pa_nil)) (pe_op op_pow pe_int pe_int) (nomark _))
        (pss_cons (ps_asg (pe_op op_fdivW (pe_callB call_abs (by rfl) ma (by decide +kernel) (pa_cons (pv 3) pa_nil)) (pv 1)) (pg_sub (pv 0) pe_int set_list))
        (pss_one (ps_ret (pe_op op_mod (pe_callTy call_int1 (by rfl) mi (by decide +kernel) (pa_cons (pe_callB call_abs (by rfl) ma (by decide +kernel) (pa_cons (pv 3) pa_nil)) pa_nil)) (pv 1))))) pss_nil)
      (pss_cons (ps_set (i := 4) scLPick.nd rfl (.inl rfl) (pe_op op_mod (pe_callTy call_int1 (by rfl) mi (by decide +kernel) (pa_cons (pe_op op_add (pe_op op_add (pe_op op_add (pe_op op_mul (pe_ix ix_list (pv 0) pe_int (fun _ _ => rfl)) pe_int) (pe_op op_mul (pv 3) pe_int)) (pe_op op_mul (pe_ix ix_list (pv 0) pe_int (fun _ _ => rfl)) pe_int)) pe_int) pa_nil)) pe_int))
      (pss_cons (ps_set (i := 4) scLPick.nd rfl (.inl rfl) (pe_op op_mod (pe_callTy call_int1 (by rfl) mi (by decide +kernel) (pa_cons (pe_op op_add (pe_op op_add (pe_op op_mul (pv 4) (pv 4)) (pe_op op_mul (pv 3) pe_int)) (pe_ix ix_list (pv 0) pe_int (fun _ _ => rfl))) pa_nil)) pe_int))
      (pss_cons (ps_asg (pv 4) (pg_sub (pv 0) pe_int set_list))
      (pss_cons (ps_if (pt_cmpR op_gt (pv 1) pe_int (nomark _)) (pss_one (ps_ret (pe_op op_mod (pe_callTy call_int1 (by rfl) mi (by decide +kernel) (pa_cons (pe_op op_add (pe_op op_mod (pe_op op_fdiv (pv 4) pe_int) pe_int) (pe_op op_mul pe_int (pe_call G (hr.mono (by omega)) (by rfl) gF F.kp bF .nil pass0
            (pa_cons (pv 0) (pa_cons (pe_op op_add (pe_op op_fdiv (pv 1) pe_int) pe_int) pa_nil))))) pa_nil)) (pv 1)))) pss_nil)
      (pss_one (ps_ret (pe_op op_mod (pe_callTy call_int1 (by rfl) mi (by decide +kernel) (pa_cons (pe_op op_fdiv (pv 4) pe_int) pa_nil)) (pv 1)))))))))))), ?_⟩
    have wd : CDivW r many := wide_div (b := 1100) h1 (by omega) (by decide) (by decide)
    have S0 : SqL K H p [.ref sc, .int i, .int r, .int sd, .int c] := SqL.of hp
    -- what is left of a great number
    refine ⟨.ref p, rfl, p, _, 2, _, rfl, rfl, S0, atI_nat (j := 2) rfl, _, _, rfl, rfl, _, rfl, ite2 (fun e => ?_) (fun e => ?_)⟩
    · have er : 0 < r := of_decide_eq_true e
      refine ⟨.ref p, rfl, p, _, 2, _, rfl, rfl, S0, atI_nat (j := 2) rfl, .inl ⟨_, rfl, .int many, rfl, _, _, rfl, rfl, h1, ?_⟩⟩
      refine ⟨.ref p, rfl, p, _, 2, _, rfl, rfl, S0, atI_nat (j := 2) rfl, .inl ⟨_, rfl, .int many, rfl, _, _, rfl, rfl, wd, ?_⟩⟩
      refine ⟨.ref p, rfl, p, _, 2, 2, rfl, rfl, hp, rfl, ?_⟩
      exact ⟨_, rfl, q _ _ (Int.emod_nonneg _ (by omega)) (Int.emod_lt_of_pos _ h1)
        ⟨i, r / many, sd, c, rfl, hi, Int.ediv_nonneg hr0 (by omega), hs0, hs1⟩⟩
    · refine ⟨.ref p, rfl, p, _, 1, _, rfl, rfl, S0, atI_nat (j := 1) rfl, ?_⟩
      refine ⟨.ref p, rfl, p, _, 0, _, rfl, rfl, S0, atI_nat (j := 0) rfl, sc, _, rfl, .inl (SqL.of hsc), _, _, rfl, rfl, _, rfl,
        ite2 (fun e2 => ⟨.ref p, rfl, p, _, 0, _, rfl, rfl, S0, atI_nat (j := 0) rfl, .ref p, rfl, p, _, 1, _, rfl, rfl, S0, atI_nat (j := 1) rfl,
          sc, _, i, .int (ns.getD i.toNat 0), rfl, rfl, SqL.of hsc, ?_, ?_⟩) (fun e2 => ?_)⟩
      · have e3 : i < ((ns.map V.int).length : Int) := of_decide_eq_true e2
        rw [List.length_map] at e3
        have e4 : i.toNat < ns.length := by omega
        have e5 : i = ((i.toNat : Nat) : Int) := by omega
        rw [e5]
        refine atI_nat ?_
        rw [List.getElem?_map, List.getD_eq_getElem?_getD, Int.toNat_natCast, List.getElem?_eq_getElem e4]; rfl
      · refine ⟨.ref p, rfl, p, _, 1, _, rfl, rfl, S0, atI_nat (j := 1) rfl, _, _, rfl, rfl, .ref p, rfl, p, _, 1, 1, rfl, rfl, hp, rfl, ?_⟩
        have hp' : upd H p (.lst ([V.ref sc, .int i, .int r, .int sd, .int c].set 1 (.int (i + 1)))) p = some (.lst [.ref sc, .int (i + 1), .int r, .int sd, .int c]) := upd_same
        have q' : ∀ z o', 0 ≤ z → z < many → SrcO sc o' → Q (.int z) (upd (upd H p (.lst ([V.ref sc, .int i, .int r, .int sd, .int c].set 1 (.int (i + 1))))) p o') :=
          fun z o' a b d => by rw [upd_upd]; exact q z o' a b d
        have hsc' : upd H p (.lst ([V.ref sc, .int i, .int r, .int sd, .int c].set 1 (.int (i + 1)))) sc = some (.lst (ns.map V.int)) := by
          rw [upd_ne hne.symm]; exact hsc
        have hi' : 0 ≤ i + 1 := by omega
        generalize upd H p (.lst ([V.ref sc, .int i, .int r, .int sd, .int c].set 1 (.int (i + 1)))) = Hx at hp' q' hsc'
        generalize i + 1 = i' at hp' hi'
        generalize ns.getD i.toNat 0 = cell
        have S1 : SqL K Hx p [.ref sc, .int i', .int r, .int sd, .int c] := SqL.of hp'
        -- source[4] = source[4] + 1
        refine ⟨.ref p, rfl, p, _, 4, _, rfl, rfl, S1, atI_nat (j := 4) rfl, _, _, rfl, rfl, .ref p, rfl, p, _, 4, 4, rfl, rfl, hp', rfl, ?_⟩
        have hp2 : upd Hx p (.lst ([V.ref sc, .int i', .int r, .int sd, .int c].set 4 (.int (c + 1)))) p = some (.lst [.ref sc, .int i', .int r, .int sd, .int (c + 1)]) := upd_same
        have q2 : ∀ z o', 0 ≤ z → z < many → SrcO sc o' → Q (.int z) (upd (upd Hx p (.lst ([V.ref sc, .int i', .int r, .int sd, .int c].set 4 (.int (c + 1))))) p o') :=
          fun z o' a b d => by rw [upd_upd]; exact q' z o' a b d
        have hsc2 : upd Hx p (.lst ([V.ref sc, .int i', .int r, .int sd, .int c].set 4 (.int (c + 1)))) sc = some (.lst (ns.map V.int)) := by
          rw [upd_ne hne.symm]; exact hsc'
        generalize upd Hx p (.lst ([V.ref sc, .int i', .int r, .int sd, .int c].set 4 (.int (c + 1)))) = Hy at hp2 q2 hsc2
        generalize c + 1 = c' at hp2
        have S2 : SqL K Hy p [.ref sc, .int i', .int r, .int sd, .int c'] := SqL.of hp2
        have ab : 0 ≤ (if cell < 0 then -cell else cell) := by split <;> omega
        -- abs(cell) >= 10 ** 18
        refine ⟨_, rfl, _, rfl, _, _, rfl, rfl, ⟨by decide, by decide, by decide⟩, _, _, rfl, rfl, _, rfl, ite2 (fun e3 => ?_) (fun e3 => ?_)⟩
        · refine ⟨_, rfl, _, rfl, .int many, rfl, _, _, rfl, rfl, wide_div (b := 1100) h1 (by omega) (by decide) (by decide), ?_⟩
          refine ⟨.ref p, rfl, p, _, 2, 2, rfl, rfl, hp2, rfl, ?_⟩
          refine ⟨_, rfl, _, rfl, .inl ⟨_, rfl, .int many, rfl, _, _, rfl, rfl, h1, ?_⟩⟩
          exact q2 _ _ (Int.emod_nonneg _ (by omega)) (Int.emod_lt_of_pos _ h1)
            ⟨i', _, sd, c', rfl, hi', Int.ediv_nonneg ab (by omega), hs0, hs1⟩
        · refine ⟨.ref p, rfl, p, _, 3, _, rfl, rfl, S2, atI_nat (j := 3) rfl, _, _, rfl, rfl, .inl ⟨by omega, by omega⟩, _, rfl, _, _, rfl, rfl, .inr ⟨by decide, by decide⟩,
            _, _, rfl, rfl, .ref p, rfl, p, _, 4, _, rfl, rfl, S2, atI_nat (j := 4) rfl, _, _, rfl, rfl, .inr ⟨by decide, by decide⟩, _, _, rfl, rfl, _, _, rfl, rfl,
            .inl ⟨_, rfl, _, _, rfl, rfl, ?_, ?_⟩⟩
          · show (0 : Int) < 1000000007
            decide
          have a0 := Int.emod_nonneg (sd * 25214 + cell * 71863 + c' * 30011 + 523) (show (1000000007 : Int) ≠ 0 by decide)
          have a1 := Int.emod_lt_of_pos (sd * 25214 + cell * 71863 + c' * 30011 + 523) (show (0 : Int) < 1000000007 by decide)
          generalize hm : (sd * 25214 + cell * 71863 + c' * 30011 + 523) % 1000000007 = m at a0 a1
          refine ⟨.int m, by rw [← hm]; rfl, .int m, by rw [← hm]; rfl, _, _, rfl, rfl, .inl ⟨by omega, by omega⟩, _, rfl, _, _, rfl, rfl, .inr ⟨by decide, by decide⟩,
            _, _, rfl, rfl, .ref p, rfl, p, _, 4, _, rfl, rfl, S2, atI_nat (j := 4) rfl, _, _, rfl, rfl, .inl ⟨_, rfl, _, _, rfl, rfl, ?_, ?_⟩⟩
          · show (0 : Int) < 998244353
            decide
          have b0 := Int.emod_nonneg (m * m + cell * 13 + c') (show (998244353 : Int) ≠ 0 by decide)
          have b1 := Int.emod_lt_of_pos (m * m + cell * 13 + c') (show (0 : Int) < 998244353 by decide)
          generalize hn : (m * m + cell * 13 + c') % 998244353 = m2 at b0 b1
          -- source[3] = mixed
          refine ⟨.int m2, by rw [← hn]; rfl, .ref p, rfl, p, _, 3, 3, rfl, rfl, hp2, rfl, ?_⟩
          have hp3 : upd Hy p (.lst ([V.ref sc, .int i', .int r, .int sd, .int c'].set 3 (.int m2))) p = some (.lst [.ref sc, .int i', .int r, .int m2, .int c']) := upd_same
          have q3 : ∀ z o', 0 ≤ z → z < many → SrcO sc o' → Q (.int z) (upd (upd Hy p (.lst ([V.ref sc, .int i', .int r, .int sd, .int c'].set 3 (.int m2)))) p o') :=
            fun z o' a b d => by rw [upd_upd]; exact q2 z o' a b d
          have hsc3 : upd Hy p (.lst ([V.ref sc, .int i', .int r, .int sd, .int c'].set 3 (.int m2))) sc = some (.lst (ns.map V.int)) := by
            rw [upd_ne hne.symm]; exact hsc2
          have so3 : SrcO sc (.lst [.ref sc, .int i', .int r, .int m2, .int c']) := ⟨i', r, m2, c', rfl, hi', hr0, b0, by omega⟩
          have eo : upd (upd Hy p (.lst ([V.ref sc, .int i', .int r, .int sd, .int c'].set 3 (.int m2)))) p (.lst [.ref sc, .int i', .int r, .int m2, .int c']) =
            upd Hy p (.lst ([V.ref sc, .int i', .int r, .int sd, .int c'].set 3 (.int m2))) := by rw [upd_upd]; rfl
          refine ⟨.int many, rfl, _, _, rfl, rfl, _, rfl, ite2 (fun e4 => ?_) (fun e4 => ?_)⟩
          · have e5 : 100000 < many := of_decide_eq_true e4
            refine ⟨.int m2, by rw [← hn]; rfl, _, _, rfl, rfl, ⟨by decide, by decide⟩, _, _, rfl, rfl, ?_, ?_⟩
            · show (0 : Int) < 100000
              decide
            refine ⟨.ref p, rfl, .int many, rfl, _, _, rfl, rfl, ⟨by decide, by decide⟩, _, _, rfl, rfl, p, sc, ns, many / 100000 + 1, rfl, by omega, ?_, by omega,
              ⟨hne, hsc3, _, hp3, so3⟩, fun z o3 z0 z1 so => ?_⟩
            · have : many ≤ 100000 * (most n - 1) := h2
              omega
            refine ⟨_, _, rfl, rfl, .inl ⟨by decide, by decide⟩, _, _, rfl, rfl, .inl ⟨_, rfl, .int many, rfl, _, _, rfl, rfl, h1, ?_⟩⟩
            exact q3 _ _ (Int.emod_nonneg _ (by omega)) (Int.emod_lt_of_pos _ h1) so
          · refine ⟨.int m2, by rw [← hn]; rfl, _, _, rfl, rfl, ⟨by decide, by decide⟩, .inl ⟨_, rfl, .int many, rfl, _, _, rfl, rfl, h1, ?_⟩⟩
            have q4 := q3 (m2 / 7 % many) (.lst [.ref sc, .int i', .int r, .int m2, .int c']) (Int.emod_nonneg _ (by omega)) (Int.emod_lt_of_pos _ h1) so3
            rw [eo] at q4
            exact q4
      · have hp' := hp
        have q' : ∀ z o', 0 ≤ z → z < many → SrcO sc o' → Q (.int z) (upd H p o') := q
        have hsc' := hsc
        have hi' := hi
        have S1 : SqL K H p [.ref sc, .int i, .int r, .int sd, .int c] := SqL.of hp'
        -- source[4] = source[4] + 1
        refine ⟨.ref p, rfl, p, _, 4, _, rfl, rfl, S1, atI_nat (j := 4) rfl, _, _, rfl, rfl, .ref p, rfl, p, _, 4, 4, rfl, rfl, hp', rfl, ?_⟩
        have hp2 : upd H p (.lst ([V.ref sc, .int i, .int r, .int sd, .int c].set 4 (.int (c + 1)))) p = some (.lst [.ref sc, .int i, .int r, .int sd, .int (c + 1)]) := upd_same
        have q2 : ∀ z o', 0 ≤ z → z < many → SrcO sc o' → Q (.int z) (upd (upd H p (.lst ([V.ref sc, .int i, .int r, .int sd, .int c].set 4 (.int (c + 1))))) p o') :=
          fun z o' a b d => by rw [upd_upd]; exact q' z o' a b d
        have hsc2 : upd H p (.lst ([V.ref sc, .int i, .int r, .int sd, .int c].set 4 (.int (c + 1)))) sc = some (.lst (ns.map V.int)) := by
          rw [upd_ne hne.symm]; exact hsc'
        generalize upd H p (.lst ([V.ref sc, .int i, .int r, .int sd, .int c].set 4 (.int (c + 1)))) = Hy at hp2 q2 hsc2
        generalize c + 1 = c' at hp2
        have S2 : SqL K Hy p [.ref sc, .int i, .int r, .int sd, .int c'] := SqL.of hp2
        have ab : 0 ≤ (if (0 : Int) < 0 then -(0 : Int) else (0 : Int)) := by split <;> omega
        -- abs(cell) >= 10 ** 18
        refine ⟨_, rfl, _, rfl, _, _, rfl, rfl, ⟨by decide, by decide, by decide⟩, _, _, rfl, rfl, _, rfl, ite2 (fun e3 => ?_) (fun e3 => ?_)⟩
        · refine ⟨_, rfl, _, rfl, .int many, rfl, _, _, rfl, rfl, wide_div (b := 1100) h1 (by omega) (by decide) (by decide), ?_⟩
          refine ⟨.ref p, rfl, p, _, 2, 2, rfl, rfl, hp2, rfl, ?_⟩
          refine ⟨_, rfl, _, rfl, .inl ⟨_, rfl, .int many, rfl, _, _, rfl, rfl, h1, ?_⟩⟩
          exact q2 _ _ (Int.emod_nonneg _ (by omega)) (Int.emod_lt_of_pos _ h1)
            ⟨i, _, sd, c', rfl, hi, Int.ediv_nonneg ab (by omega), hs0, hs1⟩
        · refine ⟨.ref p, rfl, p, _, 3, _, rfl, rfl, S2, atI_nat (j := 3) rfl, _, _, rfl, rfl, .inl ⟨by omega, by omega⟩, _, rfl, _, _, rfl, rfl, .inr ⟨by decide, by decide⟩,
            _, _, rfl, rfl, .ref p, rfl, p, _, 4, _, rfl, rfl, S2, atI_nat (j := 4) rfl, _, _, rfl, rfl, .inr ⟨by decide, by decide⟩, _, _, rfl, rfl, _, _, rfl, rfl,
            .inl ⟨_, rfl, _, _, rfl, rfl, ?_, ?_⟩⟩
          · show (0 : Int) < 1000000007
            decide
          have a0 := Int.emod_nonneg (sd * 25214 + (0 : Int) * 71863 + c' * 30011 + 523) (show (1000000007 : Int) ≠ 0 by decide)
          have a1 := Int.emod_lt_of_pos (sd * 25214 + (0 : Int) * 71863 + c' * 30011 + 523) (show (0 : Int) < 1000000007 by decide)
          generalize hm : (sd * 25214 + (0 : Int) * 71863 + c' * 30011 + 523) % 1000000007 = m at a0 a1
          refine ⟨.int m, by rw [← hm]; rfl, .int m, by rw [← hm]; rfl, _, _, rfl, rfl, .inl ⟨by omega, by omega⟩, _, rfl, _, _, rfl, rfl, .inr ⟨by decide, by decide⟩,
            _, _, rfl, rfl, .ref p, rfl, p, _, 4, _, rfl, rfl, S2, atI_nat (j := 4) rfl, _, _, rfl, rfl, .inl ⟨_, rfl, _, _, rfl, rfl, ?_, ?_⟩⟩
          · show (0 : Int) < 998244353
            decide
          have b0 := Int.emod_nonneg (m * m + (0 : Int) * 13 + c') (show (998244353 : Int) ≠ 0 by decide)
          have b1 := Int.emod_lt_of_pos (m * m + (0 : Int) * 13 + c') (show (0 : Int) < 998244353 by decide)
          generalize hn : (m * m + (0 : Int) * 13 + c') % 998244353 = m2 at b0 b1
          -- source[3] = mixed
          refine ⟨.int m2, by rw [← hn]; rfl, .ref p, rfl, p, _, 3, 3, rfl, rfl, hp2, rfl, ?_⟩
          have hp3 : upd Hy p (.lst ([V.ref sc, .int i, .int r, .int sd, .int c'].set 3 (.int m2))) p = some (.lst [.ref sc, .int i, .int r, .int m2, .int c']) := upd_same
          have q3 : ∀ z o', 0 ≤ z → z < many → SrcO sc o' → Q (.int z) (upd (upd Hy p (.lst ([V.ref sc, .int i, .int r, .int sd, .int c'].set 3 (.int m2)))) p o') :=
            fun z o' a b d => by rw [upd_upd]; exact q2 z o' a b d
          have hsc3 : upd Hy p (.lst ([V.ref sc, .int i, .int r, .int sd, .int c'].set 3 (.int m2))) sc = some (.lst (ns.map V.int)) := by
            rw [upd_ne hne.symm]; exact hsc2
          have so3 : SrcO sc (.lst [.ref sc, .int i, .int r, .int m2, .int c']) := ⟨i, r, m2, c', rfl, hi, hr0, b0, by omega⟩
          have eo : upd (upd Hy p (.lst ([V.ref sc, .int i, .int r, .int sd, .int c'].set 3 (.int m2)))) p (.lst [.ref sc, .int i, .int r, .int m2, .int c']) =
            upd Hy p (.lst ([V.ref sc, .int i, .int r, .int sd, .int c'].set 3 (.int m2))) := by rw [upd_upd]; rfl
          refine ⟨.int many, rfl, _, _, rfl, rfl, _, rfl, ite2 (fun e4 => ?_) (fun e4 => ?_)⟩
          · have e5 : 100000 < many := of_decide_eq_true e4
            refine ⟨.int m2, by rw [← hn]; rfl, _, _, rfl, rfl, ⟨by decide, by decide⟩, _, _, rfl, rfl, ?_, ?_⟩
            · show (0 : Int) < 100000
              decide
            refine ⟨.ref p, rfl, .int many, rfl, _, _, rfl, rfl, ⟨by decide, by decide⟩, _, _, rfl, rfl, p, sc, ns, many / 100000 + 1, rfl, by omega, ?_, by omega,
              ⟨hne, hsc3, _, hp3, so3⟩, fun z o3 z0 z1 so => ?_⟩
            · have : many ≤ 100000 * (most n - 1) := h2
              omega
            refine ⟨_, _, rfl, rfl, .inl ⟨by decide, by decide⟩, _, _, rfl, rfl, .inl ⟨_, rfl, .int many, rfl, _, _, rfl, rfl, h1, ?_⟩⟩
            exact q3 _ _ (Int.emod_nonneg _ (by omega)) (Int.emod_lt_of_pos _ h1) so
          · refine ⟨.int m2, by rw [← hn]; rfl, _, _, rfl, rfl, ⟨by decide, by decide⟩, .inl ⟨_, rfl, .int many, rfl, _, _, rfl, rfl, h1, ?_⟩⟩
            have q4 := q3 (m2 / 7 % many) (.lst [.ref sc, .int i, .int r, .int m2, .int c']) (Int.emod_nonneg _ (by omega)) (Int.emod_lt_of_pos _ h1) so3
            rw [eo] at q4
            exact q4

theorem ok_pick {f : Addr} {fd : FuncData} (F : Fun K "_law_pick" "_law_pick" sLPick f fd) (bF : Binds K fd ["source", "many"] [])
    (gF : mg "_law_pick" = some (.ref f)) (mi : mg "int" = none) (ml : mg "len" = none) (ma : mg "abs" = none) :
    ∀ n, FnOk P w K mg base CX0 (n + 1) f fd ["source", "many"] (spPick n)
  | 0 => ok_pick0 F bF gF mi ml ma
  | n + 1 => ok_pick1 F bF gF mi ml ma (ok_pick F bF gF mi ml ma n)
end
end K04

/-! Q2: data as values; is_whole, is_tuple_of, is_row. -/
namespace GL
open PySem PySem.Spec PyProof.Rows L2

/-! ### the types of data -/
def tyD : PyData → String
  | .none => "NoneType"
  | .bool _ => "bool"
  | .int _ => "int"
  | .str _ => "str"
  | .list _ => "list"
  | .tuple _ => "tuple"
  | .dict _ => "dict"
theorem RD.tyB {K : PySem.W.Frag} {H : Hp} : ∀ {v d}, RD H v d → TyB K H v (tyD d)
  | _, _, .non => .non
  | _, _, .bl b => .bl b
  | _, _, .int i => .int i
  | _, _, .str x => .str x
  | _, _, .lst e _ => .lst (SqL.of e)
  | _, _, .tup e _ => .tup (SqT.of e)
  | _, _, .dct e _ => .dK e
theorem RD.tyX {K : PySem.W.Frag} {H : Hp} : ∀ {v d}, RD H v d → TyX K H v (.type (tyD d))
  | _, _, .non => .base .non
  | _, _, .bl b => .base (.bl b)
  | _, _, .int i => .base (.int i)
  | _, _, .str x => .base (.str x)
  | _, _, .lst e _ => .base (.lst e)
  | _, _, .tup e _ => .base (.tup e)
  | _, _, .dct e _ => .base (.dK e)
/-- data that is an integer, a tuple -/
def wholeD : PyData → Bool
  | .int _ => true
  | _ => false
def tupD : PyData → Option (List PyData)
  | .tuple ds => some ds
  | _ => none
def itemsD (d : PyData) : List PyData := (tupD d).getD []
def lenD (d : PyData) : Int := ((itemsD d).length : Int)
def headD (d : PyData) : PyData := (itemsD d).headD .none
/-- no long tuple where rows may stand -/
def Len1 (d : PyData) : Prop := lenD d ≤ 1000
def Len2 (d : PyData) : Prop := ∀ r ∈ itemsD d, lenD r ≤ 1000
def Slim (d : PyData) : Prop := ∀ t ∈ itemsD d, ∀ r ∈ itemsD t, lenD r ≤ 1000
theorem wholeD_ty (d : PyData) : decide (tyD d = "int") = wholeD d := by cases d <;> rfl
theorem tupD_ty (d : PyData) : decide (tyD d = "tuple") = (tupD d).isSome := by cases d <;> rfl
theorem RD.whole {H : Hp} {v d} (r : RD H v d) (h : wholeD d = true) : ∃ i : Int, v = .int i ∧ d = .int i := by
  cases r <;> first | exact ⟨_, rfl, rfl⟩ | cases h
theorem RD.tupOf {H : Hp} {v d ds} (r : RD H v d) (h : tupD d = some ds) : ∃ a xs, v = .ref a ∧ d = .tuple ds ∧ H a = some (.tup xs) ∧ RDs H xs ds := by
  cases r with
  | tup e rs => cases h; exact ⟨_, _, rfl, rfl, e, rs⟩
  | _ => cases h
theorem RDs.at {H : Hp} : ∀ {xs ds} {i : Nat} {x : V}, RDs H xs ds → xs[i]? = some x → ∃ d, ds[i]? = some d ∧ RD H x d
  | _, _, i, _, .nil, h => by simp at h
  | _, _, 0, _, .cons r _, h => by cases h; exact ⟨_, rfl, r⟩
  | _, _, i + 1, _, .cons _ r, h => RDs.at (i := i) r (by simpa using h)

/-- a question of data: the answer, and nothing that was there changes -/
def spK (f : PyData → Bool) : Sp := fun vs H Q _ => ∃ v d, vs = [v] ∧ RD H v d ∧ ∀ H', Same H H' → Q (.bl (f d)) H'

/-- the same of data of such a kind -/
def spKc (c : PyData → Prop) (f : PyData → Bool) : Sp := fun vs H Q _ => ∃ v d, vs = [v] ∧ RD H v d ∧ c d ∧ ∀ H', Same H H' → Q (.bl (f d)) H'
/-- [a test of x for x in a tuple] -/
theorem lc_ask {K : PySem.W.Frag} {a : Addr} {xs : List V} {ds : List PyData} {te : TE} {j : Nat} {vs : List Nat} {σ : L2.St} {H1 : Hp} {D : Addr} {Qd : Hp → Prop}
    (f : PyData → Bool) (hw : ∀ x, wipe ((wipe σ vs).set j (some x)) vs = wipe σ vs) (hx : H1 a = some (.tup xs)) (rs : RDs H1 xs ds) (hsz : xs.length < sizeLine) (hD : H1 D = none)
    (step : ∀ x d H (Q : VK), RD H x d → d ∈ ds → Same H1 H → (∀ H', Same H H' → Q (.bl (f d)) H') → te ((wipe σ vs).set j (some x)) H Q)
    (hd : ∀ H, Same H1 H → H D = some (.lst ((ds.map f).map V.bl)) → Qd H) :
    ∃ W : Nat → Nat → Hp → Prop, (∃ m, W 0 m (upd H1 D (.lst []))) ∧ ∀ i m H, W i m H →
      ((Itt K a).stop i H ∧ Qd H) ∨ ((Itt K a).go i H ∧ ∃ Nx : Hp → Prop, (∀ H', Nx H' → ∃ m', m' < m ∧ W (i + 1) m' H') ∧ ∀ x H', (Itt K a).yld i H x H' → gName j x (wipe σ vs) H' fun σ2 H2 => wipe σ2 vs = wipe σ vs ∧ tYes σ2 H2 fun b H3 =>
        if b = true then te σ2 H3 fun y H4 => ∃ acc, H4 D = some (.lst acc) ∧ acc.length < sizeLine ∧ Nx (upd H4 D (.lst (acc ++ [y]))) else Nx H3) := by
  have hlen := RDs.length rs
  refine lc_tup (fun i H => Same H1 H ∧ H D = some (.lst (((ds.take i).map f).map V.bl))) ⟨fun b o e => ?_, upd_same⟩ (fun i H _ p => SqT.of (p.1 _ _ hx)) (fun i x H hi p => ?_) (fun H p => hd H p.1 ?_)
  · rw [upd_ne (ne_of_none e hD)]; exact e
  · obtain ⟨S, hDl⟩ := p
    obtain ⟨d, ed, r⟩ := RDs.at rs hi
    have hlt : i < xs.length := (List.getElem?_eq_some_iff.mp hi).1
    refine ⟨hw x, ?_⟩
    refine step x d H _ (r.keep S) (List.mem_of_getElem? ed) S fun H' S' => ⟨_, S' _ _ hDl, ?_, fun b o e => ?_, ?_⟩
    · simp only [List.length_map, List.length_take]; omega
    · rw [upd_ne (ne_of_none e hD)]; exact S' _ _ (S _ _ e)
    · rw [upd_same, List.take_add_one, ed]
      simp
  · have := p.2
    rw [hlen, List.take_length] at this
    exact this
theorem all_id (f : PyData → Bool) (ds : List PyData) : (ds.map f).all id = ds.all f := by
  induction ds with
  | nil => rfl
  | cons d ds ih => simp only [List.map_cons, List.all_cons, ih]; rfl
end GL
namespace K04
open PySem PySem.Spec PyProof.Rows L2 GL
section
variable {P : Program} {w : World} {K : PySem.W.Frag} {mg : Str → Option Value} {base : Heap}

theorem ok_whole {f : Addr} {fd : FuncData} (F : Fun K "is_whole" "is_whole" sIsWhole f fd) (mt : mg "type" = none) (mi : mg "int" = none) :
    FnOk P w K mg base CX0 1 f fd ["value"] (spK wholeD) := by
  refine F.ok scIsWhole (fun vs H Q E h => ?_) (fun cdv A outer s H vs Q E hr h => ?_)
  · obtain ⟨v, d, rfl, _⟩ := h
    rfl
  · obtain ⟨v, d, rfl, rd, q⟩ := h
    refine ⟨_, pss_one (ps_ret (pe_cmpR op_isTyB (pe_callTy call_type1 (by rfl) mt (by decide +kernel) (pa_cons (pv 0) pa_nil)) (pe_bltn (v := .ty "int") (by rfl) mi (by decide +kernel) rfl) (nomark _))), ?_⟩
    refine ⟨v, rfl, v, _, rfl, rd.tyB, _, _, rfl, rfl, ?_⟩
    rw [wholeD_ty]
    exact q H (.refl H)

theorem dec_int' {i j : Int} : decide (V.int i = V.int j) = decide (i = j) := by
  rw [Bool.eq_iff_iff]
  simp
def tupN (n : Int) (d : PyData) : Bool := match tupD d with
  | some ds => decide ((ds.length : Int) = n)
  | none => false
def spTupOf : Sp := fun vs H Q _ => ∃ v d n, vs = [v, .int n] ∧ RD H v d ∧ Q (.bl (tupN n d)) H
theorem ok_tupof {f : Addr} {fd : FuncData} (F : Fun K "is_tuple_of" "is_tuple_of" sIsTupleOf f fd) (mt : mg "type" = none) (mu : mg "tuple" = none) (ml : mg "len" = none) :
    FnOk P w K mg base CX0 1 f fd ["value", "many"] spTupOf := by
  refine F.ok scIsTupleOf (fun vs H Q E h => ?_) (fun cdv A outer s H vs Q E hr h => ?_)
  · obtain ⟨v, d, n, rfl, _⟩ := h
    rfl
  · obtain ⟨v, d, n, rfl, rd, q⟩ := h
    refine ⟨_, pss_one (ps_ret (pe_and (pe_cmpR op_isTyB (pe_callTy call_type1 (by rfl) mt (by decide +kernel) (pa_cons (pv 0) pa_nil)) (pe_bltn (v := .ty "tuple") (by rfl) mu (by decide +kernel) rfl) (nomark _))
      (pe_one (pe_cmpR op_eq (pe_callB call_len_seq (by rfl) ml PySem.boot_len (pa_cons (pv 0) pa_nil)) (pv 1) (nomark _))))), ?_⟩
    refine ⟨v, rfl, v, _, rfl, rd.tyB, _, _, rfl, rfl, _, rfl, ?_⟩
    rw [tupD_ty]
    cases e : tupD d with
    | none =>
      refine iteF ?_
      have : tupN n d = false := by unfold tupN; rw [e]
      rw [this] at q
      exact q
    | some ds =>
      obtain ⟨a, xs, rfl, rfl, hx, rs⟩ := rd.tupOf e
      refine iteT ⟨.ref a, rfl, a, xs, rfl, .inr (SqT.of hx), .int n, rfl, ?_⟩
      have : tupN n (.tuple ds) = decide ((xs.length : Int) = n) := by show decide ((ds.length : Int) = n) = _; rw [RDs.length rs]
      rw [this] at q
      refine ⟨rfl, ?_⟩
      rw [dec_int']
      exact q

/-- rows -/
def numD : PyData → Bool
  | .int i => decide (-1000 ≤ i) && decide (i ≤ 1000)
  | _ => false
def numsD (d : PyData) : Bool := match tupD d with
  | some ds => ds.all numD
  | none => false
def rowD (d : PyData) : Bool := match tupD d with
  | some ds => decide (1 ≤ ds.length) && decide (ds.length ≤ 5) && ds.all numD
  | none => false
end
end K04

/-! Q3: is_row, table_fits, game_fits. -/
namespace GL
open PySem PySem.Spec PyProof.Rows L2

/-- len(set(xs)), xs a list of ints: how many different ones -/
def rLenSet (K : PySem.W.Frag) (ta : TE) : TE := fun σ H Q => ta σ H fun x H1 => ∃ (l : Addr) (ns : List Int), x = .ref l ∧ SqL K H1 l (ns.map V.int) ∧ ns.length ≤ 4000 ∧ Q (.int ((PyProof.Rows.firstMet (fun i => ns.getD i 0) ns.length).length : Nat)) H1
theorem pe_lenSetA {X : Cx} {a : Expr} {ta : TE} {p p2 q pos : Pos} (hg : Gl X "len") (hm : X.mg "len" = none) (hg2 : Gl X "set") (hm2 : X.mg "set" = none) (ha : PE X a ta) (hc : X.calm = true := by rfl)
    (na : starEach [a] X.env = (false, eval a X.env) :: starEach [] X.env := by rfl) : PE X (.Call (.Name "len" p) [.Call (.Name "set" p2) [a] [] q] [] pos) (rLenSet X.K ta) := by
  refine ⟨fun pins s σ H Q I h => ?_⟩
  refine Call_ (ld_blt I hg hm boot_len ?_)
  refine PyProof.Rows.callWith_builtin1 (PyProof.Rows.args_cons ?_ rfl) rfl rfl
  refine Call_ (ld_blt I hg2 hm2 boot_set ?_)
  refine PyProof.Rows.callWith_type1 (PyProof.Rows.args_cons (thn (ha.run pins s σ H _ I h) fun v s1 ⟨x, H1, I1, r1, q1⟩ => PyProof.Rows.args_nil ?_) na) na rfl
  obtain ⟨l, ns, rfl, hq, hl, q1⟩ := q1
  cases r1
  obtain ⟨its, r, pl, hz⟩ := I1.list hq
  have hlen : its.toArray.size = ns.length := by rw [List.size_toArray, ← r.length, List.length_map]
  refine call_set_list (I1.ok.hd hc) pl.isList (by simpa using RZ.intsAre_vals r) (by rw [hlen]; unfold scanBound; omega) fun h' tk hS hk => ?_
  refine PyProof.Rows.args_nil ?_
  rw [hlen] at hS
  obtain ⟨o, es, ep, t, ho, hex, hd, _, _, _, hf, hn⟩ := hS
  have I2 : Inv X pins σ H1 { s1 with heap := h', toks := tk } := I1.kept fun b o e => hk b o (Heap.lt_size e) e
  have hle : ∀ i, (PyProof.Rows.firstMet (fun i => ns.getD i 0) i).length ≤ i := by
    intro i
    induction i with
    | zero => exact Nat.le_refl _
    | succ i ih =>
      rw [PyProof.Rows.firstMet_succ]
      show (if _ then _ else _ : List Int).length ≤ _
      split
      · omega
      · rw [List.length_append]; show _ + 1 ≤ _; omega
  have := hle ns.length
  exact call_len_set ho hex hd hf (by rw [hn] <;> omega) ⟨.int _, H1, I2.tok _, ⟨_, by rw [hn]⟩, q1⟩
/-- one number alone -/
theorem met_one : ∀ (ns : List Int), ns ≠ [] → (decide (((PyProof.Rows.firstMet (fun i => ns.getD i 0) ns.length).length : Int) = 1)) = ns.all (fun n => decide (n = ns.getD 0 0)) := by
  intro ns hne
  -- the first i of them: all alike, or two at least
  have key : ∀ i, 0 < i → i ≤ ns.length →
      ((∀ j, j < i → ns.getD j 0 = ns.getD 0 0) ∧ PyProof.Rows.firstMet (fun i => ns.getD i 0) i = [ns.getD 0 0]) ∨
      ((∃ j, j < i ∧ ns.getD j 0 ≠ ns.getD 0 0) ∧ 2 ≤ (PyProof.Rows.firstMet (fun i => ns.getD i 0) i).length) := by
    intro i
    induction i with
    | zero => intro h; omega
    | succ i ih =>
      intro _ hi
      rw [PyProof.Rows.firstMet_succ]
      show _ ∨ (_ ∧ 2 ≤ (if (PyProof.Rows.firstMet (fun i => ns.getD i 0) i).any (· == ns.getD i 0) then (PyProof.Rows.firstMet (fun i => ns.getD i 0) i) else (PyProof.Rows.firstMet (fun i => ns.getD i 0) i) ++ [ns.getD i 0]).length)
      by_cases h0 : i = 0
      · subst h0
        refine .inl ⟨fun j hj => by rw [show j = 0 by omega], ?_⟩
        rfl
      · rcases ih (by omega) (by omega) with ⟨h1, h2⟩ | ⟨⟨j, hj, h1⟩, h2⟩
        · by_cases e : ns.getD i 0 = ns.getD 0 0
          · refine .inl ⟨fun j hj => ?_, ?_⟩
            · by_cases hji : j = i
              · rw [hji]; exact e
              · exact h1 j (by omega)
            · show (if (PyProof.Rows.firstMet (fun i => ns.getD i 0) i).any (· == ns.getD i 0) then (PyProof.Rows.firstMet (fun i => ns.getD i 0) i) else (PyProof.Rows.firstMet (fun i => ns.getD i 0) i) ++ [ns.getD i 0]) = _
              rw [h2, e]
              simp
          · refine .inr ⟨⟨i, by omega, e⟩, ?_⟩
            rw [h2]
            have : ([ns.getD 0 0].any (· == ns.getD i 0)) = false := by
              simp only [List.any_cons, List.any_nil, Bool.or_false, beq_eq_false_iff_ne]
              exact fun z => e z.symm
            rw [this]
            exact Nat.le_refl 2
        · refine .inr ⟨⟨j, by omega, h1⟩, ?_⟩
          split
          · exact h2
          · rw [List.length_append]; show 2 ≤ _ + 1; omega
  have hl : 0 < ns.length := List.length_pos_iff.mpr hne
  rw [Bool.eq_iff_iff, decide_eq_true_iff, List.all_eq_true]
  rcases key ns.length hl (Nat.le_refl _) with ⟨h1, h2⟩ | ⟨⟨j, hj, h1⟩, h2⟩
  · rw [h2]
    refine ⟨fun _ n hn => decide_eq_true ?_, fun _ => rfl⟩
    obtain ⟨j, hj, e⟩ := List.mem_iff_getElem.mp hn
    have := h1 j hj
    rw [List.getD_eq_getElem?_getD, List.getElem?_eq_getElem hj] at this
    rw [← e]
    exact this
  · refine ⟨fun h => by omega, fun h => absurd ?_ h1⟩
    have hm : ns.getD j 0 ∈ ns := by
      rw [List.getD_eq_getElem?_getD, List.getElem?_eq_getElem hj]
      exact List.getElem_mem hj
    exact of_decide_eq_true (h _ hm)
end GL
namespace K04
open PySem PySem.Spec PyProof.Rows L2 GL
section
variable {P : Program} {w : World} {K : PySem.W.Frag} {mg : Str → Option Value} {base : Heap}

/-- what the kinds call -/
structure KinT (P : Program) (w : World) (K : PySem.W.Frag) (mg : Str → Option Value) (base : Heap) (fW fT : Addr) (dW dT : FuncData) : Prop where
  FW : Fun K "is_whole" "is_whole" sIsWhole fW dW
  bW : Binds K dW ["value"] []
  gW : mg "is_whole" = some (.ref fW)
  GW : FnOk P w K mg base CX0 1 fW dW ["value"] (spK wholeD)
  FT : Fun K "is_tuple_of" "is_tuple_of" sIsTupleOf fT dT
  bT : Binds K dT ["value", "many"] []
  gT : mg "is_tuple_of" = some (.ref fT)
  GT : FnOk P w K mg base CX0 1 fT dT ["value", "many"] spTupOf
  type : mg "type" = none
  tuple : mg "tuple" = none
  len : mg "len" = none
  all : mg "all" = none
  set : mg "set" = none
  bound : ∃ t, mg "BOUND" = some (.int 1000 t)
  most : ∃ t, mg "MOST_CHOICES" = some (.int 5 t)
variable {fW fT : Addr} {dW dT : FuncData}

theorem ok_numfits {f : Addr} {fd : FuncData} (F : Fun K "number_fits" "number_fits" sNumberFits f fd) (T : KinT P w K mg base fW fT dW dT) :
    FnOk P w K mg base CX0 2 f fd ["value"] (spK numD) := by
  refine F.ok scNumberFits (fun vs H Q E h => ?_) (fun cdv A outer s H vs Q E hr h => ?_)
  · obtain ⟨v, d, rfl, _⟩ := h
    rfl
  · obtain ⟨x, d, rfl, r, q1⟩ := h
    obtain ⟨tb, gb⟩ := T.bound
    refine ⟨_, pss_one (ps_ret (pe_and (pe_call T.GW hr (by rfl) T.gW T.FW.kp T.bW .nil pass0 (pa_cons (pv 0) pa_nil))
            (pe_one (pe_chain op_le op_le (pe_un un_neg (pe_glob (v := .int 1000) (by rfl) gb ⟨_, rfl⟩)) (pv 0) (pe_glob (v := .int 1000) (by rfl) gb ⟨_, rfl⟩))))), ?_⟩
    refine ⟨x, rfl, x, d, rfl, r, fun H2 S2 => ⟨_, rfl, ite2 (fun e6 => ?_) (fun e6 => ?_)⟩⟩
    · obtain ⟨i, rfl, rfl⟩ := r.whole e6
      refine ⟨1000, rfl, .int i, rfl, _, _, rfl, rfl, _, rfl, ite2 (fun e7 => ⟨_, _, rfl, rfl, ?_⟩) (fun e7 => ?_)⟩
      · have e8 : numD (.int i) = decide (i ≤ 1000) := by
          show (decide (-1000 ≤ i) && decide (i ≤ 1000)) = _
          rw [show decide (-1000 ≤ i) = true from e7]; rfl
        rw [e8] at q1
        exact q1 H2 S2
      · have e8 : numD (.int i) = false := by
          show (decide (-1000 ≤ i) && decide (i ≤ 1000)) = _
          rw [show decide (-1000 ≤ i) = false from Bool.eq_false_iff.mpr e7]; rfl
        rw [e8] at q1
        exact q1 H2 S2
    · have e8 : numD d = false := by cases d <;> first | rfl | exact absurd rfl e6
      rw [e8] at q1
      exact q1 H2 S2
variable {fN fA fM : Addr} {dN dA dM : FuncData}
theorem ok_numbers {f : Addr} {fd : FuncData} (F : Fun K "are_numbers" "are_numbers" sAreNumbers f fd) (T : KinT P w K mg base fW fT dW dT)
    (FN : Fun K "number_fits" "number_fits" sNumberFits fN dN) (bN : Binds K dN ["value"] []) (gN : mg "number_fits" = some (.ref fN)) (GN : FnOk P w K mg base CX0 2 fN dN ["value"] (spK numD)) :
    FnOk P w K mg base CX0 3 f fd ["value"] (spKc Len1 numsD) := by
  refine F.ok scAreNumbers (fun vs H Q E h => ?_) (fun cdv A outer s H vs Q E hr h => ?_)
  · obtain ⟨v, d, rfl, _⟩ := h
    rfl
  · obtain ⟨v, d, rfl, rd, hs, q⟩ := h
    refine ⟨_, pss_one (ps_ret (pe_and (pe_cmpR op_isTyB (pe_callTy call_type1 (by rfl) T.type (by decide +kernel) (pa_cons (pv 0) pa_nil)) (pe_bltn (v := .ty "tuple") (by rfl) T.tuple (by decide +kernel) rfl) (nomark _))
      (pe_one (pe_callB (cr_all rfl) (by rfl) T.all (by decide +kernel) (pa_cons
        (pe_lc (own := [("number", 1)]) (g := gName 1) (tt := tYes) rfl scAreNumbers.nd (pi_tup (pv 0))
          (blkOk_by (own := [("number", 1)]) (N := ["value", "number"]) (sc := defScope sAreNumbers) (by decide +kernel))
          (fun _ _ _ _ _ => pg_name (i := 1) scAreNumbers.nd rfl (Or.inl rfl)) (fun _ _ _ _ _ => pts_nil)
          (fun _ _ _ _ _ => pe_call GN hr (by rfl) gN FN.kp bN .nil pass0 (pa_cons (pv 1) pa_nil)))
        pa_nil))))), ?_⟩
    refine ⟨v, rfl, v, _, rfl, rd.tyB, _, _, rfl, rfl, _, rfl, ?_⟩
    rw [tupD_ty]
    cases e : tupD d with
    | none =>
      have : numsD d = false := by unfold numsD; rw [e]
      rw [this] at q
      exact iteF (q H (.refl H))
    | some ds =>
      obtain ⟨a, xs, rfl, rfl, hx, rs⟩ := rd.tupOf e
      have hlen := RDs.length rs
      have hs' : (ds.length : Int) ≤ 1000 := hs
      have er : numsD (.tuple ds) = (ds.map numD).all id := by rw [all_id]; rfl
      refine iteT ⟨.ref a, rfl, a, rfl, ⟨xs, SqT.of hx⟩, fun D hD => lc_ask numD (fun _ => rfl) hx rs (by rw [sizeLine_eq]; omega) hD (fun x d H1 Q1 r hm S q1 => ?_) (fun H1 S hl => ?_)⟩
      · exact ⟨x, rfl, x, d, rfl, r, q1⟩
      · refine ⟨D, _, rfl, SqL.of hl, ?_⟩
        rw [← er]
        exact q H1 S
def manyB (n : Int) : Bool := decide (1 ≤ n) && decide (n ≤ 5)
def spMany : Sp := fun vs H Q _ => ∃ n : Int, vs = [.int n] ∧ ∀ H', Same H H' → Q (.bl (manyB n)) H'
theorem ok_many {f : Addr} {fd : FuncData} (F : Fun K "many_fits" "many_fits" sManyFits f fd) (T : KinT P w K mg base fW fT dW dT) :
    FnOk P w K mg base CX0 2 f fd ["value"] spMany := by
  refine F.ok scManyFits (fun vs H Q E h => ?_) (fun cdv A outer s H vs Q E hr h => ?_)
  · obtain ⟨n, rfl, _⟩ := h
    rfl
  · obtain ⟨n, rfl, q⟩ := h
    obtain ⟨tm, gm⟩ := T.most
    refine ⟨_, pss_one (ps_ret (pe_and (pe_call T.GW hr (by rfl) T.gW T.FW.kp T.bW .nil pass0 (pa_cons (pv 0) pa_nil))
      (pe_one (pe_chain op_le op_le pe_int (pv 0) (pe_glob (v := .int 5) (by rfl) gm ⟨_, rfl⟩))))), ?_⟩
    refine ⟨.int n, rfl, .int n, .int n, rfl, .int n, fun H1 S1 => ⟨_, rfl, iteT ⟨.int n, rfl, _, _, rfl, rfl, _, rfl, ite2 (fun e7 => ⟨_, _, rfl, rfl, ?_⟩) (fun e7 => ?_)⟩⟩⟩
    · have e8 : manyB n = decide (n ≤ 5) := by
        show (decide (1 ≤ n) && decide (n ≤ 5)) = _
        rw [show decide (1 ≤ n) = true from e7]; rfl
      rw [e8] at q
      exact q H1 S1
    · have e8 : manyB n = false := by
        show (decide (1 ≤ n) && decide (n ≤ 5)) = _
        rw [show decide (1 ≤ n) = false from Bool.eq_false_iff.mpr e7]; rfl
      rw [e8] at q
      exact q H1 S1
theorem ok_row {f : Addr} {fd : FuncData} (F : Fun K "is_row" "is_row" sIsRow f fd) (T : KinT P w K mg base fW fT dW dT)
    (FA : Fun K "are_numbers" "are_numbers" sAreNumbers fA dA) (bA : Binds K dA ["value"] []) (gA : mg "are_numbers" = some (.ref fA)) (GA : FnOk P w K mg base CX0 3 fA dA ["value"] (spKc Len1 numsD))
    (FM : Fun K "many_fits" "many_fits" sManyFits fM dM) (bM : Binds K dM ["value"] []) (gM : mg "many_fits" = some (.ref fM)) (GM : FnOk P w K mg base CX0 2 fM dM ["value"] spMany) :
    FnOk P w K mg base CX0 4 f fd ["value"] (spKc Len1 rowD) := by
  refine F.ok scIsRow (fun vs H Q E h => ?_) (fun cdv A outer s H vs Q E hr h => ?_)
  · obtain ⟨v, d, rfl, _⟩ := h
    rfl
  · obtain ⟨v, d, rfl, rd, hs, q⟩ := h
    have hr2 := hr.mono (show 2 ≤ 3 by omega)
    refine ⟨_, pss_one (ps_ret (pe_and (pe_call GA hr (by rfl) gA FA.kp bA .nil pass0 (pa_cons (pv 0) pa_nil))
      (pe_one (pe_call GM hr2 (by rfl) gM FM.kp bM .nil pass0 (pa_cons (pe_callB call_len_seq (by rfl) T.len PySem.boot_len (pa_cons (pv 0) pa_nil)) pa_nil))))), ?_⟩
    refine ⟨v, rfl, v, d, rfl, rd, hs, fun H1 S1 => ⟨_, rfl, ite2 (fun e => ?_) (fun e => ?_)⟩⟩
    · have e : numsD d = true := e
      obtain ⟨ds, ed⟩ : ∃ ds, tupD d = some ds := by
        unfold numsD at e
        split at e
        · rename_i ds e2; exact ⟨ds, e2⟩
        · cases e
      obtain ⟨a, xs, rfl, rfl, hx, rs⟩ := (rd.keep S1).tupOf ed
      have hlen := RDs.length rs
      refine ⟨.ref a, rfl, a, xs, rfl, .inr (SqT.of hx), _, rfl, fun H2 S2 => ?_⟩
      have ee : manyB (xs.length : Int) = rowD (.tuple ds) := by
        have e' : ds.all numD = true := e
        show _ = (decide (1 ≤ ds.length) && decide (ds.length ≤ 5) && ds.all numD)
        rw [e', Bool.and_true, hlen]
        unfold manyB
        rw [show decide ((1 : Int) ≤ (ds.length : Int)) = decide (1 ≤ ds.length) from decide_eq_decide.mpr (by omega), show decide ((ds.length : Int) ≤ 5) = decide (ds.length ≤ 5) from decide_eq_decide.mpr (by omega)]
      rw [ee]
      exact q H2 (S1.trans S2)
    · have e1 : numsD d = false := Bool.eq_false_iff.mpr e
      have e2 : rowD d = false := by
        unfold rowD
        unfold numsD at e1
        cases ed : tupD d with
        | none => rfl
        | some ds => rw [ed] at e1; show (_ && ds.all numD) = false; rw [show ds.all numD = false from e1, Bool.and_false]
      rw [e2] at q
      exact q H1 S1
end
end K04

/-! Q4: table_fits, game_fits. -/
namespace GL
open PySem PySem.Spec PyProof.Rows L2
/-- [what is told of x for x in a tuple] -/
theorem lc_map {K : PySem.W.Frag} {a : Addr} {xs : List V} {ds : List PyData} {te : TE} {j : Nat} {vs : List Nat} {σ : L2.St} {H1 : Hp} {D : Addr} {Qd : Hp → Prop}
    (g : PyData → V) (hw : ∀ x, wipe ((wipe σ vs).set j (some x)) vs = wipe σ vs) (hx : H1 a = some (.tup xs)) (rs : RDs H1 xs ds) (hsz : xs.length < sizeLine) (hD : H1 D = none)
    (step : ∀ x d H (Q : VK), RD H x d → d ∈ ds → Same H1 H → (∀ H', Same H H' → Q (g d) H') → te ((wipe σ vs).set j (some x)) H Q)
    (hd : ∀ H, Same H1 H → H D = some (.lst (ds.map g)) → Qd H) :
    ∃ W : Nat → Nat → Hp → Prop, (∃ m, W 0 m (upd H1 D (.lst []))) ∧ ∀ i m H, W i m H →
      ((Itt K a).stop i H ∧ Qd H) ∨ ((Itt K a).go i H ∧ ∃ Nx : Hp → Prop, (∀ H', Nx H' → ∃ m', m' < m ∧ W (i + 1) m' H') ∧ ∀ x H', (Itt K a).yld i H x H' → gName j x (wipe σ vs) H' fun σ2 H2 => wipe σ2 vs = wipe σ vs ∧ tYes σ2 H2 fun b H3 =>
        if b = true then te σ2 H3 fun y H4 => ∃ acc, H4 D = some (.lst acc) ∧ acc.length < sizeLine ∧ Nx (upd H4 D (.lst (acc ++ [y]))) else Nx H3) := by
  have hlen := RDs.length rs
  refine lc_tup (fun i H => Same H1 H ∧ H D = some (.lst ((ds.take i).map g))) ⟨fun b o e => ?_, upd_same⟩ (fun i H _ p => SqT.of (p.1 _ _ hx)) (fun i x H hi p => ?_) (fun H p => hd H p.1 ?_)
  · rw [upd_ne (ne_of_none e hD)]; exact e
  · obtain ⟨S, hDl⟩ := p
    obtain ⟨d, ed, r⟩ := RDs.at rs hi
    have hlt : i < xs.length := (List.getElem?_eq_some_iff.mp hi).1
    refine ⟨hw x, ?_⟩
    refine step x d H _ (r.keep S) (List.mem_of_getElem? ed) S fun H' S' => ⟨_, S' _ _ hDl, ?_, fun b o e => ?_, ?_⟩
    · simp only [List.length_map, List.length_take]; omega
    · rw [upd_ne (ne_of_none e hD)]; exact S' _ _ (S _ _ e)
    · rw [upd_same, List.take_add_one, ed]
      simp
  · have := p.2
    rw [hlen, List.take_length] at this
    exact this
/-- len of a list or a tuple -/
def rLenS (K : PySem.W.Frag) : List V → Hp → VK → Prop := fun xs H Q => ∃ p ys, xs = [.ref p] ∧ (SqL K H p ys ∨ SqT K H p ys) ∧ Q (.int ys.length) H
end GL
namespace K04
open PySem PySem.Spec PyProof.Rows L2 GL
def tableD (d : PyData) : Bool := match tupD d with
  | some ds => decide (1 ≤ ds.length) && decide (ds.length ≤ 5) && ds.all rowD && ds.all (fun r => decide (lenD r = lenD (headD d)))
  | none => false
def gameD (d : PyData) : Bool := match tupD d with
  | some [a, b] => tableD a && tableD b && decide (lenD a = lenD b) && decide (lenD (headD a) = lenD (headD b))
  | _ => false
theorem rowD_tup {d : PyData} (h : rowD d = true) : ∃ ds, tupD d = some ds ∧ 1 ≤ ds.length ∧ ds.length ≤ 5 ∧ ds.all numD = true := by
  unfold rowD at h
  split at h
  · rename_i ds e
    rw [Bool.and_eq_true, Bool.and_eq_true] at h
    exact ⟨ds, e, of_decide_eq_true h.1.1, of_decide_eq_true h.1.2, h.2⟩
  · cases h
theorem tableD_tup {d : PyData} (h : tableD d = true) : ∃ ds, tupD d = some ds ∧ 1 ≤ ds.length ∧ ds.length ≤ 5 ∧ ds.all rowD = true ∧
    ds.all (fun r => decide (lenD r = lenD (headD d))) = true := by
  unfold tableD at h
  split at h
  · rename_i ds e
    rw [Bool.and_eq_true, Bool.and_eq_true, Bool.and_eq_true] at h
    exact ⟨ds, e, of_decide_eq_true h.1.1.1, of_decide_eq_true h.1.1.2, h.1.2, h.2⟩
  · cases h
section
variable {P : Program} {w : World} {K : PySem.W.Frag} {mg : Str → Option Value} {base : Heap}
variable {fW fT fR fB fM : Addr} {dW dT dR dB dM : FuncData}

theorem ok_table {f : Addr} {fd : FuncData} (F : Fun K "table_fits" "table_fits" sTableFits f fd) (T : KinT P w K mg base fW fT dW dT)
    (FR : Fun K "is_row" "is_row" sIsRow fR dR) (bR : Binds K dR ["value"] []) (gR : mg "is_row" = some (.ref fR)) (GR : FnOk P w K mg base CX0 4 fR dR ["value"] (spKc Len1 rowD))
    (FM : Fun K "many_fits" "many_fits" sManyFits fM dM) (bM : Binds K dM ["value"] []) (gM : mg "many_fits" = some (.ref fM)) (GM : FnOk P w K mg base CX0 2 fM dM ["value"] spMany) :
    FnOk P w K mg base CX0 5 f fd ["value"] (spKc Len2 tableD) := by
  refine F.ok scTableFits (fun vs H Q E h => ?_) (fun cdv A outer s H vs Q E hr h => ?_)
  · obtain ⟨v, d, rfl, _⟩ := h
    rfl
  · obtain ⟨v, d, rfl, rd, hs, q⟩ := h
    have hr2 := hr.mono (show 2 ≤ 4 by omega)
    refine ⟨_, pss_cons (ps_if (PW.pt (pw_or (pt_cmpR op_notTyB (pe_callTy call_type1 (by rfl) T.type (by decide +kernel) (pa_cons (pv 0) pa_nil)) (pe_bltn (v := .ty "tuple") (by rfl) T.tuple (by decide +kernel) rfl) (nomark _))
        (pw_or1 (pt_not (pt_val (pe_call GM hr2 (by rfl) gM FM.kp bM .nil pass0 (pa_cons (pe_callB call_len_seq (by rfl) T.len PySem.boot_len (pa_cons (pv 0) pa_nil)) pa_nil)))))))
        (pss_one (ps_ret pe_bl)) pss_nil)
      (pss_one (ps_ret (pe_and (pe_callB (cr_all rfl) (by rfl) T.all (by decide +kernel) (pa_cons
        (pe_lc (own := [("row", 1)]) (g := gName 1) (tt := tYes) rfl scTableFits.nd (pi_tup (pv 0))
          (blkOk_by (own := [("row", 1)]) (N := ["value", "row"]) (sc := defScope sTableFits) (by decide +kernel))
          (fun _ _ _ _ _ => pg_name (i := 1) scTableFits.nd rfl (Or.inl rfl)) (fun _ _ _ _ _ => pts_nil)
          (fun _ _ _ _ _ => pe_call GR hr (by rfl) gR FR.kp bR .nil pass0 (pa_cons (pv 1) pa_nil)))
        pa_nil))
        (pe_one (pe_cmpR op_eq (pe_lenSetA (by rfl) T.len (by rfl) T.set
          (pe_lc (own := [("row", 1)]) (g := gName 1) (tt := tYes) rfl scTableFits.nd (pi_tup (pv 0))
            (blkOk_by (own := [("row", 1)]) (N := ["value", "row"]) (sc := defScope sTableFits) (by decide +kernel))
            (fun _ _ _ _ _ => pg_name (i := 1) scTableFits.nd rfl (Or.inl rfl)) (fun _ _ _ _ _ => pts_nil)
            (fun _ _ _ _ _ => pe_callB (show CallR _ (.builtin "len") (rLenS K) from call_len_seq) (by rfl) T.len PySem.boot_len (pa_cons (pv 1) pa_nil)))) pe_int (nomark _)))))), ?_⟩
    refine ⟨v, rfl, v, _, rfl, rd.tyB, _, _, rfl, rfl, _, rfl, ?_⟩
    rw [tupD_ty]
    cases e : tupD d with
    | none =>
      have : tableD d = false := by unfold tableD; rw [e]
      rw [this] at q
      exact iteT (iteT (q H (.refl H)))
    | some ds =>
      obtain ⟨a, xs, rfl, rfl, hx, rs⟩ := rd.tupOf e
      have hlen := RDs.length rs
      have er : tableD (.tuple ds) = (decide (1 ≤ ds.length) && decide (ds.length ≤ 5) && ds.all rowD && ds.all (fun r => decide (lenD r = lenD (headD (.tuple ds))))) := rfl
      refine iteF ⟨.ref a, rfl, a, xs, rfl, .inr (SqT.of hx), _, rfl, fun H0 S0 => ⟨_, rfl, ?_⟩⟩
      have hx := S0 _ _ hx
      have rs := RDs.keep S0 rs
      have q : ∀ H', Same H0 H' → Q (.bl (tableD (.tuple ds))) H' := fun H' S => q H' (S0.trans S)
      cases em : manyB (xs.length : Int) with
      | false =>
        have : tableD (.tuple ds) = false := by
          rw [er]
          unfold manyB at em
          rw [hlen, show decide ((1 : Int) ≤ (ds.length : Int)) = decide (1 ≤ ds.length) from decide_eq_decide.mpr (by omega), show decide ((ds.length : Int) ≤ 5) = decide (ds.length ≤ 5) from decide_eq_decide.mpr (by omega)] at em
          rw [em]; rfl
        rw [this] at q
        exact iteT (q H0 (.refl H0))
      | true =>
        unfold manyB at em
        rw [Bool.and_eq_true] at em
        have e3 : (xs.length : Int) ≤ 5 := of_decide_eq_true em.2
        have e4 : 1 ≤ ds.length := by have := of_decide_eq_true em.1; omega
        have e5 : tableD (.tuple ds) = ((ds.map rowD).all id && ds.all (fun r => decide (lenD r = lenD (headD (.tuple ds))))) := by
          rw [er, all_id, decide_eq_true e4, decide_eq_true (show ds.length ≤ 5 by omega)]
          rfl
        refine iteF ⟨.ref a, rfl, a, rfl, ⟨xs, SqT.of hx⟩, fun D hD => lc_ask rowD (fun _ => rfl) hx rs (by rw [sizeLine_eq]; omega) hD (fun x d H1 Q1 r hm S q1 => ?_) (fun H1 S hl => ?_)⟩
        · exact ⟨x, rfl, x, d, rfl, r, hs d hm, q1⟩
        · refine ⟨D, _, rfl, SqL.of hl, _, rfl, ite2 (fun e6 => ?_) (fun e6 => ?_)⟩
          · rw [e6] at e5
            refine ⟨.ref a, rfl, a, rfl, ⟨xs, SqT.of (S _ _ hx)⟩, fun D2 hD2 => lc_map (fun r => .int (lenD r)) (fun _ => rfl) (S _ _ hx) (RDs.keep S rs) (by rw [sizeLine_eq]; omega) hD2 (fun x d H2 Q2 r hm S2 q2 => ?_) (fun H2 S2 hl2 => ?_)⟩
            · rw [all_id, List.all_eq_true] at e6
              obtain ⟨es, h1, _⟩ := rowD_tup (e6 d hm)
              obtain ⟨b, ys, rfl, rfl, hy, rs2⟩ := r.tupOf h1
              refine ⟨.ref b, rfl, b, ys, rfl, .inr (SqT.of hy), ?_⟩
              have : lenD (.tuple es) = (ys.length : Int) := by show ((es.length : Nat) : Int) = _; rw [RDs.length rs2]
              rw [← this]
              exact q2 H2 (.refl H2)
            · refine ⟨D2, ds.map lenD, rfl, ?_, by rw [List.length_map]; omega, ?_⟩
              · rw [List.map_map]; exact SqL.of hl2
              · refine ⟨rfl, ?_⟩
                rw [dec_int']
                have hne : ds.map lenD ≠ [] := by
                  intro z
                  have := congrArg List.length z
                  rw [List.length_map] at this
                  rw [this] at e4
                  exact absurd e4 (by decide)
                rw [met_one _ hne]
                have e8 : (ds.map lenD).getD 0 0 = lenD (headD (.tuple ds)) := by
                  cases ds with
                  | nil => exact absurd rfl hne
                  | cons d0 ds => rfl
                rw [e8, List.all_map]
                have e9 := q H2 (S.trans S2)
                rw [e5] at e9
                exact e9
          · have : tableD (.tuple ds) = false := by rw [e5, Bool.eq_false_iff.mpr e6]; rfl
            rw [this] at q
            exact q H1 S

theorem ok_game {f : Addr} {fd : FuncData} (F : Fun K "game_fits" "game_fits" sGameFits f fd) (T : KinT P w K mg base fW fT dW dT)
    (FB : Fun K "table_fits" "table_fits" sTableFits fB dB) (bB : Binds K dB ["value"] []) (gB : mg "table_fits" = some (.ref fB)) (GB : FnOk P w K mg base CX0 5 fB dB ["value"] (spKc Len2 tableD)) :
    FnOk P w K mg base CX0 6 f fd ["value"] (spKc Slim gameD) := by
  refine F.ok scGameFits (fun vs H Q E h => ?_) (fun cdv A outer s H vs Q E hr h => ?_)
  · obtain ⟨v, d, rfl, _⟩ := h
    rfl
  · obtain ⟨v, d, rfl, rd, hs, q⟩ := h
    have hr1 := hr.mono (show 1 ≤ 5 by omega)
    refine ⟨_, pss_cons (ps_if (pt_not (pt_val (pe_call T.GT hr1 (by rfl) T.gT T.FT.kp T.bT .nil pass0 (pa_cons (pv 0) (pa_cons pe_int pa_nil)))))
        (pss_one (ps_ret pe_bl)) pss_nil)
      (pss_cons (ps_asg (pv 0) (pg_tup rfl (pgs_cons (pg_name (i := 1) scGameFits.nd rfl (Or.inl rfl)) (pgs_cons (pg_name (i := 2) scGameFits.nd rfl (Or.inl rfl)) pgs_nil))))
      (pss_cons (ps_if (PW.pt (pw_or (pt_not (pt_val (pe_call GB hr (by rfl) gB FB.kp bB .nil pass0 (pa_cons (pv 1) pa_nil)))) (pw_or1 (pt_not (pt_val (pe_call GB hr (by rfl) gB FB.kp bB .nil pass0 (pa_cons (pv 2) pa_nil)))))))
        (pss_one (ps_ret pe_bl)) pss_nil)
      (pss_one (ps_ret (pe_and (pe_cmpR op_eq (pe_callB call_len_seq (by rfl) T.len PySem.boot_len (pa_cons (pv 1) pa_nil)) (pe_callB call_len_seq (by rfl) T.len PySem.boot_len (pa_cons (pv 2) pa_nil)) (nomark _))
        (pe_one (pe_cmpR op_eq (pe_callB call_len_seq (by rfl) T.len PySem.boot_len (pa_cons (pe_ix ix_tup (pv 1) pe_int (fun _ _ => rfl)) pa_nil)) (pe_callB call_len_seq (by rfl) T.len PySem.boot_len (pa_cons (pe_ix ix_tup (pv 2) pe_int (fun _ _ => rfl)) pa_nil)) (nomark _)))))))), ?_⟩
    refine ⟨v, rfl, v, d, 2, rfl, rd, _, rfl, ?_⟩
    cases e : tupN 2 d with
    | false =>
      have : gameD d = false := by
        unfold gameD
        unfold tupN at e
        split
        · rename_i a b h
          rw [h] at e
          simp at e
        · rfl
      rw [this] at q
      exact iteT (q H (.refl H))
    | true =>
      have e2 : ∃ a b, tupD d = some [a, b] := by
        unfold tupN at e
        split at e
        · rename_i ds h
          have hl := of_decide_eq_true e
          match ds, hl with
          | [a, b], _ => exact ⟨a, b, h⟩
          | [], z => simp at z
          | [_], z => simp at z
          | _ :: _ :: _ :: _, z => simp only [List.length_cons] at z; omega
        · cases e
      obtain ⟨d1, d2, e3⟩ := e2
      obtain ⟨a, xs, rfl, rfl, hx, rs⟩ := rd.tupOf e3
      cases rs with
      | cons r1 rs =>
        cases rs with
        | cons r2 rs =>
          cases rs
          rename_i x1 x2
          have eg : gameD (.tuple [d1, d2]) = (tableD d1 && tableD d2 && decide (lenD d1 = lenD d2) && decide (lenD (headD d1) = lenD (headD d2))) := rfl
          refine iteF ⟨.ref a, rfl, a, [x1, x2], rfl, SqT.of hx, rfl, x1, [x2], rfl, x2, [], rfl, rfl, ?_⟩
          refine ⟨x1, rfl, x1, d1, rfl, r1, hs d1 List.mem_cons_self, fun H1 S1 => ⟨_, rfl, ?_⟩⟩
          cases e4 : tableD d1 with
          | false =>
            have : gameD (.tuple [d1, d2]) = false := by rw [eg, e4]; rfl
            rw [this] at q
            exact iteT (iteT (q H1 S1))
          | true =>
            refine iteF ⟨x2, rfl, x2, d2, rfl, r2.keep S1, hs d2 (List.mem_cons_of_mem _ List.mem_cons_self), fun H2 S2 => ⟨_, rfl, ?_⟩⟩
            have S3 := S1.trans S2
            cases e5 : tableD d2 with
            | false =>
              have : gameD (.tuple [d1, d2]) = false := by rw [eg, e4, e5]; rfl
              rw [this] at q
              exact iteT (q H2 S3)
            | true =>
              obtain ⟨ds1, t1, l1, l1', a1, _⟩ := tableD_tup e4
              obtain ⟨ds2, t2, l2, l2', a2, _⟩ := tableD_tup e5
              obtain ⟨p1, ys1, rfl, rfl, hy1, rs1⟩ := (r1.keep S3).tupOf t1
              obtain ⟨p2, ys2, rfl, rfl, hy2, rs2⟩ := (r2.keep S3).tupOf t2
              have n1 : lenD (.tuple ds1) = (ys1.length : Int) := by show ((ds1.length : Nat) : Int) = _; rw [RDs.length rs1]
              have n2 : lenD (.tuple ds2) = (ys2.length : Int) := by show ((ds2.length : Nat) : Int) = _; rw [RDs.length rs2]
              refine iteF ⟨.ref p1, rfl, p1, ys1, rfl, .inr (SqT.of hy1), .ref p2, rfl, p2, ys2, rfl, .inr (SqT.of hy2), rfl, _, rfl, ?_⟩
              rw [dec_int', ← n1, ← n2]
              rw [e4, e5] at eg
              refine ite2 (fun e6 => ?_) (fun e6 => ?_)
              · rw [e6] at eg
                cases rs1 with
                | nil => exact absurd l1 (by decide)
                | @cons h1 tx1 dh1 td1 rh1 rt1 =>
                  cases rs2 with
                  | nil => exact absurd l2 (by decide)
                  | @cons h2 tx2 dh2 td2 rh2 rt2 =>
                    obtain ⟨es1, u1, _⟩ := rowD_tup (List.all_eq_true.mp a1 dh1 List.mem_cons_self)
                    obtain ⟨es2, u2, _⟩ := rowD_tup (List.all_eq_true.mp a2 dh2 List.mem_cons_self)
                    obtain ⟨b1, zs1, rfl, rfl, hz1, rz1⟩ := rh1.tupOf u1
                    obtain ⟨b2, zs2, rfl, rfl, hz2, rz2⟩ := rh2.tupOf u2
                    have m1 : lenD (headD (.tuple (.tuple es1 :: td1))) = (zs1.length : Int) := by show ((es1.length : Nat) : Int) = _; rw [RDs.length rz1]
                    have m2 : lenD (headD (.tuple (.tuple es2 :: td2))) = (zs2.length : Int) := by show ((es2.length : Nat) : Int) = _; rw [RDs.length rz2]
                    refine ⟨.ref p1, rfl, p1, _, 0, .ref b1, rfl, rfl, SqT.of hy1, atI_nat (j := 0) rfl, b1, zs1, rfl, .inr (SqT.of hz1), .ref p2, rfl, p2, _, 0, .ref b2, rfl, rfl, SqT.of hy2, atI_nat (j := 0) rfl, b2, zs2, rfl, .inr (SqT.of hz2), rfl, ?_⟩
                    rw [dec_int', ← m1, ← m2]
                    rw [eg] at q
                    exact q H2 S3
              · rw [Bool.eq_false_iff.mpr e6] at eg
                rw [eg] at q
                exact q H2 S3
theorem slim_game {g : PyData} (h : gameD g = true) : Slim g := fun t ht r hr => by
  unfold gameD at h
  split at h
  · rename_i a b e
    rw [Bool.and_eq_true, Bool.and_eq_true, Bool.and_eq_true] at h
    have key : ∀ x, tableD x = true → ∀ r ∈ itemsD x, lenD r ≤ 1000 := fun x hx r hr => by
      obtain ⟨ds, e1, _, _, al, _⟩ := tableD_tup hx
      unfold itemsD at hr
      rw [e1] at hr
      obtain ⟨es, e2, _, l5, _⟩ := rowD_tup (List.all_eq_true.mp al r hr)
      unfold lenD itemsD
      rw [e2]
      show ((es.length : Nat) : Int) ≤ 1000
      omega
    unfold itemsD at ht
    rw [e] at ht
    rcases List.mem_cons.mp ht with rfl | ht
    · exact key _ h.1.1.1 r hr
    · rcases List.mem_singleton.mp ht with rfl
      exact key _ h.1.1.2 r hr
  · cases h
end
end K04

/-! Q10: size, side_fits, mix_fits, choice_fits, lot_fits. -/
namespace K04
open PySem PySem.Spec PyProof.Rows L2 GL

/-- how many choices a side has -/
def sizeD (g : PyData) (s : Int) : Int := if s = 0 then lenD (headD g) else lenD (headD (headD g))
/-- a game's first table in the heap -/
theorem game_at {H : Hp} {v : V} {g : PyData} (r : RD H v g) (h : gameD g = true) : ∃ a p q c ys zs rest, v = .ref a ∧ H a = some (.tup [.ref p, q]) ∧
    H p = some (.tup (.ref c :: rest)) ∧ ys = V.ref c :: rest ∧ H c = some (.tup zs) ∧ (ys.length : Int) = sizeD g 0 ∧ (∀ s, s ≠ 0 → (zs.length : Int) = sizeD g s) ∧
    1 ≤ sizeD g 0 ∧ sizeD g 0 ≤ 5 ∧ 1 ≤ sizeD g 1 ∧ sizeD g 1 ≤ 5 := by
  have e : ∃ d1 d2, tupD g = some [d1, d2] ∧ tableD d1 = true := by
    unfold gameD at h
    split at h
    · rename_i d1 d2 z
      rw [Bool.and_eq_true, Bool.and_eq_true, Bool.and_eq_true] at h
      exact ⟨d1, d2, z, h.1.1.1⟩
    · cases h
  obtain ⟨d1, d2, e1, e2⟩ := e
  obtain ⟨a, xs, rfl, rfl, hx, rs⟩ := r.tupOf e1
  obtain ⟨ds, t1, l1, l2, a1, _⟩ := tableD_tup e2
  cases rs with
  | cons r1 rs =>
    cases rs with
    | cons r2 rs =>
      cases rs
      obtain ⟨p, ys, rfl, rfl, hy, rs1⟩ := r1.tupOf t1
      cases rs1 with
      | nil => exact absurd l1 (by decide)
      | @cons h1 tx1 dh1 td1 rh1 rt1 =>
        obtain ⟨es, u1, m1, m2, _⟩ := rowD_tup (List.all_eq_true.mp a1 dh1 List.mem_cons_self)
        obtain ⟨c, zs, rfl, rfl, hz, rz⟩ := rh1.tupOf u1
        have n1 : sizeD (.tuple [.tuple (.tuple es :: td1), d2]) 0 = (((.tuple es :: td1 : List PyData).length : Nat) : Int) := rfl
        have n2 : ∀ s, s ≠ 0 → sizeD (.tuple [.tuple (.tuple es :: td1), d2]) s = ((es.length : Nat) : Int) := fun s hs => if_neg hs
        refine ⟨a, p, _, c, _, zs, _, rfl, hx, hy, rfl, hz, ?_, fun s hs => ?_, ?_, ?_, ?_, ?_⟩
        · rw [n1, List.length_cons, List.length_cons, RDs.length rt1]
        · rw [n2 s hs, RDs.length rz]
        · rw [n1]; omega
        · rw [n1]; omega
        · rw [n2 1 (by decide)]; omega
        · rw [n2 1 (by decide)]; omega
theorem size_le {H : Hp} {v : V} {g : PyData} (r : RD H v g) (h : gameD g = true) {s : Int} (hs : s = 0 ∨ s = 1) : 1 ≤ sizeD g s ∧ sizeD g s ≤ 5 := by
  obtain ⟨_, _, _, _, _, _, _, _, _, _, _, _, _, _, h1, h2, h3, h4⟩ := game_at r h
  rcases hs with rfl | rfl
  · exact ⟨h1, h2⟩
  · exact ⟨h3, h4⟩
section
variable {P : Program} {w : World} {K : PySem.W.Frag} {mg : Str → Option Value} {base : Heap}
variable {fW fT fS fC fX : Addr} {dW dT dS dC dX : FuncData}

def spSize : Sp := fun vs H Q _ => ∃ v g s, vs = [v, .int s] ∧ RD H v g ∧ gameD g = true ∧ Q (.int (sizeD g s)) H
theorem ok_size {f : Addr} {fd : FuncData} (F : Fun K "size" "size" sSize f fd) (ml : mg "len" = none) :
    FnOk P w K mg base CX0 1 f fd ["game", "side"] spSize := by
  refine F.ok scSize (fun vs H Q E h => ?_) (fun cdv A outer s H vs Q E hr h => ?_)
  · obtain ⟨v, d, n, rfl, _⟩ := h
    rfl
  · obtain ⟨v, g, sd, rfl, rd, hg, q⟩ := h
    refine ⟨_, pss_cons (ps_set (i := 2) scSize.nd rfl (.inl rfl) (pe_ix ix_tup (pv 0) pe_int (fun _ _ => rfl)))
      (pss_one (ps_ret (pe_ifExp (pt_cmpR op_eq (pv 1) pe_int (nomark _)) (pe_callB call_len_seq (by rfl) ml PySem.boot_len (pa_cons (pv 2) pa_nil))
        (pe_callB call_len_seq (by rfl) ml PySem.boot_len (pa_cons (pe_ix ix_tup (pv 2) pe_int (fun _ _ => rfl)) pa_nil))))), ?_⟩
    obtain ⟨a, p, z, c, ys, zs, rest, rfl, hx, hy, rfl, hz, n1, n2, _⟩ := game_at rd hg
    refine ⟨.ref a, rfl, a, _, 0, .ref p, rfl, rfl, SqT.of hx, atI_nat (j := 0) rfl, .int sd, rfl, rfl, _, rfl, ?_⟩
    rw [dec_int']
    refine ite2 (fun e => ?_) (fun e => ?_)
    · have e0 : sd = 0 := of_decide_eq_true e
      subst e0
      refine ⟨.ref p, rfl, p, _, rfl, .inr (SqT.of hy), ?_⟩
      rw [n1]; exact q
    · have e0 : sd ≠ 0 := fun z => e (decide_eq_true z)
      refine ⟨.ref p, rfl, p, _, 0, .ref c, rfl, rfl, SqT.of hy, atI_nat (j := 0) rfl, c, zs, rfl, .inr (SqT.of hz), ?_⟩
      rw [n2 sd e0]; exact q

def spSideFits : Sp := fun vs H Q _ => ∃ s : Int, vs = [.int s] ∧ (s = 0 ∨ s = 1) ∧ ∀ H', Same H H' → Q (.bl true) H'
theorem ok_sidefits {f : Addr} {fd : FuncData} (F : Fun K "side_fits" "side_fits" sSideFits f fd) (T : KinT P w K mg base fW fT dW dT) :
    FnOk P w K mg base CX0 2 f fd ["value"] spSideFits := by
  refine F.ok scSideFits (fun vs H Q E h => ?_) (fun cdv A outer s H vs Q E hr h => ?_)
  · obtain ⟨v, rfl, _⟩ := h
    rfl
  · obtain ⟨sd, rfl, hs, q⟩ := h
    refine ⟨_, pss_one (ps_ret (pe_and (pe_call T.GW hr (by rfl) T.gW T.FW.kp T.bW .nil pass0 (pa_cons (pv 0) pa_nil))
      (pe_one (pe_cmpR (show OpR _ (compareOp .In) (rIn K false) from op_in_seq) (pv 0) (pe_tup (pa_cons pe_int (pa_cons pe_int pa_nil))) (by rfl))))), ?_⟩
    refine ⟨.int sd, rfl, .int sd, .int sd, rfl, .int sd, fun H1 S => ⟨true, rfl, iteT ⟨.int sd, rfl, by show 2 ≤ sizeLine; decide, fun p hp => ?_⟩⟩⟩
    refine ⟨p, _, rfl, .inr (SqT.of upd_same), rfl, rfl, ?_⟩
    rcases hs with rfl | rfl
    · exact q _ (S.trans (same_new hp))
    · exact q _ (S.trans (same_new hp))

/-- choices, lots -/
def choiceD (n : Int) : PyData → Bool
  | .int i => decide (0 ≤ i) && decide (i < n)
  | _ => false
def spChoiceFits : Sp := fun vs H Q _ => ∃ v g s u d, vs = [v, .int s, u] ∧ RD H v g ∧ gameD g = true ∧ RD H u d ∧ ∀ H', Same H H' → Q (.bl (choiceD (sizeD g s) d)) H'
theorem ok_choicefits {f : Addr} {fd : FuncData} (F : Fun K "choice_fits" "choice_fits" sChoiceFits f fd) (T : KinT P w K mg base fW fT dW dT)
    (FS : Fun K "size" "size" sSize fS dS) (bS : Binds K dS ["game", "side"] []) (gS : mg "size" = some (.ref fS)) (GS : FnOk P w K mg base CX0 1 fS dS ["game", "side"] spSize) :
    FnOk P w K mg base CX0 2 f fd ["game", "side", "value"] spChoiceFits := by
  refine F.ok scChoiceFits (fun vs H Q E h => ?_) (fun cdv A outer s H vs Q E hr h => ?_)
  · obtain ⟨v, g, sd, u, d, rfl, _⟩ := h
    rfl
  · obtain ⟨v, g, sd, u, d, rfl, rd, hg, ru, q⟩ := h
    refine ⟨_, pss_one (ps_ret (pe_and (pe_call T.GW hr (by rfl) T.gW T.FW.kp T.bW .nil pass0 (pa_cons (pv 2) pa_nil))
      (pe_one (pe_chain op_le op_lt pe_int (pv 2) (pe_call GS hr (by rfl) gS FS.kp bS .nil pass0 (pa_cons (pv 0) (pa_cons (pv 1) pa_nil))))))), ?_⟩
    refine ⟨u, rfl, u, d, rfl, ru, fun H1 S => ⟨_, rfl, ite2 (fun e1 => ?_) (fun e1 => ?_)⟩⟩
    · obtain ⟨i, rfl, rfl⟩ := ru.whole e1
      have ec : choiceD (sizeD g sd) (.int i) = (decide (0 ≤ i) && decide (i < sizeD g sd)) := rfl
      refine ⟨.int i, rfl, _, _, rfl, rfl, _, rfl, ite2 (fun e2 => ?_) (fun e2 => ?_)⟩
      · refine ⟨v, rfl, .int sd, rfl, v, g, sd, rfl, rd.keep S, hg, _, _, rfl, rfl, ?_⟩
        rw [ec, show decide (0 ≤ i) = true from e2] at q
        exact q H1 S
      · rw [ec, show decide (0 ≤ i) = false from Bool.eq_false_iff.mpr e2] at q
        exact q H1 S
    · have : choiceD (sizeD g sd) d = false := by cases d <;> first | rfl | exact absurd rfl e1
      rw [this] at q
      exact q H1 S

variable {fG fD : Addr} {dG dD : FuncData}
def spCheckG : Sp := fun vs H Q _ => ∃ v g, vs = [v] ∧ RD H v g ∧ gameD g = true ∧ ∀ H', Same H H' → Q .non H'
theorem ok_checkgame {f : Addr} {fd : FuncData} (F : Fun K "check_game" "check_game" sCheckGame f fd)
    (FG : Fun K "game_fits" "game_fits" sGameFits fG dG) (bG : Binds K dG ["value"] []) (gG : mg "game_fits" = some (.ref fG)) (GG : FnOk P w K mg base CX0 6 fG dG ["value"] (spKc Slim gameD)) :
    FnOk P w K mg base CX0 7 f fd ["game"] spCheckG := by
  refine F.ok scCheckGame (fun vs H Q E h => ?_) (fun cdv A outer s H vs Q E hr h => ?_)
  · obtain ⟨v, d, rfl, _⟩ := h
    rfl
  · obtain ⟨v, g, rfl, rd, hg, q⟩ := h
    refine ⟨_, pss_one (ps_if (pt_not (pt_val (pe_call GG hr (by rfl) gG FG.kp bG .nil pass0 (pa_cons (pv 0) pa_nil)))) pss_never pss_nil), ?_⟩
    refine ⟨v, rfl, v, g, rfl, rd, slim_game hg, fun H1 S => ⟨_, rfl, ?_⟩⟩
    rw [hg]
    exact iteF (q H1 S)

def spCheckS : Sp := fun vs H Q _ => ∃ s : Int, vs = [.int s] ∧ (s = 0 ∨ s = 1) ∧ ∀ H', Same H H' → Q .non H'
theorem ok_checkside {f : Addr} {fd : FuncData} (F : Fun K "check_side" "check_side" sCheckSide f fd)
    (FS : Fun K "side_fits" "side_fits" sSideFits fS dS) (bS : Binds K dS ["value"] []) (gS : mg "side_fits" = some (.ref fS)) (GS : FnOk P w K mg base CX0 2 fS dS ["value"] spSideFits) :
    FnOk P w K mg base CX0 3 f fd ["side"] spCheckS := by
  refine F.ok scCheckSide (fun vs H Q E h => ?_) (fun cdv A outer s H vs Q E hr h => ?_)
  · obtain ⟨v, rfl, _⟩ := h
    rfl
  · obtain ⟨sd, rfl, hs, q⟩ := h
    refine ⟨_, pss_one (ps_if (pt_not (pt_val (pe_call GS hr (by rfl) gS FS.kp bS .nil pass0 (pa_cons (pv 0) pa_nil)))) pss_never pss_nil), ?_⟩
    exact ⟨.int sd, rfl, sd, rfl, hs, fun H1 S => ⟨_, rfl, iteF (q H1 S)⟩⟩

def spCheckGS : Sp := fun vs H Q _ => ∃ v g s, vs = [v, .int s] ∧ RD H v g ∧ gameD g = true ∧ (s = 0 ∨ s = 1) ∧ ∀ H', Same H H' → Q .non H'
theorem ok_checkgs {f : Addr} {fd : FuncData} (F : Fun K "check_game_and_side" "check_game_and_side" sCheckGameAndSide f fd)
    (FG : Fun K "check_game" "check_game" sCheckGame fG dG) (bG : Binds K dG ["game"] []) (gG : mg "check_game" = some (.ref fG)) (GG : FnOk P w K mg base CX0 7 fG dG ["game"] spCheckG)
    (FS : Fun K "check_side" "check_side" sCheckSide fS dS) (bS : Binds K dS ["side"] []) (gS : mg "check_side" = some (.ref fS)) (GS : FnOk P w K mg base CX0 3 fS dS ["side"] spCheckS) :
    FnOk P w K mg base CX0 8 f fd ["game", "side"] spCheckGS := by
  refine F.ok scCheckGameAndSide (fun vs H Q E h => ?_) (fun cdv A outer s H vs Q E hr h => ?_)
  · obtain ⟨v, g, sd, rfl, _⟩ := h
    rfl
  · obtain ⟨v, g, sd, rfl, rd, hg, hs, q⟩ := h
    have hr3 := hr.mono (show 3 ≤ 7 by omega)
    refine ⟨_, pss_cons (ps_expr (pe_call GG hr (by rfl) gG FG.kp bG .nil pass0 (pa_cons (pv 0) pa_nil)))
      (pss_one (ps_expr (pe_call GS hr3 (by rfl) gS FS.kp bS .nil pass0 (pa_cons (pv 1) pa_nil)))), ?_⟩
    exact ⟨v, rfl, v, g, rfl, rd, hg, fun H1 S => ⟨.int sd, rfl, sd, rfl, hs, fun H2 S2 => q H2 (S.trans S2)⟩⟩

end
end K04

/-! Q15: data beside the source; what is drawn in a comprehension; _law_number. -/
namespace K04
open PySem PySem.Spec PyProof.Rows L2 GL

/-! ### data that stands beside some places -/
def hid (l : List Addr) (H : Hp) : Hp := fun b => if b ∈ l then none else H b
theorem hid_of {l : List Addr} {H : Hp} {b : Addr} {o : HO} (h : hid l H b = some o) : b ∉ l ∧ H b = some o := by
  unfold hid at h
  split at h
  · cases h
  · rename_i n; exact ⟨n, h⟩
theorem hid_mk {l : List Addr} {H : Hp} {b : Addr} {o : HO} (n : b ∉ l) (h : H b = some o) : hid l H b = some o := by
  unfold hid; rw [if_neg n]; exact h
/-- the source stands among the places, and all of them are there -/
structure Ctx (l : List Addr) (p sc : Addr) (ns : List Int) (H : Hp) : Prop where
  src : Src H p sc ns
  mem : p ∈ l
  here : ∀ b ∈ l, H b ≠ none
theorem Ctx.kp {l : List Addr} {p sc : Addr} {ns : List Int} {H H' : Hp} (c : Ctx l p sc ns H) (k : Kp p H H') (s : Src H' p sc ns) : Ctx l p sc ns H' :=
  ⟨s, c.mem, fun b hb => by
    by_cases e : b = p
    · obtain ⟨_, _, o, ho, _⟩ := s
      rw [e, ho]; exact fun z => nomatch z
    · have := c.here b hb
      cases hh : H b with
      | none => exact absurd hh this
      | some o => rw [k b o e hh]; exact fun z => nomatch z⟩
theorem Src.at {H : Hp} {p sc : Addr} {ns : List Int} (s : Src H p sc ns) : ∃ o, H p = some o := let ⟨_, _, o, h, _⟩ := s; ⟨o, h⟩
theorem RD.hk {l : List Addr} {p : Addr} {H H' : Hp} {v d} (m : p ∈ l) (k : Kp p H H') (r : RD (hid l H) v d) : RD (hid l H') v d :=
  r.keep fun b o e => by
    obtain ⟨n, e'⟩ := hid_of e
    exact hid_mk n (k b o (fun z => n (z ▸ m)) e')
theorem RDs.hk {l : List Addr} {p : Addr} {H H' : Hp} {v d} (m : p ∈ l) (k : Kp p H H') (r : RDs (hid l H) v d) : RDs (hid l H') v d :=
  RDs.keep (fun b o e => by
    obtain ⟨n, e'⟩ := hid_of e
    exact hid_mk n (k b o (fun z => n (z ▸ m)) e')) r
theorem RD.out {l : List Addr} {H : Hp} {v d} (r : RD (hid l H) v d) : RD H v d := r.keep fun b o e => (hid_of e).2
theorem RDs.out {l : List Addr} {H : Hp} {v d} (r : RDs (hid l H) v d) : RDs H v d := RDs.keep (fun b o e => (hid_of e).2) r
theorem RDs.less {l : List Addr} {D : Addr} {H : Hp} {v d} (r : RDs (hid (D :: l) H) v d) : RDs (hid l H) v d :=
  RDs.keep (fun b o e => by
    obtain ⟨n, e'⟩ := hid_of e
    exact hid_mk (fun z => n (List.mem_cons_of_mem _ z)) e') r
theorem RD.less {l : List Addr} {D : Addr} {H : Hp} {v d} (r : RD (hid (D :: l) H) v d) : RD (hid l H) v d :=
  r.keep fun b o e => by
    obtain ⟨n, e'⟩ := hid_of e
    exact hid_mk (fun z => n (List.mem_cons_of_mem _ z)) e'
theorem RDs.putD {l : List Addr} {D : Addr} {H : Hp} {o : HO} {v d} (r : RDs (hid (D :: l) H) v d) : RDs (hid (D :: l) (upd H D o)) v d :=
  RDs.keep (fun b o e => by
    obtain ⟨n, e'⟩ := hid_of e
    exact hid_mk n (by rw [upd_ne (fun z => n (by rw [z]; exact List.mem_cons_self))]; exact e')) r
theorem not_in {l : List Addr} {p sc : Addr} {ns : List Int} {H : Hp} {a : Addr} (c : Ctx l p sc ns H) (h : H a = none) : a ∉ l := fun z => c.here a z h
/-- a new tuple, a new list of data -/
theorem RD.tupN {l : List Addr} {p sc : Addr} {ns : List Int} {H : Hp} {a : Addr} {xs ds} (c : Ctx l p sc ns H) (h : H a = none) (r : RDs (hid l H) xs ds) :
    RD (hid l (upd H a (.tup xs))) (.ref a) (.tuple ds) :=
  .tup (hid_mk (not_in c h) upd_same) (RDs.hk c.mem (Kp.new h) r)
theorem RD.lstN {l : List Addr} {p sc : Addr} {ns : List Int} {H : Hp} {a : Addr} {xs ds} (c : Ctx l p sc ns H) (h : H a = none) (r : RDs (hid l H) xs ds) :
    RD (hid l (upd H a (.lst xs))) (.ref a) (.list ds) :=
  .lst (hid_mk (not_in c h) upd_same) (RDs.hk c.mem (Kp.new h) r)
theorem Ctx.new {l : List Addr} {p sc : Addr} {ns : List Int} {H : Hp} {a : Addr} {o : HO} (c : Ctx l p sc ns H) (h : H a = none) : Ctx l p sc ns (upd H a o) :=
  c.kp (Kp.new h) (c.src.same (same_new h))
theorem Ctx.put {l : List Addr} {p sc : Addr} {ns : List Int} {H : Hp} {o : HO} (c : Ctx l p sc ns H) (s : SrcO sc o) : Ctx l p sc ns (upd H p o) :=
  c.kp Kp.put (c.src.kp Kp.put o upd_same s)
theorem Ctx.more {l : List Addr} {p sc : Addr} {ns : List Int} {H : Hp} {D : Addr} (c : Ctx l p sc ns H) (h : H D ≠ none) : Ctx (D :: l) p sc ns H :=
  ⟨c.src, List.mem_cons_of_mem _ c.mem, fun b hb => by
    rcases List.mem_cons.mp hb with rfl | hb
    · exact h
    · exact c.here b hb⟩

/-! ### a list that is drawn, item by item -/
/-- so far: i items at D, all new beside l, all of the kind C -/
def Dr (l : List Addr) (p sc : Addr) (ns : List Int) (H1 : Hp) (D : Addr) (C : PyData → Prop) (i : Nat) (H : Hp) : Prop :=
  ∃ vs ds, H D = some (.lst vs) ∧ vs.length = i ∧ RDs (hid (D :: l) H) vs ds ∧ (∀ d ∈ ds, C d) ∧ Kp p H1 H ∧ Ctx (D :: l) p sc ns H
theorem Ctx.putD {l : List Addr} {p sc : Addr} {ns : List Int} {H : Hp} {D : Addr} {o : HO} (c : Ctx (D :: l) p sc ns H) (n1 : D ≠ p) (n2 : D ≠ sc) : Ctx (D :: l) p sc ns (upd H D o) := by
  obtain ⟨⟨n, hs, u, hu, so⟩, m, hr⟩ := c
  refine ⟨⟨n, by rw [upd_ne n2.symm]; exact hs, u, by rw [upd_ne n1.symm]; exact hu, so⟩, m, fun b hb => ?_⟩
  by_cases e : b = D
  · rw [e, upd_same]; exact fun z => nomatch z
  · rw [upd_ne e]; exact hr b hb
theorem Dr.zero {l : List Addr} {p sc : Addr} {ns : List Int} {H1 : Hp} {D : Addr} {C : PyData → Prop} (c : Ctx l p sc ns H1) (hD : H1 D = none) : Dr l p sc ns H1 D C 0 (upd H1 D (.lst [])) :=
  ⟨[], [], upd_same, rfl, .nil, (fun _ h => by cases h), Kp.new hD, (c.new hD).more (by rw [upd_same]; exact fun z => nomatch z)⟩
theorem Dr.step {l : List Addr} {p sc : Addr} {ns : List Int} {H1 H H' : Hp} {D : Addr} {C : PyData → Prop} {i : Nat} {v : V} {d : PyData} (h : Dr l p sc ns H1 D C i H) (hD : H1 D = none) (c1 : Ctx l p sc ns H1) (hi : i < 1000000)
    (k : Kp p H H') (c : Ctx (D :: l) p sc ns H') (r : RD (hid (D :: l) H') v d) (cd : C d) :
    ∃ acc, H' D = some (.lst acc) ∧ acc.length < sizeLine ∧ Dr l p sc ns H1 D C (i + 1) (upd H' D (.lst (acc ++ [v]))) := by
  obtain ⟨vs, ds, e, hl, rs, hc, k0, c0⟩ := h
  have nDp : D ≠ p := fun z => by obtain ⟨o, ho⟩ := c1.src.at; rw [← z, hD] at ho; cases ho
  have nDs : D ≠ sc := fun z => by have := c1.src.2.1; rw [← z, hD] at this; cases this
  refine ⟨vs, k D _ nDp e, by rw [sizeLine_eq]; omega, vs ++ [v], ds ++ [d], upd_same, by rw [List.length_append]; show _ + 1 = _; omega, ?_, ?_, ?_, c.putD nDp nDs⟩
  · exact RDs.putD (RDs.snoc r (RDs.hk c0.mem k rs))
  · intro x hx
    rcases List.mem_append.mp hx with hx | hx
    · exact hc x hx
    · rcases List.mem_singleton.mp hx with rfl; exact cd
  · intro b o n e2
    rw [upd_ne (ne_of_none e2 hD)]
    exact k b o n (k0 b o n e2)
theorem Dr.ctx {l : List Addr} {p sc : Addr} {ns : List Int} {H1 H : Hp} {D : Addr} {C : PyData → Prop} {i : Nat} (h : Dr l p sc ns H1 D C i H) : Ctx (D :: l) p sc ns H := by
  obtain ⟨_, _, _, _, _, _, _, c⟩ := h; exact c
theorem Dr.kp {l : List Addr} {p sc : Addr} {ns : List Int} {H1 H : Hp} {D : Addr} {C : PyData → Prop} {i : Nat} (h : Dr l p sc ns H1 D C i H) : Kp p H1 H := by
  obtain ⟨_, _, _, _, _, _, k, _⟩ := h; exact k
theorem Ctx.tail {l : List Addr} {p sc : Addr} {ns : List Int} {H H0 : Hp} {D : Addr} (c : Ctx (D :: l) p sc ns H) (c0 : Ctx l p sc ns H0) : Ctx l p sc ns H :=
  ⟨c.src, c0.mem, fun b hb => c.here b (List.mem_cons_of_mem _ hb)⟩

section
variable {P : Program} {w : World} {K : PySem.W.Frag} {mg : Str → Option Value} {base : Heap}
/-- an integer of -1000 to 1000 -/
def NumC : PyData → Prop := fun d => ∃ i : Int, d = .int i ∧ -1000 ≤ i ∧ i ≤ 1000
/-- what is told new: data of a kind, the source there still -/
def Tells (l : List Addr) (p sc : Addr) (ns : List Int) (H : Hp) (C : PyData → Prop) (Q : VK) : Prop :=
  ∀ H' v d, Kp p H H' → Ctx l p sc ns H' → RD (hid l H') v d → C d → Q v H'
def spNumber : Sp := fun vs H Q _ => ∃ l p sc ns kind, vs = [.ref p, .int kind] ∧ 0 ≤ kind ∧ kind < 5 ∧ Ctx l p sc ns H ∧ Tells l p sc ns H NumC Q
variable {fP fN : Addr} {dP dN : FuncData}
theorem ok_number {f : Addr} {fd : FuncData} (F : Fun K "_law_number" "_law_number" sLNumber f fd)
    (FP : Fun K "_law_pick" "_law_pick" sLPick fP dP) (bP : Binds K dP ["source", "many"] []) (gP : mg "_law_pick" = some (.ref fP)) (GP : FnOk P w K mg base CX0 1 fP dP ["source", "many"] (spPick 0)) :
    FnOk P w K mg base CX0 2 f fd ["source", "kind"] spNumber := by
  refine F.ok scLNumber (fun vs H Q E h => ?_) (fun cdv A outer s H vs Q E hr h => ?_)
  · obtain ⟨l, p, sc, ns, kind, rfl, _⟩ := h
    rfl
  · obtain ⟨l, p, sc, ns, kind, rfl, h0, h5, c, q⟩ := h
    refine ⟨_, pss_cons (ps_if (pt_cmpR op_lt (pv 1) pe_int (nomark _))
        (pss_one (ps_ret (pe_op op_sub (pe_call GP hr (by rfl) gP FP.kp bP .nil pass0 (pa_cons (pv 0) (pa_cons (pe_ix ix_list (pe_lst (pa_cons pe_int (pa_cons pe_int (pa_cons pe_int pa_nil)))) (pv 1) (fun _ _ => rfl)) pa_nil)))
          (pe_ix ix_list (pe_lst (pa_cons pe_int (pa_cons pe_int (pa_cons pe_int pa_nil)))) (pv 1) (fun _ _ => rfl))))) pss_nil)
      (pss_cons (ps_if (pt_cmpR op_eq (pv 1) pe_int (nomark _))
        (pss_one (ps_ret (pe_ix ix_list (pe_lst (pa_cons (pe_un un_neg pe_int) (pa_cons pe_int (pa_cons pe_int (pa_cons pe_int pa_nil))))) (pe_call GP hr (by rfl) gP FP.kp bP .nil pass0 (pa_cons (pv 0) (pa_cons pe_int pa_nil))) (fun _ _ => rfl)))) pss_nil)
      (pss_one (ps_ret (pe_op op_sub (pe_call GP hr (by rfl) gP FP.kp bP .nil pass0 (pa_cons (pv 0) (pa_cons pe_int pa_nil))) pe_int)))), ?_⟩
    have mo : most 0 = 100000 := rfl
    have big : ∀ m : Int, 0 < m → m ≤ 100000 → m < 2 ^ 1100 := fun m _ h => by
      have : (100000 : Int) < 2 ^ 1100 := by decide +kernel
      omega
    refine ⟨.int kind, rfl, _, _, rfl, rfl, _, rfl, ite2 (fun e => ?_) (fun e => ?_)⟩
    · have e3 : kind < 3 := of_decide_eq_true e
      obtain ⟨m, sb, a1, a2, m0, m9, s0, s4⟩ : ∃ m sb : Int, atI [V.int 2, .int 3, .int 9] kind = some (.int m) ∧ atI [V.int 0, .int 1, .int 4] kind = some (.int sb) ∧ 0 < m ∧ m ≤ 9 ∧ 0 ≤ sb ∧ sb ≤ 4 := by
        rcases (show kind = 0 ∨ kind = 1 ∨ kind = 2 by omega) with rfl | rfl | rfl
        · exact ⟨2, 0, atI_nat (j := 0) rfl, atI_nat (j := 0) rfl, by decide, by decide, by decide, by decide⟩
        · exact ⟨3, 1, atI_nat (j := 1) rfl, atI_nat (j := 1) rfl, by decide, by decide, by decide, by decide⟩
        · exact ⟨9, 4, atI_nat (j := 2) rfl, atI_nat (j := 2) rfl, by decide, by decide, by decide, by decide⟩
      refine ⟨.ref p, rfl, by show 3 ≤ sizeLine; decide, fun l1 hl1 => ⟨.int kind, rfl, l1, _, kind, .int m, rfl, rfl, SqL.of upd_same, a1, p, sc, ns, m, rfl, m0, by rw [mo]; omega, big m m0 (by omega), (c.new hl1).src, fun r o1 r0 r1 so => ?_⟩⟩
      have c1 := (c.new (o := .lst [.int 2, .int 3, .int 9]) hl1).put so
      refine ⟨by show 3 ≤ sizeLine; decide, fun l2 hl2 => ⟨.int kind, rfl, l2, _, kind, .int sb, rfl, rfl, SqL.of upd_same, a2, _, _, rfl, rfl, ?_⟩⟩
      exact q _ _ _ ((Kp.new hl1).trans (Kp.put.trans (Kp.new hl2))) (c1.new hl2) (.int (r - sb)) ⟨r - sb, rfl, by omega, by omega⟩
    · refine ⟨.int kind, rfl, rfl, _, rfl, ite2 (fun e1 => ?_) (fun e1 => ?_)⟩
      · refine ⟨1000, rfl, by show 4 ≤ sizeLine; decide, fun l1 hl1 => ⟨.ref p, rfl, p, sc, ns, 4, rfl, by decide, by rw [mo]; decide, big 4 (by decide) (by decide), (c.new hl1).src, fun r o1 r0 r1 so => ?_⟩⟩
        have np : l1 ≠ p := fun z => by obtain ⟨o, ho⟩ := c.src.at; rw [← z, hl1] at ho; cases ho
        have hl3 : upd (upd H l1 (.lst [.int (-1000), .int 1000, .int 0, .int 999])) p o1 l1 = some (.lst [.int (-1000), .int 1000, .int 0, .int 999]) := by
          rw [upd_ne np]; exact upd_same
        obtain ⟨m, a1, b1, b2⟩ : ∃ m : Int, atI [V.int (-1000), .int 1000, .int 0, .int 999] r = some (.int m) ∧ -1000 ≤ m ∧ m ≤ 1000 := by
          rcases (show r = 0 ∨ r = 1 ∨ r = 2 ∨ r = 3 by omega) with rfl | rfl | rfl | rfl
          · exact ⟨-1000, atI_nat (j := 0) rfl, by decide, by decide⟩
          · exact ⟨1000, atI_nat (j := 1) rfl, by decide, by decide⟩
          · exact ⟨0, atI_nat (j := 2) rfl, by decide, by decide⟩
          · exact ⟨999, atI_nat (j := 3) rfl, by decide, by decide⟩
        refine ⟨l1, _, r, .int m, rfl, rfl, SqL.of hl3, a1, ?_⟩
        exact q _ _ _ ((Kp.new hl1).trans Kp.put) ((c.new hl1).put so) (.int m) ⟨m, rfl, b1, b2⟩
      · refine ⟨.ref p, rfl, p, sc, ns, 2001, rfl, by decide, by rw [mo]; decide, big 2001 (by decide) (by decide), c.src, fun r o1 r0 r1 so => ⟨_, _, rfl, rfl, ?_⟩⟩
        exact q _ _ _ Kp.put (c.put so) (.int (r - 1000)) ⟨r - 1000, rfl, by omega, by omega⟩
end
end K04

/-! Q16: _law_table, _law_game. -/
namespace K04
open PySem PySem.Spec PyProof.Rows L2 GL
/-- the scope of the comprehension that stands in the last row: tuple([.. for ..]) -/
def scTab : Scope := ⟨.function, [(".0", .local), ("row", .local), ("tuple", .globalImplicit), ("range", .globalImplicit), ("columns", .cell), ("kind", .cell), ("source", .cell)], false, false, []⟩
def scCol : Scope := ⟨.function, [(".0", .local), ("column", .local), ("_law_number", .globalImplicit), ("kind", NameKind.«free»), ("source", NameKind.«free»)], false, false, []⟩
theorem bo_col : BlkOk ["source", "rows", "columns", "kind", "row", "column"] scTab scCol [("column", 5)] := blkOk_by (by decide +kernel)
/-- a row, a table, of so many -/
def RowC (c : Nat) : PyData → Prop := fun d => ∃ es, d = .tuple es ∧ es.length = c ∧ ∀ e ∈ es, NumC e
def TabC (r c : Nat) : PyData → Prop := fun d => ∃ ds, d = .tuple ds ∧ ds.length = r ∧ ∀ e ∈ ds, RowC c e
section
variable {P : Program} {w : World} {K : PySem.W.Frag} {mg : Str → Option Value} {base : Heap}
variable {fP fN fB : Addr} {dP dN dB : FuncData}
theorem small : ∀ m : Int, 0 < m → m ≤ 100000 → m < 2 ^ 1100 := fun m _ h => by
  have : (100000 : Int) < 2 ^ 1100 := by decide +kernel
  omega
def spTable : Sp := fun vs H Q _ => ∃ l p sc ns, ∃ r c : Nat, vs = [.ref p, .int r, .int c] ∧ r ≤ 5 ∧ c ≤ 5 ∧ Ctx l p sc ns H ∧ Tells l p sc ns H (TabC r c) Q
theorem ok_ltab {f : Addr} {fd : FuncData} (F : Fun K "_law_table" "_law_table" sLTable f fd) (mt : mg "tuple" = none) (mr : mg "range" = none)
    (FP : Fun K "_law_pick" "_law_pick" sLPick fP dP) (bP : Binds K dP ["source", "many"] []) (gP : mg "_law_pick" = some (.ref fP)) (GP : FnOk P w K mg base CX0 1 fP dP ["source", "many"] (spPick 0))
    (FN : Fun K "_law_number" "_law_number" sLNumber fN dN) (bN : Binds K dN ["source", "kind"] []) (gN : mg "_law_number" = some (.ref fN)) (GN : FnOk P w K mg base CX0 2 fN dN ["source", "kind"] spNumber) :
    FnOk P w K mg base CX0 3 f fd ["source", "rows", "columns"] spTable := by
  refine F.ok scLTable (fun vs H Q E h => ?_) (fun cdv A outer s H vs Q E hr h => ?_)
  · obtain ⟨l, p, sc, ns, r, c, rfl, _⟩ := h
    rfl
  · obtain ⟨l, p, sc, ns, r, c, rfl, hr5, hc5, c0, q⟩ := h
    have hr1 := hr.mono (show 1 ≤ 2 by omega)
    refine ⟨_, pss_cons (ps_set (i := 3) scLTable.nd rfl (.inr rfl) (pe_call GP hr1 (by rfl) gP FP.kp bP .nil pass0 (pa_cons (pv 0) (pa_cons pe_int pa_nil))))
      (pss_one (ps_ret (pe_callTy call_tuple_of (by rfl) mt (by decide +kernel) (pa_cons
        (pe_lc (own := [("row", 4)]) (g := gName 4) (tt := tYes) rfl scLTable.nd (pi_range1 (by rfl) mr (pa_cons (pv 1) pa_nil))
          (blkOk_by (own := [("row", 4)]) (N := ["source", "rows", "columns", "kind", "row", "column"]) (sc := defScope sLTable) (by decide +kernel))
          (fun _ _ _ _ _ => pg_name (i := 4) scLTable.nd rfl (Or.inl rfl)) (fun _ _ _ _ _ => pts_nil)
          (fun _ _ _ _ _ => pe_callTy (show CallR _ (.type "tuple") (fun xs H Q => ∃ p ys, xs = [.ref p] ∧ ((SqL K H p ys ∧ ∀ l, H l = none → Q (.ref l) (upd H l (.tup ys))) ∨ (SqT K H p ys ∧ Q (.ref p) H))) from call_tuple_of) (by rfl) mt (by decide +kernel) (pa_cons
            (pe_lc (own := [("column", 5)]) (g := gName 5) (tt := tYes) rfl scLTable.nd (pi_range1 (by rfl) mr (pa_cons (pv 2) pa_nil))
              bo_col
              (fun _ _ _ _ _ => pg_name (i := 5) scLTable.nd rfl (Or.inl rfl)) (fun _ _ _ _ _ => pts_nil)
              (fun _ _ _ _ _ => pe_call GN hr (by rfl) gN FN.kp bN .nil pass0 (pa_cons (pv 0) (pa_cons (pv 3) pa_nil)))) pa_nil))) pa_nil)))), ?_⟩
    have mo : most 0 = 100000 := rfl
    refine ⟨.ref p, rfl, p, sc, ns, 5, rfl, by decide, by rw [mo]; decide, small 5 (by decide) (by decide), c0.src, fun kd o1 k0 k1 so => ?_⟩
    have c1 := c0.put so
    have kp1 : Kp p H (upd H p o1) := Kp.put
    generalize upd H p o1 = H1 at c1 kp1
    refine ⟨.int r, rfl, r, rfl, by omega, by omega, fun D hD => lc_range (fun i H' => Dr l p sc ns H1 D (RowC c) i H') (.zero c1 hD) (fun i H2 hi pv0 => ⟨rfl, ?_⟩) (fun H2 pv0 => ?_)⟩
    · have c2 := pv0.ctx
      refine ⟨.int c, rfl, c, rfl, by omega, by omega, fun D2 hD2 => lc_range (fun j H' => Dr (D :: l) p sc ns H2 D2 NumC j H') (.zero c2 hD2) (fun j H3 hj pv1 => ⟨rfl, ?_⟩) (fun H3 pv1 => ?_)⟩
      · have c3 := pv1.ctx
        refine ⟨.ref p, rfl, .int kd, rfl, D2 :: D :: l, p, sc, ns, kd, rfl, k0, by omega, c3, fun H4 v d k4 c4 r4 cd => ?_⟩
        exact pv1.step hD2 c2 (by omega) k4 c4 r4 cd
      · have c3 := pv1.ctx
        have k3 := pv1.kp
        obtain ⟨vs, ds, e, hl, rs, hc, _, _⟩ := pv1
        have c4 : Ctx (D :: l) p sc ns H3 := c3.tail c2
        refine ⟨D2, vs, rfl, .inl ⟨SqL.of e, fun t ht => ?_⟩⟩
        refine pv0.step hD c1 (by omega) (k3.trans (Kp.new ht)) (c4.new ht) (RD.tupN c4 ht (RDs.less rs)) ⟨ds, rfl, ?_, hc⟩
        rw [← RDs.length rs, hl]; omega
    · have c3 := pv0.ctx
      have k3 := pv0.kp
      obtain ⟨vs, ds, e, hl, rs, hc, _, _⟩ := pv0
      have c4 : Ctx l p sc ns H2 := c3.tail c1
      refine ⟨D, vs, rfl, .inl ⟨SqL.of e, fun t ht => ?_⟩⟩
      refine q _ _ _ (kp1.trans (k3.trans (Kp.new ht))) (c4.new ht) (RD.tupN c4 ht (RDs.less rs)) ⟨ds, rfl, ?_, hc⟩
      rw [← RDs.length rs, hl]; omega

/-- a game of so many rows and columns -/
def GamC (r c : Nat) : PyData → Prop := fun d => ∃ x y, d = .tuple [x, y] ∧ TabC r c x ∧ TabC r c y
def spGame : Sp := fun vs H Q _ => ∃ l p sc ns, vs = [.ref p, .int 5] ∧ Ctx l p sc ns H ∧ Tells l p sc ns H (fun d => ∃ r c, 1 ≤ r ∧ r ≤ 5 ∧ 1 ≤ c ∧ c ≤ 5 ∧ GamC r c d) Q
theorem ok_lgam {f : Addr} {fd : FuncData} (F : Fun K "_law_game" "_law_game" sLGame f fd)
    (FP : Fun K "_law_pick" "_law_pick" sLPick fP dP) (bP : Binds K dP ["source", "many"] []) (gP : mg "_law_pick" = some (.ref fP)) (GP : FnOk P w K mg base CX0 1 fP dP ["source", "many"] (spPick 0))
    (FB : Fun K "_law_table" "_law_table" sLTable fB dB) (bB : Binds K dB ["source", "rows", "columns"] []) (gB : mg "_law_table" = some (.ref fB)) (GB : FnOk P w K mg base CX0 3 fB dB ["source", "rows", "columns"] spTable) :
    FnOk P w K mg base CX0 4 f fd ["source", "most"] spGame := by
  refine F.ok scLGame (fun vs H Q E h => ?_) (fun cdv A outer s H vs Q E hr h => ?_)
  · obtain ⟨l, p, sc, ns, rfl, _⟩ := h
    rfl
  · obtain ⟨l, p, sc, ns, rfl, c0, q⟩ := h
    have hr1 := hr.mono (show 1 ≤ 3 by omega)
    refine ⟨_, pss_cons (ps_par (i := 2) (j := 3) (by rfl) scLGame.nd rfl rfl (by decide) rfl rfl
        (pa_cons (pe_op op_add pe_int (pe_call GP hr1 (by rfl) gP FP.kp bP .nil pass0 (pa_cons (pv 0) (pa_cons (pv 1) pa_nil))))
        (pa_cons (pe_op op_add pe_int (pe_call GP hr1 (by rfl) gP FP.kp bP .nil pass0 (pa_cons (pv 0) (pa_cons (pv 1) pa_nil)))) pa_nil)) (by rfl))
      (pss_one (ps_ret (pe_tup (pa_cons (pe_call GB hr (by rfl) gB FB.kp bB .nil pass0 (pa_cons (pv 0) (pa_cons (pv 2) (pa_cons (pv 3) pa_nil))))
        (pa_cons (pe_call GB hr (by rfl) gB FB.kp bB .nil pass0 (pa_cons (pv 0) (pa_cons (pv 2) (pa_cons (pv 3) pa_nil)))) pa_nil))))), ?_⟩
    have mo : most 0 = 100000 := rfl
    have b5 := small 5 (by decide) (by decide)
    refine ⟨.ref p, rfl, .int 5, rfl, p, sc, ns, 5, rfl, by decide, by rw [mo]; decide, b5, c0.src, fun r1 o1 x0 x1 so => ⟨_, _, rfl, rfl, ?_⟩⟩
    have c1 := c0.put so
    refine ⟨.ref p, rfl, .int 5, rfl, p, sc, ns, 5, rfl, by decide, by rw [mo]; decide, b5, c1.src, fun r2 o2 y0 y1 so2 => ⟨_, _, rfl, rfl, _, _, rfl, ?_⟩⟩
    have c2 := c1.put so2
    have k2 : Kp p H (upd (upd H p o1) p o2) := Kp.put.trans Kp.put
    generalize upd (upd H p o1) p o2 = H2 at c2 k2
    obtain ⟨m, hm⟩ := Int.eq_ofNat_of_zero_le (show 0 ≤ 1 + r1 by omega)
    obtain ⟨n, hn⟩ := Int.eq_ofNat_of_zero_le (show 0 ≤ 1 + r2 by omega)
    have em : (V.int (1 + r1)) = V.int (m : Int) := by rw [hm]
    have en : (V.int (1 + r2)) = V.int (n : Int) := by rw [hn]
    dsimp only
    rw [em, en]
    refine ⟨.ref p, rfl, .int m, rfl, .int n, rfl, l, p, sc, ns, m, n, rfl, by omega, by omega, c2, fun H3 v d k3 c3 rd cd => ?_⟩
    refine ⟨.ref p, rfl, .int m, rfl, .int n, rfl, l, p, sc, ns, m, n, rfl, by omega, by omega, c3, fun H4 u e k4 c4 ru cu => ⟨by show 2 ≤ sizeLine; decide, fun t ht => ?_⟩⟩
    exact q _ _ _ (k2.trans (k3.trans (k4.trans (Kp.new ht)))) (c4.new ht) (RD.tupN c4 ht (.cons (RD.hk c4.mem k4 rd) (.cons ru .nil))) ⟨m, n, by omega, by omega, by omega, by omega, d, e, rfl, cd, cu⟩
end
end K04

/-! R8: cuts and sums of tuples; tables of numbers as data. -/
namespace GL
open PySem PySem.Spec PyProof.Rows L2
/-- t is one that was there and nothing changed, or it is new -/
def OldNew (olds : List Addr) (H : Hp) (ys : List V) (t : Addr) (H' : Hp) : Prop :=
  H' t = some (.tup ys) ∧ ((t ∈ olds ∧ H' = H) ∨ (H t = none ∧ H' = upd H t (.tup ys)))
section
variable {X : Cx}
def rSlW (K : PySem.W.Frag) : V → Option Int → Option Int → Hp → VK → Prop := fun x lo hi H Q => ∃ a xs, x = .ref a ∧ H a = some (.tup xs) ∧ ∀ t H', OldNew [a] H (cutV xs lo hi) t H' → Q (.ref t) H'
theorem sl_tupW : SlR X (rSlW X.K) := by
  intro pins s σ H x v vl vu lo hi sl Q I rx hs pl pu h
  obtain ⟨a, xs, rfl, hx, q⟩ := h
  refine sl_tupA pins s σ H _ v vl vu lo hi sl Q I rx hs pl pu ⟨a, xs, rfl, SqT.of hx, fun hw => ?_, fun _ t ht => q t _ ⟨upd_same, .inr ⟨ht, rfl⟩⟩⟩
  have e : cutV xs lo hi = xs := by
    unfold cutV
    rw [hw.1, hw.2]
    simp
  exact q a H ⟨by rw [e]; exact hx, .inl ⟨List.mem_cons_self, rfl⟩⟩
def rCatW : R2 := fun x y H Q => ∃ a b xs ys, x = .ref a ∧ y = .ref b ∧ H a = some (.tup xs) ∧ H b = some (.tup ys) ∧ xs.length + ys.length ≤ sizeLine ∧ ∀ t H', OldNew [a, b] H (xs ++ ys) t H' → Q (.ref t) H'
theorem op_catW : OpR X (binaryOp .Add) rCatW := by
  intro pins s σ H x y v u Q I rx ry h
  obtain ⟨a, b, xs, ys, rfl, rfl, hx, hy, hz, q⟩ := h
  refine op_catA pins s σ H _ _ v u Q I rx ry ⟨a, b, xs, ys, rfl, rfl, SqT.of hx, SqT.of hy, hz, fun e => ?_, fun _ e => ?_, fun _ _ t ht => q t _ ⟨upd_same, .inr ⟨ht, rfl⟩⟩⟩
  · subst e
    exact q b H ⟨hy, .inl ⟨List.mem_cons_of_mem _ List.mem_cons_self, rfl⟩⟩
  · subst e
    exact q a H ⟨by rw [List.append_nil]; exact hx, .inl ⟨List.mem_cons_self, rfl⟩⟩
end
end GL
namespace K04
open PySem PySem.Spec PyProof.Rows L2 GL
theorem RDs.drop {H : Hp} : ∀ {vs ds} (i : Nat), RDs H vs ds → RDs H (vs.drop i) (ds.drop i)
  | _, _, 0, r => r
  | _, _, _ + 1, .nil => .nil
  | _, _, i + 1, .cons _ b => RDs.drop i b
theorem RDs.take {H : Hp} : ∀ {vs ds} (i : Nat), RDs H vs ds → RDs H (vs.take i) (ds.take i)
  | _, _, 0, _ => by rw [List.take_zero, List.take_zero]; exact .nil
  | _, _, _ + 1, .nil => .nil
  | _, _, i + 1, .cons a b => .cons a (RDs.take i b)
theorem RDs.app {H : Hp} {us es} (r : RDs H us es) : ∀ {vs ds}, RDs H vs ds → RDs H (vs ++ us) (ds ++ es)
  | _, _, .nil => r
  | _, _, .cons a b => .cons a (RDs.app r b)
theorem cut_to {xs : List V} {k : Int} (h0 : 0 ≤ k) (h1 : k < xs.length) : cutV xs none (some k) = xs.take k.toNat := by
  obtain ⟨m, rfl⟩ := Int.eq_ofNat_of_zero_le h0
  unfold cutV
  rw [HT.sIx_none, HT.sIx_nat, List.drop_zero, Nat.sub_zero, Nat.min_eq_left (by omega)]
  rfl
theorem cut_from {xs : List V} {k : Int} (h0 : 0 ≤ k) (h1 : k ≤ xs.length) : cutV xs (some k) none = xs.drop k.toNat := by
  obtain ⟨m, rfl⟩ := Int.eq_ofNat_of_zero_le h0
  unfold cutV
  rw [HT.sIx_none, HT.sIx_nat, Nat.min_eq_left (by omega)]
  rw [List.take_of_length_le (by rw [List.length_drop]; exact Nat.le_refl _)]
  rfl

/-! ### tables of numbers -/
abbrev Tab := List (List Int)
def rwD (r : List Int) : PyData := .tuple (r.map .int)
def tbD (x : Tab) : PyData := .tuple (x.map rwD)
def gmD (g : Tab × Tab) : PyData := .tuple [tbD g.1, tbD g.2]
/-- r rows of c numbers -/
def Shp (r c : Nat) (x : Tab) : Prop := x.length = r ∧ ∀ row ∈ x, row.length = c
structure Good (r c : Nat) (g : Tab × Tab) : Prop where
  one : Shp r c g.1
  two : Shp r c g.2
  r1 : 1 ≤ r
  r5 : r ≤ 5
  c1 : 1 ≤ c
  c5 : c ≤ 5
def In1000 (i : Int) : Prop := -1000 ≤ i ∧ i ≤ 1000
def BndT (x : Tab) : Prop := ∀ row ∈ x, ∀ i ∈ row, In1000 i
def Bnd (g : Tab × Tab) : Prop := BndT g.1 ∧ BndT g.2
/-- columns as rows -/
def tr (m : Nat) (x : Tab) : Tab := (List.range m).map fun i => x.map fun r => r.getD i 0
def bump (row : List Int) (k : Nat) (n : Int) : List Int := row.take k ++ [row.getD k 0 + n] ++ row.drop (k + 1)
def cutAt {α : Type} (xs : List α) (k : Nat) : List α := xs.take k ++ xs.drop (k + 1)
theorem tr_len (m : Nat) (x : Tab) : (tr m x).length = m := by simp [tr]
theorem tr_shp {r c : Nat} {x : Tab} (h : Shp r c x) : Shp c r (tr c x) := by
  refine ⟨tr_len c x, fun row hr => ?_⟩
  unfold tr at hr
  obtain ⟨i, _, rfl⟩ := List.mem_map.mp hr
  rw [List.length_map, h.1]
theorem tr_get {m i : Nat} {x : Tab} (hi : i < m) : (tr m x)[i]? = some (x.map fun r => r.getD i 0) := by
  unfold tr
  rw [List.getElem?_map, List.getElem?_range hi]
  rfl
theorem tab_ext {r c : Nat} {x y : Tab} (hx : Shp r c x) (hy : Shp r c y)
    (h : ∀ i j, i < r → j < c → (x.getD i []).getD j 0 = (y.getD i []).getD j 0) : x = y := by
  refine List.ext_getElem (hx.1.trans hy.1.symm) fun i h1 h2 => ?_
  have hi : i < r := by rw [← hx.1]; exact h1
  have e1 : x.getD i [] = x[i] := by rw [List.getD_eq_getElem?_getD, List.getElem?_eq_getElem h1]; rfl
  have e2 : y.getD i [] = y[i] := by rw [List.getD_eq_getElem?_getD, List.getElem?_eq_getElem h2]; rfl
  have l1 := hx.2 _ (List.getElem_mem h1)
  have l2 := hy.2 _ (List.getElem_mem h2)
  refine List.ext_getElem (l1.trans l2.symm) fun j g1 g2 => ?_
  have := h i j hi (by rw [← l1]; exact g1)
  rw [e1, e2, List.getD_eq_getElem?_getD, List.getElem?_eq_getElem g1, List.getD_eq_getElem?_getD, List.getElem?_eq_getElem g2] at this
  exact this
theorem tr_at {m i j : Nat} {x : Tab} (hi : i < m) (hj : j < x.length) : ((tr m x).getD i []).getD j 0 = (x.getD j []).getD i 0 := by
  rw [List.getD_eq_getElem?_getD (l := tr m x), tr_get hi]
  show (x.map fun r => r.getD i 0).getD j 0 = _
  rw [List.getD_eq_getElem?_getD, List.getElem?_map, List.getElem?_eq_getElem hj, List.getD_eq_getElem?_getD (l := x), List.getElem?_eq_getElem hj]
  rfl
theorem tr_tr {r c : Nat} {x : Tab} (h : Shp r c x) : tr r (tr c x) = x := by
  refine tab_ext (tr_shp (tr_shp h)) h fun i j hi hj => ?_
  rw [tr_at hi (by rw [tr_len]; exact hj), tr_at hj (by rw [h.1]; exact hi)]
theorem bump_len {row : List Int} {k : Nat} {n : Int} (h : k < row.length) : (bump row k n).length = row.length := by
  unfold bump
  simp only [List.length_append, List.length_take, List.length_drop, List.length_cons, List.length_nil]
  omega
theorem bump_at {row : List Int} {k j : Nat} {n : Int} (h : k < row.length) (hj : j < row.length) : (bump row k n).getD j 0 = if j = k then row.getD k 0 + n else row.getD j 0 := by
  unfold bump
  rw [List.getD_eq_getElem?_getD, List.append_assoc, List.getElem?_append]
  by_cases e : j < k
  · rw [if_pos (by rw [List.length_take]; omega), if_neg (by omega), List.getElem?_take, if_pos e, List.getD_eq_getElem?_getD (l := row)]
  · rw [if_neg (by rw [List.length_take]; omega)]
    have lt : (row.take k).length = k := by rw [List.length_take]; omega
    rw [lt]
    by_cases e2 : j = k
    · subst e2
      rw [if_pos rfl, Nat.sub_self]
      rfl
    · rw [if_neg e2]
      obtain ⟨d, hd⟩ : ∃ d, j - k = d + 1 := ⟨j - k - 1, by omega⟩
      rw [hd]
      show ((row.drop (k + 1))[d]?).getD 0 = _
      rw [List.getElem?_drop, List.getD_eq_getElem?_getD (l := row)]
      congr 2
      omega
theorem cut_len {α : Type} {xs : List α} {k : Nat} (h : k < xs.length) : (cutAt xs k).length = xs.length - 1 := by
  unfold cutAt
  rw [List.length_append, List.length_take, List.length_drop]
  omega
theorem cut_at {α : Type} {xs : List α} {k j : Nat} (h : k < xs.length) : (cutAt xs k)[j]? = xs[if j < k then j else j + 1]? := by
  unfold cutAt
  rw [List.getElem?_append]
  have lt : (xs.take k).length = k := by rw [List.length_take]; omega
  rw [lt]
  by_cases e : j < k
  · rw [if_pos e, if_pos e, List.getElem?_take, if_pos e]
  · rw [if_neg e, if_neg e, List.getElem?_drop]
    congr 1
    omega
/-- the numbers of a row of the second table, all more by n -/
def upRow (x : Tab) (k : Nat) (n : Int) : Tab := x.take k ++ [(x.getD k []).map fun i => i + n] ++ x.drop (k + 1)
theorem up_len {x : Tab} {k : Nat} {n : Int} (h : k < x.length) : (upRow x k n).length = x.length := by
  unfold upRow
  simp only [List.length_append, List.length_take, List.length_drop, List.length_cons, List.length_nil]
  omega
theorem up_get {x : Tab} {k i : Nat} {n : Int} (h : k < x.length) (hi : i < x.length) :
    (upRow x k n).getD i [] = if i = k then (x.getD k []).map (fun z => z + n) else x.getD i [] := by
  unfold upRow
  rw [List.getD_eq_getElem?_getD, List.append_assoc, List.getElem?_append]
  have lt : (x.take k).length = k := by rw [List.length_take]; omega
  rw [lt]
  by_cases e : i < k
  · rw [if_pos e, if_neg (by omega), List.getElem?_take, if_pos e, List.getD_eq_getElem?_getD (l := x)]
  · rw [if_neg e]
    by_cases e2 : i = k
    · subst e2
      rw [if_pos rfl, Nat.sub_self]
      rfl
    · rw [if_neg e2]
      obtain ⟨d, hd⟩ : ∃ d, i - k = d + 1 := ⟨i - k - 1, by omega⟩
      rw [hd]
      show ((x.drop (k + 1))[d]?).getD [] = _
      rw [List.getElem?_drop, List.getD_eq_getElem?_getD (l := x)]
      congr 2
      omega
theorem getD_mem {x : Tab} {i : Nat} (h : i < x.length) : x.getD i [] ∈ x := by
  rw [List.getD_eq_getElem?_getD, List.getElem?_eq_getElem h]
  exact List.getElem_mem h
theorem up_shp {r c : Nat} {x : Tab} {k : Nat} {n : Int} (hx : Shp r c x) (h : k < r) : Shp r c (upRow x k n) := by
  refine ⟨by rw [up_len (by rw [hx.1]; exact h), hx.1], fun row hr => ?_⟩
  unfold upRow at hr
  rcases List.mem_append.mp hr with hr | hr
  · rcases List.mem_append.mp hr with hr | hr
    · exact hx.2 _ (List.mem_of_mem_take hr)
    · rcases List.mem_singleton.mp hr with rfl
      rw [List.length_map]
      exact hx.2 _ (getD_mem (by rw [hx.1]; exact h))
  · exact hx.2 _ (List.mem_of_mem_drop hr)
theorem map_bump_shp {r c : Nat} {x : Tab} {k : Nat} {n : Int} (hx : Shp r c x) (h : k < c) : Shp r c (x.map fun row => bump row k n) := by
  refine ⟨by rw [List.length_map, hx.1], fun row hr => ?_⟩
  obtain ⟨y, hy, rfl⟩ := List.mem_map.mp hr
  rw [bump_len (by rw [hx.2 y hy]; exact h), hx.2 y hy]
theorem mapD {x : Tab} {f : List Int → List Int} {i : Nat} (h : i < x.length) : (x.map f).getD i [] = f (x.getD i []) := by
  rw [List.getD_eq_getElem?_getD, List.getElem?_map, List.getElem?_eq_getElem h, List.getD_eq_getElem?_getD, List.getElem?_eq_getElem h]
  rfl
/-- a number added in the columns' place, turned there and back -/
theorem tr_bump {r c : Nat} {x : Tab} {k : Nat} {n : Int} (hx : Shp r c x) (h : k < r) : tr r ((tr c x).map fun row => bump row k n) = upRow x k n := by
  have s1 := map_bump_shp (k := k) (n := n) (tr_shp hx) h
  refine tab_ext (tr_shp s1) (up_shp hx h) fun i j hi hj => ?_
  have li : i < x.length := by rw [hx.1]; exact hi
  have lk : k < x.length := by rw [hx.1]; exact h
  rw [tr_at hi (by rw [s1.1]; exact hj), mapD (by rw [tr_len]; exact hj), up_get lk li]
  have rl : ((tr c x).getD j []).length = r := (tr_shp hx).2 _ (getD_mem (by rw [tr_len]; exact hj))
  rw [bump_at (by rw [rl]; exact h) (by rw [rl]; exact hi)]
  by_cases e : i = k
  · subst e
    rw [if_pos rfl, if_pos rfl, tr_at hj lk]
    have l2 : ((x.getD i []).length) = c := hx.2 _ (getD_mem lk)
    rw [List.getD_eq_getElem?_getD (l := List.map _ _), List.getElem?_map, List.getElem?_eq_getElem (by rw [l2]; exact hj), List.getD_eq_getElem?_getD (l := x.getD i []), List.getElem?_eq_getElem (by rw [l2]; exact hj)]
    rfl
  · rw [if_neg e, if_neg e, tr_at hj li]
theorem cut_shp {r c : Nat} {x : Tab} {k : Nat} (hx : Shp r c x) (h : k < r) : Shp (r - 1) c (cutAt x k) := by
  refine ⟨by rw [cut_len (by rw [hx.1]; exact h), hx.1], fun row hr => ?_⟩
  unfold cutAt at hr
  rcases List.mem_append.mp hr with hr | hr
  · exact hx.2 _ (List.mem_of_mem_take hr)
  · exact hx.2 _ (List.mem_of_mem_drop hr)
theorem map_cut_shp {r c : Nat} {x : Tab} {k : Nat} (hx : Shp r c x) (h : k < c) : Shp r (c - 1) (x.map fun row => cutAt row k) := by
  refine ⟨by rw [List.length_map, hx.1], fun row hr => ?_⟩
  obtain ⟨y, hy, rfl⟩ := List.mem_map.mp hr
  rw [cut_len (by rw [hx.2 y hy]; exact h), hx.2 y hy]
theorem tr_cut {r c : Nat} {x : Tab} {k : Nat} (hx : Shp r c x) (h : k < c) : tr r (cutAt (tr c x) k) = x.map fun row => cutAt row k := by
  have s1 := cut_shp (tr_shp hx) h
  refine tab_ext (tr_shp s1) (map_cut_shp hx h) fun i j hi hj => ?_
  have li : i < x.length := by rw [hx.1]; exact hi
  rw [tr_at hi (by rw [s1.1]; exact hj), mapD li]
  have rl : (x.getD i []).length = c := hx.2 _ (getD_mem li)
  have e1 : (cutAt (tr c x) k).getD j [] = (tr c x).getD (if j < k then j else j + 1) [] := by
    rw [List.getD_eq_getElem?_getD, cut_at (by rw [tr_len]; exact h), List.getD_eq_getElem?_getD]
  have e2 : (cutAt (x.getD i []) k).getD j 0 = (x.getD i []).getD (if j < k then j else j + 1) 0 := by
    rw [List.getD_eq_getElem?_getD, cut_at (by rw [rl]; exact h), List.getD_eq_getElem?_getD (l := x.getD i [])]
  rw [e1, e2, tr_at (by split <;> omega) li]
end K04

/-! R9: tables in the heap; exchanged, raised, turned. -/
namespace K04
open PySem PySem.Spec PyProof.Rows L2 GL
theorem on_same {H H' : Hp} {olds : List Addr} {ys : List V} {t : Addr} (h : OldNew olds H ys t H') : Same H H' := by
  rcases h.2 with ⟨_, rfl⟩ | ⟨n, rfl⟩
  · exact .refl _
  · exact same_new n
theorem rds_ints {H : Hp} : ∀ {r : List Int} {xs : List V}, RDs H xs (r.map .int) → xs = r.map V.int
  | [], _, .nil => rfl
  | i :: r, _, .cons a b => by
    cases a
    rw [List.map_cons, rds_ints b]
theorem ints_rds {H : Hp} : ∀ (r : List Int), RDs H (r.map V.int) (r.map .int)
  | [] => .nil
  | i :: r => .cons (.int i) (ints_rds r)
theorem rd_row {H : Hp} {v : V} {r : List Int} (h : RD H v (rwD r)) : ∃ a, v = .ref a ∧ H a = some (.tup (r.map V.int)) := by
  cases h with
  | tup e rs => exact ⟨_, rfl, by rw [rds_ints rs] at e; exact e⟩
theorem row_rd {H : Hp} {a : Addr} {r : List Int} (h : H a = some (.tup (r.map V.int))) : RD H (.ref a) (rwD r) := .tup h (ints_rds r)
theorem rds_rows {H : Hp} {m : Nat} : ∀ {x : Tab} {xs : List V}, (∀ row ∈ x, row.length = m) → RDs H xs (x.map rwD) →
    ∃ rs : List Addr, xs = rs.map V.ref ∧ ZZ.Rws H m rs (x.map fun row => row.map V.int)
  | [], _, _, .nil => ⟨[], rfl, .nil⟩
  | row :: x, _, hm, .cons a b => by
    obtain ⟨rs, e, q⟩ := rds_rows (fun r hr => hm r (List.mem_cons_of_mem _ hr)) b
    obtain ⟨p, rfl, hp⟩ := rd_row a
    refine ⟨p :: rs, by rw [e]; rfl, .cons hp ?_ q⟩
    rw [List.length_map]
    exact hm row List.mem_cons_self
theorem rd_tab {H : Hp} {v : V} {x : Tab} {r m : Nat} (h : RD H v (tbD x)) (s : Shp r m x) : ∃ (a : Addr) (rs : List Addr), v = .ref a ∧ H a = some (.tup (rs.map V.ref)) ∧
    rs.length = r ∧ ZZ.Rws H m rs (x.map fun row => row.map V.int) ∧ RDs H (rs.map V.ref) (x.map rwD) := by
  cases h with
  | tup e rr =>
    obtain ⟨rs, e2, q⟩ := rds_rows s.2 rr
    subst e2
    have := RDs.length rr
    refine ⟨_, rs, rfl, e, ?_, q, rr⟩
    rw [List.length_map, List.length_map] at this
    rw [this, s.1]
theorem rd_gm {H : Hp} {v : V} {g : Tab × Tab} (h : RD H v (gmD g)) : ∃ a p q, v = .ref a ∧ H a = some (.tup [.ref p, .ref q]) ∧ RD H (.ref p) (tbD g.1) ∧ RD H (.ref q) (tbD g.2) := by
  cases h with
  | tup e rr =>
    cases rr with
    | cons r1 rr =>
      cases rr with
      | cons r2 rr =>
        cases rr
        have r1' := r1
        have r2' := r2
        cases r1 with
        | tup e1 _ =>
          cases r2 with
          | tup e2 _ => exact ⟨_, _, _, rfl, e, r1', r2'⟩
theorem col_ints {x : Tab} {m i : Nat} (hm : ∀ row ∈ x, row.length = m) (hi : i < m) :
    ZZ.colV (x.map fun row => row.map V.int) i = (x.map fun row => row.getD i 0).map V.int := by
  unfold ZZ.colV
  rw [List.map_map, List.map_map]
  refine List.map_congr_left fun row hr => ?_
  show ((row.map V.int)[i]?.getD .non) = V.int (row.getD i 0)
  have := hm row hr
  rw [List.getElem?_map, List.getElem?_eq_getElem (by omega), List.getD_eq_getElem?_getD, List.getElem?_eq_getElem (by omega)]
  rfl
theorem tr_rds {H : Hp} {x : Tab} {m : Nat} (hm : ∀ row ∈ x, row.length = m) : ∀ {ts : List Addr} {is : List Nat}, ts.length = is.length → (∀ i ∈ is, i < m) →
    (∀ (j : Nat) (t : Addr), ts[j]? = some t → ∃ i, is[j]? = some i ∧ H t = some (.tup (ZZ.colV (x.map fun row => row.map V.int) i))) →
    RDs H (ts.map V.ref) ((is.map fun i => x.map fun r => r.getD i 0).map rwD)
  | [], [], _, _, _ => .nil
  | t :: ts, i :: is, hl, hi, h => by
    refine .cons ?_ (tr_rds hm (by simpa using hl) (fun k hk => hi k (List.mem_cons_of_mem _ hk)) fun j u e => ?_)
    · obtain ⟨i', e, q⟩ := h 0 t rfl
      cases e
      rw [col_ints hm (hi i List.mem_cons_self)] at q
      exact row_rd q
    · exact h (j + 1) u (by simpa using e)
/-- what tuple(zip(*x)) leaves -/
theorem tr_rd {H : Hp} {x : Tab} {m : Nat} {p : Addr} {ts : List Addr} (hm : ∀ row ∈ x, row.length = m) (hp : H p = some (.tup (ts.map V.ref))) (hl : ts.length = m)
    (h : ∀ (i : Nat) (t : Addr), ts[i]? = some t → H t = some (.tup (ZZ.colV (x.map fun row => row.map V.int) i))) : RD H (.ref p) (tbD (tr m x)) := by
  refine .tup hp (tr_rds hm (by rw [List.length_range]; exact hl) (fun i hi => List.mem_range.mp hi) fun j t e => ⟨j, ?_, h j t e⟩)
  rw [List.getElem?_range]
  rw [← hl]
  exact (List.getElem?_eq_some_iff.mp e).1
theorem rds_at {H : Hp} : ∀ {xs ds} {i : Nat} {d : PyData}, RDs H xs ds → ds[i]? = some d → ∃ x, xs[i]? = some x ∧ RD H x d
  | _, _, _, _, .nil, h => by simp at h
  | _, _, 0, _, .cons r _, h => by cases h; exact ⟨_, rfl, r⟩
  | _, _, i + 1, _, .cons _ r, h => rds_at (i := i) r (by simpa using h)
section
variable {P : Program} {w : World} {K : PySem.W.Frag} {mg : Str → Option Value} {base : Heap}
variable {fG fX : Addr} {dG dX : FuncData}

/-- a question of a game whose answer is a game -/
def spExch : Sp := fun vs H Q _ => ∃ v g r c, vs = [v] ∧ RD H v (gmD g) ∧ Good r c g ∧ ∀ H' v', Same H H' → RD H' v' (gmD (tr c g.2, tr c g.1)) → Q v' H'
theorem ok_exch {f : Addr} {fd : FuncData} (F : Fun K "exchanged" "exchanged" sExchanged f fd) (mt : mg "tuple" = none) (mz : mg "zip" = none) :
    FnOk P w K mg base CX0 1 f fd ["game"] spExch := by
  refine F.ok scExchanged (fun vs H Q E h => ?_) (fun cdv A outer s H vs Q E hr h => ?_)
  · obtain ⟨v, g, r, c, rfl, _⟩ := h
    rfl
  · obtain ⟨v, g, r, c, rfl, rd, hg, q⟩ := h
    refine ⟨_, pss_cons (ps_asg (pv 0) (pg_tup rfl (pgs_cons (pg_name (i := 1) scExchanged.nd rfl (Or.inl rfl)) (pgs_cons (pg_name (i := 2) scExchanged.nd rfl (Or.inl rfl)) pgs_nil))))
      (pss_one (ps_ret (pe_tup (pa_cons (ZZ.pe_tupZip (by rfl) mt (by rfl) mz (pv 2)) (pa_cons (ZZ.pe_tupZip (by rfl) mt (by rfl) mz (pv 1)) pa_nil))))), ?_⟩
    obtain ⟨a, x, y, rfl, ha, r1, r2⟩ := rd_gm rd
    refine ⟨.ref a, rfl, a, [.ref x, .ref y], rfl, SqT.of ha, rfl, .ref x, [.ref y], rfl, .ref y, [], rfl, rfl, ?_⟩
    have le : c ≤ 1000 := by have := hg.c5; omega
    obtain ⟨p, rs, e, hp, hl, hw, _⟩ := rd_tab r2 hg.two
    cases e
    have r5 := hg.r5
    have r0 := hg.r1
    refine ⟨.ref y, rfl, y, rs, _, c, rfl, SqT.of hp, fun e => ?_, by omega, hg.c1, le, hw, fun H1 p1 ts S1 h1 l1 c1 => ?_⟩
    · rw [e] at hl; simp at hl; omega
    have t2 := tr_rd hg.two.2 h1 l1 c1
    obtain ⟨p', rs', e', hp', hl', hw', _⟩ := rd_tab (r1.keep S1) hg.one
    cases e'
    refine ⟨.ref x, rfl, x, rs', _, c, rfl, SqT.of hp', fun e => ?_, by omega, hg.c1, le, hw', fun H2 p2 ts2 S2 h2 l2 c2 => ⟨by show 2 ≤ sizeLine; decide, fun t ht => ?_⟩⟩
    · rw [e] at hl'; simp at hl'; omega
    have t1 := tr_rd hg.one.2 h2 l2 c2
    have S3 := same_new (o := .tup [.ref p1, .ref p2]) ht
    exact q _ _ ((show Same _ _ from S1).trans ((show Same _ _ from S2).trans S3)) (.tup upd_same (.cons ((t2.keep S2).keep S3) (.cons (t1.keep S3) .nil)))

def spRaised : Sp := fun vs H Q _ => ∃ v row k n, vs = [v, .int (k : Nat), .int n] ∧ RD H v (rwD row) ∧ k < row.length ∧ row.length ≤ 5 ∧ ∀ H' v', Same H H' → RD H' v' (rwD (bump row k n)) → Q v' H'
theorem ok_raised {f : Addr} {fd : FuncData} (F : Fun K "raised" "raised" sRaised f fd) :
    FnOk P w K mg base CX0 1 f fd ["row", "at", "number"] spRaised := by
  refine F.ok scRaised (fun vs H Q E h => ?_) (fun cdv A outer s H vs Q E hr h => ?_)
  · obtain ⟨v, row, k, n, rfl, _⟩ := h
    rfl
  · obtain ⟨v, row, k, n, rfl, rd, hk, h5, q⟩ := h
    refine ⟨_, pss_one (ps_ret (pe_op op_catW (pe_op op_catW (pe_slice sl_tupW (pv 0) po_none (po_some (pv 1)))
        (pe_tup (pa_cons (pe_op op_add (pe_ix ix_tup (pv 0) (pv 1) (fun _ _ => rfl)) (pv 2)) pa_nil)))
      (pe_slice sl_tupW (pv 0) (po_some (pe_op op_add (pv 1) pe_int)) po_none))), ?_⟩
    obtain ⟨a, rfl, ha⟩ := rd_row rd
    have len : (row.map V.int).length = row.length := List.length_map _
    have sz : ∀ n : Nat, n ≤ 100 → n ≤ sizeLine := fun n z => Nat.le_trans z (by rw [sizeLine_eq]; decide)
    refine ⟨.ref a, rfl, .int k, rfl, k, rfl, a, _, rfl, ha, fun t1 H1 o1 => ?_⟩
    rw [cut_to (by omega) (by rw [len]; omega)] at o1
    have S1 := (on_same o1)
    have at1 : atI (row.map V.int) (k : Int) = some (.int (row.getD k 0)) := atI_nat (by
      rw [List.getElem?_map, List.getD_eq_getElem?_getD, List.getElem?_eq_getElem hk]; rfl)
    refine ⟨.ref a, rfl, .int k, rfl, a, _, k, .int (row.getD k 0), rfl, rfl, SqT.of (S1 _ _ ha), at1, .int n, rfl, _, _, rfl, rfl, ?_⟩
    refine ⟨by show 1 ≤ sizeLine; decide, fun t2 h2 => ?_⟩
    have S2 := same_new (o := .tup [.int (row.getD k 0 + n)]) h2
    refine ⟨t1, t2, _, _, rfl, rfl, S2 _ _ o1.1, upd_same, sz _ (by simp only [List.length_take, List.length_map, List.length_cons, List.length_nil]; omega), fun t3 H3 o3 => ?_⟩
    have S3 := (on_same o3)
    refine ⟨.ref a, rfl, .int k, rfl, _, _, rfl, rfl, (k : Int) + 1, rfl, a, _, rfl, S3 _ _ (S2 _ _ (S1 _ _ ha)), fun t4 H4 o4 => ?_⟩
    rw [cut_from (by omega) (by rw [len]; omega)] at o4
    have S4 := (on_same o4)
    refine ⟨t3, t4, _, _, rfl, rfl, S4 _ _ o3.1, o4.1, sz _ (by simp only [List.length_append, List.length_take, List.length_drop, List.length_map, List.length_cons, List.length_nil]; omega), fun t5 H5 o5 => ?_⟩
    refine q _ _ (S1.trans (S2.trans (S3.trans (S4.trans (on_same o5))))) ?_
    have e := o5.1
    have e1 : (row.map V.int).take (k : Int).toNat ++ [V.int (row.getD k 0 + n)] ++ (row.map V.int).drop ((k : Int) + 1).toNat = (bump row k n).map V.int := by
      unfold bump
      have : ((k : Int) + 1).toNat = k + 1 := by omega
      rw [this, Int.toNat_natCast, List.map_append, List.map_append, List.map_take, List.map_drop]
      rfl
    rw [e1] at e
    exact row_rd e
end
end K04

/-! R10: comprehensions that tell data; anew; what is refused. -/
namespace K04
open PySem PySem.Spec PyProof.Rows L2 GL
/-- data without lists and dicts -/
inductive Nl : PyData → Prop where
  | int (i) : Nl (.int i)
  | tup {ds} : (∀ d, d ∈ ds → Nl d) → Nl (.tuple ds)
theorem rds_of {H H' : Hp} : ∀ {ds : List PyData} {vs : List V}, (∀ d ∈ ds, ∀ v, RD H v d → RD H' v d) → RDs H vs ds → RDs H' vs ds
  | [], _, _, .nil => .nil
  | d :: ds, _, h, .cons a b => .cons (h d List.mem_cons_self _ a) (rds_of (fun e he => h e (List.mem_cons_of_mem _ he)) b)
theorem Nl.beside {H : Hp} {D : Addr} {us : List V} {d : PyData} (n : Nl d) (hD : H D = some (.lst us)) : ∀ v, RD H v d → RD (hid [D] H) v d := by
  induction n with
  | int i => intro v r; cases r; exact .int i
  | tup h ih =>
    intro v r
    cases r with
    | tup e rs =>
      refine .tup (hid_mk (fun z => ?_) e) (rds_of ih rs)
      rcases List.mem_singleton.mp z with rfl
      rw [hD] at e; cases e
theorem nl_row (r : List Int) : Nl (rwD r) := .tup fun d hd => by
  obtain ⟨i, _, rfl⟩ := List.mem_map.mp hd
  exact .int i
theorem nl_tab (x : Tab) : Nl (tbD x) := .tup fun d hd => by
  obtain ⟨i, _, rfl⟩ := List.mem_map.mp hd
  exact nl_row i
theorem nl_gm (g : Tab × Tab) : Nl (gmD g) := .tup fun d hd => by
  rcases List.mem_cons.mp hd with rfl | hd
  · exact nl_tab _
  · rcases List.mem_singleton.mp hd with rfl; exact nl_tab _
theorem hid_same {l : List Addr} {H H' : Hp} (S : Same H H') : ∀ b o, hid l H b = some o → hid l H' b = some o := fun b o e => by
  obtain ⟨n, e'⟩ := hid_of e
  exact hid_mk n (S b o e')
/-- so far: i items at D, the data told of the first i -/
def Tl (H1 : Hp) (D : Addr) (es : List PyData) (i : Nat) (H : Hp) : Prop :=
  ∃ us, H D = some (.lst us) ∧ us.length = i ∧ RDs (hid [D] H) us (es.take i) ∧ Same H1 H
theorem Tl.zero {H1 : Hp} {D : Addr} {es : List PyData} (hD : H1 D = none) : Tl H1 D es 0 (upd H1 D (.lst [])) :=
  ⟨[], upd_same, rfl, by rw [List.take_zero]; exact .nil, same_new hD⟩
theorem Tl.step {H1 H H' : Hp} {D : Addr} {es : List PyData} {i : Nat} {v : V} {e : PyData} (t : Tl H1 D es i H) (hD : H1 D = none) (S : Same H H') (he : es[i]? = some e)
    (n : Nl e) (r : RD H' v e) (h5 : i < 1000) : ∃ acc, H' D = some (.lst acc) ∧ acc.length < sizeLine ∧ Tl H1 D es (i + 1) (upd H' D (.lst (acc ++ [v]))) := by
  obtain ⟨us, hd, hl, rs, S0⟩ := t
  have hd' := S _ _ hd
  have up : ∀ b o, hid [D] H' b = some o → hid [D] (upd H' D (.lst (us ++ [v]))) b = some o := fun b o e => by
    obtain ⟨nb, e'⟩ := hid_of e
    exact hid_mk nb (by rw [upd_ne (fun z => nb (by rw [z]; exact List.mem_cons_self))]; exact e')
  refine ⟨us, hd', by rw [hl, sizeLine_eq]; omega, us ++ [v], upd_same, by rw [List.length_append, hl]; rfl, ?_, fun b o q => ?_⟩
  · rw [List.take_add_one, he]
    exact RDs.snoc ((n.beside hd' v r).keep up) (RDs.keep up (RDs.keep (hid_same S) rs))
  · rw [upd_ne (fun z => by rw [z, hD] at q; cases q)]
    exact S _ _ (S0 _ _ q)
theorem Tl.done {H1 H : Hp} {D : Addr} {es : List PyData} {i : Nat} (t : Tl H1 D es i H) (hi : i = es.length) : ∃ us, H D = some (.lst us) ∧ RDs H us es ∧ Same H1 H ∧ us.length = es.length := by
  obtain ⟨us, hd, hl, rs, S0⟩ := t
  rw [hi, List.take_length] at rs
  exact ⟨us, hd, RDs.out rs, S0, hl.trans hi⟩
/-- [what is told of x for x in a tuple], the telling any data without lists -/
theorem lc_new {K : PySem.W.Frag} {a : Addr} {xs : List V} {ds es : List PyData} {te : TE} {j : Nat} {vs : List Nat} {σ : L2.St} {H1 : Hp} {D : Addr} {Qd : Hp → Prop}
    (hw : ∀ x, wipe ((wipe σ vs).set j (some x)) vs = wipe σ vs) (hx : H1 a = some (.tup xs)) (rs : RDs H1 xs ds) (hl : es.length = ds.length) (hsz : xs.length ≤ 1000) (hD : H1 D = none)
    (nl : ∀ e ∈ es, Nl e)
    (step : ∀ (i : Nat) (x : V) (d e : PyData) (H : Hp) (Q : VK), ds[i]? = some d → es[i]? = some e → RD H x d → Same H1 H → (∀ H' v', Same H H' → RD H' v' e → Q v' H') → te ((wipe σ vs).set j (some x)) H Q)
    (hd : ∀ (H : Hp) (us : List V), Same H1 H → H D = some (.lst us) → RDs H us es → Qd H) :
    ∃ W : Nat → Nat → Hp → Prop, (∃ m, W 0 m (upd H1 D (.lst []))) ∧ ∀ i m H, W i m H →
      ((Itt K a).stop i H ∧ Qd H) ∨ ((Itt K a).go i H ∧ ∃ Nx : Hp → Prop, (∀ H', Nx H' → ∃ m', m' < m ∧ W (i + 1) m' H') ∧ ∀ x H', (Itt K a).yld i H x H' → gName j x (wipe σ vs) H' fun σ2 H2 => wipe σ2 vs = wipe σ vs ∧ tYes σ2 H2 fun b H3 =>
        if b = true then te σ2 H3 fun y H4 => ∃ acc, H4 D = some (.lst acc) ∧ acc.length < sizeLine ∧ Nx (upd H4 D (.lst (acc ++ [y]))) else Nx H3) := by
  have hlen := RDs.length rs
  refine lc_tup (fun i H => Tl H1 D es i H) (.zero hD) (fun i H _ p => SqT.of (p.elim fun _ q => q.2.2.2 _ _ hx)) (fun i x H hi p => ?_) (fun H p => ?_)
  · obtain ⟨d, ed, r⟩ := RDs.at rs hi
    have hlt : i < es.length := by rw [hl]; exact (List.getElem?_eq_some_iff.mp ed).1
    have S : Same H1 H := p.elim fun _ q => q.2.2.2
    have he := List.getElem?_eq_getElem hlt
    refine ⟨hw x, ?_⟩
    exact step i x d _ H _ ed he (r.keep S) S fun H' v' S' r' => p.step hD S' he (nl _ (List.getElem_mem hlt)) r' (by omega)
  · obtain ⟨us, h1, h2, h3, _⟩ := p.done (by rw [hlen, hl])
    exact hd H us h3 h1 h2
/-- [what is told of k for k in range(n)] -/
theorem lc_newR {n : Nat} {es : List PyData} {te : TE} {j : Nat} {vs : List Nat} {σ : L2.St} {H1 : Hp} {D : Addr} {Qd : Hp → Prop}
    (hw : ∀ x, wipe ((wipe σ vs).set j (some x)) vs = wipe σ vs) (hl : es.length = n) (hsz : n ≤ 1000) (hD : H1 D = none) (nl : ∀ e ∈ es, Nl e)
    (step : ∀ (i : Nat) (e : PyData) (H : Hp) (Q : VK), i < n → es[i]? = some e → Same H1 H → (∀ H' v', Same H H' → RD H' v' e → Q v' H') → te ((wipe σ vs).set j (some (.int (0 + (i : Nat))))) H Q)
    (hd : ∀ (H : Hp) (us : List V), Same H1 H → H D = some (.lst us) → RDs H us es → Qd H) :
    ∃ W : Nat → Nat → Hp → Prop, (∃ m, W 0 m (upd H1 D (.lst []))) ∧ ∀ i m H, W i m H →
      ((Itr 0 n).stop i H ∧ Qd H) ∨ ((Itr 0 n).go i H ∧ ∃ Nx : Hp → Prop, (∀ H', Nx H' → ∃ m', m' < m ∧ W (i + 1) m' H') ∧ ∀ x H', (Itr 0 n).yld i H x H' → gName j x (wipe σ vs) H' fun σ2 H2 => wipe σ2 vs = wipe σ vs ∧ tYes σ2 H2 fun b H3 =>
        if b = true then te σ2 H3 fun y H4 => ∃ acc, H4 D = some (.lst acc) ∧ acc.length < sizeLine ∧ Nx (upd H4 D (.lst (acc ++ [y]))) else Nx H3) := by
  refine lc_range (fun i H => Tl H1 D es i H) (.zero hD) (fun i H hi p => ⟨hw _, ?_⟩) (fun H p => ?_)
  · have he := List.getElem?_eq_getElem (l := es) (i := i) (by rw [hl]; exact hi)
    exact step i _ H _ hi he (p.elim fun _ q => q.2.2.2) fun H' v' S' r' => p.step hD S' he (nl _ (List.getElem_mem _)) r' (by omega)
  · obtain ⟨us, h1, h2, h3, _⟩ := p.done hl.symm
    exact hd H us h3 h1 h2

/-! ### games as data -/
theorem num_iff (i : Int) : numD (.int i) = true ↔ In1000 i := by
  show (decide (-1000 ≤ i) && decide (i ≤ 1000)) = true ↔ _
  rw [Bool.and_eq_true, decide_eq_true_iff, decide_eq_true_iff]
  exact Iff.rfl
theorem row_iff {r : List Int} (h1 : 1 ≤ r.length) (h5 : r.length ≤ 5) : rowD (rwD r) = true ↔ ∀ i ∈ r, In1000 i := by
  show (decide (1 ≤ (r.map PyData.int).length) && decide ((r.map PyData.int).length ≤ 5) && (r.map PyData.int).all numD) = true ↔ _
  rw [List.length_map, decide_eq_true h1, decide_eq_true h5, Bool.true_and, Bool.true_and, List.all_eq_true]
  constructor
  · intro h i hi
    exact (num_iff i).mp (h _ (List.mem_map.mpr ⟨i, hi, rfl⟩))
  · intro h d hd
    obtain ⟨i, hi, rfl⟩ := List.mem_map.mp hd
    exact (num_iff i).mpr (h i hi)
theorem tab_iff {x : Tab} {r c : Nat} (s : Shp r c x) (r1 : 1 ≤ r) (r5 : r ≤ 5) (c1 : 1 ≤ c) (c5 : c ≤ 5) :
    (tableD (tbD x) = true ↔ BndT x) ∧ lenD (tbD x) = r ∧ lenD (headD (tbD x)) = c := by
  have l1 : lenD (tbD x) = r := by show (((x.map rwD).length : Nat) : Int) = r; rw [List.length_map, s.1]
  have lr : ∀ row ∈ x, lenD (rwD row) = c := fun row hr => by
    show (((row.map PyData.int).length : Nat) : Int) = c
    rw [List.length_map, s.2 row hr]
  have l2 : lenD (headD (tbD x)) = c := by
    cases x with
    | nil => have := s.1; simp at this; omega
    | cons row x => exact lr row List.mem_cons_self
  refine ⟨?_, l1, l2⟩
  show (decide (1 ≤ (x.map rwD).length) && decide ((x.map rwD).length ≤ 5) && (x.map rwD).all rowD && (x.map rwD).all (fun q => decide (lenD q = lenD (headD (tbD x))))) = true ↔ _
  have all2 : (x.map rwD).all (fun q => decide (lenD q = lenD (headD (tbD x)))) = true := by
    rw [List.all_eq_true]
    intro q hq
    obtain ⟨row, hr, rfl⟩ := List.mem_map.mp hq
    rw [l2, lr row hr, decide_eq_true rfl]
  rw [all2, List.length_map, s.1, decide_eq_true r1, decide_eq_true r5, Bool.true_and, Bool.true_and, Bool.and_true, List.all_eq_true]
  constructor
  · intro h row hr
    exact (row_iff (by rw [s.2 row hr]; exact c1) (by rw [s.2 row hr]; exact c5)).mp (h _ (List.mem_map.mpr ⟨row, hr, rfl⟩))
  · intro h d hd
    obtain ⟨row, hr, rfl⟩ := List.mem_map.mp hd
    exact (row_iff (by rw [s.2 row hr]; exact c1) (by rw [s.2 row hr]; exact c5)).mpr (h row hr)
theorem gm_iff {g : Tab × Tab} {r c : Nat} (G : Good r c g) : (gameD (gmD g) = true ↔ Bnd g) ∧ sizeD (gmD g) 0 = r ∧ ∀ s, s ≠ 0 → sizeD (gmD g) s = c := by
  obtain ⟨a1, a2, a3⟩ := tab_iff G.one G.r1 G.r5 G.c1 G.c5
  obtain ⟨b1, b2, b3⟩ := tab_iff G.two G.r1 G.r5 G.c1 G.c5
  refine ⟨?_, a2, fun s hs => ?_⟩
  · show (tableD (tbD g.1) && tableD (tbD g.2) && decide (lenD (tbD g.1) = lenD (tbD g.2)) && decide (lenD (headD (tbD g.1)) = lenD (headD (tbD g.2)))) = true ↔ _
    rw [a2, b2, a3, b3, decide_eq_true rfl, decide_eq_true rfl, Bool.and_true, Bool.and_true, Bool.and_eq_true, a1, b1]
    exact Iff.rfl
  · show (if s = 0 then lenD (tbD g.1) else lenD (headD (tbD g.1))) = c
    rw [if_neg hs, a3]

/-! ### anew -/
/-- trees of tuples and integers, at most so deep -/
def An : Nat → PyData → Prop
  | _, .int _ => True
  | n + 1, .tuple ds => ds.length ≤ 5 ∧ ∀ e ∈ ds, An n e
  | _, _ => False
theorem An.nl : ∀ {n : Nat} {d : PyData}, An n d → Nl d
  | _, .int i, _ => .int i
  | n + 1, .tuple ds, h => .tup fun d hd => An.nl (h.2 d hd)
  | 0, .tuple _, h => h.elim
  | _, .none, h => by cases ‹Nat› <;> exact h.elim
  | _, .bool _, h => by cases ‹Nat› <;> exact h.elim
  | _, .str _, h => by cases ‹Nat› <;> exact h.elim
  | _, .list _, h => by cases ‹Nat› <;> exact h.elim
  | _, .dict _, h => by cases ‹Nat› <;> exact h.elim
theorem an_gm {g : Tab × Tab} {r c : Nat} (G : Good r c g) : An 3 (gmD g) := by
  have tab : ∀ x : Tab, Shp r c x → An 2 (tbD x) := fun x s => by
    refine ⟨by rw [List.length_map, s.1]; exact G.r5, fun e he => ?_⟩
    obtain ⟨row, hr, rfl⟩ := List.mem_map.mp he
    refine ⟨by rw [List.length_map, s.2 row hr]; exact G.c5, fun e he => ?_⟩
    obtain ⟨i, _, rfl⟩ := List.mem_map.mp he
    trivial
  refine ⟨by show 2 ≤ 5; decide, fun e he => ?_⟩
  rcases List.mem_cons.mp he with rfl | he
  · exact tab _ G.one
  · rcases List.mem_singleton.mp he with rfl; exact tab _ G.two
section
variable {P : Program} {w : World} {K : PySem.W.Frag} {mg : Str → Option Value} {base : Heap}
variable {fA fG fX : Addr} {dA dG dX : FuncData}
def spAnew (n : Nat) : Sp := fun vs H Q _ => ∃ v d, vs = [v] ∧ RD H v d ∧ An n d ∧ ∀ H' v', Same H H' → RD H' v' d → Q v' H'
theorem ok_anew0 {f : Addr} {fd : FuncData} (F : Fun K "anew" "anew" sAnew f fd) (mt : mg "type" = none) (ml : mg "list" = none) (mu : mg "tuple" = none) :
    FnOk P w K mg base CX0 1 f fd ["value"] (spAnew 0) := by
  refine F.ok scAnew (fun vs H Q E h => ?_) (fun cdv A outer s H vs Q E hr h => ?_)
  · obtain ⟨v, d, rfl, _⟩ := h
    rfl
  · obtain ⟨v, d, rfl, rd, an, q⟩ := h
    refine ⟨_, pss_cons (ps_if (pt_cmpR op_isTyB (pe_callTy call_type1 (by rfl) mt (by decide +kernel) (pa_cons (pv 0) pa_nil)) (pe_bltn (v := .ty "list") (by rfl) ml (by decide +kernel) rfl) (nomark _)) pss_never pss_nil)
      (pss_cons (ps_if (pt_cmpR op_isTyB (pe_callTy call_type1 (by rfl) mt (by decide +kernel) (pa_cons (pv 0) pa_nil)) (pe_bltn (v := .ty "tuple") (by rfl) mu (by decide +kernel) rfl) (nomark _)) pss_never pss_nil)
      (pss_one (ps_ret (pv 0)))), ?_⟩
    cases d with
    | int i =>
      refine ⟨v, rfl, v, _, rfl, rd.tyB, _, _, rfl, rfl, _, rfl, iteF ?_⟩
      refine ⟨v, rfl, v, _, rfl, rd.tyB, _, _, rfl, rfl, _, rfl, iteF ?_⟩
      exact ⟨v, rfl, q _ _ (.refl H) rd⟩
    | _ => exact an.elim
end
end K04

/-! R11: anew of tuples; what is refused; turned. -/
namespace K04
open PySem PySem.Spec PyProof.Rows L2 GL
section
variable {P : Program} {w : World} {K : PySem.W.Frag} {mg : Str → Option Value} {base : Heap}
variable {fA fG fX fI fS fC : Addr} {dA dG dX dI dS dC : FuncData}
theorem ok_anew1 (n : Nat) {f : Addr} {fd : FuncData} (F : Fun K "anew" "anew" sAnew f fd) (bF : Binds K fd ["value"] []) (gF : mg "anew" = some (.ref f)) (mt : mg "type" = none) (ml : mg "list" = none) (mu : mg "tuple" = none)
    (G : FnOk P w K mg base CX0 (n + 1) f fd ["value"] (spAnew n)) :
    FnOk P w K mg base CX0 (n + 1 + 1) f fd ["value"] (spAnew (n + 1)) := by
  refine F.ok scAnew (fun vs H Q E h => ?_) (fun cdv A outer s H vs Q E hr h => ?_)
  · obtain ⟨v, d, rfl, _⟩ := h
    rfl
  · obtain ⟨v, d, rfl, rd, an, q⟩ := h
    refine ⟨_, pss_cons (ps_if (pt_cmpR op_isTyB (pe_callTy call_type1 (by rfl) mt (by decide +kernel) (pa_cons (pv 0) pa_nil)) (pe_bltn (v := .ty "list") (by rfl) ml (by decide +kernel) rfl) (nomark _)) pss_never pss_nil)
      (pss_cons (ps_if (pt_cmpR op_isTyB (pe_callTy call_type1 (by rfl) mt (by decide +kernel) (pa_cons (pv 0) pa_nil)) (pe_bltn (v := .ty "tuple") (by rfl) mu (by decide +kernel) rfl) (nomark _))
        (pss_one (ps_ret (pe_callTy call_tuple_of (by rfl) mu (by decide +kernel) (pa_cons
          (pe_lc (own := [("part", 1)]) (g := gName 1) (tt := tYes) rfl scAnew.nd (pi_tup (pv 0))
            (blkOk_by (own := [("part", 1)]) (N := ["value", "part"]) (sc := defScope sAnew) (by decide +kernel))
            (fun _ _ _ _ _ => pg_name (i := 1) scAnew.nd rfl (Or.inl rfl)) (fun _ _ _ _ _ => pts_nil)
            (fun _ _ _ _ _ => pe_call G hr (by rfl) gF F.kp bF .nil pass0 (pa_cons (pv 1) pa_nil))) pa_nil)))) pss_nil)
      (pss_one (ps_ret (pv 0)))), ?_⟩
    refine ⟨v, rfl, v, _, rfl, rd.tyB, _, _, rfl, rfl, _, rfl, ?_⟩
    cases d with
    | int i =>
      refine iteF ⟨v, rfl, v, _, rfl, rd.tyB, _, _, rfl, rfl, _, rfl, iteF ⟨v, rfl, q _ _ (.refl H) rd⟩⟩
    | tuple ds =>
      refine iteF ⟨v, rfl, v, _, rfl, rd.tyB, _, _, rfl, rfl, _, rfl, iteT ?_⟩
      have rd' := rd
      cases rd with
      | tup e rs =>
        rename_i a xs
        have hl := RDs.length rs
        refine ⟨.ref a, rfl, a, rfl, ⟨xs, SqT.of e⟩, fun D hD => lc_new (es := ds) (fun _ => rfl) e rs rfl (by rw [hl]; have := an.1; omega) hD (fun e he => (an.2 e he).nl)
          (fun i x d e' H1 Q1 h1 h2 rx S1 q1 => ?_) (fun H1 us S1 hd ru => ?_)⟩
        · rw [h1] at h2
          cases h2
          exact ⟨x, rfl, x, d, rfl, rx, an.2 d (List.mem_of_getElem? h1), q1⟩
        · refine ⟨D, us, rfl, .inl ⟨SqL.of hd, fun t ht => ?_⟩⟩
          have S2 := same_new (o := .tup us) ht
          exact q _ _ (S1.trans S2) (.tup upd_same (RDs.keep S2 ru))
    | _ => exact an.elim
theorem ok_anew {f : Addr} {fd : FuncData} (F : Fun K "anew" "anew" sAnew f fd) (bF : Binds K fd ["value"] []) (gF : mg "anew" = some (.ref f)) (mt : mg "type" = none) (ml : mg "list" = none) (mu : mg "tuple" = none) :
    ∀ n, FnOk P w K mg base CX0 (n + 1) f fd ["value"] (spAnew n)
  | 0 => ok_anew0 F mt ml mu
  | n + 1 => ok_anew1 n F bF gF mt ml mu (ok_anew F bF gF mt ml mu n)

/-! ### errors -/
def spInit (K : PySem.W.Frag) : Sp := fun vs H Q _ => ∃ (a C : Addr) (v : V), vs = [.ref a, v] ∧ OexC K C ∧
  PySem.W.findIn K (.ref C) "value" = some none ∧ H a = some (exo a C none) ∧
  ∀ d, H d = none → d ≠ a → Q .non (upd (upd H d (exd d [("value", v)])) a (exo a C (some d)))
theorem ok_init {f : Addr} {fd : FuncData} {k : Nat} (F : Fun K "__init__" "MixError.__init__" sInit f fd)
    (mv : mg "ValueError" = none) (vV : PySem.W.findCls K (.type "ValueError") (.type "type") "__init__" =
      some (.val (.builtin "ValueError.__init__"))) :
    FnOk P w K mg base CX0 (k + 1) f fd ["self", "value"] (spInit K) := by
  refine F.ok scInit (fun vs H Q E h => ?_) (fun cdv A outer s H vs Q E hr h => ?_)
  · obtain ⟨a, C, v, rfl, _⟩ := h
    rfl
  · obtain ⟨a, C, v, rfl, T, hno, ha, q⟩ := h
    refine ⟨_, pss_cons (ps_expr (pe_veinit (by rfl) mv vV (pa_cons (pv 0) (pa_cons (pv 1) pa_nil))))
      (pss_one (ps_ost (pv 0) (pv 1))), ?_⟩
    refine ⟨.ref a, rfl, v, rfl, a, C, [v], rfl, by show 1 ≤ 1000; decide, T, ha, ?_⟩
    exact ⟨v, rfl, .ref a, rfl, a, C, rfl, T, hno, .inl ⟨ha, fun d hd ne => q d hd ne⟩⟩
/-- what is known of one class of the text and of its __init__ -/
structure OneC (K : PySem.W.Frag) (C fI : Addr) : Prop where
  em : ErrMk K C fI
  xf : XfC K C
  no : PySem.W.findIn K (.ref C) "value" = some none
  er : PySem.W.ErrC K C
/-- an error of the class at C leaves, its value the data d -/
def Out (C : Addr) (d : PyData) (H : Hp) (E : XK) : Prop := ∀ H' dx v, Same H H' → H' dx = some (.xd [("value", v)]) → RD H' v d → E (.ref C) (some dx) H'
theorem Out.more {C : Addr} {d : PyData} {H H' : Hp} {E : XK} (o : Out C d H E) (S : Same H H') : Out C d H' E := fun H2 dx v S2 h r => o H2 dx v (S.trans S2) h r
/-- an error's dict, the error itself no longer tracked -/
theorem out_heap {H : Hp} {a d : Addr} {v : V} {C : Addr} (ha : H a = none) (hd : upd H a (exo a C none) d = none) (ne : d ≠ a) :
    Same H (upd (del (upd (upd (upd H a (exo a C none)) d (exd d [("value", v)])) a (exo a C (some d))) a) d (.xd [("value", v)])) := by
  rw [upd_ne ne] at hd
  intro b o e
  have na := ne_of_none e ha
  have nd := ne_of_none e hd
  rw [upd_ne nd, del_ne na, upd_ne na, upd_ne nd, upd_ne na]
  exact e
theorem raise_read {H : Hp} {C : Addr} {v : V} {W : XK} (O : OneC K C fI) (q : ∀ H' dx, Same H H' → H' dx = some (.xd [("value", v)]) → W (.ref C) (some dx) H') :
    ∀ a, H a = none → spInit K (.ref a :: ([v] ++ [])) (upd H a (exo a C none))
      (fun u H2 => u = .non ∧ ∃ (d : Addr) (fs : List (Str × V)), H2 a = some (exo a C (some d)) ∧ H2 d = some (exd d fs) ∧ H d = none ∧ W (.ref C) (some d) (upd (del H2 a) d (.xd fs))) (fun _ _ _ => False) := fun a ha =>
  ⟨a, C, v, rfl, O.em.oex, O.no, upd_same, fun d hd ne => ⟨rfl, d, _, upd_same, by rw [upd_ne ne]; exact upd_same, by rw [upd_ne ne] at hd; exact hd, q _ _ (out_heap ha hd ne) upd_same⟩⟩

theorem an_items {n : Nat} {d : PyData} (h : An (n + 1) d) : ∀ t ∈ itemsD d, An n t := fun t ht => by
  cases d with
  | tuple ds => exact h.2 t ht
  | _ => exact absurd (show t ∈ ([] : List PyData) from ht) List.not_mem_nil
theorem an_len {n : Nat} {d : PyData} (h : An n d) : lenD d ≤ 1000 := by
  cases d with
  | tuple ds =>
    cases n with
    | zero => exact h.elim
    | succ n => have := h.1; show ((ds.length : Nat) : Int) ≤ 1000; omega
  | _ => show (0 : Int) ≤ 1000; decide
theorem an_slim {g : PyData} (h : An 3 g) : Slim g := fun t ht r hr => an_len (an_items (an_items h t ht) r hr)
def spCheckGX (C : Addr) : Sp := fun vs H Q E => ∃ v g, vs = [v] ∧ RD H v g ∧ An 3 g ∧ (gameD g = true → ∀ H', Same H H' → Q .non H') ∧ (gameD g = false → Out C g H E)
theorem ok_checkgameX {f C : Addr} {fd : FuncData} (F : Fun K "check_game" "check_game" sCheckGame f fd)
    (FG : Fun K "game_fits" "game_fits" sGameFits fG dG) (bG : Binds K dG ["value"] []) (gG : mg "game_fits" = some (.ref fG)) (GG : FnOk P w K mg base CX0 6 fG dG ["value"] (spKc Slim gameD))
    (FA : Fun K "anew" "anew" sAnew fA dA) (bA : Binds K dA ["value"] []) (gA : mg "anew" = some (.ref fA)) (GA : FnOk P w K mg base CX0 4 fA dA ["value"] (spAnew 3))
    (O : OneC K C fI) (gC : mg "InvalidGame" = some (.ref C)) (GI : FnOk P w K mg base CX0 1 fI dI ["self", "value"] (spInit K)) (bI : Binds K dI ["self", "value"] []) :
    FnOk P w K mg base (L2.CX P w) 7 f fd ["game"] (spCheckGX C) := by
  refine F.okX scCheckGame (fun vs H Q E h => ?_) (fun cdv A outer s H vs Q E hr h => ?_)
  · obtain ⟨v, d, rfl, _⟩ := h
    rfl
  · obtain ⟨v, g, rfl, rd, an, q, x⟩ := h
    refine ⟨_, pss_one (ps_if (pt_not (pt_val (pe_call GG hr (by rfl) gG FG.kp bG .nil pass0 (pa_cons (pv 0) pa_nil))))
      (pss_one (ps_raise rfl (takes_of rfl rfl rfl rfl) (pmk_oex O.em.oex O.em.ini O.em.fun_ GI (hr.mono (show 2 ≤ 6 by omega)) bI .nil pass0 (by rfl) gC
        (pa_cons (pe_call GA (hr.mono (show 4 ≤ 6 by omega)) (by rfl) gA FA.kp bA .nil pass0 (pa_cons (pv 0) pa_nil)) pa_nil)))) pss_nil), ?_⟩
    refine ⟨v, rfl, v, g, rfl, rd, an_slim an, fun H1 S => ⟨_, rfl, ?_⟩⟩
    cases e : gameD g with
    | true => exact iteF (q e H1 S)
    | false =>
      refine iteT ⟨v, rfl, v, g, rfl, rd.keep S, an, fun H2 u S2 ru => ⟨by show 1 ≤ 1000; decide, ?_⟩⟩
      exact raise_read O fun H3 dx S3 h3 => x e H3 dx u (S.trans (S2.trans S3)) h3 (ru.keep S3)

/-- a choice that is right -/
def spCheckC : Sp := fun vs H Q _ => ∃ v g s n, vs = [v, .int s, .int n] ∧ RD H v g ∧ gameD g = true ∧ 0 ≤ n ∧ n < sizeD g s ∧ ∀ H', Same H H' → Q .non H'
theorem ok_checkchoice {f : Addr} {fd : FuncData} (F : Fun K "check_choice" "check_choice" sCheckChoice f fd)
    (FC : Fun K "choice_fits" "choice_fits" sChoiceFits fC dC) (bC : Binds K dC ["game", "side", "value"] []) (gC : mg "choice_fits" = some (.ref fC)) (GC : FnOk P w K mg base CX0 2 fC dC ["game", "side", "value"] spChoiceFits) :
    FnOk P w K mg base CX0 3 f fd ["game", "side", "choice"] spCheckC := by
  refine F.ok scCheckChoice (fun vs H Q E h => ?_) (fun cdv A outer s H vs Q E hr h => ?_)
  · obtain ⟨v, g, s, n, rfl, _⟩ := h
    rfl
  · obtain ⟨v, g, sd, n, rfl, rd, hg, h0, h1, q⟩ := h
    refine ⟨_, pss_one (ps_if (pt_not (pt_val (pe_call GC hr (by rfl) gC FC.kp bC .nil pass0 (pa_cons (pv 0) (pa_cons (pv 1) (pa_cons (pv 2) pa_nil)))))) pss_never pss_nil), ?_⟩
    refine ⟨v, rfl, .int sd, rfl, .int n, rfl, v, g, sd, _, _, rfl, rd, hg, .int n, fun H1 S => ⟨_, rfl, ?_⟩⟩
    have e : choiceD (sizeD g sd) (.int n) = true := by
      show (decide (0 ≤ n) && decide (n < sizeD g sd)) = true
      rw [decide_eq_true h0, decide_eq_true h1]; rfl
    rw [e]
    exact iteF (q H1 S)

def spTurned : Sp := fun vs H Q _ => ∃ v g r c, vs = [v] ∧ RD H v (gmD g) ∧ Good r c g ∧ Bnd g ∧ ∀ H' v', Same H H' → RD H' v' (gmD (tr c g.2, tr c g.1)) → Q v' H'
theorem ok_turned {f : Addr} {fd : FuncData} (F : Fun K "turned" "turned" sTurned f fd)
    (FG : Fun K "check_game" "check_game" sCheckGame fG dG) (bG : Binds K dG ["game"] []) (gG : mg "check_game" = some (.ref fG)) (GG : FnOk P w K mg base CX0 7 fG dG ["game"] spCheckG)
    (FX : Fun K "exchanged" "exchanged" sExchanged fX dX) (bX : Binds K dX ["game"] []) (gX : mg "exchanged" = some (.ref fX)) (GX : FnOk P w K mg base CX0 1 fX dX ["game"] spExch) :
    FnOk P w K mg base CX0 8 f fd ["game"] spTurned := by
  refine F.ok scTurned (fun vs H Q E h => ?_) (fun cdv A outer s H vs Q E hr h => ?_)
  · obtain ⟨v, g, r, c, rfl, _⟩ := h
    rfl
  · obtain ⟨v, g, r, c, rfl, rd, G, B, q⟩ := h
    have hr1 := hr.mono (show 1 ≤ 7 by omega)
    refine ⟨_, pss_cons (ps_expr (pe_call GG hr (by rfl) gG FG.kp bG .nil pass0 (pa_cons (pv 0) pa_nil)))
      (pss_one (ps_ret (pe_call GX hr1 (by rfl) gX FX.kp bX .nil pass0 (pa_cons (pv 0) pa_nil)))), ?_⟩
    refine ⟨v, rfl, v, _, rfl, rd, (gm_iff G).1.mpr B, fun H1 S1 => ⟨v, rfl, v, g, r, c, rfl, rd.keep S1, G, fun H2 u S2 ru => q _ _ (S1.trans S2) ru⟩⟩
end
end K04

/-! R12: moved, without. -/
namespace K04
open PySem PySem.Spec PyProof.Rows L2 GL
theorem good_exch {r c : Nat} {g : Tab × Tab} (G : Good r c g) : Good c r (tr c g.2, tr c g.1) := ⟨tr_shp G.two, tr_shp G.one, G.c1, G.c5, G.r1, G.r5⟩
theorem good_bump {r c k : Nat} {n : Int} {g : Tab × Tab} (G : Good r c g) (hk : k < c) : Good r c (g.1.map fun row => bump row k n, g.2) := ⟨map_bump_shp G.one hk, G.two, G.r1, G.r5, G.c1, G.c5⟩
theorem good_up {r c k : Nat} {n : Int} {g : Tab × Tab} (G : Good r c g) (hk : k < r) : Good r c (g.1, upRow g.2 k n) := ⟨G.one, up_shp G.two hk, G.r1, G.r5, G.c1, G.c5⟩
theorem gm_rd {H : Hp} {a p q : Addr} {x y : Tab} (ha : H a = some (.tup [.ref p, .ref q])) (r1 : RD H (.ref p) (tbD x)) (r2 : RD H (.ref q) (tbD y)) : RD H (.ref a) (gmD (x, y)) := .tup ha (.cons r1 (.cons r2 .nil))
theorem rd_ref {H : Hp} {v : V} {x : Tab} (h : RD H v (tbD x)) : ∃ a, v = .ref a := by
  cases h with
  | tup _ _ => exact ⟨_, rfl⟩
/-- the game that moved makes -/
def mvG (g : Tab × Tab) (sd : Int) (k : Nat) (n : Int) : Tab × Tab := if sd = 0 then (g.1.map fun row => bump row k n, g.2) else (g.1, upRow g.2 k n)
/-- the game without a choice -/
def woG (g : Tab × Tab) (sd : Int) (k : Nat) : Tab × Tab := if sd = 0 then (cutAt g.1 k, cutAt g.2 k) else (g.1.map fun row => cutAt row k, g.2.map fun row => cutAt row k)
section
variable {P : Program} {w : World} {K : PySem.W.Frag} {mg : Str → Option Value} {base : Heap}
variable {fG fX fR fC fD fI fS : Addr} {dG dX dR dC dD dI dS : FuncData}
def spMoved (C : Addr) : Sp := fun vs H Q E => ∃ v g r c sd k n, vs = [v, .int sd, .int (k : Nat), .int n] ∧ RD H v (gmD g) ∧ Good r c g ∧ Bnd g ∧ ((sd = 0 ∧ k < c) ∨ (sd = 1 ∧ k < r)) ∧
  (Bnd (mvG g sd k n) → ∀ H' v', Same H H' → RD H' v' (gmD (mvG g sd k n)) → Q v' H') ∧ (¬ Bnd (mvG g sd k n) → Out C (gmD (mvG g sd k n)) H E)
theorem ok_moved {f CI : Addr} {fd : FuncData} (F : Fun K "moved" "moved" sMoved f fd) (mu : mg "tuple" = none)
    (FC : Fun K "check_game_and_side" "check_game_and_side" sCheckGameAndSide fC dC) (bC : Binds K dC ["game", "side"] []) (gC : mg "check_game_and_side" = some (.ref fC)) (GC : FnOk P w K mg base CX0 8 fC dC ["game", "side"] spCheckGS)
    (FD : Fun K "check_choice" "check_choice" sCheckChoice fD dD) (bD : Binds K dD ["game", "side", "choice"] []) (gD : mg "check_choice" = some (.ref fD)) (GD : FnOk P w K mg base CX0 3 fD dD ["game", "side", "choice"] spCheckC)
    (FX : Fun K "exchanged" "exchanged" sExchanged fX dX) (bX : Binds K dX ["game"] []) (gX : mg "exchanged" = some (.ref fX)) (GX : FnOk P w K mg base CX0 1 fX dX ["game"] spExch)
    (FR : Fun K "raised" "raised" sRaised fR dR) (bR : Binds K dR ["row", "at", "number"] []) (gR : mg "raised" = some (.ref fR)) (GR : FnOk P w K mg base CX0 1 fR dR ["row", "at", "number"] spRaised)
    (FG : Fun K "check_game" "check_game" sCheckGame fG dG) (bG : Binds K dG ["game"] []) (gG : mg "check_game" = some (.ref fG)) (GG : FnOk P w K mg base (L2.CX P w) 7 fG dG ["game"] (spCheckGX CI)) :
    FnOk P w K mg base (L2.CX P w) 9 f fd ["game", "side", "choice", "number"] (spMoved CI) := by
  refine F.okX scMoved (fun vs H Q E h => ?_) (fun cdv A outer s H vs Q E hr h => ?_)
  · obtain ⟨v, g, r, c, sd, k, n, rfl, _⟩ := h
    rfl
  · obtain ⟨v, g, r, c, sd, k, n, rfl, rd, G, B, hk, q, x⟩ := h
    have hr1 := hr.mono (show 1 ≤ 8 by omega)
    have hr3 := hr.mono (show 3 ≤ 8 by omega)
    have hr5 := hr.mono (show 7 ≤ 8 by omega)
    refine ⟨_, pss_cons (ps_expr (pe_call GC hr (by rfl) gC FC.kp bC .nil pass0 (pa_cons (pv 0) (pa_cons (pv 1) pa_nil))))
      (pss_cons (ps_expr (pe_call GD hr3 (by rfl) gD FD.kp bD .nil pass0 (pa_cons (pv 0) (pa_cons (pe_op op_sub pe_int (pv 1)) (pa_cons (pv 2) pa_nil)))))
      (pss_cons (ps_asg (pe_ifExp (pt_cmpR op_eq (pv 1) pe_int (nomark _)) (pv 0) (pe_call GX hr1 (by rfl) gX FX.kp bX .nil pass0 (pa_cons (pv 0) pa_nil)))
        (pg_tup rfl (pgs_cons (pg_name (i := 4) scMoved.nd rfl (Or.inl rfl)) (pgs_cons (pg_name (i := 5) scMoved.nd rfl (Or.inl rfl)) pgs_nil))))
      (pss_cons (ps_set (i := 6) scMoved.nd rfl (.inl rfl) (pe_tup (pa_cons (pe_callTy call_tuple_of (by rfl) mu (by decide +kernel) (pa_cons
          (pe_lc (own := [("row", 8)]) (g := gName 8) (tt := tYes) rfl scMoved.nd (pi_tup (pv 4))
            (blkOk_by (own := [("row", 8)]) (N := ["game", "side", "choice", "number", "first", "second", "changed", "new_game", "row"]) (sc := defScope sMoved) (by decide +kernel))
            (fun _ _ _ _ _ => pg_name (i := 8) scMoved.nd rfl (Or.inl rfl)) (fun _ _ _ _ _ => pts_nil)
            (fun _ _ _ _ _ => pe_call GR hr1 (by rfl) gR FR.kp bR .nil pass0 (pa_cons (pv 8) (pa_cons (pv 2) (pa_cons (pv 3) pa_nil))))) pa_nil)) (pa_cons (pv 5) pa_nil))))
      (pss_cons (ps_set (i := 7) scMoved.nd rfl (.inl rfl) (pe_ifExp (pt_cmpR op_eq (pv 1) pe_int (nomark _)) (pv 6) (pe_call GX hr1 (by rfl) gX FX.kp bX .nil pass0 (pa_cons (pv 6) pa_nil))))
      (pss_cons (ps_expr (pe_call GG hr5 (by rfl) gG FG.kp bG .nil (passes_call (takes_of rfl rfl rfl rfl) (fun _ _ _ _ h => h)) (pa_cons (pv 7) pa_nil)))
      (pss_one (ps_ret (pv 7)))))))), ?_⟩
    obtain ⟨gi, s0, s1⟩ := gm_iff G
    have hs : sd = 0 ∨ sd = 1 := hk.elim (fun z => .inl z.1) fun z => .inr z.1
    refine ⟨v, rfl, .int sd, rfl, v, _, sd, rfl, rd, gi.mpr B, hs, fun H1 S1 => ?_⟩
    refine ⟨v, rfl, .int sd, rfl, _, _, rfl, rfl, .int k, rfl, v, _, _, _, rfl, rd.keep S1, gi.mpr B, by omega, ?_, fun H2 S2 => ?_⟩
    · rcases hk with ⟨rfl, h⟩ | ⟨rfl, h⟩
      · rw [s1 _ (by decide)]; omega
      · rw [show (1 : Int) - 1 = 0 from rfl, s0]; omega
    have S12 := S1.trans S2
    rcases hk with ⟨rfl, hk⟩ | ⟨rfl, hk⟩
    · have em : mvG g 0 k n = (g.1.map fun row => bump row k n, g.2) := if_pos rfl
      have G' : Good r c (mvG g 0 k n) := by rw [em]; exact good_bump G hk
      obtain ⟨a, p, p2, rfl, ha, r1, r2⟩ := rd_gm (rd.keep S12)
      refine ⟨.int 0, rfl, rfl, _, rfl, iteT ⟨.ref a, rfl, a, [.ref p, .ref p2], rfl, SqT.of ha, rfl, .ref p, [.ref p2], rfl, .ref p2, [], rfl, rfl, ?_⟩⟩
      obtain ⟨p', rs, e, hp, hl, hw, rr⟩ := rd_tab r1 G.one
      cases e
      have len : (rs.map V.ref).length ≤ 1000 := by rw [List.length_map, hl]; have := G.r5; omega
      refine ⟨.ref p, rfl, p, rfl, ⟨_, SqT.of hp⟩, fun D hD => lc_new (es := (g.1.map fun row => bump row k n).map rwD) (fun _ => rfl) hp rr (by simp) len hD (fun e he => ?_) (fun i x d e H3 Q1 h1 h2 rx S3 q1 => ?_) (fun H3 us S3 hd ru => ?_)⟩
      · obtain ⟨row, _, rfl⟩ := List.mem_map.mp he
        exact nl_row row
      · rw [List.getElem?_map] at h1
        obtain ⟨row, hrow, rfl⟩ := Option.map_eq_some_iff.mp h1
        rw [List.getElem?_map, List.getElem?_map, hrow] at h2
        cases h2
        have hrl := G.one.2 row (List.mem_of_getElem? hrow)
        exact ⟨x, rfl, .int k, rfl, .int n, rfl, x, row, k, n, rfl, rx, by rw [hrl]; exact hk, by rw [hrl]; exact G.c5, q1⟩
      · refine ⟨D, us, rfl, .inl ⟨SqL.of hd, fun t ht => ⟨.ref p2, rfl, by show 2 ≤ sizeLine; decide, fun u hu => ?_⟩⟩⟩
        have S4 := same_new (o := .tup us) ht
        have S5 := same_new (o := .tup [.ref t, .ref p2]) hu
        have rt : RD (upd (upd H3 t (.tup us)) u (.tup [.ref t, .ref p2])) (.ref u) (gmD (mvG g 0 k n)) := by
          rw [em]
          exact gm_rd upd_same (.tup (S5 _ _ upd_same) (RDs.keep S5 (RDs.keep S4 ru))) (((r2.keep S3).keep S4).keep S5)
        refine ⟨.int 0, rfl, rfl, _, rfl, iteT ?_⟩
        refine ⟨.ref u, rfl, .ref u, rfl, ?_⟩
        have S9 := S12.trans (S3.trans (S4.trans S5))
        refine ⟨.ref u, _, rfl, rt, an_gm G', fun e H4 S6 => ⟨.ref u, rfl, q ((gm_iff G').1.mp e) H4 _ (S9.trans S6) (rt.keep S6)⟩, fun e => (x fun b => ?_).more S9⟩
        rw [(gm_iff G').1.mpr b] at e; cases e
    · have em : mvG g 1 k n = (g.1, upRow g.2 k n) := if_neg (by decide)
      have G' : Good r c (mvG g 1 k n) := by rw [em]; exact good_up G hk
      refine ⟨.int 1, rfl, rfl, _, rfl, iteF ⟨v, rfl, v, g, r, c, rfl, rd.keep S12, G, fun H3 u1 S3 ru1 => ?_⟩⟩
      obtain ⟨a, p, p2, rfl, ha, r1, r2⟩ := rd_gm ru1
      have GE := good_exch G
      refine ⟨a, [.ref p, .ref p2], rfl, SqT.of ha, rfl, .ref p, [.ref p2], rfl, .ref p2, [], rfl, rfl, ?_⟩
      obtain ⟨p', rs, e, hp, hl, hw, rr⟩ := rd_tab r1 GE.one
      cases e
      have len : (rs.map V.ref).length ≤ 1000 := by rw [List.length_map, hl]; have := G.c5; omega
      refine ⟨.ref p, rfl, p, rfl, ⟨_, SqT.of hp⟩, fun D hD => lc_new (es := ((tr c g.2).map fun row => bump row k n).map rwD) (fun _ => rfl) hp rr (by simp) len hD (fun e he => ?_) (fun i x d e H4 Q1 h1 h2 rx S4 q1 => ?_) (fun H4 us S4 hd ru => ?_)⟩
      · obtain ⟨row, _, rfl⟩ := List.mem_map.mp he
        exact nl_row row
      · rw [List.getElem?_map] at h1
        obtain ⟨row, hrow, rfl⟩ := Option.map_eq_some_iff.mp h1
        rw [List.getElem?_map, List.getElem?_map] at h2
        have hrow' : (tr c g.2)[i]? = some row := hrow
        rw [hrow'] at h2
        cases h2
        have hrl := GE.one.2 row (List.mem_of_getElem? hrow)
        exact ⟨x, rfl, .int k, rfl, .int n, rfl, x, row, k, n, rfl, rx, by rw [hrl]; exact hk, by rw [hrl]; exact G.r5, q1⟩
      · refine ⟨D, us, rfl, .inl ⟨SqL.of hd, fun t ht => ⟨.ref p2, rfl, by show 2 ≤ sizeLine; decide, fun u hu => ?_⟩⟩⟩
        have S5 := same_new (o := .tup us) ht
        have S6 := same_new (o := .tup [.ref t, .ref p2]) hu
        have rt : RD (upd (upd H4 t (.tup us)) u (.tup [.ref t, .ref p2])) (.ref u) (gmD ((tr c g.2).map fun row => bump row k n, tr c g.1)) :=
          gm_rd upd_same (.tup (S6 _ _ upd_same) (RDs.keep S6 (RDs.keep S5 ru))) (((r2.keep S4).keep S5).keep S6)
        refine ⟨.int 1, rfl, rfl, _, rfl, iteF ⟨.ref u, rfl, .ref u, _, c, r, rfl, rt, good_bump GE hk, fun H7 u7 S7 r7 => ?_⟩⟩
        have r7' : RD H7 u7 (gmD (mvG g 1 k n)) := by
          rw [em]
          have e1 := tr_tr G.one
          have e2 := tr_bump (n := n) G.two hk
          dsimp only at r7
          rw [e1, e2] at r7
          exact r7
        refine ⟨u7, rfl, ?_⟩
        have S9 := S12.trans (S3.trans (S4.trans (S5.trans (S6.trans S7))))
        refine ⟨u7, _, rfl, r7', an_gm G', fun e H4 S8 => ⟨u7, rfl, q ((gm_iff G').1.mp e) H4 _ (S9.trans S8) (r7'.keep S8)⟩, fun e => (x fun b => ?_).more S9⟩
        rw [(gm_iff G').1.mpr b] at e; cases e
end
end K04

/-! R13: without. -/
namespace K04
open PySem PySem.Spec PyProof.Rows L2 GL
section
variable {P : Program} {w : World} {K : PySem.W.Frag} {mg : Str → Option Value} {base : Heap}
variable {fG fX fR fC fD fI fS : Addr} {dG dX dR dC dD dI dS : FuncData}
/-- a table without a row, in the heap -/
theorem cut_rds {H : Hp} {rs : List Addr} {x : Tab} {k : Nat} (h : RDs H (rs.map V.ref) (x.map rwD)) :
    RDs H ((rs.map V.ref).take k ++ (rs.map V.ref).drop (k + 1)) ((cutAt x k).map rwD) := by
  unfold cutAt
  rw [List.map_append, List.map_take, List.map_drop]
  exact RDs.app (RDs.drop _ h) (RDs.take _ h)
theorem cut_two {H H1 H2 H3 : Hp} {p t1 t2 t3 : Addr} {us : List V} {k : Nat} (hk : k < us.length) (o1 : OldNew [p] H (cutV us none (some (k : Int))) t1 H1)
    (o2 : OldNew [p] H1 (cutV us (some ((k : Int) + 1)) none) t2 H2) (o3 : OldNew [t1, t2] H2 (cutV us none (some (k : Int)) ++ cutV us (some ((k : Int) + 1)) none) t3 H3) :
    Same H H3 ∧ H3 t3 = some (.tup (us.take k ++ us.drop (k + 1))) := by
  refine ⟨(on_same o1).trans ((on_same o2).trans (on_same o3)), ?_⟩
  have e := o3.1
  rw [cut_to (by omega) (by omega), cut_from (by omega) (by omega)] at e
  have : ((k : Int) + 1).toNat = k + 1 := by omega
  rw [this, Int.toNat_natCast] at e
  exact e
theorem cutV_len {us : List V} {lo hi : Option Int} : (cutV us lo hi).length ≤ us.length := by
  unfold cutV
  rw [List.length_take, List.length_drop]
  omega
def spWithout (C : Addr) : Sp := fun vs H Q E => ∃ v g r c sd k, vs = [v, .int sd, .int (k : Nat)] ∧ RD H v (gmD g) ∧ Good r c g ∧ Bnd g ∧ ((sd = 0 ∧ k < r) ∨ (sd = 1 ∧ k < c)) ∧
  ((sd = 0 ∧ r = 1 ∨ sd = 1 ∧ c = 1) → Out C (.int (k : Nat)) H E) ∧ ((sd = 0 ∧ r ≠ 1 ∨ sd = 1 ∧ c ≠ 1) → ∀ H' v', Same H H' → RD H' v' (gmD (woG g sd k)) → Q v' H')
theorem good_cut {r c k : Nat} {g : Tab × Tab} (G : Good r c g) (hk : k < r) (h : r ≠ 1) : Good (r - 1) c (cutAt g.1 k, cutAt g.2 k) :=
  ⟨cut_shp G.one hk, cut_shp G.two hk, by have := G.r1; omega, by have := G.r5; omega, G.c1, G.c5⟩
theorem ok_without {f CN : Addr} {fd : FuncData} (F : Fun K "without" "without" sWithout f fd)
    (FC : Fun K "check_game_and_side" "check_game_and_side" sCheckGameAndSide fC dC) (bC : Binds K dC ["game", "side"] []) (gC : mg "check_game_and_side" = some (.ref fC)) (GC : FnOk P w K mg base CX0 8 fC dC ["game", "side"] spCheckGS)
    (FD : Fun K "check_choice" "check_choice" sCheckChoice fD dD) (bD : Binds K dD ["game", "side", "choice"] []) (gD : mg "check_choice" = some (.ref fD)) (GD : FnOk P w K mg base CX0 3 fD dD ["game", "side", "choice"] spCheckC)
    (FX : Fun K "exchanged" "exchanged" sExchanged fX dX) (bX : Binds K dX ["game"] []) (gX : mg "exchanged" = some (.ref fX)) (GX : FnOk P w K mg base CX0 1 fX dX ["game"] spExch)
    (FS : Fun K "size" "size" sSize fS dS) (bS : Binds K dS ["game", "side"] []) (gS : mg "size" = some (.ref fS)) (GS : FnOk P w K mg base CX0 1 fS dS ["game", "side"] spSize)
    (O : OneC K CN fI) (gN : mg "InvalidNumber" = some (.ref CN)) (GI : FnOk P w K mg base CX0 1 fI dI ["self", "value"] (spInit K)) (bI : Binds K dI ["self", "value"] []) :
    FnOk P w K mg base (L2.CX P w) 9 f fd ["game", "side", "choice"] (spWithout CN) := by
  refine F.okX scWithout (fun vs H Q E h => ?_) (fun cdv A outer s H vs Q E hr h => ?_)
  · obtain ⟨v, g, r, c, sd, k, rfl, _⟩ := h
    rfl
  · obtain ⟨v, g, r, c, sd, k, rfl, rd, G, B, hk, x, q⟩ := h
    have hr1 := hr.mono (show 1 ≤ 8 by omega)
    have hr3 := hr.mono (show 3 ≤ 8 by omega)
    refine ⟨_, pss_cons (ps_expr (pe_call GC hr (by rfl) gC FC.kp bC .nil pass0 (pa_cons (pv 0) (pa_cons (pv 1) pa_nil))))
      (pss_cons (ps_expr (pe_call GD hr3 (by rfl) gD FD.kp bD .nil pass0 (pa_cons (pv 0) (pa_cons (pv 1) (pa_cons (pv 2) pa_nil)))))
      (pss_cons (ps_if (pt_cmpR op_eq (pe_call GS hr1 (by rfl) gS FS.kp bS .nil pass0 (pa_cons (pv 0) (pa_cons (pv 1) pa_nil))) pe_int (nomark _))
        (pss_one (ps_raise rfl (takes_of rfl rfl rfl rfl) (pmk_oex O.em.oex O.em.ini O.em.fun_ GI (hr.mono (show 2 ≤ 8 by omega)) bI .nil pass0 (by rfl) gN (pa_cons (pv 2) pa_nil)))) pss_nil)
      (pss_cons (ps_asg (pe_ifExp (pt_cmpR op_eq (pv 1) pe_int (nomark _)) (pv 0) (pe_call GX hr1 (by rfl) gX FX.kp bX .nil pass0 (pa_cons (pv 0) pa_nil)))
        (pg_tup rfl (pgs_cons (pg_name (i := 3) scWithout.nd rfl (Or.inl rfl)) (pgs_cons (pg_name (i := 4) scWithout.nd rfl (Or.inl rfl)) pgs_nil))))
      (pss_cons (ps_set (i := 5) scWithout.nd rfl (.inl rfl) (pe_tup (pa_cons (pe_op op_catW (pe_slice sl_tupW (pv 3) po_none (po_some (pv 2))) (pe_slice sl_tupW (pv 3) (po_some (pe_op op_add (pv 2) pe_int)) po_none))
        (pa_cons (pe_op op_catW (pe_slice sl_tupW (pv 4) po_none (po_some (pv 2))) (pe_slice sl_tupW (pv 4) (po_some (pe_op op_add (pv 2) pe_int)) po_none)) pa_nil))))
      (pss_one (ps_ret (pe_ifExp (pt_cmpR op_eq (pv 1) pe_int (nomark _)) (pv 5) (pe_call GX hr1 (by rfl) gX FX.kp bX .nil pass0 (pa_cons (pv 5) pa_nil))))))))), ?_⟩
    obtain ⟨gi, s0, s1⟩ := gm_iff G
    have hs : sd = 0 ∨ sd = 1 := hk.elim (fun z => .inl z.1) fun z => .inr z.1
    have sz : ∀ n : Nat, n ≤ 100 → n ≤ sizeLine := fun n z => Nat.le_trans z (by rw [sizeLine_eq]; decide)
    refine ⟨v, rfl, .int sd, rfl, v, _, sd, rfl, rd, gi.mpr B, hs, fun H1 S1 => ?_⟩
    refine ⟨v, rfl, .int sd, rfl, .int k, rfl, v, _, _, _, rfl, rd.keep S1, gi.mpr B, by omega, ?_, fun H2 S2 => ?_⟩
    · rcases hk with ⟨rfl, h⟩ | ⟨rfl, h⟩
      · rw [s0]; omega
      · rw [s1 _ (by decide)]; omega
    have S12 := S1.trans S2
    refine ⟨v, rfl, .int sd, rfl, v, _, sd, rfl, rd.keep S12, gi.mpr B, rfl, _, rfl, ?_⟩
    rw [dec_int']
    refine ite2 (fun e => ?_) (fun e => ?_)
    · have e1 := of_decide_eq_true e
      refine ⟨.int k, rfl, by show 1 ≤ 1000; decide, ?_⟩
      refine raise_read O fun H3 dx S3 h3 => x ?_ H3 dx _ (S12.trans S3) h3 (.int k)
      rcases hs with rfl | rfl
      · rw [s0] at e1; exact .inl ⟨rfl, by omega⟩
      · rw [s1 _ (by decide)] at e1; exact .inr ⟨rfl, by omega⟩
    · have ne : sizeD (gmD g) sd ≠ 1 := fun z => e (decide_eq_true z)
      -- both tables cut
      have cut : ∀ (H3 : Hp) (p : Addr) (tb : Tab) (m l : Nat), RD H3 (.ref p) (tbD tb) → Shp m l tb → k < m → m ≤ 5 → ∃ rs : List Addr, H3 p = some (.tup (rs.map V.ref)) ∧ (rs.map V.ref).length = m ∧ RDs H3 (rs.map V.ref) (tb.map rwD) := fun H3 p tb m l r sh _ _ => by
        obtain ⟨p', rs, e', hp, hl, _, rr⟩ := rd_tab r sh
        cases e'
        exact ⟨rs, hp, by rw [List.length_map]; exact hl, rr⟩
      rcases hk with ⟨rfl, hk⟩ | ⟨rfl, hk⟩
      · have r1 : r ≠ 1 := fun z => ne (by rw [s0, z]; rfl)
        obtain ⟨a, p, p2, rfl, ha, t1, t2⟩ := rd_gm (rd.keep S12)
        refine ⟨.int 0, rfl, rfl, _, rfl, iteT ⟨.ref a, rfl, a, [.ref p, .ref p2], rfl, SqT.of ha, rfl, .ref p, [.ref p2], rfl, .ref p2, [], rfl, rfl, ?_⟩⟩
        obtain ⟨rs, hp, hl, rr⟩ := cut H2 p g.1 r c t1 G.one hk G.r5
        obtain ⟨rs2, hp2, hl2, rr2⟩ := cut H2 p2 g.2 r c t2 G.two hk G.r5
        have z1 : ∀ lo hi lo2 hi2, (cutV (rs.map V.ref) lo hi).length + (cutV (rs.map V.ref) lo2 hi2).length ≤ sizeLine := fun lo hi lo2 hi2 => sz _ (by
          have := cutV_len (us := rs.map V.ref) (lo := lo) (hi := hi); have := cutV_len (us := rs.map V.ref) (lo := lo2) (hi := hi2); have := G.r5; omega)
        have z2 : ∀ lo hi lo2 hi2, (cutV (rs2.map V.ref) lo hi).length + (cutV (rs2.map V.ref) lo2 hi2).length ≤ sizeLine := fun lo hi lo2 hi2 => sz _ (by
          have := cutV_len (us := rs2.map V.ref) (lo := lo) (hi := hi); have := cutV_len (us := rs2.map V.ref) (lo := lo2) (hi := hi2); have := G.r5; omega)
        refine ⟨.ref p, rfl, .int k, rfl, k, rfl, p, _, rfl, hp, fun u1 H3 o1 => ?_⟩
        refine ⟨.ref p, rfl, .int k, rfl, _, _, rfl, rfl, (k : Int) + 1, rfl, p, _, rfl, on_same o1 _ _ hp, fun u2 H4 o2 => ?_⟩
        refine ⟨u1, u2, _, _, rfl, rfl, on_same o2 _ _ o1.1, o2.1, z1 _ _ _ _, fun u3 H5 o3 => ?_⟩
        obtain ⟨S5, h3⟩ := cut_two (by rw [hl]; exact hk) o1 o2 o3
        refine ⟨.ref p2, rfl, .int k, rfl, k, rfl, p2, _, rfl, S5 _ _ hp2, fun w1 H6 o4 => ?_⟩
        refine ⟨.ref p2, rfl, .int k, rfl, _, _, rfl, rfl, (k : Int) + 1, rfl, p2, _, rfl, on_same o4 _ _ (S5 _ _ hp2), fun w2 H7 o5 => ?_⟩
        refine ⟨w1, w2, _, _, rfl, rfl, on_same o5 _ _ o4.1, o5.1, z2 _ _ _ _, fun w3 H8 o6 => ?_⟩
        obtain ⟨S8, h6⟩ := cut_two (by rw [hl2]; exact hk) o4 o5 o6
        refine ⟨by show 2 ≤ sizeLine; decide, fun t ht => ?_⟩
        have S9 := same_new (o := .tup [.ref u3, .ref w3]) ht
        have S89 := S8.trans S9
        have rt : RD (upd H8 t (.tup [.ref u3, .ref w3])) (.ref t) (gmD (woG g 0 k)) := by
          rw [show woG g 0 k = (cutAt g.1 k, cutAt g.2 k) from if_pos rfl]
          exact gm_rd upd_same (.tup (S89 _ _ h3) (RDs.keep S89 (RDs.keep S5 (cut_rds rr)))) (.tup (S9 _ _ h6) (RDs.keep S9 (RDs.keep S8 (RDs.keep S5 (cut_rds rr2)))))
        refine ⟨.int 0, rfl, rfl, _, rfl, iteT ⟨.ref t, rfl, ?_⟩⟩
        exact q (.inl ⟨rfl, r1⟩) _ _ (S12.trans (S5.trans S89)) rt
      · have c1 : c ≠ 1 := fun z => ne (by rw [s1 _ (by decide), z]; rfl)
        have GE := good_exch G
        refine ⟨.int 1, rfl, rfl, _, rfl, iteF ⟨v, rfl, v, g, r, c, rfl, rd.keep S12, G, fun H2' y1 S3 ru1 => ?_⟩⟩
        obtain ⟨a, p, p2, rfl, ha, t1, t2⟩ := rd_gm ru1
        refine ⟨a, [.ref p, .ref p2], rfl, SqT.of ha, rfl, .ref p, [.ref p2], rfl, .ref p2, [], rfl, rfl, ?_⟩
        obtain ⟨rs, hp, hl, rr⟩ := cut H2' p _ c r t1 GE.one hk G.c5
        obtain ⟨rs2, hp2, hl2, rr2⟩ := cut H2' p2 _ c r t2 GE.two hk G.c5
        have z1 : ∀ lo hi lo2 hi2, (cutV (rs.map V.ref) lo hi).length + (cutV (rs.map V.ref) lo2 hi2).length ≤ sizeLine := fun lo hi lo2 hi2 => sz _ (by
          have := cutV_len (us := rs.map V.ref) (lo := lo) (hi := hi); have := cutV_len (us := rs.map V.ref) (lo := lo2) (hi := hi2); have := G.c5; omega)
        have z2 : ∀ lo hi lo2 hi2, (cutV (rs2.map V.ref) lo hi).length + (cutV (rs2.map V.ref) lo2 hi2).length ≤ sizeLine := fun lo hi lo2 hi2 => sz _ (by
          have := cutV_len (us := rs2.map V.ref) (lo := lo) (hi := hi); have := cutV_len (us := rs2.map V.ref) (lo := lo2) (hi := hi2); have := G.c5; omega)
        refine ⟨.ref p, rfl, .int k, rfl, k, rfl, p, _, rfl, hp, fun u1 H3 o1 => ?_⟩
        refine ⟨.ref p, rfl, .int k, rfl, _, _, rfl, rfl, (k : Int) + 1, rfl, p, _, rfl, on_same o1 _ _ hp, fun u2 H4 o2 => ?_⟩
        refine ⟨u1, u2, _, _, rfl, rfl, on_same o2 _ _ o1.1, o2.1, z1 _ _ _ _, fun u3 H5 o3 => ?_⟩
        obtain ⟨S5, h3⟩ := cut_two (by rw [hl]; exact hk) o1 o2 o3
        refine ⟨.ref p2, rfl, .int k, rfl, k, rfl, p2, _, rfl, S5 _ _ hp2, fun w1 H6 o4 => ?_⟩
        refine ⟨.ref p2, rfl, .int k, rfl, _, _, rfl, rfl, (k : Int) + 1, rfl, p2, _, rfl, on_same o4 _ _ (S5 _ _ hp2), fun w2 H7 o5 => ?_⟩
        refine ⟨w1, w2, _, _, rfl, rfl, on_same o5 _ _ o4.1, o5.1, z2 _ _ _ _, fun w3 H8 o6 => ?_⟩
        obtain ⟨S8, h6⟩ := cut_two (by rw [hl2]; exact hk) o4 o5 o6
        refine ⟨by show 2 ≤ sizeLine; decide, fun t ht => ?_⟩
        have S9 := same_new (o := .tup [.ref u3, .ref w3]) ht
        have S89 := S8.trans S9
        have rt : RD (upd H8 t (.tup [.ref u3, .ref w3])) (.ref t) (gmD (cutAt (tr c g.2) k, cutAt (tr c g.1) k)) :=
          gm_rd upd_same (.tup (S89 _ _ h3) (RDs.keep S89 (RDs.keep S5 (cut_rds rr)))) (.tup (S9 _ _ h6) (RDs.keep S9 (RDs.keep S8 (RDs.keep S5 (cut_rds rr2)))))
        refine ⟨.int 1, rfl, rfl, _, rfl, iteF ⟨.ref t, rfl, .ref t, _, c - 1, r, rfl, rt, good_cut GE hk c1, fun H9 y9 S10 r9 => ?_⟩⟩
        refine q (.inr ⟨rfl, c1⟩) _ _ (S12.trans (S3.trans (S5.trans (S89.trans S10)))) ?_
        rw [show woG g 1 k = (g.1.map fun row => cutAt row k, g.2.map fun row => cutAt row k) from if_neg (by decide)]
        dsimp only at r9
        rw [tr_cut G.one hk, tr_cut G.two hk] at r9
        exact r9
end
end K04

/-! R14: _law_columns, _law_numbers. -/
namespace K04
open PySem PySem.Spec PyProof.Rows L2 GL
def scCo1 : Scope := ⟨.function, [(".0", .local), ("k", .cell), ("tuple", .globalImplicit), ("table", .cell)], false, false, []⟩
def scCo2 : Scope := ⟨.function, [(".0", .local), ("row", .local), ("k", NameKind.«free»)], false, false, []⟩
theorem bo_co2 : BlkOk ["table", "k", "row"] scCo1 scCo2 [("row", 2)] := blkOk_by (by decide +kernel)
theorem rds_nth {H : Hp} {rs : List V} {x : Tab} {i : Nat} {row : List Int} (h : RDs H rs (x.map rwD)) (e : x[i]? = some row) : ∃ a, rs[i]? = some (.ref a) ∧ H a = some (.tup (row.map V.int)) := by
  obtain ⟨u, e1, r⟩ := rds_at h (by rw [List.getElem?_map, e]; rfl)
  obtain ⟨a, rfl, ha⟩ := rd_row r
  exact ⟨a, e1, ha⟩
section
variable {P : Program} {w : World} {K : PySem.W.Frag} {mg : Str → Option Value} {base : Heap}
def spCols : Sp := fun vs H Q _ => ∃ v x r c, vs = [v] ∧ RD H v (tbD x) ∧ Shp r c x ∧ 1 ≤ r ∧ r ≤ 5 ∧ c ≤ 5 ∧ ∀ H' v', Same H H' → RD H' v' (tbD (tr c x)) → Q v' H'
theorem ok_cols {f : Addr} {fd : FuncData} (F : Fun K "_law_columns" "_law_columns" sLColumns f fd) (mt : mg "tuple" = none) (mr : mg "range" = none) (ml : mg "len" = none) :
    FnOk P w K mg base CX0 1 f fd ["table"] spCols := by
  refine F.ok scLColumns (fun vs H Q E h => ?_) (fun cdv A outer s H vs Q E hr h => ?_)
  · obtain ⟨v, x, r, c, rfl, _⟩ := h
    rfl
  · obtain ⟨v, x, r, c, rfl, rd, sh, r1, r5, c5, q⟩ := h
    refine ⟨_, pss_one (ps_ret (pe_callTy call_tuple_of (by rfl) mt (by decide +kernel) (pa_cons
        (pe_lc (own := [("k", 1)]) (g := gName 1) (tt := tYes) rfl scLColumns.nd (pi_range1 (by rfl) mr (pa_cons (pe_callB call_len_seq (by rfl) ml PySem.boot_len (pa_cons (pe_ix ix_tup (pv 0) pe_int (fun _ _ => rfl)) pa_nil)) pa_nil))
          (blkOk_by (own := [("k", 1)]) (N := ["table", "k", "row"]) (sc := defScope sLColumns) (by decide +kernel))
          (fun _ _ _ _ _ => pg_name (i := 1) scLColumns.nd rfl (Or.inr rfl)) (fun _ _ _ _ _ => pts_nil)
          (fun _ _ _ _ _ => pe_callTy (show CallR _ (.type "tuple") (fun xs H Q => ∃ p ys, xs = [.ref p] ∧ ((SqL K H p ys ∧ ∀ l, H l = none → Q (.ref l) (upd H l (.tup ys))) ∨ (SqT K H p ys ∧ Q (.ref p) H))) from call_tuple_of) (by rfl) mt (by decide +kernel) (pa_cons
            (pe_lc (own := [("row", 2)]) (g := gName 2) (tt := tYes) rfl scLColumns.nd (show PI _ _ _ (iTup K (tVar 0)) from pi_tup (pv 0))
              bo_co2
              (fun _ _ _ _ _ => pg_name (i := 2) scLColumns.nd rfl (Or.inl rfl)) (fun _ _ _ _ _ => pts_nil)
              (fun _ _ _ _ _ => pe_ix (show IxR _ (rIxT K) from ix_tup) (pv 2) (pv 1) (fun _ _ => rfl))) pa_nil))) pa_nil))), ?_⟩
    obtain ⟨a, rs, rfl, ha, hl, hw, rr⟩ := rd_tab rd sh
    obtain ⟨row0, e0⟩ : ∃ row, x[0]? = some row := ⟨_, List.getElem?_eq_getElem (by rw [sh.1]; omega)⟩
    obtain ⟨b, e1, hb⟩ := rds_nth rr e0
    have l0 : row0.length = c := sh.2 _ (List.mem_of_getElem? e0)
    have lc0 : (V.int (((row0.map V.int).length : Nat) : Int)) = V.int (c : Int) := by rw [List.length_map, l0]
    refine ⟨.ref a, rfl, a, _, 0, .ref b, rfl, rfl, SqT.of ha, atI_nat (j := 0) e1, b, _, rfl, .inr (SqT.of hb), ?_⟩
    dsimp only
    rw [lc0]
    refine ⟨c, rfl, by omega, by omega, fun D hD => lc_newR (n := c) (es := (tr c x).map rwD) (fun _ => rfl) (by rw [List.length_map, tr_len]) (by omega) hD (fun e he => ?_) (fun i e H1 Q1 hi h2 S1 q1 => ?_) (fun H1 us S1 hd ru => ?_)⟩
    · obtain ⟨row, _, rfl⟩ := List.mem_map.mp he
      exact nl_row row
    · rw [List.getElem?_map, tr_get hi] at h2
      cases h2
      have ha1 := S1 _ _ ha
      have len : (rs.map V.ref).length ≤ 1000 := by rw [List.length_map, hl]; omega
      refine ⟨.ref a, rfl, a, rfl, ⟨_, SqT.of ha1⟩, fun D2 hD2 => lc_new (es := (x.map fun r => r.getD i 0).map PyData.int) (fun _ => rfl) ha1 (RDs.keep S1 rr) (by simp) len hD2 (fun e he => ?_) (fun j y d e H2 Q2 h1 h2 rx S2 q2 => ?_) (fun H2 us2 S2 hd2 ru2 => ?_)⟩
      · obtain ⟨z, _, rfl⟩ := List.mem_map.mp he
        exact .int z
      · rw [List.getElem?_map] at h1
        obtain ⟨row, hrow, rfl⟩ := Option.map_eq_some_iff.mp h1
        rw [List.getElem?_map, List.getElem?_map, hrow] at h2
        cases h2
        obtain ⟨p, rfl, hp⟩ := rd_row rx
        have lr : row.length = c := sh.2 _ (List.mem_of_getElem? hrow)
        have e2 : (0 : Int) + (i : Nat) = ((i : Nat) : Int) := by omega
        refine ⟨.ref p, rfl, .int (0 + (i : Nat)), rfl, p, _, 0 + (i : Nat), .int (row.getD i 0), rfl, rfl, SqT.of hp, ?_, q2 _ _ (.refl _) (.int _)⟩
        rw [e2]
        refine atI_nat ?_
        rw [List.getElem?_map, List.getD_eq_getElem?_getD, List.getElem?_eq_getElem (by omega)]; rfl
      · refine ⟨D2, us2, rfl, .inl ⟨SqL.of hd2, fun t ht => ?_⟩⟩
        have S3 := same_new (o := .tup us2) ht
        exact q1 _ _ (S2.trans S3) (.tup upd_same (RDs.keep S3 ru2))
    · refine ⟨D, us, rfl, .inl ⟨SqL.of hd, fun t ht => ?_⟩⟩
      have S2 := same_new (o := .tup us) ht
      exact q _ _ (S1.trans S2) (.tup upd_same (RDs.keep S2 ru))

/-- the numbers of a column of the first table, of a row of the second one -/
def numsOf (g : Tab × Tab) (sd : Int) (k : Nat) : List Int := if sd = 0 then g.1.map fun row => row.getD k 0 else g.2.getD k []
def spNums : Sp := fun vs H Q _ => ∃ v g r c sd k, vs = [v, .int sd, .int (k : Nat)] ∧ RD H v (gmD g) ∧ Good r c g ∧ ((sd = 0 ∧ k < c) ∨ (sd = 1 ∧ k < r)) ∧
  ∀ H' D, Same H H' → H' D = some (.lst ((numsOf g sd k).map V.int)) → Q (.ref D) H'
theorem ok_nums {f : Addr} {fd : FuncData} (F : Fun K "_law_numbers" "_law_numbers" sLNumbers f fd) (ml : mg "list" = none) :
    FnOk P w K mg base CX0 1 f fd ["game", "side", "choice"] spNums := by
  refine F.ok scLNumbers (fun vs H Q E h => ?_) (fun cdv A outer s H vs Q E hr h => ?_)
  · obtain ⟨v, g, r, c, sd, k, rfl, _⟩ := h
    rfl
  · obtain ⟨v, g, r, c, sd, k, rfl, rd, G, hk, q⟩ := h
    refine ⟨_, pss_cons (ps_if (pt_cmpR op_eq (pv 1) pe_int (nomark _))
        (pss_one (ps_ret (pe_lc (own := [("row", 3)]) (g := gName 3) (tt := tYes) rfl scLNumbers.nd (pi_tup (pe_ix ix_tup (pv 0) pe_int (fun _ _ => rfl)))
          (blkOk_by (own := [("row", 3)]) (N := ["game", "side", "choice", "row"]) (sc := defScope sLNumbers) (by decide +kernel))
          (fun _ _ _ _ _ => pg_name (i := 3) scLNumbers.nd rfl (Or.inl rfl)) (fun _ _ _ _ _ => pts_nil)
          (fun _ _ _ _ _ => pe_ix (show IxR _ (rIxT K) from ix_tup) (pv 3) (pv 2) (fun _ _ => rfl))))) pss_nil)
      (pss_one (ps_ret (pe_callTy call_list_of (by rfl) ml (by decide +kernel) (pa_cons (pe_ix ix_tup (pe_ix ix_tup (pv 0) pe_int (fun _ _ => rfl)) (pv 2) (fun _ _ => rfl)) pa_nil)))), ?_⟩
    obtain ⟨a, p, p2, rfl, ha, t1, t2⟩ := rd_gm rd
    rcases hk with ⟨rfl, hk⟩ | ⟨rfl, hk⟩
    · obtain ⟨p', rs, e, hp, hl, hw, rr⟩ := rd_tab t1 G.one
      cases e
      have len : (rs.map V.ref).length ≤ 1000 := by rw [List.length_map, hl]; have := G.r5; omega
      refine ⟨.int 0, rfl, rfl, _, rfl, iteT ?_⟩
      refine ⟨.ref a, rfl, a, _, 0, .ref p, rfl, rfl, SqT.of ha, atI_nat (j := 0) rfl, p, rfl, ⟨_, SqT.of hp⟩, fun D hD => lc_new (es := (g.1.map fun r => r.getD k 0).map PyData.int) (fun _ => rfl) hp rr (by simp) len hD (fun e he => ?_) (fun j y d e H2 Q2 h1 h2 rx S2 q2 => ?_) (fun H2 us2 S2 hd2 ru2 => ?_)⟩
      · obtain ⟨z, _, rfl⟩ := List.mem_map.mp he
        exact .int z
      · rw [List.getElem?_map] at h1
        obtain ⟨row, hrow, rfl⟩ := Option.map_eq_some_iff.mp h1
        rw [List.getElem?_map, List.getElem?_map, hrow] at h2
        cases h2
        obtain ⟨b, rfl, hb⟩ := rd_row rx
        have lr : row.length = c := G.one.2 _ (List.mem_of_getElem? hrow)
        refine ⟨.ref b, rfl, .int k, rfl, b, _, k, .int (row.getD k 0), rfl, rfl, SqT.of hb, atI_nat ?_, q2 _ _ (.refl _) (.int _)⟩
        rw [List.getElem?_map, List.getD_eq_getElem?_getD, List.getElem?_eq_getElem (by omega)]; rfl
      · have e := rds_ints ru2
        rw [e] at hd2
        exact q _ _ S2 (by rw [show numsOf g 0 k = g.1.map fun row => row.getD k 0 from if_pos rfl]; exact hd2)
    · obtain ⟨p', rs, e, hp, hl, hw, rr⟩ := rd_tab t2 G.two
      cases e
      refine ⟨.int 1, rfl, rfl, _, rfl, iteF ?_⟩
      obtain ⟨row, e0⟩ : ∃ row, g.2[k]? = some row := ⟨_, List.getElem?_eq_getElem (by rw [G.two.1]; omega)⟩
      obtain ⟨b, e1, hb⟩ := rds_nth rr e0
      refine ⟨.ref a, rfl, a, _, 1, .ref p2, rfl, rfl, SqT.of ha, atI_nat (j := 1) rfl, .int k, rfl, p2, _, k, .ref b, rfl, rfl, SqT.of hp, atI_nat e1, b, _, rfl, .inr (SqT.of hb), fun D hD => ?_⟩
      refine q _ _ (same_new hD) ?_
      rw [show numsOf g 1 k = g.2.getD k [] from if_neg (by decide), List.getD_eq_getElem?_getD, e0, upd_same]
      rfl
end
end K04

/-! R15: _law_due. -/
namespace K04
open PySem PySem.Spec PyProof.Rows L2 GL
def scDu1 : Scope := ⟨.function, [(".0", .local), ("table", .local), ("tuple", .globalImplicit), ("choice", .cell)], false, false, []⟩
def scDu2 : Scope := ⟨.function, [(".0", .local), ("row", .local), ("choice", NameKind.«free»)], false, false, []⟩
theorem bo_du2 : BlkOk ["way", "game", "side", "choice", "number", "rows", "row", "part", "table"] scDu1 scDu2 [("row", 6)] := blkOk_by (by decide +kernel)
/-- what a deed makes of a game of c columns -/
def dueG (way sd : Int) (k : Nat) (n : Int) (c : Nat) (g : Tab × Tab) : Tab × Tab :=
  if way = 0 then (tr c g.2, tr c g.1) else if way = 1 then mvG g sd k n else woG g sd k
/-- a deed that can be asked -/
def Deed (r c : Nat) (way sd : Int) (k : Nat) : Prop := way = 0 ∨ (way = 1 ∧ ((sd = 0 ∧ k < c) ∨ (sd = 1 ∧ k < r))) ∨ (way = 2 ∧ ((sd = 0 ∧ k < r) ∨ (sd = 1 ∧ k < c)))
theorem cut_ints {H : Hp} {t : Addr} {row : List Int} {k : Nat} (h : H t = some (.tup ((row.map V.int).take k ++ (row.map V.int).drop (k + 1)))) : RD H (.ref t) (rwD (cutAt row k)) := by
  rw [← List.map_take, ← List.map_drop, ← List.map_append] at h
  exact row_rd h
/-- us[:k] + (z,) + us[k + 1:] -/
theorem ins_five {H H1 H2 H3 H4 H5 : Hp} {p q t1 t2 t3 t4 t5 : Addr} {us : List V} {z : V} {k : Nat} (hk : k < us.length) (o1 : OldNew [p] H (cutV us none (some (k : Int))) t1 H1) (h2 : H1 t2 = none)
    (e2 : H2 = upd H1 t2 (.tup [z])) (o3 : OldNew [t1, t2] H2 (cutV us none (some (k : Int)) ++ [z]) t3 H3) (o4 : OldNew [q] H3 (cutV us (some ((k : Int) + 1)) none) t4 H4)
    (o5 : OldNew [t3, t4] H4 (cutV us none (some (k : Int)) ++ [z] ++ cutV us (some ((k : Int) + 1)) none) t5 H5) :
    Same H H5 ∧ H5 t5 = some (.tup (us.take k ++ [z] ++ us.drop (k + 1))) := by
  subst e2
  refine ⟨(on_same o1).trans ((same_new h2).trans ((on_same o3).trans ((on_same o4).trans (on_same o5)))), ?_⟩
  have e := o5.1
  rw [cut_to (by omega) (by omega), cut_from (by omega) (by omega)] at e
  have : ((k : Int) + 1).toNat = k + 1 := by omega
  rw [this, Int.toNat_natCast] at e
  exact e
theorem bump_ints {H : Hp} {t : Addr} {row : List Int} {k : Nat} {n : Int} (h : H t = some (.tup ((row.map V.int).take k ++ [V.int (row.getD k 0 + n)] ++ (row.map V.int).drop (k + 1)))) : RD H (.ref t) (rwD (bump row k n)) := by
  have e : (row.map V.int).take k ++ [V.int (row.getD k 0 + n)] ++ (row.map V.int).drop (k + 1) = (bump row k n).map V.int := by
    unfold bump
    rw [List.map_append, List.map_append, List.map_take, List.map_drop]
    rfl
  rw [e] at h
  exact row_rd h
theorem up_rds {H : Hp} {rs : List Addr} {x : Tab} {k : Nat} {n : Int} {b : Addr} (h : RDs H (rs.map V.ref) (x.map rwD)) (hb : RD H (.ref b) (rwD ((x.getD k []).map fun i => i + n))) :
    RDs H ((rs.map V.ref).take k ++ [.ref b] ++ (rs.map V.ref).drop (k + 1)) ((upRow x k n).map rwD) := by
  unfold upRow
  rw [List.map_append, List.map_append, List.map_take, List.map_drop]
  exact RDs.app (RDs.drop _ h) (RDs.app (.cons hb .nil) (RDs.take _ h))
section
variable {P : Program} {w : World} {K : PySem.W.Frag} {mg : Str → Option Value} {base : Heap}
variable {fC : Addr} {dC : FuncData}
def spDue : Sp := fun vs H Q _ => ∃ v g r c way sd k n, vs = [.int way, v, .int sd, .int (k : Nat), .int n] ∧ RD H v (gmD g) ∧ Good r c g ∧ Deed r c way sd k ∧
  ∀ H' v', Same H H' → RD H' v' (gmD (dueG way sd k n c g)) → Q v' H'
theorem ok_due {f : Addr} {fd : FuncData} (F : Fun K "_law_due" "_law_due" sLDue f fd) (mt : mg "tuple" = none)
    (FC : Fun K "_law_columns" "_law_columns" sLColumns fC dC) (bC : Binds K dC ["table"] []) (gC : mg "_law_columns" = some (.ref fC)) (GC : FnOk P w K mg base CX0 1 fC dC ["table"] spCols) :
    FnOk P w K mg base CX0 2 f fd ["way", "game", "side", "choice", "number"] spDue := by
  refine F.ok scLDue (fun vs H Q E h => ?_) (fun cdv A outer s H vs Q E hr h => ?_)
  · obtain ⟨v, g, r, c, way, sd, k, n, rfl, _⟩ := h
    rfl
  · obtain ⟨v, g, r, c, way, sd, k, n, rfl, rd, G, dd, q⟩ := h
    refine ⟨_, pss_cons (ps_if (pt_cmpR op_eq (pv 0) pe_int (nomark _))
        (pss_one (ps_ret (pe_tup (pa_cons (pe_call GC hr (by rfl) gC FC.kp bC .nil pass0 (pa_cons (pe_ix ix_tup (pv 1) pe_int (fun _ _ => rfl)) pa_nil))
          (pa_cons (pe_call GC hr (by rfl) gC FC.kp bC .nil pass0 (pa_cons (pe_ix ix_tup (pv 1) pe_int (fun _ _ => rfl)) pa_nil)) pa_nil))))) pss_nil)
      (pss_cons (ps_if (PW.pt (pw_and (pt_cmpR op_eq (pv 0) pe_int (nomark _)) (pw_and1 (pt_cmpR op_eq (pv 2) pe_int (nomark _)))))
        (pss_cons (ps_setLc (i := 5) (own := [("row", 6)]) (g := gName 6) (tt := tYes) rfl scLDue.nd rfl rfl (sw_true rfl rfl rfl (by decide +kernel)) (pi_tup (pe_ix ix_tup (pv 1) pe_int (fun _ _ => rfl)))
          (blkOk_by (own := [("row", 6)]) (N := ["way", "game", "side", "choice", "number", "rows", "row", "part", "table"]) (sc := defScope sLDue) (by decide +kernel))
          (fun _ _ _ _ _ => pg_name (i := 6) scLDue.nd rfl (Or.inl rfl)) (fun _ _ _ _ _ => pts_nil)
          (fun _ _ _ _ _ => pe_op op_catW (pe_op op_catW (pe_slice (show SlR _ (rSlW K) from sl_tupW) (pv 6) po_none (po_some (pv 3)))
              (pe_tup (pa_cons (pe_op op_add (pe_ix (show IxR _ (rIxT K) from ix_tup) (pv 6) (pv 3) (fun _ _ => rfl)) (pv 4)) pa_nil)))
            (pe_slice (show SlR _ (rSlW K) from sl_tupW) (pv 6) (po_some (pe_op op_add (pv 3) pe_int)) po_none)))
        (pss_one (ps_ret (pe_tup (pa_cons (pe_callTy call_tuple_of (by rfl) mt (by decide +kernel) (pa_cons (pv 5) pa_nil)) (pa_cons (pe_ix ix_tup (pv 1) pe_int (fun _ _ => rfl)) pa_nil)))))) pss_nil)
      (pss_cons (ps_if (pt_cmpR op_eq (pv 0) pe_int (nomark _))
        (pss_cons (ps_set (i := 6) scLDue.nd rfl (.inl rfl) (pe_callTy call_tuple_of (by rfl) mt (by decide +kernel) (pa_cons
          (pe_lc (own := [("part", 7)]) (g := gName 7) (tt := tYes) rfl scLDue.nd (pi_tup (pe_ix ix_tup (pe_ix ix_tup (pv 1) pe_int (fun _ _ => rfl)) (pv 3) (fun _ _ => rfl)))
            (blkOk_by (own := [("part", 7)]) (N := ["way", "game", "side", "choice", "number", "rows", "row", "part", "table"]) (sc := defScope sLDue) (by decide +kernel))
            (fun _ _ _ _ _ => pg_name (i := 7) scLDue.nd rfl (Or.inl rfl)) (fun _ _ _ _ _ => pts_nil)
            (fun _ _ _ _ _ => pe_op op_add (pv 7) (pv 4))) pa_nil)))
        (pss_one (ps_ret (pe_tup (pa_cons (pe_ix ix_tup (pv 1) pe_int (fun _ _ => rfl))
          (pa_cons (pe_op op_catW (pe_op op_catW (pe_slice sl_tupW (pe_ix ix_tup (pv 1) pe_int (fun _ _ => rfl)) po_none (po_some (pv 3))) (pe_tup (pa_cons (pv 6) pa_nil)))
            (pe_slice sl_tupW (pe_ix ix_tup (pv 1) pe_int (fun _ _ => rfl)) (po_some (pe_op op_add (pv 3) pe_int)) po_none)) pa_nil)))))) pss_nil)
      (pss_cons (ps_if (pt_cmpR op_eq (pv 2) pe_int (nomark _))
        (pss_one (ps_ret (pe_callTy call_tuple_of (by rfl) mt (by decide +kernel) (pa_cons
          (pe_lc (own := [("table", 8)]) (g := gName 8) (tt := tYes) rfl scLDue.nd (pi_tup (pv 1))
            (blkOk_by (own := [("table", 8)]) (N := ["way", "game", "side", "choice", "number", "rows", "row", "part", "table"]) (sc := defScope sLDue) (by decide +kernel))
            (fun _ _ _ _ _ => pg_name (i := 8) scLDue.nd rfl (Or.inl rfl)) (fun _ _ _ _ _ => pts_nil)
            (fun _ _ _ _ _ => pe_op op_catW (pe_slice (show SlR _ (rSlW K) from sl_tupW) (pv 8) po_none (po_some (pv 3))) (pe_slice (show SlR _ (rSlW K) from sl_tupW) (pv 8) (po_some (pe_op op_add (pv 3) pe_int)) po_none))) pa_nil)))) pss_nil)
      (pss_one (ps_ret (pe_callTy call_tuple_of (by rfl) mt (by decide +kernel) (pa_cons
          (pe_lc (own := [("table", 8)]) (g := gName 8) (tt := tYes) rfl scLDue.nd (pi_tup (pv 1))
            (blkOk_by (own := [("table", 8)]) (N := ["way", "game", "side", "choice", "number", "rows", "row", "part", "table"]) (sc := defScope sLDue) (by decide +kernel))
            (fun _ _ _ _ _ => pg_name (i := 8) scLDue.nd rfl (Or.inl rfl)) (fun _ _ _ _ _ => pts_nil)
            (fun _ _ _ _ _ => pe_callTy (show CallR _ (.type "tuple") (fun xs H Q => ∃ p ys, xs = [.ref p] ∧ ((SqL K H p ys ∧ ∀ l, H l = none → Q (.ref l) (upd H l (.tup ys))) ∨ (SqT K H p ys ∧ Q (.ref p) H))) from call_tuple_of) (by rfl) mt (by decide +kernel) (pa_cons
              (pe_lc (own := [("row", 6)]) (g := gName 6) (tt := tYes) rfl scLDue.nd (show PI _ _ _ (iTup K (tVar 8)) from pi_tup (pv 8)) bo_du2
                (fun _ _ _ _ _ => pg_name (i := 6) scLDue.nd rfl (Or.inl rfl)) (fun _ _ _ _ _ => pts_nil)
                (fun _ _ _ _ _ => pe_op op_catW (pe_slice (show SlR _ (rSlW K) from sl_tupW) (pv 6) po_none (po_some (pv 3))) (pe_slice (show SlR _ (rSlW K) from sl_tupW) (pv 6) (po_some (pe_op op_add (pv 3) pe_int)) po_none))) pa_nil))) pa_nil))))))), ?_⟩
    obtain ⟨a, p, p2, rfl, ha, t1, t2⟩ := rd_gm rd
    have sz : ∀ n : Nat, n ≤ 100 → n ≤ sizeLine := fun n z => Nat.le_trans z (by rw [sizeLine_eq]; decide)
    have r5 := G.r5
    have c5 := G.c5
    rcases dd with rfl | ⟨rfl, dd⟩ | ⟨rfl, dd⟩
    · refine ⟨.int 0, rfl, rfl, _, rfl, iteT ?_⟩
      refine ⟨.ref a, rfl, a, _, 1, .ref p2, rfl, rfl, SqT.of ha, atI_nat (j := 1) rfl, .ref p2, g.2, r, c, rfl, t2, G.two, G.r1, r5, c5, fun H1 v1 S1 q1 => ?_⟩
      refine ⟨.ref a, rfl, a, _, 0, .ref p, rfl, rfl, SqT.of (S1 _ _ ha), atI_nat (j := 0) rfl, .ref p, g.1, r, c, rfl, t1.keep S1, G.one, G.r1, r5, c5, fun H2 v2 S2 q2 => ⟨by show 2 ≤ sizeLine; decide, fun t ht => ?_⟩⟩
      obtain ⟨b1, rfl⟩ := rd_ref q1
      obtain ⟨b2, rfl⟩ := rd_ref q2
      have S3 := same_new (o := .tup [.ref b1, .ref b2]) ht
      exact q _ _ (S1.trans (S2.trans S3)) (gm_rd upd_same ((q1.keep S2).keep S3) (q2.keep S3))
    · rcases dd with ⟨rfl, hk⟩ | ⟨rfl, hk⟩
      · obtain ⟨p', rs, e, hp, hl, hw, rr⟩ := rd_tab t1 G.one
        cases e
        have len : (rs.map V.ref).length ≤ 1000 := by rw [List.length_map, hl]; omega
        refine ⟨.int 1, rfl, rfl, _, rfl, iteF ⟨.int 1, rfl, rfl, _, rfl, iteT ⟨.int 0, rfl, rfl, _, rfl, iteT ?_⟩⟩⟩
        refine ⟨.ref a, rfl, a, _, 0, .ref p, rfl, rfl, SqT.of ha, atI_nat (j := 0) rfl, p, rfl, ⟨_, SqT.of hp⟩, fun D hD => lc_new (es := (g.1.map fun row => bump row k n).map rwD) (fun _ => rfl) hp rr (by simp) len hD (fun e he => ?_) (fun i x d e H1 Q1 h1 h2 rx S1 q1 => ?_) (fun H1 us S1 hd ru => ?_)⟩
        · obtain ⟨row, _, rfl⟩ := List.mem_map.mp he
          exact nl_row row
        · rw [List.getElem?_map] at h1
          obtain ⟨row, hrow, rfl⟩ := Option.map_eq_some_iff.mp h1
          rw [List.getElem?_map, List.getElem?_map, hrow] at h2
          cases h2
          obtain ⟨b, rfl, hb⟩ := rd_row rx
          have lr : row.length = c := G.one.2 _ (List.mem_of_getElem? hrow)
          have lm : (row.map V.int).length = c := by rw [List.length_map, lr]
          have at1 : atI (row.map V.int) (k : Int) = some (.int (row.getD k 0)) := atI_nat (by
            rw [List.getElem?_map, List.getD_eq_getElem?_getD, List.getElem?_eq_getElem (by omega)]; rfl)
          have cz : ∀ lo hi, (cutV (row.map V.int) lo hi).length ≤ 5 := fun lo hi => by have := cutV_len (us := row.map V.int) (lo := lo) (hi := hi); omega
          refine ⟨.ref b, rfl, .int k, rfl, k, rfl, b, _, rfl, hb, fun u1 G1 o1 => ?_⟩
          refine ⟨.ref b, rfl, .int k, rfl, b, _, k, .int (row.getD k 0), rfl, rfl, SqT.of (on_same o1 _ _ hb), at1, .int n, rfl, _, _, rfl, rfl, by show 1 ≤ sizeLine; decide, fun u2 w2 => ?_⟩
          have S2 := same_new (o := .tup [.int (row.getD k 0 + n)]) w2
          refine ⟨u1, u2, _, _, rfl, rfl, S2 _ _ o1.1, upd_same, sz _ (by have := cz none (some (k : Int)); show _ + 1 ≤ 100; omega), fun u3 G3 o3 => ?_⟩
          have S13 := (on_same o1).trans (S2.trans (on_same o3))
          refine ⟨.ref b, rfl, .int k, rfl, _, _, rfl, rfl, (k : Int) + 1, rfl, b, _, rfl, S13 _ _ hb, fun u4 G4 o4 => ?_⟩
          refine ⟨u3, u4, _, _, rfl, rfl, on_same o4 _ _ o3.1, o4.1, sz _ (by rw [List.length_append]; have := cz none (some (k : Int)); have := cz (some ((k : Int) + 1)) none; show _ + 1 + _ ≤ 100; omega), fun u5 G5 o5 => ?_⟩
          obtain ⟨S5, e5⟩ := ins_five (by rw [lm]; exact hk) o1 w2 rfl o3 o4 o5
          exact q1 _ _ S5 (bump_ints e5)
        · refine ⟨.ref D, rfl, D, us, rfl, .inl ⟨SqL.of hd, fun t ht => ?_⟩⟩
          have S2 := same_new (o := .tup us) ht
          refine ⟨.ref a, rfl, a, _, 1, .ref p2, rfl, rfl, SqT.of (S2 _ _ (S1 _ _ ha)), atI_nat (j := 1) rfl, by show 2 ≤ sizeLine; decide, fun u hu => ?_⟩
          have S3 := same_new (o := .tup [.ref t, .ref p2]) hu
          refine q _ _ (S1.trans (S2.trans S3)) ?_
          rw [show dueG 1 0 k n c g = (g.1.map fun row => bump row k n, g.2) from rfl]
          exact gm_rd upd_same (.tup (S3 _ _ upd_same) (RDs.keep S3 (RDs.keep S2 ru))) (((t2.keep S1).keep S2).keep S3)
      · obtain ⟨p', rs, e, hp, hl, hw, rr⟩ := rd_tab t2 G.two
        cases e
        obtain ⟨row, e0⟩ : ∃ row, g.2[k]? = some row := ⟨_, List.getElem?_eq_getElem (by rw [G.two.1]; omega)⟩
        obtain ⟨b, e1, hb⟩ := rds_nth rr e0
        have er : g.2.getD k [] = row := by rw [List.getD_eq_getElem?_getD, e0]; rfl
        have lr : row.length = c := G.two.2 _ (List.mem_of_getElem? e0)
        have len : (row.map V.int).length ≤ 1000 := by rw [List.length_map, lr]; omega
        have lrs : (rs.map V.ref).length = r := by rw [List.length_map, hl]
        have cz : ∀ lo hi, (cutV (rs.map V.ref) lo hi).length ≤ 5 := fun lo hi => by have := cutV_len (us := rs.map V.ref) (lo := lo) (hi := hi); omega
        refine ⟨.int 1, rfl, rfl, _, rfl, iteF ⟨.int 1, rfl, rfl, _, rfl, iteT ⟨.int 1, rfl, rfl, _, rfl, iteF ⟨.int 1, rfl, rfl, _, rfl, iteT ?_⟩⟩⟩⟩
        refine ⟨.ref a, rfl, a, _, 1, .ref p2, rfl, rfl, SqT.of ha, atI_nat (j := 1) rfl, .int k, rfl, p2, _, k, .ref b, rfl, rfl, SqT.of hp, atI_nat e1, b, rfl, ⟨_, SqT.of hb⟩, fun D hD =>
          lc_new (es := (row.map fun i => i + n).map PyData.int) (fun _ => rfl) hb (ints_rds row) (by simp) len hD (fun e he => ?_) (fun i x d e H1 Q1 h1 h2 rx S1 q1 => ?_) (fun H1 us S1 hd ru => ?_)⟩
        · obtain ⟨z, _, rfl⟩ := List.mem_map.mp he
          exact .int z
        · rw [List.getElem?_map] at h1
          obtain ⟨z, hz, rfl⟩ := Option.map_eq_some_iff.mp h1
          rw [List.getElem?_map, List.getElem?_map, hz] at h2
          cases h2
          cases rx
          exact ⟨.int z, rfl, .int n, rfl, _, _, rfl, rfl, q1 _ _ (.refl _) (.int _)⟩
        · refine ⟨D, us, rfl, .inl ⟨SqL.of hd, fun t ht => ?_⟩⟩
          have S2 := same_new (o := .tup us) ht
          have rt : RD (upd H1 t (.tup us)) (.ref t) (rwD (row.map fun i => i + n)) := .tup upd_same (RDs.keep S2 ru)
          have S12 := S1.trans S2
          generalize upd H1 t (.tup us) = H2 at S2 rt S12
          refine ⟨.ref a, rfl, a, _, 0, .ref p, rfl, rfl, SqT.of (S12 _ _ ha), atI_nat (j := 0) rfl, ?_⟩
          refine ⟨.ref a, rfl, a, _, 1, .ref p2, rfl, rfl, SqT.of (S12 _ _ ha), atI_nat (j := 1) rfl, .int k, rfl, k, rfl, p2, _, rfl, S12 _ _ hp, fun u1 G1 o1 => ?_⟩
          refine ⟨.ref t, rfl, by show 1 ≤ sizeLine; decide, fun u2 w2 => ?_⟩
          have S3 := same_new (o := .tup [.ref t]) w2
          refine ⟨u1, u2, _, _, rfl, rfl, S3 _ _ o1.1, upd_same, sz _ (by have := cz none (some (k : Int)); show _ + 1 ≤ 100; omega), fun u3 G3 o3 => ?_⟩
          have S13 := S12.trans ((on_same o1).trans (S3.trans (on_same o3)))
          refine ⟨.ref a, rfl, a, _, 1, .ref p2, rfl, rfl, SqT.of (S13 _ _ ha), atI_nat (j := 1) rfl, .int k, rfl, _, _, rfl, rfl, (k : Int) + 1, rfl, p2, _, rfl, S13 _ _ hp, fun u4 G4 o4 => ?_⟩
          refine ⟨u3, u4, _, _, rfl, rfl, on_same o4 _ _ o3.1, o4.1, sz _ (by rw [List.length_append]; have := cz none (some (k : Int)); have := cz (some ((k : Int) + 1)) none; show _ + 1 + _ ≤ 100; omega), fun u5 G5 o5 => ?_⟩
          obtain ⟨S5, e5⟩ := ins_five (by rw [lrs]; exact hk) o1 w2 rfl o3 o4 o5
          refine ⟨by show 2 ≤ sizeLine; decide, fun u6 h6 => ?_⟩
          have S6 := same_new (o := .tup [.ref p, .ref u5]) h6
          refine q _ _ (S12.trans (S5.trans S6)) ?_
          rw [show dueG 1 1 k n c g = (g.1, upRow g.2 k n) from rfl]
          refine gm_rd upd_same (((t1.keep S12).keep S5).keep S6) (.tup (S6 _ _ e5) (RDs.keep S6 (up_rds (RDs.keep S5 (RDs.keep S12 rr)) ?_)))
          rw [er]
          exact rt.keep S5
    · have cutT : ∀ (H1 : Hp) (y : V) (x : Tab) (m l : Nat) (Q1 : VK), RD H1 y (tbD x) → Shp m l x → k < m → m ≤ 5 → (∀ H' v', Same H1 H' → RD H' v' (tbD (cutAt x k)) → Q1 v' H') →
          ∃ (b : Addr) (rs : List Addr), y = .ref b ∧ H1 b = some (.tup (rs.map V.ref)) ∧ (rs.map V.ref).length = m ∧
            ∀ u1 G1 u2 G2 u3 G3, OldNew [b] H1 (cutV (rs.map V.ref) none (some (k : Int))) u1 G1 → OldNew [b] G1 (cutV (rs.map V.ref) (some ((k : Int) + 1)) none) u2 G2 →
              OldNew [u1, u2] G2 (cutV (rs.map V.ref) none (some (k : Int)) ++ cutV (rs.map V.ref) (some ((k : Int) + 1)) none) u3 G3 → Q1 (.ref u3) G3 := fun H1 y x m l Q1 ry sh hk h5 q1 => by
        obtain ⟨b, rs, rfl, hp, hl, _, rr⟩ := rd_tab ry sh
        have lrs : (rs.map V.ref).length = m := by rw [List.length_map, hl]
        refine ⟨b, rs, rfl, hp, lrs, fun u1 G1 u2 G2 u3 G3 o1 o2 o3 => ?_⟩
        obtain ⟨S, e⟩ := cut_two (by rw [lrs]; exact hk) o1 o2 o3
        exact q1 _ _ S (.tup e (RDs.keep S (cut_rds rr)))
      have rg : RDs H [.ref p, .ref p2] [tbD g.1, tbD g.2] := .cons t1 (.cons t2 .nil)
      rcases dd with ⟨rfl, hk⟩ | ⟨rfl, hk⟩
      · refine ⟨.int 2, rfl, rfl, _, rfl, iteF ⟨.int 2, rfl, rfl, _, rfl, iteF ⟨.int 2, rfl, rfl, _, rfl, iteF ⟨.int 0, rfl, rfl, _, rfl, iteT ?_⟩⟩⟩⟩
        refine ⟨.ref a, rfl, a, rfl, ⟨_, SqT.of ha⟩, fun D hD => lc_new (es := [tbD (cutAt g.1 k), tbD (cutAt g.2 k)]) (fun _ => rfl) ha rg rfl (by show 2 ≤ 1000; decide) hD (fun e he => ?_) (fun i x d e H1 Q1 h1 h2 rx S1 q1 => ?_) (fun H1 us S1 hd ru => ?_)⟩
        · rcases List.mem_cons.mp he with rfl | he
          · exact nl_tab _
          · rcases List.mem_singleton.mp he with rfl; exact nl_tab _
        · obtain ⟨tb, e1, e2, sh⟩ : ∃ tb : Tab, d = tbD tb ∧ e = tbD (cutAt tb k) ∧ Shp r c tb := by
            match i, h1, h2 with
            | 0, h1, h2 => cases h1; cases h2; exact ⟨g.1, rfl, rfl, G.one⟩
            | 1, h1, h2 => cases h1; cases h2; exact ⟨g.2, rfl, rfl, G.two⟩
            | _ + 2, h1, _ => cases h1
          subst e1 e2
          obtain ⟨b, rs, rfl, hp, lrs, fin⟩ := cutT H1 x tb r c Q1 rx sh hk r5 q1
          have cz : ∀ lo hi, (cutV (rs.map V.ref) lo hi).length ≤ 5 := fun lo hi => by have := cutV_len (us := rs.map V.ref) (lo := lo) (hi := hi); omega
          refine ⟨.ref b, rfl, .int k, rfl, k, rfl, b, _, rfl, hp, fun u1 G1 o1 => ?_⟩
          refine ⟨.ref b, rfl, .int k, rfl, _, _, rfl, rfl, (k : Int) + 1, rfl, b, _, rfl, on_same o1 _ _ hp, fun u2 G2 o2 => ?_⟩
          refine ⟨u1, u2, _, _, rfl, rfl, on_same o2 _ _ o1.1, o2.1, sz _ (by have := cz none (some (k : Int)); have := cz (some ((k : Int) + 1)) none; omega), fun u3 G3 o3 => ?_⟩
          exact fin u1 G1 u2 G2 u3 G3 o1 o2 o3
        · refine ⟨D, us, rfl, .inl ⟨SqL.of hd, fun t ht => ?_⟩⟩
          have S2 := same_new (o := .tup us) ht
          refine q _ _ (S1.trans S2) ?_
          rw [show dueG 2 0 k n c g = (cutAt g.1 k, cutAt g.2 k) from rfl]
          exact .tup upd_same (RDs.keep S2 ru)
      · refine ⟨.int 2, rfl, rfl, _, rfl, iteF ⟨.int 2, rfl, rfl, _, rfl, iteF ⟨.int 2, rfl, rfl, _, rfl, iteF ⟨.int 1, rfl, rfl, _, rfl, iteF ?_⟩⟩⟩⟩
        refine ⟨.ref a, rfl, a, rfl, ⟨_, SqT.of ha⟩, fun D hD => lc_new (es := [tbD (g.1.map fun row => cutAt row k), tbD (g.2.map fun row => cutAt row k)]) (fun _ => rfl) ha rg rfl (by show 2 ≤ 1000; decide) hD (fun e he => ?_) (fun i x d e H1 Q1 h1 h2 rx S1 q1 => ?_) (fun H1 us S1 hd ru => ?_)⟩
        · rcases List.mem_cons.mp he with rfl | he
          · exact nl_tab _
          · rcases List.mem_singleton.mp he with rfl; exact nl_tab _
        · obtain ⟨tb, e1, e2, sh⟩ : ∃ tb : Tab, d = tbD tb ∧ e = tbD (tb.map fun row => cutAt row k) ∧ Shp r c tb := by
            match i, h1, h2 with
            | 0, h1, h2 => cases h1; cases h2; exact ⟨g.1, rfl, rfl, G.one⟩
            | 1, h1, h2 => cases h1; cases h2; exact ⟨g.2, rfl, rfl, G.two⟩
            | _ + 2, h1, _ => cases h1
          subst e1 e2
          obtain ⟨b, rs, rfl, hp, hl, _, rr⟩ := rd_tab rx sh
          have len : (rs.map V.ref).length ≤ 1000 := by rw [List.length_map, hl]; omega
          refine ⟨.ref b, rfl, b, rfl, ⟨_, SqT.of hp⟩, fun D2 hD2 => lc_new (es := (tb.map fun row => cutAt row k).map rwD) (fun _ => rfl) hp rr (by simp) len hD2 (fun e he => ?_) (fun j y d e H2 Q2 h1 h2 ry S2 q2 => ?_) (fun H2 us2 S2 hd2 ru2 => ?_)⟩
          · obtain ⟨row, _, rfl⟩ := List.mem_map.mp he
            exact nl_row row
          · rw [List.getElem?_map] at h1
            obtain ⟨row, hrow, rfl⟩ := Option.map_eq_some_iff.mp h1
            rw [List.getElem?_map, List.getElem?_map, hrow] at h2
            cases h2
            obtain ⟨y', rfl, hy⟩ := rd_row ry
            have lr : row.length = c := sh.2 _ (List.mem_of_getElem? hrow)
            have lm : (row.map V.int).length = c := by rw [List.length_map, lr]
            have cz : ∀ lo hi, (cutV (row.map V.int) lo hi).length ≤ 5 := fun lo hi => by have := cutV_len (us := row.map V.int) (lo := lo) (hi := hi); omega
            refine ⟨.ref y', rfl, .int k, rfl, k, rfl, y', _, rfl, hy, fun u1 G1 o1 => ?_⟩
            refine ⟨.ref y', rfl, .int k, rfl, _, _, rfl, rfl, (k : Int) + 1, rfl, y', _, rfl, on_same o1 _ _ hy, fun u2 G2 o2 => ?_⟩
            refine ⟨u1, u2, _, _, rfl, rfl, on_same o2 _ _ o1.1, o2.1, sz _ (by have := cz none (some (k : Int)); have := cz (some ((k : Int) + 1)) none; omega), fun u3 G3 o3 => ?_⟩
            obtain ⟨S3, e3⟩ := cut_two (by rw [lm]; exact hk) o1 o2 o3
            exact q2 _ _ S3 (cut_ints e3)
          · refine ⟨D2, us2, rfl, .inl ⟨SqL.of hd2, fun t ht => ?_⟩⟩
            have S3 := same_new (o := .tup us2) ht
            exact q1 _ _ (S2.trans S3) (.tup upd_same (RDs.keep S3 ru2))
        · refine ⟨D, us, rfl, .inl ⟨SqL.of hd, fun t ht => ?_⟩⟩
          have S2 := same_new (o := .tup us) ht
          refine q _ _ (S1.trans S2) ?_
          rw [show dueG 2 1 k n c g = (g.1.map fun row => cutAt row k, g.2.map fun row => cutAt row k) from rfl]
          exact .tup upd_same (RDs.keep S2 ru)
end
end K04

/-! R16: calls by name that may raise; what is asked of a caught error of an own class; classes. -/
namespace GL
open PySem PySem.Spec PyProof.Rows L2
theorem kbF {K : PySem.W.Frag} {x qual : Str} {st : Stmt} {f : Addr} {fd : FuncData} {ps : List Str} (F : Fun K x qual st f fd) (ks : List Str)
    (g : List Value → List Value → List Value) (gV : List V → List V → List V)
    (rel : ∀ {vs : List V} {us : List Value} {zs : List V} {ws : List Value}, Vals vs us → Vals zs ws → Vals (gV vs zs) (g us ws))
    (h : ∀ (kV doc pm : Value) (an : Option Addr) (cdv ct : Value) (us ws : List Value), (g us ws).length = ps.length →
      bindArgs (PySem.W.fnOf x qual (defArgs st) (defBody st) (defScope st) .none kV doc pm an cdv ct) ⟨us, ks.zip ws⟩ = pure (ps.zip (g us ws))) : KBinds K fd ps ks g gV := by
  obtain ⟨oc, od, kV, doc, pm, an, cdv, ct, osl, rfl, lk, hcd⟩ := F.ex
  exact ⟨fun s us ws _ hl => .of_eq (h kV doc pm an cdv ct us ws hl), rel⟩
section
variable {X : Cx} {CX : CXT} {k : Nat} {f : Addr} {fd : FuncData} {ps ks : List Str} {sp : Sp} {E : L2.St → XK} {x : Str} {p pos : Pos} {tk : TA} {kws : List Keyword}
variable {g : List Value → List Value → List Value} {gV : List V → List V → List V}
def tCallKS (sp : Sp) (gV : List V → List V → List V) (E : L2.St → XK) (tk : TA) : TE := fun σ H Q => tk σ H fun zs H2 => sp (gV [] zs) H2 Q (E σ)
theorem pe_callK0S (F : FnOk X.prog X.w X.K X.mg X.base CX k f fd ps sp) (hr : Room k X.A) (hg : Gl X x) (hm : X.mg x = some (.ref f))
    (hk : PySem.W.keepIn X.K (.ref f) = true) (hb : KBinds X.K fd ps ks g gV) (hx : ∀ σ, PassesAt CX X σ (E σ)) (hkw : PK X kws tk)
    (hall : (backToKw pos (keywordEach kws X.env)).all (·.1.isSome) = true := by rfl)
    (hks : (backToKw pos (keywordEach kws X.env)).filterMap (·.1) = ks := by rfl)
    (hdb : (x == ("__debug__" : Str)) = false := by decide)
    (hpl : ((backTo pos (starEach [] X.env)).any (·.1) || (backToKw pos (keywordEach kws X.env)).any (·.1.isNone)) = false := by rfl) :
    PE X (.Call (.Name x p) [] kws pos) (tCallKS sp gV E tk) := by
  refine ⟨fun pins s σ H Q I h => wpAny_Call_Name_kw (ld_glob I hg hm ?_ hdb)⟩
  refine PySem.W.callWith_KW0 (h₀ := X.base) I.ok.mod.kin hk hall ?_ hpl
  refine thn (hkw.run pos pins s σ H _ I h) fun ws s2 ⟨zs, H2, I2, rz, q2⟩ => ⟨I2.kIn, ?_⟩
  rw [hks]
  have r2 := hb.rel (vs := []) (us := []) .nil rz
  have b := hb.to s2 [] ws I2.kIn (r2.length.symm.trans (F.len _ _ _ _ q2))
  refine wpAny_call (codeAny_mono (F.run X.A X.stack s2 H2 ⟨[], ks.zip ws⟩ _ _ Q (E σ) hr I2.env0 b r2 q2) ?_)
  intro res s' hq
  match res, hq with
  | .error er, hq => exact hx σ pins H2 s2 er s' I2 hq
  | .ok (.ret u), hq => exact I2.after hq
  | .ok .next, hq => exact hq.elim
  | .ok .brk, hq => exact hq.elim
  | .ok .cont, hq => exact hq.elim
theorem passAt0 {X : Cx} {E : XK} (σ : L2.St) : PassesAt CX0 X σ E := fun _ _ _ _ _ _ h => h.elim
end

/-! ### a caught error -/
section
variable {X : Cx} {a : Addr} {oe : Obj} {cls : Value} {d : Option Addr} {pn : List (Addr × Obj)}
/-- e.value of the error that the suite holds, whichever of its classes it is of -/
def tXf2 (K : PySem.W.Frag) (a : Addr) (cls : Value) (d : Option Addr) (n : Str) (te : TE) : TE := fun σ H Q => te σ H fun x H1 => x = .ref a ∧ ∃ (C dd : Addr) (fs : List (Str × V)) (v : V),
  cls = .ref C ∧ XfC K C ∧ PySem.W.findIn K (.ref C) n = some none ∧ d = some dd ∧ H1 dd = some (.xd fs) ∧ fs.lookup n = some v ∧ Q v H1
theorem pe_xf2 {e : Expr} {te : TE} {pos : Pos} {n : Str} (hz : Zc cls d oe) (hf : ∃ vs, oe.data = .fields vs) (he : PE (X.suite a ((a, oe) :: pn)) e te)
    (hb : attributeBase e n X.env (eval e X.env) = eval e X.env := by rfl) : PE (X.suite a ((a, oe) :: pn)) (.Attribute e n pos) (tXf2 X.K a cls d n te) := by
  refine ⟨fun pins s σ H Q I h => attr_of hb (thn (he.run pins s σ H _ I h) fun u s1 hh => ?_)⟩
  obtain ⟨x, H1, I1, rx, ex, C, dd, fs, v, ec, T, hno, ed, ea, l, q⟩ := hh
  subst ex ec ed
  obtain rfl : u = Value.ref a := rx
  obtain ⟨ha, _⟩ := I1.pin (a, oe) (List.mem_append_left _ List.mem_cons_self)
  obtain ⟨vs, hd⟩ := hf
  obtain ⟨mA, hns, hr⟩ := (I1.hok dd _ ea : ObjOk X.prog X.w H1 s1.heap dd (.xd fs))
  obtain ⟨od, ho, hl⟩ := lookIn_ns hns
  obtain ⟨y, hu, ry⟩ := RelO.some_of (v := v) (o := mA n) (by rw [← l]; exact hr n)
  have J : PySem.W.InstAt s1.heap a oe C (some od) := ⟨ha, hz.1, by unfold PySem.W.notCls; rw [hd] <;> rfl, by rw [hz.2]; exact ho⟩
  exact HandSPX.exc_get I1.kIn J T.ga T.gg T.exC (PySem.W.findObj_own T.hdC hno rfl (by rw [hl, hu])) (handed_of ry) ⟨v, H1, I1.tok _, ry, q⟩
/-- isinstance(e, c) of it -/
def rIsE2 (K : PySem.W.Frag) (a : Addr) (cls : Value) (d : Option Addr) : List V → Hp → VK → Prop := fun xs H Q => ∃ (c : V) (cv : Value) (b : Bool) (D dd : Addr) (fs : List (Str × V)), xs = [.ref a, c] ∧ ClsV c cv ∧
  cls = .ref D ∧ PySem.W.ErrC K D ∧ d = some dd ∧ H dd = some (.xd fs) ∧ PySem.W.kitOne K (.ref D) cv = some b ∧ Q (.bl b) H
theorem call_isE2 (hz : Zc cls d oe) (hf : ∃ vs, oe.data = .fields vs) : CallR (X.suite a ((a, oe) :: pn)) (.builtin "isinstance") (rIsE2 X.K a cls d) := by
  intro pins s σ H xs us Q I r h
  obtain ⟨c, cv, b, D, dd, fs, rfl, k, ec, T, ed, ea, e, q⟩ := h
  subst ec ed
  obtain ⟨u1, u2, rfl, r1, r2⟩ := vals2 r
  have e2 := k.eq r2
  subst e2
  obtain rfl : u1 = Value.ref a := r1
  obtain ⟨ha, _⟩ := I.pin (a, oe) (List.mem_append_left _ List.mem_cons_self)
  obtain ⟨vs, hd⟩ := hf
  obtain ⟨mA, hns, hr⟩ := (I.hok dd _ ea : ObjOk X.prog X.w H s.heap dd (.xd fs))
  obtain ⟨od, ho, hl⟩ := lookIn_ns hns
  have J : PySem.W.InstAt s.heap a oe D (some od) := ⟨ha, hz.1, by unfold PySem.W.notCls; rw [hd] <;> rfl, by rw [hz.2]; exact ho⟩
  exact PySem.W.kia_one (PySem.W.kit_err T) I.kIn J e (fun z => nomatch z) fun tk => ⟨.bl b, H, I.tok tk, rfl, q⟩
end
end GL
namespace K04
open PySem PySem.Spec PyProof.Rows L2 GL
/-- the classes of the text that are told -/
structure Cl3 (K : PySem.W.Frag) (mg : Str → Option Value) (CM CG CN fI : Addr) : Prop where
  oG : OneC K CG fI
  oN : OneC K CN fI
  gM : mg "MixError" = some (.ref CM)
  gG : mg "InvalidGame" = some (.ref CG)
  gN : mg "InvalidNumber" = some (.ref CN)
  kGG : PySem.W.kitOne K (.ref CG) (.ref CG) = some true
  kGN : PySem.W.kitOne K (.ref CG) (.ref CN) = some false
  kNG : PySem.W.kitOne K (.ref CN) (.ref CG) = some false
  kNN : PySem.W.kitOne K (.ref CN) (.ref CN) = some true
  eG : PySem.W.exmOne K (.ref CG) (.ref CM) = some true
  eN : PySem.W.exmOne K (.ref CN) (.ref CM) = some true
def kw1 {α : Type} : List α → List α → List α
  | [], [a] => [a]
  | _, _ => []
def kwM {α : Type} : List α → List α → List α
  | [], [c, n, g, s] => [g, s, c, n]
  | _, _ => []
def kwW {α : Type} : List α → List α → List α
  | [], [c, s, g] => [g, s, c]
  | _, _ => []
theorem kw1_rel {vs : List V} {us : List Value} {zs : List V} {ws : List Value} (a : Vals vs us) (b : Vals zs ws) : Vals (kw1 vs zs) (kw1 us ws) := by
  cases a with
  | cons _ _ => exact .nil
  | nil =>
    match zs, ws, b with
    | [], [], .nil => exact .nil
    | [_], [_], .cons r .nil => exact .cons r .nil
    | _ :: _ :: _, _ :: _ :: _, .cons _ (.cons _ _) => exact .nil
theorem kwM_rel {vs : List V} {us : List Value} {zs : List V} {ws : List Value} (a : Vals vs us) (b : Vals zs ws) : Vals (kwM vs zs) (kwM us ws) := by
  cases a with
  | cons _ _ => exact .nil
  | nil =>
    match zs, ws, b with
    | [], [], .nil => exact .nil
    | [_], [_], .cons _ .nil => exact .nil
    | [_, _], [_, _], .cons _ (.cons _ .nil) => exact .nil
    | [_, _, _], [_, _, _], .cons _ (.cons _ (.cons _ .nil)) => exact .nil
    | [_, _, _, _], [_, _, _, _], .cons c (.cons n (.cons g (.cons s .nil))) => exact .cons g (.cons s (.cons c (.cons n .nil)))
    | _ :: _ :: _ :: _ :: _ :: _, _ :: _ :: _ :: _ :: _ :: _, .cons _ (.cons _ (.cons _ (.cons _ (.cons _ _)))) => exact .nil
theorem kwW_rel {vs : List V} {us : List Value} {zs : List V} {ws : List Value} (a : Vals vs us) (b : Vals zs ws) : Vals (kwW vs zs) (kwW us ws) := by
  cases a with
  | cons _ _ => exact .nil
  | nil =>
    match zs, ws, b with
    | [], [], .nil => exact .nil
    | [_], [_], .cons _ .nil => exact .nil
    | [_, _], [_, _], .cons _ (.cons _ .nil) => exact .nil
    | [_, _, _], [_, _, _], .cons c (.cons s (.cons g .nil)) => exact .cons g (.cons s (.cons c .nil))
    | _ :: _ :: _ :: _ :: _, _ :: _ :: _ :: _ :: _, .cons _ (.cons _ (.cons _ (.cons _ _))) => exact .nil
section
variable {P : Program} {w : World} {K : PySem.W.Frag} {mg : Str → Option Value} {base : Heap}
variable {fT fM fW fI : Addr} {dT dM dW : FuncData}
theorem kb_turned (F : Fun K "turned" "turned" sTurned fT dT) : KBinds K dT ["game"] ["game"] kw1 kw1 :=
  kbF F _ _ _ kw1_rel fun kV doc pm an cdv ct us ws h => by
    match us, ws, h with
    | [], [a], _ => rfl
theorem kb_moved (F : Fun K "moved" "moved" sMoved fM dM) : KBinds K dM ["game", "side", "choice", "number"] ["choice", "number", "game", "side"] kwM kwM :=
  kbF F _ _ _ kwM_rel fun kV doc pm an cdv ct us ws h => by
    match us, ws, h with
    | [], [a, b, c, d], _ => rfl
theorem kb_without (F : Fun K "without" "without" sWithout fW dW) : KBinds K dW ["game", "side", "choice"] ["choice", "side", "game"] kwW kwW :=
  kbF F _ _ _ kwW_rel fun kV doc pm an cdv ct us ws h => by
    match us, ws, h with
    | [], [a, b, c], _ => rfl
/-- what a deed tells: a game, or a refusal -/
def Res (way sd : Int) (k : Nat) (n : Int) (r c : Nat) (g : Tab × Tab) (d : PyData) : Prop :=
  (way = 0 ∧ d = gmD (tr c g.2, tr c g.1)) ∨ (way = 1 ∧ Bnd (mvG g sd k n) ∧ d = gmD (mvG g sd k n)) ∨
  (way = 1 ∧ ¬ Bnd (mvG g sd k n) ∧ d = .list [.bool true, .bool false, gmD (mvG g sd k n)]) ∨
  (way = 2 ∧ (sd = 0 ∧ r ≠ 1 ∨ sd = 1 ∧ c ≠ 1) ∧ d = gmD (woG g sd k)) ∨
  (way = 2 ∧ (sd = 0 ∧ r = 1 ∨ sd = 1 ∧ c = 1) ∧ d = .list [.bool false, .bool true, .int (k : Nat)])
def spCallL : Sp := fun vs H Q _ => ∃ v g r c way sd k n named d, vs = [.int way, .int named, v, .int sd, .int (k : Nat), .int n] ∧ RD H v (gmD g) ∧ Good r c g ∧ Bnd g ∧ Deed r c way sd k ∧ (named = 0 ∨ named = 1) ∧
  Res way sd k n r c g d ∧ ∀ H' v', Same H H' → RD H' v' d → Q v' H'
theorem ix_named {a b : V} {named : Int} (h : named = 0 ∨ named = 1) : atI [a, b] named = some (if named = 0 then a else b) := by
  rcases h with rfl | rfl
  · exact atI_nat (j := 0) rfl
  · exact atI_nat (j := 1) rfl
theorem ok_call {f CM CG CN : Addr} {fd : FuncData} (F : Fun K "_law_call" "_law_call" sLCall f fd) (mi : mg "isinstance" = none) (C : Cl3 K mg CM CG CN fI)
    (FT : Fun K "turned" "turned" sTurned fT dT) (bT : Binds K dT ["game"] []) (gT : mg "turned" = some (.ref fT)) (GT : FnOk P w K mg base CX0 8 fT dT ["game"] spTurned)
    (FM : Fun K "moved" "moved" sMoved fM dM) (bM : Binds K dM ["game", "side", "choice", "number"] []) (gM : mg "moved" = some (.ref fM)) (GM : FnOk P w K mg base (L2.CX P w) 9 fM dM ["game", "side", "choice", "number"] (spMoved CG))
    (FW : Fun K "without" "without" sWithout fW dW) (bW : Binds K dW ["game", "side", "choice"] []) (gW : mg "without" = some (.ref fW)) (GW : FnOk P w K mg base (L2.CX P w) 9 fW dW ["game", "side", "choice"] (spWithout CN)) :
    FnOk P w K mg base CX0 10 f fd ["way", "named", "game", "side", "choice", "number"] spCallL := by
  refine F.ok scLCall (fun vs H Q E h => ?_) (fun cdv A outer s H vs Q E hr h => ?_)
  · obtain ⟨v, g, r, c, way, sd, k, n, named, d, rfl, _⟩ := h
    rfl
  · obtain ⟨v, g, r, c, way, sd, k, n, named, d, rfl, rd, G, B, dd, hn, res, q⟩ := h
    have hr6 := hr.mono (show 8 ≤ 9 by omega)
    refine ⟨_, pss_cons (ps_set (i := 6) scLCall.nd rfl (.inl rfl) pe_non)
      (pss_cons (ps_try_as (i := 7) rfl rfl scLCall.nd rfl rfl ⟨rfl, by decide, .inl C.gM⟩ takes0
        (fun W pn xe tk _ => pss_one (ps_if (pt_cmpR op_eq (pv 0) pe_int (nomark _))
          (pss_one (ps_set (i := 6) scLCall.nd rfl (.inl rfl) (pe_ix (show IxR _ (rIxL K) from ix_list) (pe_lst (pa_cons (pe_callS GT hr6 (by rfl) gT FT.kp bT (E := WE W) (fun σ => passAt0 σ) (pa_cons (pv 2) pa_nil))
            (pa_cons (pe_callK0S (E := WE W) GT hr6 (by rfl) gT FT.kp (kb_turned FT) (fun σ => passAt0 σ) (pk_cons (pv 2) pk_nil)) pa_nil))) (pv 1) (fun _ _ => rfl))))
          (pss_one (ps_if (PW.pt (pw_and (pt_cmpR op_eq (pv 0) pe_int (nomark _)) (pw_and1 (pt_cmpR op_eq (pv 1) pe_int (nomark _)))))
            (pss_one (ps_set (i := 6) scLCall.nd rfl (.inl rfl) (pe_callK0S GM hr (by rfl) gM FM.kp (kb_moved FM) (fun σ => passAt tk σ) (pk_cons (pv 4) (pk_cons (pv 5) (pk_cons (pv 2) (pk_cons (pv 3) pk_nil)))))))
            (pss_one (ps_if (pt_cmpR op_eq (pv 0) pe_int (nomark _))
              (pss_one (ps_set (i := 6) scLCall.nd rfl (.inl rfl) (pe_callS GM hr (by rfl) gM FM.kp bM (fun σ => passAt tk σ) (pa_cons (pv 2) (pa_cons (pv 3) (pa_cons (pv 4) (pa_cons (pv 5) pa_nil)))))))
              (pss_one (ps_if (pt_cmpR op_eq (pv 1) pe_int (nomark _))
                (pss_one (ps_set (i := 6) scLCall.nd rfl (.inl rfl) (pe_callK0S GW hr (by rfl) gW FW.kp (kb_without FW) (fun σ => passAt tk σ) (pk_cons (pv 4) (pk_cons (pv 3) (pk_cons (pv 2) pk_nil))))))
                (pss_one (ps_set (i := 6) scLCall.nd rfl (.inl rfl) (pe_callS GW hr (by rfl) gW FW.kp bW (fun σ => passAt tk σ) (pa_cons (pv 2) (pa_cons (pv 3) (pa_cons (pv 4) pa_nil))))))))))))))
        (fun a oe cls d pn hz hf => pss_one (ps_set (i := 6) scLCall.nd rfl (.inl rfl) (pe_lst (pa_cons (pe_callB (call_isE2 hz hf) (by rfl) mi (by decide +kernel) (pa_cons (pv 7) (pa_cons (pe_glob (v := .ref CG) (by rfl) C.gG rfl) pa_nil)))
          (pa_cons (pe_callB (call_isE2 hz hf) (by rfl) mi (by decide +kernel) (pa_cons (pv 7) (pa_cons (pe_glob (v := .ref CN) (by rfl) C.gN rfl) pa_nil))) (pa_cons (pe_xf2 hz hf (pv 7)) pa_nil)))))))
      (pss_one (ps_ret (pv 6)))), ?_⟩
    have fin : ∀ (H1 : Hp) (l : Addr) (b1 b2 : Bool) (v1 : V) (e1 : PyData), Same H H1 → RD H1 v1 e1 → H1 l = none → d = .list [.bool b1, .bool b2, e1] → Q (.ref l) (upd H1 l (.lst [.bl b1, .bl b2, v1])) := fun H1 l b1 b2 v1 e1 S r hl ed => by
      have S2 := same_new (o := .lst [.bl b1, .bl b2, v1]) hl
      refine q _ _ (S.trans S2) ?_
      rw [ed]
      exact .lst upd_same (.cons (.bl b1) (.cons (.bl b2) (.cons (r.keep S2) .nil)))
    rcases dd with rfl | ⟨rfl, dd⟩ | ⟨rfl, dd⟩
    · have ed : d = gmD (tr c g.2, tr c g.1) := by
        rcases res with ⟨_, e⟩ | ⟨e, _⟩ | ⟨e, _⟩ | ⟨e, _⟩ | ⟨e, _⟩
        · exact e
        all_goals exact absurd e (by decide)
      refine ⟨.int 0, rfl, rfl, _, rfl, iteT ?_⟩
      refine ⟨v, rfl, v, g, r, c, rfl, rd, G, B, fun H1 v1 S1 q1 => ⟨v, rfl, v, g, r, c, rfl, rd.keep S1, G, B, fun H2 v2 S2 q2 => ⟨by show 2 ≤ sizeLine; decide, fun l hl => ?_⟩⟩⟩
      have S3 := same_new (o := .lst [v1, v2]) hl
      refine ⟨.int named, rfl, l, _, named, _, rfl, rfl, SqL.of upd_same, ix_named hn, ?_⟩
      refine ⟨_, rfl, ?_⟩
      rw [ed] at q
      by_cases e : named = 0
      · rw [if_pos e]
        exact q _ _ (S1.trans (S2.trans S3)) ((q1.keep S2).keep S3)
      · rw [if_neg e]
        exact q _ _ (S1.trans (S2.trans S3)) (q2.keep S3)
    · have good : Bnd (mvG g sd k n) → ∀ H' v', Same H H' → RD H' v' (gmD (mvG g sd k n)) → Q v' H' := fun b => by
        have ed : d = gmD (mvG g sd k n) := by
          rcases res with ⟨e, _⟩ | ⟨_, _, e⟩ | ⟨_, e, _⟩ | ⟨e, _⟩ | ⟨e, _⟩
          · exact absurd e (by decide)
          · exact e
          · exact absurd b e
          · exact absurd e (by decide)
          · exact absurd e (by decide)
        rw [ed] at q
        exact q
      have bad : ¬ Bnd (mvG g sd k n) → d = .list [.bool true, .bool false, gmD (mvG g sd k n)] := fun b => by
        rcases res with ⟨e, _⟩ | ⟨_, e, _⟩ | ⟨_, _, e⟩ | ⟨e, _⟩ | ⟨e, _⟩
        · exact absurd e (by decide)
        · exact absurd e b
        · exact e
        · exact absurd e (by decide)
        · exact absurd e (by decide)
      refine ⟨.int 1, rfl, rfl, _, rfl, iteF ⟨.int 1, rfl, rfl, _, rfl, iteT ⟨.int named, rfl, rfl, _, rfl, ?_⟩⟩⟩
      rw [dec_int']
      refine ite2 (fun e => ?_) (fun e => ?_)
      · refine ⟨.int k, rfl, .int n, rfl, v, rfl, .int sd, rfl, v, g, r, c, sd, k, n, rfl, rd, G, B, dd, fun b H1 v1 S1 r1 => ⟨v1, rfl, good b _ _ S1 r1⟩, fun b H1 dx u S1 h1 r1 => ?_⟩
        refine ⟨true, C.eG, fun _ a ha => ?_, fun z => nomatch z⟩
        refine ⟨.ref a, rfl, .ref CG, .ref CG, true, CG, dx, _, rfl, .own CG, rfl, C.oG.er, rfl, h1, C.kGG, ?_⟩
        refine ⟨.ref a, rfl, .ref CN, .ref CN, false, CG, dx, _, rfl, .own CN, rfl, C.oG.er, rfl, h1, C.kGN, ?_⟩
        refine ⟨.ref a, rfl, rfl, CG, dx, _, u, rfl, C.oG.xf, C.oG.no, rfl, h1, rfl, by show 3 ≤ sizeLine; decide, fun l hl => ?_⟩
        exact ⟨.ref l, rfl, fin H1 l _ _ _ _ S1 r1 hl (bad b)⟩
      · refine ⟨.int 1, rfl, rfl, _, rfl, iteT ?_⟩
        refine ⟨v, rfl, .int sd, rfl, .int k, rfl, .int n, rfl, v, g, r, c, sd, k, n, rfl, rd, G, B, dd, fun b H1 v1 S1 r1 => ⟨v1, rfl, good b _ _ S1 r1⟩, fun b H1 dx u S1 h1 r1 => ?_⟩
        refine ⟨true, C.eG, fun _ a ha => ?_, fun z => nomatch z⟩
        refine ⟨.ref a, rfl, .ref CG, .ref CG, true, CG, dx, _, rfl, .own CG, rfl, C.oG.er, rfl, h1, C.kGG, ?_⟩
        refine ⟨.ref a, rfl, .ref CN, .ref CN, false, CG, dx, _, rfl, .own CN, rfl, C.oG.er, rfl, h1, C.kGN, ?_⟩
        refine ⟨.ref a, rfl, rfl, CG, dx, _, u, rfl, C.oG.xf, C.oG.no, rfl, h1, rfl, by show 3 ≤ sizeLine; decide, fun l hl => ?_⟩
        exact ⟨.ref l, rfl, fin H1 l _ _ _ _ S1 r1 hl (bad b)⟩
    · have good : (sd = 0 ∧ r ≠ 1 ∨ sd = 1 ∧ c ≠ 1) → ∀ H' v', Same H H' → RD H' v' (gmD (woG g sd k)) → Q v' H' := fun b => by
        have ed : d = gmD (woG g sd k) := by
          rcases res with ⟨e, _⟩ | ⟨e, _⟩ | ⟨e, _⟩ | ⟨_, _, e⟩ | ⟨_, e, _⟩
          · exact absurd e (by decide)
          · exact absurd e (by decide)
          · exact absurd e (by decide)
          · exact e
          · exfalso; omega
        rw [ed] at q
        exact q
      have bad : (sd = 0 ∧ r = 1 ∨ sd = 1 ∧ c = 1) → d = .list [.bool false, .bool true, .int (k : Nat)] := fun b => by
        rcases res with ⟨e, _⟩ | ⟨e, _⟩ | ⟨e, _⟩ | ⟨_, e, _⟩ | ⟨_, _, e⟩
        · exact absurd e (by decide)
        · exact absurd e (by decide)
        · exact absurd e (by decide)
        · exfalso; omega
        · exact e
      refine ⟨.int 2, rfl, rfl, _, rfl, iteF ⟨.int 2, rfl, rfl, _, rfl, iteF ⟨.int 2, rfl, rfl, _, rfl, iteF ⟨.int named, rfl, rfl, _, rfl, ?_⟩⟩⟩⟩
      rw [dec_int']
      refine ite2 (fun e => ?_) (fun e => ?_)
      · refine ⟨.int k, rfl, .int sd, rfl, v, rfl, v, g, r, c, sd, k, rfl, rd, G, B, dd, fun b H1 dx u S1 h1 r1 => ?_, fun b H1 v1 S1 r1 => ⟨v1, rfl, good b _ _ S1 r1⟩⟩
        refine ⟨true, C.eN, fun _ a ha => ?_, fun z => nomatch z⟩
        refine ⟨.ref a, rfl, .ref CG, .ref CG, false, CN, dx, _, rfl, .own CG, rfl, C.oN.er, rfl, h1, C.kNG, ?_⟩
        refine ⟨.ref a, rfl, .ref CN, .ref CN, true, CN, dx, _, rfl, .own CN, rfl, C.oN.er, rfl, h1, C.kNN, ?_⟩
        refine ⟨.ref a, rfl, rfl, CN, dx, _, u, rfl, C.oN.xf, C.oN.no, rfl, h1, rfl, by show 3 ≤ sizeLine; decide, fun l hl => ?_⟩
        exact ⟨.ref l, rfl, fin H1 l _ _ _ _ S1 r1 hl (bad b)⟩
      · refine ⟨v, rfl, .int sd, rfl, .int k, rfl, v, g, r, c, sd, k, rfl, rd, G, B, dd, fun b H1 dx u S1 h1 r1 => ?_, fun b H1 v1 S1 r1 => ⟨v1, rfl, good b _ _ S1 r1⟩⟩
        refine ⟨true, C.eN, fun _ a ha => ?_, fun z => nomatch z⟩
        refine ⟨.ref a, rfl, .ref CG, .ref CG, false, CN, dx, _, rfl, .own CG, rfl, C.oN.er, rfl, h1, C.kNG, ?_⟩
        refine ⟨.ref a, rfl, .ref CN, .ref CN, true, CN, dx, _, rfl, .own CN, rfl, C.oN.er, rfl, h1, C.kNN, ?_⟩
        refine ⟨.ref a, rfl, rfl, CN, dx, _, u, rfl, C.oN.xf, C.oN.no, rfl, h1, rfl, by show 3 ≤ sizeLine; decide, fun l hl => ?_⟩
        exact ⟨.ref l, rfl, fin H1 l _ _ _ _ S1 r1 hl (bad b)⟩
end
end K04

/-! R17: _law_drawn. -/
namespace K04
open PySem PySem.Spec PyProof.Rows L2 GL
/-- all places hold lists -/
def AllL (l : List Addr) (H : Hp) : Prop := ∀ b ∈ l, ∃ us, H b = some (.lst us)
theorem AllL.kp {l : List Addr} {p sc : Addr} {ns : List Int} {H H' : Hp} (a : AllL l H) (k : Kp p H H') (c : Ctx l p sc ns H') : AllL l H' := fun b hb => by
  by_cases e : b = p
  · obtain ⟨_, _, o, ho, i, r, sd, n, rfl, _⟩ := c.src
    exact ⟨_, by rw [e]; exact ho⟩
  · obtain ⟨us, h⟩ := a b hb
    exact ⟨us, k b _ e h⟩
theorem Nl.besides {l : List Addr} {H : Hp} {d : PyData} (n : Nl d) (hl : AllL l H) : ∀ v, RD H v d → RD (hid l H) v d := by
  induction n with
  | int i => intro v r; cases r; exact .int i
  | tup h ih =>
    intro v r
    cases r with
    | tup e rs =>
      refine .tup (hid_mk (fun z => ?_) e) (rds_of ih rs)
      obtain ⟨us, q⟩ := hl _ z
      rw [q] at e; cases e
theorem Ctx.sm {l : List Addr} {p sc : Addr} {ns : List Int} {H H' : Hp} (c : Ctx l p sc ns H) (S : Same H H') : Ctx l p sc ns H' := c.kp (Kp.same S) (c.src.same S)
/-! ### bounds -/
theorem mem_bump {row : List Int} {k : Nat} {n : Int} (hk : k < row.length) {i : Int} (h : i ∈ bump row k n) : i ∈ row ∨ i = row.getD k 0 + n := by
  unfold bump at h
  rcases List.mem_append.mp h with h | h
  · rcases List.mem_append.mp h with h | h
    · exact .inl (List.mem_of_mem_take h)
    · exact .inr (List.mem_singleton.mp h)
  · exact .inl (List.mem_of_mem_drop h)
theorem bump_mem {row : List Int} {k : Nat} {n : Int} : row.getD k 0 + n ∈ bump row k n := by
  unfold bump
  exact List.mem_append_left _ (List.mem_append_right _ List.mem_cons_self)
theorem bnd_iff {r c k : Nat} {sd n : Int} {g : Tab × Tab} (G : Good r c g) (B : Bnd g) (hk : (sd = 0 ∧ k < c) ∨ (sd = 1 ∧ k < r)) :
    Bnd (mvG g sd k n) ↔ ∀ x ∈ numsOf g sd k, In1000 (x + n) := by
  rcases hk with ⟨rfl, hk⟩ | ⟨rfl, hk⟩
  · have e1 : mvG g 0 k n = (g.1.map fun row => bump row k n, g.2) := if_pos rfl
    have e2 : numsOf g 0 k = g.1.map fun row => row.getD k 0 := if_pos rfl
    rw [e1, e2]
    constructor
    · intro h x hx
      obtain ⟨row, hr, rfl⟩ := List.mem_map.mp hx
      exact h.1 _ (List.mem_map.mpr ⟨row, hr, rfl⟩) _ bump_mem
    · intro h
      refine ⟨fun row hr i hi => ?_, B.2⟩
      obtain ⟨row0, h0, rfl⟩ := List.mem_map.mp hr
      rcases mem_bump (by rw [G.one.2 _ h0]; exact hk) hi with z | rfl
      · exact B.1 _ h0 _ z
      · exact h _ (List.mem_map.mpr ⟨row0, h0, rfl⟩)
  · have e1 : mvG g 1 k n = (g.1, upRow g.2 k n) := if_neg (by decide)
    have e2 : numsOf g 1 k = g.2.getD k [] := if_neg (by decide)
    rw [e1, e2]
    constructor
    · intro h x hx
      refine h.2 ((g.2.getD k []).map fun i => i + n) ?_ _ (List.mem_map.mpr ⟨x, hx, rfl⟩)
      unfold upRow
      exact List.mem_append_left _ (List.mem_append_right _ List.mem_cons_self)
    · intro h
      refine ⟨B.1, fun row hr i hi => ?_⟩
      unfold upRow at hr
      rcases List.mem_append.mp hr with hr | hr
      · rcases List.mem_append.mp hr with hr | hr
        · exact B.2 _ (List.mem_of_mem_take hr) _ hi
        · rcases List.mem_singleton.mp hr with rfl
          obtain ⟨x, hx, rfl⟩ := List.mem_map.mp hi
          exact h x hx
      · exact B.2 _ (List.mem_of_mem_drop hr) _ hi
theorem nums_ok {r c k : Nat} {sd : Int} {g : Tab × Tab} (G : Good r c g) (B : Bnd g) (hk : (sd = 0 ∧ k < c) ∨ (sd = 1 ∧ k < r)) :
    0 < (numsOf g sd k).length ∧ ∀ x ∈ numsOf g sd k, In1000 x := by
  rcases hk with ⟨rfl, hk⟩ | ⟨rfl, hk⟩
  · rw [show numsOf g 0 k = g.1.map fun row => row.getD k 0 from if_pos rfl]
    refine ⟨by rw [List.length_map, G.one.1]; have := G.r1; omega, fun x hx => ?_⟩
    obtain ⟨row, hr, rfl⟩ := List.mem_map.mp hx
    have hl := G.one.2 _ hr
    refine B.1 row hr _ ?_
    rw [List.getD_eq_getElem?_getD, List.getElem?_eq_getElem (by omega)]
    exact List.getElem_mem _
  · rw [show numsOf g 1 k = g.2.getD k [] from if_neg (by decide)]
    have hm := getD_mem (x := g.2) (i := k) (by rw [G.two.1]; exact hk)
    exact ⟨by rw [G.two.2 _ hm]; have := G.c1; omega, fun x hx => B.2 _ hm _ hx⟩
section
variable {P : Program} {w : World} {K : PySem.W.Frag} {mg : Str → Option Value} {base : Heap}
variable {fP fD fN : Addr} {dP dD dN : FuncData}
/-- a deed with what it tells -/
def DrC (r c : Nat) (g : Tab × Tab) : PyData → Prop := fun d => ∃ (way sd : Int) (k : Nat) (n : Int) (e : PyData), d = .tuple [.tuple [.int way, .int sd, .int (k : Nat), .int n], e] ∧ Deed r c way sd k ∧ Res way sd k n r c g e ∧
  n.natAbs < 2 ^ 1000
theorem tabs_len {H : Hp} {v : V} {g : Tab × Tab} {r c : Nat} (rd : RD H v (gmD g)) (G : Good r c g) : ∃ (a p q b : Addr) (rs : List V) (row : List V), v = .ref a ∧ H a = some (.tup [.ref p, .ref q]) ∧ H p = some (.tup (.ref b :: rs)) ∧
    (V.ref b :: rs).length = r ∧ H b = some (.tup row) ∧ row.length = c := by
  obtain ⟨a, p, p2, rfl, ha, t1, t2⟩ := rd_gm rd
  obtain ⟨p', rs, e, hp, hl, hw, rr⟩ := rd_tab t1 G.one
  cases e
  obtain ⟨row0, e0⟩ : ∃ row, g.1[0]? = some row := ⟨_, List.getElem?_eq_getElem (by rw [G.one.1]; have := G.r1; omega)⟩
  obtain ⟨b, e1, hb⟩ := rds_nth rr e0
  cases rs with
  | nil => simp at e1
  | cons b' rs =>
    rw [List.map_cons] at e1 hp
    cases e1
    exact ⟨a, p, p2, b, rs.map V.ref, _, rfl, ha, hp, by rw [List.length_cons, List.length_map]; exact hl, hb, by rw [List.length_map]; exact G.one.2 _ (List.mem_of_getElem? e0)⟩
def spDrawn : Sp := fun vs H Q _ => ∃ l p sc ns v g r c, vs = [.ref p, v] ∧ Ctx l p sc ns H ∧ AllL l H ∧ RD (hid l H) v (gmD g) ∧ Good r c g ∧ Bnd g ∧ Tells l p sc ns H (DrC r c g) Q
theorem ok_drawn {f : Addr} {fd : FuncData} (F : Fun K "_law_drawn" "_law_drawn" sLDrawn f fd) (ml : mg "len" = none) (mn : mg "min" = none) (mx : mg "max" = none)
    (FP : Fun K "_law_pick" "_law_pick" sLPick fP dP) (bP : Binds K dP ["source", "many"] []) (gP : mg "_law_pick" = some (.ref fP)) (GP : FnOk P w K mg base CX0 1 fP dP ["source", "many"] (spPick 0))
    (FD : Fun K "_law_due" "_law_due" sLDue fD dD) (bD : Binds K dD ["way", "game", "side", "choice", "number"] []) (gD : mg "_law_due" = some (.ref fD)) (GD : FnOk P w K mg base CX0 2 fD dD ["way", "game", "side", "choice", "number"] spDue)
    (FN : Fun K "_law_numbers" "_law_numbers" sLNumbers fN dN) (bN : Binds K dN ["game", "side", "choice"] []) (gN : mg "_law_numbers" = some (.ref fN)) (GN : FnOk P w K mg base CX0 1 fN dN ["game", "side", "choice"] spNums) :
    FnOk P w K mg base CX0 3 f fd ["source", "game"] spDrawn := by
  refine F.ok scLDrawn (fun vs H Q E h => ?_) (fun cdv A outer s H vs Q E hr h => ?_)
  · obtain ⟨l, p, sc, ns, v, g, r, c, rfl, _⟩ := h
    rfl
  · obtain ⟨l, p, sc, ns, v, g, r, c, rfl, c0, al, rd, G, B, q⟩ := h
    have hr1 := hr.mono (show 1 ≤ 2 by omega)
    refine ⟨_, pss_cons (ps_par (i := 2) (j := 3) (by rfl) scLDrawn.nd rfl rfl (by decide) rfl rfl
        (pa_cons (pe_ix ix_list (pe_lst (pa_cons pe_int (pa_cons pe_int (pa_cons pe_int (pa_cons pe_int pa_nil))))) (pe_call GP hr1 (by rfl) gP FP.kp bP .nil pass0 (pa_cons (pv 0) (pa_cons pe_int pa_nil))) (fun _ _ => rfl))
        (pa_cons (pe_call GP hr1 (by rfl) gP FP.kp bP .nil pass0 (pa_cons (pv 0) (pa_cons pe_int pa_nil))) pa_nil)) (by rfl))
      (pss_cons (ps_set (i := 4) scLDrawn.nd rfl (.inl rfl) (pe_lst (pa_cons (pe_callB call_len_seq (by rfl) ml PySem.boot_len (pa_cons (pe_ix ix_tup (pv 1) pe_int (fun _ _ => rfl)) pa_nil))
          (pa_cons (pe_callB call_len_seq (by rfl) ml PySem.boot_len (pa_cons (pe_ix ix_tup (pe_ix ix_tup (pv 1) pe_int (fun _ _ => rfl)) pe_int (fun _ _ => rfl)) pa_nil)) pa_nil))))
      (pss_cons (ps_if (pt_cmpR op_eq (pv 2) pe_int (nomark _))
        (pss_one (ps_ret (pe_tup (pa_cons (pe_tup (pa_cons pe_int (pa_cons pe_int (pa_cons pe_int (pa_cons pe_int pa_nil)))))
          (pa_cons (pe_call GD hr (by rfl) gD FD.kp bD .nil pass0 (pa_cons pe_int (pa_cons (pv 1) (pa_cons pe_int (pa_cons pe_int (pa_cons pe_int pa_nil)))))) pa_nil))))) pss_nil)
      (pss_cons (ps_if (pt_cmpR op_eq (pv 2) pe_int (nomark _))
        (pss_cons (ps_set (i := 5) scLDrawn.nd rfl (.inl rfl) (pe_call GP hr1 (by rfl) gP FP.kp bP .nil pass0 (pa_cons (pv 0) (pa_cons (pe_ix ix_list (pv 4) (pv 3) (fun _ _ => rfl)) pa_nil))))
        (pss_cons (ps_if (pt_cmpR op_eq (pe_ix ix_list (pv 4) (pv 3) (fun _ _ => rfl)) pe_int (nomark _))
          (pss_one (ps_ret (pe_tup (pa_cons (pe_tup (pa_cons pe_int (pa_cons (pv 3) (pa_cons (pv 5) (pa_cons pe_int pa_nil)))))
            (pa_cons (pe_lst (pa_cons pe_bl (pa_cons pe_bl (pa_cons (pv 5) pa_nil)))) pa_nil))))) pss_nil)
        (pss_one (ps_ret (pe_tup (pa_cons (pe_tup (pa_cons pe_int (pa_cons (pv 3) (pa_cons (pv 5) (pa_cons pe_int pa_nil)))))
            (pa_cons (pe_call GD hr (by rfl) gD FD.kp bD .nil pass0 (pa_cons pe_int (pa_cons (pv 1) (pa_cons (pv 3) (pa_cons (pv 5) (pa_cons pe_int pa_nil)))))) pa_nil))))))) pss_nil)
      (pss_cons (ps_set (i := 5) scLDrawn.nd rfl (.inl rfl) (pe_call GP hr1 (by rfl) gP FP.kp bP .nil pass0 (pa_cons (pv 0) (pa_cons (pe_ix ix_list (pv 4) (pe_op op_sub pe_int (pv 3)) (fun _ _ => rfl)) pa_nil))))
      (pss_cons (ps_set (i := 6) scLDrawn.nd rfl (.inl rfl) (pe_call GN hr1 (by rfl) gN FN.kp bN .nil pass0 (pa_cons (pv 1) (pa_cons (pv 3) (pa_cons (pv 5) pa_nil)))))
      (pss_cons (ps_par (i := 7) (j := 8) (by rfl) scLDrawn.nd rfl rfl (by decide) rfl rfl
        (pa_cons (pe_op op_sub (pe_un un_neg pe_int) (pe_callB (cr_min rfl) (by rfl) mn (by decide +kernel) (pa_cons (pv 6) pa_nil)))
        (pa_cons (pe_op op_sub pe_int (pe_callB (cr_max rfl) (by rfl) mx (by decide +kernel) (pa_cons (pv 6) pa_nil))) pa_nil)) (by rfl))
      (pss_cons (ps_set (i := 9) scLDrawn.nd rfl (.inl rfl) (pe_op op_add (pv 7) (pe_call GP hr1 (by rfl) gP FP.kp bP .nil pass0 (pa_cons (pv 0) (pa_cons (pe_op op_add (pe_op op_sub (pv 8) (pv 7)) pe_int) pa_nil)))))
      (pss_cons (ps_set (i := 10) scLDrawn.nd rfl (.inl rfl) (pe_ix ix_list (pe_lst (pa_cons (pv 7) (pa_cons (pv 8) (pa_cons pe_int (pa_cons (pv 9) (pa_cons (pv 9) (pa_cons (pe_op op_sub (pv 7) pe_int) (pa_cons (pe_op op_add (pv 8) pe_int)
          (pa_cons (pe_op op_add (pv 8) (pe_op op_pow pe_int pe_int)) pa_nil)))))))))
          (pe_call GP hr1 (by rfl) gP FP.kp bP .nil pass0 (pa_cons (pv 0) (pa_cons pe_int pa_nil))) (fun _ _ => rfl)))
      (pss_cons (ps_set (i := 11) scLDrawn.nd rfl (.inl rfl) (pe_call GD hr (by rfl) gD FD.kp bD .nil pass0 (pa_cons pe_int (pa_cons (pv 1) (pa_cons (pv 3) (pa_cons (pv 5) (pa_cons (pv 10) pa_nil)))))))
      (pss_cons (ps_if (pt_not (pt_chain op_le op_le (pv 7) (pv 10) (pv 8)))
        (pss_one (ps_ret (pe_tup (pa_cons (pe_tup (pa_cons pe_int (pa_cons (pv 3) (pa_cons (pv 5) (pa_cons (pv 10) pa_nil)))))
            (pa_cons (pe_lst (pa_cons pe_bl (pa_cons pe_bl (pa_cons (pv 11) pa_nil)))) pa_nil))))) pss_nil)
      (pss_one (ps_ret (pe_tup (pa_cons (pe_tup (pa_cons pe_int (pa_cons (pv 3) (pa_cons (pv 5) (pa_cons (pv 10) pa_nil))))) (pa_cons (pv 11) pa_nil))))))))))))))), ?_⟩
    have mo : most 0 = 100000 := rfl
    obtain ⟨u0, u1, u2, u3, rs, row, rfl, hu0, hu1, hlr, hu3, hlc⟩ := tabs_len (RD.out rd) G
    have m := c0.mem
    have gr1 := G.r1
    have gr5 := G.r5
    have gc1 := G.c1
    have gc5 := G.c5
    refine ⟨by show 4 ≤ sizeLine; decide, fun t1 ht1 => ?_⟩
    have c1 := c0.new (o := .lst [.int 0, .int 1, .int 1, .int 2]) ht1
    have k1 : Kp p H (upd H t1 (.lst [.int 0, .int 1, .int 1, .int 2])) := Kp.new ht1
    have ht1' : (upd H t1 (.lst [.int 0, .int 1, .int 1, .int 2])) t1 = some (.lst [.int 0, .int 1, .int 1, .int 2]) := upd_same
    have n1 : t1 ≠ p := fun z => by obtain ⟨o, ho⟩ := c0.src.at; rw [z, ho] at ht1; cases ht1
    generalize upd H t1 (.lst [.int 0, .int 1, .int 1, .int 2]) = H1 at c1 k1 ht1'
    refine ⟨.ref p, rfl, p, sc, ns, 4, rfl, by decide, by rw [mo]; decide, small 4 (by decide) (by decide), c1.src, fun w1 o1 x0 x1 so1 => ?_⟩
    have c2 := c1.put so1
    have k2 : Kp p H (upd H1 p o1) := k1.trans Kp.put
    have ht2 := Kp.put (p := p) (o := o1) t1 _ n1 ht1'
    generalize upd H1 p o1 = H2 at c2 k2 ht2
    obtain ⟨way, hway, hw⟩ : ∃ way : Int, atI [V.int 0, .int 1, .int 1, .int 2] w1 = some (.int way) ∧ (way = 0 ∨ way = 1 ∨ way = 2) := by
      obtain ⟨j, rfl⟩ := Int.eq_ofNat_of_zero_le x0
      have : j = 0 ∨ j = 1 ∨ j = 2 ∨ j = 3 := by omega
      rcases this with rfl | rfl | rfl | rfl
      · exact ⟨0, atI_nat (j := 0) rfl, .inl rfl⟩
      · exact ⟨1, atI_nat (j := 1) rfl, .inr (.inl rfl)⟩
      · exact ⟨1, atI_nat (j := 2) rfl, .inr (.inl rfl)⟩
      · exact ⟨2, atI_nat (j := 3) rfl, .inr (.inr rfl)⟩
    refine ⟨t1, _, w1, _, rfl, rfl, SqL.of ht2, hway, ?_⟩
    refine ⟨.ref p, rfl, p, sc, ns, 2, rfl, by decide, by rw [mo]; decide, small 2 (by decide) (by decide), c2.src, fun sd o2 y0 y1 so2 => ⟨_, _, rfl, ?_⟩⟩
    have c3 := c2.put so2
    have k3 : Kp p H (upd H2 p o2) := k2.trans Kp.put
    generalize upd H2 p o2 = H3 at c3 k3
    have hs : sd = 0 ∨ sd = 1 := by omega
    have rd3 := RD.hk m k3 rd
    have nup : ∀ {a : Addr} {x : List V}, H a = some (.tup x) → a ≠ p := fun h z => by
      obtain ⟨_, _, o, ho, i, r, sd, n, rfl, _⟩ := c0.src
      rw [z, ho] at h; cases h
    have hv0 := k3 _ _ (nup hu0) hu0
    have hv1 := k3 _ _ (nup hu1) hu1
    have hv3 := k3 _ _ (nup hu3) hu3
    refine ⟨.ref u0, rfl, u0, _, 0, .ref u1, rfl, rfl, SqT.of hv0, atI_nat (j := 0) rfl, u1, _, rfl, .inr (SqT.of hv1), .ref u0, rfl, u0, _, 0, .ref u1, rfl, rfl, SqT.of hv0, atI_nat (j := 0) rfl, u1, _, 0, .ref u3, rfl, rfl, SqT.of hv1, atI_nat (j := 0) rfl, u3, row, rfl, .inr (SqT.of hv3),
      by show 2 ≤ sizeLine; decide, fun l5 hl5 => ?_⟩
    rw [hlr, hlc]
    have c4 := c3.new (o := .lst [V.int (r : Nat), V.int (c : Nat)]) hl5
    have k4 : Kp p H (upd H3 l5 (.lst [V.int (r : Nat), V.int (c : Nat)])) := k3.trans (Kp.new hl5)
    have h5 : (upd H3 l5 (.lst [V.int (r : Nat), V.int (c : Nat)])) l5 = some (.lst [V.int (r : Nat), V.int (c : Nat)]) := upd_same
    have n5 : l5 ≠ p := fun z => by obtain ⟨o, ho⟩ := c3.src.at; rw [z, ho] at hl5; cases hl5
    generalize upd H3 l5 (.lst [V.int (r : Nat), V.int (c : Nat)]) = H4 at c4 k4 h5
    have rd4 := RD.hk m k4 rd
    have al4 : AllL l H4 := al.kp k4 c4
    rcases hw with rfl | rfl | rfl
    · -- turned
      refine ⟨.int 0, rfl, rfl, _, rfl, iteT ?_⟩
      refine ⟨by show 4 ≤ sizeLine; decide, fun t6 ht6 => ?_⟩
      have c5 := c4.new (o := .tup [.int 0, .int 0, .int 0, .int 0]) ht6
      have s5 := RD.tupN (xs := [.int 0, .int 0, .int 0, .int 0]) (ds := [.int 0, .int 0, .int 0, .int 0]) c4 ht6 (.cons (.int 0) (.cons (.int 0) (.cons (.int 0) (.cons (.int 0) .nil))))
      have k5 := k4.trans (Kp.new (p := p) (o := .tup [.int 0, .int 0, .int 0, .int 0]) ht6)
      generalize upd H4 t6 (.tup [.int 0, .int 0, .int 0, .int 0]) = H5 at c5 s5 k5
      refine ⟨.ref u0, rfl, .ref u0, g, r, c, 0, 0, 0, 0, rfl, RD.out (RD.hk m k5 rd), G, .inl rfl, fun H6 v6 S6 r6 => ⟨by show 2 ≤ sizeLine; decide, fun t7 ht7 => ?_⟩⟩
      have c6 := c5.sm S6
      have r6' := (nl_gm _).besides (al.kp (k5.trans (Kp.same S6)) c6) _ r6
      refine q _ _ _ ((k5.trans (Kp.same S6)).trans (Kp.new ht7)) (c6.new ht7) (RD.tupN c6 ht7 (.cons (RD.hk m (Kp.same S6) s5) (.cons r6' .nil))) ⟨0, 0, 0, 0, _, rfl, .inl rfl, .inl ⟨rfl, ?_⟩, by decide⟩
      rw [show dueG 0 0 0 0 c g = (tr c g.2, tr c g.1) from if_pos rfl]
    · -- moved
      have hs' : 1 - sd = 0 ∨ 1 - sd = 1 := by omega
      obtain ⟨N, hN, eN, en⟩ : ∃ N : Nat, (sd = 0 ∧ N = c ∨ sd = 1 ∧ N = r) ∧ (1 ≤ N ∧ N ≤ 5) ∧ (if 1 - sd = 0 then V.int (r : Nat) else V.int (c : Nat)) = V.int (N : Nat) := by
        rcases hs with rfl | rfl
        · exact ⟨c, .inl ⟨rfl, rfl⟩, ⟨gc1, gc5⟩, if_neg (by decide)⟩
        · exact ⟨r, .inr ⟨rfl, rfl⟩, ⟨gr1, gr5⟩, if_pos rfl⟩
      refine ⟨.int 1, rfl, rfl, _, rfl, iteF ⟨.int 1, rfl, rfl, _, rfl, iteF ?_⟩⟩
      refine ⟨.ref p, rfl, .ref l5, rfl, .int sd, rfl, _, _, rfl, rfl, l5, _, 1 - sd, _, rfl, rfl, SqL.of h5, ix_named hs', ?_⟩
      rw [en]
      refine ⟨p, sc, ns, N, rfl, by omega, by rw [mo]; omega, small _ (by omega) (by omega), c4.src, fun ch o3 z0 z1 so3 => ?_⟩
      have c5 := c4.put so3
      have k5 : Kp p H (upd H4 p o3) := k4.trans Kp.put
      generalize upd H4 p o3 = H5 at c5 k5
      obtain ⟨k, rfl⟩ := Int.eq_ofNat_of_zero_le z0
      have hk : (sd = 0 ∧ k < c) ∨ (sd = 1 ∧ k < r) := by
        rcases hN with ⟨e, rfl⟩ | ⟨e, rfl⟩
        · exact .inl ⟨e, by omega⟩
        · exact .inr ⟨e, by omega⟩
      obtain ⟨np, nb⟩ := nums_ok G B hk
      have bi := fun n => bnd_iff (n := n) G B hk
      refine ⟨.ref u0, rfl, .int sd, rfl, .int (k : Nat), rfl, .ref u0, g, r, c, sd, k, rfl, RD.out (RD.hk m k5 rd), G, hk, fun H6 D S6 hD => ?_⟩
      have c6 := c5.sm S6
      have k6 := k5.trans (Kp.same S6)
      generalize numsOf g sd k = nums at np nb bi hD
      refine ⟨_, rfl, .ref D, rfl, D, nums, rfl, SqL.of hD, np, fun a ha hle => ⟨_, _, rfl, rfl, .ref D, rfl, D, nums, rfl, SqL.of hD, np, fun b hb hge => ⟨_, _, rfl, rfl, _, _, rfl, ?_⟩⟩⟩
      dsimp only
      have bi' : ∀ n, Bnd (mvG g sd k n) ↔ (-1000 - a ≤ n ∧ n ≤ 1000 - b) := fun n => by
        rw [bi n]
        constructor
        · intro h
          have := h a ha
          have := h b hb
          unfold In1000 at *
          omega
        · intro h x hx
          have := hle x hx
          have := hge x hx
          unfold In1000
          omega
      have ba := nb a ha
      have bb := nb b hb
      have hab := hge a ha
      unfold In1000 at ba bb
      obtain ⟨lo, hlo⟩ : ∃ lo, lo = -1000 - a := ⟨_, rfl⟩
      obtain ⟨hi, hhi⟩ : ∃ hi, hi = 1000 - b := ⟨_, rfl⟩
      rw [← hlo, ← hhi]
      simp only [← hlo, ← hhi] at bi'
      refine ⟨.int lo, rfl, .ref p, rfl, .int hi, rfl, .int lo, rfl, _, _, rfl, rfl, _, _, rfl, rfl, p, sc, ns, hi - lo + 1, rfl, by omega, by rw [mo]; omega, small _ (by omega) (by omega), c6.src, fun wi o4 v0 v1 so4 => ⟨_, _, rfl, rfl, ?_⟩⟩
      dsimp only
      have c7 := c6.put so4
      have k7 : Kp p H (upd H6 p o4) := k6.trans Kp.put
      generalize upd H6 p o4 = H7 at c7 k7
      obtain ⟨wt, hwt⟩ : ∃ wt, wt = lo + wi := ⟨_, rfl⟩
      rw [← hwt]
      refine ⟨.int lo, rfl, .int hi, rfl, .int wt, rfl, .int wt, rfl, .int lo, rfl, _, _, rfl, rfl, .int hi, rfl, _, _, rfl, rfl, .int hi, rfl, _, _, rfl, rfl, (by show CPow 10 40; exact ⟨by decide, by decide, by decide⟩), _, _, rfl, rfl, by show 8 ≤ sizeLine; decide, fun t8 ht8 => ?_⟩
      dsimp only
      have hu0' := k7 _ _ (nup hu0) hu0
      have hu1' := k7 _ _ (nup hu1) hu1
      obtain ⟨big, hbig⟩ : ∃ big : Int, big = hi + 10 ^ Int.toNat 40 := ⟨_, rfl⟩
      rw [← hbig]
      have c8 := c7.new (o := .lst [.int lo, .int hi, .int 0, .int wt, .int wt, .int (lo - 1), .int (hi + 1), .int big]) ht8
      have j8 := Kp.new (p := p) (o := .lst [.int lo, .int hi, .int 0, .int wt, .int wt, .int (lo - 1), .int (hi + 1), .int big]) ht8
      have h8 : (upd H7 t8 (.lst [.int lo, .int hi, .int 0, .int wt, .int wt, .int (lo - 1), .int (hi + 1), .int big])) t8 = some (.lst [.int lo, .int hi, .int 0, .int wt, .int wt, .int (lo - 1), .int (hi + 1), .int big]) := upd_same
      have n8 : t8 ≠ p := fun z => by obtain ⟨o, ho⟩ := c7.src.at; rw [z, ho] at ht8; cases ht8
      generalize upd H7 t8 (.lst [.int lo, .int hi, .int 0, .int wt, .int wt, .int (lo - 1), .int (hi + 1), .int big]) = H8 at c8 j8 h8
      refine ⟨.ref p, rfl, p, sc, ns, 8, rfl, by decide, by rw [mo]; decide, small 8 (by decide) (by decide), c8.src, fun ix o5 q0 q1 so5 => ?_⟩
      have c9 := c8.put so5
      have k9 : Kp p H (upd H8 p o5) := (k7.trans j8).trans Kp.put
      have h9 := Kp.put (p := p) (o := o5) t8 _ n8 h8
      generalize upd H8 p o5 = H9 at c9 k9 h9
      have e40 : (10 : Int) ^ Int.toNat 40 = 10000000000000000000000000000000000000000 := by decide +kernel
      rw [e40] at hbig
      obtain ⟨n, hn, bn⟩ : ∃ n : Int, atI [V.int lo, .int hi, .int 0, .int wt, .int wt, .int (lo - 1), .int (hi + 1), .int big] ix = some (.int n) ∧ n.natAbs ≤ 10000000000000000000000000000000000002000 := by
        obtain ⟨j, rfl⟩ := Int.eq_ofNat_of_zero_le q0
        have : j = 0 ∨ j = 1 ∨ j = 2 ∨ j = 3 ∨ j = 4 ∨ j = 5 ∨ j = 6 ∨ j = 7 := by omega
        rcases this with rfl | rfl | rfl | rfl | rfl | rfl | rfl | rfl
        · exact ⟨_, atI_nat (j := 0) rfl, by omega⟩
        · exact ⟨_, atI_nat (j := 1) rfl, by omega⟩
        · exact ⟨_, atI_nat (j := 2) rfl, by omega⟩
        · exact ⟨_, atI_nat (j := 3) rfl, by omega⟩
        · exact ⟨_, atI_nat (j := 4) rfl, by omega⟩
        · exact ⟨_, atI_nat (j := 5) rfl, by omega⟩
        · exact ⟨_, atI_nat (j := 6) rfl, by omega⟩
        · exact ⟨_, atI_nat (j := 7) rfl, by omega⟩
      have bn' : n.natAbs < 2 ^ 1000 := Nat.lt_of_le_of_lt bn (by decide +kernel)
      refine ⟨t8, _, ix, _, rfl, rfl, SqL.of h9, hn, ?_⟩
      refine ⟨.ref u0, rfl, .int sd, rfl, .int (k : Nat), rfl, .int n, rfl, .ref u0, g, r, c, 1, sd, k, n, rfl, RD.out (RD.hk m k9 rd), G, .inr (.inl ⟨rfl, hk⟩), fun H10 v10 S10 r10 => ?_⟩
      have c10 := c9.sm S10
      have k10 := k9.trans (Kp.same S10)
      have s10 := (nl_gm _).besides (al.kp k10 c10) _ r10
      rw [show dueG 1 sd k n c g = mvG g sd k n from by unfold dueG; rw [if_neg (by decide), if_pos rfl]] at s10
      have good : Bnd (mvG g sd k n) → ∀ t6, H10 t6 = none → ∀ t7, (upd H10 t6 (.tup [.int 1, .int sd, .int (k : Nat), .int n])) t7 = none →
          Q (.ref t7) (upd (upd H10 t6 (.tup [.int 1, .int sd, .int (k : Nat), .int n])) t7 (.tup [.ref t6, v10])) := fun hb t6 ht6 t7 ht7 => by
        have a6 := RD.tupN (xs := [.int 1, .int sd, .int (k : Nat), .int n]) (ds := [.int 1, .int sd, .int (k : Nat), .int n]) c10 ht6 (.cons (.int 1) (.cons (.int sd) (.cons (.int _) (.cons (.int n) .nil))))
        have d6 := c10.new (o := .tup [.int 1, .int sd, .int (k : Nat), .int n]) ht6
        have j6 := Kp.new (p := p) (o := .tup [.int 1, .int sd, .int (k : Nat), .int n]) ht6
        generalize upd H10 t6 (.tup [.int 1, .int sd, .int (k : Nat), .int n]) = H11 at a6 d6 j6 ht7
        exact q _ _ _ ((k10.trans j6).trans (Kp.new ht7)) (d6.new ht7) (RD.tupN d6 ht7 (.cons a6 (.cons (RD.hk m j6 s10) .nil))) ⟨1, sd, k, n, _, rfl, .inr (.inl ⟨rfl, hk⟩), .inr (.inl ⟨rfl, hb, rfl⟩), bn'⟩
      have bad : ¬ Bnd (mvG g sd k n) → ∀ t6, H10 t6 = none → ∀ t7, (upd H10 t6 (.tup [.int 1, .int sd, .int (k : Nat), .int n])) t7 = none →
          ∀ t8, (upd (upd H10 t6 (.tup [.int 1, .int sd, .int (k : Nat), .int n])) t7 (.lst [.bl true, .bl false, v10])) t8 = none →
          Q (.ref t8) (upd (upd (upd H10 t6 (.tup [.int 1, .int sd, .int (k : Nat), .int n])) t7 (.lst [.bl true, .bl false, v10])) t8 (.tup [.ref t6, .ref t7])) := fun hb t6 ht6 t7 ht7 t8 ht8 => by
        have a6 := RD.tupN (xs := [.int 1, .int sd, .int (k : Nat), .int n]) (ds := [.int 1, .int sd, .int (k : Nat), .int n]) c10 ht6 (.cons (.int 1) (.cons (.int sd) (.cons (.int _) (.cons (.int n) .nil))))
        have d6 := c10.new (o := .tup [.int 1, .int sd, .int (k : Nat), .int n]) ht6
        have j6 := Kp.new (p := p) (o := .tup [.int 1, .int sd, .int (k : Nat), .int n]) ht6
        generalize upd H10 t6 (.tup [.int 1, .int sd, .int (k : Nat), .int n]) = H11 at a6 d6 j6 ht7 ht8
        have a7 := RD.lstN (xs := [.bl true, .bl false, v10]) (ds := [.bool true, .bool false, _]) d6 ht7 (.cons (.bl _) (.cons (.bl _) (.cons (RD.hk m j6 s10) .nil)))
        have d7 := d6.new (o := .lst [.bl true, .bl false, v10]) ht7
        have j7 := Kp.new (p := p) (o := .lst [.bl true, .bl false, v10]) ht7
        generalize upd H11 t7 (.lst [.bl true, .bl false, v10]) = H12 at a7 d7 j7 ht8
        exact q _ _ _ (((k10.trans j6).trans j7).trans (Kp.new ht8)) (d7.new ht8) (RD.tupN d7 ht8 (.cons (RD.hk m j7 a6) (.cons a7 .nil))) ⟨1, sd, k, n, _, rfl, .inr (.inl ⟨rfl, hk⟩), .inr (.inr (.inl ⟨rfl, hb, rfl⟩)), bn'⟩
      have s2 : 2 ≤ sizeLine := by decide
      have s3 : 3 ≤ sizeLine := by decide
      have s4 : 4 ≤ sizeLine := by decide
      by_cases h1 : lo ≤ n
      · by_cases h2 : n ≤ hi
        · refine ⟨.int lo, rfl, .int n, rfl, _, _, rfl, rfl, _, rfl, ?_⟩
          rw [if_pos (decide_eq_true h1)]
          refine ⟨.int hi, rfl, _, _, rfl, rfl, _, rfl, ?_⟩
          rw [decide_eq_true h2]
          refine iteF ⟨.int sd, rfl, .int (k : Nat), rfl, .int n, rfl, s4, fun t6 ht6 => ⟨v10, rfl, s2, fun t7 ht7 => ?_⟩⟩
          exact good ((bi' n).mpr ⟨h1, h2⟩) t6 ht6 t7 ht7
        · refine ⟨.int lo, rfl, .int n, rfl, _, _, rfl, rfl, _, rfl, ?_⟩
          rw [if_pos (decide_eq_true h1)]
          refine ⟨.int hi, rfl, _, _, rfl, rfl, _, rfl, ?_⟩
          rw [decide_eq_false h2]
          refine iteT ⟨.int sd, rfl, .int (k : Nat), rfl, .int n, rfl, s4, fun t6 ht6 => ⟨v10, rfl, s3, fun t7 ht7 => ⟨s2, fun t8 ht8 => ?_⟩⟩⟩
          exact bad (fun z => h2 ((bi' n).mp z).2) t6 ht6 t7 ht7 t8 ht8
      · refine ⟨.int lo, rfl, .int n, rfl, _, _, rfl, rfl, _, rfl, ?_⟩
        rw [if_neg (fun z => h1 (of_decide_eq_true z))]
        refine ⟨_, rfl, ?_⟩
        refine iteT ⟨.int sd, rfl, .int (k : Nat), rfl, .int n, rfl, s4, fun t6 ht6 => ⟨v10, rfl, s3, fun t7 ht7 => ⟨s2, fun t8 ht8 => ?_⟩⟩⟩
        exact bad (fun z => h1 ((bi' n).mp z).1) t6 ht6 t7 ht7 t8 ht8
    · -- without
      obtain ⟨N, hN, eN, en⟩ : ∃ N : Nat, (sd = 0 ∧ N = r ∨ sd = 1 ∧ N = c) ∧ (1 ≤ N ∧ N ≤ 5) ∧ (if sd = 0 then V.int (r : Nat) else V.int (c : Nat)) = V.int (N : Nat) := by
        rcases hs with rfl | rfl
        · exact ⟨r, .inl ⟨rfl, rfl⟩, ⟨gr1, gr5⟩, if_pos rfl⟩
        · exact ⟨c, .inr ⟨rfl, rfl⟩, ⟨gc1, gc5⟩, if_neg (by decide)⟩
      refine ⟨.int 2, rfl, rfl, _, rfl, iteF ⟨.int 2, rfl, rfl, _, rfl, iteT ?_⟩⟩
      refine ⟨.ref p, rfl, .ref l5, rfl, .int sd, rfl, l5, _, sd, _, rfl, rfl, SqL.of h5, ix_named hs, ?_⟩
      rw [en]
      refine ⟨p, sc, ns, N, rfl, by omega, by rw [mo]; omega, small _ (by omega) (by omega), c4.src, fun ch o3 z0 z1 so3 => ?_⟩
      have c5 := c4.put so3
      have k5 : Kp p H (upd H4 p o3) := k4.trans Kp.put
      have h5' := Kp.put (p := p) (o := o3) l5 _ n5 h5
      generalize upd H4 p o3 = H5 at c5 k5 h5'
      obtain ⟨k, rfl⟩ := Int.eq_ofNat_of_zero_le z0
      have hk : (sd = 0 ∧ k < r) ∨ (sd = 1 ∧ k < c) := by
        rcases hN with ⟨e, rfl⟩ | ⟨e, rfl⟩
        · exact .inl ⟨e, by omega⟩
        · exact .inr ⟨e, by omega⟩
      refine ⟨.ref l5, rfl, .int sd, rfl, l5, _, sd, _, rfl, rfl, SqL.of h5', ix_named hs, ?_⟩
      rw [en]
      refine ⟨rfl, _, rfl, ?_⟩
      rw [dec_int']
      refine ite2 (fun e => ?_) (fun e => ?_)
      · have e1 : (N : Int) = 1 := of_decide_eq_true e
        refine ⟨.int sd, rfl, .int (k : Nat), rfl, by show 4 ≤ sizeLine; decide, fun t6 ht6 => ?_⟩
        have s6 := RD.tupN (xs := [.int 2, .int sd, .int (k : Nat), .int 0]) (ds := [.int 2, .int sd, .int (k : Nat), .int 0]) c5 ht6 (.cons (.int 2) (.cons (.int sd) (.cons (.int _) (.cons (.int 0) .nil))))
        have c6 := c5.new (o := .tup [.int 2, .int sd, .int (k : Nat), .int 0]) ht6
        have k6 := k5.trans (Kp.new (p := p) (o := .tup [.int 2, .int sd, .int (k : Nat), .int 0]) ht6)
        generalize upd H5 t6 (.tup [.int 2, .int sd, .int (k : Nat), .int 0]) = H6 at c6 s6 k6
        refine ⟨.int (k : Nat), rfl, by show 3 ≤ sizeLine; decide, fun t7 ht7 => ?_⟩
        have s7 := RD.lstN (xs := [.bl false, .bl true, .int (k : Nat)]) (ds := [.bool false, .bool true, .int (k : Nat)]) c6 ht7 (.cons (.bl _) (.cons (.bl _) (.cons (.int _) .nil)))
        have c7 := c6.new (o := .lst [.bl false, .bl true, .int (k : Nat)]) ht7
        have j7 := Kp.new (p := p) (o := .lst [.bl false, .bl true, .int (k : Nat)]) ht7
        generalize upd H6 t7 (.lst [.bl false, .bl true, .int (k : Nat)]) = H7 at c7 s7 j7
        refine ⟨by show 2 ≤ sizeLine; decide, fun t8 ht8 => ?_⟩
        refine q _ _ _ ((k6.trans j7).trans (Kp.new ht8)) (c7.new ht8) (RD.tupN c7 ht8 (.cons (RD.hk m j7 s6) (.cons s7 .nil))) ⟨2, sd, k, 0, _, rfl, .inr (.inr ⟨rfl, hk⟩), .inr (.inr (.inr (.inr ⟨rfl, ?_, rfl⟩))), by decide⟩
        rcases hN with ⟨e', rfl⟩ | ⟨e', rfl⟩
        · exact .inl ⟨e', by omega⟩
        · exact .inr ⟨e', by omega⟩
      · have e1 : ¬ (N : Int) = 1 := fun z => e (decide_eq_true z)
        refine ⟨.int sd, rfl, .int (k : Nat), rfl, by show 4 ≤ sizeLine; decide, fun t6 ht6 => ?_⟩
        have s6 := RD.tupN (xs := [.int 2, .int sd, .int (k : Nat), .int 0]) (ds := [.int 2, .int sd, .int (k : Nat), .int 0]) c5 ht6 (.cons (.int 2) (.cons (.int sd) (.cons (.int _) (.cons (.int 0) .nil))))
        have c6 := c5.new (o := .tup [.int 2, .int sd, .int (k : Nat), .int 0]) ht6
        have k6 := k5.trans (Kp.new (p := p) (o := .tup [.int 2, .int sd, .int (k : Nat), .int 0]) ht6)
        generalize upd H5 t6 (.tup [.int 2, .int sd, .int (k : Nat), .int 0]) = H6 at c6 s6 k6
        refine ⟨.ref u0, rfl, .int sd, rfl, .int (k : Nat), rfl, .ref u0, g, r, c, 2, sd, k, 0, rfl, RD.out (RD.hk m k6 rd), G, .inr (.inr ⟨rfl, hk⟩), fun H7 v7 S7 r7 => ⟨by show 2 ≤ sizeLine; decide, fun t8 ht8 => ?_⟩⟩
        have c7 := c6.sm S7
        have r7' := (nl_gm _).besides (al.kp (k6.trans (Kp.same S7)) c7) _ r7
        refine q _ _ _ ((k6.trans (Kp.same S7)).trans (Kp.new ht8)) (c7.new ht8) (RD.tupN c7 ht8 (.cons (RD.hk m (Kp.same S7) s6) (.cons r7' .nil))) ⟨2, sd, k, 0, _, rfl, .inr (.inr ⟨rfl, hk⟩), .inr (.inr (.inr (.inl ⟨rfl, ?_, ?_⟩))), by decide⟩
        · rcases hN with ⟨e', rfl⟩ | ⟨e', rfl⟩
          · exact .inl ⟨e', by omega⟩
          · exact .inr ⟨e', by omega⟩
        · rw [show dueG 2 sd k 0 c g = woG g sd k from by unfold dueG; rw [if_neg (by decide), if_neg (by decide)]]
end
end K04

/-! R18: _law_source, _law_right; what comes out of a deed. -/
namespace K04
open PySem PySem.Spec PyProof.Rows L2 GL
/-! ### numbers of a table -/
def AllI (p : Int → Prop) (x : Tab) : Prop := ∀ row ∈ x, ∀ i ∈ row, p i
theorem getD_all {p : Int → Prop} (h0 : p 0) {row : List Int} (h : ∀ i ∈ row, p i) (k : Nat) : p (row.getD k 0) := by
  rw [List.getD_eq_getElem?_getD]
  cases e : row[k]? with
  | none => exact h0
  | some v => exact h v (List.mem_of_getElem? e)
theorem AllI.tr {p : Int → Prop} (h0 : p 0) {x : Tab} (h : AllI p x) (c : Nat) : AllI p (tr c x) := fun row hr i hi => by
  unfold K04.tr at hr
  obtain ⟨j, _, rfl⟩ := List.mem_map.mp hr
  obtain ⟨r, hm, rfl⟩ := List.mem_map.mp hi
  exact getD_all h0 (h r hm) j
theorem mem_cut {α : Type} {xs : List α} {k : Nat} {y : α} (h : y ∈ cutAt xs k) : y ∈ xs := by
  unfold cutAt at h
  rcases List.mem_append.mp h with h | h
  · exact List.mem_of_mem_take h
  · exact List.mem_of_mem_drop h
theorem AllI.cut {p : Int → Prop} {x : Tab} (h : AllI p x) (k : Nat) : AllI p (cutAt x k) := fun row hr => h row (mem_cut hr)
theorem AllI.cutc {p : Int → Prop} {x : Tab} (h : AllI p x) (k : Nat) : AllI p (x.map fun row => cutAt row k) := fun row hr i hi => by
  obtain ⟨r, hm, rfl⟩ := List.mem_map.mp hr
  exact h r hm i (mem_cut hi)
def AllG (p : Int → Prop) (g : Tab × Tab) : Prop := AllI p g.1 ∧ AllI p g.2
theorem Bnd.all {g : Tab × Tab} (h : Bnd g) : AllG In1000 g := h
def Wide (i : Int) : Prop := i.natAbs < 2 ^ 1100
theorem In1000.wide {i : Int} (h : In1000 i) : Wide i := by
  have : i.natAbs ≤ 1000 := by unfold In1000 at h; omega
  exact Nat.lt_of_le_of_lt this (by decide +kernel)
theorem wide_add {i n : Int} (h : In1000 i) (hn : n.natAbs < 2 ^ 1000) : Wide (i + n) := by
  have h1 : i.natAbs ≤ 1000 := by unfold In1000 at h; omega
  have h2 := Int.natAbs_add_le i n
  have h3 : 1000 + 2 ^ 1000 ≤ 2 ^ 1100 := by decide +kernel
  exact Nat.lt_of_le_of_lt h2 (by
    generalize (2 : Nat) ^ 1000 = a at *
    generalize (2 : Nat) ^ 1100 = b at *
    omega)
theorem AllI.mono {p q : Int → Prop} (f : ∀ i, p i → q i) {x : Tab} (h : AllI p x) : AllI q x := fun row hr i hi => f i (h row hr i hi)
theorem mv_wide {g : Tab × Tab} {sd n : Int} {k : Nat} {r c : Nat} (G : Good r c g) (B : Bnd g) (hn : n.natAbs < 2 ^ 1000) (hk : (sd = 0 ∧ k < c) ∨ (sd = 1 ∧ k < r)) : AllG Wide (mvG g sd k n) := by
  have w1 : AllI Wide g.1 := AllI.mono (fun i h => In1000.wide h) B.1
  have w2 : AllI Wide g.2 := AllI.mono (fun i h => In1000.wide h) B.2
  have h0 : In1000 0 := by unfold In1000; omega
  rcases hk with ⟨rfl, hk⟩ | ⟨rfl, hk⟩
  · rw [show mvG g 0 k n = (g.1.map fun row => bump row k n, g.2) from if_pos rfl]
    refine ⟨fun row hr i hi => ?_, w2⟩
    obtain ⟨r0, hm, rfl⟩ := List.mem_map.mp hr
    rcases mem_bump (by rw [G.one.2 r0 hm]; exact hk) hi with h | rfl
    · exact w1 r0 hm i h
    · exact wide_add (getD_all h0 (B.1 r0 hm) k) hn
  · rw [show mvG g 1 k n = (g.1, upRow g.2 k n) from if_neg (by decide)]
    refine ⟨w1, fun row hr i hi => ?_⟩
    unfold upRow at hr
    rcases List.mem_append.mp hr with hr | hr
    · rcases List.mem_append.mp hr with hr | hr
      · exact w2 row (List.mem_of_mem_take hr) i hi
      · rcases List.mem_singleton.mp hr with rfl
        obtain ⟨y, hy, rfl⟩ := List.mem_map.mp hi
        exact wide_add (B.2 _ (getD_mem (by rw [G.two.1]; exact hk)) y hy) hn
    · exact w2 row (List.mem_of_mem_drop hr) i hi
theorem good_mv {g : Tab × Tab} {sd n : Int} {k : Nat} {r c : Nat} (G : Good r c g) (hk : (sd = 0 ∧ k < c) ∨ (sd = 1 ∧ k < r)) : Good r c (mvG g sd k n) := by
  rcases hk with ⟨rfl, hk⟩ | ⟨rfl, hk⟩
  · rw [show mvG g 0 k n = (g.1.map fun row => bump row k n, g.2) from if_pos rfl]
    exact good_bump G hk
  · rw [show mvG g 1 k n = (g.1, upRow g.2 k n) from if_neg (by decide)]
    exact good_up G hk
theorem good_wo {g : Tab × Tab} {sd : Int} {k : Nat} {r c : Nat} (G : Good r c g) (B : Bnd g) (hk : (sd = 0 ∧ k < r) ∨ (sd = 1 ∧ k < c)) (h : sd = 0 ∧ r ≠ 1 ∨ sd = 1 ∧ c ≠ 1) :
    (∃ r' c', Good r' c' (woG g sd k)) ∧ Bnd (woG g sd k) := by
  rcases hk with ⟨rfl, hk⟩ | ⟨rfl, hk⟩
  · rw [show woG g 0 k = (cutAt g.1 k, cutAt g.2 k) from if_pos rfl]
    exact ⟨⟨_, _, good_cut G hk (by omega)⟩, AllI.cut B.1 k, AllI.cut B.2 k⟩
  · rw [show woG g 1 k = (g.1.map fun row => cutAt row k, g.2.map fun row => cutAt row k) from if_neg (by decide)]
    exact ⟨⟨r, c - 1, map_cut_shp G.one hk, map_cut_shp G.two hk, G.r1, G.r5, by have := G.c1; omega, by have := G.c5; omega⟩, AllI.cutc B.1 k, AllI.cutc B.2 k⟩
theorem exch_ok {g : Tab × Tab} {r c : Nat} (G : Good r c g) (B : Bnd g) : Good c r (tr c g.2, tr c g.1) ∧ Bnd (tr c g.2, tr c g.1) := by
  have h0 : In1000 0 := by unfold In1000; omega
  exact ⟨good_exch G, AllI.tr h0 B.2 c, AllI.tr h0 B.1 c⟩
theorem nice_row {r : List Int} (hl : r.length ≤ 5) (h : ∀ i ∈ r, Wide i) : Nice 1 1713 (rwD r) :=
  (nice_tup (n := 0) (m := 340) (ds := r.map .int) fun d hd => by
    obtain ⟨i, hi, rfl⟩ := List.mem_map.mp hd
    exact nice_int (h i hi)).mono (Nat.le_refl _) (by rw [List.length_map]; omega)
theorem nice_tab {x : Tab} {r c : Nat} (s : Shp r c x) (hr : r ≤ 5) (hc : c ≤ 5) (h : AllI Wide x) : Nice 2 8578 (tbD x) :=
  (nice_tup (n := 1) (m := 1713) (ds := x.map rwD) fun d hd => by
    obtain ⟨row, hm, rfl⟩ := List.mem_map.mp hd
    exact nice_row (by rw [s.2 row hm]; exact hc) (h row hm)).mono (Nat.le_refl _) (by rw [List.length_map, s.1]; omega)
theorem nice_gm {g : Tab × Tab} {r c : Nat} (G : Good r c g) (h : AllG Wide g) : Nice 3 17163 (gmD g) :=
  (nice_tup (n := 2) (m := 8578) (ds := [tbD g.1, tbD g.2]) fun d hd => by
    rcases List.mem_cons.mp hd with rfl | hd
    · exact nice_tab G.one G.r5 G.c5 h.1
    · rcases List.mem_singleton.mp hd with rfl
      exact nice_tab G.two G.r5 G.c5 h.2).mono (Nat.le_refl _) (by show 2 * (8578 + 2) + 3 ≤ _; decide)
theorem Bnd.wide {g : Tab × Tab} (h : Bnd g) : AllG Wide g := ⟨AllI.mono (fun i h => In1000.wide h) h.1, AllI.mono (fun i h => In1000.wide h) h.2⟩
/-- what comes of a deed can be told as text -/
theorem res_nice {way sd n : Int} {k r c : Nat} {g : Tab × Tab} {d : PyData} (G : Good r c g) (B : Bnd g) (hn : n.natAbs < 2 ^ 1000) (dd : Deed r c way sd k) (res : Res way sd k n r c g d) : Nice 4 51498 d := by
  have n3 : ∀ {e}, Nice 3 17163 e → Nice 4 51498 e := fun h => h.mono (by decide) (by decide)
  have mk : way = 1 → (sd = 0 ∧ k < c) ∨ (sd = 1 ∧ k < r) := fun e => by
    rcases dd with h | ⟨_, h⟩ | ⟨h, _⟩
    · omega
    · exact h
    · omega
  have wk : way = 2 → (sd = 0 ∧ k < r) ∨ (sd = 1 ∧ k < c) := fun e => by
    rcases dd with h | ⟨h, _⟩ | ⟨_, h⟩
    · omega
    · omega
    · exact h
  rcases res with ⟨_, rfl⟩ | ⟨e, b, rfl⟩ | ⟨e, b, rfl⟩ | ⟨e, b, rfl⟩ | ⟨e, b, rfl⟩
  · obtain ⟨a, b⟩ := exch_ok G B
    exact n3 (nice_gm a b.wide)
  · exact n3 (nice_gm (good_mv G (mk e)) b.wide)
  · refine (nice_list (n := 3) (m := 17163) (ds := [.bool true, .bool false, gmD (mvG g sd k n)]) fun d hd => ?_).mono (Nat.le_refl _) (by show 3 * (17163 + 2) + 3 ≤ _; decide)
    simp only [List.mem_cons, List.not_mem_nil, or_false] at hd
    rcases hd with rfl | rfl | rfl
    · exact (nice_bool _).mono (by decide) (by decide)
    · exact (nice_bool _).mono (by decide) (by decide)
    · exact nice_gm (good_mv G (mk e)) (mv_wide G B hn (mk e))
  · obtain ⟨⟨_, _, a⟩, b'⟩ := good_wo G B (wk e) b
    exact n3 (nice_gm a b'.wide)
  · refine (nice_list (n := 3) (m := 17163) (ds := [.bool false, .bool true, .int (k : Nat)]) fun d hd => ?_).mono (Nat.le_refl _) (by show 3 * (17163 + 2) + 3 ≤ _; decide)
    simp only [List.mem_cons, List.not_mem_nil, or_false] at hd
    have k5 : k < 5 := by
      have := G.r5
      have := G.c5
      rcases wk e with ⟨_, h⟩ | ⟨_, h⟩ <;> omega
    rcases hd with rfl | rfl | rfl
    · exact (nice_bool _).mono (by decide) (by decide)
    · exact (nice_bool _).mono (by decide) (by decide)
    · exact (nice_int (Nat.lt_of_le_of_lt (show ((k : Nat) : Int).natAbs ≤ 5 by omega) (by decide +kernel))).mono (by decide) (by decide)
section
variable {P : Program} {w : World} {K : PySem.W.Frag} {mg : Str → Option Value} {base : Heap}
variable {fL : Addr} {dL : FuncData}
/-- what is told when the source's copy is made -/
def spSource : Sp := fun vs H Q _ => ∃ (a : Addr) (is : List Int), vs = [.ref a] ∧ SqL K H a (is.map V.int) ∧ ∀ H' p sc, Same H H' → Ctx [p] p sc is H' → Q (.ref p) H'
theorem ok_source {f : Addr} {fd : FuncData} (F : Fun K "_law_source" "_law_source" sLSource f fd) (ml : mg "list" = none) :
    FnOk P w K mg base CX0 1 f fd ["script"] (spSource (K := K)) := by
  refine F.ok scLSource (fun vs H Q E h => ?_) (fun cdv A outer s H vs Q E hr h => ?_)
  · obtain ⟨a, is, rfl, _⟩ := h
    rfl
  · obtain ⟨a, is, rfl, hs, q⟩ := h
    refine ⟨_, pss_one (ps_ret (pe_lst (pa_cons (pe_callTy call_list_of (by rfl) ml (by decide +kernel) (pa_cons (pv 0) pa_nil)) (pa_cons pe_int (pa_cons pe_int (pa_cons pe_int (pa_cons pe_int pa_nil))))))), ?_⟩
    refine ⟨.ref a, rfl, a, _, rfl, .inl hs, fun sc hsc => ⟨by show 5 ≤ sizeLine; decide, fun p hp => ?_⟩⟩
    have np : p ≠ sc := fun z => by rw [z, upd_same] at hp; cases hp
    refine q _ p sc ((same_new hsc).trans (same_new hp)) ⟨⟨np, by rw [upd_ne np.symm]; exact upd_same, _, upd_same, 0, 0, 1, 0, rfl, by decide, by decide, by decide, by decide⟩, List.mem_cons_self, fun b hb => ?_⟩
    rcases List.mem_singleton.mp hb with rfl
    rw [upd_same]; exact fun z => nomatch z
def spRight : Sp := fun vs H Q _ => ∃ v g r c t way sd k n u e named, vs = [.int named, v, t, u] ∧ RD H v (gmD g) ∧ Good r c g ∧ Bnd g ∧ RD H t (.tuple [.int way, .int sd, .int (k : Nat), .int n]) ∧ Deed r c way sd k ∧
  Res way sd k n r c g e ∧ n.natAbs < 2 ^ 1000 ∧ RD H u e ∧ (named = 0 ∨ named = 1) ∧ ∀ H', Same H H' → Q (.bl true) H'
theorem ok_right {f : Addr} {fd : FuncData} (F : Fun K "_law_right" "_law_right" sLRight f fd) (mr : mg "repr" = none)
    (FL : Fun K "_law_call" "_law_call" sLCall fL dL) (bL : Binds K dL ["way", "named", "game", "side", "choice", "number"] []) (gL : mg "_law_call" = some (.ref fL)) (GL' : FnOk P w K mg base CX0 10 fL dL ["way", "named", "game", "side", "choice", "number"] spCallL) :
    FnG P w K mg base CX0 11 f fd ["named", "game", "deed", "due"] spRight := by
  refine okG F scLRight (fun vs H Q E h => ?_) (fun cdv A outer s H vs Q E hr hgu h => ?_)
  · obtain ⟨v, g, r, c, t, way, sd, k, n, u, e, named, rfl, _⟩ := h
    rfl
  · obtain ⟨v, g, r, c, t, way, sd, k, n, u, e, named, rfl, rd, G, B, rt, dd, res, hn, ru, hna, q⟩ := h
    have hu : (A.deeper (envOfC "_law_right" (defScope sLRight) s.heap.objs.size f cdv)).units + 150 < cLine := by
      have := hr.un; omega
    refine ⟨_, pss_cons (ps_set (i := 4) scLRight.nd rfl (.inl rfl) (pe_callB (call_reprD hgu hu) (by rfl) mr PyProof.Rows.boot_repr (pa_cons (pv 1) pa_nil)))
      (pss_cons (ps_set (i := 5) scLRight.nd rfl (.inl rfl) (pe_call GL' hr (by rfl) gL FL.kp bL .nil pass0 (pa_cons (pe_ix ix_tup (pv 2) pe_int (fun _ _ => rfl)) (pa_cons (pv 0) (pa_cons (pv 1)
          (pa_cons (pe_ix ix_tup (pv 2) pe_int (fun _ _ => rfl)) (pa_cons (pe_ix ix_tup (pv 2) pe_int (fun _ _ => rfl)) (pa_cons (pe_ix ix_tup (pv 2) pe_int (fun _ _ => rfl)) pa_nil))))))))
      (pss_one (ps_ret (pe_and (pe_cmpR op_eq (pe_callB (call_reprD hgu hu) (by rfl) mr PyProof.Rows.boot_repr (pa_cons (pv 5) pa_nil)) (pe_callB (call_reprD hgu hu) (by rfl) mr PyProof.Rows.boot_repr (pa_cons (pv 3) pa_nil)) (nomark _))
        (pe_one (pe_cmpR op_eq (pe_callB (call_reprD hgu hu) (by rfl) mr PyProof.Rows.boot_repr (pa_cons (pv 1) pa_nil)) (pv 4) (nomark _))))))), ?_⟩
    have ng := nice_gm G B.wide
    have ne := res_nice G B hn dd res
    have dp := Nat.le_trans ng.2.1 (show 3 ≤ 100 by decide)
    have sz := Nat.le_trans ng.2.2 (show 17163 ≤ sizeLine by rw [sizeLine_eq]; decide)
    have dp' := Nat.le_trans ne.2.1 (show 4 ≤ 100 by decide)
    have sz' := Nat.le_trans ne.2.2 (show 51498 ≤ sizeLine by rw [sizeLine_eq]; decide)
    refine ⟨v, rfl, v, gmD g, rfl, rd, ng.1, dp, sz, ?_⟩
    cases rt with
    | tup ht rs =>
      cases rs with
      | cons q1 rs => cases rs with
        | cons q2 rs => cases rs with
          | cons q3 rs => cases rs with
            | cons q4 rs =>
              cases rs; cases q1; cases q2; cases q3; cases q4
              refine ⟨.ref _, rfl, _, _, 0, .int way, rfl, rfl, SqT.of ht, atI_nat (j := 0) rfl, .int named, rfl, v, rfl, .ref _, rfl, _, _, 1, .int sd, rfl, rfl, SqT.of ht, atI_nat (j := 1) rfl,
                .ref _, rfl, _, _, 2, .int (k : Nat), rfl, rfl, SqT.of ht, atI_nat (j := 2) rfl, .ref _, rfl, _, _, 3, .int n, rfl, rfl, SqT.of ht, atI_nat (j := 3) rfl, ?_⟩
              refine ⟨v, g, r, c, way, sd, k, n, named, e, rfl, rd, G, B, dd, hna, res, fun H1 v1 S1 r1 => ?_⟩
              refine ⟨v1, rfl, v1, e, rfl, r1, ne.1, dp', sz', u, rfl, u, e, rfl, ru.keep S1, ne.1, dp', sz', ?_⟩
              refine ⟨rfl, _, rfl, ?_⟩
              rw [decide_eq_true rfl]
              refine iteT ⟨v, rfl, v, gmD g, rfl, rd.keep S1, ng.1, dp, sz, ?_⟩
              refine ⟨_, rfl, rfl, ?_⟩
              rw [decide_eq_true rfl]
              exact q _ S1
end
end K04

/-! R19: law. -/
namespace K04
open PySem PySem.Spec PyProof.Rows L2 GL
/-! ### a drawn game as tables -/
theorem row_of {c : Nat} {d : PyData} (h : RowC c d) : ∃ r : List Int, d = rwD r ∧ r.length = c ∧ ∀ i ∈ r, In1000 i := by
  obtain ⟨es, rfl, hl, he⟩ := h
  have : ∃ r : List Int, es = r.map .int ∧ ∀ i ∈ r, In1000 i := by
    clear hl
    induction es with
    | nil => exact ⟨[], rfl, fun _ h => by cases h⟩
    | cons e es ih =>
      obtain ⟨r, e1, h1⟩ := ih fun x hx => he x (List.mem_cons_of_mem _ hx)
      obtain ⟨i, rfl, a, b⟩ := he e List.mem_cons_self
      refine ⟨i :: r, by rw [e1]; rfl, fun j hj => ?_⟩
      rcases List.mem_cons.mp hj with rfl | hj
      · exact ⟨a, b⟩
      · exact h1 j hj
  obtain ⟨r, rfl, h1⟩ := this
  exact ⟨r, rfl, by rw [← hl, List.length_map], h1⟩
theorem tab_of {r c : Nat} {d : PyData} (h : TabC r c d) : ∃ x : Tab, d = tbD x ∧ Shp r c x ∧ BndT x := by
  obtain ⟨ds, rfl, hl, hd⟩ := h
  have : ∃ x : Tab, ds = x.map rwD ∧ (∀ row ∈ x, row.length = c) ∧ BndT x := by
    clear hl
    induction ds with
    | nil => exact ⟨[], rfl, fun _ h => (by cases h), fun _ h => by cases h⟩
    | cons e es ih =>
      obtain ⟨x, e1, h1, h2⟩ := ih fun y hy => hd y (List.mem_cons_of_mem _ hy)
      obtain ⟨row, rfl, a, b⟩ := row_of (hd e List.mem_cons_self)
      refine ⟨row :: x, by rw [e1]; rfl, fun j hj => ?_, fun j hj => ?_⟩
      · rcases List.mem_cons.mp hj with rfl | hj
        · exact a
        · exact h1 j hj
      · rcases List.mem_cons.mp hj with rfl | hj
        · exact b
        · exact h2 j hj
  obtain ⟨x, rfl, h1, h2⟩ := this
  exact ⟨x, rfl, ⟨by rw [← hl, List.length_map], h1⟩, h2⟩
theorem gam_of {r c : Nat} {d : PyData} (h : GamC r c d) (r1 : 1 ≤ r) (r5 : r ≤ 5) (c1 : 1 ≤ c) (c5 : c ≤ 5) : ∃ g, d = gmD g ∧ Good r c g ∧ Bnd g := by
  obtain ⟨x, y, rfl, hx, hy⟩ := h
  obtain ⟨a, rfl, s1, b1⟩ := tab_of hx
  obtain ⟨b, rfl, s2, b2⟩ := tab_of hy
  exact ⟨(a, b), rfl, ⟨s1, s2, r1, r5, c1, c5⟩, b1, b2⟩
/-- what is asked: how it was not, the game, the deed and what is due -/
def AskC : PyData → Prop := fun d => ∃ named g r c way sd k n e, d = .tuple [.int named, gmD g, .tuple [.int way, .int sd, .int (k : Nat), .int n], e] ∧ (named = 0 ∨ named = 1) ∧ Good r c g ∧ Bnd g ∧ Deed r c way sd k ∧
  Res way sd k n r c g e ∧ n.natAbs < 2 ^ 1000
theorem RD.putD {l : List Addr} {D : Addr} {H : Hp} {o : HO} {v d} (r : RD (hid (D :: l) H) v d) : RD (hid (D :: l) (upd H D o)) v d := r.keep fun b o e => by
  obtain ⟨n, e'⟩ := hid_of e
  exact hid_mk n (by rw [upd_ne (fun z => n (by rw [z]; exact List.mem_cons_self))]; exact e')
theorem RD.lift {l : List Addr} {D : Addr} {G : Hp} {x d} (r : RD (hid l G) x d) (hD : G D = none) : RD (hid (D :: l) G) x d := r.keep fun b o e => by
  obtain ⟨n1, n2⟩ := hid_of e
  exact hid_mk (fun z => by
    rcases List.mem_cons.mp z with rfl | z
    · rw [hD] at n2; cases n2
    · exact n1 z) n2
theorem kit_tup {K : PySem.W.Frag} {ds : List PyData} : PySem.W.kitOne K (.type (tyD (.tuple ds))) (.type "tuple") = some true := kit_ty (show kitB "tuple" "tuple" = some true by decide +kernel)
theorem kit_lst {K : PySem.W.Frag} {ds : List PyData} : PySem.W.kitOne K (.type (tyD (.list ds))) (.type "tuple") = some false := kit_ty (show kitB "list" "tuple" = some false by decide +kernel)
/-- the next game, if there is one -/
theorem next_game {way sd n : Int} {k r c : Nat} {g : Tab × Tab} {d : PyData} (G : Good r c g) (B : Bnd g) (dd : Deed r c way sd k) (res : Res way sd k n r c g d) :
    (∃ g' r' c', d = gmD g' ∧ Good r' c' g' ∧ Bnd g') ∨ ∃ ds, d = .list ds := by
  have mk : way = 1 → (sd = 0 ∧ k < c) ∨ (sd = 1 ∧ k < r) := fun e => by
    rcases dd with h | ⟨_, h⟩ | ⟨h, _⟩
    · omega
    · exact h
    · omega
  have wk : way = 2 → (sd = 0 ∧ k < r) ∨ (sd = 1 ∧ k < c) := fun e => by
    rcases dd with h | ⟨h, _⟩ | ⟨_, h⟩
    · omega
    · omega
    · exact h
  rcases res with ⟨_, rfl⟩ | ⟨e, b, rfl⟩ | ⟨e, b, rfl⟩ | ⟨e, b, rfl⟩ | ⟨e, b, rfl⟩
  · exact .inl ⟨_, _, _, rfl, (exch_ok G B).1, (exch_ok G B).2⟩
  · exact .inl ⟨_, _, _, rfl, good_mv G (mk e), b⟩
  · exact .inr ⟨_, rfl⟩
  · obtain ⟨⟨_, _, a⟩, b'⟩ := good_wo G B (wk e) b
    exact .inl ⟨_, _, _, rfl, a, b'⟩
  · exact .inr ⟨_, rfl⟩
theorem RDs.rev {H : Hp} : ∀ {vs ds}, RDs H vs ds → RDs H vs.reverse ds.reverse
  | _, _, .nil => .nil
  | _, _, .cons a b => by
    rw [List.reverse_cons, List.reverse_cons]
    exact RDs.app (.cons a .nil) (RDs.rev b)
section
variable {P : Program} {w : World} {K : PySem.W.Frag} {mg : Str → Option Value} {base : Heap}
/-- a def that is called, with its level -/
structure CalT (P : Program) (w : World) (K : PySem.W.Frag) (mg : Str → Option Value) (base : Heap) (k : Nat) (nm : Str) (st : Stmt) (ps : List Str) (sp : Sp) (f : Addr) (fd : FuncData) : Prop where
  F : Fun K nm nm st f fd
  b : Binds K fd ps []
  g : mg nm = some (.ref f)
  G : FnOk P w K mg base CX0 k f fd ps sp
variable {fS fG fP fD fR fT : Addr} {dS dG dP dD dR dT : FuncData}
def spLaw (K : PySem.W.Frag) : Sp := fun vs H Q _ => ∃ (a : Addr) (is : List Int), vs = [.ref a] ∧ SqL K H a (is.map V.int) ∧ ∀ H', Q (.bl true) H'
theorem ok_law {f : Addr} {fd : FuncData} (F : Fun K "law" "law" sLaw f fd)
    (CS : CalT P w K mg base 1 "_law_source" sLSource ["script"] (spSource (K := K)) fS dS)
    (CG : CalT P w K mg base 4 "_law_game" sLGame ["source", "most"] spGame fG dG)
    (CP : CalT P w K mg base 1 "_law_pick" sLPick ["source", "many"] (spPick 0) fP dP)
    (CD : CalT P w K mg base 3 "_law_drawn" sLDrawn ["source", "game"] spDrawn fD dD)
    (CT : CalT P w K mg base 8 "turned" sTurned ["game"] spTurned fT dT)
    (FR : Fun K "_law_right" "_law_right" sLRight fR dR) (bR : Binds K dR ["named", "game", "deed", "due"] []) (gR : mg "_law_right" = some (.ref fR)) (GR : FnG P w K mg base CX0 11 fR dR ["named", "game", "deed", "due"] spRight)
    (mr : mg "range" = none) (mx : mg "max" = none) (mn : mg "min" = none) (ml : mg "len" = none) (mt : mg "tuple" = none) (mi : mg "isinstance" = none) (mp : mg "repr" = none) :
    FnG P w K mg base CX0 12 f fd ["script"] (spLaw K) := by
  refine okG F scLaw (fun vs H Q E h => ?_) (fun cdv A outer s H vs Q E hr hgu h => ?_)
  · obtain ⟨a, is, rfl, _⟩ := h
    rfl
  · obtain ⟨a, is, rfl, hS, q⟩ := h
    have h1 := hr.mono (show 1 ≤ 11 by omega)
    have h3 := hr.mono (show 3 ≤ 11 by omega)
    have h4 := hr.mono (show 4 ≤ 11 by omega)
    have h6 := hr.mono (show 8 ≤ 11 by omega)
    have hu : (A.deeper (envOfC "law" (defScope sLaw) s.heap.objs.size f cdv)).units + 150 < cLine := by
      have := hr.un; omega
    refine ⟨_, pss_cons (ps_set (i := 1) scLaw.nd rfl (.inl rfl) (pe_call CS.G h1 (by rfl) CS.g CS.F.kp CS.b .nil pass0 (pa_cons (pv 0) pa_nil)))
      (pss_cons (ps_for PassesOwn.never rfl (pi_range1 (by rfl) mr (pa_cons (pe_callB (call_max2 rfl) (by rfl) mx (by decide +kernel) (pa_cons pe_int (pa_cons
            (pe_callB (call_min2 rfl) (by rfl) mn (by decide +kernel) (pa_cons pe_int (pa_cons (pe_callB call_len_seq (by rfl) ml PySem.boot_len (pa_cons (pv 0) pa_nil)) pa_nil))) pa_nil))) pa_nil)) (pg_name (i := 2) scLaw.nd rfl (.inl rfl))
        (pss_cons (ps_set (i := 3) scLaw.nd rfl (.inl rfl) (pe_call CG.G h4 (by rfl) CG.g CG.F.kp CG.b .nil pass0 (pa_cons (pv 1) (pa_cons pe_int pa_nil))))
        (pss_cons (ps_set (i := 4) scLaw.nd rfl (.inl rfl) (pe_lst pa_nil))
        (pss_cons (ps_for PassesOwn.never rfl (pi_range1 (by rfl) mr (pa_cons pe_int pa_nil)) (pg_name (i := 5) scLaw.nd rfl (.inl rfl))
          (pss_cons (ps_asg (pe_call CD.G h3 (by rfl) CD.g CD.F.kp CD.b .nil pass0 (pa_cons (pv 1) (pa_cons (pv 3) pa_nil)))
              (pg_tup rfl (pgs_cons (pg_name (i := 6) scLaw.nd rfl (Or.inl rfl)) (pgs_cons (pg_name (i := 7) scLaw.nd rfl (Or.inl rfl)) pgs_nil))))
          (pss_cons (ps_set (i := 8) scLaw.nd rfl (.inl rfl) (pe_call CP.G h1 (by rfl) CP.g CP.F.kp CP.b .nil pass0 (pa_cons (pv 1) (pa_cons pe_int pa_nil))))
          (pss_cons (ps_if (pt_not (pt_val (pe_callG GR hr hgu (by rfl) gR FR.kp bR .nil pass0 (pa_cons (pv 8) (pa_cons (pv 3) (pa_cons (pv 6) (pa_cons (pv 7) pa_nil))))))) (pss_one (ps_ret pe_bl)) pss_nil)
          (pss_cons (ps_expr (pe_bm PySem.F.plainAttrs_list PySem.F.slot_list_append PySem.F.type_list_append mt_append (pv 4)
              (pa_cons (pe_tup (pa_cons (pe_op op_sub pe_int (pv 8)) (pa_cons (pv 3) (pa_cons (pv 6) (pa_cons (pv 7) pa_nil))))) pa_nil)))
          (pss_one (ps_if (pt_val (pe_callB call_isi (by rfl) mi (by decide +kernel) (pa_cons (pv 7) (pa_cons (pe_bltn (v := .ty "tuple") (by rfl) mt (by decide +kernel) rfl) pa_nil))))
            (pss_one (ps_set (i := 3) scLaw.nd rfl (.inl rfl) (pv 7))) pss_nil)))))))
        (pss_cons (ps_for PassesOwn.never rfl (pi_list (pe_revL (pv 4))) (pg_tup rfl (pgs_cons (pg_name (i := 8) scLaw.nd rfl (Or.inl rfl)) (pgs_cons (pg_name (i := 9) scLaw.nd rfl (Or.inl rfl))
              (pgs_cons (pg_name (i := 6) scLaw.nd rfl (Or.inl rfl)) (pgs_cons (pg_name (i := 7) scLaw.nd rfl (Or.inl rfl)) pgs_nil)))))
          (pss_one (ps_if (pt_not (pt_val (pe_callG GR hr hgu (by rfl) gR FR.kp bR .nil pass0 (pa_cons (pv 8) (pa_cons (pv 9) (pa_cons (pv 6) (pa_cons (pv 7) pa_nil))))))) (pss_one (ps_ret pe_bl)) pss_nil)))
        (pss_one (ps_if (pt_cmpR op_ne (pe_callB (call_reprD hgu hu) (by rfl) mp PyProof.Rows.boot_repr (pa_cons (pe_call CT.G h6 (by rfl) CT.g CT.F.kp CT.b .nil pass0 (pa_cons
              (pe_call CT.G h6 (by rfl) CT.g CT.F.kp CT.b .nil pass0 (pa_cons (pv 3) pa_nil)) pa_nil)) pa_nil))
            (pe_callB (call_reprD hgu hu) (by rfl) mp PyProof.Rows.boot_repr (pa_cons (pv 3) pa_nil)) (nomark _)) (pss_one (ps_ret pe_bl)) pss_nil)))))))
      (pss_one (ps_ret pe_bl))), ?_⟩
    have mo : most 0 = 100000 := rfl
    refine ⟨.ref a, rfl, a, is, rfl, hS, fun H1 p sc S1 cc1 => ?_⟩
    refine ⟨.ref a, rfl, a, _, rfl, .inl (S1.seq hS), _, _, rfl, _, _, rfl, ?_⟩
    rw [List.length_map]
    have hm : ∃ m : Nat, m ≤ 3 ∧ (if (if (is.length : Int) < 3 then (is.length : Int) else 3) > 1 then (if (is.length : Int) < 3 then (is.length : Int) else 3) else 1) = (m : Int) := by
      have h1 : 0 ≤ (if (if (is.length : Int) < 3 then (is.length : Int) else 3) > 1 then (if (is.length : Int) < 3 then (is.length : Int) else 3) else 1) := by
        split <;> (try split) <;> omega
      have h2 : (if (if (is.length : Int) < 3 then (is.length : Int) else 3) > 1 then (if (is.length : Int) < 3 then (is.length : Int) else 3) else 1) ≤ 3 := by
        split <;> (try split) <;> omega
      exact ⟨Int.toNat _, by omega, (Int.toNat_of_nonneg h1).symm⟩
    obtain ⟨mm, hm4, em⟩ := hm
    rw [em]
    refine ⟨(mm : Int), rfl, by omega, by omega, for_range (lo := 0) (n := mm) (fun i σ H' => (∃ y2 y3 y4 y5 y6 y7 y8 y9 : Option V, σ = [some (.ref a), some (.ref p), y2, y3, y4, y5, y6, y7, y8, y9]) ∧ Ctx [p] p sc is H')
      ⟨⟨none, none, none, none, none, none, none, none, rfl⟩, cc1⟩ (fun i σ H2 hi hP => ?_) (fun σ H2 hP => q H2)⟩
    obtain ⟨⟨y2, y3, y4, y5, y6, y7, y8, y9, rfl⟩, c2⟩ := hP
    have m : p ∈ [p] := List.mem_cons_self
    -- game
    refine ⟨.ref p, rfl, [p], p, sc, is, rfl, c2, fun H3 g0 d0 k3 c3 rg ⟨r0, cl0, r1, r5, cl1, cl5, gm⟩ => ?_⟩
    obtain ⟨g0', rfl, G0, B0⟩ := gam_of gm r1 r5 cl1 cl5
    refine ⟨by show 0 ≤ sizeLine; decide, fun D hD => ?_⟩
    have nDp : D ≠ p := fun z => c3.here p m (z ▸ hD)
    have al : ∀ {H' : Hp} {i : Nat}, Dr [p] p sc is H3 D AskC i H' → AllL [D, p] H' := fun {H'} {i} h b hb => by
      obtain ⟨vs, ds, e, _, _, _, _, c⟩ := h
      rcases List.mem_cons.mp hb with rfl | hb
      · exact ⟨_, e⟩
      · rcases List.mem_singleton.mp hb with rfl
        obtain ⟨_, _, o, ho, i, r, sd, n, rfl, _⟩ := c.src
        exact ⟨_, ho⟩
    refine ⟨8, rfl, by decide, by decide, for_range (lo := 0) (n := 8) (fun i' σ J => ∃ (z5 z6 z7 z8 z9 : Option V) (v : V) (g : Tab × Tab) (r c : Nat),
        σ = [some (.ref a), some (.ref p), some (.int (0 + (i : Nat))), some v, some (.ref D), z5, z6, z7, z8, z9] ∧ Dr [p] p sc is H3 D AskC i' J ∧ RD (hid [D, p] J) v (gmD g) ∧ Good r c g ∧ Bnd g)
      ⟨_, _, _, _, _, _, _, _, _, rfl, .zero c3 hD, RD.putD (RD.lift rg hD), G0, B0⟩ (fun i' σ J hi' pv => ?_) (fun σ J pv => ?_)⟩
    · obtain ⟨z5, z6, z7, z8, z9, v, g, r, c, rfl, pv, rd, G, B⟩ := pv
      have cJ := pv.ctx
      refine ⟨.ref p, rfl, v, rfl, [D, p], p, sc, is, v, g, r, c, rfl, cJ, al pv, rd, G, B, fun J1 vd d1 k1 c1 r1 dr => ?_⟩
      obtain ⟨way, sd, k, n, e, rfl, dd, res, hn⟩ := dr
      have mD : p ∈ [D, p] := List.mem_cons_of_mem _ List.mem_cons_self
      have rd1 := RD.hk mD k1 rd
      obtain ⟨t, vs2, rfl, _, ht', rs2⟩ := r1.tupOf (ds := [.tuple [.int way, .int sd, .int (k : Nat), .int n], e]) rfl
      cases rs2 with
      | cons q1 rs2 =>
        cases rs2 with
        | cons q2 rs2 =>
          cases rs2
          rename_i vt vu
          have ht2 := (hid_of ht').2
          refine ⟨t, [vt, vu], rfl, SqT.of ht2, rfl, _, _, rfl, _, _, rfl, rfl, ?_⟩
          refine ⟨.ref p, rfl, p, sc, is, 2, rfl, by decide, by rw [mo]; decide, small 2 (by decide) (by decide), c1.src, fun nm o9 nm0 nm1 so9 => ?_⟩
          have hnm : nm = 0 ∨ nm = 1 := by omega
          have c2' := c1.put so9
          have k2 : Kp p J1 (upd J1 p o9) := Kp.put
          generalize upd J1 p o9 = J2 at c2' k2
          have rd2 := RD.hk mD k2 rd1
          have t2 := RD.hk mD k2 q1
          have u2 := RD.hk mD k2 q2
          refine ⟨.int nm, rfl, v, rfl, vt, rfl, vu, rfl, v, g, r, c, vt, way, sd, k, n, vu, e, nm, rfl, RD.out rd2, G, B, RD.out t2, dd, res, hn, RD.out u2, hnm, fun J3 S3 => ⟨true, rfl, iteF ?_⟩⟩
          have c4 := c2'.sm S3
          have k4 := (k1.trans k2).trans (Kp.same S3)
          have rd4 := RD.hk mD (Kp.same S3) rd2
          have t4 := RD.hk mD (Kp.same S3) t2
          have u4 := RD.hk mD (Kp.same S3) u2
          obtain ⟨acc, hacc, lacc⟩ : ∃ acc, J3 D = some (.lst acc) ∧ acc.length < 1000000 := by
            obtain ⟨vs, ds, e1, e2, _⟩ := pv
            exact ⟨vs, k4 D _ nDp e1, by omega⟩
          refine ⟨.ref D, rfl, .inl ⟨rfl, _, SqL.of hacc⟩, .int nm, rfl, _, _, rfl, rfl, v, rfl, vt, rfl, vu, rfl, by show 4 ≤ sizeLine; decide, fun tt htt => ?_⟩
          have s5 := RD.tupN c4 htt (.cons (.int (1 - nm)) (.cons rd4 (.cons t4 (.cons u4 .nil))))
          have c5 := c4.new (o := .tup [.int (1 - nm), v, vt, vu]) htt
          have j5 := Kp.new (p := p) (o := .tup [.int (1 - nm), v, vt, vu]) htt
          have k5 := k4.trans j5
          have rd5 := RD.hk mD j5 rd4
          have u5 := RD.hk mD j5 u4
          dsimp only
          generalize upd J3 tt (.tup [.int (1 - nm), v, vt, vu]) = J4 at s5 c5 j5 k5 rd5 u5
          obtain ⟨acc', ha', la', pv'⟩ := pv.step hD c3 (by omega) k5 c5 s5 ⟨1 - nm, g, r, c, way, sd, k, n, e, rfl, by omega, G, B, dd, res, hn⟩
          refine ⟨D, acc', _, rfl, rfl, ha', la', ?_⟩
          have u6 := RD.putD (o := .lst (acc' ++ [.ref tt])) u5
          have rd6 := RD.putD (o := .lst (acc' ++ [.ref tt])) rd5
          rcases next_game G B dd res with ⟨g', r', c', rfl, G', B'⟩ | ⟨ds, rfl⟩
          · refine ⟨vu, rfl, vu, .ty "tuple", _, _, _, rfl, .ty _, (RD.out u6).tyX, kit_tup, _, rfl, iteT ⟨vu, rfl, ?_⟩⟩
            exact ⟨_, _, _, _, _, vu, g', r', c', rfl, pv', u6, G', B'⟩
          · refine ⟨vu, rfl, vu, .ty "tuple", _, _, _, rfl, .ty _, (RD.out u6).tyX, kit_lst, _, rfl, iteF ?_⟩
            exact ⟨_, _, _, _, _, v, g, r, c, rfl, pv', rd6, G, B⟩
    · obtain ⟨z5, z6, z7, z8, z9, v, g, r, c, rfl, pv, rd, G, B⟩ := pv
      have cJ := pv.ctx
      have nD := nDp
      obtain ⟨vs, ds, e, hl, rs, hc, kJ, _⟩ := pv
      have cP : Ctx [p] p sc is J := cJ.tail c3
      refine ⟨.ref D, rfl, D, vs, rfl, SqL.of e, fun l9 hl9 => ?_⟩
      have rs9 := RDs.hk m (Kp.new (o := .lst vs.reverse) hl9) (RDs.rev (RDs.less rs))
      have rd9 := RD.hk m (Kp.new (o := .lst vs.reverse) hl9) (RD.less rd)
      have c9 := cP.new (o := .lst vs.reverse) hl9
      have e9 : upd J l9 (.lst vs.reverse) l9 = some (.lst vs.reverse) := upd_same
      generalize upd J l9 (.lst vs.reverse) = J1 at rs9 rd9 c9 e9
      refine ⟨l9, rfl, ⟨vs.reverse, SqL.of e9⟩, for_list (xs := vs.reverse) (fun i' σ H' => ∃ (z5 z6 z7 z8 z9 : Option V),
          σ = [some (.ref a), some (.ref p), some (.int (0 + (i : Nat))), some v, some (.ref D), z5, z6, z7, z8, z9] ∧ Same J1 H')
        ⟨_, _, _, _, _, rfl, .refl J1⟩ (fun i' σ H' _ pv => by obtain ⟨_, _, _, _, _, _, S⟩ := pv; exact SqL.of (S _ _ e9)) (fun i' x σ H' hi' pv => ?_) (fun σ H' pv => ?_)⟩
      · obtain ⟨z5, z6, z7, z8, z9, rfl, S⟩ := pv
        obtain ⟨dx, edx, rx⟩ := RDs.at rs9 hi'
        obtain ⟨nm, g1, r1, c1, way, sd, k, n, e1, rfl, hnm, G1, B1, dd, res, hn⟩ := hc dx (List.mem_reverse.mp (List.mem_of_getElem? edx))
        have rx2 := (RD.out rx).keep S
        obtain ⟨t, vs2, rfl, _, ht', rs2⟩ := rx2.tupOf (ds := [.int nm, gmD g1, .tuple [.int way, .int sd, .int (k : Nat), .int n], e1]) rfl
        cases rs2 with
        | cons q1 rs2 => cases rs2 with
          | cons q2 rs2 => cases rs2 with
            | cons q3 rs2 => cases rs2 with
              | cons q4 rs2 =>
                cases rs2
                cases q1
                rename_i vg vt vu
                refine ⟨t, [.int nm, vg, vt, vu], rfl, SqT.of ht', rfl, _, _, rfl, _, _, rfl, _, _, rfl, _, _, rfl, rfl, ?_⟩
                refine ⟨.int nm, rfl, vg, rfl, vt, rfl, vu, rfl, vg, g1, r1, c1, vt, way, sd, k, n, vu, e1, nm, rfl, q2, G1, B1, q3, dd, res, hn, q4, hnm, fun H3 S3 => ⟨true, rfl, iteF ?_⟩⟩
                exact ⟨_, _, _, _, _, rfl, S.trans S3⟩
      · obtain ⟨z5, z6, z7, z8, z9, rfl, S⟩ := pv
        have cS := c9.sm S
        obtain ⟨Gt, Bt⟩ := exch_ok G B
        refine ⟨v, rfl, v, g, r, c, rfl, (RD.out rd9).keep S, G, B, fun H4 v4 S4 r4 => ⟨v4, _, c, r, rfl, r4, Gt, Bt, fun H5 v5 S5 r5 => ?_⟩⟩
        rw [show (tr r (tr c g.2, tr c g.1).2, tr r (tr c g.2, tr c g.1).1) = g from by
          show (tr r (tr c g.1), tr r (tr c g.2)) = g
          rw [tr_tr G.one, tr_tr G.two]] at r5
        have ng := nice_gm G B.wide
        have dp := Nat.le_trans ng.2.1 (show 3 ≤ 100 by decide)
        have sz := Nat.le_trans ng.2.2 (show 17163 ≤ sizeLine by rw [sizeLine_eq]; decide)
        refine ⟨v5, gmD g, rfl, r5, ng.1, dp, sz, v, rfl, v, gmD g, rfl, (((RD.out rd9).keep S).keep S4).keep S5, ng.1, dp, sz, ?_⟩
        refine ⟨rfl, _, rfl, ?_⟩
        rw [decide_eq_true rfl]
        refine iteF ⟨⟨_, _, _, _, _, _, _, _, rfl⟩, (cS.sm S4).sm S5⟩
end
end K04

/-! G6: as G2, for texts that import. G2: the head of a law whose def is proved by G0's rules. -/
namespace GL
open PySem PySem.Spec PyProof.Rows L2

section
variable {P : Program} {w : World} {K : PySem.W.Frag} {mg mb : Str → Option Value} {k : Nat} {fa a : Addr}
variable {fd : FuncData} {x : Str} {sp : Sp} {s₁ : Shared} {vs : List Value} {ns : List Int}

def scrI (vs : List Value) : Obj := { cls := .type "list", data := .seq vs.toArray }

/-- from an abstract heap in which at most the script stands -/
theorem law_coreI {H : Hp} (KX : K.In s₁.heap) (hns : s₁.heap.Ns mainGlobals mg) (hb : s₁.heap.Ns builtinsNs mb)
    (hbb : ∀ y : Str, y ≠ "__name__" → mb y = bootBuiltins y) (hlim : s₁.heap.NoLimit)
    (hg : s₁.gens = #[])
    (ha : s₁.heap.get? a = some (scrI vs)) (hr : Room k callerA)
    (F : ∀ base : Heap, K.In base → base.Ns mainGlobals mg → FnG P w K mg base CX0 k fa fd [x] sp)
    (hbind : ∀ (s : Shared) (u : Value), BindsTo s fd ⟨[u], []⟩ [(x, u)])
    (hH : ∀ b, H b = none ∨ (b = a ∧ K.lookup a = none ∧ H b = some (.frz (scrI vs) (.lst (ns.map V.int)))))
    (hok : HOk P w H s₁.heap) (hsp : sp [.ref a] H (fun v _ => v = .bl true) fun _ _ _ => False) :
    codeAny (model P w) callerA (.call (.ref fa) ⟨[.ref a], []⟩)
      (fun r s' => r = .ok (.ret (.bool true)) ∧ OldK s₁.heap s'.heap ∧ s'.os = s₁.os ∧ AllBare s'.gens) s₁ := by
  -- an object of the heap that is no script is not tracked
  have off : ∀ {b : Addr} {o : Obj}, s₁.heap.get? b = some o → (b = a → False) → H b = none :=
    fun {b o} _ n => (hH b).elim id fun z => (n z.1).elim
  have ofK : ∀ {b : Addr} {o : Obj}, K.lookup b = some o → H b = none := fun {b o} e =>
    (hH b).elim id fun z => by rw [z.1, z.2.1] at e; cases e
  have nsK : ∀ {b : Addr} {m : Str → Option Value}, s₁.heap.Ns b m → (hidT s₁.heap H).Ns b m := by
    rintro b m ⟨o, es, ep, e, d, r⟩
    refine ⟨o, es, ep, hidT_get e (off e fun z => ?_), d, r⟩
    rw [z, ha] at e
    cases e
    cases d
  have hKb : K.In (hidT s₁.heap H) := fun b o e => hidT_get (KX b o e) (ofK e)
  have hM : Mod K mg (hidT s₁.heap H) :=
    ⟨hKb, nsK hns, ⟨mb, nsK hb, hbb⟩, hlim.elim fun mc z => ⟨mc, nsK z.1, z.2⟩⟩
  have e0 : Env0 P w K mg (hidT s₁.heap H) callerA [] s₁ H :=
    { frames := rfl, mod := hM, bs := fun b o e => of_hidT e, bsz := Nat.le_of_eq (hidT_size _ _)
      funs := trivial, frf := fun b z => absurd (show b ∈ ([] : List Addr) from z) (by simp)
      hok := hok, bare := .of_eq hg }
  have run := (F _ hKb (nsK hns)).run callerA [] s₁ H ⟨[.ref a], []⟩ [.ref a] [.ref a] _ _ hr rfl e0
    (hbind s₁ (.ref a)) (.cons rfl .nil) hsp
  refine codeAny_mono run fun r s' h => ?_
  match r, h with
  | .ok (.ret u), h =>
    obtain ⟨v, H', os, bare, un, hok', r', q⟩ := h
    cases (show v = .bl true from q)
    obtain rfl : u = Value.bool true := r'
    refine ⟨rfl, OldK.of_keep fun b o e => ?_, os, bare⟩
    rcases hH b with z | ⟨_, _, z⟩
    · exact un.keep b o e z (fun y => absurd (show b ∈ ([] : List Addr) from y) (by simp)) (by simp)
    · have q1 := (hok b _ z).1
      have q2 := (hok' b _ (un.frzs b _ _ z)).1
      rw [e] at q1
      cases q1
      exact q2
  | .error er, h => exact h.elim
  | .ok .next, h => exact h.elim
  | .ok .brk, h => exact h.elim
  | .ok .cont, h => exact h.elim

theorem law_callI (KX : K.In s₁.heap) (hns : s₁.heap.Ns mainGlobals mg) (hb : s₁.heap.Ns builtinsNs mb)
    (hbb : ∀ y : Str, y ≠ "__name__" → mb y = bootBuiltins y) (hlim : s₁.heap.NoLimit)
    (hg : s₁.gens = #[])
    (ha : s₁.heap.get? a = some (scrI vs)) (hi : IntsAre vs ns) (hl : ns.length ≤ sizeLine) (hr : Room k callerA)
    (F : ∀ base : Heap, K.In base → base.Ns mainGlobals mg → FnG P w K mg base CX0 k fa fd [x] sp)
    (hbind : ∀ (s : Shared) (u : Value), BindsTo s fd ⟨[u], []⟩ [(x, u)])
    (hsp : ∀ H : Hp, Only H → SqL K H a (ns.map V.int) → sp [.ref a] H (fun v _ => v = .bl true) fun _ _ _ => False) :
    codeAny (model P w) callerA (.call (.ref fa) ⟨[.ref a], []⟩)
      (fun r s' => r = .ok (.ret (.bool true)) ∧ OldK s₁.heap s'.heap ∧ s'.os = s₁.os ∧ AllBare s'.gens) s₁ := by
  have rv := vals_ints hi
  have hlen : vs.toArray.size ≤ sizeLine := by rw [List.size_toArray, hi.length]; exact hl
  cases hk : K.lookup a with
  | some o =>
    have e := KX a o hk
    rw [ha] at e
    cases e
    refine law_coreI (H := fun _ => none) (ns := ns) KX hns hb hbb hlim hg ha hr F hbind
      (fun _ => .inl rfl) (fun _ _ z => nomatch z) (hsp _ (fun _ => .inl rfl) (.inr ?_))
    exact ⟨_, vs.toArray, _, hk, rfl, rfl, rfl, hlen, by simpa using rv⟩
  | none =>
    have one : ∀ b, (if b = a then some (HO.frz (scrI vs) (.lst (ns.map V.int))) else none) = none ∨
        (b = a ∧ (if b = a then some (HO.frz (scrI vs) (.lst (ns.map V.int))) else none) =
          some (.frz (scrI vs) (.lst (ns.map V.int)))) := fun b =>
      (Decidable.em (b = a)).elim (fun z => .inr ⟨z, if_pos z⟩) fun z => .inl (if_neg z)
    refine law_coreI (ns := ns) (H := fun b => if b = a then some (.frz (scrI vs) (.lst (ns.map V.int))) else none)
      KX hns hb hbb hlim hg ha hr F hbind
      (fun b => (one b).imp id fun z => ⟨z.1, hk, z.2⟩) (fun b u z => ?_)
      (hsp _ (fun b => (one b).imp id fun z => ⟨_, _, z.2⟩) (.inl (.inr ⟨scrI vs, if_pos rfl⟩)))
    rcases one b with y | ⟨y1, y2⟩
    · exact nomatch y.symm.trans z
    · cases y2.symm.trans z
      subst y1
      exact ⟨ha, by rw [List.length_map]; exact hl, vs, _, rv, ha⟩

/-- what k_head leaves, for a law over a text that imports nothing -/
theorem walkI {l : PySem.W.OpenLaw} {n k : Nat} {loose : List Str} {XP : (Str → Option Value) → Heap → Prop}
    {YP : World → Heap → Prop} {d : DefRec} {q : Program} {K : Params → PySem.W.Frag} {sp : PySem.W.Frag → Sp} {x : Str}
    (hn : l.most = some n) (hn2 : n ≤ sizeLine) (hdf : d.params.defaults = []) (hr : Room k callerA)
    (hY : ∀ (w : World) (h : Heap), YP w h → (K w.params).In h)
    (F : ∀ (w : World) (mg : Str → Option Value) (fa : Addr) (h : Heap), (K w.params).In h → h.Ns mainGlobals mg →
      mg d.name = some (.ref fa) → ∃ fd : FuncData, (∀ (s : Shared) (u : Value), BindsTo s fd ⟨[u], []⟩ [(x, u)]) ∧
        ∀ base : Heap, (K w.params).In base → base.Ns mainGlobals mg →
          FnG l.prog w (K w.params) mg base CX0 k fa fd [x] (sp (K w.params)))
    (hsp : ∀ (K : PySem.W.Frag) (H : Hp) (a : Addr) (ns : List Int), ns.length ≤ n → Only H →
      SqL K H a (ns.map V.int) → sp K [.ref a] H (fun v _ => v = .bl true) fun _ _ _ => False) :
    PySem.W.WalkO q loose XP YP l.row.toRowW d [] (fun f vs => PySem.call f vs) := by
  refine Att.attach_call hn hdf ?_
  intro w s₀ s₁ mg mb fa o pm cd doc a vs ns G Y ho hd hcd hmg hobj hints hlen hg
  have KX := hY w _ Y
  obtain ⟨fd, hb, hF⟩ := F w mg fa _ KX G.T.g hmg
  exact law_callI (sp := sp (K w.params)) KX G.T.g G.T.b G.T.builtins G.T.nolimit hg hobj hints
    (Nat.le_trans hlen hn2) hr hF hb fun H hO hS => hsp _ H a ns hlen hO hS
end
end GL

/-! R20: the whole. -/
namespace K04
open PySem PySem.Spec PyProof.Rows L2 GL
section
variable {K : PySem.W.Frag} {fI : Addr}

/-- a class of the text, as it stands behind the top -/
structure ClsF (K : PySem.W.Frag) (n : Str) (C C0 fI : Addr) (bm : List Value) : Prop where
  ns : PySem.W.nsIn K mainGlobals n = some (some (.ref C))
  obj : ∃ nm q N bs sn sub ab col dd k0 k1 k2 k3 k5,
    K.lookup C = some (excClassObj nm q C N bs bm true sn sub ab col dd k0 k1 k2 k3 k5 "ValueError.__new__")
  sa : PySem.W.findIn K (.ref C) "__setattr__" = some (some (.builtin "object.__setattr__"))
  ga : PySem.W.findIn K (.ref C) "__getattribute__" = some (some (.builtin "BaseException.__getattribute__"))
  gt : PySem.W.findIn K (.ref C) "__getattr__" = some none
  nv : PySem.W.findIn K (.ref C) "value" = some none
  ini : PySem.W.findIn K (.ref C) "__init__" = some (some (.ref fI))
  cl : PySem.W.findIn K (.ref C) "__class__" = some (some (.builtin "object.__class__"))
  kp : PySem.W.keepIn K (.ref C) = true
theorem clsF_mk {n : Str} {C C0 : Addr} {bm : List Value} {nm q : Str} {N : Addr} {bs : List Value} {sn : List Str} {sub : List Value}
    {ab : Bool} {col : Option Bool} {dd : Option Addr} {k0 k1 k2 k3 k5 : Option Value}
    (ns : PySem.W.nsIn K mainGlobals n = some (some (.ref C)))
    (obj : K.lookup C = some (excClassObj nm q C N bs bm true sn sub ab col dd k0 k1 k2 k3 k5 "ValueError.__new__"))
    (sa : PySem.W.findIn K (.ref C) "__setattr__" = some (some (.builtin "object.__setattr__")))
    (ga : PySem.W.findIn K (.ref C) "__getattribute__" = some (some (.builtin "BaseException.__getattribute__")))
    (gt : PySem.W.findIn K (.ref C) "__getattr__" = some none) (nv : PySem.W.findIn K (.ref C) "value" = some none)
    (ini : PySem.W.findIn K (.ref C) "__init__" = some (some (.ref fI)))
    (cl : PySem.W.findIn K (.ref C) "__class__" = some (some (.builtin "object.__class__")))
    (kp : PySem.W.keepIn K (.ref C) = true) : ClsF K n C C0 fI bm :=
  ⟨ns, ⟨_, _, _, _, _, _, _, _, _, _, _, _, _, _, obj⟩, sa, ga, gt, nv, ini, cl, kp⟩
theorem ClsF.cd {n : Str} {C C0 : Addr} {bm : List Value} (F : ClsF K n C C0 fI bm) :
    ∃ cd, PySem.W.clsIn K C = some cd ∧ cd.mro = .ref C :: bm ∧ cd.hasDict = true := by
  obtain ⟨nm, q, N, bs, sn, sub, ab, col, dd, k0, k1, k2, k3, k5, e⟩ := F.obj
  exact ⟨_, by unfold PySem.W.clsIn; rw [e] <;> rfl, rfl, rfl⟩
theorem ClsF.ty {n : Str} {C C0 : Addr} {bm : List Value} (F : ClsF K n C C0 fI bm) : PySem.W.typeIn K (.ref C) = some (.type "type") := by
  obtain ⟨nm, q, N, bs, sn, sub, ab, col, dd, k0, k1, k2, k3, k5, e⟩ := F.obj
  show Option.map (fun x : Obj => x.cls) (List.lookup C K) = _
  rw [e]; rfl
theorem ClsF.mro {n : Str} {C C0 : Addr} {bm : List Value} (F : ClsF K n C C0 fI bm) (b : Value) :
    PySem.W.mroIn K C b = some ((Value.ref C :: bm).contains b) := by
  obtain ⟨cd, e, h, _⟩ := F.cd
  unfold PySem.W.mroIn
  rw [e, Option.bind_some, h, if_neg (by simp)]
theorem ClsF.one {n : Str} {C C0 : Addr} {bm : List Value} (F : ClsF K n C C0 fI bm) (hb : PySem.HandSPX.refsVE bm = true)
    (ft : PySem.W.typeIn K (.ref fI) = some (.type "function"))
    (g : PySem.W.specialIn K (.builtin "object.__class__") "__get__" = some (some (.builtin "getset_descriptor.__get__")))
    (t : PySem.W.takesIn K (.builtin "object.__class__") = some true) : OneC K C fI := by
  have inn : ∀ X : String, (PySem.HandSPX.veTail).contains (.type X) = true → PySem.W.mroIn K C (.type X) = some true := fun X h => by
    rw [F.mro, List.contains_cons, PySem.HandSPX.refsVE_contains X bm hb, h, Bool.or_true]
  have ex : PySem.W.subIn K (.ref C) (.type "BaseException") = some true := inn _ (by decide +kernel)
  have hd : PySem.W.hasDictIn K C = true := by
    obtain ⟨cd, e, _, h⟩ := F.cd
    unfold PySem.W.hasDictIn
    rw [e]
    simpa using h
  obtain ⟨nm, q, N, bs, sn, sub, ab, col, dd, k0, k1, k2, k3, k5, e⟩ := F.obj
  exact ⟨⟨⟨⟨nm, q, N, bs, bm, sn, sub, ab, col, dd, k0, k1, k2, k3, k5, e, hb⟩, F.sa, ex, F.ty, F.kp⟩, F.ini, ft⟩,
    ⟨F.ga, F.gt, ex, hd⟩, F.nv, ⟨F.ga, F.gt, ex, hd, F.cl, g, t, inn _ (by decide +kernel)⟩⟩
/-- isinstance of the classes of the text -/
theorem ClsF.kit {n m : Str} {C C' C0 : Addr} {bm bm' : List Value} (F : ClsF K n C C0 fI bm) (G : ClsF K m C' C0 fI bm') {b : Bool}
    (h : (Value.ref C :: bm).contains (.ref C') = b) : PySem.W.kitOne K (.ref C) (.ref C') = some b := by
  unfold PySem.W.kitOne
  split
  · rename_i e
    have e' : Value.ref C = .ref C' := by simpa using e
    rw [← h, ← e']
    simp
  · unfold PySem.W.kitCls
    obtain ⟨cd, e, _, _⟩ := G.cd
    dsimp only
    rw [e, G.ty]
    show PySem.W.subIn K (.ref C) (.ref C') = some b
    show PySem.W.mroIn K C (.ref C') = some b
    rw [F.mro, h]
theorem ClsF.exm {n m : Str} {C C' C0 : Addr} {bm bm' : List Value} (F : ClsF K n C C0 fI bm) (G : ClsF K m C' C0 fI bm') (hb : PySem.HandSPX.refsVE bm' = true) {b : Bool}
    (h : (Value.ref C :: bm).contains (.ref C') = b) : PySem.W.exmOne K (.ref C) (.ref C') = some b := by
  have ex : PySem.W.subIn K (.ref C') (.type "BaseException") = some true := by
    show PySem.W.mroIn K C' (.type "BaseException") = some true
    rw [G.mro, List.contains_cons, PySem.HandSPX.refsVE_contains "BaseException" bm' hb, show PySem.HandSPX.veTail.contains (.type "BaseException") = true by decide +kernel, Bool.or_true]
  have hd : PySem.W.hasDictIn K C' = true := by
    obtain ⟨cd, e, _, h⟩ := G.cd
    unfold PySem.W.hasDictIn
    rw [e]
    simpa using h
  refine PySem.W.exm_ref ex hd G.ty ?_
  show PySem.W.mroIn K C (.ref C') = some b
  rw [F.mro, h]
abbrev vt : List Value := PySem.HandSPX.veTail
theorem cl3_mk {CM CG CN : Addr} {h : Heap} {mg : Str → Option Value} (X : K.In h) (G : h.Ns mainGlobals mg)
    (FM : ClsF K "MixError" CM CM fI vt) (FG : ClsF K "InvalidGame" CG CM fI (.ref CM :: vt)) (FN : ClsF K "InvalidNumber" CN CM fI (.ref CM :: vt)) (nd : [CM, CG, CN].Nodup)
    (ft : PySem.W.typeIn K (.ref fI) = some (.type "function"))
    (g : PySem.W.specialIn K (.builtin "object.__class__") "__get__" = some (some (.builtin "getset_descriptor.__get__")))
    (t : PySem.W.takesIn K (.builtin "object.__class__") = some true) : Cl3 K mg CM CG CN fI := by
  have no : ∀ C : Addr, vt.contains (.ref C) = false := fun C => by simp [vt, PySem.HandSPX.veTail]
  have hb : PySem.HandSPX.refsVE (.ref CM :: vt) = true := by simp only [PySem.HandSPX.refsVE]; decide +kernel
  have n1 : CM ≠ CG := fun z => by rw [z] at nd; simp at nd
  have n2 : CM ≠ CN := fun z => by rw [z] at nd; simp at nd
  have n3 : CG ≠ CN := fun z => by rw [z] at nd; simp at nd
  have co : ∀ C C', ((Value.ref C :: .ref CM :: vt).contains (.ref C')) = (decide (C' = C) || decide (C' = CM)) := fun C C' => by
    rw [List.contains_cons, List.contains_cons, no, Bool.or_false]
    by_cases e1 : C' = C
    · subst e1; simp
    · by_cases e2 : C' = CM
      · subst e2; simp
      · simp [e1, e2]
  exact ⟨FG.one hb ft g t, FN.one hb ft g t, PySem.W.mg_of X G FM.ns, PySem.W.mg_of X G FG.ns, PySem.W.mg_of X G FN.ns,
    FG.kit FG (by rw [co]; simp), FG.kit FN (by rw [co]; simp [n3.symm, n2.symm]), FN.kit FG (by rw [co]; simp [n3, n1.symm]), FN.kit FN (by rw [co]; simp),
    FG.exm FM (by decide +kernel) (by rw [co]; simp), FN.exm FM (by decide +kernel) (by rw [co]; simp)⟩
end
structure DefF (K : PySem.W.Frag) (n q : Str) (st : Stmt) (f : Addr) (fd : FuncData) : Prop where
  ns : PySem.W.nsIn K mainGlobals n = some (some (.ref f))
  fn : Fun K n q st f fd
theorem def_mk {K : PySem.W.Frag} {n q : Str} {st : Stmt} {f : Addr} {oc : Value} {od an : Option Addr} {osl : Array (Option Value)}
    {kV doc pm cdv ct : Value} (a : PySem.W.nsIn K mainGlobals n = some (some (.ref f)))
    (l : K.lookup f = some ⟨oc, od, .func (PySem.W.fnOf n q (defArgs st) (defBody st) (defScope st) .none kV doc pm an cdv ct), osl⟩)
    (c : PySem.W.codeIn K cdv q = true) (k : PySem.W.keepIn K (.ref f) = true) :
    DefF K n q st f (PySem.W.fnOf n q (defArgs st) (defBody st) (defScope st) .none kV doc pm an cdv ct) := ⟨a, fun_mk l c k⟩
theorem all_mk {P : Program} {w : World} {K : PySem.W.Frag} {h : Heap} {mg : Str → Option Value} {fa : Addr} (X : K.In h)
    (G : h.Ns mainGlobals mg) (hfa : mg "law" = some (.ref fa)) {tb tm : Tok} {fI CM CG CN : Addr} {dI : FuncData}
    {fSz : Addr} {dSz : FuncData} (FSz : DefF K "size" "size" sSize fSz dSz)
    {fEx : Addr} {dEx : FuncData} (FEx : DefF K "exchanged" "exchanged" sExchanged fEx dEx)
    {fWh : Addr} {dWh : FuncData} (FWh : DefF K "is_whole" "is_whole" sIsWhole fWh dWh)
    {fTu : Addr} {dTu : FuncData} (FTu : DefF K "is_tuple_of" "is_tuple_of" sIsTupleOf fTu dTu)
    {fNf : Addr} {dNf : FuncData} (FNf : DefF K "number_fits" "number_fits" sNumberFits fNf dNf)
    {fAs : Addr} {dAs : FuncData} (FAs : DefF K "are_numbers" "are_numbers" sAreNumbers fAs dAs)
    {fMn : Addr} {dMn : FuncData} (FMn : DefF K "many_fits" "many_fits" sManyFits fMn dMn)
    {fRw : Addr} {dRw : FuncData} (FRw : DefF K "is_row" "is_row" sIsRow fRw dRw)
    {fTb : Addr} {dTb : FuncData} (FTb : DefF K "table_fits" "table_fits" sTableFits fTb dTb)
    {fGf : Addr} {dGf : FuncData} (FGf : DefF K "game_fits" "game_fits" sGameFits fGf dGf)
    {fSf : Addr} {dSf : FuncData} (FSf : DefF K "side_fits" "side_fits" sSideFits fSf dSf)
    {fCf : Addr} {dCf : FuncData} (FCf : DefF K "choice_fits" "choice_fits" sChoiceFits fCf dCf)
    {fAn : Addr} {dAn : FuncData} (FAn : DefF K "anew" "anew" sAnew fAn dAn)
    {fCg : Addr} {dCg : FuncData} (FCg : DefF K "check_game" "check_game" sCheckGame fCg dCg)
    {fCs : Addr} {dCs : FuncData} (FCs : DefF K "check_side" "check_side" sCheckSide fCs dCs)
    {fCb : Addr} {dCb : FuncData} (FCb : DefF K "check_game_and_side" "check_game_and_side" sCheckGameAndSide fCb dCb)
    {fCc : Addr} {dCc : FuncData} (FCc : DefF K "check_choice" "check_choice" sCheckChoice fCc dCc)
    {fTr : Addr} {dTr : FuncData} (FTr : DefF K "turned" "turned" sTurned fTr dTr)
    {fRa : Addr} {dRa : FuncData} (FRa : DefF K "raised" "raised" sRaised fRa dRa)
    {fMo : Addr} {dMo : FuncData} (FMo : DefF K "moved" "moved" sMoved fMo dMo)
    {fWi : Addr} {dWi : FuncData} (FWi : DefF K "without" "without" sWithout fWi dWi)
    {fA : Addr} {dA : FuncData} (FA : DefF K "_law_source" "_law_source" sLSource fA dA)
    {fP : Addr} {dP : FuncData} (FP : DefF K "_law_pick" "_law_pick" sLPick fP dP)
    {fNu : Addr} {dNu : FuncData} (FNu : DefF K "_law_number" "_law_number" sLNumber fNu dNu)
    {fTa : Addr} {dTa : FuncData} (FTa : DefF K "_law_table" "_law_table" sLTable fTa dTa)
    {fGa : Addr} {dGa : FuncData} (FGa : DefF K "_law_game" "_law_game" sLGame fGa dGa)
    {fCo : Addr} {dCo : FuncData} (FCo : DefF K "_law_columns" "_law_columns" sLColumns fCo dCo)
    {fDu : Addr} {dDu : FuncData} (FDu : DefF K "_law_due" "_law_due" sLDue fDu dDu)
    {fCa : Addr} {dCa : FuncData} (FCa : DefF K "_law_call" "_law_call" sLCall fCa dCa)
    {fNm : Addr} {dNm : FuncData} (FNm : DefF K "_law_numbers" "_law_numbers" sLNumbers fNm dNm)
    {fDr : Addr} {dDr : FuncData} (FDr : DefF K "_law_drawn" "_law_drawn" sLDrawn fDr dDr)
    {fRi : Addr} {dRi : FuncData} (FRi : DefF K "_law_right" "_law_right" sLRight fRi dRi)
    {fL : Addr} {dL : FuncData} (FL : DefF K "law" "law" sLaw fL dL)
    (FI : Fun K "__init__" "MixError.__init__" sInit fI dI)
    (FM : ClsF K "MixError" CM CM fI vt) (FG : ClsF K "InvalidGame" CG CM fI (.ref CM :: vt)) (FN : ClsF K "InvalidNumber" CN CM fI (.ref CM :: vt)) (nd : [CM, CG, CN].Nodup)
    (ft : PySem.W.typeIn K (.ref fI) = some (.type "function"))
    (gg : PySem.W.specialIn K (.builtin "object.__class__") "__get__" = some (some (.builtin "getset_descriptor.__get__")))
    (gt : PySem.W.takesIn K (.builtin "object.__class__") = some true)
    (vV : PySem.W.findCls K (.type "ValueError") (.type "type") "__init__" = some (.val (.builtin "ValueError.__init__")))
    (zbo : PySem.W.nsIn K mainGlobals "BOUND" = some (some (.int 1000 tb))) (zmo : PySem.W.nsIn K mainGlobals "MOST_CHOICES" = some (some (.int 5 tm)))
    (z_type : PySem.W.nsIn K mainGlobals "type" = some none)
    (z_int : PySem.W.nsIn K mainGlobals "int" = some none)
    (z_tuple : PySem.W.nsIn K mainGlobals "tuple" = some none)
    (z_len : PySem.W.nsIn K mainGlobals "len" = some none)
    (z_all : PySem.W.nsIn K mainGlobals "all" = some none)
    (z_set : PySem.W.nsIn K mainGlobals "set" = some none)
    (z_range : PySem.W.nsIn K mainGlobals "range" = some none)
    (z_abs : PySem.W.nsIn K mainGlobals "abs" = some none)
    (z_isinstance : PySem.W.nsIn K mainGlobals "isinstance" = some none)
    (z_list : PySem.W.nsIn K mainGlobals "list" = some none)
    (z_repr : PySem.W.nsIn K mainGlobals "repr" = some none)
    (z_max : PySem.W.nsIn K mainGlobals "max" = some none)
    (z_min : PySem.W.nsIn K mainGlobals "min" = some none)
    (z_zip : PySem.W.nsIn K mainGlobals "zip" = some none)
    (z_ValueError : PySem.W.nsIn K mainGlobals "ValueError" = some none)
    : ∃ fd : FuncData, (∀ (s : Shared) (v : Value), BindsTo s fd ⟨[v], []⟩ [("script", v)]) ∧ ∀ base : Heap, K.In base →
      base.Ns mainGlobals mg → FnG P w K mg base CX0 12 fa fd ["script"] (spLaw K) := by
  have e := hfa.symm.trans (PySem.W.mg_of X G FL.ns)
  cases e
  have m_type := PySem.W.mg_none_of X G z_type
  have m_int := PySem.W.mg_none_of X G z_int
  have m_tuple := PySem.W.mg_none_of X G z_tuple
  have m_len := PySem.W.mg_none_of X G z_len
  have m_all := PySem.W.mg_none_of X G z_all
  have m_set := PySem.W.mg_none_of X G z_set
  have m_range := PySem.W.mg_none_of X G z_range
  have m_abs := PySem.W.mg_none_of X G z_abs
  have m_isinstance := PySem.W.mg_none_of X G z_isinstance
  have m_list := PySem.W.mg_none_of X G z_list
  have m_repr := PySem.W.mg_none_of X G z_repr
  have m_max := PySem.W.mg_none_of X G z_max
  have m_min := PySem.W.mg_none_of X G z_min
  have m_zip := PySem.W.mg_none_of X G z_zip
  have m_ValueError := PySem.W.mg_none_of X G z_ValueError
  have bSz := FSz.fn.binds (ps := ["game", "side"]) fun _ _ _ _ _ _ us hl => match us, hl with | [_, _], _ => rfl
  have gSz := PySem.W.mg_of X G FSz.ns
  have bEx := FEx.fn.binds (ps := ["game"]) fun _ _ _ _ _ _ us hl => match us, hl with | [_], _ => rfl
  have gEx := PySem.W.mg_of X G FEx.ns
  have bWh := FWh.fn.binds (ps := ["value"]) fun _ _ _ _ _ _ us hl => match us, hl with | [_], _ => rfl
  have gWh := PySem.W.mg_of X G FWh.ns
  have bTu := FTu.fn.binds (ps := ["value", "many"]) fun _ _ _ _ _ _ us hl => match us, hl with | [_, _], _ => rfl
  have gTu := PySem.W.mg_of X G FTu.ns
  have bNf := FNf.fn.binds (ps := ["value"]) fun _ _ _ _ _ _ us hl => match us, hl with | [_], _ => rfl
  have gNf := PySem.W.mg_of X G FNf.ns
  have bAs := FAs.fn.binds (ps := ["value"]) fun _ _ _ _ _ _ us hl => match us, hl with | [_], _ => rfl
  have gAs := PySem.W.mg_of X G FAs.ns
  have bMn := FMn.fn.binds (ps := ["value"]) fun _ _ _ _ _ _ us hl => match us, hl with | [_], _ => rfl
  have gMn := PySem.W.mg_of X G FMn.ns
  have bRw := FRw.fn.binds (ps := ["value"]) fun _ _ _ _ _ _ us hl => match us, hl with | [_], _ => rfl
  have gRw := PySem.W.mg_of X G FRw.ns
  have bTb := FTb.fn.binds (ps := ["value"]) fun _ _ _ _ _ _ us hl => match us, hl with | [_], _ => rfl
  have gTb := PySem.W.mg_of X G FTb.ns
  have bGf := FGf.fn.binds (ps := ["value"]) fun _ _ _ _ _ _ us hl => match us, hl with | [_], _ => rfl
  have gGf := PySem.W.mg_of X G FGf.ns
  have bSf := FSf.fn.binds (ps := ["value"]) fun _ _ _ _ _ _ us hl => match us, hl with | [_], _ => rfl
  have gSf := PySem.W.mg_of X G FSf.ns
  have bCf := FCf.fn.binds (ps := ["game", "side", "value"]) fun _ _ _ _ _ _ us hl => match us, hl with | [_, _, _], _ => rfl
  have gCf := PySem.W.mg_of X G FCf.ns
  have bAn := FAn.fn.binds (ps := ["value"]) fun _ _ _ _ _ _ us hl => match us, hl with | [_], _ => rfl
  have gAn := PySem.W.mg_of X G FAn.ns
  have bCg := FCg.fn.binds (ps := ["game"]) fun _ _ _ _ _ _ us hl => match us, hl with | [_], _ => rfl
  have gCg := PySem.W.mg_of X G FCg.ns
  have bCs := FCs.fn.binds (ps := ["side"]) fun _ _ _ _ _ _ us hl => match us, hl with | [_], _ => rfl
  have gCs := PySem.W.mg_of X G FCs.ns
  have bCb := FCb.fn.binds (ps := ["game", "side"]) fun _ _ _ _ _ _ us hl => match us, hl with | [_, _], _ => rfl
  have gCb := PySem.W.mg_of X G FCb.ns
  have bCc := FCc.fn.binds (ps := ["game", "side", "choice"]) fun _ _ _ _ _ _ us hl => match us, hl with | [_, _, _], _ => rfl
  have gCc := PySem.W.mg_of X G FCc.ns
  have bTr := FTr.fn.binds (ps := ["game"]) fun _ _ _ _ _ _ us hl => match us, hl with | [_], _ => rfl
  have gTr := PySem.W.mg_of X G FTr.ns
  have bRa := FRa.fn.binds (ps := ["row", "at", "number"]) fun _ _ _ _ _ _ us hl => match us, hl with | [_, _, _], _ => rfl
  have gRa := PySem.W.mg_of X G FRa.ns
  have bMo := FMo.fn.binds (ps := ["game", "side", "choice", "number"]) fun _ _ _ _ _ _ us hl => match us, hl with | [_, _, _, _], _ => rfl
  have gMo := PySem.W.mg_of X G FMo.ns
  have bWi := FWi.fn.binds (ps := ["game", "side", "choice"]) fun _ _ _ _ _ _ us hl => match us, hl with | [_, _, _], _ => rfl
  have gWi := PySem.W.mg_of X G FWi.ns
  have bA := FA.fn.binds (ps := ["script"]) fun _ _ _ _ _ _ us hl => match us, hl with | [_], _ => rfl
  have gA := PySem.W.mg_of X G FA.ns
  have bP := FP.fn.binds (ps := ["source", "many"]) fun _ _ _ _ _ _ us hl => match us, hl with | [_, _], _ => rfl
  have gP := PySem.W.mg_of X G FP.ns
  have bNu := FNu.fn.binds (ps := ["source", "kind"]) fun _ _ _ _ _ _ us hl => match us, hl with | [_, _], _ => rfl
  have gNu := PySem.W.mg_of X G FNu.ns
  have bTa := FTa.fn.binds (ps := ["source", "rows", "columns"]) fun _ _ _ _ _ _ us hl => match us, hl with | [_, _, _], _ => rfl
  have gTa := PySem.W.mg_of X G FTa.ns
  have bGa := FGa.fn.binds (ps := ["source", "most"]) fun _ _ _ _ _ _ us hl => match us, hl with | [_, _], _ => rfl
  have gGa := PySem.W.mg_of X G FGa.ns
  have bCo := FCo.fn.binds (ps := ["table"]) fun _ _ _ _ _ _ us hl => match us, hl with | [_], _ => rfl
  have gCo := PySem.W.mg_of X G FCo.ns
  have bDu := FDu.fn.binds (ps := ["way", "game", "side", "choice", "number"]) fun _ _ _ _ _ _ us hl => match us, hl with | [_, _, _, _, _], _ => rfl
  have gDu := PySem.W.mg_of X G FDu.ns
  have bCa := FCa.fn.binds (ps := ["way", "named", "game", "side", "choice", "number"]) fun _ _ _ _ _ _ us hl => match us, hl with | [_, _, _, _, _, _], _ => rfl
  have gCa := PySem.W.mg_of X G FCa.ns
  have bNm := FNm.fn.binds (ps := ["game", "side", "choice"]) fun _ _ _ _ _ _ us hl => match us, hl with | [_, _, _], _ => rfl
  have gNm := PySem.W.mg_of X G FNm.ns
  have bDr := FDr.fn.binds (ps := ["source", "game"]) fun _ _ _ _ _ _ us hl => match us, hl with | [_, _], _ => rfl
  have gDr := PySem.W.mg_of X G FDr.ns
  have bRi := FRi.fn.binds (ps := ["named", "game", "deed", "due"]) fun _ _ _ _ _ _ us hl => match us, hl with | [_, _, _, _], _ => rfl
  have gRi := PySem.W.mg_of X G FRi.ns
  have bI := FI.binds (ps := ["self", "value"]) fun _ _ _ _ _ _ us hl => match us, hl with | [_, _], _ => rfl
  have mbo := PySem.W.mg_of X G zbo
  have mmo := PySem.W.mg_of X G zmo
  have CL : Cl3 K mg CM CG CN fI := cl3_mk X G FM FG FN nd ft gg gt
  have bL : ∀ (s : Shared) (v : Value), BindsTo s dL ⟨[v], []⟩ [("script", v)] := by
    obtain ⟨oc, od, kV, doc, pm, an, cdv, ct, osl, rfl, lk, hcd⟩ := FL.fn.ex
    exact fun s v => .of_eq rfl
  refine ⟨dL, bL, fun base hb _ => ?_⟩
  have GWh : FnOk P w K mg base CX0 1 fWh dWh ["value"] (spK wholeD) := ok_whole FWh.fn m_type m_int
  have GTu : FnOk P w K mg base CX0 1 fTu dTu ["value", "many"] spTupOf := ok_tupof FTu.fn m_type m_tuple m_len
  have TK : KinT P w K mg base fWh fTu dWh dTu := ⟨FWh.fn, bWh, gWh, GWh, FTu.fn, bTu, gTu, GTu, m_type, m_tuple, m_len, m_all, m_set, ⟨_, mbo⟩, ⟨_, mmo⟩⟩
  have GNf := ok_numfits FNf.fn TK
  have GAs := ok_numbers FAs.fn TK FNf.fn bNf gNf GNf
  have GMn := ok_many FMn.fn TK
  have GRw := ok_row FRw.fn TK FAs.fn bAs gAs GAs FMn.fn bMn gMn GMn
  have GTb := ok_table FTb.fn TK FRw.fn bRw gRw GRw FMn.fn bMn gMn GMn
  have GGf := ok_game FGf.fn TK FTb.fn bTb gTb GTb
  have GSz : FnOk P w K mg base CX0 1 fSz dSz ["game", "side"] spSize := ok_size FSz.fn m_len
  have GSf := ok_sidefits FSf.fn TK
  have GCf := ok_choicefits FCf.fn TK FSz.fn bSz gSz GSz
  have GCg := ok_checkgame FCg.fn FGf.fn bGf gGf GGf
  have GCs := ok_checkside FCs.fn FSf.fn bSf gSf GSf
  have GCb := ok_checkgs FCb.fn FCg.fn bCg gCg GCg FCs.fn bCs gCs GCs
  have GCc := ok_checkchoice FCc.fn FCf.fn bCf gCf GCf
  have GAn := ok_anew (P := P) (w := w) (base := base) FAn.fn bAn gAn m_type m_list m_tuple 3
  have GI : FnOk P w K mg base CX0 1 fI dI ["self", "value"] (spInit K) := ok_init (k := 0) FI m_ValueError vV
  have GCX := ok_checkgameX FCg.fn FGf.fn bGf gGf GGf FAn.fn bAn gAn GAn CL.oG CL.gG GI bI
  have GEx : FnOk P w K mg base CX0 1 fEx dEx ["game"] spExch := ok_exch FEx.fn m_tuple m_zip
  have GRa : FnOk P w K mg base CX0 1 fRa dRa ["row", "at", "number"] spRaised := ok_raised FRa.fn
  have GTr := ok_turned FTr.fn FCg.fn bCg gCg GCg FEx.fn bEx gEx GEx
  have GMo := ok_moved FMo.fn m_tuple FCb.fn bCb gCb GCb FCc.fn bCc gCc GCc FEx.fn bEx gEx GEx FRa.fn bRa gRa GRa FCg.fn bCg gCg GCX
  have GWi := ok_without FWi.fn FCb.fn bCb gCb GCb FCc.fn bCc gCc GCc FEx.fn bEx gEx GEx FSz.fn bSz gSz GSz CL.oN CL.gN GI bI
  have GP := ok_pick (P := P) (w := w) (base := base) FP.fn bP gP m_int m_len m_abs
  have GNu := ok_number FNu.fn FP.fn bP gP (GP 0)
  have GTa := ok_ltab FTa.fn m_tuple m_range FP.fn bP gP (GP 0) FNu.fn bNu gNu GNu
  have GGa := ok_lgam FGa.fn FP.fn bP gP (GP 0) FTa.fn bTa gTa GTa
  have GCo : FnOk P w K mg base CX0 1 fCo dCo ["table"] spCols := ok_cols FCo.fn m_tuple m_range m_len
  have GDu := ok_due FDu.fn m_tuple FCo.fn bCo gCo GCo
  have GNm : FnOk P w K mg base CX0 1 fNm dNm ["game", "side", "choice"] spNums := ok_nums FNm.fn m_list
  have GCa := ok_call FCa.fn m_isinstance CL FTr.fn bTr gTr GTr FMo.fn bMo gMo GMo FWi.fn bWi gWi GWi
  have GDr := ok_drawn FDr.fn m_len m_min m_max FP.fn bP gP (GP 0) FDu.fn bDu gDu GDu FNm.fn bNm gNm GNm
  have GRi := ok_right FRi.fn m_repr FCa.fn bCa gCa GCa
  exact ok_law FL.fn ⟨FA.fn, bA, gA, ok_source FA.fn m_list⟩ ⟨FGa.fn, bGa, gGa, GGa⟩ ⟨FP.fn, bP, gP, GP 0⟩ ⟨FDr.fn, bDr, gDr, GDr⟩ ⟨FTr.fn, bTr, gTr, GTr⟩ FRi.fn bRi gRi GRi
    m_range m_max m_min m_len m_tuple m_isinstance m_repr
end K04

/-! R21: the end. -/

open PySem PySem.W PyProof.Rows
set_option maxHeartbeats 0 in
theorem PySem.Challenge.cw_steadymixes_k04_games_turned_and_moved_holds : PySem.Challenge.rw_steadymixes_k04_games_turned_and_moved.Holds := by
  w_on; o_law; k_head; (case hw => w_witness2)
  k_fill
  refine GL.walkI (l := PySem.Challenge.rw_steadymixes_k04_games_turned_and_moved) (n := 63) (k := 12) (x := "script") (sp := K04.spLaw)
    rfl (by decide) rfl ⟨rfl, by decide, by decide⟩ (fun w h Y => PySem.W.kIn_of Y) ?F
    (fun K H a ns hl _ hS => ⟨a, ns, rfl, hS, fun _ => rfl⟩)
  case F =>
    intro w mg fa h KX G hmg
    refine' K04.all_mk KX G hmg ?FSz ?FEx ?FWh ?FTu ?FNf ?FAs ?FMn ?FRw ?FTb ?FGf ?FSf ?FCf ?FAn ?FCg ?FCs ?FCb ?FCc ?FTr ?FRa ?FMo ?FWi ?FA ?FP ?FNu ?FTa ?FGa ?FCo ?FDu ?FCa ?FNm ?FDr ?FRi ?FL ?FI ?FM ?FG ?FN ?nd ?ft ?gg ?gt ?vV ?zbo ?zmo ?z_type ?z_int ?z_tuple ?z_len ?z_all ?z_set ?z_range ?z_abs ?z_isinstance ?z_list ?z_repr ?z_max ?z_min ?z_zip ?z_ValueError
    (case FSz => (refine' K04.def_mk ?a_Sz ?l_Sz ?c_Sz ?k_Sz; (case a_Sz => k_is); (case l_Sz => k_is); (case c_Sz => k_is); (case k_Sz => k_is)))
    (case FEx => (refine' K04.def_mk ?a_Ex ?l_Ex ?c_Ex ?k_Ex; (case a_Ex => k_is); (case l_Ex => k_is); (case c_Ex => k_is); (case k_Ex => k_is)))
    (case FWh => (refine' K04.def_mk ?a_Wh ?l_Wh ?c_Wh ?k_Wh; (case a_Wh => k_is); (case l_Wh => k_is); (case c_Wh => k_is); (case k_Wh => k_is)))
    (case FTu => (refine' K04.def_mk ?a_Tu ?l_Tu ?c_Tu ?k_Tu; (case a_Tu => k_is); (case l_Tu => k_is); (case c_Tu => k_is); (case k_Tu => k_is)))
    (case FNf => (refine' K04.def_mk ?a_Nf ?l_Nf ?c_Nf ?k_Nf; (case a_Nf => k_is); (case l_Nf => k_is); (case c_Nf => k_is); (case k_Nf => k_is)))
    (case FAs => (refine' K04.def_mk ?a_As ?l_As ?c_As ?k_As; (case a_As => k_is); (case l_As => k_is); (case c_As => k_is); (case k_As => k_is)))
    (case FMn => (refine' K04.def_mk ?a_Mn ?l_Mn ?c_Mn ?k_Mn; (case a_Mn => k_is); (case l_Mn => k_is); (case c_Mn => k_is); (case k_Mn => k_is)))
    (case FRw => (refine' K04.def_mk ?a_Rw ?l_Rw ?c_Rw ?k_Rw; (case a_Rw => k_is); (case l_Rw => k_is); (case c_Rw => k_is); (case k_Rw => k_is)))
    (case FTb => (refine' K04.def_mk ?a_Tb ?l_Tb ?c_Tb ?k_Tb; (case a_Tb => k_is); (case l_Tb => k_is); (case c_Tb => k_is); (case k_Tb => k_is)))
    (case FGf => (refine' K04.def_mk ?a_Gf ?l_Gf ?c_Gf ?k_Gf; (case a_Gf => k_is); (case l_Gf => k_is); (case c_Gf => k_is); (case k_Gf => k_is)))
    (case FSf => (refine' K04.def_mk ?a_Sf ?l_Sf ?c_Sf ?k_Sf; (case a_Sf => k_is); (case l_Sf => k_is); (case c_Sf => k_is); (case k_Sf => k_is)))
    (case FCf => (refine' K04.def_mk ?a_Cf ?l_Cf ?c_Cf ?k_Cf; (case a_Cf => k_is); (case l_Cf => k_is); (case c_Cf => k_is); (case k_Cf => k_is)))
    (case FAn => (refine' K04.def_mk ?a_An ?l_An ?c_An ?k_An; (case a_An => k_is); (case l_An => k_is); (case c_An => k_is); (case k_An => k_is)))
    (case FCg => (refine' K04.def_mk ?a_Cg ?l_Cg ?c_Cg ?k_Cg; (case a_Cg => k_is); (case l_Cg => k_is); (case c_Cg => k_is); (case k_Cg => k_is)))
    (case FCs => (refine' K04.def_mk ?a_Cs ?l_Cs ?c_Cs ?k_Cs; (case a_Cs => k_is); (case l_Cs => k_is); (case c_Cs => k_is); (case k_Cs => k_is)))
    (case FCb => (refine' K04.def_mk ?a_Cb ?l_Cb ?c_Cb ?k_Cb; (case a_Cb => k_is); (case l_Cb => k_is); (case c_Cb => k_is); (case k_Cb => k_is)))
    (case FCc => (refine' K04.def_mk ?a_Cc ?l_Cc ?c_Cc ?k_Cc; (case a_Cc => k_is); (case l_Cc => k_is); (case c_Cc => k_is); (case k_Cc => k_is)))
    (case FTr => (refine' K04.def_mk ?a_Tr ?l_Tr ?c_Tr ?k_Tr; (case a_Tr => k_is); (case l_Tr => k_is); (case c_Tr => k_is); (case k_Tr => k_is)))
    (case FRa => (refine' K04.def_mk ?a_Ra ?l_Ra ?c_Ra ?k_Ra; (case a_Ra => k_is); (case l_Ra => k_is); (case c_Ra => k_is); (case k_Ra => k_is)))
    (case FMo => (refine' K04.def_mk ?a_Mo ?l_Mo ?c_Mo ?k_Mo; (case a_Mo => k_is); (case l_Mo => k_is); (case c_Mo => k_is); (case k_Mo => k_is)))
    (case FWi => (refine' K04.def_mk ?a_Wi ?l_Wi ?c_Wi ?k_Wi; (case a_Wi => k_is); (case l_Wi => k_is); (case c_Wi => k_is); (case k_Wi => k_is)))
    (case FA => (refine' K04.def_mk ?a_A ?l_A ?c_A ?k_A; (case a_A => k_is); (case l_A => k_is); (case c_A => k_is); (case k_A => k_is)))
    (case FP => (refine' K04.def_mk ?a_P ?l_P ?c_P ?k_P; (case a_P => k_is); (case l_P => k_is); (case c_P => k_is); (case k_P => k_is)))
    (case FNu => (refine' K04.def_mk ?a_Nu ?l_Nu ?c_Nu ?k_Nu; (case a_Nu => k_is); (case l_Nu => k_is); (case c_Nu => k_is); (case k_Nu => k_is)))
    (case FTa => (refine' K04.def_mk ?a_Ta ?l_Ta ?c_Ta ?k_Ta; (case a_Ta => k_is); (case l_Ta => k_is); (case c_Ta => k_is); (case k_Ta => k_is)))
    (case FGa => (refine' K04.def_mk ?a_Ga ?l_Ga ?c_Ga ?k_Ga; (case a_Ga => k_is); (case l_Ga => k_is); (case c_Ga => k_is); (case k_Ga => k_is)))
    (case FCo => (refine' K04.def_mk ?a_Co ?l_Co ?c_Co ?k_Co; (case a_Co => k_is); (case l_Co => k_is); (case c_Co => k_is); (case k_Co => k_is)))
    (case FDu => (refine' K04.def_mk ?a_Du ?l_Du ?c_Du ?k_Du; (case a_Du => k_is); (case l_Du => k_is); (case c_Du => k_is); (case k_Du => k_is)))
    (case FCa => (refine' K04.def_mk ?a_Ca ?l_Ca ?c_Ca ?k_Ca; (case a_Ca => k_is); (case l_Ca => k_is); (case c_Ca => k_is); (case k_Ca => k_is)))
    (case FNm => (refine' K04.def_mk ?a_Nm ?l_Nm ?c_Nm ?k_Nm; (case a_Nm => k_is); (case l_Nm => k_is); (case c_Nm => k_is); (case k_Nm => k_is)))
    (case FDr => (refine' K04.def_mk ?a_Dr ?l_Dr ?c_Dr ?k_Dr; (case a_Dr => k_is); (case l_Dr => k_is); (case c_Dr => k_is); (case k_Dr => k_is)))
    (case FRi => (refine' K04.def_mk ?a_Ri ?l_Ri ?c_Ri ?k_Ri; (case a_Ri => k_is); (case l_Ri => k_is); (case c_Ri => k_is); (case k_Ri => k_is)))
    (case FL => (refine' K04.def_mk ?a_L ?l_L ?c_L ?k_L; (case a_L => k_is); (case l_L => k_is); (case c_L => k_is); (case k_L => k_is)))
    (case FM => (refine' K04.clsF_mk ?ns_FM ?obj_FM ?sa_FM ?ga_FM ?gt_FM ?nv_FM ?ini_FM ?cl_FM ?kp_FM; (case ns_FM => k_is); (case obj_FM => k_is); (case sa_FM => k_is); (case ga_FM => k_is); (case gt_FM => k_is); (case nv_FM => k_is); (case ini_FM => k_is); (case cl_FM => k_is); (case kp_FM => k_is)))
    (case FG => (refine' K04.clsF_mk ?ns_FG ?obj_FG ?sa_FG ?ga_FG ?gt_FG ?nv_FG ?ini_FG ?cl_FG ?kp_FG; (case ns_FG => k_is); (case obj_FG => k_is); (case sa_FG => k_is); (case ga_FG => k_is); (case gt_FG => k_is); (case nv_FG => k_is); (case ini_FG => k_is); (case cl_FG => k_is); (case kp_FG => k_is)))
    (case FN => (refine' K04.clsF_mk ?ns_FN ?obj_FN ?sa_FN ?ga_FN ?gt_FN ?nv_FN ?ini_FN ?cl_FN ?kp_FN; (case ns_FN => k_is); (case obj_FN => k_is); (case sa_FN => k_is); (case ga_FN => k_is); (case gt_FN => k_is); (case nv_FN => k_is); (case ini_FN => k_is); (case cl_FN => k_is); (case kp_FN => k_is)))
    (case FI => (refine' L2.fun_mk ?l ?c ?k; (case l => k_is); (case c => k_is); (case k => k_is)))
    (case nd => decide)
    (case ft => k_is)
    (case gg => k_is)
    (case gt => k_is)
    (case vV => k_is)
    (case zbo => k_is)
    (case zmo => k_is)
    (case z_type => k_is)
    (case z_int => k_is)
    (case z_tuple => k_is)
    (case z_len => k_is)
    (case z_all => k_is)
    (case z_set => k_is)
    (case z_range => k_is)
    (case z_abs => k_is)
    (case z_isinstance => k_is)
    (case z_list => k_is)
    (case z_repr => k_is)
    (case z_max => k_is)
    (case z_min => k_is)
    (case z_zip => k_is)
    (case z_ValueError => k_is)


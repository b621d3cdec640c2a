import PyProof.Rows.All
import Wide.All
import OpenK.AllK
import Wide.FinOn
import HandS.ForExc
import HandS.Wide
import HandS.ExcInit
import HandS.ExcIs
import HandS.IsInst
import PyProof.ReprRoads
import PyProof.CallFns
import HandS.Ends
import HandS.ExcField
import HandS.ForMost
import HandS.RaiseMore
import HandS.Style
import PyProof.FitsInt
import PyProof.ReprBulk
import PySem.Challenge.RW_steadymixes_k00_errors_keep_their_value
set_option Elab.async false
set_option linter.all false
set_option maxRecDepth 100000
set_option maxHeartbeats 4000000
/-! G0: defs that are run where no text of an object is being made (so that repr is known), and their calls. -/
namespace GL
open PySem PySem.Spec PyProof.Rows L2

/-- a def's promise where no repr runs around -/
structure FnG (P : Program) (w : World) (K : PySem.W.Frag) (mg : Str → Option Value) (base : Heap)
    (CX : CXT) (k : Nat) (f : Addr) (fd : FuncData) (ps : List Str) (sp : Sp) : Prop where
  len : ∀ vs H Q E, sp vs H Q E → vs.length = ps.length
  run : ∀ (A : Around) (outer : List Env) (s : Shared) (H : Hp) (args : Args)
    (us : List Value) (vs : List V) (Q : VK) (E : XK),
    Room k A → A.guards = some [] → Env0 P w K mg base A outer s H → BindsTo s fd args (ps.zip us) →
    Vals vs us → sp vs H Q E → codeAny (model P w) A (.call (.ref f) args) (CR CX outer P w H s Q E) s

section
variable {P : Program} {w : World} {K : PySem.W.Frag} {mg : Str → Option Value} {base : Heap}
variable {CX : CXT} {j k : Nat} {f : Addr} {fd : FuncData} {ps : List Str} {sp sp' : Sp}

theorem ofOk (F : FnOk P w K mg base CX k f fd ps sp) : FnG P w K mg base CX k f fd ps sp :=
  ⟨F.len, fun A outer s H args us vs Q E hr _ e b r h => F.run A outer s H args us vs Q E hr e b r h⟩
theorem FnG.mono (F : FnG P w K mg base CX j f fd ps sp) (h : j ≤ k) : FnG P w K mg base CX k f fd ps sp :=
  ⟨F.len, fun A outer s H args us vs Q E hr => F.run A outer s H args us vs Q E (hr.mono h)⟩
theorem FnG.imp (F : FnG P w K mg base CX k f fd ps sp) (h : ∀ vs H Q E, sp' vs H Q E → sp vs H Q E) :
    FnG P w K mg base CX k f fd ps sp' :=
  ⟨fun vs H Q E q => F.len vs H Q E (h _ _ _ _ q),
   fun A outer s H args us vs Q E hr hg e b r q => F.run A outer s H args us vs Q E hr hg e b r (h _ _ _ _ q)⟩

theorem guards_deeper {A : Around} {env : Env} (h : A.guards = some []) : (A.deeper env).guards = some [] := h

/-- a def of the text by its body -/
theorem okG {x qual : Str} {st : Stmt} {N : List Str} (F : Fun K x qual st f fd)
    (S : FnScope N ps (defScope st)) (len : ∀ vs H Q E, sp vs H Q E → vs.length = ps.length)
    (body : ∀ (cdv : Value) (A : Around) (outer : List Env) (s : Shared) (H : Hp) (vs : List V) (Q : VK) (E : XK),
      Room k (A.deeper (envOfC qual (defScope st) s.heap.objs.size f cdv)) →
      (A.deeper (envOfC qual (defScope st) s.heap.objs.size f cdv)).guards = some [] → sp vs H Q E →
      ∃ t, PSs (cxOf CX0 P w K mg base N qual (defScope st) f cdv A outer s H E).nox (defBody st) t ∧
        t { nx := fun _ H' => Q .non H', rt := Q } (start N vs) H) :
    FnG P w K mg base CX0 (k + 1) f fd ps sp := by
  obtain ⟨oc, od, kV, doc, pm, an, cdv, ct, osl, rfl, lk, hcd⟩ := F.ex
  refine ⟨len, fun A outer s H args us vs Q E hr hg e0 hb r hsp => ?_⟩
  have KX : K.In s.heap := e0.mod.kin.keeps fun b o e => (e0.bs b o e).1
  have lim : s.heap.NoLimit := e0.mod.nolimit.keeps fun b o e => (e0.bs b o e).1
  refine Att.call_fn KX lim lk hcd hr.depth hb ?_ (fun s1 x => ?_) S.co S.gen S.kind
  · refine List.all_eq_true.mpr fun y hy => ?_
    have hy' := (List.of_mem_zip (show (y.1, y.2) ∈ ps.zip us from hy)).1
    rcases S.par _ hy' with q | q
    · rw [q]; rfl
    · rw [q]; rfl
  · obtain ⟨t, ht, hq⟩ := body cdv A outer s H vs Q E (hr.deeper _) (guards_deeper hg) hsp
    have I := inv_start (CX := CX0) (E := E) S hr.hd e0 (len _ _ _ _ hsp) r x
    have hend := ht.nox.run [] s1 _ H _ I hq
    refine wpAny_mono hend (fun fl s' hs => ?_) fun e s' hs => hs
    cases fl with
    | ret u =>
      obtain ⟨v, σ', H', J, rv, q⟩ := hs
      exact ⟨v, H', J.os, J.bare, J.base, J.hok, rv, q⟩
    | next =>
      obtain ⟨σ', H', J, q⟩ := hs
      exact ⟨.non, H', J.os, J.bare, J.base, J.hok, rfl, q⟩
    | brk => exact (hs.elim fun _ h => h.elim fun _ h => h.2).elim
    | cont => exact (hs.elim fun _ h => h.elim fun _ h => h.2).elim
end

section
variable {X : Cx} {CX : CXT} {k : Nat} {f : Addr} {fd : FuncData} {ps ks : List Str} {sp : Sp} {E : XK}
variable {dvs : List V} {ds : List Value} {x : Str} {p pos : Pos} {e : Expr} {es : List Expr} {t tk : TA}

theorem runArgs {args : Args} {us : List Value} {vs : List V} {pins : List (Addr × Obj)} {σ : L2.St} {H : Hp}
    {s : Shared} {Q : VK} (F : FnG X.prog X.w X.K X.mg X.base CX k f fd ps sp) (hr : Room k X.A)
    (hg : X.A.guards = some []) (hx : Passes CX X E) (I : Inv X pins σ H s)
    (hb : BindsTo s fd args (ps.zip us)) (r : Vals vs us) (h : sp vs H Q E) :
    wpAny (model X.prog X.w) X.A (call (.ref f) args.pos args.kw) (EP X pins σ Q) X.xe s := by
  refine wpAny_call (codeAny_mono (F.run X.A X.stack s H ⟨args.pos, args.kw⟩ us vs Q E hr hg I.env0 hb r h) ?_)
  intro res s' hq
  match res, hq with
  | .error er, hq => exact hx pins σ H s er s' I hq
  | .ok (.ret u), hq => exact I.after hq
  | .ok .next, hq => exact hq.elim
  | .ok .brk, hq => exact hq.elim
  | .ok .cont, hq => exact hq.elim

theorem runG {pins : List (Addr × Obj)} {σ : L2.St} {H : Hp} {s : Shared} {Q : VK} {us : List Value} {vs : List V}
    (F : FnG X.prog X.w X.K X.mg X.base CX k f fd ps sp) (hr : Room k X.A) (hg : X.A.guards = some [])
    (hb : Binds X.K fd ps ds) (hd : Vals dvs ds) (hx : Passes CX X E) (I : Inv X pins σ H s) (r : Vals vs us)
    (h : sp (vs ++ dvs) H Q E) : wpAny (model X.prog X.w) X.A (call (.ref f) us) (EP X pins σ Q) X.xe s := by
  have r2 : Vals (vs ++ dvs) (us ++ ds) := r.append hd
  exact runArgs (args := ⟨us, []⟩) F hr hg hx I
    (hb s us I.kIn (r2.length.symm.trans (F.len _ _ _ _ h))) r2 h

theorem pe_callG (F : FnG X.prog X.w X.K X.mg X.base CX k f fd ps sp) (hr : Room k X.A)
    (hgu : X.A.guards = some []) (hg : Gl X x) (hm : X.mg x = some (.ref f))
    (hk : PySem.W.keepIn X.K (.ref f) = true) (hb : Binds X.K fd ps ds) (hd : Vals dvs ds) (hx : Passes CX X E)
    (ha : PA X (e :: es) t) (hdb : (x == ("__debug__" : Str)) = false := by decide)
    (he : starEach (e :: es) X.env = (false, eval e X.env) :: starEach es X.env := by rfl)
    (hpl : (backTo pos (starEach es X.env)).any (·.1) = false := by rfl) :
    PE X (.Call (.Name x p) (e :: es) [] pos) (tCall sp dvs E t) :=
  ⟨fun pins s σ H Q I h => wpAny_Call_Name_kw (ld_glob I hg hm (PySem.W.callWith_K (h₀ := X.base) I.ok.mod.kin hk
    (thn (ha.run pos pins s σ H _ I h) fun us s1 ⟨vs, H1, I1, r, q⟩ =>
      ⟨I1.kIn, runG F hr hgu hb hd hx I1 r q⟩) he hpl) hdb)⟩

variable {g : List Value → List Value → List Value} {gV : List V → List V → List V} {kws : List Keyword}
/-- keywords alone, or behind positional values -/
theorem pe_callKG (F : FnG X.prog X.w X.K X.mg X.base CX k f fd ps sp) (hr : Room k X.A)
    (hgu : X.A.guards = some []) (hg : Gl X x) (hm : X.mg x = some (.ref f))
    (hk : PySem.W.keepIn X.K (.ref f) = true) (hb : KBinds X.K fd ps ks g gV) (hx : Passes CX X E)
    (ha : PA X (e :: es) t) (hkw : PK X kws tk)
    (hall : (backToKw pos (keywordEach kws X.env)).all (·.1.isSome) = true := by rfl)
    (hks : (backToKw pos (keywordEach kws X.env)).filterMap (·.1) = ks := by rfl)
    (hdb : (x == ("__debug__" : Str)) = false := by decide)
    (he : starEach (e :: es) X.env = (false, eval e X.env) :: starEach es X.env := by rfl)
    (hpl : ((backTo pos (starEach (e :: es) X.env)).any (·.1) ||
      (backToKw pos (keywordEach kws X.env)).any (·.1.isNone)) = false := by rfl) :
    PE X (.Call (.Name x p) (e :: es) kws pos) (tCallK sp gV E t tk) := by
  refine ⟨fun pins s σ H Q I h => wpAny_Call_Name_kw (ld_glob I hg hm ?_ hdb)⟩
  refine PySem.W.callWith_KW (h₀ := X.base) I.ok.mod.kin hk hall ?_ hpl he
  refine thn (ha.run pos pins s σ H _ I h) fun us s1 ⟨vs, H1, I1, r, q⟩ => ?_
  refine thn (hkw.run pos pins s1 σ H1 _ I1 q) fun ws s2 ⟨zs, H2, I2, rz, q2⟩ => ⟨I2.kIn, ?_⟩
  rw [hks]
  have r2 := hb.rel r rz
  exact runArgs (args := ⟨us, ks.zip ws⟩) F hr hgu hx I2
    (hb.to s2 us ws I2.kIn (r2.length.symm.trans (F.len _ _ _ _ q2))) r2 q2
theorem pe_callK0G (F : FnG X.prog X.w X.K X.mg X.base CX k f fd ps sp) (hr : Room k X.A)
    (hgu : X.A.guards = some []) (hg : Gl X x) (hm : X.mg x = some (.ref f))
    (hk : PySem.W.keepIn X.K (.ref f) = true) (hb : KBinds X.K fd ps ks g gV) (hx : Passes CX X E)
    (hkw : PK X kws tk)
    (hall : (backToKw pos (keywordEach kws X.env)).all (·.1.isSome) = true := by rfl)
    (hks : (backToKw pos (keywordEach kws X.env)).filterMap (·.1) = ks := by rfl)
    (hdb : (x == ("__debug__" : Str)) = false := by decide)
    (hpl : ((backTo pos (starEach [] X.env)).any (·.1) ||
      (backToKw pos (keywordEach kws X.env)).any (·.1.isNone)) = false := by rfl) :
    PE X (.Call (.Name x p) [] kws pos) (tCallK sp gV E tNil tk) := by
  refine ⟨fun pins s σ H Q I h => wpAny_Call_Name_kw (ld_glob I hg hm ?_ hdb)⟩
  refine PySem.W.callWith_KW0 (h₀ := X.base) I.ok.mod.kin hk hall ?_ hpl
  refine thn (hkw.run pos pins s σ H _ I h) fun ws s2 ⟨zs, H2, I2, rz, q2⟩ => ⟨I2.kIn, ?_⟩
  rw [hks]
  have r2 := hb.rel (vs := []) (us := []) .nil rz
  exact runArgs (args := ⟨[], ks.zip ws⟩) F hr hgu hx I2
    (hb.to s2 [] ws I2.kIn (r2.length.symm.trans (F.len _ _ _ _ q2))) r2 q2
end
end GL

/-! G1: data that stands in the heap, its text (repr); a law's head for defs of G0. -/
namespace GL
open PySem PySem.Spec PyProof.Rows L2

/-! ### data -/
def keyD : Key → PyData
  | .inl i => .int i
  | .inr x => .str x
def kvD : List (Key × V) → List PyData → List (PyData × PyData)
  | kv :: kvs, d :: ds => (keyD kv.1, d) :: kvD kvs ds
  | _, _ => []
mutual
/-- the value v is, in the heap H, the data d -/
inductive RD (H : Hp) : V → PyData → Prop where
  | non : RD H .non .none
  | bl (b) : RD H (.bl b) (.bool b)
  | int (i) : RD H (.int i) (.int i)
  | str (x) : RD H (.str x) (.str x)
  | lst {a xs ds} : H a = some (.lst xs) → RDs H xs ds → RD H (.ref a) (.list ds)
  | tup {a xs ds} : H a = some (.tup xs) → RDs H xs ds → RD H (.ref a) (.tuple ds)
  | dct {a kvs ds} : H a = some (.dK kvs) → RDs H (kvs.map (·.2)) ds → RD H (.ref a) (.dict (kvD kvs ds))
inductive RDs (H : Hp) : List V → List PyData → Prop where
  | nil : RDs H [] []
  | cons {x xs d ds} : RD H x d → RDs H xs ds → RDs H (x :: xs) (d :: ds)
end
mutual
/-- data stays where what it is made of stays -/
theorem RD.keep {H H' : Hp} (k : ∀ b o, H b = some o → H' b = some o) : ∀ {v d}, RD H v d → RD H' v d
  | _, _, .non => .non
  | _, _, .bl b => .bl b
  | _, _, .int i => .int i
  | _, _, .str x => .str x
  | _, _, .lst e r => .lst (k _ _ e) (RDs.keep k r)
  | _, _, .tup e r => .tup (k _ _ e) (RDs.keep k r)
  | _, _, .dct e r => .dct (k _ _ e) (RDs.keep k r)
theorem RDs.keep {H H' : Hp} (k : ∀ b o, H b = some o → H' b = some o) : ∀ {vs ds}, RDs H vs ds → RDs H' vs ds
  | _, _, .nil => .nil
  | _, _, .cons a b => .cons (RD.keep k a) (RDs.keep k b)
end
theorem RDs.length {H : Hp} : ∀ {vs ds}, RDs H vs ds → vs.length = ds.length
  | _, _, .nil => rfl
  | _, _, .cons _ b => by rw [List.length_cons, List.length_cons, RDs.length b]
theorem RDs.snoc {H : Hp} {v d} (h : RD H v d) : ∀ {vs ds}, RDs H vs ds → RDs H (vs ++ [v]) (ds ++ [d])
  | _, _, .nil => .cons h .nil
  | _, _, .cons a b => .cons a (RDs.snoc h b)

/-! ### as the library reads it -/
section
variable {P : Program} {w : World} {H : Hp} {h : Heap}
theorem kvD_fst : ∀ (kvs : List (Key × V)) (ds : List PyData), (kvs.map (·.2)).length = ds.length →
    (kvD kvs ds).map (·.1) = kvs.map (fun kv => keyD kv.1)
  | [], [], _ => rfl
  | [], _ :: _, e => by cases e
  | _ :: _, [], e => by cases e
  | kv :: kvs, d :: ds, e => by
    show keyD kv.1 :: (kvD kvs ds).map (·.1) = _
    rw [kvD_fst kvs ds (by simpa using e)]; rfl
theorem kvD_snd : ∀ (kvs : List (Key × V)) (ds : List PyData), (kvs.map (·.2)).length = ds.length →
    (kvD kvs ds).map (·.2) = ds
  | [], [], _ => rfl
  | [], _ :: _, e => by cases e
  | _ :: _, [], e => by cases e
  | kv :: kvs, d :: ds, e => by
    show d :: (kvD kvs ds).map (·.2) = _
    rw [kvD_snd kvs ds (by simpa using e)]
theorem reads_key {k : Key} {u : Value} (q : keyIs k u = true) : Reads h u (keyD k) [] := by
  rcases keyIs_shape q with ⟨i, t, ek, ev⟩ | ⟨x, t, ek, ev⟩
  · rw [ev, ek]; exact .int i t
  · rw [ev, ek]; exact .str x t
theorem reads_keys : ∀ {es : List DictEntry} {vs : List (Key × Value)} {kvs : List (Key × V)},
    Pairs (mixKind P w) es vs → KV kvs vs →
    ReadsAll h (es.map (·.key)) (kvs.map (fun kv => keyD kv.1)) [] ∧ es.map (·.val) = vs.map (·.2)
  | _, _, _, .nil, .nil => ⟨.nil, rfl⟩
  | _, _, _, .cons hk hv hr, .cons e t => by
    obtain ⟨h1, h2⟩ := reads_keys hr t
    refine ⟨ReadsAll.cons (as := []) (bs := []) ?_ h1, ?_⟩
    · show Reads h _ (keyD _) []; rw [e.1]; exact reads_key hk
    · rw [List.map_cons, List.map_cons, h2, hv]
theorem vals_of_KV : ∀ {kvs : List (Key × V)} {vs : List (Key × Value)}, KV kvs vs →
    Vals (kvs.map (·.2)) (vs.map (·.2))
  | _, _, .nil => .nil
  | _, _, .cons e t => .cons e.2 (vals_of_KV t)
mutual
theorem RD.reads (ok : HOk P w H h) (hs : H sysModules = none) : ∀ {v : V} {d : PyData} {u : Value},
    RD H v d → RelV v u → ∃ as, Reads h u d as ∧ sysModules ∉ as
  | _, _, _, .non, r => by cases (show _ = Value.none from r); exact ⟨_, .none, by simp⟩
  | _, _, _, .bl b, r => by cases (show _ = Value.bool b from r); exact ⟨_, .bool b, by simp⟩
  | _, _, _, .int i, r => by
    obtain ⟨t, e⟩ := (show ∃ t, _ = Value.int i t from r)
    subst e; exact ⟨_, .int i t, by simp⟩
  | _, _, _, .str x, r => by
    obtain ⟨t, e⟩ := (show ∃ t, _ = Value.str x t from r)
    subst e; exact ⟨_, .str x t, by simp⟩
  | _, _, _, .lst (a := a) e rs, r => by
    cases (show _ = Value.ref a from r)
    obtain ⟨_, its, n, rv, hg⟩ := (ok a _ e : ObjOk P w H h a (.lst _))
    obtain ⟨as, h1, h2⟩ := RDs.reads ok hs rs rv
    refine ⟨_, .list hg rfl rfl h1, fun hm => ?_⟩
    rcases List.mem_cons.mp hm with z | z
    · rw [← z, hs] at e; cases e
    · exact h2 z
  | _, _, _, .tup (a := a) e rs, r => by
    cases (show _ = Value.ref a from r)
    obtain ⟨_, its, rv, o, hg, hc, n, hd⟩ := (ok a _ e : ObjOk P w H h a (.tup _))
    obtain ⟨as, h1, h2⟩ := RDs.reads ok hs rs rv
    exact ⟨_, .tuple hg hc hd h1, h2⟩
  | _, _, _, .dct (a := a) (kvs := kvs) (ds := ds) e rs, r => by
    cases (show _ = Value.ref a from r)
    obtain ⟨_, hy, vs, kv, o, es, ep, hg, hx, hd, _, hp, _⟩ := (ok a _ e : ObjOk P w H h a (.dK kvs))
    obtain ⟨as, h1, h2⟩ := RDs.reads ok hs rs (vals_of_KV kv)
    obtain ⟨k1, k2⟩ := reads_keys (h := h) hp kv
    have hl := RDs.length rs
    refine ⟨_, Reads.dict (as := []) (bs := as) hg hx.1 hd ?_ ?_, fun hm => ?_⟩
    · rw [kvD_fst kvs ds hl]; exact k1
    · rw [kvD_snd kvs ds hl, k2]; exact h1
    · rcases List.mem_cons.mp hm with z | z
      · rw [← z, hs] at e; cases e
      · exact h2 (by simpa using z)
theorem RDs.reads (ok : HOk P w H h) (hs : H sysModules = none) : ∀ {vs : List V} {ds : List PyData} {us : List Value},
    RDs H vs ds → Vals vs us → ∃ as, ReadsAll h us ds as ∧ sysModules ∉ as
  | _, _, _, .nil, .nil => ⟨_, .nil, by simp⟩
  | _, _, _, .cons a b, .cons r t => by
    obtain ⟨as, h1, h2⟩ := RD.reads ok hs a r
    obtain ⟨bs, h3, h4⟩ := RDs.reads ok hs b t
    exact ⟨_, .cons h1 h3, fun hm => (List.mem_append.mp hm).elim h2 h4⟩
end
end

/-! ### the text of data -/
def rRepr : List V → Hp → VK → Prop := fun xs H Q => ∃ v d, xs = [v] ∧ RD H v d ∧ d.showable = true ∧
  d.depth ≤ 100 ∧ d.shown.length ≤ sizeLine ∧ Q (.str d.shown) H
/-- that the place of sys.modules is no object that is tracked -/
def SysAt (base : Heap) : Prop := ∃ o, base.get? sysModules = some o
theorem call_repr {X : Cx} (hs : SysAt X.base) (hg : X.A.guards = some []) (hu : X.A.units + 150 < cLine) :
    CallR X (.builtin "repr") rRepr := by
  intro pins s σ H xs us Q I r h
  obtain ⟨v, d, rfl, rd, hsh, hdp, hsz, q⟩ := h
  obtain ⟨u, rfl, rv⟩ := vals1 r
  have h0 : H sysModules = none := let ⟨o, e⟩ := hs; (I.bs _ _ e).2
  have big : ∀ (a : Addr) (as : List Addr), u = .ref a → Reads s.heap u d as → sysModules ∉ as →
      wpAny (model X.prog X.w) X.A (call (.builtin "repr") [u]) (EP X pins σ Q) X.xe s := by
    intro a as e rr hn
    subst e
    exact repr_of_reads' rr hsh (fun _ => hn) hg (by omega) (fun _ _ e => e)
      (fun h' tu tk hk => ⟨.str d.shown, H, I.kept hk, ⟨tu, rfl⟩, q⟩) hsz
  obtain ⟨as, rr, hn⟩ := rd.reads I.hok h0 rv
  cases rd with
  | non =>
    cases (show u = Value.none from rv)
    rw [PyData.shown_none] at q
    exact PySem.P.repr_of_none ⟨.str _, H, I.tok _, ⟨_, rfl⟩, q⟩
  | bl b =>
    cases (show u = Value.bool b from rv)
    refine PySem.P.repr_of_bool ⟨.str _, H, I.tok _, ⟨_, rfl⟩, ?_⟩
    rw [PyData.shown_bool] at q
    cases b <;> exact q
  | int i =>
    obtain ⟨t, rfl⟩ := (show ∃ t, u = Value.int i t from rv)
    refine PySem.P.repr_of_int (by simpa [PyData.showable] using hsh) ⟨.str _, H, I.tok _, ⟨_, rfl⟩, ?_⟩
    rw [PyData.shown_int] at q
    exact q
  | str x =>
    obtain ⟨t, rfl⟩ := (show ∃ t, u = Value.str x t from rv)
    rw [PyData.shown_str] at q hsz
    exact PySem.P.repr_of_str ⟨.str _, H, I.tok _, ⟨_, rfl⟩, q⟩ hsz
  | lst e rs => exact big _ as rv rr hn
  | tup e rs => exact big _ as rv rr hn
  | dct e rs => exact big _ as rv rr hn
end GL

/-! G2: the head of a law whose def is proved by G0's rules. -/
namespace GL
open PySem PySem.Spec PyProof.Rows L2

section
variable {P : Program} {w : World} {K : PySem.W.Frag} {mg mb : Str → Option Value} {k : Nat} {fa a : Addr}
variable {fd : FuncData} {x : Str} {sp : Sp} {s₁ : Shared} {vs : List Value} {ns : List Int}

def scrO (vs : List Value) : Obj := { cls := .type "list", data := .seq vs.toArray }

/-- from an abstract heap in which at most the script stands -/
theorem law_core {H : Hp} (KX : K.In s₁.heap) (hns : s₁.heap.Ns mainGlobals mg) (hb : s₁.heap.Ns builtinsNs mb)
    (hbb : ∀ y : Str, y ≠ "__name__" → mb y = bootBuiltins y) (hlim : s₁.heap.NoLimit)
    (hsys : ∃ mm, s₁.heap.Ns sysModules mm) (hg : s₁.gens = #[])
    (ha : s₁.heap.get? a = some (scrO vs)) (hr : Room k callerA)
    (F : ∀ base : Heap, K.In base → base.Ns mainGlobals mg → SysAt base → FnG P w K mg base CX0 k fa fd [x] sp)
    (hbind : ∀ (s : Shared) (u : Value), BindsTo s fd ⟨[u], []⟩ [(x, u)])
    (hH : ∀ b, H b = none ∨ (b = a ∧ K.lookup a = none ∧ H b = some (.frz (scrO vs) (.lst (ns.map V.int)))))
    (hok : HOk P w H s₁.heap) (hsp : sp [.ref a] H (fun v _ => v = .bl true) fun _ _ _ => False) :
    codeAny (model P w) callerA (.call (.ref fa) ⟨[.ref a], []⟩)
      (fun r s' => r = .ok (.ret (.bool true)) ∧ OldK s₁.heap s'.heap ∧ s'.os = s₁.os ∧ AllBare s'.gens) s₁ := by
  -- an object of the heap that is no script is not tracked
  have off : ∀ {b : Addr} {o : Obj}, s₁.heap.get? b = some o → (b = a → False) → H b = none :=
    fun {b o} _ n => (hH b).elim id fun z => (n z.1).elim
  have ofK : ∀ {b : Addr} {o : Obj}, K.lookup b = some o → H b = none := fun {b o} e =>
    (hH b).elim id fun z => by rw [z.1, z.2.1] at e; cases e
  have nsK : ∀ {b : Addr} {m : Str → Option Value}, s₁.heap.Ns b m → (hidT s₁.heap H).Ns b m := by
    rintro b m ⟨o, es, ep, e, d, r⟩
    refine ⟨o, es, ep, hidT_get e (off e fun z => ?_), d, r⟩
    rw [z, ha] at e
    cases e
    cases d
  have hKb : K.In (hidT s₁.heap H) := fun b o e => hidT_get (KX b o e) (ofK e)
  have hM : Mod K mg (hidT s₁.heap H) :=
    ⟨hKb, nsK hns, ⟨mb, nsK hb, hbb⟩, hlim.elim fun mc z => ⟨mc, nsK z.1, z.2⟩⟩
  have hS : SysAt (hidT s₁.heap H) := hsys.elim fun mm z => by
    obtain ⟨o, _, _, e, _⟩ := nsK z
    exact ⟨o, e⟩
  have e0 : Env0 P w K mg (hidT s₁.heap H) callerA [] s₁ H :=
    { frames := rfl, mod := hM, bs := fun b o e => of_hidT e, bsz := Nat.le_of_eq (hidT_size _ _)
      funs := trivial, frf := fun b z => absurd (show b ∈ ([] : List Addr) from z) (by simp)
      hok := hok, bare := .of_eq hg }
  have run := (F _ hKb (nsK hns) hS).run callerA [] s₁ H ⟨[.ref a], []⟩ [.ref a] [.ref a] _ _ hr rfl e0
    (hbind s₁ (.ref a)) (.cons rfl .nil) hsp
  refine codeAny_mono run fun r s' h => ?_
  match r, h with
  | .ok (.ret u), h =>
    obtain ⟨v, H', os, bare, un, hok', r', q⟩ := h
    cases (show v = .bl true from q)
    obtain rfl : u = Value.bool true := r'
    refine ⟨rfl, OldK.of_keep fun b o e => ?_, os, bare⟩
    rcases hH b with z | ⟨_, _, z⟩
    · exact un.keep b o e z (fun y => absurd (show b ∈ ([] : List Addr) from y) (by simp)) (by simp)
    · have q1 := (hok b _ z).1
      have q2 := (hok' b _ (un.frzs b _ _ z)).1
      rw [e] at q1
      cases q1
      exact q2
  | .error er, h => exact h.elim
  | .ok .next, h => exact h.elim
  | .ok .brk, h => exact h.elim
  | .ok .cont, h => exact h.elim

theorem law_callG (KX : K.In s₁.heap) (hns : s₁.heap.Ns mainGlobals mg) (hb : s₁.heap.Ns builtinsNs mb)
    (hbb : ∀ y : Str, y ≠ "__name__" → mb y = bootBuiltins y) (hlim : s₁.heap.NoLimit)
    (hsys : ∃ mm, s₁.heap.Ns sysModules mm) (hg : s₁.gens = #[])
    (ha : s₁.heap.get? a = some (scrO vs)) (hi : IntsAre vs ns) (hl : ns.length ≤ sizeLine) (hr : Room k callerA)
    (F : ∀ base : Heap, K.In base → base.Ns mainGlobals mg → SysAt base → FnG P w K mg base CX0 k fa fd [x] sp)
    (hbind : ∀ (s : Shared) (u : Value), BindsTo s fd ⟨[u], []⟩ [(x, u)])
    (hsp : ∀ H : Hp, Only H → SqL K H a (ns.map V.int) → sp [.ref a] H (fun v _ => v = .bl true) fun _ _ _ => False) :
    codeAny (model P w) callerA (.call (.ref fa) ⟨[.ref a], []⟩)
      (fun r s' => r = .ok (.ret (.bool true)) ∧ OldK s₁.heap s'.heap ∧ s'.os = s₁.os ∧ AllBare s'.gens) s₁ := by
  have rv := vals_ints hi
  have hlen : vs.toArray.size ≤ sizeLine := by rw [List.size_toArray, hi.length]; exact hl
  cases hk : K.lookup a with
  | some o =>
    have e := KX a o hk
    rw [ha] at e
    cases e
    refine law_core (H := fun _ => none) (ns := ns) KX hns hb hbb hlim hsys hg ha hr F hbind
      (fun _ => .inl rfl) (fun _ _ z => nomatch z) (hsp _ (fun _ => .inl rfl) (.inr ?_))
    exact ⟨_, vs.toArray, _, hk, rfl, rfl, rfl, hlen, by simpa using rv⟩
  | none =>
    have one : ∀ b, (if b = a then some (HO.frz (scrO vs) (.lst (ns.map V.int))) else none) = none ∨
        (b = a ∧ (if b = a then some (HO.frz (scrO vs) (.lst (ns.map V.int))) else none) =
          some (.frz (scrO vs) (.lst (ns.map V.int)))) := fun b =>
      (Decidable.em (b = a)).elim (fun z => .inr ⟨z, if_pos z⟩) fun z => .inl (if_neg z)
    refine law_core (ns := ns) (H := fun b => if b = a then some (.frz (scrO vs) (.lst (ns.map V.int))) else none)
      KX hns hb hbb hlim hsys hg ha hr F hbind
      (fun b => (one b).imp id fun z => ⟨z.1, hk, z.2⟩) (fun b u z => ?_)
      (hsp _ (fun b => (one b).imp id fun z => ⟨_, _, z.2⟩) (.inl (.inr ⟨scrO vs, if_pos rfl⟩)))
    rcases one b with y | ⟨y1, y2⟩
    · exact nomatch y.symm.trans z
    · cases y2.symm.trans z
      subst y1
      exact ⟨ha, by rw [List.length_map]; exact hl, vs, _, rv, ha⟩

/-- what k_head leaves, for a law over a text that imports nothing -/
theorem walkG {l : PySem.W.OpenLaw} {n k : Nat} {loose : List Str} {XP : (Str → Option Value) → Heap → Prop}
    {YP : World → Heap → Prop} {d : DefRec} {q : Program} {K : Params → PySem.W.Frag} {sp : PySem.W.Frag → Sp} {x : Str}
    (hn : l.most = some n) (hn2 : n ≤ sizeLine) (hdf : d.params.defaults = []) (hr : Room k callerA)
    (hno : importsNone q = true) (hY : ∀ (w : World) (h : Heap), YP w h → (K w.params).In h)
    (F : ∀ (w : World) (mg : Str → Option Value) (fa : Addr) (h : Heap), (K w.params).In h → h.Ns mainGlobals mg →
      mg d.name = some (.ref fa) → ∃ fd : FuncData, (∀ (s : Shared) (u : Value), BindsTo s fd ⟨[u], []⟩ [(x, u)]) ∧
        ∀ base : Heap, (K w.params).In base → base.Ns mainGlobals mg → SysAt base →
          FnG l.prog w (K w.params) mg base CX0 k fa fd [x] (sp (K w.params)))
    (hsp : ∀ (K : PySem.W.Frag) (H : Hp) (a : Addr) (ns : List Int), ns.length ≤ n → Only H →
      SqL K H a (ns.map V.int) → sp K [.ref a] H (fun v _ => v = .bl true) fun _ _ _ => False) :
    PySem.W.WalkO q loose XP YP l.row.toRowW d [] (fun f vs => PySem.call f vs) := by
  refine Att.attach_call hn hdf ?_
  intro w s₀ s₁ mg mb fa o pm cd doc a vs ns G Y ho hd hcd hmg hobj hints hlen hg
  have KX := hY w _ Y
  obtain ⟨fd, hb, hF⟩ := F w mg fa _ KX G.T.g hmg
  have hsys : ∃ mm, s₁.heap.Ns sysModules mm := (G.T.seer hno).mods.elim fun mm z => ⟨mm, z.1⟩
  exact law_callG (sp := sp (K w.params)) KX G.T.g G.T.b G.T.builtins G.T.nolimit hsys hg hobj hints
    (Nat.le_trans hlen hn2) hr hF hb fun H hO hS => hsp _ H a ns hlen hO hS
end
end GL

/-! G3: an error of an own class over ValueError, with an __init__ of its own, made as a value: by place, by name. -/
namespace PySem
namespace GLX
open Builtin Builtin.ObjectAttr HandSPX
section
variable {M : Model} {A : Around} {E : Value → Shared → Prop} {h : Heap} {g : Array GenState} {d : Drawn}
variable {t : Nat} {os : OsState} {nm q : Str} {C N : Addr} {bs bm bmB : List Value} {hdct : Bool}
variable {sn : List Str} {sub : List Value} {ab : Bool} {col : Option Bool} {dd : Option Addr}
variable {k0 k1 k2 k3 k5 : Option Value} {B newId initId : String} {rest : List Value} {kw : List (Str × Value)}

/-- what C's object looks like -/
abbrev ClsAt (h : Heap) (nm q : Str) (C N : Addr) (bs bm : List Value) (hdct : Bool) (sn : List Str)
    (sub : List Value) (ab : Bool) (col : Option Bool) (dd : Option Addr)
    (k0 k1 k2 k3 k5 : Option Value) (newId : String) : Prop :=
  h.get? C = some (excClassObj nm q C N bs bm hdct sn sub ab col dd k0 k1 k2 k3 k5 newId)

theorem chk_new (F : ExcBaseFacts B newId initId bmB)
    (hT : ∀ X : String, bm.contains (.type X) = bmB.contains (.type X)) {Q : Unit → Shared → Prop}
    (hC : ClsAt h nm q C N bs bm hdct sn sub ab col dd k0 k1 k2 k3 k5 newId) (hq : Q () ⟨h, g, d, t, os⟩) :
    wpAny M A (checkBuiltinCall newId ⟨.ref C :: rest, kw⟩) Q E ⟨h, g, d, t, os⟩ := by
  have inB : (Value.ref C :: bm).contains (.type B) = true := by
    rw [List.contains_cons, hT, F.hasB, Bool.or_true]
  have star := F.noStar
  simp only [checkBuiltinCall, F.newKind, F.newSplit, F.newRow]
  repeat (first
    | refine wpAny_loadPart_at hC ?_
    | (refine wpAny_isSubtype_exc hC ?_
       rw [inB])
    | refine wpAny_staticBase_exc hC ?_
    | refine wpAny_madeBy_exc hC ?_
    | simp only [bne_self_eq_false,
        Bool.false_eq_true, if_false]
    | wp_step)
  exact hq
end
section
variable {prog : Program} {w : World} {A : Around} {E : Value → Shared → Prop} {R : Result → Shared → Prop}
variable {h : Heap} {g : Array GenState} {d : Drawn} {t : Nat} {os : OsState} {nm q : Str} {C N : Addr}
variable {bs bm bmB : List Value} {hdct : Bool} {sn : List Str} {sub : List Value} {ab : Bool}
variable {col : Option Bool} {dd : Option Addr} {k0 k1 k2 k3 k5 : Option Value} {B newId initId : String}
variable {rest : List Value} {kw : List (Str × Value)}

theorem made_new (F : ExcBaseFacts B newId initId bmB)
    (hT : ∀ X : String, bm.contains (.type X) = bmB.contains (.type X))
    (hC : ClsAt h nm q C N bs bm hdct sn sub ab col dd k0 k1 k2 k3 k5 newId)
    (hq : R (.ok (.ret (.ref (h.objs.size + 1))))
      ⟨(h.push (W.kdv_tup rest)).push (excO C h.objs.size), g, d, t, os⟩) (hrest : rest.length ≤ sizeLine) :
    codeAny (model prog w) A (.builtin newId ⟨.ref C :: rest, kw⟩) R ⟨h, g, d, t, os⟩ := by
  have ends := F.ends
  have inB : (Value.ref C :: bm).contains (.type B) = true := by
    rw [List.contains_cons, hT, F.hasB, Bool.or_true]
  have inA : (Value.ref C :: bm).contains (.type "AttributeError") = false := by
    rw [List.contains_cons, hT, F.noAttr]
    rfl
  have inN : (Value.ref C :: bm).contains (.type "NameError") = false := by
    rw [List.contains_cons, hT, F.noName]
    rfl
  refine codeAny_builtinAt F.entry ?_
  unfold Builtin.«BaseException.__new__»
  refine wpAt_bind ?_
  show wpAt _ _ _ (stack >>= _) _ _ _
  refine wpAt_bind (wpAt_stack fun p below => wpAt_of_wpAny ?_)
  wp_walk
  refine wpAt_of_wpAny ?_
  rw [F.owner]
  repeat (first
    | with_reducible refine wpAny_madeHere_exc F.canon hC ?_
    | with_reducible refine wpAny_loadPart_at hC ?_
    | (with_reducible refine wpAny_isSubtype_exc hC ?_
       first
         | rw [inB]
         | rw [inA]
         | rw [inN])
    | wp_step)
  show R _ _
  rw [Heap.size_push]
  exact hq

theorem type_call (F : ExcBaseFacts B newId initId bmB)
    (hT : ∀ X : String, bm.contains (.type X) = bmB.contains (.type X)) {fI : Addr} {Q : Fin → Shared → Prop}
    (hC : ClsAt h nm q C N bs bm hdct sn sub ab col dd k0 k1 k2 k3 k5 newId)
    (hi : W.Looks (model prog w) h (typeLookup (.ref C) "__init__") (some (.ref fI)))
    (hb : ∀ self, W.Looks (model prog w) h (bindSpecial (.ref fI) self) (.ref fI, [self]))
    (hrest : rest.length ≤ sizeLine)
    (hq : codeAny (model prog w) A (.call (.ref fI) ⟨.ref (h.objs.size + 1) :: rest, kw⟩)
      (fun r s' => match r with
        | .ok (.ret v) => v = .none ∧ Q (.done (.ret (.ref (h.objs.size + 1)))) s'
        | .ok _ => False
        | .error e => E e s') ⟨(h.push (W.kdv_tup rest)).push (excO C h.objs.size), g, d, t, os⟩) :
    wpAny (model prog w) A (Builtin.«type.__call__» ⟨.ref C :: rest, kw⟩) Q E ⟨h, g, d, t, os⟩ := by
  repeat (first
    | with_reducible refine wpAny_loadPart_at hC ?_
    | with_reducible refine wpAny_madeBy_exc hC ?_
    | wp_step)
  refine codeAny_call_builtin_code (Code.quiet_builtin _ F.quiet) (chk_new F hT hC ?_)
  refine made_new F hT hC ?_ hrest
  show wpAny _ _ _ _ _ _
  have k : ∀ b o, h.get? b = some o →
      ((h.push (W.kdv_tup rest)).push (excO C h.objs.size)).get? b = some o :=
    fun b o e => Heap.get?_push_of_some _ (Heap.get?_push_of_some _ e)
  have atC := k _ _ hC
  have atE : ((h.push (W.kdv_tup rest)).push (excO C h.objs.size)).get? (h.objs.size + 1) =
      some (excO C h.objs.size) := by heap_get
  have own : (Value.ref C :: bm).contains (.ref C) = true := by simp
  have i1 := hi.keeps k
  have b1 := (hb (.ref (h.objs.size + 1))).keeps k
  unfold isInstance
  repeat (first
    | with_reducible refine wpAny_loadPart_at atE ?_
    | (with_reducible refine wpAny_isSubtype_exc atC ?_
       rw [own])
    | wp_step)
  show wpAny _ _ (typeLookup (.ref C) _) _ _ _
  refine i1.at ?_
  refine wpAny_holding (wpAny_bind (b1.at ?_))
  refine wpAny_bind (wpAny_call (codeAny_mono hq fun r s' z => ?_))
  match r, z with
  | .error e, z => exact z
  | .ok (.ret v), z =>
    obtain ⟨rfl, z⟩ := z
    first
      | exact wpAny_pure (wpAny_pure z)
      | (wp_walk
         exact z)
  | .ok .next, z => exact z.elim
  | .ok .brk, z => exact z.elim
  | .ok .cont, z => exact z.elim

/-- C(.., ..): the error is laid, then its __init__ runs -/
theorem call_cls (F : ExcBaseFacts B newId initId bmB)
    (hT : ∀ X : String, bm.contains (.type X) = bmB.contains (.type X)) {fI : Addr}
    (hC : ClsAt h nm q C N bs bm hdct sn sub ab col dd k0 k1 k2 k3 k5 newId)
    (hi : W.Looks (model prog w) h (typeLookup (.ref C) "__init__") (some (.ref fI)))
    (hb : ∀ self, W.Looks (model prog w) h (bindSpecial (.ref fI) self) (.ref fI, [self]))
    (hrest : rest.length ≤ sizeLine)
    (hq : codeAny (model prog w) (A.under (.builtin "type.__call__" ⟨.ref C :: rest, kw⟩))
      (.call (.ref fI) ⟨.ref (h.objs.size + 1) :: rest, kw⟩) (W.InitBack (h.objs.size + 1) R)
      ⟨(h.push (W.kdv_tup rest)).push (excO C h.objs.size), g, d, t, os⟩) :
    codeAny (model prog w) A (.call (.ref C) ⟨rest, kw⟩) R ⟨h, g, d, t, os⟩ := by
  have f1 := tc_lookup
  have f2 := tc_bind (.ref C)
  have hTy : (⟨h, g, d, t, os⟩ : Shared).TypeIs (.ref C) "type" := ⟨_, hC, rfl⟩
  refine codeAny_of_tree ?_
  show wpAny _ _ (callAny (.ref C) _) _ _ _
  repeat (any_goals (first
    | assumption
    | with_reducible refine wpAny_loadPart_at hC ?_
    | wp_step))
  refine ⟨rfl, ?_⟩
  refine codeAny_call_builtin_at (Code.quiet_builtin _ (by decide +kernel)) entry_typeCall
    (wpAny_check_type_call_sub hC (type_call F hT hC hi hb hrest ?_))
  refine codeAny_mono hq fun r s' z => ?_
  match r, z with
  | .error e, z => exact z
  | .ok (.ret v), z => exact z
  | .ok .next, z => exact z
  | .ok .brk, z => exact z
  | .ok .cont, z => exact z
end
end GLX
end PySem

/-! G4: errors that are held as values: made, their field read, isinstance. -/
namespace PySem.W
open PySem PySem.Spec PySem.Calls PyProof.Rows
section
variable {prog : Program} {w : World} {A : Around} {E : Value → Shared → Prop} {s : Shared} {K : Frag}
variable {x D : Addr} {ox : Obj}
/-- what isinstance asks of the class of an error -/
structure ErrC (K : Frag) (D : Addr) : Prop where
  ga : findIn K (.ref D) "__getattribute__" = some (some (.builtin "BaseException.__getattribute__"))
  gt : findIn K (.ref D) "__getattr__" = some none
  sub : subIn K (.ref D) (.type "BaseException") = some true
  dct : hasDictIn K D = true
  cls : findIn K (.ref D) "__class__" = some (some (.builtin "object.__class__"))
  get : specialIn K (.builtin "object.__class__") "__get__" =
    some (some (.builtin "getset_descriptor.__get__"))
  tak : takesIn K (.builtin "object.__class__") = some true
  mro : mroIn K D (.type "object") = some true

theorem cls_of_err {od : Option Obj} {Q : Option Value → Shared → Prop} (C : ErrC K D) (X : K.In s.heap)
    (I : InstAt s.heap x ox D od) (hf : findObj K D od "__class__" =
      some (.bind (.builtin "getset_descriptor.__get__") (.builtin "object.__class__")))
    (h : Q (some (.ref D)) { s with toks := s.toks + 1 }) :
    wpAny (model prog w) A (getAttr? (.ref x) "__class__") Q E s := by
  obtain ⟨hp, g, d, t, os⟩ := s
  have l0 := I.type (M := model prog w)
  have l1 := looks_findIn (M := model prog w) X C.ga
  have l2 := looks_findIn (M := model prog w) X C.gt
  have l3 := looks_find (M := model prog w) X I hf
  have isb : Looks (model prog w) hp (isInstance (.ref x) (.type "BaseException")) true :=
    l0.andThen (looks_subIn X C.sub)
  have ne : (Value.builtin "BaseException.__getattribute__" ==
    Value.builtin "object.__getattribute__") = false := by decide +kernel
  have fst : (onTheHeap (Value.ref D) && Value.builtin "BaseException.__getattribute__" ==
      Value.builtin "object.__getattribute__") = false := by rw [ne]; rfl
  unfold getAttr? getAttrBy? getAttrBy
  refine wpAny_bind (wpAny_mkText (wpAny_bind (wpAny_attempt (wpAny_holding ?_))))
  refine wpAny_bind (l0.at (wpAny_bind (l1.at ?_)))
  show wpAny _ _ (if (onTheHeap (Value.ref D) &&
    Value.builtin "BaseException.__getattribute__" ==
      Value.builtin "object.__getattribute__") = true then _ else _) _ _ _
  rw [fst, if_neg Bool.false_ne_true]
  unfold getAttrByItsOwn hookBefore
  refine wpAny_bind ?_
  rw [if_pos (show onTheHeap (Value.ref D) = true from rfl)]
  refine l2.at ?_
  refine wpAny_bind (wpAny_attempt (wpAny_holding ?_))
  unfold callGetattribute
  rw [show (false && onTheHeap (Value.builtin "BaseException.__getattribute__")) = false from rfl,
    if_neg Bool.false_ne_true]
  unfold boundAndCalled
  rw [PySem.F.excAttr_ValueError.ga.bind (.ref x)]
  refine wpAny_bind (wpAny_pure ?_)
  show wpAny _ _ (call (.builtin "BaseException.__getattribute__")
    [.ref x, .str "__class__" t]) _ _ _
  refine wpAny_call (codeAny_call_builtin PySem.F.excAttr_ValueError.ga.plain
    PySem.F.entry_bexc_ga ?_)
  refine @check_slot (model prog w) _ _ ⟨hp, g, d, t + 1, os⟩ "BaseException.__getattribute__"
    "BaseException" "__getattribute__" (.ref x) [.str "__class__" t] [] _ (by decide +kernel)
    (by decide +kernel) isb (PySem.F.args_bexc_ga (.ref x) (.str "__class__" t)) ?_
  unfold Builtin.«object.__getattribute__»
  refine wpAny_bind (wpAny_of_eq (a := ((Value.ref x : Value), [Value.str "__class__" t])) ?_ ?_)
  · first
      | rfl
      | (simp only [slotArgs]; rfl)
  refine wpAny_bind (wpAny_pure (wpAny_bind (l0.at (wpAny_bind (l3.at ?_)))))
  show wpAny _ _ (holding [Value.builtin "object.__class__"]
    (call (.builtin "getset_descriptor.__get__")
      [.builtin "object.__class__", .ref x, .ref D]) >>= ret) _ _ _
  refine wpAny_bind (wpAny_holding (wpAny_call
    (class_get (s := ⟨hp, g, d, t + 1, os⟩) (ox := ox) (od := od) X I C.mro ?_)))
  refine wpAny_pure ?_
  show wpAny _ _ (handedOut (.ref D)) _ _ _
  rw [handedOut_of (v := .ref D) rfl]
  first
    | exact wpAny_pure (wpAny_pure h)
    | exact wpAny_pure h
    | exact wpAny_pure (wpAny_bind (wpAny_pure (wpAny_pure h)))

theorem cls_there {D : Addr} (h : hasDictIn K D = true) :
    ∃ c d cd sl, K.lookup D = some ⟨c, d, .cls cd, sl⟩ := by
  obtain ⟨cd, hc, _⟩ := any_some h
  unfold clsIn at hc
  split at hc
  · exact ⟨_, _, _, _, by assumption⟩
  · cases hc
/-- the kit of isinstance for an error that has its dict -/
theorem kit_err {od : Obj} (C : ErrC K D) : KitX K (.ref x) (.ref D) (fun h => InstAt h x ox D (some od)) where
  ty := fun _ _ _ I => I.type
  it := fun _ _ X _ => by
    obtain ⟨c, d, cd, sl, ho⟩ := cls_there C.dct
    intro A' Q' E' s' k q
    unfold isType loadHead
    exact wpAny_bind (wpAny_loadPart (k _ _ (X _ _ ho)) (wpAny_pure q))
  ne := fun h tp dd its n sl X htp => by
    obtain ⟨c, d, cd, sl', ho⟩ := cls_there C.dct
    refine Bool.eq_false_iff.mpr fun q => ?_
    have e : D = tp := Value.ref.inj (beq_iff_eq.mp q)
    subst e
    cases (X _ _ ho).symm.trans htp
  ca := fun X I k => cls_of_err C X I (findObj_data (by
    obtain ⟨cd, hc, _⟩ := any_some C.dct
    rw [hc]; rfl) C.cls C.get C.tak) k
end
end PySem.W

namespace GL
open PySem PySem.Spec PyProof.Rows L2
/-- an error of the class at C with its one field -/
def IsErr (H : Hp) (a C : Addr) (v : V) : Prop :=
  ∃ d, H a = some (exo a C (some d)) ∧ H d = some (exd d [("value", v)])
theorem IsErr.keep {H H' : Hp} {a C : Addr} {v : V} (k : ∀ b o, H b = some o → H' b = some o)
    (h : IsErr H a C v) : IsErr H' a C v := let ⟨d, h1, h2⟩ := h; ⟨d, k _ _ h1, k _ _ h2⟩

section
variable {X : Cx} {pins : List (Addr × Obj)} {σ : L2.St} {H : Hp} {s : Shared} {a C : Addr} {v : V}
theorem err_at {K : PySem.W.Frag} {od : Addr} (hok : HOk X.prog X.w H s.heap)
    (h1 : H a = some (exo a C (some od))) (h2 : H od = some (exd od [("value", v)])) :
    ∃ ox o, PySem.W.InstAt s.heap a ox C (some o) ∧ ∃ u, RelV v u ∧ PySem.W.lookIn "value" o = some (some u) := by
  obtain ⟨t1, e1⟩ := exo_at hok h1
  obtain ⟨mA, hns, hr⟩ := exd_at hok h2
  obtain ⟨o, ho, hl⟩ := lookIn_ns hns
  obtain ⟨u, hu, ru⟩ := RelO.some_of (v := v) (o := mA "value") (hr "value")
  exact ⟨_, o, ⟨e1, rfl, rfl, ho⟩, u, ru, by rw [hl, hu]⟩

/-- the reading of e.value -/
def tErrF (K : PySem.W.Frag) (te : TE) : TE := fun σ H Q => te σ H fun x H1 => ∃ a C v, x = .ref a ∧
  XfC K C ∧ PySem.W.findIn K (.ref C) "value" = some none ∧ IsErr H1 a C v ∧ Q v H1
theorem pe_errF {e : Expr} {te : TE} {pos : Pos} (he : PE X e te)
    (hb : attributeBase e "value" X.env (eval e X.env) = eval e X.env := by rfl) :
    PE X (.Attribute e "value" pos) (tErrF X.K te) := by
  refine ⟨fun pins s σ H Q I h => attr_of hb (thn (he.run pins s σ H _ I h) fun u s1 hh => ?_)⟩
  obtain ⟨x, H1, I1, rx, a, C, v, ex, T, hno, ⟨d, h1, h2⟩, q⟩ := hh
  subst ex
  obtain rfl : u = Value.ref a := rx
  obtain ⟨ox, o, J, y, ry, hl⟩ := err_at (K := X.K) I1.hok h1 h2
  exact HandSPX.exc_get I1.kIn J T.ga T.gg T.exC (PySem.W.findObj_own T.hdC hno rfl hl)
    (handed_of ry) ⟨v, H1, I1.tok _, ry, q⟩

/-- isinstance(e, c) -/
def rIsErr (K : PySem.W.Frag) : List V → Hp → VK → Prop := fun xs H Q => ∃ a D v c cv b, xs = [.ref a, c] ∧
  PySem.W.ErrC K D ∧ IsErr H a D v ∧ ClsV c cv ∧ PySem.W.kitOne K (.ref D) cv = some b ∧ Q (.bl b) H
theorem call_isErr : CallR X (.builtin "isinstance") (rIsErr X.K) := by
  intro pins s σ H xs us Q I r h
  obtain ⟨a, D, v, c, cv, b, rfl, T, ⟨d, h1, h2⟩, k, e, q⟩ := h
  obtain ⟨u1, u2, rfl, r1, r2⟩ := vals2 r
  have e2 := k.eq r2
  subst e2
  obtain rfl : u1 = Value.ref a := r1
  obtain ⟨ox, o, J, _⟩ := err_at (K := X.K) I.hok h1 h2
  exact PySem.W.kia_one (PySem.W.kit_err T) I.kIn J e (fun z => nomatch z)
    fun tk => ⟨.bl b, H, I.tok tk, rfl, q⟩
end

/-! ### an error made -/
section
variable {X : Cx} {k : Nat} {fI C : Addr} {fd : FuncData} {ps ks : List Str} {sp : Sp} {x : Str}
variable {p pos : Pos} {e : Expr} {es : List Expr} {t tk : TA} {kws : List Keyword}
/-- what is known of the class at C and of its __init__ -/
structure ErrMk (K : PySem.W.Frag) (C fI : Addr) : Prop where
  oex : OexC K C
  ini : PySem.W.findIn K (.ref C) "__init__" = some (some (.ref fI))
  fun_ : PySem.W.typeIn K (.ref fI) = some (.type "function")
theorem under_guards {A : Around} {args : Args} (h : A.guards = some []) :
    (A.under (.builtin "type.__call__" args)).guards = some [] := by
  simp [Around.under, Code.guards, Code.isGuard, guardIds, pushGuards, h]

theorem run_err {args : Args} {us : List Value} {vs : List V} {pins : List (Addr × Obj)} {σ : L2.St} {H : Hp}
    {s : Shared} {Q : VK} (M : ErrMk X.K C fI) (F : FnOk X.prog X.w X.K X.mg X.base CX0 k fI fd ps sp)
    (hr : Room (k + 1) X.A) (I : Inv X pins σ H s) (hl : args.pos.length ≤ sizeLine)
    (hb : ∀ (s' : Shared) (a : Value), X.K.In s'.heap →
      BindsTo s' fd ⟨a :: args.pos, args.kw⟩ (ps.zip (a :: us))) (r : Vals vs us)
    (q : ∀ a, H a = none → sp (.ref a :: vs) (upd H a (exo a C none)) (fun v H3 => v = .non ∧ Q (.ref a) H3) E0) :
    wpAny (model X.prog X.w) X.A (call (.ref C) args.pos args.kw) (EP X pins σ Q) X.xe s := by
  obtain ⟨nm, qn, N, bs, bm, sn, sub, ab, col, dd, k0, k1, k2, k3, k5, hC, hbm⟩ := M.oex.cls
  obtain ⟨hp, g, dr, tk, os⟩ := s
  have sz : hp.objs.size ≤ hp.objs.size + 1 := Nat.le_succ _
  have fresh : H (hp.objs.size + 1) = none := I.hok.fresh sz
  have keep : ∀ b o, hp.get? b = some o →
      ((hp.push (PySem.W.kdv_tup args.pos)).push (HandSPX.excO C hp.objs.size)).get? b = some o :=
    fun b o z => Heap.get?_push_of_some _ (Heap.get?_push_of_some _ z)
  have there : ((hp.push (PySem.W.kdv_tup args.pos)).push (HandSPX.excO C hp.objs.size)).get?
      (hp.objs.size + 1) = some (HandSPX.excO C hp.objs.size) := by heap_get
  have J := I.laid (t' := tk) (a := hp.objs.size + 1) (o := exo (hp.objs.size + 1) C none) keep sz (exo_ok there)
  have rr : Vals (V.ref (hp.objs.size + 1) :: vs) (Value.ref (hp.objs.size + 1) :: us) := .cons rfl r
  refine wpAny_call (GLX.call_cls PySem.F.excBase_ValueError (fun Y => HandSPX.refsVE_contains Y bm hbm)
    (I.kIn _ _ hC) (PySem.W.looks_findIn I.kIn M.ini) (fun self => PySem.W.bind_fn I.kIn self M.fun_) hl
    (codeAny_mono (FnOk.run F _ X.stack _ _ ⟨Value.ref (hp.objs.size + 1) :: args.pos, args.kw⟩ _ _ _ _
      (hr.make C args.pos args.kw) (J.env0.make C args.pos args.kw) (hb _ _ J.kIn) rr (q _ fresh)) ?_))
  intro res s' hq
  match res, hq with
  | .error er, hq => exact hq.elim
  | .ok .next, hq => exact hq.elim
  | .ok .brk, hq => exact hq.elim
  | .ok .cont, hq => exact hq.elim
  | .ok (.ret u), hq =>
    obtain ⟨v, H3, J3, rv, ev, q3⟩ := J.after hq
    subst ev
    exact ⟨rv, .ref _, H3, J3, rfl, q3⟩

def tErr (C : Addr) (sp : Sp) (t : TA) : TE := fun σ H Q => t σ H fun vs H1 => vs.length ≤ 1000 ∧
  ∀ a, H1 a = none → sp (.ref a :: vs) (upd H1 a (exo a C none)) (fun v H3 => v = .non ∧ Q (.ref a) H3) E0
/-- C(e, ..) -/
theorem pe_err (M : ErrMk X.K C fI) (F : FnOk X.prog X.w X.K X.mg X.base CX0 k fI fd ps sp)
    (hr : Room (k + 1) X.A) (hg : Gl X x) (hm : X.mg x = some (.ref C)) (hb : Binds X.K fd ps [])
    (ha : PA X (e :: es) t) (hdb : (x == ("__debug__" : Str)) = false := by decide)
    (he : starEach (e :: es) X.env = (false, eval e X.env) :: starEach es X.env := by rfl)
    (hpl : (backTo pos (starEach es X.env)).any (·.1) = false := by rfl) :
    PE X (.Call (.Name x p) (e :: es) [] pos) (tErr C sp t) := by
  refine ⟨fun pins s σ H Q I h => wpAny_Call_Name_kw (ld_glob I hg hm ?_ hdb)⟩
  refine PySem.W.callWith_K (h₀ := X.base) I.ok.mod.kin M.oex.kC ?_ he hpl
  refine thn (ha.run pos pins s σ H _ I h) fun us s1 ⟨vs, H1, I1, r1, hz, q1⟩ => ⟨I1.kIn, ?_⟩
  have hu : us.length ≤ sizeLine := by rw [← r1.length, sizeLine_eq]; omega
  have hfree := I1.hok.fresh (Nat.le_refl _)
  refine run_err (args := ⟨us, []⟩) M F hr I1 hu (fun s' a K' => ?_) r1 q1
  have hl : (a :: us).length = ps.length := by
    have z := F.len _ _ _ _ (q1 _ hfree)
    rw [← z, List.length_cons, List.length_cons, r1.length]
  have y := hb s' (a :: us) K' (by rw [List.append_nil]; exact hl)
  rw [List.append_nil] at y
  exact y
def tErrK (C : Addr) (sp : Sp) (tk : TA) : TE := fun σ H Q => tk σ H fun zs H1 =>
  ∀ a, H1 a = none → sp (.ref a :: zs) (upd H1 a (exo a C none)) (fun v H3 => v = .non ∧ Q (.ref a) H3) E0
/-- C(k = e, ..), all by name, in the parameters' order -/
theorem pe_errK (M : ErrMk X.K C fI) (F : FnOk X.prog X.w X.K X.mg X.base CX0 k fI fd ps sp)
    (hr : Room (k + 1) X.A) (hg : Gl X x) (hm : X.mg x = some (.ref C))
    (hb : ∀ (s : Shared) (a : Value) (ws : List Value), X.K.In s.heap → (a :: ws).length = ps.length →
      BindsTo s fd ⟨[a], ks.zip ws⟩ (ps.zip (a :: ws)))
    (hkw : PK X kws tk)
    (hall : (backToKw pos (keywordEach kws X.env)).all (·.1.isSome) = true := by rfl)
    (hks : (backToKw pos (keywordEach kws X.env)).filterMap (·.1) = ks := by rfl)
    (hdb : (x == ("__debug__" : Str)) = false := by decide)
    (hpl : ((backTo pos (starEach [] X.env)).any (·.1) ||
      (backToKw pos (keywordEach kws X.env)).any (·.1.isNone)) = false := by rfl) :
    PE X (.Call (.Name x p) [] kws pos) (tErrK C sp tk) := by
  refine ⟨fun pins s σ H Q I h => wpAny_Call_Name_kw (ld_glob I hg hm ?_ hdb)⟩
  refine PySem.W.callWith_KW0 (h₀ := X.base) I.ok.mod.kin M.oex.kC hall ?_ hpl
  refine thn (hkw.run pos pins s σ H _ I h) fun ws s1 ⟨zs, H1, I1, r1, q1⟩ => ⟨I1.kIn, ?_⟩
  rw [hks]
  have hfree := I1.hok.fresh (Nat.le_refl _)
  refine run_err (args := ⟨[], ks.zip ws⟩) (us := ws) M F hr I1 (Nat.zero_le _) (fun s' a K' => hb s' a ws K' ?_) r1 q1
  have z := F.len _ _ _ _ (q1 _ hfree)
  rw [← z, List.length_cons, List.length_cons, r1.length]
end
end GL

/-! P0: the text of the law, draws. -/
namespace K00
open PySem PySem.Spec PyProof.Rows L2 GL

def topS (i : Nat) : Stmt :=
  PySem.Challenge.pw_steadymixes_k00_errors_keep_their_value.main.body.getD i (.Pass ⟨0, 0, 0, 0⟩)
abbrev sInit : Stmt := inClass (topS 1) 0
abbrev sPot : Stmt := topS 19
abbrev sDraw : Stmt := topS 20
abbrev sPlain : Stmt := topS 21
abbrev sValue : Stmt := topS 22
abbrev sFirst : Stmt := topS 23
abbrev sSecond : Stmt := topS 24
abbrev sThird : Stmt := topS 25
abbrev sMade : Stmt := topS 26
abbrev sKinds : Stmt := topS 27
abbrev sKept : Stmt := topS 28
abbrev sChanged : Stmt := topS 29
abbrev sLaw : Stmt := topS 30
theorem scInit : FnScope ["self", "value"] ["self", "value"] (defScope sInit) :=
  ⟨rfl, rfl, rfl, by decide +kernel, rfl, by decide +kernel, by decide +kernel⟩
theorem scPot : FnScope ["script", "k", "cell", "total", "other"] ["script", "k"] (defScope sPot) :=
  ⟨rfl, rfl, rfl, by decide +kernel, rfl, by decide +kernel, by decide +kernel⟩
theorem scDraw : FnScope ["pot", "many", "found", "mixed"] ["pot", "many"] (defScope sDraw) :=
  ⟨rfl, rfl, rfl, by decide +kernel, rfl, by decide +kernel, by decide +kernel⟩
theorem scPlain : FnScope ["pot", "way"] ["pot"] (defScope sPlain) :=
  ⟨rfl, rfl, rfl, by decide +kernel, rfl, by decide +kernel, by decide +kernel⟩
theorem scValue : FnScope ["pot", "deep", "way", "parts", "turn", "at", "part"] ["pot", "deep"] (defScope sValue) :=
  ⟨rfl, rfl, rfl, by decide +kernel, rfl, by decide +kernel, by decide +kernel⟩
theorem scFirst : FnScope ["way", "value", "named"] ["way", "value", "named"] (defScope sFirst) :=
  ⟨rfl, rfl, rfl, by decide +kernel, rfl, by decide +kernel, by decide +kernel⟩
theorem scSecond : FnScope ["way", "value", "named"] ["way", "value", "named"] (defScope sSecond) :=
  ⟨rfl, rfl, rfl, by decide +kernel, rfl, by decide +kernel, by decide +kernel⟩
theorem scThird : FnScope ["way", "value", "named"] ["way", "value", "named"] (defScope sThird) :=
  ⟨rfl, rfl, rfl, by decide +kernel, rfl, by decide +kernel, by decide +kernel⟩
theorem scMade : FnScope ["way", "value", "named"] ["way", "value", "named"] (defScope sMade) :=
  ⟨rfl, rfl, rfl, by decide +kernel, rfl, by decide +kernel, by decide +kernel⟩
theorem scKinds : FnScope ["error", "way", "found", "k"] ["error", "way"] (defScope sKinds) :=
  ⟨rfl, rfl, rfl, by decide +kernel, rfl, by decide +kernel, by decide +kernel⟩
theorem scKept : FnScope ["way", "value", "named", "error", "other", "held", "third"] ["way", "value", "named"]
    (defScope sKept) := ⟨rfl, rfl, rfl, by decide +kernel, rfl, by decide +kernel, by decide +kernel⟩
theorem scChanged : FnScope ["way", "named", "inner", "row", "error", "alone"] ["way", "named"] (defScope sChanged) :=
  ⟨rfl, rfl, rfl, by decide +kernel, rfl, by decide +kernel, by decide +kernel⟩
theorem scLaw : FnScope ["script", "k", "pot", "way", "value", "named"] ["script"] (defScope sLaw) :=
  ⟨rfl, rfl, rfl, by decide +kernel, rfl, by decide +kernel, by decide +kernel⟩

section
variable {X : Cx}
def CPowW (i j : Int) : Prop := 0 ≤ j ∧ (Builtin.Int.intBits i : Int) * j ≤ 2 ^ 27
theorem op_powW : OpR X (binaryOp .Pow) (rI CPowW fun i j => .int (i ^ j.toNat)) :=
  opI fun _ _ _ _ _ _ _ hc q => pow_int hc.1 hc.2 q
end

/-- a pot: what is left of the number, the seed, the draws so far -/
def PotO (n : Nat) (o : HO) : Prop := ∃ a b c : Int, o = .lst [.int a, .int b, .int c] ∧ 0 ≤ a ∧ 0 ≤ b ∧
  b < 2 ^ 98 ∧ 0 ≤ c ∧ c ≤ n
theorem PotO.mono {n m : Nat} {o : HO} (h : PotO n o) (k : n ≤ m) : PotO m o := by
  obtain ⟨a, b, c, e, h1, h2, h3, h4, h5⟩ := h
  exact ⟨a, b, c, e, h1, h2, h3, h4, by omega⟩

/-- from the pot at p one number below many -/
def spDraw : Sp := fun vs H Q _ => ∃ (p : Addr) (many : Int) (n : Nat) (o : HO), vs = [.ref p, .int many] ∧
  0 < many ∧ many ≤ 10 ^ 30 ∧ n ≤ 1000000 ∧ H p = some o ∧ PotO n o ∧
  ∀ r o', 0 ≤ r → r < many → PotO (n + 1) o' → Q (.int r) (upd H p o')

theorem bits_small {i : Int} {k : Nat} (h : i.natAbs < 2 ^ k) : Builtin.Int.intBits i ≤ k + 1 := by
  unfold Builtin.Int.intBits
  split
  · omega
  · rename_i h0
    have := (Nat.log2_lt (by simpa using h0)).mpr h
    omega
end K00

/-! P1: _law_draw. -/
namespace K00
open PySem PySem.Spec PyProof.Rows L2 GL
section
variable {P : Program} {w : World} {K : PySem.W.Frag} {mg : Str → Option Value} {base : Heap}

theorem pow_fits {b c : Int} {n : Nat} (hb : 0 ≤ b) (hb2 : b < 2 ^ 98) (hc : 0 ≤ c) (hc2 : c ≤ n) (hn : n ≤ 2000000) :
    CPowW (b + 271828183 * c) 3 := by
  refine ⟨by decide, ?_⟩
  have h : (b + 271828183 * c).natAbs < 2 ^ 99 := by omega
  have := bits_small h
  omega
theorem mixed_fits {m : Int} (h0 : 0 ≤ m) (h1 : m < 10 ^ 31 + 33) : CMulW m (m + 9176) :=
  wide_mul (a := 104) (b := 104) (by omega) (by omega) (by decide) (by decide) (by decide)

theorem ok_draw {f : Addr} {fd : FuncData} {k : Nat} (F : Fun K "_law_draw" "_law_draw" sDraw f fd)
    (mi : mg "int" = none) : FnOk P w K mg base CX0 (k + 1) f fd ["pot", "many"] spDraw := by
  refine F.ok scDraw (fun vs H Q E h => ?_) (fun cdv A outer s H vs Q E hr h => ?_)
  · obtain ⟨p, many, n, o, rfl, _⟩ := h
    rfl
  · obtain ⟨p, many, n, o, rfl, h1, h2, hn, hp, ⟨a, b, c, rfl, ha, hb, hb2, hc, hc2⟩, q⟩ := h
    refine ⟨_, pss_cons (ps_if (pt_cmpR op_gt (pe_ix ix_list (pv 0) pe_int (fun _ _ => rfl)) pe_int (nomark _))
        (pss_cons (ps_set (i := 2) scDraw.nd rfl (.inl rfl) (pe_op op_mod
            (pe_callTy call_int1 (by rfl) mi (by decide +kernel)
              (pa_cons (pe_ix ix_list (pv 0) pe_int (fun _ _ => rfl)) pa_nil)) (pv 1)))
          (pss_cons (ps_asg (pe_op op_fdivW (pe_ix ix_list (pv 0) pe_int (fun _ _ => rfl)) (pv 1))
            (pg_sub (pv 0) pe_int set_list))
          (pss_one (ps_ret (pv 2))))) pss_nil)
      (pss_cons (ps_asg (pe_op op_add (pe_ix ix_list (pv 0) pe_int (fun _ _ => rfl)) pe_int)
          (pg_sub (pv 0) pe_int set_list))
      (pss_cons (ps_set (i := 3) scDraw.nd rfl (.inl rfl) (pe_op op_mod
          (pe_callTy call_int1 (by rfl) mi (by decide +kernel) (pa_cons (pe_op op_powW
            (pe_op op_add (pe_ix ix_list (pv 0) pe_int (fun _ _ => rfl))
              (pe_op op_mul pe_int (pe_ix ix_list (pv 0) pe_int (fun _ _ => rfl)))) pe_int) pa_nil))
          (pe_op op_add (pe_op op_pow pe_int pe_int) pe_int)))
      (pss_one (ps_ret (pe_op op_mod (pe_op op_fdiv (pe_op op_mod
          (pe_callTy call_int1 (by rfl) mi (by decide +kernel)
            (pa_cons (pe_op op_mulW (pv 3) (pe_op op_add (pv 3) pe_int)) pa_nil))
          (pe_op op_add (pe_op op_pow pe_int pe_int) pe_int)) pe_int) (pv 1)))))), ?_⟩
    have S0 : SqL K H p [.int a, .int b, .int c] := SqL.of hp
    -- if pot[0] > 0
    refine ⟨.ref p, rfl, p, _, 0, _, rfl, rfl, S0, atI_nat (j := 0) rfl, _, _, rfl, rfl, _, rfl,
      ite2 (fun e => ?_) (fun e => ?_)⟩
    · have ea : 0 < a := of_decide_eq_true e
      -- found = int(pot[0]) % many
      refine ⟨.ref p, rfl, p, _, 0, _, rfl, rfl, S0, atI_nat (j := 0) rfl, .inl ⟨_, rfl, ?_⟩⟩
      refine ⟨.int many, rfl, _, _, rfl, rfl, h1, ?_⟩
      -- pot[0] = pot[0] // many
      refine ⟨.ref p, rfl, p, _, 0, _, rfl, rfl, S0, atI_nat (j := 0) rfl, .int many, rfl, _, _, rfl, rfl,
        wide_div (b := 101) h1 (by omega) (by decide) (by decide), ?_⟩
      refine ⟨.ref p, rfl, p, _, 0, 0, rfl, rfl, hp, rfl, ?_⟩
      -- return found
      refine ⟨_, rfl, q _ _ (Int.emod_nonneg _ (by omega)) (Int.emod_lt_of_pos _ h1)
        ⟨a / many, b, c, rfl, Int.ediv_nonneg ha (by omega), hb, hb2, hc, by omega⟩⟩
    · -- pot[2] = pot[2] + 1
      refine ⟨.ref p, rfl, p, _, 2, _, rfl, rfl, S0, atI_nat (j := 2) rfl, _, _, rfl, rfl, ?_⟩
      refine ⟨.ref p, rfl, p, _, 2, 2, rfl, rfl, hp, rfl, ?_⟩
      have S1 : SqL K (upd H p (.lst [.int a, .int b, .int (c + 1)])) p [.int a, .int b, .int (c + 1)] :=
        SqL.of upd_same
      have PO : PotO (n + 1) (.lst [.int a, .int b, .int (c + 1)]) :=
        ⟨a, b, c + 1, rfl, ha, hb, hb2, by omega, by omega⟩
      -- mixed = ..
      refine ⟨.ref p, rfl, p, _, 1, _, rfl, rfl, S1, atI_nat (j := 1) rfl, ?_⟩
      refine ⟨.ref p, rfl, p, _, 2, _, rfl, rfl, S1, atI_nat (j := 2) rfl, _, _, rfl, rfl, .inl ?_, ?_⟩
      · omega
      refine ⟨_, _, rfl, rfl, _, _, rfl, rfl, ?_, .inl ⟨_, rfl, ?_⟩⟩
      · exact pow_fits (n := n + 1) hb hb2 (by omega) (by omega) (by omega)
      refine ⟨_, _, rfl, rfl, ⟨by decide, by decide, by decide⟩, _, _, rfl, rfl, _, _, rfl, rfl, ?_, ?_⟩
      · show (0 : Int) < 10 ^ 31 + 33
        decide
      have m0 := Int.emod_nonneg ((b + 271828183 * (c + 1)) ^ 3) (show (10 ^ 31 + 33 : Int) ≠ 0 by decide)
      have m1 := Int.emod_lt_of_pos ((b + 271828183 * (c + 1)) ^ 3) (show (0 : Int) < 10 ^ 31 + 33 by decide)
      generalize hm : (b + 271828183 * (c + 1)) ^ 3 % (10 ^ 31 + 33) = m at m0 m1
      -- return ..
      refine ⟨.int m, ?_, .int m, ?_, _, _, rfl, rfl, _, _, rfl, rfl, mixed_fits m0 m1, .inl ⟨_, rfl, ?_⟩⟩
      · rw [← hm]; rfl
      · rw [← hm]; rfl
      refine ⟨_, _, rfl, rfl, ⟨by decide, by decide, by decide⟩, _, _, rfl, rfl, _, _, rfl, rfl, ?_, ?_⟩
      · show (0 : Int) < 10 ^ 30 + 57
        decide
      refine ⟨_, _, rfl, rfl, ⟨by decide, by decide⟩, .int many, rfl, _, _, rfl, rfl, h1, ?_⟩
      exact q _ _ (Int.emod_nonneg _ (by omega)) (Int.emod_lt_of_pos _ h1) PO
end
end K00

/-! P2: how long texts of data are; _law_plain, _law_pot. -/
namespace K00
open PySem PySem.Spec PyProof.Rows L2 GL

def Nice (n m : Nat) (d : PyData) : Prop := d.showable = true ∧ d.depth ≤ n ∧ d.shown.length ≤ m
theorem Nice.mono {n m n' m' : Nat} {d : PyData} (h : Nice n m d) (a : n ≤ n') (b : m ≤ m') : Nice n' m' d :=
  ⟨h.1, by have := h.2.1; omega, by have := h.2.2; omega⟩
theorem nice_int {i : Int} (h : i.natAbs < 10 ^ 21) : Nice 0 30 (.int i) := by
  refine ⟨?_, by simp only [PyData.depth]; omega, ?_⟩
  · have : i.natAbs.log2 < 1920 := PySem.Flt.log2_lt_of (by decide) (Nat.lt_trans h (by decide +kernel))
    simpa [PyData.showable] using this
  · rw [PyData.shown_int, PySem.ofString_length]
    exact Nat.le_trans (int_text_length_le10 (by decide) h) (by decide)
theorem nice_none : Nice 0 30 .none := ⟨by simp [PyData.showable], by simp only [PyData.depth]; omega, by decide +kernel⟩
theorem nice_bool (b : Bool) : Nice 0 30 (.bool b) :=
  ⟨by simp [PyData.showable], by simp only [PyData.depth]; omega, by cases b <;> decide +kernel⟩
theorem nice_all {n m : Nat} : ∀ {ds : List PyData}, (∀ d ∈ ds, Nice n m d) → PyData.showableAll ds = true ∧
    PyData.depthAll ds ≤ n ∧ ((PyData.shownAll ds).map (·.length)).sum ≤ ds.length * m
  | [], _ => ⟨by simp [PyData.showableAll], by simp [PyData.depthAll], by simp [PyData.shownAll]⟩
  | d :: ds, h => by
    obtain ⟨h1, h2, h3⟩ := h d (List.mem_cons_self ..)
    obtain ⟨r1, r2, r3⟩ := nice_all (ds := ds) fun y hy => h y (List.mem_cons_of_mem _ hy)
    refine ⟨by simp [PyData.showableAll, h1, r1], by simp only [PyData.depthAll]; omega, ?_⟩
    simp only [PyData.shownAll, List.map_cons, List.sum_cons, List.length_cons, Nat.add_mul]
    omega
theorem nice_list {n m : Nat} {ds : List PyData} (h : ∀ d ∈ ds, Nice n m d) :
    Nice (n + 1) (ds.length * (m + 2) + 3) (.list ds) := by
  obtain ⟨h1, h2, h3⟩ := nice_all h
  refine ⟨by simpa [PyData.showable] using h1, by simp only [PyData.depth]; omega, ?_⟩
  have := listText_len_le (PyData.shownAll ds)
  rw [PyData.shownAll_length] at this
  simp only [PyData.shown, Nat.mul_add]
  omega
theorem nice_tup {n m : Nat} {ds : List PyData} (h : ∀ d ∈ ds, Nice n m d) :
    Nice (n + 1) (ds.length * (m + 2) + 3) (.tuple ds) := by
  obtain ⟨h1, h2, h3⟩ := nice_all h
  refine ⟨by simpa [PyData.showable] using h1, by simp only [PyData.depth]; omega, ?_⟩
  have := tupleText_len_le (PyData.shownAll ds)
  rw [PyData.shownAll_length] at this
  simp only [PyData.shown, Nat.mul_add]
  omega
theorem nice_pairs {n m : Nat} : ∀ {kvs : List (Key × V)} {ds : List PyData}, (∀ d ∈ ds, Nice n m d) →
    (∀ kv ∈ kvs, Nice 0 30 (keyD kv.1)) → PyData.showableKv (kvD kvs ds) = true ∧
    PyData.depthKv (kvD kvs ds) ≤ n ∧ (PyData.shownKv (kvD kvs ds)).length ≤ ds.length ∧
    ((PyData.shownKv (kvD kvs ds)).map (·.length)).sum ≤ ds.length * (m + 32)
  | [], ds, _, _ => by
    cases ds <;> exact ⟨by simp [kvD, PyData.showableKv], by simp [kvD, PyData.depthKv],
      by simp [kvD, PyData.shownKv], by simp [kvD, PyData.shownKv]⟩
  | _ :: _, [], _, _ => ⟨by simp [kvD, PyData.showableKv], by simp [kvD, PyData.depthKv],
      by simp [kvD, PyData.shownKv], by simp [kvD, PyData.shownKv]⟩
  | kv :: kvs, d :: ds, h, hk => by
    obtain ⟨h1, h2, h3⟩ := h d (List.mem_cons_self ..)
    obtain ⟨k1, k2, k3⟩ := hk kv (List.mem_cons_self ..)
    obtain ⟨r1, r2, r3, r4⟩ := nice_pairs (kvs := kvs) (ds := ds) (fun y hy => h y (List.mem_cons_of_mem _ hy))
      (fun y hy => hk y (List.mem_cons_of_mem _ hy))
    have e : ((keyD kv.1).shown ++ ": " ++ d.shown).length = (keyD kv.1).shown.length + 2 + d.shown.length := by
      rw [strLen_append, strLen_append]; rfl
    refine ⟨by simp [kvD, PyData.showableKv, h1, k1, r1], by simp only [kvD, PyData.depthKv]; omega, ?_, ?_⟩
    · simp only [kvD, PyData.shownKv, List.length_cons]; omega
    · simp only [kvD, PyData.shownKv, List.map_cons, List.sum_cons, List.length_cons, Nat.add_mul, e]
      omega
theorem nice_dict {n m : Nat} {kvs : List (Key × V)} {ds : List PyData} (h : ∀ d ∈ ds, Nice n m d)
    (hk : ∀ kv ∈ kvs, Nice 0 30 (keyD kv.1)) : Nice (n + 1) (ds.length * (m + 34) + 3) (.dict (kvD kvs ds)) := by
  obtain ⟨h1, h2, h3, h4⟩ := nice_pairs h hk
  refine ⟨by simpa [PyData.showable] using h1, by simp only [PyData.depth]; omega, ?_⟩
  have := dictText_len_le (PyData.shownKv (kvD kvs ds))
  simp only [PyData.shown, Nat.mul_add] at *
  omega

/-! ### heaps -/
/-- all but the pot stays -/
def Kp (p : Addr) (H H' : Hp) : Prop := ∀ b o, b ≠ p → H b = some o → H' b = some o
theorem Kp.refl (p : Addr) (H : Hp) : Kp p H H := fun _ _ _ h => h
theorem Kp.trans {p : Addr} {H H1 H2 : Hp} (a : Kp p H H1) (b : Kp p H1 H2) : Kp p H H2 :=
  fun c o n h => b c o n (a c o n h)
theorem Kp.put {p : Addr} {H : Hp} {o : HO} : Kp p H (upd H p o) := fun b u n h => by rw [upd_ne n]; exact h
theorem Kp.new {p l : Addr} {H : Hp} {o : HO} (h : H l = none) : Kp p H (upd H l o) := fun b u n e => by
  rw [upd_ne (ne_of_none e h)]; exact e
/-- what is new in H' -/
def NewH (H H' : Hp) : Hp := fun b => match H b with
  | some _ => none
  | none => H' b
theorem NewH.at {H H' : Hp} {b : Addr} {o : HO} (h : H b = none) (h' : H' b = some o) : NewH H H' b = some o := by
  unfold NewH; rw [h]; exact h'
theorem NewH.of {H H' : Hp} {b : Addr} {o : HO} (h : NewH H H' b = some o) : H b = none ∧ H' b = some o := by
  unfold NewH at h
  cases e : H b with
  | none => rw [e] at h; exact ⟨rfl, h⟩
  | some u => rw [e] at h; cases h
theorem NewH.sub {H H' : Hp} {b : Addr} {o : HO} (h : NewH H H' b = some o) : H' b = some o := (NewH.of h).2
/-- data of new objects stays where all but the pot stays -/
theorem NewH.later {p : Addr} {H H1 H2 : Hp} {o : HO} (hp : H p = some o) (k : Kp p H1 H2) :
    ∀ b u, NewH H H1 b = some u → NewH H H2 b = some u := fun b u e => by
  obtain ⟨h1, h2⟩ := NewH.of e
  exact NewH.at h1 (k b u (fun z => by rw [z, hp] at h1; cases h1) h2)
/-- data new since a later heap is new since an earlier one -/
theorem NewH.since {p : Addr} {H H1 H2 : Hp} {o : HO} (hp : H1 p = some o) (k : Kp p H H1) :
    ∀ b u, NewH H1 H2 b = some u → NewH H H2 b = some u := fun b u e => by
  obtain ⟨h1, h2⟩ := NewH.of e
  refine NewH.at ?_ h2
  cases q : H b with
  | none => rfl
  | some v =>
    by_cases z : b = p
    · rw [z, hp] at h1; cases h1
    · rw [k b v z q] at h1; cases h1
theorem same_new {l : Addr} {H : Hp} {o : HO} (h : H l = none) : Same H (upd H l o) := fun b u e => by
  rw [upd_ne (ne_of_none e h)]; exact e

section
variable {P : Program} {w : World} {K : PySem.W.Frag} {mg : Str → Option Value} {base : Heap}

/-- a value without parts -/
def spPlain : Sp := fun vs H Q _ => ∃ (p : Addr) (n : Nat) (o : HO), vs = [.ref p] ∧ n + 2 ≤ 1000000 ∧
  H p = some o ∧ PotO n o ∧ ∀ v d o' H', Kp p H H' → H' p = some o' → PotO (n + 2) o' → RD (NewH H H') v d → Nice 1 30 d → Q v H'

theorem ok_plain {f fD : Addr} {fd fdD : FuncData} {k : Nat} (F : Fun K "_law_plain" "_law_plain" sPlain f fd)
    (FD : Fun K "_law_draw" "_law_draw" sDraw fD fdD) (bD : Binds K fdD ["pot", "many"] [])
    (gD : mg "_law_draw" = some (.ref fD)) (GD : FnOk P w K mg base CX0 k fD fdD ["pot", "many"] spDraw) :
    FnOk P w K mg base CX0 (k + 1) f fd ["pot"] spPlain := by
  refine F.ok scPlain (fun vs H Q E h => ?_) (fun cdv A outer s H vs Q E hr h => ?_)
  · obtain ⟨p, n, o, rfl, _⟩ := h
    rfl
  · obtain ⟨p, n, o, rfl, hn, hp, po, q⟩ := h
    refine ⟨_, pss_cons (ps_set (i := 1) scPlain.nd rfl (.inl rfl)
        (pe_call GD hr (by rfl) gD FD.kp bD .nil pass0 (pa_cons (pv 0) (pa_cons pe_int pa_nil))))
      (pss_cons (ps_if (pt_cmpR op_eq (pv 1) pe_int (nomark _)) (pss_one (ps_ret (pe_op op_sub
          (pe_call GD hr (by rfl) gD FD.kp bD .nil pass0 (pa_cons (pv 0) (pa_cons (pe_op op_pow pe_int pe_int) pa_nil)))
          (pe_op op_pow pe_int pe_int)))) pss_nil)
      (pss_cons (ps_if (pt_cmpR op_eq (pv 1) pe_int (nomark _)) (pss_one (ps_ret (pe_ix ix_list
          (pe_lst (pa_cons pe_str (pa_cons pe_str (pa_cons pe_str (pa_cons pe_str (pa_cons pe_str pa_nil))))))
          (pe_call GD hr (by rfl) gD FD.kp bD .nil pass0 (pa_cons (pv 0) (pa_cons pe_int pa_nil)))
          (fun _ _ => rfl)))) pss_nil)
      (pss_one (ps_ret (pe_ix ix_list
          (pe_lst (pa_cons pe_non (pa_cons pe_bl (pa_cons pe_bl (pa_cons pe_int (pa_cons (pe_tup pa_nil)
            (pa_cons (pe_un un_neg pe_int) pa_nil)))))))
          (pe_call GD hr (by rfl) gD FD.kp bD .nil pass0 (pa_cons (pv 0) (pa_cons pe_int pa_nil)))
          (fun _ _ => rfl)))))), ?_⟩
    -- way = _law_draw(pot, 6)
    refine ⟨.ref p, rfl, p, 6, n, o, rfl, by decide, by decide, by omega, hp, po, fun r o1 r0 r1 po1 => ?_⟩
    have k1 : Kp p H (upd H p o1) := .put
    refine ⟨_, rfl, rfl, _, rfl, ite2 (fun e => ?_) (fun e => ?_)⟩
    · refine ⟨.ref p, rfl, _, _, rfl, rfl, ⟨by decide, by decide, by decide⟩, p, _, n + 1, o1, rfl, by decide, by decide,
        by omega, upd_same, po1, fun r2 o2 h0 h1 po2 => ?_⟩
      have h1' : r2 < 10 ^ 20 := h1
      refine ⟨_, _, rfl, rfl, ⟨by decide, by decide, by decide⟩, _, _, rfl, rfl, ?_⟩
      refine q _ (.int (r2 - 10 ^ 19)) o2 _ (k1.trans .put) upd_same po2 (.int _) ((nice_int ?_).mono (by omega) (by omega))
      omega
    · refine ⟨_, rfl, rfl, _, rfl, ite2 (fun e => ?_) (fun e => ?_)⟩
      · refine ⟨by decide, fun l hl => ?_⟩
        have hlp : p ≠ l := ne_of_none upd_same hl
        refine ⟨.ref p, rfl, p, 5, n + 1, o1, rfl, by decide, by decide, by omega, by rw [upd_ne hlp]; exact upd_same,
          po1, fun r2 o2 h0 h1 po2 => ?_⟩
        have kk : Kp p H (upd (upd (upd H p o1) l (.lst [.str "", .str "a", .str "value", .str "MixError", .str "0"])) p o2) :=
          (k1.trans (.new hl)).trans .put
        have S : SqL K (upd (upd (upd H p o1) l (.lst [.str "", .str "a", .str "value", .str "MixError", .str "0"])) p o2) l
          [.str "", .str "a", .str "value", .str "MixError", .str "0"] := SqL.of (by rw [upd_ne hlp.symm]; exact upd_same)
        have fin : ∀ x : Str, Nice 1 30 (.str x) → Q (.str x)
            (upd (upd (upd H p o1) l (.lst [.str "", .str "a", .str "value", .str "MixError", .str "0"])) p o2) :=
          fun x nx => q _ (.str x) o2 _ kk upd_same po2 (.str x) nx
        have cs : r2 = 0 ∨ r2 = 1 ∨ r2 = 2 ∨ r2 = 3 ∨ r2 = 4 := by omega
        rcases cs with rfl | rfl | rfl | rfl | rfl
        · exact ⟨l, _, 0, .str "", rfl, rfl, S, atI_nat (j := 0) rfl, fin _ ⟨by decide +kernel, by decide +kernel, by decide +kernel⟩⟩
        · exact ⟨l, _, 1, .str "a", rfl, rfl, S, atI_nat (j := 1) rfl, fin _ ⟨by decide +kernel, by decide +kernel, by decide +kernel⟩⟩
        · exact ⟨l, _, 2, .str "value", rfl, rfl, S, atI_nat (j := 2) rfl, fin _ ⟨by decide +kernel, by decide +kernel, by decide +kernel⟩⟩
        · exact ⟨l, _, 3, .str "MixError", rfl, rfl, S, atI_nat (j := 3) rfl, fin _ ⟨by decide +kernel, by decide +kernel, by decide +kernel⟩⟩
        · exact ⟨l, _, 4, .str "0", rfl, rfl, S, atI_nat (j := 4) rfl, fin _ ⟨by decide +kernel, by decide +kernel, by decide +kernel⟩⟩
      · refine ⟨by decide, fun t ht => ⟨1, rfl, by show 6 ≤ sizeLine; decide, fun l hl => ?_⟩⟩
        have hpt : p ≠ t := ne_of_none upd_same ht
        have hp1 : upd (upd H p o1) t (.tup []) p = some o1 := by rw [upd_ne hpt]; exact upd_same
        have hlp : p ≠ l := ne_of_none hp1 hl
        have htl : t ≠ l := ne_of_none upd_same hl
        refine ⟨.ref p, rfl, p, 6, n + 1, o1, rfl, by decide, by decide, by omega, by rw [upd_ne hlp]; exact hp1,
          po1, fun r2 o2 h0 h1 po2 => ?_⟩
        have kk : Kp p H (upd (upd (upd (upd H p o1) t (.tup [])) l (.lst [.non, .bl true, .bl false, .int 0, .ref t, .int (-1)])) p o2) :=
          ((k1.trans (.new ht)).trans (.new hl)).trans .put
        have S : SqL K (upd (upd (upd (upd H p o1) t (.tup [])) l (.lst [.non, .bl true, .bl false, .int 0, .ref t, .int (-1)])) p o2) l
          [.non, .bl true, .bl false, .int 0, .ref t, .int (-1)] := SqL.of (by rw [upd_ne hlp.symm]; exact upd_same)
        have hT : upd (upd (upd (upd H p o1) t (.tup [])) l (.lst [.non, .bl true, .bl false, .int 0, .ref t, .int (-1)])) p o2 t =
          some (.tup []) := by rw [upd_ne hpt.symm, upd_ne htl]; exact upd_same
        have hH : H t = none := by rw [upd_ne hpt.symm] at ht; exact ht
        have fin : ∀ v d, RD (NewH H (upd (upd (upd (upd H p o1) t (.tup [])) l (.lst [.non, .bl true, .bl false, .int 0, .ref t, .int (-1)])) p o2)) v d →
            Nice 1 30 d → Q v (upd (upd (upd (upd H p o1) t (.tup [])) l (.lst [.non, .bl true, .bl false, .int 0, .ref t, .int (-1)])) p o2) :=
          fun v d rd nx => q v d o2 _ kk upd_same po2 rd nx
        have cs : r2 = 0 ∨ r2 = 1 ∨ r2 = 2 ∨ r2 = 3 ∨ r2 = 4 ∨ r2 = 5 := by omega
        rcases cs with rfl | rfl | rfl | rfl | rfl | rfl
        · exact ⟨l, _, 0, .non, rfl, rfl, S, atI_nat (j := 0) rfl, fin _ _ .non (nice_none.mono (by omega) (by omega))⟩
        · exact ⟨l, _, 1, .bl true, rfl, rfl, S, atI_nat (j := 1) rfl, fin _ _ (.bl _) ((nice_bool _).mono (by omega) (by omega))⟩
        · exact ⟨l, _, 2, .bl false, rfl, rfl, S, atI_nat (j := 2) rfl, fin _ _ (.bl _) ((nice_bool _).mono (by omega) (by omega))⟩
        · exact ⟨l, _, 3, .int 0, rfl, rfl, S, atI_nat (j := 3) rfl, fin _ _ (.int _) ((nice_int (by decide)).mono (by omega) (by omega))⟩
        · exact ⟨l, _, 4, .ref t, rfl, rfl, S, atI_nat (j := 4) rfl, fin _ _ (.tup (NewH.at hH hT) .nil) ((nice_tup (n := 0) (m := 0) (ds := []) (by simp)).mono (by omega) (by simp))⟩
        · exact ⟨l, _, 5, .int (-1), rfl, rfl, S, atI_nat (j := 5) rfl, fin _ _ (.int _) ((nice_int (by decide)).mono (by omega) (by omega))⟩

/-- a pot of a cell of the script -/
def spPot (K : PySem.W.Frag) : Sp := fun vs H Q _ => ∃ (a : Addr) (ns : List Int) (k : Nat), vs = [.ref a, .int k] ∧
  SqL K H a (ns.map V.int) ∧ ns.length ≤ 63 ∧ k ≤ 1000 ∧
  ∀ p o H', Same H H' → H p = none → H' p = some o → PotO 0 o → Q (.ref p) H'
theorem ok_pot {f : Addr} {fd : FuncData} {k : Nat} (F : Fun K "_law_pot" "_law_pot" sPot f fd)
    (mi : mg "int" = none) (ml : mg "len" = none) (ms : mg "sum" = none) (mm : mg "max" = none) (ma : mg "abs" = none) :
    FnOk P w K mg base CX0 (k + 1) f fd ["script", "k"] (spPot K) := by
  refine F.ok scPot (fun vs H Q E h => ?_) (fun cdv A outer s H vs Q E hr h => ?_)
  · obtain ⟨a, ns, k, rfl, _⟩ := h
    rfl
  · obtain ⟨a, ns, k, rfl, hS, hlen, hk, q⟩ := h
    refine ⟨_, pss_cons (ps_set (i := 2) scPot.nd rfl (.inl rfl) (pe_op op_add (pe_op op_mul pe_int (pv 1)) pe_int))
      (pss_cons (ps_if (pt_cmpR op_lt (pv 1) (pe_callB call_len_seq (by rfl) ml PySem.boot_len (pa_cons (pv 0) pa_nil)) (nomark _))
        (pss_one (ps_set (i := 2) scPot.nd rfl (.inl rfl) (pe_ix ix_list (pv 0) (pv 1) (fun _ _ => rfl)))) pss_nil)
      (pss_cons (ps_set (i := 3) scPot.nd rfl (.inl rfl) (pe_callB (cr_sum rfl) (by rfl) ms (by decide +kernel) (pa_cons
        (pe_lc (own := [("other", 4)]) (g := gName 4) (tt := tYes) rfl scPot.nd (pi_list (pv 0))
          (blkOk_by (own := [("other", 4)]) (N := ["script", "k", "cell", "total", "other"]) (sc := defScope sPot) (by decide +kernel))
          (fun _ _ _ _ _ => pg_name (i := 4) scPot.nd rfl (Or.inl rfl)) (fun _ _ _ _ _ => pts_nil)
          (fun _ _ _ _ _ => pe_op op_mod (pe_callTy call_int1 (by rfl) mi (by decide +kernel) (pa_cons (pv 4) pa_nil))
            (pe_op op_add (pe_op op_pow pe_int pe_int) pe_int))) pa_nil)))
      (pss_one (ps_ret (pe_lst (pa_cons (pe_callB (call_max2 rfl) (by rfl) mm (by decide +kernel) (pa_cons pe_int
            (pa_cons (pe_op op_sub (pv 2) (pe_op op_pow pe_int pe_int)) pa_nil)))
          (pa_cons (pe_op op_mod (pe_callTy call_int1 (by rfl) mi (by decide +kernel) (pa_cons (pe_op op_add (pe_op op_add
              (pe_op op_mul (pe_callB call_abs (by rfl) ma (by decide +kernel) (pa_cons (pv 2) pa_nil)) pe_int)
              (pe_op op_mul pe_int (pv 3))) (pv 1)) pa_nil))
            (pe_op op_add (pe_op op_pow pe_int pe_int) pe_int))
          (pa_cons pe_int pa_nil)))))))), ?_⟩
    refine ⟨_, rfl, _, _, rfl, rfl, .inl ⟨by decide, by decide⟩, _, _, rfl, rfl, ?_⟩
    refine ⟨_, rfl, .ref a, rfl, a, _, rfl, .inl hS, _, _, rfl, rfl, _, rfl, ite2
      (fun e => ⟨.ref a, rfl, .int k, rfl, a, _, k, .int (ns.getD k 0), rfl, rfl, hS, atI_nat (j := k) ?_, ?_⟩)
      (fun e => ?_)⟩
    · have e0 : (k : Int) < ((ns.map V.int).length : Int) := of_decide_eq_true e
      have e1 : k < ns.length := by rw [List.length_map] at e0; omega
      rw [List.getElem?_map, List.getD_eq_getElem?_getD, List.getElem?_eq_getElem e1]; rfl
    all_goals
      refine ⟨.ref a, rfl, a, rfl, ⟨_, hS⟩, fun D hD => lc_list (K := K) (a := a) (xs := ns.map V.int)
        (fun i H' => Same H H' ∧ ∃ ms : List Int, ms.length = i ∧ H' D = some (.lst (ms.map V.int)))
        ⟨same_new hD, [], rfl, upd_same⟩ (fun i H' _ hP => hP.1.seq hS) (fun i x H' hx hP => ?_) (fun H' hP => ?_)⟩
      · obtain ⟨sm, ms, em, hm⟩ := hP
        obtain ⟨m, rfl⟩ : ∃ m, x = .int m := by
          rw [List.getElem?_map] at hx
          cases hq : ns[i]? with
          | none => rw [hq] at hx; cases hx
          | some m => rw [hq] at hx; cases hx; exact ⟨m, rfl⟩
        have hi : i < ns.length := by
          have := (List.getElem?_eq_some_iff.mp hx).1
          simpa using this
        refine ⟨rfl, _, rfl, .inl ⟨m, rfl, _, _, rfl, rfl, ⟨by decide, by decide, by decide⟩, _, _, rfl, rfl, _, _, rfl, rfl, ?_, ?_⟩⟩
        · show (0 : Int) < 10 ^ 23 + 9
          decide
        refine ⟨_, hm, ?_, fun b o e => ?_, ms ++ [m % (10 ^ 23 + 9)], by simp [em], ?_⟩
        · rw [List.length_map, em]; exact small1000 (by omega)
        · rw [upd_ne (ne_of_none e hD)]; exact sm b o e
        · rw [List.map_append]; exact upd_same
      · obtain ⟨sm, ms, em, hm⟩ := hP
        refine ⟨D, ms, rfl, SqL.of hm, ?_⟩
        refine ⟨_, rfl, _, _, rfl, rfl, ⟨by decide, by decide, by decide⟩, _, _, rfl, rfl, _, _, rfl, ?_⟩
        refine ⟨_, rfl, _, rfl, _, _, rfl, rfl, .inr ⟨by decide, by decide⟩, .int ms.sum, rfl, _, _, rfl, rfl,
          .inl ⟨by decide, by decide⟩, _, _, rfl, rfl, .int k, rfl, _, _, rfl, rfl, .inl ⟨_, rfl, ?_⟩⟩
        refine ⟨_, _, rfl, rfl, ⟨by decide, by decide, by decide⟩, _, _, rfl, rfl, _, _, rfl, rfl, ?_, ?_⟩
        · show (0 : Int) < 10 ^ 29 + 319
          decide
        refine ⟨by show 3 ≤ sizeLine; decide, fun p hp => q p _ _ (sm.trans (same_new hp)) (sm.free hp) upd_same ?_⟩
        refine ⟨_, _, 0, rfl, ?_, Int.emod_nonneg _ (by decide), ?_, by decide, by decide⟩
        · split <;> omega
        · refine Int.lt_trans (Int.emod_lt_of_pos _ (by decide)) (by decide)
end
end K00

/-! P3: the errors made: __init__, _law_first .. _law_made. -/
namespace K00
open PySem PySem.Spec PyProof.Rows L2 GL
section
variable {P : Program} {w : World} {K : PySem.W.Frag} {mg : Str → Option Value} {base : Heap}

def spInit (K : PySem.W.Frag) : Sp := fun vs H Q _ => ∃ (a C : Addr) (v : V), vs = [.ref a, v] ∧ OexC K C ∧
  PySem.W.findIn K (.ref C) "value" = some none ∧ H a = some (exo a C none) ∧
  ∀ d, H d = none → d ≠ a → Q .non (upd (upd H d (exd d [("value", v)])) a (exo a C (some d)))

theorem ok_init {f : Addr} {fd : FuncData} {k : Nat} (F : Fun K "__init__" "MixError.__init__" sInit f fd)
    (mv : mg "ValueError" = none) (vV : PySem.W.findCls K (.type "ValueError") (.type "type") "__init__" =
      some (.val (.builtin "ValueError.__init__"))) :
    FnOk P w K mg base CX0 (k + 1) f fd ["self", "value"] (spInit K) := by
  refine F.ok scInit (fun vs H Q E h => ?_) (fun cdv A outer s H vs Q E hr h => ?_)
  · obtain ⟨a, C, v, rfl, _⟩ := h
    rfl
  · obtain ⟨a, C, v, rfl, T, hno, ha, q⟩ := h
    refine ⟨_, pss_cons (ps_expr (pe_veinit (by rfl) mv vV (pa_cons (pv 0) (pa_cons (pv 1) pa_nil))))
      (pss_one (ps_ost (pv 0) (pv 1))), ?_⟩
    refine ⟨.ref a, rfl, v, rfl, a, C, [v], rfl, by show 1 ≤ 1000; decide, T, ha, ?_⟩
    exact ⟨v, rfl, .ref a, rfl, a, C, rfl, T, hno, .inl ⟨ha, fun d hd ne => q d hd ne⟩⟩

/-- what is known of one class of the text and of its __init__ -/
structure OneC (K : PySem.W.Frag) (C fI : Addr) : Prop where
  em : ErrMk K C fI
  xf : XfC K C
  no : PySem.W.findIn K (.ref C) "value" = some none
  er : PySem.W.ErrC K C

section
variable {X : Cx} {C fI : Addr} {fd : FuncData} {k : Nat} {x : Str}
/-- an error of the class at C, of what stands in slot 1, by the truth in slot 2 -/
def tMade (C : Addr) : TE := fun σ H Q => ∃ v b, σ[1]? = some (some v) ∧ σ[2]? = some (some (.bl b)) ∧
  ∀ a H', Same H H' → IsErr H' a C v → Q (.ref a) H'
theorem made_heap {H : Hp} {a d : Addr} {v : V} (ha : H a = none) (hd : upd H a (exo a C none) d = none) (ne : d ≠ a) :
    Same H (upd (upd (upd H a (exo a C none)) d (exd d [("value", v)])) a (exo a C (some d))) ∧
    IsErr (upd (upd (upd H a (exo a C none)) d (exd d [("value", v)])) a (exo a C (some d))) a C v := by
  rw [upd_ne ne] at hd
  refine ⟨fun b o e => ?_, d, upd_same, ?_⟩
  · rw [upd_ne (ne_of_none e ha), upd_ne (ne_of_none e hd), upd_ne (ne_of_none e ha)]; exact e
  · rw [upd_ne ne]; exact upd_same
theorem pe_made {p0 p1 p2 p3 p4 p5 p6 p7 p8 : Pos} (O : OneC X.K C fI)
    (F : FnOk X.prog X.w X.K X.mg X.base CX0 k fI fd ["self", "value"] (spInit X.K)) (hr : Room (k + 1) X.A)
    (hN : X.N = [("way" : Str), ("value" : Str), ("named" : Str)])
    (hv : Vis X.env.scope "value") (hv2 : Vis X.env.scope "named")
    (hg : Gl X x) (hm : X.mg x = some (.ref C)) (hb : Binds X.K fd ["self", "value"] [])
    (hbk : ∀ (s : Shared) (a u : Value), X.K.In s.heap → BindsTo s fd ⟨[a], [("value", u)]⟩ [("self", a), ("value", u)])
    (hdb : (x == ("__debug__" : Str)) = false) :
    PE X (.IfExp (.Name "named" p0) (.Call (.Name x p1) [] [⟨some "value", .Name "value" p2, p3⟩] p4)
      (.Call (.Name x p5) [.Name "value" p6] [] p7) p8) (tMade C) := by
  have n1 : X.N[1]? = some ("value" : Str) := by rw [hN]; rfl
  have n2 : X.N[2]? = some ("named" : Str) := by rw [hN]; rfl
  have e1 := pe_ifExp (pos := p8) (pt_val (pe_var (pos := p0) n2 hv2))
    (pe_errK (x := x) (p := p1) (pos := p4) (ks := ["value"]) O.em F hr hg hm
      (fun s a ws hK hl => match ws, hl with | [u], _ => hbk s a u hK)
      (pk_cons (nm := some "value") (kpos := p3) (pe_var (pos := p2) n1 hv) pk_nil) (by rfl) (by rfl) hdb (by rfl))
    (pe_err (x := x) (p := p5) (pos := p7) O.em F hr hg hm hb
      (pa_cons (pe_var (pos := p6) n1 hv) pa_nil) hdb (by rfl) (by rfl))
  refine ⟨fun pins s σ H Q I h => e1.run pins s σ H Q I ?_⟩
  obtain ⟨v, b, s1, s2, q⟩ := h
  refine ⟨.bl b, s2, b, rfl, ite2 (fun e => ?_) (fun e => ?_)⟩
  · refine ⟨v, s1, fun a ha => ⟨a, C, v, rfl, O.em.oex, O.no, upd_same, fun d hd ne => ⟨rfl, ?_⟩⟩⟩
    obtain ⟨h1, h2⟩ := made_heap (C := C) (v := v) ha hd ne
    exact q a _ h1 h2
  · refine ⟨v, s1, by show 1 ≤ 1000; decide, fun a ha => ⟨a, C, v, rfl, O.em.oex, O.no, upd_same, fun d hd ne => ⟨rfl, ?_⟩⟩⟩
    obtain ⟨h1, h2⟩ := made_heap (C := C) (v := v) ha hd ne
    exact q a _ h1 h2
end

/-! ### the seventeen classes -/
def nameOf : Nat → Str
  | 0 => "MixError" | 1 => "InvalidGame" | 2 => "InvalidMix" | 3 => "InvalidLot" | 4 => "InvalidSide"
  | 5 => "InvalidNumber" | 6 => "InvalidLabel" | 7 => "NotSteady" | 8 => "HasTies" | 9 => "InvalidChanges"
  | 10 => "Tied" | 11 => "InvalidTable" | 12 => "InvalidPrizes" | 13 => "Nothing" | 14 => "Unreadable"
  | 15 => "InvalidCommand" | _ => "NotReady"
structure AllC (K : PySem.W.Frag) (mg : Str → Option Value) (C : Nat → Addr) (fI : Addr) : Prop where
  one : ∀ i, i < 17 → OneC K (C i) fI
  glob : ∀ i, i < 17 → mg (nameOf i) = some (.ref (C i))
  kit : ∀ i j, i < 17 → j < 17 → PySem.W.kitOne K (.ref (C i)) (.ref (C j)) = some (decide (j = 0 ∨ j = i))
  ve : ∀ i, i < 17 → PySem.W.kitOne K (.ref (C i)) (.type "ValueError") = some true

/-- an error of the way-th class, from lo on below hi -/
def spMade (C : Nat → Addr) (lo hi : Nat) : Sp := fun vs H Q _ => ∃ (i : Nat) (v : V) (b : Bool),
  vs = [.int i, v, .bl b] ∧ lo ≤ i ∧ i < hi ∧ ∀ a H', Same H H' → IsErr H' a (C i) v → Q (.ref a) H'

variable {C : Nat → Addr} {fI : Addr} {fdI : FuncData}
/-- what the bodies that make errors want -/
structure MkT (P : Program) (w : World) (K : PySem.W.Frag) (mg : Str → Option Value) (base : Heap) (C : Nat → Addr)
    (fI : Addr) (fdI : FuncData) : Prop where
  all : AllC K mg C fI
  ini : FnOk P w K mg base CX0 1 fI fdI ["self", "value"] (spInit K)
  bnd : Binds K fdI ["self", "value"] []
  bkw : ∀ (s : Shared) (a u : Value), K.In s.heap → BindsTo s fdI ⟨[a], [("value", u)]⟩ [("self", a), ("value", u)]

theorem ok_first {f : Addr} {fd : FuncData} (F : Fun K "_law_first" "_law_first" sFirst f fd)
    (T : MkT P w K mg base C fI fdI) : FnOk P w K mg base CX0 3 f fd ["way", "value", "named"] (spMade C 0 6) := by
  refine F.ok scFirst (fun vs H Q E h => ?_) (fun cdv A outer s H vs Q E hr h => ?_)
  · obtain ⟨i, v, b, rfl, _⟩ := h
    rfl
  · obtain ⟨i, v, b, rfl, h0, h1, q⟩ := h
    refine ⟨_, pss_cons (ps_if (pt_cmpR op_eq (pv 0) pe_int (nomark _)) (pss_one (ps_ret (pe_made (T.all.one 0 (by decide)) T.ini hr rfl (.inl rfl) (.inl rfl) (by rfl) (T.all.glob 0 (by decide)) T.bnd T.bkw (by decide)))) pss_nil)
      (pss_cons (ps_if (pt_cmpR op_eq (pv 0) pe_int (nomark _)) (pss_one (ps_ret (pe_made (T.all.one 1 (by decide)) T.ini hr rfl (.inl rfl) (.inl rfl) (by rfl) (T.all.glob 1 (by decide)) T.bnd T.bkw (by decide)))) pss_nil)
      (pss_cons (ps_if (pt_cmpR op_eq (pv 0) pe_int (nomark _)) (pss_one (ps_ret (pe_made (T.all.one 2 (by decide)) T.ini hr rfl (.inl rfl) (.inl rfl) (by rfl) (T.all.glob 2 (by decide)) T.bnd T.bkw (by decide)))) pss_nil)
      (pss_cons (ps_if (pt_cmpR op_eq (pv 0) pe_int (nomark _)) (pss_one (ps_ret (pe_made (T.all.one 3 (by decide)) T.ini hr rfl (.inl rfl) (.inl rfl) (by rfl) (T.all.glob 3 (by decide)) T.bnd T.bkw (by decide)))) pss_nil)
      (pss_cons (ps_if (pt_cmpR op_eq (pv 0) pe_int (nomark _)) (pss_one (ps_ret (pe_made (T.all.one 4 (by decide)) T.ini hr rfl (.inl rfl) (.inl rfl) (by rfl) (T.all.glob 4 (by decide)) T.bnd T.bkw (by decide)))) pss_nil)
      (pss_one (ps_ret (pe_made (T.all.one 5 (by decide)) T.ini hr rfl (.inl rfl) (.inl rfl) (by rfl) (T.all.glob 5 (by decide)) T.bnd T.bkw (by decide)))))))), ?_⟩
    have hit : ∀ j : Nat, decide (V.int (i : Int) = .int (j : Int)) = true → i = j := fun j e => by
      have := V.int.inj (of_decide_eq_true e)
      omega
    have mis : ∀ j : Nat, ¬ decide (V.int (i : Int) = .int (j : Int)) = true → i ≠ j := fun j e z => by
      subst z
      exact e (decide_eq_true rfl)
    refine ⟨_, rfl, rfl, _, rfl, ite2 (fun e => ?_) (fun e0 => ⟨_, rfl, rfl, _, rfl, ite2 (fun e => ?_) (fun e1 =>
      ⟨_, rfl, rfl, _, rfl, ite2 (fun e => ?_) (fun e2 => ⟨_, rfl, rfl, _, rfl, ite2 (fun e => ?_) (fun e3 =>
      ⟨_, rfl, rfl, _, rfl, ite2 (fun e => ?_) (fun e4 => ?_)⟩)⟩)⟩)⟩)⟩
    · obtain rfl := hit 0 e; exact ⟨v, b, rfl, rfl, q⟩
    · obtain rfl := hit 1 e; exact ⟨v, b, rfl, rfl, q⟩
    · obtain rfl := hit 2 e; exact ⟨v, b, rfl, rfl, q⟩
    · obtain rfl := hit 3 e; exact ⟨v, b, rfl, rfl, q⟩
    · obtain rfl := hit 4 e; exact ⟨v, b, rfl, rfl, q⟩
    · have z0 := mis 0 e0
      have z1 := mis 1 e1
      have z2 := mis 2 e2
      have z3 := mis 3 e3
      have z4 := mis 4 e4
      obtain rfl : i = 5 := by omega
      exact ⟨v, b, rfl, rfl, q⟩
theorem ok_second {f : Addr} {fd : FuncData} (F : Fun K "_law_second" "_law_second" sSecond f fd)
    (T : MkT P w K mg base C fI fdI) : FnOk P w K mg base CX0 3 f fd ["way", "value", "named"] (spMade C 6 12) := by
  refine F.ok scSecond (fun vs H Q E h => ?_) (fun cdv A outer s H vs Q E hr h => ?_)
  · obtain ⟨i, v, b, rfl, _⟩ := h
    rfl
  · obtain ⟨i, v, b, rfl, h0, h1, q⟩ := h
    refine ⟨_, pss_cons (ps_if (pt_cmpR op_eq (pv 0) pe_int (nomark _)) (pss_one (ps_ret (pe_made (T.all.one 6 (by decide)) T.ini hr rfl (.inl rfl) (.inl rfl)
          (by rfl) (T.all.glob 6 (by decide)) T.bnd T.bkw (by decide)))) pss_nil)
      (pss_cons (ps_if (pt_cmpR op_eq (pv 0) pe_int (nomark _)) (pss_one (ps_ret (pe_made (T.all.one 7 (by decide)) T.ini hr rfl (.inl rfl) (.inl rfl)
          (by rfl) (T.all.glob 7 (by decide)) T.bnd T.bkw (by decide)))) pss_nil)
      (pss_cons (ps_if (pt_cmpR op_eq (pv 0) pe_int (nomark _)) (pss_one (ps_ret (pe_made (T.all.one 8 (by decide)) T.ini hr rfl (.inl rfl) (.inl rfl)
          (by rfl) (T.all.glob 8 (by decide)) T.bnd T.bkw (by decide)))) pss_nil)
      (pss_cons (ps_if (pt_cmpR op_eq (pv 0) pe_int (nomark _)) (pss_one (ps_ret (pe_made (T.all.one 9 (by decide)) T.ini hr rfl (.inl rfl) (.inl rfl)
          (by rfl) (T.all.glob 9 (by decide)) T.bnd T.bkw (by decide)))) pss_nil)
      (pss_cons (ps_if (pt_cmpR op_eq (pv 0) pe_int (nomark _)) (pss_one (ps_ret (pe_made (T.all.one 10 (by decide)) T.ini hr rfl (.inl rfl) (.inl rfl)
          (by rfl) (T.all.glob 10 (by decide)) T.bnd T.bkw (by decide)))) pss_nil)
      (pss_one (ps_ret (pe_made (T.all.one 11 (by decide)) T.ini hr rfl (.inl rfl) (.inl rfl)
          (by rfl) (T.all.glob 11 (by decide)) T.bnd T.bkw (by decide)))))))), ?_⟩
    have hit : ∀ j : Nat, decide (V.int (i : Int) = .int (j : Int)) = true → i = j := fun j e => by
      have := V.int.inj (of_decide_eq_true e)
      omega
    have mis : ∀ j : Nat, ¬ decide (V.int (i : Int) = .int (j : Int)) = true → i ≠ j := fun j e z => by
      subst z
      exact e (decide_eq_true rfl)
    refine ⟨_, rfl, rfl, _, rfl, ite2 (fun e => ?_) (fun e6 => ⟨_, rfl, rfl, _, rfl, ite2 (fun e => ?_) (fun e7 => ⟨_, rfl, rfl, _, rfl, ite2 (fun e => ?_) (fun e8 => ⟨_, rfl, rfl, _, rfl, ite2 (fun e => ?_) (fun e9 => ⟨_, rfl, rfl, _, rfl, ite2 (fun e => ?_) (fun e10 => ?_)⟩)⟩)⟩)⟩)⟩
    · obtain rfl := hit 6 e; exact ⟨v, b, rfl, rfl, q⟩
    · obtain rfl := hit 7 e; exact ⟨v, b, rfl, rfl, q⟩
    · obtain rfl := hit 8 e; exact ⟨v, b, rfl, rfl, q⟩
    · obtain rfl := hit 9 e; exact ⟨v, b, rfl, rfl, q⟩
    · obtain rfl := hit 10 e; exact ⟨v, b, rfl, rfl, q⟩
    · have z6 := mis 6 e6
      have z7 := mis 7 e7
      have z8 := mis 8 e8
      have z9 := mis 9 e9
      have z10 := mis 10 e10
      obtain rfl : i = 11 := by omega
      exact ⟨v, b, rfl, rfl, q⟩
theorem ok_third {f : Addr} {fd : FuncData} (F : Fun K "_law_third" "_law_third" sThird f fd)
    (T : MkT P w K mg base C fI fdI) : FnOk P w K mg base CX0 3 f fd ["way", "value", "named"] (spMade C 12 17) := by
  refine F.ok scThird (fun vs H Q E h => ?_) (fun cdv A outer s H vs Q E hr h => ?_)
  · obtain ⟨i, v, b, rfl, _⟩ := h
    rfl
  · obtain ⟨i, v, b, rfl, h0, h1, q⟩ := h
    refine ⟨_, pss_cons (ps_if (pt_cmpR op_eq (pv 0) pe_int (nomark _)) (pss_one (ps_ret (pe_made (T.all.one 12 (by decide)) T.ini hr rfl (.inl rfl) (.inl rfl)
          (by rfl) (T.all.glob 12 (by decide)) T.bnd T.bkw (by decide)))) pss_nil)
      (pss_cons (ps_if (pt_cmpR op_eq (pv 0) pe_int (nomark _)) (pss_one (ps_ret (pe_made (T.all.one 13 (by decide)) T.ini hr rfl (.inl rfl) (.inl rfl)
          (by rfl) (T.all.glob 13 (by decide)) T.bnd T.bkw (by decide)))) pss_nil)
      (pss_cons (ps_if (pt_cmpR op_eq (pv 0) pe_int (nomark _)) (pss_one (ps_ret (pe_made (T.all.one 14 (by decide)) T.ini hr rfl (.inl rfl) (.inl rfl)
          (by rfl) (T.all.glob 14 (by decide)) T.bnd T.bkw (by decide)))) pss_nil)
      (pss_cons (ps_if (pt_cmpR op_eq (pv 0) pe_int (nomark _)) (pss_one (ps_ret (pe_made (T.all.one 15 (by decide)) T.ini hr rfl (.inl rfl) (.inl rfl)
          (by rfl) (T.all.glob 15 (by decide)) T.bnd T.bkw (by decide)))) pss_nil)
      (pss_one (ps_ret (pe_made (T.all.one 16 (by decide)) T.ini hr rfl (.inl rfl) (.inl rfl)
          (by rfl) (T.all.glob 16 (by decide)) T.bnd T.bkw (by decide))))))), ?_⟩
    have hit : ∀ j : Nat, decide (V.int (i : Int) = .int (j : Int)) = true → i = j := fun j e => by
      have := V.int.inj (of_decide_eq_true e)
      omega
    have mis : ∀ j : Nat, ¬ decide (V.int (i : Int) = .int (j : Int)) = true → i ≠ j := fun j e z => by
      subst z
      exact e (decide_eq_true rfl)
    refine ⟨_, rfl, rfl, _, rfl, ite2 (fun e => ?_) (fun e12 => ⟨_, rfl, rfl, _, rfl, ite2 (fun e => ?_) (fun e13 => ⟨_, rfl, rfl, _, rfl, ite2 (fun e => ?_) (fun e14 => ⟨_, rfl, rfl, _, rfl, ite2 (fun e => ?_) (fun e15 => ?_)⟩)⟩)⟩)⟩
    · obtain rfl := hit 12 e; exact ⟨v, b, rfl, rfl, q⟩
    · obtain rfl := hit 13 e; exact ⟨v, b, rfl, rfl, q⟩
    · obtain rfl := hit 14 e; exact ⟨v, b, rfl, rfl, q⟩
    · obtain rfl := hit 15 e; exact ⟨v, b, rfl, rfl, q⟩
    · have z12 := mis 12 e12
      have z13 := mis 13 e13
      have z14 := mis 14 e14
      have z15 := mis 15 e15
      obtain rfl : i = 16 := by omega
      exact ⟨v, b, rfl, rfl, q⟩

theorem ok_made {f f1 f2 f3 : Addr} {fd d1 d2 d3 : FuncData} (F : Fun K "_law_made" "_law_made" sMade f fd)
    (F1 : Fun K "_law_first" "_law_first" sFirst f1 d1) (F2 : Fun K "_law_second" "_law_second" sSecond f2 d2)
    (F3 : Fun K "_law_third" "_law_third" sThird f3 d3) (g1 : mg "_law_first" = some (.ref f1))
    (g2 : mg "_law_second" = some (.ref f2)) (g3 : mg "_law_third" = some (.ref f3))
    (b1 : Binds K d1 ["way", "value", "named"] []) (b2 : Binds K d2 ["way", "value", "named"] [])
    (b3 : Binds K d3 ["way", "value", "named"] [])
    (T : MkT P w K mg base C fI fdI) : FnOk P w K mg base CX0 4 f fd ["way", "value", "named"] (spMade C 0 17) := by
  have G1 := ok_first F1 T
  have G2 := ok_second F2 T
  have G3 := ok_third F3 T
  refine F.ok scMade (fun vs H Q E h => ?_) (fun cdv A outer s H vs Q E hr h => ?_)
  · obtain ⟨i, v, b, rfl, _⟩ := h
    rfl
  · obtain ⟨i, v, b, rfl, h0, h1, q⟩ := h
    refine ⟨_, pss_cons (ps_if (pt_cmpR op_lt (pv 0) pe_int (nomark _))
        (pss_one (ps_ret (pe_call G1 hr (by rfl) g1 F1.kp b1 .nil pass0 (pa_cons (pv 0) (pa_cons (pv 1) (pa_cons (pv 2) pa_nil)))))) pss_nil)
      (pss_cons (ps_if (pt_cmpR op_lt (pv 0) pe_int (nomark _))
        (pss_one (ps_ret (pe_call G2 hr (by rfl) g2 F2.kp b2 .nil pass0 (pa_cons (pv 0) (pa_cons (pv 1) (pa_cons (pv 2) pa_nil)))))) pss_nil)
      (pss_one (ps_ret (pe_call G3 hr (by rfl) g3 F3.kp b3 .nil pass0 (pa_cons (pv 0) (pa_cons (pv 1) (pa_cons (pv 2) pa_nil))))))), ?_⟩
    refine ⟨_, rfl, _, _, rfl, rfl, _, rfl, ite2 (fun e => ?_) (fun e => ⟨_, rfl, _, _, rfl, rfl, _, rfl, ite2 (fun e2 => ?_) (fun e2 => ?_)⟩)⟩
    · have z := of_decide_eq_true e
      exact ⟨_, rfl, v, rfl, .bl b, rfl, i, v, b, rfl, by omega, by omega, q⟩
    · have z := of_decide_eq_true e2
      have y : ¬ (i : Int) < 6 := fun u => e (decide_eq_true u)
      exact ⟨_, rfl, v, rfl, .bl b, rfl, i, v, b, rfl, by omega, by omega, q⟩
    · have z : ¬ (i : Int) < 12 := fun u => e2 (decide_eq_true u)
      exact ⟨_, rfl, v, rfl, .bl b, rfl, i, v, b, rfl, by omega, by omega, q⟩
end
end K00

/-! P4: _law_kinds_right. -/
namespace K00
open PySem PySem.Spec PyProof.Rows L2 GL
section
variable {P : Program} {w : World} {K : PySem.W.Frag} {mg : Str → Option Value} {base : Heap} {C : Nat → Addr} {fI : Addr} {fdI : FuncData}

/-- isinstance(error, the j-th class) -/
def kb (i j : Nat) : Bool := decide (j = 0 ∨ j = i)
section
variable {X : Cx} {xn : Str} {p0 p1 p2 p3 p4 p5 p6 p7 p8 p9 : Pos}
def tIs (C : Nat → Addr) (j : Nat) : TE := fun σ H Q => ∃ a i v, σ[0]? = some (some (.ref a)) ∧ i < 17 ∧ IsErr H a (C i) v ∧
  Q (.bl (kb i j)) H
theorem pe_is {j : Nat} (A : AllC X.K X.mg C fI) (hj : j < 17) (hn : nameOf j = xn) (hN : X.N[0]? = some ("error" : Str))
    (hv : Vis X.env.scope "error") (hg : Gl X "isinstance") (hm : X.mg "isinstance" = none) (hx : Gl X xn)
    (hdb : (xn == ("__debug__" : Str)) = false) :
    PE X (.Call (.Name "isinstance" p0) [.Name "error" p1, .Name xn p2] [] p3) (tIs C j) := by
  subst hn
  have e := pe_callB (p := p0) (pos := p3) (call_isErr (X := X)) hg hm (by decide +kernel) (pa_cons (pe_var (pos := p1) hN hv)
    (pa_cons (pe_glob (pos := p2) (v := .ref (C j)) hx (A.glob j hj) rfl hdb) pa_nil))
  refine ⟨fun pins s σ H Q I h => e.run pins s σ H Q I ?_⟩
  obtain ⟨a, i, v, s0, hi, er, q⟩ := h
  exact ⟨.ref a, s0, a, C i, v, .ref (C j), .ref (C j), _, rfl, (A.one i hi).er, er, .own _, A.kit i j hi hj, q⟩

def tTwo (C : Nat → Addr) (j j2 : Nat) : TE := fun σ H Q => ∃ l0 a i v xs, σ[2]? = some (some (.ref l0)) ∧
  σ[0]? = some (some (.ref a)) ∧ i < 17 ∧ IsErr H a (C i) v ∧ H l0 = some (.lst xs) ∧ xs.length ≤ 1000 ∧
  ∀ p H', Same H H' → H' p = some (.lst (xs ++ [.bl (kb i j), .bl (kb i j2)])) → Q (.ref p) H'
theorem two_fits {n m : Nat} (h : n ≤ 1000) (h2 : m ≤ 1000) : n + m ≤ sizeLine := by rw [sizeLine_eq]; omega
theorem pe_two {j j2 : Nat} {xn2 : Str} {q0 q1 q2 q3 : Pos} (A : AllC X.K X.mg C fI) (hj : j < 17) (hj2 : j2 < 17)
    (hn : nameOf j = xn) (hn2 : nameOf j2 = xn2) (hN : X.N[0]? = some ("error" : Str)) (hv : Vis X.env.scope "error")
    (hN2 : X.N[2]? = some ("found" : Str)) (hv2 : Vis X.env.scope "found") (hg : Gl X "isinstance")
    (hm : X.mg "isinstance" = none) (hx : Gl X xn) (hx2 : Gl X xn2) (hdb : (xn == ("__debug__" : Str)) = false)
    (hdb2 : (xn2 == ("__debug__" : Str)) = false) :
    PE X (.BinOp (.Name "found" p5) .Add (.List [.Call (.Name "isinstance" p0) [.Name "error" p1, .Name xn p2] [] p3,
      .Call (.Name "isinstance" q0) [.Name "error" q1, .Name xn2 q2] [] q3] p6) p7) (tTwo C j j2) := by
  have e := pe_op (pos := p7) op_cat (pe_var (pos := p5) hN2 hv2) (pe_lst (pos := p6)
    (pa_cons (pe_is (p0 := p0) (p1 := p1) (p2 := p2) (p3 := p3) A hj hn hN hv hg hm hx hdb)
    (pa_cons (pe_is (p0 := q0) (p1 := q1) (p2 := q2) (p3 := q3) A hj2 hn2 hN hv hg hm hx2 hdb2) pa_nil)))
  refine ⟨fun pins s σ H Q I h => e.run pins s σ H Q I ?_⟩
  obtain ⟨l0, a, i, v, xs, s2, s0, hi, er, hl, hz, q⟩ := h
  refine ⟨.ref l0, s2, a, i, v, s0, hi, er, a, i, v, s0, hi, er, by show 2 ≤ sizeLine; decide, fun l hn => ?_⟩
  refine ⟨l0, l, xs, _, rfl, rfl, by rw [upd_ne (ne_of_none hl hn)]; exact hl, upd_same, two_fits hz (by show 2 ≤ 1000; decide), fun p hp => ?_⟩
  exact q p _ ((same_new hn).trans (same_new hp)) upd_same
def tOne (C : Nat → Addr) (j : Nat) : TE := fun σ H Q => ∃ l0 a i v xs, σ[2]? = some (some (.ref l0)) ∧
  σ[0]? = some (some (.ref a)) ∧ i < 17 ∧ IsErr H a (C i) v ∧ H l0 = some (.lst xs) ∧ xs.length ≤ 1000 ∧
  ∀ p H', Same H H' → H' p = some (.lst (xs ++ [.bl (kb i j)])) → Q (.ref p) H'
theorem pe_oneL {j : Nat} (A : AllC X.K X.mg C fI) (hj : j < 17)
    (hn : nameOf j = xn) (hN : X.N[0]? = some ("error" : Str)) (hv : Vis X.env.scope "error")
    (hN2 : X.N[2]? = some ("found" : Str)) (hv2 : Vis X.env.scope "found") (hg : Gl X "isinstance")
    (hm : X.mg "isinstance" = none) (hx : Gl X xn) (hdb : (xn == ("__debug__" : Str)) = false) :
    PE X (.BinOp (.Name "found" p5) .Add (.List [.Call (.Name "isinstance" p0) [.Name "error" p1, .Name xn p2] [] p3] p6) p7) (tOne C j) := by
  have e := pe_op (pos := p7) op_cat (pe_var (pos := p5) hN2 hv2) (pe_lst (pos := p6)
    (pa_cons (pe_is (p0 := p0) (p1 := p1) (p2 := p2) (p3 := p3) A hj hn hN hv hg hm hx hdb) pa_nil))
  refine ⟨fun pins s σ H Q I h => e.run pins s σ H Q I ?_⟩
  obtain ⟨l0, a, i, v, xs, s2, s0, hi, er, hl, hz, q⟩ := h
  refine ⟨.ref l0, s2, a, i, v, s0, hi, er, by show 1 ≤ sizeLine; decide, fun l hn => ?_⟩
  refine ⟨l0, l, xs, _, rfl, rfl, by rw [upd_ne (ne_of_none hl hn)]; exact hl, upd_same, two_fits hz (by show 1 ≤ 1000; decide), fun p hp => ?_⟩
  exact q p _ ((same_new hn).trans (same_new hp)) upd_same
/-- isinstance(error, ValueError) -/
theorem pe_isV (A : AllC X.K X.mg C fI) (hN : X.N[0]? = some ("error" : Str)) (hv : Vis X.env.scope "error")
    (hg : Gl X "isinstance") (hm : X.mg "isinstance" = none) (hx : Gl X "ValueError") (hmv : X.mg "ValueError" = none) :
    PE X (.Call (.Name "isinstance" p0) [.Name "error" p1, .Name "ValueError" p2] [] p3)
      (fun σ H Q => ∃ a i v, σ[0]? = some (some (.ref a)) ∧ i < 17 ∧ IsErr H a (C i) v ∧ Q (.bl true) H) := by
  have e := pe_callB (p := p0) (pos := p3) (call_isErr (X := X)) hg hm (by decide +kernel) (pa_cons (pe_var (pos := p1) hN hv)
    (pa_cons (pe_bltn (pos := p2) (v := .ty "ValueError") hx hmv PyProof.Rows.Boot.«ValueError» rfl) pa_nil))
  refine ⟨fun pins s σ H Q I h => e.run pins s σ H Q I ?_⟩
  obtain ⟨a, i, v, s0, hi, er, q⟩ := h
  exact ⟨.ref a, s0, a, C i, v, .ty "ValueError", .type "ValueError", _, rfl, (A.one i hi).er, er, .ty _, A.ve i hi, q⟩
end

/-- each error is of its own class and of the first one, and of no other -/
def spKinds (C : Nat → Addr) : Sp := fun vs H Q _ => ∃ (a : Addr) (i : Nat) (v : V), vs = [.ref a, .int i] ∧ i < 17 ∧
  IsErr H a (C i) v ∧ ∀ H', Same H H' → Q (.bl true) H'
def due (i : Nat) (n : Nat) : List Bool := (List.range n).map fun (k : Nat) => inV (.int (k : Int)) [.int 0, .int (i : Int)]
theorem due_all (i : Nat) (h : i < 17) : due i 17 = [kb i 0, kb i 1, kb i 2, kb i 3, kb i 4, kb i 5, kb i 6, kb i 7, kb i 8,
    kb i 9, kb i 10, kb i 11, kb i 12, kb i 13, kb i 14, kb i 15, kb i 16] := by
  have : ∀ i : Fin 17, due i.val 17 = [kb i.val 0, kb i.val 1, kb i.val 2, kb i.val 3, kb i.val 4, kb i.val 5, kb i.val 6,
    kb i.val 7, kb i.val 8, kb i.val 9, kb i.val 10, kb i.val 11, kb i.val 12, kb i.val 13, kb i.val 14, kb i.val 15,
    kb i.val 16] := by decide +kernel
  exact this ⟨i, h⟩
theorem dp_bools {H : Hp} : ∀ bs : List Bool, DpAll K H (bs.map V.bl) (bs.map PyData.bool)
  | [] => .nil
  | b :: bs => .cons (.bl b) (dp_bools bs)
theorem lay_bools : ∀ bs : List Bool, PyData.canLayAll0 (bs.map PyData.bool) = true ∧ PyData.depthAll (bs.map PyData.bool) = 0
  | [] => ⟨by simp [PyData.canLayAll0], by simp [PyData.depthAll]⟩
  | b :: bs => by
    obtain ⟨h1, h2⟩ := lay_bools bs
    exact ⟨by simp [PyData.canLayAll0, PyData.canLay0, h1], by simp [PyData.depthAll, PyData.depth, h2]⟩
theorem shaped_bools (bs : List Bool) : SeqAt.shaped (.list (bs.map PyData.bool)) = true := by
  obtain ⟨h1, h2⟩ := lay_bools bs
  simp [SeqAt.shaped, PyData.canLay0, PyData.depth, h1, h2]
theorem eqv_bools (bs : List Bool) : PyData.eqv (.list (bs.map PyData.bool)) (.list (bs.map PyData.bool)) = true :=
  SeqAt.eqv_refl _ (by simpa [PyData.canLay0] using (lay_bools bs).1)

theorem ok_kinds {f : Addr} {fd : FuncData} {k : Nat} (F : Fun K "_law_kinds_right" "_law_kinds_right" sKinds f fd) (A : AllC K mg C fI)
    (mi : mg "isinstance" = none) (mr : mg "range" = none) (mv : mg "ValueError" = none) :
    FnOk P w K mg base CX0 (k + 1) f fd ["error", "way"] (spKinds C) := by
  refine F.ok scKinds (fun vs H Q E h => ?_) (fun cdv Ar outer s H vs Q E hr h => ?_)
  · obtain ⟨a, i, v, rfl, _⟩ := h
    rfl
  · obtain ⟨a, i, v, rfl, hi, er, q⟩ := h
    refine ⟨_, pss_cons (ps_set (i := 2) scKinds.nd rfl (.inl rfl) (pe_lst pa_nil))
      (pss_cons (ps_set (i := 2) scKinds.nd rfl (.inl rfl) (pe_two (j := 0) (j2 := 1) A (by decide) (by decide) rfl rfl rfl (.inl rfl) rfl (.inl rfl) (by rfl) mi (by rfl) (by rfl) (by decide) (by decide)))
      (pss_cons (ps_set (i := 2) scKinds.nd rfl (.inl rfl) (pe_two (j := 2) (j2 := 3) A (by decide) (by decide) rfl rfl rfl (.inl rfl) rfl (.inl rfl) (by rfl) mi (by rfl) (by rfl) (by decide) (by decide)))
      (pss_cons (ps_set (i := 2) scKinds.nd rfl (.inl rfl) (pe_two (j := 4) (j2 := 5) A (by decide) (by decide) rfl rfl rfl (.inl rfl) rfl (.inl rfl) (by rfl) mi (by rfl) (by rfl) (by decide) (by decide)))
      (pss_cons (ps_set (i := 2) scKinds.nd rfl (.inl rfl) (pe_two (j := 6) (j2 := 7) A (by decide) (by decide) rfl rfl rfl (.inl rfl) rfl (.inl rfl) (by rfl) mi (by rfl) (by rfl) (by decide) (by decide)))
      (pss_cons (ps_set (i := 2) scKinds.nd rfl (.inl rfl) (pe_two (j := 8) (j2 := 9) A (by decide) (by decide) rfl rfl rfl (.inl rfl) rfl (.inl rfl) (by rfl) mi (by rfl) (by rfl) (by decide) (by decide)))
      (pss_cons (ps_set (i := 2) scKinds.nd rfl (.inl rfl) (pe_two (j := 10) (j2 := 11) A (by decide) (by decide) rfl rfl rfl (.inl rfl) rfl (.inl rfl) (by rfl) mi (by rfl) (by rfl) (by decide) (by decide)))
      (pss_cons (ps_set (i := 2) scKinds.nd rfl (.inl rfl) (pe_two (j := 12) (j2 := 13) A (by decide) (by decide) rfl rfl rfl (.inl rfl) rfl (.inl rfl) (by rfl) mi (by rfl) (by rfl) (by decide) (by decide)))
      (pss_cons (ps_set (i := 2) scKinds.nd rfl (.inl rfl) (pe_two (j := 14) (j2 := 15) A (by decide) (by decide) rfl rfl rfl (.inl rfl) rfl (.inl rfl) (by rfl) mi (by rfl) (by rfl) (by decide) (by decide)))
      (pss_cons (ps_set (i := 2) scKinds.nd rfl (.inl rfl) (pe_oneL (j := 16) A (by decide) rfl rfl (.inl rfl) rfl (.inl rfl) (by rfl) mi (by rfl) (by decide)))
      (pss_one (ps_ret (pe_and (pe_cmpR (op_eqD hr.units) (pv 2)
          (pe_lc (own := [("k", 3)]) (g := gName 3) (tt := tYes) rfl scKinds.nd (pi_range1 (by rfl) mr (pa_cons pe_int pa_nil))
          (blkOk_by (own := [("k", 3)]) (N := ["error", "way", "found", "k"]) (sc := defScope sKinds) (by decide +kernel))
          (fun _ _ _ _ _ => pg_name (i := 3) scKinds.nd rfl (Or.inl rfl)) (fun _ _ _ _ _ => pts_nil)
          (fun _ _ _ _ _ => pe_cmpR (show OpR _ (compareOp .In) (rIn K false) from op_in_seq) (pv 3) (pe_tup (pa_cons pe_int (pa_cons (pv 1) pa_nil))) (by rfl))) (nomark _))
        (pe_one (pe_isV A rfl (.inl rfl) (by rfl) mi (by rfl) mv)))))))))))))), ?_⟩
    refine ⟨by decide, fun p0 n0 => ?_⟩
    have S0 := same_new (o := .lst []) n0
    refine ⟨p0, a, i, v, _, rfl, rfl, hi, er.keep S0, upd_same, by show 0 ≤ 1000; decide, fun p1 H1 S1 e1 => ?_⟩
    refine ⟨p1, a, i, v, _, rfl, rfl, hi, (er.keep S0).keep S1, e1, by show 2 ≤ 1000; decide, fun p2 H2 S2 e2 => ?_⟩
    have T2 := (S0.trans S1).trans S2
    refine ⟨p2, a, i, v, _, rfl, rfl, hi, er.keep T2, e2, by show 4 ≤ 1000; decide, fun p3 H3 S3 e3 => ?_⟩
    have T3 := T2.trans S3
    refine ⟨p3, a, i, v, _, rfl, rfl, hi, er.keep T3, e3, by show 6 ≤ 1000; decide, fun p4 H4 S4 e4 => ?_⟩
    have T4 := T3.trans S4
    refine ⟨p4, a, i, v, _, rfl, rfl, hi, er.keep T4, e4, by show 8 ≤ 1000; decide, fun p5 H5 S5 e5 => ?_⟩
    have T5 := T4.trans S5
    refine ⟨p5, a, i, v, _, rfl, rfl, hi, er.keep T5, e5, by show 10 ≤ 1000; decide, fun p6 H6 S6 e6 => ?_⟩
    have T6 := T5.trans S6
    refine ⟨p6, a, i, v, _, rfl, rfl, hi, er.keep T6, e6, by show 12 ≤ 1000; decide, fun p7 H7 S7 e7 => ?_⟩
    have T7 := T6.trans S7
    refine ⟨p7, a, i, v, _, rfl, rfl, hi, er.keep T7, e7, by show 14 ≤ 1000; decide, fun p8 H8 S8 e8 => ?_⟩
    have T8 := T7.trans S8
    refine ⟨p8, a, i, v, _, rfl, rfl, hi, er.keep T8, e8, by show 16 ≤ 1000; decide, fun p9 H9 S9 e9 => ?_⟩
    have T9 := T8.trans S9
    have e9' : H9 p9 = some (.lst ((due i 17).map V.bl)) := by rw [due_all i hi]; exact e9
    -- found == [k in (0, way) for k in range(17)]
    refine ⟨.ref p9, rfl, 17, rfl, by decide, by decide, fun D hD => lc_range (lo := 0) (n := 17)
      (fun n H' => Same H9 H' ∧ H' D = some (.lst ((due i n).map V.bl))) ⟨same_new hD, upd_same⟩
      (fun n H' hn hP => ?_) (fun H' hP => ?_)⟩
    · refine ⟨rfl, _, rfl, _, rfl, by show 2 ≤ sizeLine; decide, fun t ht => ?_⟩
      refine ⟨t, _, rfl, .inr (SqT.of upd_same), rfl, rfl, ?_⟩
      have hDt : D ≠ t := ne_of_none hP.2 ht
      refine ⟨_, by rw [upd_ne hDt]; exact hP.2, ?_, fun b o e => ?_, ?_⟩
      · rw [List.length_map]; unfold due; rw [List.length_map, List.length_range]; exact small1000 (by omega)
      · rw [upd_ne (ne_of_none e hD), upd_ne (ne_of_none (hP.1 b o e) ht)]; exact hP.1 b o e
      · rw [upd_same]
        unfold due
        rw [List.range_succ, List.map_append, List.map_append]
        have e : (0 : Int) + (n : Int) = n := by omega
        rw [e]; rfl
    · have S9' : H' p9 = some (.lst ((due i 17).map V.bl)) := hP.1 _ _ e9'
      refine ⟨_, _, .lst (SqL.of S9') (dp_bools _), .lst (SqL.of hP.2) (dp_bools _), shaped_bools _, shaped_bools _, _, rfl, ?_⟩
      rw [eqv_bools, if_pos rfl]
      exact ⟨a, i, v, rfl, hi, er.keep (T9.trans hP.1), q _ (T9.trans hP.1)⟩
end
end K00

/-! P5: _law_value. -/
namespace K00
open PySem PySem.Spec PyProof.Rows L2 GL
section
variable {P : Program} {w : World} {K : PySem.W.Frag} {mg : Str → Option Value} {base : Heap}

/-- how many draws at most; how long texts are -/
def nd : Nat → Nat
  | 0 => 3
  | d + 1 => 3 * nd d + 4
def lenD : Nat → Nat
  | 0 => 30
  | d + 1 => 3 * (lenD d + 34) + 3
theorem nd_pos : ∀ d, 3 ≤ nd d
  | 0 => Nat.le_refl _
  | d + 1 => by have := nd_pos d; unfold nd; omega
theorem len_ge : ∀ d, 30 ≤ lenD d
  | 0 => Nat.le_refl _
  | d + 1 => by have := len_ge d; unfold lenD; omega

/-- a value, at most deep within one another, all of it new -/
def spValue (deep : Nat) : Sp := fun vs H Q _ => ∃ (p : Addr) (n : Nat) (o : HO), vs = [.ref p, .int deep] ∧ n + nd deep ≤ 1000000 ∧
  H p = some o ∧ PotO n o ∧ ∀ v d o' H', Kp p H H' → H' p = some o' → PotO (n + nd deep) o' → RD (NewH H H') v d →
    Nice (deep + 1) (lenD deep) d → Q v H'

def keyAt (j : Nat) : Key := .inr (Str.ofString (toString (j : Int)))
def kvFrom : Nat → List V → List (Key × V)
  | _, [] => []
  | j, v :: r => (keyAt j, v) :: kvFrom (j + 1) r
theorem kvFrom_snoc : ∀ (j : Nat) (l : List V) (v : V), kvFrom j (l ++ [v]) = kvFrom j l ++ [(keyAt (j + l.length), v)]
  | j, [], v => rfl
  | j, a :: l, v => by
    show (keyAt j, a) :: kvFrom (j + 1) (l ++ [v]) = _
    rw [kvFrom_snoc (j + 1) l v, List.length_cons]
    have : j + 1 + l.length = j + (l.length + 1) := by omega
    rw [this]; rfl
theorem kvFrom_snd : ∀ (j : Nat) (l : List V), (kvFrom j l).map (·.2) = l
  | _, [] => rfl
  | j, a :: l => by show a :: (kvFrom (j + 1) l).map (·.2) = _; rw [kvFrom_snd (j + 1) l]
theorem merge_small : ∀ {l : List V}, l.length ≤ 3 → mergeK [] (kvFrom 0 l) = kvFrom 0 l
  | [], _ => rfl
  | [a], _ => rfl
  | [a, b], _ => by
    have h : ¬ keyAt 0 = keyAt 1 := by decide +kernel
    simp [kvFrom, mergeK, putK, h]
  | [a, b, c], _ => by
    have h : ¬ keyAt 0 = keyAt 1 := by decide +kernel
    have h2 : ¬ keyAt 0 = keyAt 2 := by decide +kernel
    have h3 : ¬ keyAt 1 = keyAt 2 := by decide +kernel
    simp [kvFrom, mergeK, putK, h, h2, h3]
  | _ :: _ :: _ :: _ :: _, h => by simp at h
theorem nice_key {j : Nat} (h : j ≤ 10) : Nice 0 30 (keyD (keyAt j)) := by
  have : ∀ i : Fin 11, (PyData.str (Str.ofString (toString ((i.val : Nat) : Int)))).showable = true ∧
    (PyData.str (Str.ofString (toString ((i.val : Nat) : Int)))).depth ≤ 0 ∧
    (PyData.str (Str.ofString (toString ((i.val : Nat) : Int)))).shown.length ≤ 30 := by decide +kernel
  exact this ⟨j, by omega⟩
theorem nice_keys : ∀ (j : Nat) (l : List V), j + l.length ≤ 10 → ∀ kv ∈ kvFrom j l, Nice 0 30 (keyD kv.1)
  | _, [], _, kv, h => by cases h
  | j, a :: l, hl, kv, h => by
    rcases List.mem_cons.mp h with e | e
    · rw [e]; exact nice_key (by simp at hl; omega)
    · exact nice_keys (j + 1) l (by simp at hl; omega) kv e

/-- a comprehension over enumerate(list): each turn a new pair -/
theorem lc_enumL {a : Addr} {xs : List V} {g : TG} {tt : TT} {te : TE} {vs : List Nat} {σ : L2.St} {H1 : Hp} {D : Addr}
    {Qd : Hp → Prop} (Pv : Nat → Hp → Prop) (h0 : Pv 0 (upd H1 D (.lst [])))
    (hl : ∀ i H, i ≤ xs.length → Pv i H → SqL K H a xs)
    (hs : ∀ i x T H, xs[i]? = some x → Pv i H → H T = none →
      g (.ref T) (wipe σ vs) (upd H T (.tup [.int (i : Nat), x])) fun σ2 H2 => wipe σ2 vs = wipe σ vs ∧
        tt σ2 H2 fun b H3 => if b = true then te σ2 H3 fun y H4 => ∃ acc, H4 D = some (.lst acc) ∧
          acc.length < sizeLine ∧ Pv (i + 1) (upd H4 D (.lst (acc ++ [y]))) else Pv (i + 1) H3)
    (hd : ∀ H, Pv xs.length H → Qd H) :
    ∃ W : Nat → Nat → Hp → Prop, (∃ m, W 0 m (upd H1 D (.lst []))) ∧ ∀ i m H, W i m H →
      ((Ite K a).stop i H ∧ Qd H) ∨ ((Ite K a).go i H ∧ ∃ Nx : Hp → Prop,
        (∀ H', Nx H' → ∃ m', m' < m ∧ W (i + 1) m' H') ∧ ∀ x H', (Ite K a).yld i H x H' →
          g x (wipe σ vs) H' fun σ2 H2 => wipe σ2 vs = wipe σ vs ∧ tt σ2 H2 fun b H3 =>
            if b = true then te σ2 H3 fun y H4 => ∃ acc, H4 D = some (.lst acc) ∧ acc.length < sizeLine ∧
              Nx (upd H4 D (.lst (acc ++ [y]))) else Nx H3) := by
  refine ⟨fun i m H => m = xs.length - i ∧ i ≤ xs.length ∧ Pv i H, ⟨_, rfl, Nat.zero_le _, h0⟩, fun i m H hw => ?_⟩
  obtain ⟨rfl, hi, pv⟩ := hw
  have q := hl i H hi pv
  by_cases hlt : i < xs.length
  · have hx : xs[i]? = some xs[i] := List.getElem?_eq_getElem hlt
    refine .inr ⟨⟨xs, _, q, hx⟩, Pv (i + 1), fun H' p' => ⟨xs.length - (i + 1), by omega, rfl, hlt, p'⟩, fun x H' y => ?_⟩
    obtain ⟨T, z, rfl, hT, rfl, hz⟩ := y
    exact hs i z T H (hz xs q) pv hT
  · obtain rfl : i = xs.length := by omega
    exact .inl ⟨⟨xs, q, Nat.le_refl _⟩, hd H pv⟩

/-- what _law_value calls -/
structure ValT (P : Program) (w : World) (K : PySem.W.Frag) (mg : Str → Option Value) (base : Heap) (fD fP : Addr)
    (dD dP : FuncData) : Prop where
  FD : Fun K "_law_draw" "_law_draw" sDraw fD dD
  bD : Binds K dD ["pot", "many"] []
  gD : mg "_law_draw" = some (.ref fD)
  GD : FnOk P w K mg base CX0 1 fD dD ["pot", "many"] spDraw
  FP : Fun K "_law_plain" "_law_plain" sPlain fP dP
  bP : Binds K dP ["pot"] []
  gP : mg "_law_plain" = some (.ref fP)
  GP : FnOk P w K mg base CX0 2 fP dP ["pot"] spPlain
  range : mg "range" = none
  tuple : mg "tuple" = none
  dict : mg "dict" = none
  enumerate : mg "enumerate" = none
  str : mg "str" = none
variable {fD fP : Addr} {dD dP : FuncData}

theorem ok_value0 {f : Addr} {fd : FuncData} (F : Fun K "_law_value" "_law_value" sValue f fd) (T : ValT P w K mg base fD fP dD dP) :
    FnOk P w K mg base CX0 3 f fd ["pot", "deep"] (spValue 0) := by
  refine F.ok scValue (fun vs H Q E h => ?_) (fun cdv A outer s H vs Q E hr h => ?_)
  · obtain ⟨p, n, o, rfl, _⟩ := h
    rfl
  · obtain ⟨p, n, o, rfl, hn, hp, po, q⟩ := h
    have hn' : n + 3 ≤ 1000000 := hn
    refine ⟨_, pss_cons (ps_set (i := 2) scValue.nd rfl (.inl rfl)
        (pe_call T.GD (hr.mono (by decide)) (by rfl) T.gD T.FD.kp T.bD .nil pass0 (pa_cons (pv 0) (pa_cons pe_int pa_nil))))
      (pss_cons (ps_if (PW.pt (pw_or (pt_cmpR op_eq (pv 1) pe_int (nomark _)) (pw_or1 (pt_cmpR op_lt (pv 2) pe_int (nomark _)))))
        (pss_one (ps_ret (pe_call T.GP hr (by rfl) T.gP T.FP.kp T.bP .nil pass0 (pa_cons (pv 0) pa_nil)))) pss_nil)
      pss_never), ?_⟩
    refine ⟨.ref p, rfl, p, 5, n, o, rfl, by decide, by decide, by omega, hp, po, fun r o1 r0 r1 po1 => ?_⟩
    refine ⟨_, rfl, rfl, _, rfl, ?_⟩
    refine ⟨.ref p, rfl, p, n + 1, o1, rfl, by omega, upd_same, po1, fun v d o' H' k hp' po' rd nx => ?_⟩
    exact q v d o' H' (Kp.put.trans k) hp' po' (rd.keep (NewH.since upd_same Kp.put)) nx

theorem ok_value1 {f : Addr} {fd : FuncData} {deep : Nat} (F : Fun K "_law_value" "_law_value" sValue f fd) (T : ValT P w K mg base fD fP dD dP)
    (bV : Binds K fd ["pot", "deep"] []) (gV : mg "_law_value" = some (.ref f))
    (G : FnOk P w K mg base CX0 (deep + 3) f fd ["pot", "deep"] (spValue deep)) :
    FnOk P w K mg base CX0 (deep + 3 + 1) f fd ["pot", "deep"] (spValue (deep + 1)) := by
  refine F.ok scValue (fun vs H Q E h => ?_) (fun cdv A outer s H vs Q E hr h => ?_)
  · obtain ⟨p, n, o, rfl, _⟩ := h
    rfl
  · obtain ⟨p, n, o, rfl, hn, hp, po, q⟩ := h
    have hn' : n + (3 * nd deep + 4) ≤ 1000000 := hn
    have hdp := nd_pos deep
    have hrD := hr.mono (show 1 ≤ deep + 3 by omega)
    have hrP := hr.mono (show 2 ≤ deep + 3 by omega)
    refine ⟨_, pss_cons (ps_set (i := 2) scValue.nd rfl (.inl rfl)
        (pe_call T.GD hrD (by rfl) T.gD T.FD.kp T.bD .nil pass0 (pa_cons (pv 0) (pa_cons pe_int pa_nil))))
      (pss_cons (ps_if (PW.pt (pw_or (pt_cmpR op_eq (pv 1) pe_int (nomark _)) (pw_or1 (pt_cmpR op_lt (pv 2) pe_int (nomark _)))))
        (pss_one (ps_ret (pe_call T.GP hrP (by rfl) T.gP T.FP.kp T.bP .nil pass0 (pa_cons (pv 0) pa_nil)))) pss_nil)
      (pss_cons (ps_setLc (i := 3) (own := [("turn", 4)]) (g := gName 4) (tt := tYes) rfl scValue.nd rfl rfl
          (sw_true rfl rfl rfl (by decide +kernel))
          (pi_range1 (by rfl) T.range (pa_cons (pe_call T.GD hrD (by rfl) T.gD T.FD.kp T.bD .nil pass0 (pa_cons (pv 0) (pa_cons pe_int pa_nil))) pa_nil))
          (blkOk_by (own := [("turn", 4)]) (N := ["pot", "deep", "way", "parts", "turn", "at", "part"]) (sc := defScope sValue) (by decide +kernel))
          (fun _ _ _ _ _ => pg_name (i := 4) scValue.nd rfl (Or.inl rfl)) (fun _ _ _ _ _ => pts_nil)
          (fun _ _ _ _ _ => pe_call G hr (by rfl) gV F.kp bV .nil pass0 (pa_cons (pv 0) (pa_cons (pe_op op_sub (pv 1) pe_int) pa_nil))))
      (pss_cons (ps_if (pt_cmpR op_eq (pv 2) pe_int (nomark _)) (pss_one (ps_ret (pv 3))) pss_nil)
      (pss_cons (ps_if (pt_cmpR op_eq (pv 2) pe_int (nomark _)) (pss_one (ps_ret
          (pe_callTy call_tuple_of (by rfl) T.tuple (by decide +kernel) (pa_cons (pv 3) pa_nil)))) pss_nil)
      (pss_one (ps_ret (pe_callTy (call_dictP rfl) (by rfl) T.dict (by decide +kernel) (pa_cons
        (pe_lc (own := [("at", 5), ("part", 6)]) (g := gTup K 2 (gCons (gName 5) (gCons (gName 6) gNil))) (tt := tYes) rfl scValue.nd
          (pi_enum (by rfl) T.enumerate (pa_cons (pv 3) pa_nil))
          (blkOk_by (own := [("at", 5), ("part", 6)]) (N := ["pot", "deep", "way", "parts", "turn", "at", "part"]) (sc := defScope sValue) (by decide +kernel))
          (fun _ _ _ _ _ => pg_tup rfl (pgs_cons (pg_name (i := 5) scValue.nd rfl (Or.inl rfl)) (pgs_cons (pg_name (i := 6) scValue.nd rfl (Or.inl rfl)) pgs_nil)))
          (fun _ _ _ _ _ => pts_nil)
          (fun _ _ _ _ _ => pe_tup (pa_cons (pe_callTy call_str_int (by rfl) T.str (by decide +kernel) (pa_cons (pv 5) pa_nil)) (pa_cons (pv 6) pa_nil)))) pa_nil)))))))), ?_⟩
    refine ⟨.ref p, rfl, p, 5, n, o, rfl, by decide, by decide, by omega, hp, po, fun r o1 r0 r1 po1 => ?_⟩
    have plain : ∀ (σ : L2.St), σ[0]? = some (some (.ref p)) → tRet (tCall spPlain [] E0 (tCons (tVar 0) tNil)) { nx := fun _ H' => Q .non H', rt := Q } σ (upd H p o1) := by
      intro σ h0
      refine ⟨.ref p, h0, p, n + 1, o1, rfl, by omega, upd_same, po1, fun v d o' H' k hp' po' rd nx => ?_⟩
      exact q v d o' H' (Kp.put.trans k) hp' (po'.mono (by show n + 1 + 2 ≤ n + (3 * nd deep + 4); omega)) (rd.keep (NewH.since upd_same Kp.put))
        (nx.mono (by omega) (by have := len_ge (deep + 1); omega))
    refine ⟨_, rfl, rfl, _, rfl, ite2 (fun e => ?_) (fun e => ?_)⟩
    · exact iteT (plain _ rfl)
    · refine ⟨_, rfl, _, _, rfl, rfl, _, rfl, ite2 (fun e2 => plain _ rfl) (fun e2 => ?_)⟩
      -- parts = [.. for turn in range(_law_draw(pot, 4))]
      refine ⟨.ref p, rfl, p, 4, n + 1, o1, rfl, by decide, by decide, by omega, upd_same, po1, fun r2 o2 h0 h1 po2 => ?_⟩
      have kb : Kp p H (upd (upd H p o1) p o2) := Kp.put.trans .put
      have hbp : upd (upd H p o1) p o2 p = some o2 := upd_same
      generalize upd (upd H p o1) p o2 = Hb at kb hbp
      refine ⟨r2, rfl, by omega, by omega, fun D hD => ?_⟩
      have hpD : p ≠ D := ne_of_none hbp hD
      have kB : Kp p H (upd Hb D (.lst [])) := kb.trans (.new hD)
      have hBp : upd Hb D (.lst []) p = some o2 := by rw [upd_ne hpD]; exact hbp
      have hHD : H D = none := by
        cases z : H D with
        | none => rfl
        | some u => rw [kb D u hpD.symm z] at hD; cases hD
      refine lc_range (lo := 0) (n := r2.toNat) (fun i H' => ∃ o' vs ds, Kp p Hb H' ∧ H' p = some o' ∧ PotO (n + 2 + i * nd deep) o' ∧
        H' D = some (.lst vs) ∧ vs.length = i ∧ RDs (NewH (upd Hb D (.lst [])) H') vs ds ∧ ∀ d ∈ ds, Nice (deep + 1) (lenD deep) d) ?_ (fun i H' hi hP => ?_) (fun H' hP => ?_)
      · exact ⟨o2, [], [], .new hD, hBp, by simpa using po2, upd_same, rfl, .nil, by simp⟩
      · obtain ⟨o', vs, ds, kH, hp', po', hD', hv, rds, nds⟩ := hP
        have hm : i * nd deep + nd deep ≤ 3 * nd deep := by
          rw [← Nat.succ_mul]
          exact Nat.mul_le_mul_right _ (by omega)
        refine ⟨rfl, .ref p, rfl, .int ((deep + 1 : Nat) : Int), rfl, _, _, rfl, rfl, p, n + 2 + i * nd deep, o', ?_, by omega, hp', po',
          fun v d o3 H3 k3 hp3 po3 rd nx => ?_⟩
        · have e : ((deep + 1 : Nat) : Int) - 1 = (deep : Int) := by omega
          show [V.ref p, V.int (((deep + 1 : Nat) : Int) - 1)] = _
          rw [e]
        have h3D : H3 D = some (.lst vs) := k3 D _ hpD.symm hD'
        refine ⟨vs, h3D, by rw [hv]; exact small1000 (by omega), o3, vs ++ [v], ds ++ [d], fun b u nb e => ?_,
          by rw [upd_ne hpD]; exact hp3, ?_, upd_same, by simp [hv], ?_, fun y hy => ?_⟩
        · rw [upd_ne (ne_of_none e hD)]; exact k3 b u nb (kH b u nb e)
        · have e : n + 2 + (i + 1) * nd deep = n + 2 + i * nd deep + nd deep := by rw [Nat.succ_mul]; omega
          rw [e]; exact po3
        · refine RDs.snoc (rd.keep fun b u e => ?_) (rds.keep fun b u e => ?_)
          · obtain ⟨e1, e2⟩ := NewH.of e
            have bD : b ≠ D := fun z => by rw [z, hD'] at e1; cases e1
            have bp : b ≠ p := fun z => by rw [z, hp'] at e1; cases e1
            refine NewH.at ?_ (by rw [upd_ne bD]; exact e2)
            rw [upd_ne bD]
            cases z : Hb b with
            | none => rfl
            | some u' => rw [kH b u' bp z] at e1; cases e1
          · obtain ⟨e1, e2⟩ := NewH.of e
            have bD : b ≠ D := fun z => by rw [z, upd_same] at e1; cases e1
            have bp : b ≠ p := fun z => by rw [z, hBp] at e1; cases e1
            exact NewH.at e1 (by rw [upd_ne bD]; exact k3 b u bp e2)
        · rcases List.mem_append.mp hy with z | z
          · exact nds y z
          · rw [List.mem_singleton.mp z]; exact nx
      · obtain ⟨o', vs, ds, kH, hp', po', hD', hv, rds, nds⟩ := hP
        have hlen : vs.length ≤ 3 := by omega
        have hdl : ds.length ≤ 3 := by rw [← rds.length]; exact hlen
        have hm : r2.toNat * nd deep ≤ 3 * nd deep := Nat.mul_le_mul_right _ (by omega)
        have po4 : PotO (n + nd (deep + 1)) o' := po'.mono (by show n + 2 + r2.toNat * nd deep ≤ n + (3 * nd deep + 4); omega)
        have kHH : Kp p H H' := kb.trans kH
        have rd1 : RDs (NewH H H') vs ds := rds.keep (NewH.since hBp kB)
        have hl34 : ds.length * (lenD deep + 34) ≤ 3 * (lenD deep + 34) := Nat.mul_le_mul_right _ hdl
        have hl2 : ds.length * (lenD deep + 2) ≤ 3 * (lenD deep + 2) := Nat.mul_le_mul_right _ hdl
        refine ⟨_, rfl, rfl, _, rfl, ite2 (fun e3 => ?_) (fun e3 => ⟨_, rfl, rfl, _, rfl, ite2 (fun e4 => ?_) (fun e4 => ?_)⟩)⟩
        · exact ⟨.ref D, rfl, q _ _ o' H' kHH hp' po4 (.lst (NewH.at hHD hD') rd1)
            ((nice_list nds).mono (by omega) (by show _ ≤ 3 * (lenD deep + 34) + 3; omega))⟩
        · refine ⟨.ref D, rfl, D, vs, rfl, .inl ⟨SqL.of hD', fun t ht => ?_⟩⟩
          have hpt : p ≠ t := ne_of_none hp' ht
          have hHt : H t = none := by
            cases z : H t with
            | none => rfl
            | some u => rw [kHH t u hpt.symm z] at ht; cases ht
          refine q _ _ o' _ (kHH.trans (.new ht)) (by rw [upd_ne hpt]; exact hp') po4 (.tup (NewH.at hHt upd_same) (rd1.keep ?_))
            ((nice_tup nds).mono (by omega) (by show _ ≤ 3 * (lenD deep + 34) + 3; omega))
          exact NewH.later hp (.new ht)
        · refine ⟨.ref D, rfl, D, vs, rfl, SqL.of hD', fun D2 hD2 => lc_enumL (K := K) (a := D) (xs := vs)
            (fun i H2 => Same H' H2 ∧ ∃ ps : List Addr, H2 D2 = some (.lst (ps.map V.ref)) ∧
              Paired (fun t kv => H2 t = some (.tup [kV kv.1, kv.2])) ps (kvFrom 0 (vs.take i)))
            ⟨same_new hD2, [], upd_same, .nil⟩ (fun i H2 _ hP => hP.1.seq (SqL.of hD')) (fun i x T H2 hx hP hT => ?_) (fun H2 hP => ?_)⟩
          · obtain ⟨sm, ps, hps, pr⟩ := hP
            have hi : i < vs.length := (List.getElem?_eq_some_iff.mp hx).1
            refine ⟨T, _, rfl, SqT.of upd_same, rfl, _, _, rfl, _, _, rfl, rfl, rfl, .int (i : Int), rfl, (i : Int), rfl, ?_, x, rfl,
              by show 2 ≤ sizeLine; decide, fun t ht => ?_⟩
            · exact Nat.lt_trans (PySem.Flt.log2_lt_of (show 0 < 10 by decide) (show ((i : Int)).natAbs < 2 ^ 10 by omega)) (by decide)
            have hDT : D2 ≠ T := ne_of_none hps hT
            have hDt : D2 ≠ t := ne_of_none (by rw [upd_ne hDT]; exact hps) ht
            have sm2 : Same H2 (upd (upd H2 T (.tup [.int (i : Int), x])) t (.tup [.str (Str.ofString (toString (i : Int))), x])) :=
              (same_new hT).trans (same_new ht)
            refine ⟨_, sm2 _ _ hps, ?_, fun b u e => ?_, ps ++ [t], by rw [List.map_append]; exact upd_same, ?_⟩
            · rw [List.length_map, pr.length]
              have : ∀ (j : Nat) (l : List V), (kvFrom j l).length = l.length := fun j l => by
                have := congrArg List.length (kvFrom_snd j l)
                simpa using this
              rw [this, List.length_take]
              exact small1000 (by omega)
            · rw [upd_ne (ne_of_none e hD2)]; exact sm2 b u (sm b u e)
            · have e1 : vs.take (i + 1) = vs.take i ++ [x] := by rw [List.take_add_one, hx]; rfl
              rw [e1, kvFrom_snoc]
              have e2 : 0 + (vs.take i).length = i := by rw [List.length_take]; omega
              rw [e2]
              refine Paired.snoc (Paired.mapP pr fun u kv z => ?_) ?_
              · have hu : u ≠ D2 := fun y => by rw [y, hps] at z; cases z
                rw [upd_ne hu]
                exact sm2 _ _ z
              · rw [upd_ne hDt.symm]
                exact upd_same
          · obtain ⟨sm, ps, hps, pr⟩ := hP
            rw [List.take_length] at pr
            refine ⟨D2, ps, kvFrom 0 vs, rfl, SqL.of hps, Paired.mapP pr fun u kv z => SqT.of z, fun t ht => ?_⟩
            rw [merge_small hlen]
            have hp2 : H2 p = some o' := sm _ _ hp'
            have hpt : p ≠ t := ne_of_none hp2 ht
            have k2 : Kp p H H2 := kHH.trans fun b u _ e => sm b u e
            have hHt : H t = none := by
              cases z : H t with
              | none => rfl
              | some u => rw [k2 t u hpt.symm z] at ht; cases ht
            refine q _ _ o' _ (k2.trans (.new ht)) (by rw [upd_ne hpt]; exact hp2) po4
              (.dct (NewH.at hHt upd_same) (by rw [kvFrom_snd]; exact rd1.keep (NewH.later hp fun b u nb e => Kp.new ht b u nb (sm b u e))))
              ((nice_dict nds (nice_keys 0 vs (by omega))).mono (by omega) (by show _ ≤ 3 * (lenD deep + 34) + 3; omega))

theorem ok_value {f : Addr} {fd : FuncData} (F : Fun K "_law_value" "_law_value" sValue f fd) (T : ValT P w K mg base fD fP dD dP)
    (bV : Binds K fd ["pot", "deep"] []) (gV : mg "_law_value" = some (.ref f)) :
    ∀ deep, FnOk P w K mg base CX0 (deep + 3) f fd ["pot", "deep"] (spValue deep)
  | 0 => ok_value0 F T
  | d + 1 => by
    have e : d + 1 + 3 = d + 3 + 1 := by omega
    rw [e]
    exact ok_value1 F T bV gV (ok_value F T bV gV d)
end
end K00

/-! P6: _law_kept, _law_changed. -/
namespace K00
open PySem PySem.Spec PyProof.Rows L2 GL
section
variable {P : Program} {w : World} {K : PySem.W.Frag} {mg : Str → Option Value} {base : Heap} {C : Nat → Addr}

/-- what the two judges call -/
structure JudT (P : Program) (w : World) (K : PySem.W.Frag) (mg : Str → Option Value) (base : Heap) (C : Nat → Addr) (fI fM fK : Addr)
    (dM dK : FuncData) : Prop where
  all : AllC K mg C fI
  FM : Fun K "_law_made" "_law_made" sMade fM dM
  bM : Binds K dM ["way", "value", "named"] []
  gM : mg "_law_made" = some (.ref fM)
  GM : FnOk P w K mg base CX0 4 fM dM ["way", "value", "named"] (spMade C 0 17)
  FK : Fun K "_law_kinds_right" "_law_kinds_right" sKinds fK dK
  bK : Binds K dK ["error", "way"] []
  gK : mg "_law_kinds_right" = some (.ref fK)
  GK : FnOk P w K mg base CX0 1 fK dK ["error", "way"] (spKinds C)
  repr : mg "repr" = none
  sys : SysAt base
variable {fI fM fK : Addr} {dM dK : FuncData}

theorem Nice.fits {d : PyData} (h : Nice 90 100000 d) : d.showable = true ∧ d.depth ≤ 100 ∧ d.shown.length ≤ sizeLine :=
  ⟨h.1, by have := h.2.1; omega, by have := h.2.2; rw [sizeLine_eq]; omega⟩

theorem itS {c A B : Prop} [Decidable c] (hc : c) (h : A) : if decide c = true then A else B := by
  rw [decide_eq_true hc]
  exact iteT h
theorem exo_lst {e C : Addr} {d : Option Addr} {xs : List V} : exo e C d ≠ .lst xs := fun z => by
  have y : HO.ext _ = HO.lst xs := z
  cases y
theorem exd_lst {e : Addr} {fs : List (Str × V)} {xs : List V} : exd e fs ≠ .lst xs := fun z => by
  have y : HO.ext _ = HO.lst xs := z
  cases y
theorem exo_dct {e C : Addr} {d : Option Addr} {xs : List (Key × V)} : exo e C d ≠ .dK xs := fun z => by
  have y : HO.ext _ = HO.dK xs := z
  cases y
theorem exd_dct {e : Addr} {fs : List (Str × V)} {xs : List (Key × V)} : exd e fs ≠ .dK xs := fun z => by
  have y : HO.ext _ = HO.dK xs := z
  cases y
/-- an error stays where a list is changed -/
theorem isErr_listed {H : Hp} {a Ca h : Addr} {v : V} {xs : List V} {o : HO} (e : IsErr H a Ca v) (hh : H h = some (.lst xs)) :
    IsErr (upd H h o) a Ca v := by
  obtain ⟨d, h1, h2⟩ := e
  exact ⟨d, by rw [upd_ne (ne_of h1 hh exo_lst)]; exact h1, by rw [upd_ne (ne_of h2 hh exd_lst)]; exact h2⟩
theorem isErr_dicted {H : Hp} {a Ca h : Addr} {v : V} {xs : List (Key × V)} {o : HO} (e : IsErr H a Ca v) (hh : H h = some (.dK xs)) :
    IsErr (upd H h o) a Ca v := by
  obtain ⟨d, h1, h2⟩ := e
  exact ⟨d, by rw [upd_ne (ne_of h1 hh exo_dct)]; exact h1, by rw [upd_ne (ne_of h2 hh exd_dct)]; exact h2⟩
/-- what stood ahead of a new object stays where that is changed -/
theorem same_old {H H6 : Hp} {h : Addr} {o : HO} (n : H h = none) (s : Same H H6) : Same H (upd H6 h o) := fun b u e => by
  rw [upd_ne (ne_of_none e n)]
  exact s b u e
theorem nice_one : Nice 4 3000 (.int 1) := (nice_int (by decide)).mono (by omega) (by omega)
theorem nice_two : Nice 4 3000 (.int 2) := (nice_int (by decide)).mono (by omega) (by omega)
theorem nice_later : Nice 4 3000 (.str "later") := ⟨by decide +kernel, by decide +kernel, by decide +kernel⟩
theorem nice_l3 {d : PyData} (h : Nice 4 3000 d) : Nice 90 100000 (.list [d, .int 1, .str "later"]) := by
  refine (nice_list (n := 4) (m := 3000) fun y hy => ?_).mono (by omega) (by simp)
  rcases List.mem_cons.mp hy with rfl | hy
  · exact h
  rcases List.mem_cons.mp hy with rfl | hy
  · exact nice_one
  rw [List.mem_singleton.mp hy]
  exact nice_later
theorem nice_l4 {d : PyData} (h : Nice 4 3000 d) : Nice 90 100000 (.list [d, .int 1, .str "later", .int 2]) := by
  refine (nice_list (n := 4) (m := 3000) fun y hy => ?_).mono (by omega) (by simp)
  rcases List.mem_cons.mp hy with rfl | hy
  · exact h
  rcases List.mem_cons.mp hy with rfl | hy
  · exact nice_one
  rcases List.mem_cons.mp hy with rfl | hy
  · exact nice_later
  rw [List.mem_singleton.mp hy]
  exact nice_two

/-- an error keeps the very value that it is made of -/
def spKept : Sp := fun vs H Q _ => ∃ (i : Nat) (v : V) (b : Bool) (d : PyData), vs = [.int i, v, .bl b] ∧ i < 17 ∧ RD H v d ∧
  Nice 4 3000 d ∧ ∀ H', Same H H' → Q (.bl true) H'
theorem ok_kept {f : Addr} {fd : FuncData} (F : Fun K "_law_kept" "_law_kept" sKept f fd) (T : JudT P w K mg base C fI fM fK dM dK) :
    FnG P w K mg base CX0 5 f fd ["way", "value", "named"] spKept := by
  refine okG F scKept (fun vs H Q E h => ?_) (fun cdv A outer s H vs Q E hr hgu h => ?_)
  · obtain ⟨i, v, b, d, rfl, _⟩ := h
    rfl
  · obtain ⟨i, v, b, d, rfl, hi, rd, nd, q⟩ := h
    have hu : (A.deeper (envOfC "_law_kept" (defScope sKept) s.heap.objs.size f cdv)).units + 150 < cLine := by
      have := hr.un; omega
    have hr1 := hr.mono (show 1 ≤ 4 by decide)
    refine ⟨_, pss_cons (ps_par (i := 3) (j := 4) (by rfl) scKept.nd rfl rfl (by decide) rfl rfl
        (pa_cons (pe_call T.GM hr (by rfl) T.gM T.FM.kp T.bM .nil pass0 (pa_cons (pv 0) (pa_cons (pv 1) (pa_cons (pv 2) pa_nil))))
        (pa_cons (pe_call T.GM hr (by rfl) T.gM T.FM.kp T.bM .nil pass0 (pa_cons (pv 0) (pa_cons (pe_lst (pa_cons (pv 1) pa_nil)) (pa_cons (pe_not (pv 2)) pa_nil)))) pa_nil)) (by rfl))
      (pss_cons (ps_if (PW.pt (pw_or (pt_not (pt_val (pe_call T.GK hr1 (by rfl) T.gK T.FK.kp T.bK .nil pass0 (pa_cons (pv 3) (pa_cons (pv 0) pa_nil)))))
          (pw_or1 (pt_not (pt_val (pe_call T.GK hr1 (by rfl) T.gK T.FK.kp T.bK .nil pass0 (pa_cons (pv 4) (pa_cons (pv 0) pa_nil)))))))) (pss_one (ps_ret pe_bl)) pss_nil)
      (pss_cons (ps_if (PW.pt (pw_or (pt_cmpR op_ne (pe_callB (call_repr T.sys hgu hu) (by rfl) T.repr PyProof.Rows.boot_repr (pa_cons (pe_errF (pv 3)) pa_nil))
            (pe_callB (call_repr T.sys hgu hu) (by rfl) T.repr PyProof.Rows.boot_repr (pa_cons (pv 1) pa_nil)) (nomark _))
          (pw_or1 (pt_cmpR op_ne (pe_callB (call_repr T.sys hgu hu) (by rfl) T.repr PyProof.Rows.boot_repr (pa_cons (pe_errF (pv 4)) pa_nil))
            (pe_callB (call_repr T.sys hgu hu) (by rfl) T.repr PyProof.Rows.boot_repr (pa_cons (pe_lst (pa_cons (pv 1) pa_nil)) pa_nil)) (nomark _))))) (pss_one (ps_ret pe_bl)) pss_nil)
      (pss_cons (ps_set (i := 5) scKept.nd rfl (.inl rfl) (pe_lst (pa_cons (pv 1) (pa_cons pe_int pa_nil))))
      (pss_cons (ps_set (i := 6) scKept.nd rfl (.inl rfl) (pe_call T.GM hr (by rfl) T.gM T.FM.kp T.bM .nil pass0 (pa_cons (pv 0) (pa_cons (pv 5) (pa_cons (pv 2) pa_nil)))))
      (pss_cons (ps_expr (pe_bm PySem.F.plainAttrs_list PySem.F.slot_list_append PySem.F.type_list_append mt_append (pv 5) (pa_cons pe_str pa_nil)))
      (pss_cons (ps_if (pt_cmpR op_ne (pe_callB (call_repr T.sys hgu hu) (by rfl) T.repr PyProof.Rows.boot_repr (pa_cons (pe_errF (pv 6)) pa_nil))
            (pe_callB (call_repr T.sys hgu hu) (by rfl) T.repr PyProof.Rows.boot_repr (pa_cons (pe_lst (pa_cons (pv 1) (pa_cons pe_int (pa_cons pe_str pa_nil)))) pa_nil)) (nomark _)) (pss_one (ps_ret pe_bl)) pss_nil)
      (pss_cons (ps_expr (pe_bm PySem.F.plainAttrs_list PySem.F.slot_list_append PySem.F.type_list_append mt_append (pe_errF (pv 6)) (pa_cons pe_int pa_nil)))
      (pss_one (ps_ret (pe_and (pe_cmpR op_eq (pe_callB (call_repr T.sys hgu hu) (by rfl) T.repr PyProof.Rows.boot_repr (pa_cons (pv 5) pa_nil))
            (pe_callB (call_repr T.sys hgu hu) (by rfl) T.repr PyProof.Rows.boot_repr (pa_cons (pe_lst (pa_cons (pv 1) (pa_cons pe_int (pa_cons pe_str (pa_cons pe_int pa_nil))))) pa_nil)) (nomark _))
          (pe_one (pe_cmpR op_eq (pe_callB (call_repr T.sys hgu hu) (by rfl) T.repr PyProof.Rows.boot_repr (pa_cons (pe_errF (pv 3)) pa_nil))
            (pe_callB (call_repr T.sys hgu hu) (by rfl) T.repr PyProof.Rows.boot_repr (pa_cons (pv 1) pa_nil)) (nomark _))))))))))))), ?_⟩
    have O := T.all.one i hi
    have nv : Nice 90 100000 d := nd.mono (by omega) (by omega)
    -- error, other = ..
    refine ⟨_, rfl, v, rfl, .bl b, rfl, i, v, b, rfl, Nat.zero_le _, hi, fun a1 H1 S1 er1 => ?_⟩
    refine ⟨_, rfl, v, rfl, by show 1 ≤ sizeLine; decide, fun l hl => ⟨.bl b, rfl, b, rfl, i, .ref l, !b, rfl, Nat.zero_le _, hi, fun a2 H2 S2 er2 => ?_⟩⟩
    have S12 : Same H1 H2 := (same_new hl).trans S2
    have e2l : H2 l = some (.lst [v]) := S2 _ _ upd_same
    refine ⟨_, _, rfl, ?_⟩
    -- their kinds
    refine ⟨_, rfl, _, rfl, a1, i, v, rfl, hi, er1.keep S12, fun H3 S3 => ⟨true, rfl, iteF ?_⟩⟩
    refine ⟨_, rfl, _, rfl, a2, i, .ref l, rfl, hi, er2.keep S3, fun H4 S4 => ⟨true, rfl, iteF ?_⟩⟩
    have S14 : Same H1 H4 := S12.trans (S3.trans S4)
    have S24 : Same H2 H4 := S3.trans S4
    have rd4 : RD H4 v d := rd.keep (S1.trans S14)
    -- their values
    refine ⟨_, rfl, a1, C i, v, rfl, O.xf, O.no, er1.keep S14, ?_⟩
    refine ⟨v, d, rfl, rd4, nv.fits.1, nv.fits.2.1, nv.fits.2.2, ?_⟩
    refine ⟨v, rfl, v, d, rfl, rd4, nv.fits.1, nv.fits.2.1, nv.fits.2.2, ?_⟩
    refine ⟨rfl, _, rfl, iteNS rfl ?_⟩
    have n1 : Nice 90 100000 (.list [d]) := (nice_list (ds := [d]) (n := 4) (m := 3000) (by simpa using nd)).mono (by omega) (by simp)
    have rl : RD H4 (.ref l) (.list [d]) := .lst (S24 _ _ e2l) (.cons rd4 .nil)
    refine ⟨_, rfl, a2, C i, .ref l, rfl, O.xf, O.no, er2.keep S24, .ref l, _, rfl, rl, n1.fits.1, n1.fits.2.1, n1.fits.2.2, ?_⟩
    refine ⟨v, rfl, by show 1 ≤ sizeLine; decide, fun l2 hl2 => ?_⟩
    have S5 := same_new (o := .lst [v]) hl2
    refine ⟨.ref l2, _, rfl, .lst upd_same (.cons (rd4.keep S5) .nil), n1.fits.1, n1.fits.2.1, n1.fits.2.2, rfl, _, rfl, iteNS rfl ?_⟩
    have S15 := S14.trans S5
    generalize upd H4 l2 (.lst [v]) = H5 at S5 S15
    -- held, third
    refine ⟨v, rfl, by show 2 ≤ sizeLine; decide, fun h nh => ?_⟩
    refine ⟨_, rfl, .ref h, rfl, .bl b, rfl, i, .ref h, b, rfl, Nat.zero_le _, hi, fun a3 H6 S6 er3 => ?_⟩
    have h6 : H6 h = some (.lst [v, .int 1]) := S6 _ _ upd_same
    have S56 : Same H5 H6 := (same_new nh).trans S6
    have nH5 : H5 h = none := nh
    refine ⟨.ref h, rfl, .inl ⟨rfl, _, SqL.of h6⟩, h, _, _, rfl, rfl, h6, by show 2 < sizeLine; decide, ?_⟩
    have S1_5 : Same H H5 := S1.trans S15
    have free : ∀ {H' : Hp}, Same H' H5 → H' h = none := fun {H'} z => z.free nH5
    have S7 : Same H (upd H6 h (.lst ([v, .int 1] ++ [.str "later"]))) := same_old (free S1_5) (S1_5.trans S56)
    have S17 : Same H1 (upd H6 h (.lst ([v, .int 1] ++ [.str "later"]))) := same_old (free S15) (S15.trans S56)
    have er7 : IsErr (upd H6 h (.lst ([v, .int 1] ++ [.str "later"]))) a3 (C i) (.ref h) := isErr_listed er3 h6
    have h7 : upd H6 h (.lst ([v, .int 1] ++ [.str "later"])) h = some (.lst [v, .int 1, .str "later"]) := upd_same
    generalize upd H6 h (.lst ([v, .int 1] ++ [.str "later"])) = H7 at S7 S17 er7 h7
    have rd7 := rd.keep S7
    have n3 := (nice_l3 nd).fits
    refine ⟨_, rfl, a3, C i, .ref h, rfl, O.xf, O.no, er7, .ref h, _, rfl, .lst h7 (.cons rd7 (.cons (.int 1) (.cons (.str "later") .nil))),
      n3.1, n3.2.1, n3.2.2, ?_⟩
    refine ⟨v, rfl, by show 3 ≤ sizeLine; decide, fun l3 hl3 => ?_⟩
    have S78 := same_new (o := .lst [v, .int 1, .str "later"]) hl3
    refine ⟨.ref l3, _, rfl, .lst upd_same (.cons (rd7.keep S78) (.cons (.int 1) (.cons (.str "later") .nil))), n3.1, n3.2.1, n3.2.2,
      rfl, _, rfl, iteNS rfl ?_⟩
    -- third.value.append(2)
    have h8 := S78 _ _ h7
    refine ⟨_, rfl, a3, C i, .ref h, rfl, O.xf, O.no, er7.keep S78, .inl ⟨rfl, _, SqL.of h8⟩, h, _, _, rfl, rfl, h8,
      by show 3 < sizeLine; decide, ?_⟩
    have S9 : Same H (upd (upd H7 l3 (.lst [v, .int 1, .str "later"])) h (.lst ([v, .int 1, .str "later"] ++ [.int 2]))) :=
      same_old (free S1_5) (S7.trans S78)
    have S19 : Same H1 (upd (upd H7 l3 (.lst [v, .int 1, .str "later"])) h (.lst ([v, .int 1, .str "later"] ++ [.int 2]))) :=
      same_old (free S15) (S17.trans S78)
    have h9 : upd (upd H7 l3 (.lst [v, .int 1, .str "later"])) h (.lst ([v, .int 1, .str "later"] ++ [.int 2])) h =
      some (.lst [v, .int 1, .str "later", .int 2]) := upd_same
    generalize upd (upd H7 l3 (.lst [v, .int 1, .str "later"])) h (.lst ([v, .int 1, .str "later"] ++ [.int 2])) = H9 at S9 S19 h9
    have rd9 := rd.keep S9
    have n4 := (nice_l4 nd).fits
    -- the end
    refine ⟨.ref h, rfl, .ref h, _, rfl, .lst h9 (.cons rd9 (.cons (.int 1) (.cons (.str "later") (.cons (.int 2) .nil)))), n4.1, n4.2.1, n4.2.2, ?_⟩
    refine ⟨v, rfl, by show 4 ≤ sizeLine; decide, fun l4 hl4 => ?_⟩
    have Sa := same_new (o := .lst [v, .int 1, .str "later", .int 2]) hl4
    refine ⟨.ref l4, _, rfl, .lst upd_same (.cons (rd9.keep Sa) (.cons (.int 1) (.cons (.str "later") (.cons (.int 2) .nil)))), n4.1, n4.2.1, n4.2.2,
      rfl, _, rfl, itS rfl ?_⟩
    refine ⟨_, rfl, a1, C i, v, rfl, O.xf, O.no, er1.keep (S19.trans Sa), v, d, rfl, rd9.keep Sa, nv.fits.1, nv.fits.2.1, nv.fits.2.2, ?_⟩
    refine ⟨v, rfl, v, d, rfl, rd9.keep Sa, nv.fits.1, nv.fits.2.1, nv.fits.2.2, rfl, ?_⟩
    rw [decide_eq_true rfl]
    exact q _ (S9.trans Sa)
end
end K00

/-! P7: _law_changed. -/
namespace K00
open PySem PySem.Spec PyProof.Rows L2 GL
section
variable {P : Program} {w : World} {K : PySem.W.Frag} {mg : Str → Option Value} {base : Heap} {C : Nat → Addr}
variable {fI fM fK : Addr} {dM dK : FuncData}

abbrev kA : Key := .inr "a"
abbrev kB : Key := .inr "b"
abbrev kC : Key := .inr "c"
abbrev kD : Key := .inr "d"
theorem merge_a : mergeK [] [(kA, V.int 2)] = [(kA, V.int 2)] := by decide +kernel
theorem merge_ab : mergeK [] [(kA, V.int 2), (kB, V.int 4)] = [(kA, V.int 2), (kB, V.int 4)] := by decide +kernel
theorem put_ab : putK [(kA, V.int 2)] kB (.int 4) = [(kA, V.int 2), (kB, V.int 4)] := by decide +kernel
theorem merge_c : mergeK [] [(kC, V.int 5)] = [(kC, V.int 5)] := by decide +kernel
theorem merge_cd : mergeK [] [(kC, V.int 5), (kD, V.int 6)] = [(kC, V.int 5), (kD, V.int 6)] := by decide +kernel
theorem put_cd : putK [(kC, V.int 5)] kD (.int 6) = [(kC, V.int 5), (kD, V.int 6)] := by decide +kernel
def dAB : PyData := .tuple [.list [.int 1, .int 3], .dict (kvD [(kA, V.int 2), (kB, V.int 4)] [.int 2, .int 4])]
def dCD : PyData := .dict (kvD [(kC, V.int 5), (kD, V.int 6)] [.int 5, .int 6])
theorem nAB : Nice 90 100000 dAB := ⟨by decide +kernel, by decide +kernel, by decide +kernel⟩
theorem nCD : Nice 90 100000 dCD := ⟨by decide +kernel, by decide +kernel, by decide +kernel⟩
theorem rdAB {H : Hp} {t h r : Addr} (ht : H t = some (.tup [.ref h, .ref r])) (hh : H h = some (.lst [.int 1, .int 3]))
    (hr : H r = some (.dK [(kA, V.int 2), (kB, V.int 4)])) : RD H (.ref t) dAB :=
  .tup ht (.cons (.lst hh (.cons (.int 1) (.cons (.int 3) .nil))) (.cons (.dct hr (.cons (.int 2) (.cons (.int 4) .nil))) .nil))
theorem rdCD {H : Hp} {r : Addr} (hr : H r = some (.dK [(kC, V.int 5), (kD, V.int 6)])) : RD H (.ref r) dCD :=
  .dct hr (.cons (.int 5) (.cons (.int 6) .nil))
theorem lst_dct {xs : List V} {kvs : List (Key × V)} : HO.lst xs ≠ .dK kvs := fun z => by cases z
theorem tup_lst {xs ys : List V} : HO.tup xs ≠ .lst ys := fun z => by cases z
theorem tup_dct {xs : List V} {kvs : List (Key × V)} : HO.tup xs ≠ .dK kvs := fun z => by cases z
/-- what is changed behind an error is changed in its value -/
def spChanged : Sp := fun vs H Q _ => ∃ (i : Nat) (b : Bool), vs = [.int i, .bl b] ∧ i < 17 ∧ ∀ H', Same H H' → Q (.bl true) H'
theorem ok_changed {f : Addr} {fd : FuncData} (F : Fun K "_law_changed" "_law_changed" sChanged f fd) (T : JudT P w K mg base C fI fM fK dM dK) :
    FnG P w K mg base CX0 5 f fd ["way", "named"] spChanged := by
  refine okG F scChanged (fun vs H Q E h => ?_) (fun cdv A outer s H vs Q E hr hgu h => ?_)
  · obtain ⟨i, b, rfl, _⟩ := h
    rfl
  · obtain ⟨i, b, rfl, hi, q⟩ := h
    have hu : (A.deeper (envOfC "_law_changed" (defScope sChanged) s.heap.objs.size f cdv)).units + 150 < cLine := by
      have := hr.un; omega
    have hu1 := hu_of hr
    refine ⟨_, pss_cons (ps_par (i := 2) (j := 3) (by rfl) scChanged.nd rfl rfl (by decide) rfl rfl
        (pa_cons (pe_lst (pa_cons pe_int pa_nil)) (pa_cons (pe_disp (pps_cons pe_str pe_int pps_nil) (by rfl) (by rfl) (fun z => by cases z) (by decide)) pa_nil)) (by rfl))
      (pss_cons (ps_set (i := 4) scChanged.nd rfl (.inl rfl) (pe_call T.GM hr (by rfl) T.gM T.FM.kp T.bM .nil pass0
        (pa_cons (pv 0) (pa_cons (pe_tup (pa_cons (pv 2) (pa_cons (pv 3) pa_nil))) (pa_cons (pv 1) pa_nil)))))
      (pss_cons (ps_expr (pe_bm PySem.F.plainAttrs_list PySem.F.slot_list_append PySem.F.type_list_append mt_append (pv 2) (pa_cons pe_int pa_nil)))
      (pss_cons (ps_dput hu1 (pv 3) pe_str pe_int rfl)
      (pss_cons (ps_if (pt_cmpR op_ne (pe_callB (call_repr T.sys hgu hu) (by rfl) T.repr PyProof.Rows.boot_repr (pa_cons (pe_errF (pv 4)) pa_nil))
            (pe_callB (call_repr T.sys hgu hu) (by rfl) T.repr PyProof.Rows.boot_repr (pa_cons (pe_tup (pa_cons (pe_lst (pa_cons pe_int (pa_cons pe_int pa_nil)))
              (pa_cons (pe_disp (pps_cons pe_str pe_int (pps_cons pe_str pe_int pps_nil)) (by rfl) (by rfl) (fun z => by cases z) (by decide)) pa_nil))) pa_nil)) (nomark _)) (pss_one (ps_ret pe_bl)) pss_nil)
      (pss_cons (ps_set (i := 5) scChanged.nd rfl (.inl rfl) (pe_disp (pps_cons pe_str pe_int pps_nil) (by rfl) (by rfl) (fun z => by cases z) (by decide)))
      (pss_cons (ps_set (i := 4) scChanged.nd rfl (.inl rfl) (pe_call T.GM hr (by rfl) T.gM T.FM.kp T.bM .nil pass0
        (pa_cons (pv 0) (pa_cons (pv 5) (pa_cons (pv 1) pa_nil)))))
      (pss_cons (ps_dput hu1 (pv 5) pe_str pe_int rfl)
      (pss_one (ps_ret (pe_cmpR op_eq (pe_callB (call_repr T.sys hgu hu) (by rfl) T.repr PyProof.Rows.boot_repr (pa_cons (pe_errF (pv 4)) pa_nil))
            (pe_callB (call_repr T.sys hgu hu) (by rfl) T.repr PyProof.Rows.boot_repr (pa_cons (pe_disp (pps_cons pe_str pe_int (pps_cons pe_str pe_int pps_nil)) (by rfl) (by rfl) (fun z => by cases z) (by decide)) pa_nil)) (nomark _))))))))))), ?_⟩
    -- inner, row = [1], {'a': 2}
    refine ⟨by show 1 ≤ sizeLine; decide, fun h nh => fun r nr => ⟨upd_same, [(kA, .int 2)], rfl, by decide, ?_⟩⟩
    refine ⟨_, _, rfl, ?_⟩
    have hrh : h ≠ r := ne_of_none upd_same nr
    have nrH : H r = none := by rw [upd_ne hrh.symm] at nr; exact nr
    rw [merge_a]
    have ah : upd (upd (upd H h (.lst [.int 1])) r (.dK [])) r (.dK [(kA, .int 2)]) h = some (.lst [.int 1]) := by
      rw [upd_ne hrh, upd_ne hrh]; exact upd_same
    have ar : upd (upd (upd H h (.lst [.int 1])) r (.dK [])) r (.dK [(kA, .int 2)]) r = some (.dK [(kA, .int 2)]) := upd_same
    have aS : Same H (upd (upd (upd H h (.lst [.int 1])) r (.dK [])) r (.dK [(kA, .int 2)])) := fun b u e => by
      rw [upd_ne (ne_of_none e nrH), upd_ne (ne_of_none e nrH), upd_ne (ne_of_none e nh)]; exact e
    generalize upd (upd (upd H h (.lst [.int 1])) r (.dK [])) r (.dK [(kA, .int 2)]) = Ha at ah ar aS
    -- error
    refine ⟨_, rfl, .ref h, rfl, .ref r, rfl, by show 2 ≤ sizeLine; decide, fun t nt => ⟨.bl b, rfl, i, .ref t, b, rfl, Nat.zero_le _, hi, fun a1 H1 S1 er1 => ?_⟩⟩
    have S1' := (same_new nt).trans S1
    have h1t : H1 t = some (.tup [.ref h, .ref r]) := S1 _ _ upd_same
    have h1h := S1' _ _ ah
    have h1r := S1' _ _ ar
    have O := T.all.one i hi
    -- inner.append(3), row['b'] = 4
    refine ⟨.ref h, rfl, .inl ⟨rfl, _, SqL.of h1h⟩, h, _, _, rfl, rfl, h1h, by show 1 < sizeLine; decide, ?_⟩
    have h2r : upd H1 h (.lst ([.int 1] ++ [.int 3])) r = some (.dK [(kA, .int 2)]) := by rw [upd_ne hrh.symm]; exact h1r
    refine ⟨.ref r, rfl, r, _, rfl, DPut.k (k := kB) h2r (by show 1 < sizeLine; decide), ?_⟩
    rw [put_ab]
    have h3S : Same H (upd (upd H1 h (.lst ([.int 1] ++ [.int 3]))) r (.dK [(kA, .int 2), (kB, .int 4)])) :=
      same_old nrH (same_old nh (aS.trans S1'))
    have h3t : upd (upd H1 h (.lst ([.int 1] ++ [.int 3]))) r (.dK [(kA, .int 2), (kB, .int 4)]) t = some (.tup [.ref h, .ref r]) := by
      rw [upd_ne (ne_of h1t h1r tup_dct), upd_ne (ne_of h1t h1h tup_lst)]; exact h1t
    have h3h : upd (upd H1 h (.lst ([.int 1] ++ [.int 3]))) r (.dK [(kA, .int 2), (kB, .int 4)]) h = some (.lst [.int 1, .int 3]) := by
      rw [upd_ne hrh]; exact upd_same
    have h3r : upd (upd H1 h (.lst ([.int 1] ++ [.int 3]))) r (.dK [(kA, .int 2), (kB, .int 4)]) r = some (.dK [(kA, .int 2), (kB, .int 4)]) := upd_same
    have er3 : IsErr (upd (upd H1 h (.lst ([.int 1] ++ [.int 3]))) r (.dK [(kA, .int 2), (kB, .int 4)])) a1 (C i) (.ref t) :=
      isErr_dicted (isErr_listed er1 h1h) h2r
    generalize upd (upd H1 h (.lst ([.int 1] ++ [.int 3]))) r (.dK [(kA, .int 2), (kB, .int 4)]) = H3 at h3S h3t h3h h3r er3
    have nf := nAB.fits
    refine ⟨_, rfl, a1, C i, .ref t, rfl, O.xf, O.no, er3, .ref t, _, rfl, rdAB h3t h3h h3r, nf.1, nf.2.1, nf.2.2, ?_⟩
    refine ⟨by show 2 ≤ sizeLine; decide, fun l nl => fun m nm => ⟨upd_same, [(kA, .int 2), (kB, .int 4)], rfl, by decide, by show 2 ≤ sizeLine; decide, fun u nu => ?_⟩⟩
    rw [merge_ab] at nu ⊢
    have hlm : l ≠ m := ne_of_none upd_same nm
    have ml : upd (upd (upd H3 l (.lst [.int 1, .int 3])) m (.dK [])) m (.dK [(kA, .int 2), (kB, .int 4)]) l = some (.lst [.int 1, .int 3]) := by
      rw [upd_ne hlm, upd_ne hlm]; exact upd_same
    have nmH : H3 m = none := by rw [upd_ne hlm.symm] at nm; exact nm
    have mS : Same H3 (upd (upd (upd H3 l (.lst [.int 1, .int 3])) m (.dK [])) m (.dK [(kA, .int 2), (kB, .int 4)])) := fun b u e => by
      rw [upd_ne (ne_of_none e nmH), upd_ne (ne_of_none e nmH), upd_ne (ne_of_none e nl)]; exact e
    have mm : upd (upd (upd H3 l (.lst [.int 1, .int 3])) m (.dK [])) m (.dK [(kA, .int 2), (kB, .int 4)]) m = some (.dK [(kA, .int 2), (kB, .int 4)]) := upd_same
    generalize upd (upd (upd H3 l (.lst [.int 1, .int 3])) m (.dK [])) m (.dK [(kA, .int 2), (kB, .int 4)]) = H4 at nu ml mS mm
    have uS := same_new (o := .tup [.ref l, .ref m]) nu
    refine ⟨.ref u, _, rfl, rdAB upd_same (uS _ _ ml) (uS _ _ mm), nf.1, nf.2.1, nf.2.2, rfl, _, rfl, iteNS rfl ?_⟩
    have S5 : Same H (upd H4 u (.tup [.ref l, .ref m])) := h3S.trans (mS.trans uS)
    generalize upd H4 u (.tup [.ref l, .ref m]) = H5 at S5
    -- alone
    refine fun c nc => ⟨upd_same, [(kC, .int 5)], rfl, by decide, ?_⟩
    rw [merge_c, upd_upd]
    have ncH : H c = none := S5.free nc
    refine ⟨_, rfl, .ref c, rfl, .bl b, rfl, i, .ref c, b, rfl, Nat.zero_le _, hi, fun a2 H6 S6 er6 => ?_⟩
    have h6c : H6 c = some (.dK [(kC, .int 5)]) := S6 _ _ upd_same
    refine ⟨.ref c, rfl, c, _, rfl, DPut.k (k := kD) h6c (by show 1 < sizeLine; decide), ?_⟩
    rw [put_cd]
    have h7S : Same H (upd H6 c (.dK [(kC, .int 5), (kD, .int 6)])) := same_old ncH (S5.trans ((same_new nc).trans S6))
    have er7 : IsErr (upd H6 c (.dK [(kC, .int 5), (kD, .int 6)])) a2 (C i) (.ref c) := isErr_dicted er6 h6c
    have h7c : upd H6 c (.dK [(kC, .int 5), (kD, .int 6)]) c = some (.dK [(kC, .int 5), (kD, .int 6)]) := upd_same
    generalize upd H6 c (.dK [(kC, .int 5), (kD, .int 6)]) = H7 at h7S er7 h7c
    have ng := nCD.fits
    refine ⟨_, rfl, a2, C i, .ref c, rfl, O.xf, O.no, er7, .ref c, _, rfl, rdCD h7c, ng.1, ng.2.1, ng.2.2, ?_⟩
    refine fun m nm => ⟨upd_same, [(kC, .int 5), (kD, .int 6)], rfl, by decide, ?_⟩
    rw [merge_cd, upd_upd]
    refine ⟨.ref m, _, rfl, rdCD upd_same, ng.1, ng.2.1, ng.2.2, rfl, ?_⟩
    rw [decide_eq_true rfl]
    exact q _ (h7S.trans (same_new nm))
end
end K00

/-! P8: the law. -/
namespace K00
open PySem PySem.Spec PyProof.Rows L2 GL
section
variable {P : Program} {w : World} {K : PySem.W.Frag} {mg : Str → Option Value} {base : Heap} {C : Nat → Addr}
variable {fI fM fK : Addr} {dM dK : FuncData}

/-- what the law calls -/
structure LawT (P : Program) (w : World) (K : PySem.W.Frag) (mg : Str → Option Value) (base : Heap) (fO fV fD fE fC : Addr)
    (dO dV dD dE dC : FuncData) : Prop where
  FO : Fun K "_law_pot" "_law_pot" sPot fO dO
  bO : Binds K dO ["script", "k"] []
  gO : mg "_law_pot" = some (.ref fO)
  GO : FnOk P w K mg base CX0 1 fO dO ["script", "k"] (spPot K)
  FV : Fun K "_law_value" "_law_value" sValue fV dV
  bV : Binds K dV ["pot", "deep"] []
  gV : mg "_law_value" = some (.ref fV)
  GV : FnOk P w K mg base CX0 6 fV dV ["pot", "deep"] (spValue 3)
  FD : Fun K "_law_draw" "_law_draw" sDraw fD dD
  bD : Binds K dD ["pot", "many"] []
  gD : mg "_law_draw" = some (.ref fD)
  GD : FnOk P w K mg base CX0 1 fD dD ["pot", "many"] spDraw
  FE : Fun K "_law_kept" "_law_kept" sKept fE dE
  bE : Binds K dE ["way", "value", "named"] []
  gE : mg "_law_kept" = some (.ref fE)
  GE : FnG P w K mg base CX0 5 fE dE ["way", "value", "named"] spKept
  FC : Fun K "_law_changed" "_law_changed" sChanged fC dC
  bC : Binds K dC ["way", "named"] []
  gC : mg "_law_changed" = some (.ref fC)
  GC : FnG P w K mg base CX0 5 fC dC ["way", "named"] spChanged
  range : mg "range" = none
  max : mg "max" = none
  min : mg "min" = none
  len : mg "len" = none
variable {fO fV fD fE fC : Addr} {dO dV dD dE dC : FuncData}

def spLaw (K : PySem.W.Frag) : Sp := fun vs H Q _ => ∃ (a : Addr) (ns : List Int), vs = [.ref a] ∧ SqL K H a (ns.map V.int) ∧
  ns.length ≤ 63 ∧ ∀ H', Q (.bl true) H'
theorem ok_law {f : Addr} {fd : FuncData} (F : Fun K "law" "law" sLaw f fd) (T : LawT P w K mg base fO fV fD fE fC dO dV dD dE dC) :
    FnG P w K mg base CX0 7 f fd ["script"] (spLaw K) := by
  refine okG F scLaw (fun vs H Q E h => ?_) (fun cdv A outer s H vs Q E hr hgu h => ?_)
  · obtain ⟨a, ns, rfl, _⟩ := h
    rfl
  · obtain ⟨a, ns, rfl, hS, hlen, q⟩ := h
    have hr1 := hr.mono (show 1 ≤ 6 by decide)
    have hr5 := hr.mono (show 5 ≤ 6 by decide)
    refine ⟨_, pss_cons (ps_for PassesOwn.never rfl (pi_range1 (by rfl) T.range (pa_cons (pe_callB (call_max2 rfl) (by rfl) T.max (by decide +kernel)
          (pa_cons pe_int (pa_cons (pe_callB (call_min2 rfl) (by rfl) T.min (by decide +kernel) (pa_cons pe_int (pa_cons
            (pe_callB call_len_seq (by rfl) T.len PySem.boot_len (pa_cons (pv 0) pa_nil)) pa_nil))) pa_nil))) pa_nil)) (pg_name (i := 1) scLaw.nd rfl (.inl rfl))
        (pss_cons (ps_set (i := 2) scLaw.nd rfl (.inl rfl) (pe_call T.GO hr1 (by rfl) T.gO T.FO.kp T.bO .nil pass0 (pa_cons (pv 0) (pa_cons (pv 1) pa_nil))))
        (pss_one (ps_for PassesOwn.never rfl (pi_range1 (by rfl) T.range (pa_cons pe_int pa_nil)) (pg_name (i := 3) scLaw.nd rfl (.inl rfl))
          (pss_cons (ps_par (i := 4) (j := 5) (by rfl) scLaw.nd rfl rfl (by decide) rfl rfl
            (pa_cons (pe_call T.GV hr (by rfl) T.gV T.FV.kp T.bV .nil pass0 (pa_cons (pv 2) (pa_cons pe_int pa_nil)))
            (pa_cons (pe_cmpR op_eq (pe_call T.GD hr1 (by rfl) T.gD T.FD.kp T.bD .nil pass0 (pa_cons (pv 2) (pa_cons pe_int pa_nil))) pe_int (nomark _)) pa_nil)) (by rfl))
          (pss_one (ps_if (PW.pt (pw_or (pt_not (pt_val (pe_callG T.GE hr5 hgu (by rfl) T.gE T.FE.kp T.bE .nil pass0 (pa_cons (pv 3) (pa_cons (pv 4) (pa_cons (pv 5) pa_nil))))))
            (pw_or1 (pt_not (pt_val (pe_callG T.GC hr5 hgu (by rfl) T.gC T.FC.kp T.bC .nil pass0 (pa_cons (pv 3) (pa_cons (pv 5) pa_nil)))))))) (pss_one (ps_ret pe_bl)) pss_nil)))))))
      (pss_one (ps_ret pe_bl)), ?_⟩
    refine ⟨.ref a, rfl, a, _, rfl, .inl hS, _, _, rfl, _, _, rfl, ?_⟩
    rw [List.length_map]
    have hm : ∃ m : Nat, m ≤ 4 ∧ (if (if (ns.length : Int) < 4 then (ns.length : Int) else 4) > 1 then (if (ns.length : Int) < 4 then (ns.length : Int) else 4) else 1) = (m : Int) := by
      have h1 : 0 ≤ (if (if (ns.length : Int) < 4 then (ns.length : Int) else 4) > 1 then (if (ns.length : Int) < 4 then (ns.length : Int) else 4) else 1) := by
        split <;> (try split) <;> omega
      have h2 : (if (if (ns.length : Int) < 4 then (ns.length : Int) else 4) > 1 then (if (ns.length : Int) < 4 then (ns.length : Int) else 4) else 1) ≤ 4 := by
        split <;> (try split) <;> omega
      exact ⟨Int.toNat _, by omega, (Int.toNat_of_nonneg h1).symm⟩
    obtain ⟨m, hm4, em⟩ := hm
    rw [em]
    refine ⟨(m : Int), rfl, by omega, by omega, for_range (lo := 0) (n := m) (fun i σ H' => ∃ y1 y2 y3 y4 y5, σ = [some (.ref a), y1, y2, y3, y4, y5] ∧ Same H H')
      ⟨none, none, none, none, none, rfl, .refl H⟩ (fun i σ H1 hi hP => ?_) (fun σ H1 hP => ?_)⟩
    · obtain ⟨y1, y2, y3, y4, y5, rfl, S1⟩ := hP
      -- pot
      refine ⟨.ref a, rfl, _, rfl, a, ns, i, ?_, S1.seq hS, hlen, by omega, fun p o H2 S2 hp hp2 po => ?_⟩
      · have e : (0 : Int) + (i : Int) = i := by omega
        rw [e]; rfl
      have hpH : H p = none := S1.free hp
      refine ⟨17, rfl, by decide, by decide, for_range (lo := 0) (n := 17) (fun j σ H' => ∃ y1 y3 y4 y5 o, σ = [some (.ref a), y1, some (.ref p), y3, y4, y5] ∧ Same H H' ∧
        H' p = some o ∧ PotO (j * 134) o) ⟨_, _, _, _, o, rfl, S1.trans S2, hp2, by simpa using po⟩ (fun j σ H3 hj hP => ?_) (fun σ H3 hP => ?_)⟩
      · obtain ⟨z1, z3, z4, z5, o3, rfl, S3, hp3, po3⟩ := hP
        have e : (0 : Int) + (j : Int) = j := by omega
        rw [e]
        refine ⟨.ref p, rfl, p, j * 134, o3, rfl, by show j * 134 + 133 ≤ 1000000; omega, hp3, po3, fun v d o4 H4 k4 hp4 po4 rd nx => ?_⟩
        refine ⟨.ref p, rfl, p, 2, j * 134 + 133, o4, rfl, by decide, by decide, by omega, hp4, po4, fun r o5 r0 r1 po5 => ?_⟩
        refine ⟨rfl, _, _, rfl, ?_⟩
        have rd5 : RD (upd H4 p o5) v d := rd.keep fun b u e => by
          obtain ⟨e1, e2⟩ := NewH.of e
          have nb : b ≠ p := fun z => by rw [z, hp3] at e1; cases e1
          rw [upd_ne nb]; exact e2
        have S5 : Same H (upd H4 p o5) := fun b u e => by
          have nb : b ≠ p := fun z => by rw [z, hpH] at e; cases e
          rw [upd_ne nb]
          exact k4 b u nb (S3 b u e)
        refine ⟨_, rfl, v, rfl, _, rfl, j, v, _, d, rfl, by omega, rd5, nx.mono (by omega) (by show lenD 3 ≤ 3000; decide), fun H6 S6 => ⟨true, rfl, iteF ?_⟩⟩
        refine ⟨_, rfl, _, rfl, j, _, rfl, by omega, fun H7 S7 => ⟨true, rfl, iteF ?_⟩⟩
        refine ⟨_, _, _, _, o5, rfl, S5.trans (S6.trans S7), (S6.trans S7) _ _ upd_same, po5.mono (by omega)⟩
      · obtain ⟨z1, z3, z4, z5, o3, rfl, S3, hp3, po3⟩ := hP
        exact ⟨_, _, _, _, _, rfl, S3⟩
    · exact q H1
end
end K00

/-! P9: what the top has left. -/
namespace K00
open PySem PySem.Spec PyProof.Rows L2 GL
section
variable {K : PySem.W.Frag} {fI : Addr}

/-- a class of the text, as it stands behind the top -/
structure ClsF (K : PySem.W.Frag) (n : Str) (C C0 fI : Addr) (bm : List Value) : Prop where
  ns : PySem.W.nsIn K mainGlobals n = some (some (.ref C))
  obj : ∃ nm q N bs sn sub ab col dd k0 k1 k2 k3 k5,
    K.lookup C = some (excClassObj nm q C N bs bm true sn sub ab col dd k0 k1 k2 k3 k5 "ValueError.__new__")
  sa : PySem.W.findIn K (.ref C) "__setattr__" = some (some (.builtin "object.__setattr__"))
  ga : PySem.W.findIn K (.ref C) "__getattribute__" = some (some (.builtin "BaseException.__getattribute__"))
  gt : PySem.W.findIn K (.ref C) "__getattr__" = some none
  nv : PySem.W.findIn K (.ref C) "value" = some none
  ini : PySem.W.findIn K (.ref C) "__init__" = some (some (.ref fI))
  cl : PySem.W.findIn K (.ref C) "__class__" = some (some (.builtin "object.__class__"))
  kp : PySem.W.keepIn K (.ref C) = true
theorem clsF_mk {n : Str} {C C0 : Addr} {bm : List Value} {nm q : Str} {N : Addr} {bs : List Value} {sn : List Str} {sub : List Value}
    {ab : Bool} {col : Option Bool} {dd : Option Addr} {k0 k1 k2 k3 k5 : Option Value}
    (ns : PySem.W.nsIn K mainGlobals n = some (some (.ref C)))
    (obj : K.lookup C = some (excClassObj nm q C N bs bm true sn sub ab col dd k0 k1 k2 k3 k5 "ValueError.__new__"))
    (sa : PySem.W.findIn K (.ref C) "__setattr__" = some (some (.builtin "object.__setattr__")))
    (ga : PySem.W.findIn K (.ref C) "__getattribute__" = some (some (.builtin "BaseException.__getattribute__")))
    (gt : PySem.W.findIn K (.ref C) "__getattr__" = some none) (nv : PySem.W.findIn K (.ref C) "value" = some none)
    (ini : PySem.W.findIn K (.ref C) "__init__" = some (some (.ref fI)))
    (cl : PySem.W.findIn K (.ref C) "__class__" = some (some (.builtin "object.__class__")))
    (kp : PySem.W.keepIn K (.ref C) = true) : ClsF K n C C0 fI bm :=
  ⟨ns, ⟨_, _, _, _, _, _, _, _, _, _, _, _, _, _, obj⟩, sa, ga, gt, nv, ini, cl, kp⟩
theorem ClsF.cd {n : Str} {C C0 : Addr} {bm : List Value} (F : ClsF K n C C0 fI bm) :
    ∃ cd, PySem.W.clsIn K C = some cd ∧ cd.mro = .ref C :: bm ∧ cd.hasDict = true := by
  obtain ⟨nm, q, N, bs, sn, sub, ab, col, dd, k0, k1, k2, k3, k5, e⟩ := F.obj
  exact ⟨_, by unfold PySem.W.clsIn; rw [e] <;> rfl, rfl, rfl⟩
theorem ClsF.ty {n : Str} {C C0 : Addr} {bm : List Value} (F : ClsF K n C C0 fI bm) : PySem.W.typeIn K (.ref C) = some (.type "type") := by
  obtain ⟨nm, q, N, bs, sn, sub, ab, col, dd, k0, k1, k2, k3, k5, e⟩ := F.obj
  show Option.map (fun x : Obj => x.cls) (List.lookup C K) = _
  rw [e]; rfl
theorem ClsF.mro {n : Str} {C C0 : Addr} {bm : List Value} (F : ClsF K n C C0 fI bm) (b : Value) :
    PySem.W.mroIn K C b = some ((Value.ref C :: bm).contains b) := by
  obtain ⟨cd, e, h, _⟩ := F.cd
  unfold PySem.W.mroIn
  rw [e, Option.bind_some, h, if_neg (by simp)]
theorem ClsF.one {n : Str} {C C0 : Addr} {bm : List Value} (F : ClsF K n C C0 fI bm) (hb : PySem.HandSPX.refsVE bm = true)
    (ft : PySem.W.typeIn K (.ref fI) = some (.type "function"))
    (g : PySem.W.specialIn K (.builtin "object.__class__") "__get__" = some (some (.builtin "getset_descriptor.__get__")))
    (t : PySem.W.takesIn K (.builtin "object.__class__") = some true) : OneC K C fI := by
  have inn : ∀ X : String, (PySem.HandSPX.veTail).contains (.type X) = true → PySem.W.mroIn K C (.type X) = some true := fun X h => by
    rw [F.mro, List.contains_cons, PySem.HandSPX.refsVE_contains X bm hb, h, Bool.or_true]
  have ex : PySem.W.subIn K (.ref C) (.type "BaseException") = some true := inn _ (by decide +kernel)
  have hd : PySem.W.hasDictIn K C = true := by
    obtain ⟨cd, e, _, h⟩ := F.cd
    unfold PySem.W.hasDictIn
    rw [e]
    simpa using h
  obtain ⟨nm, q, N, bs, sn, sub, ab, col, dd, k0, k1, k2, k3, k5, e⟩ := F.obj
  exact ⟨⟨⟨⟨nm, q, N, bs, bm, sn, sub, ab, col, dd, k0, k1, k2, k3, k5, e, hb⟩, F.sa, ex, F.ty, F.kp⟩, F.ini, ft⟩,
    ⟨F.ga, F.gt, ex, hd⟩, F.nv, ⟨F.ga, F.gt, ex, hd, F.cl, g, t, inn _ (by decide +kernel)⟩⟩
/-- isinstance of the classes of the text -/
theorem ClsF.kit {n m : Str} {C C' C0 : Addr} {bm bm' : List Value} (F : ClsF K n C C0 fI bm) (G : ClsF K m C' C0 fI bm') {b : Bool}
    (h : (Value.ref C :: bm).contains (.ref C') = b) : PySem.W.kitOne K (.ref C) (.ref C') = some b := by
  unfold PySem.W.kitOne
  split
  · rename_i e
    have e' : Value.ref C = .ref C' := by simpa using e
    rw [← h, ← e']
    simp
  · unfold PySem.W.kitCls
    obtain ⟨cd, e, _, _⟩ := G.cd
    dsimp only
    rw [e, G.ty]
    show PySem.W.subIn K (.ref C) (.ref C') = some b
    show PySem.W.mroIn K C (.ref C') = some b
    rw [F.mro, h]
theorem ClsF.isVE {n : Str} {C C0 : Addr} {bm : List Value} (F : ClsF K n C C0 fI bm) (hb : PySem.HandSPX.refsVE bm = true) :
    PySem.W.kitOne K (.ref C) (.type "ValueError") = some true := by
  unfold PySem.W.kitOne
  rw [if_neg (by simp)]
  unfold PySem.W.kitCls
  dsimp only
  rw [if_pos (by decide +kernel)]
  show PySem.W.mroIn K C (.type "ValueError") = some true
  rw [F.mro, List.contains_cons, PySem.HandSPX.refsVE_contains "ValueError" bm hb,
    show PySem.HandSPX.veTail.contains (.type "ValueError") = true by decide +kernel, Bool.or_true]

abbrev vt : List Value := PySem.HandSPX.veTail
/-- the seventeen classes of the text -/
structure Clss (K : PySem.W.Frag) (C : Nat → Addr) (fI : Addr) : Prop where
  base : ClsF K (nameOf 0) (C 0) (C 0) fI vt
  sub : ∀ i, 0 < i → i < 17 → ClsF K (nameOf i) (C i) (C 0) fI (.ref (C 0) :: vt)
  inj : ∀ i j, i < 17 → j < 17 → C i = C j → i = j
theorem Clss.at {C : Nat → Addr} (S : Clss K C fI) (i : Nat) (hi : i < 17) :
    ∃ bm, ClsF K (nameOf i) (C i) (C 0) fI bm ∧ PySem.HandSPX.refsVE bm = true ∧
      ∀ j, j < 17 → (Value.ref (C i) :: bm).contains (.ref (C j)) = decide (j = 0 ∨ j = i) := by
  have no : ∀ j, vt.contains (.ref (C j)) = false := fun j => by simp [vt, PySem.HandSPX.veTail]
  by_cases h : i = 0
  · subst h
    refine ⟨vt, S.base, by decide +kernel, fun j hj => ?_⟩
    rw [List.contains_cons, no, Bool.or_false]
    by_cases e : j = 0
    · subst e; simp
    · have ne : C j ≠ C 0 := fun z => e (S.inj j 0 hj hi z)
      simp [e, ne]
  · refine ⟨_, S.sub i (by omega) hi, by simp only [PySem.HandSPX.refsVE]; decide +kernel, fun j hj => ?_⟩
    rw [List.contains_cons, List.contains_cons, no, Bool.or_false]
    by_cases e : j = 0
    · subst e; simp
    · have ne : C j ≠ C 0 := fun z => e (S.inj j 0 hj (by omega) z)
      by_cases e2 : j = i
      · subst e2; simp
      · have ne2 : C j ≠ C i := fun z => e2 (S.inj j i hj hi z)
        simp [e, e2, ne, ne2]
theorem Clss.all {C : Nat → Addr} (S : Clss K C fI) {h : Heap} {mg : Str → Option Value} (X : K.In h) (G : h.Ns mainGlobals mg)
    (ft : PySem.W.typeIn K (.ref fI) = some (.type "function"))
    (g : PySem.W.specialIn K (.builtin "object.__class__") "__get__" = some (some (.builtin "getset_descriptor.__get__")))
    (t : PySem.W.takesIn K (.builtin "object.__class__") = some true) : AllC K mg C fI where
  one := fun i hi => let ⟨_, F, hb, _⟩ := S.at i hi; F.one hb ft g t
  glob := fun i hi => let ⟨_, F, _, _⟩ := S.at i hi; PySem.W.mg_of X G F.ns
  kit := fun i j hi hj => by
    obtain ⟨_, F, _, h⟩ := S.at i hi
    obtain ⟨_, F', _, _⟩ := S.at j hj
    exact F.kit F' (h j hj)
  ve := fun i hi => let ⟨_, F, hb, _⟩ := S.at i hi; F.isVE hb
end
end K00

/-! P10: the whole. -/
namespace K00
open PySem PySem.Spec PyProof.Rows L2 GL

/-- a def of the text, as it stands behind the top -/
structure DefF (K : PySem.W.Frag) (n q : Str) (st : Stmt) (f : Addr) (fd : FuncData) : Prop where
  ns : PySem.W.nsIn K mainGlobals n = some (some (.ref f))
  fn : Fun K n q st f fd
theorem all_mk {P : Program} {w : World} {K : PySem.W.Frag} {h : Heap} {mg : Str → Option Value} {fa : Addr} (X : K.In h)
    (G : h.Ns mainGlobals mg) (hfa : mg "law" = some (.ref fa)) {C : Nat → Addr} {fI : Addr} {dI : FuncData}
    {fO : Addr} {dO : FuncData} (FO : DefF K "_law_pot" "_law_pot" sPot fO dO)
    {fD : Addr} {dD : FuncData} (FD : DefF K "_law_draw" "_law_draw" sDraw fD dD)
    {fP : Addr} {dP : FuncData} (FP : DefF K "_law_plain" "_law_plain" sPlain fP dP)
    {fV : Addr} {dV : FuncData} (FV : DefF K "_law_value" "_law_value" sValue fV dV)
    {f1 : Addr} {d1 : FuncData} (F1 : DefF K "_law_first" "_law_first" sFirst f1 d1)
    {f2 : Addr} {d2 : FuncData} (F2 : DefF K "_law_second" "_law_second" sSecond f2 d2)
    {f3 : Addr} {d3 : FuncData} (F3 : DefF K "_law_third" "_law_third" sThird f3 d3)
    {fM : Addr} {dM : FuncData} (FM : DefF K "_law_made" "_law_made" sMade fM dM)
    {fK : Addr} {dK : FuncData} (FK : DefF K "_law_kinds_right" "_law_kinds_right" sKinds fK dK)
    {fE : Addr} {dE : FuncData} (FE : DefF K "_law_kept" "_law_kept" sKept fE dE)
    {fC : Addr} {dC : FuncData} (FC : DefF K "_law_changed" "_law_changed" sChanged fC dC)
    {fL : Addr} {dL : FuncData} (FL : DefF K "law" "law" sLaw fL dL)
    (FI : Fun K "__init__" "MixError.__init__" sInit fI dI) (S : Clss K C fI)
    (ft : PySem.W.typeIn K (.ref fI) = some (.type "function"))
    (gg : PySem.W.specialIn K (.builtin "object.__class__") "__get__" = some (some (.builtin "getset_descriptor.__get__")))
    (gt : PySem.W.takesIn K (.builtin "object.__class__") = some true)
    (vV : PySem.W.findCls K (.type "ValueError") (.type "type") "__init__" = some (.val (.builtin "ValueError.__init__")))
    (z_int : PySem.W.nsIn K mainGlobals "int" = some none)
    (z_len : PySem.W.nsIn K mainGlobals "len" = some none)
    (z_sum : PySem.W.nsIn K mainGlobals "sum" = some none)
    (z_max : PySem.W.nsIn K mainGlobals "max" = some none)
    (z_abs : PySem.W.nsIn K mainGlobals "abs" = some none)
    (z_min : PySem.W.nsIn K mainGlobals "min" = some none)
    (z_range : PySem.W.nsIn K mainGlobals "range" = some none)
    (z_tuple : PySem.W.nsIn K mainGlobals "tuple" = some none)
    (z_dict : PySem.W.nsIn K mainGlobals "dict" = some none)
    (z_enumerate : PySem.W.nsIn K mainGlobals "enumerate" = some none)
    (z_str : PySem.W.nsIn K mainGlobals "str" = some none)
    (z_isinstance : PySem.W.nsIn K mainGlobals "isinstance" = some none)
    (z_repr : PySem.W.nsIn K mainGlobals "repr" = some none)
    (z_ValueError : PySem.W.nsIn K mainGlobals "ValueError" = some none)
    : ∃ fd : FuncData, (∀ (s : Shared) (v : Value), BindsTo s fd ⟨[v], []⟩ [("script", v)]) ∧ ∀ base : Heap, K.In base →
      base.Ns mainGlobals mg → SysAt base → FnG P w K mg base CX0 7 fa fd ["script"] (spLaw K) := by
  have e := hfa.symm.trans (PySem.W.mg_of X G FL.ns)
  cases e
  have m_int := PySem.W.mg_none_of X G z_int
  have m_len := PySem.W.mg_none_of X G z_len
  have m_sum := PySem.W.mg_none_of X G z_sum
  have m_max := PySem.W.mg_none_of X G z_max
  have m_abs := PySem.W.mg_none_of X G z_abs
  have m_min := PySem.W.mg_none_of X G z_min
  have m_range := PySem.W.mg_none_of X G z_range
  have m_tuple := PySem.W.mg_none_of X G z_tuple
  have m_dict := PySem.W.mg_none_of X G z_dict
  have m_enumerate := PySem.W.mg_none_of X G z_enumerate
  have m_str := PySem.W.mg_none_of X G z_str
  have m_isinstance := PySem.W.mg_none_of X G z_isinstance
  have m_repr := PySem.W.mg_none_of X G z_repr
  have m_ValueError := PySem.W.mg_none_of X G z_ValueError
  have bO := FO.fn.binds (ps := ["script", "k"]) fun _ _ _ _ _ _ us hl => match us, hl with | [_, _], _ => rfl
  have bD := FD.fn.binds (ps := ["pot", "many"]) fun _ _ _ _ _ _ us hl => match us, hl with | [_, _], _ => rfl
  have bP := FP.fn.binds (ps := ["pot"]) fun _ _ _ _ _ _ us hl => match us, hl with | [_], _ => rfl
  have bV := FV.fn.binds (ps := ["pot", "deep"]) fun _ _ _ _ _ _ us hl => match us, hl with | [_, _], _ => rfl
  have b1 := F1.fn.binds (ps := ["way", "value", "named"]) fun _ _ _ _ _ _ us hl => match us, hl with | [_, _, _], _ => rfl
  have b2 := F2.fn.binds (ps := ["way", "value", "named"]) fun _ _ _ _ _ _ us hl => match us, hl with | [_, _, _], _ => rfl
  have b3 := F3.fn.binds (ps := ["way", "value", "named"]) fun _ _ _ _ _ _ us hl => match us, hl with | [_, _, _], _ => rfl
  have bM := FM.fn.binds (ps := ["way", "value", "named"]) fun _ _ _ _ _ _ us hl => match us, hl with | [_, _, _], _ => rfl
  have bK := FK.fn.binds (ps := ["error", "way"]) fun _ _ _ _ _ _ us hl => match us, hl with | [_, _], _ => rfl
  have bE := FE.fn.binds (ps := ["way", "value", "named"]) fun _ _ _ _ _ _ us hl => match us, hl with | [_, _, _], _ => rfl
  have bC := FC.fn.binds (ps := ["way", "named"]) fun _ _ _ _ _ _ us hl => match us, hl with | [_, _], _ => rfl
  have bI := FI.binds (ps := ["self", "value"]) fun _ _ _ _ _ _ us hl => match us, hl with | [_, _], _ => rfl
  have kI : ∀ (s : Shared) (a u : Value), K.In s.heap → BindsTo s dI ⟨[a], [("value", u)]⟩ [("self", a), ("value", u)] := by
    obtain ⟨oc, od, kV, doc, pm, an, cdv, ct, osl, rfl, lk, hcd⟩ := FI.ex
    exact fun s a u _ => .of_eq rfl
  have bL : ∀ (s : Shared) (v : Value), BindsTo s dL ⟨[v], []⟩ [("script", v)] := by
    obtain ⟨oc, od, kV, doc, pm, an, cdv, ct, osl, rfl, lk, hcd⟩ := FL.fn.ex
    exact fun s v => .of_eq rfl
  have A : AllC K mg C fI := S.all X G ft gg gt
  refine ⟨dL, bL, fun base _ _ hs => ?_⟩
  have GD : FnOk P w K mg base CX0 1 fD dD ["pot", "many"] spDraw := ok_draw FD.fn m_int
  have GO : FnOk P w K mg base CX0 1 fO dO ["script", "k"] (spPot K) := ok_pot FO.fn m_int m_len m_sum m_max m_abs
  have GP : FnOk P w K mg base CX0 2 fP dP ["pot"] spPlain := ok_plain FP.fn FD.fn bD (PySem.W.mg_of X G FD.ns) GD
  have GV : FnOk P w K mg base CX0 6 fV dV ["pot", "deep"] (spValue 3) :=
    ok_value FV.fn ⟨FD.fn, bD, PySem.W.mg_of X G FD.ns, GD, FP.fn, bP, PySem.W.mg_of X G FP.ns, GP, m_range, m_tuple, m_dict, m_enumerate, m_str⟩
      bV (PySem.W.mg_of X G FV.ns) 3
  have TM : MkT P w K mg base C fI dI := ⟨A, ok_init FI m_ValueError vV, bI, kI⟩
  have GM := ok_made FM.fn F1.fn F2.fn F3.fn (PySem.W.mg_of X G F1.ns) (PySem.W.mg_of X G F2.ns) (PySem.W.mg_of X G F3.ns) b1 b2 b3 TM
  have GK : FnOk P w K mg base CX0 1 fK dK ["error", "way"] (spKinds C) := ok_kinds FK.fn A m_isinstance m_range m_ValueError
  have J : JudT P w K mg base C fI fM fK dM dK :=
    ⟨A, FM.fn, bM, PySem.W.mg_of X G FM.ns, GM, FK.fn, bK, PySem.W.mg_of X G FK.ns, GK, m_repr, hs⟩
  exact ok_law FL.fn ⟨FO.fn, bO, PySem.W.mg_of X G FO.ns, GO, FV.fn, bV, PySem.W.mg_of X G FV.ns, GV, FD.fn, bD, PySem.W.mg_of X G FD.ns, GD,
    FE.fn, bE, PySem.W.mg_of X G FE.ns, ok_kept FE.fn J, FC.fn, bC, PySem.W.mg_of X G FC.ns, ok_changed FC.fn J, m_range, m_max, m_min, m_len⟩
theorem def_mk {K : PySem.W.Frag} {n q : Str} {st : Stmt} {f : Addr} {oc : Value} {od an : Option Addr} {osl : Array (Option Value)}
    {kV doc pm cdv ct : Value} (a : PySem.W.nsIn K mainGlobals n = some (some (.ref f)))
    (l : K.lookup f = some ⟨oc, od, .func (PySem.W.fnOf n q (defArgs st) (defBody st) (defScope st) .none kV doc pm an cdv ct), osl⟩)
    (c : PySem.W.codeIn K cdv q = true) (k : PySem.W.keepIn K (.ref f) = true) :
    DefF K n q st f (PySem.W.fnOf n q (defArgs st) (defBody st) (defScope st) .none kV doc pm an cdv ct) := ⟨a, fun_mk l c k⟩

/-- the classes' places -/
def placeOf (l : List Addr) (i : Nat) : Addr := l.getD i 0
theorem place_inj {l : List Addr} (h : l.length = 17) (nd : l.Nodup) (i j : Nat) (hi : i < 17) (hj : j < 17)
    (e : placeOf l i = placeOf l j) : i = j := by
  have hi' : i < l.length := by omega
  have hj' : j < l.length := by omega
  unfold placeOf at e
  rw [List.getD_eq_getElem?_getD, List.getD_eq_getElem?_getD, List.getElem?_eq_getElem hi', List.getElem?_eq_getElem hj'] at e
  exact (List.getElem_inj nd).mp e
theorem clss_mk {K : PySem.W.Frag} {fI : Addr} {c0 c1 c2 c3 c4 c5 c6 c7 c8 c9 c10 c11 c12 c13 c14 c15 c16 : Addr}
    (h0 : ClsF K "MixError" c0 c0 fI vt)
    (h1 : ClsF K "InvalidGame" c1 c0 fI (.ref c0 :: vt))
    (h2 : ClsF K "InvalidMix" c2 c0 fI (.ref c0 :: vt))
    (h3 : ClsF K "InvalidLot" c3 c0 fI (.ref c0 :: vt))
    (h4 : ClsF K "InvalidSide" c4 c0 fI (.ref c0 :: vt))
    (h5 : ClsF K "InvalidNumber" c5 c0 fI (.ref c0 :: vt))
    (h6 : ClsF K "InvalidLabel" c6 c0 fI (.ref c0 :: vt))
    (h7 : ClsF K "NotSteady" c7 c0 fI (.ref c0 :: vt))
    (h8 : ClsF K "HasTies" c8 c0 fI (.ref c0 :: vt))
    (h9 : ClsF K "InvalidChanges" c9 c0 fI (.ref c0 :: vt))
    (h10 : ClsF K "Tied" c10 c0 fI (.ref c0 :: vt))
    (h11 : ClsF K "InvalidTable" c11 c0 fI (.ref c0 :: vt))
    (h12 : ClsF K "InvalidPrizes" c12 c0 fI (.ref c0 :: vt))
    (h13 : ClsF K "Nothing" c13 c0 fI (.ref c0 :: vt))
    (h14 : ClsF K "Unreadable" c14 c0 fI (.ref c0 :: vt))
    (h15 : ClsF K "InvalidCommand" c15 c0 fI (.ref c0 :: vt))
    (h16 : ClsF K "NotReady" c16 c0 fI (.ref c0 :: vt))
    (nd : [c0, c1, c2, c3, c4, c5, c6, c7, c8, c9, c10, c11, c12, c13, c14, c15, c16].Nodup) : Clss K (placeOf [c0, c1, c2, c3, c4, c5, c6, c7, c8, c9, c10, c11, c12, c13, c14, c15, c16]) fI where
  base := h0
  sub := fun i g1 g2 => by
    match i, g1, g2 with
    | 0, g, _ => exact absurd g (by decide)
    | n + 17, _, g => exact absurd g (by omega)
    | 1, _, _ => exact h1
    | 2, _, _ => exact h2
    | 3, _, _ => exact h3
    | 4, _, _ => exact h4
    | 5, _, _ => exact h5
    | 6, _, _ => exact h6
    | 7, _, _ => exact h7
    | 8, _, _ => exact h8
    | 9, _, _ => exact h9
    | 10, _, _ => exact h10
    | 11, _, _ => exact h11
    | 12, _, _ => exact h12
    | 13, _, _ => exact h13
    | 14, _, _ => exact h14
    | 15, _, _ => exact h15
    | 16, _, _ => exact h16
  inj := place_inj rfl nd
end K00

open PySem PySem.W PyProof.Rows
set_option maxHeartbeats 0 in
theorem PySem.Challenge.cw_steadymixes_k00_errors_keep_their_value_holds : PySem.Challenge.rw_steadymixes_k00_errors_keep_their_value.Holds := by
  w_on; o_law; k_head; (case hw => w_witness2)
  k_fill
  refine GL.walkG (l := PySem.Challenge.rw_steadymixes_k00_errors_keep_their_value) (n := 63) (k := 7) (x := "script") (sp := K00.spLaw)
    rfl (by decide) rfl ⟨rfl, by decide, by decide⟩ (by decide +kernel) (fun w h Y => PySem.W.kIn_of Y) ?F
    (fun K H a ns hl _ hS => ⟨a, ns, rfl, hS, hl, fun _ => rfl⟩)
  case F =>
    intro w mg fa h KX G hmg
    refine' K00.all_mk KX G hmg ?FO ?FD ?FP ?FV ?F1 ?F2 ?F3 ?FM ?FK ?FE ?FC ?FL ?FI ?S ?ft ?gg ?gt ?vV ?z_int ?z_len ?z_sum ?z_max ?z_abs ?z_min ?z_range ?z_tuple ?z_dict ?z_enumerate ?z_str ?z_isinstance ?z_repr ?z_ValueError
    (case FO => (refine' K00.def_mk ?a_O ?l_O ?c_O ?k_O; (case a_O => k_is); (case l_O => k_is); (case c_O => k_is); (case k_O => k_is)))
    (case FD => (refine' K00.def_mk ?a_D ?l_D ?c_D ?k_D; (case a_D => k_is); (case l_D => k_is); (case c_D => k_is); (case k_D => k_is)))
    (case FP => (refine' K00.def_mk ?a_P ?l_P ?c_P ?k_P; (case a_P => k_is); (case l_P => k_is); (case c_P => k_is); (case k_P => k_is)))
    (case FV => (refine' K00.def_mk ?a_V ?l_V ?c_V ?k_V; (case a_V => k_is); (case l_V => k_is); (case c_V => k_is); (case k_V => k_is)))
    (case F1 => (refine' K00.def_mk ?a_1 ?l_1 ?c_1 ?k_1; (case a_1 => k_is); (case l_1 => k_is); (case c_1 => k_is); (case k_1 => k_is)))
    (case F2 => (refine' K00.def_mk ?a_2 ?l_2 ?c_2 ?k_2; (case a_2 => k_is); (case l_2 => k_is); (case c_2 => k_is); (case k_2 => k_is)))
    (case F3 => (refine' K00.def_mk ?a_3 ?l_3 ?c_3 ?k_3; (case a_3 => k_is); (case l_3 => k_is); (case c_3 => k_is); (case k_3 => k_is)))
    (case FM => (refine' K00.def_mk ?a_M ?l_M ?c_M ?k_M; (case a_M => k_is); (case l_M => k_is); (case c_M => k_is); (case k_M => k_is)))
    (case FK => (refine' K00.def_mk ?a_K ?l_K ?c_K ?k_K; (case a_K => k_is); (case l_K => k_is); (case c_K => k_is); (case k_K => k_is)))
    (case FE => (refine' K00.def_mk ?a_E ?l_E ?c_E ?k_E; (case a_E => k_is); (case l_E => k_is); (case c_E => k_is); (case k_E => k_is)))
    (case FC => (refine' K00.def_mk ?a_C ?l_C ?c_C ?k_C; (case a_C => k_is); (case l_C => k_is); (case c_C => k_is); (case k_C => k_is)))
    (case FL => (refine' K00.def_mk ?a_L ?l_L ?c_L ?k_L; (case a_L => k_is); (case l_L => k_is); (case c_L => k_is); (case k_L => k_is)))
    case S =>
      refine' K00.clss_mk ?h0 ?h1 ?h2 ?h3 ?h4 ?h5 ?h6 ?h7 ?h8 ?h9 ?h10 ?h11 ?h12 ?h13 ?h14 ?h15 ?h16 ?nd
      (case h0 => (refine' K00.clsF_mk ?ns_0 ?obj_0 ?sa_0 ?ga_0 ?gt_0 ?nv_0 ?ini_0 ?cl_0 ?kp_0; (case ns_0 => k_is); (case obj_0 => k_is); (case sa_0 => k_is); (case ga_0 => k_is); (case gt_0 => k_is); (case nv_0 => k_is); (case ini_0 => k_is); (case cl_0 => k_is); (case kp_0 => k_is)))
      (case h1 => (refine' K00.clsF_mk ?ns_1 ?obj_1 ?sa_1 ?ga_1 ?gt_1 ?nv_1 ?ini_1 ?cl_1 ?kp_1; (case ns_1 => k_is); (case obj_1 => k_is); (case sa_1 => k_is); (case ga_1 => k_is); (case gt_1 => k_is); (case nv_1 => k_is); (case ini_1 => k_is); (case cl_1 => k_is); (case kp_1 => k_is)))
      (case h2 => (refine' K00.clsF_mk ?ns_2 ?obj_2 ?sa_2 ?ga_2 ?gt_2 ?nv_2 ?ini_2 ?cl_2 ?kp_2; (case ns_2 => k_is); (case obj_2 => k_is); (case sa_2 => k_is); (case ga_2 => k_is); (case gt_2 => k_is); (case nv_2 => k_is); (case ini_2 => k_is); (case cl_2 => k_is); (case kp_2 => k_is)))
      (case h3 => (refine' K00.clsF_mk ?ns_3 ?obj_3 ?sa_3 ?ga_3 ?gt_3 ?nv_3 ?ini_3 ?cl_3 ?kp_3; (case ns_3 => k_is); (case obj_3 => k_is); (case sa_3 => k_is); (case ga_3 => k_is); (case gt_3 => k_is); (case nv_3 => k_is); (case ini_3 => k_is); (case cl_3 => k_is); (case kp_3 => k_is)))
      (case h4 => (refine' K00.clsF_mk ?ns_4 ?obj_4 ?sa_4 ?ga_4 ?gt_4 ?nv_4 ?ini_4 ?cl_4 ?kp_4; (case ns_4 => k_is); (case obj_4 => k_is); (case sa_4 => k_is); (case ga_4 => k_is); (case gt_4 => k_is); (case nv_4 => k_is); (case ini_4 => k_is); (case cl_4 => k_is); (case kp_4 => k_is)))
      (case h5 => (refine' K00.clsF_mk ?ns_5 ?obj_5 ?sa_5 ?ga_5 ?gt_5 ?nv_5 ?ini_5 ?cl_5 ?kp_5; (case ns_5 => k_is); (case obj_5 => k_is); (case sa_5 => k_is); (case ga_5 => k_is); (case gt_5 => k_is); (case nv_5 => k_is); (case ini_5 => k_is); (case cl_5 => k_is); (case kp_5 => k_is)))
      (case h6 => (refine' K00.clsF_mk ?ns_6 ?obj_6 ?sa_6 ?ga_6 ?gt_6 ?nv_6 ?ini_6 ?cl_6 ?kp_6; (case ns_6 => k_is); (case obj_6 => k_is); (case sa_6 => k_is); (case ga_6 => k_is); (case gt_6 => k_is); (case nv_6 => k_is); (case ini_6 => k_is); (case cl_6 => k_is); (case kp_6 => k_is)))
      (case h7 => (refine' K00.clsF_mk ?ns_7 ?obj_7 ?sa_7 ?ga_7 ?gt_7 ?nv_7 ?ini_7 ?cl_7 ?kp_7; (case ns_7 => k_is); (case obj_7 => k_is); (case sa_7 => k_is); (case ga_7 => k_is); (case gt_7 => k_is); (case nv_7 => k_is); (case ini_7 => k_is); (case cl_7 => k_is); (case kp_7 => k_is)))
      (case h8 => (refine' K00.clsF_mk ?ns_8 ?obj_8 ?sa_8 ?ga_8 ?gt_8 ?nv_8 ?ini_8 ?cl_8 ?kp_8; (case ns_8 => k_is); (case obj_8 => k_is); (case sa_8 => k_is); (case ga_8 => k_is); (case gt_8 => k_is); (case nv_8 => k_is); (case ini_8 => k_is); (case cl_8 => k_is); (case kp_8 => k_is)))
      (case h9 => (refine' K00.clsF_mk ?ns_9 ?obj_9 ?sa_9 ?ga_9 ?gt_9 ?nv_9 ?ini_9 ?cl_9 ?kp_9; (case ns_9 => k_is); (case obj_9 => k_is); (case sa_9 => k_is); (case ga_9 => k_is); (case gt_9 => k_is); (case nv_9 => k_is); (case ini_9 => k_is); (case cl_9 => k_is); (case kp_9 => k_is)))
      (case h10 => (refine' K00.clsF_mk ?ns_10 ?obj_10 ?sa_10 ?ga_10 ?gt_10 ?nv_10 ?ini_10 ?cl_10 ?kp_10; (case ns_10 => k_is); (case obj_10 => k_is); (case sa_10 => k_is); (case ga_10 => k_is); (case gt_10 => k_is); (case nv_10 => k_is); (case ini_10 => k_is); (case cl_10 => k_is); (case kp_10 => k_is)))
      (case h11 => (refine' K00.clsF_mk ?ns_11 ?obj_11 ?sa_11 ?ga_11 ?gt_11 ?nv_11 ?ini_11 ?cl_11 ?kp_11; (case ns_11 => k_is); (case obj_11 => k_is); (case sa_11 => k_is); (case ga_11 => k_is); (case gt_11 => k_is); (case nv_11 => k_is); (case ini_11 => k_is); (case cl_11 => k_is); (case kp_11 => k_is)))
      (case h12 => (refine' K00.clsF_mk ?ns_12 ?obj_12 ?sa_12 ?ga_12 ?gt_12 ?nv_12 ?ini_12 ?cl_12 ?kp_12; (case ns_12 => k_is); (case obj_12 => k_is); (case sa_12 => k_is); (case ga_12 => k_is); (case gt_12 => k_is); (case nv_12 => k_is); (case ini_12 => k_is); (case cl_12 => k_is); (case kp_12 => k_is)))
      (case h13 => (refine' K00.clsF_mk ?ns_13 ?obj_13 ?sa_13 ?ga_13 ?gt_13 ?nv_13 ?ini_13 ?cl_13 ?kp_13; (case ns_13 => k_is); (case obj_13 => k_is); (case sa_13 => k_is); (case ga_13 => k_is); (case gt_13 => k_is); (case nv_13 => k_is); (case ini_13 => k_is); (case cl_13 => k_is); (case kp_13 => k_is)))
      (case h14 => (refine' K00.clsF_mk ?ns_14 ?obj_14 ?sa_14 ?ga_14 ?gt_14 ?nv_14 ?ini_14 ?cl_14 ?kp_14; (case ns_14 => k_is); (case obj_14 => k_is); (case sa_14 => k_is); (case ga_14 => k_is); (case gt_14 => k_is); (case nv_14 => k_is); (case ini_14 => k_is); (case cl_14 => k_is); (case kp_14 => k_is)))
      (case h15 => (refine' K00.clsF_mk ?ns_15 ?obj_15 ?sa_15 ?ga_15 ?gt_15 ?nv_15 ?ini_15 ?cl_15 ?kp_15; (case ns_15 => k_is); (case obj_15 => k_is); (case sa_15 => k_is); (case ga_15 => k_is); (case gt_15 => k_is); (case nv_15 => k_is); (case ini_15 => k_is); (case cl_15 => k_is); (case kp_15 => k_is)))
      (case h16 => (refine' K00.clsF_mk ?ns_16 ?obj_16 ?sa_16 ?ga_16 ?gt_16 ?nv_16 ?ini_16 ?cl_16 ?kp_16; (case ns_16 => k_is); (case obj_16 => k_is); (case sa_16 => k_is); (case ga_16 => k_is); (case gt_16 => k_is); (case nv_16 => k_is); (case ini_16 => k_is); (case cl_16 => k_is); (case kp_16 => k_is)))
      (case nd => decide)
    (case FI => (refine' L2.fun_mk ?l ?c ?k; (case l => k_is); (case c => k_is); (case k => k_is)))
    (case ft => k_is); (case gg => k_is); (case gt => k_is); (case vV => k_is)
    (case z_int => k_is)
    (case z_len => k_is)
    (case z_sum => k_is)
    (case z_max => k_is)
    (case z_abs => k_is)
    (case z_min => k_is)
    (case z_range => k_is)
    (case z_tuple => k_is)
    (case z_dict => k_is)
    (case z_enumerate => k_is)
    (case z_str => k_is)
    (case z_isinstance => k_is)
    (case z_repr => k_is)
    (case z_ValueError => k_is)


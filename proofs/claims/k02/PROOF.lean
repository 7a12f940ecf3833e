import PyProof.Rows.All
import Wide.All
import OpenK.AllK
import Wide.FinOn
import HandS.ForMost
import HandS.StrMore
import HandS.Wide
import HandS.IsInst
import HandS.Codes
import HandS.Conv
import HandS.Style
import HandS.Ends
import HandS.NoneIn
import PySem.Challenge.RW_leastmakers_k02_least_tables
set_option Elab.async false
set_option linter.all false
set_option maxRecDepth 100000
set_option maxHeartbeats 8000000
/-! repr of whole data, and promises of defs that call it -/
namespace G1
open PySem PySem.Spec PyProof.Rows L2

/-- a promise of a def where no repr is under way around the call -/
structure FnG (P : Program) (w : World) (K : PySem.W.Frag) (mg : Str → Option Value) (base : Heap) (k : Nat) (f : Addr) (fd : FuncData) (ps : List Str) (sp : Sp) : Prop where
  cnt : ∀ vs H Q E, sp vs H Q E → vs.length = ps.length
  go : ∀ (A : Around) (ou : List Env) (s : Shared) (H : Hp) (ar : Args) (us : List Value) (vs : List V) (Q : VK) (E : XK), A.guards = some [] → Room k A →
    Env0 P w K mg base A ou s H → BindsTo s fd ar (ps.zip us) → Vals vs us → sp vs H Q E →
    codeAny (model P w) A (.call (.ref f) ar) (CR CX0 ou P w H s Q E) s

theorem FnG.of {P : Program} {w : World} {K : PySem.W.Frag} {mg : Str → Option Value} {base : Heap} {k : Nat} {f : Addr} {fd : FuncData} {ps : List Str} {sp : Sp}
    (F : FnOk P w K mg base CX0 k f fd ps sp) : FnG P w K mg base k f fd ps sp :=
  ⟨F.len, fun A ou s H ar us vs Q E _ hr he hb hv hs => F.run A ou s H ar us vs Q E hr he hb hv hs⟩

section
variable {P : Program} {w : World} {K : PySem.W.Frag} {mg : Str → Option Value} {base : Heap}
theorem fnG_of {x qual : Str} {st : Stmt} {f : Addr} {fd : FuncData} {N ps : List Str} {k : Nat} {sp : Sp} (F : Fun K x qual st f fd) (S : FnScope N ps (defScope st))
    (cnt : ∀ vs H Q E, sp vs H Q E → vs.length = ps.length)
    (body : ∀ (cdv : Value) (A : Around) (ou : List Env) (s : Shared) (H : Hp) (vs : List V) (Q : VK) (E : XK), A.guards = some [] →
      Room k (A.deeper (envOfC qual (defScope st) s.heap.objs.size f cdv)) → sp vs H Q E →
      ∃ t, PSs (cxOf CX0 P w K mg base N qual (defScope st) f cdv A ou s H E).nox (defBody st) t ∧
        t { nx := fun _ H' => Q .non H', rt := Q } (start N vs) H) :
    FnG P w K mg base (k + 1) f fd ps sp := by
  obtain ⟨oc, od, kV, doc, pm, an, cdv, ct, osl, rfl, lk, hcd⟩ := F.ex
  refine ⟨cnt, fun A ou s H ar us vs Q E hgd hr e0 hb rv hsp => ?_⟩
  have inK : K.In s.heap := e0.mod.kin.keeps fun b o e => (e0.bs b o e).1
  have hlim : s.heap.NoLimit := e0.mod.nolimit.keeps fun b o e => (e0.bs b o e).1
  have kinds : ∀ y ∈ ps.zip us, (defScope st).names.lookup y.1 = some .local ∨
      ((defScope st).names.lookup y.1 = some .cell ∧ ((cellsFrom (s.heap.objs.size + 1) (defScope st).names []).lookup y.1).isSome = true) := by
    intro y hy
    cases S.par y.1 (List.of_mem_zip hy).1 with
    | inl q => exact Or.inl q
    | inr q => exact Or.inr ⟨q, PySem.W.cellsFrom_some _ _ _ (Or.inl q)⟩
  refine codeAny_call_function hr.depth (inK _ _ lk) rfl S.co S.gen rfl (PySem.W.codeRec_of inK hcd) (hb _ _ _ _ ?_)
  refine wpAny_newFunctionEnv_cells S.kind kinds fun env he s1 x => ?_
  subst he
  refine And.intro (hlim.keeps x.toInCall.keep) (codeAny_func ?_)
  obtain ⟨t, ht0, hq⟩ := body cdv A ou s H vs Q E hgd (hr.deeper _) hsp
  have ht := ht0.nox
  have J0 := inv_start (CX := CX0) S hr.hd e0 (cnt _ _ _ _ hsp) rv x (E := E)
  refine wpAny_mono (ht.run [] s1 (start N vs) H _ J0 hq) ?_ (fun e s' hs => hs)
  intro fl s' hs
  cases fl with
  | ret u =>
    obtain ⟨v, σ', H', J, r1, q⟩ := hs
    exact ⟨v, H', J.os, J.bare, J.base, J.hok, r1, q⟩
  | next =>
    obtain ⟨σ', H', J, q⟩ := hs
    exact ⟨V.non, H', J.os, J.bare, J.base, J.hok, rfl, q⟩
  | brk => exact hs.choose_spec.choose_spec.2.elim
  | cont => exact hs.choose_spec.choose_spec.2.elim
end

section
variable {X : Cx} {k : Nat} {f : Addr} {fd : FuncData} {ps ks : List Str} {sp : Sp} {dvs : List V} {ds : List Value} {E : XK} {x : Str} {p pos : Pos} {e : Expr} {es : List Expr} {t : TA}
/-- f(e, ..) of such a def -/
theorem pe_callGd (F : FnG X.prog X.w X.K X.mg X.base k f fd ps sp) (hgd : X.A.guards = some []) (hr : Room k X.A) (hg : Gl X x) (hm : X.mg x = some (.ref f)) (hk : PySem.W.keepIn X.K (.ref f) = true)
    (hb : Binds X.K fd ps []) (ha : PA X (e :: es) t) (hdb : (x == ("__debug__" : Str)) = false := by decide)
    (he : starEach (e :: es) X.env = (false, eval e X.env) :: starEach es X.env := by rfl) (hpl : (backTo pos (starEach es X.env)).any (·.1) = false := by rfl) :
    PE X (.Call (.Name x p) (e :: es) [] pos) (fun σ H Q => t σ H fun vs H1 => sp vs H1 Q E) := by
  refine ⟨fun pins s σ H Q I h => wpAny_Call_Name_kw (ld_glob I hg hm ?_ hdb)⟩
  refine PySem.W.callWith_K (h₀ := X.base) I.ok.mod.kin hk (thn (ha.run pos pins s σ H _ I h) ?_) he hpl
  intro us s1 hus
  obtain ⟨vs, H1, I1, r, q⟩ := hus
  refine ⟨I1.kIn, ?_⟩
  have hl : (us ++ []).length = ps.length := by rw [List.append_nil, ← r.length]; exact F.cnt _ _ _ _ q
  have hbt := hb s1 us I1.kIn hl
  rw [List.append_nil] at hbt
  refine wpAny_call (codeAny_mono (F.go X.A X.stack s1 H1 ⟨us, []⟩ us vs Q E hgd hr I1.env0 hbt r q) ?_)
  intro rr s' hq
  cases rr with
  | error ev => exact hq.elim
  | ok fl =>
    cases fl with
    | ret u => exact I1.after hq
    | next => exact hq.elim
    | brk => exact hq.elim
    | cont => exact hq.elim

/-- repr of a list or a tuple of plain data -/
def rRepr (K : PySem.W.Frag) : List V → Hp → VK → Prop := fun xs H Q => ∃ (a : Addr) (d : PyData), xs = [.ref a] ∧ Dp K H (.ref a) d ∧ d.showable = true ∧ d.hasDict = false ∧ d.depth ≤ 60 ∧
  d.shown.length ≤ sizeLine ∧ Q (.str d.shown) H
theorem call_reprD (hgd : X.A.guards = some []) (hu : X.A.units + 64 < cLine) : CallR X (.builtin "repr") (rRepr X.K) := by
  intro pins s σ H xs us Q I r h
  obtain ⟨a, d, rfl, hd, hs, hnd, hdp, hz, q⟩ := h
  obtain ⟨u, rfl, ru⟩ := vals1 r
  obtain rfl : u = Value.ref a := ru
  obtain ⟨as, r1⟩ := Dp.reads I d (.ref a) (.ref a) hd rfl
  refine repr_of_reads' r1 hs (fun z => by rw [hnd] at z; cases z) hgd (by omega) (fun _ _ e => e) (fun h' tu tk hk => ?_) hz
  refine ⟨.str d.shown, H, ?_, ⟨tu, rfl⟩, q⟩
  exact I.kept (t' := tk) hk
/-- x * n of a text -/
def rMulS : R2 := fun x y H Q => ∃ (z : Str) (n : Int), x = .str z ∧ y = .int n ∧ 0 ≤ n ∧ n < 2 ^ 30 ∧ z.length * n.toNat ≤ 1000000 ∧ Q (.str (Txt.mul z n)) H
end
end G1
/-! the end of a row whose law calls repr -/
namespace G1
open PySem PySem.Spec PyProof.Rows L2

theorem enterG {P : Program} {w : World} {K : PySem.W.Frag} {mg mb : Str → Option Value} {k : Nat} {fa a : Addr} {fd : FuncData} {x : Str} {sp : Sp} {s₁ : Shared} {vs : List Value} {ns : List Int}
    (inK : K.In s₁.heap) (hns : s₁.heap.Ns mainGlobals mg) (hbn : s₁.heap.Ns builtinsNs mb) (hbb : ∀ x : Str, x ≠ "__name__" → mb x = bootBuiltins x) (hlim : s₁.heap.NoLimit) (hg0 : s₁.gens = #[])
    (ha : s₁.heap.get? a = some { cls := .type "list", data := .seq vs.toArray }) (hi : IntsAre vs ns) (hl : ns.length ≤ sizeLine) (hr : Room k callerA)
    (F : ∀ base : Heap, K.In base → base.Ns mainGlobals mg → FnG P w K mg base k fa fd [x] sp)
    (hbind : ∀ (s : Shared) (u : Value), BindsTo s fd ⟨[u], []⟩ [(x, u)])
    (hsp : ∀ H : Hp, Only H → SqL K H a (ns.map V.int) → sp [.ref a] H (fun v _ => v = .bl true) fun _ _ _ => False) :
    codeAny (model P w) callerA (.call (.ref fa) ⟨[.ref a], []⟩)
      (fun r s' => r = .ok (.ret (.bool true)) ∧ OldK s₁.heap s'.heap ∧ s'.os = s₁.os ∧ AllBare s'.gens) s₁ := by
  have rv := vals_ints hi
  have lv := hi.length
  suffices core : ∀ H : Hp, Only H → SqL K H a (ns.map V.int) → HOk P w H s₁.heap → (∀ b, H b ≠ none → b = a ∧ K.lookup a = none) →
      codeAny (model P w) callerA (.call (.ref fa) ⟨[.ref a], []⟩)
        (fun r s' => r = .ok (.ret (.bool true)) ∧ OldK s₁.heap s'.heap ∧ s'.os = s₁.os ∧ AllBare s'.gens) s₁ by
    by_cases hk : K.lookup a = none
    · refine core (fun b => if b = a then some (.frz { cls := .type "list", data := .seq vs.toArray } (.lst (ns.map V.int))) else none) ?_ (Or.inl (Or.inr ⟨_, if_pos rfl⟩)) ?_ ?_
      · intro b
        by_cases hb : b = a
        · exact Or.inr ⟨_, _, if_pos hb⟩
        · exact Or.inl (if_neg hb)
      · intro b u z
        dsimp only at z
        by_cases hb : b = a
        · rw [if_pos hb] at z
          cases z
          subst hb
          exact ⟨ha, by rw [List.length_map]; exact hl, vs, _, rv, ha⟩
        · rw [if_neg hb] at z
          cases z
      · intro b z
        by_cases hb : b = a
        · exact ⟨hb, hk⟩
        · exact absurd (if_neg hb) z
    · obtain ⟨o, ho⟩ := Option.ne_none_iff_exists'.mp hk
      have e := inK a o ho
      rw [ha] at e
      cases e
      exact core (fun _ => none) (fun _ => Or.inl rfl) (Or.inr ⟨_, vs.toArray, _, ho, rfl, rfl, rfl, by rw [List.size_toArray, lv]; exact hl, by simpa using rv⟩)
        (fun b u z => by cases z) (fun b z => absurd rfl z)
  intro H hO hS hok hA
  have untr : ∀ {b : Addr} {o : Obj} {es : Array DictEntry} {ep : Nat}, s₁.heap.get? b = some o → o.data = .dict es ep → H b = none := by
    intro b o es ep e d
    by_cases q : H b = none
    · exact q
    · obtain ⟨rfl, _⟩ := hA b q
      rw [ha] at e
      cases e
      exact nomatch d
  have tohid : ∀ {b : Addr} {m : Str → Option Value}, s₁.heap.Ns b m → (hidT s₁.heap H).Ns b m := by
    rintro b m ⟨o, es, ep, e, d, r⟩
    exact ⟨o, es, ep, hidT_get e (untr e d), d, r⟩
  have hKb : K.In (hidT s₁.heap H) := by
    intro b o e
    refine hidT_get (inK b o e) ?_
    by_cases q : H b = none
    · exact q
    · obtain ⟨rfl, z⟩ := hA b q
      rw [z] at e
      cases e
  obtain ⟨mc, l1, l2⟩ := hlim
  have hM : Mod K mg (hidT s₁.heap H) := ⟨hKb, tohid hns, ⟨mb, tohid hbn, hbb⟩, ⟨mc, tohid l1, l2⟩⟩
  have e0 : Env0 P w K mg (hidT s₁.heap H) callerA [] s₁ H :=
    ⟨rfl, hM, fun b o e => of_hidT e, Nat.le_of_eq (hidT_size _ _), trivial, fun b hb => (List.not_mem_nil hb).elim, hok, .of_eq hg0⟩
  refine codeAny_mono ((F _ hKb (tohid hns)).go callerA [] s₁ H ⟨[.ref a], []⟩ [.ref a] [.ref a] _ _ rfl hr e0 (hbind s₁ (.ref a)) (.cons rfl .nil) (hsp H hO hS)) ?_
  intro r s' h
  cases r with
  | error e => exact h.elim
  | ok fl =>
    cases fl with
    | next => exact h.elim
    | brk => exact h.elim
    | cont => exact h.elim
    | ret u =>
      obtain ⟨v, H', os, bare, un, hok', r', q⟩ := h
      subst q
      obtain rfl : u = Value.bool true := r'
      refine ⟨rfl, OldK.of_keep (fun b o e => ?_), os, bare⟩
      rcases hO b with z | ⟨ob, xs, z⟩
      · exact un.keep b o e z (fun y => (List.not_mem_nil y).elim) List.not_mem_nil
      · obtain ⟨e1, _⟩ := hok b _ z
        obtain ⟨e2, _⟩ := hok' b _ (un.frzs b ob _ z)
        rw [e] at e1
        cases e1
        exact e2

theorem walkG {l : PySem.W.OpenLaw} {n k : Nat} {q : Program} {loose : List Str} {XP : (Str → Option Value) → Heap → Prop} {YP : World → Heap → Prop} {d : DefRec} {K : Params → PySem.W.Frag} {sp : PySem.W.Frag → Sp} {x : Str}
    (hn : l.most = some n) (hn2 : n ≤ sizeLine) (hdf : d.params.defaults = []) (hr : Room k callerA)
    (hY : ∀ (w : World) (h : Heap), YP w h → (K w.params).In h)
    (F : ∀ (w : World) (mg : Str → Option Value) (fa : Addr) (h : Heap), (K w.params).In h → h.Ns mainGlobals mg → mg d.name = some (.ref fa) →
      ∃ fd : FuncData, (∀ (s : Shared) (u : Value), BindsTo s fd ⟨[u], []⟩ [(x, u)]) ∧
        ∀ base : Heap, (K w.params).In base → base.Ns mainGlobals mg → FnG l.prog w (K w.params) mg base k fa fd [x] (sp (K w.params)))
    (hsp : ∀ (K : PySem.W.Frag) (H : Hp) (a : Addr) (ns : List Int), ns.length ≤ n → Only H → SqL K H a (ns.map V.int) → sp K [.ref a] H (fun v _ => v = .bl true) fun _ _ _ => False) :
    PySem.W.WalkO q loose XP YP l.row.toRowW d [] (fun f vs => PySem.call f vs) := by
  refine Att.attach_call hn hdf ?_
  intro w s₀ s₁ mg mb fa o pm cd doc a vs ns G Y ho hd hcd hmg hobj hints hlen hg0
  have inK := hY w _ Y
  obtain ⟨fd, hb, hF⟩ := F w mg fa _ inK G.T.g hmg
  exact enterG inK G.T.g G.T.b G.T.builtins G.T.nolimit hg0 hobj hints (Nat.le_trans hlen hn2) hr hF hb (fun H hO hS => hsp _ H a ns hlen hO hS)
end G1
/-! texts of the signs 0 and 1, as lists of bools -/
namespace G1
open PySem PySem.Spec PyProof.Rows L2

def cB (b : Bool) : Nat := if b then 49 else 48
def B (l : List Bool) : Str := SX.S (l.map cB)
theorem cB_inj {a b : Bool} (h : cB a = cB b) : a = b := by
  cases a <;> cases b <;> first | rfl | (exact absurd h (by decide))
theorem map_cB_inj : ∀ {l m : List Bool}, l.map cB = m.map cB → l = m
  | [], [], _ => rfl
  | [], _ :: _, h => by cases h
  | _ :: _, [], h => by cases h
  | a :: l, b :: m, h => by
    rw [List.map_cons, List.map_cons] at h
    injection h with h1 h2
    rw [cB_inj h1, map_cB_inj h2]
theorem B_inj {l m : List Bool} (h : B l = B m) : l = m := map_cB_inj (SX.S_inj h)
theorem B_dec (l m : List Bool) : decide (V.str (B l) = V.str (B m)) = decide (l = m) := by
  by_cases h : l = m
  · rw [h, decide_eq_true rfl, decide_eq_true rfl]
  · rw [decide_eq_false h, decide_eq_false fun e => h (B_inj (V.str.inj e))]
theorem B_len (l : List Bool) : (B l).length = l.length := by
  unfold B
  rw [SX.S_len, List.length_map]
theorem B_cps (l : List Bool) : (B l).cps.toList = l.map cB := rfl
theorem B_app (l m : List Bool) : B l ++ B m = B (l ++ m) := by
  unfold B
  rw [SX.S_cat, List.map_append]
theorem B_nil : ("" : Str) = B [] := by decide +kernel
theorem B_0 : ("0" : Str) = B [false] := by decide +kernel
theorem B_1 : ("1" : Str) = B [true] := by decide +kernel
theorem B_one (b : Bool) : (⟨#[cB b]⟩ : Str) = B [b] := by cases b <;> decide +kernel
theorem B_str0 : (Str.ofString (toString (0 : Int))) = B [false] := by decide +kernel
theorem B_str1 : (Str.ofString (toString (1 : Int))) = B [true] := by decide +kernel
theorem B_str (i : Int) (h0 : 0 ≤ i) (h2 : i < 2) : (Str.ofString (toString i)) = B [decide (i = 1)] := by
  have h : i = 0 ∨ i = 1 := by omega
  rcases h with rfl | rfl
  · exact B_str0
  · exact B_str1

/-! ### slices -/
theorem B_cut (l : List Bool) (lo hi : Option Int) : cutS (B l) lo hi = B ((l.drop (HT.sIx l.length 0 lo)).take (HT.sIx l.length l.length hi - HT.sIx l.length 0 lo)) := by
  unfold cutS B
  rw [SX.S_len, List.length_map, ← List.map_drop, ← List.map_take]
theorem sIx_of (n d : Nat) {i : Int} (h : 0 ≤ i) : HT.sIx n d (some i) = min i.toNat n := by
  show (if i < 0 then (i + (n : Int)).toNat else min i.toNat n) = _
  rw [if_neg (by omega)]
theorem B_to (l : List Bool) {j : Int} (h : 0 ≤ j) : cutS (B l) none (some j) = B (l.take j.toNat) := by
  rw [B_cut, sIx_of _ _ h]
  show B ((l.drop 0).take (min j.toNat l.length - 0)) = _
  rw [List.drop_zero, Nat.sub_zero, ← List.take_eq_take_min]
theorem B_from (l : List Bool) {i : Int} (h : 0 ≤ i) : cutS (B l) (some i) none = B (l.drop i.toNat) := by
  rw [B_cut, sIx_of _ _ h]
  show B ((l.drop (min i.toNat l.length)).take (l.length - min i.toNat l.length)) = _
  rw [List.take_of_length_le (by rw [List.length_drop]; omega)]
  by_cases hi : i.toNat ≤ l.length
  · rw [Nat.min_eq_left hi]
  · rw [Nat.min_eq_right (by omega), List.drop_length, List.drop_of_length_le (by omega)]
theorem B_mid (l : List Bool) {i j : Int} (h : 0 ≤ i) (hj : 0 ≤ j) : cutS (B l) (some i) (some j) = B ((l.take j.toNat).drop i.toNat) := by
  rw [B_cut, sIx_of _ _ h, sIx_of _ _ hj]
  congr 1
  apply List.ext_getElem?
  intro k
  rw [List.getElem?_take, List.getElem?_drop, List.getElem?_drop, List.getElem?_take]
  by_cases hi : i.toNat ≤ l.length
  · rw [Nat.min_eq_left hi]
    by_cases hj2 : j.toNat ≤ l.length
    · rw [Nat.min_eq_left hj2]
      by_cases h3 : k < j.toNat - i.toNat
      · rw [if_pos h3, if_pos (by omega)]
      · rw [if_neg h3, if_neg (by omega)]
    · rw [Nat.min_eq_right (by omega)]
      by_cases h3 : k < l.length - i.toNat
      · rw [if_pos h3, if_pos (by omega)]
      · rw [if_neg h3]
        split
        · exact (List.getElem?_eq_none (by omega)).symm
        · rfl
  · have hm : min i.toNat l.length = l.length := Nat.min_eq_right (Nat.le_of_lt (Nat.lt_of_not_le hi))
    rw [hm, List.getElem?_eq_none (by omega), List.getElem?_eq_none (by omega)]
    split <;> split <;> rfl

/-! ### signs -/
theorem B_at (l : List Bool) {i : Int} {k : Nat} {b : Bool} (hi : i = (k : Int)) (h : l[k]? = some b) : atI (B l).cps.toList i = some (cB b) := by
  subst hi
  refine atI_nat ?_
  rw [B_cps, List.getElem?_map, h]
  rfl
theorem B_atNeg (l : List Bool) {i : Int} {k : Nat} {b : Bool} (hi : i = -1 - (k : Int)) (hk : k < l.length) (h : l[l.length - 1 - k]? = some b) : atI (B l).cps.toList i = some (cB b) := by
  unfold atI ixN
  have e1 : (B l).cps.toList.length = l.length := by rw [B_cps, List.length_map]
  rw [e1, if_neg (by omega), if_pos (by omega)]
  show (B l).cps.toList[(i + (l.length : Int)).toNat]? = _
  rw [show (i + (l.length : Int)).toNat = l.length - 1 - k by omega, B_cps, List.getElem?_map, h]
  rfl

/-! ### many times -/
def rep (n : Nat) (l : List Bool) : List Bool := (List.replicate n l).flatten
theorem rep_zero (l : List Bool) : rep 0 l = [] := rfl
theorem rep_succ (n : Nat) (l : List Bool) : rep (n + 1) l = l ++ rep n l := by
  unfold rep
  rw [List.replicate_succ, List.flatten_cons]
theorem rep_length (n : Nat) (l : List Bool) : (rep n l).length = n * l.length := by
  induction n with
  | zero => rw [rep_zero, Nat.zero_mul]; rfl
  | succ n ih => rw [rep_succ, List.length_append, ih, Nat.succ_mul, Nat.add_comm]
theorem rep_get (n : Nat) (l : List Bool) (i : Nat) (h : i < n * l.length) : (rep n l)[i]? = l[i % l.length]? := by
  induction n generalizing i with
  | zero => rw [Nat.zero_mul] at h; omega
  | succ n ih =>
    rw [rep_succ]
    by_cases hi : i < l.length
    · rw [List.getElem?_append_left hi, Nat.mod_eq_of_lt hi]
    · have h1 : l.length ≤ i := by omega
      rw [List.getElem?_append_right h1, ih (i - l.length) (by rw [Nat.succ_mul] at h; omega), ← Nat.mod_eq_sub_mod h1]
theorem foldl_app (c : Array Nat) : ∀ (n : Nat) (acc : Array Nat), ((List.replicate n c).foldl (· ++ ·) acc).toList = acc.toList ++ (List.replicate n c.toList).flatten
  | 0, acc => by simp
  | n + 1, acc => by
    rw [List.replicate_succ, List.foldl_cons, foldl_app c n, List.replicate_succ, List.flatten_cons, Array.toList_append, List.append_assoc]
theorem map_rep (n : Nat) (l : List Bool) : (rep n l).map cB = (List.replicate n (l.map cB)).flatten := by
  induction n with
  | zero => rfl
  | succ n ih => rw [rep_succ, List.map_append, ih, List.replicate_succ, List.flatten_cons]
theorem B_mul (l : List Bool) {n : Int} (h : 0 ≤ n) : Txt.mul (B l) n = B (rep n.toNat l) := by
  unfold Txt.mul
  by_cases h1 : n < 1
  · rw [if_pos h1, show n.toNat = 0 by omega, rep_zero]
    rfl
  · rw [if_neg h1]
    by_cases h2 : (n == 1 || (B l).length == 0) = true
    · rw [if_pos h2]
      rw [Bool.or_eq_true, beq_iff_eq, beq_iff_eq, B_len] at h2
      rcases h2 with h2 | h2
      · subst h2
        show B l = B (rep 1 l)
        rw [rep_succ, rep_zero, List.append_nil]
      · rw [List.length_eq_zero_iff] at h2
        subst h2
        congr 1
        have := rep_length n.toNat []
        rw [List.length_nil, Nat.mul_zero, List.length_eq_zero_iff] at this
        exact this.symm
    · rw [if_neg h2]
      unfold B
      rw [map_rep]
      refine TL.ext_tl ?_
      show (List.foldl (· ++ ·) #[] (List.replicate n.toNat (SX.S (l.map cB)).cps)).toList = _
      rw [foldl_app]
      simp [TL.tl]

/-! ### joined -/
theorem join_nil (ls : List (List Bool)) : Txt.join (B []) (ls.map B) = B ls.flatten := by
  have e : ls.map B = (ls.map (List.map cB)).map SX.S := by rw [List.map_map]; rfl
  rw [e]
  show Txt.join (SX.S []) _ = _
  rw [SX.join_S]
  unfold B
  congr 1
  have key : ∀ ms : List (List Nat), TL.joinL [] ms = ms.flatten := by
    intro ms
    induction ms with
    | nil => rfl
    | cons m ms ih =>
      cases ms with
      | nil => simp [TL.joinL]
      | cons k ks =>
        rw [List.flatten_cons, ← ih]
        simp [TL.joinL]
  rw [key, ← List.map_flatten]
end G1
namespace G1
open PySem PySem.Spec PyProof.Rows L2
section
variable {X : Cx}
theorem tooLong_no {n : Nat} (h : n ≤ 1000000) : Builtin.Str.tooLong n = false := by
  unfold Builtin.Str.tooLong
  rw [decide_eq_false_iff_not]
  exact Nat.not_lt.mpr (Nat.le_trans h (by decide))
theorem op_mulS : OpR X (binaryOp .Mult) rMulS := by
  intro pins s σ H x y v u Q I rx ry h
  obtain ⟨z, n, rfl, rfl, h0, h1, h2, q⟩ := h
  obtain ⟨t, rfl⟩ := rx
  obtain ⟨t2, rfl⟩ := ry
  have hb : z.length = 0 ∨ n.toNat = 0 ∨ (z.length ≤ 1000000) := by
    rcases Nat.eq_zero_or_pos z.length with e | e
    · exact .inl e
    · rcases Nat.eq_zero_or_pos n.toNat with e2 | e2
      · exact .inr (.inl e2)
      · refine .inr (.inr (Nat.le_trans ?_ h2))
        exact Nat.le_mul_of_pos_right _ e2
  refine PySem.SB.mul ⟨?_, fun a b c => ?_, fun a b => tooLong_no h2⟩ fun t' k => ⟨.str (Txt.mul z n), H, I.tok _, ⟨_, rfl⟩, q⟩
  · rw [Bool.or_eq_false_iff]
    exact ⟨decide_eq_false (by omega), decide_eq_false (by omega)⟩
  · rw [Bool.or_eq_false_iff] at b
    have hz : z.length ≠ 0 := by
      have := b.2
      simpa using this
    have hz2 : (z.length : Int) ≤ 1000000 := by omega
    have h3 : (2 ^ 63 - 1 : Int) / n ≥ 1000000 := by
      apply Int.le_ediv_of_mul_le (by omega)
      omega
    omega
end
theorem szM {n : Nat} (h : n ≤ 1000000) : n ≤ sizeLine := Nat.le_trans h (by decide)
end G1
namespace G1
open PySem PySem.Spec PyProof.Rows L2
theorem B_last (l : List Bool) : cutS (B l) (some (-1)) none = B (l.drop (l.length - 1)) := by
  rw [B_cut]
  have e : HT.sIx l.length 0 (some (-1)) = l.length - 1 := by
    show (if (-1 : Int) < 0 then (-1 + (l.length : Int)).toNat else min (-1 : Int).toNat l.length) = _
    rw [if_pos (by decide)]
    omega
  rw [e]
  show B ((l.drop (l.length - 1)).take (l.length - (l.length - 1))) = _
  rw [List.take_of_length_le (by rw [List.length_drop]; omega)]
theorem B_init (l : List Bool) : cutS (B l) none (some (-1)) = B (l.take (l.length - 1)) := by
  rw [B_cut]
  have e : HT.sIx l.length l.length (some (-1)) = l.length - 1 := by
    show (if (-1 : Int) < 0 then (-1 + (l.length : Int)).toNat else min (-1 : Int).toNat l.length) = _
    rw [if_pos (by decide)]
    omega
  rw [e]
  show B ((l.drop 0).take (l.length - 1 - 0)) = _
  rw [List.drop_zero, Nat.sub_zero]
end G1
/-! calls by keywords alone; repr of a truth -/
namespace G1
open PySem PySem.Spec PyProof.Rows L2
section
variable {X : Cx} {CX : CXT} {k : Nat} {f : Addr} {fd : FuncData} {ps ks : List Str} {sp : Sp} {E : XK} {x : Str} {p pos : Pos} {kws : List Keyword} {tk : TA}
variable {g : List Value → List Value → List Value} {gV : List V → List V → List V}
/-- f(k = v, ..) -/
theorem pe_callK0 (F : FnOk X.prog X.w X.K X.mg X.base CX k f fd ps sp) (hr : Room k X.A) (hg : Gl X x) (hm : X.mg x = some (.ref f)) (hk : PySem.W.keepIn X.K (.ref f) = true) (hb : KBinds X.K fd ps ks g gV) (hx : Passes CX X E)
    (hkw : PK X kws tk) (hall : (backToKw pos (keywordEach kws X.env)).all (·.1.isSome) = true := by rfl) (hks : (backToKw pos (keywordEach kws X.env)).filterMap (·.1) = ks := by rfl)
    (hdb : (x == ("__debug__" : Str)) = false := by decide)
    (hpl : ((backTo pos (starEach [] X.env)).any (·.1) || (backToKw pos (keywordEach kws X.env)).any (·.1.isNone)) = false := by rfl) :
    PE X (.Call (.Name x p) [] kws pos) (fun σ H Q => tk σ H fun zs H1 => sp (gV [] zs) H1 Q E) := by
  refine ⟨fun pins s σ H Q I h => wpAny_Call_Name_kw (ld_glob I hg hm ?_ hdb)⟩
  refine PySem.W.callWith_KW0 (h₀ := X.base) I.ok.mod.kin hk hall (thn (hkw.run pos pins s σ H _ I h) ?_) hpl
  intro ws s2 hws
  obtain ⟨zs, H2, I2, rz, q2⟩ := hws
  refine ⟨I2.kIn, ?_⟩
  rw [hks]
  exact run_fnk (us := []) (vs := []) F hr hb hx I2 .nil rz q2
end
/-- two keywords, the second parameter's first -/
def swapW {α : Type} : List α → List α → List α
  | [], a :: b :: _ => [b, a]
  | _, _ => []
theorem kbinds_swap {K : PySem.W.Frag} {fd : FuncData} {p0 p1 : Str}
    (h : ∀ a b : Value, bindArgs fd ⟨[], [(p1, a), (p0, b)]⟩ = pure [(p0, b), (p1, a)]) : KBinds K fd [p0, p1] [p1, p0] swapW swapW := by
  refine ⟨fun s us ws _ hl => ?_, fun {vs us zs ws} r1 r2 => ?_⟩
  · cases us with
    | cons u us => cases hl
    | nil =>
      cases ws with
      | nil => cases hl
      | cons a ws =>
        cases ws with
        | nil => cases hl
        | cons b ws => exact .of_eq (h a b)
  · cases r1 with
    | cons q t => exact .nil
    | nil =>
      cases r2 with
      | nil => exact .nil
      | cons q1 t1 =>
        cases t1 with
        | nil => exact .nil
        | cons q2 t2 => exact .cons q2 (.cons q1 .nil)
section
variable {X : Cx}
theorem call_reprB : CallR X (.builtin "repr") (fun xs H Q => ∃ b : Bool, xs = [.bl b] ∧ Q (.str (if b then "True" else "False")) H) := by
  intro pins s σ H xs us Q I r h
  obtain ⟨b, rfl, q⟩ := h
  obtain ⟨u, rfl, ru⟩ := vals1 r
  obtain rfl : u = Value.bool b := ru
  exact PySem.P.repr_of_bool ⟨.str _, H, I.tok _, ⟨_, rfl⟩, q⟩
end
end G1
namespace G1
open PySem PySem.Spec PyProof.Rows L2
/-- one keyword -/
def oneW {α : Type} : List α → List α → List α
  | [], a :: _ => [a]
  | _, _ => []
theorem kbinds_one {K : PySem.W.Frag} {fd : FuncData} {p0 : Str} (h : ∀ a : Value, bindArgs fd ⟨[], [(p0, a)]⟩ = pure [(p0, a)]) : KBinds K fd [p0] [p0] oneW oneW := by
  refine ⟨fun s us ws _ hl => ?_, fun {vs us zs ws} r1 r2 => ?_⟩
  · cases us with
    | cons u us => cases hl
    | nil =>
      cases ws with
      | nil => cases hl
      | cons a ws => exact .of_eq (h a)
  · cases r1 with
    | cons q t => exact .nil
    | nil =>
      cases r2 with
      | nil => exact .nil
      | cons q1 t1 => exact .cons q1 .nil
/-- a value by a word: what follows is shown once -/
theorem pe_cut {X : Cx} {e : Expr} {t : TE} (h : PE X e t) : PE X e (fun σ H Q => ∃ M : V → Hp → Prop, t σ H M ∧ ∀ v H', M v H' → Q v H') := by
  refine ⟨fun pins s σ H Q I hq => ?_⟩
  obtain ⟨M, h1, h2⟩ := hq
  refine thn (h.run pins s σ H M I h1) ?_
  intro u s1 hu
  obtain ⟨v, H1, I1, r1, q1⟩ := hu
  exact ⟨v, H1, I1, r1, h2 v H1 q1⟩
end G1
namespace G1
open PySem PySem.Spec PyProof.Rows L2
theorem cB_small (b : Bool) : cB b < 16 ^ 8 := by cases b <;> decide
theorem leaf_B (l : List Bool) : PyData.leavesShort 8 (.str (B l)) = true := by
  simp only [PyData.leavesShort, List.all_eq_true, decide_eq_true_eq]
  intro c hc
  rw [B_cps] at hc
  obtain ⟨b, _, rfl⟩ := List.mem_map.mp hc
  exact cB_small b
theorem w_B (l : List Bool) : PyData.weight (.str (B l)) = l.length := by
  simp only [PyData.weight]
  exact B_len l
/-- repr of one object, read as data that is not great -/
theorem go_repr {K : PySem.W.Frag} {H : Hp} {R : PyData → Prop} {a : Addr} (d : PyData) (hd : Dp K H (.ref a) d) (h1 : d.showable = true) (h2 : d.hasDict = false) (h3 : d.depth ≤ 60) (h4 : d.leavesShort 8 = true) (h5 : d.weight ≤ 2 ^ 20) (q : R d) :
    ∃ (a' : Addr) (d' : PyData), [V.ref a] = [V.ref a'] ∧ Dp K H (.ref a') d' ∧ d'.showable = true ∧ d'.hasDict = false ∧ d'.depth ≤ 60 ∧ d'.shown.length ≤ sizeLine ∧ R d' :=
  ⟨a, d, rfl, hd, h1, h2, h3, PyData.shown_fits (Nat.le_refl _) (by decide) h4 h5, q⟩
theorem str_refl (z : Str) : decide (V.str z = V.str z) = true := decide_eq_true rfl
end G1
namespace G1
open PySem PySem.Spec PyProof.Rows L2
/-- the data of a table, of lists of texts and of truths -/
def dTab (h t : List Bool) : PyData := .tuple [.str (B h), .str (B t)]
theorem dp_tab {K : PySem.W.Frag} {H : Hp} {p : Addr} {h t : List Bool} (e : H p = some (.tup [.str (B h), .str (B t)])) : Dp K H (.ref p) (dTab h t) :=
  .tup (.inl (.inl e)) (.cons (.str _) (.cons (.str _) .nil))
def dStrs (ls : List (List Bool)) : PyData := .list (ls.map fun l => .str (B l))
def dBools (bs : List Bool) : PyData := .list (bs.map PyData.bool)
theorem dpAll_strs {K : PySem.W.Frag} {H : Hp} : ∀ ls : List (List Bool), DpAll K H (ls.map fun l => V.str (B l)) (ls.map fun l => .str (B l))
  | [] => .nil
  | l :: ls => .cons (.str _) (dpAll_strs ls)
theorem dpAll_bools {K : PySem.W.Frag} {H : Hp} : ∀ bs : List Bool, DpAll K H (bs.map V.bl) (bs.map PyData.bool)
  | [] => .nil
  | b :: bs => .cons (.bl _) (dpAll_bools bs)
/-- repr of a table -/
theorem repr_tab {K : PySem.W.Frag} {H : Hp} {R : PyData → Prop} {a : Addr} {h t : List Bool} (e : H a = some (.tup [.str (B h), .str (B t)])) (h1 : h.length ≤ 5000) (t1 : t.length ≤ 5000) (q : R (dTab h t)) :
    ∃ (a' : Addr) (d' : PyData), [V.ref a] = [V.ref a'] ∧ Dp K H (.ref a') d' ∧ d'.showable = true ∧ d'.hasDict = false ∧ d'.depth ≤ 60 ∧ d'.shown.length ≤ sizeLine ∧ R d' := by
  refine go_repr (dTab h t) (dp_tab e) ?_ ?_ ?_ ?_ ?_ q
  · simp [dTab, PyData.showable, PyData.showableAll]
  · simp [dTab, PyData.hasDict, PyData.hasDictAll]
  · simp [dTab, PyData.depth, PyData.depthAll]
  · simp only [dTab, PyData.leavesShort, PyData.leavesShortAll, Bool.and_eq_true]
    exact ⟨leaf_B h, leaf_B t, trivial⟩
  · simp only [dTab, PyData.weight, PyData.weightAll]
    have e1 := w_B h
    have e2 := w_B t
    simp only [PyData.weight] at e1 e2
    omega
/-- repr of three texts -/
theorem repr_s3 {K : PySem.W.Frag} {H : Hp} {R : PyData → Prop} {a : Addr} {x y z : List Bool} (e : H a = some (.lst [.str (B x), .str (B y), .str (B z)])) (h1 : x.length ≤ 100000) (h2 : y.length ≤ 100000) (h3 : z.length ≤ 100000) (q : R (dStrs [x, y, z])) :
    ∃ (a' : Addr) (d' : PyData), [V.ref a] = [V.ref a'] ∧ Dp K H (.ref a') d' ∧ d'.showable = true ∧ d'.hasDict = false ∧ d'.depth ≤ 60 ∧ d'.shown.length ≤ sizeLine ∧ R d' := by
  refine go_repr (dStrs [x, y, z]) (.lst (.inl (.inl e)) (dpAll_strs [x, y, z])) ?_ ?_ ?_ ?_ ?_ q
  · simp [dStrs, PyData.showable, PyData.showableAll]
  · simp [dStrs, PyData.hasDict, PyData.hasDictAll]
  · simp [dStrs, PyData.depth, PyData.depthAll]
  · simp only [dStrs, List.map_cons, List.map_nil, PyData.leavesShort, PyData.leavesShortAll, Bool.and_eq_true]
    exact ⟨leaf_B x, leaf_B y, leaf_B z, trivial⟩
  · simp only [dStrs, List.map_cons, List.map_nil, PyData.weight, PyData.weightAll]
    have e1 := w_B x
    have e2 := w_B y
    have e3 := w_B z
    simp only [PyData.weight] at e1 e2 e3
    omega
theorem bools_ok : ∀ bs : List Bool, PyData.showableAll (bs.map PyData.bool) = true ∧ PyData.hasDictAll (bs.map PyData.bool) = false ∧ PyData.depthAll (bs.map PyData.bool) = 0 ∧ PyData.leavesShortAll 8 (bs.map PyData.bool) = true ∧ PyData.weightAll (bs.map PyData.bool) ≤ 2 * bs.length
  | [] => by simp [PyData.showableAll, PyData.hasDictAll, PyData.depthAll, PyData.leavesShortAll, PyData.weightAll]
  | b :: bs => by
    obtain ⟨h1, h2, h3, h4, h5⟩ := bools_ok bs
    simp [PyData.showableAll, PyData.hasDictAll, PyData.depthAll, PyData.leavesShortAll, PyData.weightAll, PyData.showable, PyData.hasDict, PyData.depth, PyData.leavesShort, PyData.weight, h1, h2, h3, h4]
    omega
/-- repr of truths -/
theorem repr_bs {K : PySem.W.Frag} {H : Hp} {R : PyData → Prop} {a : Addr} (bs : List Bool) {xs : List V} (e : H a = some (.lst xs)) (ex : xs = bs.map V.bl) (hl : bs.length ≤ 1000) (q : R (dBools bs)) :
    ∃ (a' : Addr) (d' : PyData), [V.ref a] = [V.ref a'] ∧ Dp K H (.ref a') d' ∧ d'.showable = true ∧ d'.hasDict = false ∧ d'.depth ≤ 60 ∧ d'.shown.length ≤ sizeLine ∧ R d' := by
  subst ex
  obtain ⟨h1, h2, h3, h4, h5⟩ := bools_ok bs
  refine go_repr (dBools bs) (.lst (.inl (.inl e)) (dpAll_bools bs)) ?_ ?_ ?_ ?_ ?_ q
  · simp only [dBools, PyData.showable]; exact h1
  · simp only [dBools, PyData.hasDict]; exact h2
  · simp only [dBools, PyData.depth, h3]; omega
  · simp only [dBools, PyData.leavesShort]; exact h4
  · simp only [dBools, PyData.weight]; omega
end G1
namespace G1
open PySem PySem.Spec PyProof.Rows L2
def dMix (a b c : Bool) (x : List Bool) : PyData := .list [.bool a, .bool b, .bool c, .str (B x)]
theorem repr_mix {K : PySem.W.Frag} {H : Hp} {R : PyData → Prop} {p : Addr} {a b c : Bool} {x : List Bool} (e : H p = some (.lst [.bl a, .bl b, .bl c, .str (B x)])) (h1 : x.length ≤ 100000) (q : R (dMix a b c x)) :
    ∃ (a' : Addr) (d' : PyData), [V.ref p] = [V.ref a'] ∧ Dp K H (.ref a') d' ∧ d'.showable = true ∧ d'.hasDict = false ∧ d'.depth ≤ 60 ∧ d'.shown.length ≤ sizeLine ∧ R d' := by
  refine go_repr (dMix a b c x) (.lst (.inl (.inl e)) (.cons (.bl _) (.cons (.bl _) (.cons (.bl _) (.cons (.str _) .nil))))) ?_ ?_ ?_ ?_ ?_ q
  · simp [dMix, PyData.showable, PyData.showableAll]
  · simp [dMix, PyData.hasDict, PyData.hasDictAll]
  · simp [dMix, PyData.depth, PyData.depthAll]
  · simp only [dMix, PyData.leavesShort, PyData.leavesShortAll, Bool.and_eq_true]
    exact ⟨trivial, trivial, trivial, leaf_B x, trivial⟩
  · simp only [dMix, PyData.weight, PyData.weightAll]
    have e1 := w_B x
    simp only [PyData.weight] at e1
    omega
theorem L_01 : Str.ofString "01" = B [false, true] := by decide +kernel
theorem L_001 : Str.ofString "001" = B [false, false, true] := by decide +kernel
theorem L_1000 : Str.ofString "1000" = B [true, false, false, false] := by decide +kernel
end G1
namespace G1
open PySem PySem.Spec PyProof.Rows L2
/-- data that may stand in a list that is shown -/
structure Small (d : PyData) : Prop where
  sh : d.showable = true
  nd : d.hasDict = false
  dp : d.depth ≤ 20
  lv : d.leavesShort 8 = true
  wt : d.weight ≤ 20000
theorem small_bool (b : Bool) : Small (.bool b) := ⟨rfl, rfl, by simp [PyData.depth], rfl, by simp [PyData.weight]⟩
theorem small_none : Small .none := ⟨rfl, rfl, by simp [PyData.depth], rfl, by simp [PyData.weight]⟩
theorem small_B {l : List Bool} (h : l.length ≤ 20000) : Small (.str (B l)) := by
  refine ⟨rfl, rfl, by simp [PyData.depth], leaf_B l, ?_⟩
  rw [w_B]; exact h
theorem small_tab {h t : List Bool} (h1 : h.length ≤ 5000) (t1 : t.length ≤ 5000) : Small (dTab h t) := by
  refine ⟨?_, ?_, ?_, ?_, ?_⟩
  · simp [dTab, PyData.showable, PyData.showableAll]
  · simp [dTab, PyData.hasDict, PyData.hasDictAll]
  · simp [dTab, PyData.depth, PyData.depthAll]
  · simp only [dTab, PyData.leavesShort, PyData.leavesShortAll, Bool.and_eq_true]
    exact ⟨leaf_B h, leaf_B t, trivial⟩
  · simp only [dTab, PyData.weight, PyData.weightAll]
    have e1 := w_B h
    have e2 := w_B t
    simp only [PyData.weight] at e1 e2
    omega
theorem small_all : ∀ ds : List PyData, (∀ d ∈ ds, Small d) → PyData.showableAll ds = true ∧ PyData.hasDictAll ds = false ∧ PyData.depthAll ds ≤ 20 ∧ PyData.leavesShortAll 8 ds = true ∧ PyData.weightAll ds ≤ 20001 * ds.length
  | [], _ => by simp [PyData.showableAll, PyData.hasDictAll, PyData.depthAll, PyData.leavesShortAll, PyData.weightAll]
  | d :: ds, h => by
    obtain ⟨h1, h2, h3, h4, h5⟩ := small_all ds fun e he => h e (List.mem_cons_of_mem _ he)
    have s := h d List.mem_cons_self
    refine ⟨?_, ?_, ?_, ?_, ?_⟩
    · simp [PyData.showableAll, h1, s.sh]
    · simp [PyData.hasDictAll, h2, s.nd]
    · have := s.dp
      simp only [PyData.depthAll]
      omega
    · simp [PyData.leavesShortAll, h4, s.lv]
    · have := s.wt
      simp only [PyData.weightAll, List.length_cons]
      omega
/-- repr of a list of such -/
theorem repr_items {K : PySem.W.Frag} {H : Hp} {R : PyData → Prop} {a : Addr} {xs : List V} (ds : List PyData) (e : H a = some (.lst xs)) (hd : DpAll K H xs ds) (hs : ∀ d ∈ ds, Small d) (hl : ds.length ≤ 40) (q : R (.list ds)) :
    ∃ (a' : Addr) (d' : PyData), [V.ref a] = [V.ref a'] ∧ Dp K H (.ref a') d' ∧ d'.showable = true ∧ d'.hasDict = false ∧ d'.depth ≤ 60 ∧ d'.shown.length ≤ sizeLine ∧ R d' := by
  obtain ⟨h1, h2, h3, h4, h5⟩ := small_all ds hs
  refine go_repr (.list ds) (.lst (.inl (.inl e)) hd) ?_ ?_ ?_ ?_ ?_ q
  · simp only [PyData.showable]; exact h1
  · simp only [PyData.hasDict]; exact h2
  · simp only [PyData.depth]; omega
  · simp only [PyData.leavesShort]; exact h4
  · simp only [PyData.weight]
    have : 20001 * ds.length ≤ 20001 * 40 := Nat.mul_le_mul_left _ hl
    omega
theorem eqv_tab (a b c d : List Bool) : PyData.eqv (dTab a b) (dTab c d) = decide (a = c ∧ b = d) := by
  have e : ∀ x y : List Bool, (B x == B y) = decide (x = y) := fun x y => by
    by_cases h : x = y
    · subst h; simp
    · rw [decide_eq_false h]
      exact beq_eq_false_iff_ne.mpr fun z => h (B_inj z)
  have e2 : PyData.eqv (dTab a b) (dTab c d) = ((B a == B c) && ((B b == B d) && true)) := by simp only [dTab, PyData.eqv, PyData.eqvAll]
  rw [e2, e, e, Bool.and_true, Bool.decide_and]
theorem shaped_tab (h t : List Bool) : SeqAt.shaped (dTab h t) = true := by
  have l : ∀ x : List Bool, PyData.canLay0 (.str (B x)) = true := fun x => by
    simp only [PyData.canLay0, PyData.strOk]
    rw [Array.all_eq_true_iff_forall_mem]
    intro c hc
    have hc2 : c ∈ (B x).cps.toList := Array.mem_toList_iff.mpr hc
    rw [B_cps] at hc2
    obtain ⟨b, _, rfl⟩ := List.mem_map.mp hc2
    cases b <;> decide
  show (PyData.canLay0 (dTab h t) && decide (PyData.depth (dTab h t) ≤ 64)) = true
  rw [Bool.and_eq_true]
  refine ⟨?_, decide_eq_true ?_⟩
  · simp only [dTab, PyData.canLay0, PyData.canLayAll0, Bool.and_eq_true]
    exact ⟨l h, l t, trivial⟩
  · simp [dTab, PyData.depth, PyData.depthAll]
end G1
/-! what draws come from: a list of two lists and a count, changed by each draw; all else stands -/
namespace G1
open PySem PySem.Spec PyProof.Rows L2

/-- the well at w, its great cells at g -/
def WellAt (w g : Addr) (H : Hp) : Prop := ∃ (c : Addr) (gs cs : List Int) (k : Int), w ≠ g ∧ c ≠ g ∧ c ≠ w ∧ H w = some (.lst [.ref g, .ref c, .int k]) ∧
  H g = some (.lst (gs.map V.int)) ∧ H c = some (.lst (cs.map V.int)) ∧ 0 < cs.length ∧ gs.length ≤ 1000 ∧ cs.length ≤ 1000
/-- H' is as H but for the well -/
def Go (w g : Addr) (H H' : Hp) : Prop := ∀ a o, a ≠ w → a ≠ g → H a = some o → H' a = some o
theorem Go.refl {w g : Addr} {H : Hp} : Go w g H H := fun _ _ _ _ h => h
theorem Go.trans {w g : Addr} {H H1 H2 : Hp} (a : Go w g H H1) (b : Go w g H1 H2) : Go w g H H2 := fun x o h1 h2 h => b x o h1 h2 (a x o h1 h2 h)
theorem Go.of {w g : Addr} {H H' : Hp} (h : Same H H') : Go w g H H' := fun x o _ _ e => h x o e
/-- o stands at a, apart from the well -/
structure At (w g : Addr) (H : Hp) (a : Addr) (o : HO) : Prop where
  nw : a ≠ w
  ng : a ≠ g
  at_ : H a = some o
theorem At.go {w g : Addr} {H H' : Hp} {a : Addr} {o : HO} (x : At w g H a o) (s : Go w g H H') : At w g H' a o := ⟨x.nw, x.ng, s a o x.nw x.ng x.at_⟩
theorem same_new {H : Hp} {p : Addr} {o : HO} (h : H p = none) : Same H (upd H p o) := fun b x e => by
  rw [upd_ne (ne_of_none e h)]
  exact e
theorem Same.rfl' {H : Hp} : Same H H := fun _ _ h => h
theorem WellAt.same {w g : Addr} {H H' : Hp} (W : WellAt w g H) (s : Same H H') : WellAt w g H' := by
  obtain ⟨c, gs, cs, k, h1, h2, h3, h4, h5, h6, h7⟩ := W
  exact ⟨c, gs, cs, k, h1, h2, h3, s _ _ h4, s _ _ h5, s _ _ h6, h7⟩
theorem WellAt.fresh {w g p : Addr} {H : Hp} (W : WellAt w g H) (h : H p = none) : p ≠ w ∧ p ≠ g := by
  obtain ⟨c, gs, cs, k, h1, h2, h3, h4, h5, h6, h7⟩ := W
  exact ⟨(ne_of_none h4 h).symm, (ne_of_none h5 h).symm⟩
/-- a new object beside the well -/
theorem new_w {w g : Addr} {H : Hp} {o : HO} {Q : VK} (W : WellAt w g H)
    (h : ∀ p H', H p = none → Same H H' → WellAt w g H' → At w g H' p o → Q (.ref p) H') : ∀ p, H p = none → Q (.ref p) (upd H p o) := fun p hp =>
  h p _ hp (same_new hp) (W.same (same_new hp)) ⟨(W.fresh hp).1, (W.fresh hp).2, upd_same⟩
/-- a new object -/
theorem new_s {H : Hp} {o : HO} {Q : VK} (h : ∀ p H', H p = none → Same H H' → H' p = some o → Q (.ref p) H') : ∀ p, H p = none → Q (.ref p) (upd H p o) :=
  fun p hp => h p _ hp (same_new hp) upd_same
theorem new_of {w g p : Addr} {H H' : Hp} {o : HO} (W : WellAt w g H) (hp : H p = none) (e : upd H p o = H') : Same H H' ∧ WellAt w g H' ∧ At w g H' p o := by
  subst e
  exact ⟨same_new hp, W.same (same_new hp), (W.fresh hp).1, (W.fresh hp).2, upd_same⟩
theorem new_of0 {p : Addr} {H H' : Hp} {o : HO} (hp : H p = none) (e : upd H p o = H') : Same H H' ∧ H' p = some o := by
  subst e
  exact ⟨same_new hp, upd_same⟩
theorem same_mut {H H1 : Hp} {D : Addr} {o : HO} (s : Same H H1) (h : H D = none) : Same H (upd H1 D o) := fun b x e => by
  rw [upd_ne (ne_of_none e h)]
  exact s _ _ e
theorem szl {n : Nat} (h : n ≤ 1000) : n ≤ sizeLine := Nat.le_trans h (by decide)
theorem At.sqL {K : PySem.W.Frag} {w g : Addr} {H : Hp} {a : Addr} {xs : List V} (x : At w g H a (.lst xs)) : SqL K H a xs := .inl (.inl x.at_)
theorem At.sqT {K : PySem.W.Frag} {w g : Addr} {H : Hp} {a : Addr} {xs : List V} (x : At w g H a (.tup xs)) : SqT K H a xs := .inl (.inl x.at_)
theorem sqL_of {K : PySem.W.Frag} {H : Hp} {a : Addr} {xs : List V} (h : H a = some (.lst xs)) : SqL K H a xs := .inl (.inl h)
theorem sqT_of {K : PySem.W.Frag} {H : Hp} {a : Addr} {xs : List V} (h : H a = some (.tup xs)) : SqT K H a xs := .inl (.inl h)
/-- a tuple stands apart from the well -/
theorem WellAt.tup {w g a : Addr} {H : Hp} {xs : List V} (W : WellAt w g H) (h : H a = some (.tup xs)) : At w g H a (.tup xs) := by
  obtain ⟨c, gs, cs, k, h1, h2, h3, h4, h5, h6, h7⟩ := W
  exact ⟨ne_of h h4 (by intro z; cases z), ne_of h h5 (by intro z; cases z), h⟩
end G1
namespace G1
open PySem PySem.Spec PyProof.Rows L2
theorem ifT {A B : Prop} (h : A) : if true = true then A else B := by rw [if_pos rfl]; exact h
theorem ifF {A B : Prop} (h : B) : if false = true then A else B := by rw [if_neg Bool.false_ne_true]; exact h
theorem ifD {c : Prop} [Decidable c] {A B : Prop} (h1 : c → A) (h2 : ¬ c → B) : if decide c = true then A else B := by
  by_cases h : c
  · rw [decide_eq_true h]
    exact ifT (h1 h)
  · rw [decide_eq_false h]
    exact ifF (h2 h)
theorem ifDn {c : Prop} [Decidable c] {A B : Prop} (h1 : ¬ c → A) (h2 : c → B) : if (!decide c) = true then A else B := by
  by_cases h : c
  · rw [decide_eq_true h]
    exact ifF (h2 h)
  · rw [decide_eq_false h]
    exact ifT (h1 h)
theorem ifB {b : Bool} {A B : Prop} (h1 : b = true → A) (h2 : b = false → B) : if b = true then A else B := by
  cases b with
  | true => exact ifT (h1 rfl)
  | false => exact ifF (h2 rfl)
end G1
namespace G1
open PySem PySem.Spec PyProof.Rows L2
theorem dpAll_ints {K : PySem.W.Frag} {H : Hp} : ∀ ns : List Int, DpAll K H (ns.map V.int) (ns.map PyData.int)
  | [] => .nil
  | n :: ns => .cons (.int n) (dpAll_ints ns)
theorem lay_ints : ∀ ns : List Int, PyData.canLayAll0 (ns.map PyData.int) = true
  | [] => by simp [PyData.canLayAll0]
  | n :: ns => by simp [PyData.canLayAll0, PyData.canLay0, lay_ints ns]
theorem depth_ints : ∀ ns : List Int, PyData.depthAll (ns.map PyData.int) = 0
  | [] => by simp [PyData.depthAll]
  | n :: ns => by simp [PyData.depthAll, PyData.depth, depth_ints ns]
theorem shaped_ints (ns : List Int) : SeqAt.shaped (.list (ns.map PyData.int)) = true := by
  show (PyData.canLay0 (.list (ns.map PyData.int)) && decide (PyData.depth (.list (ns.map PyData.int)) ≤ 64)) = true
  rw [Bool.and_eq_true]
  refine ⟨by simp only [PyData.canLay0]; exact lay_ints ns, decide_eq_true ?_⟩
  simp only [PyData.depth, depth_ints]
  omega
theorem eqv_ints_nil (ns : List Int) : PyData.eqv (.list (ns.map PyData.int)) (.list []) = decide (ns = []) := by
  cases ns with
  | nil => simp [PyData.eqv, PyData.eqvAll]
  | cons n ns => simp [PyData.eqv, PyData.eqvAll]
end G1

namespace G1
open PySem PySem.Spec PyProof.Rows L2
theorem ix_zero {n : Nat} (h : 0 < n) : ixN n 0 = some 0 := by
  unfold ixN
  rw [if_pos (by omega), if_pos (by omega)]
  rfl
theorem ix_at {n j : Nat} {i : Int} (e : i = (j : Int)) (h : j < n) : ixN n i = some j := by
  subst e
  unfold ixN
  rw [if_pos (by omega), if_pos (by omega)]
  rfl
end G1

namespace G1
open PySem PySem.Spec PyProof.Rows L2
theorem seq_zero (n : Nat) : seqIndex? 0 (n + 1) = some 0 := by
  unfold seqIndex?
  simp
end G1

namespace G1
open PySem PySem.Spec PyProof.Rows L2
section
variable {K : PySem.W.Frag} {H : Hp} {Q : VK} {p : Addr} {xs : List V} {v : V}
theorem go_ixL {R : V → Prop} {j : Nat} (hs : H p = some (.lst xs)) (hj : xs[j]? = some v) (q : R v) :
    ∃ p' xs' i' v', V.ref p = V.ref p' ∧ V.int (j : Int) = V.int i' ∧ SqL K H p' xs' ∧ atI xs' i' = some v' ∧ R v' :=
  ⟨p, xs, _, v, rfl, rfl, sqL_of hs, atI_nat hj, q⟩
theorem go_ixLi {R : V → Prop} {i : Int} {j : Nat} (hs : H p = some (.lst xs)) (e : i = (j : Int)) (hj : xs[j]? = some v) (q : R v) :
    ∃ p' xs' i' v', V.ref p = V.ref p' ∧ V.int i = V.int i' ∧ SqL K H p' xs' ∧ atI xs' i' = some v' ∧ R v' := by
  subst e
  exact ⟨p, xs, _, v, rfl, rfl, sqL_of hs, atI_nat hj, q⟩
theorem go_ixT {R : V → Prop} {j : Nat} (hs : H p = some (.tup xs)) (hj : xs[j]? = some v) (q : R v) :
    ∃ p' xs' i' v', V.ref p = V.ref p' ∧ V.int (j : Int) = V.int i' ∧ SqT K H p' xs' ∧ atI xs' i' = some v' ∧ R v' :=
  ⟨p, xs, _, v, rfl, rfl, sqT_of hs, atI_nat hj, q⟩
theorem go_ixLast {R : V → Prop} (hs : H p = some (.lst xs)) (hj : xs[xs.length - 1]? = some v) (q : R v) :
    ∃ p' xs' i' v', V.ref p = V.ref p' ∧ V.int (-1) = V.int i' ∧ SqL K H p' xs' ∧ atI xs' i' = some v' ∧ R v' := by
  refine ⟨p, xs, _, v, rfl, rfl, sqL_of hs, ?_, q⟩
  have hl : 0 < xs.length := by
    cases xs with
    | nil => simp at hj
    | cons a l => simp
  unfold atI ixN
  rw [if_neg (by omega), if_pos (by omega)]
  show xs[(-1 + (xs.length : Int)).toNat]? = _
  rw [show (-1 + (xs.length : Int)).toNat = xs.length - 1 by omega]
  exact hj
theorem go_tup {R : List V → Prop} (hs : H p = some (.tup xs)) (q : R xs) : ∃ a ys, V.ref p = V.ref a ∧ SqT K H a ys ∧ R ys := ⟨p, xs, rfl, sqT_of hs, q⟩
theorem go_unl {R : List V → Prop} (hs : H p = some (.lst xs)) (q : R xs) : ∃ a ys, V.ref p = V.ref a ∧ SqL K H a ys ∧ R ys := ⟨p, xs, rfl, sqL_of hs, q⟩
theorem go_lenL {R : List V → Prop} (hs : H p = some (.lst xs)) (q : R xs) : ∃ p' ys, [V.ref p] = [V.ref p'] ∧ (SqL K H p' ys ∨ SqT K H p' ys) ∧ R ys :=
  ⟨p, xs, rfl, Or.inl (sqL_of hs), q⟩
end
end G1

namespace G1
open PySem PySem.Spec PyProof.Rows L2
section
variable {l m : List Bool}
/-- len of a text of two signs -/
theorem go_lenS {R : Str → Prop} (h : l.length ≤ 1000000) (q : R (B l)) : ∃ z, [V.str (B l)] = [V.str z] ∧ z.length ≤ sizeLine ∧ R z :=
  ⟨B l, rfl, by rw [B_len]; exact szM h, q⟩
theorem go_addS {R : Str → Str → Prop} (h : l.length + m.length ≤ 1000000) (q : R (B l) (B m)) : ∃ i j, V.str (B l) = V.str i ∧ V.str (B m) = V.str j ∧ i.length + j.length ≤ sizeLine ∧ R i j :=
  ⟨B l, B m, rfl, rfl, by rw [B_len, B_len]; exact szM h, q⟩
theorem go_mulS {R : Str → Int → Prop} {n : Int} (h : 0 ≤ n ∧ n < 2 ^ 30) (h2 : l.length * n.toNat ≤ 1000000) (q : R (B l) n) :
    ∃ z k, V.str (B l) = V.str z ∧ V.int n = V.int k ∧ 0 ≤ k ∧ k < 2 ^ 30 ∧ z.length * k.toNat ≤ 1000000 ∧ R z k :=
  ⟨B l, n, rfl, rfl, h.1, h.2, by rw [B_len]; exact h2, q⟩
theorem go_sl {R : Str → Prop} (h : l.length ≤ 1000000) (q : R (B l)) : ∃ z, V.str (B l) = V.str z ∧ z.length ≤ sizeLine ∧ R z :=
  ⟨B l, rfl, by rw [B_len]; exact szM h, q⟩
theorem go_ixS {R : Nat → Prop} {i : Int} {k : Nat} {b : Bool} (hi : i = (k : Int)) (h : l.length ≤ 1000000) (hk : l[k]? = some b) (q : R (cB b)) :
    ∃ z i' c, V.str (B l) = V.str z ∧ V.int i = V.int i' ∧ z.length ≤ sizeLine ∧ atI z.cps.toList i' = some c ∧ R c :=
  ⟨B l, i, _, rfl, rfl, by rw [B_len]; exact szM h, B_at l hi hk, q⟩
theorem go_ixSn {R : Nat → Prop} {i : Int} {k : Nat} {b : Bool} (hi : i = -1 - (k : Int)) (h : l.length ≤ 1000000) (hl : k < l.length) (hk : l[l.length - 1 - k]? = some b) (q : R (cB b)) :
    ∃ z i' c, V.str (B l) = V.str z ∧ V.int i = V.int i' ∧ z.length ≤ sizeLine ∧ atI z.cps.toList i' = some c ∧ R c :=
  ⟨B l, i, _, rfl, rfl, by rw [B_len]; exact szM h, B_atNeg l hi hl hk, q⟩
end
end G1
namespace G1
open PySem PySem.Spec PyProof.Rows L2
theorem log_small {i : Int} (h0 : 0 ≤ i) (h1 : i < 2 ^ 64) : i.natAbs.log2 < 1920 := by
  have h : i.natAbs < 2 ^ 64 := by omega
  by_cases hz : i.natAbs = 0
  · rw [hz]; decide
  · exact Nat.lt_of_lt_of_le ((Nat.log2_lt hz).mpr h) (by decide)
theorem go_bit {R : Int → Prop} {i : Int} (h : 0 ≤ i ∧ i < 2) (q : R i) : ∃ k, [V.int i] = [V.int k] ∧ k.natAbs.log2 < 1920 ∧ R k :=
  ⟨i, rfl, log_small h.1 (by omega), q⟩
theorem flat_one : ∀ bs : List Bool, (bs.map fun b => [b]).flatten = bs
  | [] => rfl
  | b :: bs => by rw [List.map_cons, List.flatten_cons, flat_one bs]; rfl
theorem len_one : ∀ bs : List Bool, ((bs.map fun b => B [b]).map (·.length)).sum = bs.length
  | [] => rfl
  | b :: bs => by
    rw [List.map_cons, List.map_cons, List.sum_cons, len_one bs, B_len, List.length_cons, List.length_cons, List.length_nil]
    omega
theorem go_join {K : PySem.W.Frag} {H : Hp} {R : Str → List Str → Prop} {D : Addr} {bs : List Bool} (hD : H D = some (.lst (bs.map fun b => V.str (B [b])))) (hl : bs.length ≤ 1000000) (q : R (B []) (bs.map fun b => B [b])) :
    ∃ a p ys, V.str (B []) = V.str a ∧ [V.ref D] = [V.ref p] ∧ (SqL K H p (List.map V.str ys) ∨ SqT K H p (List.map V.str ys)) ∧ (List.map (fun x => x.length) ys).sum + ys.length * a.length ≤ 16777216 ∧ R a ys := by
  refine ⟨B [], D, bs.map fun b => B [b], rfl, rfl, Or.inl ?_, ?_, q⟩
  · rw [List.map_map]
    exact sqL_of hD
  · rw [len_one, B_len]
    simp
    omega
theorem joined (bs : List Bool) : Txt.join (B []) (bs.map fun b => B [b]) = B bs := by
  have e : (bs.map fun b => B [b]) = (bs.map fun b => [b]).map B := by rw [List.map_map]; rfl
  rw [e, join_nil, flat_one]
end G1
namespace G1
open PySem PySem.Spec PyProof.Rows L2
theorem go_in {K : PySem.W.Frag} {H : Hp} {R : Bool → Prop} {p : Addr} {x : Int} {ys : List Int} {xs : List V} (hs : H p = some (.tup xs)) (e : xs = ys.map V.int) (q : ∀ b, R b) :
    ∃ p' zs, V.ref p = V.ref p' ∧ (SqL K H p' zs ∨ SqT K H p' zs) ∧ flatV (.int x) = true ∧ zs.all flatV = true ∧ R (inV (.int x) zs) := by
  refine ⟨p, xs, rfl, Or.inr (sqT_of hs), rfl, ?_, q _⟩
  subst e
  rw [List.all_eq_true]
  intro v hv
  obtain ⟨i, _, rfl⟩ := List.mem_map.mp hv
  rfl
theorem mul_le {a b n m : Nat} (h1 : a ≤ n) (h2 : b ≤ m) (h : n * m ≤ 1000000) : a * b ≤ 1000000 := Nat.le_trans (Nat.mul_le_mul h1 h2) h
end G1
/-! rows of signs: a head and then a turn again and again; least forms (plain Lean) -/
namespace Row
/-- the sign of a number -/
def sg (h t : List Bool) (n : Nat) : Bool := if n < h.length then h.getD n false else t.getD ((n - h.length) % t.length) false
/-- so many signs of a row from a place on -/
def rng (r : Nat → Bool) (a n : Nat) : List Bool := (List.range n).map fun i => r (a + i)
theorem rng_len (r : Nat → Bool) (a n : Nat) : (rng r a n).length = n := by unfold rng; rw [List.length_map, List.length_range]
theorem rng_get (r : Nat → Bool) (a n i : Nat) (h : i < n) : (rng r a n)[i]? = some (r (a + i)) := by
  unfold rng
  rw [List.getElem?_map, List.getElem?_range h]
  rfl
theorem rng_getD (r : Nat → Bool) (a n i : Nat) (h : i < n) : (rng r a n).getD i false = r (a + i) := by
  rw [List.getD_eq_getElem?_getD, rng_get r a n i h]
  rfl
theorem ext_rng {l : List Bool} {r : Nat → Bool} {a n : Nat} (hl : l.length = n) (h : ∀ i, i < n → l[i]? = some (r (a + i))) : l = rng r a n := by
  apply List.ext_getElem?
  intro i
  by_cases hi : i < n
  · rw [h i hi, rng_get r a n i hi]
  · rw [List.getElem?_eq_none (by omega), List.getElem?_eq_none (by rw [rng_len]; omega)]
theorem getD_some {l : List Bool} {i : Nat} (h : i < l.length) : l[i]? = some (l.getD i false) := by
  rw [List.getD_eq_getElem?_getD, List.getElem?_eq_getElem h]
  rfl
theorem sg_head {h t : List Bool} {n : Nat} (hn : n < h.length) : sg h t n = h.getD n false := by unfold sg; rw [if_pos hn]
theorem sg_turn {h t : List Bool} {n : Nat} (hn : h.length ≤ n) : sg h t n = t.getD ((n - h.length) % t.length) false := by unfold sg; rw [if_neg (by omega)]
/-- far numbers as those nearer by a multiple of the turn -/
theorem sg_back {h t : List Bool} (n k : Nat) (hk : h.length + k * t.length ≤ n) : sg h t (n - k * t.length) = sg h t n := by
  rw [sg_turn (by omega), sg_turn (by omega)]
  congr 1
  rw [show n - k * t.length - h.length = (n - h.length) - k * t.length by omega]
  have e : n - h.length = ((n - h.length) - k * t.length) + k * t.length := by omega
  rw [e, Nat.add_mul_mod_self_right]
  congr 1
  omega

/-! ### turns that come round -/
/-- turned on by k the turn is the same -/
def Rot (t : List Bool) (k : Nat) : Prop := ∀ i, i < t.length → t.getD i false = t.getD ((i + k) % t.length) false
theorem Rot.any {t : List Bool} {k : Nat} (h : Rot t k) (ht : 0 < t.length) (i : Nat) : t.getD (i % t.length) false = t.getD ((i + k) % t.length) false := by
  have := h (i % t.length) (Nat.mod_lt _ ht)
  rw [this, Nat.mod_add_mod]
theorem Rot.mul {t : List Bool} {k : Nat} (h : Rot t k) (ht : 0 < t.length) (m : Nat) : Rot t (m * k) := by
  induction m with
  | zero =>
    intro i hi
    rw [Nat.zero_mul, Nat.add_zero, Nat.mod_eq_of_lt hi]
  | succ m ih =>
    intro i hi
    rw [ih i hi, h.any ht]
    congr 1
    rw [Nat.succ_mul]
    congr 1
    omega
theorem rot_len (t : List Bool) : Rot t t.length := by
  intro i hi
  rw [Nat.add_mod_right, Nat.mod_eq_of_lt hi]
/-- the least way by which the turn is turned on into itself -/
structure IsPer (t : List Bool) (s : Nat) : Prop where
  pos : 1 ≤ s
  le : s ≤ t.length
  rot : Rot t s
  least : ∀ k, 1 ≤ k → k < s → ¬ Rot t k
theorem IsPer.uniq {t : List Bool} {s s' : Nat} (a : IsPer t s) (b : IsPer t s') : s = s' := by
  rcases Nat.lt_trichotomy s s' with h | h | h
  · exact absurd a.rot (b.least s a.pos h)
  · exact h
  · exact absurd b.rot (a.least s' b.pos h)
theorem IsPer.dvd {t : List Bool} {s : Nat} (a : IsPer t s) : t.length % s = 0 := by
  have ht : 0 < t.length := Nat.lt_of_lt_of_le a.pos a.le
  by_cases h : t.length % s = 0
  · exact h
  · exfalso
    have hlt := Nat.mod_lt t.length (show 0 < s from a.pos)
    refine a.least (t.length % s) (by omega) hlt ?_
    -- T = q s + r, turned on by T and back by q s
    intro i hi
    have hq := (a.rot.mul ht (t.length / s)).any ht (i + t.length % s)
    rw [hq]
    have e : i + t.length % s + t.length / s * s = i + t.length := by
      have := Nat.mod_add_div t.length s
      rw [Nat.mul_comm] at this
      omega
    rw [e, Nat.add_mod_right, Nat.mod_eq_of_lt hi]

/-- where the turn begins, if it is s signs long -/
structure IsBeg (h t : List Bool) (s m : Nat) : Prop where
  le : m ≤ h.length
  same : ∀ n, m ≤ n → n < h.length → sg h t n = sg h t (n + s)
  least : m = 0 ∨ sg h t (m - 1) ≠ sg h t (m - 1 + s)
theorem IsBeg.uniq {h t : List Bool} {s m m' : Nat} (a : IsBeg h t s m) (b : IsBeg h t s m') : m = m' := by
  have key : ∀ {m m' : Nat}, IsBeg h t s m → IsBeg h t s m' → ¬ m < m' := by
    intro m m' a b hlt
    rcases b.least with e | e
    · omega
    · exact e (a.same (m' - 1) (by omega) (by have := b.le; omega))
  have k1 := key a b
  have k2 := key b a
  omega
/-- behind the head the row goes on by the turn -/
theorem sg_rot {h t : List Bool} {s : Nat} (ht : 0 < t.length) (r : Rot t s) {n : Nat} (hn : h.length ≤ n) : sg h t n = sg h t (n + s) := by
  rw [sg_turn hn, sg_turn (by omega), r.any ht]
  congr 2
  omega
theorem IsBeg.from {h t : List Bool} {s m : Nat} (a : IsBeg h t s m) (p : IsPer t s) {n : Nat} (hn : m ≤ n) : sg h t n = sg h t (n + s) := by
  by_cases hh : n < h.length
  · exact a.same n hn hh
  · exact sg_rot (Nat.lt_of_lt_of_le p.pos p.le) p.rot (by omega)
theorem IsBeg.mul {h t : List Bool} {s m : Nat} (a : IsBeg h t s m) (p : IsPer t s) {n : Nat} (hn : m ≤ n) (k : Nat) : sg h t n = sg h t (n + k * s) := by
  induction k with
  | zero => rw [Nat.zero_mul, Nat.add_zero]
  | succ k ih =>
    rw [ih, a.from p (by omega), Nat.succ_mul]
    congr 1
    omega
/-- the least form tells the same -/
theorem sg_least {h t : List Bool} {s m : Nat} (a : IsBeg h t s m) (p : IsPer t s) (n : Nat) : sg (rng (sg h t) 0 m) (rng (sg h t) m s) n = sg h t n := by
  by_cases hn : n < m
  · rw [sg_head (by rw [rng_len]; exact hn), rng_getD _ _ _ _ hn, Nat.zero_add]
  · rw [sg_turn (by rw [rng_len]; omega), rng_len, rng_len, rng_getD _ _ _ _ (Nat.mod_lt _ p.pos)]
    have h1 := a.mul p (n := m + (n - m) % s) (by omega) ((n - m) / s)
    rw [h1]
    congr 1
    have := Nat.mod_add_div (n - m) s
    rw [Nat.mul_comm] at this
    omega
end Row
/-! the two ways to a least form: by parts of the turn and the head gone backwards; by turning on and by halving -/
namespace Row
open G1
theorem per_exists {t : List Bool} (ht : 0 < t.length) : ∃ s, IsPer t s := by
  have key : ∀ n, (∃ k, 1 ≤ k ∧ k ≤ n ∧ Rot t k) → ∃ s, 1 ≤ s ∧ s ≤ n ∧ Rot t s ∧ ∀ k, 1 ≤ k → k < s → ¬ Rot t k := by
    intro n
    induction n with
    | zero => rintro ⟨k, h1, h2, _⟩; omega
    | succ n ih =>
      rintro ⟨k, h1, h2, h3⟩
      by_cases h : ∃ k, 1 ≤ k ∧ k ≤ n ∧ Rot t k
      · obtain ⟨s, a, b, c, d⟩ := ih h
        exact ⟨s, a, by omega, c, d⟩
      · refine ⟨k, h1, h2, h3, fun j j1 j2 j3 => h ⟨j, j1, by omega, j3⟩⟩
  obtain ⟨s, a, b, c, d⟩ := key t.length ⟨t.length, ht, Nat.le_refl _, rot_len t⟩
  exact ⟨s, a, b, c, d⟩
theorem rot_part {t : List Bool} {s : Nat} (hs : 1 ≤ s) (hd : t.length % s = 0) (ht : 0 < t.length) (r : Rot t s) (i : Nat) (hi : i < t.length) : t.getD i false = t.getD (i % s) false := by
  have h := (r.mul ht (i / s)) (i % s) (Nat.lt_of_le_of_lt (Nat.mod_le _ _) hi)
  rw [h]
  congr 1
  have := Nat.mod_add_div i s
  rw [Nat.mul_comm] at this
  rw [this, Nat.mod_eq_of_lt hi]
theorem part_get {t : List Bool} {s : Nat} (hs : 1 ≤ s) (hl : s ≤ t.length) (hd : t.length % s = 0) (i : Nat) (hi : i < t.length) : (rep (t.length / s) (t.take s))[i]? = some (t.getD (i % s) false) := by
  have e : (t.take s).length = s := by rw [List.length_take]; omega
  have e2 : t.length / s * s = t.length := by
    have := Nat.mod_add_div t.length s
    rw [Nat.mul_comm] at this
    omega
  have hm := Nat.mod_lt i (show 0 < s from hs)
  rw [rep_get _ _ _ (by rw [e, e2]; exact hi), e, List.getElem?_take, if_pos hm]
  exact getD_some (by omega)
theorem rep_iff {t : List Bool} {s : Nat} (hs : 1 ≤ s) (hl : s ≤ t.length) (hd : t.length % s = 0) : rep (t.length / s) (t.take s) = t ↔ Rot t s := by
  have ht : 0 < t.length := by omega
  have e : (t.take s).length = s := by rw [List.length_take]; omega
  have e2 : t.length / s * s = t.length := by
    have := Nat.mod_add_div t.length s
    rw [Nat.mul_comm] at this
    omega
  constructor
  · intro h i hi
    have k1 : ∀ i, i < t.length → t.getD i false = t.getD (i % s) false := by
      intro i hi
      have h1 := part_get hs hl hd i hi
      rw [h, getD_some hi] at h1
      exact Option.some.inj h1
    rw [k1 i hi, k1 _ (Nat.mod_lt _ ht)]
    congr 1
    obtain ⟨q, hq⟩ : ∃ q, t.length = s * q := ⟨t.length / s, by rw [Nat.mul_comm]; exact e2.symm⟩
    rw [hq, Nat.mod_mul_right_mod, Nat.add_mod_right]
  · intro r
    apply List.ext_getElem?
    intro i
    by_cases hi : i < t.length
    · rw [part_get hs hl hd i hi, getD_some hi, rot_part hs hd ht r i hi]
    · rw [List.getElem?_eq_none (by rw [rep_length, e, e2]; omega), List.getElem?_eq_none (by omega)]

/-! ### the head gone backwards -/
/-- so many of the last signs of the head are as the turn u, gone backwards, has them, and no more -/
structure Alike (h u : List Bool) (a : Nat) : Prop where
  le : a ≤ h.length
  same : ∀ j, j < a → h.getD (h.length - 1 - j) false = u.getD (u.length - 1 - j % u.length) false
  last : a = h.length ∨ h.getD (h.length - 1 - a) false ≠ u.getD (u.length - 1 - a % u.length) false
/-- the row of u, begun anywhere -/
def gg (h u : List Bool) (n : Nat) : Bool := u.getD ((n + h.length * u.length - h.length) % u.length) false
theorem sub_mod_id {s j A : Nat} (hs : 0 < s) (hj : j < A) : (A * s - 1 - j) % s = s - 1 - j % s := by
  have hm := Nat.mod_lt j hs
  have h1 := Nat.mod_add_div j s
  have hq : j / s < A := Nat.lt_of_le_of_lt (Nat.div_le_self j s) hj
  obtain ⟨c, hc⟩ : ∃ c, A = j / s + 1 + c := ⟨A - j / s - 1, by omega⟩
  have e : A * s - 1 - j = (s - 1 - j % s) + s * c := by
    rw [hc, Nat.add_mul, Nat.add_mul, Nat.one_mul, Nat.mul_comm c s, Nat.mul_comm (j / s) s]
    omega
  rw [e, Nat.add_mul_mod_self_left, Nat.mod_eq_of_lt (by omega)]
theorem mul_ge {A s : Nat} (hs : 0 < s) : A ≤ A * s := Nat.le_mul_of_pos_right A hs
theorem gg_head {h u : List Bool} {j : Nat} (hu : 0 < u.length) (hj : j < h.length) : gg h u (h.length - 1 - j) = u.getD (u.length - 1 - j % u.length) false := by
  unfold gg
  congr 1
  rw [← sub_mod_id hu hj]
  congr 1
  have := mul_ge (A := h.length) hu
  omega
theorem gg_add {h u : List Bool} (hu : 0 < u.length) (n : Nat) : gg h u (n + u.length) = gg h u n := by
  unfold gg
  congr 1
  have := mul_ge (A := h.length) hu
  rw [show n + u.length + h.length * u.length - h.length = (n + h.length * u.length - h.length) + u.length by omega, Nat.add_mod_right]
section
variable {h t : List Bool} {s a : Nat}
theorem take_len (p : IsPer t s) : (t.take s).length = s := by rw [List.length_take]; exact Nat.min_eq_left p.le
theorem take_getD {i : Nat} (hi : i < s) : (t.take s).getD i false = t.getD i false := by
  rw [List.getD_eq_getElem?_getD, List.getD_eq_getElem?_getD, List.getElem?_take, if_pos hi]
theorem sg_gg (p : IsPer t s) (x : Alike h (t.take s) a) {n : Nat} (hn : h.length - a ≤ n) : sg h t n = gg h (t.take s) n := by
  have hu : 0 < (t.take s).length := by rw [take_len p]; exact p.pos
  have ht : 0 < t.length := Nat.lt_of_lt_of_le p.pos p.le
  by_cases hh : n < h.length
  · obtain ⟨j, hj⟩ : ∃ j, n = h.length - 1 - j ∧ j < h.length := ⟨h.length - 1 - n, by omega, by omega⟩
    obtain ⟨rfl, hj2⟩ := hj
    rw [sg_head hh, gg_head hu hj2, x.same j (by omega)]
  · rw [sg_turn (by omega)]
    unfold gg
    rw [take_len p]
    rw [take_getD (Nat.mod_lt _ p.pos)]
    rw [rot_part p.pos p.dvd ht p.rot _ (Nat.mod_lt _ ht)]
    congr 1
    obtain ⟨q, hq⟩ : ∃ q, t.length = s * q := ⟨t.length / s, by
      have := Nat.mod_add_div t.length s
      have hd := p.dvd
      omega⟩
    rw [hq, Nat.mod_mul_right_mod]
    have hge := mul_ge (A := h.length) p.pos
    rw [show n + h.length * s - h.length = (n - h.length) + h.length * s by omega, Nat.add_mul_mod_self_right]
theorem beg_of (p : IsPer t s) (x : Alike h (t.take s) a) : IsBeg h t s (h.length - a) := by
  have hu : 0 < (t.take s).length := by rw [take_len p]; exact p.pos
  have hle := x.le
  refine ⟨Nat.sub_le _ _, fun n h1 h2 => ?_, ?_⟩
  · rw [sg_gg p x h1, sg_gg p x (by omega)]
    have := gg_add (h := h) hu n
    rw [take_len p] at this
    exact this.symm
  · rcases x.last with e | e
    · exact .inl (by omega)
    · by_cases h0 : a = h.length
      · exact .inl (by omega)
      · refine .inr fun z => e ?_
        have ha : a < h.length := by omega
        rw [sg_head (by omega), sg_gg p x (n := h.length - a - 1 + s) (by have := p.pos; omega)] at z
        have g1 := gg_add (h := h) hu (h.length - a - 1)
        rw [take_len p] at g1
        rw [g1, show h.length - a - 1 = h.length - 1 - a by omega, gg_head hu ha] at z
        exact z
theorem win_of (p : IsPer t s) (x : Alike h (t.take s) a) :
    (t.take s).drop (s - a % s) ++ (t.take s).take (s - a % s) = rng (sg h t) (h.length - a) s := by
  have hl := take_len p
  have hle := x.le
  have hm := Nat.mod_lt a p.pos
  have hg : ∀ i, i < s → sg h t (h.length - a + i) = gg h (t.take s) (h.length - a + i) := fun i _ => sg_gg p x (by omega)
  unfold gg at hg
  rw [hl] at hg
  have hge := mul_ge (A := h.length) p.pos
  have ha := Nat.mod_add_div a s
  have hq : a / s ≤ h.length := Nat.le_trans (Nat.div_le_self a s) hle
  have hqs : a / s ≤ s * (a / s) := by
    rw [Nat.mul_comm]
    exact mul_ge p.pos
  obtain ⟨c, hc⟩ : ∃ c, h.length = a / s + c := ⟨h.length - a / s, by omega⟩
  have e0 : h.length * s = s * (a / s) + s * c := by
    conv => lhs; rw [hc]
    rw [Nat.add_mul, Nat.mul_comm (a / s) s, Nat.mul_comm c s]
  generalize hlu : t.take s = u at *
  generalize a / s = q at *
  generalize a % s = ρ at *
  generalize h.length * s = A at *
  refine ext_rng (by rw [List.length_append, List.length_drop, List.length_take, hl]; omega) fun i hi => ?_
  rw [hg i hi]
  have e1 : h.length - a + i + A - h.length = s * c + i - ρ := by omega
  rw [e1]
  by_cases h1 : i < ρ
  · rw [List.getElem?_append_left (by rw [List.length_drop, hl]; omega), List.getElem?_drop, getD_some (by rw [hl]; omega)]
    congr 2
    have hc0 : c ≠ 0 := by
      rintro rfl
      rw [Nat.mul_zero] at e0
      omega
    obtain ⟨d, rfl⟩ : ∃ d, c = d + 1 := ⟨c - 1, by omega⟩
    have e5 : s * (d + 1) = s * d + s := Nat.mul_succ s d
    rw [show s * (d + 1) + i - ρ = (s - ρ + i) + s * d by omega, Nat.add_mul_mod_self_left, Nat.mod_eq_of_lt (by omega)]
  · rw [List.getElem?_append_right (by rw [List.length_drop, hl]; omega), List.length_drop, hl, List.getElem?_take, if_pos (by omega), getD_some (by rw [hl]; omega)]
    congr 2
    rw [show s * c + i - ρ = (i - ρ) + s * c by omega, Nat.add_mul_mod_self_left, Nat.mod_eq_of_lt (by omega)]
    omega
theorem head_of (hm : a ≤ h.length) : h.take (h.length - a) = rng (sg h t) 0 (h.length - a) := by
  refine ext_rng (by rw [List.length_take]; omega) fun i hi => ?_
  rw [List.getElem?_take, if_pos hi, Nat.zero_add, sg_head (by omega), getD_some (by omega)]
end
end Row
/-! str.find from a place; the least form by turning on and by halving -/
namespace Row
open G1 PySem PySem.StrLaws PySem.Builtin PySem.Builtin.Str
theorem occ_full (s sub : Str) (hi : Nat) : ∀ (l : List Nat) (st : Array Nat × Nat), 1 ≤ st.fst.size → (forIn l st (occBody s sub hi 1)).run.fst = st.fst
  | [], st, h => rfl
  | a :: l, st, h => by
    rw [List.forIn_cons]
    unfold occBody
    rw [if_neg (fun c => by have := c.1.1.1; omega)]
    exact occ_full s sub hi l _ h
theorem occ_first (s sub : Str) (hi : Nat) : ∀ (n lo free k : Nat), free ≤ lo → lo ≤ k → k < lo + n → (k + sub.length ≤ hi ∧ subAt s sub k = true) →
    (∀ j, lo ≤ j → j < k → ¬ (j + sub.length ≤ hi ∧ subAt s sub j = true)) →
    (forIn (List.range' lo n) ((#[] : Array Nat), free) (occBody s sub hi 1)).run.fst.toList = [k]
  | 0, lo, free, k, _, h1, h2, _, _ => by omega
  | n + 1, lo, free, k, hf, h1, h2, hm, hl => by
    rw [List.range'_succ, List.forIn_cons]
    unfold occBody
    by_cases hk : k = lo
    · subst hk
      have c1 : ((((#[] : Array Nat), free).fst.size < 1 ∧ ((#[] : Array Nat), free).snd ≤ k) ∧ k + sub.length ≤ hi) ∧ subAt s sub k = true := ⟨⟨⟨by simp, hf⟩, hm.1⟩, hm.2⟩
      rw [if_pos c1]
      have h3 := occ_full s sub hi (List.range' (k + 1) n) (((#[] : Array Nat)).push k, k + sub.length) (by simp)
      have h4 : (forIn (List.range' (k + 1) n) (((#[] : Array Nat)).push k, k + sub.length) (occBody s sub hi 1)).run.fst.toList = [k] := by rw [h3]; rfl
      exact h4
    · have c2 : ¬ (((((#[] : Array Nat), free).fst.size < 1 ∧ ((#[] : Array Nat), free).snd ≤ lo) ∧ lo + sub.length ≤ hi) ∧ subAt s sub lo = true) := fun c => hl lo (Nat.le_refl _) (by omega) ⟨c.1.2, c.2⟩
      rw [if_neg c2]
      exact occ_first s sub hi n (lo + 1) free k (by omega) (by omega) (by omega) hm fun j j1 j2 => hl j (by omega) j2
theorem subAt_B (x y : List Bool) (k : Nat) : subAt (B x) (B y) k = true ↔ (x.drop k).take y.length = y := by
  rw [subAt_eq]
  rw [B_len, B_cps, B_cps, beq_iff_eq, ← List.map_drop, ← List.map_take]
  exact ⟨map_cB_inj, fun h => by rw [h]⟩
theorem find3_of {x y : List Bool} {s : Nat} (h1 : 1 ≤ s) (hs : s + y.length ≤ x.length) (hm : (x.drop s).take y.length = y) (hl : ∀ k, 1 ≤ k → k < s → (x.drop k).take y.length ≠ y) :
    Txt.find3 (B x) (B y) 1 = (s : Int) := by
  unfold Txt.find3
  have e : occurrences (B x) (B y) (fromIndex (B x).length 1) (B x).length 1 = [s] := by
    rw [occ_eq]
    have e1 : fromIndex (B x).length 1 = 1 := rfl
    rw [e1]
    refine occ_first (B x) (B y) (B x).length _ 1 1 s (Nat.le_refl _) h1 (by rw [B_len]; omega) ⟨by rw [B_len, B_len]; exact hs, (subAt_B x y s).mpr hm⟩ fun j j1 j2 c => ?_
    exact hl j j1 j2 ((subAt_B x y j).mp c.2)
  rw [e]
theorem twice_get {t : List Bool} {k : Nat} (hk : k ≤ t.length) {i : Nat} (hi : i < t.length) : (((t ++ t).drop k).take t.length)[i]? = some (t.getD ((i + k) % t.length) false) := by
  rw [List.getElem?_take, if_pos hi, List.getElem?_drop]
  by_cases h : k + i < t.length
  · rw [List.getElem?_append_left h, getD_some h, Nat.add_comm i k, Nat.mod_eq_of_lt h]
  · rw [List.getElem?_append_right (by omega), getD_some (by omega), Nat.add_comm i k]
    congr 2
    rw [Nat.mod_eq_sub_mod (by omega), Nat.mod_eq_of_lt (by omega)]
theorem twice_rot {t : List Bool} {k : Nat} (hk : k ≤ t.length) : ((t ++ t).drop k).take t.length = t ↔ Rot t k := by
  constructor
  · intro h i hi
    have h1 := twice_get hk hi
    rw [h, getD_some hi] at h1
    exact Option.some.inj h1
  · intro r
    apply List.ext_getElem?
    intro i
    by_cases hi : i < t.length
    · rw [twice_get hk hi, getD_some hi, r i hi]
    · rw [List.getElem?_eq_none (by rw [List.length_take, List.length_drop, List.length_append]; omega), List.getElem?_eq_none (by omega)]
/-- (t + t).find(t, 1) -/
theorem find_per {t : List Bool} {s : Nat} (p : IsPer t s) : Txt.find3 (B (t ++ t)) (B t) 1 = (s : Int) := by
  have hle := p.le
  refine find3_of p.pos (by rw [List.length_append]; omega) ((twice_rot hle).mpr p.rot) fun k k1 k2 h => ?_
  exact p.least k k1 k2 ((twice_rot (by omega)).mp h)

/-! ### halving -/
/-- the row of a head and its turn twice -/
theorem row2_get {h t : List Bool} {i : Nat} (hi : i < h.length + t.length + t.length) : (h ++ t ++ t)[i]? = some (sg h t i) := by
  by_cases h1 : i < h.length
  · rw [List.append_assoc, List.getElem?_append_left h1, sg_head h1, getD_some h1]
  · rw [sg_turn (by omega), List.append_assoc, List.getElem?_append_right (by omega)]
    have ht : 0 < t.length := by omega
    by_cases h2 : i - h.length < t.length
    · rw [List.getElem?_append_left h2, getD_some h2, Nat.mod_eq_of_lt h2]
    · rw [List.getElem?_append_right (by omega), getD_some (by omega)]
      congr 2
      rw [Nat.mod_eq_sub_mod (by omega), Nat.mod_eq_of_lt (by omega)]
/-- what a turn of the halving asks -/
theorem half_iff {h t : List Bool} {s m : Nat} (hs : s ≤ t.length) (hm : m ≤ h.length) :
    ((h ++ t ++ t).take h.length).drop m = ((h ++ t ++ t).take (h.length + s)).drop (m + s) ↔ ∀ n, m ≤ n → n < h.length → sg h t n = sg h t (n + s) := by
  constructor
  · intro e n h1 h2
    have e2 := congrArg (fun l => l[n - m]?) e
    simp only [List.getElem?_drop, List.getElem?_take] at e2
    rw [if_pos (by omega), if_pos (by omega), row2_get (by omega), row2_get (by omega)] at e2
    have e3 := Option.some.inj e2
    rw [show m + (n - m) = n by omega, show m + s + (n - m) = n + s by omega] at e3
    exact e3
  · intro a
    apply List.ext_getElem?
    intro i
    rw [List.getElem?_drop, List.getElem?_drop, List.getElem?_take, List.getElem?_take]
    by_cases h1 : m + i < h.length
    · rw [if_pos h1, if_pos (by omega), row2_get (by omega), row2_get (by omega), a (m + i) (by omega) h1]
      congr 2
      omega
    · rw [if_neg h1, if_neg (by omega)]
/-- between low and high the place lies -/
structure Half (h t : List Bool) (s lo hi : Nat) : Prop where
  le : lo ≤ hi
  top : hi ≤ h.length
  same : ∀ n, hi ≤ n → n < h.length → sg h t n = sg h t (n + s)
  low : ∀ m, m < lo → ∃ n, m ≤ n ∧ n < h.length ∧ sg h t n ≠ sg h t (n + s)
theorem Half.beg {h t : List Bool} {s lo hi : Nat} (x : Half h t s lo hi) (e : lo = hi) : IsBeg h t s hi := by
  subst e
  refine ⟨x.top, x.same, ?_⟩
  rcases Nat.eq_zero_or_pos lo with z | z
  · exact .inl z
  · refine .inr fun c => ?_
    obtain ⟨n, h1, h2, h3⟩ := x.low (lo - 1) (by omega)
    by_cases e : n = lo - 1
    · subst e
      exact h3 c
    · exact h3 (x.same n (by omega) h2)
theorem beg_exists {h t : List Bool} {s : Nat} : ∃ m, IsBeg h t s m := by
  have key : ∀ d, d ≤ h.length → (∀ n, h.length - d ≤ n → n < h.length → sg h t n = sg h t (n + s)) → ∃ m, IsBeg h t s m := by
    intro d
    induction hk : h.length - d generalizing d with
    | zero => exact fun h1 h2 => ⟨0, Nat.zero_le _, fun n a b => h2 n a b, .inl rfl⟩
    | succ k ih =>
      intro h1 h2
      by_cases c : sg h t k = sg h t (k + s)
      · refine ih (d + 1) (by omega) (by omega) fun n a b => ?_
        by_cases e : n = k
        · subst e; exact c
        · exact h2 n (by omega) b
      · exact ⟨k + 1, by omega, h2, .inr c⟩
  exact key 0 (Nat.zero_le _) fun n a b => by omega
theorem rng_take {h t : List Bool} {m : Nat} (hm : m ≤ h.length + t.length + t.length) : (h ++ t ++ t).take m = rng (sg h t) 0 m := by
  refine ext_rng (by rw [List.length_take, List.length_append, List.length_append]; omega) fun i hi => ?_
  rw [List.getElem?_take, if_pos hi, row2_get (by omega), Nat.zero_add]
theorem rng_mid {h t : List Bool} {m s : Nat} (hm : m + s ≤ h.length + t.length + t.length) : ((h ++ t ++ t).take (m + s)).drop m = rng (sg h t) m s := by
  refine ext_rng (by rw [List.length_drop, List.length_take, List.length_append, List.length_append]; omega) fun i hi => ?_
  rw [List.getElem?_drop, List.getElem?_take, if_pos (by omega), row2_get (by omega)]
/-- the first so many signs -/
theorem row_take {h t : List Bool} {k m : Nat} (ht : 0 < t.length) (hm : m ≤ h.length + k * t.length) : (h ++ rep k t).take m = rng (sg h t) 0 m := by
  refine ext_rng (by rw [List.length_take, List.length_append, rep_length]; omega) fun i hi => ?_
  rw [List.getElem?_take, if_pos hi, Nat.zero_add]
  by_cases h1 : i < h.length
  · rw [List.getElem?_append_left h1, sg_head h1, getD_some h1]
  · rw [List.getElem?_append_right (by omega), rep_get _ _ _ (by omega), sg_turn (by omega), getD_some (Nat.mod_lt _ ht)]
end Row
namespace Row
theorem less_ok {h t : List Bool} {n : Int} (n0 : 0 ≤ n) (t0 : 0 < t.length) :
    0 ≤ n - (if n - (h.length : Int) > 0 then n - (h.length : Int) else 0) / (t.length : Int) * (t.length : Int) ∧
    sg h t (n - (if n - (h.length : Int) > 0 then n - (h.length : Int) else 0) / (t.length : Int) * (t.length : Int)).toNat = sg h t n.toNat := by
  by_cases hn : n - (h.length : Int) > 0
  · rw [if_pos hn]
    obtain ⟨k, hk⟩ : ∃ k, k = (n.toNat - h.length) / t.length := ⟨_, rfl⟩
    have e : (n - (h.length : Int)) / (t.length : Int) = (k : Int) := by
      rw [hk, Int.natCast_ediv]
      congr 1
      omega
    have hm := Nat.div_mul_le_self (n.toNat - h.length) t.length
    rw [← hk] at hm
    rw [e]
    have hc : (k : Int) * (t.length : Int) = ((k * t.length : Nat) : Int) := (Int.natCast_mul _ _).symm
    rw [hc]
    refine ⟨by omega, ?_⟩
    have e2 : (n - ((k * t.length : Nat) : Int)).toNat = n.toNat - k * t.length := by omega
    rw [e2]
    exact sg_back _ _ (by omega)
  · rw [if_neg hn]
    have e : (0 : Int) / (t.length : Int) * (t.length : Int) = 0 := by rw [Int.zero_ediv, Int.zero_mul]
    rw [e, Int.sub_zero]
    exact ⟨n0, rfl⟩
end Row
/-! least tables written otherwise -/
namespace Row
open G1
theorem row_mid {h t : List Bool} {k m s : Nat} (ht : 0 < t.length) (hm : m + s ≤ h.length + k * t.length) : ((h ++ rep k t).take (m + s)).drop m = rng (sg h t) m s := by
  rw [row_take ht hm]
  refine ext_rng (by rw [List.length_drop, rng_len]; omega) fun i hi => ?_
  rw [List.getElem?_drop, rng_get _ _ _ _ (by omega), Nat.zero_add]
/-- the turn can't be shortened, the head does not go on by it -/
structure Prim (h u : List Bool) : Prop where
  per : IsPer u u.length
  last : h.length = 0 ∨ h.getD (h.length - 1) false ≠ u.getD (u.length - 1) false
theorem Prim.pos {h u : List Bool} (x : Prim h u) : 0 < u.length := x.per.pos
theorem Prim.beg {h u : List Bool} (x : Prim h u) : IsBeg h u u.length h.length := by
  refine ⟨Nat.le_refl _, fun n a b => by omega, ?_⟩
  rcases x.last with e | e
  · exact .inl e
  · by_cases h0 : h.length = 0
    · exact .inl h0
    · refine .inr fun z => e ?_
      have hp := x.pos
      rw [sg_head (by omega), sg_turn (by omega), show h.length - 1 + u.length - h.length = u.length - 1 by omega, Nat.mod_eq_of_lt (by omega)] at z
      exact z
theorem Prim.head {h u : List Bool} : rng (sg h u) 0 h.length = h :=
  (ext_rng (a := 0) rfl fun i hi => by rw [Nat.zero_add, sg_head hi, getD_some hi]).symm
theorem Prim.turn {h u : List Bool} : rng (sg h u) h.length u.length = u :=
  (ext_rng (a := h.length) rfl fun i hi => by rw [sg_turn (by omega), show h.length + i - h.length = i by omega, Nat.mod_eq_of_lt hi, getD_some hi]).symm
theorem rep_getD {l : List Bool} {k i : Nat} (hi : i < k * l.length) (hl : 0 < l.length) : (rep k l).getD i false = l.getD (i % l.length) false := by
  rw [List.getD_eq_getElem?_getD, rep_get _ _ _ hi, List.getD_eq_getElem?_getD]
section
variable {h u : List Bool} {M k : Nat}
/-- a sign of the turn that is turned on and repeated -/
theorem wr_getD (hu : 0 < u.length) {i : Nat} (hi : i < k * u.length) : (rep k (rng (sg h u) M u.length)).getD i false = sg h u (M + i % u.length) := by
  rw [rep_getD (by rw [rng_len]; exact hi) (by rw [rng_len]; exact hu), rng_len, rng_getD _ _ _ _ (Nat.mod_lt _ hu)]
theorem wr_len : (rep k (rng (sg h u) M u.length)).length = k * u.length := by rw [rep_length, rng_len]
theorem sg_mul (hu : 0 < u.length) {n j : Nat} (hn : h.length ≤ n) : sg h u (n + u.length * j) = sg h u n := by
  rw [sg_turn (by omega), sg_turn hn, show n + u.length * j - h.length = (n - h.length) + u.length * j by omega, Nat.add_mul_mod_self_left]
theorem sg_mod (hu : 0 < u.length) (hM : h.length ≤ M) (i : Nat) : sg h u (M + i % u.length) = sg h u (M + i) := by
  have e : M + i = (M + i % u.length) + u.length * (i / u.length) := by
    have := Nat.mod_add_div i u.length
    omega
  rw [e, sg_mul hu (by omega)]
theorem wr_sg (hu : 0 < u.length) (hM : h.length ≤ M) (hk : 1 ≤ k) : sg (rng (sg h u) 0 M) (rep k (rng (sg h u) M u.length)) = sg h u := by
  funext n
  have hkl : 0 < k * u.length := Nat.mul_pos hk hu
  by_cases hn : n < M
  · rw [sg_head (by rw [rng_len]; exact hn), rng_getD _ _ _ _ hn, Nat.zero_add]
  · rw [sg_turn (by rw [rng_len]; omega), rng_len, wr_len, wr_getD hu (Nat.mod_lt _ hkl), Nat.mul_comm, Nat.mod_mul_right_mod, sg_mod hu hM]
    congr 1
    omega
theorem wr_per (x : IsPer u u.length) (hM : h.length ≤ M) (hk : 1 ≤ k) : IsPer (rep k (rng (sg h u) M u.length)) u.length := by
  have hu : 0 < u.length := x.pos
  have hkl : u.length ≤ k * u.length := Nat.le_mul_of_pos_left _ hk
  refine ⟨hu, by rw [wr_len]; exact hkl, fun i hi => ?_, fun j j1 j2 r => ?_⟩
  · rw [wr_len] at hi ⊢
    rw [wr_getD hu hi, wr_getD hu (Nat.mod_lt _ (by omega)), Nat.mul_comm, Nat.mod_mul_right_mod, Nat.add_mod_right]
  · refine x.least j j1 j2 fun i hi => ?_
    -- the place in the repeated turn that stands for i
    obtain ⟨a, ha⟩ : ∃ a, a = (i + u.length - (M - h.length) % u.length) % u.length := ⟨_, rfl⟩
    have al : a < u.length := by rw [ha]; exact Nat.mod_lt _ hu
    have hb := Nat.mod_lt (M - h.length) hu
    have e2 : ((M - h.length) + a) % u.length = i := by
      have hd := Nat.mod_add_div (M - h.length) u.length
      rw [ha, Nat.add_mod_mod]
      rw [show M - h.length + (i + u.length - (M - h.length) % u.length) = (i + u.length) + u.length * ((M - h.length) / u.length) by omega]
      rw [Nat.add_mul_mod_self_left, Nat.add_mod_right, Nat.mod_eq_of_lt hi]
    have key : ∀ c, sg h u (M + (a + c)) = u.getD ((i + c) % u.length) false := fun c => by
      rw [sg_turn (by omega)]
      congr 1
      rw [show M + (a + c) - h.length = ((M - h.length) + a) + c by omega, ← Nat.mod_add_mod, e2]
    have r2 := r a (by rw [wr_len]; omega)
    rw [wr_len, wr_getD hu (by omega), wr_getD hu (Nat.mod_lt _ (by omega)), Nat.mul_comm k, Nat.mod_mul_right_mod, sg_mod hu hM, sg_mod hu hM] at r2
    have k0 := key 0
    rw [Nat.add_zero, Nat.add_zero, Nat.mod_eq_of_lt hi] at k0
    rw [← k0, r2, key j]
theorem wr_beg (x : Prim h u) (hM : h.length ≤ M) (hk : 1 ≤ k) : IsBeg (rng (sg h u) 0 M) (rep k (rng (sg h u) M u.length)) u.length h.length := by
  have e := wr_sg (k := k) x.pos hM hk
  refine ⟨by rw [rng_len]; exact hM, fun n a b => ?_, ?_⟩
  · rw [e]
    exact sg_rot x.pos (rot_len u) a
  · rw [e]
    exact x.beg.least
end
/-- the part of a turn by which it goes can't be shortened -/
theorem part_per {t : List Bool} {s : Nat} (p : IsPer t s) : IsPer (t.take s) (t.take s).length := by
  have hl := take_len p
  have hs : 0 < s := p.pos
  have ht : 0 < t.length := Nat.lt_of_lt_of_le p.pos p.le
  refine ⟨by omega, Nat.le_refl _, rot_len _, fun j j1 j2 r => ?_⟩
  rw [hl] at j2
  refine p.least j j1 j2 fun i hi => ?_
  rw [rot_part p.pos p.dvd ht p.rot i hi, rot_part p.pos p.dvd ht p.rot _ (Nat.mod_lt _ ht)]
  obtain ⟨q, hq⟩ : ∃ q, t.length = s * q := ⟨t.length / s, by
    have := Nat.mod_add_div t.length s
    have hd := p.dvd
    omega⟩
  rw [hq, Nat.mod_mul_right_mod]
  have h1 := r (i % s) (by rw [hl]; exact Nat.mod_lt _ hs)
  rw [hl, take_getD (Nat.mod_lt _ hs), take_getD (Nat.mod_lt _ hs), Nat.mod_add_mod] at h1
  exact h1
end Row
namespace G2
open PySem PySem.Spec PyProof.Rows L2 G1 Row
local macro_rules | `(tactic| walk_at "side") => `(tactic| first
  | assumption
  | omega
  | (constructor <;> omega)
  | rfl
  | decide
  | (dsimp only; decide)
  | (refine szl ?_; simp only [List.length_cons, List.length_nil]; omega)
  | (unfold CMul; omega)
  | (unfold CDiv; omega)
  | (unfold CPow; omega)
  | (unfold CMul; simp; done)
  | (unfold CMul; simp; omega)
  | (simp only [List.length_map, List.length_append, List.length_take, List.length_drop, rep_length, List.length_cons, List.length_nil, Nat.zero_add, Nat.mul_one]; omega))
local macro_rules | `(tactic| walk_at "go1") => `(tactic| first
  | (apply go_bit; (focus walk_at "side"); rw [B_str _ (by walk_at "side") (by walk_at "side")])
  | (apply go_lenS; (focus walk_at "side"); simp only [B_len])
  | (apply go_addS; (focus walk_at "side"); rw [B_app])
  | (apply go_mulS; (focus walk_at "side"); (focus walk_at "side"); rw [B_mul _ (by walk_at "side")])
  | (apply go_sl; (focus walk_at "side"); first | rw [B_last] | rw [B_init] | rw [B_to _ (by walk_at "side")] | rw [B_from _ (by walk_at "side")] | rw [B_mid _ (by walk_at "side") (by walk_at "side")])
  | refine ⟨_, rfl, ?_⟩
  | refine ⟨_, _, rfl, rfl, ?_⟩
  | refine ⟨_, _, _, rfl, rfl, ?_⟩
  | refine ⟨_, _, rfl, ?_⟩
  | refine ⟨_, _, _, rfl, ?_⟩
  | (apply go_tup; assumption)
  | (apply go_unl; assumption)
  | (apply go_ixL; assumption; (first | rfl | assumption))
  | (apply go_ixT; assumption; (first | rfl | assumption))
  | (apply go_lenL; assumption)
  | refine Or.inl ⟨_, rfl, ?_⟩
  | (refine And.intro ?ll ?_; (case ll => walk_at "side")))
local macro_rules | `(tactic| walk_at "go") => `(tactic| repeat (walk_at "go1"))
def topS (i : Nat) : Stmt := PySem.Challenge.pw_leastmakers_k02_least_tables.main.body.getD i (.Pass ⟨0, 0, 0, 0⟩)
abbrev s_least : Stmt := topS 1
abbrev nm_least : List Str := ["table", "head", "turn", "alike", "cut"]
theorem sc_least : FnScope nm_least ["table"] (defScope s_least) := ⟨rfl, rfl, rfl, by decide +kernel, rfl, by decide +kernel, by decide +kernel⟩
abbrev s_shortest : Stmt := topS 2
abbrev nm_shortest : List Str := ["turn", "many", "size"]
theorem sc_shortest : FnScope nm_shortest ["turn"] (defScope s_shortest) := ⟨rfl, rfl, rfl, by decide +kernel, rfl, by decide +kernel, by decide +kernel⟩
abbrev s_alike : Stmt := topS 3
abbrev nm_alike : List Str := ["head", "turn", "alike"]
theorem sc_alike : FnScope nm_alike ["head", "turn"] (defScope s_alike) := ⟨rfl, rfl, rfl, by decide +kernel, rfl, by decide +kernel, by decide +kernel⟩
abbrev s_isleast : Stmt := topS 4
abbrev nm_isleast : List Str := ["table"]
theorem sc_isleast : FnScope nm_isleast ["table"] (defScope s_isleast) := ⟨rfl, rfl, rfl, by decide +kernel, rfl, by decide +kernel, by decide +kernel⟩
abbrev s_well : Stmt := topS 6
abbrev nm_well : List Str := ["_law_script", "_law_great", "_law_cells", "_law_cell"]
theorem sc_well : FnScope nm_well ["_law_script"] (defScope s_well) := ⟨rfl, rfl, rfl, by decide +kernel, rfl, by decide +kernel, by decide +kernel⟩
abbrev s_draw : Stmt := topS 7
abbrev nm_draw : List Str := ["_law_well_here", "_law_size_here", "_law_rest", "_law_count", "_law_mixed"]
theorem sc_draw : FnScope nm_draw ["_law_well_here", "_law_size_here"] (defScope s_draw) := ⟨rfl, rfl, rfl, by decide +kernel, rfl, by decide +kernel, by decide +kernel⟩
abbrev s_pick : Stmt := topS 8
abbrev nm_pick : List Str := ["_law_well_here", "_law_items"]
theorem sc_pick : FnScope nm_pick ["_law_well_here", "_law_items"] (defScope s_pick) := ⟨rfl, rfl, rfl, by decide +kernel, rfl, by decide +kernel, by decide +kernel⟩
abbrev s_bits : Stmt := topS 9
abbrev nm_bits : List Str := ["_law_well_here", "_law_size_here", "_law_found", "_law_turn", "_law_mixed", "_law_k"]
theorem sc_bits : FnScope nm_bits ["_law_well_here", "_law_size_here"] (defScope s_bits) := ⟨rfl, rfl, rfl, by decide +kernel, rfl, by decide +kernel, by decide +kernel⟩
abbrev s_word : Stmt := topS 10
abbrev nm_word : List Str := ["_law_well_here", "_law_size_here", "_law_kind", "_law_at", "_law_own", "_law_odd", "_law_short", "_law_found"]
theorem sc_word : FnScope nm_word ["_law_well_here", "_law_size_here"] (defScope s_word) := ⟨rfl, rfl, rfl, by decide +kernel, rfl, by decide +kernel, by decide +kernel⟩
abbrev s_written : Stmt := topS 11
abbrev nm_written : List Str := ["_law_well_here", "_law_x", "_law_more", "_law_longer", "_law_often", "_law_row", "_law_cut"]
theorem sc_written : FnScope nm_written ["_law_well_here", "_law_x", "_law_more"] (defScope s_written) := ⟨rfl, rfl, rfl, by decide +kernel, rfl, by decide +kernel, by decide +kernel⟩
abbrev s_lleast : Stmt := topS 12
abbrev nm_lleast : List Str := ["_law_x", "_law_size_here", "_law_row", "_law_low", "_law_high", "_law_turn", "_law_middle"]
theorem sc_lleast : FnScope nm_lleast ["_law_x"] (defScope s_lleast) := ⟨rfl, rfl, rfl, by decide +kernel, rfl, by decide +kernel, by decide +kernel⟩
abbrev s_base : Stmt := topS 13
abbrev nm_base : List Str := ["_law_well_here", "_law_tall", "_law_wide", "_law_word_here", "_law_turn", "_law_head"]
theorem sc_base : FnScope nm_base ["_law_well_here", "_law_tall", "_law_wide"] (defScope s_base) := ⟨rfl, rfl, rfl, by decide +kernel, rfl, by decide +kernel, by decide +kernel⟩
abbrev s_spoilt : Stmt := topS 14
abbrev nm_spoilt : List Str := ["_law_well_here", "_law_x", "_law_at", "_law_row"]
theorem sc_spoilt : FnScope nm_spoilt ["_law_well_here", "_law_x"] (defScope s_spoilt) := ⟨rfl, rfl, rfl, by decide +kernel, rfl, by decide +kernel, by decide +kernel⟩
abbrev s_size : Stmt := topS 15
abbrev nm_size : List Str := ["_law_well_here", "_law_is_great", "_law_heads"]
theorem sc_size : FnScope nm_size ["_law_well_here", "_law_is_great"] (defScope s_size) := ⟨rfl, rfl, rfl, by decide +kernel, rfl, by decide +kernel, by decide +kernel⟩
abbrev s_law : Stmt := topS 16
abbrev nm_law : List Str := ["_law_script", "_law_well_here", "_law_turn", "_law_tall", "_law_wide", "_law_x", "_law_k", "_law_y", "_law_due", "_law_z", "_law_known", "_law_told", "_law_own"]
theorem sc_law : FnScope nm_law ["_law_script"] (defScope s_law) := ⟨rfl, rfl, rfl, by decide +kernel, rfl, by decide +kernel, by decide +kernel⟩
structure Tp (K : PySem.W.Frag) (mg : Str → Option Value) where
  a_least : Addr
  d_least : FuncData
  F_least : Fun K "least" "least" s_least a_least d_least
  g_least : mg "least" = some (.ref a_least)
  a_shortest : Addr
  d_shortest : FuncData
  F_shortest : Fun K "_shortest_turn" "_shortest_turn" s_shortest a_shortest d_shortest
  g_shortest : mg "_shortest_turn" = some (.ref a_shortest)
  a_alike : Addr
  d_alike : FuncData
  F_alike : Fun K "_alike_signs" "_alike_signs" s_alike a_alike d_alike
  g_alike : mg "_alike_signs" = some (.ref a_alike)
  a_isleast : Addr
  d_isleast : FuncData
  F_isleast : Fun K "is_least" "is_least" s_isleast a_isleast d_isleast
  g_isleast : mg "is_least" = some (.ref a_isleast)
  a_well : Addr
  d_well : FuncData
  F_well : Fun K "_law_well" "_law_well" s_well a_well d_well
  g_well : mg "_law_well" = some (.ref a_well)
  a_draw : Addr
  d_draw : FuncData
  F_draw : Fun K "_law_draw" "_law_draw" s_draw a_draw d_draw
  g_draw : mg "_law_draw" = some (.ref a_draw)
  a_pick : Addr
  d_pick : FuncData
  F_pick : Fun K "_law_pick" "_law_pick" s_pick a_pick d_pick
  g_pick : mg "_law_pick" = some (.ref a_pick)
  a_bits : Addr
  d_bits : FuncData
  F_bits : Fun K "_law_bits" "_law_bits" s_bits a_bits d_bits
  g_bits : mg "_law_bits" = some (.ref a_bits)
  a_word : Addr
  d_word : FuncData
  F_word : Fun K "_law_word" "_law_word" s_word a_word d_word
  g_word : mg "_law_word" = some (.ref a_word)
  a_written : Addr
  d_written : FuncData
  F_written : Fun K "_law_written" "_law_written" s_written a_written d_written
  g_written : mg "_law_written" = some (.ref a_written)
  a_lleast : Addr
  d_lleast : FuncData
  F_lleast : Fun K "_law_least" "_law_least" s_lleast a_lleast d_lleast
  g_lleast : mg "_law_least" = some (.ref a_lleast)
  a_base : Addr
  d_base : FuncData
  F_base : Fun K "_law_base" "_law_base" s_base a_base d_base
  g_base : mg "_law_base" = some (.ref a_base)
  a_spoilt : Addr
  d_spoilt : FuncData
  F_spoilt : Fun K "_law_spoilt" "_law_spoilt" s_spoilt a_spoilt d_spoilt
  g_spoilt : mg "_law_spoilt" = some (.ref a_spoilt)
  a_size : Addr
  d_size : FuncData
  F_size : Fun K "_law_size" "_law_size" s_size a_size d_size
  g_size : mg "_law_size" = some (.ref a_size)
  a_law : Addr
  d_law : FuncData
  F_law : Fun K "law" "law" s_law a_law d_law
  g_law : mg "law" = some (.ref a_law)
  n_abs : mg "abs" = none
  n_int : mg "int" = none
  n_len : mg "len" = none
  n_min : mg "min" = none
  n_range : mg "range" = none
  n_repr : mg "repr" = none
  n_str : mg "str" = none
  n_sum : mg "sum" = none
section
variable {K : PySem.W.Frag} {mg : Str → Option Value} (T : Tp K mg)
theorem b_least : Binds K T.d_least ["table"] [] := T.F_least.binds (ps := ["table"]) fun _ _ _ _ _ _ us hl => match us, hl with | [_], _ => rfl
theorem b_shortest : Binds K T.d_shortest ["turn"] [] := T.F_shortest.binds (ps := ["turn"]) fun _ _ _ _ _ _ us hl => match us, hl with | [_], _ => rfl
theorem b_alike : Binds K T.d_alike ["head", "turn"] [] := T.F_alike.binds (ps := ["head", "turn"]) fun _ _ _ _ _ _ us hl => match us, hl with | [_, _], _ => rfl
theorem b_isleast : Binds K T.d_isleast ["table"] [] := T.F_isleast.binds (ps := ["table"]) fun _ _ _ _ _ _ us hl => match us, hl with | [_], _ => rfl
theorem b_well : Binds K T.d_well ["_law_script"] [] := T.F_well.binds (ps := ["_law_script"]) fun _ _ _ _ _ _ us hl => match us, hl with | [_], _ => rfl
theorem b_draw : Binds K T.d_draw ["_law_well_here", "_law_size_here"] [] := T.F_draw.binds (ps := ["_law_well_here", "_law_size_here"]) fun _ _ _ _ _ _ us hl => match us, hl with | [_, _], _ => rfl
theorem b_pick : Binds K T.d_pick ["_law_well_here", "_law_items"] [] := T.F_pick.binds (ps := ["_law_well_here", "_law_items"]) fun _ _ _ _ _ _ us hl => match us, hl with | [_, _], _ => rfl
theorem b_bits : Binds K T.d_bits ["_law_well_here", "_law_size_here"] [] := T.F_bits.binds (ps := ["_law_well_here", "_law_size_here"]) fun _ _ _ _ _ _ us hl => match us, hl with | [_, _], _ => rfl
theorem b_word : Binds K T.d_word ["_law_well_here", "_law_size_here"] [] := T.F_word.binds (ps := ["_law_well_here", "_law_size_here"]) fun _ _ _ _ _ _ us hl => match us, hl with | [_, _], _ => rfl
theorem b_written : Binds K T.d_written ["_law_well_here", "_law_x", "_law_more"] [] := T.F_written.binds (ps := ["_law_well_here", "_law_x", "_law_more"]) fun _ _ _ _ _ _ us hl => match us, hl with | [_, _, _], _ => rfl
theorem b_lleast : Binds K T.d_lleast ["_law_x"] [] := T.F_lleast.binds (ps := ["_law_x"]) fun _ _ _ _ _ _ us hl => match us, hl with | [_], _ => rfl
theorem b_base : Binds K T.d_base ["_law_well_here", "_law_tall", "_law_wide"] [] := T.F_base.binds (ps := ["_law_well_here", "_law_tall", "_law_wide"]) fun _ _ _ _ _ _ us hl => match us, hl with | [_, _, _], _ => rfl
theorem b_spoilt : Binds K T.d_spoilt ["_law_well_here", "_law_x"] [] := T.F_spoilt.binds (ps := ["_law_well_here", "_law_x"]) fun _ _ _ _ _ _ us hl => match us, hl with | [_, _], _ => rfl
theorem b_size : Binds K T.d_size ["_law_well_here", "_law_is_great"] [] := T.F_size.binds (ps := ["_law_well_here", "_law_is_great"]) fun _ _ _ _ _ _ us hl => match us, hl with | [_, _], _ => rfl
theorem b_law : Binds K T.d_law ["_law_script"] [] := T.F_law.binds (ps := ["_law_script"]) fun _ _ _ _ _ _ us hl => match us, hl with | [_], _ => rfl
end
section
variable {P : Program} {wd : World} {K : PySem.W.Frag} {mg : Str → Option Value} {base : Heap} (T : Tp K mg)
/-- a draw: any number below the size -/
def spDraw : Sp := fun vs H Q _ => ∃ (w g : Addr) (n : Int), vs = [.ref w, .int n] ∧ WellAt w g H ∧ 0 < n ∧ n < 1073741824 ∧
  ∀ (d : Int) H', Go w g H H' → WellAt w g H' → 0 ≤ d → d < n → Q (.int d) H'
theorem ok_draw : FnOk P wd K mg base CX0 1 T.a_draw T.d_draw ["_law_well_here", "_law_size_here"] spDraw := by
  refine T.F_draw.ok sc_draw (fun vs H Q E h => ?_) (fun cdv A outer s H vs Q E hr h => ?_)
  · obtain ⟨w, g, n, rfl, _⟩ := h
    rfl
  · have hu4 : (cxOf CX0 P wd K mg base nm_draw "_law_draw" (defScope s_draw) T.a_draw cdv A outer s H E).A.units + 64 < cLine := hr.units
    obtain ⟨w, g, n, rfl, W, n0, n1, q⟩ := h
    refine ⟨_, (pss_cons (ps_if (pt_cmpR (op_neD hu4) (pe_ix ix_list (pv 0) pe_int (fun _ _ => rfl)) (pe_lst pa_nil) (nomark _)) (pss_cons (ps_set (i := 2) sc_draw.nd rfl (Or.inl rfl) (pe_ix ix_list (pe_ix ix_list (pv 0) pe_int (fun _ _ => rfl)) pe_int (fun _ _ => rfl)))
      (pss_cons (ps_asg (pe_op op_fdiv (pv 2) (pv 1)) (pg_sub (pe_ix ix_list (pv 0) pe_int (fun _ _ => rfl)) pe_int set_list))
      (pss_cons (ps_if (pt_cmpR op_lt (pv 2) (pv 1) (nomark _)) (pss_one (ps_expr (pe_bm PySem.F.plainAttrs_list PySem.F.slot_list_pop PySem.F.type_list_pop mt_popAt (pe_ix ix_list (pv 0) pe_int (fun _ _ => rfl)) (pa_cons pe_int pa_nil)))) pss_nil)
      (pss_one (ps_ret (pe_op op_mod (pe_callTy call_int1 rfl T.n_int (by decide +kernel) (pa_cons (pv 2) pa_nil)) (pv 1))))))) pss_nil)
      (pss_cons (ps_asg (pe_op op_add (pe_ix ix_list (pv 0) pe_int (fun _ _ => rfl)) pe_int) (pg_sub (pv 0) pe_int set_list))
      (pss_cons (ps_set (i := 3) sc_draw.nd rfl (Or.inl rfl) (pe_callTy call_int1 rfl T.n_int (by decide +kernel) (pa_cons (pe_ix ix_list (pv 0) pe_int (fun _ _ => rfl)) pa_nil)))
      (pss_cons (ps_set (i := 4) sc_draw.nd rfl (Or.inl rfl) (pe_op op_mod (pe_callTy call_int1 rfl T.n_int (by decide +kernel) (pa_cons (pe_op op_add (pe_op op_add (pe_op op_mul (pe_ix ix_list (pe_ix ix_list (pv 0) pe_int (fun _ _ => rfl)) (pe_op op_mod (pv 3) (pe_callB call_len_seq rfl T.n_len PySem.boot_len (pa_cons (pe_ix ix_list (pv 0) pe_int (fun _ _ => rfl)) pa_nil))) (fun _ _ => rfl)) pe_int) (pe_op op_mul (pe_ix ix_list (pe_ix ix_list (pv 0) pe_int (fun _ _ => rfl)) (pe_un un_neg pe_int) (fun _ _ => rfl)) pe_int)) (pe_op op_mul (pv 3) pe_int)) pa_nil)) pe_int))
      (pss_cons (ps_set (i := 4) sc_draw.nd rfl (Or.inl rfl) (pe_op op_mod (pe_callTy call_int1 rfl T.n_int (by decide +kernel) (pa_cons (pe_op op_add (pe_op op_mul (pv 4) (pv 4)) (pe_op op_mul (pv 3) pe_int)) pa_nil)) pe_int))
      (pss_one (ps_ret (pe_op op_mod (pe_op op_fdiv (pe_op op_mod (pe_callTy call_int1 rfl T.n_int (by decide +kernel) (pa_cons (pe_op op_add (pe_op op_mul (pv 4) (pv 4)) (pe_op op_mul pe_int (pv 4))) pa_nil)) pe_int) pe_int) (pv 1))))))))), ?_⟩
    obtain ⟨c, gs, cs, k, e1, e2, e3, hw, hg, hc, h0, hgs, hcs⟩ := W
    walk_at "go"
    intro o no
    have nwo := ne_of_none hw no
    have ngo := ne_of_none hg no
    have nco := ne_of_none hc no
    have s1 : Same H (upd H o (.lst [])) := same_new no
    have ho : (upd H o (.lst [])) o = some (.lst []) := upd_same
    generalize upd H o (.lst []) = H1 at s1 ho
    replace hw := s1 _ _ hw
    replace hg := s1 _ _ hg
    replace hc := s1 _ _ hc
    refine ⟨.list (gs.map PyData.int), .list [], .lst (sqL_of hg) (dpAll_ints _), .lst (sqL_of ho) .nil, shaped_ints _, by rfl, _, rfl, ?_⟩
    rw [eqv_ints_nil]
    refine ifDn (fun hne => ?_) (fun he => ?_)
    · obtain ⟨r, gs', rfl⟩ : ∃ r gs', gs = r :: gs' := by
        cases gs with
        | nil => exact absurd rfl hne
        | cons r gs' => exact ⟨r, gs', rfl⟩
      rw [List.map_cons] at hg
      walk_at "go"
      refine ⟨_, _, _, 0, rfl, rfl, hg, ix_zero (by simp), ?_⟩
      -- if rest < size
      have hg2 : (upd H1 g (.lst ((V.int r :: gs'.map V.int).set 0 (V.int (r / n))))) g = some (.lst (((r / n) :: gs').map V.int)) := upd_same
      have hw2 : (upd H1 g (.lst ((V.int r :: gs'.map V.int).set 0 (V.int (r / n))))) w = _ := (upd_ne e1).trans hw
      have hc2 : (upd H1 g (.lst ((V.int r :: gs'.map V.int).set 0 (V.int (r / n))))) c = _ := (upd_ne e2).trans hc
      have s2 : Go w g H (upd H1 g (.lst ((V.int r :: gs'.map V.int).set 0 (V.int (r / n))))) := fun a x n1 n2 e => by
        rw [upd_ne n2]
        exact s1 _ _ e
      generalize upd H1 g (.lst ((V.int r :: gs'.map V.int).set 0 (V.int (r / n)))) = H2 at hg2 hw2 hc2 s2
      walk_at "go"
      refine ifD (fun lt => ?_) (fun nlt => ?_)
      · walk_at "go"
        refine ⟨Or.inl ⟨rfl, _, sqL_of hg2⟩, ?_⟩
        refine ⟨_, _, 0, 0, .int (r / n), rfl, rfl, hg2, by decide, by decide, by rw [List.length_map, List.length_cons]; exact seq_zero _, rfl, ?_⟩
        have hg3 : (upd H2 g (.lst ((((r / n) :: gs').map V.int).eraseIdx 0))) g = some (.lst (gs'.map V.int)) := upd_same
        have hw3 : (upd H2 g (.lst ((((r / n) :: gs').map V.int).eraseIdx 0))) w = _ := (upd_ne e1).trans hw2
        have hc3 : (upd H2 g (.lst ((((r / n) :: gs').map V.int).eraseIdx 0))) c = _ := (upd_ne e2).trans hc2
        have s3 : Go w g H (upd H2 g (.lst ((((r / n) :: gs').map V.int).eraseIdx 0))) := fun a x n1 n2 e => by
          rw [upd_ne n2]
          exact s2 _ _ n1 n2 e
        generalize upd H2 g (.lst ((((r / n) :: gs').map V.int).eraseIdx 0)) = H3 at hg3 hw3 hc3 s3
        walk_at "go"
        exact q _ _ s3 ⟨c, gs', cs, k, e1, e2, e3, hw3, hg3, hc3, h0, by rw [List.length_cons] at hgs; omega, hcs⟩ (Int.emod_nonneg _ (by omega)) (Int.emod_lt_of_pos _ n0)
      · walk_at "go"
        exact q _ _ s2 ⟨c, _, cs, k, e1, e2, e3, hw2, hg2, hc2, h0, by rw [List.length_cons] at hgs ⊢; omega, hcs⟩ (Int.emod_nonneg _ (by omega)) (Int.emod_lt_of_pos _ n0)
    · subst he
      walk_at "go"
      refine ⟨_, _, _, 2, rfl, rfl, hw, ix_at (j := 2) rfl (by simp), ?_⟩
      have hw2 : (upd H1 w (.lst ([V.ref g, V.ref c, V.int k].set 2 (V.int (k + 1))))) w = some (.lst [V.ref g, V.ref c, V.int (k + 1)]) := upd_same
      have hg2 : (upd H1 w (.lst ([V.ref g, V.ref c, V.int k].set 2 (V.int (k + 1))))) g = _ := (upd_ne e1.symm).trans hg
      have hc2 : (upd H1 w (.lst ([V.ref g, V.ref c, V.int k].set 2 (V.int (k + 1))))) c = _ := (upd_ne e3).trans hc
      have s2 : Go w g H (upd H1 w (.lst ([V.ref g, V.ref c, V.int k].set 2 (V.int (k + 1))))) := fun a x n1 n2 e => by
        rw [upd_ne n1]
        exact s1 _ _ e
      generalize upd H1 w (.lst ([V.ref g, V.ref c, V.int k].set 2 (V.int (k + 1)))) = H2 at hg2 hw2 hc2 s2
      have hm : ((k + 1) % (((cs.map V.int).length : Nat) : Int)).toNat < cs.length := by
        rw [List.length_map]
        have h1 := Int.emod_nonneg (k + 1) (show (cs.length : Int) ≠ 0 by omega)
        have h2 := Int.emod_lt_of_pos (k + 1) (show 0 < (cs.length : Int) by omega)
        omega
      obtain ⟨x, hx⟩ : ∃ x, cs[((k + 1) % (((cs.map V.int).length : Nat) : Int)).toNat]? = some x := ⟨_, List.getElem?_eq_getElem hm⟩
      obtain ⟨z, hz⟩ : ∃ z, cs[cs.length - 1]? = some z := ⟨_, List.getElem?_eq_getElem (by omega)⟩
      walk_at "go"
      refine go_ixLi (xs := cs.map V.int) (v := .int x) hc2 (j := ((k + 1) % (((cs.map V.int).length : Nat) : Int)).toNat) ?_ (by rw [List.getElem?_map, hx]; rfl) ?_
      · rw [Int.toNat_of_nonneg (Int.emod_nonneg _ (by rw [List.length_map]; omega))]
      walk_at "go"
      refine go_ixLast (v := .int z) hc2 (by rw [List.length_map, List.getElem?_map, hz]; rfl) ?_
      walk_at "go"
      exact q _ _ s2 ⟨c, [], cs, k + 1, e1, e2, e3, hw2, hg2, hc2, h0, hgs, hcs⟩ (Int.emod_nonneg _ (by omega)) (Int.emod_lt_of_pos _ n0)
/-- one of the items -/
def spPick : Sp := fun vs H Q _ => ∃ (w g l : Addr) (xs : List V), vs = [.ref w, .ref l] ∧ WellAt w g H ∧ At w g H l (.lst xs) ∧ 0 < xs.length ∧ xs.length < 1000000 ∧
  ∀ x H', x ∈ xs → Go w g H H' → WellAt w g H' → Q x H'
theorem ok_pick : FnOk P wd K mg base CX0 2 T.a_pick T.d_pick ["_law_well_here", "_law_items"] spPick := by
  have G_draw : FnOk P wd K mg base CX0 1 T.a_draw T.d_draw ["_law_well_here", "_law_size_here"] spDraw := ok_draw T
  refine T.F_pick.ok sc_pick (fun vs H Q E h => ?_) (fun cdv A outer s H vs Q E hr h => ?_)
  · obtain ⟨w, g, l, xs, rfl, _⟩ := h
    rfl
  · obtain ⟨w, g, l, xs, rfl, W, L, l0, l1, q⟩ := h
    refine ⟨_, (pss_one (ps_ret (pe_ix ix_list (pv 1) (pe_call G_draw hr rfl T.g_draw T.F_draw.kp (b_draw T) .nil pass0 (pa_cons (pv 0) (pa_cons (pe_callB call_len_seq rfl T.n_len PySem.boot_len (pa_cons (pv 1) pa_nil)) pa_nil))) (fun _ _ => rfl)))), ?_⟩
    have hl := L.at_
    walk_at "go"
    refine ⟨w, g, _, rfl, W, by omega, by omega, fun d H' s1 W1 d0 d1 => ?_⟩
    have L1 := L.go s1
    have hl1 := L1.at_
    obtain ⟨x, hx⟩ : ∃ x, xs[d.toNat]? = some x := ⟨_, List.getElem?_eq_getElem (by omega)⟩
    refine go_ixLi hl1 (j := d.toNat) (by omega) hx ?_
    exact q x H' (List.mem_of_getElem? hx) s1 W1
/-! ### the well -/
theorem sum_of (ns : List Int) : (ns.map V.int) = ns.map V.int := rfl
def spWell (K : PySem.W.Frag) : Sp := fun vs H Q _ => ∃ (a : Addr) (ns : List Int), vs = [.ref a] ∧ SqL K H a (ns.map V.int) ∧ ns.length ≤ 63 ∧
  ∀ w g H', Same H H' → WellAt w g H' → Q (.ref w) H'
theorem cut63 {xs : List V} {n : Nat} (h : xs.length ≤ n) : cutV xs none (some (n : Int)) = xs := by
  unfold cutV
  rw [sIx_of _ _ (by omega)]
  show (xs.drop 0).take (min (n : Int).toNat xs.length - 0) = xs
  rw [List.drop_zero, Nat.sub_zero, Int.toNat_natCast, Nat.min_eq_right h, List.take_length]
theorem ok_well : FnOk P wd K mg base CX0 1 T.a_well T.d_well ["_law_script"] (spWell K) := by
  refine T.F_well.ok sc_well (fun vs H Q E h => ?_) (fun cdv A outer s H vs Q E hr h => ?_)
  · obtain ⟨a, ns, rfl, _⟩ := h
    rfl
  · obtain ⟨a, ns, rfl, hS, hl, q⟩ := h
    refine ⟨_, (pss_cons (ps_setLc (i := 1) (own := [("_law_cell", 3)]) rfl sc_well.nd rfl rfl (sw_true rfl rfl rfl (by decide +kernel)) (pi_list (pe_slice sl_list (pv 0) po_none (po_some pe_int))) (blkOk_by (N := nm_well) (sc := defScope s_well) (by decide +kernel)) (fun _ _ _ _ _ => pg_name (i := 3) sc_well.nd rfl (Or.inl rfl)) (fun _ _ _ _ _ => pts_one (pt_cmpR op_ge (pe_callB call_abs rfl T.n_abs (by decide +kernel) (pa_cons (pv 3) pa_nil)) (pe_op op_pow pe_int pe_int) (nomark _))) (fun _ _ _ _ _ => (pe_callB call_abs rfl T.n_abs (by decide +kernel) (pa_cons (pv 3) pa_nil))))
      (pss_cons (ps_setLc (i := 2) (own := [("_law_cell", 3)]) rfl sc_well.nd rfl rfl (sw_true rfl rfl rfl (by decide +kernel)) (pi_list (pe_slice sl_list (pv 0) po_none (po_some pe_int))) (blkOk_by (N := nm_well) (sc := defScope s_well) (by decide +kernel)) (fun _ _ _ _ _ => pg_name (i := 3) sc_well.nd rfl (Or.inl rfl)) (fun _ _ _ _ _ => pts_nil) (fun _ _ _ _ _ => (pe_ifExp (pt_cmpR op_gt (pv 3) pe_int (nomark _)) (pe_op op_mul pe_int (pv 3)) (pe_op op_sub pe_int (pe_op op_mul pe_int (pv 3))))))
      (pss_one (ps_ret (pe_lst (pa_cons (pv 1) (pa_cons (pe_op op_cat (pv 2) (pe_lst (pa_cons (pe_op op_add (pe_op op_add (pe_callB (cr_sum rfl) rfl T.n_sum (by decide +kernel) (pa_cons (pv 2) pa_nil)) (pe_op op_mul pe_int (pe_callB call_len_seq rfl T.n_len PySem.boot_len (pa_cons (pv 2) pa_nil)))) pe_int) pa_nil))) (pa_cons pe_int pa_nil)))))))), ?_⟩
    walk_at "go"
    refine ⟨a, ns.map V.int, rfl, hS, ?_⟩
    rw [show (63 : Int) = ((63 : Nat) : Int) from rfl, cut63 (by rw [List.length_map]; exact hl)]
    intro c nc
    generalize hU : upd H c _ = H1
    obtain ⟨s1, hc⟩ := new_of0 nc hU
    refine ⟨c, rfl, ⟨_, sqL_of hc⟩, fun D nD => ?_⟩
    have mc : D ≠ c := (ne_of_none hc nD).symm
    refine lc_list (xs := ns.map V.int) (fun i H2 => ∃ gs : List Int, H2 D = some (.lst (gs.map V.int)) ∧ gs.length ≤ i ∧ Same H1 H2) ⟨[], upd_same, Nat.zero_le _, same_new nD⟩
      (fun i H2 _ p => sqL_of (p.choose_spec.2.2 _ _ hc)) (fun i x H2 hx p => ?_) (fun H2 p => ?_)
    · obtain ⟨gs, hD, hg, S⟩ := p
      obtain ⟨z, rfl⟩ : ∃ z, x = V.int z := by
        rw [List.getElem?_map] at hx
        cases e : ns[i]? with
        | none => rw [e] at hx; cases hx
        | some z => rw [e] at hx; exact ⟨z, (Option.some.inj hx).symm⟩
      refine ⟨rfl, ?_⟩
      walk_at "go"
      refine ifD (fun big => ?_) (fun nb => ?_)
      · walk_at "go"
        have hil : i < (ns.map V.int).length := (List.getElem?_eq_some_iff.mp hx).1
        rw [List.length_map] at hil
        refine ⟨_, hD, small1000 (by rw [List.length_map]; omega), gs ++ [_], by rw [upd_same, List.map_append]; rfl, by rw [List.length_append]; simp; omega, same_mut S nD⟩
      · exact ⟨gs, hD, by omega, S⟩
    · obtain ⟨gs, hD, hg, S⟩ := p
      rw [List.length_map] at hg
      walk_at "go"
      have S0 : Same H H2 := s1.trans S
      refine ⟨a, ns.map V.int, rfl, S0.seq hS, ?_⟩
      rw [cut63 (by rw [List.length_map]; exact hl)]
      intro c2 nc2
      generalize hU2 : upd H2 c2 _ = H3
      obtain ⟨s3, hc2⟩ := new_of0 nc2 hU2
      refine ⟨c2, rfl, ⟨_, sqL_of hc2⟩, fun D2 nD2 => ?_⟩
      refine lc_list (xs := ns.map V.int) (fun i H2 => ∃ gs : List Int, H2 D2 = some (.lst (gs.map V.int)) ∧ gs.length = i ∧ Same H3 H2) ⟨[], upd_same, rfl, same_new nD2⟩
        (fun i H2 _ p => sqL_of (p.choose_spec.2.2 _ _ hc2)) (fun i x H2 hx p => ?_) (fun H4 p => ?_)
      · obtain ⟨cs, hD2, hg2, S2⟩ := p
        obtain ⟨z, rfl⟩ : ∃ z, x = V.int z := by
          rw [List.getElem?_map] at hx
          cases e : ns[i]? with
          | none => rw [e] at hx; cases hx
          | some z => rw [e] at hx; exact ⟨z, (Option.some.inj hx).symm⟩
        have hil : i < (ns.map V.int).length := (List.getElem?_eq_some_iff.mp hx).1
        rw [List.length_map] at hil
        refine ⟨rfl, ?_⟩
        walk_at "go"
        refine ifD (fun big => ?_) (fun nb => ?_)
        · walk_at "go"
          refine ⟨_, hD2, small1000 (by rw [List.length_map]; omega), cs ++ [_], by rw [upd_same, List.map_append]; rfl, by rw [List.length_append]; simp; omega, same_mut S2 nD2⟩
        · walk_at "go"
          refine ⟨_, hD2, small1000 (by rw [List.length_map]; omega), cs ++ [_], by rw [upd_same, List.map_append]; rfl, by rw [List.length_append]; simp; omega, same_mut S2 nD2⟩
      · obtain ⟨cs, hD2, hg2, S2⟩ := p
        rw [List.length_map] at hg2
        walk_at "go"
        refine ⟨D2, cs, rfl, sqL_of hD2, ?_⟩
        walk_at "go"
        intro e ne
        generalize hU3 : upd H4 e _ = H5
        obtain ⟨s5, he⟩ := new_of0 ne hU3
        have hD3 := s5 _ _ hD2
        refine ⟨D2, e, _, _, rfl, rfl, hD3, he, ?_, fun p np => ?_⟩
        · exact Nat.le_trans (by rw [List.length_map]; simp; omega) (show 1000 ≤ sizeLine by decide)
        generalize hU6 : upd H5 p _ = H6
        obtain ⟨s6, hp⟩ := new_of0 np hU6
        walk_at "go"
        intro w nw
        generalize hU7 : upd H6 w _ = H7
        obtain ⟨s7, hw⟩ := new_of0 nw hU7
        have hDg : H6 D = some (.lst (gs.map V.int)) := s6 _ _ (s5 _ _ (S2 _ _ (s3 _ _ hD)))
        have Sall : Same H H7 := fun b o z => s7 _ _ (s6 _ _ (s5 _ _ (S2 _ _ (s3 _ _ (S0 _ _ z)))))
        have hpc : ∃ cs2 : List Int, H7 p = some (.lst (cs2.map V.int)) ∧ cs2.length = cs.length + 1 :=
          ⟨cs ++ [_], by rw [List.map_append]; exact s7 _ _ hp, by rw [List.length_append]; rfl⟩
        obtain ⟨cs2, hp2, hl2⟩ := hpc
        refine q w D H7 Sall ⟨p, gs, cs2, 0, (ne_of_none hDg nw).symm, ?_, ?_, hw, s7 _ _ hDg, hp2, by omega, by omega, by omega⟩
        · exact (ne_of_none (s5 _ _ (S2 _ _ (s3 _ _ hD))) np).symm
        · exact ne_of_none hp nw
/-- a text of so many signs -/
def spBits : Sp := fun vs H Q _ => ∃ (w g : Addr) (n : Int), vs = [.ref w, .int n] ∧ WellAt w g H ∧ 0 ≤ n ∧ n ≤ 5000 ∧
  ∀ (l : List Bool) H', Go w g H H' → WellAt w g H' → (l.length : Int) = n → Q (.str (B l)) H'
theorem ok_bits : FnOk P wd K mg base CX0 2 T.a_bits T.d_bits ["_law_well_here", "_law_size_here"] spBits := by
  have G_draw : FnOk P wd K mg base CX0 1 T.a_draw T.d_draw ["_law_well_here", "_law_size_here"] spDraw := ok_draw T
  refine T.F_bits.ok sc_bits (fun vs H Q E h => ?_) (fun cdv A outer s H vs Q E hr h => ?_)
  · obtain ⟨w, g, n, rfl, _⟩ := h
    rfl
  · obtain ⟨w, g, n, rfl, W, n0, n1, q⟩ := h
    refine ⟨_, (pss_cons (ps_set (i := 2) sc_bits.nd rfl (Or.inl rfl) pe_str)
      (pss_cons (ps_for PassesOwn.never rfl (pi_range1 rfl T.n_range (pa_cons (pe_op op_add (pe_op op_fdiv (pv 1) pe_int) pe_int) pa_nil)) (pg_name (i := 3) sc_bits.nd rfl (Or.inl rfl)) (pss_cons (ps_set (i := 4) sc_bits.nd rfl (Or.inr rfl) (pe_call G_draw hr rfl T.g_draw T.F_draw.kp (b_draw T) .nil pass0 (pa_cons (pv 0) (pa_cons pe_int pa_nil))))
      (pss_one (ps_set (i := 2) sc_bits.nd rfl (Or.inl rfl) (pe_op op_add_str (pv 2) (pe_bm PySem.F.plainAttrs_str PySem.F.slot_str_join PySem.F.type_str_join mt_join pe_str (pa_cons (pe_lc (own := [("_law_k", 5)]) rfl sc_bits.nd (pi_range1 rfl T.n_range (pa_cons pe_int pa_nil)) (blkOk_by (N := nm_bits) (sc := defScope s_bits) (by decide +kernel)) (fun _ _ _ _ _ => pg_name (i := 5) sc_bits.nd rfl (Or.inl rfl)) (fun _ _ _ _ _ => pts_nil) (fun _ _ _ _ _ => (pe_callTy call_str_int rfl T.n_str (by decide +kernel) (pa_cons (pe_op op_mod (pe_callTy call_int1 rfl T.n_int (by decide +kernel) (pa_cons (pe_op op_shr (pv 4) (pv 5)) pa_nil)) pe_int) pa_nil)))) pa_nil)))))))
      (pss_one (ps_ret (pe_slice sl_str (pv 2) po_none (po_some (pv 1))))))), ?_⟩
    walk_at "go"
    rw [show ("" : Str) = B [] from B_nil]
    refine for_range (n := (n / 16 + 1).toNat) (fun i σ H2 => ∃ (l : List Bool) (y3 y4 y5 : Option V), σ = [some (.ref w), some (.int n), some (.str (B l)), y3, y4, y5] ∧ l.length = 16 * i ∧ Go w g H H2 ∧ WellAt w g H2)
      ⟨[], none, none, none, rfl, rfl, Go.refl, W⟩ (fun i σ H2 hi p => ?_) (fun σ H2 p => ?_)
    · obtain ⟨l, y3, y4, y5, rfl, hl, s2, W2⟩ := p
      walk_at "go"
      refine ⟨w, g, _, rfl, W2, by omega, by omega, fun d H3 s3 W3 d0 d1 => ?_⟩
      walk_at "go"
      intro D nD
      refine lc_range (n := 16) (fun j H4 => ∃ bs : List Bool, H4 D = some (.lst (bs.map fun b => V.str (B [b]))) ∧ bs.length = j ∧ Same H3 H4) ⟨[], upd_same, rfl, same_new nD⟩ (fun j H4 hj p => ?_) (fun H4 p => ?_)
      · obtain ⟨bs, hD, hb, S⟩ := p
        refine ⟨rfl, ?_⟩
        walk_at "go"
        refine ⟨_, hD, small1000 (by rw [List.length_map]; omega), bs ++ [_], by rw [upd_same, List.map_append]; rfl, by rw [List.length_append, hb]; rfl, same_mut S nD⟩
      · obtain ⟨bs, hD, hb, S⟩ := p
        walk_at "go"
        refine go_join hD (by omega) ?_
        rw [joined]
        walk_at "go"
        refine ⟨l ++ bs, _, _, _, rfl, by rw [List.length_append]; omega, (s2.trans s3).trans (Go.of S), W3.same S⟩
    · obtain ⟨l, y3, y4, y5, rfl, hl, s2, W2⟩ := p
      have hl5 : l.length ≤ 6000 := by omega
      walk_at "go"
      refine q _ H2 s2 W2 ?_
      rw [List.length_take]
      omega
/-- a word: a text of so many signs -/
theorem ok_word : FnOk P wd K mg base CX0 3 T.a_word T.d_word ["_law_well_here", "_law_size_here"] spBits := by
  have G_draw : FnOk P wd K mg base CX0 1 T.a_draw T.d_draw ["_law_well_here", "_law_size_here"] spDraw := ok_draw T
  have G_bits : FnOk P wd K mg base CX0 2 T.a_bits T.d_bits ["_law_well_here", "_law_size_here"] spBits := ok_bits T
  refine T.F_word.ok sc_word (fun vs H Q E h => ?_) (fun cdv A outer s H vs Q E hr h => ?_)
  · obtain ⟨w, g, n, rfl, _⟩ := h
    rfl
  · obtain ⟨w, g, n, rfl, W, n0, n1, q⟩ := h
    refine ⟨_, (pss_cons (ps_if (pt_cmpR op_lt (pv 1) pe_int (nomark _)) (pss_one (ps_ret pe_str)) pss_nil)
      (pss_cons (ps_par (i := 2) (j := 3) rfl sc_word.nd rfl rfl (by decide) rfl rfl (pa_cons (pe_call G_draw (hr.mono (by decide)) rfl T.g_draw T.F_draw.kp (b_draw T) .nil pass0 (pa_cons (pv 0) (pa_cons pe_int pa_nil))) (pa_cons (pe_call G_draw (hr.mono (by decide)) rfl T.g_draw T.F_draw.kp (b_draw T) .nil pass0 (pa_cons (pv 0) (pa_cons (pv 1) pa_nil))) pa_nil)) rfl)
      (pss_cons (ps_if (pt_cmpR op_lt (pv 2) pe_int (nomark _)) (pss_cons (ps_asg (pe_ifExp (pt_cmpR op_lt (pv 2) pe_int (nomark _)) (pe_tup (pa_cons pe_str (pa_cons pe_str pa_nil))) (pe_tup (pa_cons pe_str (pa_cons pe_str pa_nil)))) (pg_tup rfl (pgs_cons (pg_name (i := 4) sc_word.nd rfl (Or.inl rfl)) (pgs_cons (pg_name (i := 5) sc_word.nd rfl (Or.inl rfl)) pgs_nil))))
      (pss_one (ps_ret (pe_ifExp (pt_cmpR op_in_seq (pv 2) (pe_tup (pa_cons pe_int (pa_cons pe_int pa_nil))) (by rfl)) (pe_op op_mulS (pv 4) (pv 1)) (pe_op op_add_str (pe_op op_add_str (pe_op op_mulS (pv 4) (pv 3)) (pv 5)) (pe_op op_mulS (pv 4) (pe_op op_sub (pe_op op_sub (pv 1) (pv 3)) pe_int))))))) pss_nil)
      (pss_cons (ps_if (pt_cmpR op_gt (pv 2) pe_int (nomark _)) (pss_one (ps_ret (pe_slice sl_str (pe_op op_mulS (pe_call G_bits hr rfl T.g_bits T.F_bits.kp (b_bits T) .nil pass0 (pa_cons (pv 0) (pa_cons (pe_callB (call_min2 rfl) rfl T.n_min (by decide +kernel) (pa_cons (pv 1) (pa_cons pe_int pa_nil))) pa_nil))) (pe_op op_add (pe_op op_fdiv (pv 1) pe_int) pe_int)) po_none (po_some (pv 1))))) pss_nil)
      (pss_cons (ps_set (i := 6) sc_word.nd rfl (Or.inl rfl) (pe_call G_bits hr rfl T.g_bits T.F_bits.kp (b_bits T) .nil pass0 (pa_cons (pv 0) (pa_cons (pe_op op_add pe_int (pe_call G_draw (hr.mono (by decide)) rfl T.g_draw T.F_draw.kp (b_draw T) .nil pass0 (pa_cons (pv 0) (pa_cons (pe_callB (call_min2 rfl) rfl T.n_min (by decide +kernel) (pa_cons (pv 1) (pa_cons pe_int pa_nil))) pa_nil)))) pa_nil))))
      (pss_cons (ps_set (i := 7) sc_word.nd rfl (Or.inl rfl) (pe_slice sl_str (pe_op op_mulS (pv 6) (pv 1)) po_none (po_some (pv 1))))
      (pss_cons (ps_if (pt_cmpR op_eq (pv 2) pe_int (nomark _)) (pss_one (ps_set (i := 7) sc_word.nd rfl (Or.inl rfl) (pe_op op_add_str (pe_op op_add_str (pe_slice sl_str (pv 7) po_none (po_some (pv 3))) (pe_ifExp (pt_cmpR op_eq (pe_ix ix_str (pv 7) (pv 3) (fun _ _ => rfl)) pe_str (nomark _)) pe_str pe_str)) (pe_slice sl_str (pv 7) (po_some (pe_op op_add (pv 3) pe_int)) po_none)))) pss_nil)
      (pss_one (ps_ret (pv 7)))))))))), ?_⟩
    walk_at "go"
    refine ifD (fun lt => ?_) (fun nlt => ?_)
    · rw [show ("" : Str) = B [] from B_nil]
      walk_at "go"
      exact q [] H Go.refl W (by simp; omega)
    · walk_at "go"
      refine ⟨w, g, _, rfl, W, by omega, by omega, fun d H1 s1 W1 d0 d1 => ?_⟩
      walk_at "go"
      refine ⟨w, g, _, rfl, W1, by omega, by omega, fun a H2 s2 W2 a0 a1 => ?_⟩
      walk_at "go"
      simp only [B_0, B_1]
      refine ifD (fun lt4 => ?_) (fun ge4 => ?_)
      · walk_at "go"
        refine ifD (fun lt2 => ?_) (fun ge2 => ?_)
        all_goals
          walk_at "go"
          intro p np
          generalize hU : upd H2 p _ = H3
          obtain ⟨s3, W3, ap⟩ := new_of W2 np hU
          have hp := ap.at_
          walk_at "go"
          intro p2 np2
          generalize hU2 : upd H3 p2 _ = H4
          obtain ⟨s4, W4, ap2⟩ := new_of W3 np2 hU2
          have S : Go w g H H4 := ((s1.trans s2).trans (Go.of s3)).trans (Go.of s4)
          refine ⟨_, _, rfl, Or.inr (sqT_of ap2.at_), rfl, rfl, ?_⟩
          walk_at "go"
          refine ifB (fun _ => ?_) (fun _ => ?_)
          · walk_at "go"
            exact q _ H4 S W4 (by rw [rep_length]; simp; omega)
          · walk_at "go"
            exact q _ H4 S W4 (by rw [List.length_append, List.length_append, rep_length, rep_length]; simp; omega)
      · walk_at "go"
        refine ifD (fun gt5 => ?_) (fun le5 => ?_)
        · walk_at "go"
          refine ⟨w, g, _, rfl, W2, by split <;> omega, by split <;> omega, fun l H3 s3 W3 hl => ?_⟩
          have S : Go w g H H3 := (s1.trans s2).trans s3
          have hl640 : l.length ≤ 640 := by split at hl <;> omega
          have hk : (n / 640 + 1).toNat ≤ 8 := by omega
          have hm : l.length * (n / 640 + 1).toNat ≤ 1000000 := mul_le hl640 hk (by decide)
          have hr : (rep (n / 640 + 1).toNat l).length ≤ 1000000 := by rw [rep_length, Nat.mul_comm]; exact hm
          walk_at "go"
          refine q _ H3 S W3 ?_
          rw [List.length_take, rep_length]
          have key : n.toNat ≤ (n / 640 + 1).toNat * l.length := by
            by_cases h6 : 640 < n
            · rw [if_pos h6] at hl
              rw [show l.length = 640 by omega]
              omega
            · rw [if_neg h6] at hl
              refine Nat.le_trans (show n.toNat ≤ 1 * l.length by omega) (Nat.mul_le_mul (by omega) (Nat.le_refl _))
          omega
        · walk_at "go"
          refine ⟨w, g, _, rfl, W2, by split <;> omega, by split <;> omega, fun e H3 s3 W3 e0 e1 => ?_⟩
          walk_at "go"
          have e6 : e < 6 := by split at e1 <;> omega
          refine ⟨w, g, _, rfl, W3, by omega, by omega, fun l H4 s4 W4 hl => ?_⟩
          have S : Go w g H H4 := ((s1.trans s2).trans s3).trans s4
          have hl6 : l.length ≤ 6 := by omega
          have hl1 : 1 ≤ l.length := by omega
          have hm : l.length * n.toNat ≤ 1000000 := mul_le hl6 (show n.toNat ≤ 5000 by omega) (by decide)
          have hr1 : (rep n.toNat l).length ≤ 1000000 := by rw [rep_length, Nat.mul_comm]; exact hm
          walk_at "go"
          have key : n.toNat ≤ n.toNat * l.length := Nat.le_mul_of_pos_right _ hl1
          have hr : (rep n.toNat l).length = n.toNat * l.length := rep_length _ _
          have hf : ((rep n.toNat l).take n.toNat).length = n.toNat := by
            rw [List.length_take, hr]
            omega
          generalize (rep n.toNat l).take n.toNat = f at hf
          walk_at "go"
          refine ifD (fun e5 => ?_) (fun n5 => ?_)
          · obtain ⟨x, hx⟩ : ∃ x, f[a.toNat]? = some x := ⟨_, List.getElem?_eq_getElem (by omega)⟩
            walk_at "go"
            refine go_ixS (k := a.toNat) (by omega) (by omega) hx ?_
            rw [B_one]
            walk_at "go"
            rw [B_dec]
            refine ifD (fun ex => ?_) (fun nx => ?_)
            all_goals
              walk_at "go"
              exact q _ H4 S W4 (by simp only [List.length_append, List.length_take, List.length_drop, List.length_cons, List.length_nil]; omega)
          · walk_at "go"
            exact q _ H4 S W4 (by omega)
def spShort : Sp := fun vs H Q _ => ∃ (t : List Bool) (s : Nat), vs = [.str (B t)] ∧ 0 < t.length ∧ t.length ≤ 5000 ∧ IsPer t s ∧ Q (.str (B (t.take s))) H
theorem ok_short : FnOk P wd K mg base CX0 1 T.a_shortest T.d_shortest ["turn"] spShort := by
  refine T.F_shortest.ok sc_shortest (fun vs H Q E h => ?_) (fun cdv A outer s H vs Q E hr h => ?_)
  · obtain ⟨t, s, rfl, _⟩ := h
    rfl
  · obtain ⟨t, s0, rfl, t0, t1, per, q⟩ := h
    refine ⟨_, (pss_cons (ps_set (i := 1) sc_shortest.nd rfl (Or.inl rfl) (pe_callB call_len_str rfl T.n_len PySem.boot_len (pa_cons (pv 0) pa_nil)))
      (pss_cons (ps_for PassesOwn.never rfl (pi_range2 rfl T.n_range (pa_cons pe_int (pa_cons (pe_op op_add (pe_op op_fdiv (pv 1) pe_int) pe_int) pa_nil))) (pg_name (i := 2) sc_shortest.nd rfl (Or.inl rfl)) (pss_one (ps_if (PW.pt (pw_and (pt_cmpR op_eq (pe_op op_mod (pv 1) (pv 2)) pe_int (nomark _)) (pw_and1 (pt_cmpR op_eq (pe_op op_mulS (pe_slice sl_str (pv 0) po_none (po_some (pv 2))) (pe_op op_fdiv (pv 1) (pv 2))) (pv 0) (nomark _))))) (pss_one (ps_ret (pe_slice sl_str (pv 0) po_none (po_some (pv 2))))) pss_nil)))
      (pss_one (ps_ret (pv 0))))), ?_⟩
    have fact : ∀ k, 1 ≤ k → k ≤ t.length → t.length % k = 0 → rep (t.length / k) (t.take k) = t → s0 ≤ k := fun k k1 k2 k3 k4 => by
      refine Nat.le_of_not_lt fun c => per.least k k1 c ((rep_iff k1 k2 k3).mp k4)
    walk_at "go"
    refine for_range (lo := 1) (n := ((t.length : Int) / 2 + 1 - 1).toNat) (fun i σ H2 => ∃ y2, σ = [some (.str (B t)), some (.int t.length), y2] ∧ H2 = H ∧ ∀ k, 1 ≤ k → k < 1 + i → ¬ (t.length % k = 0 ∧ rep (t.length / k) (t.take k) = t))
      ⟨none, rfl, rfl, fun k a b => by omega⟩ (fun i σ H2 hi p => ?_) (fun σ H2 p => ?_)
    · obtain ⟨y2, rfl, rfl, no⟩ := p
      have i1 : 1 + i ≤ t.length := by omega
      have m1 : (t.take (1 + (i : Int)).toNat).length * ((t.length : Int) / (1 + (i : Int))).toNat ≤ 1000000 := by
        refine mul_le (n := 1 + i) (m := t.length / (1 + i)) (by rw [List.length_take]; omega) ?_ ?_
        · rw [show (1 + (i : Int)) = ((1 + i : Nat) : Int) by omega, ← Int.natCast_ediv, Int.toNat_natCast]
          exact Nat.le_refl _
        · exact Nat.le_trans (Nat.mul_div_le _ _) (by omega)
      walk_at "go"
      have e1 : (1 + (i : Int)).toNat = 1 + i := by omega
      have e2 : ((t.length : Int) / (1 + (i : Int))).toNat = t.length / (1 + i) := by
        rw [show (1 + (i : Int)) = ((1 + i : Nat) : Int) by omega, ← Int.natCast_ediv, Int.toNat_natCast]
      have e3 : (t.length : Int) % (1 + (i : Int)) = ((t.length % (1 + i) : Nat) : Int) := by
        rw [show (1 + (i : Int)) = ((1 + i : Nat) : Int) by omega, ← Int.natCast_emod]
      have e4 : 0 ≤ (t.length : Int) / (1 + (i : Int)) ∧ (t.length : Int) / (1 + (i : Int)) < 2 ^ 30 := by
        rw [show (1 + (i : Int)) = ((1 + i : Nat) : Int) by omega, ← Int.natCast_ediv]
        have := Nat.div_le_self t.length (1 + i)
        omega
      have next : ¬ (t.length % (1 + i) = 0 ∧ rep (t.length / (1 + i)) (t.take (1 + i)) = t) → ∀ k, 1 ≤ k → k < 1 + (i + 1) → ¬ (t.length % k = 0 ∧ rep (t.length / k) (t.take k) = t) := fun c k k1 k2 z => by
        by_cases ek : k = 1 + i
        · subst ek
          exact c z
        · exact no k k1 (by omega) z
      refine ifD (fun ed => ?_) (fun nd => ?_)
      · have ed2 : t.length % (1 + i) = 0 := by
          have ed1 : (t.length : Int) % (1 + (i : Int)) = 0 := V.int.inj ed
          rw [e3] at ed1
          omega
        walk_at "go"
        rw [B_dec, e1, e2]
        refine ifD (fun er => ?_) (fun nr => ?_)
        · walk_at "go"
          have es : s0 = 1 + i := by
            have h1 := fact (1 + i) (by omega) i1 ed2 er
            by_cases h2 : s0 < 1 + i
            · exact absurd ⟨per.dvd, (rep_iff per.pos per.le per.dvd).mpr per.rot⟩ (no s0 per.pos h2)
            · omega
          rw [e1, ← es]
          exact q
        · exact ⟨_, rfl, rfl, next fun z => nr z.2⟩
      · exact ⟨_, rfl, rfl, next fun z => nd (congrArg V.int (show (t.length : Int) % (1 + (i : Int)) = 0 by rw [e3, z.1]; rfl))⟩
    · obtain ⟨y2, rfl, rfl, no⟩ := p
      walk_at "go"
      have es : s0 = t.length := by
        have hle := per.le
        have hd := per.dvd
        have h1 : ¬ s0 < 1 + ((t.length : Int) / 2 + 1 - 1).toNat := fun c => no s0 per.pos c ⟨hd, (rep_iff per.pos hle hd).mpr per.rot⟩
        have h2 : t.length < 2 * s0 := by omega
        have h3 := Nat.mod_eq_sub_mod hle
        rw [Nat.mod_eq_of_lt (show t.length - s0 < s0 by omega)] at h3
        omega
      rw [es, List.take_length] at q
      exact q
def spAlike : Sp := fun vs H Q _ => ∃ (h u : List Bool), vs = [.str (B h), .str (B u)] ∧ h.length ≤ 5000 ∧ 0 < u.length ∧ u.length ≤ 5000 ∧ ∀ a : Nat, Alike h u a → Q (.int a) H
theorem ok_alike : FnOk P wd K mg base CX0 1 T.a_alike T.d_alike ["head", "turn"] spAlike := by
  refine T.F_alike.ok sc_alike (fun vs H Q E h => ?_) (fun cdv A outer s H vs Q E hr h => ?_)
  · obtain ⟨h, u, rfl, _⟩ := h
    rfl
  · obtain ⟨h, u, rfl, h1, u0, u1, q⟩ := h
    refine ⟨_, (pss_cons (ps_set (i := 2) sc_alike.nd rfl (Or.inl rfl) pe_int)
      (pss_cons (ps_while PassesOwn.never (PW.pt (pw_and (pt_cmpR op_lt (pv 2) (pe_callB call_len_str rfl T.n_len PySem.boot_len (pa_cons (pv 0) pa_nil)) (nomark _)) (pw_and1 (pt_cmpR op_eq (pe_ix ix_str (pv 0) (pe_op op_sub (pe_un un_neg pe_int) (pv 2)) (fun _ _ => rfl)) (pe_ix ix_str (pv 1) (pe_op op_sub (pe_un un_neg pe_int) (pe_op op_mod (pv 2) (pe_callB call_len_str rfl T.n_len PySem.boot_len (pa_cons (pv 1) pa_nil)))) (fun _ _ => rfl)) (nomark _))))) (pss_one (ps_aug (i := 2) sc_alike.nd rfl (Or.inl rfl) pe_int ip_add)))
      (pss_one (ps_ret (pv 2))))), ?_⟩
    walk_at "go"
    refine ⟨fun m σ H2 => ∃ a : Nat, σ = [some (.str (B h)), some (.str (B u)), some (.int a)] ∧ H2 = H ∧ a ≤ h.length ∧ m = h.length - a ∧ ∀ j, j < a → h.getD (h.length - 1 - j) false = u.getD (u.length - 1 - j % u.length) false,
      ⟨h.length, 0, rfl, rfl, Nat.zero_le _, rfl, fun j hj => by omega⟩, fun m σ H2 p => ?_⟩
    obtain ⟨a, rfl, rfl, ha, rfl, sm⟩ := p
    walk_at "go"
    refine ifD (fun lt => ?_) (fun nlt => ?_)
    · have lt2 : a < h.length := by omega
      have hm := Nat.mod_lt a u0
      walk_at "go"
      refine go_ixSn (k := a) rfl (by omega) lt2 (getD_some (by omega)) ?_
      rw [B_one]
      walk_at "go"
      refine go_ixSn (k := a % u.length) (by simp) (by omega) hm (getD_some (by omega)) ?_
      rw [B_one]
      walk_at "go"
      rw [B_dec]
      refine ifD (fun eq => ?_) (fun ne => ?_)
      · refine ⟨fun σ' H' => σ' = [some (.str (B h)), some (.str (B u)), some (.int ((a + 1 : Nat) : Int))] ∧ H' = H2, fun σ' H' p => ?_, ?_⟩
        · obtain ⟨rfl, rfl⟩ := p
          refine ⟨h.length - (a + 1), by omega, a + 1, rfl, rfl, by omega, rfl, fun j hj => ?_⟩
          by_cases e : j = a
          · subst e
            exact (List.cons.inj eq).1
          · exact sm j (by omega)
        · walk_at "go"
          exact rfl
      · walk_at "go"
        exact q a ⟨ha, sm, .inr fun z => ne (by rw [z])⟩
    · walk_at "go"
      exact q a ⟨ha, sm, .inl (by omega)⟩
/-- the table of a head and a turn -/
def Tab (H : Hp) (p : Addr) (h t : List Bool) : Prop := H p = some (.tup [.str (B h), .str (B t)]) ∧ h.length ≤ 5000 ∧ 0 < t.length ∧ t.length ≤ 5000
theorem Tab.same {H H' : Hp} {p : Addr} {h t : List Bool} (x : Tab H p h t) (s : Same H H') : Tab H' p h t := ⟨s _ _ x.1, x.2⟩
def spLeast : Sp := fun vs H Q _ => ∃ (p : Addr) (h t : List Bool) (s m : Nat), vs = [.ref p] ∧ Tab H p h t ∧ IsPer t s ∧ IsBeg h t s m ∧
  ∀ p' H', Same H H' → Tab H' p' (rng (sg h t) 0 m) (rng (sg h t) m s) → Q (.ref p') H'
theorem ok_least : FnOk P wd K mg base CX0 2 T.a_least T.d_least ["table"] spLeast := by
  have G_shortest : FnOk P wd K mg base CX0 1 T.a_shortest T.d_shortest ["turn"] spShort := ok_short T
  have G_alike : FnOk P wd K mg base CX0 1 T.a_alike T.d_alike ["head", "turn"] spAlike := ok_alike T
  refine T.F_least.ok sc_least (fun vs H Q E h => ?_) (fun cdv A outer s H vs Q E hr h => ?_)
  · obtain ⟨p, h, t, s, m, rfl, _⟩ := h
    rfl
  · obtain ⟨p, h, t, s, m, rfl, ⟨hp, h1, t0, t1⟩, per, beg, q⟩ := h
    refine ⟨_, (pss_cons (ps_asg (pv 0) (pg_tup rfl (pgs_cons (pg_name (i := 1) sc_least.nd rfl (Or.inl rfl)) (pgs_cons (pg_name (i := 2) sc_least.nd rfl (Or.inl rfl)) pgs_nil))))
      (pss_cons (ps_set (i := 2) sc_least.nd rfl (Or.inl rfl) (pe_call G_shortest hr rfl T.g_shortest T.F_shortest.kp (b_shortest T) .nil pass0 (pa_cons (pv 2) pa_nil)))
      (pss_cons (ps_set (i := 3) sc_least.nd rfl (Or.inl rfl) (pe_call G_alike hr rfl T.g_alike T.F_alike.kp (b_alike T) .nil pass0 (pa_cons (pv 1) (pa_cons (pv 2) pa_nil))))
      (pss_cons (ps_set (i := 4) sc_least.nd rfl (Or.inl rfl) (pe_op op_sub (pe_callB call_len_str rfl T.n_len PySem.boot_len (pa_cons (pv 2) pa_nil)) (pe_op op_mod (pv 3) (pe_callB call_len_str rfl T.n_len PySem.boot_len (pa_cons (pv 2) pa_nil)))))
      (pss_one (ps_ret (pe_tup (pa_cons (pe_slice sl_str (pv 1) po_none (po_some (pe_op op_sub (pe_callB call_len_str rfl T.n_len PySem.boot_len (pa_cons (pv 1) pa_nil)) (pv 3)))) (pa_cons (pe_op op_add_str (pe_slice sl_str (pv 2) (po_some (pv 4)) po_none) (pe_slice sl_str (pv 2) po_none (po_some (pv 4)))) pa_nil))))))))), ?_⟩
    have hu := take_len per
    have spos := per.pos
    have sle := per.le
    walk_at "go"
    refine ⟨t, s, rfl, t0, t1, per, ?_⟩
    walk_at "go"
    intro a x
    have ha := x.le
    have hm := Nat.mod_lt a spos
    have em : ((a : Int) % ((s : Nat) : Int)) = ((a % s : Nat) : Int) := (Int.natCast_emod _ _).symm
    rw [← hu] at em
    have hm2 : a % (t.take s).length < (t.take s).length := by rw [hu]; exact hm
    have c0 : 0 ≤ ((t.take s).length : Int) - (a : Int) % ((t.take s).length : Int) := by
      rw [em]
      omega
    have ec : (((t.take s).length : Int) - (a : Int) % ((t.take s).length : Int)).toNat = s - a % s := by
      rw [em, hu]
      omega
    have eh : ((h.length : Int) - (a : Int)).toNat = h.length - a := by omega
    walk_at "go"
    rw [ec, eh]
    intro p' np
    have eb : m = h.length - a := beg.uniq (beg_of per x)
    refine q p' _ (same_new np) ⟨?_, ?_, ?_, ?_⟩
    · rw [upd_same, win_of per x, head_of ha, eb]
    · rw [rng_len]; omega
    · rw [rng_len]; omega
    · rw [rng_len]; omega
theorem ok_lleast : FnOk P wd K mg base CX0 1 T.a_lleast T.d_lleast ["_law_x"] spLeast := by
  refine T.F_lleast.ok sc_lleast (fun vs H Q E h => ?_) (fun cdv A outer s H vs Q E hr h => ?_)
  · obtain ⟨p, h, t, s, m, rfl, _⟩ := h
    rfl
  · obtain ⟨p, h, t, s, m, rfl, ⟨hp, h1, t0, t1⟩, per, beg, q⟩ := h
    refine ⟨_, (pss_cons (ps_set (i := 1) sc_lleast.nd rfl (Or.inl rfl) (pe_bm PySem.F.plainAttrs_str PySem.F.slot_str_find PySem.F.type_str_find mt_find3 (pe_op op_add_str (pe_ix ix_tup (pv 0) pe_int (fun _ _ => rfl)) (pe_ix ix_tup (pv 0) pe_int (fun _ _ => rfl))) (pa_cons (pe_ix ix_tup (pv 0) pe_int (fun _ _ => rfl)) (pa_cons pe_int pa_nil))))
      (pss_cons (ps_par3 (i := 2) (j := 3) (l := 4) rfl sc_lleast.nd rfl rfl rfl (by decide) (by decide) (by decide) rfl rfl rfl (pa_cons (pe_op op_add_str (pe_op op_add_str (pe_ix ix_tup (pv 0) pe_int (fun _ _ => rfl)) (pe_ix ix_tup (pv 0) pe_int (fun _ _ => rfl))) (pe_ix ix_tup (pv 0) pe_int (fun _ _ => rfl))) (pa_cons pe_int (pa_cons (pe_callB call_len_str rfl T.n_len PySem.boot_len (pa_cons (pe_ix ix_tup (pv 0) pe_int (fun _ _ => rfl)) pa_nil)) pa_nil))) rfl)
      (pss_cons (ps_for PassesOwn.never rfl (pi_range1 rfl T.n_range (pa_cons pe_int pa_nil)) (pg_name (i := 5) sc_lleast.nd rfl (Or.inl rfl)) (pss_cons (ps_set (i := 6) sc_lleast.nd rfl (Or.inl rfl) (pe_op op_fdiv (pe_op op_add (pv 3) (pv 4)) pe_int))
      (pss_one (ps_if (pt_cmpR op_eq (pe_slice sl_str (pv 2) (po_some (pv 6)) (po_some (pe_callB call_len_str rfl T.n_len PySem.boot_len (pa_cons (pe_ix ix_tup (pv 0) pe_int (fun _ _ => rfl)) pa_nil)))) (pe_slice sl_str (pv 2) (po_some (pe_op op_add (pv 6) (pv 1))) (po_some (pe_op op_add (pe_callB call_len_str rfl T.n_len PySem.boot_len (pa_cons (pe_ix ix_tup (pv 0) pe_int (fun _ _ => rfl)) pa_nil)) (pv 1)))) (nomark _)) (pss_one (ps_set (i := 4) sc_lleast.nd rfl (Or.inl rfl) (pv 6))) (pss_one (ps_set (i := 3) sc_lleast.nd rfl (Or.inl rfl) (pe_op op_add (pv 6) pe_int)))))))
      (pss_one (ps_ret (pe_tup (pa_cons (pe_slice sl_str (pv 2) po_none (po_some (pv 4))) (pa_cons (pe_slice sl_str (pv 2) (po_some (pv 4)) (po_some (pe_op op_add (pv 4) (pv 1)))) pa_nil)))))))), ?_⟩
    have spos := per.pos
    have sle := per.le
    walk_at "go"
    rw [find_per per]
    walk_at "go"
    refine for_range (lo := 0) (n := 14) (fun i σ H2 => ∃ (lo hi : Nat) (y5 y6 : Option V), σ = [some (.ref p), some (.int s), some (.str (B (h ++ t ++ t))), some (.int lo), some (.int hi), y5, y6] ∧ H2 = H ∧ Half h t s lo hi ∧ (hi - lo) * 2 ^ i ≤ h.length)
      ⟨0, h.length, none, none, rfl, rfl, ⟨Nat.zero_le _, Nat.le_refl _, fun n a b => by omega, fun m hm => by omega⟩, by simp⟩ (fun i σ H2 hi14 px => ?_) (fun σ H2 px => ?_)
    · obtain ⟨lo, hi, y5, y6, rfl, rfl, x, hx⟩ := px
      have xle := x.le
      have xtop := x.top
      obtain ⟨M, eM⟩ : ∃ M, M = (lo + hi) / 2 := ⟨_, rfl⟩
      have cM : ((lo : Int) + (hi : Int)) / 2 = (M : Int) := by omega
      have k1 : (((lo : Int) + (hi : Int)) / 2).toNat = M := by omega
      have k2 : (((lo : Int) + (hi : Int)) / 2 + (s : Int)).toNat = M + s := by omega
      have k3 : ((h.length : Int) + (s : Int)).toNat = h.length + s := by omega
      have k4 : ((h.length : Int)).toNat = h.length := by omega
      have two : ∀ d, 2 * d ≤ hi - lo → d * 2 ^ (i + 1) ≤ h.length := fun d hd => by
        have h3 : d * 2 ^ (i + 1) = (2 * d) * 2 ^ i := by rw [Nat.pow_succ, Nat.mul_comm 2 d, Nat.mul_assoc, Nat.mul_comm (2 ^ i) 2]
        rw [h3]
        exact Nat.le_trans (Nat.mul_le_mul_right _ hd) hx
      walk_at "go"
      rw [B_dec, k1, k2, k3, k4]
      refine ifD (fun e => ?_) (fun ne => ?_)
      · have sm := (half_iff (h := h) (t := t) (s := s) (m := M) sle (by omega)).mp e
        walk_at "go"
        rw [cM]
        exact ⟨lo, M, _, _, rfl, rfl, ⟨by omega, by omega, sm, x.low⟩, two _ (by omega)⟩
      · have ns := fun z => ne ((half_iff (h := h) (t := t) (s := s) (m := M) sle (by omega)).mpr z)
        have hlt : M < hi := by
          by_cases c : M < hi
          · exact c
          · exact absurd (fun n a b => x.same n (by omega) b) ns
        walk_at "go"
        rw [cM]
        refine ⟨M + 1, hi, _, _, rfl, rfl, ⟨by omega, by omega, x.same, fun m hm => ?_⟩, two _ (by omega)⟩
        refine Classical.byContradiction fun c => ns fun n a b => Classical.byContradiction fun d => c ⟨n, by omega, b, d⟩
    · obtain ⟨lo, hi, y5, y6, rfl, rfl, x, hx⟩ := px
      have xle := x.le
      have xtop := x.top
      have eq : lo = hi := by
        by_cases c : lo = hi
        · exact c
        · have : 1 * 2 ^ 14 ≤ (hi - lo) * 2 ^ 14 := Nat.mul_le_mul_right _ (by omega)
          omega
      have em : m = hi := beg.uniq (x.beg eq)
      have k3 : ((hi : Int) + (s : Int)).toNat = hi + s := by omega
      have k4 : ((hi : Int)).toNat = hi := by omega
      walk_at "go"
      rw [k3, k4]
      intro p' np
      refine q p' _ (same_new np) ⟨?_, ?_, ?_, ?_⟩
      · rw [upd_same, rng_take (by omega), rng_mid (by omega), em]
      · rw [rng_len]; omega
      · rw [rng_len]; omega
      · rw [rng_len]; omega
theorem mem_ints {x : V} {ns : List Int} {xs : List V} (e : xs = ns.map V.int) (h : x ∈ xs) : ∃ i ∈ ns, x = .int i := by
  subst e
  obtain ⟨i, h1, h2⟩ := List.mem_map.mp h
  exact ⟨i, h1, h2.symm⟩
end
section
variable {P : Program} {wd : World} {K : PySem.W.Frag} {mg : Str → Option Value} {base : Heap} (T : Tp K mg)
def spIsLeast : Sp := fun vs H Q _ => ∃ (p : Addr) (h t : List Bool) (s m : Nat), vs = [.ref p] ∧ Tab H p h t ∧ IsPer t s ∧ IsBeg h t s m ∧
  ∀ H', Same H H' → Q (.bl (decide (rng (sg h t) 0 m = h ∧ rng (sg h t) m s = t))) H'
theorem ok_isleast : FnOk P wd K mg base CX0 3 T.a_isleast T.d_isleast ["table"] spIsLeast := by
  have G_least : FnOk P wd K mg base CX0 2 T.a_least T.d_least ["table"] spLeast := ok_least T
  refine T.F_isleast.ok sc_isleast (fun vs H Q E h => ?_) (fun cdv A outer s H vs Q E hr h => ?_)
  · obtain ⟨p, h, t, s, m, rfl, _⟩ := h
    rfl
  · have hu4 : (cxOf CX0 P wd K mg base nm_isleast "is_least" (defScope s_isleast) T.a_isleast cdv A outer s H E).A.units + 64 < cLine := hr.units
    obtain ⟨p, h, t, s, m, rfl, tb, per, beg, q⟩ := h
    refine ⟨_, (pss_one (ps_ret (pe_cmpR (op_eqD hu4) (pe_call G_least hr rfl T.g_least T.F_least.kp (b_least T) .nil pass0 (pa_cons (pv 0) pa_nil)) (pv 0) (nomark _)))), ?_⟩
    walk_at "go"
    refine ⟨p, h, t, s, m, rfl, tb, per, beg, fun p' H' s' tb' => ?_⟩
    walk_at "go"
    refine ⟨_, _, dp_tab tb'.1, dp_tab (tb.same s').1, shaped_tab _ _, shaped_tab _ _, ?_⟩
    rw [eqv_tab]
    exact q H' s'

def spWritten : Sp := fun vs H Q _ => ∃ (w g p : Addr) (h u : List Bool) (n : Int), vs = [.ref w, .ref p, .int n] ∧ WellAt w g H ∧ Tab H p h u ∧ 1 ≤ n ∧ n ≤ 5000 ∧
  ∀ p' H' (L k : Nat), Go w g H H' → WellAt w g H' → 1 ≤ k → Tab H' p' (rng (sg h u) 0 (h.length + L)) (rep k (rng (sg h u) (h.length + L) u.length)) → Q (.ref p') H'
theorem ok_written : FnOk P wd K mg base CX0 2 T.a_written T.d_written ["_law_well_here", "_law_x", "_law_more"] spWritten := by
  have G_draw : FnOk P wd K mg base CX0 1 T.a_draw T.d_draw ["_law_well_here", "_law_size_here"] spDraw := ok_draw T
  refine T.F_written.ok sc_written (fun vs H Q E h => ?_) (fun cdv A outer s H vs Q E hr h => ?_)
  · obtain ⟨w, g, p, h, u, n, rfl, _⟩ := h
    rfl
  · obtain ⟨w, g, p, h, u, n, rfl, W, tb, n0, n1, q⟩ := h
    refine ⟨_, (pss_cons (ps_set (i := 3) sc_written.nd rfl (Or.inl rfl) (pe_call G_draw hr rfl T.g_draw T.F_draw.kp (b_draw T) .nil pass0 (pa_cons (pv 0) (pa_cons (pe_op op_add (pe_callB (call_min2 rfl) rfl T.n_min (by decide +kernel) (pa_cons (pv 2) (pa_cons (pe_op op_sub pe_int (pe_callB call_len_str rfl T.n_len PySem.boot_len (pa_cons (pe_ix ix_tup (pv 1) pe_int (fun _ _ => rfl)) pa_nil))) pa_nil))) pe_int) pa_nil))))
      (pss_cons (ps_set (i := 4) sc_written.nd rfl (Or.inl rfl) (pe_op op_add pe_int (pe_call G_draw hr rfl T.g_draw T.F_draw.kp (b_draw T) .nil pass0 (pa_cons (pv 0) (pa_cons (pe_callB (call_min2 rfl) rfl T.n_min (by decide +kernel) (pa_cons (pv 2) (pa_cons (pe_op op_fdiv pe_int (pe_callB call_len_str rfl T.n_len PySem.boot_len (pa_cons (pe_ix ix_tup (pv 1) pe_int (fun _ _ => rfl)) pa_nil))) pa_nil))) pa_nil)))))
      (pss_cons (ps_par (i := 5) (j := 6) rfl sc_written.nd rfl rfl (by decide) rfl rfl (pa_cons (pe_op op_add_str (pe_ix ix_tup (pv 1) pe_int (fun _ _ => rfl)) (pe_op op_mulS (pe_ix ix_tup (pv 1) pe_int (fun _ _ => rfl)) (pe_op op_add (pe_op op_fdiv (pv 3) (pe_callB call_len_str rfl T.n_len PySem.boot_len (pa_cons (pe_ix ix_tup (pv 1) pe_int (fun _ _ => rfl)) pa_nil))) pe_int))) (pa_cons (pe_op op_add (pe_callB call_len_str rfl T.n_len PySem.boot_len (pa_cons (pe_ix ix_tup (pv 1) pe_int (fun _ _ => rfl)) pa_nil)) (pv 3)) pa_nil)) rfl)
      (pss_one (ps_ret (pe_tup (pa_cons (pe_slice sl_str (pv 5) po_none (po_some (pv 6))) (pa_cons (pe_op op_mulS (pe_slice sl_str (pv 5) (po_some (pv 6)) (po_some (pe_op op_add (pv 6) (pe_callB call_len_str rfl T.n_len PySem.boot_len (pa_cons (pe_ix ix_tup (pv 1) pe_int (fun _ _ => rfl)) pa_nil))))) (pv 4)) pa_nil)))))))), ?_⟩
    have hp := tb.1
    have h5 := tb.2.1
    have u0 := tb.2.2.1
    have u5 := tb.2.2.2
    walk_at "go"
    refine ⟨w, g, _, rfl, W, by split <;> omega, by split <;> omega, fun d H1 s1 W1 d0 d1 => ?_⟩
    have x1 := (W.tup hp).go s1
    have hp1 := x1.at_
    have dL : d ≤ 5000 - (h.length : Int) := by split at d1 <;> omega
    have q5 : 1 ≤ (5000 : Int) / (u.length : Int) ∧ (5000 : Int) / (u.length : Int) ≤ 5000 := by
      rw [show (5000 : Int) = ((5000 : Nat) : Int) from rfl, ← Int.natCast_ediv]
      have a1 : 1 ≤ 5000 / u.length := (Nat.le_div_iff_mul_le u0).mpr (by omega)
      have a2 := Nat.div_le_self 5000 u.length
      omega
    walk_at "go"
    refine ⟨w, g, _, rfl, W1, by split <;> omega, by split <;> omega, fun e H2 s2 W2 e0 e1 => ?_⟩
    have x2 := x1.go s2
    have hp2 := x2.at_
    have eq5 : e < (5000 : Int) / (u.length : Int) := by split at e1 <;> omega
    obtain ⟨dn, rfl⟩ : ∃ dn : Nat, d = (dn : Int) := ⟨d.toNat, by omega⟩
    obtain ⟨en, rfl⟩ : ∃ en : Nat, e = (en : Int) := ⟨e.toNat, by omega⟩
    have ku : (1 + en) * u.length ≤ 5000 := by
      rw [show (5000 : Int) = ((5000 : Nat) : Int) from rfl, ← Int.natCast_ediv] at eq5
      have a1 : 1 + en ≤ 5000 / u.length := by omega
      exact Nat.le_trans (Nat.mul_le_mul_right _ a1) (Nat.div_mul_le_self _ _)
    have dq : (dn : Int) / (u.length : Int) + 2 = ((dn / u.length + 2 : Nat) : Int) := by
      rw [← Int.natCast_ediv]
      omega
    have c1 : ((dn : Int) / (u.length : Int) + 2).toNat = dn / u.length + 2 := by rw [dq, Int.toNat_natCast]
    have c2 : 0 ≤ (dn : Int) / (u.length : Int) + 2 ∧ (dn : Int) / (u.length : Int) + 2 < 2 ^ 30 := by
      rw [dq]
      have := Nat.div_le_self dn u.length
      omega
    have hdm := Nat.mod_add_div dn u.length
    have hml := Nat.mod_lt dn u0
    have m3 : (dn / u.length + 2) * u.length = u.length * (dn / u.length) + 2 * u.length := by rw [Nat.add_mul, Nat.mul_comm]
    have m1 : u.length * ((dn : Int) / (u.length : Int) + 2).toNat ≤ 1000000 := by
      rw [c1, Nat.mul_comm, m3]
      omega
    have lrow : (h ++ rep ((dn : Int) / (u.length : Int) + 2).toNat u).length ≤ 1000000 := by
      rw [List.length_append, rep_length, c1, m3]
      omega
    have lrow2 : h.length + (rep ((dn : Int) / (u.length : Int) + 2).toNat u).length ≤ 1000000 := by
      rw [List.length_append] at lrow
      exact lrow
    have long : h.length + dn + u.length ≤ h.length + (dn / u.length + 2) * u.length := by omega
    have k1 : ((h.length : Int) + (dn : Int)).toNat = h.length + dn := by omega
    have k2 : ((h.length : Int) + (dn : Int) + (u.length : Int)).toNat = h.length + dn + u.length := by omega
    have lmid : (List.drop ((h.length : Int) + (dn : Int)).toNat (List.take ((h.length : Int) + (dn : Int) + (u.length : Int)).toNat (h ++ rep ((dn : Int) / (u.length : Int) + 2).toNat u))).length * (1 + (en : Int)).toNat ≤ 1000000 := by
      rw [k1, k2, c1, row_mid u0 long, rng_len, show (1 + (en : Int)).toNat = 1 + en by omega, Nat.mul_comm]
      omega
    walk_at "go"
    rw [k1, k2, c1, row_mid u0 long, row_take u0 (by omega), show (1 + (en : Int)).toNat = 1 + en by omega]
    intro p' np
    generalize hU : upd H2 p' _ = H3
    obtain ⟨s3, W3, ap⟩ := new_of W2 np hU
    refine q p' H3 dn (1 + en) ((s1.trans s2).trans (Go.of s3)) W3 (by omega) ⟨ap.at_, ?_, ?_, ?_⟩
    · rw [rng_len]; omega
    · rw [wr_len]; exact Nat.mul_pos (by omega) u0
    · rw [wr_len]; exact ku

def spBase : Sp := fun vs H Q _ => ∃ (w g : Addr) (a b : Int), vs = [.ref w, .int a, .int b] ∧ WellAt w g H ∧ 0 ≤ a ∧ a ≤ 5000 ∧ 1 ≤ b ∧ b ≤ 5000 ∧
  ∀ p' H' (h u : List Bool), Go w g H H' → WellAt w g H' → Prim h u → Tab H' p' h u → Q (.ref p') H'
theorem drop_last {l : List Bool} (h : 0 < l.length) : l.drop (l.length - 1) = [l.getD (l.length - 1) false] := by
  apply List.ext_getElem?
  intro i
  rw [List.getElem?_drop]
  by_cases hi : i = 0
  · subst hi
    rw [Nat.add_zero, getD_some (by omega)]
    rfl
  · rw [List.getElem?_eq_none (by omega), List.getElem?_eq_none (by simp; omega)]
theorem flip_ne (x : Bool) : (if x = false then true else false) ≠ x := by cases x <;> decide
theorem ok_base : FnOk P wd K mg base CX0 4 T.a_base T.d_base ["_law_well_here", "_law_tall", "_law_wide"] spBase := by
  have G_word : FnOk P wd K mg base CX0 3 T.a_word T.d_word ["_law_well_here", "_law_size_here"] spBits := ok_word T
  refine T.F_base.ok sc_base (fun vs H Q E h => ?_) (fun cdv A outer s H vs Q E hr h => ?_)
  · obtain ⟨w, g, a, b, rfl, _⟩ := h
    rfl
  · obtain ⟨w, g, a, b, rfl, W, a0, a1, b0, b1, q⟩ := h
    refine ⟨_, (pss_cons (ps_set (i := 3) sc_base.nd rfl (Or.inl rfl) (pe_call G_word hr rfl T.g_word T.F_word.kp (b_word T) .nil pass0 (pa_cons (pv 0) (pa_cons (pv 2) pa_nil))))
      (pss_cons (ps_par (i := 4) (j := 5) rfl sc_base.nd rfl rfl (by decide) rfl rfl (pa_cons (pe_slice sl_str (pv 3) po_none (po_some (pe_bm PySem.F.plainAttrs_str PySem.F.slot_str_find PySem.F.type_str_find mt_find3 (pe_op op_add_str (pv 3) (pv 3)) (pa_cons (pv 3) (pa_cons pe_int pa_nil))))) (pa_cons (pe_call G_word hr rfl T.g_word T.F_word.kp (b_word T) .nil pass0 (pa_cons (pv 0) (pa_cons (pv 1) pa_nil))) pa_nil)) rfl)
      (C8.pss_cut (ps_if (pt_cmpR op_eq (pe_slice sl_str (pv 5) (po_some (pe_un un_neg pe_int)) po_none) (pe_slice sl_str (pv 4) (po_some (pe_un un_neg pe_int)) po_none) (nomark _)) (pss_one (ps_set (i := 5) sc_base.nd rfl (Or.inl rfl) (pe_op op_add_str (pe_slice sl_str (pv 5) po_none (po_some (pe_un un_neg pe_int))) (pe_ifExp (pt_cmpR op_eq (pe_ix ix_str (pv 4) (pe_un un_neg pe_int) (fun _ _ => rfl)) pe_str (nomark _)) pe_str pe_str)))) pss_nil)
      (pss_one (ps_ret (pe_tup (pa_cons (pv 5) (pa_cons (pv 4) pa_nil)))))))), ?_⟩
    walk_at "go"
    refine ⟨w, g, _, rfl, W, by omega, by omega, fun l H1 s1 W1 hl => ?_⟩
    have l0 : 0 < l.length := by omega
    have l5 : l.length ≤ 5000 := by omega
    obtain ⟨s, per⟩ := per_exists l0
    have sle := per.le
    have spos := per.pos
    have hf : 0 ≤ Txt.find3 (B (l ++ l)) (B l) 1 := by
      rw [find_per per]
      omega
    have hu := take_len per
    have pu := part_per per
    walk_at "go"
    rw [find_per per, Int.toNat_natCast]
    refine ⟨w, g, _, rfl, W1, by omega, by omega, fun h H2 s2 W2 hh => ?_⟩
    generalize l.take s = u at hu pu
    have u0 : 0 < u.length := by omega
    have h5 : h.length ≤ 5000 := by omega
    have u5 : u.length ≤ 5000 := by omega
    simp only [B_0, B_1]
    refine ⟨_, _, rfl, ?_⟩
    refine ⟨fun σ' H' => ∃ h' : List Bool, σ' = [some (.ref w), some (.int a), some (.int b), some (.str (B l)), some (.str (B u)), some (.str (B h'))] ∧ H' = H2 ∧ h'.length ≤ 5000 ∧ Prim h' u, ?_, ?_⟩
    · walk_at "go"
      rw [B_dec]
      refine ifD (fun eq => ?_) (fun ne => ?_)
      · have h0 : 0 < h.length := by
          rcases Nat.eq_zero_or_pos h.length with z | z
          · rw [List.length_eq_zero_iff] at z
            subst z
            rw [drop_last u0] at eq
            cases eq
          · exact z
        walk_at "go"
        refine go_ixSn (k := 0) rfl (by omega) u0 (getD_some (by omega)) ?_
        rw [B_one]
        walk_at "go"
        rw [B_dec]
        have prim : ∀ x : Bool, x ≠ u.getD (u.length - 1) false → Prim (h.take (h.length - 1) ++ [x]) u := fun x hx => by
          refine ⟨pu, .inr ?_⟩
          have e : (h.take (h.length - 1) ++ [x]).length - 1 = (h.take (h.length - 1)).length := by rw [List.length_append]; simp
          rw [e, List.getD_eq_getElem?_getD, List.getElem?_append_right (Nat.le_refl _), Nat.sub_self]
          exact hx
        refine ifD (fun e0 => ?_) (fun n0 => ?_)
        · walk_at "go"
          refine prim true ?_
          have := (List.cons.inj e0).1
          rw [Nat.sub_zero] at this
          rw [this]
          decide
        · walk_at "go"
          refine prim false fun z => n0 ?_
          rw [Nat.sub_zero, ← z]
      · refine ⟨h, rfl, rfl, h5, pu, ?_⟩
        rcases Nat.eq_zero_or_pos h.length with z | z
        · exact .inl z
        · refine .inr fun c => ne ?_
          rw [drop_last z, drop_last u0, c]
    · rintro σ' H3 ⟨h', rfl, rfl, hl5, pr⟩
      walk_at "go"
      intro p' np
      generalize hU : upd H3 p' _ = H4
      obtain ⟨s4, W4, ap⟩ := new_of W2 np hU
      exact q p' H4 h' u ((s1.trans s2).trans (Go.of s4)) W4 pr ⟨ap.at_, hl5, u0, u5⟩

def spSpoilt : Sp := fun vs H Q _ => ∃ (w g p : Addr) (h t : List Bool), vs = [.ref w, .ref p] ∧ WellAt w g H ∧ Tab H p h t ∧
  ∀ p' H' (h' t' : List Bool), Go w g H H' → WellAt w g H' → Tab H' p' h' t' → Q (.ref p') H'
theorem ok_spoilt : FnOk P wd K mg base CX0 3 T.a_spoilt T.d_spoilt ["_law_well_here", "_law_x"] spSpoilt := by
  have G_draw : FnOk P wd K mg base CX0 1 T.a_draw T.d_draw ["_law_well_here", "_law_size_here"] spDraw := ok_draw T
  have G_pick : FnOk P wd K mg base CX0 2 T.a_pick T.d_pick ["_law_well_here", "_law_items"] spPick := ok_pick T
  refine T.F_spoilt.ok sc_spoilt (fun vs H Q E h => ?_) (fun cdv A outer s H vs Q E hr h => ?_)
  · obtain ⟨w, g, p, h, t, rfl, _⟩ := h
    rfl
  · obtain ⟨w, g, p, h, t, rfl, W, tb, q⟩ := h
    refine ⟨_, (pss_cons (ps_set (i := 2) sc_spoilt.nd rfl (Or.inl rfl) (pe_call G_pick hr rfl T.g_pick T.F_pick.kp (b_pick T) .nil pass0 (pa_cons (pv 0) (pa_cons (pe_lst (pa_cons pe_int (pa_cons (pe_callB call_len_str rfl T.n_len PySem.boot_len (pa_cons (pe_ix ix_tup (pv 1) pe_int (fun _ _ => rfl)) pa_nil)) (pa_cons (pe_op op_sub (pe_op op_add (pe_callB call_len_str rfl T.n_len PySem.boot_len (pa_cons (pe_ix ix_tup (pv 1) pe_int (fun _ _ => rfl)) pa_nil)) (pe_callB call_len_str rfl T.n_len PySem.boot_len (pa_cons (pe_ix ix_tup (pv 1) pe_int (fun _ _ => rfl)) pa_nil))) pe_int) (pa_cons (pe_call G_draw (hr.mono (by decide)) rfl T.g_draw T.F_draw.kp (b_draw T) .nil pass0 (pa_cons (pv 0) (pa_cons (pe_op op_add (pe_callB call_len_str rfl T.n_len PySem.boot_len (pa_cons (pe_ix ix_tup (pv 1) pe_int (fun _ _ => rfl)) pa_nil)) (pe_callB call_len_str rfl T.n_len PySem.boot_len (pa_cons (pe_ix ix_tup (pv 1) pe_int (fun _ _ => rfl)) pa_nil))) pa_nil))) pa_nil))))) pa_nil))))
      (pss_cons (ps_set (i := 3) sc_spoilt.nd rfl (Or.inl rfl) (pe_op op_add_str (pe_ix ix_tup (pv 1) pe_int (fun _ _ => rfl)) (pe_ix ix_tup (pv 1) pe_int (fun _ _ => rfl))))
      (pss_cons (ps_set (i := 3) sc_spoilt.nd rfl (Or.inl rfl) (pe_op op_add_str (pe_op op_add_str (pe_slice sl_str (pv 3) po_none (po_some (pv 2))) (pe_ifExp (pt_cmpR op_eq (pe_ix ix_str (pv 3) (pv 2) (fun _ _ => rfl)) pe_str (nomark _)) pe_str pe_str)) (pe_slice sl_str (pv 3) (po_some (pe_op op_add (pv 2) pe_int)) po_none)))
      (pss_one (ps_ret (pe_tup (pa_cons (pe_slice sl_str (pv 3) po_none (po_some (pe_callB call_len_str rfl T.n_len PySem.boot_len (pa_cons (pe_ix ix_tup (pv 1) pe_int (fun _ _ => rfl)) pa_nil)))) (pa_cons (pe_slice sl_str (pv 3) (po_some (pe_callB call_len_str rfl T.n_len PySem.boot_len (pa_cons (pe_ix ix_tup (pv 1) pe_int (fun _ _ => rfl)) pa_nil))) po_none) pa_nil)))))))), ?_⟩
    have hp := tb.1
    have h5 := tb.2.1
    have t0 := tb.2.2.1
    have t5 := tb.2.2.2
    have x0 := W.tup hp
    simp only [B_0, B_1]
    walk_at "go"
    refine ⟨w, g, _, rfl, W, by omega, by omega, fun d H1 s1 W1 d0 d1 => ?_⟩
    walk_at "go"
    intro p1 np1
    generalize hU1 : upd H1 p1 _ = H2
    obtain ⟨s2, W2, ap1⟩ := new_of W1 np1 hU1
    refine ⟨w, g, p1, _, rfl, W2, ap1, by simp, by simp, fun x H3 mx s3 W3 => ?_⟩
    obtain ⟨j, mj, rfl⟩ := mem_ints (ns := [0, (h.length : Int), (h.length : Int) + t.length - 1, d]) rfl mx
    have j01 : 0 ≤ j ∧ j < (h.length : Int) + t.length := by
      simp at mj
      omega
    have x3 := ((x0.go s1).go (Go.of s2)).go s3
    have hp3 := x3.at_
    have lr : (h ++ t).length ≤ 10000 := by rw [List.length_append]; omega
    have lr2 : (h ++ t).length = h.length + t.length := List.length_append
    walk_at "go"
    refine go_ixS (k := j.toNat) (by omega) (by omega) (getD_some (by omega)) ?_
    rw [B_one]
    walk_at "go"
    rw [B_dec]
    have fin : ∀ (b : Bool) (f : List Bool), f.length = h.length + t.length → (f.take h.length).length = h.length ∧ (f.drop h.length).length = t.length := fun b f hf => by
      rw [List.length_take, List.length_drop]
      omega
    refine ifD (fun e0 => ?_) (fun n0 => ?_)
    all_goals
      walk_at "go"
      have lf : ∀ b : Bool, (((h ++ t).take j.toNat ++ [b]) ++ (h ++ t).drop (j + 1).toNat).length = h.length + t.length := fun b => by
        rw [List.length_append, List.length_append, List.length_take, List.length_drop, List.length_append]
        simp
        omega
      have lf2 : ∀ b : Bool, (((h ++ t).take j.toNat ++ [b]) ++ (h ++ t).drop (j + 1).toNat).length ≤ 1000000 := fun b => by rw [lf]; omega
      have lft := lf2 true
      have lff := lf2 false
      intro p' np
      generalize hU : upd H3 p' _ = H4
      obtain ⟨s4, W4, ap⟩ := new_of W3 np hU
      refine q p' H4 _ _ (((s1.trans (Go.of s2)).trans s3).trans (Go.of s4)) W4 ⟨ap.at_, ?_, ?_, ?_⟩
      · rw [List.length_take, lf]; omega
      · rw [List.length_drop, lf]; omega
      · rw [List.length_drop, lf]; omega

def spSize : Sp := fun vs H Q _ => ∃ (w g : Addr) (b : Bool), vs = [.ref w, .bl b] ∧ WellAt w g H ∧
  ∀ p' H' (x y : Int), Go w g H H' → WellAt w g H' → H' p' = some (.lst [.int x, .int y]) → 0 ≤ x → x ≤ 5000 → 1 ≤ y → y ≤ 5000 → Q (.ref p') H'
theorem ok_size : FnOk P wd K mg base CX0 3 T.a_size T.d_size ["_law_well_here", "_law_is_great"] spSize := by
  have G_draw : FnOk P wd K mg base CX0 1 T.a_draw T.d_draw ["_law_well_here", "_law_size_here"] spDraw := ok_draw T
  have G_pick : FnOk P wd K mg base CX0 2 T.a_pick T.d_pick ["_law_well_here", "_law_items"] spPick := ok_pick T
  refine T.F_size.ok sc_size (fun vs H Q E h => ?_) (fun cdv A outer s H vs Q E hr h => ?_)
  · obtain ⟨w, g, b, rfl, _⟩ := h
    rfl
  · obtain ⟨w, g, b, rfl, W, q⟩ := h
    refine ⟨_, (pss_cons (ps_if (pt_not (pt_val (pv 1))) (pss_one (ps_ret (pe_lst (pa_cons (pe_call G_pick hr rfl T.g_pick T.F_pick.kp (b_pick T) .nil pass0 (pa_cons (pv 0) (pa_cons (pe_lst (pa_cons pe_int (pa_cons pe_int (pa_cons (pe_call G_draw (hr.mono (by decide)) rfl T.g_draw T.F_draw.kp (b_draw T) .nil pass0 (pa_cons (pv 0) (pa_cons pe_int pa_nil))) pa_nil)))) pa_nil))) (pa_cons (pe_op op_add pe_int (pe_call G_draw (hr.mono (by decide)) rfl T.g_draw T.F_draw.kp (b_draw T) .nil pass0 (pa_cons (pv 0) (pa_cons pe_int pa_nil)))) pa_nil))))) pss_nil)
      (pss_cons (ps_set (i := 2) sc_size.nd rfl (Or.inl rfl) (pe_lst (pa_cons pe_int (pa_cons pe_int (pa_cons pe_int (pa_cons pe_int (pa_cons pe_int (pa_cons (pe_call G_draw (hr.mono (by decide)) rfl T.g_draw T.F_draw.kp (b_draw T) .nil pass0 (pa_cons (pv 0) (pa_cons pe_int pa_nil))) pa_nil))))))))
      (pss_one (ps_ret (pe_lst (pa_cons (pe_call G_pick hr rfl T.g_pick T.F_pick.kp (b_pick T) .nil pass0 (pa_cons (pv 0) (pa_cons (pv 2) pa_nil))) (pa_cons (pe_call G_pick hr rfl T.g_pick T.F_pick.kp (b_pick T) .nil pass0 (pa_cons (pv 0) (pa_cons (pe_lst (pa_cons pe_int (pa_cons pe_int (pa_cons pe_int (pa_cons pe_int (pa_cons pe_int (pa_cons pe_int (pa_cons pe_int (pa_cons pe_int (pa_cons pe_int (pa_cons pe_int (pa_cons pe_int pa_nil)))))))))))) pa_nil))) pa_nil))))))), ?_⟩
    walk_at "go"
    refine ifB (fun eb => ?_) (fun nb => ?_)
    · walk_at "go"
      refine ⟨w, g, _, rfl, W, by omega, by omega, fun d H1 s1 W1 d0 d1 => ?_⟩
      walk_at "go"
      intro p1 np1
      generalize hU1 : upd H1 p1 _ = H2
      obtain ⟨s2, W2, ap1⟩ := new_of W1 np1 hU1
      refine ⟨w, g, p1, _, rfl, W2, ap1, by simp, by simp, fun x H3 mx s3 W3 => ?_⟩
      obtain ⟨j, mj, rfl⟩ := mem_ints (ns := [0, 1, d]) rfl mx
      have j01 : 0 ≤ j ∧ j ≤ 5000 := by
        simp at mj
        omega
      walk_at "go"
      refine ⟨w, g, _, rfl, W3, by omega, by omega, fun e H4 s4 W4 e0 e1 => ?_⟩
      walk_at "go"
      intro p' np
      generalize hU : upd H4 p' _ = H5
      obtain ⟨s5, W5, ap⟩ := new_of W4 np hU
      exact q p' H5 _ _ ((((s1.trans (Go.of s2)).trans s3).trans s4).trans (Go.of s5)) W5 ap.at_ j01.1 j01.2 (by omega) (by omega)
    · walk_at "go"
      refine ⟨w, g, _, rfl, W, by omega, by omega, fun d H1 s1 W1 d0 d1 => ?_⟩
      walk_at "go"
      intro p1 np1
      generalize hU1 : upd H1 p1 _ = H2
      obtain ⟨s2, W2, ap1⟩ := new_of W1 np1 hU1
      walk_at "go"
      refine ⟨w, g, p1, _, rfl, W2, ap1, by simp, by simp, fun x H3 mx s3 W3 => ?_⟩
      obtain ⟨j, mj, rfl⟩ := mem_ints (ns := [0, 1, 2500, 4999, 5000, d]) rfl mx
      have j01 : 0 ≤ j ∧ j ≤ 5000 := by
        simp at mj
        omega
      walk_at "go"
      intro p2 np2
      generalize hU2 : upd H3 p2 _ = H4
      obtain ⟨s4, W4, ap2⟩ := new_of W3 np2 hU2
      refine ⟨w, g, p2, _, rfl, W4, ap2, by simp, by simp, fun x H5 mx s5 W5 => ?_⟩
      obtain ⟨k, mk, rfl⟩ := mem_ints (ns := [1, 2, 7, 625, 1000, 1666, 2499, 2500, 2501, 4999, 5000]) rfl mx
      have k01 : 1 ≤ k ∧ k ≤ 5000 := by
        simp at mk
        omega
      walk_at "go"
      intro p' np
      generalize hU : upd H5 p' _ = H6
      obtain ⟨s6, W6, ap⟩ := new_of W5 np hU
      exact q p' H6 _ _ (((((s1.trans (Go.of s2)).trans s3).trans (Go.of s4)).trans s5).trans (Go.of s6)) W6 ap.at_ j01.1 j01.2 k01.1 k01.2
end
section
variable {P : Program} {wd : World} {K : PySem.W.Frag} {mg : Str → Option Value} {base : Heap} (T : Tp K mg)
theorem kb_least_table : KBinds K T.d_least ["table"] ["table"] oneW oneW := by
  obtain ⟨oc, od, kV, doc, pm, an, cdv, ct, osl, e, lk, hcd⟩ := T.F_least.ex
  rw [e]
  exact kbinds_one fun a => rfl
theorem kb_isleast_table : KBinds K T.d_isleast ["table"] ["table"] oneW oneW := by
  obtain ⟨oc, od, kV, doc, pm, an, cdv, ct, osl, e, lk, hcd⟩ := T.F_isleast.ex
  rw [e]
  exact kbinds_one fun a => rfl
@[irreducible] def dTB (h t : List Bool) (b : Bool) : PyData := .list [dTab h t, .bool b]
@[irreducible] def dTB2 (h t : List Bool) (b c : Bool) : PyData := .list [dTab h t, .bool b, dTab h t, .bool c]
/-- repr of a table and a truth, and of two such pairs -/
theorem repr_tb {K : PySem.W.Frag} {H : Hp} {R : PyData → Prop} {a p : Addr} {h t : List Bool} {b : Bool} (e : H a = some (.lst [.ref p, .bl b])) (x : Tab H p h t) (q : R (dTB h t b)) :
    ∃ (a' : Addr) (d' : PyData), [V.ref a] = [V.ref a'] ∧ Dp K H (.ref a') d' ∧ d'.showable = true ∧ d'.hasDict = false ∧ d'.depth ≤ 60 ∧ d'.shown.length ≤ sizeLine ∧ R d' := by
  have h5 := x.2.1
  have t5 := x.2.2.2
  unfold dTB at q
  exact repr_items [dTab h t, .bool b] e (.cons (dp_tab x.1) (.cons (.bl _) .nil)) (List.forall_mem_cons.mpr ⟨small_tab h5 t5, List.forall_mem_cons.mpr ⟨small_bool b, fun _ z => by cases z⟩⟩) (by simp) q
theorem repr_tb2 {K : PySem.W.Frag} {H : Hp} {R : PyData → Prop} {a p r : Addr} {h t : List Bool} {b c : Bool} (e : H a = some (.lst [.ref p, .bl b, .ref r, .bl c])) (x : Tab H p h t) (y : Tab H r h t) (q : R (dTB2 h t b c)) :
    ∃ (a' : Addr) (d' : PyData), [V.ref a] = [V.ref a'] ∧ Dp K H (.ref a') d' ∧ d'.showable = true ∧ d'.hasDict = false ∧ d'.depth ≤ 60 ∧ d'.shown.length ≤ sizeLine ∧ R d' := by
  have h5 := x.2.1
  have t5 := x.2.2.2
  unfold dTB2 at q
  exact repr_items [dTab h t, .bool b, dTab h t, .bool c] e (.cons (dp_tab x.1) (.cons (.bl _) (.cons (dp_tab y.1) (.cons (.bl _) .nil))))
    (List.forall_mem_cons.mpr ⟨small_tab h5 t5, List.forall_mem_cons.mpr ⟨small_bool b, List.forall_mem_cons.mpr ⟨small_tab h5 t5, List.forall_mem_cons.mpr ⟨small_bool c, fun _ z => by cases z⟩⟩⟩⟩) (by simp) q
theorem Tab.go {w g p : Addr} {H H' : Hp} {h t : List Bool} (x : Tab H p h t) (W : WellAt w g H) (s : Go w g H H') : Tab H' p h t := ⟨((W.tup x.1).go s).at_, x.2⟩
theorem L_00 : Str.ofString "00" = B [false, false] := by decide +kernel
theorem L_0000 : Str.ofString "0000" = B [false, false, false, false] := by decide +kernel
theorem L_0101 : Str.ofString "0101" = B [false, true, false, true] := by decide +kernel
theorem L_0110 : Str.ofString "0110" = B [false, true, true, false] := by decide +kernel
theorem L_10 : Str.ofString "10" = B [true, false] := by decide +kernel
theorem L_1001 : Str.ofString "1001" = B [true, false, false, true] := by decide +kernel
theorem L_11 : Str.ofString "11" = B [true, true] := by decide +kernel
def kn : List (List Bool × List Bool) := [([false, true], [false, true, false, true]), ([true], [false]), ([false], [true, true]), ([], [false]), ([], [false, false]), ([false, false, false, false], [false]), ([true], [false, true]), ([true, false], [false, true, true, false])]
def td : List (List Bool × List Bool) := [([], [false, true]), ([true], [false]), ([false], [true]), ([], [false]), ([], [false]), ([], [false]), ([], [true, false]), ([], [true, false, false, true])]
theorem per_of {t : List Bool} {s : Nat} (c : (decide (1 ≤ s) && decide (s ≤ t.length) && (List.range t.length).all (fun i => t.getD i false == t.getD ((i + s) % t.length) false) &&
    (List.range s).all (fun k => decide (k = 0) || !(List.range t.length).all (fun i => t.getD i false == t.getD ((i + k) % t.length) false))) = true) : IsPer t s := by
  simp only [Bool.and_eq_true, decide_eq_true_eq, List.all_eq_true, List.mem_range, beq_iff_eq, Bool.or_eq_true, Bool.not_eq_true'] at c
  obtain ⟨⟨⟨c1, c2⟩, c3⟩, c4⟩ := c
  refine ⟨c1, c2, fun i hi => c3 i hi, fun k k1 k2 r => ?_⟩
  rcases c4 k k2 with z | z
  · omega
  · have : ((List.range t.length).all fun i => t.getD i false == t.getD ((i + k) % t.length) false) = true := by
      simp only [List.all_eq_true, List.mem_range, beq_iff_eq]
      exact fun i hi => r i hi
    rw [this] at z
    cases z
theorem beg_of {h t : List Bool} {s m : Nat} (c : (decide (m ≤ h.length) && (List.range h.length).all (fun n => decide (n < m) || sg h t n == sg h t (n + s)) && (decide (m = 0) || !(sg h t (m - 1) == sg h t (m - 1 + s)))) = true) : IsBeg h t s m := by
  simp only [Bool.and_eq_true, decide_eq_true_eq, List.all_eq_true, List.mem_range, beq_iff_eq, Bool.or_eq_true, Bool.not_eq_true'] at c
  obtain ⟨⟨c1, c2⟩, c3⟩ := c
  refine ⟨c1, fun n n1 n2 => ?_, ?_⟩
  · rcases c2 n n2 with z | z
    · omega
    · exact z
  · rcases c3 with z | z
    · exact .inl z
    · exact .inr fun e => by rw [e, beq_self_eq_true] at z; cases z
theorem kn_ok (i : Nat) (a : List Bool × List Bool) (h : kn[i]? = some a) : ∃ (s m : Nat) (b : List Bool × List Bool), td[i]? = some b ∧ IsPer a.2 s ∧ IsBeg a.1 a.2 s m ∧ rng (sg a.1 a.2) 0 m = b.1 ∧ rng (sg a.1 a.2) m s = b.2 := by
  have hi : i < 8 := (List.getElem?_eq_some_iff.mp h).1
  rcases i with _ | _ | _ | _ | _ | _ | _ | _ | i
  · obtain rfl := Option.some.inj h
    exact ⟨2, 0, _, rfl, per_of (by decide), beg_of (by decide), by decide, by decide⟩
  · obtain rfl := Option.some.inj h
    exact ⟨1, 1, _, rfl, per_of (by decide), beg_of (by decide), by decide, by decide⟩
  · obtain rfl := Option.some.inj h
    exact ⟨1, 1, _, rfl, per_of (by decide), beg_of (by decide), by decide, by decide⟩
  · obtain rfl := Option.some.inj h
    exact ⟨1, 0, _, rfl, per_of (by decide), beg_of (by decide), by decide, by decide⟩
  · obtain rfl := Option.some.inj h
    exact ⟨1, 0, _, rfl, per_of (by decide), beg_of (by decide), by decide, by decide⟩
  · obtain rfl := Option.some.inj h
    exact ⟨1, 0, _, rfl, per_of (by decide), beg_of (by decide), by decide, by decide⟩
  · obtain rfl := Option.some.inj h
    exact ⟨2, 0, _, rfl, per_of (by decide), beg_of (by decide), by decide, by decide⟩
  · obtain rfl := Option.some.inj h
    exact ⟨4, 0, _, rfl, per_of (by decide), beg_of (by decide), by decide, by decide⟩
  · omega
theorem td_small : ∀ d ∈ td.map (fun b => dTab b.1 b.2), Small d := fun d hd => by
  obtain ⟨b, hb, rfl⟩ := List.mem_map.mp hd
  have : ∀ b ∈ td, b.1.length ≤ 5000 ∧ b.2.length ≤ 5000 := by decide
  exact small_tab (this b hb).1 (this b hb).2
theorem dpAll_tabs {K : PySem.W.Frag} {H : Hp} : ∀ (qs : List Addr) (bs : List (List Bool × List Bool)), qs.length = bs.length →
    (∀ (j : Nat) (q : Addr), qs[j]? = some q → ∃ b, bs[j]? = some b ∧ H q = some (.tup [.str (B b.1), .str (B b.2)])) → DpAll K H (qs.map V.ref) (bs.map fun b => dTab b.1 b.2)
  | [], [], _, _ => .nil
  | [], _ :: _, l, _ => by cases l
  | _ :: _, [], l, _ => by cases l
  | q :: qs, b :: bs, l, h => by
    obtain ⟨b', e, hb⟩ := h 0 q rfl
    obtain rfl := Option.some.inj e
    exact .cons (dp_tab hb) (dpAll_tabs qs bs (Nat.succ.inj l) fun j q hq => h (j + 1) q hq)
@[irreducible] def dTD : PyData := .list (td.map fun b => dTab b.1 b.2)
theorem repr_td {K : PySem.W.Frag} {H : Hp} {R : PyData → Prop} {a : Addr} (qs : List Addr) {xs : List V} (ex : xs = qs.map V.ref) (e : H a = some (.lst xs)) (l : qs.length = 8)
    (hq : ∀ (j : Nat) (q : Addr), qs[j]? = some q → ∃ b, td[j]? = some b ∧ H q = some (.tup [.str (B b.1), .str (B b.2)])) (q : R dTD) :
    ∃ (a' : Addr) (d' : PyData), [V.ref a] = [V.ref a'] ∧ Dp K H (.ref a') d' ∧ d'.showable = true ∧ d'.hasDict = false ∧ d'.depth ≤ 60 ∧ d'.shown.length ≤ sizeLine ∧ R d' := by
  subst ex
  unfold dTD at q
  exact repr_items (td.map fun b => dTab b.1 b.2) e (dpAll_tabs qs td l hq) td_small (by decide) q
def spLaw (K : PySem.W.Frag) : Sp := fun vs H Q _ => ∃ (a : Addr) (ns : List Int), vs = [.ref a] ∧ SqL K H a (ns.map V.int) ∧ ns.length ≤ 63 ∧ ∀ H', Q (.bl true) H'
theorem ok_law : FnG P wd K mg base 5 T.a_law T.d_law ["_law_script"] (spLaw K) := by
  have G_well : FnOk P wd K mg base CX0 1 T.a_well T.d_well ["_law_script"] (spWell K) := ok_well T
  have G_pick : FnOk P wd K mg base CX0 2 T.a_pick T.d_pick ["_law_well_here", "_law_items"] spPick := ok_pick T
  have G_size : FnOk P wd K mg base CX0 3 T.a_size T.d_size ["_law_well_here", "_law_is_great"] spSize := ok_size T
  have G_base : FnOk P wd K mg base CX0 4 T.a_base T.d_base ["_law_well_here", "_law_tall", "_law_wide"] spBase := ok_base T
  have G_written : FnOk P wd K mg base CX0 2 T.a_written T.d_written ["_law_well_here", "_law_x", "_law_more"] spWritten := ok_written T
  have G_spoilt : FnOk P wd K mg base CX0 3 T.a_spoilt T.d_spoilt ["_law_well_here", "_law_x"] spSpoilt := ok_spoilt T
  have G_lleast : FnOk P wd K mg base CX0 1 T.a_lleast T.d_lleast ["_law_x"] spLeast := ok_lleast T
  have G_least : FnOk P wd K mg base CX0 2 T.a_least T.d_least ["table"] spLeast := ok_least T
  have G_isleast : FnOk P wd K mg base CX0 3 T.a_isleast T.d_isleast ["table"] spIsLeast := ok_isleast T
  refine fnG_of T.F_law sc_law (fun vs H Q E h => ?_) (fun cdv A ou s H vs Q E hgd0 hr h => ?_)
  · obtain ⟨a, ns, rfl, _⟩ := h
    rfl
  · have hgd : (cxOf CX0 P wd K mg base nm_law "law" (defScope s_law) T.a_law cdv A ou s H E).nox.A.guards = some [] := hgd0
    have hu4 : (cxOf CX0 P wd K mg base nm_law "law" (defScope s_law) T.a_law cdv A ou s H E).nox.A.units + 64 < cLine := hr.units
    obtain ⟨a, ns, rfl, hS, hl, q⟩ := h
    refine ⟨_, (pss_cons (ps_set (i := 1) sc_law.nd rfl (Or.inl rfl) (pe_call G_well (hr.mono (by decide)) rfl T.g_well T.F_well.kp (b_well T) .nil pass0 (pa_cons (pv 0) pa_nil)))
      (pss_cons (ps_for PassesOwn.never rfl (pi_range1 rfl T.n_range (pa_cons pe_int pa_nil)) (pg_name (i := 2) sc_law.nd rfl (Or.inl rfl)) (pss_cons (ps_asg (pe_call G_size (hr.mono (by decide)) rfl T.g_size T.F_size.kp (b_size T) .nil pass0 (pa_cons (pv 1) (pa_cons (pe_cmpR op_eq (pv 2) pe_int (nomark _)) pa_nil))) (pg_unl rfl (pgs_cons (pg_name (i := 3) sc_law.nd rfl (Or.inl rfl)) (pgs_cons (pg_name (i := 4) sc_law.nd rfl (Or.inl rfl)) pgs_nil))))
      (pss_cons (ps_set (i := 5) sc_law.nd rfl (Or.inl rfl) (pe_call G_base hr rfl T.g_base T.F_base.kp (b_base T) .nil pass0 (pa_cons (pv 1) (pa_cons (pv 3) (pa_cons (pv 4) pa_nil)))))
      (pss_cons (ps_if (pt_cmpR op_ne (pe_callB (call_reprD hgd hu4) rfl T.n_repr (by decide +kernel) (pa_cons (pe_lst (pa_cons (pe_call G_least (hr.mono (by decide)) rfl T.g_least T.F_least.kp (b_least T) .nil pass0 (pa_cons (pv 5) pa_nil)) (pa_cons (pe_call G_isleast (hr.mono (by decide)) rfl T.g_isleast T.F_isleast.kp (b_isleast T) .nil pass0 (pa_cons (pv 5) pa_nil)) (pa_cons (pe_callK0 G_least (hr.mono (by decide)) rfl T.g_least T.F_least.kp (kb_least_table T) pass0 (pk_cons (pv 5) pk_nil)) (pa_cons (pe_callK0 G_isleast (hr.mono (by decide)) rfl T.g_isleast T.F_isleast.kp (kb_isleast_table T) pass0 (pk_cons (pv 5) pk_nil)) pa_nil))))) pa_nil)) (pe_callB (call_reprD hgd hu4) rfl T.n_repr (by decide +kernel) (pa_cons (pe_lst (pa_cons (pv 5) (pa_cons pe_bl (pa_cons (pv 5) (pa_cons pe_bl pa_nil))))) pa_nil)) (nomark _)) (pss_one (ps_ret pe_bl)) pss_nil)
      (pss_one (ps_for PassesOwn.never rfl (pi_range1 rfl T.n_range (pa_cons (pe_cut (pe_ifExp (pt_cmpR op_eq (pv 2) pe_int (nomark _)) pe_int pe_int)) pa_nil)) (pg_name (i := 6) sc_law.nd rfl (Or.inl rfl)) (pss_cons (ps_set (i := 7) sc_law.nd rfl (Or.inl rfl) (pe_call G_written (hr.mono (by decide)) rfl T.g_written T.F_written.kp (b_written T) .nil pass0 (pa_cons (pv 1) (pa_cons (pv 5) (pa_cons (pe_call G_pick (hr.mono (by decide)) rfl T.g_pick T.F_pick.kp (b_pick T) .nil pass0 (pa_cons (pv 1) (pa_cons (pe_lst (pa_cons pe_int (pa_cons pe_int (pa_cons pe_int (pa_cons pe_int (pa_cons (pe_cut (pe_ifExp (PW.pt (pw_and (pt_cmpR op_gt (pv 2) pe_int (nomark _)) (pw_and1 (pt_cmpR op_eq (pv 6) pe_int (nomark _))))) pe_int pe_int)) pa_nil)))))) pa_nil))) pa_nil)))))
      (pss_cons (ps_set (i := 8) sc_law.nd rfl (Or.inl rfl) (pe_callB (call_reprD hgd hu4) rfl T.n_repr (by decide +kernel) (pa_cons (pe_lst (pa_cons (pv 5) (pa_cons (pe_cmpR (op_eqD hu4) (pv 7) (pv 5) (nomark _)) pa_nil))) pa_nil)))
      (pss_cons (ps_if (PW.pt (pw_or (pt_cmpR op_ne (pe_callB (call_reprD hgd hu4) rfl T.n_repr (by decide +kernel) (pa_cons (pe_lst (pa_cons (pe_call G_least (hr.mono (by decide)) rfl T.g_least T.F_least.kp (b_least T) .nil pass0 (pa_cons (pv 7) pa_nil)) (pa_cons (pe_call G_isleast (hr.mono (by decide)) rfl T.g_isleast T.F_isleast.kp (b_isleast T) .nil pass0 (pa_cons (pv 7) pa_nil)) pa_nil))) pa_nil)) (pv 8) (nomark _)) (pw_or1 (pt_cmpR op_ne (pe_callB (call_reprD hgd hu4) rfl T.n_repr (by decide +kernel) (pa_cons (pe_lst (pa_cons (pe_callK0 G_least (hr.mono (by decide)) rfl T.g_least T.F_least.kp (kb_least_table T) pass0 (pk_cons (pv 7) pk_nil)) (pa_cons (pe_callK0 G_isleast (hr.mono (by decide)) rfl T.g_isleast T.F_isleast.kp (kb_isleast_table T) pass0 (pk_cons (pv 7) pk_nil)) pa_nil))) pa_nil)) (pv 8) (nomark _))))) (pss_one (ps_ret pe_bl)) pss_nil)
      (pss_cons (ps_set (i := 9) sc_law.nd rfl (Or.inl rfl) (pe_call G_spoilt (hr.mono (by decide)) rfl T.g_spoilt T.F_spoilt.kp (b_spoilt T) .nil pass0 (pa_cons (pv 1) (pa_cons (pv 7) pa_nil))))
      (pss_cons (ps_set (i := 8) sc_law.nd rfl (Or.inl rfl) (pe_callB (call_reprD hgd hu4) rfl T.n_repr (by decide +kernel) (pa_cons (pe_lst (pa_cons (pe_call G_lleast (hr.mono (by decide)) rfl T.g_lleast T.F_lleast.kp (b_lleast T) .nil pass0 (pa_cons (pv 9) pa_nil)) (pa_cons (pe_cmpR (op_eqD hu4) (pe_call G_lleast (hr.mono (by decide)) rfl T.g_lleast T.F_lleast.kp (b_lleast T) .nil pass0 (pa_cons (pv 9) pa_nil)) (pv 9) (nomark _)) pa_nil))) pa_nil)))
      (pss_one (ps_if (PW.pt (pw_or (pt_cmpR op_ne (pe_callB (call_reprD hgd hu4) rfl T.n_repr (by decide +kernel) (pa_cons (pe_lst (pa_cons (pe_call G_least (hr.mono (by decide)) rfl T.g_least T.F_least.kp (b_least T) .nil pass0 (pa_cons (pv 9) pa_nil)) (pa_cons (pe_call G_isleast (hr.mono (by decide)) rfl T.g_isleast T.F_isleast.kp (b_isleast T) .nil pass0 (pa_cons (pv 9) pa_nil)) pa_nil))) pa_nil)) (pv 8) (nomark _)) (pw_or1 (pt_cmpR op_ne (pe_callB (call_reprD hgd hu4) rfl T.n_repr (by decide +kernel) (pa_cons (pe_lst (pa_cons (pe_call G_least (hr.mono (by decide)) rfl T.g_least T.F_least.kp (b_least T) .nil pass0 (pa_cons (pv 7) pa_nil)) (pa_cons (pe_call G_isleast (hr.mono (by decide)) rfl T.g_isleast T.F_isleast.kp (b_isleast T) .nil pass0 (pa_cons (pv 5) pa_nil)) pa_nil))) pa_nil)) (pe_callB (call_reprD hgd hu4) rfl T.n_repr (by decide +kernel) (pa_cons (pe_lst (pa_cons (pv 5) (pa_cons pe_bl pa_nil))) pa_nil)) (nomark _))))) (pss_one (ps_ret pe_bl)) pss_nil)))))))))))))
      (pss_cons (ps_set (i := 10) sc_law.nd rfl (Or.inl rfl) (pe_lst (pa_cons (pe_tup (pa_cons pe_str (pa_cons pe_str pa_nil))) (pa_cons (pe_tup (pa_cons pe_str (pa_cons pe_str pa_nil))) (pa_cons (pe_tup (pa_cons pe_str (pa_cons pe_str pa_nil))) (pa_cons (pe_tup (pa_cons pe_str (pa_cons pe_str pa_nil))) (pa_cons (pe_tup (pa_cons pe_str (pa_cons pe_str pa_nil))) (pa_cons (pe_tup (pa_cons pe_str (pa_cons pe_str pa_nil))) (pa_cons (pe_tup (pa_cons pe_str (pa_cons pe_str pa_nil))) (pa_cons (pe_tup (pa_cons pe_str (pa_cons pe_str pa_nil))) pa_nil))))))))))
      (pss_cons (ps_set (i := 11) sc_law.nd rfl (Or.inl rfl) (pe_lst (pa_cons (pe_tup (pa_cons pe_str (pa_cons pe_str pa_nil))) (pa_cons (pe_tup (pa_cons pe_str (pa_cons pe_str pa_nil))) (pa_cons (pe_tup (pa_cons pe_str (pa_cons pe_str pa_nil))) (pa_cons (pe_tup (pa_cons pe_str (pa_cons pe_str pa_nil))) (pa_cons (pe_tup (pa_cons pe_str (pa_cons pe_str pa_nil))) (pa_cons (pe_tup (pa_cons pe_str (pa_cons pe_str pa_nil))) (pa_cons (pe_tup (pa_cons pe_str (pa_cons pe_str pa_nil))) (pa_cons (pe_tup (pa_cons pe_str (pa_cons pe_str pa_nil))) pa_nil))))))))))
      (pss_one (ps_ret (pe_cmpR op_eq (pe_callB (call_reprD hgd hu4) rfl T.n_repr (by decide +kernel) (pa_cons (pe_lc (own := [("_law_own", 12)]) rfl sc_law.nd (pi_list (pv 10)) (blkOk_by (N := nm_law) (sc := defScope s_law) (by decide +kernel)) (fun _ _ _ _ _ => pg_name (i := 12) sc_law.nd rfl (Or.inl rfl)) (fun _ _ _ _ _ => pts_nil) (fun _ _ _ _ _ => (pe_call G_least (hr.mono (by decide)) rfl T.g_least T.F_least.kp (b_least T) .nil pass0 (pa_cons (pv 12) pa_nil)))) pa_nil)) (pe_callB (call_reprD hgd hu4) rfl T.n_repr (by decide +kernel) (pa_cons (pv 11) pa_nil)) (nomark _)))))))), ?_⟩
    walk_at "go"
    refine ⟨a, ns, rfl, hS, hl, fun w g H1 s1 W1 => ?_⟩
    walk_at "go"
    refine for_range (lo := 0) (n := 9) (fun i σ H2 => ∃ y2 y3 y4 y5 y6 y7 y8 y9 y10 y11 y12 : Option V, σ = [some (.ref a), some (.ref w), y2, y3, y4, y5, y6, y7, y8, y9, y10, y11, y12] ∧ WellAt w g H2)
      ⟨_, _, _, _, _, _, _, _, _, _, _, rfl, W1⟩ (fun i σ H2 hi px => ?_) (fun σ H2 px => ?_)
    · obtain ⟨y2, y3, y4, y5, y6, y7, y8, y9, y10, y11, y12, rfl, W2⟩ := px
      walk_at "go"
      refine ⟨w, g, _, rfl, W2, fun p1 H3 x y s3 W3 ap1 x0 x5 y0 y5' => ?_⟩
      walk_at "go"
      refine ⟨w, g, x, y, rfl, W3, x0, x5, y0, y5', fun p H4 h u s4 W4 pr tx => ?_⟩
      have per := pr.per
      have beg := pr.beg
      have yes : decide (rng (sg h u) 0 h.length = h ∧ rng (sg h u) h.length u.length = u) = true := decide_eq_true ⟨Prim.head, Prim.turn⟩
      walk_at "go"
      refine ⟨p, h, u, _, _, rfl, tx, per, beg, fun pa H5 s5 ta => ?_⟩
      rw [Prim.head, Prim.turn] at ta
      have tx5 := tx.same s5
      walk_at "go"
      refine ⟨p, h, u, _, _, rfl, tx5, per, beg, fun H6 s6 => ?_⟩
      rw [yes]
      have tx6 := tx5.same s6
      have ta6 := ta.same s6
      walk_at "go"
      refine ⟨p, h, u, _, _, rfl, tx6, per, beg, fun pb H7 s7 tb => ?_⟩
      rw [Prim.head, Prim.turn] at tb
      have tx7 := tx6.same s7
      have ta7 := ta6.same s7
      walk_at "go"
      refine ⟨p, h, u, _, _, rfl, tx7, per, beg, fun H8 s8 => ?_⟩
      rw [yes]
      have tx8 := tx7.same s8
      have ta8 := ta7.same s8
      have tb8 := tb.same s8
      have W8 := (((W4.same s5).same s6).same s7).same s8
      walk_at "go"
      intro l1 nl1
      generalize hU1 : upd H8 l1 _ = H9
      obtain ⟨s9, W9, al1⟩ := new_of W8 nl1 hU1
      refine repr_tb2 al1.at_ (ta8.same s9) (tb8.same s9) ?_
      walk_at "go"
      intro l2 nl2
      generalize hU2 : upd H9 l2 _ = H10
      obtain ⟨s10, W10, al2⟩ := new_of W9 nl2 hU2
      have tx10 := (tx8.same s9).same s10
      refine repr_tb2 al2.at_ tx10 tx10 ?_
      walk_at "go"
      refine ifDn (fun c => absurd rfl c) (fun _ => ?_)
      refine ⟨fun v H' => ∃ n : Int, v = .int n ∧ 1 ≤ n ∧ n ≤ 5 ∧ H' = H10, ?_, ?_⟩
      · walk_at "go"
        refine ifD (fun _ => ?_) (fun _ => ?_)
        · exact ⟨_, rfl, by decide, by decide, rfl⟩
        · exact ⟨_, rfl, by decide, by decide, rfl⟩
      · rintro v H11 ⟨n, rfl, n1, n5, rfl⟩
        walk_at "go"
        refine for_range (lo := 0) (n := n.toNat) (fun j σ H12 => ∃ y6 y7 y8 y9 y10 y11 y12 : Option V, σ = [some (.ref a), some (.ref w), some (.int (0 + (i : Int))), some (.int x), some (.int y), some (.ref p), y6, y7, y8, y9, y10, y11, y12] ∧ WellAt w g H12 ∧ Tab H12 p h u)
          ⟨_, _, _, _, _, _, _, rfl, W10, tx10⟩ (fun j σ H12 hj px => ?_) (fun σ H12 px => ?_)
        · obtain ⟨y6, y7, y8, y9, y10, y11, y12, rfl, W12, tx12⟩ := px
          walk_at "go"
          refine ⟨fun v H' => ∃ c : Int, v = .int c ∧ 1 ≤ c ∧ c ≤ 5000 ∧ H' = H12, ?_, ?_⟩
          · walk_at "go"
            refine ifD (fun _ => ?_) (fun _ => ?_)
            · walk_at "go"
              refine ifD (fun _ => ?_) (fun _ => ?_)
              · exact ⟨_, rfl, by decide, by decide, rfl⟩
              · exact ⟨_, rfl, by decide, by decide, rfl⟩
            · refine ifF ?_
              exact ⟨_, rfl, by decide, by decide, rfl⟩
          · rintro v H13 ⟨c, rfl, c1, c5, rfl⟩
            walk_at "go"
            intro q1 nq1
            generalize hU3 : upd H13 q1 _ = H14
            obtain ⟨s14, W14, aq1⟩ := new_of W12 nq1 hU3
            refine ⟨w, g, q1, _, rfl, W14, aq1, by simp, by simp, fun mv H15 mm s15 W15 => ?_⟩
            obtain ⟨more, hmore, rfl⟩ := mem_ints (ns := [1, 4, 40, 40, c]) rfl mm
            have more1 : 1 ≤ more ∧ more ≤ 5000 := by
              simp at hmore
              omega
            have tx15 := (tx12.same s14).go W14 s15
            refine ⟨w, g, p, h, u, more, rfl, W15, tx15, more1.1, more1.2, fun py H16 L k s16 W16 k1 ty => ?_⟩
            have tx16 := tx15.go W15 s16
            have hM : h.length ≤ h.length + L := Nat.le_add_right _ _
            have pery := wr_per per hM k1
            have begy := wr_beg pr hM k1
            have esg := wr_sg (k := k) pr.pos hM k1
            generalize rng (sg h u) 0 (h.length + L) = hy at ty begy esg
            generalize rep k (rng (sg h u) (h.length + L) u.length) = ly at ty begy esg pery
            have ye : decide (rng (sg hy ly) 0 h.length = hy ∧ rng (sg hy ly) h.length u.length = ly) = decide (hy = h ∧ ly = u) := by
              rw [esg, Prim.head, Prim.turn]
              exact decide_eq_decide.mpr ⟨fun z => ⟨z.1.symm, z.2.symm⟩, fun z => ⟨z.1.symm, z.2.symm⟩⟩
            generalize hb : decide (hy = h ∧ ly = u) = b at ye
            walk_at "go"
            refine ⟨_, _, dp_tab ty.1, dp_tab tx16.1, shaped_tab _ _, shaped_tab _ _, ?_⟩
            rw [eqv_tab, hb]
            walk_at "go"
            intro q2 nq2
            generalize hU4 : upd H16 q2 _ = H17
            obtain ⟨s17, W17, aq2⟩ := new_of W16 nq2 hU4
            have tx17 := tx16.same s17
            have ty17 := ty.same s17
            refine repr_tb aq2.at_ tx17 ?_
            walk_at "go"
            refine ⟨py, hy, ly, _, _, rfl, ty17, pery, begy, fun pc H18 s18 tc => ?_⟩
            rw [esg, Prim.head, Prim.turn] at tc
            have ty18 := ty17.same s18
            walk_at "go"
            refine ⟨py, hy, ly, _, _, rfl, ty18, pery, begy, fun H19 s19 => ?_⟩
            rw [ye]
            have tc19 := tc.same s19
            have ty19 := ty18.same s19
            have W19 := (W17.same s18).same s19
            walk_at "go"
            intro q3 nq3
            generalize hU5 : upd H19 q3 _ = H20
            obtain ⟨s20, W20, aq3⟩ := new_of W19 nq3 hU5
            have ty20 := ty19.same s20
            refine repr_tb aq3.at_ (tc19.same s20) ?_
            walk_at "go"
            refine ifDn (fun c => absurd rfl c) (fun _ => ?_)
            walk_at "go"
            refine ⟨py, hy, ly, _, _, rfl, ty20, pery, begy, fun pd H21 s21 td => ?_⟩
            rw [esg, Prim.head, Prim.turn] at td
            have ty21 := ty20.same s21
            walk_at "go"
            refine ⟨py, hy, ly, _, _, rfl, ty21, pery, begy, fun H22 s22 => ?_⟩
            rw [ye]
            have td22 := td.same s22
            have ty22 := ty21.same s22
            have W22 := (W20.same s21).same s22
            walk_at "go"
            intro q4 nq4
            generalize hU6 : upd H22 q4 _ = H23
            obtain ⟨s23, W23, aq4⟩ := new_of W22 nq4 hU6
            have ty23 := ty22.same s23
            have tx23 := ((((((tx17.same s18).same s19).same s20).same s21).same s22).same s23)
            refine repr_tb aq4.at_ (td22.same s23) ?_
            walk_at "go"
            refine ifDn (fun c => absurd rfl c) (fun _ => ?_)
            walk_at "go"
            refine ⟨w, g, py, hy, ly, rfl, W23, ty23, fun pz H24 hz lz s24 W24 tz => ?_⟩
            have tx24 := tx23.go W23 s24
            have ty24 := ty23.go W23 s24
            obtain ⟨sz, perz⟩ := per_exists tz.2.2.1
            obtain ⟨mz, begz⟩ := beg_exists (h := hz) (t := lz) (s := sz)
            walk_at "go"
            refine ⟨pz, hz, lz, sz, mz, rfl, tz, perz, begz, fun pe H25 s25 te => ?_⟩
            have tz25 := tz.same s25
            walk_at "go"
            refine ⟨pz, hz, lz, sz, mz, rfl, tz25, perz, begz, fun pf H26 s26 tf => ?_⟩
            have tz26 := tz25.same s26
            walk_at "go"
            refine ⟨_, _, dp_tab tf.1, dp_tab tz26.1, shaped_tab _ _, shaped_tab _ _, ?_⟩
            rw [eqv_tab]
            generalize hcz : decide (rng (sg hz lz) 0 mz = hz ∧ rng (sg hz lz) mz sz = lz) = cz
            have W26 := (W24.same s25).same s26
            walk_at "go"
            intro q5 nq5
            generalize hU7 : upd H26 q5 _ = H27
            obtain ⟨s27, W27, aq5⟩ := new_of W26 nq5 hU7
            have tz27 := tz26.same s27
            refine repr_tb aq5.at_ ((te.same s26).same s27) ?_
            walk_at "go"
            refine ⟨pz, hz, lz, sz, mz, rfl, tz27, perz, begz, fun pg H28 s28 tg => ?_⟩
            have tz28 := tz27.same s28
            walk_at "go"
            refine ⟨pz, hz, lz, sz, mz, rfl, tz28, perz, begz, fun H29 s29 => ?_⟩
            rw [hcz]
            have tg29 := tg.same s29
            have W29 := (W27.same s28).same s29
            walk_at "go"
            intro q6 nq6
            generalize hU8 : upd H29 q6 _ = H30
            obtain ⟨s30, W30, aq6⟩ := new_of W29 nq6 hU8
            refine repr_tb aq6.at_ (tg29.same s30) ?_
            have go30 : Same H24 H30 := fun b o e => s30 _ _ (s29 _ _ (s28 _ _ (s27 _ _ (s26 _ _ (s25 _ _ e)))))
            have tx30 := tx24.same go30
            have ty30 := ty24.same go30
            walk_at "go"
            refine ifDn (fun c => absurd rfl c) (fun _ => ?_)
            walk_at "go"
            refine ⟨py, hy, ly, _, _, rfl, ty30, pery, begy, fun ph H31 s31 th => ?_⟩
            rw [esg, Prim.head, Prim.turn] at th
            have tx31 := tx30.same s31
            walk_at "go"
            refine ⟨p, h, u, _, _, rfl, tx31, per, beg, fun H32 s32 => ?_⟩
            rw [yes]
            have tx32 := tx31.same s32
            have th32 := th.same s32
            have W32 := (W30.same s31).same s32
            walk_at "go"
            intro q7 nq7
            generalize hU9 : upd H32 q7 _ = H33
            obtain ⟨s33, W33, aq7⟩ := new_of W32 nq7 hU9
            refine repr_tb aq7.at_ (th32.same s33) ?_
            walk_at "go"
            intro q8 nq8
            generalize hU10 : upd H33 q8 _ = H34
            obtain ⟨s34, W34, aq8⟩ := new_of W33 nq8 hU10
            have tx34 := (tx32.same s33).same s34
            refine repr_tb aq8.at_ tx34 ?_
            walk_at "go"
            refine ifDn (fun c => absurd rfl c) (fun _ => ?_)
            exact ⟨_, _, _, _, _, _, _, rfl, W34, tx34⟩
        · obtain ⟨y6, y7, y8, y9, y10, y11, y12, rfl, W12, tx12⟩ := px
          exact ⟨_, _, _, _, _, _, _, _, _, _, _, rfl, W12⟩
    · obtain ⟨y2, y3, y4, y5, y6, y7, y8, y9, y10, y11, y12, rfl, W2⟩ := px
      simp only [B_0, B_1, B_nil, L_01, L_00, L_0000, L_0101, L_0110, L_10, L_1001, L_11]
      walk_at "go"
      intro p0 np0
      generalize hvp0 : upd H2 p0 _ = H3
      obtain ⟨s3, ap0⟩ := new_of0 np0 hvp0
      walk_at "go"
      intro p1 np1
      generalize hvp1 : upd H3 p1 _ = H4
      obtain ⟨s4, ap1⟩ := new_of0 np1 hvp1
      replace ap0 := s4 _ _ ap0
      walk_at "go"
      intro p2 np2
      generalize hvp2 : upd H4 p2 _ = H5
      obtain ⟨s5, ap2⟩ := new_of0 np2 hvp2
      replace ap0 := s5 _ _ ap0
      replace ap1 := s5 _ _ ap1
      walk_at "go"
      intro p3 np3
      generalize hvp3 : upd H5 p3 _ = H6
      obtain ⟨s6, ap3⟩ := new_of0 np3 hvp3
      replace ap0 := s6 _ _ ap0
      replace ap1 := s6 _ _ ap1
      replace ap2 := s6 _ _ ap2
      walk_at "go"
      intro p4 np4
      generalize hvp4 : upd H6 p4 _ = H7
      obtain ⟨s7, ap4⟩ := new_of0 np4 hvp4
      replace ap0 := s7 _ _ ap0
      replace ap1 := s7 _ _ ap1
      replace ap2 := s7 _ _ ap2
      replace ap3 := s7 _ _ ap3
      walk_at "go"
      intro p5 np5
      generalize hvp5 : upd H7 p5 _ = H8
      obtain ⟨s8, ap5⟩ := new_of0 np5 hvp5
      replace ap0 := s8 _ _ ap0
      replace ap1 := s8 _ _ ap1
      replace ap2 := s8 _ _ ap2
      replace ap3 := s8 _ _ ap3
      replace ap4 := s8 _ _ ap4
      walk_at "go"
      intro p6 np6
      generalize hvp6 : upd H8 p6 _ = H9
      obtain ⟨s9, ap6⟩ := new_of0 np6 hvp6
      replace ap0 := s9 _ _ ap0
      replace ap1 := s9 _ _ ap1
      replace ap2 := s9 _ _ ap2
      replace ap3 := s9 _ _ ap3
      replace ap4 := s9 _ _ ap4
      replace ap5 := s9 _ _ ap5
      walk_at "go"
      intro p7 np7
      generalize hvp7 : upd H9 p7 _ = H10
      obtain ⟨s10, ap7⟩ := new_of0 np7 hvp7
      replace ap0 := s10 _ _ ap0
      replace ap1 := s10 _ _ ap1
      replace ap2 := s10 _ _ ap2
      replace ap3 := s10 _ _ ap3
      replace ap4 := s10 _ _ ap4
      replace ap5 := s10 _ _ ap5
      replace ap6 := s10 _ _ ap6
      walk_at "go"
      intro lk nlk
      generalize hvlk : upd H10 lk _ = H11
      obtain ⟨s11, alk⟩ := new_of0 nlk hvlk
      replace ap0 := s11 _ _ ap0
      replace ap1 := s11 _ _ ap1
      replace ap2 := s11 _ _ ap2
      replace ap3 := s11 _ _ ap3
      replace ap4 := s11 _ _ ap4
      replace ap5 := s11 _ _ ap5
      replace ap6 := s11 _ _ ap6
      replace ap7 := s11 _ _ ap7
      walk_at "go"
      intro r0 nr0
      generalize hvr0 : upd H11 r0 _ = H12
      obtain ⟨s12, ar0⟩ := new_of0 nr0 hvr0
      replace ap0 := s12 _ _ ap0
      replace ap1 := s12 _ _ ap1
      replace ap2 := s12 _ _ ap2
      replace ap3 := s12 _ _ ap3
      replace ap4 := s12 _ _ ap4
      replace ap5 := s12 _ _ ap5
      replace ap6 := s12 _ _ ap6
      replace ap7 := s12 _ _ ap7
      replace alk := s12 _ _ alk
      walk_at "go"
      intro r1 nr1
      generalize hvr1 : upd H12 r1 _ = H13
      obtain ⟨s13, ar1⟩ := new_of0 nr1 hvr1
      replace ap0 := s13 _ _ ap0
      replace ap1 := s13 _ _ ap1
      replace ap2 := s13 _ _ ap2
      replace ap3 := s13 _ _ ap3
      replace ap4 := s13 _ _ ap4
      replace ap5 := s13 _ _ ap5
      replace ap6 := s13 _ _ ap6
      replace ap7 := s13 _ _ ap7
      replace alk := s13 _ _ alk
      replace ar0 := s13 _ _ ar0
      walk_at "go"
      intro r2 nr2
      generalize hvr2 : upd H13 r2 _ = H14
      obtain ⟨s14, ar2⟩ := new_of0 nr2 hvr2
      replace ap0 := s14 _ _ ap0
      replace ap1 := s14 _ _ ap1
      replace ap2 := s14 _ _ ap2
      replace ap3 := s14 _ _ ap3
      replace ap4 := s14 _ _ ap4
      replace ap5 := s14 _ _ ap5
      replace ap6 := s14 _ _ ap6
      replace ap7 := s14 _ _ ap7
      replace alk := s14 _ _ alk
      replace ar0 := s14 _ _ ar0
      replace ar1 := s14 _ _ ar1
      walk_at "go"
      intro r3 nr3
      generalize hvr3 : upd H14 r3 _ = H15
      obtain ⟨s15, ar3⟩ := new_of0 nr3 hvr3
      replace ap0 := s15 _ _ ap0
      replace ap1 := s15 _ _ ap1
      replace ap2 := s15 _ _ ap2
      replace ap3 := s15 _ _ ap3
      replace ap4 := s15 _ _ ap4
      replace ap5 := s15 _ _ ap5
      replace ap6 := s15 _ _ ap6
      replace ap7 := s15 _ _ ap7
      replace alk := s15 _ _ alk
      replace ar0 := s15 _ _ ar0
      replace ar1 := s15 _ _ ar1
      replace ar2 := s15 _ _ ar2
      walk_at "go"
      intro r4 nr4
      generalize hvr4 : upd H15 r4 _ = H16
      obtain ⟨s16, ar4⟩ := new_of0 nr4 hvr4
      replace ap0 := s16 _ _ ap0
      replace ap1 := s16 _ _ ap1
      replace ap2 := s16 _ _ ap2
      replace ap3 := s16 _ _ ap3
      replace ap4 := s16 _ _ ap4
      replace ap5 := s16 _ _ ap5
      replace ap6 := s16 _ _ ap6
      replace ap7 := s16 _ _ ap7
      replace alk := s16 _ _ alk
      replace ar0 := s16 _ _ ar0
      replace ar1 := s16 _ _ ar1
      replace ar2 := s16 _ _ ar2
      replace ar3 := s16 _ _ ar3
      walk_at "go"
      intro r5 nr5
      generalize hvr5 : upd H16 r5 _ = H17
      obtain ⟨s17, ar5⟩ := new_of0 nr5 hvr5
      replace ap0 := s17 _ _ ap0
      replace ap1 := s17 _ _ ap1
      replace ap2 := s17 _ _ ap2
      replace ap3 := s17 _ _ ap3
      replace ap4 := s17 _ _ ap4
      replace ap5 := s17 _ _ ap5
      replace ap6 := s17 _ _ ap6
      replace ap7 := s17 _ _ ap7
      replace alk := s17 _ _ alk
      replace ar0 := s17 _ _ ar0
      replace ar1 := s17 _ _ ar1
      replace ar2 := s17 _ _ ar2
      replace ar3 := s17 _ _ ar3
      replace ar4 := s17 _ _ ar4
      walk_at "go"
      intro r6 nr6
      generalize hvr6 : upd H17 r6 _ = H18
      obtain ⟨s18, ar6⟩ := new_of0 nr6 hvr6
      replace ap0 := s18 _ _ ap0
      replace ap1 := s18 _ _ ap1
      replace ap2 := s18 _ _ ap2
      replace ap3 := s18 _ _ ap3
      replace ap4 := s18 _ _ ap4
      replace ap5 := s18 _ _ ap5
      replace ap6 := s18 _ _ ap6
      replace ap7 := s18 _ _ ap7
      replace alk := s18 _ _ alk
      replace ar0 := s18 _ _ ar0
      replace ar1 := s18 _ _ ar1
      replace ar2 := s18 _ _ ar2
      replace ar3 := s18 _ _ ar3
      replace ar4 := s18 _ _ ar4
      replace ar5 := s18 _ _ ar5
      walk_at "go"
      intro r7 nr7
      generalize hvr7 : upd H18 r7 _ = H19
      obtain ⟨s19, ar7⟩ := new_of0 nr7 hvr7
      replace ap0 := s19 _ _ ap0
      replace ap1 := s19 _ _ ap1
      replace ap2 := s19 _ _ ap2
      replace ap3 := s19 _ _ ap3
      replace ap4 := s19 _ _ ap4
      replace ap5 := s19 _ _ ap5
      replace ap6 := s19 _ _ ap6
      replace ap7 := s19 _ _ ap7
      replace alk := s19 _ _ alk
      replace ar0 := s19 _ _ ar0
      replace ar1 := s19 _ _ ar1
      replace ar2 := s19 _ _ ar2
      replace ar3 := s19 _ _ ar3
      replace ar4 := s19 _ _ ar4
      replace ar5 := s19 _ _ ar5
      replace ar6 := s19 _ _ ar6
      walk_at "go"
      intro lt nlt
      generalize hvlt : upd H19 lt _ = H20
      obtain ⟨s20, alt⟩ := new_of0 nlt hvlt
      replace ap0 := s20 _ _ ap0
      replace ap1 := s20 _ _ ap1
      replace ap2 := s20 _ _ ap2
      replace ap3 := s20 _ _ ap3
      replace ap4 := s20 _ _ ap4
      replace ap5 := s20 _ _ ap5
      replace ap6 := s20 _ _ ap6
      replace ap7 := s20 _ _ ap7
      replace alk := s20 _ _ alk
      replace ar0 := s20 _ _ ar0
      replace ar1 := s20 _ _ ar1
      replace ar2 := s20 _ _ ar2
      replace ar3 := s20 _ _ ar3
      replace ar4 := s20 _ _ ar4
      replace ar5 := s20 _ _ ar5
      replace ar6 := s20 _ _ ar6
      replace ar7 := s20 _ _ ar7
      walk_at "go"
      refine ⟨⟨_, sqL_of alk⟩, fun D nD => ?_⟩
      have hkn : ∀ (i : Nat) (x : V), [V.ref p0, V.ref p1, V.ref p2, V.ref p3, V.ref p4, V.ref p5, V.ref p6, V.ref p7][i]? = some x → ∃ (p : Addr) (a : List Bool × List Bool), x = .ref p ∧ kn[i]? = some a ∧ Tab H20 p a.1 a.2 := fun i x hx => by
        have hi : i < 8 := (List.getElem?_eq_some_iff.mp hx).1
        rcases i with _ | _ | _ | _ | _ | _ | _ | _ | i
        · obtain rfl := Option.some.inj hx
          exact ⟨_, _, rfl, rfl, ap0, by decide, by decide, by decide⟩
        · obtain rfl := Option.some.inj hx
          exact ⟨_, _, rfl, rfl, ap1, by decide, by decide, by decide⟩
        · obtain rfl := Option.some.inj hx
          exact ⟨_, _, rfl, rfl, ap2, by decide, by decide, by decide⟩
        · obtain rfl := Option.some.inj hx
          exact ⟨_, _, rfl, rfl, ap3, by decide, by decide, by decide⟩
        · obtain rfl := Option.some.inj hx
          exact ⟨_, _, rfl, rfl, ap4, by decide, by decide, by decide⟩
        · obtain rfl := Option.some.inj hx
          exact ⟨_, _, rfl, rfl, ap5, by decide, by decide, by decide⟩
        · obtain rfl := Option.some.inj hx
          exact ⟨_, _, rfl, rfl, ap6, by decide, by decide, by decide⟩
        · obtain rfl := Option.some.inj hx
          exact ⟨_, _, rfl, rfl, ap7, by decide, by decide, by decide⟩
        · omega
      refine lc_list (xs := [V.ref p0, V.ref p1, V.ref p2, V.ref p3, V.ref p4, V.ref p5, V.ref p6, V.ref p7]) (fun i H' => ∃ qs : List Addr, H' D = some (.lst (qs.map V.ref)) ∧ qs.length = i ∧ Same H20 H' ∧ ∀ (j : Nat) (q : Addr), qs[j]? = some q → ∃ b, td[j]? = some b ∧ H' q = some (.tup [.str (B b.1), .str (B b.2)])) ⟨[], upd_same, rfl, same_new nD, fun j q h => by cases h⟩
        (fun i H' _ px => sqL_of (px.choose_spec.2.2.1 _ _ alk)) (fun i x H' hx px => ?_) (fun H' px => ?_)
      · obtain ⟨qs, hD, hql, S, hq⟩ := px
        obtain ⟨p, a, rfl, ha, tp⟩ := hkn i x hx
        obtain ⟨s, m, b, hb, per, beg, e1, e2⟩ := kn_ok i a ha
        have hi : i < 8 := (List.getElem?_eq_some_iff.mp ha).1
        refine ⟨rfl, ?_⟩
        walk_at "go"
        refine ⟨p, a.1, a.2, s, m, rfl, tp.same S, per, beg, fun r H3' s3' tr => ?_⟩
        rw [e1, e2] at tr
        have hD3 := s3' _ _ hD
        have off : ∀ (q : Addr) (xs : List V), H3' q = some (.tup xs) → q ≠ D := fun q xs e z => by
          rw [z, hD3] at e
          cases e
        refine ⟨qs.map V.ref, hD3, szl (by rw [List.length_map]; omega), qs ++ [r], by rw [upd_same, List.map_append]; rfl, by rw [List.length_append]; simp; omega, same_mut (S.trans s3') nD, fun j q hj => ?_⟩
        by_cases hjl : j < qs.length
        · rw [List.getElem?_append_left hjl] at hj
          obtain ⟨b', hb', e'⟩ := hq j q hj
          have e3 := s3' _ _ e'
          exact ⟨b', hb', by rw [upd_ne (off q _ e3)]; exact e3⟩
        · rw [List.getElem?_append_right (by omega)] at hj
          have hj0 : j - qs.length < 1 := (List.getElem?_eq_some_iff.mp hj).1
          have ej : j = i := by omega
          subst ej
          rw [show j - qs.length = 0 by omega] at hj
          obtain rfl := Option.some.inj hj
          exact ⟨b, hb, by rw [upd_ne (off r _ tr.1)]; exact tr.1⟩
      · obtain ⟨qs, hD, hql, S, hq⟩ := px
        refine repr_td qs rfl hD hql hq ?_
        walk_at "go"
        refine repr_td [r0, r1, r2, r3, r4, r5, r6, r7] rfl (S _ _ alt) rfl (fun j r hr => ?_) ?_
        · have hj : j < 8 := (List.getElem?_eq_some_iff.mp hr).1
          rcases j with _ | _ | _ | _ | _ | _ | _ | _ | j
          · obtain rfl := Option.some.inj hr
            exact ⟨_, rfl, S _ _ ar0⟩
          · obtain rfl := Option.some.inj hr
            exact ⟨_, rfl, S _ _ ar1⟩
          · obtain rfl := Option.some.inj hr
            exact ⟨_, rfl, S _ _ ar2⟩
          · obtain rfl := Option.some.inj hr
            exact ⟨_, rfl, S _ _ ar3⟩
          · obtain rfl := Option.some.inj hr
            exact ⟨_, rfl, S _ _ ar4⟩
          · obtain rfl := Option.some.inj hr
            exact ⟨_, rfl, S _ _ ar5⟩
          · obtain rfl := Option.some.inj hr
            exact ⟨_, rfl, S _ _ ar6⟩
          · obtain rfl := Option.some.inj hr
            exact ⟨_, rfl, S _ _ ar7⟩
          · omega
        walk_at "go"
        rw [decide_eq_true rfl]
        exact q _
end
theorem all_mk {l : PySem.W.OpenLaw} {w : World} {K : PySem.W.Frag} {h : Heap} {mg : Str → Option Value} {fa : Addr} (X : K.In h) (G : h.Ns mainGlobals mg) (hfa : mg "law" = some (.ref fa))
    {f_least : Addr} {od_least an_least : Option Addr} {sl_least : Array (Option Value)} {oc_least kV_least dc_least pm_least cd_least ct_least : Value}
    {f_shortest : Addr} {od_shortest an_shortest : Option Addr} {sl_shortest : Array (Option Value)} {oc_shortest kV_shortest dc_shortest pm_shortest cd_shortest ct_shortest : Value}
    {f_alike : Addr} {od_alike an_alike : Option Addr} {sl_alike : Array (Option Value)} {oc_alike kV_alike dc_alike pm_alike cd_alike ct_alike : Value}
    {f_isleast : Addr} {od_isleast an_isleast : Option Addr} {sl_isleast : Array (Option Value)} {oc_isleast kV_isleast dc_isleast pm_isleast cd_isleast ct_isleast : Value}
    {f_well : Addr} {od_well an_well : Option Addr} {sl_well : Array (Option Value)} {oc_well kV_well dc_well pm_well cd_well ct_well : Value}
    {f_draw : Addr} {od_draw an_draw : Option Addr} {sl_draw : Array (Option Value)} {oc_draw kV_draw dc_draw pm_draw cd_draw ct_draw : Value}
    {f_pick : Addr} {od_pick an_pick : Option Addr} {sl_pick : Array (Option Value)} {oc_pick kV_pick dc_pick pm_pick cd_pick ct_pick : Value}
    {f_bits : Addr} {od_bits an_bits : Option Addr} {sl_bits : Array (Option Value)} {oc_bits kV_bits dc_bits pm_bits cd_bits ct_bits : Value}
    {f_word : Addr} {od_word an_word : Option Addr} {sl_word : Array (Option Value)} {oc_word kV_word dc_word pm_word cd_word ct_word : Value}
    {f_written : Addr} {od_written an_written : Option Addr} {sl_written : Array (Option Value)} {oc_written kV_written dc_written pm_written cd_written ct_written : Value}
    {f_lleast : Addr} {od_lleast an_lleast : Option Addr} {sl_lleast : Array (Option Value)} {oc_lleast kV_lleast dc_lleast pm_lleast cd_lleast ct_lleast : Value}
    {f_base : Addr} {od_base an_base : Option Addr} {sl_base : Array (Option Value)} {oc_base kV_base dc_base pm_base cd_base ct_base : Value}
    {f_spoilt : Addr} {od_spoilt an_spoilt : Option Addr} {sl_spoilt : Array (Option Value)} {oc_spoilt kV_spoilt dc_spoilt pm_spoilt cd_spoilt ct_spoilt : Value}
    {f_size : Addr} {od_size an_size : Option Addr} {sl_size : Array (Option Value)} {oc_size kV_size dc_size pm_size cd_size ct_size : Value}
    {f_law : Addr} {od_law an_law : Option Addr} {sl_law : Array (Option Value)} {oc_law kV_law dc_law pm_law cd_law ct_law : Value}
    (a_least : PySem.W.nsIn K mainGlobals "least" = some (some (.ref f_least)))
    (l_least : K.lookup f_least = some ⟨oc_least, od_least, .func (PySem.W.fnOf "least" "least" (defArgs s_least) (defBody s_least) (defScope s_least) .none kV_least dc_least pm_least an_least cd_least ct_least), sl_least⟩)
    (c_least : PySem.W.codeIn K cd_least "least" = true) (k_least : PySem.W.keepIn K (.ref f_least) = true)
    (a_shortest : PySem.W.nsIn K mainGlobals "_shortest_turn" = some (some (.ref f_shortest)))
    (l_shortest : K.lookup f_shortest = some ⟨oc_shortest, od_shortest, .func (PySem.W.fnOf "_shortest_turn" "_shortest_turn" (defArgs s_shortest) (defBody s_shortest) (defScope s_shortest) .none kV_shortest dc_shortest pm_shortest an_shortest cd_shortest ct_shortest), sl_shortest⟩)
    (c_shortest : PySem.W.codeIn K cd_shortest "_shortest_turn" = true) (k_shortest : PySem.W.keepIn K (.ref f_shortest) = true)
    (a_alike : PySem.W.nsIn K mainGlobals "_alike_signs" = some (some (.ref f_alike)))
    (l_alike : K.lookup f_alike = some ⟨oc_alike, od_alike, .func (PySem.W.fnOf "_alike_signs" "_alike_signs" (defArgs s_alike) (defBody s_alike) (defScope s_alike) .none kV_alike dc_alike pm_alike an_alike cd_alike ct_alike), sl_alike⟩)
    (c_alike : PySem.W.codeIn K cd_alike "_alike_signs" = true) (k_alike : PySem.W.keepIn K (.ref f_alike) = true)
    (a_isleast : PySem.W.nsIn K mainGlobals "is_least" = some (some (.ref f_isleast)))
    (l_isleast : K.lookup f_isleast = some ⟨oc_isleast, od_isleast, .func (PySem.W.fnOf "is_least" "is_least" (defArgs s_isleast) (defBody s_isleast) (defScope s_isleast) .none kV_isleast dc_isleast pm_isleast an_isleast cd_isleast ct_isleast), sl_isleast⟩)
    (c_isleast : PySem.W.codeIn K cd_isleast "is_least" = true) (k_isleast : PySem.W.keepIn K (.ref f_isleast) = true)
    (a_well : PySem.W.nsIn K mainGlobals "_law_well" = some (some (.ref f_well)))
    (l_well : K.lookup f_well = some ⟨oc_well, od_well, .func (PySem.W.fnOf "_law_well" "_law_well" (defArgs s_well) (defBody s_well) (defScope s_well) .none kV_well dc_well pm_well an_well cd_well ct_well), sl_well⟩)
    (c_well : PySem.W.codeIn K cd_well "_law_well" = true) (k_well : PySem.W.keepIn K (.ref f_well) = true)
    (a_draw : PySem.W.nsIn K mainGlobals "_law_draw" = some (some (.ref f_draw)))
    (l_draw : K.lookup f_draw = some ⟨oc_draw, od_draw, .func (PySem.W.fnOf "_law_draw" "_law_draw" (defArgs s_draw) (defBody s_draw) (defScope s_draw) .none kV_draw dc_draw pm_draw an_draw cd_draw ct_draw), sl_draw⟩)
    (c_draw : PySem.W.codeIn K cd_draw "_law_draw" = true) (k_draw : PySem.W.keepIn K (.ref f_draw) = true)
    (a_pick : PySem.W.nsIn K mainGlobals "_law_pick" = some (some (.ref f_pick)))
    (l_pick : K.lookup f_pick = some ⟨oc_pick, od_pick, .func (PySem.W.fnOf "_law_pick" "_law_pick" (defArgs s_pick) (defBody s_pick) (defScope s_pick) .none kV_pick dc_pick pm_pick an_pick cd_pick ct_pick), sl_pick⟩)
    (c_pick : PySem.W.codeIn K cd_pick "_law_pick" = true) (k_pick : PySem.W.keepIn K (.ref f_pick) = true)
    (a_bits : PySem.W.nsIn K mainGlobals "_law_bits" = some (some (.ref f_bits)))
    (l_bits : K.lookup f_bits = some ⟨oc_bits, od_bits, .func (PySem.W.fnOf "_law_bits" "_law_bits" (defArgs s_bits) (defBody s_bits) (defScope s_bits) .none kV_bits dc_bits pm_bits an_bits cd_bits ct_bits), sl_bits⟩)
    (c_bits : PySem.W.codeIn K cd_bits "_law_bits" = true) (k_bits : PySem.W.keepIn K (.ref f_bits) = true)
    (a_word : PySem.W.nsIn K mainGlobals "_law_word" = some (some (.ref f_word)))
    (l_word : K.lookup f_word = some ⟨oc_word, od_word, .func (PySem.W.fnOf "_law_word" "_law_word" (defArgs s_word) (defBody s_word) (defScope s_word) .none kV_word dc_word pm_word an_word cd_word ct_word), sl_word⟩)
    (c_word : PySem.W.codeIn K cd_word "_law_word" = true) (k_word : PySem.W.keepIn K (.ref f_word) = true)
    (a_written : PySem.W.nsIn K mainGlobals "_law_written" = some (some (.ref f_written)))
    (l_written : K.lookup f_written = some ⟨oc_written, od_written, .func (PySem.W.fnOf "_law_written" "_law_written" (defArgs s_written) (defBody s_written) (defScope s_written) .none kV_written dc_written pm_written an_written cd_written ct_written), sl_written⟩)
    (c_written : PySem.W.codeIn K cd_written "_law_written" = true) (k_written : PySem.W.keepIn K (.ref f_written) = true)
    (a_lleast : PySem.W.nsIn K mainGlobals "_law_least" = some (some (.ref f_lleast)))
    (l_lleast : K.lookup f_lleast = some ⟨oc_lleast, od_lleast, .func (PySem.W.fnOf "_law_least" "_law_least" (defArgs s_lleast) (defBody s_lleast) (defScope s_lleast) .none kV_lleast dc_lleast pm_lleast an_lleast cd_lleast ct_lleast), sl_lleast⟩)
    (c_lleast : PySem.W.codeIn K cd_lleast "_law_least" = true) (k_lleast : PySem.W.keepIn K (.ref f_lleast) = true)
    (a_base : PySem.W.nsIn K mainGlobals "_law_base" = some (some (.ref f_base)))
    (l_base : K.lookup f_base = some ⟨oc_base, od_base, .func (PySem.W.fnOf "_law_base" "_law_base" (defArgs s_base) (defBody s_base) (defScope s_base) .none kV_base dc_base pm_base an_base cd_base ct_base), sl_base⟩)
    (c_base : PySem.W.codeIn K cd_base "_law_base" = true) (k_base : PySem.W.keepIn K (.ref f_base) = true)
    (a_spoilt : PySem.W.nsIn K mainGlobals "_law_spoilt" = some (some (.ref f_spoilt)))
    (l_spoilt : K.lookup f_spoilt = some ⟨oc_spoilt, od_spoilt, .func (PySem.W.fnOf "_law_spoilt" "_law_spoilt" (defArgs s_spoilt) (defBody s_spoilt) (defScope s_spoilt) .none kV_spoilt dc_spoilt pm_spoilt an_spoilt cd_spoilt ct_spoilt), sl_spoilt⟩)
    (c_spoilt : PySem.W.codeIn K cd_spoilt "_law_spoilt" = true) (k_spoilt : PySem.W.keepIn K (.ref f_spoilt) = true)
    (a_size : PySem.W.nsIn K mainGlobals "_law_size" = some (some (.ref f_size)))
    (l_size : K.lookup f_size = some ⟨oc_size, od_size, .func (PySem.W.fnOf "_law_size" "_law_size" (defArgs s_size) (defBody s_size) (defScope s_size) .none kV_size dc_size pm_size an_size cd_size ct_size), sl_size⟩)
    (c_size : PySem.W.codeIn K cd_size "_law_size" = true) (k_size : PySem.W.keepIn K (.ref f_size) = true)
    (a_law : PySem.W.nsIn K mainGlobals "law" = some (some (.ref f_law)))
    (l_law : K.lookup f_law = some ⟨oc_law, od_law, .func (PySem.W.fnOf "law" "law" (defArgs s_law) (defBody s_law) (defScope s_law) .none kV_law dc_law pm_law an_law cd_law ct_law), sl_law⟩)
    (c_law : PySem.W.codeIn K cd_law "law" = true) (k_law : PySem.W.keepIn K (.ref f_law) = true)
    (z_abs : PySem.W.nsIn K mainGlobals "abs" = some none)
    (z_int : PySem.W.nsIn K mainGlobals "int" = some none)
    (z_len : PySem.W.nsIn K mainGlobals "len" = some none)
    (z_min : PySem.W.nsIn K mainGlobals "min" = some none)
    (z_range : PySem.W.nsIn K mainGlobals "range" = some none)
    (z_repr : PySem.W.nsIn K mainGlobals "repr" = some none)
    (z_str : PySem.W.nsIn K mainGlobals "str" = some none)
    (z_sum : PySem.W.nsIn K mainGlobals "sum" = some none)
    : ∃ fd : FuncData, (∀ (s : Shared) (v : Value), BindsTo s fd ⟨[v], []⟩ [("_law_script", v)]) ∧ ∀ base : Heap, K.In base → base.Ns mainGlobals mg → FnG l.prog w K mg base 5 fa fd ["_law_script"] (spLaw K) := by
  have e := hfa.symm.trans (PySem.W.mg_of X G a_law)
  cases e
  let T : Tp K mg := {
    a_least := f_least, d_least := _, F_least := fun_mk (st := s_least) l_least c_least k_least, g_least := PySem.W.mg_of X G a_least,
    a_shortest := f_shortest, d_shortest := _, F_shortest := fun_mk (st := s_shortest) l_shortest c_shortest k_shortest, g_shortest := PySem.W.mg_of X G a_shortest,
    a_alike := f_alike, d_alike := _, F_alike := fun_mk (st := s_alike) l_alike c_alike k_alike, g_alike := PySem.W.mg_of X G a_alike,
    a_isleast := f_isleast, d_isleast := _, F_isleast := fun_mk (st := s_isleast) l_isleast c_isleast k_isleast, g_isleast := PySem.W.mg_of X G a_isleast,
    a_well := f_well, d_well := _, F_well := fun_mk (st := s_well) l_well c_well k_well, g_well := PySem.W.mg_of X G a_well,
    a_draw := f_draw, d_draw := _, F_draw := fun_mk (st := s_draw) l_draw c_draw k_draw, g_draw := PySem.W.mg_of X G a_draw,
    a_pick := f_pick, d_pick := _, F_pick := fun_mk (st := s_pick) l_pick c_pick k_pick, g_pick := PySem.W.mg_of X G a_pick,
    a_bits := f_bits, d_bits := _, F_bits := fun_mk (st := s_bits) l_bits c_bits k_bits, g_bits := PySem.W.mg_of X G a_bits,
    a_word := f_word, d_word := _, F_word := fun_mk (st := s_word) l_word c_word k_word, g_word := PySem.W.mg_of X G a_word,
    a_written := f_written, d_written := _, F_written := fun_mk (st := s_written) l_written c_written k_written, g_written := PySem.W.mg_of X G a_written,
    a_lleast := f_lleast, d_lleast := _, F_lleast := fun_mk (st := s_lleast) l_lleast c_lleast k_lleast, g_lleast := PySem.W.mg_of X G a_lleast,
    a_base := f_base, d_base := _, F_base := fun_mk (st := s_base) l_base c_base k_base, g_base := PySem.W.mg_of X G a_base,
    a_spoilt := f_spoilt, d_spoilt := _, F_spoilt := fun_mk (st := s_spoilt) l_spoilt c_spoilt k_spoilt, g_spoilt := PySem.W.mg_of X G a_spoilt,
    a_size := f_size, d_size := _, F_size := fun_mk (st := s_size) l_size c_size k_size, g_size := PySem.W.mg_of X G a_size,
    a_law := fa, d_law := _, F_law := fun_mk (st := s_law) l_law c_law k_law, g_law := PySem.W.mg_of X G a_law,
    n_abs := PySem.W.mg_none_of X G z_abs,
    n_int := PySem.W.mg_none_of X G z_int,
    n_len := PySem.W.mg_none_of X G z_len,
    n_min := PySem.W.mg_none_of X G z_min,
    n_range := PySem.W.mg_none_of X G z_range,
    n_repr := PySem.W.mg_none_of X G z_repr,
    n_str := PySem.W.mg_none_of X G z_str,
    n_sum := PySem.W.mg_none_of X G z_sum }
  exact ⟨T.d_law, fun s v => .of_eq rfl, fun base _ _ => ok_law T⟩
end G2
open PySem PySem.W PyProof.Rows
set_option maxHeartbeats 0 in
theorem PySem.Challenge.cw_leastmakers_k02_least_tables_holds : PySem.Challenge.rw_leastmakers_k02_least_tables.Holds := by
  w_on; o_law; k_head; (case hw => w_witness2)
  k_fill
  refine G1.walkG (l := PySem.Challenge.rw_leastmakers_k02_least_tables) (n := 63) (k := 5) (x := "_law_script") (sp := fun K => G2.spLaw K) rfl (by decide) rfl ⟨rfl, by decide, by decide⟩ (fun w h Y => PySem.W.kIn_of Y) ?F (fun K H a ns hl _ hS => ⟨a, ns, rfl, hS, hl, fun _ => rfl⟩)
  case F =>
    intro w mg fa h KX G hmg
    refine' G2.all_mk KX G hmg ?a_least ?l_least ?c_least ?k_least ?a_shortest ?l_shortest ?c_shortest ?k_shortest ?a_alike ?l_alike ?c_alike ?k_alike ?a_isleast ?l_isleast ?c_isleast ?k_isleast ?a_well ?l_well ?c_well ?k_well ?a_draw ?l_draw ?c_draw ?k_draw ?a_pick ?l_pick ?c_pick ?k_pick ?a_bits ?l_bits ?c_bits ?k_bits ?a_word ?l_word ?c_word ?k_word ?a_written ?l_written ?c_written ?k_written ?a_lleast ?l_lleast ?c_lleast ?k_lleast ?a_base ?l_base ?c_base ?k_base ?a_spoilt ?l_spoilt ?c_spoilt ?k_spoilt ?a_size ?l_size ?c_size ?k_size ?a_law ?l_law ?c_law ?k_law ?z_abs ?z_int ?z_len ?z_min ?z_range ?z_repr ?z_str ?z_sum
    (case a_least => k_is); (case l_least => k_is); (case c_least => k_is); (case k_least => k_is); (case a_shortest => k_is); (case l_shortest => k_is)
    (case c_shortest => k_is); (case k_shortest => k_is); (case a_alike => k_is); (case l_alike => k_is); (case c_alike => k_is); (case k_alike => k_is)
    (case a_isleast => k_is); (case l_isleast => k_is); (case c_isleast => k_is); (case k_isleast => k_is); (case a_well => k_is); (case l_well => k_is)
    (case c_well => k_is); (case k_well => k_is); (case a_draw => k_is); (case l_draw => k_is); (case c_draw => k_is); (case k_draw => k_is)
    (case a_pick => k_is); (case l_pick => k_is); (case c_pick => k_is); (case k_pick => k_is); (case a_bits => k_is); (case l_bits => k_is)
    (case c_bits => k_is); (case k_bits => k_is); (case a_word => k_is); (case l_word => k_is); (case c_word => k_is); (case k_word => k_is)
    (case a_written => k_is); (case l_written => k_is); (case c_written => k_is); (case k_written => k_is); (case a_lleast => k_is); (case l_lleast => k_is)
    (case c_lleast => k_is); (case k_lleast => k_is); (case a_base => k_is); (case l_base => k_is); (case c_base => k_is); (case k_base => k_is)
    (case a_spoilt => k_is); (case l_spoilt => k_is); (case c_spoilt => k_is); (case k_spoilt => k_is); (case a_size => k_is); (case l_size => k_is)
    (case c_size => k_is); (case k_size => k_is); (case a_law => k_is); (case l_law => k_is); (case c_law => k_is); (case k_law => k_is)
    (case z_abs => k_is); (case z_int => k_is); (case z_len => k_is); (case z_min => k_is); (case z_range => k_is); (case z_repr => k_is)
    (case z_str => k_is); (case z_sum => k_is)
